import PyProof.Rows.All
import Wide.All
import OpenK.AllK
import Wide.FinOn
import Lean
import PyProof.EqAt
import PyProof.EqKinds
import PyProof.TupleCall
import KE.KTryMore
import PyProof.NsDelKeeps
import PySem.Challenge.RW_lampway_k71_through_a_line
set_option compiler.extract_closed false
set_option Elab.async false
set_option linter.all false
set_option maxRecDepth 100000
namespace L2
open PySem PySem.Spec PyProof.Rows
noncomputable abbrev Key:=Sum Int Str
noncomputable def Uz:Key→Value→Bool
 | .inl k,v=>Value.isInt k v
 | .inr x,v=>Value.isStrOf x v
noncomputable def DM (w:World):Key→Int
 | .inl k=>hashInt k
 | .inr x=>hashStr w x
theorem Yd:∀ {k:Key} {v:Value},Uz k v=true→(∃ i t,k=Sum.inl i∧v=Value.int i t)∨(∃ x t,k=Sum.inr x∧v=Value.str x t)
 | .inl i,v,h=>by
  obtain ⟨t,e⟩:=Value.isInt_shape (k:=i) (v:=v) h;exact .inl ⟨i,t,rfl,e⟩
 | .inr x,v,h=>by
  obtain ⟨t,e⟩:=Value.isStrOf_shape (x:=x) (v:=v) h;exact .inr ⟨x,t,rfl,e⟩
theorem eC (i:Int) (t:Tok):Uz (.inl i) (.int i t)=true:=by simp [Uz,Value.isInt]
theorem EA (x:Str) (t:Tok):Uz (.inr x) (.str x t)=true:=by simp [Uz,Value.isStrOf]
theorem vJ (a b:Int):decide ((Sum.inl a:Key)=Sum.inl b)=(a == b):=by
 by_cases e:a=b
 ·subst e;simp
 ·have h:¬ (Sum.inl a:Key)=Sum.inl b:=fun q=>e (Sum.inl.inj q)
  rw [decide_eq_false h];exact (beq_eq_false_iff_ne.mpr e).symm
theorem gK (a b:Str):decide ((Sum.inr a:Key)=Sum.inr b)=decide (a=b):=by
 by_cases e:a=b
 ·subst e;simp
 ·have h:¬ (Sum.inr a:Key)=Sum.inr b:=fun q=>e (Sum.inr.inj q)
  rw [decide_eq_false h,decide_eq_false e]
theorem ZJ (a:Int) (b:Str):decide ((Sum.inl a:Key)=Sum.inr b)=false:=decide_eq_false (fun q=>nomatch q)
theorem uJ (a:Str) (b:Int):decide ((Sum.inr a:Key)=Sum.inl b)=false:=decide_eq_false (fun q=>nomatch q)
noncomputable def Ze (prog:Program) (w:World):PySem.KeyKind prog w Key where
 is:=Uz
 hash:=DM w
 inj:=fun v a b ha hb=>by
  rcases Yd ha with ⟨i,t,rfl,rfl⟩ | ⟨x,t,rfl,rfl⟩
  ·rcases Yd hb with ⟨j,u,rfl,e⟩ | ⟨y,u,rfl,e⟩
   ·injection e with e1 _;rw [e1]
   ·exact nomatch e
  ·rcases Yd hb with ⟨j,u,rfl,e⟩ | ⟨y,u,rfl,e⟩
   ·exact nomatch e
   ·injection e with e1 _;rw [e1]
 byValue:=fun k v h=>by
  rcases Yd h with ⟨i,t,rfl,rfl⟩ | ⟨x,t,rfl,rfl⟩ <;> rfl
 pyHash:=fun hv h=>by
  rcases Yd hv with ⟨i,t,rfl,rfl⟩ | ⟨x,t,rfl,rfl⟩
  ·exact wpAny_pyHash_int h
  ·exact wpAny_pyHash_str h
 eqBool:=fun hu hv h=>by
  rcases Yd hu with ⟨i,t,rfl,rfl⟩ | ⟨x,t,rfl,rfl⟩
  ·rcases Yd hv with ⟨j,u,rfl,rfl⟩ | ⟨y,u,rfl,rfl⟩
   ·rw [vJ] at h;exact wpAny_eqBool_int h
   ·rw [ZJ] at h;exact SeqAt.EqAt.int_str i t y u _ _ _ _ h
  ·rcases Yd hv with ⟨j,u,rfl,rfl⟩ | ⟨y,u,rfl,rfl⟩
   ·rw [uJ] at h;exact SeqAt.EqAt.str_int x t j u _ _ _ _ h
   ·rw [gK] at h;exact wpAny_eqBool_str h
 «strs»:=fun k x t v h=>by
  rcases Yd h with ⟨i,u,rfl,e⟩ | ⟨y,u,rfl,e⟩
  ·exact nomatch e
  ·injection e with e1 _;subst e1;cases v <;> rfl
theorem Vw (prog:Program) (w:World) (i:Int) (t:Tok):(Ze prog w).is (.inl i) (.int i t)=true:=eC i t
theorem lx (prog:Program) (w:World) (x:Str) (t:Tok):(Ze prog w).is (.inr x) (.str x t)=true:=EA x t
end L2
namespace L2
open PySem PySem.Spec PyProof.Rows
inductive V where
 | non | bl (b:Bool) | int (i:Int) | str (x:Str) | byt (b:Array UInt8) | flt (b:UInt64) | ref (a:Addr) | ty (n:String)
 deriving DecidableEq
noncomputable def zd:V→Value→Prop
 | .non,u=>u=Value.none
 | .bl b,u=>u=Value.bool b
 | .int i,u=>∃ t,u=Value.int i t
 | .str x,u=>∃ t,u=Value.str x t
 | .byt b,u=>∃ t,u=Value.bytes b t
 | .flt b,u=>∃ t,u=Value.float b t
 | .ref a,u=>u=Value.ref a
 | .ty n,u=>u=Value.type n
noncomputable abbrev ld:List V→List Value→Prop:=Paired zd
theorem ld.length {xs:List V} {us:List Value} (r:ld xs us):xs.length=us.length:=Paired.length r
theorem ld.get:∀ {xs:List V} {us:List Value} {i:Nat} {x:V},ld xs us→xs[i]? = some x→∃ u,us[i]? = some u∧zd x u
 | _,_,_,_,.nil,e=>by simp at e
 | _,_,0,_,.cons r _,e=>by simp at e;subst e;exact ⟨_,rfl,r⟩
 | _,_,i + 1,x,.cons _ t,e=>by
  obtain ⟨u,h1,h2⟩:=ld.get (i:=i) (x:=x) t (by simpa using e);exact ⟨u,by simpa using h1,h2⟩
theorem ld.set {x:V} {u:Value} (r:zd x u):∀ {xs:List V} {us:List Value} (i:Nat),ld xs us→ld (xs.set i x) (us.set i u)
 | _,_,_,.nil=>.nil
 | _,_,0,.cons _ t=>.cons r t
 | _,_,i + 1,.cons q t=>.cons q (ld.set r i t)
theorem ld.append:∀ {xs ys:List V} {us ws:List Value},ld xs us→ld ys ws→ld (xs ++ ys) (us ++ ws)
 | _,_,_,_,.nil,s=>s
 | _,_,_,_,.cons r t,s=>.cons r (ld.append t s)
theorem ld.take:∀ {xs:List V} {us:List Value} (n:Nat),ld xs us→ld (xs.take n) (us.take n)
 | _,_,0,_=>.nil
 | _,_,_ + 1,.nil=>.nil
 | _,_,n + 1,.cons r t=>.cons r (ld.take n t)
theorem ld.drop:∀ {xs:List V} {us:List Value} (n:Nat),ld xs us→ld (xs.drop n) (us.drop n)
 | _,_,0,r=>r
 | _,_,_ + 1,.nil=>.nil
 | _,_,n + 1,.cons _ t=>ld.drop n t
theorem ld.none_of:∀ {xs:List V} {us:List Value} {i:Nat},ld xs us→xs[i]? = none→us[i]? = none:=fun {xs us i} r e=>by
 have h1:=r.length;have h2:xs.length ≤ i:=List.getElem?_eq_none_iff.mp e;exact List.getElem?_eq_none_iff.mpr (by omega)
noncomputable def ou:Option V→Option Value→Prop
 | some v,some u=>zd v u
 | none,none=>True
 | _,_=>False
noncomputable def KV {κ:Type}:List (κ × V)→List (κ × Value)→Prop:=Paired fun (p:κ × V) (q:κ × Value)=>p.1=q.1∧zd p.2 q.2
noncomputable def kV:Key→V
 | .inl i=>.int i
 | .inr x=>.str x
inductive HO where
  | lst (xs:List V)
  | tup (xs:List V)
  | dK (kvs:List (Key × V)) | dT (kvs:List (List Key × V))
  | set (S:Int→Bool) (n:Nat)
  | ins (C dx:Addr) (fs:List (Str × V))
  | own (x:Addr)
  | xd (fs:List (Str × V))
  | met (f x:Addr)
  | rng (lo hi:Int)
  | frz (o:Obj) (u:HO)
  | tbl (ps:Array Value)
  | ext (φ:Heap→Prop)
noncomputable abbrev Hp:=Addr→Option HO
noncomputable def upd (H:Hp) (a:Addr) (o:HO):Hp:=fun b=>if b=a then some o else H b
theorem db {H:Hp} {a:Addr} {o:HO}:upd H a o a=some o:=by unfold upd;rw [if_pos rfl]
theorem qb {H:Hp} {a b:Addr} {o:HO} (h:b ≠ a):upd H a o b=H b:=by unfold upd;rw [if_neg h]
theorem Iq {H:Hp} {a:Addr} {o u:HO}:upd (upd H a o) a u=upd H a u:=by
 funext b;unfold upd;split <;> rfl
theorem ze {H:Hp} {a b:Addr} {o u:HO} (h:H a=some o) (h':H b=some u) (d:o ≠ u):a ≠ b:=by
 intro e;subst e;rw [h] at h';exact d (Option.some.inj h')
theorem wb {H:Hp} {a b:Addr} {o:HO} (h:H a=some o) (h':H b=none):a ≠ b:=by
 intro e;subst e;rw [h] at h';cases h'
section
variable (P:Program) (w:World)
noncomputable def Td (H:Hp) (h:Heap) (a:Addr):HO→Prop
 | .lst xs=>xs.length ≤ sizeLine∧∃ (its:List Value) (n:Nat),ld xs its∧h.get? a=some { cls:=.type "list",data:=.seq its.toArray n }
 | .tup xs=>xs.length ≤ sizeLine∧∃ its:List Value,ld xs its∧IsTup h a its.toArray
 | .dK kvs=>kvs.length ≤ sizeLine∧(a == sysModules)=false∧∃ vs,KV kvs vs∧h.DictOf (Ze P w) a vs
 | .dT kvs=>kvs.length ≤ sizeLine∧(a == sysModules)=false∧∃ xs:List (List Key × Addr × Value),
   Paired (fun (p:List Key × V) (q:List Key × Addr × Value)=>p.1=q.1∧H q.2.1=some (.tup (p.1.map kV))∧zd p.2 q.2.2) kvs xs ∧
   ∃ o es ep,h.get? a=some o∧o.ExactDict∧o.data=.dict es ep∧es.toList=xs.map (entryOfKey (tupleKind (Ze P w)))∧(xs.map (·.1)).Nodup
 | .set S n=>h.SetOf (intKind P w) a S n
 | .ins C dx fs=>H dx=some (.own a)∧fs.length ≤ 1000∧dx ≠ a∧h.get? a=some (PySem.W.instObj C dx) ∧
   ∃ mA,h.Ns1 dx mA∧(∀ f,ou (fs.lookup f) (mA f))∧PySem.Within mA (fs.map (·.1))
 | .own _=>∃ o,h.get? a=some o
 | .xd fs=>∃ mA,h.Ns1 a mA∧∀ f,ou (fs.lookup f) (mA f)
 | .rng lo hi=>∃ t u v,h.get? a=some { cls:=.type "range",data:=.fields #[.int lo t,.int hi u,.int 1 v] }
 | .frz o u=>h.get? a=some o∧Td H h a u
 | .tbl ps=>h.get? a=some { cls:=.none,data:=.fields ps }
 | .met f x=>h.get? a=some (PySem.W.methodObj (.ref f) (.ref x))
 | .ext φ=>φ h∧(∃ o,h.get? a=some o)∧∀ h1 h2:Heap,φ h1→(∀ o,h1.get? a=some o→h2.get? a=some o)→φ h2
noncomputable def HOk (H:Hp) (h:Heap):Prop:=∀ a o,H a=some o→Td P w H h a o
end
section
variable {P:Program} {w:World} {H H':Hp} {h h':Heap} {a:Addr} {o:HO}
theorem Td.lt (x:Td P w H h a o):a < h.objs.size:=by
 cases o with
 | lst xs=>obtain ⟨_,_,_,_,e⟩:=x;exact Heap.lt_size e
 | tup xs=>obtain ⟨_,_,_,p⟩:=x;exact p.lt
 | dK kvs=>obtain ⟨_,_,_,_,o,_,_,e,_⟩:=x;exact Heap.lt_size e
 | dT kvs=>obtain ⟨_,_,_,_,o,_,_,e,_⟩:=x;exact Heap.lt_size e
 | set S n=>obtain ⟨o,_,_,_,e,_⟩:=x;exact Heap.lt_size e
 | ins C dx fs=>obtain ⟨_,_,_,e,_⟩:=x;exact Heap.lt_size e
 | own y=>obtain ⟨_,e⟩:=x;exact Heap.lt_size e
 | xd fs=>obtain ⟨_,⟨_,_,_,e,_⟩,_⟩:=x;exact Heap.lt_size e
 | rng lo hi=>obtain ⟨_,_,_,e⟩:=x;exact Heap.lt_size e
 | frz ob u=>obtain ⟨e,_⟩:=x;exact Heap.lt_size e
 | tbl ps=>exact Heap.lt_size (show h.get? a=some _ from x)
 | met f y=>exact Heap.lt_size (show h.get? a=some _ from x)
 | ext φ=>obtain ⟨_,⟨_,e⟩,_⟩:=x;exact Heap.lt_size e
theorem Paired.mapP {α β:Type} {F G:α→β→Prop}:∀ {l₁:List α} {l₂:List β},Paired F l₁ l₂→(∀ a b,F a b→G a b)→Paired G l₁ l₂
 | _,_,.nil,_=>.nil
 | _,_,.cons r t,f=>.cons (f _ _ r) (Paired.mapP t f)
theorem Td.stay (x:Td P w H h a o) (k:∀ b u,(b=a∨H b=some (.own a))→h.get? b=some u→h'.get? b=some u)
  (ho:∀ b,H b=some (.own a)→H' b=some (.own a)) (ht:∀ b xs,H b=some (.tup xs)→H' b=some (.tup xs)):Td P w H' h' a o:=by
 induction o with
 | lst xs=>obtain ⟨z,its,n,r,e⟩:=x;exact ⟨z,its,n,r,k _ _ (.inl rfl) e⟩
 | tup xs=>obtain ⟨z,its,r,ob,e,c⟩:=x;exact ⟨z,its,r,ob,k _ _ (.inl rfl) e,c⟩
 | dK kvs=>obtain ⟨z,y,vs,r,ob,es,ep,e,c⟩:=x;exact ⟨z,y,vs,r,ob,es,ep,k _ _ (.inl rfl) e,c⟩
 | dT kvs=>
  obtain ⟨z,y,xs,r,ob,es,ep,e,c⟩:=x;exact ⟨z,y,xs,Paired.mapP r fun p q z=>⟨z.1,ht _ _ z.2.1,z.2.2⟩,ob,es,ep,k _ _ (.inl rfl) e,c⟩
 | set S n=>obtain ⟨ob,es,ep,t,e,c⟩:=x;exact ⟨ob,es,ep,t,k _ _ (.inl rfl) e,c⟩
 | ins C dx fs=>
  obtain ⟨d,z,ne,e,mA,⟨od,es,ep,e2,c⟩,r⟩:=x;exact ⟨ho _ d,z,ne,k _ _ (.inl rfl) e,mA,⟨od,es,ep,k _ _ (.inr d) e2,c⟩,r⟩
 | own y=>obtain ⟨ob,e⟩:=x;exact ⟨ob,k _ _ (.inl rfl) e⟩
 | xd fs=>obtain ⟨mA,⟨od,es,ep,e,c⟩,r⟩:=x;exact ⟨mA,⟨od,es,ep,k _ _ (.inl rfl) e,c⟩,r⟩
 | rng lo hi=>obtain ⟨t,u,v,e⟩:=x;exact ⟨t,u,v,k _ _ (.inl rfl) e⟩
 | frz ob u ih=>obtain ⟨e,q⟩:=x;exact ⟨k _ _ (.inl rfl) e,ih q⟩
 | tbl ps=>
  have e:h.get? a=some { cls:=.none,data:=.fields ps }:=x;show h'.get? a=some { cls:=.none,data:=.fields ps };exact k a _ (.inl rfl) e
 | met f y=>
  have e:h.get? a=some (PySem.W.methodObj (.ref f) (.ref y)):=x;show h'.get? a=some (PySem.W.methodObj (.ref f) (.ref y));exact k a _ (.inl rfl) e
 | ext φ=>obtain ⟨p,⟨o,e⟩,st⟩:=x;exact ⟨st _ _ p fun o q=>k _ _ (.inl rfl) q,⟨o,k _ _ (.inl rfl) e⟩,st⟩
theorem HOk.lt (x:HOk P w H h) (e:H a=some o):a < h.objs.size:=(x a o e).lt
theorem HOk.fresh (x:HOk P w H h) (e:h.objs.size ≤ a):H a=none:=by
 cases q:H a with
 | none=>rfl
 | some u=>exact absurd (Nat.lt_of_lt_of_le (x.lt q) e) (Nat.lt_irrefl _)
theorem HOk.kept (x:HOk P w H h) (k:∀ b u,h.get? b=some u→h'.get? b=some u):HOk P w H h':=fun a o e=>
 (x a o e).stay (fun b u _ q=>k b u q) (fun _ q=>q) fun _ _ q=>q
theorem HOk.laid (x:HOk P w H h) (k:∀ b u,h.get? b=some u→h'.get? b=some u) (hp:h.objs.size ≤ a) (new:Td P w (upd H a o) h' a o):HOk P w (upd H a o) h':=fun b u e=>by
 have hn:=x.fresh hp;by_cases hb:b=a
 ·subst hb;rw [db] at e;cases e;exact new
 ·rw [qb hb] at e;exact (x b u e).stay (fun c v _ q=>k c v q) (fun c q=>by rw [qb (wb q hn)];exact q) fun c xs q=>by rw [qb (wb q hn)];exact q
end
noncomputable def Rd (H:Hp) (a:Addr) (u:HO):Prop:=H a=some u∨∃ o,H a=some (.frz o u)
theorem Rd.of {H:Hp} {a:Addr} {u:HO} (h:H a=some u):Rd H a u:=.inl h
theorem Rd.ok {P:Program} {w:World} {H:Hp} {h:Heap} {a:Addr} {u:HO} (r:Rd H a u) (x:HOk P w H h):Td P w H h a u:=by
 rcases r with r | ⟨o,r⟩
 ·exact x a u r
 ·obtain ⟨_,q⟩:=x a _ r;exact q
noncomputable def Mut:Option HO→Prop
 | some (.lst _)=>True
 | some (.dK _)=>True
 | some (.dT _)=>True
 | some (.set _ _)=>True
 | some (.ins _ _ _)=>True
 | some (.ext _)=>True
 | _=>False
section
variable {P:Program} {w:World} {H:Hp} {h h':Heap} {x e:Addr} {o':HO}
theorem HOk.write (ok:HOk P w H h) (mu:Mut (H x)) (he:e=x∨H e=some (.own x)) (k:∀ b u,b ≠ e→h.get? b=some u→h'.get? b=some u) (heo:∃ u,h'.get? e=some u)
  (new:Td P w (upd H x o') h' x o'):HOk P w (upd H x o') h':=fun b u q=>by
 have nown:∀ c y,H c=some (.own y)→c ≠ x:=fun c y r z=>by subst z;rw [r] at mu;exact mu
 have ntup:∀ c xs,H c=some (.tup xs)→c ≠ x:=fun c xs r z=>by subst z;rw [r] at mu;exact mu
 by_cases hb:b=x
 ·subst hb;rw [db] at q;cases q;exact new
 ·rw [qb hb] at q;by_cases hbe:b=e
  ·have q':H b=some (.own x):=by
    rcases he with z | z
    ·exact absurd (hbe.trans z) hb
    ·rw [hbe];exact z
   rw [q] at q';cases q';obtain ⟨v,hv⟩:=heo;exact ⟨v,by rw [hbe];exact hv⟩
  ·refine (ok b u q).stay (fun c v hc r=>k c v ?_ r) (fun c r=>by rw [qb (nown c b r)];exact r) fun c xs r=>by rw [qb (ntup c xs r)];exact r
   rcases hc with rfl | hc
   ·exact hbe
   ·rintro rfl;rcases he with z | z
    ·exact nown c b hc z
    ·rw [hc] at z;cases z;exact hb rfl
end
structure Un (fs ex:List Addr) (H H':Hp) (h h':Heap):Prop where
 keep:∀ b o,h.get? b=some o→H b=none→b ∉ fs→b ∉ ex→h'.get? b=some o
 slot:∀ b o,h.get? b=some o→H b=none→b ∈ fs→b ∉ ex→∃ sl,h'.get? b=some { o with slots:=sl }
 free:∀ b o,h.get? b=some o→H b=none→b ∉ ex→H' b=none
 there:∀ b o,h.get? b=some o→b ∉ ex→∃ o',h'.get? b=some o'
 tups:∀ b xs,H b=some (.tup xs)→H' b=some (.tup xs)
 frzs:∀ b o u,H b=some (.frz o u)→H' b=some (.frz o u)
 tbls:∀ b ps,H b=some (.tbl ps)→∃ more,H' b=some (.tbl (ps ++ more))
section
variable {fs fs' ex ex':List Addr} {H H1 H2:Hp} {h h1 h2 h':Heap} {a x e:Addr} {o:HO}
theorem Un.any (u:Un fs ex H H1 h h1) {b:Addr} {ob:Obj} (q:h.get? b=some ob) (n:H b=none) (hx:b ∉ ex):∃ sl,h1.get? b=some { ob with slots:=sl }:=by
 by_cases hb:b ∈ fs
 ·exact u.slot b ob q n hb hx
 ·exact ⟨ob.slots,u.keep b ob q n hb hx⟩
theorem Un.trans (a:Un fs ex H H1 h h1) (b:Un fs ex H1 H2 h1 h2):Un fs ex H H2 h h2 where
 keep:=fun c ob q n hc hx=>b.keep c ob (a.keep c ob q n hc hx) (a.free c ob q n hx) hc hx
 slot:=fun c ob q n hc hx=>by
  obtain ⟨sl,e1⟩:=a.slot c ob q n hc hx;obtain ⟨sl',e2⟩:=b.slot c _ e1 (a.free c ob q n hx) hc hx;exact ⟨sl',e2⟩
 free:=fun c ob q n hx=>by
  obtain ⟨o',e1⟩:=a.there c ob q hx;exact b.free c o' e1 (a.free c ob q n hx) hx
 there:=fun c ob q hx=>by
  obtain ⟨o',e1⟩:=a.there c ob q hx;exact b.there c o' e1 hx
 tups:=fun c xs q=>b.tups c xs (a.tups c xs q)
 frzs:=fun c ob xs q=>b.frzs c ob xs (a.frzs c ob xs q)
 tbls:=fun c ps q=>by
  obtain ⟨m1,e1⟩:=a.tbls c ps q;obtain ⟨m2,e2⟩:=b.tbls c _ e1;exact ⟨m1 ++ m2,by rw [e2,Array.append_assoc]⟩
theorem Un.kept (k:∀ b u,h.get? b=some u→h'.get? b=some u):Un fs ex H H h h':=
 ⟨fun b ob q _ _ _=>k b ob q,fun b ob q _ _ _=>⟨ob.slots,k b ob q⟩,fun _ _ _ n _=>n,fun b ob q _=>⟨ob,k b ob q⟩,fun _ _ q=>q,fun _ _ _ q=>q,fun _ ps q=>⟨#[],by rw [q];simp⟩⟩
theorem Un.refl:Un fs ex H H h h:=Un.kept fun _ _ q=>q
theorem Un.laid (k:∀ b u,h.get? b=some u→h'.get? b=some u) (hp:h.objs.size ≤ a) (hn:H a=none):Un fs ex H (upd H a o) h h' where
 keep:=fun b u q _ _ _=>k b u q
 slot:=fun b u q _ _ _=>⟨u.slots,k b u q⟩
 free:=fun b u q n _=>by rw [qb (Nat.ne_of_lt (Nat.lt_of_lt_of_le (Heap.lt_size q) hp))];exact n
 there:=fun b u q _=>⟨u,k b u q⟩
 tups:=fun b xs q=>by rw [qb (wb q hn)];exact q
 frzs:=fun b u xs q=>by rw [qb (wb q hn)];exact q
 tbls:=fun b ps q=>⟨#[],by rw [qb (wb q hn),q];simp⟩
theorem Un.write (mu:Mut (H x)) (he:e=x∨H e=some (.own x)) (k:∀ b u,b ≠ e→h.get? b=some u→h'.get? b=some u) (heo:∃ u,h'.get? e=some u):Un fs ex H (upd H x o) h h':=by
 have hx:∀ b,H b=none→b ≠ x:=fun b n z=>by subst z;rw [n] at mu;exact mu
 have hb:∀ b,H b=none→b ≠ e:=fun b n z=>by
  subst z;rcases he with r | r
  ·exact hx b n r
  ·rw [n] at r;cases r
 have hm:∀ b u,H b=some u→¬ Mut (some u)→b ≠ x:=fun b u q nm z=>by subst z;rw [q] at mu;exact nm mu
 refine ⟨fun b u q n _ _=>k b u (hb b n) q,fun b u q n _ _=>⟨u.slots,k b u (hb b n) q⟩,fun b u q n _=>by rw [qb (hx b n)];exact n,fun b u q _=>?_,
  fun b xs q=>by rw [qb (hm b _ q fun z=>z)];exact q,fun b u xs q=>by rw [qb (hm b _ q fun z=>z)];exact q,fun b ps q=>⟨#[],by rw [qb (hm b _ q fun z=>z),q];simp⟩⟩
 by_cases hbe:b=e
 ·subst hbe;exact heo
 ·exact ⟨u,k b u hbe q⟩
theorem Un.mono (u:Un fs ex H H1 h h1) (hs:∀ b ∈ fs,b ∈ fs') (hx:∀ b ∈ ex,b ∈ ex'):Un fs' ex' H H1 h h1:=
 ⟨fun b ob q n hb he=>u.keep b ob q n (fun z=>hb (hs b z)) fun z=>he (hx b z),fun _ _ q n _ he=>u.any q n fun z=>he (hx _ z),fun b ob q n he=>u.free b ob q n fun z=>he (hx b z),fun b ob q he=>u.there b ob q fun z=>he (hx b z),u.tups,u.frzs,u.tbls⟩
end
noncomputable def trk (h:Heap) (H:Hp):List Addr:=(List.range h.objs.size).filter fun a=>(H a).isSome
noncomputable def tF (h:Heap) (H:Hp):Heap:=PySem.W.hideAll h (trk h H)
theorem cD (h:Heap) (H:Hp):(tF h H).objs.size=h.objs.size:=PySem.W.hideAll_size _ _
theorem yE {h:Heap} {H:Hp} {b:Addr} {o:Obj} (e:h.get? b=some o) (n:H b=none):(tF h H).get? b=some o:=
 PySem.W.hideAll_get _ e fun hm=>by
  have q:(H b).isSome=true:=(List.mem_filter.mp hm).2;rw [n] at q;simp at q
theorem DG {h:Heap} {H:Hp} {b:Addr} {o:Obj} (e:(tF h H).get? b=some o):h.get? b=some o∧H b=none:=by
 have e':h.get? b=some o:=PySem.W.of_hideAll (trk h H) e;refine ⟨e',?_⟩;cases q:H b with
 | none=>rfl
 | some x=>
  have hm:b ∈ trk h H:=List.mem_filter.mpr ⟨List.mem_range.mpr (Heap.lt_size e'),by simp [q]⟩;have z:(tF h H).get? b=none:=PySem.W.hideAll_none (trk h H) hm;rw [z] at e;cases e
noncomputable def xI (g h:Heap) (L:Addr):List (Addr × Obj):=(List.range h.objs.size).filterMap fun a=>if a=L∨(g.get? a).isSome=true then none else (h.get? a).map fun o=>(a,o)
noncomputable def pA (g h:Heap) (L d:Addr):List (Addr × Obj):=(xI g h L).filter fun p=>decide (p.1 ≠ d)
end L2
namespace L2
open PySem PySem.Spec PyProof.Rows
structure Mod (K:PySem.W.Frag) (mg:Str→Option Value) (base:Heap):Prop where
 kin:K.In base
 glob:base.Ns mainGlobals mg
 blt:∃ mb,base.Ns builtinsNs mb∧∀ x:Str,x ≠ "__name__" → mb x=bootBuiltins x
 nolimit:base.NoLimit
structure Cx where
 prog:Program
 w:World
 K:PySem.W.Frag
 mg:Str→Option Value
 base:Heap
 A:Around
 N:List Str
 s₀:Shared
 H₀:Hp
 env:Env
 outer:List Env
 stack:List Env
 ex:List Addr
 fn:Str→Bool
 calm:Bool
 pn:List (Addr × Obj)
 xe:Value→Shared→Prop
noncomputable def frs (l:List Env):List Addr:=l.filterMap (·.frame)
noncomputable abbrev Cx.fs (X:Cx):List Addr:=frs X.outer
noncomputable def Vis (sc:Scope) (x:Str):Prop:=sc.names.lookup x=some .local∨sc.names.lookup x=some .cell∨sc.names.lookup x=some .free
noncomputable def Loc (sc:Scope) (x:Str):Prop:=sc.names.lookup x=some .local∨sc.names.lookup x=some .cell
noncomputable def KM (env:Env) (h:Heap) (m:Str→Option Value) (x:Str) (u:Value):Prop:=
 (env.kindOf x=some .local∧m x=some u)∨((env.kindOf x=some .cell∨env.kindOf x=some .free)∧∃ c,env.cells.lookup x=some c∧h.IsCell c (some u))
structure Cx.Ok (X:Cx):Prop where
 mod:Mod X.K X.mg X.base
 kind:X.env.scope.kind=.function
 glob:X.env.globals=mainGlobals
 blt:X.env.builtins=builtinsNs
 above:X.s₀.heap.objs.size ≤ X.env.locals
 inj:∀ x y c,X.env.cells.lookup x=some c→X.env.cells.lookup y=some c→x=y
 has:∀ x,(X.env.kindOf x=some .cell∨X.env.kindOf x=some .free)→∃ c,X.env.cells.lookup x=some c
 cab:∀ x c,X.fn x=true→X.env.cells.lookup x=some c→X.s₀.heap.objs.size ≤ c
 hd:X.calm=true→X.A.handled=none
 frames:X.A.frames=some X.stack
 stk:X.stack=X.outer∨(X.stack=X.env :: X.outer∧X.env.frame=some X.env.locals)
 exf:∀ b ∈ X.ex,b ≠ X.env.locals∧∀ x c,X.env.cells.lookup x=some c→c ≠ b
 bs:∀ b o,X.base.get? b=some o→X.s₀.heap.get? b=some o∧X.H₀ b=none
 bsz:X.base.objs.size ≤ X.s₀.heap.objs.size
 noex:∀ b o,X.base.get? b=some o→b ∉ X.ex
 exfs:∀ b ∈ X.ex,b ∉ X.fs
 funs:X.s₀.heap.FunFrames X.base X.outer
 frf:∀ b ∈ X.fs,X.H₀ b=none
structure Inv (X:Cx) (pins:List (Addr × Obj)) (σ:List (Option V)) (H:Hp) (s:Shared):Prop where
 ok:X.Ok
 os:s.os=X.s₀.os
 bare:AllBare s.gens
 base:Un X.fs X.ex X.H₀ H X.s₀.heap s.heap
 loc:∃ m,s.heap.Ns X.env.locals m∧∀ (i:Nat) (x:Str) (v:V),X.N[i]? = some x→σ[i]? = some (some v)→Vis X.env.scope x→∃ u,zd v u∧KM X.env s.heap m x u
 cell:∀ x c,X.env.cells.lookup x=some c→∃ v,s.heap.IsCell c v
 free:H X.env.locals=none
 freeC:∀ x c,X.env.cells.lookup x=some c→H c=none
 pin:∀ p ∈ X.pn ++ pins,s.heap.get? p.1=some p.2∧H p.1=none∧p.1 ≠ X.env.locals∧p.1 ∉ X.fs∧∀ v,p.2.data ≠ .cell v
 hok:HOk X.prog X.w H s.heap
 len:σ.length=X.N.length
section
variable {X:Cx} {pins:List (Addr × Obj)} {σ:List (Option V)} {H H':Hp} {s:Shared} {h':Heap}
theorem Cx.Ok.nofr (ok:X.Ok) {b:Addr} {o:Obj} (e:X.base.get? b=some o):b ∉ X.fs:=fun hb=>by
 have:=(ok.funs.mem hb).1;rw [e] at this;cases this
theorem Inv.bs (I:Inv X pins σ H s):∀ b o,X.base.get? b=some o→s.heap.get? b=some o∧H b=none:=fun b o e=>
 ⟨I.base.keep b o (I.ok.bs b o e).1 (I.ok.bs b o e).2 (I.ok.nofr e) (I.ok.noex b o e),I.base.free b o (I.ok.bs b o e).1 (I.ok.bs b o e).2 (I.ok.noex b o e)⟩
theorem Inv.bk (I:Inv X pins σ H s):∀ b o,X.base.get? b=some o→s.heap.get? b=some o:=fun b o e=>(I.bs b o e).1
theorem Inv.mod (I:Inv X pins σ H s):Mod X.K X.mg X.base:=I.ok.mod
theorem Inv.kIn (I:Inv X pins σ H s):X.K.In s.heap:=I.ok.mod.kin.keeps I.bk
theorem Inv.nolimit (I:Inv X pins σ H s):s.heap.NoLimit:=I.ok.mod.nolimit.keeps I.bk
theorem Inv.fr (I:Inv X pins σ H s):∃ m,Fr X.base X.env.locals s.heap m:=
 let ⟨m,hn,_⟩:=I.loc
 ⟨m,hn,I.bk,Nat.le_trans I.ok.bsz I.ok.above⟩
theorem Inv.lt (I:Inv X pins σ H s):X.env.locals < s.heap.objs.size:=let ⟨_,hn,_⟩:=I.loc;hn.lt
theorem Inv.sz (I:Inv X pins σ H s):X.s₀.heap.objs.size ≤ s.heap.objs.size:=Nat.le_trans I.ok.above (Nat.le_of_lt I.lt)
theorem Inv.nofs (I:Inv X pins σ H s) {a:Addr} (h:s.heap.objs.size ≤ a):a ∉ X.fs:=fun hb=>by
 obtain ⟨_,o,ho,_⟩:=I.ok.funs.mem hb;exact absurd (Nat.lt_of_lt_of_le (Heap.lt_size ho) (Nat.le_trans I.sz h)) (Nat.lt_irrefl _)
theorem Inv.cne (I:Inv X pins σ H s):∀ x c,X.env.cells.lookup x=some c→c ≠ X.env.locals:=fun x c e z=>by
 obtain ⟨v,o,ho,hd⟩:=I.cell x c e;obtain ⟨m,⟨o',es,ep,ho',hd',_⟩,_⟩:=I.loc;rw [z,ho'] at ho;cases ho;rw [hd'] at hd;cases hd
theorem Inv.funs (I:Inv X pins σ H s):s.heap.FunFrames X.base X.outer:=by
 have all:∀ (l:List Env),(∀ b ∈ frs l,b ∈ X.fs)→X.s₀.heap.FunFrames X.base l→s.heap.FunFrames X.base l:=by
  intro l
  induction l with
  | nil=>intro _ _;trivial
  | cons env r ih=>
   intro hs hl;obtain ⟨hk,⟨L,o,hf,hn,ho,hd⟩,hr⟩:=hl;have hL:L ∈ X.fs:=hs L (by unfold frs;rw [List.filterMap_cons,hf];exact List.mem_cons_self);obtain ⟨sl,e⟩:=I.base.slot L o ho (I.ok.frf L hL) hL fun z=>I.ok.exfs L z hL
   exact ⟨hk,⟨L,_,hf,hn,e,hd⟩,ih (fun b hb=>hs b (by unfold frs;rw [List.filterMap_cons,hf];exact List.mem_cons_of_mem _ hb)) hr⟩
 exact all X.outer (fun _ hb=>hb) I.ok.funs
theorem Inv.stack (I:Inv X pins σ H s):s.heap.FunFrames X.base X.stack:=by
 rcases I.ok.stk with e | ⟨e,hf⟩
 ·rw [e];exact I.funs
 ·rw [e];obtain ⟨m,hn,_⟩:=I.loc;refine .cons (by rw [I.ok.kind];decide) hf hn ?_ I.funs;exact Heap.get?_none_of_le (Nat.le_trans I.ok.bsz I.ok.above)
theorem Inv.stkSub (I:Inv X pins σ H s):∀ b ∈ frs X.stack,b ∈ X.env.locals :: X.fs:=fun b hb=>by
 rcases I.ok.stk with e | ⟨e,hf⟩
 ·rw [e] at hb;exact List.mem_cons_of_mem _ hb
 ·rw [e] at hb;unfold frs at hb;rw [List.filterMap_cons,hf] at hb;exact hb
theorem Inv.stkFree (I:Inv X pins σ H s):∀ b ∈ frs X.stack,H b=none:=fun b hb=>by
 rcases List.mem_cons.mp (I.stkSub b hb) with e | hb
 ·rw [e];exact I.free
 ·obtain ⟨_,o,ho,_⟩:=I.ok.funs.mem hb;exact I.base.free b o ho (I.ok.frf b hb) fun z=>I.ok.exfs b z hb
theorem Inv.step {g':Array GenState} {t':Nat} {d':Drawn} {ch:List Addr} (I:Inv X pins σ H s)
  (hch:∀ b ∈ ch,(b ∈ X.ex∨X.s₀.heap.objs.size ≤ b)∧b ≠ X.env.locals∧(∀ x c,X.env.cells.lookup x=some c→c ≠ b)∧∀ p ∈ X.pn ++ pins,p.1 ≠ b)
  (keep:∀ b o,b ≠ X.env.locals→b ∉ X.fs→b ∉ ch→s.heap.get? b=some o→H b=none→h'.get? b=some o)
  (slot:∀ b o,b ≠ X.env.locals→b ∈ X.fs→b ∉ ch→s.heap.get? b=some o→H b=none→∃ sl,h'.get? b=some { o with slots:=sl }) (free:∀ b o,b ∉ ch→s.heap.get? b=some o→H b=none→H' b=none)
  (there:∀ b o,b ∉ ch→s.heap.get? b=some o→∃ o',h'.get? b=some o')
  (tups:∀ b xs,H b=some (.tup xs)→H' b=some (.tup xs)) (frzs:∀ b o u,H b=some (.frz o u)→H' b=some (.frz o u)) (tbls:∀ b ps,H b=some (.tbl ps)→∃ more,H' b=some (.tbl (ps ++ more)))
  (ns:∀ m,s.heap.Ns X.env.locals m→h'.Ns X.env.locals m) (hok:HOk X.prog X.w H' h') (hg:AllBare g') :
  Inv X pins σ H' { s with heap:=h',gens:=g',drawn:=d',toks:=t' }:=by
 have neL:∀ b o,X.s₀.heap.get? b=some o→b ≠ X.env.locals:=fun b o e=>Nat.ne_of_lt (Nat.lt_of_lt_of_le (Heap.lt_size e) I.ok.above)
 have neC:∀ b o,X.s₀.heap.get? b=some o→b ∉ X.ex→b ∉ ch:=fun b o e hx hb=>by
  rcases (hch b hb).1 with z | z
  ·exact hx z
  ·exact absurd (Nat.lt_of_lt_of_le (Heap.lt_size e) z) (Nat.lt_irrefl _)
 have cellK:∀ x c,X.env.cells.lookup x=some c→∀ v,s.heap.IsCell c v→h'.IsCell c v:=fun x c e v ⟨o,ho,hd⟩=>by
  have nch:c ∉ ch:=fun z=>(hch c z).2.2.1 x c e rfl
  by_cases hc:c ∈ X.fs
  ·obtain ⟨sl,q⟩:=slot c o (I.cne x c e) hc nch ho (I.freeC x c e);exact ⟨_,q,hd⟩
  ·exact ⟨o,keep c o (I.cne x c e) hc nch ho (I.freeC x c e),hd⟩
 refine ⟨I.ok,I.os,hg,⟨fun b o e n hb hx=>?_,fun b o e n hb hx=>?_,fun b o e n hx=>?_,fun b o e hx=>?_,fun b xs e=>tups b xs (I.base.tups b xs e),fun b o xs e=>frzs b o xs (I.base.frzs b o xs e),fun b ps e=>?_⟩,?_,fun x c e=>?_,?_,fun x c e=>?_,fun p hp=>?_,hok,I.len⟩
 ·exact keep b o (neL b o e) hb (neC b o e hx) (I.base.keep b o e n hb hx) (I.base.free b o e n hx)
 ·obtain ⟨sl,e1⟩:=I.base.slot b o e n hb hx;obtain ⟨sl',e2⟩:=slot b _ (neL b o e) hb (neC b o e hx) e1 (I.base.free b o e n hx);exact ⟨sl',e2⟩
 ·obtain ⟨o',e1⟩:=I.base.there b o e hx;exact free b o' (neC b o e hx) e1 (I.base.free b o e n hx)
 ·obtain ⟨o',e1⟩:=I.base.there b o e hx;exact there b o' (neC b o e hx) e1
 ·obtain ⟨m1,e1⟩:=I.base.tbls b ps e;obtain ⟨m2,e2⟩:=tbls b _ e1;exact ⟨m1 ++ m2,by rw [e2,Array.append_assoc]⟩
 ·obtain ⟨m,hn,hl⟩:=I.loc;refine ⟨m,ns m hn,fun i x v e1 e2 e3=>?_⟩;obtain ⟨u,r,l⟩:=hl i x v e1 e2 e3;refine ⟨u,r,?_⟩;rcases l with l | ⟨k,c,e,z⟩
  ·exact .inl l
  ·exact .inr ⟨k,c,e,cellK x c e _ z⟩
 ·obtain ⟨v,z⟩:=I.cell x c e;exact ⟨v,cellK x c e v z⟩
 ·obtain ⟨m,⟨o,_,_,ho,_⟩,_⟩:=I.loc;exact free _ o (fun z=>(hch _ z).2.1 rfl) ho I.free
 ·obtain ⟨v,o,ho,hd⟩:=I.cell x c e;exact free c o (fun z=>(hch c z).2.2.1 x c e rfl) ho (I.freeC x c e)
 ·obtain ⟨e,n,ne,nf,d⟩:=I.pin p hp;have nch:p.1 ∉ ch:=fun z=>(hch p.1 z).2.2.2 p hp rfl
  exact ⟨keep p.1 p.2 ne nf nch e n,free p.1 p.2 nch e n,ne,nf,d⟩
theorem Inv.un {t':Nat} (I:Inv X pins σ H s) (u:Un X.fs [] H H' s.heap h') (hok:HOk X.prog X.w H' h'):Inv X pins σ H' { s with heap:=h',toks:=t' }:=by
 obtain ⟨m,⟨o,es,ep,ho,r⟩,_⟩:=id I.loc;obtain ⟨sl,hL⟩:=u.any ho I.free (by simp);exact I.step (g':=s.gens) (d':=s.drawn) (ch:=[]) (fun _ z=>nomatch z) (fun b o _ hb _ e n=>u.keep b o e n hb (by simp)) (fun b o _ hb _ e n=>u.slot b o e n hb (by simp)) (fun b o _ e n=>u.free b o e n (by simp)) (fun b o _ e=>u.there b o e (by simp)) u.tups u.frzs u.tbls (fun m' hm=>by
  obtain ⟨o',es',ep',ho',r'⟩:=hm;rw [ho] at ho';cases ho';exact ⟨_,es',ep',hL,r'⟩) hok I.bare
theorem Inv.call {g':Array GenState} {t':Nat} {d':Drawn} {ch:List Addr} (I:Inv X pins σ H s) (u:Un (frs X.stack) ch H H' s.heap h') (hok:HOk X.prog X.w H' h') (hg:AllBare g')
  (hch:∀ b ∈ ch,(b ∈ X.ex∨X.s₀.heap.objs.size ≤ b)∧b ≠ X.env.locals∧(∀ x c,X.env.cells.lookup x=some c→c ≠ b)∧∀ p ∈ X.pn ++ pins,p.1 ≠ b) :
  Inv X pins σ H' { s with heap:=h',gens:=g',drawn:=d',toks:=t' }:=by
 obtain ⟨m,⟨o,es,ep,ho,r⟩,_⟩:=id I.loc;obtain ⟨sl,hL⟩:=u.any ho I.free fun z=>(hch _ z).2.1 rfl
 exact I.step (ch:=ch) hch (fun b o hL hb hc e n=>u.keep b o e n (fun z=>(List.mem_cons.mp (I.stkSub b z)).elim hL hb) hc) (fun b o _ _ hc e n=>u.any e n hc) (fun b o hc e n=>u.free b o e n hc) (fun b o hc e=>u.there b o e hc) u.tups u.frzs u.tbls (fun m' hm=>by
  obtain ⟨o',es',ep',ho',r'⟩:=hm;rw [ho] at ho';cases ho';exact ⟨_,es',ep',hL,r'⟩) hok hg
theorem Inv.turned {t':Nat} {it:Addr} (I:Inv X pins σ H s) (k:∀ b o,b ≠ it→s.heap.get? b=some o→h'.get? b=some o) (hn:H it=none) (hL:it ≠ X.env.locals)
  (h1:it ∈ X.ex∨X.s₀.heap.objs.size ≤ it) (h2:∀ x c,X.env.cells.lookup x=some c→c ≠ it) (h3:∀ p ∈ X.pn ++ pins,p.1 ≠ it):Inv X pins σ H { s with heap:=h',toks:=t' }:=by
 have nit:∀ b u,H b=some u→b ≠ it:=fun b u e z=>by rw [z,hn] at e;cases e
 refine I.step (g':=s.gens) (d':=s.drawn) (ch:=[it]) (fun b hb=>?_) (fun b o _ _ hc e _=>k b o (fun z=>hc (by simp [z])) e) (fun b o _ _ hc e _=>⟨o.slots,k b o (fun z=>hc (by simp [z])) e⟩) (fun _ _ _ _ n=>n)
  (fun b o hc e=>⟨o,k b o (fun z=>hc (by simp [z])) e⟩) (fun _ _ e=>e) (fun _ _ _ e=>e) (fun b ps e=>⟨#[],by rw [e];simp⟩) (fun m hm=>?_) (fun b u e=>?_) I.bare
 ·have e:b=it:=by simpa using hb
  subst e;exact ⟨h1,hL,h2,h3⟩
 ·obtain ⟨o,es,ep,ho,r⟩:=hm;exact ⟨o,es,ep,k _ o (Ne.symm hL) ho,r⟩
 ·refine (I.hok b u e).stay (fun c v hc q=>k c v ?_ q) (fun _ q=>q) fun _ _ q=>q
  rcases hc with z | z
  ·rw [z];exact nit b u e
  ·exact nit c _ z
theorem Inv.tok (I:Inv X pins σ H s) (t:Nat):Inv X pins σ H { s with toks:=t }:=I.un (h':=s.heap) (t':=t) Un.refl I.hok
theorem Inv.kept {t':Nat} (I:Inv X pins σ H s) (k:∀ b u,s.heap.get? b=some u→h'.get? b=some u):Inv X pins σ H { s with heap:=h',toks:=t' }:=I.un (Un.kept k) (I.hok.kept k)
theorem Inv.laid {a:Addr} {o:HO} {t':Nat} (I:Inv X pins σ H s) (k:∀ b u,s.heap.get? b=some u→h'.get? b=some u) (hp:s.heap.objs.size ≤ a) (new:Td X.prog X.w (upd H a o) h' a o) :
  Inv X pins σ (upd H a o) { s with heap:=h',toks:=t' }:=I.un (Un.laid k hp (I.hok.fresh hp)) (I.hok.laid k hp new)
theorem Inv.write {x e:Addr} {o:HO} {t':Nat} (I:Inv X pins σ H s) (mu:Mut (H x)) (he:e=x∨H e=some (.own x)) (k:∀ b u,b ≠ e→s.heap.get? b=some u→h'.get? b=some u) (heo:∃ u,h'.get? e=some u)
  (new:Td X.prog X.w (upd H x o) h' x o):Inv X pins σ (upd H x o) { s with heap:=h',toks:=t' }:=I.un (Un.write mu he k heo) (I.hok.write mu he k heo new)
theorem Inv.weak {σ':List (Option V)} (I:Inv X pins σ H s) (hl:σ'.length=σ.length) (w:∀ (i:Nat) v,σ'[i]? = some (some v)→σ[i]? = some (some v)):Inv X pins σ' H s:=
 ⟨I.ok,I.os,I.bare,I.base,let ⟨m,hn,hl'⟩:=I.loc;⟨m,hn,fun i x v e1 e2 e3=>hl' i x v e1 (w i v e2) e3⟩,I.cell,I.free,I.freeC,I.pin,I.hok,hl.trans I.len⟩
theorem Inv.pins_of {pins':List (Addr × Obj)} (I:Inv X pins σ H s) (h:∀ p ∈ pins',s.heap.get? p.1=some p.2∧H p.1=none∧p.1 ≠ X.env.locals∧p.1 ∉ X.fs∧∀ v,p.2.data ≠ .cell v):Inv X pins' σ H s:=
 ⟨I.ok,I.os,I.bare,I.base,I.loc,I.cell,I.free,I.freeC,fun p hp=>(List.mem_append.mp hp).elim (fun z=>I.pin p (List.mem_append_left _ z)) (h p),I.hok,I.len⟩
theorem ny {N:List Str} (hN:N.Nodup) {i j:Nat} {x:Str} (a:N[i]? = some x) (b:N[j]? = some x):i=j:=by
 obtain ⟨h1,e1⟩:=List.getElem?_eq_some_iff.mp a;obtain ⟨h2,e2⟩:=List.getElem?_eq_some_iff.mp b;exact (List.getElem_inj hN).mp (e1.trans e2.symm)
theorem uv {M:Model} {A:Around} {E:Value→Shared→Prop} {i:Nat} {x:Str} {v:V} {u:Value} {Q:Unit→Shared→Prop} (I:Inv X pins σ H s) (hN:X.N.Nodup) (hi:X.N[i]? = some x) (hx:Loc X.env.scope x) (r:zd v u)
  (h:∀ s',Inv X pins (σ.set i (some v)) H s'→(∃ a,Heap.SameBut a s.heap s'.heap∧(a=X.env.locals∨X.env.cells.lookup x=some a))→Q () s') (hf:X.fn x=true∨X.env.scope.names.lookup x=some .local:=by first | exact .inl rfl | exact .inr rfl | assumption):wpAny M A (storeName X.env x u) Q E s:=by
 obtain ⟨m,hn,hl⟩:=id I.loc;have hcls:(X.env.scope.kind == .class || (X.env.scope.kind == .module && X.env.locals != X.env.globals))=false:=by rw [I.ok.kind];rfl
 have hiσ:i < σ.length:=by rw [I.len];exact (List.getElem?_eq_some_iff.mp hi).1
 have cne:=I.cne;have tracked:∀ {a:Addr} {h':Heap},(∃ o,s.heap.get? a=some o∧H a=none)→Heap.SameBut a s.heap h'→HOk X.prog X.w H h':=fun {a h'} ha hs b ob e=>by
  obtain ⟨_,_,hfree⟩:=ha;refine (I.hok b ob e).stay (fun c w' hc q=>(hs.2 c ?_).trans q) (fun _ q=>q) fun _ _ q=>q
  rintro rfl;rcases hc with rfl | hc
  ·rw [hfree] at e;cases e
  ·rw [hfree] at hc;cases hc
 rcases hx with hk | hk
 ·refine wpAny_storeName_local hk hn (fun h' hn' hs=>?_) hcls;obtain ⟨oL,_,_,hoL,_⟩:=id hn;refine h _ ⟨I.ok,I.os,I.bare,⟨fun b o e n hb hx=>?_,fun b o e n hb hx=>?_,I.base.free,fun b o e hx=>?_,I.base.tups,I.base.frzs,I.base.tbls⟩,⟨_,hn',fun j y v' e1 e2 e3=>?_⟩,fun y c e=>?_,I.free,I.freeC,fun p hp=>?_,tracked ⟨oL,hoL,I.free⟩ hs,by simpa using I.len⟩ ⟨_,hs,.inl rfl⟩
  ·exact (hs.2 b (Nat.ne_of_lt (Nat.lt_of_lt_of_le (Heap.lt_size e) I.ok.above))).trans (I.base.keep b o e n hb hx)
  ·obtain ⟨sl,e1⟩:=I.base.slot b o e n hb hx;exact ⟨sl,(hs.2 b (Nat.ne_of_lt (Nat.lt_of_lt_of_le (Heap.lt_size e) I.ok.above))).trans e1⟩
  ·obtain ⟨o',e1⟩:=I.base.there b o e hx;exact ⟨o',(hs.2 b (Nat.ne_of_lt (Nat.lt_of_lt_of_le (Heap.lt_size e) I.ok.above))).trans e1⟩
  ·by_cases hj:j=i
   ·subst hj;rw [hi] at e1;cases e1;rw [List.getElem?_set_self hiσ] at e2;cases e2;exact ⟨u,r,.inl ⟨hk,by simp⟩⟩
   ·rw [List.getElem?_set_ne (Ne.symm hj)] at e2;obtain ⟨u',r',q⟩:=hl j y v' e1 e2 e3;refine ⟨u',r',?_⟩;rcases q with ⟨k,e⟩ | ⟨k,c,e,z⟩
    ·refine .inl ⟨k,?_⟩;have:y ≠ x:=fun e=>hj (ny hN e1 (e ▸ hi))
     simp [this,e]
    ·exact .inr ⟨k,c,e,z.sameBut hs (cne y c e)⟩
  ·obtain ⟨w',z⟩:=I.cell y c e;exact ⟨w',z.sameBut hs (cne y c e)⟩
  ·obtain ⟨e,n,ne,nf,d⟩:=I.pin p hp;exact ⟨(hs.2 p.1 ne).trans e,n,ne,nf,d⟩
 ·have hfn:X.fn x=true:=by
   rcases hf with z | z
   ·exact z
   ·rw [z] at hk;cases hk
  obtain ⟨c,hc⟩:=I.ok.has x (.inl hk);obtain ⟨w',z⟩:=I.cell x c hc;refine wpAny_storeName_cell I.ok.kind hk hc z (fun h' hc' hs=>?_);obtain ⟨oc,hoc,hocd⟩:=id z;refine h { s with heap:=h' } ⟨I.ok,I.os,I.bare,⟨fun b o e n hb hx=>?_,fun b o e n hb hx=>?_,I.base.free,fun b o e hx=>?_,I.base.tups,I.base.frzs,I.base.tbls⟩,⟨m,hn.sameBut hs (Ne.symm (cne x c hc)),fun j y v' e1 e2 e3=>?_⟩,fun y c' e=>?_,I.free,I.freeC,fun p hp=>?_,tracked ⟨oc,hoc,I.freeC x c hc⟩ hs,by simpa using I.len⟩ ⟨c,hs,.inr hc⟩
  ·exact (hs.2 b (Nat.ne_of_lt (Nat.lt_of_lt_of_le (Heap.lt_size e) (I.ok.cab x c hfn hc)))).trans (I.base.keep b o e n hb hx)
  ·obtain ⟨sl,e1⟩:=I.base.slot b o e n hb hx;exact ⟨sl,(hs.2 b (Nat.ne_of_lt (Nat.lt_of_lt_of_le (Heap.lt_size e) (I.ok.cab x c hfn hc)))).trans e1⟩
  ·obtain ⟨o',e1⟩:=I.base.there b o e hx;exact ⟨o',(hs.2 b (Nat.ne_of_lt (Nat.lt_of_lt_of_le (Heap.lt_size e) (I.ok.cab x c hfn hc)))).trans e1⟩
  ·by_cases hj:j=i
   ·subst hj;rw [hi] at e1;cases e1;rw [List.getElem?_set_self hiσ] at e2;cases e2;exact ⟨u,r,.inr ⟨.inl hk,c,hc,hc'⟩⟩
   ·rw [List.getElem?_set_ne (Ne.symm hj)] at e2;obtain ⟨u',r',q⟩:=hl j y v' e1 e2 e3;refine ⟨u',r',?_⟩;rcases q with q | ⟨k,c',e,z'⟩
    ·exact .inl q
    ·refine .inr ⟨k,c',e,z'.sameBut hs ?_⟩;rintro rfl;exact hj (ny hN e1 (I.ok.inj _ _ _ e hc ▸ hi))
  ·by_cases hcc:c'=c
   ·subst hcc;exact ⟨_,hc'⟩
   ·obtain ⟨w2,z2⟩:=I.cell y c' e;exact ⟨w2,z2.sameBut hs hcc⟩
  ·obtain ⟨e,n,ne,nf,d⟩:=I.pin p hp;refine ⟨(hs.2 p.1 ?_).trans e,n,ne,nf,d⟩;intro q;rw [q,hoc] at e;have q':oc=p.2:=Option.some.inj e;exact d w' (by rw [← q'];exact hocd)
theorem fu {M:Model} {A:Around} {E:Value→Shared→Prop} {i:Nat} {x:Str} {v:V} {u:Value} {Q:Unit→Shared→Prop} (I:Inv X pins σ H s) (hN:X.N.Nodup) (hi:X.N[i]? = some x) (hx:Loc X.env.scope x) (r:zd v u)
  (h:∀ s',Inv X pins (σ.set i (some v)) H s'→Q () s') (hf:X.fn x=true∨X.env.scope.names.lookup x=some .local:=by first | exact .inl rfl | exact .inr rfl | assumption):wpAny M A (storeName X.env x u) Q E s:=
 uv I hN hi hx r (fun s' I' _=>h s' I') hf
theorem Inv.call' {s':Shared} {ch:List Addr} (I:Inv X pins σ H s) (ho:s'.os=s.os) (u:Un (frs X.stack) ch H H' s.heap s'.heap) (hok:HOk X.prog X.w H' s'.heap) (hg:AllBare s'.gens)
  (hch:∀ b ∈ ch,(b ∈ X.ex∨X.s₀.heap.objs.size ≤ b)∧b ≠ X.env.locals∧(∀ x c,X.env.cells.lookup x=some c→c ≠ b)∧∀ p ∈ X.pn ++ pins,p.1 ≠ b):Inv X pins σ H' s':=by
 obtain ⟨h',g',d',t',o'⟩:=s';have e:o'=s.os:=ho;subst e;exact I.call (g':=g') (t':=t') (d':=d') u hok hg hch
end
noncomputable abbrev XK:=Value→Option Addr→Hp→Prop
noncomputable abbrev St:=List (Option V)
noncomputable abbrev VK:=V→Hp→Prop
noncomputable abbrev TE:=St→Hp→VK→Prop
noncomputable abbrev TT:=St→Hp→(Bool→Hp→Prop)→Prop
noncomputable abbrev TA:=St→Hp→(List V→Hp→Prop)→Prop
structure pj where
 nx:St→Hp→Prop
 rt:VK
 bk:St→Hp→Prop:=fun _ _=>False
 ct:St→Hp→Prop:=fun _ _=>False
noncomputable abbrev TS:=pj→St→Hp→Prop
noncomputable def EP (X:Cx) (pins:List (Addr × Obj)) (σ:St) (Q:VK) (u:Value) (s':Shared):Prop:=∃ v H',Inv X pins σ H' s'∧zd v u∧Q v H'
noncomputable def TP (X:Cx) (pins:List (Addr × Obj)) (σ:St) (Q:Bool→Hp→Prop) (b:Bool) (s':Shared):Prop:=∃ H',Inv X pins σ H' s'∧Q b H'
noncomputable def AP (X:Cx) (pins:List (Addr × Obj)) (σ:St) (Q:List V→Hp→Prop) (us:List Value) (s':Shared):Prop:=∃ vs H',Inv X pins σ H' s'∧ld vs us∧Q vs H'
noncomputable def SP (X:Cx) (pins:List (Addr × Obj)) (D:pj) (f:Flow) (s':Shared):Prop:=
 match f with
 | .next=>∃ σ' H',Inv X pins σ' H' s'∧D.nx σ' H'
 | .brk=>∃ σ' H',Inv X pins σ' H' s'∧D.bk σ' H'
 | .cont=>∃ σ' H',Inv X pins σ' H' s'∧D.ct σ' H'
 | .ret u=>∃ v σ' H',Inv X pins σ' H' s'∧zd v u∧D.rt v H'
noncomputable def PE (X:Cx) (e:Expr) (t:TE):Prop:=
 ∀ (pins:List (Addr × Obj)) (s:Shared) (σ:St) (H:Hp) (Q:VK),Inv X pins σ H s→t σ H Q→wpAny (model X.prog X.w) X.A (eval e X.env) (EP X pins σ Q) X.xe s
noncomputable def PT (X:Cx) (e:Expr) (t:TT):Prop:=
 ∀ (pins:List (Addr × Obj)) (s:Shared) (σ:St) (H:Hp) (Q:Bool→Hp→Prop),Inv X pins σ H s→t σ H Q→wpAny (model X.prog X.w) X.A (isTrue e X.env (eval e X.env)) (TP X pins σ Q) X.xe s
noncomputable def PW (X:Cx) (e:Expr) (t:TT):Prop:=
 ∀ (whole:Sem Value) (pins:List (Addr × Obj)) (s:Shared) (σ:St) (H:Hp) (Q:Bool→Hp→Prop),Inv X pins σ H s→t σ H Q→wpAny (model X.prog X.w) X.A (isTrue e X.env whole) (TP X pins σ Q) X.xe s
theorem PW.pt {X:Cx} {e:Expr} {t:TT} (h:PW X e t):PT X e t:=h _
noncomputable def PA (X:Cx) (es:List Expr) (t:TA):Prop:=
 ∀ (pos:Pos) (pins:List (Addr × Obj)) (s:Shared) (σ:St) (H:Hp) (Q:List V→Hp→Prop),Inv X pins σ H s→t σ H Q→wpAny (model X.prog X.w) X.A (spliced (backTo pos (starEach es X.env))) (AP X pins σ Q) X.xe s
noncomputable def PS (X:Cx) (st:Stmt) (t:TS):Prop:=
 ∀ (pins:List (Addr × Obj)) (s:Shared) (σ:St) (H:Hp) (D:pj),Inv X pins σ H s→t D σ H→wpAny (model X.prog X.w) X.A (exec st X.env) (SP X pins D) X.xe s
noncomputable def PSs (X:Cx) (st:List Stmt) (t:TS):Prop:=
 ∀ (pins:List (Addr × Obj)) (s:Shared) (σ:St) (H:Hp) (D:pj),Inv X pins σ H s→t D σ H→wpAny (model X.prog X.w) X.A (execs st X.env) (SP X pins D) X.xe s
theorem thn {α:Type} {t:Sem α} {Q Q':α→Shared→Prop} {M:Model} {A:Around} {E:Value→Shared→Prop} {s:Shared} (h:wpAny M A t Q E s) (hQ:∀ a s,Q a s→Q' a s):wpAny M A t Q' E s:=wpAny_mono h hQ fun _ _ x=>x
end L2
namespace L2
open PySem PySem.Spec PyProof.Rows
section
variable {X:Cx}
noncomputable def jL (i:Nat):TE:=fun σ H Q=>∃ v,σ[i]? = some (some v)∧Q v H
noncomputable def tC (v:V):TE:=fun _ H Q=>Q v H
theorem qK {i:Nat} {x:Str} {pos:Pos} (hN:X.N[i]? = some x) (hv:Vis X.env.scope x) (hd:(x == ("__debug__" : Str))=false:=by decide) (hcd:(x == ("__classdict__" : Str))=false:=by decide):PE X (.Name x pos) (jL i):=by
 intro pins s σ H Q I h;obtain ⟨v,e,h⟩:=h;obtain ⟨m,hn,hl⟩:=I.loc;obtain ⟨u,r,l⟩:=hl i x v hN e hv;have fin:EP X pins σ Q u s:=⟨v,H,I,r,h⟩;rcases l with ⟨hk,hm⟩ | ⟨hk,c,hc,hcell⟩
 ·exact wpAny_Name (wpAny_loadName_local I.ok.kind hk hn hm fin) hd
 ·rcases hk with hk | hk
  ·exact wpAny_Name (wpAny_loadName_cell I.ok.kind hk hc hcell fin) hd
  ·exact wpAny_Name (wpAny_loadName_free I.ok.kind hk hc hcell fin hcd) hd
theorem ub {i j pos}:PE X (.Constant (.int i) j pos) (tC (.int i)):=fun _ _ _ H _ I h=>wpAny_Constant_int ⟨.int i,H,I.tok _,⟨_,rfl⟩,h⟩
theorem Yo {b j pos}:PE X (.Constant (.bool b) j pos) (tC (.bl b)):=fun _ _ _ H _ I h=>Constant_bool ⟨.bl b,H,I,rfl,h⟩
theorem MC {j pos}:PE X (.Constant .none j pos) (tC .non):=fun _ _ _ H _ I h=>Constant_none ⟨.non,H,I,rfl,h⟩
theorem Rc {x j pos}:PE X (.Constant (.str x) j pos) (tC (.str x)):=fun _ _ _ H _ I h=>Calls.Constant_str ⟨.str x,H,I.tok _,⟨_,rfl⟩,h⟩
noncomputable def Gl (X:Cx) (x:Str):Prop:=X.env.kindOf x=some .globalImplicit
theorem gu {E:Value→Shared→Prop} {pins:List (Addr × Obj)} {s:Shared} {σ:St} {H:Hp} {x:Str} {u:Value} {pos:Pos} {Q:Value→Shared→Prop} (I:Inv X pins σ H s) (hg:Gl X x) (hm:X.mg x=some u) (h:Q u s)
  (hd:(x == ("__debug__" : Str))=false:=by decide):wpAny (model X.prog X.w) X.A (eval (.Name x pos) X.env) Q E s:=
 Calls.Name_function_global I.ok.kind hg (Calls.loadGlobal_global (by rw [I.ok.glob];exact I.mod.glob.keeps I.bk) hm h) hd
theorem il {E:Value→Shared→Prop} {pins:List (Addr × Obj)} {s:Shared} {σ:St} {H:Hp} {x:Str} {u:Value} {pos:Pos} {Q:Value→Shared→Prop} (I:Inv X pins σ H s) (hg:Gl X x) (hm:X.mg x=none) (hv:bootBuiltins x=some u) (h:Q u s)
  (hn:x ≠ "__name__" := by decide) (hd:(x == ("__debug__" : Str))=false:=by decide):wpAny (model X.prog X.w) X.A (eval (.Name x pos) X.env) Q E s:=by
 obtain ⟨mb,h1,h2⟩:=I.mod.blt;exact Calls.Name_function_global I.ok.kind hg (Calls.loadGlobal_builtin (by rw [I.ok.glob];exact I.mod.glob.keeps I.bk) hm (by rw [I.ok.blt];exact h1.keeps I.bk) ((h2 x hn).trans hv) h) hd
theorem Cg {x:Str} {v:V} {u:Value} {pos:Pos} (hg:Gl X x) (hm:X.mg x=some u) (r:zd v u) (hd:(x == ("__debug__" : Str))=false:=by decide):PE X (.Name x pos) (tC v):=
 fun _ _ _ H _ I h=>gu I hg hm ⟨v,H,I,r,h⟩ hd
theorem kD {x:Str} {v:V} {u:Value} {pos:Pos} (hg:Gl X x) (hm:X.mg x=none) (hv:bootBuiltins x=some u) (r:zd v u) (hn:x ≠ "__name__" := by decide) (hd:(x == ("__debug__" : Str))=false:=by decide):PE X (.Name x pos) (tC v):=
 fun _ _ _ H _ I h=>il I hg hm hv ⟨v,H,I,r,h⟩ hn hd
variable {a b:Expr} {ta tb:TE} {pos:Pos}
noncomputable def PC (X:Cx) (op:CmpOp) (a b:Expr) (t:TE):Prop:=
 ∀ (pins:List (Addr × Obj)) (s:Shared) (σ:St) (H:Hp) (Q:VK),Inv X pins σ H s→t σ H Q →
  wpAny (model X.prog X.w) X.A (eval a X.env) (fun v s₁=>wpAny (model X.prog X.w) X.A (eval b X.env) (fun u s₂=>wpAny (model X.prog X.w) X.A (compareOp op v u) (EP X pins σ Q) X.xe s₂) X.xe s₁) X.xe s
theorem BE (b:Expr) {op:CmpOp} (h:op ≠ .In) (h2:op ≠ .NotIn):behindInMarks op b=false:=by
 have e1:(op == CmpOp.In)=false:=by cases op <;> first | rfl | exact absurd rfl h
 have e2:(op == CmpOp.NotIn)=false:=by cases op <;> first | rfl | exact absurd rfl h2
 cases b <;> simp [behindInMarks,e1,e2]
noncomputable def tB (t:TE):TT:=fun σ H Q=>t σ H fun x H1=>∃ c,x=.bl c∧Q c H1
theorem ZI {op:CmpOp} {t:TE} (h:PC X op a b t) (h1:behindInMarks op b=false:=by first | exact BE _ (by decide) (by decide) | rfl):PT X (.Compare a [op] [b] pos) (tB t):=by
 intro pins s σ H Q I hw;refine wpAny_isTrue_Compare1 (thn (h pins s σ H _ I hw) fun v s1 h1=>thn h1 fun u s2 h2=>thn h2 fun c s3 hZ1=>?_) h1;obtain ⟨x,H1,I1,r1,q1⟩:=hZ1;obtain ⟨d,rfl,q⟩:=q1;cases r1;exact wpAny_truthy_bool ⟨H1,I1,q⟩
theorem Qk {e:Expr} {t:TE} (h:PE X e t) (he:∀ whole,isTrue e X.env whole=(do let v ← whole;standAt e.pos;holding [v] (truthy v)):=by intro _;rfl):PT X e (tB t):=by
 intro pins s σ H Q I hw;refine isTrue_plain (thn (h pins s σ H _ I hw) fun v s1 hZ1=>?_) (he _);obtain ⟨x,H1,I1,r1,q1⟩:=hZ1;obtain ⟨d,rfl,q⟩:=q1;cases r1;exact wpAny_truthy_bool ⟨H1,I1,q⟩
variable {tA tB':TT} {pA:List Expr}
noncomputable def bM (t u:TT):TT:=fun σ H Q=>t σ H fun c H1=>if c=true then u σ H1 Q else Q false H1
noncomputable def tOr (t u:TT):TT:=fun σ H Q=>t σ H fun c H1=>if c=true then Q true H1 else u σ H1 Q
noncomputable def xM (t:TT):TT:=fun σ H Q=>t σ H fun c H1=>Q (!c) H1
theorem Dx (ha:PT X a tA):PW X (.BoolOp .And [a] pos) tA:=by
 intro wh pins s σ H Q I h;refine isTrue_and (thn (ha pins s σ H Q I h) fun c s1 e=>?_);cases c with
 | true=>exact isTrue_and_nil e
 | false=>exact e
theorem Ro (ha:PT X a tA):PW X (.BoolOp .Or [a] pos) tA:=by
 intro wh pins s σ H Q I h;refine isTrue_or (thn (ha pins s σ H Q I h) fun c s1 e=>?_);cases c with
 | false=>exact isTrue_or_nil e
 | true=>exact e
theorem FB (ha:PT X a tA) (hb:PW X (.BoolOp .And (b :: pA) pos) tB'):PW X (.BoolOp .And (a :: b :: pA) pos) (bM tA tB'):=by
 intro wh pins s σ H Q I h;refine isTrue_and (thn (ha pins s σ H _ I h) fun c s1 hZ1=>?_);obtain ⟨H1,I1,q1⟩:=hZ1;cases c with
 | true=>exact hb wh pins s1 σ H1 Q I1 q1
 | false=>exact ⟨H1,I1,q1⟩
theorem Lw (ha:PT X a tA) (hb:PW X (.BoolOp .Or (b :: pA) pos) tB'):PW X (.BoolOp .Or (a :: b :: pA) pos) (tOr tA tB'):=by
 intro wh pins s σ H Q I h;refine isTrue_or (thn (ha pins s σ H _ I h) fun c s1 hZ1=>?_);obtain ⟨H1,I1,q1⟩:=hZ1;cases c with
 | true=>exact ⟨H1,I1,q1⟩
 | false=>exact hb wh pins s1 σ H1 Q I1 q1
theorem Lp (ha:PT X a tA):PT X (.UnaryOp .Not a pos) (xM tA):=by
 intro pins s σ H Q I h;exact isTrue_not (ha pins s σ H (fun c H1=>Q (!c) H1) I h)
noncomputable def cK (ta tb:TE):TE:=fun σ H Q=>ta σ H fun x H1=>∃ c,x=.bl c∧if c=true then tb σ H1 Q else Q (.bl false) H1
noncomputable def SL (ta tb:TE):TE:=fun σ H Q=>ta σ H fun x H1=>∃ c,x=.bl c∧if c=true then Q (.bl true) H1 else tb σ H1 Q
theorem wy {op} {t:TE} (h:PE X a t):PE X (.BoolOp op [a] pos) t:=fun pins s σ H Q I hw=>BoolOp_one (h pins s σ H Q I hw)
theorem LF (ha:PE X a ta) (hb:PE X (.BoolOp .And (b :: pA) pos) tb):PE X (.BoolOp .And (a :: b :: pA) pos) (cK ta tb):=by
 intro pins s σ H Q I h;refine BoolOp_and (thn (ha pins s σ H _ I h) fun v s1 hZ1=>?_);obtain ⟨x,H1,I1,r1,q1⟩:=hZ1;obtain ⟨c,rfl,q1⟩:=q1;cases r1;refine wpAny_truthy_bool ?_;cases c with
 | true=>exact hb pins s1 σ H1 Q I1 q1
 | false=>exact ⟨.bl false,H1,I1,rfl,q1⟩
theorem RI (ha:PE X a ta) (hb:PE X (.BoolOp .Or (b :: pA) pos) tb):PE X (.BoolOp .Or (a :: b :: pA) pos) (SL ta tb):=by
 intro pins s σ H Q I h;refine BoolOp_or (thn (ha pins s σ H _ I h) fun v s1 hZ1=>?_);obtain ⟨x,H1,I1,r1,q1⟩:=hZ1;obtain ⟨c,rfl,q1⟩:=q1;cases r1;refine wpAny_truthy_bool ?_;cases c with
 | false=>exact hb pins s1 σ H1 Q I1 q1
 | true=>exact ⟨.bl true,H1,I1,rfl,q1⟩
noncomputable def tIf (t:TT) (ta tb:TE):TE:=fun σ H Q=>t σ H fun c H1=>if c=true then ta σ H1 Q else tb σ H1 Q
theorem qk {c:Expr} (hc:PT X c tA) (ha:PE X a ta) (hb:PE X b tb):PE X (.IfExp c a b pos) (tIf tA ta tb):=by
 intro pins s σ H Q I h;refine wpAny_IfExp (thn (hc pins s σ H _ I h) fun d s1 hZ1=>?_);obtain ⟨H1,I1,q1⟩:=hZ1;cases d with
 | true=>exact ha pins s1 σ H1 Q I1 q1
 | false=>exact hb pins s1 σ H1 Q I1 q1
end
end L2
namespace L2
open PySem PySem.Spec PyProof.Rows
noncomputable def SqL (K:PySem.W.Frag) (H:Hp) (a:Addr) (xs:List V):Prop:=
 Rd H a (.lst xs) ∨
  ∃ (o:Obj) (its:Array Value) (n:Nat),K.lookup a=some o∧o.cls=.type "list" ∧ o.dict=none∧o.data=.seq its n∧its.size ≤ sizeLine∧ld xs its.toList
noncomputable def SqT (K:PySem.W.Frag) (H:Hp) (a:Addr) (xs:List V):Prop:=
 Rd H a (.tup xs) ∨
  ∃ (o:Obj) (its:Array Value) (n:Nat),K.lookup a=some o∧o.cls=.type "tuple" ∧ o.data=.seq its n∧its.size ≤ sizeLine∧ld xs its.toList
noncomputable def FM:Value→Option V
 | .none=>some .non
 | .bool b=>some (.bl b)
 | .int i _=>some (.int i)
 | .str x _=>some (.str x)
 | .bytes b _=>some (.byt b)
 | .float b _=>some (.flt b)
 | .ref a=>some (.ref a)
 | .type n=>some (.ty n)
 | _=>none
theorem zd.abs {x:V} {u:Value} (r:zd x u):FM u=some x:=by
 cases x with
 | non=>cases r;rfl
 | bl _=>cases r;rfl
 | int _=>obtain ⟨t,rfl⟩:=r;rfl
 | str _=>obtain ⟨t,rfl⟩:=r;rfl
 | byt _=>obtain ⟨t,rfl⟩:=r;rfl
 | flt _=>obtain ⟨t,rfl⟩:=r;rfl
 | ref _=>cases r;rfl
 | ty _=>cases r;rfl
theorem zd.inj {x y:V} {u:Value} (r:zd x u) (q:zd y u):x=y:=Option.some.inj (r.abs.symm.trans q.abs)
theorem ld.inj:∀ {xs ys:List V} {us:List Value},ld xs us→ld ys us→xs=ys
 | _,_,_,.nil,.nil=>rfl
 | _,_,_,.cons r t,.cons r' t'=>by rw [r.inj r',ld.inj t t']
section
variable {X:Cx} {pins:List (Addr × Obj)} {σ:St} {H:Hp} {s:Shared} {a:Addr} {xs ys:List V}
theorem SqL.of {K:PySem.W.Frag} (h:H a=some (.lst xs)):SqL K H a xs:=.inl (.inl h)
theorem SqT.of {K:PySem.W.Frag} (h:H a=some (.tup xs)):SqT K H a xs:=.inl (.inl h)
theorem Inv.list (I:Inv X pins σ H s) (h:SqL X.K H a xs):∃ its:List Value,ld xs its∧PlainL s.heap a its.toArray∧xs.length ≤ sizeLine:=by
 rcases h with h | ⟨o,its,n,hk,hc,hd,hs,hz,r⟩
 ·obtain ⟨z,its,n,r,e⟩:=h.ok I.hok;exact ⟨its,r,⟨_,n,e,rfl,rfl,rfl⟩,z⟩
 ·refine ⟨its.toList,r,⟨o,n,I.kIn a o hk,hc,hd,by simpa using hs⟩,?_⟩;have e:=r.length;simp only [Array.length_toList] at e;omega
theorem Inv.tuple (I:Inv X pins σ H s) (h:SqT X.K H a xs):∃ its:List Value,ld xs its∧IsTup s.heap a its.toArray∧xs.length ≤ sizeLine:=by
 rcases h with h | ⟨o,its,n,hk,hc,hs,hz,r⟩
 ·obtain ⟨z,its,r,p⟩:=h.ok I.hok;exact ⟨its,r,p,z⟩
 ·refine ⟨its.toList,r,⟨o,I.kIn a o hk,hc,n,by simpa using hs⟩,?_⟩;have e:=r.length;simp only [Array.length_toList] at e;omega
theorem Inv.list_inj (I:Inv X pins σ H s) (h:SqL X.K H a xs) (h':SqL X.K H a ys):xs=ys:=by
 obtain ⟨its,r,⟨o,n,e,_,_,d⟩,_⟩:=I.list h;obtain ⟨its',r',⟨o',n',e',_,_,d'⟩,_⟩:=I.list h';rw [e] at e';cases e';rw [d] at d';injection d' with d1 _;have:its=its':=by simpa using congrArg Array.toList d1
 subst this;exact r.inj r'
theorem Inv.tuple_inj (I:Inv X pins σ H s) (h:SqT X.K H a xs) (h':SqT X.K H a ys):xs=ys:=by
 obtain ⟨its,r,⟨o,e,_,n,d⟩,_⟩:=I.tuple h;obtain ⟨its',r',⟨o',e',_,n',d'⟩,_⟩:=I.tuple h';rw [e] at e';cases e';rw [d] at d';injection d' with d1 _;have:its=its':=by simpa using congrArg Array.toList d1
 subst this;exact r.inj r'
end
noncomputable abbrev Cx.wish (X:Cx) (E:Value→Shared→Prop):Cx:={ X with xe:=E }
noncomputable abbrev Cx.nox (X:Cx):Cx:=X.wish fun _ _=>False
theorem Cx.Ok.wish {X:Cx} (ok:X.Ok) (E:Value→Shared→Prop):(X.wish E).Ok:=
 ⟨ok.mod,ok.kind,ok.glob,ok.blt,ok.above,ok.inj,ok.has,ok.cab,ok.hd,ok.frames,ok.stk,ok.exf,ok.bs,ok.bsz,ok.noex,ok.exfs,ok.funs,ok.frf⟩
theorem Cx.Ok.unwish {X:Cx} {E:Value→Shared→Prop} (ok:(X.wish E).Ok):X.Ok:=
 ⟨ok.mod,ok.kind,ok.glob,ok.blt,ok.above,ok.inj,ok.has,ok.cab,ok.hd,ok.frames,ok.stk,ok.exf,ok.bs,ok.bsz,ok.noex,ok.exfs,ok.funs,ok.frf⟩
section
variable {X:Cx} {pins:List (Addr × Obj)} {σ:St} {H:Hp} {s:Shared} {E:Value→Shared→Prop}
theorem Inv.wish (I:Inv X pins σ H s) (E:Value→Shared→Prop):Inv (X.wish E) pins σ H s:=⟨I.ok.wish E,I.os,I.bare,I.base,I.loc,I.cell,I.free,I.freeC,I.pin,I.hok,I.len⟩
theorem Inv.unwish (I:Inv (X.wish E) pins σ H s):Inv X pins σ H s:=⟨I.ok.unwish,I.os,I.bare,I.base,I.loc,I.cell,I.free,I.freeC,I.pin,I.hok,I.len⟩
theorem SP.unwish {D:pj} {f:Flow} {s':Shared} (h:SP (X.wish E) pins D f s'):SP X pins D f s':=by
 cases f with
 | next=>obtain ⟨σ',H',I,q⟩:=h;exact ⟨σ',H',I.unwish,q⟩
 | brk=>obtain ⟨σ',H',I,q⟩:=h;exact ⟨σ',H',I.unwish,q⟩
 | cont=>obtain ⟨σ',H',I,q⟩:=h;exact ⟨σ',H',I.unwish,q⟩
 | ret u=>obtain ⟨v,σ',H',I,r,q⟩:=h;exact ⟨v,σ',H',I.unwish,r,q⟩
theorem PE.nox {e:Expr} {t:TE} (h:PE X.nox e t):PE X e t:=fun pins s σ H Q I hw=>
 wpAny_mono (h pins s σ H Q (I.wish _) hw) (fun _ _ ⟨v,H',I',r,q⟩=>⟨v,H',I'.unwish,r,q⟩) fun _ _ z=>False.elim z
theorem PT.nox {e:Expr} {t:TT} (h:PT X.nox e t):PT X e t:=fun pins s σ H Q I hw=>
 wpAny_mono (h pins s σ H Q (I.wish _) hw) (fun _ _ ⟨H',I',q⟩=>⟨H',I'.unwish,q⟩) fun _ _ z=>False.elim z
theorem PSs.nox {st:List Stmt} {t:TS} (h:PSs X.nox st t):PSs X st t:=fun pins s σ H D I hw=>
 wpAny_mono (h pins s σ H D (I.wish _) hw) (fun _ _ q=>q.unwish) fun _ _ z=>False.elim z
end
section
variable {X:Cx} {st:Stmt} {pA:List Stmt} {t u:TS} {e:Expr} {te:TE} {pos:Pos}
noncomputable def pJ:TS:=fun D σ H=>D.nx σ H
noncomputable def VL (t u:TS):TS:=fun D σ H=>t { D with nx:=u D } σ H
theorem Ec:PSs X [] pJ:=fun _ _ σ H _ I h=>wpAny_execs_nil ⟨σ,H,I,h⟩
theorem cb (h1:PS X st t) (h2:PSs X pA u):PSs X (st :: pA) (VL t u):=by
 intro pins s σ H D I h;refine wpAny_execs_cons (thn (h1 pins s σ H { D with nx:=u D } I h) fun f s1 q=>?_);cases f with
 | next=>
  obtain ⟨σ',H',I',q⟩:=q;exact h2 pins s1 σ' H' D I' q
 | ret v=>exact q
 | brk=>exact q
 | cont=>exact q
theorem pb (h1:PS X st t):PSs X [st] t:=by
 intro pins s σ H D I h;refine wpAny_execs_cons (thn (h1 pins s σ H D I h) fun f s1 q=>?_);cases f with
 | next=>exact wpAny_execs_nil q
 | ret v=>exact q
 | brk=>exact q
 | cont=>exact q
theorem Inv.quiet {pins:List (Addr × Obj)} {σ:St} {H:Hp} {s:Shared} (I:Inv X pins σ H s):interactive X.env=false:=by simp [interactive,I.ok.kind]
noncomputable def VJ (te:TE):TS:=fun D σ H=>te σ H fun _ H1=>D.nx σ H1
theorem xc (he:PE X e te) (hs:swapsWith e none pos.line X.env=pure false:=by rfl):PS X (.Expr e pos) (VJ te):=by
 intro pins s σ H D I h;exact wpAny_Expr_any (thn (he pins s σ H _ I h) fun v s1 ⟨x,H1,I1,r1,q1⟩=>⟨σ,H1,I1,q1⟩) I.quiet hs
noncomputable def vL (te:TE):TS:=fun D σ H=>te σ H D.rt
theorem Jb (he:PE X e te):PS X (.Return (some e) pos) (vL te):=by
 intro pins s σ H D I h;exact wpAny_Return_some (thn (he pins s σ H _ I h) fun v s1 ⟨x,H1,I1,r1,q1⟩=>⟨x,σ,H1,I1,r1,q1⟩)
noncomputable def nL (c:TT) (t u:TS):TS:=fun D σ H=>c σ H fun b H1=>if b=true then t D σ H1 else u D σ H1
theorem Ye {c:Expr} {a b:List Stmt} {tc:TT} (hc:PT X c tc) (ha:PSs X a t) (hb:PSs X b u):PS X (.If c a b pos) (nL tc t u):=by
 intro pins s σ H D I h;refine wpAny_If (thn (hc pins s σ H _ I h) fun d s1 hZ1=>?_);obtain ⟨H1,I1,q1⟩:=hZ1;cases d with
 | true=>exact ha pins s1 σ H1 D I1 q1
 | false=>exact hb pins s1 σ H1 D I1 q1
noncomputable def MF:TS:=fun _ _ _=>False
theorem Qg:PS X st MF:=fun _ _ _ _ _ _ h=>h.elim
end
noncomputable abbrev TG:=V→St→Hp→(St→Hp→Prop)→Prop
noncomputable abbrev TGs:=List V→St→Hp→(St→Hp→Prop)→Prop
noncomputable def PG (X:Cx) (target:Expr) (t:TG):Prop:=
 ∀ (pins:List (Addr × Obj)) (s:Shared) (σ:St) (H:Hp) (v:V) (u:Value) (Q:St→Hp→Prop),Inv X pins σ H s→zd v u→t v σ H Q →
  wpAny (model X.prog X.w) X.A (assign target X.env u) (fun _ s'=>∃ σ' H',Inv X pins σ' H' s'∧Q σ' H') X.xe s
noncomputable def PGs (X:Cx) (ts:List Expr) (t:TGs):Prop:=
 ∀ (pins:List (Addr × Obj)) (s:Shared) (σ:St) (H:Hp) (vs:List V) (us:List Value) (Q:St→Hp→Prop),Inv X pins σ H s→ld vs us→t vs σ H Q →
  wpAny (model X.prog X.w) X.A (assignInOrder ((assignEach ts X.env).map (·.2)) us) (fun _ s'=>∃ σ' H',Inv X pins σ' H' s'∧Q σ' H') X.xe s
noncomputable abbrev PK:=V→V→V→Hp→(Hp→Prop)→Prop
noncomputable def fM (X:Cx) (t:PK):Prop:=
 ∀ (pins:List (Addr × Obj)) (s:Shared) (σ:St) (H:Hp) (o i v:V) (ov iv u:Value) (Q:Hp→Prop),Inv X pins σ H s→zd o ov→zd i iv→zd v u→t o i v H Q →
  wpAny (model X.prog X.w) X.A (setItem ov iv u) (fun _ s'=>∃ H',Inv X pins σ H' s'∧Q H') X.xe s
noncomputable abbrev TIp:=V→V→Hp→VK→Prop
noncomputable def PIp (X:Cx) (op:Operator) (t:TIp):Prop:=
 ∀ (pins:List (Addr × Obj)) (s:Shared) (σ:St) (H:Hp) (x y:V) (v u:Value) (Q:VK),Inv X pins σ H s→zd x v→zd y u→t x y H Q →
  wpAny (model X.prog X.w) X.A (inplaceOp op v u) (EP X pins σ Q) X.xe s
section
variable {X:Cx} {pos:Pos}
noncomputable def Tv (i:Nat):TG:=fun v σ H Q=>Q (σ.set i (some v)) H
theorem xb {i:Nat} {x:Str} (hN:X.N.Nodup) (hi:X.N[i]? = some x) (hx:Loc X.env.scope x) (hf:X.fn x=true∨X.env.scope.names.lookup x=some .local:=by first | exact .inl rfl | exact .inr rfl | assumption):PG X (.Name x pos) (Tv i):=by
 intro pins s σ H v u Q I r h;exact wpAny_assign_Name (fu I hN hi hx r (fun s' I'=>⟨_,H,I',h⟩) hf)
noncomputable def UK:TGs:=fun vs σ H Q=>vs=[]∧Q σ H
noncomputable def Bz (t:TG) (u:TGs):TGs:=fun vs σ H Q=>∃ v r,vs=v :: r∧t v σ H fun σ' H'=>u r σ' H' Q
theorem Ud:PGs X [] UK:=by
 intro pins s σ H vs us Q I r h;obtain ⟨e,h⟩:=h;subst e;cases r;exact assignInOrder_nil ⟨σ,H,I,h⟩
theorem Eb {e:Expr} {es:List Expr} {t:TG} {u:TGs} (h1:PG X e t) (h2:PGs X es u)
  (hs:(assignEach (e :: es) X.env).map (·.2)=assign e X.env :: (assignEach es X.env).map (·.2):=by rfl):PGs X (e :: es) (Bz t u):=by
 intro pins s σ H vs us Q I r h;obtain ⟨v,vr,e1,h⟩:=h;subst e1;cases r with
 | cons r rr=>
  rw [hs];refine assignInOrder_cons (thn (h1 pins s σ H _ _ _ I r h) fun _ s1 hZ1=>?_);obtain ⟨σ1,H1,I1,q1⟩:=hZ1;exact h2 pins s1 σ1 H1 _ _ Q I1 rr q1
noncomputable def IJ (K:PySem.W.Frag) (n:Nat) (t:TGs):TG:=fun v σ H Q=>∃ a xs,v=.ref a∧SqT K H a xs∧xs.length=n∧t xs σ H Q
theorem cJ {es:List Expr} {k:Nat} {t:TGs} {n:Nat} (hc:X.calm=true) (h:PGs X es t)
  (hn:(assignEach es X.env).length=n:=by rfl) (hst:(assignEach es X.env).findIdx? (·.1)=none:=by rfl):PG X (.Tuple es k pos) (IJ X.K n t):=by
 intro pins s σ H v u Q I r hw;obtain ⟨a,xs,e1,hq,hl,hw⟩:=hw;subst e1;cases r;obtain ⟨its,rv,ht,hz⟩:=I.tuple hq;refine assign_Tuple_tuple (I.ok.hd hc) ht (by simp [hn,← hl,rv.length]) hst fun h' hx=>?_
 have I1:Inv X pins σ H { s with heap:=h' }:=I.kept (t':=s.toks) fun b o e=>hx b o (Nat.ne_of_lt (Heap.lt_size e)) e
 exact h pins _ σ H xs _ Q I1 (by simpa using rv) hw
noncomputable def sM (to ti:TE) (t:PK):TG:=fun v σ H Q=>to σ H fun o H1=>ti σ H1 fun i H2=>t o i v H2 fun H3=>Q σ H3
theorem jy {o i:Expr} {to ti:TE} {t:PK} (ho:PE X o to) (hi:PE X i ti) (hs:fM X t)
  (ha:∀ v,assign (.Subscript o i pos) X.env v=(do
   let ov ← holding [v] (eval o X.env)
   let iv ← holding [v,ov] (eval i X.env)
   standAt pos
   holding [v,ov,iv] (setItem ov iv v)
   release [v,ov,iv] []):=by intro _;rfl):PG X (.Subscript o i pos) (sM to ti t):=by
 intro pins s σ H v u Q I r h;rw [ha];refine wpAny_bind (wpAny_holding (thn (ho pins s σ H _ I h) fun ov s1 hZ1=>?_));obtain ⟨x,H1,I1,r1,q1⟩:=hZ1;refine wpAny_bind (wpAny_holding (thn (hi pins s1 σ H1 _ I1 q1) fun iv s2 hZ1=>?_));obtain ⟨y,H2,I2,r2,q2⟩:=hZ1;refine wpAny_bind (wpAny_standAt (wpAny_bind (wpAny_holding (thn (hs pins s2 σ H2 x y v ov iv u _ I2 r1 r2 r q2) fun _ s3 hZ1=>?_))));obtain ⟨H3,I3,q3⟩:=hZ1;exact wpAny_release ⟨σ,H3,I3,q3⟩
noncomputable def QK (te:TE) (g:TG):TS:=fun D σ H=>te σ H fun x H1=>g x σ H1 D.nx
theorem mm {tg e:Expr} {te:TE} {g:TG} (he:PE X e te) (hg:PG X tg g) (hs:swapsWithSole [tg] e pos.line X.env=pure false:=by rfl) (hw:swappedStores [tg] e X.env=pure none:=by rfl)
  (h1:(assignEach [tg] X.env).map (·.2)=[assign tg X.env]:=by rfl):PS X (.Assign [tg] e pos) (QK te g):=by
 intro pins s σ H D I h;refine wpAny_Assign_stores (thn (he pins s σ H _ I h) fun v s1 hZ1=>?_) hs hw;obtain ⟨x,H1,I1,r1,q1⟩:=hZ1;rw [h1];exact thn (hg pins s1 σ H1 x v _ I1 r1 q1) fun _ s2 q=>q
theorem Bb {i:Nat} {x:Str} {e:Expr} {te:TE} {pos':Pos} (hN:X.N.Nodup) (hi:X.N[i]? = some x) (hx:Loc X.env.scope x) (he:PE X e te) (hs:swapsWith e (some (.Name x pos')) pos.line X.env=pure false:=by rfl) (hf:X.fn x=true∨X.env.scope.names.lookup x=some .local:=by first | exact .inl rfl | exact .inr rfl | assumption) :
  PS X (.Assign [.Name x pos'] e pos) (QK te (Tv i)):=by
 intro pins s σ H D I h;refine wpAny_Assign_Name (thn (he pins s σ H _ I h) fun v s1 hZ1=>?_) hs;obtain ⟨y,H1,I1,r1,q1⟩:=hZ1;exact fu I1 hN hi hx r1 (fun s2 I2=>⟨_,H1,I2,q1⟩) hf
noncomputable def qM (i:Nat) (te:TE) (ti:TIp):TS:=fun D σ H=>∃ x,σ[i]? = some (some x)∧te σ H fun y H1=>ti x y H1 fun z H2=>D.nx (σ.set i (some z)) H2
theorem EC {i:Nat} {x:Str} {e:Expr} {te:TE} {op:Operator} {ti:TIp} {pos':Pos} (hN:X.N.Nodup) (hi:X.N[i]? = some x) (hx:Loc X.env.scope x) (he:PE X e te) (ho:PIp X op ti) (hf:X.fn x=true∨X.env.scope.names.lookup x=some .local:=by first | exact .inl rfl | exact .inr rfl | assumption) :
  PS X (.AugAssign (.Name x pos') op e pos) (qM i te ti):=by
 intro pins s σ H D I h;obtain ⟨v,e1,h⟩:=h;obtain ⟨m,hn,hl⟩:=I.loc;have vis:Vis X.env.scope x:=by rcases hx with k | k;exact .inl k;exact .inr (.inl k)
 obtain ⟨u,r,l⟩:=hl i x v hi e1 vis;refine wpAny_AugAssign_Name ?_;have go:wpAny (model X.prog X.w) X.A (eval e X.env) (fun w s₂=>wpAny (model X.prog X.w) X.A (inplaceOp op u w) (fun r s₃=>wpAny (model X.prog X.w) X.A (storeName X.env x r) (fun _=>SP X pins D .next) X.xe s₃) X.xe s₂) X.xe s:=by
  refine thn (he pins s σ H _ I h) fun w s1 hZ1=>?_
  obtain ⟨y,H1,I1,r1,q1⟩:=hZ1;refine thn (ho pins s1 σ H1 v y u w _ I1 r r1 q1) fun z s2 hZ1=>?_
  obtain ⟨zv,H2,I2,r2,q2⟩:=hZ1;exact fu I2 hN hi hx r2 (fun s3 I3=>⟨_,H2,I3,q2⟩) hf
 rcases l with ⟨hk,hm⟩ | ⟨hk,c,hc,hcell⟩
 ·exact wpAny_loadName_local I.ok.kind hk hn hm go
 ·rcases hk with hk | hk
  ·exact wpAny_loadName_cell I.ok.kind hk hc hcell go
  ·rcases hx with k | k
   ·have:X.env.scope.names.lookup x=some .free:=hk;rw [k] at this;cases this
   ·have:X.env.scope.names.lookup x=some .free:=hk;rw [k] at this;cases this
noncomputable def ipI (f:Int→Int→Int):TIp:=fun x y H Q=>∃ i j,x=.int i∧y=.int j∧Q (.int (f i j)) H
theorem zG:PIp X .Add (ipI fun i j=>i + j):=by
 intro pins s σ H x y v u Q I r1 r2 h;obtain ⟨i,j,e1,e2,q⟩:=h;subst e1;subst e2;obtain ⟨t,rfl⟩:=r1;obtain ⟨t',rfl⟩:=r2;exact iadd_int ⟨.int _,H,I.tok _,⟨_,rfl⟩,q⟩
theorem mJ:PIp X .Sub (ipI fun i j=>i - j):=by
 intro pins s σ H x y v u Q I r1 r2 h;obtain ⟨i,j,e1,e2,q⟩:=h;subst e1;subst e2;obtain ⟨t,rfl⟩:=r1;obtain ⟨t',rfl⟩:=r2;exact isub_int ⟨.int _,H,I.tok _,⟨_,rfl⟩,q⟩
end
section
variable {X:Cx} {pos:Pos}
noncomputable def tG (c:TT) (tb:TS):TS:=fun D σ H=>∃ W:Nat→St→Hp→Prop,(∃ m,W m σ H)∧∀ m σ H,W m σ H →
 c σ H fun b H1=>if b=true then ∃ N:St→Hp→Prop,(∀ σ' H',N σ' H'→∃ m',m' < m∧W m' σ' H')∧tb { D with nx:=N,ct:=N,bk:=D.nx } σ H1 else D.nx σ H1
theorem yF {c:Expr} {body:List Stmt} {tc:TT} {tb:TS} (hp:PassesOwn (model X.prog X.w) X.A X.env X.xe) (hc:PT X c tc) (hb:PSs X body tb):PS X (.While c body [] pos) (tG tc tb):=by
 intro pins s σ H D I h;obtain ⟨W,⟨m0,w0⟩,turn⟩:=h;refine wpAny_While (codeAny_whileLoop (fun n s'=>∃ σ' H',Inv X pins σ' H' s'∧W n σ' H') ?_ m0 ⟨σ,H,I,w0⟩);rintro n s1 ⟨σ1,H1,I1,w1⟩;refine wpAny_passesOwn hp (thn (hc pins s1 σ1 H1 _ I1 (turn n σ1 H1 w1)) fun b s2 hZ1=>?_);obtain ⟨H2,I2,q2⟩:=hZ1;cases b with
 | true=>
  obtain ⟨N,hN,q2⟩:=q2;rw [if_pos rfl];refine wpAny_passesOwn hp (thn (hb pins s2 σ1 H2 _ I2 q2) fun f s3 q3=>?_);cases f with
  | next=>
   obtain ⟨σ3,H3,I3,n3⟩:=q3;obtain ⟨m',hm,w3⟩:=hN σ3 H3 n3;exact ⟨m',hm,σ3,H3,I3,w3⟩
  | cont=>
   obtain ⟨σ3,H3,I3,n3⟩:=q3;obtain ⟨m',hm,w3⟩:=hN σ3 H3 n3;exact ⟨m',hm,σ3,H3,I3,w3⟩
  | brk=>exact q3
  | ret v=>exact q3
 | false=>
  rw [if_neg Bool.false_ne_true];exact wpAny_execs_nil ⟨σ1,H2,I2,q2⟩
end
structure It where
 go:Nat→Hp→Prop
 yld:Nat→Hp→V→Hp→Prop
 stop:Nat→Hp→Prop
noncomputable def zu (X:Cx) (pins:List (Addr × Obj)) (H:Hp) (b:Addr):Prop:=
 H b=none∧b ≠ X.env.locals∧b ∉ X.fs∧(b ∈ X.ex∨X.s₀.heap.objs.size ≤ b)∧(∀ x c,X.env.cells.lookup x=some c→c ≠ b)∧∀ p ∈ X.pn ++ pins,p.1 ≠ b
theorem Inv.fpOk {X:Cx} {pins:List (Addr × Obj)} {σ:St} {H H':Hp} {s:Shared} {b:Addr} (I:Inv X pins σ H s) (hb:s.heap.objs.size ≤ b) (hn:H' b=none):zu X pins H' b:=by
 refine ⟨hn,Nat.ne_of_gt (Nat.lt_of_lt_of_le I.lt hb),I.nofs hb,.inr (Nat.le_trans I.sz hb),fun x c e z=>?_,fun p hp z=>?_⟩
 ·obtain ⟨v,q⟩:=I.cell x c e;exact absurd (Nat.lt_of_lt_of_le q.lt (by rw [z];exact hb)) (Nat.lt_irrefl _)
 ·exact absurd (Nat.lt_of_lt_of_le (Heap.lt_size (I.pin p hp).1) (by rw [z];exact hb)) (Nat.lt_irrefl _)
structure qG (P:Program) (w:World) (K:PySem.W.Frag) (tg:Expr) (J:It) (fp:List Addr) (it:Addr) (tn:Nat→Heap→Prop):Prop where
 mem:it ∈ fp
 obj:∀ i h,tn i h→∀ b ∈ fp,∃ o,h.get? b=some o∧∀ v,o.data ≠ .cell v
 keep:∀ i h h',tn i h→(∀ b ∈ fp,∀ o,h.get? b=some o→h'.get? b=some o)→tn i h'
 item:∀ (X:Cx),X.prog=P→X.w=w→X.K=K→X.calm=true→∀ (i:Nat) (pins:List (Addr × Obj)) (s:Shared) (σ:St) (H:Hp) (E:Value→Shared→Prop),Inv X pins σ H s→(∀ b ∈ fp,zu X pins H b)→tn i s.heap→J.go i H →
  wpAny (model P w) X.A (pyNext (.ref it)) (fun r s1=>∃ u,r=some u ∧
   wpAny (model P w) X.A (letOwnedTupleGo tg (.ref it) u) (fun _ s2=>∃ x H',Inv X pins σ H' s2∧zd x u∧J.yld i H x H'∧tn (i + 1) s2.heap∧∀ b ∈ fp,H' b=none) E s1) E s
 done:∀ (X:Cx),X.prog=P→X.w=w→X.K=K→X.calm=true→∀ (i:Nat) (pins:List (Addr × Obj)) (s:Shared) (σ:St) (H:Hp) (E:Value→Shared→Prop),Inv X pins σ H s→(∀ b ∈ fp,zu X pins H b)→tn i s.heap→J.stop i H →
  wpAny (model P w) X.A (pyNext (.ref it)) (fun r s1=>r=none∧Inv X pins σ H s1) E s
 self:∀ (A:Around) (i:Nat) (s:Shared) (Q:Value→Shared→Prop) (E:Value→Shared→Prop),tn i s.heap→Q (.ref it) s→wpAny (model P w) A (pyIter (.ref it)) Q E s
noncomputable abbrev TI:=St→Hp→(It→Hp→Prop)→Prop
noncomputable def PIE (X:Cx) (pins:List (Addr × Obj)) (σ:St) (tg:Expr) (R:It→Hp→Prop) (itv:Value) (s2:Shared):Prop:=
 ∃ (it:Addr) (fp:List Addr) (tn:Nat→Heap→Prop) (J:It) (H':Hp),itv=.ref it∧Inv X pins σ H' s2∧qG X.prog X.w X.K tg J fp it tn∧tn 0 s2.heap∧(∀ b ∈ fp,zu X pins H' b)∧R J H'
noncomputable def PI (X:Cx) (tg iter:Expr) (wi:TI):Prop:=
 ∀ (pins:List (Addr × Obj)) (s:Shared) (σ:St) (H:Hp) (R:It→Hp→Prop),Inv X pins σ H s→wi σ H R →
  wpAny (model X.prog X.w) X.A (eval iter X.env) (fun v s1=>wpAny (model X.prog X.w) X.A (pyIter v) (PIE X pins σ tg R) X.xe s1) X.xe s
theorem rE {M:Model} {A:Around} {E:Value→Shared→Prop} {s:Shared} {tg:Expr} {it:Addr} {u:Value} {o:Obj} {n:String} {vs:Array Value} {Q:Unit→Shared→Prop} (ho:s.heap.get? it=some o) (hc:o.cls=.type n) (hd:o.data=.fields vs)
    (hn:["enumerate","zip","dict_itemiterator","dict_reverseitemiterator","odict_iterator","itertools.zip_longest","itertools.pairwise"].contains n=false) (hQ:Q () s):wpAny M A (letOwnedTupleGo tg (.ref it) u) Q E s:=by
  unfold letOwnedTupleGo;cases tg <;> first
    | exact wpAny_pure hQ
    | (cases u <;> first
        | exact wpAny_pure hQ
        | (refine wpAny_bind (wpAny_load ho ?_)
           rw [hc,hd];show wpAny M A (if (["enumerate","zip","dict_itemiterator","dict_reverseitemiterator","odict_iterator","itertools.zip_longest","itertools.pairwise"].contains n && vs[0]? == some (rawInt _))=true then _ else _) Q E s;rw [if_neg (by intro h;rw [hn,Bool.false_and] at h;cases h)];exact wpAny_pure hQ))
noncomputable def Itl (K:PySem.W.Frag) (a:Addr):It:=
 ⟨fun i H=>∃ xs x,SqL K H a xs∧xs[i]? = some x,fun i H x H'=>H'=H∧∀ xs,SqL K H a xs→xs[i]? = some x,fun i H=>∃ xs,SqL K H a xs∧xs.length ≤ i⟩
noncomputable def Itr (lo:Int) (n:Nat):It:=⟨fun i _=>i < n,fun i H x H'=>H'=H∧x=.int (lo + i),fun i _=>n ≤ i⟩
theorem UA {P:Program} {w:World} {K:PySem.W.Frag} {tg:Expr} (a it:Addr):qG P w K tg (Itl K a) [it] it (fun i h=>h.IsListIter it a i) where
 mem:=by simp
 obj:=fun i h st b hb=>by
  have e:b=it:=by simpa using hb
  subst e;obtain ⟨o,e,c,d⟩:=st;exact ⟨o,e,fun v z=>by rw [d] at z;cases z⟩
 keep:=fun i h h' st k=>st.at fun o e=>k it (by simp) o e
 item:=by
  intro X hP hw hK hc i pins s σ H E I hf st hg;subst hP hw hK;obtain ⟨xs,x,hq,hx⟩:=hg;obtain ⟨its,rv,p,hz⟩:=I.list hq;obtain ⟨u,hu,ru⟩:=rv.get hx;obtain ⟨f0,f1,f2,f3,f4,f5⟩:=hf it (by simp);refine wpAny_pyNext_list_item st p.isList (x:=u) (by simpa using hu) fun h' st' sb=>?_
  have I1:Inv X pins σ H { s with heap:=h' }:=I.turned (t':=s.toks) (fun b o hb e=>(sb.2 b hb).trans e) f0 f1 f3 f4 f5;obtain ⟨o,e,c,d⟩:=id st';exact ⟨u,rfl,rE (s:={ s with heap:=h' }) e c d (by decide) ⟨x,H,I1,ru,⟨rfl,fun ys hy=>by rw [I.list_inj hy hq];exact hx⟩,st',fun b hb=>(hf b hb).1⟩⟩
 done:=by
  intro X hP hw hK hc i pins s σ H E I hf st hg;subst hP hw hK;obtain ⟨xs,hq,hx⟩:=hg;obtain ⟨its,rv,p,hz⟩:=I.list hq;obtain ⟨f0,f1,f2,f3,f4,f5⟩:=hf it (by simp);have hl:=rv.length;exact wpAny_pyNext_list_end (I.ok.hd hc) st p.isList (by simp;omega) fun h' eb=>⟨rfl,I.turned (t':=s.toks) (fun b o hb e=>eb b o hb e) f0 f1 f3 f4 f5⟩
 self:=fun _ _ _ _ _ st h=>wpAny_pyIter_listiter st h
theorem dA {P:Program} {w:World} {K:PySem.W.Frag} {tg:Expr} (it:Addr) (lo:Int) (n:Nat):qG P w K tg (Itr lo n) [it] it (fun i h=>IsRangeIter h it (lo + (i:Nat) * 1) ((n:Int) - (i:Nat)) 1) where
 mem:=by simp
 obj:=fun i h st b hb=>by
  have e:b=it:=by simpa using hb
  subst e;exact ⟨_,st,fun v z=>by
   have z':Data.fields _=Data.cell v:=z;cases z'⟩
 keep:=fun i h h' st k=>k it (by simp) _ st
 item:=by
  intro X hP hw hK hc i pins s σ H E I hf st hg;subst hP hw hK;obtain ⟨f0,f1,f2,f3,f4,f5⟩:=hf it (by simp);have W:=Walks.range (prog:=X.prog) (w:=X.w) (I.ok.hd hc) it lo 1 n;refine W.item i s _ _ hg st fun v h' tk hv st' kk=>?_
  obtain ⟨t,rfl⟩:=hv;have I1:Inv X pins σ H { s with heap:=h',toks:=tk }:=I.turned (fun b o hb e=>kk b o (by simpa using hb) e) f0 f1 f3 f4 f5;refine ⟨_,rfl,rE (s:={ s with heap:=h',toks:=tk }) (n := "range_iterator") st' rfl rfl (by decide) ⟨.int (lo + i),H,I1,⟨t,?_⟩,⟨rfl,rfl⟩,st',fun b hb=>(hf b hb).1⟩⟩;rw [Int.mul_one]
 done:=by
  intro X hP hw hK hc i pins s σ H E I hf st hg;subst hP hw hK;obtain ⟨f0,f1,f2,f3,f4,f5⟩:=hf it (by simp);exact wpAny_pyNext_range_end (I.ok.hd hc) st (by have:n ≤ i:=hg;omega) fun h' eb=>⟨rfl,I.turned (t':=s.toks) (fun b o hb e=>eb b o hb e) f0 f1 f3 f4 f5⟩
 self:=fun _ _ _ _ _ st h=>wpAny_pyIter_rangeiter st h
end L2
namespace L2
open PySem PySem.Spec PyProof.Rows
section
variable {X:Cx} {tg:Expr}
noncomputable def BK (K:PySem.W.Frag) (tl:TE):TI:=fun σ H R=>tl σ H fun x H1=>∃ a,x=.ref a∧(∃ xs,SqL K H1 a xs)∧R (Itl K a) H1
theorem Sd {l:Expr} {tl:TE} (hl:PE X l tl):PI X tg l (BK X.K tl):=by
 intro pins s σ H R I h;refine thn (hl pins s σ H _ I h) fun v s1 hZ1=>?_
 obtain ⟨x,H1,I1,r1,q1⟩:=hZ1;obtain ⟨a,e,⟨xs,hq⟩,q⟩:=q1;subst e;cases r1;obtain ⟨its,rv,p,hz⟩:=I1.list hq;refine wpAny_pyIter_list p.isList ?_;refine ⟨s1.heap.objs.size,[s1.heap.objs.size],_,_,H1,rfl,I1.kept (t':=s1.toks) fun b o e=>Heap.get?_push_of_some _ e,UA a _,⟨_,Heap.get?_push_size _ rfl,rfl,rfl⟩,fun b hb=>?_,q⟩;have e:b=s1.heap.objs.size:=by simpa using hb
 subst e;exact I1.fpOk (Nat.le_refl _) (I1.hok.fresh (Nat.le_refl _))
theorem cE {pins:List (Addr × Obj)} {σ:St} {H:Hp} {s:Shared} {R:It→Hp→Prop} {E:Value→Shared→Prop} {lo hi:Int} {t u v:Tok} {tk:Nat} (I:Inv X pins σ H s) (h1:-(2 ^ 62) ≤ lo) (h2:lo < 2 ^ 62) (h3:-(2 ^ 62) ≤ hi) (h4:hi < 2 ^ 62)
  (q:R (Itr lo (hi - lo).toNat) H):wpAny (model X.prog X.w) X.A (pyIter (.ref s.heap.objs.size)) (PIE X pins σ tg R) E { s with heap:=s.heap.push { cls:=.type "range",data:=.fields #[.int lo t,.int hi u,.int 1 v] },toks:=tk }:=by
 refine wpAny_pyIter_range (IsRange.new ..) (small_one h1 h2 h3 h4) ?_;have I1:Inv X pins σ H { s with heap:=s.heap.push { cls:=.type "range",data:=.fields #[.int lo t,.int hi u,.int 1 v] },toks:=tk }:=I.kept fun b o e=>Heap.get?_push_of_some _ e
 refine ⟨(s.heap.push { cls:=.type "range",data:=.fields #[.int lo t,.int hi u,.int 1 v] }).objs.size,[(s.heap.push { cls:=.type "range",data:=.fields #[.int lo t,.int hi u,.int 1 v] }).objs.size],_,_,H,rfl,
  I1.kept (t':=tk) fun b o e=>Heap.get?_push_of_some _ e,dA _ lo (hi - lo).toNat,?_,fun b hb=>?_,q⟩
 ·have e1:lo + ((0:Nat):Int) * 1=lo:=by simp
  have e2:(((hi - lo).toNat:Nat):Int) - ((0:Nat):Int)=Builtin.Range.rangeSize lo hi 1:=by rw [rangeSize_one];split <;> omega
  show IsRangeIter _ _ (lo + ((0:Nat):Int) * 1) ((((hi - lo).toNat:Nat):Int) - ((0:Nat):Int)) 1;rw [e1,e2];exact Heap.get?_push_size _ rfl
 ·have e:b=(s.heap.push { cls:=.type "range",data:=.fields #[.int lo t,.int hi u,.int 1 v] }).objs.size:=by simpa using hb
  subst e;exact I1.fpOk (Nat.le_refl _) (I1.hok.fresh (Nat.le_refl _))
noncomputable def BJ (ta:TA):TI:=fun σ H R=>ta σ H fun vs H1=>∃ j:Int,vs=[.int j]∧-(2 ^ 62) ≤ j∧j < 2 ^ 62∧R (Itr 0 j.toNat) H1
theorem Zc {a:Expr} {ta:TA} {p pos:Pos} (hg:Gl X "range") (hm:X.mg "range"=none) (ha:PA X [a] ta) (hs:starEach [a] X.env=[(false,eval a X.env)]:=by rfl):PI X tg (.Call (.Name "range" p) [a] [] pos) (BJ ta):=by
 intro pins s σ H R I h;refine Call_ (il I hg hm boot_range (PyProof.Rows.callWith_type1 (thn (ha pos pins s σ H _ I h) fun us s1 hZ1=>?_) hs rfl));obtain ⟨vs,H1,I1,r1,q1⟩:=hZ1;obtain ⟨j,e,q1,q2,q⟩:=q1;subst e;cases r1 with
 | cons r rr=>
  cases rr;obtain ⟨t,rfl⟩:=r;exact call_range_1 (cE I1 (by omega) (by omega) q1 q2 (by simpa using q))
noncomputable def UL (wi:TI) (g:TG) (tb:TS):TS:=fun D σ H=>wi σ H fun J H1=>∃ W:Nat→Nat→St→Hp→Prop,(∃ m,W 0 m σ H1)∧∀ i m σ H,W i m σ H →
 (J.stop i H∧D.nx σ H)∨(J.go i H∧∃ N:St→Hp→Prop,(∀ σ' H',N σ' H'→∃ m',m' < m∧W (i + 1) m' σ' H')∧∀ x H',J.yld i H x H'→g x σ H' fun σ2 H2=>tb { D with nx:=N,ct:=N,bk:=D.nx } σ2 H2)
noncomputable def Kv (fp:List Addr) (h:Heap):List (Addr × Obj):=fp.filterMap fun b=>(h.get? b).map fun o=>(b,o)
theorem jk {fp:List Addr} {h:Heap} {b:Addr} {o:Obj} (hb:b ∈ fp) (e:h.get? b=some o):(b,o) ∈ Kv fp h:=List.mem_filterMap.mpr ⟨b,hb,by rw [e];rfl⟩
theorem qC {fp:List Addr} {h:Heap} {p:Addr × Obj} (hp:p ∈ Kv fp h):p.1 ∈ fp∧h.get? p.1=some p.2:=by
 obtain ⟨b,hb,e⟩:=List.mem_filterMap.mp hp;cases q:h.get? b with
 | none=>rw [q] at e;cases e
 | some o=>
  rw [q] at e;have e':(b,o)=p:=Option.some.inj e;subst e';exact ⟨hb,q⟩
theorem Inv.pinned {pins:List (Addr × Obj)} {σ:St} {H:Hp} {s:Shared} {fp:List Addr} (I:Inv X pins σ H s) (hf:∀ b ∈ fp,zu X pins H b) (ho:∀ b ∈ fp,∃ o,s.heap.get? b=some o∧∀ v,o.data ≠ .cell v):Inv X (pins ++ Kv fp s.heap) σ H s:=
 I.pins_of fun p hp=>(List.mem_append.mp hp).elim (fun z=>I.pin p (List.mem_append_right _ z)) fun z=>by
  obtain ⟨hb,e⟩:=qC z;obtain ⟨f0,f1,f2,_⟩:=hf p.1 hb;obtain ⟨o,e',d⟩:=ho p.1 hb;rw [e] at e';cases e';exact ⟨e,f0,f1,f2,d⟩
theorem Inv.unpinned {pins pl:List (Addr × Obj)} {σ:St} {H:Hp} {s:Shared} (I:Inv X (pins ++ pl) σ H s):Inv X pins σ H s:=I.pins_of fun p hp=>I.pin p (List.mem_append_right _ (List.mem_append_left _ hp))
theorem Dd {iter:Expr} {body:List Stmt} {wi:TI} {g:TG} {tb:TS} {pos:Pos} (hp:PassesOwn (model X.prog X.w) X.A X.env X.xe) (hc:X.calm=true) (hi:PI X tg iter wi) (hg:PG X tg g) (hb:PSs X body tb)
  (hs:∀ x,foldedSetIterable iter X.env x=pure x:=by intro _;rfl):PS X (.For tg iter body [] pos) (UL wi g tb):=by
 intro pins s σ H D I h;refine wpAny_For (thn (hi pins s σ H _ I h) fun v s1 h1=>thn h1 fun itv s2 h2=>?_) hs;obtain ⟨it,fp,tn,J,H2,e,I2,T,st2,f2,W,⟨m0,w0⟩,turn⟩:=h2;subst e;have stat:∀ {H':Hp},(∀ b ∈ fp,H' b=none)→∀ b ∈ fp,zu X pins H' b:=fun hn b hb=>⟨hn b hb,(f2 b hb).2⟩
 refine codeAny_forLoop_any (fun n s'=>∃ i σ' H',Inv X pins σ' H' s'∧tn i s'.heap∧(∀ b ∈ fp,H' b=none)∧W i n σ' H') ?_ m0 ⟨0,σ,H2,I2,st2,fun b hb=>(f2 b hb).1,w0⟩;rintro n s3 ⟨i,σ3,H3,I3,st3,fr3,w3⟩;rcases turn i n σ3 H3 w3 with ⟨stop,qn⟩ | ⟨go,N,hN,step⟩
 ·refine wpAny_passesOwn hp (thn (T.done X rfl rfl rfl hc i pins s3 σ3 H3 X.xe I3 (stat fr3) st3 stop) fun r s4 hZ1=>?_);obtain ⟨hr,I4⟩:=hZ1;subst hr;exact wpAny_execs_nil ⟨σ3,H3,I4,qn⟩
 ·refine wpAny_passesOwn hp (thn (T.item X rfl rfl rfl hc i pins s3 σ3 H3 X.xe I3 (stat fr3) st3 go) fun r s4 hZ1=>?_);obtain ⟨u,hr,h4⟩:=hZ1;subst hr;refine wpAny_passesOwn hp (thn h4 fun _ s5 hZ1=>?_);obtain ⟨x,H5,I5,r5,y5,st5,fr5⟩:=hZ1;have I5':=I5.pinned (stat fr5) (T.obj _ _ st5);refine wpAny_passesOwn hp (thn (hg _ s5 σ3 H5 x u _ I5' r5 (step x H5 y5)) fun _ s6 hZ1=>?_);obtain ⟨σ6,H6,I6,q6⟩:=hZ1;refine wpAny_passesOwn hp (thn (hb _ s6 σ6 H6 _ I6 q6) fun f s7 q7=>?_);have again:∀ {σ7:St} {H7:Hp},Inv X (pins ++ Kv fp s5.heap) σ7 H7 s7→N σ7 H7→∃ m,m < n∧∃ i σ' H',Inv X pins σ' H' s7∧tn i s7.heap∧(∀ b ∈ fp,H' b=none)∧W i m σ' H':=fun {σ7 H7} I7 n7=>by
   obtain ⟨m',hm,w7⟩:=hN σ7 H7 n7;refine ⟨m',hm,i + 1,σ7,H7,I7.unpinned,T.keep _ _ _ st5 fun b hb o e=>(I7.pin (b,o) (List.mem_append_right _ (List.mem_append_right _ (jk hb e)))).1,fun b hb=>?_,w7⟩;obtain ⟨o,e,d⟩:=T.obj _ _ st5 b hb;exact (I7.pin (b,o) (List.mem_append_right _ (List.mem_append_right _ (jk hb e)))).2.1
  cases f with
  | next=>obtain ⟨σ7,H7,I7,n7⟩:=q7;exact again I7 n7
  | cont=>obtain ⟨σ7,H7,I7,n7⟩:=q7;exact again I7 n7
  | brk=>obtain ⟨σ7,H7,I7,q7⟩:=q7;exact ⟨σ7,H7,I7.unpinned,q7⟩
  | ret v=>obtain ⟨x7,σ7,H7,I7,r7,q7⟩:=q7;exact ⟨x7,σ7,H7,I7.unpinned,r7,q7⟩
end
theorem dE {K:PySem.W.Frag} {a:Addr} {xs:List V} {g:TG} {tb:TS} {D:pj} {σ:St} {H:Hp} (Pv:Nat→St→Hp→Prop) (h0:Pv 0 σ H) (hl:∀ i σ H,i ≤ xs.length→Pv i σ H→SqL K H a xs)
  (hs:∀ i x σ H,xs[i]? = some x→Pv i σ H→g x σ H fun σ2 H2=>tb { D with nx:=Pv (i + 1),ct:=Pv (i + 1),bk:=D.nx } σ2 H2) (hd:∀ σ H,Pv xs.length σ H→D.nx σ H) :
  ∃ W:Nat→Nat→St→Hp→Prop,(∃ m,W 0 m σ H)∧∀ i m σ H,W i m σ H →
   ((Itl K a).stop i H∧D.nx σ H)∨((Itl K a).go i H∧∃ N:St→Hp→Prop,(∀ σ' H',N σ' H'→∃ m',m' < m∧W (i + 1) m' σ' H')∧∀ x H',(Itl K a).yld i H x H'→g x σ H' fun σ2 H2=>tb { D with nx:=N,ct:=N,bk:=D.nx } σ2 H2):=by
 refine ⟨fun i m σ H=>m=xs.length - i∧i ≤ xs.length∧Pv i σ H,⟨xs.length,by simp,Nat.zero_le _,h0⟩,?_⟩;rintro i m σ H ⟨rfl,hi,p⟩;have q:=hl i σ H hi p;by_cases hlt:i < xs.length
 ·refine .inr ⟨⟨xs,xs[i],q,by simp [hlt]⟩,Pv (i + 1),fun σ' H' p'=>⟨xs.length - (i + 1),by omega,rfl,hlt,p'⟩,fun x H' y=>?_⟩;obtain ⟨e,y⟩:=y;subst e;exact hs i x σ _ (y xs q) p
 ·have e:i=xs.length:=by omega
  subst e;exact .inl ⟨⟨xs,q,Nat.le_refl _⟩,hd σ H p⟩
theorem OB {lo:Int} {n:Nat} {g:TG} {tb:TS} {D:pj} {σ:St} {H:Hp} (Pv:Nat→St→Hp→Prop) (h0:Pv 0 σ H)
  (hs:∀ i σ H,i < n→Pv i σ H→g (.int (lo + i)) σ H fun σ2 H2=>tb { D with nx:=Pv (i + 1),ct:=Pv (i + 1),bk:=D.nx } σ2 H2) (hd:∀ σ H,Pv n σ H→D.nx σ H) :
  ∃ W:Nat→Nat→St→Hp→Prop,(∃ m,W 0 m σ H)∧∀ i m σ H,W i m σ H →
   ((Itr lo n).stop i H∧D.nx σ H)∨((Itr lo n).go i H∧∃ N:St→Hp→Prop,(∀ σ' H',N σ' H'→∃ m',m' < m∧W (i + 1) m' σ' H')∧∀ x H',(Itr lo n).yld i H x H'→g x σ H' fun σ2 H2=>tb { D with nx:=N,ct:=N,bk:=D.nx } σ2 H2):=by
 refine ⟨fun i m σ H=>m=n - i∧i ≤ n∧Pv i σ H,⟨n,by simp,Nat.zero_le _,h0⟩,?_⟩;rintro i m σ H ⟨rfl,hi,p⟩;by_cases hlt:i < n
 ·refine .inr ⟨hlt,Pv (i + 1),fun σ' H' p'=>⟨n - (i + 1),by omega,rfl,hlt,p'⟩,fun x H' y=>?_⟩;obtain ⟨e,y⟩:=y;subst e y;exact hs i σ _ hlt p
 ·have e:i=n:=by omega
  subst e;exact .inl ⟨Nat.le_refl _,hd σ H p⟩
end L2
namespace L2
open PySem PySem.Spec PyProof.Rows
noncomputable abbrev R2:=V→V→Hp→VK→Prop
noncomputable def OpR (X:Cx) (f:Value→Value→Sem Value) (r:R2):Prop:=
 ∀ (pins:List (Addr × Obj)) (s:Shared) (σ:St) (H:Hp) (x y:V) (v u:Value) (Q:VK),Inv X pins σ H s→zd x v→zd y u→r x y H Q →
  wpAny (model X.prog X.w) X.A (f v u) (EP X pins σ Q) X.xe s
noncomputable def UnR (X:Cx) (f:Value→Sem Value) (r:V→Hp→VK→Prop):Prop:=
 ∀ (pins:List (Addr × Obj)) (s:Shared) (σ:St) (H:Hp) (x:V) (v:Value) (Q:VK),Inv X pins σ H s→zd x v→r x H Q →
  wpAny (model X.prog X.w) X.A (f v) (EP X pins σ Q) X.xe s
noncomputable def oj (X:Cx) (f:Value) (r:List V→Hp→VK→Prop):Prop:=
 ∀ (pins:List (Addr × Obj)) (s:Shared) (σ:St) (H:Hp) (xs:List V) (us:List Value) (Q:VK),Inv X pins σ H s→ld xs us→r xs H Q →
  wpAny (model X.prog X.w) X.A (call f us) (EP X pins σ Q) X.xe s
noncomputable def HM (X:Cx) (r:V→Hp→(Bool→Hp→Prop)→Prop):Prop:=
 ∀ (pins:List (Addr × Obj)) (s:Shared) (σ:St) (H:Hp) (x:V) (v:Value) (Q:Bool→Hp→Prop),Inv X pins σ H s→zd x v→r x H Q →
  wpAny (model X.prog X.w) X.A (truthy v) (TP X pins σ Q) X.xe s
noncomputable def tOp (r:R2) (ta tb:TE):TE:=fun σ H Q=>ta σ H fun x H1=>tb σ H1 fun y H2=>r x y H2 Q
noncomputable def tUn (r:V→Hp→VK→Prop) (ta:TE):TE:=fun σ H Q=>ta σ H fun x H1=>r x H1 Q
noncomputable def rI (C:Int→Int→Prop) (g:Int→Int→V):R2:=fun x y H Q=>∃ i j,x=.int i∧y=.int j∧C i j∧Q (g i j) H
noncomputable def rI0 (g:Int→Int→V):R2:=fun x y H Q=>∃ i j,x=.int i∧y=.int j∧Q (g i j) H
noncomputable def rU (g:Int→V):V→Hp→VK→Prop:=fun x H Q=>∃ i,x=.int i∧Q (g i) H
section
variable {X:Cx} {a b c:Expr} {ta tb tc:TE} {pos:Pos}
theorem gL (ha:PE X a ta) (hb:PE X b tb) {pins:List (Addr × Obj)} {s:Shared} {σ:St} {H:Hp} {R:V→V→Hp→Prop} (I:Inv X pins σ H s)
  (h:ta σ H fun x H1=>tb σ H1 fun y H2=>R x y H2) {Q:Value→Shared→Prop} {f:Value→Value→Sem Value}
  (hf:∀ v u s2 x y H2,Inv X pins σ H2 s2→zd x v→zd y u→R x y H2→wpAny (model X.prog X.w) X.A (f v u) Q X.xe s2) :
  wpAny (model X.prog X.w) X.A (eval a X.env) (fun v s₁=>wpAny (model X.prog X.w) X.A (eval b X.env) (fun u s₂=>wpAny (model X.prog X.w) X.A (f v u) Q X.xe s₂) X.xe s₁) X.xe s:=by
 refine thn (ha pins s σ H _ I h) fun v s1 hZ1=>?_
 obtain ⟨x,H1,I1,r1,q1⟩:=hZ1;refine thn (hb pins s1 σ H1 _ I1 q1) fun u s2 hZ1=>?_
 obtain ⟨y,H2,I2,r2,q2⟩:=hZ1;exact hf v u s2 x y H2 I2 r1 r2 q2
theorem Gb {op:Operator} {r:R2} (ho:OpR X (binaryOp op) r) (ha:PE X a ta) (hb:PE X b tb):PE X (.BinOp a op b pos) (tOp r ta tb):=by
 intro pins s σ H Q I h;exact wpAny_BinOp (gL ha hb I h fun v u s2 x y H2 I2 rx ry q=>ho pins s2 σ H2 x y v u Q I2 rx ry q)
theorem IK {op:UnaryOp} {r:V→Hp→VK→Prop} (ho:UnR X (unaryOp op) r) (ha:PE X a ta):PE X (.UnaryOp op a pos) (tUn r ta):=by
 intro pins s σ H Q I h;exact UnaryOp_ (thn (ha pins s σ H _ I h) fun v s1 ⟨x,H1,I1,r1,q1⟩=>ho pins s1 σ H1 x v Q I1 r1 q1)
theorem opI {f:Value→Value→Sem Value} {C:Int→Int→Prop} {g:Int→Int→Int}
  (rule:∀ (i j:Int) (t u:Tok) (s:Shared) (Q:Value→Shared→Prop) (E:Value→Shared→Prop),C i j→Q (.int (g i j) s.toks) { s with toks:=s.toks + 1 }→wpAny (model X.prog X.w) X.A (f (.int i t) (.int j u)) Q E s) :
  OpR X f (rI C fun i j=>.int (g i j)):=by
 intro pins s σ H x y v u Q I rx ry h;obtain ⟨i,j,rfl,rfl,hc,q⟩:=h;obtain ⟨t,rfl⟩:=rx;obtain ⟨t',rfl⟩:=ry;exact rule i j t t' s _ _ hc ⟨.int (g i j),H,I.tok _,⟨_,rfl⟩,q⟩
theorem vM {f:Value→Value→Sem Value} {g:Int→Int→Int}
  (rule:∀ (i j:Int) (t u:Tok) (s:Shared) (Q:Value→Shared→Prop) (E:Value→Shared→Prop),Q (.int (g i j) s.toks) { s with toks:=s.toks + 1 }→wpAny (model X.prog X.w) X.A (f (.int i t) (.int j u)) Q E s) :
  OpR X f (rI0 fun i j=>.int (g i j)):=by
 intro pins s σ H x y v u Q I rx ry h;obtain ⟨i,j,rfl,rfl,q⟩:=h;obtain ⟨t,rfl⟩:=rx;obtain ⟨t',rfl⟩:=ry;exact rule i j t t' s _ _ ⟨.int (g i j),H,I.tok _,⟨_,rfl⟩,q⟩
theorem HL {f:Value→Value→Sem Value} {g:Int→Int→Bool}
  (rule:∀ (i j:Int) (t u:Tok) (s:Shared) (Q:Value→Shared→Prop) (E:Value→Shared→Prop),Q (.bool (g i j)) s→wpAny (model X.prog X.w) X.A (f (.int i t) (.int j u)) Q E s) :
  OpR X f (rI0 fun i j=>.bl (g i j)):=by
 intro pins s σ H x y v u Q I rx ry h;obtain ⟨i,j,rfl,rfl,q⟩:=h;obtain ⟨t,rfl⟩:=rx;obtain ⟨t',rfl⟩:=ry;exact rule i j t t' s _ _ ⟨.bl (g i j),H,I,rfl,q⟩
noncomputable def IM (i j:Int):Prop:=0 ≤ j∧j ≤ 1000000∧i.natAbs < 2 ^ 64
noncomputable def fG (i j:Int):Prop:=(-(2 ^ 64) < i∧i < 2 ^ 64)∨(-(2 ^ 64) < j∧j < 2 ^ 64)
theorem fG.ok {i j:Int} (h:fG i j):IntMulOk i j:=by
 rcases h with ⟨h1,h2⟩ | ⟨h1,h2⟩
 ·exact .of_left (intBits_le_64 h1 h2)
 ·exact .of_right (intBits_le_64 h1 h2)
theorem zc:OpR X (binaryOp .Add) (rI0 fun i j=>.int (i + j)):=vM fun _ _ _ _ _ _ _ q=>add_int q
theorem Oe:OpR X (binaryOp .Sub) (rI0 fun i j=>.int (i - j)):=vM fun _ _ _ _ _ _ _ q=>sub_int q
theorem Ig:OpR X (binaryOp .Mult) (rI fG fun i j=>.int (i * j)):=opI fun _ _ _ _ _ _ _ hc q=>mul_int q hc.ok
theorem Le:OpR X (binaryOp .Mod) (rI (fun _ j=>0 < j) fun i j=>.int (i % j)):=opI fun i j _ _ _ _ _ hc q=>by
 have h1:(0:Int) < j:=hc;exact mod_int' (by omega) (by rw [Int.fmod_eq_emod_of_nonneg i (by omega)];exact q)
theorem mG:OpR X (binaryOp .Pow) (rI IM fun i j=>.int (i ^ j.toNat)):=opI fun _ _ _ _ _ _ _ hc q=>pow_int_small hc.1 hc.2.1 hc.2.2 q
theorem unI {f:Value→Sem Value} {g:Int→Int}
  (rule:∀ (i:Int) (t:Tok) (s:Shared) (Q:Value→Shared→Prop) (E:Value→Shared→Prop),Q (.int (g i) s.toks) { s with toks:=s.toks + 1 }→wpAny (model X.prog X.w) X.A (f (.int i t)) Q E s) :
  UnR X f (rU fun i=>.int (g i)):=by
 intro pins s σ H x v Q I rx h;obtain ⟨i,rfl,q⟩:=h;obtain ⟨t,rfl⟩:=rx;exact rule i t s _ _ ⟨.int (g i),H,I.tok _,⟨_,rfl⟩,q⟩
theorem JF:UnR X (unaryOp .USub) (rU fun i=>.int (-i)):=unI fun _ _ _ _ _ q=>neg_int q
end
noncomputable def xK:V→V→Bool
 | .non,.non=>true | .non,.int _=>true | .int _,.non=>true | .non,.bl _=>true | .bl _,.non=>true | .non,.str _=>true | .str _,.non=>true
 | .int _,.int _=>true | .bl _,.bl _=>true | .str _,.str _=>true | .byt _,.byt _=>true
 | .int _,.str _=>true | .str _,.int _=>true | .bl _,.str _=>true | .str _,.bl _=>true
 | _,_=>false
noncomputable def rEq:R2:=fun x y H Q=>xK x y=true∧Q (.bl (decide (x=y))) H
noncomputable def rNe:R2:=fun x y H Q=>xK x y=true∧Q (.bl (!decide (x=y))) H
theorem cB {i j:Int}:decide (V.int i=V.int j)=(i == j):=by
 rw [Bool.eq_iff_iff];simp
theorem UF {i j:Bool}:decide (V.bl i=V.bl j)=(i == j):=by
 rw [Bool.eq_iff_iff];simp
theorem KB {i j:Str}:decide (V.str i=V.str j)=(i == j):=by
 rw [Bool.eq_iff_iff];simp
theorem WB {i j:Array UInt8}:decide (V.byt i=V.byt j)=(i.toList == j.toList):=by
 rw [Bool.eq_iff_iff];cases i;cases j;simp
section
variable {X:Cx} {a b c:Expr} {ta tb tc:TE} {pos:Pos}
theorem md {pins:List (Addr × Obj)} {σ:St} {H:Hp} {s:Shared} {Q:VK} {k k':Bool} (I:Inv X pins σ H s) (q:Q (.bl k) H) (e:k=k'):EP X pins σ Q (.bool k') s:=by
 subst e;exact ⟨.bl k,H,I,rfl,q⟩
theorem mj:OpR X (compareOp .Eq) rEq:=by
 intro pins s σ H x y v u Q I rx ry h;obtain ⟨hs,q⟩:=h;cases x with
 | non=>
  cases rx;cases y with
  | non=>cases ry;exact PySem.EqNone.eq_none_none (md I q (by simp))
  | bl j=>cases ry;exact PySem.EqNone.eq_none_bool (md I q (by simp))
  | int j=>obtain ⟨t',rfl⟩:=ry;exact PySem.EqNone.eq_none_int (md I q (by simp))
  | str j=>obtain ⟨t',rfl⟩:=ry;exact PySem.EqNone.eq_none_str (md I q (by simp))
  | _=>exact absurd (show false=true from hs) Bool.false_ne_true
 | bl i=>
  cases rx;cases y with
  | non=>cases ry;exact PySem.EqNone.eq_bool_none (md I q (by simp))
  | bl j=>cases ry;exact eq_bool (md I q UF)
  | str j=>obtain ⟨t',rfl⟩:=ry;exact PySem.EqMixed.eq_bool_str (md I q (by simp))
  | _=>exact absurd (show false=true from hs) Bool.false_ne_true
 | int i=>
  obtain ⟨t,rfl⟩:=rx;cases y with
  | non=>cases ry;exact PySem.EqNone.eq_int_none (md I q (by simp))
  | int j=>obtain ⟨t',rfl⟩:=ry;exact eq_int (md I q cB)
  | str j=>obtain ⟨t',rfl⟩:=ry;exact PySem.EqMixed.eq_int_str (md I q (by simp))
  | _=>exact absurd (show false=true from hs) Bool.false_ne_true
 | str i=>
  obtain ⟨t,rfl⟩:=rx;cases y with
  | non=>cases ry;exact PySem.EqNone.eq_str_none (md I q (by simp))
  | bl j=>cases ry;exact PySem.EqMixed.eq_str_bool (md I q (by simp))
  | int j=>obtain ⟨t',rfl⟩:=ry;exact PySem.EqMixed.eq_str_int (md I q (by simp))
  | str j=>obtain ⟨t',rfl⟩:=ry;exact eq_str (md I q KB)
  | _=>exact absurd (show false=true from hs) Bool.false_ne_true
 | byt i=>
  obtain ⟨t,rfl⟩:=rx;cases y with
  | byt j=>obtain ⟨t',rfl⟩:=ry;exact PySem.W.eq_bytes (md I q WB)
  | _=>exact absurd (show false=true from hs) Bool.false_ne_true
 | _=>cases y <;> exact absurd (show false=true from hs) Bool.false_ne_true
theorem BA:OpR X (compareOp .NotEq) rNe:=by
 intro pins s σ H x y v u Q I rx ry h;obtain ⟨hs,q⟩:=h;cases x with
 | non=>
  cases rx;cases y with
  | non=>cases ry;exact PySem.EqNone.ne_none_none (md I q (by simp))
  | bl j=>cases ry;exact PySem.EqNone.ne_none_bool (md I q (by simp))
  | int j=>obtain ⟨t',rfl⟩:=ry;exact PySem.EqNone.ne_none_int (md I q (by simp))
  | str j=>obtain ⟨t',rfl⟩:=ry;exact PySem.EqNone.ne_none_str (md I q (by simp))
  | _=>exact absurd (show false=true from hs) Bool.false_ne_true
 | bl i=>
  cases rx;cases y with
  | non=>cases ry;exact PySem.EqNone.ne_bool_none (md I q (by simp))
  | bl j=>cases ry;exact ne_bool (md I q (congrArg not UF))
  | str j=>obtain ⟨t',rfl⟩:=ry;exact PySem.EqMixed.ne_bool_str (md I q (by simp))
  | _=>exact absurd (show false=true from hs) Bool.false_ne_true
 | int i=>
  obtain ⟨t,rfl⟩:=rx;cases y with
  | non=>cases ry;exact PySem.EqNone.ne_int_none (md I q (by simp))
  | int j=>obtain ⟨t',rfl⟩:=ry;exact ne_int (md I q (congrArg not cB))
  | str j=>obtain ⟨t',rfl⟩:=ry;exact PySem.EqMixed.ne_int_str (md I q (by simp))
  | _=>exact absurd (show false=true from hs) Bool.false_ne_true
 | str i=>
  obtain ⟨t,rfl⟩:=rx;cases y with
  | non=>cases ry;exact PySem.EqNone.ne_str_none (md I q (by simp))
  | bl j=>cases ry;exact PySem.EqMixed.ne_str_bool (md I q (by simp))
  | int j=>obtain ⟨t',rfl⟩:=ry;exact PySem.EqMixed.ne_str_int (md I q (by simp))
  | str j=>obtain ⟨t',rfl⟩:=ry;exact ne_str (md I q (congrArg not KB))
  | _=>exact absurd (show false=true from hs) Bool.false_ne_true
 | byt i=>
  obtain ⟨t,rfl⟩:=rx;cases y with
  | byt j=>obtain ⟨t',rfl⟩:=ry;exact PySem.W.ne_bytes (md I q (congrArg not WB))
  | _=>exact absurd (show false=true from hs) Bool.false_ne_true
 | _=>cases y <;> exact absurd (show false=true from hs) Bool.false_ne_true
theorem cn:OpR X (compareOp .Lt) (rI0 fun i j=>.bl (decide (i < j))):=HL fun _ _ _ _ _ _ _ q=>lt_int q
theorem OL:OpR X (compareOp .LtE) (rI0 fun i j=>.bl (decide (i ≤ j))):=HL fun _ _ _ _ _ _ _ q=>le_int q
theorem qA:OpR X (compareOp .Gt) (rI0 fun i j=>.bl (decide (j < i))):=HL fun _ _ _ _ _ _ _ q=>gt_int q
theorem CA:OpR X (compareOp .In) (fun x y H Q=>∃ i j,x=.str i∧y=.str j∧Q (.bl (!(Builtin.Str.occurrences j i 0 j.length 1).isEmpty)) H):=by
 intro pins s σ H x y v u Q I rx ry h;obtain ⟨i,j,rfl,rfl,q⟩:=h;obtain ⟨t,rfl⟩:=rx;obtain ⟨t',rfl⟩:=ry;exact in_str (md I q rfl)
theorem gH:OpR X (compareOp .IsNot) (fun x y H Q=>y=.non∧Q (.bl (!decide (x=.non))) H):=by
 intro pins s σ H x y v u Q I rx ry h;obtain ⟨rfl,q⟩:=h;cases ry;refine isnot_none_gen (md I q ?_);cases x <;> first
  | (cases rx;rfl)
  | (obtain ⟨t,rfl⟩:=rx;rfl)
theorem OpR.or {f:Value→Value→Sem Value} {r r':R2} (h:OpR X f r) (h':OpR X f r'):OpR X f (fun x y H Q=>r x y H Q∨r' x y H Q):=by
 intro pins s σ H x y v u Q I rx ry q;rcases q with q | q
 ·exact h pins s σ H x y v u Q I rx ry q
 ·exact h' pins s σ H x y v u Q I rx ry q
theorem qc (b:Expr) {op:CmpOp} (h:op ≠ .In:=by decide) (h2:op ≠ .NotIn:=by decide):behindInMarks op b=false:=by
 have e1:(op == CmpOp.In)=false:=by cases op <;> first | rfl | exact absurd rfl h
 have e2:(op == CmpOp.NotIn)=false:=by cases op <;> first | rfl | exact absurd rfl h2
 cases b <;> simp [behindInMarks,e1,e2]
theorem Ff {op:CmpOp} {r:R2} (ho:OpR X (compareOp op) r) (ha:PE X a ta) (hb:PE X b tb) (hm:behindInMarks op b=false):PE X (.Compare a [op] [b] pos) (tOp r ta tb):=by
 intro pins s σ H Q I h;exact wpAny_Compare1 (gL ha hb I h fun v u s2 x y H2 I2 rx ry q=>ho pins s2 σ H2 x y v u Q I2 rx ry q) hm
noncomputable def iJ (t:TE):TT:=fun σ H Q=>t σ H fun x H'=>∃ k,x=.bl k∧Q k H'
theorem bc {op:CmpOp} {r:R2} (ho:OpR X (compareOp op) r) (ha:PE X a ta) (hb:PE X b tb) (hm:behindInMarks op b=false):PT X (.Compare a [op] [b] pos) (iJ (tOp r ta tb)):=by
 intro pins s σ H Q I h;refine wpAny_isTrue_Compare1 (thn (ha pins s σ H _ I h) fun v s1 ⟨x,H1,I1,r1,q1⟩=>thn (hb pins s1 σ H1 _ I1 q1) fun u s2 ⟨y,H2,I2,r2,q2⟩=>
  thn (ho pins s2 σ H2 x y v u _ I2 r1 r2 q2) fun c s3 ⟨z,H3,I3,r3,k,e,q3⟩=>?_) hm
 subst e;cases r3;exact wpAny_truthy_bool ⟨H3,I3,q3⟩
noncomputable def cM (K:PySem.W.Frag) (x:V) (H:Hp) (k:Bool):Prop:=
 match x with
 | .non=>k=false
 | .bl b=>k=b
 | .int i=>k=(i != 0)
 | .str y=>y.length ≤ sizeLine∧k=((y.length:Int) != 0)
 | .byt y=>y.size ≤ sizeLine∧k=((y.size:Int) != 0)
 | .ref p=>(∃ xs,SqL K H p xs∧k = !xs.isEmpty)∨(∃ xs,SqT K H p xs∧k = !xs.isEmpty)∨∃ kvs,H p=some (.dK kvs)∧k = !kvs.isEmpty
 | _=>False
theorem bA {κ:Type} {kvs:List (κ × V)} {vs:List (κ × Value)} (r:KV kvs vs):(!vs.isEmpty) = !kvs.isEmpty:=by
 cases r <;> rfl
theorem As {xs:List V} {its:List Value} (r:ld xs its):(!its.toArray.isEmpty) = !xs.isEmpty:=by
 cases r <;> simp
theorem Dp:(sizeLine:Nat) < 2 ^ 63:=by rw [sizeLine_eq];decide
theorem tJ:HM X (fun x H Q=>∃ k,cM X.K x H k∧Q k H):=by
 intro pins s σ H x v Q I rx h;obtain ⟨k,e,q⟩:=h;have hl:=Dp;have hs:sizeLine=16777216:=sizeLine_eq;cases x with
 | non=>
  cases rx;have e':k=false:=e;subst e';exact truthy_none ⟨H,I,q⟩
 | bl b=>
  cases rx;have e':k=b:=e;subst e';exact wpAny_truthy_bool ⟨H,I,q⟩
 | int i=>
  obtain ⟨t,rfl⟩:=rx;have e':k=(i != 0):=e;subst e';exact PySem.P.truthy_int ⟨H,I,q⟩
 | str y=>
  obtain ⟨t,rfl⟩:=rx;obtain ⟨hy,e'⟩:y.length ≤ sizeLine∧k=((y.length:Int) != 0):=e;subst e';exact PySem.P.truthy_str (by omega) ⟨H,I.tok _,q⟩
 | byt y=>
  obtain ⟨t,rfl⟩:=rx;obtain ⟨hy,e'⟩:y.size ≤ sizeLine∧k=((y.size:Int) != 0):=e;subst e';exact PySem.W.truthy_bytes (by omega) ⟨H,I.tok _,q⟩
 | ref p=>
  cases rx;have e':(∃ xs,SqL X.K H p xs∧k = !xs.isEmpty)∨(∃ xs,SqT X.K H p xs∧k = !xs.isEmpty)∨∃ kvs,H p=some (.dK kvs)∧k = !kvs.isEmpty:=e;rcases e' with ⟨xs,hx,e'⟩ | ⟨xs,hx,e'⟩ | ⟨kvs,hx,e'⟩
  ·subst e';obtain ⟨its,r,pl,hz⟩:=I.list hx;have hlen:=r.length;exact wpAny_truthy_list pl.isList (by simp only [List.size_toArray];omega) ⟨H,I.tok _,by rw [As r];exact q⟩
  ·subst e';obtain ⟨its,r,pl,hz⟩:=I.tuple hx;have hlen:=r.length;exact truthy_tuple pl (by simp only [List.size_toArray];omega) ⟨H,I.tok _,by rw [As r];exact q⟩
  ·subst e';obtain ⟨hz,hS,vs,r,m⟩:kvs.length ≤ sizeLine∧(p == sysModules)=false∧∃ vs,KV kvs vs∧s.heap.DictOf (Ze X.prog X.w) p vs:=I.hok p _ hx;have hlen:kvs.length=vs.length:=Paired.length r;exact wpAny_truthy_dict hS m (by omega) ⟨H,I.tok _,by rw [bA r];exact q⟩
 | _=>exact (show False from e).elim
theorem Yy (ha:PE X a ta) (he:∀ whole,isTrue a X.env whole=(do let v ← whole;standAt a.pos;holding [v] (truthy v))) :
  PT X a (fun σ H Q=>ta σ H fun x H'=>∃ k,cM X.K x H' k∧Q k H'):=by
 intro pins s σ H Q I h;exact isTrue_plain (thn (ha pins s σ H _ I h) fun v s1 ⟨x,H1,I1,r1,q1⟩=>tJ pins s1 σ H1 x v Q I1 r1 q1) (he _)
theorem nk:OpR X (binaryOp .Add) (fun x y H Q=>∃ i j,x=.str i∧y=.str j∧i.length + j.length ≤ sizeLine∧Q (.str (i ++ j)) H):=by
 intro pins s σ H x y v u Q I rx ry h;obtain ⟨i,j,rfl,rfl,hz,q⟩:=h;obtain ⟨t,rfl⟩:=rx;obtain ⟨t',rfl⟩:=ry;exact add_str (fun t' tk=>⟨.str (i ++ j),H,I.tok _,⟨_,rfl⟩,q⟩) hz
theorem Jp {x:V} {us:List Value} (r:ld [x] us):∃ u,us=[u]∧zd x u:=by
 cases r with
 | cons r1 r2=>cases r2;exact ⟨_,rfl,r1⟩
theorem MG {x y:V} {us:List Value} (r:ld [x,y] us):∃ u w',us=[u,w']∧zd x u∧zd y w':=by
 cases r with
 | cons r1 r2=>
  cases r2 with
  | cons r3 r4=>cases r4;exact ⟨_,_,rfl,r1,r3⟩
theorem vC (hc:X.calm=true):oj X (.builtin "max") (fun xs H Q=>∃ i j,xs=[.int i,.int j]∧Q (.int (if j > i then j else i)) H):=by
 intro pins s σ H xs us Q I r h;obtain ⟨i,j,rfl,q⟩:=h;obtain ⟨u,w',rfl,⟨t,rfl⟩,⟨t',rfl⟩⟩:=MG r;refine max_two_ints (I.ok.hd hc) fun h' tk k=>⟨_,H,I.kept k,?_,q⟩
 by_cases hj:j > i
 ·rw [if_pos hj,if_pos hj];exact ⟨_,rfl⟩
 ·rw [if_neg hj,if_neg hj];exact ⟨_,rfl⟩
theorem lC (hc:X.calm=true):oj X (.builtin "min") (fun xs H Q=>∃ i j,xs=[.int i,.int j]∧Q (.int (if j < i then j else i)) H):=by
 intro pins s σ H xs us Q I r h;obtain ⟨i,j,rfl,q⟩:=h;obtain ⟨u,w',rfl,⟨t,rfl⟩,⟨t',rfl⟩⟩:=MG r;refine min_two_ints (I.ok.hd hc) fun h' tk k=>⟨_,H,I.kept k,?_,q⟩
 by_cases hj:j < i
 ·rw [if_pos hj,if_pos hj];exact ⟨_,rfl⟩
 ·rw [if_neg hj,if_neg hj];exact ⟨_,rfl⟩
theorem ff:oj X (.type "str") (fun xs H Q=>∃ i,xs=[.int i]∧i.natAbs.log2 < 1920∧Q (.str (toString i)) H):=by
 intro pins s σ H xs us Q I r h;obtain ⟨i,rfl,hz,q⟩:=h;obtain ⟨u,rfl,t,rfl⟩:=Jp r;exact PySem.P.str_of_int hz ⟨.str _,H,I.tok _,⟨_,rfl⟩,q⟩
end
end L2
namespace L2
open PySem PySem.Spec PyProof.Rows
structure kI (h:Heap) (x dx C:Addr) (mA:Str→Option Value):Prop where
 obj:h.get? x=some (PySem.W.instObj C dx)
 ns:h.Ns1 dx mA
 ne:dx ≠ x
theorem WA {h:Heap} {dx:Addr} {mA:Str→Option Value} (n:h.Ns1 dx mA):∃ od,h.get? dx=some od∧∀ name,PySem.W.lookIn name od=some (mA name):=by
 obtain ⟨o,es,ep,ho,hd,hk,_,hm⟩:=n;refine ⟨o,ho,fun name=>?_⟩;have e:=hm name;unfold nsFind findBy at e;rw [← Array.find?_toList] at e;unfold PySem.W.lookIn;rw [hd];dsimp only;split
 ·rename_i y q;rw [q] at e;exact congrArg some e
 ·rename_i q;rw [q] at e;have a:es.toList.any (·.refKey)=false:=by
   rw [List.any_eq_false];intro y hy;obtain ⟨z,t,hkey⟩:=hk y (Array.mem_toList_iff.mp hy);simp [DictEntry.refKey,hkey]
  have a':¬ es.toList.any (·.refKey)=true:=by rw [a];exact Bool.false_ne_true
  rw [if_neg a'];exact congrArg some e
theorem kI.look {h:Heap} {x dx C:Addr} {mA:Str→Option Value} (I:kI h x dx C mA):∃ od,PySem.W.InstAt h x (PySem.W.instObj C dx) C (some od)∧∀ name,PySem.W.lookIn name od=some (mA name):=
 let ⟨od,ho,hl⟩:=WA I.ns
 ⟨od,⟨I.obj,rfl,rfl,ho⟩,hl⟩
section
variable {prog:Program} {w:World} {A:Around} {E:Value→Shared→Prop} {s:Shared} {K:PySem.W.Frag} {x dx C f:Addr} {mA:Str→Option Value} {name:Str} {v:Value}
theorem jI {expr:Bool} {Q:Value→Shared→Prop} (X:K.In s.heap) (I:kI s.heap x dx C mA) (hg:PySem.W.plainGet K C name=true) (hh:PySem.W.hasDictIn K C=true)
  (ha:PySem.W.findIn K (.ref C) name=some none) (hv:mA name=some v) (hv':PySem.W.handedIn v=true) (h:Q v { s with toks:=s.toks + 1 }) :
  wpAny (model prog w) A (getAttr (.ref x) name expr) Q E s:=by
 obtain ⟨od,J,hl⟩:=I.look;exact PySem.W.get_value X J (PySem.W.plainGet_of hg).1 (PySem.W.findObj_own hh ha rfl (by rw [hl,hv])) hv' h
theorem nF {pl:Sem Bool} {Q:Value × List Value→Shared→Prop} (X:K.In s.heap) (I:kI s.heap x dx C mA) (hg:PySem.W.plainGet K C name=true)
  (hf:PySem.W.findIn K (.ref C) name=some (some (.ref f))) (ht:PySem.W.isFn K (.ref f)=true) (hv:mA name=none) (h:Q (.ref f,[.ref x]) s) :
  wpAny (model prog w) A (getMethod (.ref x) name pl) Q E s:=by
 obtain ⟨od,J,hl⟩:=I.look;exact PySem.W.method_fn X J (PySem.W.plainGet_of hg).1 (PySem.W.plainGet_of hg).2 hf (beq_iff_eq.mp ht) (by show (PySem.W.lookIn name od).map (·.isSome)=some false;rw [hl,hv];rfl) h
theorem pI {ns:List Str} {Q:Unit→Shared→Prop} (X:K.In s.heap) (I:kI s.heap x dx C mA)
  (hs:PySem.W.findIn K (.ref C) "__setattr__"=some (some (.builtin "object.__setattr__"))) (hp:PySem.W.plainOver K C=true) (ht:PySem.W.takerIn K C name=some none) (hh:PySem.W.hasDictIn K C=true)
  (hw:PySem.Within mA ns) (hsz:ns.length ≤ sizeLine)
  (h:∀ h',kI h' x dx C (fun y=>if y=name then some v else mA y)→Heap.SameBut dx s.heap h'→Q () { s with heap:=h',toks:=s.toks + 2 }) :
  wpAny (model prog w) A (setAttr (.ref x) name v) Q E s:=by
 obtain ⟨od,J,hl⟩:=I.look;refine PySem.W.set_plain X J hs (PySem.W.osa_open (s:={ s with toks:=s.toks + 1 }) (r:=none) X J hp ht fun b=>?_);obtain ⟨cd,hc,hd'⟩:=PySem.W.any_some hh;have hx:s.heap.get? x=some ⟨.ref C,some dx,.plain,#[]⟩:=I.obj;refine wpAny_bind (wpAny_pure (wpAny_bind (wpAny_bind (wpAny_loadPart hx (wpAny_bind (PySem.W.Looks.here (s:={ s with toks:=s.toks + 1 }) (PySem.W.looks_clsIn X hc) ?_))))));rw [hd'];refine wpAny_pure (a:=some dx) (wpAny_bind (wpAny_pure (wpAny_bind ?_)));refine wpAny_nsSet1 (s:={ s with toks:=s.toks + 1 }) I.ns fun h' hn2 hs2=>?_
 obtain ⟨oD,esD,epD,hoD,hdD,hcD⟩:=hn2.count (PySem.Within.cons name v hw);refine wpAny_bind (wpAny_lookBehind hoD (by rw [hdD];exact pastItsLine_dict (Nat.le_trans hcD (by rw [List.length_cons];omega))) ?_);exact wpAny_pure (h _ ⟨(hs2.2 _ (Ne.symm I.ne)).trans I.obj,hn2,I.ne⟩ hs2)
theorem mF {R:Result→Shared→Prop} {vs:List Value} {kw:List (Str × Value)} (X:K.In s.heap) (hm:PySem.W.makesIn K C=true)
  (hi:PySem.W.findIn K (.ref C) "__init__"=some (some (.ref f))) (hf:PySem.W.typeIn K (.ref f)=some (.type "function"))
  (h:codeAny (model prog w) (A.under (.builtin "type.__call__" ⟨.ref C :: vs,kw⟩)) (.call (.ref f) ⟨.ref (s.heap.objs.size + 1) :: vs,kw⟩) (PySem.W.InitBack (s.heap.objs.size + 1) R)
   { s with heap:=(s.heap.push PySem.W.emptyDict).push (PySem.W.instObj C s.heap.objs.size) }) :
  codeAny (model prog w) A (.call (.ref C) ⟨vs,kw⟩) R s:=by
 obtain ⟨hh,g,d,t,os⟩:=s;exact PySem.W.make_core (PySem.W.makes_of X hm) (PySem.W.looks_findIn X hi) (fun self=>PySem.W.bind_fn X self hf) (.inl rfl) h
end
noncomputable def ai (f:Str) (v:V):List (Str × V)→List (Str × V)
 | []=>[(f,v)]
 | (g,x) :: r=>if g=f then (g,v) :: r else (g,x) :: ai f v r
theorem Rp (f g:Str) (v:V):∀ fs:List (Str × V),(ai f v fs).lookup g=if g=f then some v else fs.lookup g
 | []=>by
  show List.lookup g [(f,v)]=_;by_cases h:g=f
  ·have hb:(g == f)=true:=beq_iff_eq.mpr h;simp only [List.lookup,hb,if_pos h]
  ·have hb:(g == f)=false:=beq_eq_false_iff_ne.mpr h;simp only [List.lookup,hb,if_neg h]
 | (k,x) :: r=>by
  have ih:=Rp f g v r;rw [show ai f v ((k,x) :: r)=(if k=f then (k,v) :: r else (k,x) :: ai f v r) from rfl];by_cases hk:k=f
  ·rw [if_pos hk];by_cases h:g=k
   ·have hb:(g == k)=true:=beq_iff_eq.mpr h;simp only [List.lookup,hb,if_pos (h.trans hk)]
   ·have hb:(g == k)=false:=beq_eq_false_iff_ne.mpr h;simp only [List.lookup,hb,if_neg (fun e:g=f=>h (e.trans hk.symm))]
  ·rw [if_neg hk];by_cases h:g=k
   ·have hb:(g == k)=true:=beq_iff_eq.mpr h;simp only [List.lookup,hb,if_neg (fun e:g=f=>hk (h.symm.trans e))]
   ·have hb:(g == k)=false:=beq_eq_false_iff_ne.mpr h;simp only [List.lookup,hb];exact ih
theorem zp (f:Str) (v:V):∀ fs:List (Str × V),f ∈ (ai f v fs).map (·.1)∧∀ g,g ∈ fs.map (·.1)→g ∈ (ai f v fs).map (·.1)
 | []=>⟨by simp [ai],fun g h=>by simp at h⟩
 | (k,x) :: r=>by
  obtain ⟨i1,i2⟩:=zp f v r;rw [show ai f v ((k,x) :: r)=(if k=f then (k,v) :: r else (k,x) :: ai f v r) from rfl];by_cases hk:k=f
  ·rw [if_pos hk];subst hk;exact ⟨by simp,fun g h=>by simpa using h⟩
  ·rw [if_neg hk];refine ⟨?_,fun g h=>?_⟩
   ·rw [List.map_cons];exact List.mem_cons_of_mem _ i1
   ·rw [List.map_cons] at h ⊢;rcases List.mem_cons.mp h with e | e
    ·exact List.mem_cons.mpr (.inl e)
    ·exact List.mem_cons_of_mem _ (i2 g e)
theorem Fl (f:Str) (v:V):∀ fs:List (Str × V),(ai f v fs).length ≤ fs.length + 1
 | []=>by simp [ai]
 | (k,x) :: r=>by
  have ih:=Fl f v r;rw [show ai f v ((k,x) :: r)=(if k=f then (k,v) :: r else (k,x) :: ai f v r) from rfl];by_cases hk:k=f
  ·rw [if_pos hk,List.length_cons,List.length_cons];omega
  ·rw [if_neg hk,List.length_cons,List.length_cons];omega
theorem ou.some_of {v:V} {o:Option Value} (r:ou (some v) o):∃ u,o=some u∧zd v u:=by
 cases o with
 | none=>exact (show False from r).elim
 | some u=>exact ⟨u,rfl,r⟩
theorem ou.none_of {o:Option Value} (r:ou none o):o=none:=by
 cases o with
 | none=>rfl
 | some u=>exact (show False from r).elim
theorem YA {v:V} {u:Value} (r:zd v u):PySem.W.handedIn u=true:=by
 cases v with
 | non=>cases (show u=Value.none from r);rfl
 | bl b=>cases (show u=Value.bool b from r);rfl
 | int i=>obtain ⟨t,e⟩:=(show ∃ t,u=Value.int i t from r);cases e;rfl
 | str x=>obtain ⟨t,e⟩:=(show ∃ t,u=Value.str x t from r);cases e;rfl
 | byt b=>obtain ⟨t,e⟩:=(show ∃ t,u=Value.bytes b t from r);cases e;rfl
 | flt b=>obtain ⟨t,e⟩:=(show ∃ t,u=Value.float b t from r);cases e;rfl
 | ref a=>cases (show u=Value.ref a from r);rfl
 | ty n=>cases (show u=Value.type n from r);rfl
section
variable {P:Program} {w:World} {H H':Hp} {h h':Heap} {a C dx:Addr} {fs fs':List (Str × V)}
theorem su (hok:HOk P w H h) (e:H a=some (.ins C dx fs)):∃ mA,kI h a dx C mA∧(∀ f,ou (fs.lookup f) (mA f))∧PySem.Within mA (fs.map (·.1))∧fs.length ≤ 1000∧H dx=some (.own a):=by
 obtain ⟨d,z,ne,ob,mA,n,r,q⟩:=(show Td P w H h a (.ins C dx fs) from hok a _ e);exact ⟨mA,⟨ob,n,ne⟩,r,q,z,d⟩
end
structure Cls (K:PySem.W.Frag) (C:Addr):Prop where
 pg:PySem.W.plainGet K C Str.empty=true
 hd:PySem.W.hasDictIn K C=true
 po:PySem.W.plainOver K C=true
 sa:PySem.W.findIn K (.ref C) "__setattr__"=some (some (.builtin "object.__setattr__"))
theorem Cls.get {K:PySem.W.Frag} {C:Addr} (c:Cls K C) (f:Str):PySem.W.plainGet K C f=true:=c.pg
noncomputable def dc (K:PySem.W.Frag) (C:Addr) (f:Str):Prop:=PySem.W.findIn K (.ref C) f=some none
theorem dc.taker {K:PySem.W.Frag} {C:Addr} {f:Str} (n:dc K C f):PySem.W.takerIn K C f=some none:=by
 unfold PySem.W.takerIn;rw [show PySem.W.findIn K (.ref C) f=some none from n];rfl
structure Con (K:PySem.W.Frag) (C:Addr) (f:Str) (v:V) (u:Value):Prop where
 at_:PySem.W.findIn K (.ref C) f=some (some u)
 rel:zd v u
 get:PySem.W.specialIn K u "__get__"=some none
 cp:PySem.W.copiedNames.contains f=false
structure iu (K:PySem.W.Frag) (C:Addr) (m:Str) (f:Addr):Prop where
 at_:PySem.W.findIn K (.ref C) m=some (some (.ref f))
 fn:PySem.W.isFn K (.ref f)=true
 kp:PySem.W.keepIn K (.ref f)=true
section
variable {X:Cx} {pins:List (Addr × Obj)} {σ:St} {H:Hp} {s:Shared} {a C dx:Addr} {fs:List (Str × V)} {f:Str} {v:V} {A:Around} {E:Value→Shared→Prop}
theorem Gs {b:Bool} {Q:Value→Shared→Prop} (I:Inv X pins σ H s) (e:H a=some (.ins C dx fs)) (c:Cls X.K C) (n:dc X.K C f) (l:fs.lookup f=some v)
  (h:∀ u s',Inv X pins σ H s'→zd v u→Q u s'):wpAny (model X.prog X.w) A (getAttr (.ref a) f b) Q E s:=by
 obtain ⟨mA,O,r,_,_,_⟩:=su I.hok e;obtain ⟨u,hu,ru⟩:=ou.some_of (v:=v) (o:=mA f) (by rw [← l];exact r f);exact jI I.kIn O (c.get f) c.hd n hu (YA ru) (h u _ (I.tok _) ru)
theorem Tm {m:Str} {g:Addr} {pl:Sem Bool} {Q:Value × List Value→Shared→Prop} (I:Inv X pins σ H s) (e:H a=some (.ins C dx fs)) (c:Cls X.K C) (k:iu X.K C m g) (l:fs.lookup m=none)
  (h:Q (.ref g,[.ref a]) s):wpAny (model X.prog X.w) A (getMethod (.ref a) m pl) Q E s:=by
 obtain ⟨mA,O,r,_,_,_⟩:=su I.hok e;have hn:mA m=none:=ou.none_of (by rw [← l];exact r m);exact nF I.kIn O (c.get m) k.at_ k.fn hn h
theorem Js {y:V} {u:Value} {Q:Unit→Shared→Prop} (I:Inv X pins σ H s) (e:H a=some (.ins C dx fs)) (c:Cls X.K C) (n:dc X.K C f) (hl:fs.length < 1000) (ry:zd y u)
  (h:∀ s',Inv X pins σ (upd H a (.ins C dx (ai f y fs))) s'→Q () s'):wpAny (model X.prog X.w) A (setAttr (.ref a) f u) Q E s:=by
 obtain ⟨mA,O,r,wi,_,ho⟩:=su I.hok e;have hz:(fs.map (·.1)).length ≤ sizeLine:=by rw [List.length_map,sizeLine_eq];omega
 refine pI I.kIn O c.sa c.po n.taker c.hd wi hz fun h' O' sb=>h _ ?_
 have hd:∃ o,h'.get? dx=some o:=let ⟨o,_,_,e',_⟩:=O'.ns;⟨o,e'⟩;refine I.write (x:=a) (e:=dx) (by rw [e];exact True.intro) (.inr ho) (fun b q hb z=>(sb.2 b hb).trans z) hd ?_;refine ⟨by rw [qb O.ne];exact ho,?_,O.ne,O'.obj,_,O'.ns,fun g=>?_,fun g hg=>?_⟩
 ·have:=Fl f y fs;omega
 ·show ou ((ai f y fs).lookup g) (if g=f then some u else mA g);rw [Rp];by_cases q:g=f
  ·rw [if_pos q,if_pos q];exact ry
  ·rw [if_neg q,if_neg q];exact r g
 ·by_cases q:g=f
  ·rw [q];exact (zp f y fs).1
  ·refine (zp f y fs).2 g (wi g fun z=>hg ?_);show (if g=f then some u else mA g)=none;rw [if_neg q];exact z
theorem Inv.made (I:Inv X pins σ H s):Inv X pins σ (upd (upd H s.heap.objs.size (.own (s.heap.objs.size + 1))) (s.heap.objs.size + 1) (.ins C s.heap.objs.size []))
  { s with heap:=(s.heap.push PySem.W.emptyDict).push (PySem.W.instObj C s.heap.objs.size) }:=by
 have e1:(s.heap.push PySem.W.emptyDict).get? s.heap.objs.size=some PySem.W.emptyDict:=Heap.get?_push_size s.heap rfl;have e2:((s.heap.push PySem.W.emptyDict).push (PySem.W.instObj C s.heap.objs.size)).get? (s.heap.objs.size + 1)=some (PySem.W.instObj C s.heap.objs.size):=by
  have:=Heap.get?_push_size (s.heap.push PySem.W.emptyDict) (o:=PySem.W.instObj C s.heap.objs.size) rfl;rwa [Heap.size_push] at this
 have e3:(s.heap.push PySem.W.emptyDict).Ns s.heap.objs.size (fun _=>none):=⟨PySem.W.emptyDict,#[],_,e1,rfl,(fun e he=>absurd he (by simp)),fun _=>rfl⟩;have I1:=I.laid (a:=s.heap.objs.size) (o:=.own (s.heap.objs.size + 1)) (h':=s.heap.push PySem.W.emptyDict) (t':=s.toks) (fun b u q=>Heap.get?_push_of_some _ q) (Nat.le_refl _) ⟨_,e1⟩;refine I1.laid (a:=s.heap.objs.size + 1) (o:=.ins C s.heap.objs.size []) (t':=s.toks) (fun b u q=>Heap.get?_push_of_some _ q) (Nat.le_of_eq (Heap.size_push _ _)) ?_;have ne:s.heap.objs.size ≠ s.heap.objs.size + 1:=Nat.ne_of_lt (Nat.lt_succ_self _);refine ⟨by rw [qb ne,db],Nat.zero_le _,ne,e2,fun _=>none,(Heap.Ns1.of_empty e3).at fun o q=>Heap.get?_push_of_some _ q,fun _=>True.intro,fun y hy=>absurd rfl hy⟩
theorem TH {prog:Program} {w:World} {env:Env} {e:Expr} {f:Str} {pos:Pos} {s:Shared} {Q:Value→Shared→Prop} (hb:attributeBase e f env (eval e env)=eval e env)
  (h:wpAny (model prog w) A (eval e env) (fun o s₁=>wpAny (model prog w) A (getAttr o f true) Q E s₁) E s):wpAny (model prog w) A (eval (.Attribute e f pos) env) Q E s:=
 Attribute_any_ h (by rw [arm_eval_Attribute,hb])
end
noncomputable def EL (K:PySem.W.Frag) (ta:TE) (f:Str):TE:=fun σ H Q=>ta σ H fun x H1=>∃ a C dx fs v,x=.ref a∧H1 a=some (.ins C dx fs)∧Cls K C∧dc K C f∧fs.lookup f=some v∧Q v H1
noncomputable def lM (K:PySem.W.Frag) (ta tv:TE) (f:Str):TS:=fun D σ H=>tv σ H fun y H1=>ta σ H1 fun x H2=>∃ a C dx fs,x=.ref a∧H2 a=some (.ins C dx fs)∧Cls K C∧dc K C f∧fs.length < 1000 ∧
 D.nx σ (upd H2 a (.ins C dx (ai f y fs)))
noncomputable def mM (X:Cx) (op:Operator) (rd:V→V→Hp→VK→Prop):Prop:=
 ∀ (pins:List (Addr × Obj)) (s:Shared) (σ:St) (H:Hp) (x y:V) (u v:Value) (Q:VK),Inv X pins σ H s→zd x u→zd y v→rd x y H Q→wpAny (model X.prog X.w) X.A (inplaceOp op u v) (EP X pins σ Q) X.xe s
noncomputable def gB (K:PySem.W.Frag) (ta tv:TE) (rd:V→V→Hp→VK→Prop) (f:Str):TS:=fun D σ H=>ta σ H fun x H1=>∃ a C dx fs v,x=.ref a∧H1 a=some (.ins C dx fs)∧Cls K C∧dc K C f∧fs.lookup f=some v ∧
 tv σ H1 fun y H2=>rd v y H2 fun z H3=>∃ dx' fs',H3 a=some (.ins C dx' fs')∧fs'.length < 1000∧D.nx σ (upd H3 a (.ins C dx' (ai f z fs')))
section
variable {X:Cx} {o e value:Expr} {f:Str} {pos pos' tpos:Pos} {ta tv:TE}
theorem Bc (he:PE X e ta) (hb:attributeBase e f X.env (eval e X.env)=eval e X.env):PE X (.Attribute e f pos) (EL X.K ta f):=by
 intro pins s σ H Q I h;refine TH hb (thn (he pins s σ H _ I h) fun u s1 hZ1=>?_);obtain ⟨x,H1,I1,rx,a,C,dx,fs,v,ex,ea,c,n,l,q⟩:=hZ1;subst ex;obtain rfl:u=Value.ref a:=rx;exact Gs I1 ea c n l fun u' s2 I2 ru=>⟨v,H1,I2,ru,q⟩
theorem Df (ha:PE X o ta) (hv:PE X value tv) (hs:swapsWith value (some (.Attribute o f pos')) pos.line X.env=pure false):PS X (.Assign [.Attribute o f pos'] value pos) (lM X.K ta tv f):=by
 intro pins s σ H D I h;refine plainObj_wpAny_Assign_Attribute (thn (hv pins s σ H _ I h) fun u s1 ⟨y,H1,I1,ry,q⟩=>thn (ha pins s1 σ H1 _ I1 q) fun ov s2 hZ1=>?_) hs;obtain ⟨x,H2,I2,rx,a,C,dx,fs,ex,ea,c,n,l,q2⟩:=hZ1;subst ex;obtain rfl:ov=Value.ref a:=rx;exact Js I2 ea c n l ry fun s3 I3=>⟨σ,_,I3,q2⟩
theorem iB {op:Operator} {rd:V→V→Hp→VK→Prop} (ha:PE X o ta) (hv:PE X value tv) (hop:mM X op rd):PS X (.AugAssign (.Attribute o f tpos) op value pos) (gB X.K ta tv rd f):=by
 intro pins s σ H D I h;refine wpAny_AugAssign_AttributeAny (thn (ha pins s σ H _ I h) fun ov s1 hZ1=>?_);obtain ⟨x,H1,I1,rx,a,C,dx,fs,v,ex,ea,c,n,l,q⟩:=hZ1;subst ex;obtain rfl:ov=Value.ref a:=rx;refine Gs I1 ea c n l fun u s2 I2 ru=>thn (hv pins s2 σ H1 _ I2 q) fun w3 s3 ⟨y,H2,I3,ry,q3⟩=>thn (hop pins s3 σ H2 v y u w3 _ I3 ru ry q3) fun w4 s4 hZ1=>?_
 obtain ⟨z,H3,I4,rz,dx',fs',ea',l',q4⟩:=hZ1;exact Js I4 ea' c n l' rz fun s5 I5=>⟨σ,_,I5,q4⟩
noncomputable def nM:V→V→Hp→VK→Prop:=fun x y H Q=>∃ i j,x=.int i∧y=.int j∧Q (.int (i + j)) H
theorem YJ:mM X .Add nM:=by
 rintro pins s σ H x y u v Q I rx ry ⟨i,j,rfl,rfl,q⟩;obtain ⟨t,rfl⟩:=(show ∃ t,u=Value.int i t from rx);obtain ⟨t',rfl⟩:=(show ∃ t',v=Value.int j t' from ry);exact PyProof.Rows.iadd_int ⟨.int (i + j),H,I.tok _,⟨_,rfl⟩,q⟩
end
section
variable {X:Cx} {pins:List (Addr × Obj)} {σ:St} {H:Hp} {s:Shared} {A:Around} {E:Value→Shared→Prop} {Q:Value→Shared→Prop} {c:Value} {b:Bool}
inductive dy (K:PySem.W.Frag) (H:Hp):V→Value→Prop where
 | non:dy K H .non (.type "NoneType")
 | bl (x:Bool):dy K H (.bl x) (.type "bool")
 | int (i:Int):dy K H (.int i) (.type "int")
 | str (x:Str):dy K H (.str x) (.type "str")
 | flt (x:UInt64):dy K H (.flt x) (.type "float")
 | lst {a:Addr} {xs:List V} (e:H a=some (.lst xs)):dy K H (.ref a) (.type "list")
 | frz {a:Addr} {o:Obj} {xs:List V} (e:H a=some (.frz o (.lst xs))):dy K H (.ref a) (.type "list")
 | tup {a:Addr} {xs:List V} (e:H a=some (.tup xs)):dy K H (.ref a) (.type "tuple")
 | dK {a:Addr} {kvs:List (Key × V)} (e:H a=some (.dK kvs)):dy K H (.ref a) (.type "dict")
 | dT {a:Addr} {kvs:List (List Key × V)} (e:H a=some (.dT kvs)):dy K H (.ref a) (.type "dict")
 | ins {a C dx:Addr} {fs:List (Str × V)} (e:H a=some (.ins C dx fs)) (cl:Cls K C) (ha:PySem.W.findIn K (.ref C) "__class__"=some (some (.builtin "object.__class__")))
   (hn:PySem.W.specialIn K (.builtin "object.__class__") "__get__"=some (some (.builtin "getset_descriptor.__get__"))) (htk:PySem.W.takesIn K (.builtin "object.__class__")=some true)
   (hm:PySem.W.mroIn K C (.type "object")=some true):dy K H (.ref a) (.ref C)
theorem xA {x:V} {u t:Value} (I:Inv X pins σ H s) (rx:zd x u) (ty:dy X.K H x t) (e:PySem.W.kitOne X.K t c=some b) (h:∀ tk,Q (.bool b) { s with toks:=tk }) :
  wpAny (model X.prog X.w) A (call (.builtin "isinstance") [u,c]) Q E s:=by
 cases ty with
 | non=>cases (show u=Value.none from rx);exact PySem.W.kia_one PySem.W.kitx_none I.kIn True.intro e (fun z=>nomatch z) h
 | bl y=>cases (show u=Value.bool y from rx);exact PySem.W.kia_one PySem.W.kitx_bool I.kIn True.intro e (fun z=>nomatch z) h
 | int i=>obtain ⟨t,q⟩:=(show ∃ t,u=Value.int i t from rx);cases q;exact PySem.W.kia_one PySem.W.kitx_int I.kIn True.intro e (fun z=>nomatch z) h
 | str y=>obtain ⟨t,q⟩:=(show ∃ t,u=Value.str y t from rx);cases q;exact PySem.W.kia_one PySem.W.kitx_str I.kIn True.intro e (fun z=>nomatch z) h
 | flt y=>obtain ⟨t,q⟩:=(show ∃ t,u=Value.float y t from rx);cases q;exact PySem.W.kia_one PySem.W.kitx_float I.kIn True.intro e (fun z=>nomatch z) h
 | @lst a xs ea=>
  cases (show u=Value.ref a from rx);obtain ⟨_,_,n,_,h1⟩:=(show Td X.prog X.w H s.heap a (.lst xs) from I.hok a _ ea);exact PySem.W.kia_one PySem.W.kitx_list I.kIn ⟨_,h1,rfl⟩ e (fun z=>nomatch z) h
 | @frz a ob xs ea=>
  cases (show u=Value.ref a from rx);obtain ⟨_,_,_,n,_,h1⟩:=(show Td X.prog X.w H s.heap a (.frz ob (.lst xs)) from I.hok a _ ea);exact PySem.W.kia_one PySem.W.kitx_list I.kIn ⟨_,h1,rfl⟩ e (fun z=>nomatch z) h
 | @tup a xs ea=>
  cases (show u=Value.ref a from rx);obtain ⟨_,_,_,p⟩:=(show Td X.prog X.w H s.heap a (.tup xs) from I.hok a _ ea);obtain ⟨o,h1,h2,_⟩:=p;exact PySem.W.kia_one PySem.W.kitx_tuple I.kIn ⟨o,h1,h2⟩ e (fun z=>nomatch z) h
 | @dK a kvs ea=>
  cases (show u=Value.ref a from rx);obtain ⟨_,_,vs,_,p⟩:=(show Td X.prog X.w H s.heap a (.dK kvs) from I.hok a _ ea);obtain ⟨o,es,ep,h1,h2,_⟩:=p;exact PySem.W.kia_one PySem.W.kitx_dict I.kIn ⟨o,h1,h2.1⟩ e (fun z=>nomatch z) h
 | @dT a kvs ea=>
  cases (show u=Value.ref a from rx);obtain ⟨_,_,xs,_,o,es,ep,h1,h2,_⟩:=(show Td X.prog X.w H s.heap a (.dT kvs) from I.hok a _ ea);exact PySem.W.kia_one PySem.W.kitx_dict I.kIn ⟨o,h1,h2.1⟩ e (fun z=>nomatch z) h
 | @ins a C dx fs ea cl ha hn htk hm=>
  cases (show u=Value.ref a from rx);obtain ⟨mA,O,_⟩:=su I.hok ea;obtain ⟨od,J,_⟩:=O.look;exact PySem.W.kia_one (PySem.W.kitx_own (cl.get _) cl.hd ha hn htk hm) I.kIn J e (fun z=>nomatch z) h
end
end L2
namespace L2
open PySem PySem.Spec PyProof.Rows
structure Ej (k:Nat) (A:Around):Prop where
 hd:A.handled=none
 dp:A.depth + 3 * k + 5 < recursionLimit
 un:A.units + 16 * k + 200 < cLine
theorem Ej.mono {j k:Nat} {A:Around} (r:Ej k A) (h:j ≤ k):Ej j A:=⟨r.hd,by have:=r.dp;omega,by have:=r.un;omega⟩
theorem Ej.deeper {k:Nat} {A:Around} (r:Ej (k + 1) A) (env:Env):Ej k (A.deeper env):=
 ⟨r.hd,by have:=r.dp;show A.depth + 1 + 3 * k + 5 < _;omega,by have:=r.un;show A.units + 3 + 16 * k + 200 < _;omega⟩
theorem Ej.in1 {k:Nat} {A:Around} (r:Ej (k + 1) A):Ej k A.in1:=
 ⟨r.hd,by have:=r.dp;show A.depth + 3 * k + 5 < _;omega,by have:=r.un;show A.units + 1 + 16 * k + 200 < _;omega⟩
theorem uz {A:Around} {C:Addr} {us:List Value} {kw:List (Str × Value)}:(A.under (.builtin "type.__call__" ⟨.ref C :: us,kw⟩)).depth=A.depth + 1:=by
 first | rfl | simp [Around.under,Code.weight,Code.isCreation,Code.isGuard,Code.isCaller,Code.frames,Code.isFrame,guardIds]
theorem Yz {A:Around} {C:Addr} {us:List Value} {kw:List (Str × Value)}:(A.under (.builtin "type.__call__" ⟨.ref C :: us,kw⟩)).units=A.units + 1:=by
 first | rfl | simp [Around.under,Code.cUnits,Code.frames,Code.isFrame]
theorem Ej.make {k:Nat} {A:Around} (r:Ej (k + 1) A) (C:Addr) (us:List Value) (kw:List (Str × Value)):Ej k (A.under (.builtin "type.__call__" ⟨.ref C :: us,kw⟩)):=
 ⟨r.hd,by have:=r.dp;rw [uz];omega,by have:=r.un;rw [Yz];omega⟩
theorem Ej.depth {k:Nat} {A:Around} (r:Ej k A):A.depth < recursionLimit:=by have:=r.dp;omega
theorem Ej.units {k:Nat} {A:Around} (r:Ej k A):A.units + 64 < cLine:=by have:=r.un;omega
noncomputable def TK:TA:=fun _ H Q=>Q [] H
noncomputable def GI (ta:TE) (tr:TA):TA:=fun σ H Q=>ta σ H fun x H1=>tr σ H1 fun xs H2=>Q (x :: xs) H2
section
variable {X:Cx} {e:Expr} {es:List Expr} {te:TE} {t:TA} {pos:Pos}
theorem fb:PA X [] TK:=fun _ _ _ _ H Q I h=>Calls.spliced_nil ⟨[],H,I,.nil,h⟩
theorem ab (ha:PE X e te) (hr:PA X es t) (hs:starEach (e :: es) X.env=(false,eval e X.env) :: starEach es X.env:=by rfl):PA X (e :: es) (GI te t):=by
 intro pos pins s σ H Q I h;rw [hs];show wpAny _ _ (spliced ((false,eval e X.env) :: backTo pos (starEach es X.env))) _ _ s;refine Calls.spliced_cons (thn (ha pins s σ H _ I h) fun u s1 hZ1=>?_);obtain ⟨x,H1,I1,r1,q1⟩:=hZ1;exact thn (hr pos pins s1 σ H1 _ I1 q1) fun us s2 ⟨xs,H2,I2,r2,q2⟩=>⟨x :: xs,H2,I2,.cons r1 r2,q2⟩
noncomputable def WL (t:TA):TE:=fun σ H Q=>t σ H fun xs H1=>xs.length ≤ sizeLine∧∀ p,H1 p=none→Q (.ref p) (upd H1 p (.tup xs))
noncomputable def yM (t:TA):TE:=fun σ H Q=>t σ H fun xs H1=>xs.length ≤ sizeLine∧∀ p,H1 p=none→Q (.ref p) (upd H1 p (.lst xs))
theorem bj {x1} (h:PA X es t):PE X (.Tuple es x1 pos) (WL t):=by
 intro pins s σ H Q I hq;refine wpAny_Tuple_spliced (thn (h pos pins s σ H _ I hq) fun us s1 ⟨xs,H1,I1,r,z,q⟩=>⟨by rw [← r.length];exact z,?_⟩);have hf:H1 s1.heap.objs.size=none:=I1.hok.fresh (Nat.le_refl _);refine ⟨.ref s1.heap.objs.size,upd H1 s1.heap.objs.size (.tup xs),I1.laid (t':=s1.toks) (fun b u e=>Heap.get?_push_of_some _ e) (Nat.le_refl _) ?_,rfl,q _ hf⟩;exact ⟨z,us,r,⟨_,Heap.get?_push_size _ rfl,rfl,_,rfl⟩⟩
theorem se (h:PA X es t):PE X (.List es pos) (yM t):=by
 intro pins s σ H Q I hq;refine wpAny_List_spliced (thn (h pos pins s σ H _ I hq) fun us s1 ⟨xs,H1,I1,r,z,q⟩=>⟨by rw [← r.length];exact z,?_⟩);have hf:H1 s1.heap.objs.size=none:=I1.hok.fresh (Nat.le_refl _);refine ⟨.ref s1.heap.objs.size,upd H1 s1.heap.objs.size (.lst xs),I1.laid (t':=s1.toks) (fun b u e=>Heap.get?_push_of_some _ e) (Nat.le_refl _) ?_,rfl,q _ hf⟩;exact ⟨z,us,0,r,Heap.get?_push_size _ rfl⟩
end
noncomputable abbrev Sp:=List V→Hp→VK→XK→Prop
noncomputable abbrev CXT:=List Env→Hp→Shared→XK→Value→Shared→Prop
structure VA (P:Program) (w:World) (K:PySem.W.Frag) (mg:Str→Option Value) (base:Heap) (A:Around) (outer:List Env) (s:Shared) (H:Hp):Prop where
 frames:A.frames=some outer
 mod:Mod K mg base
 bs:∀ b o,base.get? b=some o→s.heap.get? b=some o∧H b=none
 bsz:base.objs.size ≤ s.heap.objs.size
 funs:s.heap.FunFrames base outer
 frf:∀ b ∈ frs outer,H b=none
 hok:HOk P w H s.heap
 bare:AllBare s.gens
noncomputable def CE (outer:List Env) (P:Program) (w:World) (H:Hp) (s:Shared) (Q:VK) (u:Value) (s':Shared):Prop:=
 ∃ v H',s'.os=s.os∧AllBare s'.gens∧Un (frs outer) [] H H' s.heap s'.heap∧HOk P w H' s'.heap∧zd v u∧Q v H'
noncomputable def CR (CX:CXT) (outer:List Env) (P:Program) (w:World) (H:Hp) (s:Shared) (Q:VK) (E:XK) (r:Result) (s':Shared):Prop:=
 match r with
 | .ok (.ret u)=>CE outer P w H s Q u s'
 | .ok _=>False
 | .error e=>CX outer H s E e s'
structure Lb (P:Program) (w:World) (K:PySem.W.Frag) (mg:Str→Option Value) (base:Heap) (CX:CXT) (k:Nat) (f:Addr) (fd:FuncData) (ps:List Str) (sp:Sp):Prop where
 len:∀ vs H Q E,sp vs H Q E→vs.length=ps.length
 run:∀ (A:Around) (outer:List Env) (s:Shared) (H:Hp) (args:Args) (us:List Value) (vs:List V) (Q:VK) (E:XK),Ej k A→VA P w K mg base A outer s H→BindsTo s fd args (ps.zip us)→ld vs us→sp vs H Q E →
  codeAny (model P w) A (.call (.ref f) args) (CR CX outer P w H s Q E) s
theorem Lb.mono {P:Program} {w:World} {K:PySem.W.Frag} {mg:Str→Option Value} {base:Heap} {CX:CXT} {j k:Nat} {f:Addr} {fd:FuncData} {ps:List Str} {sp:Sp} (F:Lb P w K mg base CX j f fd ps sp) (h:j ≤ k) :
  Lb P w K mg base CX k f fd ps sp:=⟨F.len,fun A outer s H args us vs Q E hr=>F.run A outer s H args us vs Q E (hr.mono h)⟩
theorem Lb.imp {P:Program} {w:World} {K:PySem.W.Frag} {mg:Str→Option Value} {base:Heap} {CX:CXT} {k:Nat} {f:Addr} {fd:FuncData} {ps:List Str} {sp sp':Sp} (F:Lb P w K mg base CX k f fd ps sp)
  (h:∀ vs H Q E,sp' vs H Q E→sp vs H Q E):Lb P w K mg base CX k f fd ps sp':=
 ⟨fun vs H Q E q=>F.len vs H Q E (h _ _ _ _ q),fun A outer s H args us vs Q E hr he hb hv hs=>F.run A outer s H args us vs Q E hr he hb hv (h _ _ _ _ hs)⟩
theorem VA.make {P:Program} {w:World} {K:PySem.W.Frag} {mg:Str→Option Value} {base:Heap} {A:Around} {outer:List Env} {s:Shared} {H:Hp} (e:VA P w K mg base A outer s H) (C:Addr) (us:List Value) (kw:List (Str × Value)) :
  VA P w K mg base (A.under (.builtin "type.__call__" ⟨.ref C :: us,kw⟩)) outer s H:=⟨by first | exact e.frames | (simpa [Around.under,Code.envs,Code.isFrame,pushEnvs] using e.frames),e.mod,e.bs,e.bsz,e.funs,e.frf,e.hok,e.bare⟩
theorem VA.in1 {P:Program} {w:World} {K:PySem.W.Frag} {mg:Str→Option Value} {base:Heap} {A:Around} {outer:List Env} {s:Shared} {H:Hp} (e:VA P w K mg base A outer s H) :
  VA P w K mg base A.in1 outer s H:=⟨e.frames,e.mod,e.bs,e.bsz,e.funs,e.frf,e.hok,e.bare⟩
section
variable {X:Cx} {pins:List (Addr × Obj)} {σ:St} {H:Hp} {s s':Shared}
theorem Inv.env0 (I:Inv X pins σ H s):VA X.prog X.w X.K X.mg X.base X.A X.stack s H:=
 ⟨I.ok.frames,I.ok.mod,I.bs,Nat.le_trans I.ok.bsz I.sz,I.stack,I.stkFree,I.hok,I.bare⟩
theorem Inv.after {Q:VK} {u:Value} (I:Inv X pins σ H s) (h:CE X.stack X.prog X.w H s Q u s'):EP X pins σ Q u s':=by
 obtain ⟨v,H',os,bare,un,hok,r,q⟩:=h;obtain ⟨hh,g,d,t,os'⟩:=s';obtain rfl:os'=s.os:=os;exact ⟨v,H',I.call (h':=hh) (g':=g) (d':=d) (t':=t) (ch:=[]) un hok bare (fun b z=>absurd z (by simp)),r,q⟩
end
noncomputable def FH (sp:Sp) (dvs:List V) (E:XK) (t:TA):TE:=fun σ H Q=>t σ H fun vs H1=>sp (vs ++ dvs) H1 Q E
noncomputable def KH (C:Addr) (m:Str) (sp:Sp) (dvs:List V) (E:XK) (ta:TE) (t:TA):TE:=fun σ H Q=>ta σ H fun x H1=>∃ a dx fs,x=.ref a∧H1 a=some (.ins C dx fs)∧fs.lookup m=none ∧
 t σ H1 fun vs H2=>sp (x :: (vs ++ dvs)) H2 Q E
noncomputable def oJ (C:Addr) (sp:Sp) (dvs:List V) (E:XK) (t:TA):TE:=fun σ H Q=>t σ H fun vs H1=>∀ x dx,H1 x=none→H1 dx=none→dx ≠ x →
 sp (.ref x :: (vs ++ dvs)) (upd (upd H1 dx (.own x)) x (.ins C dx [])) (fun v H2=>v=.non∧Q (.ref x) H2) E
noncomputable def fc (K:PySem.W.Frag) (fd:FuncData) (ps:List Str) (ds:List Value):Prop:=
 ∀ (s:Shared) (us:List Value),K.In s.heap→(us ++ ds).length=ps.length→BindsTo s fd ⟨us,[]⟩ (ps.zip (us ++ ds))
theorem fc.all {K:PySem.W.Frag} {fd:FuncData} {ps:List Str} (h:∀ us:List Value,us.length=ps.length→bindArgs fd ⟨us,[]⟩=pure (ps.zip us)):fc K fd ps []:=fun s us _ hl=>by
 rw [List.append_nil] at hl ⊢;exact .of_eq (h us hl)
noncomputable def Hm (CX:CXT) (X:Cx) (E:XK):Prop:=∀ (pins:List (Addr × Obj)) (σ:St) (H:Hp) (s:Shared) (e:Value) (s':Shared),Inv X pins σ H s→CX X.stack H s E e s'→X.xe e s'
section
variable {X:Cx} {CX:CXT} {k:Nat} {f C:Addr} {fd:FuncData} {ps:List Str} {sp:Sp} {dvs:List V} {ds:List Value} {E:XK} {x m:Str} {p pos apos:Pos} {e o:Expr} {es:List Expr} {ta:TE} {t:TA}
theorem vv {pins:List (Addr × Obj)} {σ:St} {H:Hp} {s:Shared} {Q:VK} {us:List Value} {vs:List V} (F:Lb X.prog X.w X.K X.mg X.base CX k f fd ps sp) (hr:Ej k X.A) (hb:fc X.K fd ps ds) (hd:ld dvs ds) (hx:Hm CX X E)
  (I:Inv X pins σ H s) (r:ld vs us) (h:sp (vs ++ dvs) H Q E):wpAny (model X.prog X.w) X.A (call (.ref f) us) (EP X pins σ Q) X.xe s:=by
 have r2:ld (vs ++ dvs) (us ++ ds):=r.append hd;have hl:(us ++ ds).length=ps.length:=by rw [← r2.length];exact F.len _ _ _ _ h
 refine wpAny_call (codeAny_mono (F.run X.A X.stack s H ⟨us,[]⟩ (us ++ ds) (vs ++ dvs) Q E hr I.env0 (hb s us I.kIn hl) r2 h) fun r s' hq=>?_);cases r with
 | error e=>exact hx pins σ H s e s' I hq
 | ok fl=>
  cases fl with
  | ret u=>exact I.after hq
  | next=>exact False.elim hq
  | brk=>exact False.elim hq
  | cont=>exact False.elim hq
theorem yb (F:Lb X.prog X.w X.K X.mg X.base CX k f fd ps sp) (hr:Ej k X.A) (hg:Gl X x) (hm:X.mg x=some (.ref f)) (hk:PySem.W.keepIn X.K (.ref f)=true) (hb:fc X.K fd ps ds) (hd:ld dvs ds) (hx:Hm CX X E)
  (ha:PA X (e :: es) t) (hdb:(x == ("__debug__" : Str))=false:=by decide) (he:starEach (e :: es) X.env=(false,eval e X.env) :: starEach es X.env:=by rfl) (hpl:(backTo pos (starEach es X.env)).any (·.1)=false:=by rfl) :
  PE X (.Call (.Name x p) (e :: es) [] pos) (FH sp dvs E t):=by
 intro pins s σ H Q I h;refine wpAny_Call_Name_kw (gu I hg hm ?_ hdb);refine PySem.W.callWith_K (h₀:=X.base) I.ok.mod.kin hk (thn (ha pos pins s σ H _ I h) fun us s1 ⟨vs,H1,I1,r,q⟩=>⟨I1.kIn,?_⟩) he hpl;exact vv F hr hb hd hx I1 r q
theorem Xc {pl:Sem Bool} (he:PE X o ta) (c:Cls X.K C) (hm:iu X.K C m f) (F:Lb X.prog X.w X.K X.mg X.base CX k f fd ps sp) (hr:Ej k X.A) (hb:fc X.K fd ps ds) (hd:ld dvs ds) (hx:Hm CX X E) (ha:PA X (e :: es) t)
  (hst:starEach (e :: es) X.env=(false,eval e X.env) :: starEach es X.env:=by rfl) (hpl:(backTo pos (starEach es X.env)).any (·.1)=false:=by rfl)
  (ht:eval (.Call (.Attribute o m apos) (e :: es) [] pos) X.env=(do
   let ov ← eval o X.env
   standAt apos.atName
   let (f,first) ← holding [ov] (getMethod ov m pl)
   callWith pos f first (backTo pos (starEach (e :: es) X.env)) (backToKw pos (keywordEach [] X.env))):=by rfl) :
  PE X (.Call (.Attribute o m apos) (e :: es) [] pos) (KH C m sp dvs E ta t):=by
 intro pins s σ H Q I h;refine PySem.W.methodCall_KW (pl:=pl) (thn (he pins s σ H _ I h) fun u s1 hZ1=>?_) ht;obtain ⟨x,H1,I1,rx,a,dx,fs,ex,ea,l,q⟩:=hZ1;subst ex;obtain rfl:u=Value.ref a:=rx;refine Tm I1 ea c hm l ?_;refine PySem.W.callWith_K (first:=[.ref a]) (h₀:=X.base) I.ok.mod.kin hm.kp (thn (ha pos pins s1 σ H1 _ I1 q) fun us s2 ⟨vs,H2,I2,r,q2⟩=>⟨I2.kIn,?_⟩) hst hpl;exact vv (us:=.ref a :: us) (vs:=.ref a :: vs) F hr hb hd hx I2 (.cons rfl r) q2
theorem Xd {pl:Sem Bool} (he:PE X o ta) (c:Cls X.K C) (hm:iu X.K C m f) (F:Lb X.prog X.w X.K X.mg X.base CX k f fd ps sp) (hr:Ej k X.A) (hb:fc X.K fd ps ds) (hd:ld dvs ds) (hx:Hm CX X E)
  (ht:eval (.Call (.Attribute o m apos) [] [] pos) X.env=(do
   let ov ← eval o X.env
   standAt apos.atName
   let (f,first) ← holding [ov] (getMethod ov m pl)
   callWith pos f first (backTo pos (starEach [] X.env)) (backToKw pos (keywordEach [] X.env))):=by rfl) :
  PE X (.Call (.Attribute o m apos) [] [] pos) (KH C m sp dvs E ta TK):=by
 intro pins s σ H Q I h;refine PySem.W.methodCall_KW (pl:=pl) (thn (he pins s σ H _ I h) fun u s1 hZ1=>?_) ht;obtain ⟨x,H1,I1,rx,a,dx,fs,ex,ea,l,q⟩:=hZ1;subst ex;obtain rfl:u=Value.ref a:=rx;refine Tm I1 ea c hm l ?_;exact PySem.W.callWith_K0 (first:=[.ref a]) I1.kIn hm.kp (vv (us:=[.ref a]) (vs:=[.ref a]) F hr hb hd hx I1 (.cons rfl .nil) q)
structure Mk (K:PySem.W.Frag) (C f:Addr):Prop where
 makes:PySem.W.makesIn K C=true
 init:PySem.W.findIn K (.ref C) "__init__"=some (some (.ref f))
 fn:PySem.W.isFn K (.ref f)=true
 kp:PySem.W.keepIn K (.ref C)=true
theorem KD {pins:List (Addr × Obj)} {σ:St} {H:Hp} {s:Shared} {Q:VK} {us:List Value} {vs:List V} (M:Mk X.K C f) (F:Lb X.prog X.w X.K X.mg X.base CX k f fd ps sp) (hr:Ej (k + 1) X.A) (hb:fc X.K fd ps ds) (hd:ld dvs ds)
  (hx:Hm CX X E) (I:Inv X pins σ H s) (r:ld vs us)
  (h:∀ x dx,H x=none→H dx=none→dx ≠ x→sp (.ref x :: (vs ++ dvs)) (upd (upd H dx (.own x)) x (.ins C dx [])) (fun v H2=>v=.non∧Q (.ref x) H2) E) :
  wpAny (model X.prog X.w) X.A (call (.ref C) us) (EP X pins σ Q) X.xe s:=by
 have hq:=h (s.heap.objs.size + 1) s.heap.objs.size (I.hok.fresh (Nat.le_succ _)) (I.hok.fresh (Nat.le_refl _)) (Nat.ne_of_lt (Nat.lt_succ_self _));have I2:=Inv.made (C:=C) I;have r2:ld (V.ref (s.heap.objs.size + 1) :: (vs ++ dvs)) (Value.ref (s.heap.objs.size + 1) :: (us ++ ds)):=.cons rfl (r.append hd);have hl:(Value.ref (s.heap.objs.size + 1) :: us ++ ds).length=ps.length:=by
  have e:=r2.length;rw [F.len _ _ _ _ hq] at e;exact e.symm
 refine wpAny_call (mF (f:=f) I.kIn M.makes M.init (beq_iff_eq.mp M.fn) (codeAny_mono (F.run _ X.stack _ _ ⟨Value.ref (s.heap.objs.size + 1) :: us,[]⟩ (Value.ref (s.heap.objs.size + 1) :: (us ++ ds)) _ _ E (hr.make C us [])
  (I2.env0.make C us []) (hb _ (Value.ref (s.heap.objs.size + 1) :: us) I2.kIn hl) r2 hq) fun r s' hq'=>?_))
 cases r with
 | error e=>exact hx pins σ _ _ e s' I2 hq'
 | ok fl=>
  cases fl with
  | ret u=>
   obtain ⟨v,H',I3,rv,ev,q3⟩:=I2.after hq';subst ev;exact ⟨rv,⟨V.ref (s.heap.objs.size + 1),H',I3,rfl,q3⟩⟩
  | next=>exact False.elim hq'
  | brk=>exact False.elim hq'
  | cont=>exact False.elim hq'
theorem Vm (M:Mk X.K C f) (F:Lb X.prog X.w X.K X.mg X.base CX k f fd ps sp) (hr:Ej (k + 1) X.A) (hg:Gl X x) (hm:X.mg x=some (.ref C)) (hb:fc X.K fd ps ds) (hd:ld dvs ds) (hx:Hm CX X E)
  (ha:PA X (e :: es) t) (hdb:(x == ("__debug__" : Str))=false:=by decide) (he:starEach (e :: es) X.env=(false,eval e X.env) :: starEach es X.env:=by rfl) (hpl:(backTo pos (starEach es X.env)).any (·.1)=false:=by rfl) :
  PE X (.Call (.Name x p) (e :: es) [] pos) (oJ C sp dvs E t):=by
 intro pins s σ H Q I h;refine wpAny_Call_Name_kw (gu I hg hm ?_ hdb);refine PySem.W.callWith_K (h₀:=X.base) I.ok.mod.kin M.kp (thn (ha pos pins s σ H _ I h) fun us s1 ⟨vs,H1,I1,r,q⟩=>⟨I1.kIn,?_⟩) he hpl;exact KD M F hr hb hd hx I1 r q
end
section
variable {X:Cx} {CX:CXT} {k:Nat} {f C:Addr} {fd:FuncData} {ps ks:List Str} {sp:Sp} {E:XK} {x m:Str} {p pos apos kpos:Pos} {e o:Expr} {es:List Expr} {kws:List Keyword} {te ta:TE} {t tk:TA} {nm:Option Str}
structure oM (K:PySem.W.Frag) (fd:FuncData) (ps ks:List Str) (g:List Value→List Value→List Value) (gV:List V→List V→List V):Prop where
 to:∀ (s:Shared) (us ws:List Value),K.In s.heap→(g us ws).length=ps.length→BindsTo s fd ⟨us,ks.zip ws⟩ (ps.zip (g us ws))
 rel:∀ {vs:List V} {us:List Value} {zs:List V} {ws:List Value},ld vs us→ld zs ws→ld (gV vs zs) (g us ws)
variable {g:List Value→List Value→List Value} {gV:List V→List V→List V}
end
structure Ab (N P:List Str) (sc:Scope):Prop where
 kind:sc.kind=.function
 co:sc.isCoroutine=false
 gen:sc.isGenerator=false
 nd:N.Nodup
 pre:N.take P.length=P
 par:∀ x ∈ P,sc.names.lookup x=some .local∨sc.names.lookup x=some .cell
 nofree:∀ y ∈ sc.names,y.2 ≠ .free
theorem Mu {kindOf:Str→Option NameKind} {x:Str}:∀ {binds:List (Str × Value)} {m:Str→Option Value},(∀ v,(x,v) ∉ binds)→bindL kindOf binds m x=m x
 | [],_,_=>rfl
 | (n,v) :: r,m,h=>by
  unfold bindL;rw [Mu fun w hw=>h w (List.mem_cons_of_mem _ hw)];split
  ·have:x ≠ n:=by rintro rfl;exact h v List.mem_cons_self
   simp [this]
  ·rfl
theorem dw {kindOf:Str→Option NameKind} {x:Str}:∀ {binds:List (Str × Value)} {m:Str→Option Value},(∀ v,(x,v) ∉ binds)→bindC kindOf binds m x=m x
 | [],_,_=>rfl
 | (n,v) :: r,m,h=>by
  unfold bindC;rw [dw fun w hw=>h w (List.mem_cons_of_mem _ hw)];split
  ·rfl
  ·have:x ≠ n:=by rintro rfl;exact h v List.mem_cons_self
   simp [this]
theorem fv {kindOf:Str→Option NameKind} {x:Str} {v:Value}:∀ {P:List Str} {vs:List Value} {i:Nat} {m:Str→Option Value},P.Nodup→P[i]? = some x→vs[i]? = some v→kindOf x=some .local →
  bindL kindOf (P.zip vs) m x=some v
 | [],_,_,_,_,h,_,_=>by simp at h
 | _ :: _,[],_,_,_,_,h,_=>by simp at h
 | p :: P,w :: vs,0,m,nd,h1,h2,hk=>by
  simp at h1 h2;subst h1;subst h2;show bindL kindOf ((p,w) :: P.zip vs) m p=_;unfold bindL;rw [Mu fun v hv=>(List.nodup_cons.mp nd).1 (List.of_mem_zip hv).1,if_pos hk];simp
 | p :: P,w :: vs,i + 1,m,nd,h1,h2,hk=>by
  show bindL kindOf ((p,w) :: P.zip vs) m x=_;unfold bindL;exact fv (i:=i) (List.nodup_cons.mp nd).2 (by simpa using h1) (by simpa using h2) hk
theorem Yv {kindOf:Str→Option NameKind} {x:Str} {v:Value}:∀ {P:List Str} {vs:List Value} {i:Nat} {m:Str→Option Value},P.Nodup→P[i]? = some x→vs[i]? = some v→kindOf x ≠ some .local →
  bindC kindOf (P.zip vs) m x=some v
 | [],_,_,_,_,h,_,_=>by simp at h
 | _ :: _,[],_,_,_,_,h,_=>by simp at h
 | p :: P,w :: vs,0,m,nd,h1,h2,hk=>by
  simp at h1 h2;subst h1;subst h2;show bindC kindOf ((p,w) :: P.zip vs) m p=_;unfold bindC;rw [dw fun v hv=>(List.nodup_cons.mp nd).1 (List.of_mem_zip hv).1,if_neg hk];simp
 | p :: P,w :: vs,i + 1,m,nd,h1,h2,hk=>by
  show bindC kindOf ((p,w) :: P.zip vs) m x=_;unfold bindC;exact Yv (i:=i) (List.nodup_cons.mp nd).2 (by simpa using h1) (by simpa using h2) hk
noncomputable def start (N:List Str) (vs:List V):St:=vs.map some ++ List.replicate (N.length - vs.length) none
noncomputable def fH (CX:CXT) (P:Program) (w:World) (K:PySem.W.Frag) (mg:Str→Option Value) (base:Heap) (N:List Str) (qual:Str) (scope:Scope) (f:Addr) (cd:Value) (A:Around) (outer:List Env) (s:Shared) (H:Hp) (E:XK):Cx where
 prog:=P
 w:=w
 K:=K
 mg:=mg
 base:=base
 A:=A.deeper (envOfC qual scope s.heap.objs.size f cd)
 N:=N
 s₀:=s
 H₀:=H
 env:=envOfC qual scope s.heap.objs.size f cd
 outer:=outer
 stack:=envOfC qual scope s.heap.objs.size f cd :: outer
 ex:=[]
 calm:=true
 fn:=fun _=>true
 pn:=[]
 xe:=fun e s'=>wpAny (model P w) (A.deeper (envOfC qual scope s.heap.objs.size f cd)) (leaving (envOfC qual scope s.heap.objs.size f cd) e) (fun _ s''=>CX outer H s E e s'') (fun e' s''=>CX outer H s E e' s'') s'
theorem Vy {sc:Scope} {n:Nat} {x:Str} (h:sc.names.lookup x=some .cell):∃ c,(cellsFrom n sc.names []).lookup x=some c:=by
 have q:=PySem.W.cellsFrom_some sc.names n [] (.inl h);exact Option.isSome_iff_exists.mp q
theorem YB {CX:CXT} {P:Program} {w:World} {K:PySem.W.Frag} {mg:Str→Option Value} {base:Heap} {N ps:List Str} {qual:Str} {scope:Scope} {f:Addr} {cd:Value} {A:Around} {outer:List Env} {s s1:Shared} {H:Hp} {E:XK} {us:List Value} {vs:List V}
  (S:Ab N ps scope) (hd:A.handled=none) (e0:VA P w K mg base A outer s H) (hl:vs.length=ps.length) (r:ld vs us)
  (x:InCallC s s.heap.objs.size (bindL (envOfC qual scope s.heap.objs.size f cd).kindOf (ps.zip us) fun _=>none) (cellsFrom (s.heap.objs.size + 1) scope.names []) (bindC (envOfC qual scope s.heap.objs.size f cd).kindOf (ps.zip us) fun _=>none) s1) :
  Inv (fH CX P w K mg base N qual scope f cd A outer s H E) [] (start N vs) H s1:=by
 have hpl:ps.length ≤ N.length:=by have:=congrArg List.length S.pre;rw [List.length_take] at this;omega
 obtain ⟨h1,tk,rfl,hk⟩:=x.done;have noA:∀ b:Addr,b ∉ (fH CX P w K mg base N qual scope f cd A outer s H E).ex:=fun b z=>absurd (show b ∈ ([]:List Addr) from z) (by simp)
 refine ⟨⟨e0.mod,S.kind,rfl,rfl,Nat.le_refl _,fun y z c h1 h2=>?_,fun y hy=>?_,fun y c _ h=>?_,fun _=>hd,Around.frames_deeper e0.frames,.inr ⟨rfl,rfl⟩,fun b z=>absurd z (noA b),e0.bs,e0.bsz,fun b _ _=>noA b,fun b z=>absurd z (noA b),e0.funs,e0.frf⟩,
  rfl,e0.bare,Un.kept hk,⟨_,x.toInCall.ns,fun i y v h1 h2 h3=>?_⟩,fun y c h=>⟨_,x.cell y c h⟩,e0.hok.fresh (Nat.le_refl _),fun y c h=>?_,fun p hp=>absurd (show p ∈ ([]:List (Addr × Obj)) from hp) (by simp),e0.hok.kept hk,?_⟩
 ·exact name_of_addr x.apart (PySem.mem_of_lookup h1) (PySem.mem_of_lookup h2)
 ·have hy:scope.names.lookup y=some .cell∨scope.names.lookup y=some .free:=hy;rcases hy with hy | hy
  ·exact Vy hy
  ·exact absurd rfl (S.nofree _ (PySem.mem_of_lookup hy))
 ·exact Nat.le_of_lt (x.above y c (PySem.mem_of_lookup h))
 ·have hi:i < vs.length:=by
   unfold start at h2;by_cases hi:i < vs.length
   ·exact hi
   ·rw [List.getElem?_append_right (by simpa using hi)] at h2;rw [List.getElem?_replicate] at h2;split at h2 <;> cases h2
  have ha:vs[i]? = some v:=by
   unfold start at h2;rw [List.getElem?_append_left (by simpa using hi),List.getElem?_map] at h2;cases e:vs[i]? with
   | none=>rw [e] at h2;cases h2
   | some a=>rw [e] at h2;cases h2;rfl
  obtain ⟨u,hu,rv⟩:=r.get ha;have hp:ps[i]? = some y:=by
   rw [← S.pre,List.getElem?_take_of_lt (by omega)];exact h1
  have ndP:ps.Nodup:=by rw [← S.pre];exact S.nd.sublist (List.take_sublist _ _)
  refine ⟨u,rv,?_⟩;rcases S.par y (List.mem_of_getElem? hp) with k | k
  ·exact .inl ⟨k,fv ndP hp hu k⟩
  ·obtain ⟨c,e⟩:=Vy (n:=s.heap.objs.size + 1) k;refine .inr ⟨.inl k,c,e,?_⟩;have q:=x.cell y c e;rw [Yv ndP hp hu (by show scope.names.lookup y ≠ _;rw [k];decide)] at q;exact q
 ·exact e0.hok.fresh (Nat.le_of_lt (x.above y c (PySem.mem_of_lookup h)))
 ·unfold start;show _=N.length;rw [List.length_append,List.length_map,List.length_replicate];omega
theorem lL {CX:CXT} {P:Program} {w:World} {K:PySem.W.Frag} {mg:Str→Option Value} {base:Heap} {k:Nat} {f:Addr} {name qual:Str} {params:Arguments} {body:List Stmt} {scope:Scope} {dV kV doc pm cdv ct oc:Value} {an od:Option Addr}
  {osl:Array (Option Value)} {N ps:List Str} {sp:Sp} (lk:K.lookup f=some ⟨oc,od,.func (PySem.W.fnOf name qual params body scope dV kV doc pm an cdv ct),osl⟩) (hcd:PySem.W.codeIn K cdv qual=true) (S:Ab N ps scope)
  (len:∀ vs H Q E,sp vs H Q E→vs.length=ps.length)
  (hbody:∀ (A:Around) (outer:List Env) (s:Shared) (H:Hp) (vs:List V) (Q:VK) (E:XK),Ej k (A.deeper (envOfC qual scope s.heap.objs.size f cdv))→sp vs H Q E →
   ∃ t,PSs (fH CX P w K mg base N qual scope f cdv A outer s H E) body t∧t { nx:=fun _ H'=>Q .non H',rt:=Q } (start N vs) H) :
  Lb P w K mg base CX (k + 1) f (PySem.W.fnOf name qual params body scope dV kV doc pm an cdv ct) ps sp:=by
 refine ⟨len,fun A outer s H args us vs Q E hr e0 hb r hsp=>?_⟩;have hl:=len _ _ _ _ hsp;have KX:K.In s.heap:=e0.mod.kin.keeps fun b o e=>(e0.bs b o e).1
 have lim:s.heap.NoLimit:=e0.mod.nolimit.keeps fun b o e=>(e0.bs b o e).1
 have hkind:∀ y ∈ ps.zip us,scope.names.lookup y.1=some .local∨(scope.names.lookup y.1=some .cell∧((cellsFrom (s.heap.objs.size + 1) scope.names []).lookup y.1).isSome=true):=fun ⟨n,v⟩ hy=>by
  rcases S.par n (List.of_mem_zip hy).1 with q | q
  ·exact .inl q
  ·exact .inr ⟨q,PySem.W.cellsFrom_some _ _ _ (.inl q)⟩
 refine codeAny_call_function hr.depth (KX _ _ lk) rfl S.co S.gen rfl (PySem.W.codeRec_of KX hcd) (hb _ _ _ _ ?_);refine wpAny_newFunctionEnv_cells S.kind hkind fun env he s1 x=>?_
 subst he;refine ⟨lim.keeps x.toInCall.keep,codeAny_func ?_⟩;obtain ⟨t,ht,hq⟩:=hbody A outer s H vs Q E (hr.deeper _) hsp;have I:Inv (fH CX P w K mg base N qual scope f cdv A outer s H E) [] (start N vs) H s1:=YB S hr.hd e0 hl r x;refine wpAny_mono (ht [] s1 (start N vs) H _ I hq) (fun fl s' hs=>?_) fun e s' hs=>hs
 have fin:∀ {σ':St} {H':Hp} {v:V} {u:Value},Inv (fH CX P w K mg base N qual scope f cdv A outer s H E) [] σ' H' s'→zd v u→Q v H'→CE outer P w H s Q u s':=
  fun {σ' H' v u} J rv q=>⟨v,H',J.os,J.bare,J.base,J.hok,rv,q⟩
 cases fl with
 | ret u=>
  obtain ⟨v,σ',H',J,rv,q⟩:=hs;exact fin J rv q
 | next=>
  obtain ⟨σ',H',J,q⟩:=hs;exact fin (v:=V.non) (u:=Value.none) J rfl q
 | brk=>
  obtain ⟨_,_,_,q⟩:=hs;exact False.elim q
 | cont=>
  obtain ⟨_,_,_,q⟩:=hs;exact False.elim q
end L2
namespace L2
open PySem PySem.Spec PyProof.Rows
section
variable {X:Cx} {x:Str} {p pos:Pos} {e:Expr} {es:List Expr} {t:TA} {id T:String} {r:List V→Hp→VK→Prop}
noncomputable def tCB (r:List V→Hp→VK→Prop) (t:TA):TE:=fun σ H Q=>t σ H fun vs H1=>r vs H1 Q
theorem Vb (hc:oj X (.builtin id) r) (hg:Gl X x) (hm:X.mg x=none) (hv:bootBuiltins x=some (.builtin id)) (ha:PA X (e :: es) t) (hn:x ≠ "__name__" := by decide) (hdb:(x == ("__debug__" : Str))=false:=by decide)
  (he:starEach (e :: es) X.env=(false,eval e X.env) :: starEach es X.env:=by rfl) (hpl:(backTo pos (starEach es X.env)).any (·.1)=false:=by rfl):PE X (.Call (.Name x p) (e :: es) [] pos) (tCB r t):=by
 intro pins s σ H Q I h;refine wpAny_Call_Name_kw (il I hg hm hv ?_ hn hdb);exact PyProof.Rows.callWith_builtin1 (thn (ha pos pins s σ H _ I h) fun us s1 ⟨vs,H1,I1,r1,q1⟩=>hc pins s1 σ H1 vs us Q I1 r1 q1) he hpl
theorem Cc (hc:oj X (.type T) r) (hg:Gl X x) (hm:X.mg x=none) (hv:bootBuiltins x=some (.type T)) (ha:PA X (e :: es) t) (hn:x ≠ "__name__" := by decide) (hdb:(x == ("__debug__" : Str))=false:=by decide)
  (he:starEach (e :: es) X.env=(false,eval e X.env) :: starEach es X.env:=by rfl) (hpl:(backTo pos (starEach es X.env)).any (·.1)=false:=by rfl):PE X (.Call (.Name x p) (e :: es) [] pos) (tCB r t):=by
 intro pins s σ H Q I h;refine wpAny_Call_Name_kw (il I hg hm hv ?_ hn hdb);exact PyProof.Rows.callWith_type1 (thn (ha pos pins s σ H _ I h) fun us s1 ⟨vs,H1,I1,r1,q1⟩=>hc pins s1 σ H1 vs us Q I1 r1 q1) he hpl
end
end L2
namespace HT
open PySem PyProof.Rows
section
open PySem.SeqAt
open PySem.AutoSeq1 (wpAny_loadPart')
open PySem.MeetsSeq PySem.MeetsSeq2 PySem.MeetsSeq3
end
section
variable {prog:Program} {w:World} {A:Around} {E:Value→Shared→Prop} {s:Shared}
noncomputable def sIx (n d:Nat):Option Int→Nat
 | none=>d
 | some v=>if v < 0 then (v + (n:Int)).toNat else min v.toNat n
theorem sIx_none (n d:Nat):sIx n d none=d:=rfl
theorem sIx_nat (n d k:Nat):sIx n d (some (k:Int))=min k n:=by
 show (if (k:Int) < 0 then ((k:Int) + (n:Int)).toNat else min (k:Int).toNat n)=min k n;rw [if_neg (by omega),Int.toNat_natCast]
end
end HT
namespace L2
open PySem PySem.Spec PyProof.Rows
noncomputable abbrev TO:=St→Hp→(Option Int→Hp→Prop)→Prop
noncomputable def PO (X:Cx) (e:Option Expr) (t:TO):Prop:=
 ∀ (pins:List (Addr × Obj)) (s:Shared) (σ:St) (H:Hp) (Q:Option Int→Hp→Prop),Inv X pins σ H s→t σ H Q →
  wpAny (model X.prog X.w) X.A (evalPart e X.env) (fun u s'=>∃ o H',Inv X pins σ H' s'∧IsPart u o∧Q o H') X.xe s
noncomputable def LB:TO:=fun _ H Q=>Q none H
noncomputable def mK (t:TE):TO:=fun σ H Q=>t σ H fun x H1=>∃ i,x=.int i∧Q (some i) H1
section
variable {X:Cx} {e:Expr} {te:TE} {lo hi:Option Expr} {tl th:TO} {pos p2:Pos}
theorem dn:PO X none LB:=by
 intro pins s σ H Q I h;rw [evalPart_none];exact wpAny_pure ⟨none,H,I,.none,h⟩
theorem Pj (h:PE X e te):PO X (some e) (mK te):=by
 intro pins s σ H Q I hw;rw [evalPart_some];refine thn (h pins s σ H _ I hw) fun u s1 hZ1=>?_
 obtain ⟨x,H1,I1,r1,q1⟩:=hZ1;obtain ⟨i,rfl,q⟩:=q1;obtain ⟨t,rfl⟩:=r1;exact ⟨some i,H1,I1,.int i t,q⟩
noncomputable def SlR (X:Cx) (r:V→Option Int→Option Int→Hp→VK→Prop):Prop:=
 ∀ (pins:List (Addr × Obj)) (s:Shared) (σ:St) (H:Hp) (x:V) (v vl vu:Value) (lo hi:Option Int) (sl:Addr) (Q:VK),Inv X pins σ H s→zd x v→s.heap.IsSliceOf sl vl vu .none→IsPart vl lo→IsPart vu hi→r x lo hi H Q →
  ∃ T id,typeLookup (.type T) "__getitem__"=pure (some (.builtin id))∧s.TypeIs v T∧wpAny (model X.prog X.w) X.A (getItem v (.ref sl)) (EP X pins σ Q) X.xe s
theorem SlR.or {r r':V→Option Int→Option Int→Hp→VK→Prop} (h:SlR X r) (h':SlR X r'):SlR X (fun x lo hi H Q=>r x lo hi H Q∨r' x lo hi H Q):=by
 intro pins s σ H x v vl vu lo hi sl Q I rx hs pl pu q;rcases q with q | q
 ·exact h pins s σ H x v vl vu lo hi sl Q I rx hs pl pu q
 ·exact h' pins s σ H x v vl vu lo hi sl Q I rx hs pl pu q
noncomputable def tSl (r:V→Option Int→Option Int→Hp→VK→Prop) (te:TE) (tl th:TO):TE:=fun σ H Q=>te σ H fun x H1=>tl σ H1 fun l H2=>th σ H2 fun u H3=>r x l u H3 Q
theorem Si {r:V→Option Int→Option Int→Hp→VK→Prop} (hr:SlR X r) (he:PE X e te) (hl:PO X lo tl) (hu:PO X hi th):PE X (.Subscript e (.Slice lo hi none p2) pos) (tSl r te tl th):=by
 intro pins s σ H Q I h;refine Subscript_ (thn (he pins s σ H _ I h) fun v s1 hZ1=>?_);obtain ⟨x,H1,I1,r1,q1⟩:=hZ1;refine wpAny_Slice (thn (hl pins s1 σ H1 _ I1 q1) fun vl s2 ⟨l,H2,I2,pl,q2⟩=>thn (hu pins s2 σ H2 _ I2 q2) fun vu s3 hZ1=>?_);obtain ⟨u,H3,I3,pu,q3⟩:=hZ1;rw [evalPart_none];refine wpAny_pure ?_;have I4:Inv X pins σ H3 { s3 with heap:=s3.heap.push { cls:=.type "slice",data:=.fields #[vl,vu,.none] } }:=I3.kept (t':=s3.toks) fun b ob q=>Heap.get?_push_of_some _ q
 obtain ⟨T,id,hT,ht,hg⟩:=hr pins { s3 with heap:=s3.heap.push { cls:=.type "slice",data:=.fields #[vl,vu,.none] } } σ H3 x v vl vu l u s3.heap.objs.size Q I4 r1 (Heap.IsSliceOf.new ..) pl pu q3;show wpAny (model X.prog X.w) X.A (subscriptTail e (.Slice lo hi none p2) v (.ref s3.heap.objs.size)) (EP X pins σ Q) X.xe { s3 with heap:=s3.heap.push { cls:=.type "slice",data:=.fields #[vl,vu,.none] } };exact tail_any (ops:=[.ref s3.heap.objs.size,v]) ht hT hg (by with_unfolding_all rfl)
noncomputable def Wy (xs:List V) (lo hi:Option Int):List V:=(xs.drop (HT.sIx xs.length 0 lo)).take (HT.sIx xs.length xs.length hi - HT.sIx xs.length 0 lo)
theorem xw (xs:List V) (lo hi:Option Int):(Wy xs lo hi).length ≤ xs.length:=by
 unfold Wy;rw [List.length_take,List.length_drop];omega
end
end L2
namespace L2
open PySem PySem.Spec PyProof.Rows
noncomputable def ixN (n:Nat) (i:Int):Option Nat:=if 0 ≤ i then (if i < n then some i.toNat else none) else if -(n:Int) ≤ i then some (i + n).toNat else none
noncomputable def atI {α:Type} (xs:List α) (i:Int):Option α:=(ixN xs.length i).bind fun j=>xs[j]?
theorem BB {n:Nat} {i:Int} {j:Nat} (h:ixN n i=some j):seqIndex? i n=some j∧j < n∧-(n:Int) ≤ i∧i < n:=by
 unfold ixN at h;by_cases h0:0 ≤ i
 ·rw [if_pos h0] at h;by_cases h1:i < n
  ·rw [if_pos h1] at h;have e:i.toNat=j:=Option.some.inj h;exact ⟨by rw [seqIndex_of h0 h1,e],by omega,by omega,h1⟩
  ·rw [if_neg h1] at h;cases h
 ·rw [if_neg h0] at h;by_cases h1:-(n:Int) ≤ i
  ·rw [if_pos h1] at h;have e:(i + n).toNat=j:=Option.some.inj h;exact ⟨by rw [seqIndex_neg (by omega) h1,e],by omega,h1,by omega⟩
  ·rw [if_neg h1] at h;cases h
theorem uw {α:Type} {xs:List α} {i:Int} {v:α} (h:atI xs i=some v):∃ j,seqIndex? i xs.length=some j∧xs[j]? = some v∧j < xs.length∧-(xs.length:Int) ≤ i∧i < xs.length:=by
 unfold atI at h;cases e:ixN xs.length i with
 | none=>rw [e] at h;cases h
 | some j=>
  rw [e] at h;obtain ⟨h1,h2,h3,h4⟩:=BB e;exact ⟨j,h1,h,h2,h3,h4⟩
theorem wc {α:Type} {xs:List α} {j:Nat} {v:α} (h:xs[j]? = some v):atI xs (j:Int)=some v:=by
 have hj:j < xs.length:=(List.getElem?_eq_some_iff.mp h).1;have e:ixN xs.length (j:Int)=some j:=by
  unfold ixN;rw [if_pos (by omega),if_pos (by omega)];simp
 unfold atI;rw [e];exact h
noncomputable def wI (b:Expr):Prop:=∀ o i,subscripted b false o i=operate [o,i] (getItem o i)
noncomputable def IxR (X:Cx) (r:R2):Prop:=
 ∀ (value slice:Expr) (pins:List (Addr × Obj)) (s:Shared) (σ:St) (H:Hp) (x y:V) (v u:Value) (Q:VK),Inv X pins σ H s→zd x v→zd y u→r x y H Q →
  subscripted slice false v u=operate [v,u] (getItem v u)→wpAny (model X.prog X.w) X.A (subscriptTail value slice v u) (EP X pins σ Q) X.xe s
noncomputable def MtR (X:Cx) (id:String) (r:V→List V→Hp→VK→Prop):Prop:=
 ∀ (pins:List (Addr × Obj)) (s:Shared) (σ:St) (H:Hp) (x:V) (xs:List V) (v:Value) (us:List Value) (Q:VK),Inv X pins σ H s→zd x v→ld xs us→r x xs H Q →
  wpAny (model X.prog X.w) X.A (call (.builtin id) (v :: us)) (EP X pins σ Q) X.xe s
section
variable {X:Cx} {a b:Expr} {ta tb:TE} {pos:Pos}
theorem IxR.or {r r':R2} (h:IxR X r) (h':IxR X r'):IxR X (fun x y H Q=>r x y H Q∨r' x y H Q):=by
 intro value slice pins s σ H x y v u Q I rx ry q hs;rcases q with q | q
 ·exact h value slice pins s σ H x y v u Q I rx ry q hs
 ·exact h' value slice pins s σ H x y v u Q I rx ry q hs
theorem MtR.or {id:String} {r r':V→List V→Hp→VK→Prop} (h:MtR X id r) (h':MtR X id r'):MtR X id (fun x xs H Q=>r x xs H Q∨r' x xs H Q):=by
 intro pins s σ H x xs v us Q I rx rs q;rcases q with q | q
 ·exact h pins s σ H x xs v us Q I rx rs q
 ·exact h' pins s σ H x xs v us Q I rx rs q
theorem Yc {r:R2} (hr:IxR X r) (ha:PE X a ta) (hb:PE X b tb) (hs:wI b):PE X (.Subscript a b pos) (tOp r ta tb):=by
 intro pins s σ H Q I h;exact Subscript_ (gL ha hb I h fun v u s2 x y H2 I2 rx ry q=>hr a b pins s2 σ H2 x y v u Q I2 rx ry q (hs _ _))
noncomputable def uM (K:PySem.W.Frag):R2:=fun x y H Q=>∃ p xs i v,x=.ref p∧y=.int i∧SqL K H p xs∧atI xs i=some v∧Q v H
noncomputable def PL (K:PySem.W.Frag):R2:=fun x y H Q=>∃ p xs i v,x=.ref p∧y=.int i∧SqT K H p xs∧atI xs i=some v∧Q v H
noncomputable def wM:R2:=fun x y H Q=>∃ z i c,x=.str z∧y=.int i∧z.length ≤ sizeLine∧atI z.cps.toList i=some c∧Q (.str ⟨#[c]⟩) H
theorem ic:IxR X (uM X.K):=by
 intro value slice pins s σ H x y v u Q I rx ry h hs;obtain ⟨p,xs,i,z,rfl,rfl,hq,he,q⟩:=h;cases rx;obtain ⟨t,rfl⟩:=ry;obtain ⟨its,r,pl,hz⟩:=I.list hq;obtain ⟨j,h1,h2,h3,h4,h5⟩:=uw he;obtain ⟨w,ew,rw'⟩:=r.get h2;have hl:=r.length;have hn:=Dp;have fin:EP X pins σ Q w s:=⟨z,H,I,rw',q⟩;by_cases h0:0 ≤ i
 ·have hj:i.toNat=j:=by
   rw [seqIndex_of h0 h5] at h1;exact Option.some.inj h1
  exact item_listR pl.isList h0 (by omega) (by rw [hj];simpa using ew) fin hs
 ·have hj:(i + (its.toArray.size:Int)).toNat=j:=by
   rw [seqIndex_neg (by omega) h4] at h1;rw [List.size_toArray,← hl];exact Option.some.inj h1
  exact subscriptTail_builtinR (x:=w) pl.isList.typeIs slot_list_getitem.lookup
   (wpAny_getItem_list_neg (Q:=fun r s'=>r=w∧EP X pins σ Q r s') pl.isList (by omega) (by rw [List.size_toArray] <;> omega) (by omega) (by rw [hj];simpa using ew) ⟨rfl,fin⟩) hs
theorem lh:IxR X (PL X.K):=by
 intro value slice pins s σ H x y v u Q I rx ry h hs;obtain ⟨p,xs,i,z,rfl,rfl,hq,he,q⟩:=h;cases rx;obtain ⟨t,rfl⟩:=ry;obtain ⟨its,r,pl,hz⟩:=I.tuple hq;obtain ⟨j,h1,h2,h3,h4,h5⟩:=uw he;obtain ⟨w,ew,rw'⟩:=r.get h2;have hl:=r.length;have hn:=Dp;have fin:EP X pins σ Q w s:=⟨z,H,I,rw',q⟩;exact subscriptTail_builtinR (x:=w) pl.typeIs slot_tuple_getitem.lookup
  (getItem_tuple (j:=j) (Q:=fun r s'=>r=w∧EP X pins σ Q r s') pl (by omega) (by omega) (by rw [List.size_toArray,← hl];exact h1) (by simpa using ew) ⟨rfl,fin⟩) hs
theorem OC:IxR X wM:=by
 intro value slice pins s σ H x y v u Q I rx ry h hs;obtain ⟨z,i,c,rfl,rfl,hz,he,q⟩:=h;obtain ⟨t,rfl⟩:=rx;obtain ⟨t',rfl⟩:=ry;obtain ⟨j,h1,h2,h3,h4,h5⟩:=uw he;have hl:z.cps.toList.length=z.length:=by simp [Str.length]
 rw [hl] at h1 h4 h5;have hn:=Dp;exact tail_any (typeIs_str s z t) slot_str_getitem.lookup (getItem_str (c:=c) (by
  have e1:decide (i < -(2 ^ 63:Int))=false:=decide_eq_false (by omega);have e2:decide (i ≥ 2 ^ 63)=false:=decide_eq_false (by omega);rw [e1,e2,Bool.or_false]) (by rw [h1];simpa using h2) ⟨.str ⟨#[c]⟩,H,I.tok _,⟨_,rfl⟩,q⟩) hs
theorem Fz (its:List Value) (n j:Nat) (u:Value):Obj.mapSeq (·.setIfInBounds j u) { cls:=.type "list",data:=.seq its.toArray n } = { cls:=.type "list",data:=.seq (its.set j u).toArray n }:=by
 simp [Obj.mapSeq]
theorem Inv.lst {pins:List (Addr × Obj)} {σ:St} {H:Hp} {s:Shared} {p:Addr} {xs:List V} (I:Inv X pins σ H s) (h:H p=some (.lst xs)) :
  ∃ (its:List Value) (n:Nat),ld xs its∧s.heap.get? p=some { cls:=.type "list",data:=.seq its.toArray n }∧xs.length ≤ sizeLine:=by
 obtain ⟨z,its,n,r,e⟩:=I.hok p _ h;exact ⟨its,n,r,e,z⟩
theorem Inv.lstUpd {pins:List (Addr × Obj)} {σ:St} {H:Hp} {s:Shared} {p:Addr} {xs ys:List V} {its its':List Value} {n n':Nat} {f:Obj→Obj} (I:Inv X pins σ H s) (h:H p=some (.lst xs))
  (ho:s.heap.get? p=some { cls:=.type "list",data:=.seq its.toArray n }) (hf:f { cls:=.type "list",data:=.seq its.toArray n } = { cls:=.type "list",data:=.seq its'.toArray n' }) (r:ld ys its') (hz:ys.length ≤ sizeLine) (t:Nat) :
  Inv X pins σ (upd H p (.lst ys)) { s with heap:=s.heap.update p f,toks:=t }:=by
 have e:(s.heap.update p f).get? p=some { cls:=.type "list",data:=.seq its'.toArray n' }:=by
  rw [Heap.get?_update_self f ho (by rw [hf] <;> rfl),hf]
 refine I.write (x:=p) (e:=p) (by rw [h];trivial) (.inl rfl) (fun b u hb q=>(Heap.get?_update_other _ _ (Ne.symm hb)).trans q) ⟨_,e⟩ ?_;exact ⟨hz,its',n',r,e⟩
noncomputable def II:V→V→V→Hp→(Hp→Prop)→Prop:=fun o i v H Q=>∃ p xs k j,o=.ref p∧i=.int k∧H p=some (.lst xs)∧ixN xs.length k=some j∧Q (upd H p (.lst (xs.set j v)))
theorem Go:fM X II:=by
 intro pins s σ H o i v ov iv u Q I ro ri rv h;obtain ⟨p,xs,k,j,rfl,rfl,hp,hj,q⟩:=h;cases ro;obtain ⟨t,rfl⟩:=ri;obtain ⟨its,n,r,ho,hz⟩:=I.lst hp;obtain ⟨h1,h2,h3,h4⟩:=BB hj;have hl:=r.length;have hn:=Dp;have I':Inv X pins σ (upd H p (.lst (xs.set j v))) { s with heap:=s.heap.update p (Obj.mapSeq (·.setIfInBounds j u)) }:=
  I.lstUpd hp ho (Fz its n j u) (r.set rv j) (by rw [List.length_set];exact hz) s.toks
 by_cases h0:0 ≤ k
 ·have hk:k.toNat=j:=by
   rw [seqIndex_of h0 h4] at h1;exact Option.some.inj h1
  exact PySem.W.ki_setAt ho h0 (by omega) (by rw [List.size_toArray,← hl];exact h4) (by rw [hk];exact ⟨_,I',q⟩)
 ·have hk:(k + (its.toArray.size:Int)).toNat=j:=by
   rw [seqIndex_neg (by omega) h3] at h1;rw [List.size_toArray,← hl];exact Option.some.inj h1
  exact PySem.W.ki_setBack ho (by omega) (by rw [List.size_toArray,← hl];exact h3) (by omega) (by rw [hk];exact ⟨_,I',q⟩)
theorem Lu (lo hi:Option Int) (n:Nat):(sliceBounds lo hi none n).1=((HT.sIx n 0 lo:Nat):Int)∧(sliceBounds lo hi none n).2.1=((HT.sIx n n hi:Nat):Int)∧(sliceBounds lo hi none n).2.2=1:=by
 refine ⟨?_,?_,rfl⟩
 ·cases lo with
  | none=>simp [sliceBounds,HT.sIx]
  | some i=>
   simp only [sliceBounds,HT.sIx,Option.getD_none,show (1:Int) > 0 by decide,if_true];by_cases h:i < 0
   ·simp only [h,if_true] <;> omega
   ·simp only [h,if_false] <;> omega
 ·cases hi with
  | none=>simp [sliceBounds,HT.sIx]
  | some i=>
   simp only [sliceBounds,HT.sIx,Option.getD_none,show (1:Int) > 0 by decide,if_true];by_cases h:i < 0
   ·simp only [h,if_true] <;> omega
   ·simp only [h,if_false] <;> omega
theorem Mt (its:List Value) (lo hi:Option Int):slicePick its.toArray lo hi none=((its.drop (HT.sIx its.length 0 lo)).take (HT.sIx its.length its.length hi - HT.sIx its.length 0 lo)).toArray:=by
 obtain ⟨h1,h2,h3⟩:=Lu lo hi its.toArray.size;unfold slicePick;rw [h1,h2,h3];simp only [sliceRange_one,pick_run,List.size_toArray] <;> rfl
noncomputable def kM (K:PySem.W.Frag):V→Option Int→Option Int→Hp→VK→Prop:=fun x lo hi H Q=>∃ a xs,x=.ref a∧SqL K H a xs∧∀ p,H p=none→Q (.ref p) (upd H p (.lst (Wy xs lo hi)))
theorem Xt:SlR X (kM X.K):=by
 intro pins s σ H x v vl vu lo hi sl Q I rx hs pl pu h;obtain ⟨a,xs,rfl,hx,q⟩:=h;cases rx;obtain ⟨its,r,ht,hz⟩:=I.list hx;have hlen:=r.length;refine ⟨"list",_,slot_list_getitem.lookup,ht.isList.typeIs,?_⟩;refine wpAny_getItem_list_slice ht.isList hs pl pu .none (by simp) ?_ (by rw [List.size_toArray] <;> omega);rw [Mt,← hlen];refine ⟨.ref s.heap.objs.size,_,I.laid (t':=s.toks) (o:=.lst (Wy xs lo hi)) (fun b ob q=>Heap.get?_push_of_some _ q) (Nat.le_refl _) ?_,rfl,q _ (I.hok.fresh (Nat.le_refl _))⟩;exact ⟨Nat.le_trans (xw xs lo hi) hz,_,0,(r.drop (HT.sIx xs.length 0 lo)).take (HT.sIx xs.length xs.length hi - HT.sIx xs.length 0 lo),Heap.get?_push_size _ rfl⟩
noncomputable def Bj:V→Bool
 | .non=>true
 | .bl _=>true
 | .int _=>true
 | .str _=>true
 | _=>false
noncomputable def eqV:V→V→Bool
 | .non,.non=>true
 | .bl a,.bl b=>a == b
 | .bl a,.int b=>(if a then 1 else 0) == b
 | .int a,.bl b=>a == (if b then 1 else 0)
 | .int a,.int b=>a == b
 | .str a,.str b=>a == b
 | _,_=>false
theorem KF {A:Around} {s:Shared} {y x:V} {u v:Value} (ry:zd y u) (rx:zd x v) (fy:Bj y=true) (fx:Bj x=true):SeqAt.EqAt A s u v (eqV y x):=by
 cases y with
 | non=>
  cases ry;cases x with
  | non=>cases rx;exact SeqAt.EqAt.same _
  | bl b=>cases rx;exact SeqAt.EqAt.none_bool b
  | int b=>obtain ⟨t,rfl⟩:=rx;exact SeqAt.EqAt.none_int b t
  | str b=>obtain ⟨t,rfl⟩:=rx;exact SeqAt.EqAt.none_str b t
  | _=>exact absurd (show false=true from fx) Bool.false_ne_true
 | bl a=>
  cases ry;cases x with
  | non=>cases rx;exact SeqAt.EqAt.bool_none a
  | bl b=>cases rx;exact SeqAt.EqAt.bool_bool a b
  | int b=>obtain ⟨t,rfl⟩:=rx;exact SeqAt.EqAt.bool_int a b t
  | str b=>obtain ⟨t,rfl⟩:=rx;exact SeqAt.EqAt.bool_str a b t
  | _=>exact absurd (show false=true from fx) Bool.false_ne_true
 | int a=>
  obtain ⟨t',rfl⟩:=ry;cases x with
  | non=>cases rx;exact SeqAt.EqAt.int_none a t'
  | bl b=>cases rx;exact SeqAt.EqAt.int_bool a t' b
  | int b=>obtain ⟨t,rfl⟩:=rx;exact SeqAt.EqAt.int_int a t' b t
  | str b=>obtain ⟨t,rfl⟩:=rx;exact SeqAt.EqAt.int_str a t' b t
  | _=>exact absurd (show false=true from fx) Bool.false_ne_true
 | str a=>
  obtain ⟨t',rfl⟩:=ry;cases x with
  | non=>cases rx;exact SeqAt.EqAt.str_none a t'
  | bl b=>cases rx;exact SeqAt.EqAt.str_bool a t' b
  | int b=>obtain ⟨t,rfl⟩:=rx;exact SeqAt.EqAt.str_int a t' b t
  | str b=>obtain ⟨t,rfl⟩:=rx;exact SeqAt.EqAt.str_str a t' b t
  | _=>exact absurd (show false=true from fx) Bool.false_ne_true
 | _=>exact absurd (show false=true from fy) Bool.false_ne_true
noncomputable def eqU (x:V) (u:Value):Bool:=match u with
 | .none=>eqV .non x
 | .bool b=>eqV (.bl b) x
 | .int i _=>eqV (.int i) x
 | .str z _=>eqV (.str z) x
 | _=>false
theorem vG {x y:V} {u:Value} (r:zd y u) (f:Bj y=true):eqU x u=eqV y x:=by
 cases y with
 | non=>cases r;rfl
 | bl b=>cases r;rfl
 | int i=>obtain ⟨t,rfl⟩:=r;rfl
 | str z=>obtain ⟨t,rfl⟩:=r;rfl
 | _=>exact absurd (show false=true from f) Bool.false_ne_true
theorem jq {x:V}:∀ {xs:List V} {us:List Value},ld xs us→xs.all Bj=true→us.any (eqU x)=xs.any fun y=>eqV y x
 | _,_,.nil,_=>rfl
 | y :: xs,u :: us,.cons r t,f=>by
  rw [List.all_cons,Bool.and_eq_true] at f;rw [List.any_cons,List.any_cons,vG r f.1,jq t f.2]
theorem Dm {A:Around} {s:Shared} {x:V} {v:Value} (rx:zd x v) (fx:Bj x=true):∀ {xs:List V} {us:List Value},ld xs us→xs.all Bj=true→∀ u ∈ us,SeqAt.EqAt A s u v (eqU x u)
 | _,_,.nil,_=>fun u hu=>by cases hu
 | y :: xs,u :: us,.cons r t,f=>fun u' hu=>by
  rw [List.all_cons,Bool.and_eq_true] at f;rcases List.mem_cons.mp hu with rfl | hu
  ·rw [vG r f.1];exact KF r rx f.1 fx
  ·exact Dm rx fx t f.2 u' hu
noncomputable def inV (x:V) (xs:List V):Bool:=xs.any fun y=>eqV y x
noncomputable def rIn (K:PySem.W.Frag) (neg:Bool):R2:=fun x y H Q=>∃ p xs,y=.ref p∧(SqL K H p xs∨SqT K H p xs)∧Bj x=true∧xs.all Bj=true∧Q (.bl (if neg then !inV x xs else inV x xs)) H
theorem Zo:OpR X (compareOp .In) (rIn X.K false):=by
 intro pins s σ H x y v u Q I rx ry h;obtain ⟨p,xs,rfl,hq,fx,fs,q⟩:=h;cases ry;rcases hq with hq | hq
 ·obtain ⟨its,r,pl,hz⟩:=I.list hq;refine SeqAt.in_listAt (eqU x) pl.isList (fun w hw=>Dm rx fx r fs w (by simpa using hw)) ⟨.bl _,H,I,rfl,?_⟩;rw [show its.toArray.any (eqU x)=its.any (eqU x) by simp,jq r fs];exact q
 ·obtain ⟨its,r,pl,hz⟩:=I.tuple hq;refine SeqAt.in_tupleAt (eqU x) pl (fun w hw=>Dm rx fx r fs w (by simpa using hw)) ⟨.bl _,H,I,rfl,?_⟩;rw [show its.toArray.any (eqU x)=its.any (eqU x) by simp,jq r fs];exact q
theorem jv:OpR X (compareOp .NotIn) (rIn X.K true):=by
 intro pins s σ H x y v u Q I rx ry h;obtain ⟨p,xs,rfl,hq,fx,fs,q⟩:=h;cases ry;rcases hq with hq | hq
 ·obtain ⟨its,r,pl,hz⟩:=I.list hq;refine SeqAt.notIn_listAt (eqU x) pl.isList (fun w hw=>Dm rx fx r fs w (by simpa using hw)) ⟨.bl _,H,I,rfl,?_⟩;rw [show its.toArray.any (eqU x)=its.any (eqU x) by simp,jq r fs];exact q
 ·obtain ⟨its,r,pl,hz⟩:=I.tuple hq;refine SeqAt.notIn_tupleAt (eqU x) pl (fun w hw=>Dm rx fx r fs w (by simpa using hw)) ⟨.bl _,H,I,rfl,?_⟩;rw [show its.toArray.any (eqU x)=its.any (eqU x) by simp,jq r fs];exact q
theorem Fb:oj X (.builtin "len") (fun xs H Q=>∃ p ys,xs=[.ref p]∧(SqL X.K H p ys∨SqT X.K H p ys)∧Q (.int ys.length) H):=by
 intro pins s σ H xs us Q I r h;obtain ⟨p,ys,rfl,hq,q⟩:=h;obtain ⟨u,rfl,rx⟩:=Jp r;cases rx;have hn:=Dp;rcases hq with hq | hq
 ·obtain ⟨its,r',pl,hz⟩:=I.list hq;have hlen:=r'.length;exact Calls.call_len_list pl.isList (by simp only [List.size_toArray] <;> omega) ⟨.int ys.length,H,I.tok _,⟨s.toks + 1,by rw [List.size_toArray,hlen]⟩,q⟩
 ·obtain ⟨its,r',pl,hz⟩:=I.tuple hq;have hlen:=r'.length;exact len_tuple pl (by simp only [List.size_toArray] <;> omega) ⟨.int ys.length,H,I.tok _,⟨s.toks + 1,by rw [List.size_toArray,hlen]⟩,q⟩
theorem Gu:oj X (.builtin "len") (fun xs H Q=>∃ z,xs=[.str z]∧z.length ≤ sizeLine∧Q (.int z.length) H):=by
 intro pins s σ H xs us Q I r h;obtain ⟨z,rfl,hz,q⟩:=h;obtain ⟨u,rfl,t,rfl⟩:=Jp r;have hn:=Dp;exact len_str (by omega) ⟨.int z.length,H,I.tok _,⟨_,rfl⟩,q⟩
theorem oj.or {f:Value} {r r':List V→Hp→VK→Prop} (h:oj X f r) (h':oj X f r'):oj X f (fun xs H Q=>r xs H Q∨r' xs H Q):=by
 intro pins s σ H xs us Q I rs q;rcases q with q | q
 ·exact h pins s σ H xs us Q I rs q
 ·exact h' pins s σ H xs us Q I rs q
theorem Pc:oj X (.type "list") (fun xs H Q=>∃ p ys,xs=[.ref p]∧(SqL X.K H p ys∨SqT X.K H p ys)∧∀ l,H l=none→Q (.ref l) (upd H l (.lst ys))):=by
 intro pins s σ H xs us Q I r h;obtain ⟨p,ys,rfl,hq,q⟩:=h;obtain ⟨u,rfl,rx⟩:=Jp r;cases rx;have fin:∀ (its:List Value),ld ys its→ys.length ≤ sizeLine→∀ (h':Heap) (c':Nat),(∀ b o',s.heap.get? b=some o'→h'.get? b=some o') →
   h'.get? s.heap.objs.size=some { cls:=.type "list",dict:=none,data:=.seq its.toArray c',slots:=#[] }→EP X pins σ Q (.ref s.heap.objs.size) { s with heap:=h' }:=fun its r' hz h' c' kp e=>
  ⟨.ref s.heap.objs.size,_,I.laid (t':=s.toks) kp (Nat.le_refl _) (show Td X.prog X.w _ h' _ (.lst ys) from ⟨hz,its,c',r',e⟩),rfl,q _ (I.hok.fresh (Nat.le_refl _))⟩
 rcases hq with hq | hq
 ·obtain ⟨its,r',pl,hz⟩:=I.list hq;have hlen:=r'.length;obtain ⟨o,ho,hc,n,hd⟩:=pl.isList;exact call_list_seq p (.inl rfl) ho hc hd (fun h' c' kp e=>fin its r' hz h' c' kp e) (by simp only [List.size_toArray] <;> omega)
 ·obtain ⟨its,r',pl,hz⟩:=I.tuple hq;have hlen:=r'.length;obtain ⟨o,ho,hc,n,hd⟩:=pl;exact call_list_seq p (.inr rfl) ho hc hd (fun h' c' kp e=>fin its r' hz h' c' kp e) (by simp only [List.size_toArray] <;> omega)
noncomputable def tyV (K:PySem.W.Frag) (T:String) (x:V) (H:Hp):Prop:=match x with
 | .str _=>T = "str"
 | .int _=>T = "int"
 | .ref p=>(T = "list" ∧ ∃ xs,SqL K H p xs)∨(T = "tuple" ∧ ∃ o,K.lookup p=some o∧o.cls=.type "tuple" ∧ o.dict=none) ∨
   (T = "dict" ∧ ((∃ kvs,H p=some (.dK kvs))∨∃ kvs,H p=some (.dT kvs)))∨(T = "set" ∧ ∃ S n,H p=some (.set S n))
 | _=>False
theorem RF {pins:List (Addr × Obj)} {σ:St} {H:Hp} {s:Shared} {T:String} {x:V} {v:Value} (I:Inv X pins σ H s) (r:zd x v) (ty:tyV X.K T x H) :
  s.TypeIs v T∧∀ a,v=.ref a→∃ ob,s.heap.get? a=some ob∧ob.dict=none:=by
 cases x with
 | str z=>
  obtain ⟨t,rfl⟩:=r;cases (show T = "str" from ty);exact ⟨typeIs_str s z t,fun _ e=>nomatch e⟩
 | int i=>
  obtain ⟨t,rfl⟩:=r;cases (show T = "int" from ty);exact ⟨typeIs_int s i t,fun _ e=>nomatch e⟩
 | ref p=>
  cases r;rcases ty with ⟨rfl,xs,hq⟩ | ⟨rfl,o,hk,hc,hd⟩ | ⟨rfl,hk⟩ | ⟨rfl,S,n,hk⟩
  ·obtain ⟨its,_,pl,_⟩:=I.list hq;refine ⟨pl.isList.typeIs,fun a e=>?_⟩;cases e;obtain ⟨o,n,e,c,hd,_⟩:=pl;exact ⟨o,e,hd⟩
  ·refine ⟨⟨o,I.kIn p o hk,hc⟩,fun a e=>?_⟩;cases e;exact ⟨o,I.kIn _ o hk,hd⟩
  ·have z:∃ o,s.heap.get? p=some o∧o.ExactDict:=by
    rcases hk with ⟨kvs,hk⟩ | ⟨kvs,hk⟩
    ·obtain ⟨_,_,_,_,o,_,_,e,ex,_⟩:=I.hok p _ hk;exact ⟨o,e,ex⟩
    ·obtain ⟨_,_,_,_,o,_,_,e,ex,_⟩:=I.hok p _ hk;exact ⟨o,e,ex⟩
   obtain ⟨o,e,ex⟩:=z;refine ⟨⟨o,e,ex.1⟩,fun a e2=>?_⟩;cases e2;exact ⟨o,e,ex.2.1⟩
  ·obtain ⟨o,_,_,_,e,ex,_⟩:=I.hok p _ hk;refine ⟨⟨o,e,ex.1⟩,fun a e2=>?_⟩;cases e2;exact ⟨o,e,ex.2.1⟩
 | _=>exact False.elim ty
noncomputable def YL (K:PySem.W.Frag) (T:String) (r:V→List V→Hp→VK→Prop) (to:TE):TE:=fun σ H Q=>to σ H fun x H1=>tyV K T x H1∧r x [] H1 Q
noncomputable def tBM (K:PySem.W.Frag) (T:String) (r:V→List V→Hp→VK→Prop) (to:TE) (t:TA):TE:=fun σ H Q=>to σ H fun x H1=>tyV K T x H1∧t σ H1 fun xs H2=>r x xs H2 Q
variable {o e:Expr} {es:List Expr} {to:TE} {t:TA} {name:Str} {apos cpos:Pos} {T id:String} {r:V→List V→Hp→VK→Prop}
theorem SJ (pa:PlainAttrs T) (slot:Slot T name id) (hty:typeOf (.builtin id)=pure (.type "method_descriptor")) (hm:MtR X id r) (ho:PE X o to)
  (hbase:attributeBase o name X.env (eval o X.env)=eval o X.env:=by rfl) (hline:(apos.endLine == cpos.line)=true:=by rfl):PE X (.Call (.Attribute o name apos) [] [] cpos) (YL X.K T r to):=by
 intro pins s σ H Q I h;refine wpAny_Call_method0_late hbase hline (thn (ho pins s σ H _ I h) fun v s1 hZ1=>?_);obtain ⟨x,H1,I1,r1,ty,q1⟩:=hZ1;obtain ⟨h1,h2⟩:=RF I1 r1 ty;exact ⟨T,id,pa,slot,hty,h1,h2,Calls.callWith_builtin rfl (PySem.evalArgs_none (hm pins s1 σ H1 x [] v [] Q I1 r1 .nil q1))⟩
theorem Bi (pa:PlainAttrs T) (slot:Slot T name id) (hty:typeOf (.builtin id)=pure (.type "method_descriptor")) (hm:MtR X id r) (ho:PE X o to) (ha:PA X (e :: es) t)
  (hbase:attributeBase o name X.env (eval o X.env)=eval o X.env:=by rfl)
  (hfew:((backTo cpos (starEach (e :: es) X.env)).all (fun x=>!x.1) && (backToKw cpos (keywordEach [] X.env)).all (fun x=>x.1.isSome)
   && decide ((e :: es).length + ([]:List Keyword).length + (if ([]:List Keyword).isEmpty then 0 else 1) < 30))=true:=by rfl)
  (hline:(apos.endLine == cpos.line)=true:=by rfl) (hs:starEach (e :: es) X.env=(false,eval e X.env) :: starEach es X.env:=by rfl) (hplain:(backTo cpos (starEach es X.env)).any (·.1)=false:=by rfl) :
  PE X (.Call (.Attribute o name apos) (e :: es) [] cpos) (tBM X.K T r to t):=by
 intro pins s σ H Q I h;refine wpAny_Call_method_late hbase hfew hline rfl (thn (ho pins s σ H _ I h) fun v s1 hZ1=>?_);obtain ⟨x,H1,I1,r1,ty,q1⟩:=hZ1;obtain ⟨h1,h2⟩:=RF I1 r1 ty;refine ⟨T,id,pa,slot,hty,h1,h2,?_⟩;have hA:=ha cpos pins s1 σ H1 _ I1 q1;rw [hs] at hA ⊢;refine Calls.callWith_builtin (by show (false || (backTo cpos (starEach es X.env)).any (·.1))=false;rw [hplain] <;> rfl) (Calls.evalArgs_plain ?_);exact thn hA fun us s2 ⟨vs,H2,I2,r2,q2⟩=>hm pins s2 σ H2 x vs v us Q I2 r1 r2 q2
end
end L2
namespace L2
open PySem PySem.Spec PyProof.Rows
noncomputable def MtM (X:Cx) (id:String) (r:V→List V→Hp→VK→Prop):Prop:=
 ∀ (pins:List (Addr × Obj)) (s:Shared) (σ:St) (H:Hp) (x:V) (xs:List V) (v:Value) (us:List Value) (Q:VK),Inv X pins σ H s→zd x v→ld xs us→r x xs H Q →
  wpAny (model X.prog X.w) X.A (call (.builtin id) (v :: us)) (EP X pins σ Q) X.xe s
theorem ld.one:∀ {x:V} {us:List Value},ld [x] us→∃ u,us=[u]∧zd x u
 | _,_,.cons r .nil=>⟨_,rfl,r⟩
theorem ld.two:∀ {x y:V} {us:List Value},ld [x,y] us→∃ u v,us=[u,v]∧zd x u∧zd y v
 | _,_,_,.cons r (.cons q .nil)=>⟨_,_,rfl,r,q⟩
theorem ld.zero:∀ {us:List Value},ld [] us→us=[]
 | _,.nil=>rfl
theorem ld.eraseIdx:∀ {xs:List V} {us:List Value} (i:Nat),ld xs us→ld (xs.eraseIdx i) (us.eraseIdx i)
 | _,_,_,.nil=>.nil
 | _,_,0,.cons _ t=>t
 | _,_,i + 1,.cons r t=>.cons r (ld.eraseIdx i t)
theorem ld.reverse {xs:List V} {us:List Value} (h:ld xs us):ld xs.reverse us.reverse:=by
 induction h with
 | nil=>exact .nil
 | cons r t ih=>rw [List.reverse_cons,List.reverse_cons];exact ld.append ih (.cons r .nil)
theorem ld.rep {xs:List V} {us:List Value} (h:ld xs us):∀ k:Nat,ld (List.replicate k xs).flatten (List.replicate k us).flatten
 | 0=>.nil
 | k + 1=>by
  rw [List.replicate_succ,List.replicate_succ,List.flatten_cons,List.flatten_cons];exact ld.append h (ld.rep h k)
theorem Gv (its:List Value):∀ (k:Nat) (acc:List Value),
  List.foldl (fun x1 x2=>x1 ++ x2) acc.toArray (List.replicate k its.toArray)=(acc ++ (List.replicate k its).flatten).toArray
 | 0,acc=>by simp
 | k + 1,acc=>by
  have e:acc.toArray ++ its.toArray=(acc ++ its).toArray:=by simp
  have e2:(acc ++ its) ++ (List.replicate k its).flatten=acc ++ (List.replicate (k + 1) its).flatten:=by
   rw [List.replicate_succ,List.flatten_cons,List.append_assoc]
  rw [← e2,← Gv its k (acc ++ its),← e,List.replicate_succ,List.foldl_cons]
section
variable {X:Cx} {pins:List (Addr × Obj)} {σ:St} {H:Hp} {s:Shared} {l b:Addr} {xs ys zs:List V}
theorem Inv.lset {its its':List Value} {n:Nat} {f:Array Value→Array Value} {t':Nat} (I:Inv X pins σ H s) (hH:H l=some (.lst xs))
  (e:s.heap.get? l=some { cls:=.type "list",data:=.seq its.toArray n }) (hf:f its.toArray=its'.toArray) (hv:ld ys its') (hz:ys.length ≤ sizeLine) :
  Inv X pins σ (upd H l (.lst ys)) { s with heap:=s.heap.update l (Obj.mapSeq f),toks:=t' }:=by
 have q:=PySem.IsL.update e f;rw [hf] at q;refine I.write (x:=l) (e:=l) (by rw [hH];exact trivial) (.inl rfl) (fun b' u hb hu=>(Heap.get?_update_other s.heap (Obj.mapSeq f) (Ne.symm hb)).trans hu) ⟨_,q⟩ ?_;exact ⟨hz,its',_,hv,q⟩
theorem Inv.lnew {its:List Value} {t':Nat} (I:Inv X pins σ H s) (hv:ld ys its) (hz:ys.length ≤ sizeLine) :
  Inv X pins σ (upd H s.heap.objs.size (.lst ys)) { s with heap:=s.heap.push { cls:=.type "list",data:=.seq its.toArray },toks:=t' }:=
 I.laid (fun _ _ q=>Heap.get?_push_of_some _ q) (Nat.le_refl _) ⟨hz,its,0,hv,Heap.get?_push_size _ rfl⟩
theorem Inv.fresh (I:Inv X pins σ H s):H s.heap.objs.size=none:=I.hok.fresh (Nat.le_refl _)
theorem Inv.lstM (I:Inv X pins σ H s) (hH:H l=some (.lst xs)):xs.length ≤ sizeLine∧∃ (its:List Value) (n:Nat),ld xs its∧xs.length=its.length∧s.heap.get? l=some { cls:=.type "list",data:=.seq its.toArray n }:=by
 obtain ⟨z,its,n,r,e⟩:=I.hok l _ hH;exact ⟨z,its,n,r,r.length,e⟩
theorem XE {n:Nat} (h:n ≤ sizeLine):Builtin.List.listTooLong n=false:=by
 unfold Builtin.List.listTooLong;exact decide_eq_false (by omega)
end
section
variable {X:Cx}
noncomputable def RA:V→List V→Hp→VK→Prop:=fun x vs H Q=>∃ l xs y,x=.ref l∧vs=[y]∧H l=some (.lst xs)∧xs.length < sizeLine∧Q .non (upd H l (.lst (xs ++ [y])))
theorem fe:MtM X "list.append" RA:=by
 intro pins s σ H x vs v us Q I rx rv h;obtain ⟨l,xs,y,rfl,rfl,hH,hz,q⟩:=h;cases rx;obtain ⟨u,rfl,ru⟩:=rv.one;obtain ⟨z,its,n,r,hl,e⟩:=I.lstM hH;refine call_meets F.slot_list_append ⟨_,e,rfl⟩ F.entry_list_append (F.args_list_append_2 _ _) (PySem.list_append l its.toArray n u (by rw [List.size_toArray];omega)) ⟨e,?_⟩;refine ⟨.non,_,I.lset (its':=its ++ [u]) hH e (by simp) (r.append (.cons ru .nil)) ?_,rfl,q⟩;rw [List.length_append,List.length_singleton];omega
noncomputable def Tx:V→List V→Hp→VK→Prop:=fun x vs H Q=>∃ l xs,x=.ref l∧vs=[]∧H l=some (.lst xs)∧Q .non (upd H l (.lst xs.reverse))
theorem Hz:MtM X "list.reverse" Tx:=by
 intro pins s σ H x vs v us Q I rx rv h;obtain ⟨l,xs,rfl,rfl,hH,q⟩:=h;cases rx;have hus:=rv.zero;subst hus;obtain ⟨z,its,n,r,hl,e⟩:=I.lstM hH;refine call_meets F.slot_list_reverse ⟨_,e,rfl⟩ F.entry_list_reverse (F.args_list_reverse_1 _) (AutoSeq1.list_reverse_list_0 l its.toArray n (by rw [List.size_toArray];omega)) ⟨e,?_⟩;refine ⟨.non,_,I.lset (its':=its.reverse) hH e (by simp) r.reverse ?_,rfl,q⟩;rw [List.length_reverse];omega
noncomputable def iM:R2:=fun x y H Q=>∃ l k xs,x=.ref l∧y=.int k∧H l=some (.lst xs)∧-(2 ^ 63) ≤ k∧k < 2 ^ 63∧xs.length * k.toNat ≤ sizeLine ∧
 ∀ p,H p=none→Q (.ref p) (upd H p (.lst (List.replicate k.toNat xs).flatten))
theorem QG {α:Type} (xs:List α) (k:Nat):(List.replicate k xs).flatten.length=k * xs.length:=by
 induction k with
 | zero=>simp
 | succ k ih=>rw [List.replicate_succ,List.flatten_cons,List.length_append,ih,Nat.succ_mul,Nat.add_comm]
theorem gJ:OpR X (binaryOp .Mult) iM:=by
 intro pins s σ H x y v u Q I rx ry h;obtain ⟨l,k,xs,rfl,rfl,hH,h1,h2,hz,q⟩:=h;cases rx;obtain ⟨t,rfl⟩:=ry;obtain ⟨z,its,n,r,hl,e⟩:=I.lstM hH;have hlen:its.toArray.size * k.toNat ≤ sizeLine:=by rw [List.size_toArray,← hl];exact hz
 have hcap:¬ its.toArray.size * k.toNat > (2 ^ 63 - 1) / 8:=by
  have:(sizeLine:Nat) ≤ (2 ^ 63 - 1) / 8:=by decide
  omega
 have hfit:¬ (!Builtin.List.listFitsIndex k)=true:=by
  rw [fitsIndex_both h1 h2];exact Bool.false_ne_true
 have hlong:¬ Builtin.List.listTooLong (its.toArray.size * k.toNat)=true:=by
  rw [XE hlen];exact Bool.false_ne_true
 have hnew:List.foldl (fun x1 x2=>x1 ++ x2) #[] (List.replicate (if its.toArray.isEmpty=true then 0 else k.toNat) its.toArray)=(List.replicate k.toNat its).flatten.toArray:=by
  have f0:∀ m:Nat,List.foldl (fun x1 x2=>x1 ++ x2) #[] (List.replicate m its.toArray)=(List.replicate m its).flatten.toArray:=fun m=>by
   have:=Gv its m [];rw [List.nil_append] at this;exact this
  rw [f0];cases its with
  | nil=>simp
  | cons a r'=>rw [if_neg (by simp)]
 refine wpAny_binaryOp_repeat_ref (T := "list") (U := "int") (by decide) ⟨_,e,rfl⟩ (fun s'=>typeIs_int s' k t) noFill_list_mul F.fills_int_mul F.slot_int_rmul repeat_list F.slot_int_index.lookup
  (call_meets F.slot_int_rmul (typeIs_int s k t) F.entry_int_rmul (F.args_int_rmul_2 _ _) (int___rmul___int_list k t l its.toArray n)
   ⟨e,rfl,⟨_,e,rfl⟩,call_meets F.slot_list_mul ⟨_,e,rfl⟩ F.entry_list_mul (F.args_list_mul_2 _ _) (AutoListH.list___mul___list_int_3 l its.toArray n k t hfit hcap hlong) ⟨e,?_⟩⟩)
 rw [hnew];exact ⟨.ref _,_,I.lnew (t':=s.toks) (r.rep k.toNat) (by rw [QG,Nat.mul_comm];exact hz),rfl,q _ I.fresh⟩
end
section
variable {prog:Program} {w:World} {A:Around} {E:Value→Shared→Prop} {s:Shared}
end
section
variable {X:Cx}
end
end L2
namespace L2
open PySem PySem.Spec PyProof.Rows
section
variable {κ:Type} [DecidableEq κ]
noncomputable def yu (kvs:List (κ × V)) (k:κ):Option V:=(kvs.find? fun kv=>decide (kv.1=k)).map (·.2)
noncomputable def Ju (kvs:List (κ × V)) (k:κ) (v:V):List (κ × V):=
 if (kvs.any fun kv=>decide (kv.1=k))=true then kvs.map (fun kv=>if kv.1=k then (kv.1,v) else kv) else kvs ++ [(k,v)]
noncomputable def UJ (kvs:List (κ × V)) (k:κ):List (κ × V):=kvs.filter fun kv=>decide (kv.1 ≠ k)
theorem lu {p:κ × V} {r:List (κ × V)} {k:κ} (e:p.1=k):yu (p :: r) k=some p.2:=by simp [yu,List.find?_cons,e]
theorem Wt {p:κ × V} {r:List (κ × V)} {k:κ} (e:¬ p.1=k):yu (p :: r) k=yu r k:=by simp [yu,List.find?_cons,e]
theorem Ty (k:κ):∀ kvs:List (κ × V),(kvs.any fun kv=>decide (kv.1=k))=(yu kvs k).isSome
 | []=>rfl
 | p :: r=>by
  rw [List.any_cons];by_cases e:p.1=k
  ·simp only [lu e,decide_eq_true e,Bool.true_or,Option.isSome_some]
  ·rw [Wt e,decide_eq_false e,Bool.false_or];exact Ty k r
theorem Up (kvs:List (κ × V)) (k:κ) (v:V):(Ju kvs k v).length ≤ kvs.length + 1:=by
 unfold Ju;split
 ·rw [List.length_map];omega
 ·rw [List.length_append,List.length_cons,List.length_nil];omega
theorem ou.isSome_eq {o:Option V} {u:Option Value} (r:ou o u):o.isSome=u.isSome:=by
 cases o with
 | none=>cases u with
  | none=>rfl
  | some _=>exact (show False from r).elim
 | some _=>cases u with
  | none=>exact (show False from r).elim
  | some _=>rfl
theorem ou.getD {o:Option V} {u:Option Value} {d:V} {d':Value} (r:ou o u) (rd:zd d d'):zd (o.getD d) (u.getD d'):=by
 cases o with
 | none=>cases u with
  | none=>exact rd
  | some _=>exact (show False from r).elim
 | some _=>cases u with
  | none=>exact (show False from r).elim
  | some _=>exact r
theorem KV.val {kvs:List (κ × V)} {vs:List (κ × Value)} (r:KV kvs vs) (k:κ):ou (yu kvs k) (valueAt vs k):=by
 unfold KV at r
 induction r with
 | nil=>exact True.intro
 | @cons p q ps qs h t ih=>
  obtain ⟨h1,h2⟩:=h;by_cases e:p.1=k
  ·have e':q.1=k:=h1.symm.trans e;have b:valueAt (q :: qs) k=some q.2:=by simp [valueAt,List.find?_cons,e']
   rw [lu e,b];exact h2
  ·have e':¬ q.1=k:=fun z=>e (h1.trans z)
   have b:valueAt (q :: qs) k=valueAt qs k:=by simp [valueAt,List.find?_cons,e']
   rw [Wt e,b];exact ih
theorem KV.any {kvs:List (κ × V)} {vs:List (κ × Value)} (r:KV kvs vs) (k:κ):(kvs.any fun kv=>decide (kv.1=k))=vs.any fun kv=>decide (kv.1=k):=by
 unfold KV at r
 induction r with
 | nil=>rfl
 | cons h t ih=>rw [List.any_cons,List.any_cons,ih,h.1]
theorem KV.repl {kvs:List (κ × V)} {vs:List (κ × Value)} (r:KV kvs vs) (k:κ) {y:V} {u:Value} (ry:zd y u) :
  KV (kvs.map fun kv=>if kv.1=k then (kv.1,y) else kv) (vs.map fun kv=>if kv.1=k then (kv.1,u) else kv):=by
 unfold KV at r ⊢
 induction r with
 | nil=>exact .nil
 | @cons p q ps qs h t ih=>
  rw [List.map_cons,List.map_cons];refine .cons ?_ ih;obtain ⟨h1,h2⟩:=h;by_cases e:p.1=k
  ·rw [if_pos e,if_pos (h1.symm.trans e)];exact ⟨h1,ry⟩
  ·rw [if_neg e,if_neg (fun z=>e (h1.trans z))];exact ⟨h1,h2⟩
theorem KV.put {kvs:List (κ × V)} {vs:List (κ × Value)} (r:KV kvs vs) (k:κ) {y:V} {u:Value} (ry:zd y u):KV (Ju kvs k y) (stored vs k u):=by
 unfold Ju stored;rw [r.any k];by_cases e:(vs.any fun kv=>decide (kv.1=k))=true
 ·rw [if_pos e,if_pos e];exact r.repl k ry
 ·rw [if_neg e,if_neg e];exact Paired.snoc r ⟨rfl,ry⟩
theorem KV.drop {kvs:List (κ × V)} {vs:List (κ × Value)} (r:KV kvs vs) (k:κ):KV (UJ kvs k) (without vs k):=by
 unfold KV at r ⊢;unfold UJ without
 induction r with
 | nil=>exact .nil
 | @cons p q ps qs h t ih=>
  obtain ⟨h1,h2⟩:=h;rw [List.filter_cons,List.filter_cons];by_cases e:p.1=k
  ·have a:¬ decide (p.1 ≠ k)=true:=by simp [e]
   have b:¬ decide (q.1 ≠ k)=true:=by simp [h1.symm.trans e]
   rw [if_neg a,if_neg b];exact ih
  ·have e':¬ q.1=k:=fun z=>e (h1.trans z)
   have a:decide (p.1 ≠ k)=true:=by simp [e]
   have b:decide (q.1 ≠ k)=true:=by simp [e']
   rw [if_pos a,if_pos b];exact .cons ⟨h1,h2⟩ ih
theorem KV.length {kvs:List (κ × V)} {vs:List (κ × Value)} (r:KV kvs vs):kvs.length=vs.length:=Paired.length r
end
theorem RD {P:Program} {w:World} {k:Key} {u:Value} (r:zd (kV k) u):(Ze P w).is k u=true:=by
 cases k with
 | inl i=>obtain ⟨t,e⟩:=(show ∃ t,u=Value.int i t from r);subst e;exact Vw P w i t
 | inr x=>obtain ⟨t,e⟩:=(show ∃ t,u=Value.str x t from r);subst e;exact lx P w x t
theorem Qv {P:Program} {w:World}:∀ {ks:List Key} {us:List Value},ld (ks.map kV) us→ItemsAre (Ze P w) ks us
 | [],_,r=>by rw [List.map_nil] at r;cases r;exact .nil
 | k :: ks,_,r=>by
  rw [List.map_cons] at r;cases r with
  | cons h t=>exact .cons (RD h) (Qv t)
noncomputable abbrev KT (H:Hp):List (List Key × V)→List (List Key × Addr × Value)→Prop:=Paired fun p q=>p.1=q.1∧H q.2.1=some (.tup (p.1.map kV))∧zd p.2 q.2.2
theorem KT.val {H:Hp} {kvs:List (List Key × V)} {xs:List (List Key × Addr × Value)} (r:KT H kvs xs) (k:List Key):ou (yu kvs k) ((atKey xs k).map (·.2)):=by
 induction r with
 | nil=>exact True.intro
 | @cons p q ps qs h t ih=>
  obtain ⟨h1,_,h2⟩:=h;by_cases e:p.1=k
  ·have e':q.1=k:=h1.symm.trans e;have b:atKey (q :: qs) k=some q.2:=by simp [atKey,List.find?_cons,e']
   rw [lu e,b];exact h2
  ·have e':¬ q.1=k:=fun z=>e (h1.trans z)
   have b:atKey (q :: qs) k=atKey qs k:=by simp [atKey,List.find?_cons,e']
   rw [Wt e,b];exact ih
theorem KT.repl {H:Hp} {kvs:List (List Key × V)} {xs:List (List Key × Addr × Value)} (r:KT H kvs xs) (k:List Key) {y:V} {u:Value} (ry:zd y u) :
  KT H (kvs.map fun kv=>if kv.1=k then (kv.1,y) else kv) (xs.map (putAt k u)):=by
 induction r with
 | nil=>exact .nil
 | @cons p q ps qs h t ih=>
  rw [List.map_cons,List.map_cons];refine .cons ?_ ih;obtain ⟨h1,h2,h3⟩:=h;unfold putAt;by_cases e:p.1=k
  ·rw [if_pos e,if_pos (h1.symm.trans e)];exact ⟨h1,h2,ry⟩
  ·rw [if_neg e,if_neg (fun z=>e (h1.trans z))];exact ⟨h1,h2,h3⟩
theorem KT.put {H:Hp} {kvs:List (List Key × V)} {xs:List (List Key × Addr × Value)} (r:KT H kvs xs) (k:List Key) {b:Addr} {y:V} {u:Value} (hb:H b=some (.tup (k.map kV))) (ry:zd y u) :
  KT H (Ju kvs k y) (storedH xs k b u):=by
 have e:(kvs.any fun kv=>decide (kv.1=k))=(atKey xs k).isSome:=by
  rw [Ty,(r.val k).isSome_eq,Option.isSome_map]
 unfold Ju storedH;rw [e];by_cases q:(atKey xs k).isSome=true
 ·rw [if_pos q,if_pos q];exact r.repl k ry
 ·rw [if_neg q,if_neg q];exact Paired.snoc r ⟨rfl,hb,ry⟩
theorem KT.keeps {H H':Hp} {kvs:List (List Key × V)} {xs:List (List Key × Addr × Value)} (r:KT H kvs xs) (ht:∀ b ys,H b=some (.tup ys)→H' b=some (.tup ys)):KT H' kvs xs:=
 Paired.mapP r fun _ _ z=>⟨z.1,ht _ _ z.2.1,z.2.2⟩
section
variable {P:Program} {w:World} {H:Hp} {h:Heap} {a:Addr}
theorem VI {u:HO} (ok:HOk P w H h) (e:Rd H a u):Td P w H h a u:=e.ok ok
theorem lE {kvs:List (Key × V)} (ok:HOk P w H h) (e:Rd H a (.dK kvs)):kvs.length ≤ sizeLine∧(a == sysModules)=false∧∃ vs,KV kvs vs∧h.DictOf (Ze P w) a vs:=
 show Td P w H h a (.dK kvs) from VI ok e
theorem eL {kvs:List (Key × V)} (ok:HOk P w H h) (e:H a=some (.dK kvs)):kvs.length ≤ sizeLine∧(a == sysModules)=false∧∃ vs,KV kvs vs∧h.DictOf (Ze P w) a vs:=lE ok (.inl e)
theorem Sy {ks:List Key} (ok:HOk P w H h) (e:H a=some (.tup (ks.map kV))):(tupleKind (Ze P w)).is h ks a:=by
 obtain ⟨_,its,r,o,h1,h2,n,h3⟩:=(show Td P w H h a (.tup (ks.map kV)) from ok a _ e);exact ⟨o,its.toArray,n,h1,h2,h3,by simpa using Qv r⟩
theorem AD {kvs:List (List Key × V)} (ok:HOk P w H h) (e:Rd H a (.dT kvs)):kvs.length ≤ sizeLine∧(a == sysModules)=false ∧
  ∃ xs,KT H kvs xs∧h.DictOfH (tupleKind (Ze P w)) a xs:=by
 obtain ⟨z,y,xs,r,o,es,ep,h1,h2,h3,h4,h5⟩:=(show Td P w H h a (.dT kvs) from VI ok e);refine ⟨z,y,xs,r,o,es,ep,h1,h2,h3,h4,fun x hx=>?_,h5⟩;have all:∀ {l:List (List Key × V)} {m:List (List Key × Addr × Value)},KT H l m→∀ x ∈ m,(tupleKind (Ze P w)).is h x.1 x.2.1:=by
  intro l m q
  induction q with
  | nil=>intro x hx;exact nomatch hx
  | @cons p q ps qs hq t ih=>
   intro x hx;rcases List.mem_cons.mp hx with e | hx
   ·subst e;exact Sy ok (by rw [← hq.1];exact hq.2.1)
   ·exact ih x hx
 exact all r x hx
theorem rL {kvs:List (List Key × V)} (ok:HOk P w H h) (e:H a=some (.dT kvs)):kvs.length ≤ sizeLine∧(a == sysModules)=false ∧
  ∃ xs,KT H kvs xs∧h.DictOfH (tupleKind (Ze P w)) a xs:=AD ok (.inl e)
end
noncomputable def wo (H:Hp) (a:Addr) (y:V) (r:Option V):Prop:=
 (∃ kvs k,Rd H a (.dK kvs)∧y=kV k∧r=yu kvs k)∨∃ kvs k b,Rd H a (.dT kvs)∧y=.ref b∧H b=some (.tup (k.map kV))∧r=yu kvs k
noncomputable def nA (H:Hp) (a:Addr) (y v:V) (H':Hp):Prop:=
 (∃ kvs k,H a=some (.dK kvs)∧y=kV k∧kvs.length < sizeLine∧H'=upd H a (.dK (Ju kvs k v))) ∨
 ∃ kvs k b,H a=some (.dT kvs)∧y=.ref b∧H b=some (.tup (k.map kV))∧kvs.length < sizeLine∧H'=upd H a (.dT (Ju kvs k v))
theorem wo.k {H:Hp} {a:Addr} {kvs:List (Key × V)} {k:Key} (e:H a=some (.dK kvs)):wo H a (kV k) (yu kvs k):=.inl ⟨kvs,k,.inl e,rfl,rfl⟩
theorem wo.t {H:Hp} {a b:Addr} {kvs:List (List Key × V)} {k:List Key} (e:H a=some (.dT kvs)) (eb:H b=some (.tup (k.map kV))):wo H a (.ref b) (yu kvs k):=.inr ⟨kvs,k,b,.inl e,rfl,eb,rfl⟩
theorem nA.k {H:Hp} {a:Addr} {kvs:List (Key × V)} {k:Key} {v:V} (e:H a=some (.dK kvs)) (hl:kvs.length < sizeLine):nA H a (kV k) v (upd H a (.dK (Ju kvs k v))):=.inl ⟨kvs,k,e,rfl,hl,rfl⟩
theorem nA.t {H:Hp} {a b:Addr} {kvs:List (List Key × V)} {k:List Key} {v:V} (e:H a=some (.dT kvs)) (eb:H b=some (.tup (k.map kV))) (hl:kvs.length < sizeLine) :
  nA H a (.ref b) v (upd H a (.dT (Ju kvs k v))):=.inr ⟨kvs,k,b,e,rfl,eb,hl,rfl⟩
section
variable {X:Cx} {pins:List (Addr × Obj)} {σ:St} {H:Hp} {s:Shared} {a:Addr} {y v:V} {u r:Value} {o:Option V} {A:Around} {E:Value→Shared→Prop}
theorem Inv.big (I:Inv X pins σ H s):sysModules < s.heap.objs.size:=by
 have h:mainGlobals < s.heap.objs.size:=(I.mod.glob.keeps I.bk).lt;exact Nat.lt_trans (by decide) h
theorem VB {Q:Value→Shared→Prop} (hu:A.units + 1 < cLine) (I:Inv X pins σ H s) (g:wo H a y (some v)) (ry:zd y u) (h:∀ w' s',Inv X pins σ H s'→zd v w'→Q w' s') :
  wpAny (model X.prog X.w) A (getItem (.ref a) u) Q E s:=by
 rcases g with ⟨kvs,k,e,ey,l⟩ | ⟨kvs,k,b,e,ey,eb,l⟩
 ·subst ey;obtain ⟨z,hd,vs,rel,dd⟩:=lE I.hok e;obtain ⟨w',hw,rw'⟩:=ou.some_of (v:=v) (o:=valueAt vs k) (by rw [l];exact rel.val k);exact wpAny_getItem_of (RD ry) dd.mapOf hw (h w' _ (I.tok _) rw')
 ·subst ey;cases (show u=Value.ref b from ry);obtain ⟨z,hd,xs,rel,dd⟩:=AD I.hok e;obtain ⟨w',hw,rw'⟩:=ou.some_of (v:=v) (o:=(atKey xs k).map (·.2)) (by rw [l];exact rel.val k);obtain ⟨p,hp,hp2⟩:=Option.map_eq_some_iff.mp hw;refine wpAny_getItem_heap (tupleKind_room_in1 hu) (Sy I.hok eb) dd hp ?_;rw [hp2];exact h w' _ (I.tok _) rw'
theorem uI {Q:Value→Shared→Prop} (hu:A.units + 1 < cLine) (I:Inv X pins σ H s) (g:wo H a y o) (ry:zd y u) (h:∀ s',Inv X pins σ H s'→Q (.bool (!o.isSome)) s') :
  wpAny (model X.prog X.w) A (compareOp .NotIn u (.ref a)) Q E s:=by
 rcases g with ⟨kvs,k,e,ey,l⟩ | ⟨kvs,k,b,e,ey,eb,l⟩
 ·subst ey;obtain ⟨z,hd,vs,rel,dd⟩:=lE I.hok e;refine wpAny_notIn_of (RD ry) hd dd.mapOf ?_;rw [← (rel.val k).isSome_eq,← l];exact h _ (I.tok _)
 ·subst ey;cases (show u=Value.ref b from ry);obtain ⟨z,hd,xs,rel,dd⟩:=AD I.hok e;refine wpAny_notIn_heap (tupleKind_room_in1 hu) (Sy I.hok eb) hd dd ?_;have q:=(rel.val k).isSome_eq;rw [Option.isSome_map] at q;rw [← q,← l];exact h _ (I.tok _)
theorem JA {h':Heap} {t':Nat} {ob:HO} (I:Inv X pins σ H s) (mu:Mut (H a)) (hs:Heap.SameBut a s.heap h') (he:∃ q,h'.get? a=some q) (new:Td X.prog X.w (upd H a ob) h' a ob) :
  Inv X pins σ (upd H a ob) { s with heap:=h',toks:=t' }:=
 I.write (x:=a) (e:=a) mu (.inl rfl) (fun b q hb z=>(hs.2 b hb).trans z) he new
theorem oK {P:Program} {w:World} {H':Hp} {h':Heap} {kvs:List (Key × V)} {vs:List (Key × Value)} (z:kvs.length ≤ sizeLine) (hd:(a == sysModules)=false) (rel:KV kvs vs) (dd:h'.DictOf (Ze P w) a vs) :
  Td P w H' h' a (.dK kvs):=⟨z,hd,vs,rel,dd⟩
theorem RB {H':Hp} {Q:Unit→Shared→Prop} (hu:A.units + 1 < cLine) (I:Inv X pins σ H s) (g:nA H a y v H') (ry:zd y u) (rv:zd v r) (h:∀ s',Inv X pins σ H' s'→Q () s') :
  wpAny (model X.prog X.w) A (setItem (.ref a) u r) Q E s:=by
 rcases g with ⟨kvs,k,e,ey,l,eH⟩ | ⟨kvs,k,b,e,ey,eb,l,eH⟩
 ·subst ey eH;obtain ⟨z,hd,vs,rel,dd⟩:=eL I.hok e;have hz:vs.length ≤ sizeLine:=by rw [← rel.length];exact z
  have hl:(Ju kvs k v).length ≤ sizeLine:=by have:=Up kvs k v;omega
  refine wpAny_setItem_pairs (hsz:=hz) (RD ry) dd fun h' dd' hs=>h _ ?_
  have he:∃ q,h'.get? a=some q:=let ⟨q,_,_,hq,_⟩:=dd';⟨q,hq⟩;exact JA I (by rw [e];exact True.intro) hs he (oK hl hd (rel.put k rv) dd')
 ·subst ey eH;cases (show u=Value.ref b from ry);obtain ⟨z,hd,xs,rel,dd⟩:=rL I.hok e;have hz:xs.length ≤ sizeLine:=by rw [← Paired.length rel];exact z
  have hl:(Ju kvs k v).length ≤ sizeLine:=by have:=Up kvs k v;omega
  refine wpAny_setItem_heap (hsz:=hz) (tupleKind_room_in1 hu) (Sy I.hok eb) dd fun h' dd' hs=>h _ ?_
  obtain ⟨q,es,ep,hq,h2,h3,h4,_,h5⟩:=dd';refine JA I (by rw [e];exact True.intro) hs ⟨q,hq⟩ ⟨hl,hd,_,(rel.put k eb rv).keeps fun c ys ec=>?_,q,es,ep,hq,h2,h3,h4,h5⟩;rw [qb (ze ec e (fun z=>nomatch z))];exact ec
end
section
variable {X:Cx} {pins:List (Addr × Obj)} {σ:St} {H:Hp} {s:Shared} {a:Addr} {kvs:List (Key × V)} {k:Key} {u:Value} {A:Around} {E:Value→Shared→Prop}
end
noncomputable def dM (i:Expr):Prop:=∀ ov iv,subscripted i false ov iv=operate [ov,iv] (getItem ov iv)
theorem GG {prog:Program} {w:World} {A:Around} {E:Value→Shared→Prop} {s:Shared} {env:Env} {value slice:Expr} {pos:Pos} {T id:String} {Q:Value→Shared→Prop}
  (hl:typeLookup (.type T) "__getitem__"=pure (some (.builtin id))) (hs:dM slice)
  (h:wpAny (model prog w) A (eval value env) (fun o s₁=>wpAny (model prog w) A (eval slice env) (fun i s₂=>s₂.TypeIs o T∧wpAny (model prog w) A (getItem o i) Q E s₂) E s₁) E s) :
  wpAny (model prog w) A (eval (.Subscript value slice pos) env) Q E s:=by
 refine Subscript_ (wpAny_mono h (fun o s₁ h₁=>wpAny_mono h₁ (fun i s₂ h₂=>?_) fun _ _ x=>x) fun _ _ x=>x);obtain ⟨hT,h₂⟩:=h₂;unfold subscriptTail;refine wpAny_bind ?_;rw [getitemInPython_of_ne hT.not_modules];refine wpAny_bind (wpAny_specialOf hT hl ?_);have fin:wpAny (model prog w) A (subscripted slice false o i) (fun r s₃=>wpAny (model prog w) A (letTemporaryGo value o r >>= fun _=>pure r) Q E s₃) E s₂:=by
  rw [hs o i];exact wpAny_operating (wpAny_mono h₂ (fun r s₃ h₃=>wpAny_bind (wpAny_letTemporaryGo (wpAny_pure h₃))) fun _ _ x=>x)
 first
  | exact wpAny_pure (wpAny_bind fin)
  | exact wpAny_bind (wpAny_pure (wpAny_bind fin))
  | exact wpAny_bind fin
theorem Bw {X:Cx} {pins:List (Addr × Obj)} {σ:St} {H:Hp} {s:Shared} {a:Addr} {y:V} {o:Option V} (I:Inv X pins σ H s) (g:wo H a y o):s.TypeIs (.ref a) "dict" := by
 rcases g with ⟨kvs,k,e,_,_⟩ | ⟨kvs,k,b,e,_,_,_⟩
 ·obtain ⟨_,_,vs,_,dd⟩:=lE I.hok e;exact dd.typeIs
 ·obtain ⟨_,_,xs,_,dd⟩:=AD I.hok e;exact dd.typeIs
noncomputable def hJ (td ty:TE):TE:=fun σ H Q=>td σ H fun x H1=>ty σ H1 fun y H2=>∃ a v,x=.ref a∧wo H2 a y (some v)∧Q v H2
noncomputable def FA (ty td:TE):TE:=fun σ H Q=>ty σ H fun y H1=>td σ H1 fun x H2=>∃ a o,x=.ref a∧wo H2 a y o∧Q (.bl (!o.isSome)) H2
noncomputable def aK (td ty tv:TE):TS:=fun D σ H=>tv σ H fun v H1=>td σ H1 fun x H2=>ty σ H2 fun y H3=>∃ a H4,x=.ref a∧nA H3 a y v H4∧D.nx σ H4
section
variable {X:Cx} {o i e value:Expr} {pos pos' tpos:Pos} {td ty tv:TE}
theorem Vi (hu:X.A.units + 1 < cLine) (ho:PE X o td) (hi:PE X i ty) (hs:dM i):PE X (.Subscript o i pos) (hJ td ty):=by
 intro pins s σ H Q I h;refine GG PySem.F.slot_dict_getitem.lookup hs (thn (ho pins s σ H _ I h) fun u s1 ⟨x,H1,I1,rx,q1⟩=>thn (hi pins s1 σ H1 _ I1 q1) fun iv s2 hZ1=>?_);obtain ⟨y,H2,I2,ry,a,v,ex,g,q2⟩:=hZ1;subst ex;obtain rfl:u=Value.ref a:=rx;exact ⟨Bw I2 g,VB hu I2 g ry fun w' s3 I3 rw'=>⟨v,H2,I3,rw',q2⟩⟩
theorem gC (hu:X.A.units + 1 < cLine) (hi:PE X i ty) (ho:PE X o td):PC X .NotIn i o (FA ty td):=by
 intro pins s σ H Q I h;refine thn (hi pins s σ H _ I h) fun iv s1 ⟨y,H1,I1,ry,q1⟩=>thn (ho pins s1 σ H1 _ I1 q1) fun u s2 hZ1=>?_
 obtain ⟨x,H2,I2,rx,a,ov,ex,g,q2⟩:=hZ1;subst ex;obtain rfl:u=Value.ref a:=rx;exact uI hu I2 g ry fun s3 I3=>⟨.bl (!ov.isSome),H2,I3,rfl,q2⟩
theorem xq (hu:X.A.units + 1 < cLine) (ho:PE X o td) (hi:PE X i ty) (hv:PE X value tv) (hs:swapsWith value (some (.Subscript o i pos')) pos.line X.env=pure false) :
  PS X (.Assign [.Subscript o i pos'] value pos) (aK td ty tv):=by
 intro pins s σ H D I h;refine wpAny_Assign_Subscript (thn (hv pins s σ H _ I h) fun r s1 ⟨v,H1,I1,rv,q1⟩=>thn (ho pins s1 σ H1 _ I1 q1) fun u s2 ⟨x,H2,I2,rx,q2⟩=>thn (hi pins s2 σ H2 _ I2 q2) fun iv s3 hZ1=>?_) hs;obtain ⟨y,H3,I3,ry,a,H4,ex,g,q3⟩:=hZ1;subst ex;obtain rfl:u=Value.ref a:=rx;exact RB hu I3 g ry rv fun s4 I4=>⟨σ,H4,I4,q3⟩
end
theorem bE {P:Program} {w:World} {H:Hp} (h:Heap) (hb:sysModules < h.objs.size):Td P w H (h.push { cls:=.type "dict",data:=.dict #[] }) h.objs.size (.dK []):=
 ⟨Nat.zero_le _,beq_eq_false_iff_ne.mpr (Ne.symm (Nat.ne_of_lt hb)),[],.nil,Heap.DictOf.new h⟩
noncomputable def pG:TE:=fun _ H Q=>∀ p,H p=none→Q (.ref p) (upd H p (.dK []))
section
variable {X:Cx} {pos:Pos}
theorem Lm:PE X (.Dict [] [] pos) pG:=fun pins s σ H Q I h=>
 wpAny_Dict_empty ⟨.ref s.heap.objs.size,_,I.laid (a:=s.heap.objs.size) (o:=.dK []) (t':=s.toks) (fun _ _ q=>Heap.get?_push_of_some _ q) (Nat.le_refl _) (bE s.heap I.big),rfl,h _ (I.hok.fresh (Nat.le_refl _))⟩
end
structure M1 (X:Cx) (o:Expr) (m:Str) (apos:Pos) (e:Expr) (cpos:Pos):Prop where
 base:attributeBase o m X.env (eval o X.env)=eval o X.env
 few:((backTo cpos (starEach [e] X.env)).all (fun x=>!x.1) && (backToKw cpos (keywordEach [] X.env)).all (fun x=>x.1.isSome)
  && decide (([e]:List Expr).length + ([]:List Keyword).length + (if ([]:List Keyword).isEmpty then 0 else 1) < 30))=true
 line:(apos.endLine == cpos.line)=true
 trees:backTo cpos (starEach [e] X.env)=[(false,eval e X.env)]
structure M2 (X:Cx) (o:Expr) (m:Str) (apos:Pos) (e f:Expr) (cpos:Pos):Prop where
 base:attributeBase o m X.env (eval o X.env)=eval o X.env
 few:((backTo cpos (starEach [e,f] X.env)).all (fun x=>!x.1) && (backToKw cpos (keywordEach [] X.env)).all (fun x=>x.1.isSome)
  && decide (([e,f]:List Expr).length + ([]:List Keyword).length + (if ([]:List Keyword).isEmpty then 0 else 1) < 30))=true
 line:(apos.endLine == cpos.line)=true
 trees:backTo cpos (starEach [e,f] X.env)=[(false,eval e X.env),(false,eval f X.env)]
section
variable {X:Cx} {pins:List (Addr × Obj)} {σ:St} {H:Hp} {s:Shared} {a:Addr} {y d:V} {u r:Value} {o:Option V} {A:Around} {E:Value→Shared→Prop}
end
section
variable {X:Cx} {o e f:Expr} {apos cpos:Pos} {td ty tx:TE}
end
section
variable {X:Cx} {pins:List (Addr × Obj)} {σ:St} {H:Hp} {s:Shared} {a:Addr} {kvs:List (Key × V)} {A:Around} {E:Value→Shared→Prop}
end
section
variable {X:Cx} {pins:List (Addr × Obj)} {σ:St} {H:Hp} {s:Shared} {a:Addr} {y:V} {u:Value} {A:Around} {E:Value→Shared→Prop}
end
end L2
namespace Att
open PySem PySem.W PySem.Calls PyProof.Rows
theorem Qo {P:Params} {h:Heap}:∀ (ns:List Int) (vs:List Value),WellAll P h vs (ns.map WData.int)→IntsAre vs ns:=by
 intro ns
 induction ns with
 | nil=>
  intro vs w;rw [List.map_nil] at w;cases w;exact .nil
 | cons n ns ih=>
  intro vs w;rw [List.map_cons] at w;cases w with
  | cons a b=>
   cases a;exact .cons _ _ (ih _ b)
theorem TC {l:OpenLaw} {n:Nat} (hn:l.most=some n) {P:Params} {h:Heap} {args:List WData} {vals:List Value}
  (hpre:l.row.toRowW.claim.pre args=true) (hwl:WellAll P h vals args) :
  ∃ a vs ns,vals=[Value.ref a]∧args=[WData.list (ns.map WData.int)]∧h.get? a=some { cls:=.type "list",data:=.seq vs.toArray }∧IntsAre vs ns∧ns.length ≤ n:=by
 have hsh:WShape.hasAll [] args [.list .int]=true:=(pre_splitW hpre).1;have hc:l.pre.holds [] { args:=args }=true:=(pre_splitW hpre).2;obtain ⟨d,r,rfl,h1,h2⟩:=hasAllW_cons hsh;obtain rfl:=hasAllW_nil h2;obtain ⟨xs,rfl,h3⟩:=hasW_list h1;obtain ⟨ns,rfl⟩:=items_int h3;have hlen:ns.length ≤ n:=by
  unfold OpenLaw.pre at hc;have h4:(WTm.not (.lt (.lit (.int (n:Int))) (.len (.arg 0)))).holds [] { args:=[.list (ns.map .int)] }=true:=by
   have h4:=(holds_andW hc).1;rw [hn] at h4;exact h4
  have h5:=condW_of h4 (w_not (w_lt w_lit (w_len_list (w_arg rfl))));rw [List.length_map] at h5;refine Nat.le_of_not_lt fun q=>?_
  have q':(n:Int) < ((ns.length:Nat):Int):=by omega
  first
   | (rw [decide_eq_true q'] at h5;exact absurd h5 (by decide))
   | (simp at h5;omega)
 cases hwl with
 | cons w1 w2=>
  cases w2;cases w1 with
  | list ho hall=>exact ⟨_,_,ns,rfl,rfl,ho,Qo ns _ hall,hlen⟩
theorem fB (l:OpenLaw) (args:List WData):l.row.toRowW.claim.post args (.bool true) args=true:=
 postW_of (r:=l.row.toRowW) (X:=(true == true))
  (show WShape.has [] (.bool true) .bool=true by first | rfl | decide | simp [WShape.has,WShape.arms,WShape.armsAll])
  (show (WTm.eq .res (.lit (.bool true))).value [] { args:=args,res:=some (.bool true),after:=args }=some (.bool (true == true)) from w_eq_bool (w_res rfl) w_lit) rfl
theorem attach_call {l:OpenLaw} {n:Nat} {q:Program} {loose:List Str} {XP:(Str→Option Value)→Heap→Prop} {YP:World→Heap→Prop} {d:DefRec}
  (hn:l.most=some n) (hdf:d.params.defaults=[])
  (call:∀ (w:World) (s₀ s₁:Shared) (mg mb:Str→Option Value) (fa:Addr) (o:Obj) (pm cd doc:Value) (a:Addr) (vs:List Value) (ns:List Int),
   Ground q loose [] XP w s₀ mg mb s₁.heap→YP w s₁.heap →
   s₁.heap.get? fa=some o→o.data=.func (docDef d.name d.params d.body d.scope pm cd doc)→s₁.heap.CodeRec cd d.name→mg d.name=some (.ref fa) →
   s₁.heap.get? a=some { cls:=.type "list",data:=.seq vs.toArray }→IntsAre vs ns→ns.length ≤ n→s₁.gens=#[] →
   codeAny (model l.prog w) callerA (.call (.ref fa) ⟨[.ref a],[]⟩) (fun r s'=>r=.ok (.ret (.bool true))∧OldK s₁.heap s'.heap∧s'.os=s₁.os∧AllBare s'.gens) s₁) :
  WalkO q loose XP YP l.row.toRowW d [] (fun f vs=>PySem.call f vs):=by
 intro w s₀ s₁ mg mb G Y fa o pm cd doc dV kV ho hd hcd hD hmg hg args vals as hpre hlay hrd hwl hlo;obtain rfl:dV=.none:=Dflts.none hD hdf;obtain rfl:kV=.none:=Dflts.noKw hD;obtain ⟨a,vs,ns,rfl,rfl,hobj,hints,hlen⟩:=TC hn hpre hwl;refine enter_call (codeAny_mono (call w s₀ s₁ mg mb fa o pm cd doc a vs ns G Y ho (fd_plain hd) hcd hmg hobj hints hlen hg) fun r s' hq=>?_);obtain ⟨rfl,h2,h3,h4⟩:=hq;exact ⟨.inl ⟨.bool true,.bool true,[],rfl,fun _=>rfl,.bool true,fB l _,fun _=>⟨List.Pairwise.nil,fun _ hm=>(nomatch hm)⟩⟩,h2,h3,h4⟩
section
variable {prog:Program} {w:World} {A:Around} {E:Value→Shared→Prop} {s:Shared} {K:Frag}
end
end Att
namespace L2
open PySem PySem.Spec PyProof.Rows
theorem bw:∀ {vs:List Value} {ns:List Int},IntsAre vs ns→ld (ns.map V.int) vs
 | _,_,.nil=>.nil
 | _,_,.cons n t h=>.cons ⟨t,rfl⟩ (bw h)
noncomputable def zJ (H:Hp):Prop:=∀ b,H b=none∨∃ o xs,H b=some (.frz o (.lst xs))
theorem DD {P:Program} {w:World} {K:PySem.W.Frag} {mg mb:Str→Option Value} {CX:CXT} {k:Nat} {fa a:Addr} {fd:FuncData} {x:Str} {sp:Sp} {s₁:Shared} {vs:List Value} {ns:List Int}
  (KX:K.In s₁.heap) (hns:s₁.heap.Ns mainGlobals mg) (hb:s₁.heap.Ns builtinsNs mb) (hbb:∀ x:Str,x ≠ "__name__" → mb x=bootBuiltins x) (hlim:s₁.heap.NoLimit) (hg:s₁.gens=#[])
  (ha:s₁.heap.get? a=some { cls:=.type "list",data:=.seq vs.toArray }) (hi:IntsAre vs ns) (hl:ns.length ≤ sizeLine) (hr:Ej k callerA)
  (F:∀ base:Heap,K.In base→base.Ns mainGlobals mg→Lb P w K mg base CX k fa fd [x] sp) (hbind:∀ (s:Shared) (u:Value),BindsTo s fd ⟨[u],[]⟩ [(x,u)])
  (hsp:∀ H:Hp,zJ H→SqL K H a (ns.map V.int)→sp [.ref a] H (fun v _=>v=.bl true) fun _ _ _=>False)
  (hCX:∀ H e s',CX [] H s₁ (fun _ _ _=>False) e s'→False) :
  codeAny (model P w) callerA (.call (.ref fa) ⟨[.ref a],[]⟩) (fun r s'=>r=.ok (.ret (.bool true))∧OldK s₁.heap s'.heap∧s'.os=s₁.os∧AllBare s'.gens) s₁:=by
 have rv:=bw hi;have lenV:=hi.length;have core:∀ H:Hp,zJ H→SqL K H a (ns.map V.int)→HOk P w H s₁.heap→(∀ b,H b ≠ none→b=a)→(H a ≠ none→K.lookup a=none) →
   codeAny (model P w) callerA (.call (.ref fa) ⟨[.ref a],[]⟩) (fun r s'=>r=.ok (.ret (.bool true))∧OldK s₁.heap s'.heap∧s'.os=s₁.os∧AllBare s'.gens) s₁:=by
  intro H hO hS hok hA hK;have base_of:∀ {b:Addr} {o:Obj},s₁.heap.get? b=some o→H b=none→(tF s₁.heap H).get? b=some o:=fun e n=>yE e n
  have noA:∀ {b:Addr} {o:Obj} {es:Array DictEntry} {ep:Nat},s₁.heap.get? b=some o→o.data=.dict es ep→H b=none:=fun {b o es ep} e d=>by
   cases q:H b with
   | none=>rfl
   | some u=>
    have e':b=a:=hA b (by rw [q];simp);subst e';rw [ha] at e;cases e;have d':Data.seq vs.toArray _=Data.dict es ep:=d;cases d'
  have nsK:∀ {b:Addr} {m:Str→Option Value},s₁.heap.Ns b m→(tF s₁.heap H).Ns b m:=fun {b m} ⟨o,es,ep,e,d,r⟩=>⟨o,es,ep,base_of e (noA e d),d,r⟩
  have hKb:K.In (tF s₁.heap H):=fun b o e=>base_of (KX b o e) (by
   cases q:H b with
   | none=>rfl
   | some u=>
    have e':b=a:=hA b (by rw [q];simp);subst e';rw [hK (by rw [q];simp)] at e;cases e)
  have hM:Mod K mg (tF s₁.heap H):=⟨hKb,nsK hns,⟨mb,nsK hb,hbb⟩,let ⟨mc,h1,h2⟩:=hlim;⟨mc,nsK h1,h2⟩⟩;have e0:VA P w K mg (tF s₁.heap H) callerA [] s₁ H:=⟨rfl,hM,fun b o e=>DG e,Nat.le_of_eq (cD _ _),trivial,fun b hb=>absurd (show b ∈ ([]:List Addr) from hb) (by simp),hok,.of_eq hg⟩;refine codeAny_mono ((F _ hKb (nsK hns)).run callerA [] s₁ H ⟨[.ref a],[]⟩ [.ref a] [.ref a] _ _ hr e0 (hbind s₁ (.ref a)) (.cons rfl .nil) (hsp H hO hS)) fun r s' h=>?_
  cases r with
  | error e=>exact (hCX H e s' h).elim
  | ok fl=>
   cases fl with
   | next=>exact False.elim h
   | brk=>exact False.elim h
   | cont=>exact False.elim h
   | ret u=>
    obtain ⟨v,H',os,bare,un,hok',r',q⟩:=h;have q':v=.bl true:=q;subst q';obtain rfl:u=Value.bool true:=r';refine ⟨rfl,OldK.of_keep fun b o e=>?_,os,bare⟩;cases q:H b with
    | none=>exact un.keep b o e q (by intro z;exact absurd (show b ∈ ([]:List Addr) from z) (by simp)) (by simp)
    | some u=>
     rcases hO b with z | ⟨ob,xs,z⟩
     ·rw [q] at z;cases z
     ·have z2:=un.frzs b ob _ z;obtain ⟨e1,_⟩:=hok b _ z;obtain ⟨e2,_⟩:=hok' b _ z2;rw [e] at e1;cases e1;exact e2
 cases hk:K.lookup a with
 | some o=>
  have e:=KX a o hk;rw [ha] at e;cases e;refine core (fun _=>none) (fun _=>.inl rfl) (.inr ⟨_,vs.toArray,_,hk,rfl,rfl,rfl,by rw [List.size_toArray,lenV];exact hl,by simpa using rv⟩) (fun b u z=>by have z':(none:Option HO)=some u:=z;cases z') (fun b z=>absurd rfl z) fun z=>absurd rfl z
 | none=>
  refine core (fun b=>if b=a then some (.frz { cls:=.type "list",data:=.seq vs.toArray } (.lst (ns.map V.int))) else none) (fun b=>?_) (.inl (.inr ⟨{ cls:=.type "list",data:=.seq vs.toArray },if_pos rfl⟩)) (fun b u z=>?_) (fun b z=>?_) fun _=>hk
  ·by_cases hb:b=a
   ·exact .inr ⟨_,_,if_pos hb⟩
   ·exact .inl (if_neg hb)
  ·by_cases hb:b=a
   ·have z':=(if_pos hb).symm.trans z;cases z';subst hb;exact ⟨ha,by rw [List.length_map];exact hl,vs,_,rv,ha⟩
   ·have z':=(if_neg hb).symm.trans z;cases z'
  ·by_cases hb:b=a
   ·exact hb
   ·exact absurd (if_neg hb) z
end L2
namespace L2
open PySem PySem.Spec PyProof.Rows
noncomputable abbrev KOf {K:PySem.W.Frag} {h:Heap} (_:K.In h):PySem.W.Frag:=K
theorem DH {l:PySem.W.OpenLaw} {n k:Nat} {q:Program} {loose:List Str} {XP:(Str→Option Value)→Heap→Prop} {YP:World→Heap→Prop} {d:DefRec} {K:Params→PySem.W.Frag} {CX:World→CXT} {sp:World→Sp} {x:Str}
  (hn:l.most=some n) (hn2:n ≤ sizeLine) (hdf:d.params.defaults=[]) (hr:Ej k callerA)
  (hY:∀ (w:World) (h:Heap),YP w h→(K w.params).In h)
  (F:∀ (w:World) (mg:Str→Option Value) (fa:Addr) (h:Heap),(K w.params).In h→h.Ns mainGlobals mg→mg d.name=some (.ref fa) →
   ∃ fd:FuncData,(∀ (s:Shared) (u:Value),BindsTo s fd ⟨[u],[]⟩ [(x,u)]) ∧
    ∀ base:Heap,(K w.params).In base→base.Ns mainGlobals mg→Lb l.prog w (K w.params) mg base (CX w) k fa fd [x] (sp w))
  (hsp:∀ (w:World) (H:Hp) (a:Addr) (ns:List Int),ns.length ≤ n→zJ H→SqL (K w.params) H a (ns.map V.int)→sp w [.ref a] H (fun v _=>v=.bl true) fun _ _ _=>False)
  (hCX:∀ (w:World) (H:Hp) (s:Shared) (e:Value) (s':Shared),CX w [] H s (fun _ _ _=>False) e s'→False) :
  PySem.W.WalkO q loose XP YP l.row.toRowW d [] (fun f vs=>PySem.call f vs):=by
 refine Att.attach_call hn hdf fun w s₀ s₁ mg mb fa o pm cd doc a vs ns G Y ho hd hcd hmg hobj hints hlen hg=>?_
 have KX:=hY w _ Y;obtain ⟨fd,hb,hF⟩:=F w mg fa _ KX G.T.g hmg;exact DD KX G.T.g G.T.b G.T.builtins G.T.nolimit hg hobj hints (Nat.le_trans hlen hn2) hr hF hb (fun H hO hS=>hsp w H a ns hlen hO hS) fun H e s'=>hCX w H s₁ e s'
theorem kE {l:PySem.W.OpenLaw} {n k:Nat} {q:Program} {loose:List Str} {XP:(Str→Option Value)→Heap→Prop} {YP:World→Heap→Prop} {d:DefRec} {K:Params→PySem.W.Frag} {CX:CXT} {sp:PySem.W.Frag→Sp} {x:Str}
  (hn:l.most=some n) (hn2:n ≤ sizeLine) (hdf:d.params.defaults=[]) (hr:Ej k callerA)
  (hY:∀ (w:World) (h:Heap),YP w h→(K w.params).In h)
  (F:∀ (w:World) (mg:Str→Option Value) (fa:Addr) (h:Heap),(K w.params).In h→h.Ns mainGlobals mg→mg d.name=some (.ref fa) →
   ∃ fd:FuncData,(∀ (s:Shared) (u:Value),BindsTo s fd ⟨[u],[]⟩ [(x,u)]) ∧
    ∀ base:Heap,(K w.params).In base→base.Ns mainGlobals mg→Lb l.prog w (K w.params) mg base CX k fa fd [x] (sp (K w.params)))
  (hsp:∀ (K:PySem.W.Frag) (H:Hp) (a:Addr) (ns:List Int),ns.length ≤ n→zJ H→SqL K H a (ns.map V.int)→sp K [.ref a] H (fun v _=>v=.bl true) fun _ _ _=>False)
  (hCX:∀ (H:Hp) (s:Shared) (e:Value) (s':Shared),CX [] H s (fun _ _ _=>False) e s'→False) :
  PySem.W.WalkO q loose XP YP l.row.toRowW d [] (fun f vs=>PySem.call f vs):=
 DH (K:=K) (CX:=fun _=>CX) (sp:=fun w=>sp (K w.params)) hn hn2 hdf hr hY F (fun w H a ns h1 h2 h3=>hsp (K w.params) H a ns h1 h2 h3) fun _ H s e s'=>hCX H s e s'
end L2
namespace L2
open PySem PySem.Spec PyProof.Rows
noncomputable def yd (s:Stmt) (j:Nat):Stmt:=match s with
 | .ClassDef _ _ _ body _ _ _ _ _ _ _=>body.getD j (.Pass ⟨0,0,0,0⟩)
 | _=>.Pass ⟨0,0,0,0⟩
noncomputable def Tt (s:Stmt):Arguments:=match s with
 | .FunctionDef _ a _ _ _ _ _ _ _ _=>a
 | _=>{ posonlyargs:=[],args:=[],vararg:=none,kwonlyargs:=[],kw_defaults:=[],kwarg:=none,defaults:=[] }
noncomputable def Po (s:Stmt):List Stmt:=match s with
 | .FunctionDef _ _ b _ _ _ _ _ _ _=>b
 | _=>[]
noncomputable def rb (s:Stmt):Scope:=match s with
 | .FunctionDef _ _ _ _ _ _ sc _ _ _=>sc
 | _=>{ kind:=.function,names:=[],isGenerator:=false,isCoroutine:=false }
noncomputable abbrev CX0:CXT:=fun _ _ _ _ _ _=>False
noncomputable abbrev E0:XK:=fun _ _ _=>False
theorem Cb {X:Cx}:Hm CX0 X E0:=fun _ _ _ _ _ _ _ h=>h.elim
structure Fun (K:PySem.W.Frag) (x qual:Str) (st:Stmt) (f:Addr) (fd:FuncData):Prop where
 ex:∃ (oc:Value) (od:Option Addr) (kV doc pm:Value) (an:Option Addr) (cdv ct:Value) (osl:Array (Option Value)),
  fd=PySem.W.fnOf x qual (Tt st) (Po st) (rb st) .none kV doc pm an cdv ct∧K.lookup f=some ⟨oc,od,.func fd,osl⟩∧PySem.W.codeIn K cdv qual=true
 kp:PySem.W.keepIn K (.ref f)=true
section
variable {P:Program} {w:World} {K:PySem.W.Frag} {mg:Str→Option Value} {base:Heap}
theorem Fun.ok {x qual:Str} {st:Stmt} {f:Addr} {fd:FuncData} {N ps:List Str} {k:Nat} {sp:Sp} (F:Fun K x qual st f fd) (S:Ab N ps (rb st)) (len:∀ vs H Q E,sp vs H Q E→vs.length=ps.length)
  (hbody:∀ (cdv:Value) (A:Around) (outer:List Env) (s:Shared) (H:Hp) (vs:List V) (Q:VK) (E:XK),Ej k (A.deeper (envOfC qual (rb st) s.heap.objs.size f cdv))→sp vs H Q E →
   ∃ t,PSs (fH CX0 P w K mg base N qual (rb st) f cdv A outer s H E).nox (Po st) t∧t { nx:=fun _ H'=>Q .non H',rt:=Q } (start N vs) H):Lb P w K mg base CX0 (k + 1) f fd ps sp:=by
 obtain ⟨oc,od,kV,doc,pm,an,cdv,ct,osl,rfl,lk,hcd⟩:=F.ex;refine lL lk hcd S len fun A outer s H vs Q E hr hsp=>?_
 obtain ⟨t,h,q⟩:=hbody cdv A outer s H vs Q E hr hsp;exact ⟨t,h.nox,q⟩
theorem Fun.binds {x qual:Str} {st:Stmt} {f:Addr} {fd:FuncData} {ps:List Str} (F:Fun K x qual st f fd)
  (h:∀ (kV doc pm:Value) (an:Option Addr) (cdv ct:Value) (us:List Value),us.length=ps.length→bindArgs (PySem.W.fnOf x qual (Tt st) (Po st) (rb st) .none kV doc pm an cdv ct) ⟨us,[]⟩=pure (ps.zip us)):fc K fd ps []:=by
 obtain ⟨oc,od,kV,doc,pm,an,cdv,ct,osl,rfl,lk,hcd⟩:=F.ex;exact .all (h kV doc pm an cdv ct)
theorem XJ {x qual:Str} {st:Stmt} {f:Addr} {oc:Value} {od an:Option Addr} {osl:Array (Option Value)} {kV doc pm cdv ct:Value} (l:K.lookup f=some ⟨oc,od,.func (PySem.W.fnOf x qual (Tt st) (Po st) (rb st) .none kV doc pm an cdv ct),osl⟩)
  (c:PySem.W.codeIn K cdv qual=true) (k:PySem.W.keepIn K (.ref f)=true):Fun K x qual st f (PySem.W.fnOf x qual (Tt st) (Po st) (rb st) .none kV doc pm an cdv ct):=⟨⟨oc,od,kV,doc,pm,an,cdv,ct,osl,rfl,l,c⟩,k⟩
end
theorem Pw {A:Around} {k:Nat} (hr:Ej k A):A.units + 1 < cLine:=Nat.lt_of_le_of_lt (Nat.add_le_add_left (by decide:1 ≤ 64) _) hr.units
section
variable {X:Cx}
theorem pv (i:Nat) {x:Str} {pos:Pos} (hN:X.N[i]? = some x:=by rfl) (hv:Vis X.env.scope x:=by first | exact Or.inl rfl | exact Or.inr (Or.inl rfl) | exact Or.inr (Or.inr rfl)) (hd:(x == ("__debug__" : Str))=false:=by decide)
  (hcd:(x == ("__classdict__" : Str))=false:=by decide):PE X (.Name x pos) (jL i):=qK hN hv hd hcd
end
noncomputable def Nb (H H':Hp):Prop:=∀ b o,H b=some o→H' b=some o
theorem Nb.refl (H:Hp):Nb H H:=fun _ _ h=>h
theorem Nb.trans {H H1 H2:Hp} (a:Nb H H1) (b:Nb H1 H2):Nb H H2:=fun c o h=>b c o (a c o h)
theorem Nb.free {H H':Hp} (e:Nb H H') {l:Addr} (h:H' l=Option.none):H l=Option.none:=by
 cases q:H l with
 | none=>rfl
 | some o=>
  rw [e l o q] at h;cases h
theorem Nb.seq {K:PySem.W.Frag} {H H':Hp} {a:Addr} {xs:List V} (e:Nb H H') (h:SqL K H a xs):SqL K H' a xs:=by
 rcases h with (h | ⟨o,h⟩) | h
 ·exact .inl (.inl (e _ _ h))
 ·exact .inl (.inr ⟨o,e _ _ h⟩)
 ·exact .inr h
section
variable {κ:Type} [DecidableEq κ]
end
end L2
set_option maxHeartbeats 4000000
namespace L2
open PySem PySem.Spec PyProof.Rows
noncomputable def Au (cells:List (Str × Addr)):List (Str × NameKind)→List (Str × Addr)→List (Str × Addr)
 | [],acc=>acc
 | (n,k) :: r,acc=>if k == .free then (match cells.lookup n with | some c=>Au cells r ((n,c) :: acc) | none=>Au cells r acc) else Au cells r acc
theorem yw {env:Env}:∀ (names:List (Str × NameKind)) (acc:List (Str × Addr)),(∀ y ∈ names,y.2=.free→∃ c,env.cells.lookup y.1=some c) →
  (forIn names acc (fun (x:Str × NameKind) (cs:List (Str × Addr))=>(if (x.2 == .free)=true then do let a ← cellOf env x.1;pure (ForInStep.yield ((x.1,a) :: cs)) else pure (ForInStep.yield cs):Sem (ForInStep (List (Str × Addr))))))=pure (Au env.cells names acc)
 | [],acc,_=>rfl
 | (n,k) :: r,acc,h=>by
  have hr:∀ y ∈ r,y.2=.free→∃ c,env.cells.lookup y.1=some c:=fun y hy=>h y (List.mem_cons_of_mem _ hy)
  rw [List.forIn_cons];by_cases hk:(k == NameKind.free)=true
  ·have e:k=.free:=by simpa using hk
   obtain ⟨c,hc⟩:=h (n,k) List.mem_cons_self e;have hc':env.cells.lookup n=some c:=hc;simp only [Au,hk,if_true,hc',cellOf];exact yw r _ hr
  ·simp only [Au,hk];exact yw r _ hr
theorem FC {scope:Scope} {env:Env} (h:∀ y ∈ scope.names,y.2=.free→∃ c,env.cells.lookup y.1=some c):closureFor scope env=pure (Au env.cells scope.names []):=by
 unfold closureFor;exact congrArg (fun t=>t >>= pure) (yw scope.names [] h)
theorem yo {cells:List (Str × Addr)}:∀ (names:List (Str × NameKind)) (acc:List (Str × Addr)) {x:Str} {c:Addr},(Au cells names acc).lookup x=some c→acc.lookup x=some c∨cells.lookup x=some c
 | [],acc,x,c,h=>.inl h
 | (n,k) :: r,acc,x,c,h=>by
  unfold Au at h;split at h
  ·cases q:cells.lookup n with
   | none=>rw [q] at h;exact yo r acc h
   | some d=>
    rw [q] at h;rcases yo r _ h with z | z
    ·rw [List.lookup_cons] at z;by_cases hx:(x == n)=true
     ·rw [hx] at z;have e:x=n:=by simpa using hx
      subst e
      right;rw [q];exact z
     ·have hx':(x == n)=false:=by simpa using hx
      rw [hx'] at z;exact .inl z
    ·exact .inr z
  ·exact yo r acc h
theorem Km {cells:List (Str × Addr)}:∀ (names:List (Str × NameKind)) (acc:List (Str × Addr)) {x:Str} {c:Addr},acc.lookup x=some c→cells.lookup x=some c→(Au cells names acc).lookup x=some c
 | [],acc,x,c,h,_=>h
 | (n,k) :: r,acc,x,c,h,hc=>by
  unfold Au;split
  ·cases q:cells.lookup n with
   | none=>exact Km r acc h hc
   | some d=>
    refine Km r _ ?_ hc;rw [List.lookup_cons];by_cases hx:(x == n)=true
    ·have e:x=n:=by simpa using hx
     subst e;rw [hx];rw [q] at hc;exact hc
    ·have hx':(x == n)=false:=by simpa using hx
     rw [hx'];exact h
  ·exact Km r acc h hc
theorem im {cells:List (Str × Addr)}:∀ (names:List (Str × NameKind)) (acc:List (Str × Addr)) {x:Str} {c:Addr},(x,NameKind.free) ∈ names→cells.lookup x=some c→(Au cells names acc).lookup x=some c
 | [],_,_,_,h,_=>nomatch h
 | (n,k) :: r,acc,x,c,h,hc=>by
  rcases List.mem_cons.mp h with e | h
  ·cases e;unfold Au;rw [if_pos (by decide),hc];refine Km r _ ?_ hc;rw [List.lookup_cons];simp
  ·unfold Au;split
   ·cases q:cells.lookup n with
    | none=>exact im r acc h hc
    | some d=>exact im r _ h hc
   ·exact im r acc h hc
theorem Rm {α:Type}:∀ {l:List (Str × α)} {x:Str} {a:α},l.lookup x=some a→(x,a) ∈ l
 | [],_,_,h=>by simp at h
 | (n,b) :: r,x,a,h=>by
  rw [List.lookup_cons] at h;by_cases hx:(x == n)=true
  ·have e:x=n:=by simpa using hx
   subst e;rw [hx] at h;have e2:b=a:=Option.some.inj h;subst e2;exact List.mem_cons_self
  ·have hx':(x == n)=false:=by simpa using hx
   rw [hx'] at h;exact List.mem_cons_of_mem _ (Rm h)
theorem kx {env:Env} {scope:Scope} {x:Str} {k:NameKind} (h:(relabel scope env).names.lookup x=some k) (hk:k=.cell∨k=.free) (hc:∀ y ∈ scope.names,y.2 ≠ .cell):(x,NameKind.free) ∈ scope.names:=by
 have h1:=Rm h;obtain ⟨⟨n,j⟩,hm,e⟩:=List.mem_map.mp h1;have e':(if (j == NameKind.free && env.scope.kind == .function && env.kindOf n == some .cell)=true then (n,NameKind.cell) else (n,j))=(x,k):=e;split at e'
 ·rename_i hcond;have e1:n=x:=(Prod.mk.inj e').1;subst e1;have hj:j=.free:=by
   simp only [Bool.and_eq_true] at hcond;simpa using hcond.1.1
  subst hj;exact hm
 ·have e1:n=x:=(Prod.mk.inj e').1;have e2:j=k:=(Prod.mk.inj e').2;subst e1;subst e2;rcases hk with z | z
  ·exact absurd z (hc _ hm)
  ·subst z;exact hm
theorem yl {env:Env} {scope:Scope} {x:Str} (h:scope.names.lookup x=some .free):(relabel scope env).names.lookup x=some .cell∨(relabel scope env).names.lookup x=some .free:=by
 have all:∀ (names:List (Str × NameKind)),names.lookup x=some .free →
   (names.map fun (n,k)=>if (k == NameKind.free && env.scope.kind == .function && env.kindOf n == some .cell) then (n,NameKind.cell) else (n,k)).lookup x=some .cell ∨
   (names.map fun (n,k)=>if (k == NameKind.free && env.scope.kind == .function && env.kindOf n == some .cell) then (n,NameKind.cell) else (n,k)).lookup x=some .free:=by
  intro names
  induction names with
  | nil=>intro h;simp at h
  | cons p r ih=>
   obtain ⟨n,k⟩:=p;intro h;rw [List.map_cons];by_cases hx:(x == n)=true
   ·simp only [List.lookup_cons,hx] at h;have hk:k=.free:=Option.some.inj h;subst hk;by_cases hc:(NameKind.free == NameKind.free && env.scope.kind == .function && env.kindOf n == some .cell)=true
    ·left;simp only [if_pos hc,List.lookup_cons,hx]
    ·right;simp only [if_neg hc,List.lookup_cons,hx]
   ·have hx':(x == n)=false:=by simpa using hx
    simp only [List.lookup_cons,hx'] at h;by_cases hc:(k == NameKind.free && env.scope.kind == .function && env.kindOf n == some .cell)=true
    ·simp only [if_pos hc,List.lookup_cons,hx'];exact ih h
    ·simp only [if_neg hc,List.lookup_cons,hx'];exact ih h
 exact all scope.names h
noncomputable abbrev Cx.block (X:Cx) (scope:Scope) (C:Addr) (N:List Str) (s:Shared) (H:Hp) (fp:List Addr):Cx where
 prog:=X.prog
 w:=X.w
 K:=X.K
 mg:=X.mg
 base:=X.base
 A:=X.A
 N:=N
 s₀:=s
 H₀:=H
 env:=compEnvC scope (Au X.env.cells scope.names []) C X.env
 outer:=X.stack
 stack:=X.stack
 ex:=fp
 fn:=fun _=>false
 calm:=X.calm
 pn:=[]
 xe:=fun _ _=>False
structure Mn (env:Env) (scope:Scope):Prop where
 kind:scope.kind=.function
 nocell:∀ y ∈ scope.names,y.2 ≠ .cell
 fr:∀ y ∈ scope.names,y.2=.free→env.kindOf y.1=some .cell∨env.kindOf y.1=some .free
 loc:∀ x ∈ scope.names,x.2=.local→scope.names.lookup x.1=some .local
noncomputable def blk (sel:List (Option Nat)) (σ:St):St:=sel.map fun o=>o.bind fun j=>(σ[j]?).join
noncomputable def yA (M:List Str) (scope:Scope) (N:List Str) (sel:List (Option Nat)):Prop:=
 sel.length=N.length∧∀ (i j:Nat) (x:Str),sel[i]? = some (some j)→N[i]? = some x→M[j]? = some x∧scope.names.lookup x=some .free
section
variable {X:Cx} {pins:List (Addr × Obj)} {σ:St} {H:Hp} {s:Shared} {scope:Scope} {fp:List Addr} {C:Addr} {N:List Str}
theorem Mn.cells (S:Mn X.env scope) (ok:X.Ok):∀ y ∈ scope.names,y.2=.free→∃ c,X.env.cells.lookup y.1=some c:=fun y hy e=>ok.has y.1 (S.fr y hy e)
theorem Is {x:Str} {c:Addr} (h:(Au X.env.cells scope.names []).lookup x=some c):X.env.cells.lookup x=some c:=by
 rcases yo _ _ h with z | z
 ·simp at z
 ·exact z
theorem bz (I:Inv X pins σ H s) (S:Mn X.env scope) (hf:∀ b ∈ fp,zu X pins H b) (hs:∀ b ∈ fp,b < s.heap.objs.size) (hC:s.heap.objs.size ≤ C):(X.block scope C N s H fp).Ok where
 mod:=I.ok.mod
 kind:=S.kind
 glob:=I.ok.glob
 blt:=I.ok.blt
 above:=hC
 inj:=fun x y c h1 h2=>I.ok.inj x y c (Is h1) (Is h2)
 has:=fun x h=>by
  have hk:∃ k,(relabel scope X.env).names.lookup x=some k∧(k=.cell∨k=.free):=by
   rcases h with h | h
   ·exact ⟨_,h,.inl rfl⟩
   ·exact ⟨_,h,.inr rfl⟩
  obtain ⟨k,h1,h2⟩:=hk;have hm:=kx h1 h2 S.nocell;obtain ⟨c,hc⟩:=S.cells I.ok _ hm rfl;exact ⟨c,im _ _ hm hc⟩
 cab:=fun _ _ h _=>nomatch h
 hd:=I.ok.hd
 frames:=I.ok.frames
 stk:=.inl rfl
 exf:=fun b hb=>⟨Nat.ne_of_lt (Nat.lt_of_lt_of_le (hs b hb) hC),fun x c e=>(hf b hb).2.2.2.2.1 x c (Is e)⟩
 bs:=I.bs
 bsz:=Nat.le_trans I.ok.bsz I.sz
 noex:=fun b o e hb=>by
  rcases (hf b hb).2.2.2.1 with z | z
  ·exact I.ok.noex b o e z
  ·exact absurd (Nat.lt_of_lt_of_le (Nat.lt_of_lt_of_le (Heap.lt_size e) I.ok.bsz) z) (Nat.lt_irrefl _)
 exfs:=fun b hb hz=>by
  rcases List.mem_cons.mp (I.stkSub b hz) with z | z
  ·exact (hf b hb).2.1 z
  ·exact (hf b hb).2.2.1 z
 funs:=I.stack
 frf:=I.stkFree
theorem pC {h':Heap} {t':Nat} {m:Str→Option Value} {sel:List (Option Nat)} (I:Inv X pins σ H s) (S:Mn X.env scope) (hf:∀ b ∈ fp,zu X pins H b) (hs:∀ b ∈ fp,b < s.heap.objs.size) (hC:s.heap.objs.size ≤ C)
  (k:∀ b o,s.heap.get? b=some o→h'.get? b=some o) (hn:h'.Ns C m) (hsel:yA X.N scope N sel):Inv (X.block scope C N s H fp) [] (blk sel σ) H { s with heap:=h',toks:=t' } where
 ok:=bz I S hf hs hC
 os:=rfl
 bare:=I.bare
 base:=Un.kept k
 loc:=by
  refine ⟨m,hn,fun i x v e1 e2 e3=>?_⟩;obtain ⟨m0,hn0,hl⟩:=I.loc;obtain ⟨j,ej,eσ⟩:∃ j,sel[i]? = some (some j)∧σ[j]? = some (some v):=by
   unfold blk at e2;rw [List.getElem?_map] at e2;cases q:sel[i]? with
   | none=>rw [q] at e2;cases e2
   | some o=>
    rw [q] at e2;cases o with
    | none=>cases e2
    | some j=>
     refine ⟨j,rfl,?_⟩;have e2':(σ[j]?).join=some v:=Option.some.inj e2;cases r:σ[j]? with
     | none=>rw [r] at e2';cases e2'
     | some z=>rw [r] at e2';exact congrArg some e2'
  obtain ⟨eN,hfr⟩:=hsel.2 i j x ej e1;have hm:=Rm hfr;have hk:=S.fr _ hm rfl;have hv:Vis X.env.scope x:=hk.elim (fun z=>.inr (.inl z)) fun z=>.inr (.inr z)
  obtain ⟨u,r,l⟩:=hl j x v eN eσ hv;refine ⟨u,r,?_⟩;rcases l with ⟨hloc,_⟩ | ⟨_,c,hc,hcell⟩
  ·rcases hk with z | z <;> (have z':X.env.kindOf x=_:=z;rw [hloc] at z';cases z')
  ·refine .inr ⟨?_,c,im _ _ hm hc,?_⟩
   ·exact yl hfr
   ·obtain ⟨o,ho,hd⟩:=hcell;exact ⟨o,k _ _ ho,hd⟩
 cell:=fun x c e=>by
  obtain ⟨v,o,ho,hd⟩:=I.cell x c (Is e);exact ⟨v,o,k _ _ ho,hd⟩
 free:=I.hok.fresh hC
 freeC:=fun x c e=>I.freeC x c (Is e)
 pin:=fun p hp=>nomatch hp
 hok:=I.hok.kept k
 len:=by unfold blk;rw [List.length_map];exact hsel.1
theorem Inv.adopt {a:Addr} {o:HO} (I:Inv X pins σ H s) (fo:zu X pins H a) (new:Td X.prog X.w (upd H a o) s.heap a o):Inv X pins σ (upd H a o) s:=by
 obtain ⟨hn,hL,hfs,hex,hcl,hpn⟩:=fo;refine I.step (g':=s.gens) (d':=s.drawn) (t':=s.toks) (h':=s.heap) (ch:=[a]) (fun b hb=>?_) (fun b o _ _ _ e _=>e) (fun b o _ _ _ e _=>⟨o.slots,e⟩) (fun b o hb e n=>?_) (fun b o _ e=>⟨o,e⟩)
  (fun b xs e=>?_) (fun b o u e=>?_) (fun b ps e=>⟨#[],?_⟩) (fun m hm=>hm) (fun b u e=>?_) I.bare
 ·have e:b=a:=by simpa using hb
  subst e;exact ⟨hex,hL,hcl,hpn⟩
 ·rw [qb (fun z=>hb (by simp [z]))];exact n
 ·rw [qb (wb e hn)];exact e
 ·rw [qb (wb e hn)];exact e
 ·rw [qb (wb e hn),e];simp
 ·by_cases hb:b=a
  ·subst hb;rw [db] at e;cases e;exact new
  ·rw [qb hb] at e;exact (I.hok b u e).stay (fun c v _ q=>q) (fun c q=>by rw [qb (wb q hn)];exact q) fun c xs q=>by rw [qb (wb q hn)];exact q
end
theorem xk {prog:Program} {w:World} {A:Around} {R:Result→Shared→Prop} {s:Shared} {elt target iter:Expr} {ifs:List Expr} {scope:Scope} {pos:Pos} {it acc:Value} {env:Env} (I:Nat→Shared→Prop)
  (turn:∀ n s,I n s→wpAny (model prog w) A (pyNext it) (fun r s₁=>match r with
   | none=>R (.ok .next) s₁
   | some v=>wpAny (model prog w) A (letOwnedTupleGo target it v) (fun _ s₀=>wpAny (model prog w) A (assign target env v) (fun _ s₂=>
     wpAny (model prog w) A (forIn ifs true fun c r=>if r=true then do let ok ← isTrue c env (eval c env);pure (ForInStep.yield ok) else pure (ForInStep.yield r)) (fun ok s₃=>
      if ok=true then wpAny (model prog w) A (eval elt env) (fun x s₄=>
       wpAny (model prog w) A (call (.builtin "list.append") [acc,x]) (fun _ s₅=>∃ m,m < n∧I m s₅) (fun _ _=>False) s₄) (fun _ _=>False) s₃
      else ∃ m,m < n∧I m s₃) (fun _ _=>False) s₂) (fun _ _=>False) s₀) (fun _ _=>False) s₁) (fun _ _=>False) s)
  (n:Nat) (h:I n s) :
  codeAny (model prog w) A (.compLoop (.ListComp elt [⟨target,iter,ifs,0⟩] scope pos) 0 it acc env) R s:=by
 refine codeAny_loop rfl I (fun n s hI=>?_) n h;show wpAny _ A ((compTurn (.ListComp elt [⟨target,iter,ifs,0⟩] scope pos) 0 it acc env).onRaise (fun x=>do noteFrame x env;theTreesLotGoes x)) _ _ s;refine wpAny_noted (wpAny_noRaise ?_);rw [compTurn_list];refine wpAny_bind (wpAny_standAt (wpAny_bind (wpAny_mono (turn n s hI) (fun r s₁ h₁=>?_) fun _ _ h'=>h')));cases r with
 | none=>exact wpAny_pure h₁
 | some v=>
  refine wpAny_bind (wpAny_mono h₁ (fun _ s₀ h₀=>?_) fun _ _ h'=>h');refine wpAny_bind (wpAny_mono h₀ (fun _ s₂ h₂=>wpAny_bind (wpAny_mono h₂ (fun ok s₃ h₃=>?_) fun _ _ h'=>h')) fun _ _ h'=>h');cases ok with
  | false=>exact wpAny_pure ⟨rfl,h₃⟩
  | true=>
   exact wpAny_bind (wpAny_bind (wpAny_mono h₃ (fun x s₄ h₄=>wpAny_bind (wpAny_mono h₄ (fun _ s₅ h₅=>wpAny_pure (wpAny_pure ⟨rfl,h₅⟩)) fun _ _ h'=>h')) fun _ _ h'=>h'))
noncomputable def PTs (X:Cx) (ifs:List Expr) (t:TT):Prop:=
 ∀ (pins:List (Addr × Obj)) (s:Shared) (σ:St) (H:Hp) (Q:Bool→Hp→Prop),Inv X pins σ H s→t σ H Q →
  wpAny (model X.prog X.w) X.A (forIn ifs true fun c r=>if r=true then do let ok ← isTrue c X.env (eval c X.env);pure (ForInStep.yield ok) else pure (ForInStep.yield r)) (TP X pins σ Q) X.xe s
noncomputable def Ez:TT:=fun _ H Q=>Q true H
theorem uf {X:Cx}:PTs X [] Ez:=fun _ _ _ H _ I h=>wpAny_tests_nil ⟨H,I,h⟩
theorem zt {X:Cx} {c:Expr} {t:TT} (h:PT X c t):PTs X [c] t:=fun pins s σ H Q I q=>wpAny_tests_one (h pins s σ H Q I q)
noncomputable def Sub (σ σ':St):Prop:=σ'.length=σ.length∧∀ (i:Nat) (v:V),σ[i]? = some (some v)→σ'[i]? = some (some v)
theorem Sub.refl (σ:St):Sub σ σ:=⟨rfl,fun _ _ h=>h⟩
theorem Sub.set {σ σ':St} {i:Nat} {x:Option V} (h:Sub σ σ') (e:σ[i]? = some none):Sub σ (σ'.set i x):=by
 refine ⟨by rw [List.length_set];exact h.1,fun j v q=>?_⟩;have hj:i ≠ j:=fun z=>by subst z;rw [e] at q;cases q
 rw [List.getElem?_set_ne hj];exact h.2 j v q
noncomputable def Cz (J:It) (g:TG) (tc:TT) (te:TE) (σb:St) (Q:VK) (W:Nat→Nat→List V→Hp→Prop):Prop:=∀ i m ys H,W i m ys H →
 (J.stop i H∧∀ p,H p=none→Q (.ref p) (upd H p (.lst ys))) ∨
 (J.go i H∧ys.length < sizeLine∧∀ x H',J.yld i H x H'→g x σb H' fun σ2 H2=>Sub σb σ2∧tc σ2 H2 fun c H3=>if c=true then te σ2 H3 fun y H4=>∃ m',m' < m∧W (i + 1) m' (ys ++ [y]) H4 else ∃ m',m' < m∧W (i + 1) m' ys H3)
noncomputable def gI (wi:TI) (g:TG) (tc:TT) (te:TE) (sel:List (Option Nat)):TE:=fun σ H Q=>wi σ H fun J H1=>∃ W:Nat→Nat→List V→Hp→Prop,(∃ m,W 0 m [] H1)∧Cz J g tc te (blk sel σ) Q W
section
variable {X:Cx} {elt tg iter:Expr} {ifs:List Expr} {scope:Scope} {pos:Pos} {wi:TI} {g:TG} {tc:TT} {te:TE} {N:List Str} {sel:List (Option Nat)}
structure Blk (X:Cx) (scope:Scope) (N:List Str) (tg elt:Expr) (ifs:List Expr) (g:TG) (tc:TT) (te:TE):Prop where
 tgt:∀ C s H fp,PG (X.block scope C N s H fp) tg g
 tests:∀ C s H fp,PTs (X.block scope C N s H fp) ifs tc
 elem:∀ C s H fp,PE (X.block scope C N s H fp) elt te
theorem Blk.of {X:Cx} {scope:Scope} {N:List Str} {tg elt:Expr} {ifs:List Expr} {g:TG} {tc:TT} {te:TE} (h1:∀ C s H fp,PG (X.block scope C N s H fp) tg g)
  (h2:∀ C s H fp,∃ t,PTs (X.block scope C N s H fp) ifs t∧t=tc) (h3:∀ C s H fp,∃ t,PE (X.block scope C N s H fp) elt t∧t=te):Blk X scope N tg elt ifs g tc te:=
 ⟨h1,fun C s H fp=>by obtain ⟨t,h,rfl⟩:=h2 C s H fp;exact h,fun C s H fp=>by obtain ⟨t,h,rfl⟩:=h3 C s H fp;exact h⟩
theorem Tu {pins:List (Addr × Obj)} {s₂:Shared} {σ:St} {H₂:Hp} {Q:VK} {it:Addr} {fp:List Addr} {tn:Nat→Heap→Prop} {J:It} {W:Nat→Nat→List V→Hp→Prop} {E:Value→Shared→Prop} {RR:Value→Addr→Result→Shared→Prop}
  (hc:X.calm=true) (S:Mn X.env scope) (hsel:yA X.N scope N sel) (B:Blk X scope N tg elt ifs g tc te) (I2:Inv X pins σ H₂ s₂) (T:qG X.prog X.w X.K tg J fp it tn) (st2:tn 0 s₂.heap) (f2:∀ b ∈ fp,zu X pins H₂ b)
  (w0:∃ m,W 0 m [] H₂) (hW:Cz J g tc te (blk sel σ) Q W)
  (fin:∀ D C ys H' s',Inv X pins σ (upd H' D (.lst ys)) s'→(∃ m,s'.heap.Ns C m)→zu X pins (upd H' D (.lst ys)) C→Q (.ref D) (upd H' D (.lst ys))→RR (.ref D) C (.ok .next) s') :
  wpAny (model X.prog X.w) X.A (newList []) (fun acc s₃=>wpAny (model X.prog X.w) X.A (newFunctionEnv scope X.env.globals (Au X.env.cells scope.names []) [] X.env.qual none .none (some X.env)) (fun cenv s₄=>
   codeAny (model X.prog X.w) X.A (.compStart (.ListComp elt [⟨tg,iter,ifs,0⟩] scope pos) 0 (.ref it) acc { cenv with scope:=relabel scope X.env }) (RR acc cenv.locals) s₄) E s₃) E s₂:=by
 refine wpAny_newObj_type (wpAny_newFunctionEnv S.nocell (by intro y hy;simp at hy) (fun h₁ hns₁ hsb₁=>?_) S.kind);dsimp only at hns₁ hsb₁ ⊢;generalize hH2:s₂.heap.push { cls:=.type "list",dict:=none,data:=.seq ([]:List Value).toArray }=H2 at hns₁ hsb₁ ⊢;have hC:H2.objs.size=s₂.heap.objs.size + 1:=by rw [← hH2,Heap.size_push]
 have hDC:s₂.heap.objs.size ≠ H2.objs.size:=by rw [hC];exact Nat.ne_of_lt (Nat.lt_succ_self _)
 have hCle:s₂.heap.objs.size ≤ H2.objs.size:=by rw [hC];exact Nat.le_succ _
 have below:∀ b,b < s₂.heap.objs.size→b ≠ H2.objs.size∧b ≠ s₂.heap.objs.size:=fun b hb=>⟨by rw [hC];exact Nat.ne_of_lt (Nat.lt_succ_of_lt hb),Nat.ne_of_lt hb⟩
 have old:∀ b o,s₂.heap.get? b=some o→h₁.get? b=some o:=fun b o e=>hsb₁.extBut b o (below b (Heap.lt_size e)).1 (Heap.get?_push_of_some _ (hH2 ▸ Heap.get?_push_of_some _ e))
 have hacc:h₁.get? s₂.heap.objs.size=some { cls:=.type "list",data:=.seq ([]:List Value).toArray }:=hsb₁.extBut _ _ hDC (Heap.get?_push_of_some _ (hH2 ▸ Heap.get?_push_size _ rfl));have fps:∀ b ∈ fp,b < s₂.heap.objs.size:=fun b hb=>by
  obtain ⟨o,e,_⟩:=T.obj _ _ st2 b hb;exact Heap.lt_size e
 generalize hCe:H2.objs.size=C at *;generalize hDe:s₂.heap.objs.size=D at *;have st1:tn 0 h₁:=T.keep _ _ _ st2 fun b _ o e=>old b o e
 have IB0:Inv (X.block scope C N s₂ H₂ fp) [] (blk sel σ) H₂ { s₂ with heap:=h₁,toks:=s₂.toks + ([]:List (Str × Value)).length }:=
  pC I2 S f2 (fun b hb=>by rw [hDe];exact fps b hb) (by rw [hDe];exact hCle) old hns₁ hsel
 have hDfs:D ∉ (X.block scope C N s₂ H₂ fp).fs:=fun z=>by
  have z':=I2.stkSub D z;rcases List.mem_cons.mp z' with e | e
  ·exact absurd I2.lt (by rw [← e,hDe];exact Nat.lt_irrefl _)
  ·exact I2.nofs (by rw [hDe];exact Nat.le_refl _) e
 have loop:∀ s₃:Shared,s₃ = { s₂ with heap:=h₁,toks:=s₂.toks + ([]:List (Str × Value)).length } →
   codeAny (model X.prog X.w) X.A (.compLoop (.ListComp elt [⟨tg,iter,ifs,0⟩] scope pos) 0 (.ref it) (.ref D) (compEnvC scope (Au X.env.cells scope.names []) C X.env)) (RR (.ref D) C) s₃:=by
  rintro s₃ rfl;obtain ⟨m0,w0⟩:=w0;refine xk (fun k s'=>∃ i ys us n H',Inv (X.block scope C N s₂ H₂ fp) [(D,{ cls:=.type "list",data:=.seq us n })] (blk sel σ) H' s'∧(∃ vs:List Value,us=vs.toArray∧ld ys vs)∧ys.length ≤ sizeLine∧tn i s'.heap∧(∀ b ∈ fp,H' b=none)∧W i k ys H') ?_ m0
   ⟨0,[],_,0,H₂,IB0.pins_of fun p hp=>?_,⟨[],rfl,.nil⟩,Nat.zero_le _,st1,fun b hb=>(f2 b hb).1,w0⟩
  ·rintro k s' ⟨i,ys,us,n,H',IB,⟨vs,rfl,rv⟩,hyz,st,fr,w⟩;have fpB:∀ {pl:List (Addr × Obj)} {H'':Hp},(∀ p ∈ pl,p.1=D)→(∀ b ∈ fp,H'' b=none)→∀ b ∈ fp,zu (X.block scope C N s₂ H₂ fp) pl H'' b:=fun {pl H''} hp hn b hb=>
    ⟨hn b hb,(below b (fps b hb)).1,(bz (N:=N) (C:=C) I2 S f2 (fun b hb=>by rw [hDe];exact fps b hb) (by rw [hDe];exact hCle)).exfs b hb,.inl hb,fun x c e=>(f2 b hb).2.2.2.2.1 x c (Is e),fun p hpp z=>by
     have hpp':p ∈ pl:=by simpa using hpp
     exact (below b (fps b hb)).2 (by rw [← z];exact hp p hpp')⟩
   have hD1:∀ p ∈ [((D,{ cls:=.type "list",data:=.seq vs.toArray n }):Addr × Obj)],p.1=D:=fun p hp=>by
    have e:p=(D,{ cls:=.type "list",data:=.seq vs.toArray n }):=by simpa using hp
    rw [e]
   rcases hW i k ys H' w with ⟨stop,qn⟩ | ⟨go,hlen,step⟩
   ·refine thn (T.done (X.block scope C N s₂ H₂ fp) rfl rfl rfl hc i _ s' _ H' _ IB (fpB hD1 fr) st stop) fun r s4 hZ1=>?_
    obtain ⟨hr,I4⟩:=hZ1;subst hr;have pD:=I4.pin (D,{ cls:=.type "list",data:=.seq vs.toArray n }) (by simp);have hDn:H' D=none:=pD.2.1;have IX:Inv X pins σ H' s4:=I2.call' (ch:=fp) I4.os I4.base I4.hok I4.bare fun b hb=>⟨(f2 b hb).2.2.2.1,(f2 b hb).2.1,(f2 b hb).2.2.2.2.1,(f2 b hb).2.2.2.2.2⟩
    have foD:zu X pins H' D:=I2.fpOk (by rw [hDe];exact Nat.le_refl _) hDn;have IA:Inv X pins σ (upd H' D (.lst ys)) s4:=IX.adopt foD ⟨hyz,vs,n,rv,pD.1⟩;obtain ⟨mC,hnC,_⟩:=I4.loc;refine fin D C ys H' s4 IA ⟨mC,hnC⟩ (I2.fpOk (by rw [hDe];exact hCle) ?_) (qn D hDn);rw [qb (Ne.symm hDC)];exact I4.free
   ·refine thn (T.item (X.block scope C N s₂ H₂ fp) rfl rfl rfl hc i _ s' _ H' _ IB (fpB hD1 fr) st go) fun r s4 hZ1=>?_
    obtain ⟨u,hr,h4⟩:=hZ1;subst hr;refine thn h4 fun _ s5 hZ1=>?_
    obtain ⟨x,H5,I5,r5,y5,st5,fr5⟩:=hZ1;have I5':=I5.pinned (fpB hD1 fr5) (T.obj _ _ st5);refine thn (B.tgt C s₂ H₂ fp _ s5 _ H5 x u _ I5' r5 (step x H5 y5)) fun _ s6 hZ1=>?_
    obtain ⟨σ6,H6,I6,sb,q6⟩:=hZ1;refine thn (B.tests C s₂ H₂ fp _ s6 σ6 H6 _ I6 q6) fun c s7 hZ1=>?_
    obtain ⟨H7,I7,q7⟩:=hZ1;have again:∀ {σ8:St} {H8:Hp} {s8:Shared},Inv (X.block scope C N s₂ H₂ fp) ([(D,{ cls:=.type "list",data:=.seq vs.toArray n })] ++ Kv fp s5.heap) σ8 H8 s8→tn (i + 1) s8.heap∧(∀ b ∈ fp,H8 b=none):=fun {σ8 H8 s8} I8=>by
     refine ⟨T.keep _ _ _ st5 fun b hb o e=>(I8.pin (b,o) (List.mem_append_right _ (List.mem_append_right _ (jk hb e)))).1,fun b hb=>?_⟩;obtain ⟨o,e,d⟩:=T.obj _ _ st5 b hb;exact (I8.pin (b,o) (List.mem_append_right _ (List.mem_append_right _ (jk hb e)))).2.1
    have back:∀ {H8:Hp} {s8:Shared} {pl:List (Addr × Obj)},Inv (X.block scope C N s₂ H₂ fp) pl σ6 H8 s8→Inv (X.block scope C N s₂ H₂ fp) pl (blk sel σ) H8 s8:=fun {H8 s8 pl} I8=>I8.weak sb.1.symm sb.2
    cases c with
    | false=>
     obtain ⟨m',hm,w'⟩:=q7;obtain ⟨t1,t2⟩:=again I7;exact ⟨m',hm,i + 1,ys,_,n,H7,back I7.unpinned,⟨vs,rfl,rv⟩,hyz,t1,t2,w'⟩
    | true=>
     refine thn (B.elem C s₂ H₂ fp _ s7 σ6 H7 _ I7 q7) fun v s8 hZ1=>?_
     obtain ⟨y,H8,I8,r8,m',hm,w'⟩:=hZ1;obtain ⟨t1,t2⟩:=again I8;have pD:=I8.pin (D,{ cls:=.type "list",data:=.seq vs.toArray n }) (by simp);refine append_at (hsz:=by have:=rv.length;rw [List.size_toArray];omega) pD.1 fun h9 hs9 hD9=>?_
     have IB':Inv (X.block scope C N s₂ H₂ fp) [] (blk sel σ) H8 s8:=(back I8).pins_of fun p hp=>nomatch hp
     have foD:zu (X.block scope C N s₂ H₂ fp) [] H8 D:=⟨pD.2.1,hDC,hDfs,.inr (by show s₂.heap.objs.size ≤ D;rw [hDe];exact Nat.le_refl _),(fun x c e z=>by
      obtain ⟨cv,o,ho,hd⟩:=I8.cell x c e;rw [z,pD.1] at ho;cases ho;cases hd),(fun p hp=>nomatch hp)⟩
     have I9:Inv (X.block scope C N s₂ H₂ fp) [] (blk sel σ) H8 { s8 with heap:=h9 }:=IB'.turned (t':=s8.toks) (it:=D) (fun b o hb e=>(hs9.2 b hb).trans e) foD.1 foD.2.1 foD.2.2.2.1 foD.2.2.2.2.1 foD.2.2.2.2.2;refine ⟨m',hm,i + 1,ys ++ [y],vs.toArray.push v,n + 1,H8,I9.pins_of fun p hp=>?_,⟨vs ++ [v],by simp,Paired.snoc rv r8⟩,by rw [List.length_append,List.length_singleton];omega,T.keep _ _ _ t1 fun b hb o e=>(hs9.2 b (below b (fps b hb)).2).trans e,t2,w'⟩;have e:p=(D,{ cls:=.type "list",data:=.seq (vs.toArray.push v) (n + 1) }):=by simpa using hp
     subst e;exact ⟨hD9,pD.2.1,hDC,hDfs,fun v z=>by cases z⟩
  ·have e:p=(D,{ cls:=.type "list",data:=.seq ([]:List Value).toArray }):=by simpa using hp
   subst e;exact ⟨hacc,I2.hok.fresh (by rw [hDe];exact Nat.le_refl _),hDC,hDfs,fun v z=>by cases z⟩
 exact codeAny_compStart_list (loop _ rfl) (T.self _ 0 _ _ _ st1 (loop _ rfl))
theorem Jf (hc:X.calm=true) (hi:PI X tg iter wi) (S:Mn X.env scope) (hsel:yA X.N scope N sel) (B:Blk X scope N tg elt ifs g tc te)
  (hs:∀ x,foldedSetIterable iter X.env x=pure x:=by intro _;rfl):PE X (.ListComp elt [⟨tg,iter,ifs,0⟩] scope pos) (gI wi g tc te sel):=by
 intro pins s σ H Q I h;rw [eval_ListComp];refine wpAny_comprehension_free (use:=none) rfl hs (FC (S.cells I.ok)) S.kind S.loc ?_;refine thn (hi pins s σ H _ I h) fun v s1 h1=>thn h1 fun itv s2 h2=>?_
 obtain ⟨it,fp,tn,J,H2,e,I2,T,st2,f2,W,w0,hW⟩:=h2;subst e;refine Tu (RR:=fun acc C=>compPost (model X.prog X.w) X.A X.xe none (EP X pins σ Q) acc C) hc S hsel B I2 T st2 f2 w0 hW fun D C ys H' s' I' ⟨m,hm⟩ fo q=>?_
 exact ⟨m,hm,fun h' hsb=>⟨.ref D,_,I'.turned (t':=s'.toks) (it:=C) (fun b o hb e=>(hsb.2 b hb).trans e) fo.1 fo.2.1 fo.2.2.2.1 fo.2.2.2.2.1 fo.2.2.2.2.2,rfl,q⟩⟩
theorem oi {i:Nat} {y:Str} {py spos:Pos} (hN:X.N.Nodup) (hi:X.N[i]? = some y) (hx:Loc X.env.scope y) (hc:X.calm=true) (hit:PI X tg iter wi) (S:Mn X.env scope) (hsel:yA X.N scope N sel) (B:Blk X scope N tg elt ifs g tc te)
  (hsw:swapsWith (.ListComp elt [⟨tg,iter,ifs,0⟩] scope pos) (some (.Name y py)) spos.line X.env=pure true) (hf:X.fn y=true∨X.env.scope.names.lookup y=some .local:=by first | exact .inl rfl | exact .inr rfl | assumption)
  (hs:∀ x,foldedSetIterable iter X.env x=pure x:=by intro _;rfl):PS X (.Assign [.Name y py] (.ListComp elt [⟨tg,iter,ifs,0⟩] scope pos) spos) (QK (gI wi g tc te sel) (Tv i)):=by
 intro pins s σ H D I h;rw [exec_Assign_Name_used _ _ _ _ hsw];refine wpAny_bind (wpAny_standAt (wpAny_bind ?_));show wpAny _ X.A (do let _ ← comprehension (.ListComp elt [⟨tg,iter,ifs,0⟩] scope pos) scope X.env _ (newList []) false (eval iter X.env) (some (assign (.Name y py) X.env))) _ _ s;refine wpAny_bind (wpAny_mono (wpAny_comprehension_free (use:=some (assign (.Name y py) X.env)) (Q:=fun _ s'=>SP X pins D .next s') rfl hs (FC (S.cells I.ok)) S.kind S.loc ?_) (fun _ s' hq=>wpAny_pure (wpAny_pure hq)) fun _ _ e=>e);refine thn (hit pins s σ H _ I h) fun v s1 h1=>thn h1 fun itv s2 h2=>?_
 obtain ⟨it,fp,tn,J,H2,e,I2,T,st2,f2,W,w0,hW⟩:=h2;subst e;refine Tu (RR:=fun acc C=>compPost (model X.prog X.w) X.A X.xe (some (assign (.Name y py) X.env)) (fun _ s'=>SP X pins D .next s') acc C) hc S hsel B I2 T st2 f2 w0 hW fun Da C ys H' s' I' ⟨m,hm⟩ fo q=>?_
 show wpAny _ X.A (assign (.Name y py) X.env (.ref Da)) _ _ _;refine wpAny_assign_Name (uv I' hN hi hx (show zd (.ref Da) (.ref Da) from rfl) (fun s3 I3 hZ1=>?_) hf);obtain ⟨a,hsb,ha⟩:=hZ1;have hCa:C ≠ a:=by
  rcases ha with z | z
  ·rw [z];exact fo.2.1
  ·exact fun w=>fo.2.2.2.2.1 y a z w.symm
 refine ⟨m,hm.sameBut hsb hCa,fun h' hsb'=>⟨_,_,I3.turned (t':=s3.toks) (it:=C) (fun b o hb e=>(hsb'.2 b hb).trans e) fo.1 fo.2.1 fo.2.2.2.1 fo.2.2.2.2.1 fo.2.2.2.2.2,q⟩⟩
end
noncomputable def qh (Pv:Nat→List V→Hp→Prop) (g:TG) (tc:TT) (te:TE) (σb:St) (i:Nat) (x:V) (ys:List V) (H:Hp):Prop:=
 ∀ N:List V→Hp→Prop,(∀ ys' H',Pv (i + 1) ys' H'→N ys' H')→g x σb H fun σ2 H2=>Sub σb σ2∧tc σ2 H2 fun c H3=>if c=true then te σ2 H3 fun y H4=>N (ys ++ [y]) H4 else N ys H3
theorem QA {K:PySem.W.Frag} {a:Addr} {xs:List V} {g:TG} {tc:TT} {te:TE} {σb:St} {Q:VK} {H:Hp} (Pv:Nat→List V→Hp→Prop) (hz:xs.length ≤ sizeLine) (h0:Pv 0 [] H) (hl:∀ i ys H,i ≤ xs.length→Pv i ys H→SqL K H a xs∧ys.length ≤ i)
  (hs:∀ i x ys H,xs[i]? = some x→Pv i ys H→qh Pv g tc te σb i x ys H) (hd:∀ ys H,Pv xs.length ys H→∀ p,H p=none→Q (.ref p) (upd H p (.lst ys))) :
  ∃ W:Nat→Nat→List V→Hp→Prop,(∃ m,W 0 m [] H)∧Cz (Itl K a) g tc te σb Q W:=by
 refine ⟨fun i m ys H=>m=xs.length - i∧i ≤ xs.length∧Pv i ys H,⟨xs.length,by simp,Nat.zero_le _,h0⟩,?_⟩;rintro i m ys H ⟨rfl,hi,p⟩;have q:=(hl i ys H hi p).1;have hyl:=(hl i ys H hi p).2;by_cases hlt:i < xs.length
 ·refine .inr ⟨⟨xs,xs[i],q,by simp [hlt]⟩,by omega,fun x H' y=>?_⟩;obtain ⟨e,y⟩:=y;subst e;exact hs i x ys _ (y xs q) p (fun ys' H'=>∃ m',m' < xs.length - i∧m'=xs.length - (i + 1)∧i + 1 ≤ xs.length∧Pv (i + 1) ys' H') fun ys' H' r=>⟨xs.length - (i + 1),by omega,rfl,hlt,r⟩
 ·have e:i=xs.length:=by omega
  subst e;exact .inl ⟨⟨xs,q,Nat.le_refl _⟩,hd ys H p⟩
theorem Qz {lo:Int} {n:Nat} {g:TG} {tc:TT} {te:TE} {σb:St} {Q:VK} {H:Hp} (Pv:Nat→List V→Hp→Prop) (hz:n ≤ sizeLine) (h0:Pv 0 [] H) (hl:∀ i ys H,i ≤ n→Pv i ys H→ys.length ≤ i)
  (hs:∀ i ys H,i < n→Pv i ys H→qh Pv g tc te σb i (.int (lo + i)) ys H) (hd:∀ ys H,Pv n ys H→∀ p,H p=none→Q (.ref p) (upd H p (.lst ys))) :
  ∃ W:Nat→Nat→List V→Hp→Prop,(∃ m,W 0 m [] H)∧Cz (Itr lo n) g tc te σb Q W:=by
 refine ⟨fun i m ys H=>m=n - i∧i ≤ n∧Pv i ys H,⟨n,by simp,Nat.zero_le _,h0⟩,?_⟩;rintro i m ys H ⟨rfl,hi,p⟩;have hyl:=hl i ys H hi p;by_cases hlt:i < n
 ·refine .inr ⟨hlt,by omega,fun x H' y=>?_⟩;obtain ⟨e,y⟩:=y;subst e y;exact hs i ys _ hlt p (fun ys' H'=>∃ m',m' < n - i∧m'=n - (i + 1)∧i + 1 ≤ n∧Pv (i + 1) ys' H') fun ys' H' r=>⟨n - (i + 1),by omega,rfl,hlt,r⟩
 ·have e:i=n:=by omega
  subst e;exact .inl ⟨Nat.le_refl _,hd ys H p⟩
end L2
namespace L2
open PySem PySem.Spec PyProof.Rows
noncomputable def Its (xs:List V):It:=⟨fun i _=>i < xs.length,fun i H x H'=>H'=H∧xs[i]? = some x,fun i _=>xs.length ≤ i⟩
theorem Zr {P:Program} {w:World} {K:PySem.W.Frag} {tg:Expr} {it:Addr} {xs:List V} {PV:Nat→Value→Prop} {St:Nat→Heap→Prop} (hW:∀ A:Around,A.handled=none→Walks P w A it [it] [it] xs.length PV St)
  (hP:∀ i v,PV i v→∃ x,xs[i]? = some x∧zd x v)
  (hgo:∀ i h,St i h→∃ o n vs,h.get? it=some o∧o.cls=.type n∧o.data=.fields vs∧["enumerate","zip","dict_itemiterator","dict_reverseitemiterator","odict_iterator","itertools.zip_longest","itertools.pairwise"].contains n=false)
  (hfr:∀ i h h',St i h→(∀ o,h.get? it=some o→h'.get? it=some o)→St i h')
  (hself:∀ (A:Around) (i:Nat) (s:Shared) (Q:Value→Shared→Prop) (E:Value→Shared→Prop),St i s.heap→Q (.ref it) s→wpAny (model P w) A (pyIter (.ref it)) Q E s) :
  qG P w K tg (Its xs) [it] it (fun i h=>i ≤ xs.length∧St i h) where
 mem:=by simp
 obj:=fun i h st b hb=>by
  have e:b=it:=by simpa using hb
  subst e;obtain ⟨o,n,vs,e,_,d,_⟩:=hgo i h st.2;exact ⟨o,e,fun v z=>by rw [d] at z;cases z⟩
 keep:=fun i h h' st k=>⟨st.1,hfr i h h' st.2 fun o e=>k it (by simp) o e⟩
 item:=by
  intro X hP' hw hK hc i pins s σ H E I hf st hg;subst hP' hw hK;obtain ⟨f0,f1,f2,f3,f4,f5⟩:=hf it (by simp);refine (hW X.A (I.ok.hd hc)).item i s _ _ hg st.2 fun v h' tk hv st' kk=>?_
  obtain ⟨x,hx,rx⟩:=hP i v hv;have I1:Inv X pins σ H { s with heap:=h',toks:=tk }:=I.turned (fun b o hb e=>kk b o (by simpa using hb) e) f0 f1 f3 f4 f5;obtain ⟨o,n,vs,e,c,d,nm⟩:=hgo _ _ st';exact ⟨v,rfl,rE (s:={ s with heap:=h',toks:=tk }) e c d nm ⟨x,H,I1,rx,⟨rfl,hx⟩,⟨hg,st'⟩,fun b hb=>(hf b hb).1⟩⟩
 done:=by
  intro X hP' hw hK hc i pins s σ H E I hf st hg;subst hP' hw hK;obtain ⟨f0,f1,f2,f3,f4,f5⟩:=hf it (by simp);have e:i=xs.length:=Nat.le_antisymm st.1 hg;subst e;exact (hW X.A (I.ok.hd hc)).done s _ _ st.2 fun h' tk kk=>⟨rfl,I.turned (fun b o hb e=>kk b o (by simpa using hb) e) f0 f1 f3 f4 f5⟩
 self:=fun A i s Q E st h=>hself A i s Q E st.2 h
noncomputable def Qu (c:Nat):Str:=⟨#[c]⟩
noncomputable def gj (x:Str):List V:=x.cps.toList.map fun c=>V.str (Qu c)
theorem Yl (x:Str):(gj x).length=x.cps.size:=by unfold gj;simp
theorem dB {x:Str} {i c:Nat} (h:x.cps[i]? = some c):(gj x)[i]? = some (.str (Qu c)):=by
 unfold gj;rw [List.getElem?_map,Array.getElem?_toList,h];rfl
theorem Wr {x:Str} {i:Nat} {v:Value} (h:SignAt x i v):∃ y,(gj x)[i]? = some y∧zd y v:=by
 obtain ⟨c,u,hc,rfl⟩:=h;exact ⟨.str (Qu c),dB hc,u,rfl⟩
section
variable {X:Cx} {tg:Expr}
noncomputable def tM (tl:TE):TI:=fun σ H R=>tl σ H fun x H1=>∃ z,x=.str z∧R (Its (gj z)) H1
theorem KK {l:Expr} {tl:TE} (hl:PE X l tl):PI X tg l (tM tl):=by
 intro pins s σ H R I h;refine thn (hl pins s σ H _ I h) fun v s1 hZ1=>?_
 obtain ⟨x,H1,I1,r1,q1⟩:=hZ1;obtain ⟨z,e,q⟩:=q1;subst e;obtain ⟨t,rfl⟩:=r1;have fo:∀ b ∈ [s1.heap.objs.size],zu X pins H1 b:=fun b hb=>by
  have e:b=s1.heap.objs.size:=by simpa using hb
  subst e;exact I1.fpOk (Nat.le_refl _) (I1.hok.fresh (Nat.le_refl _))
 have hz:=Yl z;cases ha:z.cps.all (· < 128) with
 | false=>
  refine wpAny_pyIter_wide ha ⟨s1.heap.objs.size,[s1.heap.objs.size],fun i h=>i ≤ (gj z).length∧h.IsStrIter s1.heap.objs.size "str_iterator" z t i,_,H1,rfl,I1.kept (t':=s1.toks) fun b o e=>Heap.get?_push_of_some _ e,
   Zr (fun A hA=>by rw [hz];exact Walks.strWide hA _ z t) (fun i v=>Wr) (fun i h ⟨o,e,c,d⟩=>⟨o,_,_,e,c,d,by decide⟩) (fun i h h' ⟨o,e,r⟩ k=>⟨o,k o e,r⟩) (fun A i s Q E st q=>wpAny_pyIter_striter_wide st q),
   ⟨Nat.zero_le _,_,Heap.get?_push_size _ rfl,rfl,rfl⟩,fo,q⟩
 | true=>
  refine wpAny_pyIter_ascii ha ⟨s1.heap.objs.size,[s1.heap.objs.size],fun i h=>i ≤ (gj z).length∧h.IsStrIter s1.heap.objs.size "str_ascii_iterator" z t i,_,H1,rfl,I1.kept (t':=s1.toks) fun b o e=>Heap.get?_push_of_some _ e,
   Zr (fun A hA=>by rw [hz];exact Walks.strAscii hA _ z t) (fun i v=>Wr) (fun i h ⟨o,e,c,d⟩=>⟨o,_,_,e,c,d,by decide⟩) (fun i h h' ⟨o,e,r⟩ k=>⟨o,k o e,r⟩) (fun A i s Q E st q=>wpAny_pyIter_striter_ascii st q),
   ⟨Nat.zero_le _,_,Heap.get?_push_size _ rfl,rfl,rfl⟩,fo,q⟩
end
theorem uH {xs:List V} {g:TG} {tb:TS} {D:pj} {σ:St} {H:Hp} (Pv:Nat→St→Hp→Prop) (h0:Pv 0 σ H)
  (hs:∀ i x σ H,xs[i]? = some x→Pv i σ H→g x σ H fun σ2 H2=>tb { D with nx:=Pv (i + 1),ct:=Pv (i + 1),bk:=D.nx } σ2 H2) (hd:∀ σ H,Pv xs.length σ H→D.nx σ H) :
  ∃ W:Nat→Nat→St→Hp→Prop,(∃ m,W 0 m σ H)∧∀ i m σ H,W i m σ H →
   ((Its xs).stop i H∧D.nx σ H)∨((Its xs).go i H∧∃ N:St→Hp→Prop,(∀ σ' H',N σ' H'→∃ m',m' < m∧W (i + 1) m' σ' H')∧∀ x H',(Its xs).yld i H x H'→g x σ H' fun σ2 H2=>tb { D with nx:=N,ct:=N,bk:=D.nx } σ2 H2):=by
 refine ⟨fun i m σ H=>m=xs.length - i∧i ≤ xs.length∧Pv i σ H,⟨xs.length,by simp,Nat.zero_le _,h0⟩,?_⟩;rintro i m σ H ⟨rfl,hi,p⟩;by_cases hlt:i < xs.length
 ·refine .inr ⟨hlt,Pv (i + 1),fun σ' H' p'=>⟨xs.length - (i + 1),by omega,rfl,hlt,p'⟩,fun x H' y=>?_⟩;obtain ⟨e,y⟩:=y;subst e;exact hs i x σ _ y p
 ·have e:i=xs.length:=by omega
  subst e;exact .inl ⟨Nat.le_refl _,hd σ H p⟩
theorem zE {xs:List V} {g:TG} {tc:TT} {te:TE} {σb:St} {Q:VK} {H:Hp} (Pv:Nat→List V→Hp→Prop) (hz:xs.length ≤ sizeLine) (h0:Pv 0 [] H) (hl:∀ i ys H,i ≤ xs.length→Pv i ys H→ys.length ≤ i)
  (hs:∀ i x ys H,xs[i]? = some x→Pv i ys H→qh Pv g tc te σb i x ys H) (hd:∀ ys H,Pv xs.length ys H→∀ p,H p=none→Q (.ref p) (upd H p (.lst ys))) :
  ∃ W:Nat→Nat→List V→Hp→Prop,(∃ m,W 0 m [] H)∧Cz (Its xs) g tc te σb Q W:=by
 refine ⟨fun i m ys H=>m=xs.length - i∧i ≤ xs.length∧Pv i ys H,⟨xs.length,by simp,Nat.zero_le _,h0⟩,?_⟩;rintro i m ys H ⟨rfl,hi,p⟩;have hyl:=hl i ys H hi p;by_cases hlt:i < xs.length
 ·refine .inr ⟨hlt,by omega,fun x H' y=>?_⟩;obtain ⟨e,y⟩:=y;subst e;exact hs i x ys _ y p (fun ys' H'=>∃ m',m' < xs.length - i∧m'=xs.length - (i + 1)∧i + 1 ≤ xs.length∧Pv (i + 1) ys' H') fun ys' H' r=>⟨xs.length - (i + 1),by omega,rfl,hlt,r⟩
 ·have e:i=xs.length:=by omega
  subst e;exact .inl ⟨Nat.le_refl _,hd ys H p⟩
section
variable {X:Cx}
noncomputable def aM:V→Option Int→Option Int→Hp→VK→Prop:=fun x lo hi H Q=>∃ z,x=.str z∧z.length ≤ sizeLine∧Q (.str (Txt.slice z lo hi)) H
theorem vB:SlR X aM:=by
 intro pins s σ H x v vl vu lo hi sl Q I rx hs pl pu h;obtain ⟨z,rfl,hz,q⟩:=h;obtain ⟨t,rfl⟩:=rx;refine ⟨"str",_,F.slot_str_getitem.lookup,typeIs_str s z t,?_⟩;have fin:∀ t' k,EP X pins σ Q (.str (Txt.slice z lo hi) t') { s with toks:=k }:=fun t' k=>⟨.str _,H,I.tok _,⟨_,rfl⟩,q⟩
 cases pl with
 | none=>
  cases pu with
  | none=>exact wpAny_getItem_str_slice (l:=none) (u:=none) (st:=none) hs rfl (post_val_or_str ⟨Nat.le_trans (Txt.slice_le z _ _) hz,fin⟩)
  | int j uj=>exact wpAny_getItem_str_slice (l:=none) (u:=some (j,uj)) (st:=none) hs rfl (post_val_or_str ⟨Nat.le_trans (Txt.slice_le z _ _) hz,fin⟩)
 | int i ui=>
  cases pu with
  | none=>exact wpAny_getItem_str_slice (l:=some (i,ui)) (u:=none) (st:=none) hs rfl (post_val_or_str ⟨Nat.le_trans (Txt.slice_le z _ _) hz,fin⟩)
  | int j uj=>exact wpAny_getItem_str_slice (l:=some (i,ui)) (u:=some (j,uj)) (st:=none) hs rfl (post_val_or_str ⟨Nat.le_trans (Txt.slice_le z _ _) hz,fin⟩)
noncomputable def Hb (ys:List Str):List V:=ys.map V.str
theorem Nz:∀ {ys:List Str} {us:List Value},ld (Hb ys) us→StrsAre us ys:=by
 intro ys
 induction ys with
 | nil=>intro us r;cases r;exact .nil
 | cons y ys ih=>
  intro us r;cases r with
  | cons r1 r2=>
   obtain ⟨t,rfl⟩:=r1;exact .cons y t (ih r2)
theorem Sv:∀ (l:List (Str × Tok)),ld (Hb (l.map (·.1))) (strValues l)
 | []=>.nil
 | (x,t) :: r=>.cons ⟨t,rfl⟩ (Sv r)
noncomputable def KI (K:PySem.W.Frag):V→List V→Hp→VK→Prop:=fun x vs H Q=>∃ sep p ys,x=.str sep∧vs=[.ref p]∧SqL K H p (Hb ys)∧(ys.map (·.length)).sum + ys.length * sep.length ≤ 16777216∧Q (.str (Txt.join sep ys)) H
theorem aq:MtR X "str.join" (KI X.K):=by
 intro pins s σ H x xs v us Q I rx rv h;obtain ⟨sep,p,ys,rfl,rfl,hq,hz,q⟩:=h;obtain ⟨t,rfl⟩:=rx;obtain ⟨u,rfl,ru⟩:=Jp rv;cases ru;obtain ⟨its,r,pl,_⟩:=I.list hq;exact join_list pl.isList (by simpa using Nz r) hz fun t' k=>⟨.str _,H,I.tok _,⟨_,rfl⟩,q⟩
end
theorem Iz {prog:Program} {w:World} {A:Around} {E:Value→Shared→Prop} {s:Shared} {x y:Str} {t u:Tok} {Q:Value→Shared→Prop} (hy:(y.length == 0)=false)
  (h:∀ l k,l.map (·.1)=Txt.split x y→Q (.ref s.heap.objs.size) { s with heap:=s.heap.push { cls:=.type "list",data:=.seq (strValues l).toArray },toks:=k }) (hsz:x.length + 2 ≤ sizeLine) :
  wpAny (model prog w) A (call (.builtin "str.split") [.str x t,.str y u]) Q E s:=by
 have hn:(Builtin.Str.partsBetween x (Builtin.Str.occurrences x y 0 x.length (x.length + 1)) y.length).length ≤ sizeLine:=by
  have e1:=StrLaws.occ_length_le x y 0 x.length (x.length + 1);rw [length_partsBetween];omega
 cases h1:(decide (x.length < y.length) || decide (Builtin.Str.strKind x < Builtin.Str.strKind y))
 ·cases hf:(Builtin.Str.occurrences x y 0 x.length (x.length + 1)).isEmpty
  ·refine call_meets F.slot_str_split (typeIs_str _ _ _) F.entry_str_split (F.args_str_split_2 _ _) (meets_str_split_sep x y t u h1 hy hf (by omega) hn) ?_;show wants Q E _ { s with toks:=_,heap:=s.heap.push { cls:=.type "list",data:=.seq (strsFrom s.toks (Builtin.Str.partsBetween x (Builtin.Str.occurrences x y 0 x.length (x.length + 1)) y.length)).toArray } };rw [strsFrom_eq];exact h (numbered s.toks _) _ ((numbered_texts _ _).trans ((if_neg (ne_true_of_eq_false h1)).trans (if_neg (ne_true_of_eq_false hf))).symm)
  ·exact call_meets F.slot_str_split (typeIs_str _ _ _) F.entry_str_split (F.args_str_split_2 _ _) (meets_str_split_not_found x y t u h1 hy hf)
    (h [(x,t)] s.toks ((if_neg (ne_true_of_eq_false h1)).trans (if_pos hf)).symm)
 ·exact call_meets F.slot_str_split (typeIs_str _ _ _) F.entry_str_split (F.args_str_split_2 _ _) (meets_str_split_cannot_occur x y t u h1)
   (h [(x,t)] s.toks (if_pos h1).symm)
section
variable {X:Cx}
noncomputable def eG:V→List V→Hp→VK→Prop:=fun x vs H Q=>∃ z y,x=.str z∧vs=[.str y]∧y.length ≠ 0∧z.length + 2 ≤ sizeLine∧(Txt.split z y).length ≤ sizeLine∧∀ p,H p=none→Q (.ref p) (upd H p (.lst (Hb (Txt.split z y))))
theorem ly:MtR X "str.split" eG:=by
 intro pins s σ H x xs v us Q I rx rv h;obtain ⟨z,y,rfl,rfl,hy,hz,hn,q⟩:=h;obtain ⟨t,rfl⟩:=rx;obtain ⟨u,rfl,ru⟩:=Jp rv;obtain ⟨tu,rfl⟩:=ru;refine Iz (by simpa using hy) (fun l k hl=>?_) hz;refine ⟨.ref s.heap.objs.size,_,I.laid (t':=k) (o:=.lst (Hb (Txt.split z y))) (fun b o e=>Heap.get?_push_of_some _ e) (Nat.le_refl _) ⟨by unfold Hb;rw [List.length_map];exact hn,strValues l,0,by rw [← hl];exact Sv l,Heap.get?_push_size _ rfl⟩,rfl,q _ (I.hok.fresh (Nat.le_refl _))⟩
theorem xC:oj X (.type "int") (fun xs H Q=>∃ z n,xs=[.str z]∧intText? z=some n∧z.length ≤ 640∧Q (.int n) H):=by
 intro pins s σ H xs us Q I r h;obtain ⟨z,n,rfl,hn,hz,q⟩:=h;obtain ⟨u,rfl,t,rfl⟩:=Jp r;exact PySem.W.KIN.call_text hn hz ⟨.int n,H,I.tok _,⟨_,rfl⟩,q⟩
theorem Hv:∀ {bs:List Bool} {us:List Value},ld (bs.map V.bl) us→us=bs.map Value.bool
 | [],_,.nil=>rfl
 | b :: bs,_,.cons r t=>by
  have e:_=Value.bool b:=r;rw [e,Hv t];rfl
theorem zx {A:Around} (bs:List Bool):TruthOf X.prog X.w A (fun i v=>(bs.map Value.bool).toArray[i]? = some v) (fun i=>bs.getD i true):=by
 intro i v s Q E hP hQ;have e:(bs.map Value.bool)[i]? = some v:=by simpa using hP
 rw [List.getElem?_map] at e;cases q:bs[i]? with
 | none=>rw [q] at e;cases e
 | some b=>
  rw [q] at e;have e':Value.bool b=v:=Option.some.inj e;subst e';refine wpAny_truthy_bool ?_;have:bs.getD i true=b:=by simp [List.getD,q]
  have hQ':Q (bs.getD i true) s:=hQ;rw [this] at hQ';exact hQ'
theorem qB (bs:List Bool):(List.range bs.length).all (fun i=>bs.getD i true)=bs.all id:=by
 rw [Bool.eq_iff_iff];simp only [List.all_eq_true,List.mem_range,id];constructor
 ·intro h b hb;obtain ⟨i,hi,e⟩:=List.mem_iff_getElem.mp hb;have:=h i hi;simp [List.getD,hi,e] at this;exact this
 ·intro h i hi;simp [List.getD,hi];exact h _ (List.getElem_mem hi)
theorem MD (hc:X.calm=true):oj X (.builtin "all") (fun xs H Q=>∃ (p:Addr) (bs:List Bool),xs=[.ref p]∧SqL X.K H p (bs.map V.bl)∧Q (.bl (bs.all id)) H):=by
 intro pins s σ H xs us Q I r h;obtain ⟨p,bs,rfl,hq,q⟩:=h;obtain ⟨u,rfl,ru⟩:=Jp r;cases ru;obtain ⟨its,rv,pl,_⟩:=I.list hq;have e:=Hv rv;subst e;refine call_all_walk (wpAny_pyIter_list pl.isList ?_);have hne:p ≠ s.heap.objs.size:=Nat.ne_of_lt (by obtain ⟨o,_,ho,_⟩:=pl;exact Heap.lt_size ho);refine ⟨s.heap.objs.size,_,_,_,_,_,fun i=>bs.getD i true,rfl,Walks.list (show X.A.in1.handled=none from I.ok.hd hc) _ p hne (bs.map Value.bool).toArray,⟨⟨_,Heap.get?_push_size _ rfl,rfl,rfl⟩,pl.isList.at fun o e=>Heap.get?_push_of_some _ e⟩,zx bs,fun h' tk kk=>?_⟩;refine ⟨.bl (bs.all id),H,I.kept fun b o e=>kk b o (by simpa using Nat.ne_of_lt (Heap.lt_size e)) (Heap.get?_push_of_some _ e),?_,q⟩;show Value.bool _=Value.bool _;rw [show (bs.map Value.bool).toArray.size=bs.length by simp,qB]
theorem my:oj X (.builtin "isinstance") (fun xs H Q=>∃ x T t b,xs=[x,.ty T]∧dy X.K H x t∧PySem.W.kitOne X.K t (.type T)=some b∧Q (.bl b) H):=by
 intro pins s σ H xs us Q I r h;obtain ⟨x,T,t,b,rfl,ty,e,q⟩:=h;obtain ⟨u,u2,rfl,rx,r2⟩:=MG r;cases r2;exact xA I rx ty e fun tk=>⟨.bl b,H,I.tok _,rfl,q⟩
end
end L2
namespace L2
open PySem PySem.Spec PyProof.Rows
theorem Bg {X:Cx} {N:List Str} (h:N.Nodup) (e:X.N=N):X.N.Nodup:=e ▸ h
noncomputable def YC (sc scope:Scope):Bool:=
 (scope.kind == .function) && scope.names.all (fun y=>y.2 != .cell) && scope.names.all (fun y=>y.2 != .free || sc.names.lookup y.1 == some .cell || sc.names.lookup y.1 == some .free) &&
  scope.names.all (fun y=>y.2 != .local || scope.names.lookup y.1 == some .local)
theorem Qc {env:Env} {sc scope:Scope} (he:env.scope=sc) (h:YC sc scope=true):Mn env scope:=by
 subst he;unfold YC at h;simp only [Bool.and_eq_true,List.all_eq_true] at h;obtain ⟨⟨⟨h1,h2⟩,h3⟩,h4⟩:=h;refine ⟨by simpa using h1,fun y hy e=>?_,fun y hy e=>?_,fun y hy e=>?_⟩
 ·have:=h2 y hy;rw [e] at this;exact absurd this (by decide)
 ·have:=h3 y hy;rw [e] at this;simp only [Bool.or_eq_true] at this;rcases this with (z | z) | z
  ·exact absurd z (by decide)
  ·exact .inl (show env.scope.names.lookup y.1=some .cell by simpa using z)
  ·exact .inr (show env.scope.names.lookup y.1=some .free by simpa using z)
 ·have:=h4 y hy;rw [e] at this;simp only [Bool.or_eq_true] at this;rcases this with z | z
  ·exact absurd z (by decide)
  ·simpa using z
noncomputable def gM (M:List Str) (scope:Scope) (N:List Str) (sel:List (Option Nat)):Bool:=
 sel.length == N.length && (sel.zip N).all fun p=>match p.1 with | none=>true | some j=>M[j]? == some p.2 && scope.names.lookup p.2 == some .free
theorem ud {M:List Str} {scope:Scope} {N:List Str} {sel:List (Option Nat)} (h:gM M scope N sel=true):yA M scope N sel:=by
 unfold gM at h;simp only [Bool.and_eq_true,List.all_eq_true] at h;refine ⟨by simpa using h.1,fun i j x e1 e2=>?_⟩;have hm:(some j,x) ∈ sel.zip N:=by
  rw [List.mem_iff_getElem?];exact ⟨i,by rw [List.getElem?_zip_eq_some];exact ⟨e1,e2⟩⟩
 have:=h.2 _ hm;simp only [Bool.and_eq_true] at this;exact ⟨by simpa using this.1,by simpa using this.2⟩
noncomputable def noT:HO→Bool
 | .dT _=>false
 | .frz _ u=>noT u
 | _=>true
noncomputable def NoT (H:Hp):Prop:=∀ b o,H b=some o→noT o=true
theorem Td.back {P:Program} {w:World} {H H':Hp} {h h':Heap} {a:Addr}:∀ (o:HO),noT o=true→Td P w H' h' a o→Td P w H h a o→Td P w H h' a o
 | .lst _,_,x,_=>x
 | .tup _,_,x,_=>x
 | .dK _,_,x,_=>x
 | .dT _,e,_,_=>absurd e (by unfold noT;decide)
 | .set _ _,_,x,_=>x
 | .ins _ _ _,_,x,y=>⟨y.1,x.2⟩
 | .own _,_,x,_=>x
 | .xd _,_,x,_=>x
 | .met _ _,_,x,_=>x
 | .rng _ _,_,x,_=>x
 | .frz ob u,e,x,y=>⟨x.1,Td.back u (by unfold noT at e;exact e) x.2 y.2⟩
 | .tbl _,_,x,_=>x
 | .ext _,_,x,_=>x
section
variable {P:Program} {w:World} {K:PySem.W.Frag} {mg:Str→Option Value} {base:Heap}
theorem Lb.forget {k:Nat} {f:Addr} {fd:FuncData} {ps:List Str} {sp sp':Sp} (F:Lb P w K mg base CX0 k f fd ps sp)
  (h:∀ vs H Q E,sp' vs H Q E→NoT H∧sp vs H (fun v H'=>Nb H H'∧Q v H) E):Lb P w K mg base CX0 k f fd ps sp':=by
 refine ⟨fun vs H Q E q=>F.len vs H _ E (h vs H Q E q).2,fun A outer s H args us vs Q E hr he hb hv hs=>?_⟩;obtain ⟨nt,q⟩:=h vs H Q E hs;refine codeAny_mono (F.run A outer s H args us vs _ E hr he hb hv q) fun r s' hq=>?_
 cases r with
 | error e=>exact hq
 | ok fl=>
  cases fl with
  | next=>exact hq
  | brk=>exact hq
  | cont=>exact hq
  | ret u=>
   obtain ⟨v,H',os,bare,un,hok,rv,sm,q'⟩:=hq;exact ⟨v,H,os,bare,⟨un.keep,un.slot,fun _ _ _ n _=>n,un.there,fun _ _ z=>z,fun _ _ _ z=>z,fun _ ps z=>⟨#[],by rw [z];simp⟩⟩,fun a o e=>(hok a o (sm a o e)).back o (nt a o e) (he.hok a o e),rv,q'⟩
end
theorem lb {H:Hp} {p:Addr} {o:HO} (h:H p=none):Nb H (upd H p o):=fun b u q=>by rw [qb (wb q h)];exact q
theorem Nb.updN {H H1:Hp} {p:Addr} {o:HO} (s:Nb H H1) (h:H p=none):Nb H (upd H1 p o):=fun b u q=>by rw [qb (wb q h)];exact s b u q
structure Sc (K:PySem.W.Frag) (a:Addr) (ns:List Int) (H:Hp):Prop where
 sq:(∃ o,H a=some (.frz o (.lst (ns.map V.int))))∨∃ (o:Obj) (its:Array Value) (n:Nat),K.lookup a=some o∧o.cls=.type "list" ∧ o.dict=none∧o.data=.seq its n∧its.size ≤ sizeLine∧ld (ns.map V.int) its.toList
 nt:NoT H
section
variable {K:PySem.W.Frag} {a p:Addr} {ns:List Int} {H H':Hp} {o:HO}
theorem Sc.seq (s:Sc K a ns H):SqL K H a (ns.map V.int):=by
 rcases s.sq with ⟨o,h⟩ | h
 ·exact .inl (.inr ⟨o,h⟩)
 ·exact .inr h
theorem Sc.new (s:Sc K a ns H) (hp:H p=none) (ho:noT o=true:=by rfl):Sc K a ns (upd H p o):=by
 refine ⟨?_,fun b u e=>?_⟩
 ·rcases s.sq with ⟨ob,h⟩ | h
  ·exact .inl ⟨ob,by rw [qb (wb h hp)];exact h⟩
  ·exact .inr h
 ·by_cases hb:b=p
  ·subst hb;rw [db] at e;cases e;exact ho
  ·rw [qb hb] at e;exact s.nt b u e
theorem Sc.set {u:HO} (s:Sc K a ns H) (hp:H p=some u) (hu:∀ ob z,u ≠ .frz ob z) (ho:noT o=true:=by rfl):Sc K a ns (upd H p o):=by
 refine ⟨?_,fun b x e=>?_⟩
 ·rcases s.sq with ⟨ob,h⟩ | h
  ·refine .inl ⟨ob,?_⟩;have hne:a ≠ p:=fun z=>by subst z;rw [hp] at h;exact hu _ _ (Option.some.inj h)
   rw [qb hne];exact h
  ·exact .inr h
 ·by_cases hb:b=p
  ·subst hb;rw [db] at e;cases e;exact ho
  ·rw [qb hb] at e;exact s.nt b x e
theorem Sc.of_only (hO:zJ H) (hS:SqL K H a (ns.map V.int)):Sc K a ns H:=by
 refine ⟨?_,fun b u e=>?_⟩
 ·rcases hS with (h | ⟨o,h⟩) | h
  ·rcases hO a with z | ⟨ob,xs,z⟩
   ·rw [h] at z;cases z
   ·rw [h] at z;cases z
  ·exact .inl ⟨o,h⟩
  ·exact .inr h
 ·rcases hO b with z | ⟨ob,xs,z⟩
  ·rw [e] at z;cases z
  ·rw [e] at z;cases z;rfl
end
noncomputable def XI (K:PySem.W.Frag):Sp:=fun vs H Q _=>∃ (a:Addr) (ns:List Int),vs=[.ref a]∧Sc K a ns H∧ns.length ≤ 63∧∀ H',Q (.bl true) H'
theorem Ob:bootBuiltins "len"=some (.builtin "len"):=PySem.boot_len
theorem Lz:bootBuiltins "all"=some (.builtin "all"):=by decide +kernel
theorem Xz:bootBuiltins "min"=some (.builtin "min"):=by decide +kernel
theorem Sz:bootBuiltins "max"=some (.builtin "max"):=by decide +kernel
theorem wz:bootBuiltins "sum"=some (.builtin "sum"):=by decide +kernel
theorem xi:bootBuiltins "isinstance"=some (.builtin "isinstance"):=by decide +kernel
theorem Vz:bootBuiltins "int"=some (.type "int"):=by decide +kernel
theorem Vg:bootBuiltins "str"=some (.type "str"):=by decide +kernel
theorem Nw:bootBuiltins "bool"=some (.type "bool"):=by decide +kernel
theorem Fc:bootBuiltins "list"=some (.type "list"):=by decide +kernel
theorem jG {K:PySem.W.Frag}:PySem.W.kitOne K (.type "int") (.type "bool")=some false:=by
 unfold PySem.W.kitOne;rw [if_neg (by decide)]
 with_unfolding_all rfl
theorem Rd.same {H H':Hp} {a:Addr} {o:HO} (h:Rd H a o) (s:Nb H H'):Rd H' a o:=by
 rcases h with h | ⟨ob,h⟩
 ·exact .inl (s _ _ h)
 ·exact .inr ⟨ob,s _ _ h⟩
theorem SqL.same {K:PySem.W.Frag} {H H':Hp} {a:Addr} {xs:List V} (h:SqL K H a xs) (s:Nb H H'):SqL K H' a xs:=by
 rcases h with h | h
 ·exact .inl (h.same s)
 ·exact .inr h
theorem SqT.same {K:PySem.W.Frag} {H H':Hp} {a:Addr} {xs:List V} (h:SqT K H a xs) (s:Nb H H'):SqT K H' a xs:=by
 rcases h with h | h
 ·exact .inl (h.same s)
 ·exact .inr h
theorem NoT.upd {H:Hp} {p:Addr} {o:HO} (h:NoT H) (ho:noT o=true:=by rfl):NoT (upd H p o):=fun b u e=>by
 by_cases hb:b=p
 ·subst hb;rw [db] at e;cases e;exact ho
 ·rw [qb hb] at e;exact h b u e
theorem Sc.same {K:PySem.W.Frag} {a:Addr} {ns:List Int} {H H':Hp} (s:Sc K a ns H) (sm:Nb H H') (nt:NoT H'):Sc K a ns H':=by
 refine ⟨?_,nt⟩;rcases s.sq with ⟨o,h⟩ | h
 ·exact .inl ⟨o,sm _ _ h⟩
 ·exact .inr h
end L2
namespace L2
open PySem PySem.Spec PyProof.Rows
structure eM (K:PySem.W.Frag) (C:Addr) (m:Str) (f:Addr):Prop where
 rd:PySem.W.readsIn K C (.type "type")=true
 fd:PySem.W.findCls K (.ref C) (.type "type") m=some (.val (.ref f))
 ga:PySem.W.specialIn K (.ref C) "__getattribute__"=some (some (.builtin "type.__getattribute__"))
 kp:PySem.W.keepIn K (.ref f)=true
structure fE (P:Program) (w:World) (K:PySem.W.Frag) (mg:Str→Option Value) (base:Heap) (CX:CXT) (k:Nat) (OK:Addr→Prop) (m:Str) (ps:List Str) (SPV:Addr→Sp):Prop where
 ok:∀ C,OK C→∃ f fd,Cls K C∧iu K C m f∧Lb P w K mg base CX k f fd ps (SPV C)∧fc K fd ps []
noncomputable def IF (OK:Addr→Prop) (m:Str) (SPV:Addr→Sp) (E:XK) (ta:TE) (t:TA):TE:=fun σ H Q=>ta σ H fun x H1=>∃ a C dx fs,x=.ref a∧H1 a=some (.ins C dx fs)∧OK C∧fs.lookup m=none ∧
 t σ H1 fun vs H2=>SPV C (x :: vs) H2 Q E
section
variable {X:Cx} {CX:CXT} {k:Nat} {f C:Addr} {fd:FuncData} {ps:List Str} {sp:Sp} {dvs:List V} {ds:List Value} {E:XK} {x m:Str} {p pos apos:Pos} {e o:Expr} {es:List Expr} {ta:TE} {t:TA}
theorem xu {pl:Sem Bool} (hg:Gl X x) (hm:X.mg x=some (.ref C)) (c:eM X.K C m f) (F:Lb X.prog X.w X.K X.mg X.base CX k f fd ps sp) (hr:Ej k X.A) (hb:fc X.K fd ps ds) (hd:ld dvs ds) (hx:Hm CX X E) (ha:PA X (e :: es) t)
  (hdb:(x == ("__debug__" : Str))=false:=by decide) (hst:starEach (e :: es) X.env=(false,eval e X.env) :: starEach es X.env:=by rfl) (hpl:(backTo pos (starEach es X.env)).any (·.1)=false:=by rfl)
  (ht:eval (.Call (.Attribute (.Name x p) m apos) (e :: es) [] pos) X.env=(do
   let ov ← eval (.Name x p) X.env
   standAt apos.atName
   let (f,first) ← holding [ov] (getMethod ov m pl)
   callWith pos f first (backTo pos (starEach (e :: es) X.env)) (backToKw pos (keywordEach [] X.env))):=by rfl) :
  PE X (.Call (.Attribute (.Name x p) m apos) (e :: es) [] pos) (FH sp dvs E t):=by
 intro pins s σ H Q I h;refine PySem.W.methodCall_KW (pl:=pl) (gu I hg hm ?_ hdb) ht;refine PySem.W.method_cls I.kIn c.ga (PySem.W.cls_value I.kIn c.rd c.fd rfl ?_);have I1:=I.tok (s.toks + 1);refine PySem.W.callWith_K (first:=[]) (h₀:=X.base) I.ok.mod.kin c.kp (thn (ha pos pins _ σ H _ I1 h) fun us s2 ⟨vs,H2,I2,r,q2⟩=>⟨I2.kIn,?_⟩) hst hpl;exact vv F hr hb hd hx I2 r q2
variable {OK:Addr→Prop} {SPV:Addr→Sp}
theorem Pl {pl:Sem Bool} (he:PE X o ta) (V:fE X.prog X.w X.K X.mg X.base CX k OK m ps SPV) (hr:Ej k X.A) (hx:Hm CX X E)
  (ht:eval (.Call (.Attribute o m apos) [] [] pos) X.env=(do
   let ov ← eval o X.env
   standAt apos.atName
   let (f,first) ← holding [ov] (getMethod ov m pl)
   callWith pos f first (backTo pos (starEach [] X.env)) (backToKw pos (keywordEach [] X.env))):=by rfl) :
  PE X (.Call (.Attribute o m apos) [] [] pos) (IF OK m SPV E ta TK):=by
 intro pins s σ H Q I h;refine PySem.W.methodCall_KW (pl:=pl) (thn (he pins s σ H _ I h) fun u s1 hZ1=>?_) ht;obtain ⟨x,H1,I1,rx,a,C,dx,fs,ex,ea,ok,l,q⟩:=hZ1;subst ex;obtain rfl:u=Value.ref a:=rx;obtain ⟨f,fd,c,hm,F,hb⟩:=V.ok C ok;refine Tm I1 ea c hm l ?_;exact PySem.W.callWith_K0 (first:=[.ref a]) I1.kIn hm.kp (vv (us:=[.ref a]) (vs:=[.ref a]) (dvs:=[]) F hr hb .nil hx I1 (.cons rfl .nil) q)
end
section
variable {X:Cx} {x:Str} {p pos:Pos} {i:Expr} {ty:TE} {u:Value} {kvs:List (Str × V)}
end
noncomputable def nj (K:PySem.W.Frag) (H:Hp) (a:Addr) (f:Str) (v:V):Prop:=∃ C dx fs,H a=some (.ins C dx fs)∧Cls K C∧dc K C f∧fs.lookup f=some v
theorem Hd {f:Str} {v:V}:∀ {fs:List (Str × V)} (ks:List Str),fs.map (·.1)=ks→ks.contains f=false→ai f v fs=fs ++ [(f,v)]
 | [],_,_,_=>rfl
 | (g,y) :: r,ks,e,h=>by
  cases e;rw [List.map_cons,List.contains_cons] at h;have h1:=(Bool.or_eq_false_iff.mp h);have hne:¬ g=f:=fun z=>by
   have:=h1.1;rw [z] at this;simp at this
  show (if g=f then _ else _)=_;rw [if_neg hne,Hd _ rfl h1.2];rfl
theorem Pm {f:Str} {v:V} {fs:List (Str × V)} {n:Nat} (h:fs.length < n):(ai f v fs).length < n + 1:=Nat.lt_of_le_of_lt (Fl f v fs) (by omega)
theorem ae {f:Str} {v:V}:∀ {fs:List (Str × V)} (ks:List Str) (i:Nat),fs.map (·.1)=ks→ks.findIdx? (· == f)=some i→fs[i]? = some (f,v)→fs.lookup f=some v
 | [],_,_,_,_,h=>by simp at h
 | (g,y) :: r,ks,i,e,h,hv=>by
  cases e;rw [List.map_cons,List.findIdx?_cons] at h;rw [List.lookup];by_cases e:g=f
  ·subst e;rw [beq_self_eq_true,if_pos rfl] at h;cases h;have:(g,y)=(g,v):=by simpa using hv
   cases this;rw [beq_self_eq_true]
  ·rw [beq_eq_false_iff_ne.mpr e,if_neg (by decide)] at h;obtain ⟨j,hj,rfl⟩:=Option.map_eq_some_iff.mp h;rw [beq_eq_false_iff_ne.mpr (fun z=>e z.symm)];exact ae _ j rfl hj (by simpa using hv)
theorem xm {f:Str}:∀ {fs:List (Str × V)} (ks:List Str),fs.map (·.1)=ks→ks.contains f=false→fs.lookup f=none
 | [],_,_,_=>rfl
 | (g,y) :: r,ks,e,h=>by
  cases e;rw [List.map_cons,List.contains_cons] at h;have h1:=(Bool.or_eq_false_iff.mp h);rw [List.lookup,h1.1];exact xm _ rfl h1.2
end L2
namespace L2
open PySem PySem.Spec PyProof.Rows
theorem Inv.turnedL {X:Cx} {pins:List (Addr × Obj)} {σ:St} {H:Hp} {s:Shared} {h':Heap} {t':Nat} {fp:List Addr} (I:Inv X pins σ H s) (k:∀ b o,b ∉ fp→s.heap.get? b=some o→h'.get? b=some o)
  (hf:∀ b ∈ fp,zu X pins H b):Inv X pins σ H { s with heap:=h',toks:=t' }:=by
 have nit:∀ b u,H b=some u→b ∉ fp:=fun b u e z=>by rw [(hf b z).1] at e;cases e
 refine I.step (g':=s.gens) (d':=s.drawn) (ch:=fp) (fun b hb=>?_) (fun b o _ _ hc e _=>k b o hc e) (fun b o _ _ hc e _=>⟨o.slots,k b o hc e⟩) (fun _ _ _ _ n=>n)
  (fun b o hc e=>⟨o,k b o hc e⟩) (fun _ _ e=>e) (fun _ _ _ e=>e) (fun b ps e=>⟨#[],by rw [e];simp⟩) (fun m hm=>?_) (fun b u e=>?_) I.bare
 ·obtain ⟨f0,f1,f2,f3,f4,f5⟩:=hf b hb;exact ⟨f3,f1,f4,f5⟩
 ·obtain ⟨o,es,ep,ho,r⟩:=hm;exact ⟨o,es,ep,k _ o (fun z=>(hf _ z).2.1 rfl) ho,r⟩
 ·refine (I.hok b u e).stay (fun c v hc q=>k c v ?_ q) (fun _ q=>q) fun _ _ q=>q
  rcases hc with z | z
  ·rw [z];exact nit b u e
  ·exact nit c _ z
noncomputable def Ite (K:PySem.W.Frag) (a:Addr):It:=
 ⟨fun i H=>∃ xs x,SqL K H a xs∧xs[i]? = some x,fun i H v H'=>∃ p y,H p=none∧v=.ref p∧(∀ xs,SqL K H a xs→xs[i]? = some y)∧H'=upd H p (.tup [.int i,y]),fun i H=>∃ xs,SqL K H a xs∧xs.length ≤ i⟩
theorem NA {P:Program} {w:World} {K:PySem.W.Frag} {es:List Expr} {k} {pos:Pos} (a e it:Addr) (hne:e ≠ it) :
  qG P w K (.Tuple es k pos) (Ite K a) [e,it] e (fun i h=>∃ old,IsEnum h e it ((i:Nat):Int) old∧h.IsListIter it a i) where
 mem:=by simp
 obj:=fun i h ⟨old,he,hi⟩ b hb=>by
  simp only [List.mem_cons,List.not_mem_nil,or_false] at hb;rcases hb with rfl | rfl
  ·exact ⟨_,he,fun v z=>by
    have z':Data.fields _=Data.cell v:=z;cases z'⟩
  ·obtain ⟨o,q,c,d⟩:=hi;exact ⟨o,q,fun v z=>by rw [d] at z;cases z⟩
 keep:=fun i h h' ⟨old,he,hi⟩ k=>⟨old,k e (by simp) _ he,hi.at fun o q=>k it (by simp) o q⟩
 item:=by
  intro X hP hw hK hc i pins s σ H E I hf ⟨old,he,hi⟩ hg;subst hP hw hK;obtain ⟨xs,x,hq,hx⟩:=hg;obtain ⟨its,rv,p,hz⟩:=I.list hq;obtain ⟨u,hu,ru⟩:=rv.get hx;refine wpAny_pyNext_enum_item he hi p.isList (x:=u) (by simpa using hu) hne fun h1 he1 hi1 ht1 hz1 hk1=>⟨_,rfl,?_⟩
  refine wpAny_letOwnedTupleGo_enum he1 fun h2 he2 hs2=>?_
  replace hs2:Heap.SameBut e h1 h2:=hs2;have hel:e < s.heap.objs.size:=Heap.lt_size he;have hk:∀ b o,b ∉ [e,it]→s.heap.get? b=some o→h2.get? b=some o:=fun b o hb q=>by
   simp only [List.mem_cons,List.not_mem_nil,or_false,not_or] at hb;exact hs2.extBut _ _ hb.1 (hk1 b o hb.1 hb.2 q)
  have I1:Inv X pins σ H { s with heap:=h2,toks:=s.toks + 1 }:=I.turnedL hk hf;have fo:zu X pins H s.heap.objs.size:=I.fpOk (Nat.le_refl _) (I.hok.fresh (Nat.le_refl _));have ht2:h2.get? s.heap.objs.size=some { cls:=.type "tuple",data:=.seq #[.int i s.toks,u] }:=(hs2.2 _ (Nat.ne_of_gt hel)).trans ht1;have I2:=I1.adopt (o:=.tup [.int i,x]) fo ⟨by show 2 ≤ sizeLine;decide,[.int i s.toks,u],.cons ⟨_,rfl⟩ (.cons ru .nil),⟨_,ht2,rfl,_,rfl⟩⟩;refine ⟨.ref s.heap.objs.size,_,I2,rfl,⟨_,x,fo.1,rfl,fun ys hy=>by rw [I.list_inj hy hq];exact hx,rfl⟩,⟨u,?_,?_⟩,fun b hb=>?_⟩
  ·have e1:((i + 1:Nat):Int)=(i:Int) + 1:=by omega
   rw [e1];exact he2
  ·exact hi1.extBut hs2.extBut (Ne.symm hne)
  ·have hlt:b < s.heap.objs.size:=by
    simp only [List.mem_cons,List.not_mem_nil,or_false] at hb;rcases hb with rfl | rfl
    ·exact hel
    ·obtain ⟨o,q,_⟩:=hi;exact Heap.lt_size q
   rw [qb (Nat.ne_of_lt hlt)];exact (hf b hb).1
 done:=by
  intro X hP hw hK hc i pins s σ H E I hf ⟨old,he,hi⟩ hg;subst hP hw hK;obtain ⟨xs,hq,hx⟩:=hg;obtain ⟨its,rv,p,hz⟩:=I.list hq;have hl:=rv.length;exact wpAny_pyNext_enum_end (I.ok.hd hc) he hi p.isList (by simp;omega) fun h' eb=>⟨rfl,I.turnedL (t':=s.toks) (fun b o hb q=>eb b o (fun z=>hb (by simp [z])) q) hf⟩
 self:=fun _ _ _ _ _ ⟨_,he,_⟩ h=>wpAny_pyIter_enum he h
theorem xr:bootBuiltins "enumerate"=some (.type "enumerate"):=by decide +kernel
theorem xD:bootBuiltins "zip"=some (.type "zip"):=by decide +kernel
theorem Zt:bootBuiltins "reversed"=some (.type "reversed"):=by decide +kernel
noncomputable def Itz (K:PySem.W.Frag) (a b:Addr):It:=
  ⟨fun i H=>∃ xs ys x y,SqL K H a xs∧SqL K H b ys∧xs[i]? = some x∧ys[i]? = some y,
   fun i H v H'=>∃ p x y,H p=none∧v=.ref p∧(∀ xs,SqL K H a xs→xs[i]? = some x)∧(∀ ys,SqL K H b ys→ys[i]? = some y)∧H'=upd H p (.tup [x,y]),
   fun i H=>∃ xs ys,SqL K H a xs∧SqL K H b ys∧(xs.length ≤ i∨ys.length ≤ i)⟩
theorem Gg {h:Heap} {a b:Addr} {o o':Obj} {c d:String} (ha:h.get? a=some o) (hb:h.get? b=some o') (hc:o.cls=.type c) (hd:o'.cls=.type d) (n:c ≠ d):a ≠ b:=fun z=>by
 subst z;rw [ha] at hb;cases hb;rw [hc] at hd;cases hd;exact n rfl
theorem lv {h:Heap} {z TI TO i1 i2 l1 l2:Addr} {f0 u1 u2 v1 v2:Value} {k1 k2:Nat} {xs ys:Array Value} (hz:IsZip h z TI TO f0) (hTI:IsPair h TI u1 u2) (hTO:IsPair h TO v1 v2) (h1:h.IsListIter i1 l1 k1) (h2:h.IsListIter i2 l2 k2)
  (g1:h.IsList l1 xs) (g2:h.IsList l2 ys) (nT:TI ≠ TO) (ni:i1 ≠ i2):ZipApart z TI TO i1 i2 l1 l2:=by
 obtain ⟨o1,e1,c1,_⟩:=h1;obtain ⟨o2,e2,c2,_⟩:=h2;obtain ⟨p1,f1,d1,_⟩:=g1;obtain ⟨p2,f2,d2,_⟩:=g2;exact ⟨Gg hTI hz rfl rfl (by decide),Gg hTO hz rfl rfl (by decide),Gg e1 hz c1 rfl (by decide),Gg e2 hz c2 rfl (by decide),nT,Gg hTI e1 rfl c1 (by decide),Gg hTI e2 rfl c2 (by decide),
  Gg hTO e1 rfl c1 (by decide),Gg hTO e2 rfl c2 (by decide),ni,Gg f1 hz d1 rfl (by decide),Gg f1 hTO d1 rfl (by decide),Gg f1 e1 d1 c1 (by decide),Gg f1 e2 d1 c2 (by decide),
  Gg f2 hz d2 rfl (by decide),Gg f2 hTO d2 rfl (by decide),Gg f2 e1 d2 c1 (by decide),Gg f2 e2 d2 c2 (by decide)⟩
theorem xF {P:Program} {w:World} {K:PySem.W.Frag} {es:List Expr} {k} {pos:Pos} (a b z TI TO i1 i2:Addr) (nT:TI ≠ TO) (ni:i1 ≠ i2) :
  qG P w K (.Tuple es k pos) (Itz K a b) [z,TI,TO,i1,i2] z (fun i h=>IsZip h z TI TO .none∧IsPair h TI (.ref i1) (.ref i2)∧(∃ u v,IsPair h TO u v)∧h.IsListIter i1 a i∧h.IsListIter i2 b i) where
 mem:=by simp
 obj:=fun i h ⟨hz,hTI,⟨u,v,hTO⟩,⟨o1,e1,_,d1⟩,o2,e2,_,d2⟩ c hc=>by
  simp only [List.mem_cons,List.not_mem_nil,or_false] at hc;rcases hc with rfl | rfl | rfl | rfl | rfl
  ·exact ⟨_,hz,fun v z=>by
    have z':Data.fields _=Data.cell v:=z;cases z'⟩
  ·exact ⟨_,hTI,fun v z=>by
    have z':Data.seq _ _=Data.cell v:=z;cases z'⟩
  ·exact ⟨_,hTO,fun v z=>by
    have z':Data.seq _ _=Data.cell v:=z;cases z'⟩
  ·exact ⟨o1,e1,fun v z=>by rw [d1] at z;cases z⟩
  ·exact ⟨o2,e2,fun v z=>by rw [d2] at z;cases z⟩
 keep:=fun i h h' ⟨hz,hTI,⟨u,v,hTO⟩,h1,h2⟩ k=>⟨k z (by simp) _ hz,k TI (by simp) _ hTI,⟨u,v,k TO (by simp) _ hTO⟩,h1.at fun o q=>k i1 (by simp) o q,h2.at fun o q=>k i2 (by simp) o q⟩
 item:=by
  intro X hP hw hK hc i pins s σ H E I hf ⟨hz,hTI,⟨u,v,hTO⟩,h1,h2⟩ hg;subst hP hw hK;obtain ⟨xs,ys,x,y,hq,hr,hx,hy⟩:=hg;obtain ⟨its,rv,p,hz1⟩:=I.list hq;obtain ⟨jts,rw',p',hz2⟩:=I.list hr;obtain ⟨ux,hu,ru⟩:=rv.get hx;obtain ⟨uy,hv,rv'⟩:=rw'.get hy;have D:=lv hz hTI hTO h1 h2 p.isList p'.isList nT ni;refine wpAny_pyNext_zip_item D hz hTI hTO h1 h2 p.isList p'.isList (x:=ux) (y:=uy) (by simpa using hu) (by simpa using hv) fun g gz gTO g1 g2 gT gs gk=>⟨_,rfl,?_⟩
  refine wpAny_letOwnedTupleGo_zip gz fun g' gz' hs'=>?_
  replace hs':Heap.SameBut z g g':=hs';have hzl:z < s.heap.objs.size:=Heap.lt_size hz;have hk:∀ c o,c ∉ [z,TI,TO,i1,i2]→s.heap.get? c=some o→g'.get? c=some o:=fun c o hc q=>by
   simp only [List.mem_cons,List.not_mem_nil,or_false,not_or] at hc;exact hs'.extBut _ _ hc.1 (gk c o hc.1 hc.2.2.1 hc.2.2.2.1 hc.2.2.2.2 q)
  have I1:Inv X pins σ H { s with heap:=g',toks:=s.toks }:=I.turnedL hk hf;have fo:zu X pins H s.heap.objs.size:=I.fpOk (Nat.le_refl _) (I.hok.fresh (Nat.le_refl _));have ht2:IsPair g' s.heap.objs.size ux uy:=(hs'.2 _ (Nat.ne_of_gt hzl)).trans gT;have I2:=I1.adopt (o:=.tup [x,y]) fo ⟨by show 2 ≤ sizeLine;decide,[ux,uy],.cons ru (.cons rv' .nil),⟨_,ht2,rfl,_,rfl⟩⟩;refine ⟨.ref s.heap.objs.size,_,I2,rfl,⟨_,x,y,fo.1,rfl,fun ys hy=>by rw [I.list_inj hy hq];exact hx,fun zs hzs=>by rw [I.list_inj hzs hr];exact hy,rfl⟩,⟨gz',?_,⟨_,_,hs'.extBut _ _ D.TOz gTO⟩,g1.extBut hs'.extBut D.i1z,g2.extBut hs'.extBut D.i2z⟩,fun b hb=>?_⟩
  ·exact hs'.extBut _ _ D.TIz (gk _ _ D.TIz D.TITO D.TIi1 D.TIi2 hTI)
  ·have hlt:b < s.heap.objs.size:=by
    obtain ⟨o1,e1,_⟩:=h1;obtain ⟨o2,e2,_⟩:=h2;simp only [List.mem_cons,List.not_mem_nil,or_false] at hb;rcases hb with rfl | rfl | rfl | rfl | rfl
    ·exact hzl
    ·exact Heap.lt_size hTI
    ·exact Heap.lt_size hTO
    ·exact Heap.lt_size e1
    ·exact Heap.lt_size e2
   rw [qb (Nat.ne_of_lt hlt)];exact (hf b hb).1
 done:=by
  intro X hP hw hK hc i pins s σ H E I hf ⟨hz,hTI,⟨u,v,hTO⟩,h1,h2⟩ hg;subst hP hw hK;obtain ⟨xs,ys,hq,hr,hx⟩:=hg;obtain ⟨its,rv,p,hz1⟩:=I.list hq;obtain ⟨jts,rw',p',hz2⟩:=I.list hr;have hl:=rv.length;have hl':=rw'.length;have D:=lv hz hTI hTO h1 h2 p.isList p'.isList nT ni;exact wpAny_pyNext_zip_end (I.ok.hd hc) D hz hTI hTO h1 h2 p.isList p'.isList (by simp;omega) fun h' eb=>⟨rfl,I.turnedL (t':=s.toks) (fun b o hb q=>eb b o (fun z=>hb (by simp [z])) (fun z=>hb (by simp [z])) (fun z=>hb (by simp [z])) (fun z=>hb (by simp [z])) q) hf⟩
 self:=fun _ _ _ _ _ ⟨hz,_⟩ h=>wpAny_pyIter_zip hz h
section
variable {X:Cx}
noncomputable def nK (K:PySem.W.Frag) (ta:TA):TI:=fun σ H R=>ta σ H fun vs H1=>∃ a,vs=[.ref a]∧(∃ xs,SqL K H1 a xs)∧R (Ite K a) H1
theorem zl {es:List Expr} {k} {tpos:Pos} {a:Expr} {ta:TA} {p pos:Pos} (hg:Gl X "enumerate") (hm:X.mg "enumerate"=none) (ha:PA X [a] ta) (hs:starEach [a] X.env=[(false,eval a X.env)]:=by rfl) :
  PI X (.Tuple es k tpos) (.Call (.Name "enumerate" p) [a] [] pos) (nK X.K ta):=by
 intro pins s σ H R I h;refine Call_ (il I hg hm xr (PyProof.Rows.callWith_type1 (thn (ha pos pins s σ H _ I h) fun us s1 hZ1=>?_) hs rfl));obtain ⟨vs,H1,I1,r1,q1⟩:=hZ1;obtain ⟨a,e,⟨xs,hq⟩,q⟩:=q1;subst e;cases r1 with
 | cons r rr=>
  cases rr;cases r;obtain ⟨its,rv,pl,hz⟩:=I1.list hq;refine call_enumerate_list pl.isList fun h' hE hI hsz hk=>wpAny_pyIter_enum hE ?_
  refine ⟨s1.heap.objs.size + 1,[s1.heap.objs.size + 1,s1.heap.objs.size],_,_,H1,rfl,I1.kept (t':=s1.toks) hk,NA a _ _ (Nat.succ_ne_self _),⟨_,hE,hI⟩,fun b hb=>?_,q⟩;have hb':s1.heap.objs.size ≤ b:=by
   simp only [List.mem_cons,List.not_mem_nil,or_false] at hb;rcases hb with rfl | rfl
   ·exact Nat.le_succ _
   ·exact Nat.le_refl _
  exact I1.fpOk hb' (I1.hok.fresh hb')
noncomputable def QL (K:PySem.W.Frag) (ta:TA):TI:=fun σ H R=>ta σ H fun vs H1=>∃ a b,vs=[.ref a,.ref b]∧(∃ xs,SqL K H1 a xs)∧(∃ ys,SqL K H1 b ys)∧R (Itz K a b) H1
theorem rK {es:List Expr} {k} {tpos:Pos} {a b:Expr} {ta:TA} {p pos:Pos} (hg:Gl X "zip") (hm:X.mg "zip"=none) (ha:PA X [a,b] ta) (hs:starEach [a,b] X.env=[(false,eval a X.env),(false,eval b X.env)]:=by rfl)
  (hs2:starEach [b] X.env=[(false,eval b X.env)]:=by rfl):PI X (.Tuple es k tpos) (.Call (.Name "zip" p) [a,b] [] pos) (QL X.K ta):=by
 intro pins s σ H R I h;refine Call_ (il I hg hm xD (PyProof.Rows.callWith_type1 (thn (ha pos pins s σ H _ I h) fun us s1 hZ1=>?_) (by rw [hs,hs2]) (by rw [hs2];rfl)));obtain ⟨vs,H1,I1,r1,q1⟩:=hZ1;obtain ⟨a,b,e,⟨xs,hq⟩,⟨ys,hr⟩,q⟩:=q1;subst e;cases r1 with
 | cons r rr=>
  cases rr with
  | cons r' rr=>
   cases rr;cases r;cases r';obtain ⟨its,rv,pl,hz⟩:=I1.list hq;obtain ⟨jts,rv',pl',hz'⟩:=I1.list hr;refine call_zip_2 pl.isList pl'.isList fun h' hz hTI hTO h1 h2 hsz hk=>wpAny_pyIter_zip hz ?_
   refine ⟨s1.heap.objs.size + 4,[s1.heap.objs.size + 4,s1.heap.objs.size + 2,s1.heap.objs.size + 3,s1.heap.objs.size,s1.heap.objs.size + 1],_,_,H1,rfl,I1.kept (t':=s1.toks) hk,
    xF a b _ _ _ _ _ (Nat.ne_of_lt (Nat.lt_succ_self _)) (Nat.ne_of_lt (Nat.lt_succ_self _)),⟨hz,hTI,⟨_,_,hTO⟩,h1,h2⟩,fun c hc=>?_,q⟩
   have hb':s1.heap.objs.size ≤ c:=by
    simp only [List.mem_cons,List.not_mem_nil,or_false] at hc;rcases hc with rfl | rfl | rfl | rfl | rfl
    ·exact Nat.le_add_right _ _
    ·exact Nat.le_add_right _ _
    ·exact Nat.le_add_right _ _
    ·exact Nat.le_refl _
    ·exact Nat.le_add_right _ _
   exact I1.fpOk hb' (I1.hok.fresh hb')
end
theorem Vd {X:Cx} {es:List Expr} {k:Nat} {pos:Pos} {t:TGs} {n:Nat} {K:PySem.W.Frag} (hK:X.K=K) (hc:X.calm=true) (h:PGs X es t)
  (hn:(assignEach es X.env).length=n:=by rfl) (hst:(assignEach es X.env).findIdx? (·.1)=none:=by rfl):PG X (.Tuple es k pos) (IJ K n t):=by
 subst hK;exact cJ hc h hn hst
section
variable {X:Cx}
theorem nB:oj X (.type "range") (fun xs H Q=>∃ j:Int,xs=[.int j]∧-4611686018427387904 ≤ j∧j < 4611686018427387904∧∀ p,H p=none→Q (.ref p) (upd H p (.rng 0 j))):=by
 intro pins s σ H xs us Q I r h;obtain ⟨j,rfl,h1,h2,q⟩:=h;obtain ⟨u,rfl,rx⟩:=Jp r;obtain ⟨t,rfl⟩:=rx;exact call_range_1 ⟨.ref s.heap.objs.size,upd H s.heap.objs.size (.rng 0 j),I.laid (fun b u e=>Heap.get?_push_of_some _ e) (Nat.le_refl _) ⟨_,_,_,Heap.get?_push_size _ rfl⟩,rfl,q _ (I.hok.fresh (Nat.le_refl _))⟩
theorem Wv {P:Nat→Value→Prop} {f:Nat→V} (hP:∀ i v,P i v→zd (f i) v):∀ (l:List Value) (k:Nat),(∀ j v,l[j]? = some v→P (k + j) v)→ld ((List.range l.length).map fun i=>f (k + i)) l
 | [],_,_=>.nil
 | v :: r,k,h=>by
  rw [List.length_cons,List.range_succ_eq_map,List.map_cons,List.map_map];refine .cons (hP _ _ (h 0 v rfl)) ?_;have:=Wv hP r (k + 1) fun j w hj=>by
   have:=h (j + 1) w (by simpa using hj);rwa [show k + 1 + j=k + (j + 1) by omega]
  have e:(fun i=>f (k + 1 + i))=((fun i=>f (k + i)) ∘ Nat.succ):=funext fun i=>by
   show f (k + 1 + i)=f (k + (i + 1));rw [show k + 1 + i=k + (i + 1) by omega]
  rwa [e] at this
theorem Ps {P:Nat→Value→Prop} {f:Nat→V} (hP:∀ i v,P i v→zd (f i) v) {acc:Array Value} {n:Nat} (h:ItemsOf P acc n):ld ((List.range n).map f) acc.toList:=by
 have:=Wv hP acc.toList 0 fun j v hj=>by
  rw [Nat.zero_add];exact h.2 j v (by rw [← Array.getElem?_toList];exact hj)
 rw [show acc.toList.length=n by rw [Array.length_toList];exact h.1] at this;simpa using this
theorem Nt (hc:X.calm=true):oj X (.type "list") (fun xs H Q=>∃ p j,xs=[.ref p]∧H p=some (.rng 0 j)∧-4611686018427387904 ≤ j∧j ≤ 16777216∧∀ l,H l=none→Q (.ref l) (upd H l (.lst ((List.range j.toNat).map fun (i:Nat)=>V.int i)))):=by
 intro pins s σ H xs us Q I r h;obtain ⟨p,j,rfl,hp,h1,h2,q⟩:=h;obtain ⟨u,rfl,rx⟩:=Jp r;cases rx;obtain ⟨t,u,v,e⟩:=(show Td X.prog X.w H s.heap p (.rng 0 j) from I.hok p _ hp);have hn:Builtin.Range.rangeSize 0 j 1=((j.toNat:Nat):Int):=by rw [rangeSize_one];split <;> omega
 refine call_list_range (I.ok.hd hc) e (small_one (by omega) (by omega) h1 (by omega)) hn (by omega) fun h' tk acc c' hk e' hi=>?_
 refine ⟨.ref s.heap.objs.size,_,I.laid (o:=.lst ((List.range j.toNat).map fun (i:Nat)=>V.int i)) hk (Nat.le_refl _) ⟨?_,acc.toList,c',Ps (fun i v ⟨t,ev⟩=>⟨t,by rw [ev];simp⟩) hi,e'⟩,rfl,q _ (I.hok.fresh (Nat.le_refl _))⟩;rw [List.length_map,List.length_range];exact Nat.le_trans (show j.toNat ≤ 16777216 by omega) (by decide)
end
end L2
namespace L2
open PySem PySem.Spec PyProof.Rows
inductive EqH (K:PySem.W.Frag) (H:Hp):Nat→V→V→Bool→Prop
 | flat {k:Nat} {x y:V} (hx:Bj x=true) (hy:Bj y=true):EqH K H k x y (eqV x y)
 | lst {k:Nat} {p q:Addr} {xs ys:List V} {e:Nat→Bool} (hp:SqL K H p xs) (hq:SqL K H q ys) (hl:xs.length=ys.length) (he:∀ (j:Nat) (x y:V),xs[j]? = some x→ys[j]? = some y→EqH K H k x y (e j)):EqH K H (k + 1) (.ref p) (.ref q) ((List.range xs.length).all e)
 | lstN {k:Nat} {p q:Addr} {xs ys:List V} (hp:SqL K H p xs) (hq:SqL K H q ys) (hl:xs.length ≠ ys.length):EqH K H (k + 1) (.ref p) (.ref q) false
 | tup {k:Nat} {p q:Addr} {xs ys:List V} {e:Nat→Bool} (hp:SqT K H p xs) (hq:SqT K H q ys) (he:∀ (j:Nat) (x y:V),xs[j]? = some x→ys[j]? = some y→EqH K H k x y (e j)):EqH K H (k + 1) (.ref p) (.ref q) ((List.range (min xs.length ys.length)).all e && xs.length == ys.length)
theorem zF {x:V} (h:Bj x=true):eqV x x=true:=by
 cases x <;> first | rfl | (simp [eqV];done) | cases h
theorem Ks {n:Nat} {e:Nat→Bool} (h:∀ j,j < n→e j=true):(List.range n).all e=true:=by
 rw [List.all_eq_true];exact fun j hj=>h j (List.mem_range.mp hj)
section
variable {X:Cx} {pins:List (Addr × Obj)} {σ:St} {H:Hp} {s:Shared}
theorem EqH.self (I:Inv X pins σ H s) {k:Nat} {x y:V} {b:Bool} (h:EqH X.K H k x y b) (e:x=y):b=true:=by
 induction h with
 | flat hx hy=>subst e;exact zF hx
 | @lst k p q xs ys f hp hq hl he ih=>
  injection e with e;subst e;have:=I.list_inj hp hq;subst this;refine Ks fun j hj=>?_
  exact ih j xs[j] xs[j] (List.getElem?_eq_getElem hj) (List.getElem?_eq_getElem hj) rfl
 | lstN hp hq hl=>
  injection e with e;subst e;have:=I.list_inj hp hq;subst this;exact absurd rfl hl
 | @tup k p q xs ys f hp hq he ih=>
  injection e with e;subst e;have:=I.tuple_inj hp hq;subst this;rw [Bool.and_eq_true];refine ⟨Ks fun j hj=>?_,by simp⟩;have hj':j < xs.length:=by omega
  exact ih j xs[j] xs[j] (List.getElem?_eq_getElem hj') (List.getElem?_eq_getElem hj') rfl
theorem Gm (A:Around):A.in1.units=A.units + 1:=rfl
theorem sy (I:Inv X pins σ H s) {k:Nat} {x y:V} {b:Bool} (h:EqH X.K H k x y b):∀ (A:Around) (v u:Value),A.units + k < cLine→zd x v→zd y u →
  SeqAt.EqAt A s v u b∧(∀ p q,x=.ref p→y=.ref q→SeqAt.RcAt A s v u b):=by
 induction h with
 | flat hx hy=>
  intro A v u hu rx ry;refine ⟨KF rx ry hx hy,fun p q e _=>?_⟩;subst e;cases hx
 | @lst k p q xs ys f hp hq hl he ih=>
  intro A v u hu rx ry;cases rx;cases ry;obtain ⟨its,r,pl,hz⟩:=I.list hp;obtain ⟨jts,r',pl',hz'⟩:=I.list hq;have l1:=r.length;have l2:=r'.length;have rc:SeqAt.RcAt A s (.ref p) (.ref q) ((List.range xs.length).all f):=by
   have:=SeqAt.RcAt.lists (A:=A) (e:=f) pl.isList pl'.isList (by simp only [List.size_toArray];omega) (by omega) fun j h1 h2=>by
    simp only [List.size_toArray] at h1 h2;have hj:j < xs.length:=by omega
    have hj':j < ys.length:=by omega
    obtain ⟨a,ha,ra⟩:=r.get (List.getElem?_eq_getElem hj);obtain ⟨c,hc,rc⟩:=r'.get (List.getElem?_eq_getElem hj');have ea:its.toArray[j]=a:=by
     have:=List.getElem?_eq_getElem h1;rw [ha] at this;simpa using (Option.some.inj this).symm
    have ec:jts.toArray[j]=c:=by
     have:=List.getElem?_eq_getElem h2;rw [hc] at this;simpa using (Option.some.inj this).symm
    rw [ea,ec];exact (ih j _ _ (List.getElem?_eq_getElem hj) (List.getElem?_eq_getElem hj') A.in1 a c (by rw [Gm];omega) ra rc).1
   rwa [List.size_toArray,← l1] at this
  refine ⟨?_,fun _ _ _ _=>rc⟩;by_cases hne:p=q
  ·have hb:=(EqH.lst hp hq hl he).self I (congrArg V.ref hne);rw [hb,hne];exact SeqAt.EqAt.same _
  ·exact SeqAt.EqAt.of_refs hne rc
 | @lstN k p q xs ys hp hq hl=>
  intro A v u hu rx ry;cases rx;cases ry;obtain ⟨its,r,pl,hz⟩:=I.list hp;obtain ⟨jts,r',pl',hz'⟩:=I.list hq;have l1:=r.length;have l2:=r'.length;have rc:SeqAt.RcAt A s (.ref p) (.ref q) false:=SeqAt.RcAt.lists_lengths pl.isList pl'.isList (by simp only [List.size_toArray,bne_iff_ne,ne_eq];omega) (by omega);refine ⟨SeqAt.EqAt.of_refs (fun e=>hl ?_) rc,fun _ _ _ _=>rc⟩;subst e;rw [I.list_inj hp hq]
 | @tup k p q xs ys f hp hq he ih=>
  intro A v u hu rx ry;cases rx;cases ry;obtain ⟨its,r,pl,hz⟩:=I.tuple hp;obtain ⟨jts,r',pl',hz'⟩:=I.tuple hq;have l1:=r.length;have l2:=r'.length;have rc:SeqAt.RcAt A s (.ref p) (.ref q) ((List.range (min xs.length ys.length)).all f && xs.length == ys.length):=by
   have:=SeqAt.RcAt.tuples (A:=A) (e:=f) pl pl' (by omega) fun j h1 h2=>by
    simp only [List.size_toArray] at h1 h2;have hj:j < xs.length:=by omega
    have hj':j < ys.length:=by omega
    obtain ⟨a,ha,ra⟩:=r.get (List.getElem?_eq_getElem hj);obtain ⟨c,hc,rc⟩:=r'.get (List.getElem?_eq_getElem hj');have ea:its.toArray[j]=a:=by
     have:=List.getElem?_eq_getElem h1;rw [ha] at this;simpa using (Option.some.inj this).symm
    have ec:jts.toArray[j]=c:=by
     have:=List.getElem?_eq_getElem h2;rw [hc] at this;simpa using (Option.some.inj this).symm
    rw [ea,ec];exact (ih j _ _ (List.getElem?_eq_getElem hj) (List.getElem?_eq_getElem hj') A.in1 a c (by rw [Gm];omega) ra rc).1
   rwa [List.size_toArray,List.size_toArray,← l1,← l2] at this
  refine ⟨?_,fun _ _ _ _=>rc⟩;by_cases hne:p=q
  ·have hb:=(EqH.tup hp hq he).self I (congrArg V.ref hne);rw [hb,hne];exact SeqAt.EqAt.same _
  ·exact SeqAt.EqAt.of_refs hne rc
end
section
variable {X:Cx} {pins:List (Addr × Obj)} {σ:St} {H:Hp} {s:Shared}
theorem Ru (I:Inv X pins σ H s) {k:Nat} {A:Around} {xs ys:List V} {its jts:List Value} {f:Nat→Bool} (hu:A.units + k < cLine) (r:ld xs its) (r':ld ys jts)
  (he:∀ (j:Nat) (x y:V),xs[j]? = some x→ys[j]? = some y→EqH X.K H k x y (f j)):∀ j (h1:j < its.toArray.size) (h2:j < jts.toArray.size),SeqAt.EqAt A s its.toArray[j] jts.toArray[j] (f j):=fun j h1 h2=>by
 simp only [List.size_toArray] at h1 h2;have l1:=r.length;have l2:=r'.length;have hj:j < xs.length:=by omega
 have hj':j < ys.length:=by omega
 obtain ⟨a,ha,ra⟩:=r.get (List.getElem?_eq_getElem hj);obtain ⟨c,hc,rc⟩:=r'.get (List.getElem?_eq_getElem hj');have ea:its.toArray[j]=a:=by
  have:=List.getElem?_eq_getElem h1;rw [ha] at this;simpa using (Option.some.inj this).symm
 have ec:jts.toArray[j]=c:=by
  have:=List.getElem?_eq_getElem h2;rw [hc] at this;simpa using (Option.some.inj this).symm
 rw [ea,ec];exact (sy I (he j _ _ (List.getElem?_eq_getElem hj) (List.getElem?_eq_getElem hj')) A a c hu ra rc).1
theorem FK (I:Inv X pins σ H s) {k:Nat} {p q:Addr} {b:Bool} (h:EqH X.K H k (.ref p) (.ref q) b) (A:Around) (hu:A.units + k < cLine):SeqAt.RcNeAt A s (.ref p) (.ref q) (!b):=by
 cases h with
 | flat hx hy=>cases hx
 | @lst k _ _ xs ys f hp hq hl he=>
  obtain ⟨its,r,pl,hz⟩:=I.list hp;obtain ⟨jts,r',pl',hz'⟩:=I.list hq;have l1:=r.length;have l2:=r'.length;have:=SeqAt.RcNeAt.lists (A:=A) (e:=f) pl.isList pl'.isList (by simp only [List.size_toArray];omega) (by omega) (Ru I (A:=A.in1) (k:=k) (by rw [Gm];omega) r r' he);rwa [List.size_toArray,← l1] at this
 | @lstN k _ _ xs ys hp hq hl=>
  obtain ⟨its,r,pl,hz⟩:=I.list hp;obtain ⟨jts,r',pl',hz'⟩:=I.list hq;have l1:=r.length;have l2:=r'.length;exact SeqAt.RcNeAt.lists_lengths pl.isList pl'.isList (by simp only [List.size_toArray,bne_iff_ne,ne_eq];omega) (by omega)
 | @tup k _ _ xs ys f hp hq he=>
  obtain ⟨its,r,pl,hz⟩:=I.tuple hp;obtain ⟨jts,r',pl',hz'⟩:=I.tuple hq;have l1:=r.length;have l2:=r'.length;have:=SeqAt.RcNeAt.tuples (A:=A) (e:=f) pl pl' (by omega) (Ru I (A:=A.in1) (k:=k) (by rw [Gm];omega) r r' he);rwa [List.size_toArray,List.size_toArray,← l1,← l2] at this
end
section
variable {X:Cx}
noncomputable def pM (K:PySem.W.Frag):R2:=fun x y H Q=>∃ p q b,x=.ref p∧y=.ref q∧EqH K H 8 (.ref p) (.ref q) b∧Q (.bl (!b)) H
theorem eD (hU:X.A.units + 64 < cLine):OpR X (compareOp .NotEq) (pM X.K):=by
 intro pins s σ H x y v u Q I rx ry h;obtain ⟨p,q,b,rfl,rfl,hE,q'⟩:=h;cases rx;cases ry;exact FK I hE X.A (by omega) _ _ _ _ ⟨.bl (!b),H,I,rfl,q'⟩
noncomputable def ZL (K:PySem.W.Frag):R2:=fun x y H Q=>∃ p q b,x=.ref p∧y=.ref q∧EqH K H 8 (.ref p) (.ref q) b∧Q (.bl b) H
theorem zK (hU:X.A.units + 64 < cLine):OpR X (compareOp .Eq) (ZL X.K):=by
 intro pins s σ H x y v u Q I rx ry h;obtain ⟨p,q,b,rfl,rfl,hE,q'⟩:=h;exact (sy I hE X.A v u (by omega) rx ry).2 p q rfl rfl _ _ _ _ ⟨.bl b,H,I,rfl,q'⟩
end
theorem EqH.mono {K:PySem.W.Frag} {H:Hp} {j k:Nat} {x y:V} {b:Bool} (h:EqH K H j x y b):j ≤ k→EqH K H k x y b:=by
 induction h generalizing k with
 | flat hx hy=>exact fun _=>.flat hx hy
 | lst hp hq hl he ih=>
  intro hk;obtain ⟨m,rfl⟩:∃ m,k=m + 1:=⟨k - 1,by omega⟩;exact .lst hp hq hl fun j x y h1 h2=>ih j x y h1 h2 (by omega)
 | lstN hp hq hl=>
  intro hk;obtain ⟨m,rfl⟩:∃ m,k=m + 1:=⟨k - 1,by omega⟩;exact .lstN hp hq hl
 | tup hp hq he ih=>
  intro hk;obtain ⟨m,rfl⟩:∃ m,k=m + 1:=⟨k - 1,by omega⟩;exact .tup hp hq fun j x y h1 h2=>ih j x y h1 h2 (by omega)
noncomputable def IL:V→V→Bool
 | .int _,.int _=>true
 | .str _,.str _=>true
 | .bl _,.bl _=>true
 | .non,.non=>true
 | _,_=>false
theorem Bx {x y:V} (h:IL x y=true):Bj x=true∧Bj y=true∧eqV x y=decide (x=y):=by
 cases x <;> cases y <;> first | (exfalso;simp [IL] at h;done) | (refine ⟨rfl,rfl,?_⟩;rfl) | (refine ⟨rfl,rfl,?_⟩;rw [Bool.eq_iff_iff];simp [eqV];done)
theorem EqH.flats {K:PySem.W.Frag} {H:Hp} {k:Nat} {p q:Addr} {xs ys:List V} (hp:SqL K H p xs) (hq:SqL K H q ys) (h:∀ x ∈ xs,∀ y ∈ ys,IL x y=true):EqH K H (k + 1) (.ref p) (.ref q) (decide (xs=ys)):=by
 by_cases hl:xs.length=ys.length
 ·have hd:decide (xs=ys)=(List.range xs.length).all fun j=>eqV (xs.getD j .non) (ys.getD j .non):=by
   rw [Bool.eq_iff_iff,decide_eq_true_eq,List.all_eq_true];constructor
   ·rintro rfl j hj;have hj':=List.mem_range.mp hj;have hm:xs.getD j .non ∈ xs:=by rw [List.getD_eq_getElem?_getD,List.getElem?_eq_getElem hj'];exact List.getElem_mem hj'
    rw [(Bx (h _ hm _ hm)).2.2,decide_eq_true rfl]
   ·intro z;refine List.ext_getElem hl fun j h1 h2=>?_
    have:=z j (List.mem_range.mpr h1);rw [List.getD_eq_getElem?_getD,List.getD_eq_getElem?_getD,List.getElem?_eq_getElem h1,List.getElem?_eq_getElem h2] at this;have w:eqV xs[j] ys[j]=true:=this;rw [(Bx (h _ (List.getElem_mem h1) _ (List.getElem_mem h2))).2.2,decide_eq_true_eq] at w;exact w
  rw [hd];refine .lst hp hq hl fun j x y h1 h2=>?_
  have e:=Bx (h x (List.mem_of_getElem? h1) y (List.mem_of_getElem? h2));rw [List.getD_eq_getElem?_getD,List.getD_eq_getElem?_getD,h1,h2];exact .flat e.1 e.2.1
 ·rw [decide_eq_false (fun z=>hl (by rw [z]))];exact .lstN hp hq hl
end L2
namespace L2
open PySem PySem.Spec PyProof.Rows PySem.Builtin PySem.Builtin.ObjectAttr
noncomputable abbrev bmV:List Value:=[.type "ValueError",.type "Exception",.type "BaseException",.type "object"]
noncomputable def bG (K:PySem.W.Frag) (C fI:Addr):Bool:=
 match K.lookup C with
 | some ⟨.type "type",_,.cls cd,sl⟩=>
  match cd.mro,sl.toList with
  | .ref D :: tl,[_,_,_,_,some (.builtin n),_]=>
   (D == C) && (n == "ValueError.__new__") && (cd.hasDel == false) && (cd.hasDict == true) && PySem.W.tailIn K bmV tl && PySem.W.nsOkIn K cd.ns && (PySem.W.nsIn K cd.ns "__init__" == some (some (.ref fI)))
  | _,_=>false
 | _=>false
section
variable {P:Program} {w:World} {A:Around} {h:Heap} {g:Array GenState} {d:Drawn} {t:Nat} {os:OsState} {K:PySem.W.Frag} {C fI:Addr} {R:Result→Shared→Prop}
end
noncomputable def kH:List Value→Bool
 | .ref _ :: r=>kH r
 | l=>l == bmV
structure EM (K:PySem.W.Frag) (C:Addr):Prop where
 hd:PySem.W.hasDictIn K C=true
 ov:((PySem.W.clsIn K C).any fun cd=>kH cd.mro)=true
 sa:PySem.W.findIn K (.ref C) "__setattr__"=some (some (.builtin "object.__setattr__"))
 ga:PySem.W.findIn K (.ref C) "__getattribute__"=some (some (.builtin "BaseException.__getattribute__"))
 gt:PySem.W.findIn K (.ref C) "__getattr__"=some none
 ex:∃ fI,bG K C fI=true
noncomputable def XF (x C:Addr) (od:Option Addr):Heap→Prop:=fun h=>∃ vs sl,h.get? x=some ⟨.ref C,od,.fields vs,sl⟩∧1 < vs.size∧vs[1]? = some .none
noncomputable def XD (dx:Addr) (fs:List (Str × V)):Heap→Prop:=fun h=>∃ mA,h.Ns1 dx mA∧(∀ f,ou (fs.lookup f) (mA f))∧PySem.Within mA (fs.map (·.1))
theorem XF.at {x C:Addr} {od:Option Addr} {h h':Heap} (z:XF x C od h) (k:∀ o,h.get? x=some o→h'.get? x=some o):XF x C od h':=let ⟨vs,sl,e,r⟩:=z;⟨vs,sl,k _ e,r⟩
theorem XD.at {dx:Addr} {fs:List (Str × V)} {h h':Heap} (z:XD dx fs h) (k:∀ o,h.get? dx=some o→h'.get? dx=some o):XD dx fs h':=let ⟨mA,e,r⟩:=z;⟨mA,e.at k,r⟩
theorem XF.ok {P:Program} {w:World} {H:Hp} {h:Heap} {x C:Addr} {od:Option Addr} (z:XF x C od h):Td P w H h x (.ext (XF x C od)):=by
 obtain ⟨vs,sl,e,r⟩:=id z;exact ⟨z,⟨_,e⟩,fun h1 h2 q k=>q.at k⟩
theorem XD.ok {P:Program} {w:World} {H:Hp} {h:Heap} {dx:Addr} {fs:List (Str × V)} (z:XD dx fs h):Td P w H h dx (.ext (XD dx fs)):=by
 obtain ⟨mA,⟨o,es,ep,e,_⟩,_⟩:=id z;exact ⟨z,⟨_,e⟩,fun h1 h2 q k=>q.at k⟩
section
variable {prog:Program} {w:World} {A:Around} {E:Value→Shared→Prop} {K:PySem.W.Frag} {C x:Addr} {s:Shared} {R:Result→Shared→Prop}
end
section
variable {X:Cx} {pins:List (Addr × Obj)} {σ:St} {H:Hp} {s:Shared} {x C dx:Addr} {fs:List (Str × V)} {f:Str} {y:V} {u:Value} {A:Around} {E:Value→Shared→Prop} {Q:Unit→Shared→Prop}
noncomputable def XA (x C:Addr) (od:Option Addr):Heap→Prop:=fun h=>∃ vs sl,h.get? x=some ⟨.ref C,od,.fields vs,sl⟩
theorem XA.at {x C:Addr} {od:Option Addr} {h h':Heap} (z:XA x C od h) (k:∀ o,h.get? x=some o→h'.get? x=some o):XA x C od h':=let ⟨vs,sl,e⟩:=z;⟨vs,sl,k _ e⟩
theorem XA.ok {P:Program} {w:World} {H:Hp} {h:Heap} {x C:Addr} {od:Option Addr} (z:XA x C od h):Td P w H h x (.ext (XA x C od)):=by
 obtain ⟨vs,sl,e⟩:=id z;exact ⟨z,⟨_,e⟩,fun h1 h2 q k=>q.at k⟩
end
noncomputable abbrev TJ:=St→Hp→(Hp→Prop)→Prop
section
variable {X:Cx} {e:Expr} {es:List Expr} {n:Nat} {t:TJ} {te:TE} {pos:Pos}
end
structure LM (K:PySem.W.Frag) (L:Addr) (m:Str):Prop where
 rd:PySem.W.readsIn K L (.type "type")=true
 fd:PySem.W.findCls K (.ref L) (.type "type") m=some (.val (.builtin "ValueError.__init__"))
 ga:PySem.W.specialIn K (.ref L) "__getattribute__"=some (some (.builtin "type.__getattribute__"))
section
variable {X:Cx} {L:Addr} {x:Str} {p pos apos:Pos} {e:Expr} {es:List Expr} {t:TA}
end
structure MkX (K:PySem.W.Frag) (C fI:Addr):Prop where
 e:bG K C fI=true
 fn:PySem.W.typeIn K (.ref fI)=some (.type "function")
 kp:PySem.W.keepIn K (.ref C)=true
section
variable {X:Cx} {k:Nat} {f C:Addr} {fd:FuncData} {ps:List Str} {sp:Sp} {x g:Str} {p pos pos' apos:Pos} {e o value:Expr} {es:List Expr} {ta tv:TE} {t:TA}
end
end L2
namespace L2
open PySem PySem.Spec PyProof.Rows PySem.Builtin PySem.Builtin.ObjectAttr
noncomputable def FlA (x C:Addr) (od:Option Addr) (T:Addr) (fl:Value) (h:Heap):Prop:=
 T ≠ x∧∃ vs sl oT ts,h.get? x=some ⟨.ref C,od,.fields vs,sl⟩∧vs[1]? = some (.ref T)∧h.get? T=some oT∧oT.data=.fields ts∧ts[3]? = some fl
structure Kp (fs:List Addr) (x:Addr) (To:Option Addr) (h h':Heap):Prop where
 keep:∀ b o,h.get? b=some o→b ∉ fs→b ≠ x→some b ≠ To→h'.get? b=some o
 slot:∀ b o,h.get? b=some o→b ∈ fs→∃ sl,h'.get? b=some { o with slots:=sl }
 there:∀ b o,h.get? b=some o→∃ o',h'.get? b=some o'
section
variable {M:Model} {A:Around} {E:Value→Shared→Prop} {s:Shared}
theorem nofr {base h:Heap} {l:List Env} {b:Addr} {o:Obj} {vs:Array Value} (hl:h.FunFrames base l) (e:h.get? b=some o) (d:o.data=.fields vs):b ∉ frs l:=fun hm=>by
 obtain ⟨_,o',e',nf⟩:=hl.mem hm;rw [e] at e';cases e';exact nf vs d
end
section
variable {P:Program} {w:World} {H:Hp} {h h':Heap} {fs:List Addr} {x C T:Addr} {od:Option Addr} {fl:Value} {To:Option Addr} {o:HO}
theorem Kp.hok (k:Kp fs x To h h') (ok:HOk P w H h) (hfs:∀ b ∈ fs,H b=none) (hT:∀ t,To=some t→H t=none) (mu:Mut (H x)) (new:XA x C od h'):HOk P w (upd H x (.ext (XA x C od))) h':=fun b u q=>by
 have nown:∀ c y,H c=some (.own y)→c ≠ x:=fun c y r z=>by subst z;rw [r] at mu;exact mu
 have ntup:∀ c xs,H c=some (.tup xs)→c ≠ x:=fun c xs r z=>by subst z;rw [r] at mu;exact mu
 have kk:∀ c v,c ≠ x→H c ≠ none→h.get? c=some v→h'.get? c=some v:=fun c v n1 n2 r=>k.keep c v r (fun z=>n2 (hfs c z)) n1 fun z=>n2 (hT c z.symm)
 by_cases hb:b=x
 ·subst hb;rw [db] at q;cases q;exact new.ok
 ·rw [qb hb] at q;refine (ok b u q).stay (fun c v hc r=>?_) (fun c r=>by rw [qb (nown c b r)];exact r) fun c xs r=>by rw [qb (ntup c xs r)];exact r
  rcases hc with rfl | hc
  ·exact kk c v hb (by rw [q];exact fun z=>by cases z) r
  ·exact kk c v (nown c b hc) (by rw [hc];exact fun z=>by cases z) r
theorem Kp.un (k:Kp fs x To h h') (hT:∀ t,To=some t→H t=none) (mu:Mut (H x)):Un fs To.toList H (upd H x o) h h':=by
 have hx:∀ b,H b=none→b ≠ x:=fun b n z=>by subst z;rw [n] at mu;exact mu
 have hm:∀ b u,H b=some u→¬ Mut (some u)→b ≠ x:=fun b u q nm z=>by subst z;rw [q] at mu;exact nm mu
 refine ⟨fun b u q n n1 n2=>k.keep b u q n1 (hx b n) fun z=>n2 (by rw [← z];simp),fun b u q n n1 n2=>k.slot b u q n1,fun b u q n _=>by rw [qb (hx b n)];exact n,fun b u q _=>k.there b u q,
  fun b xs q=>by rw [qb (hm b _ q fun z=>z)];exact q,fun b u xs q=>by rw [qb (hm b _ q fun z=>z)];exact q,fun b ps q=>⟨#[],by rw [qb (hm b _ q fun z=>z),q];simp⟩⟩
end
noncomputable def CX1 (P:Program) (w:World):CXT:=fun outer H s E e s'=>
 ∃ x C od H' T,e=.ref x∧s'.os=s.os∧AllBare s'.gens∧Un (frs outer) [] H H' s.heap s'.heap∧HOk P w H' s'.heap∧H' x=some (.ext (XA x C od))∧s.heap.objs.size ≤ T∧H' T=none∧FlA x C od T .none s'.heap∧E (.ref C) od H'
structure Fr1 (X:Cx):Prop where
 st:X.stack=X.env :: X.outer
 fr:X.env.frame=some X.env.locals
noncomputable def GM (X:Cx) (pins:List (Addr × Obj)) (T:Addr):Prop:=(T ∈ X.ex∨X.s₀.heap.objs.size ≤ T)∧T ≠ X.env.locals∧(∀ x c,X.env.cells.lookup x=some c→c ≠ T)∧∀ p ∈ X.pn ++ pins,p.1 ≠ T
section
variable {X:Cx} {pins:List (Addr × Obj)} {σ:St} {H:Hp} {s:Shared} {T x C:Addr} {od:Option Addr} {E:St→XK} {M:Model} {A:Around} {E':Value→Shared→Prop} {Q:Unit→Shared→Prop} {e fl:Value} {h':Heap}
end
section
variable {P:Program} {w:World} {K:PySem.W.Frag} {mg:Str→Option Value} {base:Heap} {N:List Str} {qual:Str} {scope:Scope} {f:Addr} {cd:Value} {A:Around} {outer:List Env} {s:Shared} {H:Hp} {E:XK}
end
section
variable {X:Cx} {CX:CXT} {k:Nat} {f C:Addr} {fd:FuncData} {ps:List Str} {sp:Sp} {dvs:List V} {ds:List Value} {E:St→XK} {x m:Str} {p pos apos:Pos} {e o:Expr} {es:List Expr} {ta:TE} {t:TA}
end
noncomputable abbrev Cx.tr (X:Cx) (pn:List (Addr × Obj)) (E:Value→Shared→Prop):Cx:={ X with pn:=X.pn ++ pn,xe:=E }
noncomputable abbrev Cx.hn (X:Cx) (e:Value):Cx:={ X with A:=X.A.mark (some e),calm:=false,xe:=fun _ _=>False }
section
variable {X:Cx} {pins pins':List (Addr × Obj)} {σ:St} {H:Hp} {s:Shared} {E:Value→Shared→Prop} {e:Value}
theorem Cx.Ok.tr (ok:X.Ok) (pn:List (Addr × Obj)) (E:Value→Shared→Prop):(X.tr pn E).Ok:=
 ⟨ok.mod,ok.kind,ok.glob,ok.blt,ok.above,ok.inj,ok.has,ok.cab,ok.hd,ok.frames,ok.stk,ok.exf,ok.bs,ok.bsz,ok.noex,ok.exfs,ok.funs,ok.frf⟩
theorem Cx.Ok.hn (ok:X.Ok) (e:Value):(X.hn e).Ok:=
 ⟨ok.mod,ok.kind,ok.glob,ok.blt,ok.above,ok.inj,ok.has,ok.cab,(fun z=>Bool.noConfusion z),ok.frames,ok.stk,ok.exf,ok.bs,ok.bsz,ok.noex,ok.exfs,ok.funs,ok.frf⟩
theorem Inv.tr (I:Inv X pins σ H s) (E:Value→Shared→Prop):Inv (X.tr pins E) [] σ H s:=⟨I.ok.tr pins E,I.os,I.bare,I.base,I.loc,I.cell,I.free,I.freeC,fun p hp=>I.pin p (by simpa using hp),I.hok,I.len⟩
theorem Inv.hn (I:Inv X pins σ H s) (e:Value):Inv (X.hn e) pins σ H s:=⟨I.ok.hn e,I.os,I.bare,I.base,I.loc,I.cell,I.free,I.freeC,I.pin,I.hok,I.len⟩
end
noncomputable def pj.gone (D:pj) (i:Nat):pj:={ nx:=fun σ H=>D.nx (σ.set i none) H,rt:=D.rt,bk:=fun σ H=>D.bk (σ.set i none) H,ct:=fun σ H=>D.ct (σ.set i none) H }
section
variable {X:Cx} {body suite:List Stmt} {b0:Stmt} {x n:Str} {c:Addr} {i:Nat} {tb:(St→XK)→TS} {th:TS} {xp hp pos:Pos}
end
theorem EH (D:pj) (i:Nat) (σ:St) (H:Hp):(D.gone i).nx σ H=D.nx (σ.set i none) H:=rfl
theorem UG (D:pj) (i:Nat) (v:V) (H:Hp):(D.gone i).rt v H=D.rt v H:=rfl
theorem OwnTail.has {h:Heap} {bm tl:List Value} {v:Value} (T:OwnTail h bm tl) (e:bm.contains v=true):tl.contains v=true:=by
 induction T with
 | base=>exact e
 | own _ _ _ _ ih=>rw [List.contains_cons,ih,Bool.or_true]
section
variable {X:Cx} {e:Expr} {te:TE} {pos:Pos} {E:St→XK}
theorem PS.nox {X:Cx} {st:Stmt} {t:TS} (h:PS X.nox st t):PS X st t:=fun pins s σ H D I hw=>
 wpAny_mono (h pins s σ H D (I.wish _) hw) (fun _ _ q=>q.unwish) fun _ _ z=>False.elim z
end
noncomputable def xeB (B:Cx) (E:XK) (e:Value) (s':Shared):Prop:=
 ∃ pins fl σ' H' x C od T,e=.ref x∧Inv B pins σ' H' s'∧H' x=some (.ext (XA x C od))∧H' T=none∧GM B pins T∧B.s₀.heap.objs.size ≤ T∧FlA x C od T fl s'.heap∧E (.ref C) od H'
structure zM (X:Cx) (scope:Scope) (N:List Str) (tg elt:Expr) (ifs:List Expr) (g:TG) (tc:TT) (te:XK→TE):Prop where
 tgt:∀ E C s H fp,PG ((X.block scope C N s H fp).wish (xeB (X.block scope C N s H fp) E)) tg g
 tests:∀ E C s H fp,PTs ((X.block scope C N s H fp).wish (xeB (X.block scope C N s H fp) E)) ifs tc
 elem:∀ E C s H fp,PE ((X.block scope C N s H fp).wish (xeB (X.block scope C N s H fp) E)) elt (te E)
theorem zM.of {X:Cx} {scope:Scope} {N:List Str} {tg elt:Expr} {ifs:List Expr} {g:TG} {tc:TT} {te:XK→TE} (h1:∀ E C s H fp,PG ((X.block scope C N s H fp).wish (xeB (X.block scope C N s H fp) E)) tg g)
  (h2:∀ E C s H fp,∃ t,PTs ((X.block scope C N s H fp).wish (xeB (X.block scope C N s H fp) E)) ifs t∧t=tc) (h3:∀ E C s H fp,∃ t,PE ((X.block scope C N s H fp).wish (xeB (X.block scope C N s H fp) E)) elt t∧t=te E):zM X scope N tg elt ifs g tc te:=
 ⟨h1,fun E C s H fp=>by obtain ⟨t,h,rfl⟩:=h2 E C s H fp;exact h,fun E C s H fp=>by obtain ⟨t,h,e⟩:=h3 E C s H fp;rw [← e];exact h⟩
section
variable {X:Cx} {elt tg iter:Expr} {ifs:List Expr} {scope:Scope} {pos:Pos} {wi:TI} {g:TG} {tc:TT} {te:XK→TE} {N:List Str} {sel:List (Option Nat)}
theorem FlA.but {x C T c:Addr} {od:Option Addr} {fl:Value} {h h':Heap} (z:FlA x C od T fl h) (n1:x ≠ c) (n2:T ≠ c) (k:∀ b,b ≠ c→h'.get? b=h.get? b):FlA x C od T fl h':=by
 obtain ⟨ne,vs,sl,oT,ts,he,h1,hT,hd,h3⟩:=z;exact ⟨ne,vs,sl,oT,ts,(k _ n1).trans he,h1,(k _ n2).trans hT,hd,h3⟩
end
structure rM (K:PySem.W.Frag) (C:Addr):Prop where
 cl:Cls K C
 ha:PySem.W.findIn K (.ref C) "__class__"=some (some (.builtin "object.__class__"))
 hn:PySem.W.specialIn K (.builtin "object.__class__") "__get__"=some (some (.builtin "getset_descriptor.__get__"))
 htk:PySem.W.takesIn K (.builtin "object.__class__")=some true
 hm:PySem.W.mroIn K C (.type "object")=some true
theorem rM.ty {K:PySem.W.Frag} {H:Hp} {C a dx:Addr} {fs:List (Str × V)} (c:rM K C) (e:H a=some (.ins C dx fs)):dy K H (.ref a) (.ref C):=.ins e c.cl c.ha c.hn c.htk c.hm
end L2
namespace L2
open PySem PySem.Spec PyProof.Rows
noncomputable def Itd (hi:Int) (n:Nat):It:=⟨fun i _=>i < n,fun i H x H'=>H'=H∧x=.int (hi - i),fun i _=>n ≤ i⟩
theorem oB {P:Program} {w:World} {K:PySem.W.Frag} {tg:Expr} (it:Addr) (hi:Int) (n:Nat):qG P w K tg (Itd hi n) [it] it (fun i h=>IsRangeIter h it (hi + (i:Nat) * (-1)) ((n:Int) - (i:Nat)) (-1)) where
 mem:=by simp
 obj:=fun i h st b hb=>by
  have e:b=it:=by simpa using hb
  subst e;exact ⟨_,st,fun v z=>by
   have z':Data.fields _=Data.cell v:=z;cases z'⟩
 keep:=fun i h h' st k=>k it (by simp) _ st
 item:=by
  intro X hP hw hK hc i pins s σ H E I hf st hg;subst hP hw hK;obtain ⟨f0,f1,f2,f3,f4,f5⟩:=hf it (by simp);have W:=Walks.range (prog:=X.prog) (w:=X.w) (I.ok.hd hc) it hi (-1) n;refine W.item i s _ _ hg st fun v h' tk hv st' kk=>?_
  obtain ⟨t,rfl⟩:=hv;have I1:Inv X pins σ H { s with heap:=h',toks:=tk }:=I.turned (fun b o hb e=>kk b o (by simpa using hb) e) f0 f1 f3 f4 f5;refine ⟨_,rfl,rE (s:={ s with heap:=h',toks:=tk }) (n := "range_iterator") st' rfl rfl (by decide) ⟨.int (hi - i),H,I1,⟨t,?_⟩,⟨rfl,rfl⟩,st',fun b hb=>(hf b hb).1⟩⟩;congr 1;omega
 done:=by
  intro X hP hw hK hc i pins s σ H E I hf st hg;subst hP hw hK;obtain ⟨f0,f1,f2,f3,f4,f5⟩:=hf it (by simp);exact wpAny_pyNext_range_end (I.ok.hd hc) st (by have:n ≤ i:=hg;omega) fun h' eb=>⟨rfl,I.turned (t':=s.toks) (fun b o hb e=>eb b o hb e) f0 f1 f3 f4 f5⟩
 self:=fun _ _ _ _ _ st h=>wpAny_pyIter_rangeiter st h
theorem Sk (a b:Int):Builtin.Range.rangeSize a b (-1)=if b < a then a - b else 0:=by
 unfold Builtin.Range.rangeSize;rw [if_neg (show ¬ (-1:Int) > 0 by decide),show (- -1:Int)=1 by decide,Int.ediv_one];show (if b < a then a - b - 1 + 1 else 0)=_;split <;> omega
theorem fA {a b:Int} (ha:-(2 ^ 62) ≤ a) (ha':a < 2 ^ 62) (hb:-(2 ^ 62) ≤ b) (hb':b < 2 ^ 62):Builtin.Range.small a b (-1)=true:=by
 unfold Builtin.Range.small;rw [Sk];simp only [Builtin.Range.rangeFitsLong,Bool.and_eq_true,Bool.or_eq_true,decide_eq_true_eq,beq_iff_eq,show ¬ (-1:Int) > 0 by decide,if_false];split <;> omega
section
variable {X:Cx} {tg:Expr}
noncomputable def NJ (ta:TA):TI:=fun σ H R=>ta σ H fun vs H1=>∃ i j:Int,vs=[.int i,.int j,.int (-1)]∧(-1073741824 ≤ i∧i < 1073741824∧-1073741824 ≤ j∧j < 1073741824)∧R (Itd i (i - j).toNat) H1
theorem lB {a b c:Expr} {ta:TA} {p pos:Pos} (hg:Gl X "range") (hm:X.mg "range"=none) (ha:PA X [a,b,c] ta) (hs:starEach [a,b,c] X.env=[(false,eval a X.env),(false,eval b X.env),(false,eval c X.env)]:=by rfl) (hs2:starEach [b,c] X.env=[(false,eval b X.env),(false,eval c X.env)]:=by rfl) :
  PI X tg (.Call (.Name "range" p) [a,b,c] [] pos) (NJ ta):=by
 intro pins s σ H R I h;refine Call_ (il I hg hm boot_range (PyProof.Rows.callWith_type1 (thn (ha pos pins s σ H _ I h) fun us s1 hZ1=>?_) (by rw [hs,hs2]) (by rw [hs2];rfl)));obtain ⟨vs,H1,I1,r1,q1⟩:=hZ1;obtain ⟨i,j,e,⟨q1,q2,q3,q4⟩,q⟩:=q1;subst e;cases r1 with
 | cons r rr=>
  cases rr with
  | cons r' rr=>
   cases rr with
   | cons r'' rr=>
    cases rr;obtain ⟨t,rfl⟩:=r;obtain ⟨t',rfl⟩:=r';obtain ⟨t'',rfl⟩:=r'';refine call_range_3 (by decide) ?_ (Or.inl (PyProof.noPylong_small (by omega)));refine wpAny_pyIter_range (IsRange.new ..) (fA (by omega) (by omega) (by omega) (by omega)) ?_;have I2:Inv X pins σ H1 { s1 with heap:=s1.heap.push { cls:=.type "range",data:=.fields #[.int i t,.int j t',.int (-1) t''] },toks:=s1.toks }:=I1.kept fun b o e=>Heap.get?_push_of_some _ e
    refine ⟨(s1.heap.push { cls:=.type "range",data:=.fields #[.int i t,.int j t',.int (-1) t''] }).objs.size,[(s1.heap.push { cls:=.type "range",data:=.fields #[.int i t,.int j t',.int (-1) t''] }).objs.size],_,_,H1,rfl,
     I2.kept (t':=s1.toks) fun b o e=>Heap.get?_push_of_some _ e,oB _ i (i - j).toNat,?_,fun b hb=>?_,q⟩
    ·have e1:i + ((0:Nat):Int) * (-1)=i:=by simp
     have e2:(((i - j).toNat:Nat):Int) - ((0:Nat):Int)=Builtin.Range.rangeSize i j (-1):=by rw [Sk];split <;> omega
     show IsRangeIter _ _ (i + ((0:Nat):Int) * (-1)) ((((i - j).toNat:Nat):Int) - ((0:Nat):Int)) (-1);rw [e1,e2];exact Heap.get?_push_size _ rfl
    ·have e:b=(s1.heap.push { cls:=.type "range",data:=.fields #[.int i t,.int j t',.int (-1) t''] }).objs.size:=by simpa using hb
     subst e;exact I2.fpOk (Nat.le_refl _) (I2.hok.fresh (Nat.le_refl _))
end
theorem ez:typeLookup (.type "list_reverseiterator") "__len__"=pure none:=by rw [typeLookup_type,builtinLookup_eq_fast];kernel_rfl
theorem iw:typeLookup (.type "list_reverseiterator") "__length_hint__"=pure (some (.builtin "list_reverseiterator.__length_hint__")):=by rw [typeLookup_type,builtinLookup_eq_fast];kernel_rfl
section
variable {prog:Program} {w:World} {A:Around} {E:Value→Shared→Prop} {s:Shared} {it l:Addr} {items:Array Value}
theorem fF (hT:s.TypeIs (.ref it) "list_reverseiterator") {Q:Bool→Shared→Prop} (h:Q false s):wpAny (model prog w) A (Builtin.List.listLengthHint (.ref it)) Q E s:=by
 unfold Builtin.List.listLengthHint;refine wpAny_bind (wpAny_specialOf hT ez ?_);show wpAny _ A (specialOf (Value.ref it) (Str.ofString "__length_hint__") >>= _) _ _ _;refine wpAny_bind (wpAny_specialOf hT iw ?_);generalize hid:("list_reverseiterator.__length_hint__" : String)=id0
 wp_delta
 rw [show splitId id0=some ("list_reverseiterator","__length_hint__") from by subst hid;decide +kernel];subst hid;refine wpAny_bind (wpAny_isInstance (T := "list_reverseiterator") (b:=true) hT (by rw [isSubtype_type];kernel_rfl) ?_);refine wpAny_ite_split (fun hab=>absurd hab (by decide)) (fun _=>?_);refine wpAny_ite_split (fun _=>?_) (fun hab=>absurd (by decide +kernel) hab);refine wpAny_ite_split (fun hab=>absurd hab (by decide +kernel)) (fun _=>?_);exact wpAny_pure h
noncomputable abbrev PJ (items:Array Value):Nat→Value→Prop:=fun i v=>items[items.size - 1 - i]? = some v
theorem Tz {R:Result→Shared→Prop} (hh:A.handled=none) (hit:s.heap.IsRevIter it l ((items.size:Int) - 1 - ((0:Nat):Int))) (hl:s.heap.IsList l items) (hne:l ≠ it) (S:Addr) (hSi:S ≠ it) (hSl:S ≠ l) (res:Value) (c₀:Nat)
  (hS:s.heap.get? S=some { cls:=.type "list",data:=.seq #[] c₀ }) (hn:items.size ≤ sizeLine)
  (hR:∀ h' tk acc c,(∀ b o,b ≠ S→b ≠ it→s.heap.get? b=some o→h'.get? b=some o)→h'.get? S=some { cls:=.type "list",dict:=none,data:=.seq acc c,slots:=#[] }→ItemsOf (PJ items) acc items.size→R (.ok (.ret res)) { s with heap:=h',toks:=tk }) :
  wpAny (model prog w) A.in1 (Builtin.List.listExtendWith (.ref S) (.ref it) res)
   (fun fin s'=>match fin with | .done f=>R (.ok f) s' | .again c'=>c'.quiet=true∧codeAny (model prog w) A c' R s') (fun e s'=>R (.error e) s') s:=by
 unfold Builtin.List.listExtendWith;refine wpAny_bind (wpAny_typeOf hit.typeIs ?_);have h1:Builtin.List.listSameRef (.ref S) (.ref it)=false:=by simp [Builtin.List.listSameRef,hSi]
 have h2:(Value.type "list_reverseiterator" == Value.type "list")=false:=by decide
 have h3:(Value.type "list_reverseiterator" == Value.type "tuple")=false:=by decide
 simp only [h1,h2,h3,Bool.or_false,Bool.false_eq_true,if_false];refine wpAny_bind (wpAny_pyIter_revIter hit ?_);refine wpAny_bind (wpAny_holding (fF hit.typeIs ?_));refine wpAny_ite_split (fun hab=>absurd hab (by decide +kernel)) (fun _=>?_);have W:=Walks.listRev (prog:=prog) (w:=w) (A:=A.in1) hh it l hne items;have hSf:S ∉ [it,l]:=by simp only [List.mem_cons,List.not_mem_nil,or_false,not_or];exact ⟨hSi,hSl⟩
 refine wpAny_pure ⟨plainId_quiet PySem.F.plain_extend_loop _,codeAny_extend_loopS W.toS hn S hSf res items.size 0 s #[] c₀ rfl (Nat.zero_le _) ⟨Nat.zero_le _,hit,hl⟩ hS (ItemsOf.nil _) fun s' acc c hm hS' hacc=>?_⟩;rw [Moved.eq_with hm];refine hR s'.heap s'.toks acc c (fun b o hb hi e=>hm.heap b o (fun hmem=>?_) e) hS' hacc;rcases List.mem_cons.mp hmem with e' | hmem
 ·exact hb e'
 ·exact hi (List.mem_singleton.mp hmem)
theorem Jt {Q:Value→Shared→Prop} (hh:A.handled=none) (hit:s.heap.IsRevIter it l ((items.size:Int) - 1 - ((0:Nat):Int))) (hl:s.heap.IsList l items) (hne:l ≠ it) (hn:items.size ≤ sizeLine)
  (hQ:∀ h' tk acc c,(∀ b o,b ≠ it→s.heap.get? b=some o→h'.get? b=some o)→h'.get? s.heap.objs.size=some { cls:=.type "list",dict:=none,data:=.seq acc c,slots:=#[] }→ItemsOf (PJ items) acc items.size→Q (.ref s.heap.objs.size) { s with heap:=h',toks:=tk }) :
  wpAny (model prog w) A (call (.type "list") [.ref it]) Q E s:=by
 have li:it < s.heap.objs.size:=by obtain ⟨_,e,_⟩:=hit;exact Heap.lt_size e
 have ll:l < s.heap.objs.size:=by obtain ⟨_,e,_⟩:=hl;exact Heap.lt_size e
 refine callType_codes (Q₁:=fun obj s₁=>obj=.ref s.heap.objs.size∧s₁ = { s with heap:=s.heap.push { cls:=.type "list",data:=.seq #[] } }) PySem.F.called_list (PySem.F.typeCall_list_1 _) PySem.F.entry_list_init
  (code_list_new _ ⟨rfl,rfl⟩) fun obj s₁ h₁=>?_
 obtain ⟨rfl,rfl⟩:=h₁;have hS:(s.heap.push { cls:=.type "list",data:=.seq #[] }).get? s.heap.objs.size=some { cls:=.type "list",data:=.seq #[] }:=Heap.get?_push_size _ rfl;refine ⟨⟨_,hS,rfl⟩,PySem.F.args_list_init_2 _ _,?_⟩;show wpAny _ _ (do let old ← Builtin.List.listItems (.ref s.heap.objs.size);Builtin.List.listUpdate (.ref s.heap.objs.size) (fun _=>#[]);letGo old.toList.reverse;Builtin.List.listExtendWith (.ref s.heap.objs.size) (.ref it) .none) _ _ _;refine wpAny_bind ?_;unfold Builtin.List.listItems;refine wpAny_bind (wpAny_seqItems hS rfl (wpAny_pure ?_));show wpAny _ _ (updateSeq s.heap.objs.size (fun _=>#[]) >>= fun _=>letGo (#[]:Array Value).toList.reverse >>= fun _=>Builtin.List.listExtendWith (.ref s.heap.objs.size) (.ref it) .none) _ _ _;refine wpAny_bind (wpAny_updateSeq hS rfl ?_);have hS₂:=Heap.get?_update_self (Obj.mapSeq (fun _=>(#[]:Array Value))) hS rfl;have oth:∀ b o,s.heap.get? b=some o→((s.heap.push { cls:=.type "list",data:=.seq #[] }).update s.heap.objs.size (Obj.mapSeq (fun _=>(#[]:Array Value)))).get? b=some o:=
  fun b o e=>(Heap.get?_update_other _ _ (Ne.symm (Nat.ne_of_lt (Heap.lt_size e)))).trans (Heap.get?_push_of_some _ e)
 refine wpAny_bind (wpAny_letGo ?_);refine Tz (A:=A.in1) hh (hit.at fun o e=>oth _ o e) (hl.at fun o e=>oth _ o e) hne _ (Ne.symm (Nat.ne_of_lt li)) (Ne.symm (Nat.ne_of_lt ll)) .none _ hS₂ hn fun h' tk acc c hk hS' hacc=>?_
 exact ⟨rfl,hQ h' tk acc c (fun b o hb e=>hk b o (Nat.ne_of_lt (Heap.lt_size e)) hb (oth b o e)) hS' hacc⟩
end
section
variable {X:Cx}
noncomputable def Ux (K:PySem.W.Frag) (ta:TA):TE:=fun σ H Q=>ta σ H fun vs H1=>∃ a xs,vs=[.ref a]∧SqL K H1 a xs∧∀ l,H1 l=none→Q (.ref l) (upd H1 l (.lst xs.reverse))
theorem bn {a:Expr} {ta:TA} {p q pos pos':Pos} (hc:X.calm=true) (hg:Gl X "list") (hm:X.mg "list"=none) (hg':Gl X "reversed") (hm':X.mg "reversed"=none) (ha:PA X [a] ta) (hs:starEach [a] X.env=[(false,eval a X.env)]:=by rfl)
  (hs2:starEach [Expr.Call (.Name "reversed" q) [a] [] pos'] X.env=(false,eval (Expr.Call (.Name "reversed" q) [a] [] pos') X.env) :: starEach [] X.env:=by rfl) :
  PE X (.Call (.Name "list" p) [.Call (.Name "reversed" q) [a] [] pos'] [] pos) (Ux X.K ta):=by
 intro pins s σ H Q I h;refine wpAny_Call_Name_kw (il I hg hm Fc ?_);refine PyProof.Rows.callWith_type1 ?_ hs2 rfl;rw [hs2];show wpAny _ _ (spliced ((false,eval (Expr.Call (.Name "reversed" q) [a] [] pos') X.env) :: [])) _ _ s;refine Calls.spliced_cons ?_;refine Call_ (il I hg' hm' Zt (PyProof.Rows.callWith_type1 (thn (ha pos' pins s σ H _ I h) fun us s1 hZ1=>?_) hs rfl));obtain ⟨vs,H1,I1,r1,q1⟩:=hZ1;obtain ⟨a,xs,e,hq,q⟩:=q1;subst e;cases r1 with
 | cons r rr=>
  cases rr;cases r;obtain ⟨its,rv,pl,hz⟩:=I1.list hq;have hl:=rv.length;have hlt:a < s1.heap.objs.size:=by obtain ⟨_,e,_⟩:=pl.isList;exact Heap.lt_size e
  refine call_reversed_list pl.isList ?_;refine Calls.spliced_nil ?_;have hit:(s1.heap.push (revObj a ((its.toArray.size:Int) - 1))).IsRevIter s1.heap.objs.size a ((its.toArray.size:Int) - 1 - ((0:Nat):Int)):=by
   refine ⟨_,Heap.get?_push_size _ rfl,rfl,?_⟩;simp only [revObj];simp
  have kp:∀ b o,s1.heap.get? b=some o→(s1.heap.push (revObj a ((its.toArray.size:Int) - 1))).get? b=some o:=fun b o e=>Heap.get?_push_of_some _ e
  refine Jt (I1.ok.hd hc) hit (pl.isList.at fun o e=>kp _ o e) (Nat.ne_of_lt hlt) (by rw [List.size_toArray];omega) fun h' tk acc c hk e' hacc=>?_
  refine ⟨.ref _,_,I1.laid (o:=.lst xs.reverse) (t':=tk) (fun b u e=>hk b u (Nat.ne_of_lt (Heap.lt_size e)) (kp b u e)) (by rw [Heap.size_push];exact Nat.le_succ _) ⟨by rw [List.length_reverse];omega,acc.toList,c,?_,e'⟩,rfl,q _ (I1.hok.fresh (by rw [Heap.size_push];exact Nat.le_succ _))⟩;have hv:=Ps (f:=fun i=>xs.getD (xs.length - 1 - i) .non) (fun i v hv=>by
   have hv':its.toArray[its.toArray.size - 1 - i]? = some v:=hv;rw [List.size_toArray,← hl,List.getElem?_toArray] at hv';have hj:=(List.getElem?_eq_some_iff.mp hv').1;have hx:xs[xs.length - 1 - i]? = some xs[xs.length - 1 - i]:=List.getElem?_eq_getElem (by omega);obtain ⟨w,hw,rw'⟩:=rv.get hx;rw [hv'] at hw;cases hw;rw [List.getD_eq_getElem?_getD,hx];exact rw') hacc
  have er:(List.range its.toArray.size).map (fun i=>xs.getD (xs.length - 1 - i) .non)=xs.reverse:=by
   rw [List.size_toArray,← hl];refine List.ext_getElem (by simp) fun i h1 h2=>?_
   rw [List.getElem_map,List.getElem_range,List.getElem_reverse,List.getD_eq_getElem?_getD,List.getElem?_eq_getElem (by simp at h2;omega)];rfl
  rw [er] at hv;exact hv
end
section
variable {prog:Program} {w:World} {A:Around} {R:Result→Shared→Prop} {I:Addr} {fp wr:List Addr} {n:Nat} {P:Nat→Value→Prop} {St:Nat→Heap→Prop}
noncomputable def eK (P:Nat→Value→Prop) (bt:Nat→Nat→Bool) (j:Nat) (acc:Array Value):Prop:=(j=0∧acc=#[])∨∃ vb i,j=i + 1∧acc=#[vb,vb]∧P (argBest bt i) vb
theorem ZA (W:Walks prog w A.in1 I fp wr n P St) (bt:Nat→Nat→Bool) (hcmp:CmpOf prog w A.in1 .Lt P bt) (S:Addr) (hSf:S ∉ fp) (dv:Value) (kn:Str) :
  ∀ (k j:Nat) (s:Shared) (acc:Array Value) (c:Nat),n - j=k→j ≤ n→St j s.heap→eK P bt j acc →
  s.heap.get? S=some { cls:=.type "list",dict:=none,data:=.seq acc c,slots:=#[] } →
  (∀ v h' tk,(n=0∧v=dv)∨(0 < n∧P (argBest bt (n - 1)) v)→(∀ b o,b ∉ wr→b ≠ S→s.heap.get? b=some o→h'.get? b=some o)→R (.ok (.ret v)) { s with heap:=h',toks:=tk }) →
  codeAny (model prog w) A (.builtin "min.loop" ⟨[.ref I,.none,.ref S],[(kn,dv)]⟩) R s:=by
 have hSw:S ∉ wr:=fun h=>hSf (W.sub _ h)
 have hname:(toString "min" ++ toString ".loop" : String) = "min.loop" := by decide
 intro k
 induction k with
 | zero=>
  intro j s acc c hk hj hst hB hS hR;have hin:j=n:=by omega
  refine codeAny_builtin PySem.F.entry_min_loop ?_;rw [Around.under_plainId PySem.F.plain_min_loop _];show wpAny _ A.in1 (seqItems? (.ref S) >>= _) _ _ s;refine wpAny_bind (wpAny_seqItems hS rfl ?_);show wpAny _ A.in1 (tryCatch (pyNext (.ref I)) _ >>= _) _ _ s;refine wpAny_bind (wpAny_tryCatch (W.done s _ _ (hin ▸ hst) fun h' tk hk'=>?_));have hS':=hk' S _ hSw hS;rcases hB with ⟨h0,rfl⟩ | ⟨vb,i,hi,rfl,hP⟩
  ·show wpAny _ A.in1 (rule _ >>= _) _ _ _;refine wpAny_bind (wpAny_rule (wpAny_pure ?_));exact hR dv h' tk (.inl ⟨by omega,rfl⟩) fun b o hbw hbS e=>hk' b o hbw e
  ·show wpAny _ A.in1 (updateSeq S (fun _=>#[]) >>= _) _ _ _;refine wpAny_bind ?_;refine wpAny_updateSeq hS' rfl (wpAny_bind (wpAny_letGo (wpAny_pure ?_)));refine hR vb _ tk (.inr ⟨by omega,by rw [show n - 1=i by omega];exact hP⟩) fun b o hbw hbS e=>(Heap.get?_update_other _ _ (Ne.symm hbS)).trans (hk' b o hbw e)
 | succ k ih=>
  intro j s acc c hk hj hst hB hS hR;have hlt:j < n:=by omega
  refine codeAny_builtin PySem.F.entry_min_loop ?_;rw [Around.under_plainId PySem.F.plain_min_loop _];show wpAny _ A.in1 (seqItems? (.ref S) >>= _) _ _ s;refine wpAny_bind (wpAny_seqItems hS rfl ?_);show wpAny _ A.in1 (tryCatch (pyNext (.ref I)) _ >>= _) _ _ s;refine wpAny_bind (wpAny_tryCatch (W.item j s _ _ hlt hst fun v h' tk hP hst' hk'=>?_));have hS':=hk' S _ hSw hS;have put:∀ h'':Heap,h''=h'.update S (Obj.mapSeq (fun _=>#[v,v]))→St (j + 1) h'':=fun h'' e=>by
   subst e;exact W.frame _ _ _ hst' fun b hbf o e=>(Heap.get?_update_other _ _ (fun h:S=b=>hSf (by rw [h];exact hbf))).trans e
  rcases hB with ⟨h0,rfl⟩ | ⟨vb,i,hi,rfl,hPb⟩
  ·show wpAny _ A.in1 (updateSeq S (fun _=>#[v,v]) >>= _) _ _ _;refine wpAny_bind ?_;refine wpAny_updateSeq hS' rfl ?_;rw [hname];refine wpAny_pure ⟨plainId_quiet PySem.F.plain_min_loop _,ih (j + 1) _ #[v,v] _ (by omega) hlt (put _ rfl) (.inr ⟨v,j,rfl,rfl,by subst h0;exact hP⟩) (Heap.get?_update_self _ hS' rfl) fun v' h'' tk'' hP' hk''=>?_⟩;exact hR v' h'' tk'' hP' fun b o hbw hbS e=>hk'' b o hbw hbS ((Heap.get?_update_other _ _ (Ne.symm hbS)).trans (hk' b o hbw e))
  ·subst hi;show wpAny _ A.in1 (tryCatch (holding [v,v] (richCompare .Lt v vb >>= _)) _ >>= _) _ _ _;refine wpAny_bind (wpAny_tryCatch (wpAny_holding (wpAny_bind (hcmp (i + 1) (argBest bt i) v vb _ _ _ hP hPb ?_))));refine wpAny_bind (wpAny_holding (wpAny_truthy_bool ?_));refine wpAny_bind (wpAny_letGo (wpAny_pure ?_));cases hb:bt (i + 1) (argBest bt i) with
   | true=>
    simp only [if_true];refine wpAny_bind ?_;refine wpAny_updateSeq hS' rfl (wpAny_bind (wpAny_letGo ?_));rw [hname];refine wpAny_pure ⟨plainId_quiet PySem.F.plain_min_loop _,ih (i + 1 + 1) _ #[v,v] _ (by omega) hlt (put _ rfl) (.inr ⟨v,i + 1,rfl,rfl,by simp only [argBest,hb,if_true];exact hP⟩) (Heap.get?_update_self _ hS' rfl) fun v' h'' tk'' hP' hk''=>?_⟩;exact hR v' h'' tk'' hP' fun b o hbw hbS e=>hk'' b o hbw hbS ((Heap.get?_update_other _ _ (Ne.symm hbS)).trans (hk' b o hbw e))
   | false=>
    simp only [Bool.false_eq_true,if_false];refine wpAny_bind (wpAny_letGo ?_);rw [hname];refine wpAny_pure ⟨plainId_quiet PySem.F.plain_min_loop _,ih (i + 1 + 1) _ #[vb,vb] c (by omega) hlt hst' (.inr ⟨vb,i + 1,rfl,rfl,by simp only [argBest,hb,Bool.false_eq_true,if_false];exact hPb⟩) hS' fun v' h'' tk'' hP' hk''=>?_⟩;exact hR v' h'' tk'' hP' fun b o hbw hbS e=>hk'' b o hbw hbS (hk' b o hbw e)
end
section
variable {prog:Program} {w:World} {A:Around} {E:Value→Shared→Prop} {s:Shared}
theorem aC (a d:Value):argsOk "min" ⟨[a],[(Str.ofString "default",d)]⟩:=by unfold argsOk;kernel_rfl
theorem JB {l:Addr} {its:Array Value} {dv:Value} {Q:Value→Shared→Prop} (hh:A.handled=none) (hl:s.heap.IsList l its) (ks:List Int) (hk:its.size=ks.length) (hv:∀ (i:Nat) (v:Value),its[i]? = some v→∃ t,v=Value.int (ks.getD i 0) t)
  (hQ:∀ v h' tk,(ks=[]∧v=dv)∨(∃ m t,ks.min? = some m∧v=.int m t)→(∀ b o,s.heap.get? b=some o→h'.get? b=some o)→Q v { s with heap:=h',toks:=tk }) :
  wpAny (model prog w) A (call (.builtin "min") [.ref l] [(Str.ofString "default",dv)]) Q E s:=by
 have hname:(toString "min" ++ toString ".loop" : String) = "min.loop" := by decide
 have hlt:l < s.heap.objs.size:=by obtain ⟨_,e,_⟩:=hl;exact Heap.lt_size e
 refine wpAny_call (codeAny_call_builtin PySem.F.plain_min PySem.F.entry_min ?_);simp only [checkBuiltinCall,PySem.F.kind_min];have key:wpAny (model prog w) A.in1 (Builtin.«min» ⟨[.ref l],[(Str.ofString "default",dv)]⟩) (fun fin s'=>match fin with
   | .done f=>(match (Except.ok f:Result) with | .ok (.ret v)=>Q v s' | .ok _=>False | .error e=>E e s')
   | .again c'=>c'.quiet=true∧codeAny (model prog w) A c' (fun r s'=>match r with | .ok (.ret v)=>Q v s' | .ok _=>False | .error e=>E e s') s') E s:=by
  show wpAny _ A.in1 (Builtin.Builtins.bindParams "min" ["key","default"] 0 ⟨[],[(Str.ofString "default",dv)]⟩ >>= _) _ _ s;refine wpAny_bind (wpAny_of_eq (show Builtin.Builtins.bindParams "min" ["key","default"] 0 ⟨[],[(Str.ofString "default",dv)]⟩=pure [none,some dv] from rfl) ?_);refine wpAny_bind (wpAny_pure ?_);refine wpAny_bind (wpAny_pyIter_list hl ?_);refine wpAny_bind (wpAny_newObj_type ?_);rw [hname];have W:=Walks.list (prog:=prog) (w:=w) (A:=A.in1) hh s.heap.objs.size l (Nat.ne_of_lt hlt) its;have hz1:(s.heap.push { cls:=.type "list_iterator",data:=.fields #[.ref l,.int 0 0] }).objs.size=s.heap.objs.size + 1:=Heap.size_push ..;refine wpAny_pure ⟨plainId_quiet PySem.F.plain_min_loop _,ZA W _ (CmpOf.ints_lt (fun i=>ks.getD i 0) fun i v h=>hv i v h) _ ?_ dv _ its.size 0 _ #[] _ rfl (Nat.zero_le _) ?_ (.inl ⟨rfl,rfl⟩) (Heap.get?_push_size _ rfl) fun v h' tk hP hk'=>?_⟩
  ·show (s.heap.push _).objs.size ∉ _;rw [hz1];simp only [List.mem_cons,List.not_mem_nil,or_false,not_or];exact ⟨Nat.succ_ne_self _,Ne.symm (Nat.ne_of_lt (Nat.lt_succ_of_lt hlt))⟩
  ·exact W.frame 0 (s.heap.push { cls:=.type "list_iterator",data:=.fields #[.ref l,.int 0 0] }) _ ⟨⟨_,Heap.get?_push_size _ rfl,rfl,rfl⟩,hl.push _⟩ fun b _ o e=>Heap.get?_push_of_some _ e
  ·refine hQ v h' tk ?_ fun b o e=>hk' b o (fun hm=>?_) ?_ (Heap.get?_push_of_some _ (Heap.get?_push_of_some _ e))
   ·rcases hP with ⟨h0,h1⟩ | ⟨h0,h1⟩
    ·exact .inl ⟨List.length_eq_zero_iff.mp (by omega),h1⟩
    ·obtain ⟨t,e⟩:=hv _ v h1;have hb:=argBest_lt (fun i=>ks.getD i 0) (its.size - 1);refine .inr ⟨_,t,?_,e⟩;rw [List.min?_eq_some_iff];have hi:argBest (fun i j=>decide (ks.getD i 0 < ks.getD j 0)) (its.size - 1) < ks.length:=by omega
     refine ⟨?_,fun b hb'=>?_⟩
     ·rw [List.getD_eq_getElem?_getD,List.getElem?_eq_getElem hi];exact List.getElem_mem hi
     ·obtain ⟨j,hj,rfl⟩:=List.getElem_of_mem hb';have:=hb.2 j (by omega);rw [List.getD_eq_getElem?_getD (i:=j),List.getElem?_eq_getElem hj] at this;exact this
   ·rw [List.mem_singleton.mp hm] at e;exact absurd (Heap.lt_size e) (Nat.lt_irrefl _)
   ·rw [hz1];exact Nat.ne_of_lt (Nat.lt_succ_of_lt (Heap.lt_size e))
 cases hsig:Manifest.signature? "min" with
 | none=>exact wpAny_pure key
 | some sig=>
  have ha:=aC (.ref l) dv;have ha':Bind.checkArgs "min" sig ⟨[.ref l],[(Str.ofString "default",dv)]⟩=pure ():=by simpa only [argsOk,hsig] using ha
  simp only [ha'];exact wpAny_pure key
end
section
variable {X:Cx}
noncomputable def uK (K:PySem.W.Frag) (ta:TA) (td:TE):TE:=fun σ H Q=>ta σ H fun vs H1=>td σ H1 fun y H2=>∃ l ks,vs=[.ref l]∧SqL K H2 l (List.map V.int ks)∧Q (match ks.min? with | some m=>.int m | none=>y) H2
theorem LH {a d:Expr} {ta:TA} {td:TE} {p kp pos:Pos} (hc:X.calm=true) (hg:Gl X "min") (hm:X.mg "min"=none) (ha:PA X [a] ta) (hd:PE X d td)
  (he:∀ pos,backTo pos (starEach [a] X.env)=(false,eval a X.env) :: backTo pos (starEach [] X.env):=by intro _;rfl) (hpl:∀ pos,(backTo pos (starEach [a] X.env)).any (·.1)=false:=by intro _;rfl) :
  PE X (.Call (.Name "min" p) [a] [⟨some "default",d,kp⟩] pos) (uK X.K ta td):=by
 intro pins s σ H Q I h;refine wpAny_Call_Name_kw (il I hg hm (show bootBuiltins "min"=some (.builtin "min") by decide +kernel) ?_);refine callWith_kw (id := "min") (thn (ha pos pins s σ H _ I h) fun us s1 hZ1=>?_) (he:=he pos) (hplain:=hpl pos);obtain ⟨vs,H1,I1,r1,q1⟩:=hZ1;refine kws_cons (thn (hd pins s1 σ H1 _ I1 q1) fun v s2 ⟨y,H2,I2,r2,q2⟩=>kws_nil ?_);obtain ⟨l,ks,rfl,hq,q⟩:=q2;cases r1 with
 | cons r rr=>
  cases rr;cases r;obtain ⟨its,rv,pl,hz⟩:=I2.list hq;have hl:=rv.length;rw [List.length_map] at hl;refine JB (I2.ok.hd hc) pl.isList ks (by rw [List.size_toArray];omega) (fun i v hv=>?_) fun v' h' tk hv' hk=>⟨_,H2,I2.kept hk,?_,q⟩
  ·rw [List.getElem?_toArray] at hv;have hi:i < ks.length:=by have:=(List.getElem?_eq_some_iff.mp hv).1;omega
   obtain ⟨w,hw,rw'⟩:=rv.get (show (ks.map V.int)[i]? = some (.int ks[i]) by rw [List.getElem?_map,List.getElem?_eq_getElem hi];rfl);rw [hv] at hw;cases hw;rw [List.getD_eq_getElem?_getD,List.getElem?_eq_getElem hi];exact rw'
  ·rcases hv' with ⟨rfl,rfl⟩ | ⟨m,t,hm,rfl⟩
   ·exact r2
   ·rw [hm];exact ⟨t,rfl⟩
end
end L2
namespace L2
open PySem PySem.Spec PyProof.Rows
structure PM (K:PySem.W.Frag) (C:Addr):Prop where
 x:EM K C
 ha:PySem.W.findIn K (.ref C) "__class__"=some (some (.builtin "object.__class__"))
 hn:PySem.W.specialIn K (.builtin "object.__class__") "__get__"=some (some (.builtin "getset_descriptor.__get__"))
 htk:PySem.W.takesIn K (.builtin "object.__class__")=some true
 hm:PySem.W.mroIn K C (.type "object")=some true
section
variable {prog:Program} {w:World} {A:Around} {E:Value→Shared→Prop} {s:Shared} {K:PySem.W.Frag} {x C:Addr} {od:Obj} {dx:Addr} {vs:Array Value} {sl:Array (Option Value)}
end
section
variable {X:Cx}
end
theorem Lb.quiet {P:Program} {w:World} {K:PySem.W.Frag} {mg:Str→Option Value} {base:Heap} {k:Nat} {f:Addr} {fd:FuncData} {ps:List Str} {sp sp':Sp} (F:Lb P w K mg base (CX1 P w) k f fd ps sp)
  (h:∀ vs H Q E,sp' vs H Q E→sp vs H Q (fun _ _ _=>False)):Lb P w K mg base CX0 k f fd ps sp':=by
 refine ⟨fun vs H Q E q=>F.len vs H _ _ (h vs H Q E q),fun A outer s H args us vs Q E hr he hb hv hs=>?_⟩;refine codeAny_mono (F.run A outer s H args us vs Q _ hr he hb hv (h vs H Q E hs)) fun r s' hq=>?_
 cases r with
 | error e=>
  obtain ⟨x,C,od,H',T,_,_,_,_,_,_,_,_,_,z⟩:=hq;exact z.elim
 | ok fl=>cases fl <;> exact hq
end L2
namespace L2
open PySem PySem.Spec PyProof.Rows
structure mn (k:Nat) (A:Around):Prop where
 dp:A.depth + 3 * k + 5 < recursionLimit
 un:A.units + 16 * k + 200 < cLine
theorem Ej.h {k:Nat} {A:Around} (r:Ej k A):mn k A:=⟨r.dp,r.un⟩
theorem mn.mono {j k:Nat} {A:Around} (r:mn k A) (h:j ≤ k):mn j A:=⟨by have:=r.dp;omega,by have:=r.un;omega⟩
theorem mn.deeper {k:Nat} {A:Around} (r:mn (k + 1) A) (env:Env):mn k (A.deeper env):=
 ⟨by have:=r.dp;show A.depth + 1 + 3 * k + 5 < _;omega,by have:=r.un;show A.units + 3 + 16 * k + 200 < _;omega⟩
theorem mn.depth {k:Nat} {A:Around} (r:mn k A):A.depth < recursionLimit:=by have:=r.dp;omega
theorem mn.units {k:Nat} {A:Around} (r:mn k A):A.units + 64 < cLine:=by have:=r.un;omega
theorem Ej.hn {k:Nat} {X:Cx} {e:Value} (r:Ej k X.A):mn k (X.hn e).A:=⟨r.dp,r.un⟩
structure AI (P:Program) (w:World) (K:PySem.W.Frag) (mg:Str→Option Value) (base:Heap) (CX:CXT) (k:Nat) (f:Addr) (fd:FuncData) (ps:List Str) (sp:Sp):Prop where
 len:∀ vs H Q E,sp vs H Q E→vs.length=ps.length
 run:∀ (A:Around) (outer:List Env) (s:Shared) (H:Hp) (args:Args) (us:List Value) (vs:List V) (Q:VK) (E:XK),mn k A→VA P w K mg base A outer s H→BindsTo s fd args (ps.zip us)→ld vs us→sp vs H Q E →
  codeAny (model P w) A (.call (.ref f) args) (CR CX outer P w H s Q E) s
theorem AI.mono {P:Program} {w:World} {K:PySem.W.Frag} {mg:Str→Option Value} {base:Heap} {CX:CXT} {j k:Nat} {f:Addr} {fd:FuncData} {ps:List Str} {sp:Sp} (F:AI P w K mg base CX j f fd ps sp) (h:j ≤ k) :
  AI P w K mg base CX k f fd ps sp:=⟨F.len,fun A outer s H args us vs Q E hr=>F.run A outer s H args us vs Q E (hr.mono h)⟩
section
variable {X:Cx} {CX:CXT} {k:Nat} {f C:Addr} {fd:FuncData} {ps:List Str} {sp:Sp} {dvs:List V} {ds:List Value} {E:XK} {x m:Str} {p pos apos:Pos} {e o:Expr} {es:List Expr} {ta:TE} {t:TA}
end
noncomputable def wL (CX:CXT) (P:Program) (w:World) (K:PySem.W.Frag) (mg:Str→Option Value) (base:Heap) (N:List Str) (qual:Str) (scope:Scope) (f:Addr) (cd:Value) (A:Around) (outer:List Env) (s:Shared) (H:Hp) (E:XK):Cx where
 prog:=P
 w:=w
 K:=K
 mg:=mg
 base:=base
 A:=A.deeper (envOfC qual scope s.heap.objs.size f cd)
 N:=N
 s₀:=s
 H₀:=H
 env:=envOfC qual scope s.heap.objs.size f cd
 outer:=outer
 stack:=envOfC qual scope s.heap.objs.size f cd :: outer
 ex:=[]
 calm:=false
 fn:=fun _=>true
 pn:=[]
 xe:=fun e s'=>wpAny (model P w) (A.deeper (envOfC qual scope s.heap.objs.size f cd)) (leaving (envOfC qual scope s.heap.objs.size f cd) e) (fun _ s''=>CX outer H s E e s'') (fun e' s''=>CX outer H s E e' s'') s'
section
variable {P:Program} {w:World} {K:PySem.W.Frag} {mg:Str→Option Value} {base:Heap}
end
end L2
namespace L2
open PySem PySem.Spec PyProof.Rows
section
variable {X:Cx}
end
end L2
namespace L2
open PySem PySem.Spec PyProof.Rows
section
variable {α:Type} {M:List α→Prop}
theorem us1 (h:∀ a,M [a]):∀ us:List α,us.length=1→M us | [a],_=>h a
theorem us2 (h:∀ a b,M [a,b]):∀ us:List α,us.length=2→M us | [a,b],_=>h a b
theorem us3 (h:∀ a b c,M [a,b,c]):∀ us:List α,us.length=3→M us | [a,b,c],_=>h a b c
theorem us4 (h:∀ a b c d,M [a,b,c,d]):∀ us:List α,us.length=4→M us | [a,b,c,d],_=>h a b c d
theorem us5 (h:∀ a b c d e,M [a,b,c,d,e]):∀ us:List α,us.length=5→M us | [a,b,c,d,e],_=>h a b c d e
theorem us7 (h:∀ a b c d e f g,M [a,b,c,d,e,f,g]):∀ us:List α,us.length=7→M us | [a,b,c,d,e,f,g],_=>h a b c d e f g
theorem us8 (h:∀ a b c d e f g i,M [a,b,c,d,e,f,g,i]):∀ us:List α,us.length=8→M us | [a,b,c,d,e,f,g,i],_=>h a b c d e f g i
end
structure XB (K:PySem.W.Frag) (C:Addr):Prop where
 hd:PySem.W.hasDictIn K C=true
 ov:((PySem.W.clsIn K C).any fun cd=>kH cd.mro)=true
 sa:PySem.W.findIn K (.ref C) "__setattr__"=some (some (.builtin "object.__setattr__"))
 ga:PySem.W.findIn K (.ref C) "__getattribute__"=some (some (.builtin "BaseException.__getattribute__"))
 gt:PySem.W.findIn K (.ref C) "__getattr__"=some none
structure IB (K:PySem.W.Frag) (C:Addr):Prop where
 ha:PySem.W.findIn K (.ref C) "__class__"=some (some (.builtin "object.__class__"))
 hn:PySem.W.specialIn K (.builtin "object.__class__") "__get__"=some (some (.builtin "getset_descriptor.__get__"))
 htk:PySem.W.takesIn K (.builtin "object.__class__")=some true
 hm:PySem.W.mroIn K C (.type "object")=some true
end L2
namespace L2
open PySem PySem.Spec PyProof.Rows
theorem Dz {ks:List Int}:∀ {its:List Value},ld (ks.map V.int) its→∃ xs:List (Int × Tok),its=xs.map (fun p=>Value.int p.1 p.2)∧xs.map (·.1)=ks:=by
 induction ks with
 | nil=>intro its r;cases r;exact ⟨[],rfl,rfl⟩
 | cons k ks ih=>
  intro its r;cases r with
  | cons h t=>
   obtain ⟨xs,e1,e2⟩:=ih t;obtain ⟨tk,rfl⟩:=(show ∃ t,_=Value.int k t from h);exact ⟨(k,tk) :: xs,by rw [List.map_cons,← e1],by rw [List.map_cons,e2]⟩
section
variable {X:Cx}
end
end L2
namespace L2
open PySem PySem.Spec PyProof.Rows
noncomputable def HJ (p d:Addr):Heap→Prop:=fun h=>PySem.W.KdlKeysView h p d
noncomputable def ZK (p d:Addr):Heap→Prop:=fun h=>h.IsValuesView p d
theorem HJ.ok {P:Program} {w:World} {H:Hp} {h:Heap} {p d:Addr} (z:HJ p d h):Td P w H h p (.ext (HJ p d)):=
 ⟨z,let ⟨o,ho,_⟩:=z;⟨o,ho⟩,fun _ _ z1 k=>let ⟨o,ho,x⟩:=z1;⟨o,k o ho,x⟩⟩
theorem ZK.ok {P:Program} {w:World} {H:Hp} {h:Heap} {p d:Addr} (z:ZK p d h):Td P w H h p (.ext (ZK p d)):=
 ⟨z,let ⟨o,ho,_⟩:=z;⟨o,ho⟩,fun _ _ z1 k=>let ⟨o,ho,x⟩:=z1;⟨o,k o ho,x⟩⟩
section
variable {X:Cx}
noncomputable def fw:V→List V→Hp→VK→Prop:=fun x vs H Q=>∃ d kvs,x=.ref d∧vs=[]∧H d=some (.dK kvs)∧∀ p,H p=none→Q (.ref p) (upd H p (.ext (HJ p d)))
end
end L2
namespace L2
open PySem PySem.Spec PyProof.Rows
noncomputable abbrev TF:=St→Hp→Str→(Str→Hp→Prop)→Prop
section
variable {X:Cx} {e:Expr} {es:List Expr} {t:TF} {te:TE} {pos:Pos}
end
end L2
namespace L2
open PySem PySem.Spec PyProof.Rows
noncomputable def fL (p:Addr) (a b c:Int):Heap→Prop:=fun h=>∃ t u v,IsRange h p a b c t u v
theorem fL.ok {P:Program} {w:World} {H:Hp} {h:Heap} {p:Addr} {a b c:Int} (z:fL p a b c h):Td P w H h p (.ext (fL p a b c)):=
 ⟨z,let ⟨_,_,_,e⟩:=z;⟨_,e⟩,fun _ _ z1 k=>let ⟨t,u,v,e⟩:=z1;⟨t,u,v,k _ e⟩⟩
section
variable {X:Cx}
end
end L2
namespace L2
open PySem PySem.Spec PyProof.Rows
noncomputable def AM (c:Addr) (qual:Str):Heap→Prop:=fun h=>h.CodeRec (.ref c) qual
noncomputable def Tab (H:Hp) (Pt:Addr) (pos:Pos) (qual:Str):Prop:=
 ∃ ps,H Pt=some (.tbl ps)∧(ps=#[]∨∃ c',ps=#[rawInt pos.line,rawInt pos.col,.ref c']∧H c'=some (.ext (AM c' qual)))
noncomputable def tw (Pt:Addr) (H H':Hp):Prop:=∀ b o,b ≠ Pt→H b=some o→H' b=some o
theorem tw.refl (Pt:Addr) (H:Hp):tw Pt H H:=fun _ _ _ h=>h
theorem tw.trans {Pt:Addr} {H H1 H2:Hp} (a:tw Pt H H1) (b:tw Pt H1 H2):tw Pt H H2:=fun c o n h=>b c o n (a c o n h)
theorem Nb.p {Pt:Addr} {H H':Hp} (s:Nb H H'):tw Pt H H':=fun b o _ h=>s b o h
theorem Tab.ne {H:Hp} {Pt b:Addr} {pos:Pos} {qual:Str} {o:HO} (t:Tab H Pt pos qual) (h:H b=some o) (ho:∀ ps,o ≠ .tbl ps):b ≠ Pt:=fun e=>by
 obtain ⟨ps,e1,_⟩:=t;subst e;rw [e1] at h;exact ho ps (Option.some.inj h).symm
theorem Tab.step {H H':Hp} {Pt:Addr} {pos:Pos} {qual:Str} (t:Tab H Pt pos qual) (s:Nb H H'):Tab H' Pt pos qual:=by
 obtain ⟨ps,e,d⟩:=t;refine ⟨ps,s _ _ e,?_⟩;rcases d with d | ⟨c',d,e'⟩
 ·exact .inl d
 ·exact .inr ⟨c',d,s _ _ e'⟩
structure NM (X:Cx) (c Pt:Addr):Prop where
 code:X.env.code=.ref c
 hd:PySem.W.CodeHd X.base c Pt
 bm:X.base.BuiltinsAt X.mg Pt
section
variable {X:Cx} {pins:List (Addr × Obj)} {σ:St} {H:Hp} {s:Shared} {params:Arguments} {body:Expr} {scope:Scope} {pos:Pos} {c Pt:Addr} {clos:List (Str × Addr)} {Q:Value→Shared→Prop}
end
section
variable {P:Program} {w:World} {K:PySem.W.Frag} {mg:Str→Option Value} {base:Heap}
end
structure QM (p y:Str) (sc:Scope):Prop where
 kind:sc.kind=.function
 co:sc.isCoroutine=false
 gen:sc.isGenerator=false
 ne:p ≠ y
 par:sc.names.lookup p=some .local
 yf:sc.names.lookup y=some .free
 nocell:∀ z ∈ sc.names,z.2 ≠ .cell
 one:∀ z ∈ sc.names,z.2=.free→z.1=y
section
variable {X:Cx} {pins:List (Addr × Obj)} {σ:St} {H:Hp} {s:Shared} {k:Nat} {f c' cl:Addr} {q p y:Str} {params:Arguments} {body:Expr} {scope:Scope} {v:V} {t:TE}
end
end L2
namespace L2
open PySem PySem.Spec PyProof.Rows
end L2
namespace L2
open PySem PySem.Spec PyProof.Rows
section
variable {P:Program} {w:World} {A:Around} {E:Value→Shared→Prop} {s:Shared}
structure OM (h:Heap) (d:Addr) (o:Obj) (es:Array DictEntry) (ep:Nat):Prop where
 at_:h.get? d=some o
 ex:o.ExactDict
 dat:o.data=.dict es ep
end
noncomputable def AtO (a:Addr) (o:Obj):Heap→Prop:=fun h=>h.get? a=some o
structure MM (P:Program) (w:World) (H:Hp) (a:Addr) (kvs:List (List Key × V)) (o:Obj) (es:Array DictEntry) (ep:Nat) (xs:List (List Key × Addr × Value)):Prop where
 at_:H a=some (.ext (AtO a o))
 ex:o.ExactDict
 dat:o.data=.dict es ep
 ent:es.toList=xs.map (entryOfKey (tupleKind (Ze P w)))
 nd:(xs.map (·.1)).Nodup
 ks:Paired (fun (p:List Key × V) (q:List Key × Addr × Value)=>p.1=q.1∧H q.2.1=some (.tup (p.1.map kV))∧zd p.2 q.2.2) kvs xs
 sz:kvs.length ≤ sizeLine
 ns:(a == sysModules)=false
section
variable {P:Program} {w:World} {H H':Hp} {h:Heap} {a:Addr} {kvs:List (List Key × V)}
end
section
variable {X:Cx} {pins:List (Addr × Obj)} {σ:St} {H:Hp} {s:Shared} {a b:Addr} {kvs:List (List Key × V)} {k:List Key} {v:V} {r:Value} {A:Around} {E:Value→Shared→Prop}
end
section
variable {X:Cx} {o i e value:Expr} {pos pos' tpos:Pos} {td ty tv:TE}
end
section
variable {X:Cx} {tg:Expr}
end
end L2
namespace L2
open PySem PySem.Spec PyProof.Rows
noncomputable def bL (p d:Addr):Heap→Prop:=fun h=>h.IsItemsView p d
theorem bL.ok {P:Program} {w:World} {H:Hp} {h:Heap} {p d:Addr} (z:bL p d h):Td P w H h p (.ext (bL p d)):=
 ⟨z,let ⟨o,ho,_⟩:=z;⟨o,ho⟩,fun _ _ z1 k=>let ⟨o,ho,x⟩:=z1;⟨o,k o ho,x⟩⟩
structure iL (H H':Hp) (l:Addr) (as:List Addr) (kvs:List (Key × V)):Prop where
 same:∀ b o,H b=some o→H' b=some o
 fresh:H l=none
 frAll:∀ a ∈ as,H a=none
 at_:H' l=some (.lst (as.map V.ref))
 len:as.length=kvs.length
 al:∀ (j:Nat) (a:Addr) (q:Key × V),as[j]? = some a→kvs[j]? = some q→H' a=some (.tup [kV q.1,q.2])
 only:∀ b o,H' b=some o→H b=some o∨o=.lst (as.map V.ref)∨∃ q ∈ kvs,o=.tup [kV q.1,q.2]
section
variable {X:Cx}
end
end L2
namespace L2
open PySem PySem.Spec PyProof.Rows
section
open AutoSeq1 (wpAny_loadPart')
open MeetsSeq MeetsSeq2 MeetsSeq3 SeqRoads2
variable {P:Program} {w:World} {l b:Addr} {xs ys:Array Value} {n m:Nat} {dd de:Option Addr} {sl sm:Array (Option Value)}
end
section
variable {X:Cx} {pins:List (Addr × Obj)} {σ:St} {H:Hp} {s:Shared}
structure DL (H:Hp) (p:Addr) (ps:List Addr) (ks:List (List (Key × V))):Prop where
 at_:H p=some (.lst (ps.map V.ref))
 len:ps.length=ks.length
 al:∀ (j:Nat) (a:Addr) (kvs:List (Key × V)),ps[j]? = some a→ks[j]? = some kvs→H a=some (.dK kvs)
end
section
variable {X:Cx}
end
end L2
namespace L2
open PySem PySem.Spec PyProof.Rows
section
variable {X:Cx} {pins:List (Addr × Obj)} {σ:St} {H:Hp} {s:Shared} {d:Addr} {o:Obj} {kvs:List (Key × V)}
end
section
variable {X:Cx} {tg:Expr}
end
end L2
namespace L2
open PySem PySem.Spec PyProof.Rows
theorem eI (i:Nat) (σ:St) (H:Hp) (Q:VK):jL i σ H Q=(∃ v,σ[i]? = some (some v)∧Q v H):=rfl
theorem mL (v:V) (x_0:St) (H:Hp) (Q:VK):tC v x_0 H Q=(Q v H):=rfl
theorem JL (t:TE) (σ:St) (H:Hp) (Q:(Bool→Hp→Prop)):tB t σ H Q=(t σ H fun x H1=>∃ c,x=.bl c∧Q c H1):=rfl
theorem jH (t u:TT) (σ:St) (H:Hp) (Q:(Bool→Hp→Prop)):bM t u σ H Q=(t σ H fun c H1=>if c=true then u σ H1 Q else Q false H1):=rfl
theorem JK (t u:TT) (σ:St) (H:Hp) (Q:(Bool→Hp→Prop)):tOr t u σ H Q=(t σ H fun c H1=>if c=true then Q true H1 else u σ H1 Q):=rfl
theorem qI (t:TT) (σ:St) (H:Hp) (Q:(Bool→Hp→Prop)):xM t σ H Q=(t σ H fun c H1=>Q (!c) H1):=rfl
theorem lF (ta tb:TE) (σ:St) (H:Hp) (Q:VK):cK ta tb σ H Q=(ta σ H fun x H1=>∃ c,x=.bl c∧if c=true then tb σ H1 Q else Q (.bl false) H1):=rfl
theorem AG (ta tb:TE) (σ:St) (H:Hp) (Q:VK):SL ta tb σ H Q=(ta σ H fun x H1=>∃ c,x=.bl c∧if c=true then Q (.bl true) H1 else tb σ H1 Q):=rfl
theorem wJ (t:TT) (ta tb:TE) (σ:St) (H:Hp) (Q:VK):tIf t ta tb σ H Q=(t σ H fun c H1=>if c=true then ta σ H1 Q else tb σ H1 Q):=rfl
theorem Zx (D:pj) (σ:St) (H:Hp):pJ  D σ H=(D.nx σ H):=rfl
theorem Db (t u:TS) (D:pj) (σ:St) (H:Hp):VL t u D σ H=(t { D with nx:=u D } σ H):=rfl
theorem TD (te:TE) (D:pj) (σ:St) (H:Hp):VJ te D σ H=(te σ H fun _ H1=>D.nx σ H1):=rfl
theorem pH (te:TE) (D:pj) (σ:St) (H:Hp):vL te D σ H=(te σ H D.rt):=rfl
theorem AC (x_0:pj) (x_1:St) (x_2:Hp):MF  x_0 x_1 x_2=(False):=rfl
theorem Mg (i:Nat) (v:V) (σ:St) (H:Hp) (Q:(St→Hp→Prop)):Tv i v σ H Q=(Q (σ.set i (some v)) H):=rfl
theorem CG (vs:List V) (σ:St) (H:Hp) (Q:(St→Hp→Prop)):UK  vs σ H Q=(vs=[]∧Q σ H):=rfl
theorem vE (t:TG) (u:TGs) (vs:List V) (σ:St) (H:Hp) (Q:(St→Hp→Prop)):Bz t u vs σ H Q=(∃ v r,vs=v :: r∧t v σ H fun σ' H'=>u r σ' H' Q):=rfl
theorem YG (K:PySem.W.Frag) (n:Nat) (t:TGs) (v:V) (σ:St) (H:Hp) (Q:(St→Hp→Prop)):IJ K n t v σ H Q=(∃ a xs,v=.ref a∧SqT K H a xs∧xs.length=n∧t xs σ H Q):=rfl
theorem WH (to ti:TE) (t:PK) (v:V) (σ:St) (H:Hp) (Q:(St→Hp→Prop)):sM to ti t v σ H Q=(to σ H fun o H1=>ti σ H1 fun i H2=>t o i v H2 fun H3=>Q σ H3):=rfl
theorem zH (te:TE) (g:TG) (D:pj) (σ:St) (H:Hp):QK te g D σ H=(te σ H fun x H1=>g x σ H1 D.nx):=rfl
theorem lI (i:Nat) (te:TE) (ti:TIp) (D:pj) (σ:St) (H:Hp):qM i te ti D σ H=(∃ x,σ[i]? = some (some x)∧te σ H fun y H1=>ti x y H1 fun z H2=>D.nx (σ.set i (some z)) H2):=rfl
theorem dF (K:PySem.W.Frag) (tl:TE) (σ:St) (H:Hp) (R:(It→Hp→Prop)):BK K tl σ H R=(tl σ H fun x H1=>∃ a,x=.ref a∧(∃ xs,SqL K H1 a xs)∧R (Itl K a) H1):=rfl
theorem QI (r:R2) (ta tb:TE) (σ:St) (H:Hp) (Q:VK):tOp r ta tb σ H Q=(ta σ H fun x H1=>tb σ H1 fun y H2=>r x y H2 Q):=rfl
theorem qJ (r:V→Hp→VK→Prop) (ta:TE) (σ:St) (H:Hp) (Q:VK):tUn r ta σ H Q=(ta σ H fun x H1=>r x H1 Q):=rfl
theorem FL (C:Int→Int→Prop) (g:Int→Int→V) (x:V) (y:V) (H:Hp) (Q:VK):rI C g x y H Q=(∃ i j,x=.int i∧y=.int j∧C i j∧Q (g i j) H):=rfl
theorem lK (g:Int→Int→V) (x:V) (y:V) (H:Hp) (Q:VK):rI0 g x y H Q=(∃ i j,x=.int i∧y=.int j∧Q (g i j) H):=rfl
theorem cL (g:Int→V) (x:V) (H:Hp) (Q:VK):rU g x H Q=(∃ i,x=.int i∧Q (g i) H):=rfl
theorem WJ (x:V) (y:V) (H:Hp) (Q:VK):rEq  x y H Q=(xK x y=true∧Q (.bl (decide (x=y))) H):=rfl
theorem GJ (x:V) (y:V) (H:Hp) (Q:VK):rNe  x y H Q=(xK x y=true∧Q (.bl (!decide (x=y))) H):=rfl
theorem eF (t:TE) (σ:St) (H:Hp) (Q:(Bool→Hp→Prop)):iJ t σ H Q=(t σ H fun x H'=>∃ k,x=.bl k∧Q k H'):=rfl
theorem OH (K:PySem.W.Frag) (ta tv:TE) (f:Str) (D:pj) (σ:St) (H:Hp):lM K ta tv f D σ H=(tv σ H fun y H1=>ta σ H1 fun x H2=>∃ a C dx fs,x=.ref a∧H2 a=some (.ins C dx fs)∧Cls K C∧dc K C f∧fs.length < 1000 ∧
 D.nx σ (upd H2 a (.ins C dx (ai f y fs)))):=rfl
theorem mz (K:PySem.W.Frag) (ta tv:TE) (rd:V→V→Hp→VK→Prop) (f:Str) (D:pj) (σ:St) (H:Hp):gB K ta tv rd f D σ H=(ta σ H fun x H1=>∃ a C dx fs v,x=.ref a∧H1 a=some (.ins C dx fs)∧Cls K C∧dc K C f∧fs.lookup f=some v ∧
 tv σ H1 fun y H2=>rd v y H2 fun z H3=>∃ dx' fs',H3 a=some (.ins C dx' fs')∧fs'.length < 1000∧D.nx σ (upd H3 a (.ins C dx' (ai f z fs')))):=rfl
theorem XH (x:V) (y:V) (H:Hp) (Q:VK):nM  x y H Q=(∃ i j,x=.int i∧y=.int j∧Q (.int (i + j)) H):=rfl
theorem NH (x_0:St) (H:Hp) (Q:(List V→Hp→Prop)):TK  x_0 H Q=(Q [] H):=rfl
theorem GD (ta:TE) (tr:TA) (σ:St) (H:Hp) (Q:(List V→Hp→Prop)):GI ta tr σ H Q=(ta σ H fun x H1=>tr σ H1 fun xs H2=>Q (x :: xs) H2):=rfl
theorem UH (t:TA) (σ:St) (H:Hp) (Q:VK):WL t σ H Q=(t σ H fun xs H1=>xs.length ≤ sizeLine∧∀ p,H1 p=none→Q (.ref p) (upd H1 p (.tup xs))):=rfl
theorem vI (t:TA) (σ:St) (H:Hp) (Q:VK):yM t σ H Q=(t σ H fun xs H1=>xs.length ≤ sizeLine∧∀ p,H1 p=none→Q (.ref p) (upd H1 p (.lst xs))):=rfl
theorem VD (sp:Sp) (dvs:List V) (E:XK) (t:TA) (σ:St) (H:Hp) (Q:VK):FH sp dvs E t σ H Q=(t σ H fun vs H1=>sp (vs ++ dvs) H1 Q E):=rfl
theorem sF (C:Addr) (m:Str) (sp:Sp) (dvs:List V) (E:XK) (ta:TE) (t:TA) (σ:St) (H:Hp) (Q:VK):KH C m sp dvs E ta t σ H Q=(ta σ H fun x H1=>∃ a dx fs,x=.ref a∧H1 a=some (.ins C dx fs)∧fs.lookup m=none ∧
 t σ H1 fun vs H2=>sp (x :: (vs ++ dvs)) H2 Q E):=rfl
theorem IE (C:Addr) (sp:Sp) (dvs:List V) (E:XK) (t:TA) (σ:St) (H:Hp) (Q:VK):oJ C sp dvs E t σ H Q=(t σ H fun vs H1=>∀ x dx,H1 x=none→H1 dx=none→dx ≠ x →
 sp (.ref x :: (vs ++ dvs)) (upd (upd H1 dx (.own x)) x (.ins C dx [])) (fun v H2=>v=.non∧Q (.ref x) H2) E):=rfl
theorem WI (r:List V→Hp→VK→Prop) (t:TA) (σ:St) (H:Hp) (Q:VK):tCB r t σ H Q=(t σ H fun vs H1=>r vs H1 Q):=rfl
theorem iz (x_0:St) (H:Hp) (Q:(Option Int→Hp→Prop)):LB  x_0 H Q=(Q none H):=rfl
theorem UE (t:TE) (σ:St) (H:Hp) (Q:(Option Int→Hp→Prop)):mK t σ H Q=(t σ H fun x H1=>∃ i,x=.int i∧Q (some i) H1):=rfl
theorem OJ (r:V→Option Int→Option Int→Hp→VK→Prop) (te:TE) (tl th:TO) (σ:St) (H:Hp) (Q:VK):tSl r te tl th σ H Q=(te σ H fun x H1=>tl σ H1 fun l H2=>th σ H2 fun u H3=>r x l u H3 Q):=rfl
theorem BG (K:PySem.W.Frag) (x:V) (y:V) (H:Hp) (Q:VK):uM K x y H Q=(∃ p xs i v,x=.ref p∧y=.int i∧SqL K H p xs∧atI xs i=some v∧Q v H):=rfl
theorem iH (K:PySem.W.Frag) (x:V) (y:V) (H:Hp) (Q:VK):PL K x y H Q=(∃ p xs i v,x=.ref p∧y=.int i∧SqT K H p xs∧atI xs i=some v∧Q v H):=rfl
theorem WG (x:V) (y:V) (H:Hp) (Q:VK):wM  x y H Q=(∃ z i c,x=.str z∧y=.int i∧z.length ≤ sizeLine∧atI z.cps.toList i=some c∧Q (.str ⟨#[c]⟩) H):=rfl
theorem yD (o:V) (i:V) (v:V) (H:Hp) (Q:(Hp→Prop)):II  o i v H Q=(∃ p xs k j,o=.ref p∧i=.int k∧H p=some (.lst xs)∧ixN xs.length k=some j∧Q (upd H p (.lst (xs.set j v)))):=rfl
theorem vH (K:PySem.W.Frag) (x:V) (lo:Option Int) (hi:Option Int) (H:Hp) (Q:VK):kM K x lo hi H Q=(∃ a xs,x=.ref a∧SqL K H a xs∧∀ p,H p=none→Q (.ref p) (upd H p (.lst (Wy xs lo hi)))):=rfl
theorem OI (K:PySem.W.Frag) (neg:Bool) (x:V) (y:V) (H:Hp) (Q:VK):rIn K neg x y H Q=(∃ p xs,y=.ref p∧(SqL K H p xs∨SqT K H p xs)∧Bj x=true∧xs.all Bj=true∧Q (.bl (if neg then !inV x xs else inV x xs)) H):=rfl
theorem JH (K:PySem.W.Frag) (T:String) (r:V→List V→Hp→VK→Prop) (to:TE) (σ:St) (H:Hp) (Q:VK):YL K T r to σ H Q=(to σ H fun x H1=>tyV K T x H1∧r x [] H1 Q):=rfl
theorem yJ (K:PySem.W.Frag) (T:String) (r:V→List V→Hp→VK→Prop) (to:TE) (t:TA) (σ:St) (H:Hp) (Q:VK):tBM K T r to t σ H Q=(to σ H fun x H1=>tyV K T x H1∧t σ H1 fun xs H2=>r x xs H2 Q):=rfl
theorem Gz (x:V) (vs:List V) (H:Hp) (Q:VK):RA  x vs H Q=(∃ l xs y,x=.ref l∧vs=[y]∧H l=some (.lst xs)∧xs.length < sizeLine∧Q .non (upd H l (.lst (xs ++ [y])))):=rfl
theorem vw (x:V) (vs:List V) (H:Hp) (Q:VK):Tx  x vs H Q=(∃ l xs,x=.ref l∧vs=[]∧H l=some (.lst xs)∧Q .non (upd H l (.lst xs.reverse))):=rfl
theorem ZH (x:V) (y:V) (H:Hp) (Q:VK):iM  x y H Q=(∃ l k xs,x=.ref l∧y=.int k∧H l=some (.lst xs)∧-(2 ^ 63) ≤ k∧k < 2 ^ 63∧xs.length * k.toNat ≤ sizeLine ∧
 ∀ p,H p=none→Q (.ref p) (upd H p (.lst (List.replicate k.toNat xs).flatten))):=rfl
theorem kF (td ty:TE) (σ:St) (H:Hp) (Q:VK):hJ td ty σ H Q=(td σ H fun x H1=>ty σ H1 fun y H2=>∃ a v,x=.ref a∧wo H2 a y (some v)∧Q v H2):=rfl
theorem Zz (ty td:TE) (σ:St) (H:Hp) (Q:VK):FA ty td σ H Q=(ty σ H fun y H1=>td σ H1 fun x H2=>∃ a o,x=.ref a∧wo H2 a y o∧Q (.bl (!o.isSome)) H2):=rfl
theorem oF (td ty tv:TE) (D:pj) (σ:St) (H:Hp):aK td ty tv D σ H=(tv σ H fun v H1=>td σ H1 fun x H2=>ty σ H2 fun y H3=>∃ a H4,x=.ref a∧nA H3 a y v H4∧D.nx σ H4):=rfl
theorem bD (x_0:St) (H:Hp) (Q:VK):pG  x_0 H Q=(∀ p,H p=none→Q (.ref p) (upd H p (.dK []))):=rfl
theorem ED (x_0:St) (H:Hp) (Q:(Bool→Hp→Prop)):Ez  x_0 H Q=(Q true H):=rfl
theorem qH (tl:TE) (σ:St) (H:Hp) (R:(It→Hp→Prop)):tM tl σ H R=(tl σ H fun x H1=>∃ z,x=.str z∧R (Its (gj z)) H1):=rfl
theorem CH (x:V) (lo:Option Int) (hi:Option Int) (H:Hp) (Q:VK):aM  x lo hi H Q=(∃ z,x=.str z∧z.length ≤ sizeLine∧Q (.str (Txt.slice z lo hi)) H):=rfl
theorem ZD (K:PySem.W.Frag) (x:V) (vs:List V) (H:Hp) (Q:VK):KI K x vs H Q=(∃ sep p ys,x=.str sep∧vs=[.ref p]∧SqL K H p (Hb ys)∧(ys.map (·.length)).sum + ys.length * sep.length ≤ 16777216∧Q (.str (Txt.join sep ys)) H):=rfl
theorem uC (x:V) (vs:List V) (H:Hp) (Q:VK):eG  x vs H Q=(∃ z y,x=.str z∧vs=[.str y]∧y.length ≠ 0∧z.length + 2 ≤ sizeLine∧(Txt.split z y).length ≤ sizeLine∧∀ p,H p=none→Q (.ref p) (upd H p (.lst (Hb (Txt.split z y))))):=rfl
theorem UB (OK:Addr→Prop) (m:Str) (SPV:Addr→Sp) (E:XK) (ta:TE) (t:TA) (σ:St) (H:Hp) (Q:VK):IF OK m SPV E ta t σ H Q=(ta σ H fun x H1=>∃ a C dx fs,x=.ref a∧H1 a=some (.ins C dx fs)∧OK C∧fs.lookup m=none ∧
 t σ H1 fun vs H2=>SPV C (x :: vs) H2 Q E):=rfl
theorem iE (K:PySem.W.Frag) (ta:TA) (σ:St) (H:Hp) (R:(It→Hp→Prop)):nK K ta σ H R=(ta σ H fun vs H1=>∃ a,vs=[.ref a]∧(∃ xs,SqL K H1 a xs)∧R (Ite K a) H1):=rfl
theorem nH (K:PySem.W.Frag) (ta:TA) (σ:St) (H:Hp) (R:(It→Hp→Prop)):QL K ta σ H R=(ta σ H fun vs H1=>∃ a b,vs=[.ref a,.ref b]∧(∃ xs,SqL K H1 a xs)∧(∃ ys,SqL K H1 b ys)∧R (Itz K a b) H1):=rfl
theorem yI (K:PySem.W.Frag) (x:V) (y:V) (H:Hp) (Q:VK):pM K x y H Q=(∃ p q b,x=.ref p∧y=.ref q∧EqH K H 8 (.ref p) (.ref q) b∧Q (.bl (!b)) H):=rfl
theorem RH (K:PySem.W.Frag) (x:V) (y:V) (H:Hp) (Q:VK):ZL K x y H Q=(∃ p q b,x=.ref p∧y=.ref q∧EqH K H 8 (.ref p) (.ref q) b∧Q (.bl b) H):=rfl
theorem mE (ta:TA) (σ:St) (H:Hp) (R:(It→Hp→Prop)):NJ ta σ H R=(ta σ H fun vs H1=>∃ i j:Int,vs=[.int i,.int j,.int (-1)]∧(-1073741824 ≤ i∧i < 1073741824∧-1073741824 ≤ j∧j < 1073741824)∧R (Itd i (i - j).toNat) H1):=rfl
theorem ww (K:PySem.W.Frag) (ta:TA) (σ:St) (H:Hp) (Q:VK):Ux K ta σ H Q=(ta σ H fun vs H1=>∃ a xs,vs=[.ref a]∧SqL K H1 a xs∧∀ l,H1 l=none→Q (.ref l) (upd H1 l (.lst xs.reverse))):=rfl
theorem QE (K:PySem.W.Frag) (ta:TA) (td:TE) (σ:St) (H:Hp) (Q:VK):uK K ta td σ H Q=(ta σ H fun vs H1=>td σ H1 fun y H2=>∃ l ks,vs=[.ref l]∧SqL K H2 l (List.map V.int ks)∧Q (match ks.min? with | some m=>.int m | none=>y) H2):=rfl
theorem aF (x:V) (vs:List V) (H:Hp) (Q:VK):fw  x vs H Q=(∃ d kvs,x=.ref d∧vs=[]∧H d=some (.dK kvs)∧∀ p,H p=none→Q (.ref p) (upd H p (.ext (HJ p d)))):=rfl
noncomputable def Fh (J:It) (g:TG) (tb:TS) (D:pj) (σ:St) (H:Hp):Prop:=∃ W:Nat→Nat→St→Hp→Prop,(∃ m,W 0 m σ H)∧∀ i m σ H,W i m σ H →
 (J.stop i H∧D.nx σ H)∨(J.go i H∧∃ N:St→Hp→Prop,(∀ σ' H',N σ' H'→∃ m',m' < m∧W (i + 1) m' σ' H')∧∀ x H',J.yld i H x H'→g x σ H' fun σ2 H2=>tb { D with nx:=N,ct:=N,bk:=D.nx } σ2 H2)
theorem zI (wi:TI) (g:TG) (tb:TS) (D:pj) (σ:St) (H:Hp):UL wi g tb D σ H=wi σ H fun J H1=>Fh J g tb D σ H1:=rfl
noncomputable def vd (J:It) (g:TG) (tc:TT) (te:TE) (σb:St) (Q:VK) (H:Hp):Prop:=∃ W:Nat→Nat→List V→Hp→Prop,(∃ m,W 0 m [] H)∧Cz J g tc te σb Q W
theorem OG (K:PySem.W.Frag) (ta:TE) (f:Str) (σ:St) (H:Hp) (Q:VK):EL K ta f σ H Q=(ta σ H fun x H1=>∃ a v,x=.ref a∧nj K H1 a f v∧Q v H1):=by
 unfold EL nj;congr 1;funext x H1;apply propext;constructor
 ·rintro ⟨a,C,dx,fs,v,h1,h2,h3,h4,h5,h6⟩;exact ⟨a,v,h1,⟨C,dx,fs,h2,h3,h4,h5⟩,h6⟩
 ·rintro ⟨a,v,h1,⟨C,dx,fs,h2,h3,h4,h5⟩,h6⟩;exact ⟨a,C,dx,fs,v,h1,h2,h3,h4,h5,h6⟩
theorem xE (wi:TI) (g:TG) (tc:TT) (te:TE) (sel:List (Option Nat)) (σ:St) (H:Hp) (Q:VK):gI wi g tc te sel σ H Q=wi σ H fun J H1=>vd J g tc te (blk sel σ) Q H1:=rfl
theorem DE (ta:TA) (σ:St) (H:Hp) (R:It→Hp→Prop):BJ ta σ H R=(ta σ H fun vs H1=>∃ j:Int,vs=[.int j]∧-4611686018427387904 ≤ j∧j < 4611686018427387904∧R (Itr 0 j.toNat) H1):=rfl
theorem XG (sel:List (Option Nat)) (σ:St):blk sel σ=sel.map fun o=>o.bind fun j=>(σ[j]?).join:=rfl
theorem Wc {c:TT} {t u:TS} {D:pj} {σ:St} {H:Hp} (b:Bool) (hc:∀ Q:Bool→Hp→Prop,Q b H→c σ H Q) (h1:b=true→t D σ H) (h2:b=false→u D σ H):nL c t u D σ H:=by
 refine hc _ ?_;cases b with
 | true=>exact h1 rfl
 | false=>exact h2 rfl
theorem zi {c:TT} {t u:TS} {D:pj} {σ:St} {H:Hp} (R:Bool→Hp→Prop) (hc:∀ Q:Bool→Hp→Prop,(∀ b H',R b H'→Q b H')→c σ H Q) (h1:∀ H',R true H'→t D σ H') (h2:∀ H',R false H'→u D σ H'):nL c t u D σ H:=by
 refine hc _ fun b H' r=>?_
 cases b with
 | true=>exact h1 H' r
 | false=>exact h2 H' r
theorem Qb {t:TS} {D:pj} {σ:St} {H:Hp} (R:St→Hp→Prop) (h:∀ D':pj,(∀ σ H,R σ H→D'.nx σ H)→D'.rt=D.rt→D'.bk=D.bk→D'.ct=D.ct→t D' σ H) (hR:∀ σ H,R σ H→D.nx σ H):t D σ H:=h D hR rfl rfl rfl
theorem zzC {t:TS} {D:pj} {σ:St} {H:Hp} (R:St->Hp->Prop) (h:∀ D':pj,(∀ σ H,R σ H->D'.nx σ H)->t D' σ H) (hR:∀ M,M=D.nx->∀ σ H,R σ H->M σ H):t D σ H:=h D (hR _ rfl)
theorem zP {p:Prop} (h:∀ q,q=p->q):p:=h p rfl
theorem zzD {t:TS} {D:pj} {σ:St} {H:Hp} (R:St->Hp->Prop) (h:∀ D':pj,(∀ σ H,R σ H->D'.nx σ H)->t D' σ H) (hR:∀ σ H,R σ H->D.nx σ H):t D σ H:=h D hR
theorem zS {t u:TS} {D:pj} {σ:St} {H:Hp} (R:St->Hp->Prop) (h:∀ D':pj,(∀ σ H,R σ H->D'.nx σ H)->t D' σ H) (hR:∀ M,M=u D->∀ σ H,R σ H->M σ H):VL t u D σ H:=h { D with nx:=u D } (hR _ rfl)
theorem lH {te:TE} {D:pj} {σ:St} {H:Hp} (v:V) (hc:∀ Q:VK,Q v H→te σ H Q) (h:D.rt v H):vL te D σ H:=hc _ h
theorem Hn (x y:Str):(x ++ y).length=x.length + y.length:=by
 show (x.cps ++ y.cps).size=_;rw [Array.size_append];rfl
theorem Fh.range {lo:Int} {n:Nat} {g:TG} {tb:TS} {D:pj} {σ:St} {H:Hp} (Pv:Nat→St→Hp→Prop) (h0:Pv 0 σ H)
  (hs:∀ i σ H,i < n→Pv i σ H→g (.int (lo + i)) σ H fun σ2 H2=>tb { D with nx:=Pv (i + 1),ct:=Pv (i + 1),bk:=D.nx } σ2 H2) (hd:∀ σ H,Pv n σ H→D.nx σ H):Fh (Itr lo n) g tb D σ H:=OB Pv h0 hs hd
theorem Fh.list {K:PySem.W.Frag} {a:Addr} {xs:List V} {g:TG} {tb:TS} {D:pj} {σ:St} {H:Hp} (Pv:Nat→St→Hp→Prop) (h0:Pv 0 σ H) (hl:∀ i σ H,i ≤ xs.length→Pv i σ H→SqL K H a xs)
  (hs:∀ i x σ H,xs[i]? = some x→Pv i σ H→g x σ H fun σ2 H2=>tb { D with nx:=Pv (i + 1),ct:=Pv (i + 1),bk:=D.nx } σ2 H2) (hd:∀ σ H,Pv xs.length σ H→D.nx σ H):Fh (Itl K a) g tb D σ H:=dE Pv h0 hl hs hd
theorem Fh.its {xs:List V} {g:TG} {tb:TS} {D:pj} {σ:St} {H:Hp} (Pv:Nat→St→Hp→Prop) (h0:Pv 0 σ H)
  (hs:∀ i x σ H,xs[i]? = some x→Pv i σ H→g x σ H fun σ2 H2=>tb { D with nx:=Pv (i + 1),ct:=Pv (i + 1),bk:=D.nx } σ2 H2) (hd:∀ σ H,Pv xs.length σ H→D.nx σ H):Fh (Its xs) g tb D σ H:=uH Pv h0 hs hd
theorem vd.list {K:PySem.W.Frag} {a:Addr} {xs:List V} {g:TG} {tc:TT} {te:TE} {σb:St} {Q:VK} {H:Hp} (Pv:Nat→List V→Hp→Prop) (hz:xs.length ≤ sizeLine) (h0:Pv 0 [] H) (hl:∀ i ys H,i ≤ xs.length→Pv i ys H→SqL K H a xs∧ys.length ≤ i)
  (hs:∀ i x ys H,xs[i]? = some x→Pv i ys H→qh Pv g tc te σb i x ys H) (hd:∀ ys H,Pv xs.length ys H→∀ p,H p=none→Q (.ref p) (upd H p (.lst ys))):vd (Itl K a) g tc te σb Q H:=QA Pv hz h0 hl hs hd
theorem vd.its {xs:List V} {g:TG} {tc:TT} {te:TE} {σb:St} {Q:VK} {H:Hp} (Pv:Nat→List V→Hp→Prop) (hz:xs.length ≤ sizeLine) (h0:Pv 0 [] H) (hl:∀ i ys H,i ≤ xs.length→Pv i ys H→ys.length ≤ i)
  (hs:∀ i x ys H,xs[i]? = some x→Pv i ys H→qh Pv g tc te σb i x ys H) (hd:∀ ys H,Pv xs.length ys H→∀ p,H p=none→Q (.ref p) (upd H p (.lst ys))):vd (Its xs) g tc te σb Q H:=zE Pv hz h0 hl hs hd
theorem vd.range {lo:Int} {n:Nat} {g:TG} {tc:TT} {te:TE} {σb:St} {Q:VK} {H:Hp} (Pv:Nat→List V→Hp→Prop) (hz:n ≤ sizeLine) (h0:Pv 0 [] H) (hl:∀ i ys H,i ≤ n→Pv i ys H→ys.length ≤ i)
  (hs:∀ i ys H,i < n→Pv i ys H→qh Pv g tc te σb i (.int (lo + i)) ys H) (hd:∀ ys H,Pv n ys H→∀ p,H p=none→Q (.ref p) (upd H p (.lst ys))):vd (Itr lo n) g tc te σb Q H:=Qz Pv hz h0 hl hs hd
theorem ut {α β:Type} {xs:List α} {i:Nat} {x:α} (f:α→β) (h:xs[i]? = some x):(xs.take (i + 1)).map f=(xs.take i).map f ++ [f x]:=by
 rw [List.take_add_one,h,List.map_append];rfl
theorem vd.its_map {xs:List V} {g:TG} {te:TE} {σb:St} {Q:VK} {H:Hp} (f:V→V) (hz:xs.length ≤ sizeLine) (hs:∀ (i:Nat) (x:V) (N:V→Hp→Prop),xs[i]? = some x→N (f x) H→g x σb H fun σ2 H2=>Sub σb σ2∧te σ2 H2 N)
  (hd:∀ p,H p=none→Q (.ref p) (upd H p (.lst (xs.map f)))):vd (Its xs) g Ez te σb Q H:=by
 refine vd.its (fun i ys H'=>H'=H∧ys=(xs.take i).map f) hz ⟨rfl,rfl⟩ (fun i ys H' hi ⟨_,e⟩=>?_) (fun i x ys H' hx ⟨e1,e2⟩ N hN=>?_) (fun ys H' ⟨e1,e2⟩ p hp=>?_)
 ·rw [e,List.length_map,List.length_take];omega
 ·subst e1;exact hs i x (fun y H4=>N (ys ++ [y]) H4) hx (hN _ _ ⟨rfl,by rw [e2,ut f hx]⟩)
 ·subst e1;rw [e2,List.take_length];exact hd p hp
theorem vd.range_map {lo:Int} {n:Nat} {g:TG} {te:TE} {σb:St} {Q:VK} {H:Hp} (f:Nat→V) (hz:n ≤ sizeLine) (hs:∀ (i:Nat) (N:V→Hp→Prop),i < n→N (f i) H→g (.int (lo + i)) σb H fun σ2 H2=>Sub σb σ2∧te σ2 H2 N)
  (hd:∀ p,H p=none→Q (.ref p) (upd H p (.lst ((List.range n).map f)))):vd (Itr lo n) g Ez te σb Q H:=by
 refine vd.range (fun i ys H'=>H'=H∧ys=(List.range i).map f) hz ⟨rfl,rfl⟩ (fun i ys H' hi ⟨_,e⟩=>?_) (fun i ys H' hi ⟨e1,e2⟩ N hN=>?_) (fun ys H' ⟨e1,e2⟩ p hp=>?_)
 ·rw [e,List.length_map,List.length_range];exact Nat.le_refl _
 ·subst e1;exact hs i (fun y H4=>N (ys ++ [y]) H4) hi (hN _ _ ⟨rfl,by rw [e2,List.range_succ,List.map_append];rfl⟩)
 ·subst e1;rw [e2];exact hd p hp
theorem vd.list_mk {K:PySem.W.Frag} {a:Addr} {xs:List V} {g:TG} {te:TE} {σb:St} {Q:VK} {H:Hp} (f:V→HO) (hl:SqL K H a xs) (hz:xs.length ≤ sizeLine) (hn:∀ x,noT (f x)=true)
  (hs:∀ (i:Nat) (x:V) (H1:Hp) (N:V→Hp→Prop),xs[i]? = some x→Nb H H1→(NoT H→NoT H1)→(∀ q,H1 q=none→N (.ref q) (upd H1 q (f x)))→g x σb H1 fun σ2 H2=>Sub σb σ2∧te σ2 H2 N)
  (hd:∀ (qs:List Addr) (H1:Hp),Nb H H1→(NoT H→NoT H1)→qs.length=xs.length→(∀ (j:Nat) (q:Addr) (x:V),qs[j]? = some q→xs[j]? = some x→H1 q=some (f x)∧H q=none)→∀ p,H1 p=none→Q (.ref p) (upd H1 p (.lst (qs.map V.ref)))):vd (Itl K a) g Ez te σb Q H:=by
 refine vd.list (fun i ys H'=>∃ qs:List Addr,ys=qs.map V.ref∧qs.length=i∧Nb H H'∧(NoT H→NoT H')∧∀ (j:Nat) (q:Addr) (x:V),qs[j]? = some q→xs[j]? = some x→H' q=some (f x)∧H q=none) hz
  ⟨[],rfl,rfl,Nb.refl H,id,fun j q x h _=>by simp at h⟩ ?_ ?_ ?_
 ·rintro i ys H' hi zzq;refine zP fun zzM zzh=>?_
  obtain ⟨qs,e,e2,sm,_,_⟩:=zzq;subst zzh;exact ⟨hl.same sm,by rw [e,List.length_map];omega⟩
 ·rintro i x ys H' hx ⟨qs,e1,e2,sm,nt,al⟩ N hN;refine hs i x H' (fun y H4=>N (ys ++ [y]) H4) hx sm nt fun q hq=>hN _ _ ⟨qs ++ [q],by rw [e1,List.map_append];rfl,by rw [List.length_append,e2];rfl,sm.updN (sm.free hq),fun n=>(nt n).upd (hn x),fun j q' x' h1 h2=>?_⟩
  by_cases hj:j < qs.length
  ·rw [List.getElem?_append_left hj] at h1;obtain ⟨z1,z2⟩:=al j q' x' h1 h2;exact ⟨by rw [qb (wb z1 hq)];exact z1,z2⟩
  ·rw [List.getElem?_append_right (by omega)] at h1;have hj0:j - qs.length=0:=by
    cases hh:j - qs.length with
    | zero=>rfl
    | succ n=>rw [hh] at h1;simp at h1
   rw [hj0] at h1;have e3:q=q':=by simpa using h1
   subst e3;have e4:j=i:=by omega
   subst e4;rw [hx] at h2;cases h2;exact ⟨db,sm.free hq⟩
 ·rintro ys H' ⟨qs,e1,e2,sm,nt,al⟩ p hp;subst e1;exact hd qs H' sm nt e2 al p hp
theorem Fh.of {J:It} {n:Nat} {g:TG} {tb:TS} {D:pj} {σ:St} {H:Hp} (Pv:Nat→St→Hp→Prop) (h0:Pv 0 σ H) (hgo:∀ i σ H,i < n→Pv i σ H→J.go i H) (hst:∀ σ H,Pv n σ H→J.stop n H)
  (hs:∀ i σ H x H',i < n→Pv i σ H→J.yld i H x H'→g x σ H' fun σ2 H2=>tb { D with nx:=Pv (i + 1),ct:=Pv (i + 1),bk:=D.nx } σ2 H2) (hd:∀ σ H,Pv n σ H→D.nx σ H):Fh J g tb D σ H:=by
 refine ⟨fun i m σ H=>m=n - i∧i ≤ n∧Pv i σ H,⟨n,by simp,Nat.zero_le _,h0⟩,?_⟩;rintro i m σ H ⟨rfl,hi,p⟩;by_cases hlt:i < n
 ·exact .inr ⟨hgo i σ H hlt p,Pv (i + 1),fun σ' H' p'=>⟨n - (i + 1),by omega,rfl,hlt,p'⟩,fun x H' y=>hs i σ H x H' hlt p y⟩
 ·have e:i=n:=by omega
  subst e;exact .inl ⟨hst σ H p,hd σ H p⟩
theorem vd.of {J:It} {n:Nat} {g:TG} {tc:TT} {te:TE} {σb:St} {Q:VK} {H:Hp} (Pv:Nat→List V→Hp→Prop) (hz:n ≤ sizeLine) (h0:Pv 0 [] H) (hgo:∀ i ys H,i < n→Pv i ys H→J.go i H) (hst:∀ ys H,Pv n ys H→J.stop n H) (hl:∀ i ys H,i < n→Pv i ys H→ys.length ≤ i)
  (hs:∀ i ys H x H',i < n→Pv i ys H→J.yld i H x H'→qh Pv g tc te σb i x ys H') (hd:∀ ys H,Pv n ys H→∀ p,H p=none→Q (.ref p) (upd H p (.lst ys))):vd J g tc te σb Q H:=by
 refine ⟨fun i m ys H=>m=n - i∧i ≤ n∧Pv i ys H,⟨n,by simp,Nat.zero_le _,h0⟩,?_⟩;rintro i m ys H ⟨rfl,hi,p⟩;by_cases hlt:i < n
 ·have hyl:=hl i ys H hlt p;refine .inr ⟨hgo i ys H hlt p,by omega,fun x H' y=>?_⟩;exact hs i ys H x H' hlt p y (fun ys' H'=>∃ m',m' < n - i∧m'=n - (i + 1)∧i + 1 ≤ n∧Pv (i + 1) ys' H') fun ys' H' r=>⟨n - (i + 1),by omega,rfl,hlt,r⟩
 ·have e:i=n:=by omega
  subst e;exact .inl ⟨hst ys H p,hd ys H p⟩
section
variable {K:PySem.W.Frag} {a b:Addr} {xs ys:List V} {g:TG} {tb:TS} {D:pj} {σ σb:St} {H:Hp} {tc:TT} {te:TE} {Q:VK}
theorem Fh.enum (Pv:Nat→St→Hp→Prop) (h0:Pv 0 σ H) (hl:∀ i σ H,i ≤ xs.length→Pv i σ H→SqL K H a xs)
  (hs:∀ i x σ H p,xs[i]? = some x→Pv i σ H→H p=none→g (.ref p) σ (upd H p (.tup [.int i,x])) fun σ2 H2=>tb { D with nx:=Pv (i + 1),ct:=Pv (i + 1),bk:=D.nx } σ2 H2) (hd:∀ σ H,Pv xs.length σ H→D.nx σ H):Fh (Ite K a) g tb D σ H:=by
 refine Fh.of (n:=xs.length) Pv h0 (fun i σ H hi p=>⟨xs,xs[i],hl i σ H (Nat.le_of_lt hi) p,by simp [hi]⟩) (fun σ H p=>⟨xs,hl _ σ H (Nat.le_refl _) p,Nat.le_refl _⟩) (fun i σ H v H' hi p y=>?_) hd;obtain ⟨q,x,hq,rfl,hx,rfl⟩:=y;exact hs i x σ H q (hx xs (hl i σ H (Nat.le_of_lt hi) p)) p hq
theorem Fh.zip (Pv:Nat→St→Hp→Prop) (h0:Pv 0 σ H) (hl:∀ i σ H,i ≤ xs.length→Pv i σ H→SqL K H a xs∧SqL K H b ys) (n:Nat) (hn:n=min xs.length ys.length)
  (hs:∀ i x y σ H p,xs[i]? = some x→ys[i]? = some y→Pv i σ H→H p=none→g (.ref p) σ (upd H p (.tup [x,y])) fun σ2 H2=>tb { D with nx:=Pv (i + 1),ct:=Pv (i + 1),bk:=D.nx } σ2 H2) (hd:∀ σ H,Pv n σ H→D.nx σ H):Fh (Itz K a b) g tb D σ H:=by
 subst hn;refine Fh.of (n:=min xs.length ys.length) Pv h0 (fun i σ H hi p=>?_) (fun σ H p=>?_) (fun i σ H v H' hi p y=>?_) hd
 ·obtain ⟨z1,z2⟩:=hl i σ H (by omega) p;exact ⟨xs,ys,xs[i],ys[i],z1,z2,by rw [List.getElem?_eq_getElem (by omega)],by rw [List.getElem?_eq_getElem (by omega)]⟩
 ·obtain ⟨z1,z2⟩:=hl _ σ H (by omega) p;exact ⟨xs,ys,z1,z2,by omega⟩
 ·obtain ⟨q,x,y,hq,rfl,hx,hy,rfl⟩:=y;obtain ⟨z1,z2⟩:=hl i σ H (by omega) p;exact hs i x y σ H q (hx xs z1) (hy ys z2) p hq
theorem vd.enum (Pv:Nat→List V→Hp→Prop) (hz:xs.length ≤ sizeLine) (h0:Pv 0 [] H) (hl:∀ i ys H,i ≤ xs.length→Pv i ys H→SqL K H a xs∧ys.length ≤ i)
  (hs:∀ i x ys H p,xs[i]? = some x→Pv i ys H→H p=none→qh Pv g tc te σb i (.ref p) ys (upd H p (.tup [.int i,x]))) (hd:∀ ys H,Pv xs.length ys H→∀ p,H p=none→Q (.ref p) (upd H p (.lst ys))):vd (Ite K a) g tc te σb Q H:=by
 refine vd.of (n:=xs.length) Pv hz h0 (fun i ys H hi p=>⟨xs,xs[i],(hl i ys H (Nat.le_of_lt hi) p).1,by simp [hi]⟩) (fun ys H p=>⟨xs,(hl _ ys H (Nat.le_refl _) p).1,Nat.le_refl _⟩) (fun i ys H hi p=>(hl i ys H (Nat.le_of_lt hi) p).2) (fun i zs H v H' hi p y=>?_) hd;obtain ⟨q,x,hq,rfl,hx,rfl⟩:=y;exact hs i x zs H q (hx xs (hl i zs H (Nat.le_of_lt hi) p).1) p hq
theorem FD {i j:Nat} {p:Addr} {x y:V} {R:St→Hp→Prop} (h:SqT K H p [x,y]) (q:R ((σ.set i (some x)).set j (some y)) H):IJ K 2 (Bz (Tv i) (Bz (Tv j) UK)) (.ref p) σ H R:=
 ⟨p,_,rfl,h,rfl,x,_,rfl,y,_,rfl,rfl,q⟩
theorem kg {i j:Nat} {p:Addr} {x y:V} {R:St→Hp→Prop} (q:R ((σ.set i (some x)).set j (some y)) (upd H p (.tup [x,y]))):IJ K 2 (Bz (Tv i) (Bz (Tv j) UK)) (.ref p) σ (upd H p (.tup [x,y])) R:=
 FD (.inl (.inl db)) q
end
theorem Sub.name2 {r:St} {v w:Option V}:Sub (none :: none :: r) (v :: w :: r):=by
 refine ⟨rfl,fun i u h=>?_⟩
 match i with
 | 0=>cases h
 | 1=>cases h
 | i + 2=>exact h
theorem Sub.name3 {r:St} {v w z:Option V}:Sub (none :: none :: none :: r) (v :: w :: z :: r):=by
 refine ⟨rfl,fun i u h=>?_⟩
 match i with
 | 0=>cases h
 | 1=>cases h
 | 2=>cases h
 | i + 3=>exact h
theorem vd.list_zs {K:PySem.W.Frag} {a:Addr} {xs zs:List V} {g:TG} {te:TE} {σb:St} {Q:VK} {H:Hp} (hl:SqL K H a xs) (hz:xs.length ≤ sizeLine) (he:zs.length=xs.length)
  (hs:∀ (i:Nat) (x z:V) (N:V→Hp→Prop),xs[i]? = some x→zs[i]? = some z→N z H→g x σb H fun σ2 H2=>Sub σb σ2∧te σ2 H2 N) (hd:∀ p,H p=none→Q (.ref p) (upd H p (.lst zs))):vd (Itl K a) g Ez te σb Q H:=by
 refine vd.list (fun i ys H'=>H'=H∧ys=zs.take i) hz ⟨rfl,rfl⟩ (fun i ys H' hi ⟨e0,e⟩=>?_) (fun i x ys H' hx ⟨e1,e2⟩ N hN=>?_) (fun ys H' ⟨e1,e2⟩ p hp=>?_)
 ·subst e0;exact ⟨hl,by rw [e,List.length_take];omega⟩
 ·subst e1;have hi:i < zs.length:=by rw [he];exact (List.getElem?_eq_some_iff.mp hx).1
  have hz':zs[i]? = some zs[i]:=List.getElem?_eq_getElem hi;exact hs i x zs[i] (fun y H4=>N (ys ++ [y]) H4) hx hz' (hN _ _ ⟨rfl,by rw [e2,List.take_add_one,hz'];rfl⟩)
 ·subst e1;rw [e2,← he,List.take_length];exact hd p hp
theorem vd.list_sel {K:PySem.W.Frag} {a:Addr} {xs:List V} {ss:List (Option V)} {g:TG} {tc:TT} {te:TE} {σb:St} {Q:VK} {H:Hp} (hl:SqL K H a xs) (hz:xs.length ≤ sizeLine) (he:ss.length=xs.length)
  (hs:∀ (i:Nat) (x:V) (o:Option V) (ys:List V) (N:List V→Hp→Prop),xs[i]? = some x→ss[i]? = some o→N (ys ++ o.toList) H→g x σb H fun σ2 H2=>Sub σb σ2∧tc σ2 H2 fun c H3=>if c=true then te σ2 H3 fun y H4=>N (ys ++ [y]) H4 else N ys H3)
  (hd:∀ p,H p=none→Q (.ref p) (upd H p (.lst (ss.flatMap Option.toList)))):vd (Itl K a) g tc te σb Q H:=by
 refine vd.list (fun i ys H'=>H'=H∧ys=(ss.take i).flatMap Option.toList∧ys.length ≤ i) hz ⟨rfl,rfl,Nat.le_refl _⟩ (fun i ys H' hi ⟨e0,e,e'⟩=>?_) (fun i x ys H' hx ⟨e1,e2,e3⟩ N hN=>?_) (fun ys H' ⟨e1,e2,_⟩ p hp=>?_)
 ·subst e0;exact ⟨hl,e'⟩
 ·subst e1;have hi:i < ss.length:=by rw [he];exact (List.getElem?_eq_some_iff.mp hx).1
  have hz':ss[i]? = some ss[i]:=List.getElem?_eq_getElem hi;refine hs i x ss[i] ys N hx hz' (hN _ _ ⟨rfl,by rw [e2,List.take_add_one,hz',List.flatMap_append];simp,?_⟩);rw [List.length_append];cases ss[i] <;> simp <;> omega
 ·subst e1;rw [e2,← he,List.take_length];exact hd p hp
theorem DC {c:TT} {tb:TS} {D:pj} {σ:St} {H:Hp} (Pv:St→Hp→Prop) (μ:St→Hp→Nat) (h0:Pv σ H)
  (hs:∀ σ H,Pv σ H→∃ b:Bool,(∀ Q:Bool→Hp→Prop,Q b H→c σ H Q)∧(b=true→tb { D with nx:=fun σ' H'=>Pv σ' H'∧μ σ' H' < μ σ H,ct:=fun σ' H'=>Pv σ' H'∧μ σ' H' < μ σ H,bk:=D.nx } σ H)∧(b=false→D.nx σ H)):tG c tb D σ H:=by
 refine ⟨fun m σ H=>m=μ σ H∧Pv σ H,⟨_,rfl,h0⟩,?_⟩;rintro m σ H ⟨rfl,p⟩;obtain ⟨b,hc,h1,h2⟩:=hs σ H p;refine hc _ ?_;cases b with
 | true=>exact ⟨_,fun σ' H' ⟨p',l⟩=>⟨_,l,rfl,p'⟩,h1 rfl⟩
 | false=>exact h2 rfl
theorem Sub.name {r:St} {v:Option V}:Sub (none :: r) (v :: r):=by
 refine ⟨rfl,fun i w h=>?_⟩;cases i with
 | zero=>cases h
 | succ i=>exact h
end L2
local macro_rules | `(tactic| walk_at "RD")=>`(tactic| ((try dsimp only [L2.fH,L2.wL,L2.Cx.nox,L2.Cx.wish,L2.Cx.block,L2.Cx.tr,L2.Cx.hn]);(try simp only [L2.eI,L2.mL,L2.JL,L2.jH,L2.JK,L2.qI,L2.lF,L2.AG,L2.wJ,L2.Zx,L2.Db,L2.TD,L2.pH,L2.AC,L2.Mg,L2.CG,L2.vE,L2.YG,L2.WH,L2.zH,L2.lI,L2.dF,L2.QI,L2.qJ,L2.FL,L2.lK,L2.cL,L2.WJ,L2.GJ,L2.eF,L2.OH,L2.mz,L2.XH,L2.NH,L2.GD,L2.UH,L2.vI,L2.VD,L2.sF,L2.IE,L2.WI,L2.iz,L2.UE,L2.OJ,L2.BG,L2.iH,L2.WG,L2.yD,L2.vH,L2.OI,L2.JH,L2.yJ,L2.Gz,L2.vw,L2.ZH,L2.kF,L2.Zz,L2.oF,L2.bD,L2.ED,L2.qH,L2.CH,L2.ZD,L2.uC,L2.UB,L2.iE,L2.nH,L2.yI,L2.RH,L2.mE,L2.ww,L2.QE,L2.aF,L2.zI,L2.xE,L2.DE,L2.OG,L2.EH,L2.UG,L2.start,L2.XG,List.map_cons,List.map_nil,Option.bind_none,Option.bind_some,Option.join_some,Option.join_none,List.length_cons,List.length_nil,Nat.reduceAdd,Nat.reduceSub,Nat.zero_add,List.replicate,List.cons_append,List.nil_append,List.append_nil,List.set_cons_zero,List.set_cons_succ,List.getElem?_cons_zero,List.getElem?_cons_succ,Option.some.injEq,L2.V.int.injEq,L2.V.bl.injEq,L2.V.str.injEq,L2.V.ref.injEq,L2.V.ty.injEq,exists_eq_left',exists_eq_left,exists_and_left,List.cons.injEq,and_true,true_and,and_assoc,Int.zero_add,reduceCtorEq,false_and,exists_false,and_false,ite_true,ite_false,if_true,if_false,Bool.false_eq_true,L2.xK,L2.tyV,false_or,or_false,Bool.not_true,Bool.not_false,decide_true,decide_false])))
local macro_rules | `(tactic| walk_at "B")=>`(tactic| first | rfl | (dsimp only [L2.Cx.block];done) | (dsimp only [L2.Cx.block];exact rfl))
local macro_rules | `(tactic| walk_at "F")=>`(tactic| exact ⟨rfl,rfl,rfl,by decide +kernel,rfl,by decide +kernel,by decide +kernel⟩)
namespace My
open PySem L2
noncomputable abbrev q5:List Str:=["self","name"]
noncomputable abbrev q8:List Str:=["plan","name","turn"]
noncomputable abbrev q9:List Str:=["self","name","start","end","off","near","least"]
noncomputable abbrev q10:List Str:=["spans","name"]
noncomputable abbrev q11:List Str:=["crossing","one","other"]
noncomputable abbrev q12:List Str:=["crossing","size","spans"]
noncomputable abbrev q15:List Str:=["self","low","high"]
noncomputable abbrev q16:List Str:=["word","signs","most"]
noncomputable abbrev q17:List Str:=["self","good"]
noncomputable abbrev q18:List Str:=["self","choices"]
noncomputable abbrev q19:List Str:=["self","kind","name","start","end","off","near","least"]
noncomputable abbrev q20:List Str:=["plan","name"]
noncomputable abbrev q21:List Str:=["_law_script","_law_k","_law_many"]
noncomputable abbrev q22:List Str:=["_law_script"]
noncomputable abbrev q24:List Str:=["word","most_figures"]
noncomputable abbrev q25:List Str:=["reader","places","start"]
noncomputable abbrev q26:List Str:=["sort","name","start","end","off","near","least"]
noncomputable abbrev q27:List Str:=["places","way","second"]
noncomputable abbrev q28:List Str:=["size","spans","name"]
noncomputable abbrev q29:List Str:=["self","row","told"]
noncomputable abbrev q30:List Str:=["line","forths","backs"]
noncomputable abbrev q31:List Str:=["turns","marks","later"]
noncomputable abbrev q32:List Str:=["both","crossing","shift"]
noncomputable abbrev q33:List Str:=["line","forths","backs","shifts"]
noncomputable abbrev q34:List Str:=["line","forths","shifts","turn"]
noncomputable abbrev q35:List Str:=["word","low","high"]
noncomputable abbrev q36:List Str:=["reader","ways"]
noncomputable abbrev q37:List Str:=["reader","places","ways"]
noncomputable abbrev q38:List Str:=["places","way","place"]
noncomputable abbrev q39:List Str:=["way","size","spans"]
noncomputable abbrev q40:List Str:=["reader","crossing","size","spans"]
noncomputable abbrev q41:List Str:=["crossing","text"]
noncomputable abbrev q42:List Str:=["crossing","spans"]
noncomputable abbrev q43:List Str:=["size","spans","place"]
noncomputable abbrev q44:List Str:=["crossing","one","other","since_one","since_other"]
noncomputable abbrev q45:List Str:=["crossing","size","rows"]
noncomputable abbrev q46:List Str:=["_law_script","_law_many"]
noncomputable abbrev q47:List Str:=["_law_spans","_law_size","_law_turn"]
noncomputable abbrev q48:List Str:=["_law_size","_law_spans","_law_forths","_law_shifts","_law_turn"]
noncomputable abbrev q49:List Str:=["_law_script","_law_made","_law_size","_law_line_here","_law_wide","_law_forths","_law_shifts","_law_cell","_law_turn","_law_later","_law_handed","_law_found","_law_behind","_law_k","_law_calm","_law_begin","_law_passed_here"]
noncomputable abbrev q50:List Str:=["self","places","ways"]
noncomputable abbrev q51:List Str:=["self","crossing","size","spans"]
noncomputable abbrev q52:List Str:=["called","begin","turns","name"]
noncomputable abbrev q53:List Str:=["name","begin","turns"]
noncomputable abbrev q54:List Str:=["size","spans","place","name","begin","turns","others"]
noncomputable abbrev q56:List Str:=["at","span","place"]
noncomputable abbrev q57:List Str:=["later","many","begin","size"]
noncomputable def top (i:Nat):Stmt:=PySem.Challenge.pw_lampway_k71_through_a_line.main.body.getD i (.Pass ⟨0,0,0,0⟩)
noncomputable abbrev Jy:Stmt:=top 9
theorem WC:Ab q8 q8 (rb Jy):=(by walk_at "F")
noncomputable abbrev GF:Stmt:=top 10
theorem xH:Ab q8 q8 (rb GF):=(by walk_at "F")
noncomputable abbrev Ep:Stmt:=top 11
theorem Jv:Ab q8 q8 (rb Ep):=(by walk_at "F")
noncomputable abbrev Jx:Stmt:=top 13
theorem tE:Ab q20 q20 (rb Jx):=(by walk_at "F")
noncomputable abbrev Rk:Stmt:=top 14
theorem jc:Ab ["line","forths","backs","found","forth_turns","back_turns","place","told","plan","forth","back"] q30 (rb Rk):=(by walk_at "F")
noncomputable abbrev ip:Stmt:=top 15
theorem dt:Ab ["turns","marks","later","size"] q31 (rb ip):=(by walk_at "F")
noncomputable abbrev Gk:Stmt:=top 16
theorem qd:Ab ["both","crossing","shift","frees_forth","frees_back","forth_turns","back_turns","forth","back"] q32 (rb Gk):=(by walk_at "F")
noncomputable abbrev um:Stmt:=top 17
theorem Yk:Ab ["line","turns"] ["line"] (rb um):=(by walk_at "F")
noncomputable abbrev Yn:Stmt:=top 18
theorem vf:Ab ["line","forths","backs","shifts","both","crossing","shift"] q33 (rb Yn):=(by walk_at "F")
noncomputable abbrev Eu:Stmt:=top 19
theorem ie:Ab ["line","forths","shifts","turn","passed","there","place","told","plan","forth","back"] q34 (rb Eu):=(by walk_at "F")
noncomputable abbrev xx:Stmt:=top 25
theorem ME:Ab ["text"] ["text"] (rb xx):=(by walk_at "F")
noncomputable abbrev zj:Stmt:=top 26
theorem wu:Ab q16 q16 (rb zj):=(by walk_at "F")
noncomputable abbrev uq:Stmt:=top 27
theorem Hu:Ab q24 q24 (rb uq):=(by walk_at "F")
noncomputable abbrev jw:Stmt:=top 28
theorem Ls:Ab ["word","low","high","number"] q35 (rb jw):=(by walk_at "F")
noncomputable abbrev Zu:Stmt:=top 29
theorem Pz:Ab ["word"] ["word"] (rb Zu):=(by walk_at "F")
noncomputable abbrev cq:Stmt:=top 32
theorem Az:Ab ["text"] ["text"] (rb cq):=(by walk_at "F")
noncomputable abbrev Vp:Stmt:=top 46
theorem Vn:Ab ["reader","places"] ["reader"] (rb Vp):=(by walk_at "F")
noncomputable abbrev ah:Stmt:=top 47
theorem dj:Ab ["reader","ways","name"] q36 (rb ah):=(by walk_at "F")
noncomputable abbrev Es:Stmt:=top 48
theorem Lx:Ab q25 q25 (rb Es):=(by walk_at "F")
noncomputable abbrev Ts:Stmt:=top 49
theorem Uw:Ab q26 q26 (rb Ts):=(by walk_at "F")
noncomputable abbrev Bs:Stmt:=top 50
theorem ve:Ab ["reader","places","ways","sort","name","start","end","off","near","least"] q37 (rb Bs):=(by walk_at "F")
noncomputable abbrev Wj:Stmt:=top 51
theorem ge:Ab ["text","rows","places","ways","reader"] ["text"] (rb Wj):=(by walk_at "F")
noncomputable abbrev Cy:Stmt:=top 53
theorem wv:Ab ["places","way","place","steps"] q38 (rb Cy):=(by walk_at "F")
noncomputable abbrev Qn:Stmt:=top 54
theorem Kt:Ab q27 q27 (rb Qn):=(by walk_at "F")
noncomputable abbrev aG:Stmt:=top 55
theorem px:Ab ["crossing","one","other","way","second"] q11 (rb aG):=(by walk_at "F")
noncomputable abbrev eJ:Stmt:=top 56
theorem PB:Ab ["crossing","one","other","way","second"] q11 (rb eJ):=(by walk_at "F")
noncomputable abbrev Tk:Stmt:=top 58
theorem Qd:Ab ["marks","size","steps","untils","place"] ["marks"] (rb Tk):=(by walk_at "F")
noncomputable abbrev el:Stmt:=top 59
theorem Dq:Ab ["marks"] ["marks"] (rb el):=(by walk_at "F")
noncomputable abbrev Ym:Stmt:=top 64
theorem ox:Ab q10 q10 (rb Ym):=(by walk_at "F")
noncomputable abbrev Tj:Stmt:=top 65
theorem tf:Ab ["size","spans","name","marks","begin","turns","step"] q28 (rb Tj):=(by walk_at "F")
noncomputable abbrev jC:Stmt:=top 66
theorem Ll:Ab ["way","size","spans","shown","begin","turns","step"] q39 (rb jC):=(by walk_at "F")
noncomputable abbrev wq:Stmt:=top 67
theorem Pn:Ab ["reader","size"] ["reader"] (rb wq):=(by walk_at "F")
noncomputable abbrev El:Stmt:=top 68
theorem rh:Ab ["reader","crossing","size","spans","name","begin","turns"] q40 (rb El):=(by walk_at "F")
noncomputable abbrev Wp:Stmt:=top 69
theorem jg:Ab ["crossing","text","rows","size","spans","reader"] q41 (rb Wp):=(by walk_at "F")
noncomputable abbrev Uk:Stmt:=top 70
theorem Gj:Ab ["crossing","spans","name"] q42 (rb Uk):=(by walk_at "F")
noncomputable abbrev Jd:Stmt:=top 71
theorem Tc:Ab q54 q43 (rb Jd):=(by walk_at "F")
noncomputable abbrev Fk:Stmt:=top 72
theorem ad:Ab ["crossing","size","spans","place","span","name","begin","turns","way","needed"] q12 (rb Fk):=(by walk_at "F")
noncomputable abbrev bi:Stmt:=top 73
theorem pe:Ab ["crossing","one","other","since_one","since_other","between","turn","steps"] q44 (rb bi):=(by walk_at "F")
noncomputable abbrev dl:Stmt:=top 74
theorem ue:Ab ["crossing","size","spans","since","name","one","other"] q12 (rb dl):=(by walk_at "F")
noncomputable abbrev ol:Stmt:=top 75
theorem lg:Ab ["crossing","size","rows","spans","name","begin","turns"] q45 (rb ol):=(by walk_at "F")
noncomputable abbrev Yp:Stmt:=top 77
theorem yj:Ab ["_law_script","_law_k","_law_many","_law_cell","_law_seed"] q21 (rb Yp):=(by walk_at "F")
noncomputable abbrev Uj:Stmt:=top 78
theorem Mc:Ab ["_law_script","_law_many","_law_letters","_law_word","_law_size","_law_at","_law_first","_law_some","_law_k","_law_name","_law_sign"] q46 (rb Uj):=(by walk_at "F")
noncomputable abbrev Gq:Stmt:=top 79
theorem Kb:Ab ["_law_script","_law_size","_law_many","_law_line_here","_law_spans","_law_k","_law_names_here","_law_ways","_law_rows","_law_own","_law_n","_law_sort","_law_most","_law_long","_law_begin","_law_more","_law_late","_law_span","_law_crossing","_law_forth","_law_back"] q22 (rb Gq):=(by walk_at "F")
noncomputable abbrev ml:Stmt:=top 80
theorem Lj:Ab ["_law_spans","_law_size","_law_turn","_law_span"] q47 (rb ml):=(by walk_at "F")
noncomputable abbrev fm:Stmt:=top 81
theorem Ue:Ab ["_law_size","_law_spans","_law_forths","_law_shifts","_law_turn","_law_due","_law_k"] q48 (rb fm):=(by walk_at "F")
noncomputable abbrev yB:Stmt:=top 82
theorem Ef:Ab q49 q22 (rb yB):=(by walk_at "F")
noncomputable abbrev aj:Stmt:=yd (top 31) 0
theorem tj:Ab q29 q29 (rb aj):=(by walk_at "F")
noncomputable abbrev Zh:Stmt:=yd (top 31) 1
theorem Tl:Ab ["self"] ["self"] (rb Zh):=(by walk_at "F")
noncomputable abbrev Fg:Stmt:=yd (top 31) 2
theorem Mj:Ab ["self"] ["self"] (rb Fg):=(by walk_at "F")
noncomputable abbrev kj:Stmt:=yd (top 31) 4
theorem vn:Ab q17 q17 (rb kj):=(by walk_at "F")
noncomputable abbrev ph:Stmt:=yd (top 31) 5
theorem oh:Ab ["self","choices","found"] q18 (rb ph):=(by walk_at "F")
noncomputable abbrev fh:Stmt:=yd (top 31) 6
theorem Jg:Ab ["self","low","high","found"] q15 (rb fh):=(by walk_at "F")
noncomputable abbrev Ch:Stmt:=yd (top 31) 7
theorem Bl:Ab ["self"] ["self"] (rb Ch):=(by walk_at "F")
noncomputable abbrev Zs:Stmt:=yd (top 34) 0
theorem Ap:Ab q19 q19 (rb Zs):=(by walk_at "F")
noncomputable abbrev Rl:Stmt:=yd (top 35) 0
theorem Fm:Ab q9 q9 (rb Rl):=(by walk_at "F")
noncomputable abbrev Hk:Stmt:=yd (top 35) 1
theorem gq:Ab ["self"] ["self"] (rb Hk):=(by walk_at "F")
noncomputable abbrev Mm:Stmt:=yd (top 35) 2
theorem Gr:Ab ["self"] ["self"] (rb Mm):=(by walk_at "F")
noncomputable abbrev Ik:Stmt:=yd (top 36) 0
theorem Cl:Ab q9 q9 (rb Ik):=(by walk_at "F")
noncomputable abbrev Aj:Stmt:=yd (top 36) 1
theorem bo:Ab ["self"] ["self"] (rb Aj):=(by walk_at "F")
noncomputable abbrev Bk:Stmt:=yd (top 36) 2
theorem Vo:Ab ["self"] ["self"] (rb Bk):=(by walk_at "F")
noncomputable abbrev Xk:Stmt:=yd (top 37) 0
theorem Il:Ab q9 q9 (rb Xk):=(by walk_at "F")
noncomputable abbrev vj:Stmt:=yd (top 37) 1
theorem xo:Ab ["self"] ["self"] (rb vj):=(by walk_at "F")
noncomputable abbrev Pk:Stmt:=yd (top 37) 2
theorem yq:Ab ["self"] ["self"] (rb Pk):=(by walk_at "F")
noncomputable abbrev xj:Stmt:=yd (top 45) 0
theorem Ke:Ab ["self","places","ways","number","way"] q50 (rb xj):=(by walk_at "F")
noncomputable abbrev zg:Stmt:=yd (top 45) 1
theorem rn:Ab ["self"] ["self"] (rb zg):=(by walk_at "F")
noncomputable abbrev mi:Stmt:=yd (top 45) 2
theorem Om:Ab q5 q5 (rb mi):=(by walk_at "F")
noncomputable abbrev vi:Stmt:=yd (top 45) 3
theorem dm:Ab q5 q5 (rb vi):=(by walk_at "F")
noncomputable abbrev gp:Stmt:=yd (top 63) 0
theorem cj:Ab ["self","crossing","size","spans","name"] q51 (rb gp):=(by walk_at "F")
set_option genInjectivity false in
set_option genInjectivity false in
structure Adr where
 {Bo Ry Fi Et dg Em ag Pg vh Xl Dt qg Li Sl Zl Oj Di qf ak Yj Zj wf Ao Kh Gy YD Se bg cf rg Ay Xi Ai Ni Wf Kd Vf Ee Yf Ti Hf uh Mi Xf Lg dI Zd Gc gd bd Ac Yb yc Kf zf Qf Tg Te xf Rf Pe pf Zf Ce Oc Pd Tb mh Ib qm kd Ic Jc Ub qe:Addr}
 {zo vy Ii Vt Pf zm Of Sg Bh am Ct ng Ui tm Am Cj Ei Cf fk vk ik lf Ko Gh Fy qF Me Nf df wg dz Gi Ci Qi Tf Ed Sf Je eg Yi Lf Hh Ri cg Og zD Xe Uc Md Ad Nc nc Kc Wg Ng Wh Ji Uf jh Uh fg Xg Th Bf ed Ge gc Oi:FuncData}
 {Cv Ek mv Wk Wn Jk No Cs rm Np Jn Qp:Value}
structure Txt (w:World) (K:PySem.W.Frag) (mg:Str→Option Value) (t:Adr):Prop where
 iF:mg "colour"=some (.ref t.Bo)
 At:Fun K "colour" "colour" Jy t.Bo t.zo
 fK:mg "free"=some (.ref t.Ry)
 UC:Fun K "free" "free" GF t.Ry t.vy
 yx:mg "next_free"=some (.ref t.Fi)
 Hl:Fun K "next_free" "next_free" Ep t.Fi t.Ii
 ZC:mg "frees"=some (.ref t.Et)
 Ot:Fun K "frees" "frees" Jx t.Et t.Vt
 Dr:mg "crossings_of"=some (.ref t.dg)
 Nh:Fun K "crossings_of" "crossings_of" Rk t.dg t.Pf
 Xv:mg "passing"=some (.ref t.Em)
 Vl:Fun K "passing" "passing" ip t.Em t.zm
 br:mg "passing_both"=some (.ref t.ag)
 Oh:Fun K "passing_both" "passing_both" Gk t.ag t.Of
 tt:mg "whole_round"=some (.ref t.Pg)
 Wi:Fun K "whole_round" "whole_round" um t.Pg t.Sg
 Iu:mg "green_ways"=some (.ref t.vh)
 Fj:Fun K "green_ways" "green_ways" Yn t.vh t.Bh
 Op:mg "through"=some (.ref t.Xl)
 sj:Fun K "through" "through" Eu t.Xl t.am
 EG:mg "words"=some (.ref t.Dt)
 Kx:Fun K "words" "words" xx t.Dt t.Ct
 Xn:mg "is_made_of"=some (.ref t.qg)
 Lh:Fun K "is_made_of" "is_made_of" zj t.qg t.ng
 Dw:mg "is_number"=some (.ref t.Li)
 Nl:Fun K "is_number" "is_number" uq t.Li t.Ui
 zA:mg "figured"=some (.ref t.Sl)
 Ip:Fun K "figured" "figured" jw t.Sl t.tm
 fC:mg "is_name"=some (.ref t.Zl)
 Gp:Fun K "is_name" "is_name" Zu t.Zl t.Am
 Bu:mg "readers"=some (.ref t.Oj)
 Wl:Fun K "readers" "readers" cq t.Oj t.Cj
 Ww:mg "read_ring"=some (.ref t.Di)
 Ml:Fun K "read_ring" "read_ring" Vp t.Di t.Ei
 iq:mg "read_new_name"=some (.ref t.qf)
 kh:Fun K "read_new_name" "read_new_name" ah t.qf t.Cf
 Kz:mg "read_end"=some (.ref t.ak)
 zn:Fun K "read_end" "read_end" Es t.ak t.fk
 lz:mg "made_way"=some (.ref t.Yj)
 yn:Fun K "made_way" "made_way" Ts t.Yj t.vk
 cA:mg "read_way"=some (.ref t.Zj)
 Bn:Fun K "read_way" "read_way" Bs t.Zj t.ik
 Tp:mg "read_crossing"=some (.ref t.wf)
 bh:Fun K "read_crossing" "read_crossing" Wj t.wf t.lf
 xy:mg "in_bow"=some (.ref t.Ao)
 Ho:Fun K "in_bow" "in_bow" Cy t.Ao t.Ko
 Ou:mg "bows_cross"=some (.ref t.Kh)
 wj:Fun K "bows_cross" "bows_cross" Qn t.Kh t.Gh
 aJ:mg "meet"=some (.ref t.Gy)
 jB:Fun K "meet" "meet" aG t.Gy t.Fy
 dL:mg "gap"=some (.ref t.YD)
 tI:Fun K "gap" "gap" eJ t.YD t.qF
 Vk:mg "until_marked"=some (.ref t.Se)
 gg:Fun K "until_marked" "until_marked" Tk t.Se t.Me
 Br:mg "since_marked"=some (.ref t.bg)
 Mh:Fun K "since_marked" "since_marked" el t.bg t.Nf
 ii:mg "spans_of"=some (.ref t.cf)
 Gf:Fun K "spans_of" "spans_of" Ym t.cf t.df
 Sn:mg "free_marks"=some (.ref t.rg)
 Dh:Fun K "free_marks" "free_marks" Tj t.rg t.wg
 fJ:mg "lamp"=some (.ref t.Ay)
 cC:Fun K "lamp" "lamp" jC t.Ay t.dz
 Ex:mg "read_size"=some (.ref t.Xi)
 Ol:Fun K "read_size" "read_size" wq t.Xi t.Gi
 Sw:mg "read_span"=some (.ref t.Ai)
 Jl:Fun K "read_span" "read_span" El t.Ai t.Ci
 Ax:mg "read_plan"=some (.ref t.Ni)
 xl:Fun K "read_plan" "read_plan" Wp t.Ni t.Qi
 Zq:mg "refuse_never"=some (.ref t.Wf)
 Ph:Fun K "refuse_never" "refuse_never" Uk t.Wf t.Tf
 Ij:mg "turns_to_next_begin"=some (.ref t.Kd)
 Be:Fun K "turns_to_next_begin" "turns_to_next_begin" Jd t.Kd t.Ed
 Qr:mg "refuse_short"=some (.ref t.Vf)
 Vh:Fun K "refuse_short" "refuse_short" Fk t.Vf t.Sf
 xn:mg "refuse_clash_of"=some (.ref t.Ee)
 Mf:Fun K "refuse_clash_of" "refuse_clash_of" bi t.Ee t.Je
 Oq:mg "refuse_clash"=some (.ref t.Yf)
 Sh:Fun K "refuse_clash" "refuse_clash" dl t.Yf t.eg
 Ew:mg "made_plan"=some (.ref t.Ti)
 Al:Fun K "made_plan" "made_plan" ol t.Ti t.Yi
 Sb:mg "_law_draw"=some (.ref t.Hf)
 Mb:Fun K "_law_draw" "_law_draw" Yp t.Hf t.Lf
 Wu:mg "_law_names"=some (.ref t.uh)
 Sj:Fun K "_law_names" "_law_names" Uj t.uh t.Hh
 Zw:mg "_law_line"=some (.ref t.Mi)
 Kl:Fun K "_law_line" "_law_line" Gq t.Mi t.Ri
 jr:mg "_law_is_free"=some (.ref t.Xf)
 Qh:Fun K "_law_is_free" "_law_is_free" ml t.Xf t.cg
 gm:mg "_law_passed"=some (.ref t.Lg)
 Rg:Fun K "_law_passed" "_law_passed" fm t.Lg t.Og
 kL:mg "law"=some (.ref t.dI)
 zL:Fun K "law" "law" yB t.dI t.zD
 Iw:mg "RowReader"=some (.ref t.Ib)
 oA:PySem.W.findIn K (.ref t.Ib) "__init__"=some (some (.ref t.Zd))
 jj:Fun K "__init__" "RowReader.__init__" aj t.Zd t.Xe
 jz:PySem.W.findIn K (.ref t.Ib) "ahead"=some (some (.ref t.Gc))
 ci:Fun K "ahead" "RowReader.ahead" Zh t.Gc t.Uc
 lw:PySem.W.findIn K (.ref t.Ib) "has_more"=some (some (.ref t.gd))
 Hg:Fun K "has_more" "RowReader.has_more" Fg t.gd t.Md
 lA:PySem.W.findIn K (.ref t.Ib) "take"=some (some (.ref t.bd))
 ij:Fun K "take" "RowReader.take" kj t.bd t.Ad
 Sx:PySem.W.findIn K (.ref t.Ib) "one_of"=some (some (.ref t.Ac))
 xh:Fun K "one_of" "RowReader.one_of" ph t.Ac t.Nc
 nw:PySem.W.findIn K (.ref t.Ib) "figures"=some (some (.ref t.Yb))
 dh:Fun K "figures" "RowReader.figures" fh t.Yb t.nc
 yy:PySem.W.findIn K (.ref t.Ib) "finish"=some (some (.ref t.yc))
 Ih:Fun K "finish" "RowReader.finish" Ch t.yc t.Kc
 QH:mg "Way"=some (.ref t.qm)
 CI:PySem.W.findIn K (.ref t.qm) "__init__"=some (some (.ref t.Kf))
 Ds:Fun K "__init__" "Way.__init__" Zs t.Kf t.Wg
 YE:mg "CarWay"=some (.ref t.kd)
 pF:PySem.W.findIn K (.ref t.kd) "__init__"=some (some (.ref t.zf))
 Ql:Fun K "__init__" "CarWay.__init__" Rl t.zf t.Ng
 rD:PySem.W.findIn K (.ref t.kd) "ready"=some (some (.ref t.Qf))
 Ak:Fun K "ready" "CarWay.ready" Hk t.Qf t.Wh
 QD:PySem.W.findIn K (.ref t.kd) "fade"=some (some (.ref t.Tg))
 km:Fun K "fade" "CarWay.fade" Mm t.Tg t.Ji
 pB:mg "FootWay"=some (.ref t.Ic)
 uD:PySem.W.findIn K (.ref t.Ic) "__init__"=some (some (.ref t.Te))
 Kk:Fun K "__init__" "FootWay.__init__" Ik t.Te t.Uf
 vA:PySem.W.findIn K (.ref t.Ic) "ready"=some (some (.ref t.xf))
 Hj:Fun K "ready" "FootWay.ready" Aj t.xf t.jh
 tD:PySem.W.findIn K (.ref t.Ic) "fade"=some (some (.ref t.Rf))
 Zk:Fun K "fade" "FootWay.fade" Bk t.Rf t.Uh
 bB:mg "TramWay"=some (.ref t.Jc)
 mD:PySem.W.findIn K (.ref t.Jc) "__init__"=some (some (.ref t.Pe))
 gl:Fun K "__init__" "TramWay.__init__" Xk t.Pe t.fg
 TB:PySem.W.findIn K (.ref t.Jc) "ready"=some (some (.ref t.pf))
 Jj:Fun K "ready" "TramWay.ready" vj t.pf t.Xg
 qD:PySem.W.findIn K (.ref t.Jc) "fade"=some (some (.ref t.Zf))
 Ck:Fun K "fade" "TramWay.fade" Pk t.Zf t.Th
 xz:mg "Crossing"=some (.ref t.Ub)
 rB:PySem.W.findIn K (.ref t.Ub) "__init__"=some (some (.ref t.Ce))
 Vj:Fun K "__init__" "Crossing.__init__" xj t.Ce t.Bf
 kA:PySem.W.findIn K (.ref t.Ub) "names"=some (some (.ref t.Oc))
 lj:Fun K "names" "Crossing.names" zg t.Oc t.ed
 Oz:PySem.W.findIn K (.ref t.Ub) "number"=some (some (.ref t.Pd))
 gi:Fun K "number" "Crossing.number" mi t.Pd t.Ge
 aA:PySem.W.findIn K (.ref t.Ub) "called"=some (some (.ref t.Tb))
 Xh:Fun K "called" "Crossing.called" vi t.Tb t.gc
 AJ:mg "Plan"=some (.ref t.qe)
 RG:PySem.W.findIn K (.ref t.qe) "__init__"=some (some (.ref t.mh))
 So:Fun K "__init__" "Plan.__init__" gp t.mh t.Oi
 zb:Cls K t.Ib
 zw:Mk K t.Ib t.Zd
 Fe:iu K t.Ib "ahead" t.Gc
 wk:iu K t.Ib "has_more" t.gd
 Dg:iu K t.Ib "take" t.bd
 Gd:iu K t.Ib "one_of" t.Ac
 ac:iu K t.Ib "figures" t.Yb
 oe:iu K t.Ib "finish" t.yc
 qo:dc K t.Ib "row"
 yi:dc K t.Ib "told"
 rf:dc K t.Ib "place"
 jM:Cls K t.qm
 BH:dc K t.qm "kind"
 VG:dc K t.qm "name"
 ZF:dc K t.qm "start"
 BI:dc K t.qm "end"
 FI:dc K t.qm "off"
 mH:dc K t.qm "near"
 lG:dc K t.qm "least"
 qp:Cls K t.kd
 JE:Mk K t.kd t.zf
 Hr:iu K t.kd "ready" t.Qf
 ju:iu K t.kd "fade" t.Tg
 zr:dc K t.kd "kind"
 Nq:dc K t.kd "name"
 zq:dc K t.kd "start"
 wt:dc K t.kd "end"
 cu:dc K t.kd "off"
 Cr:dc K t.kd "near"
 vq:dc K t.kd "least"
 En:Cls K t.Ic
 aD:Mk K t.Ic t.Te
 Wo:iu K t.Ic "ready" t.xf
 dr:iu K t.Ic "fade" t.Rf
 jp:dc K t.Ic "kind"
 Xp:dc K t.Ic "name"
 jo:dc K t.Ic "start"
 ir:dc K t.Ic "end"
 Qq:dc K t.Ic "off"
 Fq:dc K t.Ic "near"
 uo:dc K t.Ic "least"
 Fn:Cls K t.Jc
 KA:Mk K t.Jc t.Pe
 Xo:iu K t.Jc "ready" t.pf
 Er:iu K t.Jc "fade" t.Zf
 Fp:dc K t.Jc "kind"
 Bp:dc K t.Jc "name"
 vo:dc K t.Jc "start"
 Mr:dc K t.Jc "end"
 Tr:dc K t.Jc "off"
 vp:dc K t.Jc "near"
 oo:dc K t.Jc "least"
 Pb:Cls K t.Ub
 tz:Mk K t.Ub t.Ce
 Cd:iu K t.Ub "names" t.Oc
 Gn:iu K t.Ub "number" t.Pd
 uc:iu K t.Ub "called" t.Tb
 yh:dc K t.Ub "places"
 Zi:dc K t.Ub "ways"
 Yg:dc K t.Ub "numbers"
 Ki:Cls K t.qe
 RJ:Mk K t.qe t.mh
 fj:dc K t.qe "crossing"
 Kn:dc K t.qe "size"
 Yt:dc K t.qe "spans"
 ym:dc K t.qe "lamps"
 Lk:dc K t.qe "untils"
 UD:t.qm ≠ t.kd
 wD:t.qm ≠ t.Ic
 nD:t.qm ≠ t.Jc
 di:t.kd ≠ t.Ic
 ki:t.kd ≠ t.Jc
 Eh:t.Ic ≠ t.Jc
 jn:eM K t.qm "__init__" t.Kf
 ZB:mg "FIGURES"=some t.Cv
 yC:zd (.str (Str.ofString "0123456789")) t.Cv
 Xq:mg "LEAST_PLACES"=some t.Ek
 Yq:zd (.int 2) t.Ek
 OA:mg "LETTERS"=some t.mv
 NC:zd (.str (Str.ofString "abcdefghijklmnopqrstuvwxyz")) t.mv
 kr:mg "MOST_FIGURES"=some t.Wk
 Tq:zd (.int 3) t.Wk
 Fv:mg "MOST_LEAST"=some t.Wn
 nv:zd (.int 60) t.Wn
 Rr:mg "MOST_LETTERS"=some t.Jk
 Pr:zd (.int 8) t.Jk
 ax:mg "MOST_NEAR"=some t.No
 Gx:zd (.int 30) t.No
 zz:mg "MOST_OFF"=some t.Cs
 Rz:zd (.int 30) t.Cs
 bu:mg "MOST_PLACES"=some t.rm
 qu:zd (.int 99) t.rm
 Qw:mg "MOST_SIZE"=some t.Np
 Hx:zd (.int 240) t.Np
 Xu:mg "MOST_SPANS"=some t.Jn
 bv:zd (.int 3) t.Jn
 Aw:mg "MOST_WAYS"=some t.Qp
 gx:zd (.int 12) t.Qp
 AL:mg "all"=none
 kJ:mg "bool"=none
 af:mg "enumerate"=none
 yL:mg "int"=none
 Rn:mg "isinstance"=none
 xg:mg "len"=none
 ug:mg "list"=none
 sL:mg "max"=none
 dJ:mg "min"=none
 Wd:mg "range"=none
 Cn:mg "reversed"=none
 Jz:mg "str"=none
 pL:mg "sum"=none
 BL:mg "zip"=none
 bJ:∀ (s:Shared) (u:Value),BindsTo s t.zD ⟨[u],[]⟩ [("_law_script",u)]
section
variable {w:World} {K:PySem.W.Frag} {mg:Str→Option Value} {t:Adr} (T:Txt w K mg t)
include T
theorem Txt.oE:fc K t.zo q8 []:=T.At.binds fun _ _ _ _ _ _=>us3 fun _ _ _=>rfl
theorem Txt.MK:fc K t.vy q8 []:=T.UC.binds fun _ _ _ _ _ _=>us3 fun _ _ _=>rfl
theorem Txt.ix:fc K t.Ii q8 []:=T.Hl.binds fun _ _ _ _ _ _=>us3 fun _ _ _=>rfl
theorem Txt.lD:fc K t.Vt q20 []:=T.Ot.binds fun _ _ _ _ _ _=>us2 fun _ _=>rfl
theorem Txt.Wq:fc K t.Pf q30 []:=T.Nh.binds fun _ _ _ _ _ _=>us3 fun _ _ _=>rfl
theorem Txt.Rv:fc K t.zm q31 []:=T.Vl.binds fun _ _ _ _ _ _=>us3 fun _ _ _=>rfl
theorem Txt.ur:fc K t.Of q32 []:=T.Oh.binds fun _ _ _ _ _ _=>us3 fun _ _ _=>rfl
theorem Txt.Bt:fc K t.Sg ["line"] []:=T.Wi.binds fun _ _ _ _ _ _=>us1 fun _=>rfl
theorem Txt.Lv:fc K t.Bh q33 []:=T.Fj.binds fun _ _ _ _ _ _=>us4 fun _ _ _ _=>rfl
theorem Txt.up:fc K t.am q34 []:=T.sj.binds fun _ _ _ _ _ _=>us4 fun _ _ _ _=>rfl
theorem Txt.YH:fc K t.Ct ["text"] []:=T.Kx.binds fun _ _ _ _ _ _=>us1 fun _=>rfl
theorem Txt.Nn:fc K t.ng q16 []:=T.Lh.binds fun _ _ _ _ _ _=>us3 fun _ _ _=>rfl
theorem Txt.Ix:fc K t.Ui q24 []:=T.Nl.binds fun _ _ _ _ _ _=>us2 fun _ _=>rfl
theorem Txt.aB:fc K t.tm q35 []:=T.Ip.binds fun _ _ _ _ _ _=>us3 fun _ _ _=>rfl
theorem Txt.GB:fc K t.Am ["word"] []:=T.Gp.binds fun _ _ _ _ _ _=>us1 fun _=>rfl
theorem Txt.Mv:fc K t.Cj ["text"] []:=T.Wl.binds fun _ _ _ _ _ _=>us1 fun _=>rfl
theorem Txt.vx:fc K t.Ei ["reader"] []:=T.Ml.binds fun _ _ _ _ _ _=>us1 fun _=>rfl
theorem Txt.Cp:fc K t.Cf q36 []:=T.kh.binds fun _ _ _ _ _ _=>us2 fun _ _=>rfl
theorem Txt.nz:fc K t.fk q25 []:=T.zn.binds fun _ _ _ _ _ _=>us3 fun _ _ _=>rfl
theorem Txt.vz:fc K t.vk q26 []:=T.yn.binds fun _ _ _ _ _ _=>us7 fun _ _ _ _ _ _ _=>rfl
theorem Txt.yz:fc K t.ik q37 []:=T.Bn.binds fun _ _ _ _ _ _=>us3 fun _ _ _=>rfl
theorem Txt.Uo:fc K t.lf ["text"] []:=T.bh.binds fun _ _ _ _ _ _=>us1 fun _=>rfl
theorem Txt.Qy:fc K t.Ko q38 []:=T.Ho.binds fun _ _ _ _ _ _=>us3 fun _ _ _=>rfl
theorem Txt.aw:fc K t.Gh q27 []:=T.wj.binds fun _ _ _ _ _ _=>us3 fun _ _ _=>rfl
theorem Txt.YI:fc K t.Fy q11 []:=T.jB.binds fun _ _ _ _ _ _=>us3 fun _ _ _=>rfl
theorem Txt.uL:fc K t.qF q11 []:=T.tI.binds fun _ _ _ _ _ _=>us3 fun _ _ _=>rfl
theorem Txt.Dk:fc K t.Me ["marks"] []:=T.gg.binds fun _ _ _ _ _ _=>us1 fun _=>rfl
theorem Txt.yr:fc K t.Nf ["marks"] []:=T.Mh.binds fun _ _ _ _ _ _=>us1 fun _=>rfl
theorem Txt.ei:fc K t.df q10 []:=T.Gf.binds fun _ _ _ _ _ _=>us2 fun _ _=>rfl
theorem Txt.On:fc K t.wg q28 []:=T.Dh.binds fun _ _ _ _ _ _=>us3 fun _ _ _=>rfl
theorem Txt.tK:fc K t.dz q39 []:=T.cC.binds fun _ _ _ _ _ _=>us3 fun _ _ _=>rfl
theorem Txt.qw:fc K t.Gi ["reader"] []:=T.Ol.binds fun _ _ _ _ _ _=>us1 fun _=>rfl
theorem Txt.bx:fc K t.Ci q40 []:=T.Jl.binds fun _ _ _ _ _ _=>us4 fun _ _ _ _=>rfl
theorem Txt.Kw:fc K t.Qi q41 []:=T.xl.binds fun _ _ _ _ _ _=>us2 fun _ _=>rfl
theorem Txt.mr:fc K t.Tf q42 []:=T.Ph.binds fun _ _ _ _ _ _=>us2 fun _ _=>rfl
theorem Txt.Nj:fc K t.Ed q43 []:=T.Be.binds fun _ _ _ _ _ _=>us3 fun _ _ _=>rfl
theorem Txt.Ar:fc K t.Sf q12 []:=T.Vh.binds fun _ _ _ _ _ _=>us3 fun _ _ _=>rfl
theorem Txt.An:fc K t.Je q44 []:=T.Mf.binds fun _ _ _ _ _ _=>us5 fun _ _ _ _ _=>rfl
theorem Txt.Pq:fc K t.eg q12 []:=T.Sh.binds fun _ _ _ _ _ _=>us3 fun _ _ _=>rfl
theorem Txt.mx:fc K t.Yi q45 []:=T.Al.binds fun _ _ _ _ _ _=>us3 fun _ _ _=>rfl
theorem Txt.Rb:fc K t.Lf q21 []:=T.Mb.binds fun _ _ _ _ _ _=>us3 fun _ _ _=>rfl
theorem Txt.Uv:fc K t.Hh q46 []:=T.Sj.binds fun _ _ _ _ _ _=>us2 fun _ _=>rfl
theorem Txt.Gw:fc K t.Ri q22 []:=T.Kl.binds fun _ _ _ _ _ _=>us1 fun _=>rfl
theorem Txt.Ir:fc K t.cg q47 []:=T.Qh.binds fun _ _ _ _ _ _=>us3 fun _ _ _=>rfl
theorem Txt.Jm:fc K t.Og q48 []:=T.Rg.binds fun _ _ _ _ _ _=>us5 fun _ _ _ _ _=>rfl
theorem Txt.ao:fc K t.Xe q29 []:=T.jj.binds fun _ _ _ _ _ _=>us3 fun _ _ _=>rfl
theorem Txt.Ie:fc K t.Uc ["self"] []:=T.ci.binds fun _ _ _ _ _ _=>us1 fun _=>rfl
theorem Txt.yk:fc K t.Md ["self"] []:=T.Hg.binds fun _ _ _ _ _ _=>us1 fun _=>rfl
theorem Txt.yg:fc K t.Ad q17 []:=T.ij.binds fun _ _ _ _ _ _=>us2 fun _ _=>rfl
theorem Txt.Fd:fc K t.Nc q18 []:=T.xh.binds fun _ _ _ _ _ _=>us2 fun _ _=>rfl
theorem Txt.Zb:fc K t.nc q15 []:=T.dh.binds fun _ _ _ _ _ _=>us3 fun _ _ _=>rfl
theorem Txt.re:fc K t.Kc ["self"] []:=T.Ih.binds fun _ _ _ _ _ _=>us1 fun _=>rfl
theorem Txt.Um:fc K t.Wg q19 []:=T.Ds.binds fun _ _ _ _ _ _=>us8 fun _ _ _ _ _ _ _ _=>rfl
theorem Txt.yt:fc K t.Ng q9 []:=T.Ql.binds fun _ _ _ _ _ _=>us7 fun _ _ _ _ _ _ _=>rfl
theorem Txt.Jr:fc K t.Wh ["self"] []:=T.Ak.binds fun _ _ _ _ _ _=>us1 fun _=>rfl
theorem Txt.ot:fc K t.Ji ["self"] []:=T.km.binds fun _ _ _ _ _ _=>us1 fun _=>rfl
theorem Txt.Vq:fc K t.Uf q9 []:=T.Kk.binds fun _ _ _ _ _ _=>us7 fun _ _ _ _ _ _ _=>rfl
theorem Txt.bq:fc K t.jh ["self"] []:=T.Hj.binds fun _ _ _ _ _ _=>us1 fun _=>rfl
theorem Txt.ar:fc K t.Uh ["self"] []:=T.Zk.binds fun _ _ _ _ _ _=>us1 fun _=>rfl
theorem Txt.Kr:fc K t.fg q9 []:=T.gl.binds fun _ _ _ _ _ _=>us7 fun _ _ _ _ _ _ _=>rfl
theorem Txt.Pp:fc K t.Xg ["self"] []:=T.Jj.binds fun _ _ _ _ _ _=>us1 fun _=>rfl
theorem Txt.Nr:fc K t.Th ["self"] []:=T.Ck.binds fun _ _ _ _ _ _=>us1 fun _=>rfl
theorem Txt.ap:fc K t.Bf q50 []:=T.Vj.binds fun _ _ _ _ _ _=>us3 fun _ _ _=>rfl
theorem Txt.Bd:fc K t.ed ["self"] []:=T.lj.binds fun _ _ _ _ _ _=>us1 fun _=>rfl
theorem Txt.wn:fc K t.Ge q5 []:=T.gi.binds fun _ _ _ _ _ _=>us2 fun _ _=>rfl
theorem Txt.vc:fc K t.gc q5 []:=T.Xh.binds fun _ _ _ _ _ _=>us2 fun _ _=>rfl
theorem Txt.sw:fc K t.Oi q51 []:=T.So.binds fun _ _ _ _ _ _=>us4 fun _ _ _ _=>rfl
end
noncomputable def zh (ns:List Int) (k m:Int):Int:=
 ((((if 0 < (ns.length:Int) then ns.getD (k % (ns.length:Int)).toNat 0 else 0) % 1000003 + 31 * k * k + 1) * 48271 % 999983 * 7919) % 524287) % m
theorem Ae (ns:List Int) (k:Int) {m:Int} (h:0 < m):0 ≤ zh ns k m:=Int.emod_nonneg _ (by omega)
theorem we (ns:List Int) (k:Int) {m:Int} (h:0 < m):zh ns k m < m:=Int.emod_lt_of_pos _ h
noncomputable def jd (K:PySem.W.Frag) (a:Addr) (ns:List Int):Sp:=fun vs H Q _=>∃ k m,vs=[.ref a,.int k,.int m]∧Sc K a ns H∧(0 ≤ k∧k < 1000000)∧0 < m∧Q (.int (zh ns k m)) H
section
variable {P:Program} {w:World} {K:PySem.W.Frag} {mg:Str→Option Value} {base:Heap} {t:Adr}
theorem Mw (T:Txt w K mg t) (a:Addr) (ns:List Int) (h63:ns.length ≤ 63):Lb P w K mg base CX0 1 t.Hf t.Lf q21 (jd K a ns):=by
 refine T.Mb.ok yj (fun vs H Q E h=>?_) (fun _ _ _ s H vs Q E hr h=>?_)
 ·obtain ⟨k,m,rfl,_⟩:=h;rfl
 obtain ⟨k,m,rfl,S,⟨h0,h1⟩,hm,q⟩:=h;refine ⟨_,(cb (Bb (i:=3) yj.nd rfl (Or.inl rfl) (qk (bc qA (Vb Fb rfl T.xg Ob (ab (pv 0) fb)) ub (qc _)) (Yc ic (pv 0) (Gb Le (pv 1) (Vb Fb rfl T.xg Ob (ab (pv 0) fb))) (fun _ _=>rfl)) ub))
   (cb (Bb (i:=4) yj.nd rfl (Or.inl rfl) (Gb zc (Gb zc (Gb Le (pv 3) ub) (Gb Ig (Gb Ig ub (pv 1)) (pv 1))) ub))
   (pb (Jb (Gb Le (Gb Le (Gb Ig (Gb Le (Gb Ig (pv 4) ub) ub) ub) ub) (pv 2)))))),?_⟩
 walk_at "RD";refine ⟨_,.inl S.seq,?_⟩;rw [List.length_map];have hkk:(0:Int) ≤ k * k∧k * k < 1000000 * 1000000:=⟨Int.mul_nonneg h0 h0,Int.mul_lt_mul' (by omega) h1 h0 (by decide)⟩;have fin:∀ i:Int,(0:Int) < 1000003∧fG 31 k∧fG (31 * k) k∧fG (i % 1000003 + 31 * k * k + 1) 48271∧(0:Int) < 999983∧fG ((i % 1000003 + 31 * k * k + 1) * 48271 % 999983) 7919∧(0:Int) < 524287∧0 < m:=by
  intro i;refine ⟨by decide,.inl (by decide),.inr (by omega),.inr (by decide),by decide,.inr (by decide),by decide,hm⟩
 by_cases c:(0:Int) < (ns.length:Int)
 ·rw [if_pos (decide_eq_true c)];have hk:0 ≤ k % (ns.length:Int)∧k % (ns.length:Int) < (ns.length:Int):=⟨Int.emod_nonneg _ (by omega),Int.emod_lt_of_pos _ c⟩;refine ⟨_,.inl S.seq,by rw [List.length_map];exact c,_,S.seq,?_⟩;rw [List.length_map];have hj:(k % (ns.length:Int)).toNat < ns.length:=by omega
  refine ⟨.int ns[(k % (ns.length:Int)).toNat],?_,_,rfl,?_⟩
  ·have e:=wc (xs:=ns.map V.int) (j:=(k % (ns.length:Int)).toNat) (v:=.int ns[(k % (ns.length:Int)).toNat]) (by rw [List.getElem?_map,List.getElem?_eq_getElem hj] <;> rfl);rwa [Int.toNat_of_nonneg hk.1] at e
  ·obtain ⟨f1,f2,f3,f4,f5,f6,f7,f8⟩:=fin ns[(k % (ns.length:Int)).toNat];refine ⟨f1,f2,f3,f4,f5,f6,f7,f8,?_⟩;have e:zh ns k m=(((ns[(k % (ns.length:Int)).toNat] % 1000003 + 31 * k * k + 1) * 48271 % 999983 * 7919) % 524287) % m:=by
    unfold zh;rw [if_pos c,List.getD_eq_getElem?_getD,List.getElem?_eq_getElem hj];rfl
   rw [← e];exact q
 ·rw [if_neg (by simpa using c)];obtain ⟨f1,f2,f3,f4,f5,f6,f7,f8⟩:=fin 0;refine ⟨f1,f2,f3,f4,f5,f6,f7,f8,?_⟩;have e:zh ns k m=(((0 % 1000003 + 31 * k * k + 1) * 48271 % 999983 * 7919) % 524287) % m:=by
   unfold zh;rw [if_neg c]
  rw [← e];exact q
end
theorem SK {w:Str}:w=Str.ofString "" ↔ w.length=0:=by
 constructor
 ·rintro rfl;decide +kernel
 ·intro h;have e:w.cps=#[]:=Array.eq_empty_of_size_eq_zero h;have e2:(Str.ofString "").cps=#[]:=by decide +kernel
  cases w;cases h2:Str.ofString "";rw [h2] at e2;simp only at e e2;rw [e,e2]
noncomputable def inL (sg:Str) (c:Nat):Bool:=!(Builtin.Str.occurrences sg (Qu c) 0 sg.length 1).isEmpty
theorem Xw (sg:Str) (c:Nat):inL sg c=decide (c ∈ sg.cps.toList):=StrLaws.found_one sg c
noncomputable def made (w sg:Str) (m:Int):Bool:=if w=Str.ofString "" then false else if m < (w.length:Int) then false else w.cps.toList.all (inL sg)
noncomputable def Jq:Sp:=fun vs H Q _=>∃ w sg m,vs=[.str w,.str sg,.int m]∧w.length ≤ 1000∧NoT H∧Q (.bl (made w sg m)) H
noncomputable def AE:Sp:=fun vs H Q _=>∃ w sg m,vs=[.str w,.str sg,.int m]∧w.length ≤ 1000∧∀ H',Nb H H'→Q (.bl (made w sg m)) H'
section
variable {P:Program} {w:World} {K:PySem.W.Frag} {mg:Str→Option Value} {base:Heap} {t:Adr}
theorem jD (T:Txt w K mg t):Lb P w K mg base CX0 1 t.qg t.ng q16 Jq:=by
 refine Lb.forget (sp:=AE) ?_ fun vs H Q E h=>?_
 ·refine T.Lh.ok wu (fun vs H Q E h=>?_) (fun _ _ _ s H vs Q E hr h=>?_)
  ·obtain ⟨w,sg,m,rfl,_⟩:=h;rfl
  obtain ⟨w,sg,m,rfl,hz,q⟩:=h;have hz':w.length ≤ sizeLine:=Nat.le_trans hz (by decide);refine ⟨_,(cb (Ye (PW.pt (Lw (bc mj (pv 0) Rc (qc _)) (Ro (bc qA (Vb Gu rfl T.xg Ob (ab (pv 0) fb)) (pv 2) (qc _))))) (pb (Jb Yo)) Ec)
   (pb (Jb (Vb (MD rfl) rfl T.AL Lz (ab (Jf rfl (KK (pv 0)) (Qc (sc:=rb zj) rfl (by decide +kernel)) (N:=["sign","signs"]) (sel:=[none,some 1]) (ud (M:=q16) (by decide +kernel)) (Blk.of (fun _ _ _ _=>(xb (i:=0) (Bg (N:=["sign","signs"]) (by decide +kernel) rfl) rfl (Or.inl rfl))) (fun _ _ _ _=>⟨_,uf,by walk_at "B"⟩) (fun _ _ _ _=>⟨_,(Ff CA (pv 0) (pv 1) (by with_unfolding_all rfl)),by walk_at "B"⟩))) fb))))),?_⟩
  walk_at "RD";refine Wc (decide (w=Str.ofString "") || decide (m < (w.length:Int))) (fun Q hQ=>?_) (fun hb=>?_) (fun hb=>?_)
  ·walk_at "RD";by_cases c:w=Str.ofString ""
   ·rw [if_pos (decide_eq_true c)];rw [decide_eq_true c,Bool.true_or] at hQ;exact hQ
   ·rw [if_neg (by simpa using c)];rw [decide_eq_false c,Bool.false_or] at hQ;exact ⟨hz',hQ⟩
  ·walk_at "RD";have e:made w sg m=false:=by
    unfold made;simp only [Bool.or_eq_true,decide_eq_true_eq] at hb;by_cases c:w=Str.ofString ""
    ·rw [if_pos c]
    ·rw [if_neg c,if_pos (hb.resolve_left c)]
   have:=q H (Nb.refl H);rw [e] at this;exact this
  ·walk_at "RD";have e:made w sg m=w.cps.toList.all (inL sg):=by
    unfold made;simp only [Bool.or_eq_false_iff,decide_eq_false_iff_not] at hb;rw [if_neg hb.1,if_neg hb.2]
   refine vd.its_map (fun x=>match x with | .str y=>.bl (!(Builtin.Str.occurrences sg y 0 sg.length 1).isEmpty) | _=>.non) (by rw [Yl];exact hz') (fun i x N hx hN=>?_) (fun p hp=>?_)
   ·unfold gj at hx;rw [List.getElem?_map] at hx;cases hc:w.cps.toList[i]? with
    | none=>rw [hc] at hx;cases hx
    | some c=>
     rw [hc] at hx;have hx':V.str (Qu c)=x:=Option.some.inj hx;subst hx';walk_at "RD";exact ⟨Sub.name,hN⟩
   ·refine ⟨p,rfl,w.cps.toList.map (inL sg),SqL.of ?_,?_⟩
    ·rw [db];unfold gj;rw [List.map_map,List.map_map];rfl
    ·have:=q (upd H p (.lst (List.map (fun x=>match x with | .str y=>.bl (!(Builtin.Str.occurrences sg y 0 sg.length 1).isEmpty) | _=>.non) (gj w)))) (lb hp);rw [e] at this;rw [List.all_map];exact this
 ·obtain ⟨w,sg,m,e,hz,nt,q⟩:=h;exact ⟨nt,w,sg,m,e,hz,fun H' sm=>⟨sm,q⟩⟩
end
noncomputable abbrev nI:Str:=Str.ofString "0123456789"
noncomputable def ko (c:Nat):Bool:=decide (48 ≤ c∧c ≤ 57)
theorem QB:nI.cps.toList=[48,49,50,51,52,53,54,55,56,57]:=by decide +kernel
theorem RE (c:Nat):inL nI c=ko c:=by
 rw [Xw,QB];unfold ko;rw [Bool.eq_iff_iff];simp only [decide_eq_true_eq,List.mem_cons,List.not_mem_nil,or_false];omega
noncomputable abbrev cs (w:Str):List Nat:=w.cps.toList
theorem NB (w:Str):(cs w).length=w.length:=by simp [cs,Str.length]
noncomputable def okB (w:Str):Bool:=decide (1 ≤ (cs w).length) && decide ((cs w).length ≤ 3) && (cs w).all ko && (decide ((cs w).length ≤ 1) || decide ((cs w).headD 0 ≠ 48))
noncomputable abbrev val (w:Str):Int:=((NumText.digitsVal (cs w):Nat):Int)
noncomputable def vD (w:Str) (lo hi:Int):V:=if okB w && !(decide (val w < lo) || decide (hi < val w)) then .int (val w) else .non
theorem wC {w:Str} {c:Nat}:w=⟨#[c]⟩↔cs w=[c]:=by
 constructor
 ·rintro rfl;rfl
 ·intro h;cases w with
  | mk a=>
   have e:a=#[c]:=Array.toList_inj.mp h;rw [e]
theorem Tw:Str.ofString "0"=⟨#[48]⟩:=by decide +kernel
theorem Yu (w:Str):made w nI 3=(decide (1 ≤ (cs w).length) && decide ((cs w).length ≤ 3) && (cs w).all ko):=by
 unfold made;have e:(inL nI)=ko:=funext RE;rw [e];by_cases h1:w=Str.ofString ""
 ·have h2:=SK.mp h1;rw [if_pos h1,NB,h2];rfl
 ·have h2:¬ w.length=0:=fun z=>h1 (SK.mpr z)
  rw [if_neg h1,NB];by_cases h3:(3:Int) < (w.length:Int)
  ·rw [if_pos h3,decide_eq_false (show ¬ w.length ≤ 3 by omega),Bool.and_false,Bool.false_and]
  ·rw [if_neg h3,decide_eq_true (show 1 ≤ w.length by omega),decide_eq_true (show w.length ≤ 3 by omega)];rfl
theorem qt {l:List Nat} (h:l.all ko=true):NumText.AllDigits l:=fun c hc=>by
 have:=List.all_eq_true.mp h c hc;simpa [ko] using this
theorem jK {w:Str} (h:okB w=true):(1 ≤ (cs w).length∧(cs w).length ≤ 3)∧(cs w).all ko=true:=by
 unfold okB at h;simp only [Bool.and_eq_true,decide_eq_true_eq] at h;exact h.1
noncomputable def MA:Sp:=fun vs H Q _=>∃ w,vs=[.str w,.int 3]∧w.length ≤ 1000∧NoT H∧Q (.bl (okB w)) H
noncomputable def YF:Sp:=fun vs H Q _=>∃ w lo hi,vs=[.str w,.int lo,.int hi]∧w.length ≤ 1000∧NoT H∧Q (vD w lo hi) H
section
variable {P:Program} {w:World} {K:PySem.W.Frag} {mg:Str→Option Value} {base:Heap} {t:Adr}
theorem UI (T:Txt w K mg t):Lb P w K mg base CX0 2 t.Li t.Ui q24 MA:=by
 have g17:Lb P w K mg base CX0 1 t.qg t.ng q16 Jq:=jD T;refine T.Nl.ok Hu (fun vs H Q E h=>?_) (fun _ _ _ s H vs Q E hr h=>?_)
 ·obtain ⟨w,rfl,_⟩:=h;rfl
 obtain ⟨w,rfl,hz,nt,q⟩:=h;have hz':w.length ≤ sizeLine:=Nat.le_trans hz (by decide);refine ⟨_,(cb (Ye (Lp (Qk (yb g17 hr rfl T.Xn T.Lh.kp T.Nn .nil Cb (ab (pv 0) (ab (Cg rfl T.ZB T.yC) (ab (pv 1) fb)))))) (pb (Jb Yo)) Ec)
   (pb (Jb (RI (Ff mj (pv 0) Rc (qc _)) (wy (Ff BA (Yc OC (pv 0) ub (fun _ _=>rfl)) Rc (qc _))))))),?_⟩
 refine Wc (!made w nI 3) (fun Q hQ=>?_) (fun hb=>?_) (fun hb=>?_)
 ·(walk_at "RD"; repeat (simp only [Jq];walk_at "RD"));exact ⟨hz,nt,hQ⟩
 ·walk_at "RD";have e:okB w=false:=by
   have hb':made w nI 3=false:=by simpa using hb
   rw [Yu] at hb';unfold okB;rw [hb'];rfl
  rw [e] at q;exact q
 ·have hb':made w nI 3=true:=by simpa using hb
  rw [Yu] at hb';rw [Zx];dsimp only;refine lH (.bl (okB w)) (fun Q hQ=>?_) ?_
  case refine_2=>exact q
  walk_at "RD";have hb2:(1 ≤ (cs w).length∧(cs w).length ≤ 3)∧(cs w).all ko=true:=by
   simpa only [Bool.and_eq_true,decide_eq_true_eq] using hb'
  obtain ⟨c,r,hcr⟩:∃ c r,cs w=c :: r:=by
   cases h:cs w with
   | nil=>rw [h] at hb2;exact absurd hb2.1.1 (by decide)
   | cons c r=>exact ⟨c,r,rfl⟩
  have ok:okB w=(decide ((cs w).length ≤ 1) || decide ((cs w).headD 0 ≠ 48)):=by
   unfold okB;rw [hb',Bool.true_and]
  by_cases c0:w=Str.ofString "0"
  ·rw [if_pos (decide_eq_true c0)];have e:cs w=[48]:=by rw [c0,Tw]
   rw [ok,e] at hQ;exact hQ
  ·rw [if_neg (by simpa using c0)];refine ⟨hz',c,?_,?_⟩
   ·have:=wc (xs:=cs w) (j:=0) (v:=c) (by rw [hcr];rfl);exact this
   ·have e2:decide ((⟨#[c]⟩:Str)=Str.ofString "0")=decide (c=48):=by
     rw [Tw];by_cases h48:c=48
     ·rw [h48];simp
     ·rw [decide_eq_false h48,decide_eq_false];intro z;have z2:=wC.mp z;exact h48 (List.cons.inj z2).1
    rw [e2];have e3:okB w = !decide (c=48):=by
     rw [ok,hcr];show (decide ((c :: r).length ≤ 1) || decide (c ≠ 48))=_;by_cases h48:c=48
     ·have hr:r ≠ []:=fun z=>c0 (by rw [Tw];exact wC.mpr (by rw [hcr,z,h48]))
      have:¬ (c :: r).length ≤ 1:=by
       cases r with
       | nil=>exact absurd rfl hr
       | cons d r=>simp
      rw [decide_eq_false this,h48];rfl
     ·rw [decide_eq_true h48,Bool.or_true,decide_eq_false h48];rfl
    rw [← e3];exact hQ
theorem MI (T:Txt w K mg t):Lb P w K mg base CX0 3 t.Sl t.tm q35 YF:=by
 have g26:Lb P w K mg base CX0 2 t.Li t.Ui q24 MA:=UI T;refine T.Ip.ok Ls (fun vs H Q E h=>?_) (fun _ _ _ s H vs Q E hr h=>?_)
 ·obtain ⟨w,lo,hi,rfl,_⟩:=h;rfl
 obtain ⟨w,lo,hi,rfl,hz,nt,q⟩:=h;refine ⟨_,(cb (Ye (Lp (Qk (yb g26 hr rfl T.Dw T.Nl.kp T.Ix .nil Cb (ab (pv 0) (ab (Cg rfl T.kr T.Tq) fb))))) (pb (Jb MC)) Ec)
   (cb (Bb (i:=3) Ls.nd rfl (Or.inl rfl) (Cc xC rfl T.yL Vz (ab (pv 0) fb)))
   (cb (Ye (PW.pt (Lw (bc cn (pv 3) (pv 1) (qc _)) (Ro (bc qA (pv 3) (pv 2) (qc _))))) (pb (Jb MC)) Ec)
   (pb (Jb (pv 3)))))),?_⟩
 refine Wc (!okB w) (fun Q hQ=>?_) (fun hb=>?_) (fun hb=>?_)
 ·(walk_at "RD"; repeat (simp only [MA];walk_at "RD"));exact ⟨hz,nt,hQ⟩
 ·walk_at "RD";have hb':okB w=false:=by simpa using hb
  have e:vD w lo hi=.non:=by unfold vD;rw [hb'];rfl
  rw [e] at q;exact q
 ·have hb':okB w=true:=by simpa using hb
  have h3:(1 ≤ (cs w).length∧(cs w).length ≤ 3)∧(cs w).all ko=true:=by
   have:=hb';unfold okB at this;simp only [Bool.and_eq_true,decide_eq_true_eq] at this;exact this.1
  have hl:=NB w;have hi':intText? w=some (val w):=intText_digits (qt h3.2) (fun z=>by have z':cs w=[]:=z;rw [z'] at h3;exact absurd h3.1.1 (by decide)) (by omega);walk_at "RD";refine ⟨val w,hi',by omega,?_⟩;refine Wc (decide (val w < lo) || decide (hi < val w)) (fun Q hQ=>?_) (fun hc=>?_) (fun hc=>?_)
  ·walk_at "RD";by_cases c:val w < lo
   ·rw [if_pos (decide_eq_true c)];rw [decide_eq_true c,Bool.true_or] at hQ;exact hQ
   ·rw [if_neg (by simpa using c)];rw [decide_eq_false c,Bool.false_or] at hQ;exact hQ
  ·walk_at "RD";have e:vD w lo hi=.non:=by unfold vD;rw [hb',hc];rfl
   rw [e] at q;exact q
  ·walk_at "RD";have e:vD w lo hi=.int (val w):=by unfold vD;rw [hb',hc];rfl
   rw [e] at q;exact q
end
theorem DA {n:Nat} (h:n < 1000):n.log2 < 1920:=by
 by_cases h0:n=0
 ·subst h0;decide
 ·rw [Nat.log2_lt h0];exact Nat.lt_of_lt_of_le h (Nat.le_trans (show 1000 ≤ 2 ^ 10 by decide) (Nat.pow_le_pow_right (by decide) (by decide)))
theorem FE:∀ n,n < 1000→(Nat.toDigits 10 n).length ≤ 3:=by decide +kernel
theorem mB {n:Int} (h0:0 ≤ n) (h1:n ≤ 999):(Str.ofString (toString n)).length ≤ 3:=by
 have e:=PySem.W.KIN.signs_num n.toNat;rw [Int.toNat_of_nonneg h0] at e;have l:(Str.ofString (toString n)).length=(Str.ofString (toString n)).cps.toList.length:=by simp [Str.length]
 rw [l,e,List.length_map];exact FE _ (by omega)
noncomputable abbrev Ag:Str:=Str.ofString "abcdefghijklmnopqrstuvwxyz"
noncomputable def xB:Sp:=fun vs H Q _=>∃ w,vs=[.str w]∧w.length ≤ 1000∧NoT H∧Q (.bl (made w Ag 8)) H
section
variable {P:Program} {w:World} {K:PySem.W.Frag} {mg:Str→Option Value} {base:Heap} {t:Adr}
theorem ZG (T:Txt w K mg t):Lb P w K mg base CX0 2 t.Zl t.Am ["word"] xB:=by
 have g17:Lb P w K mg base CX0 1 t.qg t.ng q16 Jq:=jD T;refine T.Gp.ok Pz (fun vs H Q E h=>?_) (fun _ _ _ s H vs Q E hr h=>?_)
 ·obtain ⟨w,rfl,_⟩:=h;rfl
 obtain ⟨w,rfl,hz,nt,q⟩:=h;refine ⟨_,(pb (Jb (yb g17 hr rfl T.Xn T.Lh.kp T.Nn .nil Cb (ab (pv 0) (ab (Cg rfl T.OA T.NC) (ab (Cg rfl T.Rr T.Pr) fb)))))),?_⟩;(walk_at "RD"; repeat (simp only [Jq];walk_at "RD"));exact ⟨hz,nt,q⟩
end
noncomputable abbrev nl:Str:=Str.ofString "\n"
noncomputable abbrev bk:Str:=Str.ofString " "
theorem rJ:nl=⟨#[10]⟩:=by decide +kernel
theorem cI:bk=⟨#[32]⟩:=by decide +kernel
noncomputable def ji (x:Str):List (List Str):=(Txt.split x nl).map fun r=>Txt.split r bk
theorem Ws:∀ {ys:List Str} {y:Str},y ∈ ys→y.length ≤ (ys.map (·.length)).sum
 | [],_,h=>nomatch h
 | a :: r,y,h=>by
  rw [List.map_cons,List.sum_cons];rcases List.mem_cons.mp h with rfl | h
  ·omega
  ·have:=Ws h;omega
theorem LG {x y r:Str} (hy:1 ≤ y.length) (h:r ∈ Txt.split x y):r.length ≤ x.length + 1:=by
 have h1:=PyProof.Rows.split_weight x y hy;have h2:=Ws h;omega
theorem Kq {x y:Str} (hy:1 ≤ y.length):(Txt.split x y).length ≤ x.length + 1:=by
 have h1:=PyProof.Rows.split_weight x y hy;omega
theorem OE (x y:Str):Txt.split x y ≠ []:=by
 unfold Txt.split;split
 ·simp
 ·split
  ·simp
  ·rw [StrLaws.partsBetween_eq];obtain ⟨p,r,e⟩:=StrLaws.partsFrom_ne x y.length 0 (Builtin.Str.occurrences x y 0 x.length (x.length + 1));rw [e];simp
noncomputable def LL (H0 H:Hp) (p:Addr) (rows:List (List Str)):Prop:=∃ qs:List Addr,H p=some (.lst (qs.map V.ref))∧H0 p=none∧p ∉ qs∧qs.length=rows.length∧∀ (i:Nat) (q:Addr) (r:List Str),qs[i]? = some q→rows[i]? = some r→H q=some (.lst (Hb r))∧H0 q=none
noncomputable def Zy:Sp:=fun vs H Q _=>∃ x,vs=[.str x]∧x.length ≤ 20000∧NoT H∧∀ p H',Nb H H'→NoT H'→LL H H' p (ji x)→Q (.ref p) H'
theorem Nu:nl.length=1:=by decide +kernel
theorem iy:bk.length=1:=by decide +kernel
section
variable {P:Program} {w:World} {K:PySem.W.Frag} {mg:Str→Option Value} {base:Heap} {t:Adr}
theorem uE (T:Txt w K mg t):Lb P w K mg base CX0 1 t.Dt t.Ct ["text"] Zy:=by
 refine T.Kx.ok ME (fun vs H Q E h=>?_) (fun _ _ _ s H vs Q E hr h=>?_)
 ·obtain ⟨x,rfl,_⟩:=h;rfl
 obtain ⟨x,rfl,hz,nt,q⟩:=h;have hzz:∀ n:Nat,n ≤ 40000→n ≤ sizeLine:=fun n h=>Nat.le_trans h (by decide)
 refine ⟨_,(pb (Jb (Jf rfl (Sd (Bi PySem.F.plainAttrs_str PySem.F.slot_str_split PySem.F.type_str_split ly (pv 0) (ab Rc fb))) (Qc (sc:=rb xx) rfl (by decide +kernel)) (N:=["row"]) (sel:=[none]) (ud (M:=["text"]) (by decide +kernel)) (Blk.of (fun _ _ _ _=>(xb (i:=0) (Bg (N:=["row"]) (by decide +kernel) rfl) rfl (Or.inl rfl))) (fun _ _ _ _=>⟨_,uf,by walk_at "B"⟩) (fun _ _ _ _=>⟨_,(Bi PySem.F.plainAttrs_str PySem.F.slot_str_split PySem.F.type_str_split ly (pv 0) (ab Rc fb)),by walk_at "B"⟩))))),?_⟩;walk_at "RD";have hy:1 ≤ nl.length:=by rw [Nu];exact Nat.le_refl _
 have hy2:1 ≤ bk.length:=by rw [iy];exact Nat.le_refl _
 have hs:=Kq (x:=x) hy;have hs':(Hb (Txt.split x nl)).length ≤ sizeLine:=by unfold Hb;rw [List.length_map];exact hzz _ (by omega)
 refine ⟨by rw [Nu];decide,hzz _ (by omega),hzz _ (show (Txt.split x nl).length ≤ 40000 by omega),fun p hp=>⟨⟨_,SqL.of db⟩,?_⟩⟩;refine vd.list_mk (xs:=Hb (Txt.split x nl)) (fun v=>match v with | .str r=>.lst (Hb (Txt.split r bk)) | _=>.lst []) (SqL.of db) hs' (fun v=>by cases v <;> rfl) (fun i v H1 N hx sm nt1 hN=>?_) (fun qs H1 sm nt1 hl al p2 hp2=>?_)
 ·unfold Hb at hx;rw [List.getElem?_map] at hx;cases hr:(Txt.split x nl)[i]? with
  | none=>rw [hr] at hx;cases hx
  | some r=>
   rw [hr] at hx;have e:=Option.some.inj hx;subst e;have hm:=LG hy (List.mem_of_getElem? hr);have hs2:=Kq (x:=r) hy2;walk_at "RD";exact ⟨Sub.name,by rw [iy];decide,hzz _ (by omega),hzz _ (show (Txt.split r bk).length ≤ 40000 by omega),hN⟩
 ·have sm0:Nb H H1:=(lb hp).trans sm;refine q _ _ (sm0.updN (sm0.free hp2)) ((nt1 (nt.upd)).upd) ⟨qs,db,sm0.free hp2,fun hm=>?_,?_,fun i q' r h1 h2=>?_⟩
  ·obtain ⟨j,hj,e⟩:=List.getElem_of_mem hm;have hj2:j < (Hb (Txt.split x nl)).length:=by omega
   have:=al j p2 _ (by rw [List.getElem?_eq_getElem hj,e]) (List.getElem?_eq_getElem hj2);rw [hp2] at this;cases this.1
  ·rw [hl];unfold ji Hb;rw [List.length_map,List.length_map]
  ·unfold ji at h2;rw [List.getElem?_map] at h2;cases hr:(Txt.split x nl)[i]? with
   | none=>rw [hr] at h2;cases h2
   | some r0=>
    rw [hr] at h2;have e:=Option.some.inj h2;subst e;have z:=al i q' (.str r0) h1 (by unfold Hb;rw [List.getElem?_map,hr];rfl);refine ⟨by rw [qb (wb z.1 hp2)];exact z.1,?_⟩;have:=z.2;by_cases hq:q'=p
    ·rw [hq];exact hp
    ·rwa [qb hq] at this
end
end My
namespace My
open PySem L2
structure WD where
 k:Nat
 name:Str
 start:Int
 fin:Int
 off:Int
 near:Int
 least:Int
noncomputable def Ld:Nat→Str
 | 0=>Str.ofString "car"
 | 1=>Str.ofString "foot"
 | _=>Str.ofString "tram"
noncomputable def Adr.cw (t:Adr):Nat→Addr
 | 0=>t.kd
 | 1=>t.Ic
 | _=>t.Jc
noncomputable def eo (d:WD):List (Str × V):=[(Str.ofString "kind",.str (Ld d.k)),(Str.ofString "name",.str d.name),(Str.ofString "start",.int d.start),(Str.ofString "end",.int d.fin),(Str.ofString "off",.int d.off),(Str.ofString "near",.int d.near),(Str.ofString "least",.int d.least)]
noncomputable abbrev Sr:List Str:=[Str.ofString "kind",Str.ofString "name",Str.ofString "start",Str.ofString "end",Str.ofString "off",Str.ofString "near",Str.ofString "least"]
theorem Fs (d:WD):(eo d).map (·.1)=Sr:=rfl
noncomputable def He (t:Adr) (H:Hp) (p:Addr) (d:WD):Prop:=d.k < 3∧∃ dx,H p=some (.ins (t.cw d.k) dx (eo d))
theorem He.same {t:Adr} {H H':Hp} {p:Addr} {d:WD} (h:He t H p d) (s:Nb H H'):He t H' p d:=⟨h.1,h.2.imp fun dx e=>s _ _ e⟩
noncomputable def isW (t:Adr) (C:Addr):Prop:=∃ k,k < 3∧C=t.cw k
noncomputable def Dc (d:WD):Int:=match d.k with | 0=>1 | 1=>0 | _=>2
noncomputable def Od (d:WD):Int:=match d.k with | 0=>2 | 1=>d.off | _=>1
section
variable {w:World} {K:PySem.W.Frag} {mg:Str→Option Value} {t:Adr}
theorem Txt.clw (T:Txt w K mg t):∀ k,Cls K (t.cw k)
 | 0=>T.qp
 | 1=>T.En
 | _ + 2=>T.Fn
theorem Txt.naw (T:Txt w K mg t) {f:Str} (hf:f ∈ Sr):∀ k,dc K (t.cw k) f:=by
 intro k;simp only [Sr,List.mem_cons,List.not_mem_nil,or_false] at hf;rcases hf with rfl | rfl | rfl | rfl | rfl | rfl | rfl
 ·match k with
  | 0=>exact T.zr
  | 1=>exact T.jp
  | _ + 2=>exact T.Fp
 ·match k with
  | 0=>exact T.Nq
  | 1=>exact T.Xp
  | _ + 2=>exact T.Bp
 ·match k with
  | 0=>exact T.zq
  | 1=>exact T.jo
  | _ + 2=>exact T.vo
 ·match k with
  | 0=>exact T.wt
  | 1=>exact T.ir
  | _ + 2=>exact T.Mr
 ·match k with
  | 0=>exact T.cu
  | 1=>exact T.Qq
  | _ + 2=>exact T.Tr
 ·match k with
  | 0=>exact T.Cr
  | 1=>exact T.Fq
  | _ + 2=>exact T.vp
 ·match k with
  | 0=>exact T.vq
  | 1=>exact T.uo
  | _ + 2=>exact T.oo
theorem Txt.cw_inj (T:Txt w K mg t) {j k:Nat} (hj:j < 3) (hk:k < 3) (e:t.cw j=t.cw k):j=k:=by
 match j,k,hj,hk with
 | 0,0,_,_=>rfl
 | 0,1,_,_=>exact absurd e T.di
 | 0,2,_,_=>exact absurd e T.ki
 | 1,0,_,_=>exact absurd e.symm T.di
 | 1,1,_,_=>rfl
 | 1,2,_,_=>exact absurd e T.Eh
 | 2,0,_,_=>exact absurd e.symm T.ki
 | 2,1,_,_=>exact absurd e.symm T.Eh
 | 2,2,_,_=>rfl
 | j + 3,_,h,_=>omega
 | _,k + 3,_,h=>omega
theorem He.fld (T:Txt w K mg t) {H:Hp} {p:Addr} {d:WD} (h:He t H p d) {f:Str} {v:V} (i:Nat) (hi:Sr.findIdx? (· == f)=some i) (hv:(eo d)[i]? = some (f,v)):nj K H p f v:=by
 obtain ⟨_,dx,e⟩:=h;have hm:f ∈ Sr:=by
  obtain ⟨hlt,h1,_⟩:=List.findIdx?_eq_some_iff_getElem.mp hi;have:Sr[i]=f:=by simpa using h1
  rw [← this];exact List.getElem_mem hlt
 exact ⟨_,dx,_,e,T.clw _,T.naw hm _,ae Sr i (Fs d) hi hv⟩
theorem He.f_name (T:Txt w K mg t) {H:Hp} {p:Addr} {d:WD} (h:He t H p d):nj K H p (Str.ofString "name") (.str d.name):=h.fld T 1 (by decide +kernel) rfl
theorem He.f_start (T:Txt w K mg t) {H:Hp} {p:Addr} {d:WD} (h:He t H p d):nj K H p (Str.ofString "start") (.int d.start):=h.fld T 2 (by decide +kernel) rfl
theorem He.f_end (T:Txt w K mg t) {H:Hp} {p:Addr} {d:WD} (h:He t H p d):nj K H p (Str.ofString "end") (.int d.fin):=h.fld T 3 (by decide +kernel) rfl
theorem He.f_off (T:Txt w K mg t) {H:Hp} {p:Addr} {d:WD} (h:He t H p d):nj K H p (Str.ofString "off") (.int d.off):=h.fld T 4 (by decide +kernel) rfl
theorem He.f_near (T:Txt w K mg t) {H:Hp} {p:Addr} {d:WD} (h:He t H p d):nj K H p (Str.ofString "near") (.int d.near):=h.fld T 5 (by decide +kernel) rfl
theorem He.f_least (T:Txt w K mg t) {H:Hp} {p:Addr} {d:WD} (h:He t H p d):nj K H p (Str.ofString "least") (.int d.least):=h.fld T 6 (by decide +kernel) rfl
end
noncomputable def uu (t:Adr):Sp:=fun vs H Q _=>∃ (p dx:Addr) (d:WD),vs=[.ref p,.str (Ld d.k),.str d.name,.int d.start,.int d.fin,.int d.off,.int d.near,.int d.least]∧d.k < 3∧H p=some (.ins (t.cw d.k) dx [])∧Q .non (upd H p (.ins (t.cw d.k) dx (eo d)))
noncomputable def Xj (t:Adr) (k:Nat):Sp:=fun vs H Q _=>∃ (p dx:Addr) (d:WD),vs=[.ref p,.str d.name,.int d.start,.int d.fin,.int d.off,.int d.near,.int d.least]∧d.k=k∧H p=some (.ins (t.cw d.k) dx [])∧Q .non (upd H p (.ins (t.cw d.k) dx (eo d)))
section
variable {P:Program} {w:World} {K:PySem.W.Frag} {mg:Str→Option Value} {base:Heap} {t:Adr}
theorem Jw (T:Txt w K mg t):Lb P w K mg base CX0 1 t.Kf t.Wg q19 (uu t):=by
 refine T.Ds.ok Ap (fun vs H Q E h=>?_) (fun _ _ _ s H vs Q E hr h=>?_)
 ·obtain ⟨p,dx,d,rfl,_⟩:=h;rfl
 obtain ⟨p,dx,d,rfl,hk,hp,q⟩:=h;refine ⟨_,(cb (Df (pv 0) (pv 1) rfl)
   (cb (Df (pv 0) (pv 2) rfl)
   (cb (Df (pv 0) (pv 3) rfl)
   (cb (Df (pv 0) (pv 4) rfl)
   (cb (Df (pv 0) (pv 5) rfl)
   (cb (Df (pv 0) (pv 6) rfl)
   (pb (Df (pv 0) (pv 7) rfl)))))))),?_⟩
 walk_at "RD";have na:∀ {f:Str},f ∈ Sr→dc K (t.cw d.k) f:=fun hf=>T.naw hf d.k
 refine ⟨_,_,_,hp,T.clw _,na (by decide +kernel),by decide,?_⟩;refine ⟨_,_,_,db,T.clw _,na (by decide +kernel),Pm (n:=999) (by decide),?_⟩;refine ⟨_,_,_,db,T.clw _,na (by decide +kernel),Pm (n:=999) (Pm (n:=998) (by decide)),?_⟩;refine ⟨_,_,_,db,T.clw _,na (by decide +kernel),Pm (n:=999) (Pm (n:=998) (Pm (n:=997) (by decide))),?_⟩;refine ⟨_,_,_,db,T.clw _,na (by decide +kernel),Pm (n:=999) (Pm (n:=998) (Pm (n:=997) (Pm (n:=996) (by decide)))),?_⟩;refine ⟨_,_,_,db,T.clw _,na (by decide +kernel),Pm (n:=999) (Pm (n:=998) (Pm (n:=997) (Pm (n:=996) (Pm (n:=995) (by decide))))),?_⟩;refine ⟨_,_,_,db,T.clw _,na (by decide +kernel),Pm (n:=999) (Pm (n:=998) (Pm (n:=997) (Pm (n:=996) (Pm (n:=995) (Pm (n:=994) (by decide)))))),?_⟩;simp only [Iq];rw [show ai (Str.ofString "kind") (V.str (Ld d.k)) ([]:List (Str × V))=[(Str.ofString "kind",V.str (Ld d.k))] from Hd [] rfl (by decide +kernel),
  show ai (Str.ofString "name") (V.str d.name) ([(Str.ofString "kind",V.str (Ld d.k))]:List (Str × V))=[(Str.ofString "kind",V.str (Ld d.k)),(Str.ofString "name",V.str d.name)] from Hd [Str.ofString "kind"] rfl (by decide +kernel),
  show ai (Str.ofString "start") (V.int d.start) ([(Str.ofString "kind",V.str (Ld d.k)),(Str.ofString "name",V.str d.name)]:List (Str × V))=[(Str.ofString "kind",V.str (Ld d.k)),(Str.ofString "name",V.str d.name),(Str.ofString "start",V.int d.start)] from Hd [Str.ofString "kind",Str.ofString "name"] rfl (by decide +kernel),
  show ai (Str.ofString "end") (V.int d.fin) ([(Str.ofString "kind",V.str (Ld d.k)),(Str.ofString "name",V.str d.name),(Str.ofString "start",V.int d.start)]:List (Str × V))=[(Str.ofString "kind",V.str (Ld d.k)),(Str.ofString "name",V.str d.name),(Str.ofString "start",V.int d.start),(Str.ofString "end",V.int d.fin)] from Hd [Str.ofString "kind",Str.ofString "name",Str.ofString "start"] rfl (by decide +kernel),
  show ai (Str.ofString "off") (V.int d.off) ([(Str.ofString "kind",V.str (Ld d.k)),(Str.ofString "name",V.str d.name),(Str.ofString "start",V.int d.start),(Str.ofString "end",V.int d.fin)]:List (Str × V))=[(Str.ofString "kind",V.str (Ld d.k)),(Str.ofString "name",V.str d.name),(Str.ofString "start",V.int d.start),(Str.ofString "end",V.int d.fin),(Str.ofString "off",V.int d.off)] from Hd [Str.ofString "kind",Str.ofString "name",Str.ofString "start",Str.ofString "end"] rfl (by decide +kernel),
  show ai (Str.ofString "near") (V.int d.near) ([(Str.ofString "kind",V.str (Ld d.k)),(Str.ofString "name",V.str d.name),(Str.ofString "start",V.int d.start),(Str.ofString "end",V.int d.fin),(Str.ofString "off",V.int d.off)]:List (Str × V))=[(Str.ofString "kind",V.str (Ld d.k)),(Str.ofString "name",V.str d.name),(Str.ofString "start",V.int d.start),(Str.ofString "end",V.int d.fin),(Str.ofString "off",V.int d.off),(Str.ofString "near",V.int d.near)] from Hd [Str.ofString "kind",Str.ofString "name",Str.ofString "start",Str.ofString "end",Str.ofString "off"] rfl (by decide +kernel),
  show ai (Str.ofString "least") (V.int d.least) ([(Str.ofString "kind",V.str (Ld d.k)),(Str.ofString "name",V.str d.name),(Str.ofString "start",V.int d.start),(Str.ofString "end",V.int d.fin),(Str.ofString "off",V.int d.off),(Str.ofString "near",V.int d.near)]:List (Str × V))=[(Str.ofString "kind",V.str (Ld d.k)),(Str.ofString "name",V.str d.name),(Str.ofString "start",V.int d.start),(Str.ofString "end",V.int d.fin),(Str.ofString "off",V.int d.off),(Str.ofString "near",V.int d.near),(Str.ofString "least",V.int d.least)] from Hd [Str.ofString "kind",Str.ofString "name",Str.ofString "start",Str.ofString "end",Str.ofString "off",Str.ofString "near"] rfl (by decide +kernel)]
 exact q
theorem dH (T:Txt w K mg t):Lb P w K mg base CX0 2 t.zf t.Ng q9 (Xj t 0):=by
 have g15:Lb P w K mg base CX0 1 t.Kf t.Wg q19 (uu t):=Jw T;refine T.Ql.ok Fm (fun vs H Q E h=>?_) (fun _ _ _ s H vs Q E hr h=>?_)
 ·obtain ⟨p,dx,d,rfl,_⟩:=h;rfl
 obtain ⟨p,dx,d,rfl,hk,hp,q⟩:=h;refine ⟨_,(pb (xc (xu rfl T.QH T.jn g15 hr T.Um .nil Cb (ab (pv 0) (ab Rc (ab (pv 1) (ab (pv 2) (ab (pv 3) (ab (pv 4) (ab (pv 5) (ab (pv 6) fb))))))))))),?_⟩;walk_at "RD";exact ⟨p,dx,d,by rw [hk];rfl,by omega,hp,q⟩
theorem jF (T:Txt w K mg t):Lb P w K mg base CX0 2 t.Te t.Uf q9 (Xj t 1):=by
 have g15:Lb P w K mg base CX0 1 t.Kf t.Wg q19 (uu t):=Jw T;refine T.Kk.ok Cl (fun vs H Q E h=>?_) (fun _ _ _ s H vs Q E hr h=>?_)
 ·obtain ⟨p,dx,d,rfl,_⟩:=h;rfl
 obtain ⟨p,dx,d,rfl,hk,hp,q⟩:=h;refine ⟨_,(pb (xc (xu rfl T.QH T.jn g15 hr T.Um .nil Cb (ab (pv 0) (ab Rc (ab (pv 1) (ab (pv 2) (ab (pv 3) (ab (pv 4) (ab (pv 5) (ab (pv 6) fb))))))))))),?_⟩;walk_at "RD";exact ⟨p,dx,d,by rw [hk];rfl,by omega,hp,q⟩
theorem gF (T:Txt w K mg t):Lb P w K mg base CX0 2 t.Pe t.fg q9 (Xj t 2):=by
 have g15:Lb P w K mg base CX0 1 t.Kf t.Wg q19 (uu t):=Jw T;refine T.gl.ok Il (fun vs H Q E h=>?_) (fun _ _ _ s H vs Q E hr h=>?_)
 ·obtain ⟨p,dx,d,rfl,_⟩:=h;rfl
 obtain ⟨p,dx,d,rfl,hk,hp,q⟩:=h;refine ⟨_,(pb (xc (xu rfl T.QH T.jn g15 hr T.Um .nil Cb (ab (pv 0) (ab Rc (ab (pv 1) (ab (pv 2) (ab (pv 3) (ab (pv 4) (ab (pv 5) (ab (pv 6) fb))))))))))),?_⟩;walk_at "RD";exact ⟨p,dx,d,by rw [hk];rfl,by omega,hp,q⟩
end
noncomputable def Yh (t:Adr) (C:Addr):Sp:=fun vs H Q _=>∃ p d,vs=[.ref p]∧He t H p d∧C=t.cw d.k∧Q (.int (Dc d)) H
noncomputable def uk (t:Adr) (C:Addr):Sp:=fun vs H Q _=>∃ p d,vs=[.ref p]∧He t H p d∧C=t.cw d.k∧Q (.int (Od d)) H
section
variable {P:Program} {w:World} {K:PySem.W.Frag} {mg:Str→Option Value} {base:Heap} {t:Adr}
theorem Aq (T:Txt w K mg t):Lb P w K mg base CX0 1 t.Qf t.Wh ["self"] (Yh t (t.cw 0)):=by
 refine T.Ak.ok gq (fun vs H Q E h=>?_) (fun _ _ _ s H vs Q E hr h=>?_)
 ·obtain ⟨p,d,rfl,_⟩:=h;rfl
 obtain ⟨p,d,rfl,W,hC,q⟩:=h;have hk:=(T.cw_inj (by decide) W.1 hC).symm;refine ⟨_,(pb (Jb ub)),?_⟩;rw [show Dc d=1 by unfold Dc;simp only [hk]] at q;walk_at "RD";exact q
theorem so (T:Txt w K mg t):Lb P w K mg base CX0 1 t.xf t.jh ["self"] (Yh t (t.cw 1)):=by
 refine T.Hj.ok bo (fun vs H Q E h=>?_) (fun _ _ _ s H vs Q E hr h=>?_)
 ·obtain ⟨p,d,rfl,_⟩:=h;rfl
 obtain ⟨p,d,rfl,W,hC,q⟩:=h;have hk:=(T.cw_inj (by decide) W.1 hC).symm;refine ⟨_,(pb (Jb ub)),?_⟩;rw [show Dc d=0 by unfold Dc;simp only [hk]] at q;walk_at "RD";exact q
theorem io (T:Txt w K mg t):Lb P w K mg base CX0 1 t.pf t.Xg ["self"] (Yh t (t.cw 2)):=by
 refine T.Jj.ok xo (fun vs H Q E h=>?_) (fun _ _ _ s H vs Q E hr h=>?_)
 ·obtain ⟨p,d,rfl,_⟩:=h;rfl
 obtain ⟨p,d,rfl,W,hC,q⟩:=h;have hk:=(T.cw_inj (by decide) W.1 hC).symm;refine ⟨_,(pb (Jb ub)),?_⟩;rw [show Dc d=2 by unfold Dc;simp only [hk]] at q;walk_at "RD";exact q
theorem rC (T:Txt w K mg t):fE P w K mg base CX0 1 (isW t) "ready" ["self"] (Yh t):=by
 refine ⟨fun C hC=>?_⟩;obtain ⟨k,hk,rfl⟩:=hC
 match k,hk with
 | 0,_=>exact ⟨_,_,T.qp,T.Hr,Aq T,T.Jr⟩
 | 1,_=>exact ⟨_,_,T.En,T.Wo,so T,T.bq⟩
 | 2,_=>exact ⟨_,_,T.Fn,T.Xo,io T,T.Pp⟩
theorem Uq (T:Txt w K mg t):Lb P w K mg base CX0 1 t.Tg t.Ji ["self"] (uk t (t.cw 0)):=by
 refine T.km.ok Gr (fun vs H Q E h=>?_) (fun _ _ _ s H vs Q E hr h=>?_)
 ·obtain ⟨p,d,rfl,_⟩:=h;rfl
 obtain ⟨p,d,rfl,W,hC,q⟩:=h;have hk:=(T.cw_inj (by decide) W.1 hC).symm;refine ⟨_,(pb (Jb ub)),?_⟩;rw [show Od d=2 by unfold Od;simp only [hk]] at q;walk_at "RD";exact q
theorem kq (T:Txt w K mg t):Lb P w K mg base CX0 1 t.Rf t.Uh ["self"] (uk t (t.cw 1)):=by
 refine T.Zk.ok Vo (fun vs H Q E h=>?_) (fun _ _ _ s H vs Q E hr h=>?_)
 ·obtain ⟨p,d,rfl,_⟩:=h;rfl
 obtain ⟨p,d,rfl,W,hC,q⟩:=h;have hk:=(T.cw_inj (by decide) W.1 hC).symm;refine ⟨_,(pb (Jb (Bc (pv 0) rfl))),?_⟩;rw [show Od d=d.off by unfold Od;simp only [hk]] at q;walk_at "RD";exact ⟨_,W.f_off T,q⟩
theorem Oo (T:Txt w K mg t):Lb P w K mg base CX0 1 t.Zf t.Th ["self"] (uk t (t.cw 2)):=by
 refine T.Ck.ok yq (fun vs H Q E h=>?_) (fun _ _ _ s H vs Q E hr h=>?_)
 ·obtain ⟨p,d,rfl,_⟩:=h;rfl
 obtain ⟨p,d,rfl,W,hC,q⟩:=h;have hk:=(T.cw_inj (by decide) W.1 hC).symm;refine ⟨_,(pb (Jb ub)),?_⟩;rw [show Od d=1 by unfold Od;simp only [hk]] at q;walk_at "RD";exact q
theorem kG (T:Txt w K mg t):fE P w K mg base CX0 1 (isW t) "fade" ["self"] (uk t):=by
 refine ⟨fun C hC=>?_⟩;obtain ⟨k,hk,rfl⟩:=hC
 match k,hk with
 | 0,_=>exact ⟨_,_,T.qp,T.ju,Uq T,T.ot⟩
 | 1,_=>exact ⟨_,_,T.En,T.dr,kq T,T.ar⟩
 | 2,_=>exact ⟨_,_,T.Fn,T.Er,Oo T,T.Nr⟩
end
noncomputable def jl (c:Nat):List (List Nat)→List Nat
 | []=>[]
 | [a]=>a
 | a :: b :: r=>a ++ c :: jl c (b :: r)
theorem JC {c:Nat}:∀ {a b X Y:List Nat},c ∉ a→c ∉ b→a ++ c :: X=b ++ c :: Y→a=b∧X=Y
 | [],[],X,Y,_,_,h=>⟨rfl,(List.cons.inj h).2⟩
 | [],d :: b,X,Y,_,hb,h=>absurd (List.cons.inj h).1 (fun z=>hb (by simp [← z]))
 | d :: a,[],X,Y,ha,_,h=>absurd (List.cons.inj h).1 (fun z=>ha (by simp [z]))
 | d :: a,e :: b,X,Y,ha,hb,h=>by
  obtain ⟨h1,h2⟩:=List.cons.inj h;obtain ⟨e1,e2⟩:=JC (fun z=>ha (List.mem_cons_of_mem _ z)) (fun z=>hb (List.mem_cons_of_mem _ z)) h2;exact ⟨by rw [h1,e1],e2⟩
theorem dG {c:Nat}:∀ {ps qs:List (List Nat)},(∀ p ∈ ps,c ∉ p)→(∀ q ∈ qs,c ∉ q)→ps ≠ []→qs ≠ []→jl c ps=jl c qs→ps=qs
 | [a],[b],_,_,_,_,h=>by rw [show a=b from h]
 | [a],b :: b' :: r,ha,_,_,_,h=>absurd (show c ∈ a by rw [show a=b ++ c :: jl c (b' :: r) from h];simp) (ha a (by simp))
 | a :: a' :: r,[b],_,hb,_,_,h=>absurd (show c ∈ b by rw [show b=a ++ c :: jl c (a' :: r) from h.symm];simp) (hb b (by simp))
 | a :: a' :: r,b :: b' :: s,ha,hb,_,_,h=>by
  obtain ⟨e1,e2⟩:=JC (ha a (by simp)) (hb b (by simp)) (show a ++ c :: jl c (a' :: r)=b ++ c :: jl c (b' :: s) from h);rw [e1,dG (fun p hp=>ha p (List.mem_cons_of_mem _ hp)) (fun q hq=>hb q (List.mem_cons_of_mem _ hq)) (by simp) (by simp) e2]
 | [],_,_,_,h,_,_=>absurd rfl h
 | _ :: _,[],_,_,_,h,_=>absurd rfl h
theorem SF {c d:Nat}:∀ {ps:List (List Nat)},d ∈ jl c ps→d=c∨∃ p ∈ ps,d ∈ p
 | [],h=>nomatch h
 | [a],h=>.inr ⟨a,by simp,h⟩
 | a :: b :: r,h=>by
  rcases List.mem_append.mp (show d ∈ a ++ c :: jl c (b :: r) from h) with h | h
  ·exact .inr ⟨a,by simp,h⟩
  ·rcases List.mem_cons.mp h with h | h
   ·exact .inl h
   ·rcases SF h with h | ⟨p,hp,h⟩
    ·exact .inl h
    ·exact .inr ⟨p,List.mem_cons_of_mem _ hp,h⟩
theorem rj (c:Nat):∀ ys:List Str,(Str.join ⟨#[c]⟩ ys).cps.toList=jl c (ys.map (·.cps.toList))
 | []=>rfl
 | [a]=>rfl
 | a :: b :: r=>by
  show (a ++ ⟨#[c]⟩ ++ Str.join ⟨#[c]⟩ (b :: r)).cps.toList=_;rw [Str.cps_append,Array.toList_append,Str.cps_append,Array.toList_append,rj c (b :: r)];simp [jl]
theorem vt {x y:Str} (h:x.cps.toList=y.cps.toList):x=y:=by
 cases x;cases y;exact congrArg Str.mk (Array.toList_inj.mp h)
theorem Hs {c:Nat} {ys:List Str} (hn:ys ≠ []) (hf:∀ y ∈ ys,c ∉ y.cps.toList):Txt.split (Str.join ⟨#[c]⟩ ys) ⟨#[c]⟩=ys:=by
 have e:=congrArg (·.cps.toList) (StrLaws.join_split (Str.join ⟨#[c]⟩ ys) ⟨#[c]⟩);simp only [rj] at e;have e2:=dG (c:=c) (ps:=(Txt.split (Str.join ⟨#[c]⟩ ys) ⟨#[c]⟩).map (·.cps.toList)) (qs:=ys.map (·.cps.toList)) (fun p hp=>by
  obtain ⟨y,hy,rfl⟩:=List.mem_map.mp hp;exact StrLaws.split_free _ c y hy) (fun p hp=>by
  obtain ⟨y,hy,rfl⟩:=List.mem_map.mp hp;exact hf y hy) (by simp [OE]) (by simpa using hn) e
 exact (List.map_inj_right fun x y h=>vt h).mp e2
noncomputable abbrev num (v:Int):Str:=Str.ofString (toString v)
theorem bI:∀ n,n < 1000→(decide (1 ≤ ((Nat.toDigits 10 n).map Char.toNat).length) && decide (((Nat.toDigits 10 n).map Char.toNat).length ≤ 3) && ((Nat.toDigits 10 n).map Char.toNat).all ko && (decide (((Nat.toDigits 10 n).map Char.toNat).length ≤ 1) || decide (((Nat.toDigits 10 n).map Char.toNat).headD 0 ≠ 48)) &&
  decide (NumText.digitsVal ((Nat.toDigits 10 n).map Char.toNat)=n))=true:=by decide +kernel
theorem Rx {v:Int} (h0:0 ≤ v) (h1:v < 1000):okB (num v)=true∧val (num v)=v:=by
 have e:=PySem.W.KIN.signs_num v.toNat;rw [Int.toNat_of_nonneg h0] at e;have a:=bI v.toNat (by omega);rw [← e,Bool.and_eq_true,decide_eq_true_eq] at a;exact ⟨a.1,by show ((NumText.digitsVal (cs (num v)):Nat):Int)=v;rw [a.2];omega⟩
theorem Pi {v lo hi:Int} (h0:0 ≤ v) (h1:v < 1000) (hl:lo ≤ v) (hh:v ≤ hi):vD (num v) lo hi=.int v:=by
 obtain ⟨a,b⟩:=Rx h0 h1;unfold vD;rw [a,b,decide_eq_false (by omega:¬ v < lo),decide_eq_false (by omega:¬ hi < v)];rfl
theorem yH {u v:Int} (h0:0 ≤ u) (h1:u < 1000) (h2:0 ≤ v) (h3:v < 1000) (e:num u=num v):u=v:=by
 rw [← (Rx h0 h1).2,e,(Rx h2 h3).2]
theorem Py {v:Int} (h0:0 ≤ v) (h1:v < 1000):∀ c ∈ (num v).cps.toList,48 ≤ c∧c ≤ 57:=fun c hc=>by
 have:=List.all_eq_true.mp (jK (Rx h0 h1).1).2 c hc;simpa [ko] using this
theorem EK:∀ c ∈ Ag.cps.toList,97 ≤ c∧c ≤ 122:=by decide +kernel
theorem FJ:∀ k,k < 26→97 + k ∈ Ag.cps.toList:=by decide +kernel
theorem Dj {x:Str} (h:made x Ag 8=true):(1 ≤ x.length∧x.length ≤ 8)∧∀ c ∈ x.cps.toList,97 ≤ c∧c ≤ 122:=by
 unfold made at h;split at h
 ·cases h
 ·rename_i h1;split at h
  ·cases h
  ·rename_i h2;have h3:¬ x.length=0:=fun z=>h1 (SK.mpr z)
   refine ⟨by omega,fun c hc=>?_⟩;have:=List.all_eq_true.mp h c hc;rw [Xw] at this;exact EK c (of_decide_eq_true this)
theorem Vv {x:Str} (h0:1 ≤ x.length) (h1:x.length ≤ 8) (h:∀ c ∈ x.cps.toList,97 ≤ c∧c ≤ 122):made x Ag 8=true:=by
 unfold made;rw [if_neg (fun z=>by have:=SK.mp z;omega),if_neg (by omega)];refine List.all_eq_true.mpr fun c hc=>?_
 have:=h c hc;rw [Xw];have e:=FJ (c - 97) (by omega);rw [show 97 + (c - 97)=c by omega] at e;exact decide_eq_true e
structure WOk (n:Int) (d:WD):Prop where
 k:d.k < 3
 nm:made d.name Ag 8=true
 st:0 ≤ d.start∧d.start < n
 fi:0 ≤ d.fin∧d.fin < n
 ne:d.start ≠ d.fin
 of:0 ≤ d.off∧d.off ≤ 30
 nr:0 ≤ d.near∧d.near ≤ 30
 le:1 ≤ d.least∧d.least ≤ 60
structure COk (n:Int) (ds:List WD):Prop where
 nn:2 ≤ n∧n ≤ 99
 ln:1 ≤ ds.length∧ds.length ≤ 12
 al:∀ d ∈ ds,WOk n d
 nd:(ds.map (·.name)).Nodup
noncomputable def sf (d:WD):List Str:=[Ld d.k,d.name,num d.start,num d.fin,num d.off,num d.near,num d.least]
noncomputable def Mq (n:Int) (ds:List WD):List (List Str):=[Str.ofString "ring",num n] :: ds.map sf
noncomputable def Zv (n:Int) (ds:List WD):Str:=Str.join nl ((Mq n ds).map (Str.join bk))
noncomputable def Yw (x:Str):Prop:=x.length ≤ 8∧(32:Nat) ∉ x.cps.toList∧(10:Nat) ∉ x.cps.toList
theorem Ys (k:Nat):Yw (Ld k):=by
 match k with
 | 0=>exact ⟨by decide +kernel,by decide +kernel,by decide +kernel⟩
 | 1=>exact ⟨by decide +kernel,by decide +kernel,by decide +kernel⟩
 | _ + 2=>exact ⟨show (Str.ofString "tram").length ≤ 8 by decide +kernel,show (32:Nat) ∉ (Str.ofString "tram").cps.toList by decide +kernel,show (10:Nat) ∉ (Str.ofString "tram").cps.toList by decide +kernel⟩
theorem Nd {v:Int} (h0:0 ≤ v) (h1:v < 1000):Yw (num v):=
 ⟨Nat.le_trans (mB h0 (by omega)) (by decide),fun z=>by have:=Py h0 h1 _ z;omega,fun z=>by have:=Py h0 h1 _ z;omega⟩
theorem Wm {x:Str} (h:made x Ag 8=true):Yw x:=
 ⟨(Dj h).1.2,fun z=>by have:=(Dj h).2 _ z;omega,fun z=>by have:=(Dj h).2 _ z;omega⟩
theorem WOk.plain {n:Int} {d:WD} (h:WOk n d) (hn:n ≤ 99):∀ x ∈ sf d,Yw x:=fun x hx=>by
 have h1:=h.st;have h2:=h.fi;have h3:=h.of;have h4:=h.nr;have h5:=h.le;simp only [sf,List.mem_cons,List.not_mem_nil,or_false] at hx;rcases hx with rfl | rfl | rfl | rfl | rfl | rfl | rfl
 ·exact Ys _
 ·exact Wm h.nm
 ·exact Nd (by omega) (by omega)
 ·exact Nd (by omega) (by omega)
 ·exact Nd (by omega) (by omega)
 ·exact Nd (by omega) (by omega)
 ·exact Nd (by omega) (by omega)
theorem COk.plain {n:Int} {ds:List WD} (h:COk n ds):∀ r ∈ Mq n ds,∀ x ∈ r,Yw x:=fun r hr x hx=>by
 have hn:=h.nn;rcases List.mem_cons.mp hr with rfl | hr
 ·simp only [List.mem_cons,List.not_mem_nil,or_false] at hx;rcases hx with rfl | rfl
  ·exact ⟨by decide +kernel,by decide +kernel,by decide +kernel⟩
  ·exact Nd (by omega) (by omega)
 ·obtain ⟨d,hd,rfl⟩:=List.mem_map.mp hr;exact (h.al d hd).plain hn.2 x hx
theorem Bv {rs:List (List Str)} (h0:rs ≠ []) (h1:∀ r ∈ rs,r ≠ []) (h2:∀ r ∈ rs,∀ x ∈ r,Yw x):ji (Str.join nl (rs.map (Str.join bk)))=rs:=by
 unfold ji;rw [rJ,cI];rw [Hs (by simpa using h0) (fun y hy=>by
  obtain ⟨r,hr,rfl⟩:=List.mem_map.mp hy;rw [rj];intro z;rcases SF z with z | ⟨p,hp,z⟩
  ·cases z
  ·obtain ⟨x,hx,rfl⟩:=List.mem_map.mp hp;exact (h2 r hr x hx).2.2 z)]
 rw [List.map_map];have:∀ r ∈ rs,((fun r=>Txt.split r ⟨#[32]⟩) ∘ Str.join ⟨#[32]⟩) r=r:=fun r hr=>Hs (h1 r hr) fun x hx=>(h2 r hr x hx).2.1
 exact (List.map_congr_left this).trans (List.map_id rs)
theorem oz {n:Int} {ds:List WD} (h:COk n ds):ji (Zv n ds)=Mq n ds:=Bv (by simp [Mq]) (fun r hr=>by
 rcases List.mem_cons.mp hr with rfl | hr
 ·simp
 ·obtain ⟨d,hd,rfl⟩:=List.mem_map.mp hr;simp [sf]) h.plain
theorem nq (sep:Str) (B:Nat):∀ ys:List Str,(∀ y ∈ ys,y.length ≤ B)→(Str.join sep ys).length ≤ ys.length * (B + sep.length)
 | [],_=>by show (Str.empty).length ≤ _;exact Nat.zero_le _
 | [a],h=>by
  have:=h a (by simp);show a.length ≤ _;simp only [List.length_cons,List.length_nil];omega
 | a :: b :: r,h=>by
  have h1:=h a (by simp);have h2:=nq sep B (b :: r) fun y hy=>h y (List.mem_cons_of_mem _ hy)
  show (a ++ sep ++ Str.join sep (b :: r)).length ≤ _;rw [Hn,Hn,List.length_cons,Nat.succ_mul];omega
theorem Vu {n:Int} {ds:List WD} (h:COk n ds):(Zv n ds).length ≤ 1000:=by
 have h1:∀ y ∈ (Mq n ds).map (Str.join bk),y.length ≤ 63:=fun y hy=>by
  obtain ⟨r,hr,rfl⟩:=List.mem_map.mp hy;have:=nq bk 8 r fun x hx=>(h.plain r hr x hx).1
  rw [iy] at this;have hl:r.length ≤ 7:=by
   rcases List.mem_cons.mp hr with rfl | hr
   ·simp
   ·obtain ⟨d,hd,rfl⟩:=List.mem_map.mp hr;simp [sf]
  omega
 have h2:=nq nl 63 _ h1;rw [Nu] at h2;have h3:((Mq n ds).map (Str.join bk)).length ≤ 13:=by
  have:=h.ln;simp [Mq];omega
 unfold Zv;omega
end My
namespace My
open PySem L2
noncomputable abbrev fw:List Str:=[Str.ofString "row",Str.ofString "told",Str.ofString "place"]
noncomputable def rdF (row:Int) (ta:Addr) (pl:Int):List (Str × V):=[(Str.ofString "row",.int row),(Str.ofString "told",.ref ta),(Str.ofString "place",.int pl)]
theorem Im (row:Int) (ta:Addr) (pl:Int):(rdF row ta pl).map (·.1)=fw:=rfl
theorem wH (row:Int) (ta:Addr) (pl v:Int):ai (Str.ofString "place") (.int v) (rdF row ta pl)=rdF row ta v:=by
 unfold rdF;simp only [ai];rw [if_neg (by decide +kernel),if_neg (by decide +kernel)];rfl
noncomputable def kf (t:Adr) (H:Hp) (p:Addr) (row:Int) (ws:List Str) (pl:Nat):Prop:=
 (ws.length ≤ 1000∧∀ x ∈ ws,x.length ≤ 1000)∧∃ dx ta,H p=some (.ins t.Ib dx (rdF row ta pl))∧H ta=some (.lst (Hb ws))
noncomputable def Vc (p:Addr) (H H':Hp):Prop:=∀ b u,b ≠ p→H b=some u→H' b=some u
theorem Vc.trans {p:Addr} {H H1 H2:Hp} (a:Vc p H H1) (b:Vc p H1 H2):Vc p H H2:=fun c u n e=>b c u n (a c u n e)
theorem Vc.of {p:Addr} {H H1:Hp} (a:Nb H H1):Vc p H H1:=fun c u _ e=>a c u e
theorem Vc.put {p:Addr} {H:Hp} {o:HO}:Vc p H (upd H p o):=fun c u n e=>by rw [qb n];exact e
theorem Qe (ws:List Str):(Hb ws).length=ws.length:=by unfold Hb;rw [List.length_map]
theorem Ah {ws:List Str} {i:Nat} {x:Str} (h:ws[i]? = some x):(Hb ws)[i]? = some (.str x):=by unfold Hb;rw [List.getElem?_map,h];rfl
theorem js (ws:List Str):(Hb ws).all Bj=true:=by unfold Hb;simp [Bj]
theorem By (x:Str) (xs:List Str):inV (.str x) (Hb xs)=decide (x ∈ xs):=by
 unfold inV Hb;rw [List.any_map,Bool.eq_iff_iff];simp only [List.any_eq_true,Function.comp,eqV,beq_iff_eq,decide_eq_true_eq];constructor
 ·rintro ⟨y,hy,rfl⟩;exact hy
 ·intro h;exact ⟨x,h,rfl⟩
section
variable {w:World} {K:PySem.W.Frag} {mg:Str→Option Value} {t:Adr} {H H':Hp} {p:Addr} {row:Int} {ws:List Str} {pl:Nat}
theorem kf.same (h:kf t H p row ws pl) (s:Nb H H'):kf t H' p row ws pl:=by
 obtain ⟨hz,dx,ta,e1,e2⟩:=h;exact ⟨hz,dx,ta,s _ _ e1,s _ _ e2⟩
theorem kf.sameX {q:Addr} (h:kf t H p row ws pl) (s:Vc q H H') (n:p ≠ q) (k:∃ C dx fs,H q=some (.ins C dx fs)):kf t H' p row ws pl:=by
 obtain ⟨hz,dx,ta,e1,e2⟩:=h;obtain ⟨C,dq,fs,e3⟩:=k;exact ⟨hz,dx,ta,s _ _ n e1,s _ _ (ze e2 e3 (by intro z;cases z)) e2⟩
theorem kf.ins (h:kf t H p row ws pl):∃ C dx fs,H p=some (.ins C dx fs):=by
 obtain ⟨hz,dx,ta,e1,e2⟩:=h;exact ⟨_,_,_,e1⟩
theorem kf.no {m:Str} (row:Int) (ta:Addr) (pl:Int) (h:fw.contains m=false):(rdF row ta pl).lookup m=none:=xm fw (Im ..) h
theorem nu (T:Txt w K mg t) {dx ta:Addr} {pl:Int} (e:H p=some (.ins t.Ib dx (rdF row ta pl))):nj K H p (Str.ofString "place") (.int pl):=
 ⟨_,dx,_,e,T.zb,T.rf,ae fw 2 (Im ..) (by decide +kernel) rfl⟩
theorem cx (T:Txt w K mg t) {dx ta:Addr} {pl:Int} (e:H p=some (.ins t.Ib dx (rdF row ta pl))):nj K H p (Str.ofString "told") (.ref ta):=
 ⟨_,dx,_,e,T.zb,T.yi,ae fw 1 (Im ..) (by decide +kernel) rfl⟩
end
noncomputable def WF (t:Adr):Sp:=fun vs H Q _=>∃ (p dx ta:Addr) (row:Int),vs=[.ref p,.int row,.ref ta]∧H p=some (.ins t.Ib dx [])∧Q .non (upd H p (.ins t.Ib dx (rdF row ta 0)))
noncomputable def Nm (t:Adr):Sp:=fun vs H Q _=>∃ p row ws pl,vs=[.ref p]∧kf t H p row ws pl∧pl ≤ ws.length∧Q (.str (ws.getD pl (Str.ofString ""))) H
noncomputable def dC (t:Adr):Sp:=fun vs H Q _=>∃ p row ws pl,vs=[.ref p]∧kf t H p row ws pl∧Q (.bl (decide (pl < ws.length))) H
noncomputable def CL (t:Adr) (H:Hp) (p:Addr) (row:Int) (ws:List Str) (pl:Nat) (R:Hp→Prop):Prop:=∀ H',Vc p H H'→(NoT H→NoT H')→kf t H' p row ws pl→R H'
noncomputable def ft (t:Adr):Sp:=fun vs H Q _=>∃ p row ws pl,vs=[.ref p,.bl true]∧kf t H p row ws pl∧CL t H p row ws (pl + 1) (Q .non)
noncomputable def wm (K:PySem.W.Frag) (t:Adr):Sp:=fun vs H Q _=>∃ p row ws pl x c xs,vs=[.ref p,.ref c]∧kf t H p row ws pl∧ws[pl]? = some x∧SqL K H c (Hb xs)∧x ∈ xs∧CL t H p row ws (pl + 1) (Q (.str x))
noncomputable def Qm (t:Adr):Sp:=fun vs H Q _=>∃ p row ws pl x lo hi v,vs=[.ref p,.int lo,.int hi]∧kf t H p row ws pl∧ws[pl]? = some x∧vD x lo hi=.int v∧NoT H∧CL t H p row ws (pl + 1) (Q (.int v))
noncomputable def Du (t:Adr):Sp:=fun vs H Q _=>∃ p row ws pl,vs=[.ref p]∧kf t H p row ws pl∧pl=ws.length∧Q .non H
section
variable {P:Program} {w:World} {K:PySem.W.Frag} {mg:Str→Option Value} {base:Heap} {t:Adr}
theorem GK (T:Txt w K mg t):Lb P w K mg base CX0 1 t.Zd t.Xe q29 (WF t):=by
 refine T.jj.ok tj (fun vs H Q E h=>?_) (fun _ _ _ s H vs Q E hr h=>?_)
 ·obtain ⟨p,dx,ta,row,rfl,_⟩:=h;rfl
 obtain ⟨p,dx,ta,row,rfl,hp,q⟩:=h;refine ⟨_,(cb (Df (pv 0) (pv 1) rfl)
   (cb (Df (pv 0) (pv 2) rfl)
   (pb (Df (pv 0) ub rfl)))),?_⟩
 walk_at "RD";refine ⟨_,_,_,hp,T.zb,T.qo,by decide,?_⟩;refine ⟨_,_,_,db,T.zb,T.yi,Pm (n:=999) (by decide),?_⟩;refine ⟨_,_,_,db,T.zb,T.rf,Pm (n:=999) (Pm (n:=998) (by decide)),?_⟩;simp only [Iq];rw [show ai (Str.ofString "row") (V.int row) ([]:List (Str × V))=[(Str.ofString "row",V.int row)] from Hd [] rfl (by decide +kernel),
  show ai (Str.ofString "told") (V.ref ta) ([(Str.ofString "row",V.int row)]:List (Str × V))=[(Str.ofString "row",V.int row),(Str.ofString "told",V.ref ta)] from Hd [Str.ofString "row"] rfl (by decide +kernel),
  show ai (Str.ofString "place") (V.int 0) ([(Str.ofString "row",V.int row),(Str.ofString "told",V.ref ta)]:List (Str × V))=[(Str.ofString "row",V.int row),(Str.ofString "told",V.ref ta),(Str.ofString "place",V.int 0)] from Hd [Str.ofString "row",Str.ofString "told"] rfl (by decide +kernel)]
 exact q
theorem Eo (T:Txt w K mg t):Lb P w K mg base CX0 1 t.Gc t.Uc ["self"] (Nm t):=by
 refine T.ci.ok Tl (fun vs H Q E h=>?_) (fun _ _ _ s H vs Q E hr h=>?_)
 ·obtain ⟨p,row,ws,pl,rfl,_⟩:=h;rfl
 obtain ⟨p,row,ws,pl,rfl,⟨hz,dx,ta,e1,e2⟩,hle,q⟩:=h;refine ⟨_,(cb (Ye (bc mj (Bc (pv 0) rfl) (Vb Fb rfl T.xg Ob (ab (Bc (pv 0) rfl) fb)) (qc _)) (pb (Jb Rc)) Ec)
   (pb (Jb (Yc ic (Bc (pv 0) rfl) (Bc (pv 0) rfl) (fun _ _=>rfl))))),?_⟩
 walk_at "RD";refine Wc (decide ((pl:Int)=(ws.length:Int))) (fun Q hQ=>?_) (fun c=>?_) (fun c=>?_)
 ·walk_at "RD";refine ⟨_,nu T e1,_,cx T e1,_,rfl,_,.inl (SqL.of e2),rfl,?_⟩;rw [Qe];walk_at "RD";exact hQ
 ·walk_at "RD";have c':pl=ws.length:=by have:=of_decide_eq_true c;omega
  rw [show ws.getD pl (Str.ofString "")=Str.ofString "" by rw [List.getD_eq_getElem?_getD,List.getElem?_eq_none (by omega)];rfl] at q;exact q
 ·walk_at "RD";have c':pl < ws.length:=by have:=of_decide_eq_false c;omega
  have hx:ws[pl]? = some ws[pl]:=List.getElem?_eq_getElem c';rw [List.getD_eq_getElem?_getD,hx] at q;exact ⟨_,cx T e1,_,nu T e1,_,rfl,_,_,rfl,SqL.of e2,_,wc (Ah hx),q⟩
theorem NG (T:Txt w K mg t):Lb P w K mg base CX0 1 t.gd t.Md ["self"] (dC t):=by
 refine T.Hg.ok Mj (fun vs H Q E h=>?_) (fun _ _ _ s H vs Q E hr h=>?_)
 ·obtain ⟨p,row,ws,pl,rfl,_⟩:=h;rfl
 obtain ⟨p,row,ws,pl,rfl,⟨hz,dx,ta,e1,e2⟩,q⟩:=h;refine ⟨_,(pb (Jb (Ff cn (Bc (pv 0) rfl) (Vb Fb rfl T.xg Ob (ab (Bc (pv 0) rfl) fb)) (qc _)))),?_⟩;walk_at "RD";have e:decide (pl < ws.length)=decide ((pl:Int) < (ws.length:Int)):=by rw [Bool.eq_iff_iff];simp
 rw [e] at q;refine ⟨_,nu T e1,_,cx T e1,_,rfl,_,.inl (SqL.of e2),?_⟩;rw [Qe];exact ⟨_,rfl,q⟩
theorem Rw (T:Txt w K mg t):Lb P w K mg base CX0 1 t.bd t.Ad q17 (ft t):=by
 refine T.ij.ok vn (fun vs H Q E h=>?_) (fun _ _ _ s H vs Q E hr h=>?_)
 ·obtain ⟨p,row,ws,pl,rfl,_⟩:=h;rfl
 obtain ⟨p,row,ws,pl,rfl,⟨hz,dx,ta,e1,e2⟩,q⟩:=h;refine ⟨_,(cb (Ye (Lp (Qk (pv 1))) (pb Qg) Ec)
   (pb (iB (pv 0) ub YJ))),?_⟩
 walk_at "RD";refine Wc false (fun Q hQ=>?_) (fun hc=>nomatch hc) (fun _=>?_)
 ·walk_at "RD";exact hQ
 ·walk_at "RD";refine ⟨_,_,_,e1,T.zb,T.rf,_,ae fw 2 (Im ..) (by decide +kernel) rfl,_,rfl,_,_,e1,by rw [← List.length_map (f:=(·.1)),Im];decide,?_⟩;rw [wH];exact q _ Vc.put (fun n=>n.upd) ⟨hz,dx,ta,db,by rw [qb (ze e2 e1 (by intro z;cases z))];exact e2⟩
theorem Mo (T:Txt w K mg t):Lb P w K mg base CX0 2 t.Ac t.Nc q18 (wm K t):=by
 have g13:Lb P w K mg base CX0 1 t.Gc t.Uc ["self"] (Nm t):=Eo T;have g16:Lb P w K mg base CX0 1 t.bd t.Ad q17 (ft t):=Rw T;refine T.xh.ok oh (fun vs H Q E h=>?_) (fun _ _ _ s H vs Q E hr h=>?_)
 ·obtain ⟨p,row,ws,pl,x,c,xs,rfl,_⟩:=h;rfl
 obtain ⟨p,row,ws,pl,x,c,xs,rfl,R,hx,hc,hm,q⟩:=h;refine ⟨_,(cb (Bb (i:=2) oh.nd rfl (Or.inl rfl) (Xd (pv 0) T.zb T.Fe g13 hr T.Ie .nil Cb))
   (cb (xc (Xc (pv 0) T.zb T.Dg g16 hr T.yg .nil Cb (ab (Ff Zo (pv 2) (pv 1) (by with_unfolding_all rfl)) fb)))
   (pb (Jb (pv 2))))),?_⟩
 have hlt:pl < ws.length:=(List.getElem?_eq_some_iff.mp hx).1;have hg:ws.getD pl (Str.ofString "")=x:=by rw [List.getD_eq_getElem?_getD,hx];rfl
 obtain ⟨_,dx,ta,e1,e2⟩:=id R;walk_at "RD";refine ⟨_,_,e1,kf.no _ _ _ (by decide +kernel),⟨p,row,ws,pl,rfl,R,by omega,?_⟩⟩;rw [hg];walk_at "RD";refine ⟨_,_,e1,kf.no _ _ _ (by decide +kernel),_,.inl hc,rfl,js xs,?_⟩;rw [By,decide_eq_true hm];refine ⟨p,row,ws,pl,rfl,R,fun H' s1 s2 s3=>?_⟩;walk_at "RD";exact q H' s1 s2 s3
theorem yp (T:Txt w K mg t):Lb P w K mg base CX0 4 t.Yb t.nc q15 (Qm t):=by
 have g13:Lb P w K mg base CX0 3 t.Gc t.Uc ["self"] (Nm t):=(Eo T).mono (by decide);have g16:Lb P w K mg base CX0 3 t.bd t.Ad q17 (ft t):=(Rw T).mono (by decide);have g27:Lb P w K mg base CX0 3 t.Sl t.tm q35 YF:=MI T;refine T.dh.ok Jg (fun vs H Q E h=>?_) (fun _ _ _ s H vs Q E hr h=>?_)
 ·obtain ⟨p,row,ws,pl,x,lo,hi,v,rfl,_⟩:=h;rfl
 obtain ⟨p,row,ws,pl,x,lo,hi,v,rfl,R,hx,hv,nt,q⟩:=h;refine ⟨_,(cb (Bb (i:=3) Jg.nd rfl (Or.inl rfl) (yb g27 hr rfl T.zA T.Ip.kp T.aB .nil Cb (ab (Xd (pv 0) T.zb T.Fe g13 hr T.Ie .nil Cb) (ab (pv 1) (ab (pv 2) fb)))))
   (cb (xc (Xc (pv 0) T.zb T.Dg g16 hr T.yg .nil Cb (ab (Ff gH (pv 3) MC (qc _)) fb)))
   (pb (Jb (pv 3))))),?_⟩
 have hlt:pl < ws.length:=(List.getElem?_eq_some_iff.mp hx).1;have hg:ws.getD pl (Str.ofString "")=x:=by rw [List.getD_eq_getElem?_getD,hx];rfl
 obtain ⟨hz,dx,ta,e1,e2⟩:=id R;walk_at "RD";refine ⟨_,_,e1,kf.no _ _ _ (by decide +kernel),⟨p,row,ws,pl,rfl,R,by omega,?_⟩⟩;rw [hg];walk_at "RD";refine ⟨x,lo,hi,rfl,hz.2 x (List.mem_of_getElem? hx),nt,?_⟩;rw [hv];walk_at "RD";refine ⟨_,_,e1,kf.no _ _ _ (by decide +kernel),?_⟩;refine ⟨p,row,ws,pl,rfl,R,fun H' s1 s2 s3=>?_⟩;walk_at "RD";exact q H' s1 s2 s3
theorem Xx (T:Txt w K mg t):Lb P w K mg base CX0 2 t.yc t.Kc ["self"] (Du t):=by
 have g28:Lb P w K mg base CX0 1 t.gd t.Md ["self"] (dC t):=NG T;refine T.Ih.ok Bl (fun vs H Q E h=>?_) (fun _ _ _ s H vs Q E hr h=>?_)
 ·obtain ⟨p,row,ws,pl,rfl,_⟩:=h;rfl
 obtain ⟨p,row,ws,pl,rfl,R,hl,q⟩:=h;obtain ⟨hz,dx,ta,e1,e2⟩:=id R;refine ⟨_,(pb (Ye (Qk (Xd (pv 0) T.zb T.wk g28 hr T.yk .nil Cb)) (pb Qg) Ec)),?_⟩;walk_at "RD";refine Wc false (fun Q hQ=>?_) (fun hc=>nomatch hc) (fun _=>?_)
 ·walk_at "RD";refine ⟨_,_,e1,kf.no _ _ _ (by decide +kernel),⟨p,row,ws,pl,rfl,R,?_⟩⟩;rw [decide_eq_false (by omega)];exact ⟨_,rfl,hQ⟩
 ·walk_at "RD";exact q
end
end My
namespace My
open PySem L2
theorem Xb {α β:Type} {f:α→β} {l:List α} {i:Nat} {y:β} (h:(l.map f)[i]? = some y):∃ x,l[i]? = some x∧y=f x:=by
 rw [List.getElem?_map] at h;cases e:l[i]? with
 | none=>rw [e] at h;cases h
 | some x=>rw [e] at h;exact ⟨x,rfl,(Option.some.inj h).symm⟩
noncomputable def qL (t:Adr) (H0 H:Hp) (p:Addr) (rows:List (List Str)):Prop:=∃ qs:List Addr,H p=some (.lst (qs.map V.ref))∧H0 p=none∧qs.length=rows.length∧∀ (i:Nat) (q:Addr) (r:List Str),qs[i]? = some q→rows[i]? = some r→kf t H q i r 0∧H0 q=none
noncomputable def Dn (t:Adr):Sp:=fun vs H Q _=>∃ x,vs=[.str x]∧x.length ≤ 20000∧(∀ r ∈ ji x,r.length ≤ 1000∧∀ y ∈ r,y.length ≤ 1000)∧NoT H∧∀ p H',Nb H H'→NoT H'→qL t H H' p (ji x)→Q (.ref p) H'
section
variable {P:Program} {w:World} {K:PySem.W.Frag} {mg:Str→Option Value} {base:Heap} {t:Adr}
theorem Xs (T:Txt w K mg t):Lb P w K mg base CX0 3 t.Oj t.Cj ["text"] (Dn t):=by
 have g29:Lb P w K mg base CX0 2 t.Dt t.Ct ["text"] Zy:=(uE T).mono (by decide);have g30:Lb P w K mg base CX0 1 t.Zd t.Xe q29 (WF t):=GK T;refine T.Wl.ok Az (fun vs H Q E h=>?_) (fun _ _ _ s H vs Q E hr h=>?_)
 ·obtain ⟨x,rfl,_⟩:=h;rfl
 obtain ⟨x,rfl,hz,hrow,nt,q⟩:=h;refine ⟨_,(pb (Jb (Jf rfl (zl rfl T.af (ab (yb g29 hr rfl T.EG T.Kx.kp T.YH .nil Cb (ab (pv 0) fb)) fb)) (Qc (sc:=rb cq) rfl (by decide +kernel)) (N:=["row","told"]) (sel:=[none,none]) (ud (M:=["text"]) (by decide +kernel)) (Blk.of (fun _ _ _ _=>(Vd (K:=K) (n:=2) rfl rfl (Eb (xb (i:=0) (Bg (N:=["row","told"]) (by decide +kernel) rfl) rfl (Or.inl rfl) (.inr rfl)) (Eb (xb (i:=1) (Bg (N:=["row","told"]) (by decide +kernel) rfl) rfl (Or.inl rfl) (.inr rfl)) Ud)))) (fun _ _ _ _=>⟨_,uf,by walk_at "B"⟩) (fun _ _ _ _=>⟨_,(Vm T.zw g30 hr rfl T.Iw T.ao .nil Cb (ab (pv 0) (ab (pv 1) fb))),by walk_at "B"⟩))))),?_⟩;walk_at "RD";refine ⟨x,rfl,hz,nt,fun p H1 sm1 nt1 ⟨ps,hp,hp0,hpn,hpl,hpa⟩=>?_⟩;walk_at "RD";refine ⟨⟨_,SqL.of hp⟩,?_⟩;have hlen:ps.length ≤ sizeLine:=by
  rw [hpl];unfold ji;rw [List.length_map];have:=Kq (x:=x) (y:=nl) (by rw [Nu];exact Nat.le_refl _);exact Nat.le_trans (show _ ≤ 40000 by omega) (by decide)
 refine vd.enum (xs:=ps.map V.ref) (fun i ys H2=>Nb H1 H2∧NoT H2∧∃ qs:List Addr,ys=qs.map V.ref∧qs.length=i∧∀ (j:Nat) (q:Addr) (r:List Str),qs[j]? = some q→(ji x)[j]? = some r→kf t H2 q j r 0∧H1 q=none)
  (by rw [List.length_map];exact hlen) ⟨Nb.refl H1,nt1,[],rfl,rfl,fun j q r h _=>by simp at h⟩ ?_ ?_ ?_
 ·rintro i ys H2 hi zzq;refine zP fun zzM zzh=>?_
  obtain ⟨s2,n2,qs,rfl,hq,_⟩:=zzq;subst zzh;exact ⟨SqL.of (s2 _ _ hp),by rw [List.length_map];omega⟩
 ·rintro i v ys H2 p2 hv ⟨s2,n2,qs,rfl,hq,al⟩ hp2 N hN;rw [List.getElem?_map] at hv;cases hpi:ps[i]? with
  | none=>rw [hpi] at hv;cases hv
  | some pi=>
   rw [hpi] at hv;have e:=(Option.some.inj hv).symm;subst e;refine kg ?_;walk_at "RD";refine ⟨Sub.name2,fun a dx ha hd hne=>?_⟩;refine ⟨a,dx,pi,i,rfl,db,rfl,?_⟩;rw [Iq];have s3:Nb H2 (upd (upd (upd H2 p2 (.tup [.int i,.ref pi])) dx (.own a)) a (.ins t.Ib dx (rdF i pi 0))):=by
    have s':Nb H2 (upd H2 p2 (.tup [.int i,.ref pi])):=lb hp2;exact ((Nb.trans s' (lb hd)).updN (s'.free ha))
   obtain ⟨r,hr⟩:∃ r,(ji x)[i]? = some r:=⟨(ji x)[i]'(by rw [← hpl];exact (List.getElem?_eq_some_iff.mp hpi).1),List.getElem?_eq_getElem _⟩;have ha2:H2 a=none:=(lb hp2).free ha;refine hN _ _ ⟨s2.trans s3,((n2.upd).upd).upd,qs ++ [a],by rw [List.map_append];rfl,by rw [List.length_append,hq];rfl,fun j q' r' h1 h2=>?_⟩;by_cases hj:j < qs.length
   ·rw [List.getElem?_append_left hj] at h1;obtain ⟨z1,z2⟩:=al j q' r' h1 h2;exact ⟨z1.same s3,z2⟩
   ·rw [List.getElem?_append_right (by omega)] at h1;have hj0:j - qs.length=0:=by
     cases hh:j - qs.length with
     | zero=>rfl
     | succ n=>rw [hh] at h1;simp at h1
    rw [hj0] at h1;have e3:a=q':=by simpa using h1
    subst e3;have e4:j=i:=by omega
    subst e4;rw [hr] at h2;cases h2;refine ⟨⟨hrow r (List.mem_of_getElem? hr),dx,pi,db,?_⟩,s2.free ha2⟩;exact s3 _ _ (s2 _ _ (hpa j pi r hpi hr).1)
 ·rintro ys H2 ⟨s2,n2,qs,rfl,hq,al⟩ p2 hp2;refine q p2 _ ((sm1.trans s2).updN ((sm1.trans s2).free hp2)) (n2.upd) ⟨qs,db,(sm1.trans s2).free hp2,by rw [hq,List.length_map,hpl],fun i q' r h1 h2=>?_⟩;obtain ⟨z1,z2⟩:=al i q' r h1 h2;exact ⟨z1.same (lb hp2),sm1.free z2⟩
end
noncomputable def RL (q:Addr) (H:Hp) (R:Hp→Prop):Prop:=∀ H',Vc q H H'→NoT H'→R H'
noncomputable def AB (t:Adr):Sp:=fun vs H Q _=>∃ q row n,vs=[.ref q]∧kf t H q row [Str.ofString "ring",num n] 0∧(2 ≤ n∧n ≤ 99)∧NoT H∧RL q H (Q (.int n))
noncomputable def Kj (t:Adr) (H:Hp) (wl:Addr) (ds:List WD):Prop:=∃ as:List Addr,H wl=some (.lst (as.map V.ref))∧as.length=ds.length∧∀ (i:Nat) (a:Addr) (d:WD),as[i]? = some a→ds[i]? = some d→He t H a d
noncomputable def Us (t:Adr):Sp:=fun vs H Q _=>∃ q row ws pl wl ds x,vs=[.ref q,.ref wl]∧kf t H q row ws pl∧ws[pl]? = some x∧made x Ag 8=true∧Kj t H wl ds∧ds.length ≤ 12∧(∀ d ∈ ds,d.name ≠ x)∧NoT H ∧
 ∀ H',Vc q H H'→NoT H'→kf t H' q row ws (pl + 1)→Q (.str x) H'
noncomputable def rG (t:Adr):Sp:=fun vs H Q _=>∃ q row ws pl n st fi,vs=[.ref q,.int n,.int st]∧kf t H q row ws pl∧ws[pl]? = some (num fi)∧(0 ≤ st∧st < n)∧(0 ≤ fi∧fi < n)∧st ≠ fi∧n ≤ 99∧NoT H ∧
 ∀ H',Vc q H H'→NoT H'→kf t H' q row ws (pl + 1)→Q (.int fi) H'
noncomputable def cy (t:Adr):Sp:=fun vs H Q _=>∃ d:WD,vs=[.str (Ld d.k),.str d.name,.int d.start,.int d.fin,.int d.off,.int d.near,.int d.least]∧d.k < 3∧∀ x H',Nb H H'→(NoT H→NoT H')→He t H' x d→H x=none→Q (.ref x) H'
noncomputable def nG (t:Adr):Sp:=fun vs H Q _=>∃ q row n wl ds d,vs=[.ref q,.int n,.ref wl]∧kf t H q row (sf d) 0∧WOk n d∧(2 ≤ n∧n ≤ 99)∧Kj t H wl ds∧ds.length ≤ 12∧(∀ e ∈ ds,e.name ≠ d.name)∧NoT H ∧
 ∀ x H',Vc q H H'→NoT H'→He t H' x d→H x=none→Q (.ref x) H'
theorem Kj.sameX {t:Adr} {H H':Hp} {q wl:Addr} {ds:List WD} {row:Int} {ws:List Str} {pl:Nat} (h:Kj t H wl ds) (s:Vc q H H') (r:kf t H q row ws pl):Kj t H' wl ds:=by
 obtain ⟨as,e1,e2,al⟩:=h;obtain ⟨hz,dx,ta,e3,e4⟩:=r;refine ⟨as,s _ _ (ze e1 e3 (by intro z;cases z)) e1,e2,fun i a d h1 h2=>?_⟩;obtain ⟨hk,dx',e5⟩:=al i a d h1 h2;refine ⟨hk,dx',s _ _ (fun z=>?_) e5⟩;subst z;rw [e5] at e3;have e6:=Option.some.inj e3;injection e6 with _ _ e8;have e9:(7:Nat)=3:=congrArg List.length e8;omega
theorem Kj.same {t:Adr} {H H':Hp} {wl:Addr} {ds:List WD} (h:Kj t H wl ds) (s:Nb H H'):Kj t H' wl ds:=by
 obtain ⟨as,e1,e2,al⟩:=h;exact ⟨as,s _ _ e1,e2,fun i a d h1 h2=>(al i a d h1 h2).same s⟩
section
variable {P:Program} {w:World} {K:PySem.W.Frag} {mg:Str→Option Value} {base:Heap} {t:Adr}
theorem GH (T:Txt w K mg t):Lb P w K mg base CX0 5 t.Di t.Ei ["reader"] (AB t):=by
 have g12:Lb P w K mg base CX0 4 t.Ac t.Nc q18 (wm K t):=(Mo T).mono (by decide);have g9:Lb P w K mg base CX0 4 t.Yb t.nc q15 (Qm t):=yp T;have g14:Lb P w K mg base CX0 4 t.yc t.Kc ["self"] (Du t):=(Xx T).mono (by decide);refine T.Ml.ok Vn (fun vs H Q E h=>?_) (fun _ _ _ s H vs Q E hr h=>?_)
 ·obtain ⟨q,row,n,rfl,_⟩:=h;rfl
 obtain ⟨q,row,n,rfl,R,hn,nt,qq⟩:=h;refine ⟨_,(cb (xc (Xc (pv 0) T.zb T.Gd g12 hr T.Fd .nil Cb (ab (se (ab Rc fb)) fb)))
   (cb (Bb (i:=1) Vn.nd rfl (Or.inl rfl) (Xc (pv 0) T.zb T.ac g9 hr T.Zb .nil Cb (ab (Cg rfl T.Xq T.Yq) (ab (Cg rfl T.bu T.qu) fb))))
   (cb (xc (Xd (pv 0) T.zb T.oe g14 hr T.re .nil Cb))
   (pb (Jb (pv 1)))))),?_⟩
 obtain ⟨_,dx,ta,e1,e2⟩:=id R;walk_at "RD";refine ⟨_,_,e1,kf.no _ _ _ (by decide +kernel),by decide,fun p hp=>?_⟩;have s0:Nb H (upd H p (.lst [V.str (Str.ofString "ring")])):=lb hp;refine ⟨q,row,_,0,Str.ofString "ring",p,[Str.ofString "ring"],rfl,R.same s0,rfl,SqL.of db,by simp,fun H1 s1 n1 R1=>?_⟩;obtain ⟨_,dx1,ta1,f1,f2⟩:=id R1;walk_at "RD";refine ⟨_,_,f1,kf.no _ _ _ (by decide +kernel),?_⟩;have nt1:=n1 nt.upd;refine ⟨q,row,_,1,num n,2,99,n,rfl,R1,rfl,Pi (by omega) (by omega) hn.1 hn.2,nt1,fun H2 s2 n2 R2=>?_⟩;obtain ⟨_,dx2,ta2,g1,g2⟩:=id R2;walk_at "RD";refine ⟨_,_,g1,kf.no _ _ _ (by decide +kernel),?_⟩;refine ⟨q,row,_,2,rfl,R2,rfl,?_⟩;walk_at "RD";exact qq H2 (((Vc.of s0).trans s1).trans s2) (n2 nt1)
theorem qz (T:Txt w K mg t):Lb P w K mg base CX0 3 t.qf t.Cf q36 (Us t):=by
 have g13:Lb P w K mg base CX0 2 t.Gc t.Uc ["self"] (Nm t):=(Eo T).mono (by decide);have g16:Lb P w K mg base CX0 2 t.bd t.Ad q17 (ft t):=(Rw T).mono (by decide);have g31:Lb P w K mg base CX0 2 t.Zl t.Am ["word"] xB:=ZG T;refine T.kh.ok dj (fun vs H Q E h=>?_) (fun _ _ _ s H vs Q E hr h=>?_)
 ·obtain ⟨q,row,ws,pl,wl,ds,x,rfl,_⟩:=h;rfl
 obtain ⟨q,row,ws,pl,wl,ds,x,rfl,R,hx,hm,hW,hdl,hnew,nt,qq⟩:=h;refine ⟨_,(cb (Bb (i:=2) dj.nd rfl (Or.inl rfl) (Xd (pv 0) T.zb T.Fe g13 hr T.Ie .nil Cb))
   (cb (xc (Xc (pv 0) T.zb T.Dg g16 hr T.yg .nil Cb (ab (LF (yb g31 hr rfl T.fC T.Gp.kp T.GB .nil Cb (ab (pv 2) fb)) (wy (Ff jv (pv 2) (Jf rfl (Sd (pv 1)) (Qc (sc:=rb ah) rfl (by decide +kernel)) (N:=["way"]) (sel:=[none]) (ud (M:=["reader","ways","name"]) (by decide +kernel)) (Blk.of (fun _ _ _ _=>(xb (i:=0) (Bg (N:=["way"]) (by decide +kernel) rfl) rfl (Or.inl rfl))) (fun _ _ _ _=>⟨_,uf,by walk_at "B"⟩) (fun _ _ _ _=>⟨_,(Bc (pv 0) rfl),by walk_at "B"⟩))) (by with_unfolding_all rfl)))) fb)))
   (pb (Jb (pv 2))))),?_⟩
 have hlt:pl < ws.length:=(List.getElem?_eq_some_iff.mp hx).1;have hg:ws.getD pl (Str.ofString "")=x:=by rw [List.getD_eq_getElem?_getD,hx];rfl
 obtain ⟨hz,dx,ta,e1,e2⟩:=id R;walk_at "RD";refine ⟨_,_,e1,kf.no _ _ _ (by decide +kernel),⟨q,row,ws,pl,rfl,R,by omega,?_⟩⟩;rw [hg];walk_at "RD";refine ⟨_,_,e1,kf.no _ _ _ (by decide +kernel),?_⟩;refine ⟨x,rfl,hz.2 x (List.mem_of_getElem? hx),nt,?_⟩;rw [hm];walk_at "RD";obtain ⟨as,w1,w2,al⟩:=hW;refine ⟨⟨_,SqL.of w1⟩,?_⟩;have hle:(as.map V.ref).length ≤ sizeLine:=by rw [List.length_map,w2];exact Nat.le_trans hdl (by decide)
 refine vd.list_zs (xs:=as.map V.ref) (zs:=ds.map fun d=>V.str d.name) (SqL.of w1) hle (by rw [List.length_map,List.length_map,w2]) (fun i v z N hv hz' hN=>?_) (fun p hp=>?_)
 ·obtain ⟨a,ha,rfl⟩:=Xb hv;obtain ⟨d,hd,rfl⟩:=Xb hz';walk_at "RD";exact ⟨Sub.name,_,(al i a d ha hd).f_name T,hN⟩
 ·walk_at "RD";have e0:(ds.map fun d=>V.str d.name)=Hb (ds.map (·.name)):=by unfold Hb;rw [List.map_map];rfl
  rw [e0];refine ⟨_,.inl (SqL.of db),rfl,js _,?_⟩;rw [By,decide_eq_false (fun z=>by
   obtain ⟨d,hd,e⟩:=List.mem_map.mp z;exact hnew d hd e)]
  have s0:Nb H (upd H p (.lst (Hb (ds.map (·.name))))):=lb hp;exact ⟨q,row,ws,pl,rfl,R.same s0,fun H' s1 n1 R1=>qq H' ((Vc.of s0).trans s1) (n1 nt.upd) R1⟩
theorem DJ (T:Txt w K mg t):Lb P w K mg base CX0 5 t.ak t.fk q25 (rG t):=by
 have g13:Lb P w K mg base CX0 4 t.Gc t.Uc ["self"] (Nm t):=(Eo T).mono (by decide);have g9:Lb P w K mg base CX0 4 t.Yb t.nc q15 (Qm t):=yp T;refine T.zn.ok Lx (fun vs H Q E h=>?_) (fun _ _ _ s H vs Q E hr h=>?_)
 ·obtain ⟨q,row,ws,pl,n,st,fi,rfl,_⟩:=h;rfl
 obtain ⟨q,row,ws,pl,n,st,fi,rfl,R,hx,hst,hfi,hne,hn,nt,qq⟩:=h;refine ⟨_,(cb (Ye (bc mj (Xd (pv 0) T.zb T.Fe g13 hr T.Ie .nil Cb) (Cc ff rfl T.Jz Vg (ab (pv 2) fb)) (qc _)) (pb Qg) Ec)
   (pb (Jb (Xc (pv 0) T.zb T.ac g9 hr T.Zb .nil Cb (ab ub (ab (Gb Oe (pv 1) ub) fb)))))),?_⟩
 have hlt:pl < ws.length:=(List.getElem?_eq_some_iff.mp hx).1;have hg:ws.getD pl (Str.ofString "")=num fi:=by rw [List.getD_eq_getElem?_getD,hx];rfl
 obtain ⟨hz,dx,ta,e1,e2⟩:=id R;walk_at "RD";refine Wc false (fun Q hQ=>?_) (fun hc=>nomatch hc) (fun _=>?_)
 ·walk_at "RD";refine ⟨_,_,e1,kf.no _ _ _ (by decide +kernel),⟨q,row,ws,pl,rfl,R,by omega,?_⟩⟩;rw [hg];walk_at "RD";refine ⟨DA (by omega),?_⟩;rw [decide_eq_false (fun z=>hne (yH (by omega) (by omega) (by omega) (by omega) z).symm)];exact hQ
 ·walk_at "RD";refine ⟨_,_,e1,kf.no _ _ _ (by decide +kernel),⟨q,row,ws,pl,num fi,0,n - 1,fi,rfl,R,hx,Pi (by omega) (by omega) (by omega) (by omega),nt,fun H1 s1 n1 R1=>?_⟩⟩;exact qq H1 s1 (n1 nt) R1
theorem jJ {t:Adr} {H:Hp} {x dx:Addr} {d:WD} (hx:H x=none) (hd:H dx=none) (hk:d.k < 3) :
  Nb H (upd (upd (upd H dx (.own x)) x (.ins (t.cw d.k) dx [])) x (.ins (t.cw d.k) dx (eo d)))∧(NoT H→NoT (upd (upd (upd H dx (.own x)) x (.ins (t.cw d.k) dx [])) x (.ins (t.cw d.k) dx (eo d)))) ∧
   He t (upd (upd (upd H dx (.own x)) x (.ins (t.cw d.k) dx [])) x (.ins (t.cw d.k) dx (eo d))) x d:=
 ⟨(((Nb.refl H).updN hd).updN hx).updN hx,fun n=>((n.upd).upd).upd,hk,dx,db⟩
theorem jE (T:Txt w K mg t):Lb P w K mg base CX0 4 t.Yj t.vk q26 (cy t):=by
 have g32:Lb P w K mg base CX0 2 t.zf t.Ng q9 (Xj t 0):=dH T;have g33:Lb P w K mg base CX0 2 t.Te t.Uf q9 (Xj t 1):=jF T;have g34:Lb P w K mg base CX0 2 t.Pe t.fg q9 (Xj t 2):=gF T;refine T.yn.ok Uw (fun vs H Q E h=>?_) (fun _ _ _ s H vs Q E hr h=>?_)
 ·obtain ⟨d,rfl,_⟩:=h;rfl
 obtain ⟨d,rfl,hk,q⟩:=h;refine ⟨_,(cb (Ye (bc mj (pv 0) Rc (qc _)) (pb (Jb (Vm T.JE g32 hr rfl T.YE T.yt .nil Cb (ab (pv 1) (ab (pv 2) (ab (pv 3) (ab (pv 4) (ab (pv 5) (ab (pv 6) fb))))))))) Ec)
   (cb (Ye (bc mj (pv 0) Rc (qc _)) (pb (Jb (Vm T.aD g33 hr rfl T.pB T.Vq .nil Cb (ab (pv 1) (ab (pv 2) (ab (pv 3) (ab (pv 4) (ab (pv 5) (ab (pv 6) fb))))))))) Ec)
   (pb (Jb (Vm T.KA g34 hr rfl T.bB T.Kr .nil Cb (ab (pv 1) (ab (pv 2) (ab (pv 3) (ab (pv 4) (ab (pv 5) (ab (pv 6) fb))))))))))),?_⟩
 have fin:∀ (x dx:Addr),H x=none→H dx=none→Q (.ref x) (upd (upd (upd H dx (.own x)) x (.ins (t.cw d.k) dx [])) x (.ins (t.cw d.k) dx (eo d))):=fun x dx hx hd=>by
  obtain ⟨m1,m2,m3⟩:=jJ (t:=t) (d:=d) hx hd hk;exact q x _ m1 m2 m3 hx
 obtain ⟨k,name,start,fi,off,near,least⟩:=d
 match k,hk with
 | 0,_=>
  (walk_at "RD"; repeat (simp only [Ld];walk_at "RD"));refine Wc true (fun Q hQ=>?_) (fun _=>?_) (fun hc=>nomatch hc)
  ·walk_at "RD";exact hQ
  ·walk_at "RD";exact fun x dx hx hd hne=>⟨x,dx,⟨0,name,start,fi,off,near,least⟩,rfl,rfl,db,rfl,fin x dx hx hd⟩
 | 1,_=>
  (walk_at "RD"; repeat (simp only [Ld];walk_at "RD"));refine Wc false (fun Q hQ=>?_) (fun hc=>nomatch hc) (fun _=>?_)
  ·walk_at "RD";rw [decide_eq_false (by decide +kernel)];exact hQ
  ·walk_at "RD";refine Wc true (fun Q hQ=>?_) (fun _=>?_) (fun hc=>nomatch hc)
   ·walk_at "RD";exact hQ
   ·walk_at "RD";exact fun x dx hx hd hne=>⟨x,dx,⟨1,name,start,fi,off,near,least⟩,rfl,rfl,db,rfl,fin x dx hx hd⟩
 | 2,_=>
  (walk_at "RD"; repeat (simp only [Ld];walk_at "RD"));refine Wc false (fun Q hQ=>?_) (fun hc=>nomatch hc) (fun _=>?_)
  ·walk_at "RD";rw [decide_eq_false (by decide +kernel)];exact hQ
  ·walk_at "RD";refine Wc false (fun Q hQ=>?_) (fun hc=>nomatch hc) (fun _=>?_)
   ·walk_at "RD";rw [decide_eq_false (by decide +kernel)];exact hQ
   ·walk_at "RD";exact fun x dx hx hd hne=>⟨x,dx,⟨2,name,start,fi,off,near,least⟩,rfl,rfl,db,rfl,fin x dx hx hd⟩
theorem LK (T:Txt w K mg t):Lb P w K mg base CX0 6 t.Zj t.ik q37 (nG t):=by
 have g12:Lb P w K mg base CX0 5 t.Ac t.Nc q18 (wm K t):=(Mo T).mono (by decide);have g9:Lb P w K mg base CX0 5 t.Yb t.nc q15 (Qm t):=(yp T).mono (by decide);have g14:Lb P w K mg base CX0 5 t.yc t.Kc ["self"] (Du t):=(Xx T).mono (by decide);have g35:Lb P w K mg base CX0 5 t.qf t.Cf q36 (Us t):=(qz T).mono (by decide);have g36:Lb P w K mg base CX0 5 t.ak t.fk q25 (rG t):=DJ T;have g37:Lb P w K mg base CX0 5 t.Yj t.vk q26 (cy t):=(jE T).mono (by decide);refine T.Bn.ok ve (fun vs H Q E h=>?_) (fun _ _ _ s H vs Q E hr h=>?_)
 ·obtain ⟨q,row,n,wl,ds,d,rfl,_⟩:=h;rfl
 obtain ⟨q,row,n,wl,ds,d,rfl,R,hd,hn,hW,hdl,hnew,nt,qq⟩:=h;refine ⟨_,(cb (Bb (i:=3) ve.nd rfl (Or.inl rfl) (Xc (pv 0) T.zb T.Gd g12 hr T.Fd .nil Cb (ab (se (ab Rc (ab Rc (ab Rc fb)))) fb)))
   (cb (Bb (i:=4) ve.nd rfl (Or.inl rfl) (yb g35 hr rfl T.iq T.kh.kp T.Cp .nil Cb (ab (pv 0) (ab (pv 2) fb))))
   (cb (Bb (i:=5) ve.nd rfl (Or.inl rfl) (Xc (pv 0) T.zb T.ac g9 hr T.Zb .nil Cb (ab ub (ab (Gb Oe (pv 1) ub) fb))))
   (cb (Bb (i:=6) ve.nd rfl (Or.inl rfl) (yb g36 hr rfl T.Kz T.zn.kp T.nz .nil Cb (ab (pv 0) (ab (pv 1) (ab (pv 5) fb)))))
   (cb (Bb (i:=7) ve.nd rfl (Or.inl rfl) (Xc (pv 0) T.zb T.ac g9 hr T.Zb .nil Cb (ab ub (ab (Cg rfl T.zz T.Rz) fb))))
   (cb (Bb (i:=8) ve.nd rfl (Or.inl rfl) (Xc (pv 0) T.zb T.ac g9 hr T.Zb .nil Cb (ab ub (ab (Cg rfl T.ax T.Gx) fb))))
   (cb (Bb (i:=9) ve.nd rfl (Or.inl rfl) (Xc (pv 0) T.zb T.ac g9 hr T.Zb .nil Cb (ab ub (ab (Cg rfl T.Fv T.nv) fb))))
   (cb (xc (Xd (pv 0) T.zb T.oe g14 hr T.re .nil Cb))
   (pb (Jb (yb g37 hr rfl T.lz T.yn.kp T.vz .nil Cb (ab (pv 3) (ab (pv 4) (ab (pv 5) (ab (pv 6) (ab (pv 7) (ab (pv 8) (ab (pv 9) fb)))))))))))))))))),?_⟩
 have b1:=hd.st;have b2:=hd.fi;have b3:=hd.of;have b4:=hd.nr;have b5:=hd.le;obtain ⟨_,dx,ta,e1,e2⟩:=id R;walk_at "RD";refine ⟨_,_,e1,kf.no _ _ _ (by decide +kernel),by decide,fun p hp=>?_⟩;have s0:Nb H (upd H p (.lst [V.str (Str.ofString "car"),V.str (Str.ofString "foot"),V.str (Str.ofString "tram")])):=lb hp;have hin:Ld d.k ∈ [Str.ofString "car",Str.ofString "foot",Str.ofString "tram"]:=by
  have:=hd.k
  match d.k,this with
  | 0,_=>simp [Ld]
  | 1,_=>simp [Ld]
  | 2,_=>simp [Ld]
 refine ⟨q,row,_,0,Ld d.k,p,[Str.ofString "car",Str.ofString "foot",Str.ofString "tram"],rfl,R.same s0,rfl,SqL.of db,hin,fun H1 s1 n1 R1=>?_⟩;have x1:Vc q H H1:=(Vc.of s0).trans s1;have m1:=n1 nt.upd;walk_at "RD";refine ⟨q,row,_,1,wl,ds,d.name,rfl,R1,rfl,hd.nm,hW.sameX x1 R,hdl,hnew,m1,fun H2 s2 m2 R2=>?_⟩;obtain ⟨_,dx2,ta2,f2,g2⟩:=id R2;have x2:=x1.trans s2;walk_at "RD";refine ⟨_,_,f2,kf.no _ _ _ (by decide +kernel),⟨q,row,_,2,num d.start,0,n - 1,d.start,rfl,R2,rfl,Pi (by omega) (by omega) (by omega) (by omega),m2,fun H3 s3 n3 R3=>?_⟩⟩;have x3:=x2.trans s3;have m3:=n3 m2;walk_at "RD";refine ⟨q,row,_,3,n,d.start,d.fin,rfl,R3,rfl,b1,b2,hd.ne,hn.2,m3,fun H4 s4 m4 R4=>?_⟩;obtain ⟨_,dx4,ta4,f4,g4⟩:=id R4;have x4:=x3.trans s4;walk_at "RD";refine ⟨_,_,f4,kf.no _ _ _ (by decide +kernel),⟨q,row,_,4,num d.off,0,30,d.off,rfl,R4,rfl,Pi (by omega) (by omega) (by omega) (by omega),m4,fun H5 s5 n5 R5=>?_⟩⟩;obtain ⟨_,dx5,ta5,f5,g5⟩:=id R5;have x5:=x4.trans s5;have m5:=n5 m4;walk_at "RD";refine ⟨_,_,f5,kf.no _ _ _ (by decide +kernel),⟨q,row,_,5,num d.near,0,30,d.near,rfl,R5,rfl,Pi (by omega) (by omega) (by omega) (by omega),m5,fun H6 s6 n6 R6=>?_⟩⟩;obtain ⟨_,dx6,ta6,f6,g6⟩:=id R6;have x6:=x5.trans s6;have m6:=n6 m5;walk_at "RD";refine ⟨_,_,f6,kf.no _ _ _ (by decide +kernel),⟨q,row,_,6,num d.least,1,60,d.least,rfl,R6,rfl,Pi (by omega) (by omega) (by omega) (by omega),m6,fun H7 s7 n7 R7=>?_⟩⟩;obtain ⟨_,dx7,ta7,f7,g7⟩:=id R7;have x7:=x6.trans s7;have m7:=n7 m6;walk_at "RD";refine ⟨_,_,f7,kf.no _ _ _ (by decide +kernel),⟨q,row,_,7,rfl,R7,rfl,?_⟩⟩;walk_at "RD";refine ⟨d,rfl,hd.k,fun x H8 s8 n8 w8 hx8=>?_⟩;refine qq x H8 (x7.trans (Vc.of s8)) (n8 m7) w8 ?_;cases hH:H x with
 | none=>rfl
 | some u=>
  by_cases hxq:x=q
  ·subst hxq;rw [f7] at hx8;cases hx8
  ·rw [x7 x u hxq hH] at hx8;cases hx8
end
end My
namespace My
open PySem L2
noncomputable abbrev iA:List Str:=[Str.ofString "places",Str.ofString "ways",Str.ofString "numbers"]
noncomputable def cF (n:Int) (wl nd:Addr):List (Str × V):=[(Str.ofString "places",.int n),(Str.ofString "ways",.ref wl),(Str.ofString "numbers",.ref nd)]
theorem du (n:Int) (wl nd:Addr):(cF n wl nd).map (·.1)=iA:=rfl
noncomputable def nm (ds:List WD) (i:Nat):Str:=((ds[i]?).map (·.name)).getD (Str.ofString "")
noncomputable def jA (ds:List WD) (i:Nat):List (Key × V):=(List.range i).map fun j=>(Sum.inr (nm ds j),V.int j)
theorem Su {ds:List WD} {i:Nat} {d:WD} (h:ds[i]? = some d):nm ds i=d.name:=by unfold nm;rw [h];rfl
theorem Uy {ds:List WD} (h:(ds.map (·.name)).Nodup) {i j:Nat} (hi:i < ds.length) (hj:j < ds.length) (e:nm ds i=nm ds j):i=j:=by
 rw [Su (List.getElem?_eq_getElem hi),Su (List.getElem?_eq_getElem hj)] at e;have:=(List.getElem_inj (xs:=ds.map (·.name)) (i:=i) (j:=j) (h₀:=by rw [List.length_map];exact hi) (h₁:=by rw [List.length_map];exact hj) h).mp (by rw [List.getElem_map,List.getElem_map];exact e);exact this
theorem vF {ds:List WD} (h:(ds.map (·.name)).Nodup) {i:Nat}:∀ {n:Nat},i < n→n ≤ ds.length→yu (jA ds n) (Sum.inr (nm ds i))=some (.int i):=by
 intro n
 induction n with
 | zero=>intro hi _;omega
 | succ n ih=>
  intro hi hn;unfold jA yu;rw [List.range_succ,List.map_append,List.find?_append];by_cases c:i < n
  ·have:=ih c (by omega);unfold jA yu at this;cases e:List.find? (fun kv=>decide (kv.fst=Sum.inr (nm ds i))) (List.map (fun j=>((Sum.inr (nm ds j):Key),V.int j)) (List.range n)) with
   | none=>rw [e] at this;cases this
   | some p=>rw [e] at this;exact this
  ·have e:i=n:=by omega
   subst e;have no:List.find? (fun kv=>decide (kv.fst=Sum.inr (nm ds i))) (List.map (fun j=>((Sum.inr (nm ds j):Key),V.int j)) (List.range i))=none:=by
    rw [List.find?_eq_none];intro p hp;obtain ⟨j,hj,rfl⟩:=List.mem_map.mp hp;have hj':=List.mem_range.mp hj;simp only [decide_eq_true_eq];intro z;have:=Uy h (by omega) (by omega) (Sum.inr.inj z);omega
   rw [no];simp
theorem EE {ds:List WD} (h:(ds.map (·.name)).Nodup) {n:Nat} (hn:n < ds.length):Ju (jA ds n) (Sum.inr (nm ds n)) (.int n)=jA ds (n + 1):=by
 unfold Ju;have no:((jA ds n).any fun kv=>decide (kv.1=Sum.inr (nm ds n)))=false:=by
  rw [List.any_eq_false];intro p hp;obtain ⟨j,hj,rfl⟩:=List.mem_map.mp hp;have hj':=List.mem_range.mp hj;simp only [decide_eq_true_eq];intro z;have:=Uy h (by omega) hn (Sum.inr.inj z);omega
 rw [no];unfold jA;rw [List.range_succ,List.map_append];rfl
theorem me {H H1 H2:Hp} {q:Addr} (a:Nb H H1) (b:Vc q H1 H2) (n:H q=none):Nb H H2:=fun c u e=>b c u (wb e n) (a c u e)
theorem BF {t:Adr} {H:Hp} {p q:Addr} {i j:Int} {ws vs:List Str} {k l:Nat} (a:kf t H p i ws k) (b:kf t H q j vs l) (n:i ≠ j):p ≠ q:=fun z=>by
 subst z;obtain ⟨_,dx,ta,e1,_⟩:=a;obtain ⟨_,dx',ta',e2,_⟩:=b;rw [e1] at e2;have e3:=Option.some.inj e2;injection e3 with _ _ e4;unfold rdF at e4;injection e4 with e5 _;injection e5 with _ e6;injection e6 with e7;exact n e7
theorem Uu {t:Adr} {H:Hp} {p q:Addr} {d:WD} {j:Int} {vs:List Str} {l:Nat} (a:He t H p d) (b:kf t H q j vs l):p ≠ q:=fun z=>by
 subst z;obtain ⟨_,dx,e1⟩:=a;obtain ⟨_,dx',ta',e2,_⟩:=b;rw [e1] at e2;have e3:=Option.some.inj e2;injection e3 with _ _ e4;exact absurd (congrArg List.length e4) (by show ¬ (7:Nat)=3;decide)
noncomputable def Lc (t:Adr) (H:Hp) (c:Addr) (n:Int) (ds:List WD):Prop:=
 ((ds.map (·.name)).Nodup∧ds.length ≤ 12)∧∃ dx wl nd,H c=some (.ins t.Ub dx (cF n wl nd))∧Kj t H wl ds∧H nd=some (.dK (jA ds ds.length))
theorem Lc.same {t:Adr} {H H':Hp} {c:Addr} {n:Int} {ds:List WD} (h:Lc t H c n ds) (s:Nb H H'):Lc t H' c n ds:=by
 obtain ⟨h0,dx,wl,nd,e1,e2,e3⟩:=h;exact ⟨h0,dx,wl,nd,s _ _ e1,e2.same s,s _ _ e3⟩
theorem mw {m:Str} (n:Int) (wl nd:Addr) (h:iA.contains m=false):(cF n wl nd).lookup m=none:=xm iA (du ..) h
section
variable {w:World} {K:PySem.W.Frag} {mg:Str→Option Value} {t:Adr} {H:Hp} {c dx wl nd:Addr} {n:Int}
theorem JD (T:Txt w K mg t) (e:H c=some (.ins t.Ub dx (cF n wl nd))):nj K H c (Str.ofString "places") (.int n):=⟨_,dx,_,e,T.Pb,T.yh,ae iA 0 (du ..) (by decide +kernel) rfl⟩
theorem iG (T:Txt w K mg t) (e:H c=some (.ins t.Ub dx (cF n wl nd))):nj K H c (Str.ofString "ways") (.ref wl):=⟨_,dx,_,e,T.Pb,T.Zi,ae iA 1 (du ..) (by decide +kernel) rfl⟩
theorem rq (T:Txt w K mg t) (e:H c=some (.ins t.Ub dx (cF n wl nd))):nj K H c (Str.ofString "numbers") (.ref nd):=⟨_,dx,_,e,T.Pb,T.Yg,ae iA 2 (du ..) (by decide +kernel) rfl⟩
end
noncomputable def wG (t:Adr):Sp:=fun vs H Q _=>∃ c dx n wl ds,vs=[.ref c,.int n,.ref wl]∧H c=some (.ins t.Ub dx [])∧Kj t H wl ds∧(ds.map (·.name)).Nodup∧ds.length ≤ 12∧NoT H ∧
 ∀ H',Vc c H H'→NoT H'→Lc t H' c n ds→Q .non H'
noncomputable def yK (t:Adr):Sp:=fun vs H Q _=>∃ n ds,vs=[.str (Zv n ds)]∧COk n ds∧NoT H∧∀ c H',Nb H H'→NoT H'→Lc t H' c n ds→Q (.ref c) H'
noncomputable def om (t:Adr):Sp:=fun vs H Q _=>∃ c n ds,vs=[.ref c]∧Lc t H c n ds∧∀ p,H p=none→Q (.ref p) (upd H p (.lst (Hb (ds.map (·.name)))))
noncomputable def qv (t:Adr):Sp:=fun vs H Q _=>∃ c n ds,∃ i:Nat,∃ d,vs=[.ref c,.str d.name]∧Lc t H c n ds∧ds[i]? = some d∧Q (.int (i:Nat)) H
noncomputable def ig (t:Adr):Sp:=fun vs H Q _=>∃ c n ds,∃ i:Nat,∃ d,vs=[.ref c,.str d.name]∧Lc t H c n ds∧ds[i]? = some d∧∀ a,He t H a d→Q (.ref a) H
section
variable {P:Program} {w:World} {K:PySem.W.Frag} {mg:Str→Option Value} {base:Heap} {t:Adr}
theorem EJ (T:Txt w K mg t):Lb P w K mg base CX0 1 t.Ce t.Bf q50 (wG t):=by
 refine T.Vj.ok Ke (fun vs H Q E h=>?_) (fun _ _ _ s H vs Q E hr h=>?_)
 ·obtain ⟨c,dx,n,wl,ds,rfl,_⟩:=h;rfl
 obtain ⟨c,dx,n,wl,ds,rfl,hc,hW,hnd,hdl,nt,q⟩:=h;have hu:=Pw hr;refine ⟨_,(cb (Df (pv 0) (pv 1) rfl)
   (cb (Df (pv 0) (pv 2) rfl)
   (cb (Df (pv 0) Lm rfl)
   (pb (Dd PassesOwn.never rfl (zl rfl T.af (ab (pv 2) fb)) (Vd (K:=K) (n:=2) rfl rfl (Eb (xb (i:=3) Ke.nd rfl (Or.inl rfl) (.inl rfl)) (Eb (xb (i:=4) Ke.nd rfl (Or.inl rfl) (.inl rfl)) Ud))) (pb (xq hu (Bc (pv 0) rfl) (Bc (pv 4) rfl) (pv 3) rfl))))))),?_⟩
 walk_at "RD";refine ⟨_,_,_,hc,T.Pb,T.yh,by decide,?_⟩;refine ⟨_,_,_,db,T.Pb,T.Zi,Pm (n:=999) (by decide),fun nd hn=>?_⟩;simp only [Iq] at hn ⊢;rw [show ai (Str.ofString "places") (V.int n) ([]:List (Str × V))=[(Str.ofString "places",V.int n)] from rfl,show ai (Str.ofString "ways") (V.ref wl) [(Str.ofString "places",V.int n)]=[(Str.ofString "places",V.int n),(Str.ofString "ways",V.ref wl)] from Hd [Str.ofString "places"] rfl (by decide +kernel)] at hn ⊢;have hnc:c ≠ nd:=fun z=>by subst z;rw [db] at hn;cases hn
 refine ⟨t.Ub,dx,[(Str.ofString "places",V.int n),(Str.ofString "ways",V.ref wl)],by rw [qb hnc];exact db,T.Pb,T.Yg,show (2:Nat) < 1000 by decide,?_⟩;rw [show ai (Str.ofString "numbers") (V.ref nd) [(Str.ofString "places",V.int n),(Str.ofString "ways",V.ref wl)]=cF n wl nd from Hd [Str.ofString "places",Str.ofString "ways"] rfl (by decide +kernel)];obtain ⟨as,w1,w2,al⟩:=hW;have hHn:H nd=none:=by rw [qb (Ne.symm hnc)] at hn;exact hn
 have sx:Vc c H (upd (upd (upd H c (.ins t.Ub dx [(Str.ofString "places",V.int n),(Str.ofString "ways",V.ref wl)])) nd (.dK [])) c (.ins t.Ub dx (cF n wl nd))):=fun b u hb e=>by
  rw [qb hb,qb (wb e hHn),qb hb];exact e
 have hwc:wl ≠ c:=ze w1 hc (by intro z;cases z);refine ⟨⟨_,SqL.of (sx _ _ hwc w1)⟩,?_⟩;refine Fh.enum (xs:=as.map V.ref) (fun i σ H'=>(∃ x y,σ=[some (V.ref c),some (V.int n),some (V.ref wl),x,y])∧H' c=some (.ins t.Ub dx (cF n wl nd))∧H' nd=some (.dK (jA ds i))∧Vc c H H'∧NoT H') ?_ ?_ ?_ ?_
 ·exact ⟨⟨_,_,rfl⟩,db,by rw [qb (Ne.symm hnc),db];rfl,sx,((nt.upd).upd).upd⟩
 ·rintro i σ H' hi zzq;refine zP fun zzM zzh=>?_
  obtain ⟨_,_,_,sx',_⟩:=zzq;subst zzh;exact SqL.of (sx' _ _ hwc w1)
 ·rintro i v σ H' p hv ⟨⟨x,y,rfl⟩,h1,h2,sx',nt'⟩ hp;obtain ⟨a,ha,rfl⟩:=Xb hv;obtain ⟨hi,_⟩:=List.getElem?_eq_some_iff.mp ha;have hid:i < ds.length:=by omega
  have hd:ds[i]? = some ds[i]:=List.getElem?_eq_getElem hid;have Wa:He t H a ds[i]:=al i a _ ha hd;have hac:a ≠ c:=by
   obtain ⟨_,dx',e⟩:=Wa;intro z;subst z;rw [hc] at e;have e2:=Option.some.inj e;injection e2 with _ _ e3;exact absurd (congrArg List.length e3) (by show ¬ (0:Nat)=7;decide)
  have Wa':He t H' a ds[i]:=⟨Wa.1,Wa.2.imp fun dx' e=>sx' _ _ hac e⟩;have sp:Nb H' (upd H' p (.tup [.int i,.ref a])):=lb hp;refine kg ?_;walk_at "RD";refine ⟨_,rq T (sp _ _ h1),_,(Wa'.same sp).f_name T,_,rfl,_,nA.k (k:=Sum.inr ds[i].name) (sp _ _ h2) (Nat.lt_of_le_of_lt (show (jA ds i).length ≤ 12 by unfold jA;rw [List.length_map,List.length_range];omega) (by decide)),?_⟩;rw [← Su hd,EE hnd hid];refine ⟨⟨_,rfl⟩,?_,db,fun b u hb e=>?_,(nt'.upd).upd⟩
  ·rw [qb hnc];exact sp _ _ h1
  ·rw [qb (wb e hHn)];exact sp _ _ (sx' b u hb e)
 ·rintro σ H' zzq;refine zP fun zzM zzh=>?_
  obtain ⟨⟨x,y,rfl⟩,h1,h2,sx',nt'⟩:=zzq;subst zzh;walk_at "RD";rw [List.length_map,w2] at h2;refine q H' sx' nt' ⟨⟨hnd,hdl⟩,dx,wl,nd,h1,⟨as,sx' _ _ hwc w1,w2,fun i a d h3 h4=>?_⟩,h2⟩;have Wa:=al i a d h3 h4;have hac:a ≠ c:=by
   obtain ⟨_,dx',e⟩:=Wa;intro z;subst z;rw [hc] at e;have e2:=Option.some.inj e;injection e2 with _ _ e3;exact absurd (congrArg List.length e3) (by show ¬ (0:Nat)=7;decide)
  exact ⟨Wa.1,Wa.2.imp fun dx' e=>sx' _ _ hac e⟩
theorem zC (T:Txt w K mg t):Lb P w K mg base CX0 1 t.Pd t.Ge q5 (qv t):=by
 refine T.gi.ok Om (fun vs H Q E h=>?_) (fun _ _ _ s H vs Q E hr h=>?_)
 ·obtain ⟨c,n,ds,i,d,rfl,_⟩:=h;rfl
 obtain ⟨c,n,ds,i,d,rfl,⟨⟨hnd,hdl⟩,dx,wl,nd,e1,e2,e3⟩,hd,q⟩:=h;have hu:=Pw hr;have hv:yu (jA ds ds.length) (Sum.inr d.name)=some (.int i):=by
  rw [← Su hd];exact vF hnd (List.getElem?_eq_some_iff.mp hd).1 (Nat.le_refl _)
 have hg:wo H nd (.str d.name) (some (.int i)):=by rw [← hv];exact wo.k (k:=Sum.inr d.name) e3
 refine ⟨_,(cb (Ye (ZI (gC hu (pv 1) (Bc (pv 0) rfl))) (pb Qg) Ec)
   (pb (Jb (Vi hu (Bc (pv 0) rfl) (pv 1) (fun _ _=>rfl))))),?_⟩
 walk_at "RD";refine Wc false (fun Q hQ=>?_) (fun hc=>nomatch hc) (fun _=>?_)
 ·walk_at "RD";refine ⟨_,rq T e1,_,rfl,_,hg,?_⟩;exact hQ
 ·walk_at "RD";exact ⟨_,rq T e1,_,rfl,_,hg,q⟩
theorem nh (T:Txt w K mg t):Lb P w K mg base CX0 2 t.Tb t.gc q5 (ig t):=by
 have g38:Lb P w K mg base CX0 1 t.Pd t.Ge q5 (qv t):=zC T;refine T.Xh.ok dm (fun vs H Q E h=>?_) (fun _ _ _ s H vs Q E hr h=>?_)
 ·obtain ⟨c,n,ds,i,d,rfl,_⟩:=h;rfl
 obtain ⟨c,n,ds,i,d,rfl,C,hd,q⟩:=h;obtain ⟨⟨hnd,hdl⟩,dx,wl,nd,e1,⟨as,w1,w2,al⟩,e3⟩:=id C;refine ⟨_,(pb (Jb (Yc ic (Bc (pv 0) rfl) (Xc (pv 0) T.Pb T.Gn g38 hr T.wn .nil Cb (ab (pv 1) fb)) (fun _ _=>rfl)))),?_⟩;walk_at "RD";refine ⟨_,iG T e1,_,_,e1,mw _ _ _ (by decide +kernel),⟨c,n,ds,i,d,rfl,C,hd,?_⟩⟩;have hi:i < as.length:=by rw [w2];exact (List.getElem?_eq_some_iff.mp hd).1
 have ha:as[i]? = some as[i]:=List.getElem?_eq_getElem hi;walk_at "RD";refine ⟨_,SqL.of w1,_,wc (show (as.map V.ref)[i]? = some (V.ref as[i]) by rw [List.getElem?_map,ha];rfl),?_⟩;exact q as[i] (al i _ d ha hd)
theorem KL (T:Txt w K mg t):Lb P w K mg base CX0 7 t.wf t.lf ["text"] (yK t):=by
 have g18:Lb P w K mg base CX0 6 t.Oj t.Cj ["text"] (Dn t):=(Xs T).mono (by decide);have g39:Lb P w K mg base CX0 6 t.Di t.Ei ["reader"] (AB t):=(GH T).mono (by decide);have g40:Lb P w K mg base CX0 6 t.Zj t.ik q37 (nG t):=LK T;have g41:Lb P w K mg base CX0 5 t.Ce t.Bf q50 (wG t):=(EJ T).mono (by decide);refine T.bh.ok ge (fun vs H Q E h=>?_) (fun _ _ _ s H vs Q E hr h=>?_)
 ·obtain ⟨n,ds,rfl,_⟩:=h;rfl
 obtain ⟨n,ds,rfl,hC,nt,qq⟩:=h;refine ⟨_,(cb (Bb (i:=1) ge.nd rfl (Or.inl rfl) (yb g18 hr rfl T.Bu T.Wl.kp T.Mv .nil Cb (ab (pv 0) fb)))
   (cb (Bb (i:=2) ge.nd rfl (Or.inl rfl) (yb g39 hr rfl T.Ww T.Ml.kp T.vx .nil Cb (ab (Yc ic (pv 1) ub (fun _ _=>rfl)) fb)))
   (cb (Bb (i:=3) ge.nd rfl (Or.inl rfl) (se fb))
   (cb (Dd PassesOwn.never rfl (Sd (Si Xt (pv 1) (Pj ub) dn)) (xb (i:=4) ge.nd rfl (Or.inl rfl)) (cb (Ye (bc mj (Vb Fb rfl T.xg Ob (ab (pv 3) fb)) (Cg rfl T.Aw T.gx) (qc _)) (pb Qg) Ec)
   (pb (xc (Bi PySem.F.plainAttrs_list PySem.F.slot_list_append PySem.F.type_list_append fe (pv 3) (ab (yb g40 hr rfl T.cA T.Bn.kp T.yz .nil Cb (ab (pv 4) (ab (pv 2) (ab (pv 3) fb)))) fb))))))
   (cb (Ye (Lp (Yy (pv 3) (fun _=>rfl))) (pb Qg) Ec)
   (pb (Jb (Vm T.tz g41 hr rfl T.xz T.ap .nil Cb (ab (pv 2) (ab (pv 3) fb)))))))))),?_⟩
 have hrow:=oz hC;have hlen:=Vu hC;have hnn:=hC.nn;have hln:=hC.ln;walk_at "RD";refine ⟨Zv n ds,rfl,by omega,?_,nt,fun p H1 sm1 nt1 R=>?_⟩
 ·rw [hrow];intro r hr;refine ⟨?_,fun x hx=>Nat.le_trans (hC.plain r hr x hx).1 (by decide)⟩;rcases List.mem_cons.mp hr with rfl | hr
  ·show (2:Nat) ≤ 1000;decide
  ·obtain ⟨d,hd,rfl⟩:=List.mem_map.mp hr;show (7:Nat) ≤ 1000;decide
 rw [hrow] at R;obtain ⟨qs,hp,hp0,hql,hqa⟩:=R;have hql':qs.length=ds.length + 1:=by rw [hql];simp [Mq]
 obtain ⟨q0,qr,rfl⟩:∃ q0 qr,qs=q0 :: qr:=by
  cases qs with
  | nil=>simp at hql'
  | cons a b=>exact ⟨a,b,rfl⟩
 obtain ⟨R0,hq0⟩:=hqa 0 q0 _ rfl rfl;walk_at "RD";refine ⟨_,SqL.of hp,_,wc (j:=0) rfl,⟨q0,_,n,rfl,R0,hnn,nt1,fun H2 s2 nt2=>⟨Nat.zero_le _,fun wl hwl=>?_⟩⟩⟩;obtain ⟨C0,dq0,fq0,hins⟩:=R0.ins;have hpq:p ≠ q0:=ze hp hins (by intro z;cases z);have hp2:H2 p=some (.lst ((q0 :: qr).map V.ref)):=s2 _ _ hpq hp;have swl:Nb H2 (upd H2 wl (.lst [])):=lb hwl;have hcut:Wy ((q0 :: qr).map V.ref) (some 1) none=qr.map V.ref:=by
  unfold Wy;simp [HT.sIx];exact List.take_of_length_le (by rw [List.length_map];exact Nat.le_refl _)
 refine ⟨_,SqL.of (swl _ _ hp2),fun pc hpc=>?_⟩;rw [hcut];have hpw:pc ≠ wl:=fun z=>by subst z;rw [db] at hpc;cases hpc
 have spc:Nb (upd H2 wl (.lst [])) (upd (upd H2 wl (.lst [])) pc (.lst (qr.map V.ref))):=lb hpc;refine ⟨⟨_,SqL.of db⟩,?_⟩;have sH2:Nb H H2:=me sm1 s2 hq0;have hqrl:qr.length=ds.length:=by simpa using hql'
 refine Fh.list (xs:=qr.map V.ref) (fun i σ H'=>(∃ x,σ=[some (V.str (Zv n ds)),some (V.ref p),some (V.int n),some (V.ref wl),x])∧NoT H'∧Nb H H'∧H' pc=some (.lst (qr.map V.ref))∧H wl=none∧Kj t H' wl (ds.take i) ∧
  ∀ (j:Nat) (q:Addr) (d:WD),i ≤ j→qr[j]? = some q→ds[j]? = some d→kf t H' q ((j + 1:Nat):Int) (sf d) 0∧H q=none) ?_ ?_ ?_ ?_
 ·refine ⟨⟨_,rfl⟩,(nt2.upd).upd,(sH2.trans swl).trans spc,db,sH2.free hwl,⟨[],spc _ _ db,rfl,fun j a d h=>by simp at h⟩,fun j q d _ h1 h2=>?_⟩;have hr:(Mq n ds)[j + 1]? = some (sf d):=by
   unfold Mq;rw [List.getElem?_cons_succ,List.getElem?_map,h2];rfl
  obtain ⟨Rj,hqj⟩:=hqa (j + 1) q _ (by rw [List.getElem?_cons_succ];exact h1) hr;refine ⟨((Rj.sameX s2 (BF Rj R0 (by omega)) R0.ins).same swl).same spc,hqj⟩
 ·rintro i σ H' hi zzq;refine zP fun zzM zzh=>?_
  obtain ⟨_,_,_,h,_⟩:=zzq;subst zzh;exact SqL.of h
 ·rintro i v σ H' hv zzq;refine zP fun zzM zzh=>?_
  obtain ⟨⟨x,rfl⟩,nt',sm',hpc',hwl0,W,Rs⟩:=zzq;obtain ⟨q,hq,rfl⟩:=Xb hv;obtain ⟨hi,_⟩:=List.getElem?_eq_some_iff.mp hq;have hid:i < ds.length:=by omega
  have hd:ds[i]? = some ds[i]:=List.getElem?_eq_getElem hid;obtain ⟨Rq,hqn⟩:=Rs i q _ (Nat.le_refl _) hq hd;have htl:(ds.take i).length=i:=by rw [List.length_take];omega
  obtain ⟨as,w1,w2,al⟩:=id W;subst zzh;walk_at "RD";refine Wc false (fun Q hQ=>?_) (fun hc=>nomatch hc) (fun _=>?_)
  ·walk_at "RD";refine ⟨_,.inl (SqL.of w1),?_⟩;rw [List.length_map,w2,htl];rw [decide_eq_false (by omega)] <;> exact hQ
  ·walk_at "RD";refine ⟨.inl ⟨_,SqL.of w1⟩,?_⟩;refine ⟨q,_,n,wl,ds.take i,ds[i],rfl,Rq,hC.al _ (List.getElem_mem hid),hnn,W,by omega,fun e he z=>?_,nt',fun y H3 s3 nt3 w3 hy3=>?_⟩
   ·obtain ⟨j,hj,rfl⟩:=List.getElem_of_mem he;rw [List.getElem_take] at z;have hj':j < i:=by omega
    have:=Uy hC.nd (i:=j) (j:=i) (by omega) hid (by rw [Su (List.getElem?_eq_getElem (by omega)),Su hd];exact z);omega
   ·walk_at "RD";obtain ⟨Cq,dq,fq,hqi⟩:=Rq.ins;have hwq:wl ≠ q:=ze w1 hqi (by intro z;cases z);have hw3:H3 wl=some (.lst (as.map V.ref)):=s3 _ _ hwq w1;have hsm3:Nb H H3:=me sm' s3 hqn;refine ⟨_,hw3,Nat.lt_of_le_of_lt (show (as.map V.ref).length ≤ 12 by rw [List.length_map];omega) (by decide),?_⟩;have hyw:y ≠ wl:=fun z=>by
     subst z;rw [w1] at hy3;cases hy3
    refine ⟨⟨_,rfl⟩,nt3.upd,fun b u e=>?_,?_,hwl0,⟨as ++ [y],by rw [db,List.map_append];rfl,?_,fun j a d h1 h2=>?_⟩,fun j q' d hj h1 h2=>?_⟩
    ·rw [qb (wb e hwl0)];exact hsm3 _ _ e
    ·rw [qb hpw];exact s3 _ _ (ze hpc' hqi (by intro z;cases z)) hpc'
    ·rw [List.length_append,w2,htl,List.length_take];show i + 1=_;omega
    ·by_cases hj:j < as.length
     ·rw [List.getElem?_append_left hj] at h1;have h2':(ds.take i)[j]? = some d:=by
       rw [List.getElem?_take_of_lt (by omega)];rw [List.getElem?_take_of_lt (by omega)] at h2;exact h2
      obtain ⟨hk,dx',e⟩:=al j a d h1 h2';have haq:a ≠ q:=Uu ⟨hk,dx',e⟩ Rq;have haw:a ≠ wl:=ze e w1 (by intro z;cases z);exact ⟨hk,dx',by rw [qb haw];exact s3 _ _ haq e⟩
     ·rw [List.getElem?_append_right (by omega)] at h1;have hj0:j - as.length=0:=by
       cases hh:j - as.length with
       | zero=>rfl
       | succ m=>rw [hh] at h1;simp at h1
      rw [hj0] at h1;have e3:y=a:=by simpa using h1
      subst e3;have e4:j=i:=by omega
      subst e4;rw [List.getElem?_take_of_lt (by omega),hd] at h2;cases h2;exact ⟨w3.1,w3.2.imp fun dx' e=>by rw [qb hyw];exact e⟩
    ·obtain ⟨Rj,hqj⟩:=Rs j q' d (by omega) h1 h2;have R3:=Rj.sameX s3 (BF Rj Rq (by omega)) Rq.ins;refine ⟨?_,hqj⟩;obtain ⟨hz,dx',ta,e1,e2⟩:=R3;refine ⟨hz,dx',ta,by rw [qb (ze e1 hw3 (by intro z;cases z))];exact e1,?_⟩;rw [qb (fun z=>by
      subst z;rw [hw3] at e2;have e5:=Option.some.inj e2;injection e5 with e6;cases as with
      | nil=>exact absurd (congrArg List.length e6) (by show ¬ (0:Nat)=7;decide)
      | cons a r=>injection e6 with e7 _;cases e7)]
     exact e2
 ·rintro σ H' zzq;refine zP fun zzM zzh=>?_
  obtain ⟨⟨x,rfl⟩,nt',sm',hpc',hwl0,W,Rs⟩:=zzq;subst zzh;rw [List.length_map,hqrl,List.take_length] at W;obtain ⟨as,w1,w2,al⟩:=id W;walk_at "RD";refine Wc false (fun Q hQ=>?_) (fun hc=>nomatch hc) (fun _=>?_)
  ·walk_at "RD";refine ⟨true,.inl ⟨_,SqL.of w1,?_⟩,hQ⟩;cases as with
   | nil=>simp at w2;omega
   | cons a r=>rfl
  ·walk_at "RD";intro c dx hc hdx hne;have sc:Nb H' (upd (upd H' dx (.own c)) c (.ins t.Ub dx [])):=((Nb.refl H').updN hdx).updN hc;refine ⟨c,dx,n,wl,ds,rfl,db,W.same sc,hC.nd,hln.2,(nt'.upd).upd,fun H5 s5 nt5 C5=>⟨rfl,?_⟩⟩;exact qq c H5 (me (sm'.trans sc) s5 (sm'.free hc)) nt5 C5
end
section
variable {P:Program} {w:World} {K:PySem.W.Frag} {mg:Str→Option Value} {base:Heap} {t:Adr}
theorem Do (T:Txt w K mg t):Lb P w K mg base CX0 1 t.Oc t.ed ["self"] (om t):=by
 refine T.lj.ok rn (fun vs H Q E h=>?_) (fun _ _ _ s H vs Q E hr h=>?_)
 ·obtain ⟨c,n,ds,rfl,_⟩:=h;rfl
 obtain ⟨c,n,ds,rfl,⟨⟨hnd,hdl⟩,dx,wl,nd,e1,⟨as,w1,w2,al⟩,e3⟩,q⟩:=h;refine ⟨_,(pb (Jb (Jf rfl (Sd (Bc (pv 0) rfl)) (Qc (sc:=rb zg) rfl (by decide +kernel)) (N:=["way"]) (sel:=[none]) (ud (M:=["self"]) (by decide +kernel)) (Blk.of (fun _ _ _ _=>(xb (i:=0) (Bg (N:=["way"]) (by decide +kernel) rfl) rfl (Or.inl rfl))) (fun _ _ _ _=>⟨_,uf,by walk_at "B"⟩) (fun _ _ _ _=>⟨_,(Bc (pv 0) rfl),by walk_at "B"⟩))))),?_⟩;walk_at "RD";refine ⟨_,iG T e1,_,rfl,⟨_,SqL.of w1⟩,?_⟩;refine vd.list_zs (xs:=as.map V.ref) (zs:=Hb (ds.map (·.name))) (SqL.of w1) (by rw [List.length_map,w2];exact Nat.le_trans hdl (by decide)) (by rw [Qe,List.length_map,List.length_map,w2]) (fun i v z N hv hz' hN=>?_) (fun p hp=>q p hp);obtain ⟨a,ha,rfl⟩:=Xb hv;obtain ⟨x,hx,rfl⟩:=Xb hz';obtain ⟨d,hd,rfl⟩:=Xb hx;walk_at "RD";exact ⟨Sub.name,_,(al i a d ha hd).f_name T,hN⟩
end
end My
namespace My
open PySem L2
noncomputable def Zn (n s f p:Int):Bool:=decide (0 < (p - s) % n) && decide ((p - s) % n < (f - s) % n)
noncomputable def iK (n s f s2 f2:Int):Bool:=decide (f=f2) || (if (s2=s∨s2=f)∨(f2=s∨f2=f) then false else (Zn n s f s2 != Zn n s f f2))
noncomputable abbrev mt (n:Int) (d e:WD):Bool:=iK n d.start d.fin e.start e.fin
noncomputable def uG (t:Adr):Sp:=fun vs H Q _=>∃ a d n p,vs=[.int n,.ref a,.int p]∧He t H a d∧0 < n∧Q (.bl (Zn n d.start d.fin p)) H
noncomputable def KJ (n:Int) (d e:WD):Bool:=if (e.start=d.start∨e.start=d.fin)∨(e.fin=d.start∨e.fin=d.fin) then false else (Zn n d.start d.fin e.start != Zn n d.start d.fin e.fin)
noncomputable def VC (t:Adr):Sp:=fun vs H Q _=>∃ a b d e n,vs=[.int n,.ref a,.ref b]∧He t H a d∧He t H b e∧0 < n∧NoT H∧Q (.bl (KJ n d e)) H
noncomputable def PD (t:Adr):Sp:=fun vs H Q _=>∃ a b d e n,vs=[.int n,.ref a,.ref b]∧He t H a d∧He t H b e∧0 < n∧∀ H',Nb H H'→Q (.bl (KJ n d e)) H'
noncomputable def EB (t:Adr):Sp:=fun vs H Q _=>∃ c n ds,∃ i j:Nat,∃ d e,vs=[.ref c,.str d.name,.str e.name]∧Lc t H c n ds∧0 < n∧ds[i]? = some d∧ds[j]? = some e∧NoT H∧Q (.bl (mt n d e)) H
section
variable {P:Program} {w:World} {K:PySem.W.Frag} {mg:Str→Option Value} {base:Heap} {t:Adr}
theorem sK (T:Txt w K mg t):Lb P w K mg base CX0 1 t.Ao t.Ko q38 (uG t):=by
 refine T.Ho.ok wv (fun vs H Q E h=>?_) (fun _ _ _ s H vs Q E hr h=>?_)
 ·obtain ⟨a,d,n,p,rfl,_⟩:=h;rfl
 obtain ⟨a,d,n,p,rfl,W,hn,q⟩:=h;refine ⟨_,(cb (Bb (i:=3) wv.nd rfl (Or.inl rfl) (Gb Le (Gb Oe (pv 2) (Bc (pv 1) rfl)) (pv 0)))
   (pb (Jb (LF (Ff cn ub (pv 3) (qc _)) (wy (Ff cn (pv 3) (Gb Le (Gb Oe (Bc (pv 1) rfl) (Bc (pv 1) rfl)) (pv 0)) (qc _))))))),?_⟩
 walk_at "RD";refine ⟨_,W.f_start T,_,rfl,hn,?_⟩;unfold Zn at q;by_cases c:0 < (p - d.start) % n
 ·rw [if_pos (decide_eq_true c)];rw [decide_eq_true c,Bool.true_and] at q;exact ⟨_,W.f_end T,_,W.f_start T,_,rfl,_,rfl,hn,q⟩
 ·rw [if_neg (by simpa using c)];rw [decide_eq_false c,Bool.false_and] at q;exact q
theorem TL (x a b:Int):inV (.int x) [.int a,.int b]=decide (x=a∨x=b):=by
 unfold inV;simp only [List.any_cons,List.any_nil,eqV,Bool.or_false];rw [Bool.eq_iff_iff];simp only [Bool.or_eq_true,beq_iff_eq,decide_eq_true_eq];omega
theorem JG (T:Txt w K mg t):Lb P w K mg base CX0 2 t.Kh t.Gh q27 (VC t):=by
 refine Lb.forget (sp:=PD t) ?_ fun vs H Q E h=>?_
 ·have g22:Lb P w K mg base CX0 1 t.Ao t.Ko q38 (uG t):=sK T;refine T.wj.ok Kt (fun vs H Q E h=>?_) (fun _ _ _ s H vs Q E hr h=>?_)
  ·obtain ⟨a,b,d,e,n,rfl,_⟩:=h;rfl
  obtain ⟨a,b,d,e,n,rfl,Wa,Wb,hn,q⟩:=h;refine ⟨_,(cb (Ye (PW.pt (Lw (bc Zo (Bc (pv 2) rfl) (se (ab (Bc (pv 1) rfl) (ab (Bc (pv 1) rfl) fb))) (by with_unfolding_all rfl)) (Ro (bc Zo (Bc (pv 2) rfl) (se (ab (Bc (pv 1) rfl) (ab (Bc (pv 1) rfl) fb))) (by with_unfolding_all rfl))))) (pb (Jb Yo)) Ec)
   (pb (Jb (Ff BA (yb g22 hr rfl T.xy T.Ho.kp T.Qy .nil Cb (ab (pv 0) (ab (pv 1) (ab (Bc (pv 2) rfl) fb)))) (yb g22 hr rfl T.xy T.Ho.kp T.Qy .nil Cb (ab (pv 0) (ab (pv 1) (ab (Bc (pv 2) rfl) fb)))) (qc _))))),?_⟩
  walk_at "RD";refine zi (fun b H'=>Nb H H'∧b=decide ((e.start=d.start∨e.start=d.fin)∨(e.fin=d.start∨e.fin=d.fin))) (fun Q hQ=>?_) (fun H' ⟨sm,hb⟩=>?_) (fun H' ⟨sm,hb⟩=>?_)
  ·walk_at "RD";refine ⟨_,Wb.f_start T,_,Wa.f_start T,_,Wa.f_end T,by decide,fun p hp=>⟨_,.inl (SqL.of db),rfl,rfl,?_⟩⟩;have s1:Nb H (upd H p (.lst [.int d.start,.int d.fin])):=lb hp;rw [TL];by_cases c1:e.start=d.start∨e.start=d.fin
   ·rw [if_pos (decide_eq_true c1)];exact hQ _ _ ⟨s1,(decide_eq_true (.inl c1)).symm⟩
   ·rw [if_neg (by simpa using c1)];refine ⟨_,(Wb.same s1).f_end T,_,(Wa.same s1).f_start T,_,(Wa.same s1).f_end T,by decide,fun p2 hp2=>⟨_,.inl (SqL.of db),rfl,rfl,?_⟩⟩;rw [TL];refine hQ _ _ ⟨s1.trans (lb hp2),?_⟩;rw [Bool.eq_iff_iff,decide_eq_true_eq,decide_eq_true_eq];exact ⟨.inr,fun z=>z.resolve_left c1⟩
  ·walk_at "RD";have hb':=of_decide_eq_true hb.symm;have:=q H' sm;unfold KJ at this;rw [if_pos hb'] at this;exact this
  ·walk_at "RD";have hb':=of_decide_eq_false hb.symm;refine ⟨_,(Wb.same sm).f_start T,⟨a,d,n,_,rfl,Wa.same sm,hn,?_⟩⟩;refine ⟨_,(Wb.same sm).f_end T,⟨a,d,n,_,rfl,Wa.same sm,hn,?_⟩⟩;refine ⟨rfl,?_⟩;have:=q H' sm;unfold KJ at this;rw [if_neg hb'] at this;rw [show (!decide (V.bl (Zn n d.start d.fin e.start)=V.bl (Zn n d.start d.fin e.fin)))=(Zn n d.start d.fin e.start != Zn n d.start d.fin e.fin) by
    cases Zn n d.start d.fin e.start <;> cases Zn n d.start d.fin e.fin <;> rfl]
   exact this
 ·obtain ⟨a,b,d,e,n,h1,h2,h3,h4,nt,q⟩:=h;exact ⟨nt,a,b,d,e,n,h1,h2,h3,h4,fun H' sm=>⟨sm,q⟩⟩
theorem ML (n:Int) (d e:WD):mt n d e=(decide (d.fin=e.fin) || KJ n d e):=rfl
theorem iI (T:Txt w K mg t):Lb P w K mg base CX0 3 t.Gy t.Fy q11 (EB t):=by
 have g8:Lb P w K mg base CX0 2 t.Tb t.gc q5 (ig t):=nh T;have g42:Lb P w K mg base CX0 2 t.Kh t.Gh q27 (VC t):=JG T;refine T.jB.ok px (fun vs H Q E h=>?_) (fun _ _ _ s H vs Q E hr h=>?_)
 ·obtain ⟨c,n,ds,i,j,d,e,rfl,_⟩:=h;rfl
 obtain ⟨c,n,ds,i,j,d,e,rfl,C,hn,hd,he,nt,q⟩:=h;obtain ⟨_,dx,wl,nd,e1,e2,e3⟩:=id C;refine ⟨_,(cb (Bb (i:=3) px.nd rfl (Or.inl rfl) (Xc (pv 0) T.Pb T.uc g8 hr T.vc .nil Cb (ab (pv 1) fb)))
   (cb (Bb (i:=4) px.nd rfl (Or.inl rfl) (Xc (pv 0) T.Pb T.uc g8 hr T.vc .nil Cb (ab (pv 2) fb)))
   (pb (Jb (RI (Ff mj (Bc (pv 3) rfl) (Bc (pv 4) rfl) (qc _)) (wy (yb g42 hr rfl T.Ou T.wj.kp T.aw .nil Cb (ab (Bc (pv 0) rfl) (ab (pv 3) (ab (pv 4) fb)))))))))),?_⟩
 rw [ML] at q;walk_at "RD";refine ⟨_,_,e1,mw _ _ _ (by decide +kernel),⟨c,n,ds,i,d,rfl,C,hd,fun a Wa=>?_⟩⟩;walk_at "RD";refine ⟨_,_,e1,mw _ _ _ (by decide +kernel),⟨c,n,ds,j,e,rfl,C,he,fun b Wb=>?_⟩⟩;walk_at "RD";refine ⟨_,Wa.f_end T,_,Wb.f_end T,rfl,?_⟩;walk_at "RD";by_cases c1:d.fin=e.fin
 ·rw [if_pos (decide_eq_true c1)];rw [decide_eq_true c1,Bool.true_or] at q;exact q
 ·rw [if_neg (by simpa using c1)];rw [decide_eq_false c1,Bool.false_or] at q;exact ⟨_,JD T e1,⟨a,b,d,e,n,rfl,Wa,Wb,hn,nt,q⟩⟩
end
noncomputable def QF (t:Adr):Sp:=fun vs H Q _=>∃ c n ds,∃ i j:Nat,∃ d e,vs=[.ref c,.str d.name,.str e.name]∧Lc t H c n ds∧ds[i]? = some d∧ds[j]? = some e∧Q (.int (if d.off - e.near > 0 then d.off - e.near else 0)) H
section
variable {P:Program} {w:World} {K:PySem.W.Frag} {mg:Str→Option Value} {base:Heap} {t:Adr}
theorem bK (T:Txt w K mg t):Lb P w K mg base CX0 3 t.YD t.qF q11 (QF t):=by
 have g8:Lb P w K mg base CX0 2 t.Tb t.gc q5 (ig t):=nh T;refine T.tI.ok PB (fun vs H Q E h=>?_) (fun _ _ _ s H vs Q E hr h=>?_)
 ·obtain ⟨c,n,ds,i,j,d,e,rfl,_⟩:=h;rfl
 obtain ⟨c,n,ds,i,j,d,e,rfl,C,hd,he,q⟩:=h;obtain ⟨_,dx,wl,nd,e1,e2,e3⟩:=id C;refine ⟨_,(cb (Bb (i:=3) PB.nd rfl (Or.inl rfl) (Xc (pv 0) T.Pb T.uc g8 hr T.vc .nil Cb (ab (pv 1) fb)))
   (cb (Bb (i:=4) PB.nd rfl (Or.inl rfl) (Xc (pv 0) T.Pb T.uc g8 hr T.vc .nil Cb (ab (pv 2) fb)))
   (pb (Jb (Vb (vC rfl) rfl T.sL Sz (ab ub (ab (Gb Oe (Bc (pv 3) rfl) (Bc (pv 4) rfl)) fb))))))),?_⟩
 walk_at "RD";refine ⟨_,_,e1,mw _ _ _ (by decide +kernel),⟨c,n,ds,i,d,rfl,C,hd,fun a Wa=>?_⟩⟩;walk_at "RD";refine ⟨_,_,e1,mw _ _ _ (by decide +kernel),⟨c,n,ds,j,e,rfl,C,he,fun b Wb=>?_⟩⟩;walk_at "RD";refine ⟨_,Wa.f_off T,_,Wb.f_near T,?_⟩;walk_at "RD";exact q
end
end My
namespace My
open PySem L2
structure SD where
 name:Str
 b:Int
 n:Int
noncomputable def sdO (d:SD):HO:=.tup [.str d.name,.int d.b,.int d.n]
noncomputable def prO (p:Int × Int):HO:=.tup [.int p.1,.int p.2]
noncomputable def ofN (x:Str) (sp:List SD):List (Int × Int):=(sp.filter fun d=>decide (d.name=x)).map fun d=>(d.b,d.n)
noncomputable def LQ (H:Hp) (qs:List Addr) (os:List HO):Prop:=qs.length=os.length∧∀ (i:Nat) (q:Addr) (o:HO),qs[i]? = some q→os[i]? = some o→H q=some o
noncomputable def LO (H:Hp) (p:Addr) (os:List HO):Prop:=∃ qs:List Addr,H p=some (.lst (qs.map V.ref))∧LQ H qs os
theorem LQ.same {H H':Hp} {qs:List Addr} {os:List HO} (h:LQ H qs os) (s:Nb H H'):LQ H' qs os:=⟨h.1,fun i q o h1 h2=>s _ _ (h.2 i q o h1 h2)⟩
theorem LO.same {H H':Hp} {p:Addr} {os:List HO} (h:LO H p os) (s:Nb H H'):LO H' p os:=by
 obtain ⟨qs,e,q⟩:=h;exact ⟨qs,s _ _ e,q.same s⟩
theorem LQ.nil (H:Hp):LQ H [] []:=⟨rfl,fun i q o h _=>by simp at h⟩
theorem LQ.app {H:Hp} {qs qs':List Addr} {os os':List HO} (h:LQ H qs os) (h':LQ H qs' os'):LQ H (qs ++ qs') (os ++ os'):=by
 refine ⟨by rw [List.length_append,List.length_append,h.1,h'.1],fun i q r h1 h2=>?_⟩;rw [List.getElem?_append] at h1 h2;rw [h.1] at h1;by_cases c:i < os.length
 ·rw [if_pos c] at h1 h2;exact h.2 i q r h1 h2
 ·rw [if_neg c] at h1 h2;exact h'.2 _ q r h1 h2
theorem LQ.one {H:Hp} {p:Addr} {o:HO} (e:H p=some o):LQ H [p] [o]:=⟨rfl,fun i q r' h1 h2=>by
 match i,h1,h2 with
 | 0,h1,h2=>cases h1;cases h2;exact e
 | i + 1,h1,_=>simp at h1⟩
theorem LQ.at {H:Hp} {qs:List Addr} {os:List HO} (h:LQ H qs os) {i:Nat} {q:Addr} (hq:qs[i]? = some q):∃ o,os[i]? = some o∧H q=some o:=by
 have hi:i < os.length:=by rw [← h.1];exact (List.getElem?_eq_some_iff.mp hq).1
 exact ⟨_,List.getElem?_eq_getElem hi,h.2 i q _ hq (List.getElem?_eq_getElem hi)⟩
theorem eE (x:Str) (sp:List SD) (d:SD):ofN x (sp ++ [d])=ofN x sp ++ if d.name=x then [(d.b,d.n)] else []:=by
 unfold ofN;rw [List.filter_append,List.map_append];congr 1;by_cases c:d.name=x
 ·rw [if_pos c,List.filter_cons_of_pos (by simpa using c)];rfl
 ·rw [if_neg c,List.filter_cons_of_neg (by simpa using c)];rfl
theorem kB (x:Str) (sp:List SD):(ofN x sp).length ≤ sp.length:=by
 unfold ofN;rw [List.length_map];exact List.length_filter_le _ _
theorem Ve {α:Type} {xs:List α} {i:Nat} {x:α} (h:xs[i]? = some x):xs.take (i + 1)=xs.take i ++ [x]:=by
 rw [List.take_add_one,h];rfl
noncomputable def gG {α:Type} (z:Int) (v:α) (l:List α) (i:Int):List α:=l.set (i % z).toNat v
noncomputable def Fw {α:Type} (z:Int) (v:α) (b:Int):Nat→List α→List α
 | 0,l=>l
 | k + 1,l=>gG z v (Fw z v b k l) (b + k)
noncomputable def Ft {α:Type} (z:Int) (v:α) (b:Int):Nat→List α→List α
 | 0,l=>l
 | k + 1,l=>gG z v (Ft z v b k l) (b - 1 - k)
theorem qy {α:Type} (z:Int) (v:α) (l:List α) (i:Int):(gG z v l i).length=l.length:=by unfold gG;rw [List.length_set]
theorem We {α:Type} (z:Int) (v:α) (b:Int) (k:Nat) (l:List α):(Fw z v b k l).length=l.length:=by
 induction k with
 | zero=>rfl
 | succ k ih=>unfold Fw;rw [qy,ih]
theorem vg {α:Type} (z:Int) (v:α) (b:Int) (k:Nat) (l:List α):(Ft z v b k l).length=l.length:=by
 induction k with
 | zero=>rfl
 | succ k ih=>unfold Ft;rw [qy,ih]
noncomputable def fmF (z:Nat) (ps:List (Int × Int)):List Bool:=ps.foldl (fun l p=>Fw z true p.1 p.2.toNat l) (List.replicate z false)
noncomputable def Ur (z rd fd:Nat) (l:List Str) (p:Int × Int):List Str:=Fw z (Str.ofString "fade") (p.1 + p.2) fd (Fw z (Str.ofString "free") p.1 p.2.toNat (Ft z (Str.ofString "ready") p.1 rd l))
noncomputable def Rh (z rd fd:Nat) (ps:List (Int × Int)):List Str:=ps.foldl (Ur z rd fd) (List.replicate z (Str.ofString "stop"))
theorem VH {z:Nat} {ps:List (Int × Int)} {i:Nat} {p:Int × Int} (h:ps[i]? = some p):fmF z (ps.take (i + 1))=Fw z true p.1 p.2.toNat (fmF z (ps.take i)):=by
 unfold fmF;rw [Ve h,List.foldl_append];rfl
theorem DB {z rd fd:Nat} {ps:List (Int × Int)} {i:Nat} {p:Int × Int} (h:ps[i]? = some p):Rh z rd fd (ps.take (i + 1))=Ur z rd fd (Rh z rd fd (ps.take i)) p:=by
 unfold Rh;rw [Ve h,List.foldl_append];rfl
theorem Qj (z:Nat) (ps:List (Int × Int)):(fmF z ps).length=z:=by
 unfold fmF
 suffices h:∀ l:List Bool,l.length=z→(ps.foldl (fun l p=>Fw z true p.1 p.2.toNat l) l).length=z from h _ (List.length_replicate ..)
 induction ps with
 | nil=>exact fun l h=>h
 | cons p ps ih=>exact fun l h=>ih _ (by rw [We];exact h)
theorem Zg (z rd fd:Nat) (ps:List (Int × Int)):(Rh z rd fd ps).length=z:=by
 unfold Rh
 suffices h:∀ l:List Str,l.length=z→(ps.foldl (Ur z rd fd) l).length=z from h _ (List.length_replicate ..)
 induction ps with
 | nil=>exact fun l h=>h
 | cons p ps ih=>exact fun l h=>ih _ (by unfold Ur;rw [We,We,vg];exact h)
noncomputable def AH (z:Int) (sp:List SD):Prop:=sp.length ≤ 100∧∀ d ∈ sp,0 ≤ d.b∧d.b < 1000∧0 ≤ d.n∧d.n < 1000
theorem qx {x:Str} {sp:List SD} {p:Int × Int} (h:p ∈ ofN x sp):∃ d ∈ sp,d.name=x∧p=(d.b,d.n):=by
 unfold ofN at h;obtain ⟨d,hd,rfl⟩:=List.mem_map.mp h;have:=List.mem_filter.mp hd;exact ⟨d,this.1,by simpa using this.2,rfl⟩
theorem lJ {m:Nat} (h:0 < m) (i:Int):ixN m (i % (m:Int))=some (i % (m:Int)).toNat:=by
 have h1:=Int.emod_nonneg i (show (m:Int) ≠ 0 by omega);have h2:=Int.emod_lt_of_pos i (show 0 < (m:Int) by omega);unfold ixN;rw [if_pos h1,if_pos h2]
theorem Ox {α β:Type} (f:α→β) {l:List α} {z:Nat} (h:l.length=z) (hz:0 < z) (i:Int):ixN (l.map f).length (i % (z:Int))=some (i % (z:Int)).toNat:=by
 rw [List.length_map,h];exact lJ hz i
theorem Cm (d:WD):0 ≤ Dc d∧Dc d ≤ 2:=by
 unfold Dc;split <;> omega
theorem Jo {d:WD} (h:0 ≤ d.off∧d.off ≤ 1000):0 ≤ Od d∧Od d ≤ 1000:=by
 unfold Od;split <;> omega
theorem WK {d:WD} {m:Str} (h:Sr.contains m=false):(eo d).lookup m=none:=xm Sr (Fs _) h
noncomputable def Hc (l:List Bool):List V:=l.map V.bl
theorem Io {α β:Type} (f:α→β) (z:Int) (v:α) (l:List α) (i:Int):(l.map f).set (i % z).toNat (f v)=(gG z v l i).map f:=by
 unfold gG;rw [List.map_set]
noncomputable def Xm:Sp:=fun vs H Q _=>∃ p x sp,vs=[.ref p,.str x]∧LO H p (List.map sdO sp)∧sp.length ≤ 100∧∀ r H',Nb H H'→(NoT H→NoT H')→LO H' r ((ofN x sp).map prO)→Q (.ref r) H'
noncomputable def MH:Sp:=fun vs H Q _=>∃ (z:Nat) (p:Addr) (x:Str) (sp:List SD),vs=[.int z,.ref p,.str x]∧(0 < z∧z ≤ 1000)∧LO H p (List.map sdO sp)∧AH z sp∧∀ r H',Nb H H'→(NoT H→NoT H')→H r=none→H' r=some (.lst (Hc (fmF z (ofN x sp))))→Q (.ref r) H'
noncomputable def iD (t:Adr):Sp:=fun vs H Q _=>∃ (a:Addr) (d:WD) (z:Nat) (p:Addr) (sp:List SD),vs=[.ref a,.int z,.ref p]∧(0 < z∧z ≤ 1000)∧He t H a d∧LO H p (List.map sdO sp)∧AH z sp∧(0 ≤ d.off∧d.off ≤ 1000)∧∀ r H',Nb H H'→(NoT H→NoT H')→H r=none→H' r=some (.lst (Hb (Rh z (Dc d).toNat (Od d).toNat (ofN d.name sp))))→Q (.ref r) H'
noncomputable def Re (m:List Bool):Nat→Int
 | 0=>0
 | k + 1=>if m[(2 * m.length - 1 - k) % m.length]? = some true then 0 else Re m k + 1
noncomputable def Bm (m:List Bool):List Int:=(List.range m.length).map fun t=>Re m (2 * m.length - t)
noncomputable def Os (m:List Bool) (k:Nat):List Int:=(List.range k).map fun j=>Re m (m.length + j + 1)
theorem fz (m:List Bool):(Os m m.length).reverse=Bm m:=by
 unfold Os Bm;refine List.ext_getElem (by simp) (fun i h1 h2=>?_);simp at h1;simp;congr 1;omega
noncomputable def Ms (m:List Bool):List Int:=(Bm m.reverse).reverse
noncomputable def Qt:Sp:=fun vs H Q _=>∃ (p:Addr) (m:List Bool),vs=[.ref p]∧H p=some (.lst (Hc m))∧(0 < m.length∧m.length ≤ 1000)∧∀ r H',Nb H H'→(NoT H→NoT H')→H r=none→H' r=some (.lst ((Bm m).map V.int))→Q (.ref r) H'
noncomputable def Qx:Sp:=fun vs H Q _=>∃ (p:Addr) (m:List Bool),vs=[.ref p]∧H p=some (.lst (Hc m))∧(0 < m.length∧m.length ≤ 1000)∧∀ r H',Nb H H'→(NoT H→NoT H')→H r=none→H' r=some (.lst ((Ms m).map V.int))→Q (.ref r) H'
section
variable {P:Program} {w:World} {K:PySem.W.Frag} {mg:Str→Option Value} {base:Heap} {t:Adr}
theorem Bq (T:Txt w K mg t):Lb P w K mg base CX0 1 t.cf t.df q10 Xm:=by
 refine T.Gf.ok ox (fun vs H Q E h=>?_) (fun _ _ _ s H vs Q E hr h=>?_)
 ·obtain ⟨p,x,sp,rfl,_⟩:=h;rfl
 obtain ⟨p,x,sp,rfl,⟨qs,l1,lq⟩,hl,q⟩:=h;refine ⟨_,(pb (Jb (Jf rfl (Sd (pv 0)) (Qc (sc:=rb Ym) rfl (by decide +kernel)) (N:=q52) (sel:=[none,none,none,some 1]) (ud (M:=q10) (by decide +kernel)) (Blk.of (fun _ _ _ _=>(Vd (K:=K) (n:=3) rfl rfl (Eb (xb (i:=0) (Bg (N:=q52) (by decide +kernel) rfl) rfl (Or.inl rfl) (.inr rfl)) (Eb (xb (i:=1) (Bg (N:=q52) (by decide +kernel) rfl) rfl (Or.inl rfl) (.inr rfl)) (Eb (xb (i:=2) (Bg (N:=q52) (by decide +kernel) rfl) rfl (Or.inl rfl) (.inr rfl)) Ud))))) (fun _ _ _ _=>⟨_,(zt (bc mj (pv 0) (pv 3) (qc _))),by walk_at "B"⟩) (fun _ _ _ _=>⟨_,(bj (ab (pv 1) (ab (pv 2) fb))),by walk_at "B"⟩))))),?_⟩;walk_at "RD";have hql:qs.length=sp.length:=by rw [lq.1,List.length_map]
 refine ⟨⟨_,SqL.of l1⟩,?_⟩;refine vd.list (xs:=qs.map V.ref) (fun i ys H'=>∃ os:List Addr,ys=os.map V.ref∧LQ H' os ((ofN x (sp.take i)).map prO)∧Nb H H'∧(NoT H→NoT H')) (Nat.le_trans (show (qs.map V.ref).length ≤ 100 by rw [List.length_map];omega) (by decide)) ⟨[],rfl,LQ.nil _,Nb.refl _,id⟩ ?_ ?_ ?_
 ·rintro i ys H' hi zzq;refine zP fun zzM zzh=>?_
  obtain ⟨os,rfl,r,sm,_⟩:=zzq;subst zzh;refine ⟨(SqL.of l1).same sm,?_⟩;rw [List.length_map,r.1,List.length_map];exact Nat.le_trans (kB _ _) (by rw [List.length_take];omega)
 ·rintro i v ys H' hv ⟨os,rfl,r,sm,nt⟩ N hN;obtain ⟨qi,hqi,rfl⟩:=Xb hv;obtain ⟨o,ho,e⟩:=lq.at hqi;obtain ⟨d,hd,rfl⟩:=Xb ho;have e':=sm _ _ e;walk_at "RD";refine ⟨_,SqT.of e',rfl,_,_,rfl,_,_,rfl,_,_,rfl,rfl,Sub.name3,rfl,?_⟩;dsimp only at hN;rw [Ve hd,eE,List.map_append] at hN;by_cases c:d.name=x
  ·rw [if_pos c] at hN;rw [if_pos (by rw [c];exact decide_eq_true rfl)];refine ⟨by decide,fun p1 hp1=>hN _ _ ⟨os ++ [p1],by rw [List.map_append];rfl,(r.same (lb hp1)).app (LQ.one db),sm.trans (lb hp1),fun n=>(nt n).upd⟩⟩
  ·rw [if_neg c] at hN;rw [if_neg (by rw [decide_eq_true_eq];intro z;exact c (V.str.inj z))];exact hN _ _ ⟨os,rfl,by rw [List.map_nil,List.append_nil];exact r,sm,nt⟩
 ·rintro ys H' ⟨os,rfl,r,sm,nt⟩ p1 hp1;rw [List.take_of_length_le (by rw [List.length_map];omega)] at r;exact q _ _ (sm.trans (lb hp1)) (fun n=>(nt n).upd) ⟨os,db,r.same (lb hp1)⟩
theorem DK (T:Txt w K mg t):Lb P w K mg base CX0 2 t.rg t.wg q28 MH:=by
 have g10:Lb P w K mg base CX0 1 t.cf t.df q10 Xm:=Bq T;refine T.Dh.ok tf (fun vs H Q E h=>?_) (fun _ _ _ s H vs Q E hr h=>?_)
 ·obtain ⟨z,p,x,sp,rfl,_⟩:=h;rfl
 obtain ⟨z,p,x,sp,rfl,hz,L,hs,q⟩:=h;refine ⟨_,(cb (oi (i:=3) tf.nd rfl (Or.inl rfl) rfl (Zc rfl T.Wd (ab (pv 0) fb)) (Qc (sc:=rb Tj) rfl (by decide +kernel)) (N:=["turn"]) (sel:=[none]) (ud (M:=["size","spans","name","marks","begin","turns","step"]) (by decide +kernel)) (Blk.of (fun _ _ _ _=>(xb (i:=0) (Bg (N:=["turn"]) (by decide +kernel) rfl) rfl (Or.inl rfl))) (fun _ _ _ _=>⟨_,uf,by walk_at "B"⟩) (fun _ _ _ _=>⟨_,Yo,by walk_at "B"⟩)) rfl)
   (cb (Dd PassesOwn.never rfl (Sd (yb g10 hr rfl T.ii T.Gf.kp T.ei .nil Cb (ab (pv 1) (ab (pv 2) fb)))) (Vd (K:=K) (n:=2) rfl rfl (Eb (xb (i:=4) tf.nd rfl (Or.inl rfl) (.inl rfl)) (Eb (xb (i:=5) tf.nd rfl (Or.inl rfl) (.inl rfl)) Ud))) (pb (Dd PassesOwn.never rfl (Zc rfl T.Wd (ab (pv 5) fb)) (xb (i:=6) tf.nd rfl (Or.inl rfl)) (pb (mm Yo (jy (pv 3) (Gb Le (Gb zc (pv 4) (pv 6)) (pv 0)) Go))))))
   (pb (Jb (pv 3))))),?_⟩
 walk_at "RD";obtain ⟨hz0,hz1⟩:=hz;obtain ⟨hs1,hs2⟩:=hs;refine ⟨by omega,by omega,?_⟩;refine vd.range_map (fun _=>V.bl false) (Nat.le_trans (show (z:Int).toNat ≤ 1000 by omega) (by decide)) (fun i N hi hN=>?_) (fun mk hmk=>?_)
 ·walk_at "RD";exact ⟨Sub.name,hN⟩
 rw [show (List.range (z:Int).toNat).map (fun _=>V.bl false)=Hc (fmF z []) by
  unfold Hc fmF;rw [List.foldl_nil,List.map_replicate];exact List.ext_getElem (by simp) (by simp)]
 refine ⟨p,x,sp,rfl,L.same (lb hmk),hs1,fun r H1 s1 nt1 L1=>⟨r,rfl,?_⟩⟩;obtain ⟨qs,l1,lq⟩:=L1;refine ⟨⟨_,SqL.of l1⟩,?_⟩;have hmk1:H1 mk=some (.lst (Hc (fmF z []))):=s1 _ _ db;have hrm:r ≠ mk:=fun e=>by
  subst e;rw [l1] at hmk1;injection hmk1 with e1;injection e1 with e2;have e3:=congrArg List.length e2;cases qs with
  | nil=>simp [Hc,Qj] at e3;omega
  | cons a qs=>
   have:(Hc (fmF z []))[0]? = some (V.ref a):=by rw [← e2];rfl
   unfold Hc at this;rw [List.getElem?_map] at this;cases hh:(fmF z [])[0]? with
   | none=>rw [hh] at this;cases this
   | some b=>rw [hh] at this;cases this
 refine Fh.list (xs:=qs.map V.ref) (fun i σ H'=>(∃ a b c,σ=[some (V.int z),some (V.ref p),some (V.str x),some (V.ref mk),a,b,c])∧Vc mk H1 H'∧(NoT H→NoT H')∧H' mk=some (.lst (Hc (fmF z ((ofN x sp).take i))))) ?_ ?_ ?_ ?_
 ·exact ⟨⟨_,_,_,rfl⟩,fun b u _ e=>e,fun n=>nt1 n.upd,hmk1⟩
 ·rintro i σ H' hi zzq;refine zP fun zzM zzh=>?_
  obtain ⟨_,sx,_,_⟩:=zzq;subst zzh;exact SqL.of (sx _ _ hrm l1)
 ·rintro i v σ H' hv zzq;refine zP fun zzM zzh=>?_
  obtain ⟨⟨a,b,c,rfl⟩,sx,nt',hm⟩:=zzq;obtain ⟨qi,hqi,rfl⟩:=Xb hv;obtain ⟨o,ho,e⟩:=lq.at hqi;obtain ⟨d,hd,rfl⟩:=Xb ho;obtain ⟨sd,hsd,hsn,rfl⟩:=qx (List.mem_of_getElem? hd);have hb:=hs2 sd hsd;have e':=sx _ _ (ze e hmk1 (by intro z;cases z)) e;subst zzh;walk_at "RD";refine ⟨_,SqT.of e',rfl,_,_,rfl,_,_,rfl,rfl,_,rfl,(by dsimp only;omega),(by dsimp only;omega),?_⟩;rw [VH hd];refine Fh.range (fun k σ H'=>(∃ c,σ=[some (V.int z),some (V.ref p),some (V.str x),some (V.ref mk),some (V.int sd.b),some (V.int sd.n),c])∧Vc mk H1 H'∧(NoT H→NoT H')∧H' mk=some (.lst (Hc (Fw z true sd.b k (fmF z ((ofN x sp).take i)))))) ?_ ?_ ?_
  ·exact ⟨⟨_,rfl⟩,sx,nt',hm⟩
  ·rintro k σ H2 hk zzq;refine zP fun zzM zzh=>?_
   obtain ⟨⟨c,rfl⟩,sx2,nt2,hm2⟩:=zzq;subst zzh;walk_at "RD";refine ⟨by omega,_,hm2,_,Ox V.bl (by rw [We,Qj]) hz0 _,⟨_,rfl⟩,fun b u hb e=>by rw [qb hb];exact sx2 _ _ hb e,fun n=>(nt2 n).upd,?_⟩;rw [db];unfold Hc;rw [Io V.bl];rfl
  ·rintro σ H2 zzq;refine zP fun zzM zzh=>?_
   obtain ⟨⟨c,rfl⟩,sx2,nt2,hm2⟩:=zzq;subst zzh;exact ⟨⟨_,_,_,rfl⟩,sx2,nt2,hm2⟩
 ·rintro σ H' zzq;refine zP fun zzM zzh=>?_
  obtain ⟨⟨a,b,c,rfl⟩,sx,nt',hm⟩:=zzq;subst zzh;walk_at "RD";rw [List.take_of_length_le (by rw [List.length_map,lq.1,List.length_map];exact Nat.le_refl _)] at hm;exact q _ _ (me ((lb hmk).trans s1) sx hmk) nt' hmk hm
theorem rH (T:Txt w K mg t):Lb P w K mg base CX0 2 t.Ay t.dz q39 (iD t):=by
 have g10:Lb P w K mg base CX0 1 t.cf t.df q10 Xm:=Bq T;have V_Way_ready:fE P w K mg base CX0 1 (isW t) "ready" ["self"] (Yh t):=rC T;have V_Way_fade:fE P w K mg base CX0 1 (isW t) "fade" ["self"] (uk t):=kG T;refine T.cC.ok Ll (fun vs H Q E h=>?_) (fun _ _ _ s H vs Q E hr h=>?_)
 ·obtain ⟨a,d,z,p,sp,rfl,_⟩:=h;rfl
 obtain ⟨a,d,z,p,sp,rfl,⟨hz0,hz1⟩,W,L,⟨hs1,hs2⟩,hoff,q⟩:=h;refine ⟨_,(cb (oi (i:=3) Ll.nd rfl (Or.inl rfl) rfl (Zc rfl T.Wd (ab (pv 1) fb)) (Qc (sc:=rb jC) rfl (by decide +kernel)) (N:=["turn"]) (sel:=[none]) (ud (M:=["way","size","spans","shown","begin","turns","step"]) (by decide +kernel)) (Blk.of (fun _ _ _ _=>(xb (i:=0) (Bg (N:=["turn"]) (by decide +kernel) rfl) rfl (Or.inl rfl))) (fun _ _ _ _=>⟨_,uf,by walk_at "B"⟩) (fun _ _ _ _=>⟨_,Rc,by walk_at "B"⟩)) rfl)
   (cb (Dd PassesOwn.never rfl (Sd (yb g10 hr rfl T.ii T.Gf.kp T.ei .nil Cb (ab (pv 2) (ab (Bc (pv 0) rfl) fb)))) (Vd (K:=K) (n:=2) rfl rfl (Eb (xb (i:=4) Ll.nd rfl (Or.inl rfl) (.inl rfl)) (Eb (xb (i:=5) Ll.nd rfl (Or.inl rfl) (.inl rfl)) Ud))) (cb (Dd PassesOwn.never rfl (Zc rfl T.Wd (ab (Pl (pv 0) V_Way_ready hr Cb) fb)) (xb (i:=6) Ll.nd rfl (Or.inl rfl)) (pb (mm Rc (jy (pv 3) (Gb Le (Gb Oe (Gb Oe (pv 4) ub) (pv 6)) (pv 1)) Go))))
   (cb (Dd PassesOwn.never rfl (Zc rfl T.Wd (ab (pv 5) fb)) (xb (i:=6) Ll.nd rfl (Or.inl rfl)) (pb (mm Rc (jy (pv 3) (Gb Le (Gb zc (pv 4) (pv 6)) (pv 1)) Go))))
   (pb (Dd PassesOwn.never rfl (Zc rfl T.Wd (ab (Pl (pv 0) V_Way_fade hr Cb) fb)) (xb (i:=6) Ll.nd rfl (Or.inl rfl)) (pb (mm Rc (jy (pv 3) (Gb Le (Gb zc (Gb zc (pv 4) (pv 5)) (pv 6)) (pv 1)) Go))))))))
   (pb (Jb (pv 3))))),?_⟩
 walk_at "RD";refine ⟨by omega,by omega,?_⟩;refine vd.range_map (fun _=>V.str (Str.ofString "stop")) (Nat.le_trans (show (z:Int).toNat ≤ 1000 by omega) (by decide)) (fun i N hi hN=>?_) (fun mk hmk=>?_)
 ·walk_at "RD";exact ⟨Sub.name,hN⟩
 rw [show (List.range (z:Int).toNat).map (fun _=>V.str (Str.ofString "stop"))=Hb (Rh z (Dc d).toNat (Od d).toNat []) by
  unfold Hb Rh;rw [List.foldl_nil,List.map_replicate];exact List.ext_getElem (by simp) (by simp)]
 have hrd:=Cm d;have hfd:=Jo hoff;obtain ⟨dk,dx,hway⟩:=id W;have w0:∀ {H':Hp},Vc mk (upd H mk (.lst (Hb (Rh z (Dc d).toNat (Od d).toNat [])))) H'→H' a=some (.ins (t.cw d.k) dx (eo d)):=fun sx=>sx _ _ (wb hway hmk) ((lb hmk) _ _ hway)
 refine ⟨_,(W.same (lb hmk)).f_name T,p,d.name,sp,rfl,L.same (lb hmk),hs1,fun r H1 s1 nt1 L1=>⟨r,rfl,?_⟩⟩;obtain ⟨qs,l1,lq⟩:=L1;refine ⟨⟨_,SqL.of l1⟩,?_⟩;have hmk1:H1 mk=some (.lst (Hb (Rh z (Dc d).toNat (Od d).toNat []))):=s1 _ _ db;have hrm:r ≠ mk:=fun e=>by
  subst e;rw [l1] at hmk1;injection hmk1 with e1;injection e1 with e2;have e3:=congrArg List.length e2;cases qs with
  | nil=>simp [Hb,Zg] at e3;omega
  | cons a qs=>
   have:(Hb (Rh z (Dc d).toNat (Od d).toNat []))[0]? = some (V.ref a):=by rw [← e2];rfl
   unfold Hb at this;rw [List.getElem?_map] at this;cases hh:(Rh z (Dc d).toNat (Od d).toNat [])[0]? with
   | none=>rw [hh] at this;cases this
   | some b=>rw [hh] at this;cases this
 have wx:∀ {H':Hp},Vc mk H1 H'→He t H' a d:=fun sx=>⟨dk,dx,sx _ _ (wb hway hmk) (s1 _ _ ((lb hmk) _ _ hway))⟩
 refine Fh.list (xs:=qs.map V.ref) (fun i σ H'=>(∃ a1 b c,σ=[some (V.ref a),some (V.int z),some (V.ref p),some (V.ref mk),a1,b,c])∧Vc mk H1 H'∧(NoT H→NoT H')∧H' mk=some (.lst (Hb (Rh z (Dc d).toNat (Od d).toNat ((ofN d.name sp).take i))))) ?_ ?_ ?_ ?_
 ·exact ⟨⟨_,_,_,rfl⟩,fun b u _ e=>e,fun n=>nt1 n.upd,hmk1⟩
 ·rintro i σ H' hi zzq;refine zP fun zzM zzh=>?_
  obtain ⟨_,sx,_,_⟩:=zzq;subst zzh;exact SqL.of (sx _ _ hrm l1)
 ·rintro i v σ H' hv zzq;refine zP fun zzM zzh=>?_
  obtain ⟨⟨a1,b,c,rfl⟩,sx,nt',hm⟩:=zzq;obtain ⟨qi,hqi,rfl⟩:=Xb hv;obtain ⟨o,ho,e⟩:=lq.at hqi;obtain ⟨dd,hd,rfl⟩:=Xb ho;obtain ⟨sd,hsd,hsn,rfl⟩:=qx (List.mem_of_getElem? hd);have hb:=hs2 sd hsd;have e':=sx _ _ (ze e hmk1 (by intro z;cases z)) e;have W1:=wx sx;obtain ⟨_,dx1,hw1⟩:=id W1;subst zzh;walk_at "RD";refine ⟨_,SqT.of e',rfl,_,_,rfl,_,_,rfl,rfl,_,_,_,hw1,⟨_,dk,rfl⟩,WK (by decide +kernel),_,d,rfl,W1,rfl,_,rfl,by omega,by omega,?_⟩;rw [DB hd];refine Fh.range (fun k σ H'=>(∃ c,σ=[some (V.ref a),some (V.int z),some (V.ref p),some (V.ref mk),some (V.int sd.b),some (V.int sd.n),c])∧Vc mk H1 H'∧(NoT H→NoT H')∧H' mk=some (.lst (Hb (Ft z (Str.ofString "ready") sd.b k (Rh z (Dc d).toNat (Od d).toNat ((ofN d.name sp).take i)))))) ?_ ?_ ?_
  ·exact ⟨⟨_,rfl⟩,sx,nt',hm⟩
  ·rintro k σ H2 hk zzq;refine zP fun zzM zzh=>?_
   obtain ⟨⟨c,rfl⟩,sx2,nt2,hm2⟩:=zzq;subst zzh;walk_at "RD";refine ⟨by omega,_,hm2,_,Ox V.str (by rw [vg,Zg]) hz0 _,⟨_,rfl⟩,fun b u hb e=>by rw [qb hb];exact sx2 _ _ hb e,fun n=>(nt2 n).upd,?_⟩;rw [db];unfold Hb;rw [Io V.str];rfl
  rintro σ H2 zzq;refine zP fun zzM zzh=>?_
  obtain ⟨⟨c,rfl⟩,sx2,nt2,hm2⟩:=zzq;subst zzh;walk_at "RD";refine ⟨by omega,by omega,?_⟩;refine Fh.range (fun k σ H'=>(∃ c,σ=[some (V.ref a),some (V.int z),some (V.ref p),some (V.ref mk),some (V.int sd.b),some (V.int sd.n),c])∧Vc mk H1 H'∧(NoT H→NoT H')∧H' mk=some (.lst (Hb (Fw z (Str.ofString "free") sd.b k (Ft z (Str.ofString "ready") sd.b (Dc d).toNat (Rh z (Dc d).toNat (Od d).toNat ((ofN d.name sp).take i))))))) ?_ ?_ ?_
  ·exact ⟨⟨_,rfl⟩,sx2,nt2,hm2⟩
  ·rintro k σ H2 hk zzq;refine zP fun zzM zzh=>?_
   obtain ⟨⟨c,rfl⟩,sx2,nt2,hm2⟩:=zzq;subst zzh;walk_at "RD";refine ⟨by omega,_,hm2,_,Ox V.str (by rw [We,vg,Zg]) hz0 _,⟨_,rfl⟩,fun b u hb e=>by rw [qb hb];exact sx2 _ _ hb e,fun n=>(nt2 n).upd,?_⟩;rw [db];unfold Hb;rw [Io V.str];rfl
  rintro σ H3 zzq;refine zP fun zzM zzh=>?_
  obtain ⟨⟨c,rfl⟩,sx3,nt3,hm3⟩:=zzq;have W3:=wx sx3;obtain ⟨_,dx3,hw3⟩:=id W3;subst zzh;walk_at "RD";refine ⟨_,_,_,hw3,⟨_,dk,rfl⟩,WK (by decide +kernel),_,d,rfl,W3,rfl,_,rfl,by omega,by omega,?_⟩;refine Fh.range (fun k σ H'=>(∃ c,σ=[some (V.ref a),some (V.int z),some (V.ref p),some (V.ref mk),some (V.int sd.b),some (V.int sd.n),c])∧Vc mk H1 H'∧(NoT H→NoT H')∧H' mk=some (.lst (Hb (Fw z (Str.ofString "fade") (sd.b + sd.n) k (Fw z (Str.ofString "free") sd.b sd.n.toNat (Ft z (Str.ofString "ready") sd.b (Dc d).toNat (Rh z (Dc d).toNat (Od d).toNat ((ofN d.name sp).take i)))))))) ?_ ?_ ?_
  ·exact ⟨⟨_,rfl⟩,sx3,nt3,hm3⟩
  ·rintro k σ H2 hk zzq;refine zP fun zzM zzh=>?_
   obtain ⟨⟨c,rfl⟩,sx2,nt2,hm2⟩:=zzq;subst zzh;walk_at "RD";refine ⟨by omega,_,hm2,_,Ox V.str (by rw [We,We,vg,Zg]) hz0 _,⟨_,rfl⟩,fun b u hb e=>by rw [qb hb];exact sx2 _ _ hb e,fun n=>(nt2 n).upd,?_⟩;rw [db];unfold Hb;rw [Io V.str];rfl
  ·rintro σ H2 zzq;refine zP fun zzM zzh=>?_
   obtain ⟨⟨c,rfl⟩,sx2,nt2,hm2⟩:=zzq;subst zzh;exact ⟨⟨_,_,_,rfl⟩,sx2,nt2,hm2⟩
 ·rintro σ H' zzq;refine zP fun zzM zzh=>?_
  obtain ⟨⟨a1,b,c,rfl⟩,sx,nt',hm⟩:=zzq;subst zzh;walk_at "RD";rw [List.take_of_length_le (by rw [List.length_map,lq.1,List.length_map];exact Nat.le_refl _)] at hm;exact q _ _ (me ((lb hmk).trans s1) sx hmk) nt' hmk hm
theorem Px (T:Txt w K mg t):Lb P w K mg base CX0 1 t.Se t.Me ["marks"] Qt:=by
 refine T.gg.ok Qd (fun vs H Q E h=>?_) (fun _ _ _ s H vs Q E hr h=>?_)
 ·obtain ⟨p,m,rfl,_⟩:=h;rfl
 obtain ⟨p,m,rfl,hm,hl,q⟩:=h;refine ⟨_,(cb (Bb (i:=1) Qd.nd rfl (Or.inl rfl) (Vb Fb rfl T.xg Ob (ab (pv 0) fb)))
   (cb (Bb (i:=2) Qd.nd rfl (Or.inl rfl) ub)
   (cb (Bb (i:=3) Qd.nd rfl (Or.inl rfl) (se fb))
   (cb (Dd PassesOwn.never rfl (lB rfl T.Wd (ab (Gb Oe (Gb Ig ub (pv 1)) ub) (ab (IK JF ub) (ab (IK JF ub) fb)))) (xb (i:=4) Qd.nd rfl (Or.inl rfl)) (cb (Bb (i:=2) Qd.nd rfl (Or.inl rfl) (qk (Qk (Yc ic (pv 0) (Gb Le (pv 4) (pv 1)) (fun _ _=>rfl))) ub (Gb zc (pv 2) ub)))
   (pb (Ye (bc cn (pv 4) (pv 1) (qc _)) (pb (xc (Bi PySem.F.plainAttrs_list PySem.F.slot_list_append PySem.F.type_list_append fe (pv 3) (ab (pv 2) fb)))) Ec))))
   (pb (Jb (bn rfl rfl T.ug rfl T.Cn (ab (pv 3) fb)))))))),?_⟩
 walk_at "RD";refine ⟨_,.inl (SqL.of hm),Nat.zero_le _,fun u hu=>?_⟩;have hbl:(Hc m).length=m.length:=by unfold Hc;rw [List.length_map]
 rw [hbl];refine ⟨by unfold fG;omega,by omega,by omega,by omega,by omega,?_⟩;have hun:p ≠ u:=wb hm hu;refine Fh.of (n:=2 * m.length) (fun k σ H'=>(∃ x,σ=[some (V.ref p),some (V.int m.length),some (V.int (Re m k)),some (V.ref u),x])∧Vc u H H'∧(NoT H→NoT H')∧H' u=some (.lst ((Os m (k - m.length)).map V.int))) ?_ (fun i σ H' hi _=>?_) (fun σ H' _=>?_) ?_ ?_
 ·exact ⟨⟨_,rfl⟩,fun b o hb e=>by rw [qb hb];exact e,fun n=>n.upd,by rw [db,Nat.zero_sub];rfl⟩
 ·show i < _;omega
 ·show _ ≤ 2 * m.length;omega
 ·rintro k σ H'' v H' hk ⟨⟨x,rfl⟩,sx,nt',hu'⟩ ⟨rfl,rfl⟩;have hjn:(2 * m.length - 1 - k) % m.length < m.length:=Nat.mod_lt _ hl.1;have hmj:m[(2 * m.length - 1 - k) % m.length]? = some m[(2 * m.length - 1 - k) % m.length]:=List.getElem?_eq_getElem hjn;have hj:((2 * m.length - 1 - k:Int)) % (m.length:Int)=(((2 * m.length - 1 - k) % m.length:Nat):Int):=by
   rw [Int.natCast_emod];congr 1;omega
  have hat:atI (Hc m) ((2 * m.length - 1 - k:Int) % (m.length:Int))=some (V.bl m[(2 * m.length - 1 - k) % m.length]):=by
   rw [hj];exact wc (by unfold Hc;rw [List.getElem?_map,hmj];rfl)
  have hst:Re m (k + 1)=if m[(2 * m.length - 1 - k) % m.length]=true then 0 else Re m k + 1:=by
   show (if m[(2 * m.length - 1 - k) % m.length]? = some true then 0 else Re m k + 1)=_;rw [hmj];simp
  simp only [Mg,Db,List.set_cons_succ,List.set_cons_zero];refine zzC (fun σ H4=>H4=H'∧σ=[some (V.ref p),some (V.int m.length),some (V.int (Re m (k + 1))),some (V.ref u),some (V.int (2 * m.length - 1 - k))]) (fun D' hD=>?_) fun zzM zzh=>?_
  ·walk_at "RD";refine ⟨by omega,_,SqL.of (sx _ _ hun hm),_,hat,_,rfl,?_⟩;rw [hst] at hD;by_cases c:m[(2 * m.length - 1 - k) % m.length]=true
   ·rw [if_pos c] at hD ⊢;exact hD _ _ ⟨rfl,rfl⟩
   ·rw [if_neg c] at hD ⊢;exact hD _ _ ⟨rfl,rfl⟩
  rintro σ H4 ⟨rfl,rfl⟩;subst zzh;dsimp only;refine Wc (decide ((2 * m.length - 1 - k:Int) < m.length)) (fun Q hQ=>?_) (fun hc=>?_) (fun hc=>?_)
  ·walk_at "RD";exact hQ
  ·walk_at "RD";have hc':=of_decide_eq_true hc;refine ⟨.inl ⟨_,SqL.of hu'⟩,_,hu',Nat.lt_of_le_of_lt (show ((Os m (k - m.length)).map V.int).length ≤ 1000 by unfold Os;simp;omega) (by decide),⟨_,rfl⟩,fun b o hb e=>by rw [qb hb];exact sx _ _ hb e,fun n=>(nt' n).upd,?_⟩;rw [db,show k + 1 - m.length=k - m.length + 1 by omega];unfold Os;rw [List.range_succ,List.map_append,List.map_append];simp only [List.map_cons,List.map_nil];rw [show m.length + (k - m.length) + 1=k + 1 by omega]
  ·walk_at "RD";have hc':=of_decide_eq_false hc;refine ⟨⟨_,rfl⟩,sx,nt',?_⟩;rw [hu',show k - m.length=0 by omega,show k + 1 - m.length=0 by omega]
 ·rintro σ H' zzq;refine zP fun zzM zzh=>?_
  obtain ⟨⟨x,rfl⟩,sx,nt',hu'⟩:=zzq;subst zzh;walk_at "RD";refine ⟨_,SqL.of hu',fun l hl'=>?_⟩;have hlu:l ≠ u:=fun z=>by subst z;rw [hu'] at hl';cases hl'
  refine q _ _ ((me (Nb.refl H) sx hu).trans (lb hl')) (fun n=>(nt' n).upd) ((me (Nb.refl H) sx hu).free hl') ?_;rw [db,show 2 * m.length - m.length=m.length by omega,← List.map_reverse,fz]
theorem gE (T:Txt w K mg t):Lb P w K mg base CX0 2 t.bg t.Nf ["marks"] Qx:=by
 have g19:Lb P w K mg base CX0 1 t.Se t.Me ["marks"] Qt:=Px T;refine T.Mh.ok Dq (fun vs H Q E h=>?_) (fun _ _ _ s H vs Q E hr h=>?_)
 ·obtain ⟨p,m,rfl,_⟩:=h;rfl
 obtain ⟨p,m,rfl,hm,hl,q⟩:=h;refine ⟨_,(pb (Jb (bn rfl rfl T.ug rfl T.Cn (ab (yb g19 hr rfl T.Vk T.gg.kp T.Dk .nil Cb (ab (bn rfl rfl T.ug rfl T.Cn (ab (pv 0) fb)) fb)) fb)))),?_⟩;walk_at "RD";refine ⟨_,SqL.of hm,fun l1 h1=>?_⟩;refine ⟨l1,m.reverse,rfl,by rw [db,Hc,Hc,List.map_reverse],by rw [List.length_reverse];exact hl,fun r H1 s1 nt1 hr1 hu=>⟨r,rfl,_,SqL.of hu,fun l2 h2=>?_⟩⟩;refine q _ _ (((lb h1).trans s1).trans (lb h2)) (fun n=>(nt1 n.upd).upd) (((lb h1).trans s1).free h2) ?_;rw [db,← List.map_reverse];rfl
end
end My
namespace My
open PySem L2
theorem Mp {i:Int} (h:i.natAbs < 100000):i.natAbs.log2 < 1920:=by
 by_cases h0:i.natAbs=0
 ·rw [h0];decide
 ·exact (Nat.log2_lt h0).mpr (Nat.lt_trans h (by decide))
theorem De {α:Type} {l:List α} {a x:α} {i:Nat} (h:(l ++ [a])[i]? = some x):(i < l.length∧l[i]? = some x)∨(i=l.length∧x=a):=by
 by_cases hi:i < l.length
 ·rw [List.getElem?_append_left hi] at h;exact .inl ⟨hi,h⟩
 ·rw [List.getElem?_append_right (by omega)] at h;have h0:i - l.length=0:=by
   cases hh:i - l.length with
   | zero=>rfl
   | succ m=>rw [hh] at h;simp at h
  rw [h0] at h;exact .inr ⟨by omega,(by simpa using h:a=x).symm⟩
noncomputable def DOk (ds:List WD):Prop:=∀ d ∈ ds,0 ≤ d.off∧d.off ≤ 1000
noncomputable def Vs (ds:List WD) (sp:List SD):Option Str:=(ds.map (·.name)).find? fun x=>(ofN x sp).isEmpty
noncomputable def Dv (t:Adr):Sp:=fun vs H Q _=>∃ c n ds p sp,vs=[.ref c,.ref p]∧Lc t H c n ds∧LO H p (List.map sdO sp)∧sp.length ≤ 100∧Vs ds sp=none∧∀ H',Nb H H'→(NoT H→NoT H')→Q .non H'
noncomputable def Wz (z:Int) (sp:List SD) (k:Nat) (d:SD):Int:=(((ofN d.name (sp.eraseIdx k)).map fun p=>(p.1 - d.b) % z).min?).getD z
noncomputable def CB:Sp:=fun vs H Q E=>∃ (z:Int) (p:Addr) (sp:List SD) (k:Nat) (d:SD),vs=[.int z,.ref p,.int k]∧0 < z∧LO H p (List.map sdO sp)∧sp.length ≤ 100∧sp[k]? = some d∧∀ H',Nb H H'→(NoT H→NoT H')→Q (.int (Wz z sp k d)) H'
theorem Mz {α:Type} (l:List α) (x:α) (k:Nat):(l ++ [x]).eraseIdx k=if k=l.length then l.eraseIdx k else l.eraseIdx k ++ [x]:=by
 by_cases h:k < l.length
 ·rw [if_neg (by omega),List.eraseIdx_append_of_lt_length h]
 ·rw [List.eraseIdx_append_of_length_le (by omega),List.eraseIdx_of_length_le (l:=l) (by omega)];by_cases h2:k=l.length
  ·rw [if_pos h2,h2,Nat.sub_self];simp
  ·rw [if_neg h2,List.eraseIdx_of_length_le (by simp;omega)]
noncomputable def wOf (ds:List WD) (x:Str):Option WD:=ds.find? fun d=>decide (d.name=x)
noncomputable def et (ds:List WD) (z:Int) (sp:List SD) (k:Nat) (s:SD):Bool:=(wOf ds s.name).any fun d=>decide (s.n < d.least) || decide (Wz z sp k s < s.n + Od d + Dc d)
noncomputable def Qs (ds:List WD) (z:Int) (sp:List SD):Option (SD × Nat):=sp.zipIdx.find? fun e=>et ds z sp e.2 e.1
noncomputable def av (t:Adr):Sp:=fun vs H Q _=>∃ (c:Addr) (n:Int) (ds:List WD) (z:Int) (p:Addr) (sp:List SD),vs=[.ref c,.int z,.ref p]∧Lc t H c n ds∧DOk ds∧(0 < z∧z ≤ 1000)∧LO H p (List.map sdO sp)∧AH z sp∧(∀ s ∈ sp,∃ d,wOf ds s.name=some d)∧Qs ds z sp=none∧∀ H',Nb H H'→(NoT H→NoT H')→Q .non H'
theorem gv {P:Program} {w:World} {K:PySem.W.Frag} {mg:Str→Option Value} {base:Heap} {CX:CXT} {j k:Nat} {OK:Addr→Prop} {m:Str} {ps:List Str} {SPV:Addr→Sp} (V:fE P w K mg base CX j OK m ps SPV) (h:j ≤ k):fE P w K mg base CX k OK m ps SPV:=⟨fun C hC=>by
 obtain ⟨f,fd,h1,h2,h3,h4⟩:=V.ok C hC;exact ⟨f,fd,h1,h2,h3.mono h,h4⟩⟩
theorem yG {ds:List WD} {x:Str} {d:WD} (h:wOf ds x=some d):d.name=x∧∃ i:Nat,ds[i]? = some d:=by
 unfold wOf at h;refine ⟨by simpa using List.find?_some h,?_⟩;obtain ⟨i,hi,e⟩:=List.getElem_of_mem (List.mem_of_find?_eq_some h);exact ⟨i,by rw [List.getElem?_eq_getElem hi,e]⟩
noncomputable def NF (d1 d2:WD):Int:=if d1.off - d2.near > 0 then d1.off - d2.near else 0
noncomputable def Ly (g:Int) (m1 m2:List Int):Option ((Int × Int) × Nat):=(m1.zip m2).zipIdx.find? fun e=>decide (e.1.2=0) && decide (e.1.1 ≤ g)
noncomputable def PF (t:Adr):Sp:=fun vs H Q _=>∃ (c:Addr) (n:Int) (ds:List WD) (d1 d2:WD) (p1 p2:Addr) (m1 m2:List Int),vs=[.ref c,.str d1.name,.str d2.name,.ref p1,.ref p2]∧Lc t H c n ds∧d1 ∈ ds∧d2 ∈ ds∧H p1=some (.lst (m1.map V.int))∧H p2=some (.lst (m2.map V.int))∧m1.length=m2.length∧m1.length ≤ 1000∧Ly (NF d1 d2) m1 m2=none∧∀ H',Nb H H'→(NoT H→NoT H')→Q .non H'
noncomputable def Ul (z:Nat) (sp:List SD) (x:Str):List Int:=Ms (fmF z (ofN x sp))
noncomputable def Ss (n:Int) (z:Nat) (sp:List SD) (d1 d2:WD):Option Nat:=if d1.name ≠ d2.name∧mt n d1 d2=true then (Ly (NF d1 d2) (Ul z sp d1.name) (Ul z sp d2.name)).map (·.2) else none
noncomputable def kC (n:Int) (z:Nat) (sp:List SD) (d1:WD) (ds:List WD):Option (WD × WD × Nat):=ds.findSome? fun d2=>(Ss n z sp d1 d2).map fun i=>(d1,d2,i)
noncomputable def Vr (n:Int) (z:Nat) (sp:List SD) (ds:List WD):Option (WD × WD × Nat):=ds.findSome? fun d1=>kC n z sp d1 ds
noncomputable def yv (t:Adr):Sp:=fun vs H Q _=>∃ (c:Addr) (n:Int) (ds:List WD) (z:Nat) (p:Addr) (sp:List SD),vs=[.ref c,.int z,.ref p]∧Lc t H c n ds∧0 < n∧(0 < z∧z ≤ 1000)∧LO H p (List.map sdO sp)∧AH z sp∧NoT H∧Vr n z sp ds=none∧∀ H',Nb H H'→NoT H'→Q .non H'
theorem ck (m:List Bool):(Bm m).length=m.length:=by unfold Bm;simp
theorem gn (z:Nat) (sp:List SD) (x:Str):(Ul z sp x).length=z:=by
 unfold Ul Ms;rw [List.length_reverse,ck,List.length_reverse,Qj]
noncomputable def nkv (ds:List WD) (rs:List Addr):List (Key × V):=(ds.zip rs).map fun e=>(Sum.inr e.1.name,V.ref e.2)
noncomputable def NK (H:Hp) (p:Addr) (ds:List WD) (f:WD→HO) (n:Nat):Prop:=∃ rs:List Addr,rs.length=n∧H p=some (.dK (nkv ds rs))∧∀ (i:Nat) (r:Addr) (d:WD),rs[i]? = some r→ds[i]? = some d→H r=some (f d)
theorem cH {ds:List WD} (h:(ds.map (·.name)).Nodup) {i j:Nat} {d e:WD} (hi:ds[i]? = some d) (hj:ds[j]? = some e) (z:d.name=e.name):i=j:=
 Uy h (List.getElem?_eq_some_iff.mp hi).1 (List.getElem?_eq_some_iff.mp hj).1 (by rw [Su hi,Su hj];exact z)
theorem Hq {ds:List WD} {rs:List Addr} (h:(ds.map (·.name)).Nodup) {i:Nat} {d:WD} {r:Addr} (hd:ds[i]? = some d) (hr:rs[i]? = some r):yu (nkv ds rs) (Sum.inr d.name)=some (.ref r):=by
 obtain ⟨h1,e1⟩:=List.getElem?_eq_some_iff.mp hd;obtain ⟨h2,e2⟩:=List.getElem?_eq_some_iff.mp hr;unfold yu;have hf:List.find? (fun kv=>decide (kv.1=(Sum.inr d.name:Key))) (nkv ds rs)=some (Sum.inr d.name,.ref r):=by
  rw [List.find?_eq_some_iff_getElem];refine ⟨by simp,i,by unfold nkv;simp;omega,by unfold nkv;simp [e1,e2],fun j hj=>?_⟩;unfold nkv;simp;intro z;have:=cH h (List.getElem?_eq_getElem (show j < ds.length by omega)) hd z;omega
 rw [hf];rfl
theorem Ht {ds:List WD} {rs:List Addr} (h:(ds.map (·.name)).Nodup) {d:WD} {r:Addr} (hd:ds[rs.length]? = some d):Ju (nkv ds rs) (Sum.inr d.name) (.ref r)=nkv ds (rs ++ [r]):=by
 obtain ⟨h1,e1⟩:=List.getElem?_eq_some_iff.mp hd;unfold Ju;have no:((nkv ds rs).any fun kv=>decide (kv.1=Sum.inr d.name))=false:=by
  rw [List.any_eq_false];intro p hp;unfold nkv at hp;obtain ⟨e,he,rfl⟩:=List.mem_map.mp hp;obtain ⟨j,hj,hje⟩:=List.getElem_of_mem he;simp only [decide_eq_true_eq];intro z;have z:=Sum.inr.inj z;rw [← hje] at z;simp at hj z;have:=cH h (List.getElem?_eq_getElem (show j < ds.length by omega)) hd z;omega
 rw [no,if_neg (by decide)];unfold nkv;refine List.ext_getElem (by simp;omega) (fun i h3 h4=>?_);simp at h3 h4;by_cases c:i < rs.length
 ·simp [List.getElem_append,c,show i < ds.length by omega];rw [dif_pos (by omega)]
 ·have:i=rs.length:=by omega
  subst this;simp [List.getElem_append,Nat.le_of_lt h1,e1]
section
variable {P:Program} {w:World} {K:PySem.W.Frag} {mg:Str→Option Value} {base:Heap} {t:Adr}
theorem bC (T:Txt w K mg t):Lb P w K mg base CX0 3 t.Wf t.Tf q42 (Dv t):=by
 have g10:Lb P w K mg base CX0 2 t.cf t.df q10 Xm:=(Bq T).mono (by decide);have g11:Lb P w K mg base CX0 2 t.Oc t.ed ["self"] (om t):=(Do T).mono (by decide);refine T.Ph.ok Gj (fun vs H Q E h=>?_) (fun _ _ _ s H vs Q E hr h=>?_)
 ·obtain ⟨c,n,ds,p,sp,rfl,_⟩:=h;rfl
 obtain ⟨c,n,ds,p,sp,rfl,C,L,hs,hN,q⟩:=h;refine ⟨_,(pb (Dd PassesOwn.never rfl (Sd (Xd (pv 0) T.Pb T.Cd g11 hr T.Bd .nil Cb)) (xb (i:=2) Gj.nd rfl (Or.inl rfl)) (pb (Ye (Lp (Yy (yb g10 hr rfl T.ii T.Gf.kp T.ei .nil Cb (ab (pv 1) (ab (pv 2) fb))) (fun _=>rfl))) (pb Qg) Ec)))),?_⟩;walk_at "RD";obtain ⟨_,dx,wl,nd,e1,_,_⟩:=id C;refine ⟨_,_,e1,mw _ _ _ (by decide +kernel),c,n,ds,rfl,C,fun pn hpn=>⟨pn,rfl,⟨_,SqL.of db⟩,?_⟩⟩;refine Fh.list (xs:=Hb (ds.map (·.name))) (fun i σ H'=>(∃ y,σ=[some (V.ref c),some (V.ref p),y])∧Nb (upd H pn (.lst (Hb (ds.map (·.name))))) H'∧(NoT H→NoT H')) ?_ ?_ ?_ ?_
 ·exact ⟨⟨_,rfl⟩,Nb.refl _,fun n=>n.upd⟩
 ·rintro i σ H' hi ⟨_,sm,_⟩;exact SqL.of (sm _ _ db)
 ·rintro i v σ H' hv zzq;refine zP fun zzM zzh=>?_
  obtain ⟨⟨y,rfl⟩,sm,nt⟩:=zzq;obtain ⟨x,hx,rfl⟩:=Xb hv;have smH:Nb H H':=(lb hpn).trans sm;have hne:(ofN x sp).isEmpty=false:=by
   have:=List.find?_eq_none.mp hN x (List.mem_of_getElem? hx);simpa using this
  subst zzh;walk_at "RD";refine zi (fun b H2=>b=(ofN x sp).isEmpty∧Nb H' H2∧(NoT H'→NoT H2)) (fun Q hQ=>?_) (fun H2 r=>?_) (fun H2 r=>?_)
  ·walk_at "RD";refine ⟨p,x,sp,rfl,L.same smH,hs,fun r H2 s2 n2 ⟨qs,l1,l2⟩=>⟨!(ofN x sp).isEmpty,.inl ⟨_,SqL.of l1,?_⟩,?_⟩⟩
   ·have hl:=l2.1;cases qs with
    | nil=>cases h:ofN x sp with
     | nil=>rfl
     | cons a r=>rw [h] at hl;simp at hl
    | cons a r=>cases h:ofN x sp with
     | nil=>rw [h] at hl;simp at hl
     | cons a r=>rfl
   ·rw [Bool.not_not];exact hQ _ _ ⟨rfl,s2,n2⟩
  ·exact absurd (r.1.trans hne) (by decide)
  ·obtain ⟨r1,r2,r3⟩:=r;walk_at "RD";exact ⟨⟨_,rfl⟩,sm.trans r2,fun n=>r3 (nt n)⟩
 ·rintro σ H' zzq;refine zP fun zzM zzh=>?_
  obtain ⟨⟨y,rfl⟩,sm,nt⟩:=zzq;subst zzh;exact q _ ((lb hpn).trans sm) nt
theorem KG (T:Txt w K mg t):Lb P w K mg base CX0 2 t.Kd t.Ed q43 CB:=by
 have g10:Lb P w K mg base CX0 1 t.cf t.df q10 Xm:=Bq T;refine T.Be.ok Tc (fun vs H Q E h=>?_) (fun _ _ _ s H vs Q E hr h=>?_)
 ·obtain ⟨z,p,sp,k,d,rfl,_⟩:=h;rfl
 obtain ⟨z,p,sp,k,d,rfl,hz,⟨qs,l1,lq⟩,hs,hk,q⟩:=h;refine ⟨_,(cb (mm (Yc ic (pv 1) (pv 2) (fun _ _=>rfl)) (Vd (K:=K) (n:=3) rfl rfl (Eb (xb (i:=3) Tc.nd rfl (Or.inl rfl) (.inl rfl)) (Eb (xb (i:=4) Tc.nd rfl (Or.inr rfl) (.inl rfl)) (Eb (xb (i:=5) Tc.nd rfl (Or.inl rfl) (.inl rfl)) Ud)))))
   (cb (oi (i:=6) Tc.nd rfl (Or.inl rfl) rfl (zl rfl T.af (ab (pv 1) fb)) (Qc (sc:=rb Jd) rfl (by decide +kernel)) (N:=q56) (sel:=[none,none,some 2]) (ud (M:=q54) (by decide +kernel)) (Blk.of (fun _ _ _ _=>(Vd (K:=K) (n:=2) rfl rfl (Eb (xb (i:=0) (Bg (N:=q56) (by decide +kernel) rfl) rfl (Or.inl rfl) (.inr rfl)) (Eb (xb (i:=1) (Bg (N:=q56) (by decide +kernel) rfl) rfl (Or.inl rfl) (.inr rfl)) Ud)))) (fun _ _ _ _=>⟨_,(zt (bc BA (pv 0) (pv 2) (qc _))),by walk_at "B"⟩) (fun _ _ _ _=>⟨_,(pv 1),by walk_at "B"⟩)) rfl)
   (pb (Jb (LH rfl rfl T.dJ (ab (Jf rfl (Sd (yb g10 hr rfl T.ii T.Gf.kp T.ei .nil Cb (ab (pv 6) (ab (pv 3) fb)))) (Qc (sc:=rb Jd) rfl (by decide +kernel)) (N:=q57) (sel:=[none,none,some 4,some 0]) (ud (M:=q54) (by decide +kernel)) (Blk.of (fun _ _ _ _=>(Vd (K:=K) (n:=2) rfl rfl (Eb (xb (i:=0) (Bg (N:=q57) (by decide +kernel) rfl) rfl (Or.inl rfl) (.inr rfl)) (Eb (xb (i:=1) (Bg (N:=q57) (by decide +kernel) rfl) rfl (Or.inl rfl) (.inr rfl)) Ud)))) (fun _ _ _ _=>⟨_,uf,by walk_at "B"⟩) (fun _ _ _ _=>⟨_,(Gb Le (Gb Oe (pv 0) (pv 2)) (pv 3)),by walk_at "B"⟩))) fb) (pv 0)))))),?_⟩
 walk_at "RD";have hql:qs.length=sp.length:=by rw [lq.1,List.length_map]
 obtain ⟨hkl,hkd⟩:=List.getElem?_eq_some_iff.mp hk;have hqk:qs[k]? = some qs[k]:=List.getElem?_eq_getElem (by omega);have ek:H qs[k]=some (sdO d):=lq.2 k _ _ hqk (by rw [List.getElem?_map,hk];rfl);refine ⟨_,SqL.of l1,_,wc (by rw [List.getElem?_map,hqk];rfl),_,rfl,_,SqT.of ek,rfl,_,_,rfl,_,_,rfl,_,_,rfl,rfl,⟨_,SqL.of l1⟩,?_⟩;refine vd.enum (xs:=qs.map V.ref) (fun i ys H'=>∃ os:List Addr,ys=os.map V.ref∧LQ H' os (((sp.take i).eraseIdx k).map sdO)∧Nb H H'∧(NoT H→NoT H')) (Nat.le_trans (show (qs.map V.ref).length ≤ 100 by rw [List.length_map];omega) (by decide)) ⟨[],rfl,by rw [List.take_zero];exact LQ.nil _,Nb.refl _,id⟩ ?_ ?_ ?_
 ·rintro i ys H' hi zzq;refine zP fun zzM zzh=>?_
  obtain ⟨os,rfl,r,sm,_⟩:=zzq;subst zzh;refine ⟨(SqL.of l1).same sm,?_⟩;rw [List.length_map,r.1,List.length_map];exact Nat.le_trans (List.length_eraseIdx_le ..) (by rw [List.length_take];omega)
 ·rintro i v ys H' p1 hv ⟨os,rfl,r,sm,nt⟩ hp1 N hN;obtain ⟨qi,hqi,rfl⟩:=Xb hv;obtain ⟨o,ho,e⟩:=lq.at hqi;obtain ⟨d',hd',rfl⟩:=Xb ho;have e':=sm _ _ e;have s1:Nb H' (upd H' p1 (.tup [.int i,.ref qi])):=lb hp1;refine kg ?_;dsimp only at hN;have hil:(sp.take i).length=i:=by
   have:=(List.getElem?_eq_some_iff.mp hd').1;rw [List.length_take];omega
  rw [Ve hd',Mz,hil] at hN;walk_at "RD";refine ⟨Sub.name2,?_⟩;by_cases c:k=i
  ·rw [if_pos c] at hN;rw [if_neg (by subst c;simp)];exact hN _ _ ⟨os,rfl,r.same s1,sm.trans s1,fun n=>(nt n).upd⟩
  ·rw [if_neg c] at hN;rw [if_pos (by simp;omega)];refine hN _ _ ⟨os ++ [qi],by rw [List.map_append];rfl,?_,sm.trans s1,fun n=>(nt n).upd⟩;rw [List.map_append];exact (r.same s1).app (LQ.one (s1 _ _ e'))
 ·rintro ys H' ⟨os,rfl,r,sm,nt⟩ p1 hp1;rw [List.take_of_length_le (by rw [List.length_map];omega)] at r;walk_at "RD";have s1:Nb H' (upd H' p1 (.lst (os.map V.ref))):=lb hp1;refine ⟨p1,d.name,sp.eraseIdx k,rfl,⟨os,db,r.same s1⟩,Nat.le_trans (List.length_eraseIdx_le ..) hs,fun r2 H2 s2 n2 ⟨qs2,m1,m2⟩=>⟨r2,rfl,⟨_,SqL.of m1⟩,?_⟩⟩;have hln:(ofN d.name (sp.eraseIdx k)).length ≤ 100:=Nat.le_trans (kB _ _) (Nat.le_trans (List.length_eraseIdx_le ..) hs);have hml:qs2.length=(ofN d.name (sp.eraseIdx k)).length:=by rw [m2.1,List.length_map]
  refine vd.list_zs (zs:=((ofN d.name (sp.eraseIdx k)).map fun p=>(p.1 - d.b) % z).map V.int) (SqL.of m1) (Nat.le_trans (show (qs2.map V.ref).length ≤ 100 by rw [List.length_map];omega) (by decide)) (by simp [hml]) (fun i v z' N hv hz' hN=>?_) (fun l hl=>?_)
  ·obtain ⟨qi,hqi,rfl⟩:=Xb hv;obtain ⟨o,ho,e⟩:=m2.at hqi;obtain ⟨pr,hpr,rfl⟩:=Xb ho;obtain ⟨y,hy,rfl⟩:=Xb hz';obtain ⟨pr',hpr',rfl⟩:=Xb hy;rw [hpr] at hpr';cases hpr';walk_at "RD";exact ⟨_,SqT.of e,rfl,_,_,rfl,_,_,rfl,rfl,Sub.name2,_,rfl,hz,hN⟩
  ·walk_at "RD";refine ⟨_,SqL.of db,?_⟩;have:=q (upd H2 l (.lst (((ofN d.name (sp.eraseIdx k)).map fun p=>(p.1 - d.b) % z).map V.int))) (((sm.trans s1).trans s2).trans (lb hl)) (fun n=>(n2 (nt n).upd).upd);unfold Wz at this;cases hm:((ofN d.name (sp.eraseIdx k)).map fun p=>(p.1 - d.b) % z).min? with
   | none=>rw [hm] at this;exact this
   | some m=>rw [hm] at this;exact this
theorem fD (T:Txt w K mg t):Lb P w K mg base CX0 4 t.Vf t.Sf q12 (av t):=by
 have g43:Lb P w K mg base CX0 3 t.Kd t.Ed q43 CB:=(KG T).mono (by decide);have g8:Lb P w K mg base CX0 3 t.Tb t.gc q5 (ig t):=(nh T).mono (by decide);have V_Way_ready:fE P w K mg base CX0 3 (isW t) "ready" ["self"] (Yh t):=gv (rC T) (by decide);have V_Way_fade:fE P w K mg base CX0 3 (isW t) "fade" ["self"] (uk t):=gv (kG T) (by decide);refine T.Vh.ok ad (fun vs H Q E h=>?_) (fun _ _ _ s H vs Q E hr h=>?_)
 ·obtain ⟨c,n,ds,z,p,sp,rfl,_⟩:=h;rfl
 obtain ⟨c,n,ds,z,p,sp,rfl,C,hD,hz,⟨qs,l1,lq⟩,hs,hk,hN,q⟩:=h;refine ⟨_,(pb (Dd PassesOwn.never rfl (zl rfl T.af (ab (pv 2) fb)) (Vd (K:=K) (n:=2) rfl rfl (Eb (xb (i:=3) ad.nd rfl (Or.inl rfl) (.inl rfl)) (Eb (xb (i:=4) ad.nd rfl (Or.inl rfl) (.inl rfl)) Ud))) (cb (mm (pv 4) (Vd (K:=K) (n:=3) rfl rfl (Eb (xb (i:=5) ad.nd rfl (Or.inl rfl) (.inl rfl)) (Eb (xb (i:=6) ad.nd rfl (Or.inl rfl) (.inl rfl)) (Eb (xb (i:=7) ad.nd rfl (Or.inl rfl) (.inl rfl)) Ud)))))
   (cb (Bb (i:=8) ad.nd rfl (Or.inl rfl) (Xc (pv 0) T.Pb T.uc g8 hr T.vc .nil Cb (ab (pv 5) fb)))
   (cb (Bb (i:=9) ad.nd rfl (Or.inl rfl) (Gb zc (Gb zc (pv 7) (Pl (pv 8) V_Way_fade hr Cb)) (Pl (pv 8) V_Way_ready hr Cb)))
   (pb (Ye (PW.pt (Lw (bc cn (pv 7) (Bc (pv 8) rfl) (qc _)) (Ro (bc cn (yb g43 hr rfl T.Ij T.Be.kp T.Nj .nil Cb (ab (pv 1) (ab (pv 2) (ab (pv 3) fb)))) (pv 9) (qc _))))) (pb Qg) Ec))))))),?_⟩
 walk_at "RD";have hql:qs.length=sp.length:=by rw [lq.1,List.length_map]
 refine ⟨⟨_,SqL.of l1⟩,?_⟩;refine Fh.enum (xs:=qs.map V.ref) (fun i σ H'=>(∃ a b c1 d e f g,σ=[some (V.ref c),some (V.int z),some (V.ref p),a,b,c1,d,e,f,g])∧Nb H H'∧(NoT H→NoT H')) ?_ ?_ ?_ ?_
 ·exact ⟨⟨_,_,_,_,_,_,_,rfl⟩,Nb.refl _,id⟩
 ·rintro i σ H' hi ⟨_,sm,_⟩;exact SqL.of (sm _ _ l1)
 ·rintro i v σ H0 p1 hv ⟨⟨a1,a2,a3,a4,a5,a6,a7,rfl⟩,sm,nt⟩ hp1;obtain ⟨qi,hqi,rfl⟩:=Xb hv;obtain ⟨o,ho,e⟩:=lq.at hqi;obtain ⟨sd,hsd,rfl⟩:=Xb ho;obtain ⟨hi,hxi⟩:=List.getElem?_eq_some_iff.mp hsd;have hB0:et ds z sp i sd=false:=by
   have:=List.find?_eq_none.mp hN (sd,i) (by rw [List.mem_iff_getElem?];exact ⟨i,by rw [List.getElem?_zipIdx,hsd];simp⟩);simpa using this
  have s1:Nb H0 (upd H0 p1 (.tup [.int i,.ref qi])):=lb hp1;refine kg ?_;have nt1:NoT H→NoT (upd H0 p1 (.tup [.int i,.ref qi])):=fun n=>(nt n).upd
  generalize upd H0 p1 (.tup [.int i,.ref qi])=H' at s1 nt1 ⊢;have smH:Nb H H':=sm.trans s1;obtain ⟨d,hd⟩:=hk sd (List.mem_of_getElem? hsd);obtain ⟨hdn,j,hj⟩:=yG hd;have C':=C.same smH;obtain ⟨_,dx,wl,nd,e1,_,_⟩:=id C';have hB:et ds z sp i sd=(decide (sd.n < d.least) || decide (Wz z sp i sd < sd.n + Od d + Dc d)):=by
   unfold et;rw [hd];rfl
  walk_at "RD";refine ⟨_,SqT.of (smH _ _ e),rfl,_,_,rfl,_,_,rfl,_,_,rfl,rfl,_,_,e1,mw _ _ _ (by decide +kernel),c,n,ds,j,d,by rw [hdn],C',hj,fun a W=>?_⟩;obtain ⟨dk,dxa,ha⟩:=id W;refine ⟨a,rfl,_,_,_,ha,⟨_,dk,rfl⟩,WK (by decide +kernel),a,d,rfl,W,rfl,_,rfl,_,rfl,a,rfl,_,_,_,ha,⟨_,dk,rfl⟩,WK (by decide +kernel),a,d,rfl,W,rfl,_,rfl,?_⟩;refine zi (fun b H2=>b=et ds z sp i sd∧Nb H' H2∧(NoT H'→NoT H2)) (fun Q hQ=>?_) (fun H2 r=>?_) (fun H2 r=>?_)
  ·rw [hB] at hQ;walk_at "RD";refine ⟨_,W.f_least T,_,rfl,?_⟩;by_cases c1:sd.n < d.least
   ·rw [decide_eq_true c1] at hQ;rw [if_pos (decide_eq_true c1)];exact hQ _ _ ⟨rfl,Nb.refl _,id⟩
   ·rw [decide_eq_false c1,Bool.false_or] at hQ;rw [if_neg (by simpa using c1)];exact ⟨z,p,sp,i,sd,rfl,hz.1,⟨qs,smH _ _ l1,lq.same smH⟩,hs.1,hsd,fun H2 s2 n2=>⟨_,rfl,hQ _ _ ⟨rfl,s2,n2⟩⟩⟩
  ·exact absurd (r.1.trans hB0) (by decide)
  ·obtain ⟨r1,r2,r3⟩:=r;exact ⟨⟨_,_,_,_,_,_,_,rfl⟩,smH.trans r2,fun n=>r3 (nt1 n)⟩
 ·rintro σ H' ⟨_,sm,nt⟩;exact q _ sm nt
theorem pK (T:Txt w K mg t):Lb P w K mg base CX0 4 t.Ee t.Je q44 (PF t):=by
 have g44:Lb P w K mg base CX0 3 t.YD t.qF q11 (QF t):=bK T;refine T.Mf.ok pe (fun vs H Q E h=>?_) (fun _ _ _ s H vs Q E hr h=>?_)
 ·obtain ⟨c,n,ds,d1,d2,p1,p2,m1,m2,rfl,_⟩:=h;rfl
 obtain ⟨c,n,ds,d1,d2,p1,p2,m1,m2,rfl,C,h1,h2,L1,L2,hl,hm,hN,q⟩:=h;refine ⟨_,(cb (Bb (i:=5) pe.nd rfl (Or.inl rfl) (yb g44 hr rfl T.dL T.tI.kp T.uL .nil Cb (ab (pv 0) (ab (pv 1) (ab (pv 2) fb)))))
   (pb (Dd PassesOwn.never rfl (zl rfl T.af (ab (pv 3) fb)) (Vd (K:=K) (n:=2) rfl rfl (Eb (xb (i:=6) pe.nd rfl (Or.inl rfl) (.inl rfl)) (Eb (xb (i:=7) pe.nd rfl (Or.inl rfl) (.inl rfl)) Ud))) (pb (Ye (PW.pt (FB (bc mj (Yc ic (pv 4) (pv 6) (fun _ _=>rfl)) ub (qc _)) (Dx (bc OL (pv 7) (pv 5) (qc _))))) (pb Qg) Ec))))),?_⟩
 walk_at "RD";obtain ⟨j1,hj1,ej1⟩:=List.getElem_of_mem h1;obtain ⟨j2,hj2,ej2⟩:=List.getElem_of_mem h2;refine ⟨c,n,ds,j1,j2,d1,d2,rfl,C,by rw [List.getElem?_eq_getElem hj1,ej1],by rw [List.getElem?_eq_getElem hj2,ej2],⟨_,SqL.of L1⟩,?_⟩;rw [show (if d1.off - d2.near > 0 then d1.off - d2.near else 0)=NF d1 d2 from rfl];refine Fh.enum (xs:=m1.map V.int) (fun i σ H'=>(∃ a b,σ=[some (V.ref c),some (V.str d1.name),some (V.str d2.name),some (V.ref p1),some (V.ref p2),some (V.int (NF d1 d2)),a,b])∧Nb H H'∧(NoT H→NoT H')) ?_ ?_ ?_ ?_
 ·exact ⟨⟨_,_,rfl⟩,Nb.refl _,id⟩
 ·rintro i σ H' hi ⟨_,sm,_⟩;exact SqL.of (sm _ _ L1)
 ·rintro i v σ H0 p3 hv ⟨⟨a1,a2,rfl⟩,sm,nt⟩ hp3;obtain ⟨x1,hx1,rfl⟩:=Xb hv;obtain ⟨hi,ex1⟩:=List.getElem?_eq_some_iff.mp hx1;have hi2:i < m2.length:=by omega
  have hx2:m2[i]? = some m2[i]:=List.getElem?_eq_getElem hi2;have hB0:(decide (m2[i]=0) && decide (x1 ≤ NF d1 d2))=false:=by
   have:=List.find?_eq_none.mp hN ((x1,m2[i]),i) (by rw [List.mem_iff_getElem?];exact ⟨i,by rw [List.getElem?_zipIdx,List.getElem?_zip_eq_some (z:=(x1,m2[i])) |>.mpr ⟨hx1,hx2⟩];simp⟩);simpa using this
  have s1:Nb H0 (upd H0 p3 (.tup [.int i,.int x1])):=lb hp3;refine kg ?_;have nt1:NoT H→NoT (upd H0 p3 (.tup [.int i,.int x1])):=fun n=>(nt n).upd
  generalize upd H0 p3 (.tup [.int i,.int x1])=H' at s1 nt1 ⊢;have smH:Nb H H':=sm.trans s1;walk_at "RD";refine Wc (decide (m2[i]=0) && decide (x1 ≤ NF d1 d2)) (fun Q hQ=>?_) (fun c1=>?_) (fun c1=>?_)
  ·walk_at "RD";refine ⟨_,SqL.of (smH _ _ L2),_,wc (by rw [List.getElem?_map,hx2];rfl),rfl,?_⟩;by_cases c0:m2[i]=0
   ·rw [decide_eq_true c0,Bool.true_and] at hQ;rw [if_pos (by rw [c0];exact decide_eq_true rfl)];exact hQ
   ·rw [decide_eq_false c0,Bool.false_and] at hQ;rw [if_neg (by rw [decide_eq_true_eq];exact fun e=>c0 (V.int.inj e))];exact hQ
  ·exact absurd (c1.symm.trans hB0) (by decide)
  ·exact ⟨⟨_,_,rfl⟩,smH,nt1⟩
 ·rintro σ H' ⟨_,sm,nt⟩;exact q _ sm nt
theorem XC (T:Txt w K mg t):Lb P w K mg base CX0 5 t.Yf t.eg q12 (yv t):=by
 have g45:Lb P w K mg base CX0 4 t.bg t.Nf ["marks"] Qx:=(gE T).mono (by decide);have g20:Lb P w K mg base CX0 4 t.rg t.wg q28 MH:=(DK T).mono (by decide);have g11:Lb P w K mg base CX0 4 t.Oc t.ed ["self"] (om t):=(Do T).mono (by decide);have g46:Lb P w K mg base CX0 4 t.Gy t.Fy q11 (EB t):=(iI T).mono (by decide);have g47:Lb P w K mg base CX0 4 t.Ee t.Je q44 (PF t):=pK T;refine T.Sh.ok ue (fun vs H Q E h=>?_) (fun _ _ _ s H vs Q E hr h=>?_)
 ·obtain ⟨c,n,ds,z,p,sp,rfl,_⟩:=h;rfl
 obtain ⟨c,n,ds,z,p,sp,rfl,C,hn,hz,L,hs,nt0,hN,q⟩:=h;have hu:=Pw hr;refine ⟨_,(cb (Bb (i:=3) ue.nd rfl (Or.inl rfl) Lm)
   (cb (Dd PassesOwn.never rfl (Sd (Xd (pv 0) T.Pb T.Cd g11 hr T.Bd .nil Cb)) (xb (i:=4) ue.nd rfl (Or.inl rfl)) (pb (xq hu (pv 3) (pv 4) (yb g45 hr rfl T.Br T.Mh.kp T.yr .nil Cb (ab (yb g20 hr rfl T.Sn T.Dh.kp T.On .nil Cb (ab (pv 1) (ab (pv 2) (ab (pv 4) fb)))) fb)) rfl)))
   (pb (Dd PassesOwn.never rfl (Sd (Xd (pv 0) T.Pb T.Cd g11 hr T.Bd .nil Cb)) (xb (i:=5) ue.nd rfl (Or.inl rfl)) (pb (Dd PassesOwn.never rfl (Sd (Xd (pv 0) T.Pb T.Cd g11 hr T.Bd .nil Cb)) (xb (i:=6) ue.nd rfl (Or.inl rfl)) (pb (Ye (PW.pt (FB (bc BA (pv 5) (pv 6) (qc _)) (Dx (Qk (yb g46 hr rfl T.aJ T.jB.kp T.YI .nil Cb (ab (pv 0) (ab (pv 5) (ab (pv 6) fb)))))))) (pb (xc (yb g47 hr rfl T.xn T.Mf.kp T.An .nil Cb (ab (pv 0) (ab (pv 5) (ab (pv 6) (ab (Vi hu (pv 3) (pv 5) (fun _ _=>rfl)) (ab (Vi hu (pv 3) (pv 6) (fun _ _=>rfl)) fb)))))))) Ec)))))))),?_⟩
 walk_at "RD";intro pd hpd;obtain ⟨⟨hnd,hdl⟩,dx,wl,nd,e1,_,_⟩:=id C;have s0:Nb H (upd H pd (.dK [])):=lb hpd;refine ⟨_,_,s0 _ _ e1,mw _ _ _ (by decide +kernel),c,n,ds,rfl,C.same s0,fun pn hpn=>⟨pn,rfl,⟨_,SqL.of db⟩,?_⟩⟩;have hpp:pn ≠ pd:=fun e=>by subst e;rw [db] at hpn;cases hpn
 refine Fh.list (xs:=Hb (ds.map (·.name))) (fun i σ H'=>(∃ y,σ=[some (V.ref c),some (V.int z),some (V.ref p),some (V.ref pd),y,none,none])∧Nb H H'∧NoT H'∧H' pn=some (.lst (Hb (ds.map (·.name))))∧NK H' pd ds (fun d=>.lst ((Ul z sp d.name).map V.int)) i) ?_ ?_ ?_ ?_
 ·exact ⟨⟨_,rfl⟩,s0.trans (lb hpn),(nt0.upd).upd,db,[],rfl,by rw [qb (Ne.symm hpp),db];simp [nkv],fun i r d h=>by simp at h⟩
 ·rintro i σ H' hi zzq;refine zP fun zzM zzh=>?_
  obtain ⟨_,_,_,h,_⟩:=zzq;subst zzh;exact SqL.of h
 ·rintro i v σ H' hv zzq;refine zP fun zzM zzh=>?_
  obtain ⟨⟨y,rfl⟩,sm,nt,hpn',rs,hrl,hpd',hrs⟩:=zzq;obtain ⟨x,hx,rfl⟩:=Xb hv;obtain ⟨d,hd,rfl⟩:=Xb hx;subst zzh;walk_at "RD";refine ⟨z,p,d.name,sp,rfl,hz,L.same sm,hs,fun r1 H1 s1 n1 hr1 h1=>⟨r1,_,rfl,h1,by rw [Qj];exact hz,fun r2 H2 s2 n2 hr2 h2=>?_⟩⟩;have s12:=s1.trans s2;have hp2:=s12 _ _ hpd';refine ⟨_,nA.k (k:=Sum.inr d.name) hp2 (Nat.lt_of_le_of_lt (show (nkv ds rs).length ≤ 12 by unfold nkv;rw [List.length_map,List.length_zip];omega) (by decide)),?_⟩;have hdi:ds[rs.length]? = some d:=by rw [hrl];exact hd
  rw [Ht hnd hdi];have hne:∀ {b:Addr} {ys:List V},H2 b=some (.lst ys)→b ≠ pd:=fun e=>ze e hp2 (by intro z;cases z)
  refine ⟨⟨_,rfl⟩,fun b u e=>?_,(n2 (n1 nt)).upd,?_,rs ++ [r2],by rw [List.length_append,hrl];rfl,db,fun j r e hj he=>?_⟩
  ·rw [qb (wb e hpd)];exact s12 _ _ (sm _ _ e)
  ·rw [qb hpp];exact s12 _ _ hpn'
  ·rcases De hj with ⟨_,z2⟩ | ⟨z1,rfl⟩
   ·have:=s12 _ _ (hrs j r e z2 he);rw [qb (hne this)];exact this
   ·rw [z1] at he;rw [hdi] at he;cases he;rw [qb (hne h2)];exact h2
 rintro σ H1 zzq;refine zP fun zzM zzh=>?_
 obtain ⟨⟨y,rfl⟩,sm1,nt1,hpn1,N1⟩:=zzq;have hsl:(Hb (ds.map (·.name))).length=ds.length:=by unfold Hb;simp
 subst zzh;rw [hsl] at N1;obtain ⟨rs,hrl,hpd1,hrs⟩:=N1;have C1:=C.same sm1;walk_at "RD";refine ⟨_,_,sm1 _ _ e1,mw _ _ _ (by decide +kernel),c,n,ds,rfl,C1,fun p2 hp2=>⟨p2,rfl,⟨_,SqL.of db⟩,?_⟩⟩;refine Fh.list (xs:=Hb (ds.map (·.name))) (fun i σ H'=>(∃ y u v,σ=[some (V.ref c),some (V.int z),some (V.ref p),some (V.ref pd),y,u,v])∧Nb H1 H'∧NoT H'∧H' p2=some (.lst (Hb (ds.map (·.name))))) ?_ ?_ ?_ ?_
 ·exact ⟨⟨_,_,_,rfl⟩,lb hp2,nt1.upd,db⟩
 ·rintro i σ H' hi zzq;refine zP fun zzM zzh=>?_
  obtain ⟨_,_,_,h⟩:=zzq;subst zzh;exact SqL.of h
 ·rintro i v σ H2 hv zzq;refine zP fun zzM zzh=>?_
  obtain ⟨⟨y,u,v',rfl⟩,sm2,nt2,hpn2⟩:=zzq;obtain ⟨x,hx,rfl⟩:=Xb hv;obtain ⟨d1,hd1,rfl⟩:=Xb hx;obtain ⟨hi,hxi⟩:=List.getElem?_eq_some_iff.mp hd1;have hA:kC n z sp d1 ds=none:=List.findSome?_eq_none_iff.mp hN d1 (List.mem_of_getElem? hd1);have C2:=C1.same sm2;subst zzh;walk_at "RD";refine ⟨_,_,sm2 _ _ (sm1 _ _ e1),mw _ _ _ (by decide +kernel),c,n,ds,rfl,C2,fun p3 hp3=>⟨p3,rfl,⟨_,SqL.of db⟩,?_⟩⟩;refine Fh.list (xs:=Hb (ds.map (·.name))) (fun j σ H'=>(∃ y v,σ=[some (V.ref c),some (V.int z),some (V.ref p),some (V.ref pd),y,some (V.str d1.name),v])∧Nb H2 H'∧NoT H'∧H' p3=some (.lst (Hb (ds.map (·.name))))) ?_ ?_ ?_ ?_
  ·exact ⟨⟨_,_,rfl⟩,lb hp3,nt2.upd,db⟩
  ·rintro i σ H' hi zzq;refine zP fun zzM zzh=>?_
   obtain ⟨_,_,_,h⟩:=zzq;subst zzh;exact SqL.of h
  ·rintro j v σ H3 hv zzq;refine zP fun zzM zzh=>?_
   obtain ⟨⟨y,v',rfl⟩,sm3,nt3,hpn3⟩:=zzq;obtain ⟨x,hx,rfl⟩:=Xb hv;obtain ⟨d2,hd2,rfl⟩:=Xb hx;obtain ⟨hj,hxj⟩:=List.getElem?_eq_some_iff.mp hd2;have hB:(Ss n z sp d1 d2).map (fun i=>(d1,d2,i))=none:=List.findSome?_eq_none_iff.mp hA d2 (List.mem_of_getElem? hd2);have hB:Ss n z sp d1 d2=none:=by simpa using hB
   have C3:=C2.same sm3;have sm13:=sm2.trans sm3;subst zzh;walk_at "RD";refine Wc (decide (d1.name ≠ d2.name) && mt n d1 d2) (fun Q hQ=>?_) (fun c1=>?_) (fun c1=>?_)
   ·walk_at "RD";by_cases c0:d1.name=d2.name
    ·rw [decide_eq_false (fun z=>z c0),Bool.false_and] at hQ;rw [if_neg (by simp [c0])];exact hQ
    ·rw [decide_eq_true c0,Bool.true_and] at hQ;rw [if_pos (by simp [c0])];exact ⟨c,n,ds,i,j,d1,d2,rfl,C3,hn,hd1,hd2,nt3,_,rfl,hQ⟩
   ·rw [Bool.and_eq_true] at c1;have c2:Ss n z sp d1 d2=(Ly (NF d1 d2) (Ul z sp d1.name) (Ul z sp d2.name)).map (·.2):=by
     unfold Ss;rw [if_pos ⟨of_decide_eq_true c1.1,c1.2⟩]
    rw [c2] at hB;have hB:Ly (NF d1 d2) (Ul z sp d1.name) (Ul z sp d2.name)=none:=by simpa using hB
    have hr1:rs[i]? = some rs[i]:=List.getElem?_eq_getElem (by omega);have hr2:rs[j]? = some rs[j]:=List.getElem?_eq_getElem (by omega);have g1:wo H3 pd (.str d1.name) (some (.ref rs[i])):=by rw [← Hq hnd hd1 hr1];exact wo.k (k:=Sum.inr d1.name) (sm13 _ _ hpd1)
    have g2:wo H3 pd (.str d2.name) (some (.ref rs[j])):=by rw [← Hq hnd hd2 hr2];exact wo.k (k:=Sum.inr d2.name) (sm13 _ _ hpd1)
    walk_at "RD";refine ⟨_,g1,_,g2,c,n,ds,d1,d2,_,_,_,_,rfl,C3,List.mem_of_getElem? hd1,List.mem_of_getElem? hd2,sm13 _ _ (hrs i _ _ hr1 hd1),sm13 _ _ (hrs j _ _ hr2 hd2),by rw [gn,gn],by rw [gn];exact hz.2,hB,fun H4 s4 n4=>⟨(by first | exact ⟨_,_,rfl⟩ | exact ⟨_,rfl⟩ | simp),sm3.trans s4,n4 nt3,s4 _ _ hpn3⟩⟩
   ·exact ⟨⟨_,_,rfl⟩,sm3,nt3,hpn3⟩
  ·rintro σ H' zzq;refine zP fun zzM zzh=>?_
   obtain ⟨⟨y,v',rfl⟩,sm3,nt3,_⟩:=zzq;subst zzh;exact ⟨⟨_,_,_,rfl⟩,sm2.trans sm3,nt3,sm3 _ _ hpn2⟩
 ·rintro σ H' zzq;refine zP fun zzM zzh=>?_
  obtain ⟨_,sm,nt,_⟩:=zzq;subst zzh;exact q _ (sm1.trans sm) nt
end
end My
namespace My
open PySem L2
noncomputable abbrev nC:List Str:=[Str.ofString "crossing",Str.ofString "size",Str.ofString "spans",Str.ofString "lamps",Str.ofString "untils"]
noncomputable def plF (c:Addr) (z:Int) (p lm un:Addr):List (Str × V):=[(Str.ofString "crossing",.ref c),(Str.ofString "size",.int z),(Str.ofString "spans",.ref p),(Str.ofString "lamps",.ref lm),(Str.ofString "untils",.ref un)]
theorem Lo (c:Addr) (z:Int) (p lm un:Addr):(plF c z p lm un).map (·.1)=nC:=rfl
noncomputable def Dl (z:Nat) (sp:List SD) (d:WD):List Str:=Rh z (Dc d).toNat (Od d).toNat (ofN d.name sp)
noncomputable def gh (z:Nat) (sp:List SD) (x:Str):List Int:=Bm (fmF z (ofN x sp))
structure Jh (t:Adr) (H:Hp) (a c:Addr) (n:Int) (ds:List WD) (z:Nat) (sp:List SD):Prop where
 at_:∃ dx p lm un,H a=some (.ins t.qe dx (plF c z p lm un))∧Lc t H c n ds∧LO H p (List.map sdO sp)∧NK H lm ds (fun d=>.lst (Hb (Dl z sp d))) ds.length∧NK H un ds (fun d=>.lst ((gh z sp d.name).map V.int)) ds.length
noncomputable def FF (t:Adr):Sp:=fun vs H Q _=>∃ (a dx c:Addr) (n:Int) (ds:List WD) (z:Nat) (p:Addr) (sp:List SD),vs=[.ref a,.ref c,.int z,.ref p]∧H a=some (.ins t.qe dx [])∧Lc t H c n ds∧DOk ds∧(0 < z∧z ≤ 1000)∧LO H p (List.map sdO sp)∧AH z sp∧NoT H ∧
 ∀ H',Vc a H H'→NoT H'→Jh t H' a c n ds z sp→Q .non H'
noncomputable def oy (t:Adr):Sp:=fun vs H Q _=>∃ (c:Addr) (n:Int) (ds:List WD) (z:Nat) (p:Addr) (sp:List SD),vs=[.ref c,.int z,.ref p]∧Lc t H c n ds∧0 < n∧DOk ds∧(0 < z∧z ≤ 1000)∧LO H p (List.map sdO sp)∧AH z sp∧(∀ s ∈ sp,∃ d,wOf ds s.name=some d)∧NoT H∧Vs ds sp=none∧Qs ds z sp=none∧Vr n z sp ds=none ∧
 ∀ a H',Nb H H'→NoT H'→Jh t H' a c n ds z sp→Q (.ref a) H'
section
variable {w:World} {K:PySem.W.Frag} {mg:Str→Option Value} {t:Adr} {H:Hp} {a c dx p lm un:Addr} {z:Int}
theorem Hy (T:Txt w K mg t) (e:H a=some (.ins t.qe dx (plF c z p lm un))):nj K H a (Str.ofString "lamps") (.ref lm):=⟨_,dx,_,e,T.Ki,T.ym,ae nC 3 (Lo ..) (by decide +kernel) rfl⟩
theorem Ov (T:Txt w K mg t) (e:H a=some (.ins t.qe dx (plF c z p lm un))):nj K H a (Str.ofString "untils") (.ref un):=⟨_,dx,_,e,T.Ki,T.Lk,ae nC 4 (Lo ..) (by decide +kernel) rfl⟩
end
theorem KC {H:Hp} {a b C C' dx dx':Addr} {fs:List (Str × V)} (ha:H a=some (.ins C dx [])) (hb:H b=some (.ins C' dx' fs)) (hf:fs ≠ []):b ≠ a:=fun z=>by
 subst z;rw [hb] at ha;have e:=Option.some.inj ha;injection e with _ _ e3;exact hf e3
theorem Lc.sameX {t:Adr} {H H':Hp} {a c C dx:Addr} {n:Int} {ds:List WD} (h:Lc t H c n ds) (s:Vc a H H') (ha:H a=some (.ins C dx [])):Lc t H' c n ds:=by
 obtain ⟨h0,dx',wl,nd,e1,⟨as,w1,w2,al⟩,e3⟩:=h;refine ⟨h0,dx',wl,nd,s _ _ (KC ha e1 (by unfold cF;simp)) e1,⟨as,s _ _ (ze w1 ha (by intro z;cases z)) w1,w2,fun i b d hb hd=>?_⟩,s _ _ (ze e3 ha (by intro z;cases z)) e3⟩;obtain ⟨k,dxb,eb⟩:=al i b d hb hd;exact ⟨k,dxb,s _ _ (KC ha eb (by unfold eo;simp)) eb⟩
theorem LO.sameX {H H':Hp} {a p C dx:Addr} {sp:List SD} (h:LO H p (List.map sdO sp)) (s:Vc a H H') (ha:H a=some (.ins C dx [])):LO H' p (List.map sdO sp):=by
 obtain ⟨qs,l1,l2⟩:=h;refine ⟨qs,s _ _ (ze l1 ha (by intro z;cases z)) l1,l2.1,fun i q o hq ho=>?_⟩;have e:=l2.2 i q o hq ho;refine s _ _ (ze e ha ?_) e;obtain ⟨d,_,rfl⟩:=Xb ho;intro z;cases z
section
variable {P:Program} {w:World} {K:PySem.W.Frag} {mg:Str→Option Value} {base:Heap} {t:Adr}
theorem CK (T:Txt w K mg t):Lb P w K mg base CX0 4 t.mh t.Oi q51 (FF t):=by
 have g48:Lb P w K mg base CX0 3 t.Ay t.dz q39 (iD t):=(rH T).mono (by decide);have g19:Lb P w K mg base CX0 3 t.Se t.Me ["marks"] Qt:=(Px T).mono (by decide);have g20:Lb P w K mg base CX0 3 t.rg t.wg q28 MH:=(DK T).mono (by decide);have g11:Lb P w K mg base CX0 3 t.Oc t.ed ["self"] (om t):=(Do T).mono (by decide);have g8:Lb P w K mg base CX0 3 t.Tb t.gc q5 (ig t):=(nh T).mono (by decide);refine T.So.ok cj (fun vs H Q E h=>?_) (fun _ _ _ s H vs Q E hr h=>?_)
 ·obtain ⟨a,dx,c,n,ds,z,p,sp,rfl,_⟩:=h;rfl
 obtain ⟨a,dx,c,n,ds,z,p,sp,rfl,ha,C,hD,hz,L,hs,nt0,q⟩:=h;have hu:=Pw hr;refine ⟨_,(cb (Df (pv 0) (pv 1) rfl)
   (cb (Df (pv 0) (pv 2) rfl)
   (cb (Df (pv 0) (pv 3) rfl)
   (cb (Df (pv 0) Lm rfl)
   (cb (Df (pv 0) Lm rfl)
   (pb (Dd PassesOwn.never rfl (Sd (Xd (pv 1) T.Pb T.Cd g11 hr T.Bd .nil Cb)) (xb (i:=4) cj.nd rfl (Or.inl rfl)) (cb (xq hu (Bc (pv 0) rfl) (pv 4) (yb g48 hr rfl T.fJ T.cC.kp T.tK .nil Cb (ab (Xc (pv 1) T.Pb T.uc g8 hr T.vc .nil Cb (ab (pv 4) fb)) (ab (pv 2) (ab (pv 3) fb)))) rfl)
   (pb (xq hu (Bc (pv 0) rfl) (pv 4) (yb g19 hr rfl T.Vk T.gg.kp T.Dk .nil Cb (ab (yb g20 hr rfl T.Sn T.Dh.kp T.On .nil Cb (ab (pv 2) (ab (pv 3) (ab (pv 4) fb)))) fb)) rfl)))))))))),?_⟩
 walk_at "RD";refine ⟨_,_,_,ha,T.Ki,T.fj,by decide,?_⟩;refine ⟨_,_,_,db,T.Ki,T.Kn,Pm (n:=999) (by decide),?_⟩;refine ⟨_,_,_,db,T.Ki,T.Yt,Pm (n:=999) (Pm (n:=998) (by decide)),fun lm hlm=>?_⟩;simp only [Iq] at hlm ⊢;rw [show ai (Str.ofString "crossing") (V.ref c) ([]:List (Str × V))=[(Str.ofString "crossing",V.ref c)] from rfl,show ai (Str.ofString "size") (V.int z) [(Str.ofString "crossing",V.ref c)]=[(Str.ofString "crossing",V.ref c),(Str.ofString "size",V.int z)] from Hd [Str.ofString "crossing"] rfl (by decide +kernel),show ai (Str.ofString "spans") (V.ref p) [(Str.ofString "crossing",V.ref c),(Str.ofString "size",V.int z)]=[(Str.ofString "crossing",V.ref c),(Str.ofString "size",V.int z),(Str.ofString "spans",V.ref p)] from Hd [Str.ofString "crossing",Str.ofString "size"] rfl (by decide +kernel)] at hlm ⊢;have hla:a ≠ lm:=fun z=>by subst z;rw [db] at hlm;cases hlm
 have hHl:H lm=none:=by rw [qb (Ne.symm hla)] at hlm;exact hlm
 refine ⟨t.qe,dx,[(Str.ofString "crossing",V.ref c),(Str.ofString "size",V.int z),(Str.ofString "spans",V.ref p)],by rw [qb hla];exact db,T.Ki,T.ym,show (3:Nat) < 1000 by decide,fun un hun=>?_⟩;rw [show ai (Str.ofString "lamps") (V.ref lm) [(Str.ofString "crossing",V.ref c),(Str.ofString "size",V.int z),(Str.ofString "spans",V.ref p)]=[(Str.ofString "crossing",V.ref c),(Str.ofString "size",V.int z),(Str.ofString "spans",V.ref p),(Str.ofString "lamps",V.ref lm)] from Hd [Str.ofString "crossing",Str.ofString "size",Str.ofString "spans"] rfl (by decide +kernel)] at hun ⊢;have hua:a ≠ un:=fun z=>by subst z;rw [db] at hun;cases hun
 have hul:un ≠ lm:=fun z=>by subst z;rw [qb (Ne.symm hua),db] at hun;cases hun
 have hHu:H un=none:=by rw [qb (Ne.symm hua),qb hul,qb (Ne.symm hua)] at hun;exact hun
 refine ⟨t.qe,dx,[(Str.ofString "crossing",V.ref c),(Str.ofString "size",V.int z),(Str.ofString "spans",V.ref p),(Str.ofString "lamps",V.ref lm)],by rw [qb hua];exact db,T.Ki,T.Lk,show (4:Nat) < 1000 by decide,?_⟩;rw [show ai (Str.ofString "untils") (V.ref un) [(Str.ofString "crossing",V.ref c),(Str.ofString "size",V.int z),(Str.ofString "spans",V.ref p),(Str.ofString "lamps",V.ref lm)]=plF c z p lm un from Hd [Str.ofString "crossing",Str.ofString "size",Str.ofString "spans",Str.ofString "lamps"] rfl (by decide +kernel)];have hf:∃ H5:Hp,H5=upd (upd (upd (upd (upd H a (.ins t.qe dx [(Str.ofString "crossing",V.ref c),(Str.ofString "size",V.int z),(Str.ofString "spans",V.ref p)])) lm (.dK [])) a (.ins t.qe dx [(Str.ofString "crossing",V.ref c),(Str.ofString "size",V.int z),(Str.ofString "spans",V.ref p),(Str.ofString "lamps",V.ref lm)])) un (.dK [])) a (.ins t.qe dx (plF c z p lm un)):=⟨_,rfl⟩;obtain ⟨H5,h5⟩:=hf;rw [← h5];have g1:H5 a=some (.ins t.qe dx (plF c z p lm un)):=by rw [h5,db]
 have g2:H5 lm=some (.dK []):=by rw [h5,qb (Ne.symm hla),qb (Ne.symm hul),qb (Ne.symm hla),db]
 have g3:H5 un=some (.dK []):=by rw [h5,qb (Ne.symm hua),db]
 have g4:Vc a H H5:=fun b u hb e=>by rw [h5,qb hb,qb (wb e hHu),qb hb,qb (wb e hHl),qb hb];exact e
 have g5:NoT H5:=by rw [h5];exact ((((nt0.upd).upd).upd).upd).upd
 clear h5;have C5:=C.sameX g4 ha;obtain ⟨⟨hnd,hdl⟩,dxc,wl,nd,e1,_,_⟩:=id C5;refine ⟨_,_,e1,mw _ _ _ (by decide +kernel),c,n,ds,rfl,C5,fun pn hpn=>⟨pn,rfl,⟨_,SqL.of db⟩,?_⟩⟩;refine Fh.list (xs:=Hb (ds.map (·.name))) (fun i σ H'=>(∃ y,σ=[some (V.ref a),some (V.ref c),some (V.int z),some (V.ref p),y])∧Vc a H H'∧NoT H'∧H' a=some (.ins t.qe dx (plF c z p lm un))∧H' pn=some (.lst (Hb (ds.map (·.name))))∧NK H' lm ds (fun d=>.lst (Hb (Dl z sp d))) i∧NK H' un ds (fun d=>.lst ((gh z sp d.name).map V.int)) i) ?_ ?_ ?_ ?_
 ·have sn:=lb (o:=.lst (Hb (ds.map (·.name)))) hpn;exact ⟨⟨_,rfl⟩,g4.trans (Vc.of sn),g5.upd,sn _ _ g1,db,⟨[],rfl,by rw [sn _ _ g2];simp [nkv],fun i r d h=>by simp at h⟩,⟨[],rfl,by rw [sn _ _ g3];simp [nkv],fun i r d h=>by simp at h⟩⟩
 ·rintro i σ H' hi zzq;refine zP fun zzM zzh=>?_
  obtain ⟨_,_,_,_,h,_⟩:=zzq;subst zzh;exact SqL.of h
 ·rintro i v σ H' hv zzq;refine zP fun zzM zzh=>?_
  obtain ⟨⟨y,rfl⟩,sx,nt,ha',hpn',⟨rl,hrl,hlm',hrs⟩,⟨ru,hru,hun',hus⟩⟩:=zzq;obtain ⟨x,hx,rfl⟩:=Xb hv;obtain ⟨d,hd,rfl⟩:=Xb hx;have C':=C.sameX sx ha;have L':=L.sameX sx ha;obtain ⟨_,dxc',wl',nd',e1',_,_⟩:=id C';subst zzh;walk_at "RD";refine ⟨_,_,e1',mw _ _ _ (by decide +kernel),c,n,ds,i,d,rfl,C',hd,fun wa W=>?_⟩;have hdi:ds[rl.length]? = some d:=by rw [hrl];exact hd
  have hdj:ds[ru.length]? = some d:=by rw [hru];exact hd
  refine ⟨wa,d,z,p,sp,rfl,hz,W,L',hs,hD d (List.mem_of_getElem? hd),fun r1 H1 s1 n1 hr1 h1=>⟨_,Hy T (s1 _ _ ha'),lm,rfl,_,nA.k (k:=Sum.inr d.name) (s1 _ _ hlm') (Nat.lt_of_le_of_lt (show (nkv ds rl).length ≤ 12 by unfold nkv;rw [List.length_map,List.length_zip];omega) (by decide)),?_⟩⟩;rw [Ht hnd hdi];have kl:∀ {b:Addr} {u:HO},H' b=some u→b ≠ lm→upd H1 lm (.dK (nkv ds (rl ++ [r1]))) b=some u:=fun e h=>by rw [qb h];exact s1 _ _ e
  have k1:Vc a H (upd H1 lm (.dK (nkv ds (rl ++ [r1])))):=fun b u hb e=>kl (sx b u hb e) (wb e hHl)
  refine ⟨z,p,d.name,sp,rfl,hz,L.sameX k1 ha,hs,fun r3 H3 s3 n3 hr3 h3=>⟨r3,_,rfl,h3,by rw [Qj];exact hz,fun r4 H4 s4 n4 hr4 h4=>?_⟩⟩;have s34:=s3.trans s4;have un2:H4 un=some (.dK (nkv ds ru)):=s34 _ _ (kl hun' hul);have a2:H4 a=some (.ins t.qe dx (plF c z p lm un)):=s34 _ _ (kl ha' hla);refine ⟨_,Ov T a2,un,rfl,_,nA.k (k:=Sum.inr d.name) un2 (Nat.lt_of_le_of_lt (show (nkv ds ru).length ≤ 12 by unfold nkv;rw [List.length_map,List.length_zip];omega) (by decide)),?_⟩;rw [Ht hnd hdj];have ku:∀ {b:Addr} {u:HO},upd H1 lm (.dK (nkv ds (rl ++ [r1]))) b=some u→b ≠ un→upd H4 un (.dK (nkv ds (ru ++ [r4]))) b=some u:=fun e h=>by rw [qb h];exact s34 _ _ e
  have nel:∀ {b:Addr} {ys:List V},H' b=some (.lst ys)→b ≠ lm:=fun e=>ze e hlm' (by intro z;cases z)
  have neu:∀ {b:Addr} {ys:List V},H' b=some (.lst ys)→b ≠ un:=fun e=>ze e hun' (by intro z;cases z)
  have r1l:r1 ≠ lm:=ze h1 (s1 _ _ hlm') (by intro z;cases z);have r1u:r1 ≠ un:=ze h1 (s1 _ _ hun') (by intro z;cases z);have r4u:r4 ≠ un:=ze h4 un2 (by intro z;cases z);refine ⟨⟨_,rfl⟩,fun b u hb e=>ku (k1 b u hb e) (wb e hHu),(n4 (n3 (n1 nt).upd)).upd,ku (kl ha' hla) hua,ku (kl hpn' (nel hpn')) (neu hpn'),⟨rl ++ [r1],by rw [List.length_append,hrl];rfl,ku db (Ne.symm hul),fun j r e hj he=>?_⟩,⟨ru ++ [r4],by rw [List.length_append,hru];rfl,db,fun j r e hj he=>?_⟩⟩
  ·rcases De hj with ⟨_,z2⟩ | ⟨z1,rfl⟩
   ·have:=hrs j r e z2 he;exact ku (kl this (nel this)) (neu this)
   ·rw [z1,hdi] at he;cases he;exact ku (by rw [qb r1l];exact h1) r1u
  ·rcases De hj with ⟨_,z2⟩ | ⟨z1,rfl⟩
   ·have:=hus j r e z2 he;exact ku (kl this (nel this)) (neu this)
   ·rw [z1,hdj] at he;cases he;rw [qb r4u];exact h4
 ·rintro σ H' zzq;refine zP fun zzM zzh=>?_
  obtain ⟨_,sx,nt,ha',_,N1,N2⟩:=zzq;have hsl:(Hb (ds.map (·.name))).length=ds.length:=by unfold Hb;simp
  subst zzh;rw [hsl] at N1 N2;exact q _ sx nt ⟨dx,p,lm,un,ha',C.sameX sx ha,L.sameX sx ha,N1,N2⟩
theorem nE (T:Txt w K mg t):Lb P w K mg base CX0 6 t.Ti t.Yi q45 (oy t):=by
 have g8:Lb P w K mg base CX0 5 t.Tb t.gc q5 (ig t):=(nh T).mono (by decide);have g49:Lb P w K mg base CX0 4 t.mh t.Oi q51 (FF t):=CK T;have g50:Lb P w K mg base CX0 5 t.Wf t.Tf q42 (Dv t):=(bC T).mono (by decide);have g51:Lb P w K mg base CX0 5 t.Vf t.Sf q12 (av t):=(fD T).mono (by decide);have g52:Lb P w K mg base CX0 5 t.Yf t.eg q12 (yv t):=XC T;refine T.Al.ok lg (fun vs H Q E h=>?_) (fun _ _ _ s H vs Q E hr h=>?_)
 ·obtain ⟨c,n,ds,z,p,sp,rfl,_⟩:=h;rfl
 obtain ⟨c,n,ds,z,p,sp,rfl,C,hn,hD,hz,L,hs,hw,nt0,hN,hS,hC,q1⟩:=h;refine ⟨_,(cb (oi (i:=3) lg.nd rfl (Or.inl rfl) rfl (Sd (pv 2)) (Qc (sc:=rb ol) rfl (by decide +kernel)) (N:=q53) (sel:=[none,none,none]) (ud (M:=["crossing","size","rows","spans","name","begin","turns"]) (by decide +kernel)) (Blk.of (fun _ _ _ _=>(Vd (K:=K) (n:=3) rfl rfl (Eb (xb (i:=0) (Bg (N:=q53) (by decide +kernel) rfl) rfl (Or.inl rfl) (.inr rfl)) (Eb (xb (i:=1) (Bg (N:=q53) (by decide +kernel) rfl) rfl (Or.inl rfl) (.inr rfl)) (Eb (xb (i:=2) (Bg (N:=q53) (by decide +kernel) rfl) rfl (Or.inl rfl) (.inr rfl)) Ud))))) (fun _ _ _ _=>⟨_,uf,by walk_at "B"⟩) (fun _ _ _ _=>⟨_,(bj (ab (pv 0) (ab (pv 1) (ab (pv 2) fb)))),by walk_at "B"⟩)) rfl)
   (cb (Dd PassesOwn.never rfl (Sd (pv 3)) (Vd (K:=K) (n:=3) rfl rfl (Eb (xb (i:=4) lg.nd rfl (Or.inl rfl) (.inl rfl)) (Eb (xb (i:=5) lg.nd rfl (Or.inl rfl) (.inl rfl)) (Eb (xb (i:=6) lg.nd rfl (Or.inl rfl) (.inl rfl)) Ud)))) (pb (xc (Xc (pv 0) T.Pb T.uc g8 hr T.vc .nil Cb (ab (pv 4) fb)))))
   (cb (xc (yb g50 hr rfl T.Zq T.Ph.kp T.mr .nil Cb (ab (pv 0) (ab (pv 3) fb))))
   (cb (xc (yb g51 hr rfl T.Qr T.Vh.kp T.Ar .nil Cb (ab (pv 0) (ab (pv 1) (ab (pv 3) fb)))))
   (cb (xc (yb g52 hr rfl T.Oq T.Sh.kp T.Pq .nil Cb (ab (pv 0) (ab (pv 1) (ab (pv 3) fb)))))
   (pb (Jb (Vm T.RJ g49 hr rfl T.AJ T.sw .nil Cb (ab (pv 0) (ab (pv 1) (ab (pv 3) fb))))))))))),?_⟩
 walk_at "RD";obtain ⟨qs,l1,lq⟩:=L;have hql:qs.length=sp.length:=by rw [lq.1,List.length_map]
 have hs1:=hs.1;refine ⟨⟨_,SqL.of l1⟩,?_⟩;refine vd.list (xs:=qs.map V.ref) (fun i ys H'=>∃ os:List Addr,ys=os.map V.ref∧LQ H' os ((sp.take i).map sdO)∧Nb H H'∧NoT H') (Nat.le_trans (show (qs.map V.ref).length ≤ 100 by rw [List.length_map];omega) (by decide)) ⟨[],rfl,by rw [List.take_zero];exact LQ.nil _,Nb.refl _,nt0⟩ ?_ ?_ ?_
 ·rintro i ys H' hi zzq;refine zP fun zzM zzh=>?_
  obtain ⟨os,rfl,r,sm,_⟩:=zzq;subst zzh;refine ⟨(SqL.of l1).same sm,?_⟩;rw [List.length_map,r.1,List.length_map,List.length_take];omega
 ·rintro i v ys H' hv ⟨os,rfl,r,sm,nt⟩ N hN;obtain ⟨qi,hqi,rfl⟩:=Xb hv;obtain ⟨o,ho,e⟩:=lq.at hqi;obtain ⟨d,hd,rfl⟩:=Xb ho;have e':=sm _ _ e;dsimp only at hN;rw [Ve hd,List.map_append] at hN;walk_at "RD";refine ⟨_,SqT.of e',rfl,_,_,rfl,_,_,rfl,_,_,rfl,rfl,Sub.name3,by decide,fun p1 hp1=>?_⟩;exact hN _ _ ⟨os ++ [p1],by rw [List.map_append];rfl,(r.same (lb hp1)).app (LQ.one db),sm.trans (lb hp1),nt.upd⟩
 rintro ys H1 ⟨os,rfl,r,sm1,nt1⟩ p1 hp1;rw [List.take_of_length_le (by rw [List.length_map];omega)] at r;have s2:Nb H1 (upd H1 p1 (.lst (os.map V.ref))):=lb hp1;have nt2:NoT (upd H1 p1 (.lst (os.map V.ref))):=nt1.upd;have L2:LO (upd H1 p1 (.lst (os.map V.ref))) p1 (List.map sdO sp):=⟨os,db,r.same s2⟩;have sm2:=sm1.trans s2;generalize upd H1 p1 (.lst (os.map V.ref))=H2 at s2 nt2 L2 sm2 ⊢;have C2:=C.same sm2;obtain ⟨_,dxc,wl,nd,e1,_,_⟩:=id C2;obtain ⟨qs2,m1,mq⟩:=id L2;have hql2:qs2.length=sp.length:=by rw [mq.1,List.length_map]
 walk_at "RD";refine ⟨⟨_,SqL.of m1⟩,?_⟩;refine Fh.list (xs:=qs2.map V.ref) (fun i σ H'=>(∃ x y z',σ=[some (V.ref c),some (V.int z),some (V.ref p),some (V.ref p1),x,y,z'])∧H'=H2) ?_ ?_ ?_ ?_
 ·exact ⟨⟨_,_,_,rfl⟩,rfl⟩
 ·rintro i σ H' hi ⟨_,rfl⟩;exact SqL.of m1
 ·rintro i v σ H' hv zzq;refine zP fun zzM zzh=>?_
  obtain ⟨⟨x,y,z',rfl⟩,rfl⟩:=zzq;obtain ⟨qi,hqi,rfl⟩:=Xb hv;obtain ⟨o,ho,e⟩:=mq.at hqi;obtain ⟨sd,hsd,rfl⟩:=Xb ho;obtain ⟨d,hd⟩:=hw sd (List.mem_of_getElem? hsd);obtain ⟨hdn,j,hj⟩:=yG hd;subst zzh;walk_at "RD";exact ⟨_,SqT.of e,rfl,_,_,rfl,_,_,rfl,_,_,rfl,rfl,_,_,e1,mw _ _ _ (by decide +kernel),c,n,ds,j,d,by rw [hdn],C2,hj,fun a W=>⟨(by first | exact ⟨_,_,_,rfl⟩ | exact ⟨_,_,rfl⟩ | exact ⟨_,rfl⟩ | simp),rfl⟩⟩
 rintro σ H' zzq;refine zP fun zzM zzh=>?_
 obtain ⟨⟨x,y,z',rfl⟩,rfl⟩:=zzq;subst zzh;walk_at "RD";refine ⟨c,n,ds,p1,sp,rfl,C2,L2,hs1,hN,fun H3 s3 n3=>?_⟩;have nt3:=n3 nt2;have C3:=C2.same s3;have L3:=L2.same s3;walk_at "RD";refine ⟨c,n,ds,z,p1,sp,rfl,C3,hD,⟨by omega,by omega⟩,L3,hs,hw,hS,fun H4 s4 n4=>?_⟩;have nt4:=n4 nt3;have C4:=C3.same s4;have L4:=L3.same s4;walk_at "RD";refine ⟨c,n,ds,z,p1,sp,rfl,C4,hn,hz,L4,hs,nt4,hC,fun H5 s5 nt5=>?_⟩;have C5:=C4.same s5;have L5:=L4.same s5;walk_at "RD";intro a dx ha hdx hne;have sc:Nb H5 (upd (upd H5 dx (.own a)) a (.ins t.qe dx [])):=((Nb.refl H5).updN hdx).updN ha;refine ⟨a,dx,c,n,ds,z,p1,sp,rfl,db,C5.same sc,hD,hz,L5.same sc,hs,(nt5.upd).upd,fun H6 s6 nt6 PA=>⟨rfl,?_⟩⟩;have sm5:=((sm2.trans s3).trans s4).trans s5;exact q1 a H6 (me (sm5.trans sc) s6 (sm5.free ha)) nt6 PA
end
end My
namespace My
open PySem L2
noncomputable abbrev S (x:String):Str:=Str.ofString x
noncomputable def zk (s:SD):List Str:=[S "free",s.name,num s.b,num s.n]
noncomputable def Af (z:Int) (sp:List SD):List (List Str):=[S "round",num z] :: sp.map zk
noncomputable def oC (z:Int) (sp:List SD):Str:=Str.join nl ((Af z sp).map (Str.join bk))
noncomputable def jm (ds:List WD) (sp:List SD):List Str:=(ds.map (·.name)).filter fun x=>decide ((ofN x sp).length < 3)
noncomputable def YK (z:Int) (d:SD):Prop:=0 ≤ d.b∧d.b < z∧1 ≤ d.n∧d.n ≤ z
structure Fx (z:Int) (ds:List WD) (sp:List SD):Prop where
 ln:sp.length ≤ 40
 nm:∀ s ∈ sp,made s.name Ag 8=true
 kn:∀ (i:Nat) (d:SD),sp[i]? = some d→d.name ∈ jm ds (sp.take i)
 sd:∀ s ∈ sp,YK z s
noncomputable def BC (t:Adr):Sp:=fun vs H Q _=>∃ q row z,vs=[.ref q]∧kf t H q row [S "round",num z] 0∧(1 ≤ z∧z ≤ 240)∧NoT H∧RL q H (Q (.int z))
noncomputable def MB (t:Adr):Sp:=fun vs H Q _=>∃ q row c n ds z p sp d,vs=[.ref q,.ref c,.int z,.ref p]∧kf t H q row (zk d) 0∧Lc t H c n ds∧(1 ≤ z∧z ≤ 240)∧LO H p (List.map sdO sp)∧sp.length ≤ 100∧NoT H∧d.name ∈ jm ds sp∧YK z d ∧
 ∀ x H',Vc q H H'→NoT H'→H' x=some (sdO d)→H x=none→Q (.ref x) H'
noncomputable def Ny (t:Adr):Sp:=fun vs H Q _=>∃ (c:Addr) (n:Int) (ds:List WD) (z:Nat) (sp:List SD),vs=[.ref c,.str (oC z sp)]∧Lc t H c n ds∧0 < n∧DOk ds∧(1 ≤ z∧z ≤ 240)∧Fx z ds sp∧NoT H∧Vs ds sp=none∧Qs ds z sp=none∧Vr n z sp ds=none ∧
 ∀ a H',Nb H H'→NoT H'→Jh t H' a c n ds z sp→Q (.ref a) H'
theorem Fx.ok {z:Int} {ds:List WD} {sp:List SD} (h:Fx z ds sp) (hz:z ≤ 240):AH z sp:=⟨Nat.le_trans h.ln (by decide),fun d hd=>by have:=h.sd d hd;unfold YK at this;omega⟩
theorem Fx.wOf {z:Int} {ds:List WD} {sp:List SD} (h:Fx z ds sp):∀ s ∈ sp,∃ d,wOf ds s.name=some d:=fun s hs=>by
 obtain ⟨i,hi⟩:=List.getElem?_of_mem hs;obtain ⟨d,hd,e⟩:=List.mem_map.mp (List.mem_filter.mp (h.kn i s hi)).1;unfold My.wOf;cases hf:ds.find? fun d=>decide (d.name=s.name) with
 | some d'=>exact ⟨d',rfl⟩
 | none=>exact absurd (List.find?_eq_none.mp hf d hd) (by simp [e])
theorem Xr {z:Nat} {ds:List WD} {sp:List SD} (hz:z ≤ 240) (h:Fx z ds sp):(ji (oC z sp)=Af z sp)∧(oC z sp).length ≤ 20000∧∀ r ∈ Af z sp,r ≠ []∧r.length ≤ 1000∧∀ y ∈ r,y.length ≤ 1000:=by
 have pl:∀ r ∈ Af z sp,(r ≠ []∧r.length ≤ 4)∧∀ x ∈ r,Yw x:=fun r hr=>by
  rcases List.mem_cons.mp hr with rfl | hr
  ·refine ⟨⟨by simp,by simp⟩,fun x hx=>?_⟩;simp only [List.mem_cons,List.not_mem_nil,or_false] at hx;rcases hx with rfl | rfl
   ·exact ⟨by decide +kernel,by decide +kernel,by decide +kernel⟩
   ·exact Nd (by omega) (by omega)
  ·obtain ⟨s,hs,rfl⟩:=List.mem_map.mp hr;have g:=h.sd s hs;unfold YK at g;refine ⟨⟨by simp [zk],by simp [zk]⟩,fun x hx=>?_⟩;simp only [zk,List.mem_cons,List.not_mem_nil,or_false] at hx;rcases hx with rfl | rfl | rfl | rfl
   ·exact ⟨by decide +kernel,by decide +kernel,by decide +kernel⟩
   ·exact Wm (h.nm s hs)
   ·exact Nd (by omega) (by omega)
   ·exact Nd (by omega) (by omega)
 refine ⟨Bv (by simp [Af]) (fun r hr=>(pl r hr).1.1) fun r hr=>(pl r hr).2,?_,fun r hr=>⟨(pl r hr).1.1,Nat.le_trans (pl r hr).1.2 (by decide),fun y hy=>Nat.le_trans ((pl r hr).2 y hy).1 (by decide)⟩⟩;have h1:∀ y ∈ (Af z sp).map (Str.join bk),y.length ≤ 36:=fun y hy=>by
  obtain ⟨r,hr,rfl⟩:=List.mem_map.mp hy;have:=nq bk 8 r fun x hx=>((pl r hr).2 x hx).1
  rw [iy] at this;have:=(pl r hr).1.2;omega
 have h2:=nq nl 36 _ h1;rw [Nu] at h2;have h3:((Af z sp).map (Str.join bk)).length ≤ 41:=by
  have:=h.ln;simp [Af];omega
 unfold oC;omega
theorem Lc.sameR {t:Adr} {H H':Hp} {q c:Addr} {n:Int} {ds:List WD} {row:Int} {ws:List Str} {k:Nat} (h:Lc t H c n ds) (s:Vc q H H') (R:kf t H q row ws k):Lc t H' c n ds:=by
 obtain ⟨h0,dx',wl,nd,e1,⟨as,w1,w2,al⟩,e3⟩:=h;obtain ⟨_,dq,ta,f1,f2⟩:=id R;refine ⟨h0,dx',wl,nd,s _ _ (fun z=>?_) e1,⟨as,s _ _ (ze w1 f1 (by intro z;cases z)) w1,w2,fun i b d hb hd=>?_⟩,s _ _ (ze e3 f1 (by intro z;cases z)) e3⟩
 ·subst z;rw [e1] at f1;have e:=Option.some.inj f1;injection e with _ _ e4;unfold cF rdF at e4;injection e4 with e5 _;injection e5 with e6 _;exact absurd e6 (by decide +kernel)
 ·have W:=al i b d hb hd;have hn:=Uu W R;exact ⟨W.1,W.2.imp fun dx e=>s _ _ hn e⟩
theorem LO.sameR {t:Adr} {H H':Hp} {q p:Addr} {sp:List SD} {row:Int} {ws:List Str} {k:Nat} (h:LO H p (List.map sdO sp)) (s:Vc q H H') (R:kf t H q row ws k):LO H' p (List.map sdO sp):=by
 obtain ⟨_,dq,ta,f1,f2⟩:=id R;obtain ⟨qs,l1,l2⟩:=h;refine ⟨qs,s _ _ (ze l1 f1 (by intro z;cases z)) l1,l2.1,fun i q o hq ho=>?_⟩;have e:=l2.2 i q o hq ho;refine s _ _ (ze e f1 ?_) e;obtain ⟨d,_,rfl⟩:=Xb ho;intro z;cases z
section
variable {P:Program} {w:World} {K:PySem.W.Frag} {mg:Str→Option Value} {base:Heap} {t:Adr}
theorem FG (T:Txt w K mg t):Lb P w K mg base CX0 5 t.Xi t.Gi ["reader"] (BC t):=by
 have g12:Lb P w K mg base CX0 4 t.Ac t.Nc q18 (wm K t):=(Mo T).mono (by decide);have g9:Lb P w K mg base CX0 4 t.Yb t.nc q15 (Qm t):=yp T;have g14:Lb P w K mg base CX0 4 t.yc t.Kc ["self"] (Du t):=(Xx T).mono (by decide);refine T.Ol.ok Pn (fun vs H Q E h=>?_) (fun _ _ _ s H vs Q E hr h=>?_)
 ·obtain ⟨q,row,z,rfl,_⟩:=h;rfl
 obtain ⟨q,row,z,rfl,R,hz,nt,qq⟩:=h;refine ⟨_,(cb (xc (Xc (pv 0) T.zb T.Gd g12 hr T.Fd .nil Cb (ab (se (ab Rc fb)) fb)))
   (cb (Bb (i:=1) Pn.nd rfl (Or.inl rfl) (Xc (pv 0) T.zb T.ac g9 hr T.Zb .nil Cb (ab ub (ab (Cg rfl T.Qw T.Hx) fb))))
   (cb (xc (Xd (pv 0) T.zb T.oe g14 hr T.re .nil Cb))
   (pb (Jb (pv 1)))))),?_⟩
 obtain ⟨_,dx,ta,e1,e2⟩:=id R;walk_at "RD";refine ⟨_,_,e1,kf.no _ _ _ (by decide +kernel),by decide,fun p hp=>?_⟩;have s0:Nb H (upd H p (.lst [V.str (Str.ofString "round")])):=lb hp;refine ⟨q,row,_,0,_,p,[Str.ofString "round"],rfl,R.same s0,rfl,SqL.of db,by simp,fun H1 s1 n1 R1=>?_⟩;obtain ⟨_,dx1,ta1,f1,f2⟩:=id R1;walk_at "RD";refine ⟨_,_,f1,kf.no _ _ _ (by decide +kernel),⟨q,row,_,1,_,1,240,z,rfl,R1,rfl,Pi (by omega) (by omega) (by omega) (by omega),n1 nt.upd,fun H2 s2 n2 R2=>?_⟩⟩;obtain ⟨_,dx2,ta2,g1,g2⟩:=id R2;walk_at "RD";refine ⟨_,_,g1,kf.no _ _ _ (by decide +kernel),⟨q,row,_,2,rfl,R2,rfl,?_⟩⟩;exact qq H2 (((Vc.of s0).trans s1).trans s2) (n2 (n1 nt.upd))
theorem PH (T:Txt w K mg t):Lb P w K mg base CX0 5 t.Ai t.Ci q40 (MB t):=by
 have g12:Lb P w K mg base CX0 4 t.Ac t.Nc q18 (wm K t):=(Mo T).mono (by decide);have g9:Lb P w K mg base CX0 4 t.Yb t.nc q15 (Qm t):=yp T;have g14:Lb P w K mg base CX0 4 t.yc t.Kc ["self"] (Du t):=(Xx T).mono (by decide);have g10:Lb P w K mg base CX0 4 t.cf t.df q10 Xm:=(Bq T).mono (by decide);have g11:Lb P w K mg base CX0 4 t.Oc t.ed ["self"] (om t):=(Do T).mono (by decide);refine T.Jl.ok rh (fun vs H Q E h=>?_) (fun _ _ _ s H vs Q E hr h=>?_)
 ·obtain ⟨q,row,c,n,ds,z,p,sp,d,rfl,_⟩:=h;rfl
 obtain ⟨q,row,c,n,ds,z,p,sp,d,rfl,R,C,hz,L,hsl,nt,hk,⟨b0,b1,n0,n1⟩,qq⟩:=h;refine ⟨_,(cb (xc (Xc (pv 0) T.zb T.Gd g12 hr T.Fd .nil Cb (ab (se (ab Rc fb)) fb)))
   (cb (Bb (i:=4) rh.nd rfl (Or.inl rfl) (Xc (pv 0) T.zb T.Gd g12 hr T.Fd .nil Cb (ab (Jf rfl (Sd (Xd (pv 1) T.Pb T.Cd g11 hr T.Bd .nil Cb)) (Qc (sc:=rb El) rfl (by decide +kernel)) (N:=["known","spans"]) (sel:=[none,some 3]) (ud (M:=["reader","crossing","size","spans","name","begin","turns"]) (by decide +kernel)) (Blk.of (fun _ _ _ _=>(xb (i:=0) (Bg (N:=["known","spans"]) (by decide +kernel) rfl) rfl (Or.inl rfl))) (fun _ _ _ _=>⟨_,(zt (bc cn (Vb Fb rfl T.xg Ob (ab (yb g10 hr rfl T.ii T.Gf.kp T.ei .nil Cb (ab (pv 1) (ab (pv 0) fb))) fb)) (Cg rfl T.Xu T.bv) (qc _))),by walk_at "B"⟩) (fun _ _ _ _=>⟨_,(pv 0),by walk_at "B"⟩))) fb)))
   (cb (Bb (i:=5) rh.nd rfl (Or.inl rfl) (Xc (pv 0) T.zb T.ac g9 hr T.Zb .nil Cb (ab ub (ab (Gb Oe (pv 2) ub) fb))))
   (cb (Bb (i:=6) rh.nd rfl (Or.inl rfl) (Xc (pv 0) T.zb T.ac g9 hr T.Zb .nil Cb (ab ub (ab (pv 2) fb))))
   (cb (xc (Xd (pv 0) T.zb T.oe g14 hr T.re .nil Cb))
   (pb (Jb (bj (ab (pv 4) (ab (pv 5) (ab (pv 6) fb))))))))))),?_⟩
 obtain ⟨_,dx,ta,e1,e2⟩:=id R;walk_at "RD";refine ⟨_,_,e1,kf.no _ _ _ (by decide +kernel),by decide,fun p0 hp0=>?_⟩;have s0:Nb H (upd H p0 (.lst [V.str (Str.ofString "free")])):=lb hp0;refine ⟨q,row,_,0,_,p0,[Str.ofString "free"],rfl,R.same s0,rfl,SqL.of db,by simp,fun H1 s1 n1' R1=>?_⟩;obtain ⟨_,dx1,ta1,f1,f2⟩:=id R1;have nt1:=n1' nt.upd;have x1:Vc q H H1:=(Vc.of s0).trans s1;have C1:=C.sameR x1 R;have L1:=L.sameR x1 R;obtain ⟨⟨_,hdl⟩,dxc,wl,nd,g1,_,_⟩:=id C1;walk_at "RD";refine ⟨_,_,f1,kf.no _ _ _ (by decide +kernel),_,_,g1,mw _ _ _ (by decide +kernel),c,n,ds,rfl,C1,fun pn hpn=>⟨pn,rfl,⟨_,SqL.of db⟩,?_⟩⟩;have sn:Nb H1 (upd H1 pn (.lst (Hb (ds.map (·.name))))):=lb hpn;have hsl':(Hb (ds.map (·.name))).length=ds.length:=by unfold Hb;simp
 refine vd.list (xs:=Hb (ds.map (·.name))) (fun i ys H'=>ys=Hb (((ds.map (·.name)).take i).filter fun x=>decide ((ofN x sp).length < 3))∧Nb (upd H1 pn (.lst (Hb (ds.map (·.name))))) H'∧NoT H') (Nat.le_trans (show _ ≤ 12 by rw [hsl'];omega) (by decide)) ⟨by rw [List.take_zero];rfl,Nb.refl _,nt1.upd⟩ ?_ ?_ ?_
 ·rintro i ys H' hi ⟨rfl,sm,_⟩;refine ⟨SqL.of (sm _ _ db),?_⟩;unfold Hb;rw [List.length_map];exact Nat.le_trans (List.length_filter_le ..) (by rw [List.length_take];omega)
 ·rintro i v ys H' hv ⟨rfl,sm,nt'⟩ N hN;obtain ⟨x,hx,rfl⟩:=Xb hv;dsimp only at hN;rw [Ve hx,List.filter_append] at hN;walk_at "RD";refine ⟨Sub.name,p,x,sp,rfl,(L1.same sn).same sm,hsl,fun r H2 s2 n2 ⟨qs,m1,m2⟩=>⟨r,rfl,_,.inl (SqL.of m1),?_⟩⟩;have hml:qs.length=(ofN x sp).length:=by rw [m2.1,List.length_map]
  rw [List.length_map,hml];by_cases c0:(ofN x sp).length < 3
  ·rw [if_pos (decide_eq_true (by omega))];refine hN _ _ ⟨?_,sm.trans s2,n2 nt'⟩;rw [List.filter_cons_of_pos (by simpa using c0)];unfold Hb;rw [List.map_append];rfl
  ·rw [if_neg (by rw [decide_eq_true_eq];omega)];refine hN _ _ ⟨?_,sm.trans s2,n2 nt'⟩;rw [List.filter_cons_of_neg (by simpa using c0),List.filter_nil,List.append_nil]
 rintro ys H2 ⟨rfl,sm2,nt2⟩ pk hpk;rw [hsl',List.take_of_length_le (by rw [List.length_map];exact Nat.le_refl _)];rw [show (ds.map (·.name)).filter (fun x=>decide ((ofN x sp).length < 3))=jm ds sp from rfl];have sk:Nb H1 (upd H2 pk (.lst (Hb (jm ds sp)))):=(sn.trans sm2).trans (lb hpk);have ntk:NoT (upd H2 pk (.lst (Hb (jm ds sp)))):=nt2.upd;have hkk:upd H2 pk (.lst (Hb (jm ds sp))) pk=some (.lst (Hb (jm ds sp))):=db;generalize upd H2 pk (.lst (Hb (jm ds sp)))=H3 at sk ntk hkk ⊢;walk_at "RD";refine ⟨q,row,_,1,_,pk,jm ds sp,rfl,R1.same sk,rfl,SqL.of hkk,hk,fun H4 s4 n4 R4=>?_⟩;have nt4:=n4 ntk;have x4:Vc q H H4:=(x1.trans (Vc.of sk)).trans s4;obtain ⟨_,dx4,ta4,i1,i2⟩:=id R4;walk_at "RD";refine ⟨_,_,i1,kf.no _ _ _ (by decide +kernel),⟨q,row,_,2,_,0,z - 1,d.b,rfl,R4,rfl,Pi b0 (by omega) b0 (by omega),nt4,fun H5 s5 n5 R5=>?_⟩⟩;have nt5:=n5 nt4;have x5:Vc q H H5:=x4.trans s5;obtain ⟨_,dx5,ta5,j1,j2⟩:=id R5;walk_at "RD";refine ⟨_,_,j1,kf.no _ _ _ (by decide +kernel),⟨q,row,_,3,_,1,z,d.n,rfl,R5,rfl,Pi (by omega) (by omega) n0 n1,nt5,fun H6 s6 n6 R6=>?_⟩⟩;have nt6:=n6 nt5;have x6:Vc q H H6:=x5.trans s6;obtain ⟨_,dx6,ta6,k1,k2⟩:=id R6;walk_at "RD";refine ⟨_,_,k1,kf.no _ _ _ (by decide +kernel),⟨q,row,_,4,rfl,R6,rfl,by decide,fun x hx=>?_⟩⟩;have hHx:H x=none:=by
  cases e:H x with
  | none=>rfl
  | some u=>
   by_cases hxq:x=q
   ·subst hxq;rw [k1] at hx;cases hx
   ·rw [x6 _ _ hxq e] at hx;cases hx
 exact qq x _ (x6.trans (Vc.of (lb hx))) nt6.upd db hHx
theorem rF (T:Txt w K mg t):Lb P w K mg base CX0 7 t.Ni t.Qi q41 (Ny t):=by
 have g18:Lb P w K mg base CX0 6 t.Oj t.Cj ["text"] (Dn t):=(Xs T).mono (by decide);have g53:Lb P w K mg base CX0 6 t.Xi t.Gi ["reader"] (BC t):=(FG T).mono (by decide);have g54:Lb P w K mg base CX0 6 t.Ai t.Ci q40 (MB t):=(PH T).mono (by decide);have g55:Lb P w K mg base CX0 6 t.Ti t.Yi q45 (oy t):=nE T;refine T.xl.ok jg (fun vs H Q E h=>?_) (fun _ _ _ s H vs Q E hr h=>?_)
 ·obtain ⟨c,n,ds,z,sp,rfl,_⟩:=h;rfl
 obtain ⟨c,n,ds,z,sp,rfl,C,hn,hD,hz,hG,nt,hN,hS,hC,qq⟩:=h;refine ⟨_,(cb (Bb (i:=2) jg.nd rfl (Or.inl rfl) (yb g18 hr rfl T.Bu T.Wl.kp T.Mv .nil Cb (ab (pv 1) fb)))
   (cb (Bb (i:=3) jg.nd rfl (Or.inl rfl) (yb g53 hr rfl T.Ex T.Ol.kp T.qw .nil Cb (ab (Yc ic (pv 2) ub (fun _ _=>rfl)) fb)))
   (cb (Bb (i:=4) jg.nd rfl (Or.inl rfl) (se fb))
   (cb (Dd PassesOwn.never rfl (Sd (Si Xt (pv 2) (Pj ub) dn)) (xb (i:=5) jg.nd rfl (Or.inl rfl)) (pb (xc (Bi PySem.F.plainAttrs_list PySem.F.slot_list_append PySem.F.type_list_append fe (pv 4) (ab (yb g54 hr rfl T.Sw T.Jl.kp T.bx .nil Cb (ab (pv 5) (ab (pv 0) (ab (pv 3) (ab (pv 4) fb))))) fb)))))
   (pb (Jb (yb g55 hr rfl T.Ew T.Al.kp T.mx .nil Cb (ab (pv 0) (ab (pv 3) (ab (pv 4) fb)))))))))),?_⟩
 obtain ⟨hrow,hxl,hall⟩:=Xr hz.2 hG;generalize oC z sp=x at hrow hxl ⊢;walk_at "RD";refine ⟨x,rfl,hxl,?_,nt,fun p H1 sm1 nt1 R=>?_⟩
 ·rw [hrow];exact fun r hr=>(hall r hr).2
 rw [hrow] at R;obtain ⟨qs,hp,hp0,hql,hqa⟩:=R;obtain ⟨q0,qr,rfl⟩:∃ q0 qr,qs=q0 :: qr:=by
  cases qs with
  | nil=>simp [Af] at hql
  | cons a b=>exact ⟨a,b,rfl⟩
 have hqrl:qr.length=sp.length:=by simpa [Af] using hql
 have hspl:=hG.ln;obtain ⟨R0,hq0⟩:=hqa 0 q0 _ rfl rfl;walk_at "RD";refine ⟨_,SqL.of hp,_,wc (j:=0) rfl,⟨q0,_,z,rfl,R0,by omega,nt1,fun H2 s2 nt2=>?_⟩⟩;walk_at "RD";refine ⟨Nat.zero_le _,fun wl hwl=>?_⟩;obtain ⟨C0,dq0,fq0,hins⟩:=R0.ins;have hpq:p ≠ q0:=ze hp hins (by intro z;cases z);have hp2:H2 p=some (.lst ((q0 :: qr).map V.ref)):=s2 _ _ hpq hp;have swl:Nb H2 (upd H2 wl (.lst [])):=lb hwl;have hcut:Wy ((q0 :: qr).map V.ref) (some 1) none=qr.map V.ref:=by
  unfold Wy;simp [HT.sIx];exact List.take_of_length_le (by rw [List.length_map];exact Nat.le_refl _)
 refine ⟨_,SqL.of (swl _ _ hp2),fun pc hpc=>?_⟩;rw [hcut];have hpw:pc ≠ wl:=fun z=>by subst z;rw [db] at hpc;cases hpc
 have spc:Nb (upd H2 wl (.lst [])) (upd (upd H2 wl (.lst [])) pc (.lst (qr.map V.ref))):=lb hpc;refine ⟨⟨_,SqL.of db⟩,?_⟩;have sH2:Nb H H2:=me sm1 s2 hq0;refine Fh.list (xs:=qr.map V.ref) (fun i σ H'=>(∃ y,σ=[some (V.ref c),some (V.str x),some (V.ref p),some (V.int z),some (V.ref wl),y])∧NoT H'∧Nb H H'∧H' pc=some (.lst (qr.map V.ref))∧H wl=none ∧
  LO H' wl (List.map sdO (sp.take i)) ∧
  ∀ (j:Nat) (q:Addr) (s:SD),i ≤ j→qr[j]? = some q→sp[j]? = some s→kf t H' q ((j + 1:Nat):Int) (zk s) 0∧H q=none) ?_ ?_ ?_ ?_
 ·refine ⟨⟨_,rfl⟩,(nt2.upd).upd,(sH2.trans swl).trans spc,db,sH2.free hwl,⟨[],spc _ _ db,LQ.nil _⟩,fun j q s _ h1 h2=>?_⟩;obtain ⟨Rj,hqj⟩:=hqa (j + 1) q (zk s) (by rw [List.getElem?_cons_succ];exact h1) (by unfold Af;rw [List.getElem?_cons_succ,List.getElem?_map,h2];rfl);exact ⟨((Rj.sameX s2 (BF Rj R0 (by omega)) R0.ins).same swl).same spc,hqj⟩
 ·rintro i σ H' hi zzq;refine zP fun zzM zzh=>?_
  obtain ⟨_,_,_,h,_⟩:=zzq;subst zzh;exact SqL.of h
 ·rintro i v σ H' hv zzq;refine zP fun zzM zzh=>?_
  obtain ⟨⟨y,rfl⟩,nt',sm',hpc',hwl0,L,Rs⟩:=zzq;obtain ⟨q,hq,rfl⟩:=Xb hv;obtain ⟨hi,_⟩:=List.getElem?_eq_some_iff.mp hq;have hid:i < sp.length:=by omega
  have hsd:sp[i]? = some sp[i]:=List.getElem?_eq_getElem hid;obtain ⟨Rq,hqn⟩:=Rs i q _ (Nat.le_refl _) hq hsd;obtain ⟨os,w1,w2⟩:=id L;obtain ⟨_,dq,tq,hqi,hqt⟩:=id Rq;have hosl:os.length=i:=by rw [w2.1,List.length_map,List.length_take];omega
  subst zzh;walk_at "RD";refine ⟨.inl ⟨_,SqL.of w1⟩,?_⟩;refine ⟨q,_,c,n,ds,z,wl,sp.take i,sp[i],rfl,Rq,C.same sm',by omega,L,by rw [List.length_take];omega,nt',hG.kn i _ hsd,hG.sd _ (List.mem_of_getElem? hsd),fun y' H3 s3 nt3 w3 hy3=>?_⟩;have hwq:wl ≠ q:=ze w1 hqi (by intro z;cases z);have hw3:H3 wl=some (.lst (os.map V.ref)):=s3 _ _ hwq w1;have hsm3:Nb H H3:=me sm' s3 hqn;refine ⟨_,hw3,Nat.lt_of_le_of_lt (show (os.map V.ref).length ≤ 100 by rw [List.length_map];omega) (by decide),?_⟩;have hyw:y' ≠ wl:=fun z=>by
   subst z;rw [w1] at hy3;cases hy3
  refine ⟨⟨_,rfl⟩,nt3.upd,fun b u e=>?_,?_,hwl0,⟨os ++ [y'],by rw [db,List.map_append];rfl,?_⟩,fun j q' s hj h1 h2=>?_⟩
  ·rw [qb (wb e hwl0)];exact hsm3 _ _ e
  ·rw [qb hpw];exact s3 _ _ (ze hpc' hqi (by intro z;cases z)) hpc'
  ·rw [Ve hsd,List.map_append];refine LQ.app ⟨w2.1,fun j b o hb ho=>?_⟩ (LQ.one (by rw [qb hyw];exact w3));have e:=w2.2 j b o hb ho;obtain ⟨s,_,rfl⟩:=Xb ho;rw [qb (ze e w1 (by intro z;cases z))];exact s3 _ _ (ze e hqi (by intro z;cases z)) e
  ·obtain ⟨Rj,hqj⟩:=Rs j q' s (by omega) h1 h2;have R3:=Rj.sameX s3 (BF Rj Rq (by omega)) Rq.ins;refine ⟨?_,hqj⟩;obtain ⟨hz,dx',ta,e1,e2⟩:=R3;refine ⟨hz,dx',ta,by rw [qb (ze e1 hw3 (by intro z;cases z))];exact e1,?_⟩;rw [qb (fun z=>by
    subst z;rw [hw3] at e2;have e5:=Option.some.inj e2;injection e5 with e6;cases os with
    | nil=>cases e6
    | cons a r'=>injection e6 with e7 _;cases e7)]
   exact e2
 ·rintro σ H' zzq;refine zP fun zzM zzh=>?_
  obtain ⟨⟨y,rfl⟩,nt',sm',hpc',hwl0,L,Rs⟩:=zzq;subst zzh;rw [List.length_map,hqrl,List.take_length] at L;walk_at "RD";exact ⟨c,n,ds,z,wl,sp,rfl,C.same sm',hn,hD,by omega,L,hG.ok (by omega),hG.wOf,nt',hN,hS,hC,fun a H3 s3 n3 PA=>qq a H3 (sm'.trans s3) n3 PA⟩
end
end My
namespace My
open PySem L2
section
variable {w:World} {K:PySem.W.Frag} {mg:Str→Option Value} {t:Adr} {H:Hp} {a c dx p lm un:Addr} {z:Int}
theorem Zp (T:Txt w K mg t) (e:H a=some (.ins t.qe dx (plF c z p lm un))):nj K H a (Str.ofString "crossing") (.ref c):=⟨_,dx,_,e,T.Ki,T.fj,ae nC 0 (Lo ..) (by decide +kernel) rfl⟩
theorem jt (T:Txt w K mg t) (e:H a=some (.ins t.qe dx (plF c z p lm un))):nj K H a (Str.ofString "size") (.int z):=⟨_,dx,_,e,T.Ki,T.Kn,ae nC 1 (Lo ..) (by decide +kernel) rfl⟩
end
theorem NK.get {H:Hp} {p:Addr} {ds:List WD} {f:WD→HO} (h:NK H p ds f ds.length) (nd:(ds.map (·.name)).Nodup) {i:Nat} {d:WD} (hd:ds[i]? = some d):∃ r,wo H p (.str d.name) (some (.ref r))∧H r=some (f d):=by
 obtain ⟨rs,hl,hp,al⟩:=h;have hi:i < rs.length:=by rw [hl];exact (List.getElem?_eq_some_iff.mp hd).1
 have hr:rs[i]? = some rs[i]:=List.getElem?_eq_getElem hi;refine ⟨rs[i],?_,al i _ d hr hd⟩;have:=wo.k (k:=Sum.inr d.name) hp;rw [Hq nd hd hr] at this;exact this
noncomputable def Ln (z:Nat) (sp:List SD) (d:WD) (turn:Int):Str:=((Dl z sp d)[(turn % (z:Int)).toNat]?).getD (Str.ofString "")
noncomputable def Eg (z:Nat) (sp:List SD) (d:WD) (turn:Int):Bool:=decide (Ln z sp d turn=Str.ofString "free")
noncomputable def Nv (t:Adr):Sp:=fun vs H Q _=>∃ (pl c:Addr) (n:Int) (ds:List WD) (z:Nat) (sp:List SD) (i:Nat) (d:WD) (turn:Int),vs=[.ref pl,.str d.name,.int turn]∧Jh t H pl c n ds z sp∧0 < z∧ds[i]? = some d∧Q (.str (Ln z sp d turn)) H
noncomputable def rA (t:Adr):Sp:=fun vs H Q _=>∃ (pl c:Addr) (n:Int) (ds:List WD) (z:Nat) (sp:List SD) (i:Nat) (d:WD) (turn:Int),vs=[.ref pl,.str d.name,.int turn]∧Jh t H pl c n ds z sp∧0 < z∧ds[i]? = some d∧Q (.bl (Eg z sp d turn)) H
section
variable {P:Program} {w:World} {K:PySem.W.Frag} {mg:Str→Option Value} {base:Heap} {t:Adr}
theorem eB (T:Txt w K mg t):Lb P w K mg base CX0 3 t.Bo t.zo q8 (Nv t):=by
 have g8:Lb P w K mg base CX0 2 t.Tb t.gc q5 (ig t):=nh T;refine T.At.ok WC (fun vs H Q E h=>?_) (fun _ _ _ s H vs Q E hr h=>?_)
 ·obtain ⟨pl,c,n,ds,z,sp,i,d,turn,rfl,_⟩:=h;rfl
 obtain ⟨pl,c,n,ds,z,sp,i,d,turn,rfl,PA,hz,hd,q⟩:=h;obtain ⟨dx,p,lm,un,hpl,C,_,NL,_⟩:=PA.at_;obtain ⟨⟨hnd,_⟩,dxc,wl,nd,e1,_,_⟩:=id C;have hu:=Pw hr;refine ⟨_,(cb (xc (Xc (Bc (pv 0) rfl) T.Pb T.uc g8 hr T.vc .nil Cb (ab (pv 1) fb)))
   (pb (Jb (Yc ic (Vi hu (Bc (pv 0) rfl) (pv 1) (fun _ _=>rfl)) (Gb Le (pv 2) (Bc (pv 0) rfl)) (fun _ _=>rfl))))),?_⟩
 walk_at "RD";refine ⟨_,Zp T hpl,_,rfl,_,_,e1,mw _ _ _ (by decide +kernel),c,n,ds,i,d,rfl,C,hd,fun a W=>?_⟩;obtain ⟨r,hg,hr'⟩:=NL.get hnd hd;have h0:=Int.emod_nonneg turn (show (z:Int) ≠ 0 by omega);have h1:=Int.emod_lt_of_pos turn (show (0:Int) < z by omega);have hlen:(Dl z sp d).length=z:=Zg _ _ _ _;have hj:(turn % (z:Int)).toNat < (Dl z sp d).length:=by rw [hlen];omega
 walk_at "RD";refine ⟨_,Hy T hpl,_,rfl,_,hg,_,jt T hpl,_,rfl,by omega,_,rfl,_,SqL.of hr',.str (Ln z sp d turn),?_,q⟩;have e:=wc (xs:=Hb (Dl z sp d)) (j:=(turn % (z:Int)).toNat) (v:=.str (Ln z sp d turn)) (by unfold Hb Ln;rw [List.getElem?_map,List.getElem?_eq_getElem hj];rfl);rwa [Int.toNat_of_nonneg h0] at e
theorem tH (T:Txt w K mg t):Lb P w K mg base CX0 4 t.Ry t.vy q8 (rA t):=by
 have g56:Lb P w K mg base CX0 3 t.Bo t.zo q8 (Nv t):=eB T;refine T.UC.ok xH (fun vs H Q E h=>?_) (fun _ _ _ s H vs Q E hr h=>?_)
 ·obtain ⟨pl,c,n,ds,z,sp,i,d,turn,rfl,_⟩:=h;rfl
 obtain ⟨pl,c,n,ds,z,sp,i,d,turn,rfl,PA,hz,hd,q⟩:=h;refine ⟨_,(pb (Jb (Ff mj (yb g56 hr rfl T.iF T.At.kp T.oE .nil Cb (ab (pv 0) (ab (pv 1) (ab (pv 2) fb)))) Rc (qc _)))),?_⟩;walk_at "RD";refine ⟨pl,c,n,ds,z,sp,i,d,turn,rfl,PA,hz,hd,rfl,?_⟩;rw [show decide (V.str (Ln z sp d turn)=V.str (Str.ofString "free"))=Eg z sp d turn by unfold Eg;simp];exact q
end
end My
namespace My
open PySem L2
theorem kz (z:Nat) (sp:List SD) (d:WD) (x:Int):Eg z sp d (x % (z:Int))=Eg z sp d x:=by
 unfold Eg Ln;rw [Int.emod_emod]
noncomputable def frB (z:Nat) (sp:List SD) (d:WD):List Bool:=(List.range z).map fun (k:Nat)=>Eg z sp d k
theorem Cw (z:Nat) (sp:List SD) (d:WD):(frB z sp d).length=z:=by unfold frB;simp
theorem CJ {z:Nat} (hz:0 < z) (sp:List SD) (d:WD) (x:Int):(frB z sp d)[(x % (z:Int)).toNat]? = some (Eg z sp d x):=by
 have h0:=Int.emod_nonneg x (show (z:Int) ≠ 0 by omega);have h1:=Int.emod_lt_of_pos x (show (0:Int) < z by omega);unfold frB;rw [List.getElem?_map,List.getElem?_range (by omega)];show some (Eg z sp d (((x % (z:Int)).toNat:Nat):Int))=_;rw [Int.toNat_of_nonneg h0,kz]
structure LD where
 pl:Addr
 c:Addr
 n:Int
 ds:List WD
 sp:List SD
 d:WD
 e:WD
noncomputable def lO (l:LD):HO:=.tup [.ref l.pl,.str l.d.name,.str l.e.name]
noncomputable def LOk (t:Adr) (H:Hp) (z:Nat) (l:LD):Prop:=Jh t H l.pl l.c l.n l.ds z l.sp∧l.d ∈ l.ds∧l.e ∈ l.ds
noncomputable def Nk (t:Adr) (H:Hp) (z:Nat) (p:Addr) (ls:List LD):Prop:=LO H p (ls.map lO)∧∀ l ∈ ls,LOk t H z l
theorem NK.same {H H':Hp} {p:Addr} {ds:List WD} {f:WD→HO} {n:Nat} (h:NK H p ds f n) (s:Nb H H'):NK H' p ds f n:=by
 obtain ⟨rs,hl,hp,al⟩:=h;exact ⟨rs,hl,s _ _ hp,fun i r d h1 h2=>s _ _ (al i r d h1 h2)⟩
theorem Jh.same {t:Adr} {H H':Hp} {a c:Addr} {n:Int} {ds:List WD} {z:Nat} {sp:List SD} (h:Jh t H a c n ds z sp) (s:Nb H H'):Jh t H' a c n ds z sp:=by
 obtain ⟨dx,p,lm,un,e,C,L,N1,N2⟩:=h.at_;exact ⟨dx,p,lm,un,s _ _ e,C.same s,L.same s,N1.same s,N2.same s⟩
theorem LOk.same {t:Adr} {H H':Hp} {z:Nat} {l:LD} (h:LOk t H z l) (s:Nb H H'):LOk t H' z l:=⟨h.1.same s,h.2⟩
theorem Nk.same {t:Adr} {H H':Hp} {z:Nat} {p:Addr} {ls:List LD} (h:Nk t H z p ls) (s:Nb H H'):Nk t H' z p ls:=⟨h.1.same s,fun l hl=>(h.2 l hl).same s⟩
structure CD where
 f:List Bool
 b:List Bool
 x:Int
 y:Int
noncomputable def DI (H:Hp) (q:Addr) (c:CD):Prop:=∃ f b,H q=some (.tup [.ref f,.ref b,.int c.x,.int c.y])∧H f=some (.lst (Hc c.f))∧H b=some (.lst (Hc c.b))
theorem DI.same {H H':Hp} {q:Addr} {c:CD} (h:DI H q c) (s:Nb H H'):DI H' q c:=by
 obtain ⟨f,b,e1,e2,e3⟩:=h;exact ⟨f,b,s _ _ e1,s _ _ e2,s _ _ e3⟩
noncomputable def CrN (r:Addr) (H:Hp) (q:Addr) (c:CD):Prop:=∃ f b,(f ≠ r∧b ≠ r∧q ≠ r)∧H q=some (.tup [.ref f,.ref b,.int c.x,.int c.y])∧H f=some (.lst (Hc c.f))∧H b=some (.lst (Hc c.b))
theorem CrN.at {r:Addr} {H:Hp} {q:Addr} {c:CD} (h:CrN r H q c):DI H q c:=by
 obtain ⟨f,b,_,h⟩:=h;exact ⟨f,b,h⟩
theorem CrN.step {r:Addr} {H H':Hp} {q:Addr} {c:CD} (h:CrN r H q c) (s:Vc r H H'):CrN r H' q c:=by
 obtain ⟨f,b,⟨n1,n2,n3⟩,e1,e2,e3⟩:=h;exact ⟨f,b,⟨n1,n2,n3⟩,s _ _ n3 e1,s _ _ n1 e2,s _ _ n2 e3⟩
noncomputable def csK (z:Nat) (fs bs:List Int) (l:LD) (k:Nat):CD:=⟨frB z l.sp l.d,frB z l.sp l.e,(fs.take k).sum,-(bs.take k).sum⟩
noncomputable def aL (H:Hp) (r:Addr) (z:Nat) (fs bs:List Int) (ls:List LD):Prop:=∃ qs:List Addr,H r=some (.lst (qs.map V.ref))∧qs.length=ls.length∧∀ (i:Nat) (q:Addr) (l:LD),qs[i]? = some q→ls[i]? = some l→DI H q (csK z fs bs l i)
noncomputable def kc (l:List Int):List V:=l.map V.int
noncomputable def ts0 (z:Nat):List Int:=(List.range z).map fun (k:Nat)=>(k:Int)
noncomputable def Ut (ms:List Bool) (x:Int) (ts:List Int):List Int:=ts.filter fun t=>(ms[((t + x) % (ms.length:Int)).toNat]?).getD false
noncomputable def frK (z:Nat) (ls:List LD) (f:LD→WD) (k:Nat) (x:Int):Bool:=(ls[k]?).any fun l=>Eg z l.sp (f l) x
noncomputable def gA (fr:Nat→Int→Bool) (off:Nat→Int) (i:Nat) (t:Int):Bool:=(List.range i).all fun k=>fr k (t + off k)
noncomputable def Iv (fs sh:List Int) (k:Nat):Int:=(fs.take k).sum - sh.getD k 0
noncomputable def xL (bs sh:List Int) (k:Nat):Int:=-(bs.take k).sum - sh.getD k 0
noncomputable def grF (z:Nat) (ls:List LD) (fs sh:List Int) (i:Nat):List Int:=(ts0 z).filter (gA (frK z ls LD.d) (Iv fs sh) i)
noncomputable def grB (z:Nat) (ls:List LD) (bs sh:List Int) (i:Nat):List Int:=(ts0 z).filter (gA (frK z ls LD.e) (xL bs sh) i)
theorem Av {z:Nat} (hz:0 < z) {fr:Nat→Int→Bool} {off:Nat→Int} {i:Nat} {sp:List SD} {d:WD} (hf:∀ x,fr i x=Eg z sp d x):Ut (frB z sp d) (off i) ((ts0 z).filter (gA fr off i))=(ts0 z).filter (gA fr off (i + 1)):=by
 unfold Ut;rw [List.filter_filter];refine List.filter_congr fun x _=>?_
 rw [Cw,CJ hz];show (Eg z sp d (x + off i) && gA fr off i x)=gA fr off (i + 1) x;unfold gA;rw [List.range_succ,List.all_append,List.all_cons,List.all_nil,Bool.and_true,hf,Bool.and_comm]
theorem uB (z:Nat):(ts0 z).length=z:=by unfold ts0;simp
structure LIn (t:Adr) (H:Hp) (lp fp bp:Addr) (z:Nat) (ls:List LD) (fs bs:List Int):Prop where
 l:Nk t H z lp ls
 f:H fp=some (.lst (kc fs))
 b:H bp=some (.lst (kc bs))
 fl:fs.length + 1=ls.length
 bl:bs.length + 1=ls.length
 ln:1 ≤ ls.length∧ls.length ≤ 10
 z0:0 < z∧z ≤ 1000
theorem LIn.same {t:Adr} {H H':Hp} {lp fp bp:Addr} {z:Nat} {ls:List LD} {fs bs:List Int} (h:LIn t H lp fp bp z ls fs bs) (s:Nb H H'):LIn t H' lp fp bp z ls fs bs:=⟨h.l.same s,s _ _ h.f,s _ _ h.b,h.fl,h.bl,h.ln,h.z0⟩
noncomputable def zy (t:Adr):Sp:=fun vs H Q _=>∃ (pl c:Addr) (n:Int) (ds:List WD) (z:Nat) (sp:List SD) (d:WD),vs=[.ref pl,.str d.name]∧Jh t H pl c n ds z sp∧(0 < z∧z ≤ 1000)∧d ∈ ds∧∀ p,H p=none→Q (.ref p) (upd H p (.lst (Hc (frB z sp d))))
noncomputable def cG (t:Adr):Sp:=fun vs H Q _=>∃ lp fp bp z ls fs bs,vs=[.ref lp,.ref fp,.ref bp]∧LIn t H lp fp bp z ls fs bs∧NoT H∧∀ r H',Nb H H'→NoT H'→aL H' r z fs bs ls→Q (.ref r) H'
noncomputable def wA:Sp:=fun vs H Q _=>∃ tp mp ts ms x,vs=[.ref tp,.ref mp,.int x]∧H tp=some (.lst (kc ts))∧H mp=some (.lst (Hc ms))∧(0 < ms.length∧ms.length ≤ 1000)∧ts.length ≤ 1000∧∀ p,H p=none→Q (.ref p) (upd H p (.lst (kc (Ut ms x ts))))
noncomputable def Iy (H:Hp) (p:Addr) (u v:List Int):Prop:=∃ f b,H p=some (.tup [.ref f,.ref b])∧H f=some (.lst (kc u))∧H b=some (.lst (kc v))
noncomputable def Vx:Sp:=fun vs H Q _=>∃ bp cp u v c x,vs=[.ref bp,.ref cp,.int x]∧Iy H bp u v∧DI H cp c∧(0 < c.f.length∧c.f.length ≤ 1000)∧(0 < c.b.length∧c.b.length ≤ 1000)∧u.length ≤ 1000∧v.length ≤ 1000∧NoT H∧∀ p H',Nb H H'→NoT H'→Iy H' p (Ut c.f (c.x - x) u) (Ut c.b (c.y - x) v)→Q (.ref p) H'
noncomputable def gy (t:Adr):Sp:=fun vs H Q _=>∃ lp z ls,vs=[.ref lp]∧Nk t H z lp ls∧1 ≤ ls.length∧(0 < z∧z ≤ 1000)∧NoT H∧∀ p H',Nb H H'→NoT H'→Iy H' p (ts0 z) (ts0 z)→Q (.ref p) H'
noncomputable def Xy (t:Adr):Sp:=fun vs H Q _=>∃ lp fp bp sp z ls fs bs sh,vs=[.ref lp,.ref fp,.ref bp,.ref sp]∧LIn t H lp fp bp z ls fs bs∧H sp=some (.lst (kc sh))∧sh.length=ls.length∧NoT H∧∀ p H',Nb H H'→NoT H'→H' p=some (.tup [.int ((grF z ls fs sh ls.length).length:Nat),.int ((grB z ls bs sh ls.length).length:Nat)])→Q (.ref p) H'
theorem xt {l:List Int} {i:Nat} {x:Int} (h:l[i]? = some x):(l.take (i + 1)).sum=(l.take i).sum + x:=by
 rw [Ve h,List.sum_append];simp
theorem Ku (p:Int→Bool):∀ xs:List Int,((xs.map fun x=>if p x=true then some (V.int x) else none).flatMap Option.toList)=kc (xs.filter p)
 | []=>rfl
 | x :: xs=>by
  rw [List.map_cons,List.flatMap_cons,Ku p xs];by_cases c:p x=true
  ·rw [if_pos c,List.filter_cons_of_pos c];rfl
  ·rw [if_neg c,List.filter_cons_of_neg c];rfl
theorem Kg {l:List Int} {i:Nat} {x:Int} (h:l[i]? = some x):(kc l)[i]? = some (.int x):=by unfold kc;rw [List.getElem?_map,h];rfl
theorem ye (l:List Int):(kc l).length=l.length:=by unfold kc;rw [List.length_map]
section
variable {P:Program} {w:World} {K:PySem.W.Frag} {mg:Str→Option Value} {base:Heap} {t:Adr}
theorem ND (T:Txt w K mg t):Lb P w K mg base CX0 5 t.Et t.Vt q20 (zy t):=by
 have g57:Lb P w K mg base CX0 4 t.Ry t.vy q8 (rA t):=tH T;refine T.Ot.ok tE (fun vs H Q E h=>?_) (fun _ _ _ s H vs Q E hr h=>?_)
 ·obtain ⟨pl,c,n,ds,z,sp,d,rfl,_⟩:=h;rfl
 obtain ⟨pl,c,n,ds,z,sp,d,rfl,PA,hz,hd,q⟩:=h;obtain ⟨dx,p,lm,un,hpl,_⟩:=PA.at_;obtain ⟨i,hi⟩:=List.getElem?_of_mem hd;refine ⟨_,(pb (Jb (Jf rfl (Zc rfl T.Wd (ab (Bc (pv 0) rfl) fb)) (Qc (sc:=rb Jx) rfl (by decide +kernel)) (N:=["turn","plan","name"]) (sel:=[none,some 0,some 1]) (ud (M:=q20) (by decide +kernel)) (Blk.of (fun _ _ _ _=>(xb (i:=0) (Bg (N:=["turn","plan","name"]) (by decide +kernel) rfl) rfl (Or.inl rfl))) (fun _ _ _ _=>⟨_,uf,by walk_at "B"⟩) (fun _ _ _ _=>⟨_,(yb g57 hr rfl T.fK T.UC.kp T.MK .nil Cb (ab (pv 1) (ab (pv 2) (ab (pv 0) fb)))),by walk_at "B"⟩))))),?_⟩;walk_at "RD";refine ⟨_,jt T hpl,_,rfl,by omega,by omega,?_⟩;refine vd.range_map (fun k=>V.bl (Eg z sp d k)) (by rw [Int.toNat_natCast];exact Nat.le_trans hz.2 (by decide)) (fun k N hk hN=>?_) (fun p hp=>?_)
 ·walk_at "RD";exact ⟨Sub.name,pl,c,n,ds,z,sp,i,d,_,rfl,PA,hz.1,hi,hN⟩
 ·have:=q p hp;unfold Hc frB at this;rw [List.map_map] at this;rw [Int.toNat_natCast];exact this
theorem kK (T:Txt w K mg t):Lb P w K mg base CX0 6 t.dg t.Pf q30 (cG t):=by
 have g23:Lb P w K mg base CX0 5 t.Et t.Vt q20 (zy t):=ND T;refine T.Nh.ok jc (fun vs H Q E h=>?_) (fun _ _ _ s H vs Q E hr h=>?_)
 ·obtain ⟨lp,fp,bp,z,ls,fs,bs,rfl,_⟩:=h;rfl
 obtain ⟨lp,fp,bp,z,ls,fs,bs,rfl,I,nt,q⟩:=h;refine ⟨_,(cb (Bb (i:=3) jc.nd rfl (Or.inl rfl) (se fb))
   (cb (Bb (i:=4) jc.nd rfl (Or.inl rfl) ub)
   (cb (Bb (i:=5) jc.nd rfl (Or.inl rfl) ub)
   (cb (Dd PassesOwn.never rfl (zl rfl T.af (ab (pv 0) fb)) (Vd (K:=K) (n:=2) rfl rfl (Eb (xb (i:=6) jc.nd rfl (Or.inl rfl) (.inl rfl)) (Eb (xb (i:=7) jc.nd rfl (Or.inl rfl) (.inl rfl)) Ud))) (cb (mm (pv 7) (Vd (K:=K) (n:=3) rfl rfl (Eb (xb (i:=8) jc.nd rfl (Or.inl rfl) (.inl rfl)) (Eb (xb (i:=9) jc.nd rfl (Or.inl rfl) (.inl rfl)) (Eb (xb (i:=10) jc.nd rfl (Or.inl rfl) (.inl rfl)) Ud)))))
   (cb (xc (Bi PySem.F.plainAttrs_list PySem.F.slot_list_append PySem.F.type_list_append fe (pv 3) (ab (bj (ab (yb g23 hr rfl T.ZC T.Ot.kp T.lD .nil Cb (ab (pv 8) (ab (pv 9) fb))) (ab (yb g23 hr rfl T.ZC T.Ot.kp T.lD .nil Cb (ab (pv 8) (ab (pv 10) fb))) (ab (pv 4) (ab (pv 5) fb))))) fb)))
   (pb (Ye (bc cn (Gb zc (pv 6) ub) (Vb Fb rfl T.xg Ob (ab (pv 0) fb)) (qc _)) (cb (EC (i:=4) jc.nd rfl (Or.inl rfl) (Yc ic (pv 1) (pv 6) (fun _ _=>rfl)) zG)
   (pb (EC (i:=5) jc.nd rfl (Or.inl rfl) (Yc ic (pv 2) (pv 6) (fun _ _=>rfl)) mJ))) Ec)))))
   (pb (Jb (pv 3))))))),?_⟩
 walk_at "RD";refine ⟨Nat.zero_le _,fun r hr0=>?_⟩;obtain ⟨⟨qs,l1,lq⟩,al⟩:=I.l;have hql:qs.length=ls.length:=by rw [lq.1,List.length_map]
 have sr:Nb H (upd H r (.lst [])):=lb hr0;have hfl:=I.fl;have hbl:=I.bl;have hln:=I.ln;refine ⟨⟨_,SqL.of (sr _ _ l1)⟩,?_⟩;refine Fh.enum (xs:=qs.map V.ref) (fun i σ H'=>Nb H H'∧NoT H'∧(∃ os:List Addr,H' r=some (.lst (os.map V.ref))∧os.length=i∧∀ (j:Nat) (q:Addr) (l:LD),os[j]? = some q→ls[j]? = some l→CrN r H' q (csK z fs bs l j))∧∃ x6 x7 x8 x9 x10,σ=[some (.ref lp),some (.ref fp),some (.ref bp),some (.ref r),some (.int (fs.take i).sum),some (.int (-(bs.take i).sum)),x6,x7,x8,x9,x10]) ?_ ?_ ?_ ?_
 ·exact ⟨sr,nt.upd,⟨[],db,rfl,fun j q l h=>by simp at h⟩,_,_,_,_,_,rfl⟩
 ·rintro i σ H' hi ⟨sm,_⟩;exact SqL.of (sm _ _ l1)
 ·rintro i v σ H0 p1 hv ⟨sm0,nt0,⟨os,o1,o2,o3⟩,x6,x7,x8,x9,x10,rfl⟩ hp1;obtain ⟨qi,hqi,rfl⟩:=Xb hv;have hil:i < ls.length:=by rw [← hql];exact (List.getElem?_eq_some_iff.mp hqi).1
  have hli:ls[i]? = some ls[i]:=List.getElem?_eq_getElem hil;have eq:H qi=some (lO ls[i]):=lq.2 i _ _ hqi (by rw [List.getElem?_map,hli];rfl);have ok:=al ls[i] (List.mem_of_getElem? hli);have s1:Nb H0 (upd H0 p1 (.tup [.int i,.ref qi])):=lb hp1;have n1:NoT (upd H0 p1 (.tup [.int i,.ref qi])):=nt0.upd;refine kg ?_;generalize upd H0 p1 (.tup [.int i,.ref qi])=H1 at s1 n1 ⊢;have sm1:=sm0.trans s1;simp only [Db,List.set_cons_succ,List.set_cons_zero];refine zzC (fun σ' H'=>H'=H1∧σ'=[some (.ref lp),some (.ref fp),some (.ref bp),some (.ref r),some (.int (fs.take i).sum),some (.int (-(bs.take i).sum)),some (.int (i:Nat)),some (.ref qi),some (.ref ls[i].pl),some (.str ls[i].d.name),some (.str ls[i].e.name)]) (fun D' hD=>?_) fun zzM zzh=>?_
  ·walk_at "RD";exact ⟨_,SqT.of (sm1 _ _ eq),rfl,_,_,rfl,_,_,rfl,_,_,rfl,rfl,hD _ _ ⟨rfl,rfl⟩⟩
  rintro σ2 H2 ⟨rfl,rfl⟩;subst zzh;simp only [Db];refine zzC (fun σ' H'=>Nb H H'∧NoT H'∧(∃ os:List Addr,H' r=some (.lst (os.map V.ref))∧os.length=i + 1∧∀ (j:Nat) (q:Addr) (l:LD),os[j]? = some q→ls[j]? = some l→CrN r H' q (csK z fs bs l j))∧σ'=[some (.ref lp),some (.ref fp),some (.ref bp),some (.ref r),some (.int (fs.take i).sum),some (.int (-(bs.take i).sum)),some (.int (i:Nat)),some (.ref qi),some (.ref ls[i].pl),some (.str ls[i].d.name),some (.str ls[i].e.name)]) (fun D' hD=>?_) fun zzM zzh=>?_
  ·walk_at "RD";refine ⟨.inl ⟨_,SqL.of (s1 _ _ o1)⟩,_,_,_,_,z,_,_,rfl,ok.1.same sm1,I.z0,ok.2.1,fun p2 hp2=>?_⟩;have s2:=lb (o:=.lst (Hc (frB z ls[i].sp ls[i].d))) hp2;refine ⟨_,_,_,_,z,_,_,rfl,ok.1.same (sm1.trans s2),I.z0,ok.2.2,fun p3 hp3=>⟨by decide,fun p4 hp4=>?_⟩⟩;have s3:=lb (o:=.lst (Hc (frB z ls[i].sp ls[i].e))) hp3;have s4:=lb (o:=.tup [.ref p2,.ref p3,.int (fs.take i).sum,.int (-(bs.take i).sum)]) hp4;have s24:=(s2.trans s3).trans s4;have er:=s24 _ _ (s1 _ _ o1);have c2:=s4 _ _ (s3 _ _ (db (H:=H2) (a:=p2) (o:=.lst (Hc (frB z ls[i].sp ls[i].d)))));have c3:=s4 _ _ (db (H:=upd H2 p2 (.lst (Hc (frB z ls[i].sp ls[i].d)))) (a:=p3) (o:=.lst (Hc (frB z ls[i].sp ls[i].e))));have c4:=db (H:=upd (upd H2 p2 (.lst (Hc (frB z ls[i].sp ls[i].d)))) p3 (.lst (Hc (frB z ls[i].sp ls[i].e)))) (a:=p4) (o:=.tup [.ref p2,.ref p3,.int (fs.take i).sum,.int (-(bs.take i).sum)]);have n4:NoT (upd (upd (upd H2 p2 (.lst (Hc (frB z ls[i].sp ls[i].d)))) p3 (.lst (Hc (frB z ls[i].sp ls[i].e)))) p4 (.tup [.ref p2,.ref p3,.int (fs.take i).sum,.int (-(bs.take i).sum)])):=((n1.upd).upd).upd;generalize upd (upd (upd H2 p2 (.lst (Hc (frB z ls[i].sp ls[i].d)))) p3 (.lst (Hc (frB z ls[i].sp ls[i].e)))) p4 (.tup [.ref p2,.ref p3,.int (fs.take i).sum,.int (-(bs.take i).sum)])=H4 at s24 er c2 c3 c4 n4 ⊢;refine ⟨_,er,Nat.lt_of_le_of_lt (show (os.map V.ref).length ≤ 10 by rw [List.length_map];omega) (by decide),hD _ _ ⟨(sm1.trans s24).updN hr0,n4.upd,⟨os ++ [p4],by rw [db,List.map_append];rfl,by rw [List.length_append,o2];rfl,fun j q l hj hl=>?_⟩,rfl⟩⟩;rcases De hj with ⟨_,hj⟩ | ⟨rfl,rfl⟩
   ·exact (o3 j q l hj hl).step ((Vc.of (s1.trans s24)).trans Vc.put)
   ·rw [o2] at hl ⊢;rw [hli] at hl;cases hl;have k2:p2 ≠ r:=(wb (s1 _ _ o1) hp2).symm;have k3:p3 ≠ r:=(wb (s2 _ _ (s1 _ _ o1)) hp3).symm;have k4:q ≠ r:=(wb (s3 _ _ (s2 _ _ (s1 _ _ o1))) hp4).symm;exact ⟨p2,p3,⟨k2,k3,k4⟩,by rw [qb k4];exact c4,by rw [qb k2];exact c2,by rw [qb k3];exact c3⟩
  rintro σ3 H3 ⟨sm3,n3,O3,rfl⟩;subst zzh;dsimp only;refine Wc (decide (i + 1 < ls.length)) (fun Q hQ=>?_) (fun hb=>?_) (fun hb=>?_)
  ·walk_at "RD";refine ⟨_,.inl (SqL.of (sm3 _ _ l1)),?_⟩;rw [List.length_map,hql,show decide ((i:Int) + 1 < (ls.length:Int))=decide (i + 1 < ls.length) by rw [Bool.eq_iff_iff,decide_eq_true_eq,decide_eq_true_eq];omega];exact hQ
  ·have hb:=of_decide_eq_true hb;have hfi:fs[i]? = some (fs[i]'(by omega)):=List.getElem?_eq_getElem _;have hbi:bs[i]? = some (bs[i]'(by omega)):=List.getElem?_eq_getElem _;walk_at "RD";refine ⟨_,SqL.of (sm3 _ _ I.f),_,wc (Kg hfi),_,_,rfl,rfl,_,SqL.of (sm3 _ _ I.b),_,wc (Kg hbi),_,_,rfl,rfl,sm3,n3,O3,?_⟩;rw [xt hfi,xt hbi,Int.neg_add]
   repeat (first | exact ⟨_,rfl⟩ | refine ⟨⟨_,rfl⟩,?_⟩ | refine ⟨rfl,?_⟩)
  ·have hb:=of_decide_eq_false hb;walk_at "RD";refine ⟨sm3,n3,O3,?_⟩;rw [List.take_of_length_le (l:=fs) (i:=i + 1) (by omega),List.take_of_length_le (l:=fs) (i:=i) (by omega),List.take_of_length_le (l:=bs) (i:=i + 1) (by omega),List.take_of_length_le (l:=bs) (i:=i) (by omega)]
   repeat (first | exact ⟨_,rfl⟩ | refine ⟨⟨_,rfl⟩,?_⟩ | refine ⟨rfl,?_⟩)
 ·rintro σ H' zzq;refine zP fun zzM zzh=>?_
  obtain ⟨sm,nt',⟨os,o1,o2,o3⟩,x6,x7,x8,x9,x10,rfl⟩:=zzq;subst zzh;walk_at "RD";exact q r H' sm nt' ⟨os,o1,by rw [o2,List.length_map,hql],fun i q l a b=>(o3 i q l a b).at⟩
theorem aI (T:Txt w K mg t):Lb P w K mg base CX0 1 t.Em t.zm q31 wA:=by
 refine T.Vl.ok dt (fun vs H Q E h=>?_) (fun _ _ _ s H vs Q E hr h=>?_)
 ·obtain ⟨tp,mp,ts,ms,x,rfl,_⟩:=h;rfl
 obtain ⟨tp,mp,ts,ms,x,rfl,ht,hm,hml,htl,q⟩:=h;refine ⟨_,(cb (Bb (i:=3) dt.nd rfl (Or.inr rfl) (Vb Fb rfl T.xg Ob (ab (pv 1) fb)))
   (pb (Jb (Jf rfl (Sd (pv 0)) (Qc (sc:=rb ip) rfl (by decide +kernel)) (N:=["turn","marks","later","size"]) (sel:=[none,some 1,some 2,some 3]) (ud (M:=["turns","marks","later","size"]) (by decide +kernel)) (Blk.of (fun _ _ _ _=>(xb (i:=0) (Bg (N:=["turn","marks","later","size"]) (by decide +kernel) rfl) rfl (Or.inl rfl))) (fun _ _ _ _=>⟨_,(zt (Qk (Yc ic (pv 1) (Gb Le (Gb zc (pv 0) (pv 2)) (pv 3)) (fun _ _=>rfl)))),by walk_at "B"⟩) (fun _ _ _ _=>⟨_,(pv 0),by walk_at "B"⟩)))))),?_⟩
 walk_at "RD";refine ⟨_,.inl (SqL.of hm),⟨_,SqL.of ht⟩,?_⟩;rw [show (Hc ms).length=ms.length by unfold Hc;simp];refine vd.list_sel (xs:=kc ts) (ss:=ts.map fun u=>if ((ms[((u + x) % (ms.length:Int)).toNat]?).getD false)=true then some (V.int u) else none) (SqL.of ht) (by rw [ye];exact Nat.le_trans htl (by decide)) (by rw [ye,List.length_map]) (fun i v o ys N hv ho hN=>?_) (fun p hp=>?_)
 ·obtain ⟨u,hu,rfl⟩:=Xb hv;obtain ⟨u',hu',rfl⟩:=Xb ho;rw [hu] at hu';cases hu';have h0:=Int.emod_nonneg (u + x) (show (ms.length:Int) ≠ 0 by omega);have h1:=Int.emod_lt_of_pos (u + x) (show (0:Int) < ms.length by omega);have hj:ms[((u + x) % (ms.length:Int)).toNat]? = some (ms[((u + x) % (ms.length:Int)).toNat]'(by omega)):=List.getElem?_eq_getElem _;rw [hj] at hN;have e:=wc (xs:=Hc ms) (j:=((u + x) % (ms.length:Int)).toNat) (by unfold Hc;rw [List.getElem?_map,hj];rfl);rw [Int.toNat_of_nonneg h0] at e;generalize ms[((u + x) % (ms.length:Int)).toNat]'(by omega)=bb at hN e;walk_at "RD";refine ⟨Sub.name,by omega,_,SqL.of hm,_,e,_,rfl,?_⟩;cases bb with
  | true=>exact hN
  | false=>
   simp at hN ⊢;exact hN
 ·rw [Ku];exact q p hp
theorem GE (T:Txt w K mg t):Lb P w K mg base CX0 2 t.ag t.Of q32 Vx:=by
 have g24:Lb P w K mg base CX0 1 t.Em t.zm q31 wA:=aI T;refine T.Oh.ok qd (fun vs H Q E h=>?_) (fun _ _ _ s H vs Q E hr h=>?_)
 ·obtain ⟨bp,cp,u,v,c,x,rfl,_⟩:=h;rfl
 obtain ⟨bp,cp,u,v,c,x,rfl,⟨f,b,e1,e2,e3⟩,⟨mf,mb,c1,c2,c3⟩,hf,hb,hu,hv,nt,q⟩:=h;refine ⟨_,(cb (mm (pv 1) (Vd (K:=K) (n:=4) rfl rfl (Eb (xb (i:=3) qd.nd rfl (Or.inl rfl) (.inl rfl)) (Eb (xb (i:=4) qd.nd rfl (Or.inl rfl) (.inl rfl)) (Eb (xb (i:=5) qd.nd rfl (Or.inl rfl) (.inl rfl)) (Eb (xb (i:=6) qd.nd rfl (Or.inl rfl) (.inl rfl)) Ud))))))
   (cb (Bb (i:=7) qd.nd rfl (Or.inl rfl) (yb g24 hr rfl T.Xv T.Vl.kp T.Rv .nil Cb (ab (Yc lh (pv 0) ub (fun _ _=>rfl)) (ab (pv 3) (ab (Gb Oe (pv 5) (pv 2)) fb)))))
   (cb (Bb (i:=8) qd.nd rfl (Or.inl rfl) (yb g24 hr rfl T.Xv T.Vl.kp T.Rv .nil Cb (ab (Yc lh (pv 0) ub (fun _ _=>rfl)) (ab (pv 4) (ab (Gb Oe (pv 6) (pv 2)) fb)))))
   (pb (Jb (bj (ab (pv 7) (ab (pv 8) fb)))))))),?_⟩
 walk_at "RD";refine ⟨_,SqT.of c1,rfl,_,_,rfl,_,_,rfl,_,_,rfl,_,_,rfl,rfl,_,SqT.of e1,_,rfl,_,rfl,f,mf,u,c.f,_,rfl,e2,c2,hf,hu,fun p1 hp1=>?_⟩;have s1:Nb H (upd H p1 (.lst (kc (Ut c.f (c.x - x) u)))):=lb hp1;refine ⟨_,SqT.of (s1 _ _ e1),_,rfl,_,rfl,b,mb,v,c.b,_,rfl,s1 _ _ e3,s1 _ _ c3,hb,hv,fun p2 hp2=>⟨by decide,fun p hp=>?_⟩⟩;have s2:=lb (o:=.lst (kc (Ut c.b (c.y - x) v))) hp2;have s3:=lb (o:=.tup [.ref p1,.ref p2]) hp;exact q p _ ((s1.trans s2).trans s3) ((nt.upd).upd).upd ⟨p1,p2,db,s3 _ _ (s2 _ _ db),s3 _ _ db⟩
theorem EF (T:Txt w K mg t):Lb P w K mg base CX0 1 t.Pg t.Sg ["line"] (gy t):=by
 refine T.Wi.ok Yk (fun vs H Q E h=>?_) (fun _ _ _ s H vs Q E hr h=>?_)
 ·obtain ⟨lp,z,ls,rfl,_⟩:=h;rfl
 obtain ⟨lp,z,ls,rfl,L,hl,hz,nt,q⟩:=h;refine ⟨_,(cb (Bb (i:=1) Yk.nd rfl (Or.inl rfl) (Cc (Nt rfl) rfl T.ug Fc (ab (Cc nB rfl T.Wd (by decide +kernel) (ab (Bc (Yc lh (Yc ic (pv 0) ub (fun _ _=>rfl)) ub (fun _ _=>rfl)) rfl) fb)) fb)))
   (pb (Jb (bj (ab (pv 1) (ab (pv 1) fb)))))),?_⟩
 obtain ⟨⟨qs,l1,lq⟩,al⟩:=L;have hql:qs.length=ls.length:=by rw [lq.1,List.length_map]
 have hq0:qs[0]? = some (qs[0]'(by omega)):=List.getElem?_eq_getElem _;have hl0:ls[0]? = some ls[0]:=List.getElem?_eq_getElem (by omega);have e0:H (qs[0]'(by omega))=some (lO ls[0]):=lq.2 0 _ _ hq0 (by rw [List.getElem?_map,hl0];rfl);obtain ⟨dx,p,lm,un,hpl,_⟩:=(al ls[0] (List.mem_of_getElem? hl0)).1.at_;walk_at "RD";refine ⟨_,SqL.of l1,_,wc (j:=0) (by rw [List.getElem?_map,hq0];rfl),_,rfl,_,SqT.of e0,_,rfl,_,rfl,_,jt T hpl,_,rfl,by omega,by omega,fun p1 hp1=>⟨_,db,by omega,by omega,fun p2 hp2=>⟨by decide,fun p3 hp3=>?_⟩⟩⟩;rw [Int.toNat_natCast] at hp3 ⊢;have s1:=lb (o:=.rng 0 (z:Int)) hp1;have s2:=lb (o:=.lst ((List.range z).map fun i=>V.int ((i:Nat):Int))) hp2;have s3:=lb (o:=.tup [.ref p2,.ref p2]) hp3;have ee:(List.range z).map (fun i=>V.int ((i:Nat):Int))=kc (ts0 z):=by unfold kc ts0;rw [List.map_map];rfl
 exact q p3 _ ((s1.trans s2).trans s3) ((nt.upd).upd).upd ⟨p2,p2,db,by rw [← ee];exact s3 _ _ db,by rw [← ee];exact s3 _ _ db⟩
theorem CF (T:Txt w K mg t):Lb P w K mg base CX0 7 t.vh t.Bh q33 (Xy t):=by
 have g58:Lb P w K mg base CX0 6 t.dg t.Pf q30 (cG t):=kK T;have g59:Lb P w K mg base CX0 6 t.ag t.Of q32 Vx:=(GE T).mono (by decide);have g60:Lb P w K mg base CX0 6 t.Pg t.Sg ["line"] (gy t):=(EF T).mono (by decide);refine T.Fj.ok vf (fun vs H Q E h=>?_) (fun _ _ _ s H vs Q E hr h=>?_)
 ·obtain ⟨lp,fp,bp,sp,z,ls,fs,bs,sh,rfl,_⟩:=h;rfl
 obtain ⟨lp,fp,bp,sp,z,ls,fs,bs,sh,rfl,I,hs,hsl,nt,q⟩:=h;refine ⟨_,(cb (Bb (i:=4) vf.nd rfl (Or.inl rfl) (yb g60 hr rfl T.tt T.Wi.kp T.Bt .nil Cb (ab (pv 0) fb)))
   (cb (Dd PassesOwn.never rfl (rK rfl T.BL (ab (yb g58 hr rfl T.Dr T.Nh.kp T.Wq .nil Cb (ab (pv 0) (ab (pv 1) (ab (pv 2) fb)))) (ab (pv 3) fb))) (Vd (K:=K) (n:=2) rfl rfl (Eb (xb (i:=5) vf.nd rfl (Or.inl rfl) (.inl rfl)) (Eb (xb (i:=6) vf.nd rfl (Or.inl rfl) (.inl rfl)) Ud))) (pb (Bb (i:=4) vf.nd rfl (Or.inl rfl) (yb g59 hr rfl T.br T.Oh.kp T.ur .nil Cb (ab (pv 4) (ab (pv 5) (ab (pv 6) fb)))))))
   (pb (Jb (bj (ab (Vb Fb rfl T.xg Ob (ab (Yc lh (pv 4) ub (fun _ _=>rfl)) fb)) (ab (Vb Fb rfl T.xg Ob (ab (Yc lh (pv 4) ub (fun _ _=>rfl)) fb)) fb))))))),?_⟩
 walk_at "RD";refine ⟨lp,z,ls,rfl,I.l,I.ln.1,I.z0,nt,fun p1 H1 s1 n1 B1=>?_⟩;refine ⟨lp,fp,bp,z,ls,fs,bs,rfl,I.same s1,n1,fun r H2 s2 n2 ⟨qs,r1,r2,r3⟩=>?_⟩;have hs2:=(s1.trans s2) _ _ hs;refine ⟨r,rfl,⟨_,SqL.of r1⟩,⟨_,SqL.of hs2⟩,?_⟩;refine Fh.zip (xs:=qs.map V.ref) (ys:=kc sh) (fun i σ H'=>Nb H2 H'∧NoT H'∧∃ p x5 x6,Iy H' p (grF z ls fs sh i) (grB z ls bs sh i)∧σ=[some (.ref lp),some (.ref fp),some (.ref bp),some (.ref sp),some (.ref p),x5,x6]) ?_ ?_ ls.length (by rw [List.length_map,ye,r2,hsl,Nat.min_self]) ?_ ?_
 ·obtain ⟨f,b,b1,b2,b3⟩:=B1;refine ⟨Nb.refl _,n2,p1,none,none,⟨f,b,s2 _ _ b1,?_,?_⟩,rfl⟩
  ·rw [show grF z ls fs sh 0=ts0 z from List.filter_eq_self.mpr fun _ _=>rfl];exact s2 _ _ b2
  ·rw [show grB z ls bs sh 0=ts0 z from List.filter_eq_self.mpr fun _ _=>rfl];exact s2 _ _ b3
 ·rintro i σ H' hi ⟨sm,_,_⟩;exact ⟨SqL.of (sm _ _ r1),SqL.of (sm _ _ hs2)⟩
 ·rintro i v y σ H0 p3 hv hy ⟨sm,nt',p,x5,x6,B,rfl⟩ hp3;obtain ⟨qi,hqi,rfl⟩:=Xb hv;obtain ⟨si,hsi,rfl⟩:=Xb hy;have hil:i < ls.length:=by rw [← r2];exact (List.getElem?_eq_some_iff.mp hqi).1
  have hli:ls[i]? = some ls[i]:=List.getElem?_eq_getElem hil;have s3:Nb H0 (upd H0 p3 (.tup [.ref qi,.int si])):=lb hp3;have n3:NoT (upd H0 p3 (.tup [.ref qi,.int si])):=nt'.upd;refine kg ?_;generalize upd H0 p3 (.tup [.ref qi,.int si])=H' at s3 n3 ⊢;have C:=(r3 i qi ls[i] hqi hli).same (sm.trans s3);obtain ⟨f,b,b1,b2,b3⟩:=B;have g1:(grF z ls fs sh i).length ≤ 1000:=Nat.le_trans (List.length_filter_le ..) (by rw [uB];exact I.z0.2);have g2:(grB z ls bs sh i).length ≤ 1000:=Nat.le_trans (List.length_filter_le ..) (by rw [uB];exact I.z0.2);walk_at "RD";refine ⟨p,qi,_,_,csK z fs bs ls[i] i,si,rfl,⟨f,b,s3 _ _ b1,s3 _ _ b2,s3 _ _ b3⟩,C,?_,?_,g1,g2,n3,fun p4 H4 s4 n4 B4=>?_⟩
  ·show 0 < (frB z _ _).length∧(frB z _ _).length ≤ 1000;rw [Cw];exact I.z0
  ·show 0 < (frB z _ _).length∧(frB z _ _).length ≤ 1000;rw [Cw];exact I.z0
  ·have hsg:sh.getD i 0=si:=by rw [List.getD_eq_getElem?_getD,hsi];rfl
   have e1:Ut (csK z fs bs ls[i] i).f ((csK z fs bs ls[i] i).x - si) (grF z ls fs sh i)=grF z ls fs sh (i + 1):=by
    have:=Av (fr:=frK z ls LD.d) (off:=Iv fs sh) (i:=i) I.z0.1 (sp:=ls[i].sp) (d:=ls[i].d) (fun x=>by unfold frK;rw [hli];rfl);unfold Iv at this;rw [hsg] at this;exact this
   have e2:Ut (csK z fs bs ls[i] i).b ((csK z fs bs ls[i] i).y - si) (grB z ls bs sh i)=grB z ls bs sh (i + 1):=by
    have:=Av (fr:=frK z ls LD.e) (off:=xL bs sh) (i:=i) I.z0.1 (sp:=ls[i].sp) (d:=ls[i].e) (fun x=>by unfold frK;rw [hli];rfl);unfold xL at this;rw [hsg] at this;exact this
   rw [e1,e2] at B4;refine ⟨(sm.trans s3).trans s4,n4,p4,?_⟩;exact ⟨B4,rfl,_,rfl⟩
 ·rintro σ H' zzq;refine zP fun zzM zzh=>?_
  obtain ⟨sm,nt',p,x5,x6,⟨f,b,b1,b2,b3⟩,rfl⟩:=zzq;subst zzh;walk_at "RD";refine ⟨_,SqT.of b1,_,rfl,_,rfl,_,.inl (SqL.of b2),_,SqT.of b1,_,rfl,_,rfl,_,.inl (SqL.of b3),by decide,fun p5 hp5=>?_⟩;rw [ye,ye];exact q p5 _ (((s1.trans s2).trans sm).trans (lb hp5)) nt'.upd db
end
end My
namespace My
open PySem L2
theorem Fu (x:Str) {a b:Nat} (hab:a ≤ b) (hb:b ≤ x.cps.toList.length):(Txt.slice x (some (a:Int)) (some (b:Int))).cps.toList=(x.cps.toList.drop a).take (b - a):=by
 have hx:x.length=x.cps.toList.length:=by simp [Str.length]
 have e:=StrLaws.sliceText_nat x hab (by rw [hx];exact hb);rw [show Txt.slice x (some (a:Int)) (some (b:Int))=StrLaws.sliceText x (some (a:Int)) (some (b:Int)) from rfl,e]
theorem Oy (x:Str) {b:Nat} (hb:b ≤ x.cps.toList.length):(Txt.slice x none (some (b:Int))).cps.toList=x.cps.toList.take b:=by
 have:Txt.slice x none (some (b:Int))=Txt.slice x (some ((0:Nat):Int)) (some (b:Int)):=by
  show StrLaws.sliceText x none (some (b:Int))=StrLaws.sliceText x (some ((0:Nat):Int)) (some (b:Int));unfold StrLaws.sliceText;rw [StrLaws.sliceIdx_none_lo];rfl
 rw [this,Fu x (Nat.zero_le _) hb,List.drop_zero,Nat.sub_zero]
noncomputable def nmA (l:List Nat) (k:Nat):List Nat:=l.take (k + 1)
noncomputable def nmB (l:List Nat) (at_ size f k:Nat):List Nat:=l.take at_ ++ [97 + (f + 7 * k) % 26] ++ (l.drop (at_ + 1)).take (size - (at_ + 1))
theorem dD {l:List Nat} (hl:l.length=8) (al:∀ c ∈ l,97 ≤ c∧c ≤ 122) {k:Nat} (hk:k < 8):(nmA l k).length=k + 1∧∀ c ∈ nmA l k,97 ≤ c∧c ≤ 122:=by
 unfold nmA;exact ⟨by rw [List.length_take];omega,fun c hc=>al c (List.mem_of_mem_take hc)⟩
theorem sJ {l:List Nat} (hl:l.length=8) (al:∀ c ∈ l,97 ≤ c∧c ≤ 122) {a z f k:Nat} (ha:a < z) (hz:z ≤ 8):(nmB l a z f k).length=z∧∀ c ∈ nmB l a z f k,97 ≤ c∧c ≤ 122:=by
 unfold nmB;refine ⟨by rw [List.length_append,List.length_append,List.length_take,List.length_take,List.length_drop,List.length_singleton];omega,fun c hc=>?_⟩;rcases List.mem_append.mp hc with hc | hc
 ·rcases List.mem_append.mp hc with hc | hc
  ·exact al c (List.mem_of_mem_take hc)
  ·rw [List.mem_singleton.mp hc];omega
 ·exact al c (List.mem_of_mem_drop (List.mem_of_mem_take hc))
theorem oI {l:List Nat} (hl:l.length=8) {a z f i j:Nat} (ha:a < z) (hz:z ≤ 8) (hi:i < 8) (hj:j < 8) (e:nmB l a z f i=nmB l a z f j):i=j:=by
 have h1:∀ k,(nmB l a z f k)[a]? = some (97 + (f + 7 * k) % 26):=fun k=>by
  unfold nmB;rw [List.append_assoc,List.getElem?_append_right (by rw [List.length_take];omega),List.length_take,show a - min a l.length=0 by omega];rfl
 have h2:=h1 i;rw [e,h1 j] at h2;have:=Option.some.inj h2;omega
theorem bH {x:Str} {l:List Nat} (e:x.cps.toList=l) (h0:1 ≤ l.length) (h1:l.length ≤ 8) (al:∀ c ∈ l,97 ≤ c∧c ≤ 122):made x Ag 8=true:=by
 have hx:x.length=x.cps.toList.length:=by simp [Str.length]
 exact Vv (by rw [hx,e];exact h0) (by rw [hx,e];exact h1) (by rw [e];exact al)
noncomputable def Nms (m:Nat) (xs:List Str):Prop:=xs.length=m∧xs.Nodup∧∀ x ∈ xs,made x Ag 8=true
theorem xG {i:Int} (h0:0 ≤ i) (h1:i < 26):∃ c:Nat,atI (Str.ofString "abcdefghijklmnopqrstuvwxyz").cps.toList i=some c∧c=97 + i.toNat:=by
 have:∀ k,k < 26→atI (Str.ofString "abcdefghijklmnopqrstuvwxyz").cps.toList ((k:Nat):Int)=some (97 + k):=by decide +kernel
 refine ⟨97 + i.toNat,?_,rfl⟩;have e:=this i.toNat (by omega);rwa [Int.toNat_of_nonneg h0] at e
theorem AK:∀ ys:List Str,(Str.join ⟨#[]⟩ ys).cps.toList=(ys.map (·.cps.toList)).flatten
 | []=>rfl
 | [a]=>by
  show a.cps.toList=_;simp
 | a :: b :: r=>by
  show (a ++ ⟨#[]⟩ ++ Str.join ⟨#[]⟩ (b :: r)).cps.toList=_;rw [Str.cps_append,Array.toList_append,Str.cps_append,Array.toList_append,AK (b :: r)];simp
theorem Yr (f:Nat→Nat) (n:Nat):(Txt.join (Str.ofString "") ((List.range n).map fun i=>Qu (f i))).cps.toList=(List.range n).map f:=by
 rw [show Txt.join (Str.ofString "") ((List.range n).map fun i=>Qu (f i))=Str.join ⟨#[]⟩ ((List.range n).map fun i=>Qu (f i)) from StrLaws.glued_eq_join _ _,AK,List.map_map];have:((fun x:Str=>x.cps.toList) ∘ fun i=>Qu (f i))=fun i=>[f i]:=rfl
 rw [this]
 induction (List.range n) with
 | nil=>rfl
 | cons a l ih=>rw [List.map_cons,List.flatten_cons,ih];rfl
noncomputable def xv (K:PySem.W.Frag) (a:Addr) (ns:List Int):Sp:=fun vs H Q _=>∃ m:Nat,vs=[.ref a,.int m]∧Sc K a ns H∧(1 ≤ m∧m ≤ 8)∧∀ p xs H',Nb H H'→Sc K a ns H'→H p=none→H' p=some (.lst (Hb xs))→Nms m xs→Q (.ref p) H'
section
variable {P:Program} {w:World} {K:PySem.W.Frag} {mg:Str→Option Value} {base:Heap} {t:Adr}
theorem zB (T:Txt w K mg t) (a:Addr) (ns:List Int) (h63:ns.length ≤ 63):Lb P w K mg base CX0 2 t.uh t.Hh q46 (xv K a ns):=by
 have g0:Lb P w K mg base CX0 1 t.Hf t.Lf q21 (jd K a ns):=Mw T a ns h63;refine T.Sj.ok Mc (fun vs H Q E h=>?_) (fun _ _ _ s H vs Q E hr h=>?_)
 ·obtain ⟨m,rfl,_⟩:=h;rfl
 obtain ⟨m,rfl,S,hm,q⟩:=h;have hL:(Str.ofString "abcdefghijklmnopqrstuvwxyz").length=26:=by decide +kernel
 refine ⟨_,(cb (Bb (i:=2) Mc.nd rfl (Or.inr rfl) Rc)
   (cb (Bb (i:=3) Mc.nd rfl (Or.inl rfl) (Bi PySem.F.plainAttrs_str PySem.F.slot_str_join PySem.F.type_str_join aq Rc (ab (Jf rfl (Zc rfl T.Wd (ab ub fb)) (Qc (sc:=rb Uj) rfl (by decide +kernel)) (N:=["_law_k","_law_letters","_law_script"]) (sel:=[none,some 2,some 0]) (ud (M:=["_law_script","_law_many","_law_letters","_law_word","_law_size","_law_at","_law_first","_law_some","_law_k","_law_name","_law_sign"]) (by decide +kernel)) (Blk.of (fun _ _ _ _=>(xb (i:=0) (Bg (N:=["_law_k","_law_letters","_law_script"]) (by decide +kernel) rfl) rfl (Or.inl rfl))) (fun _ _ _ _=>⟨_,uf,by walk_at "B"⟩) (fun _ _ _ _=>⟨_,(Yc OC (pv 1) (yb g0 hr rfl T.Sb T.Mb.kp T.Rb .nil Cb (ab (pv 2) (ab (Gb zc ub (pv 0)) (ab ub fb)))) (fun _ _=>rfl)),by walk_at "B"⟩))) fb)))
   (cb (Bb (i:=4) Mc.nd rfl (Or.inl rfl) (Gb zc ub (yb g0 hr rfl T.Sb T.Mb.kp T.Rb .nil Cb (ab (pv 0) (ab ub (ab ub fb))))))
   (cb (Bb (i:=5) Mc.nd rfl (Or.inl rfl) (yb g0 hr rfl T.Sb T.Mb.kp T.Rb .nil Cb (ab (pv 0) (ab ub (ab (pv 4) fb)))))
   (cb (Bb (i:=6) Mc.nd rfl (Or.inl rfl) (yb g0 hr rfl T.Sb T.Mb.kp T.Rb .nil Cb (ab (pv 0) (ab ub (ab ub fb)))))
   (cb (Bb (i:=7) Mc.nd rfl (Or.inl rfl) (se fb))
   (cb (Dd PassesOwn.never rfl (Zc rfl T.Wd (ab (pv 1) fb)) (xb (i:=8) Mc.nd rfl (Or.inl rfl)) (cb (Bb (i:=9) Mc.nd rfl (Or.inl rfl) (Si vB (pv 3) dn (Pj (Gb zc (pv 8) ub))))
   (cb (Ye (bc mj (yb g0 hr rfl T.Sb T.Mb.kp T.Rb .nil Cb (ab (pv 0) (ab ub (ab ub fb)))) ub (qc _)) (cb (Bb (i:=10) Mc.nd rfl (Or.inl rfl) (Yc OC (pv 2) (Gb Le (Gb zc (pv 6) (Gb Ig ub (pv 8))) ub) (fun _ _=>rfl)))
   (pb (Bb (i:=9) Mc.nd rfl (Or.inl rfl) (Gb nk (Gb nk (Si vB (pv 3) dn (Pj (pv 5))) (pv 10)) (Si vB (pv 3) (Pj (Gb zc (pv 5) ub)) (Pj (pv 4))))))) Ec)
   (pb (xc (Bi PySem.F.plainAttrs_list PySem.F.slot_list_append PySem.F.type_list_append fe (pv 7) (ab (pv 9) fb)))))))
   (cb (Ye (bc mj (yb g0 hr rfl T.Sb T.Mb.kp T.Rb .nil Cb (ab (pv 0) (ab ub (ab ub fb)))) ub (qc _)) (pb (xc (SJ PySem.F.plainAttrs_list PySem.F.slot_list_reverse PySem.F.type_list_reverse Hz (pv 7)))) Ec)
   (pb (Jb (pv 7))))))))))),?_⟩
 refine zS (fun σ' H'=>H'=H∧σ'=[some (.ref a),some (.int m),some (.str (Str.ofString "abcdefghijklmnopqrstuvwxyz")),none,none,none,none,none,none,none,none]) (fun D' hD=>?_) fun zzM zzh=>?_
 ·walk_at "RD";exact hD _ _ ⟨rfl,rfl⟩
 rintro σ1 H1 ⟨rfl,rfl⟩;subst zzh;refine zS (fun σ' H'=>Nb H1 H'∧Sc K a ns H'∧∃ wd:Str,wd.cps.toList.length=8∧(∀ c ∈ wd.cps.toList,97 ≤ c∧c ≤ 122)∧σ'=[some (.ref a),some (.int m),some (.str (Str.ofString "abcdefghijklmnopqrstuvwxyz")),some (.str wd),none,none,none,none,none,none,none]) (fun D' hD=>?_) fun zzM zzh=>?_
 ·walk_at "RD";refine ⟨by decide,by decide,?_⟩;refine vd.range_map (n:=8) (fun i=>V.str (Qu (97 + (zh ns (100 + (i:Int)) 26).toNat))) (by decide) (fun i N hi hN=>?_) (fun p hp=>?_)
  ·have d1:=Ae ns (100 + (i:Int)) (m:=26) (by decide);have d2:=we ns (100 + (i:Int)) (m:=26) (by decide);obtain ⟨c,hc,rfl⟩:=xG d1 d2;(walk_at "RD"; repeat (simp only [jd];walk_at "RD"));exact ⟨Sub.name,S,by omega,by omega,by decide,by rw [hL];decide,_,hc,hN⟩
  ·have e:(List.range 8).map (fun i:Nat=>V.str (Qu (97 + (zh ns (100 + (i:Int)) 26).toNat)))=Hb ((List.range 8).map fun i:Nat=>Qu (97 + (zh ns (100 + (i:Int)) 26).toNat)):=by unfold Hb;rw [List.map_map];rfl
   refine ⟨p,rfl,(List.range 8).map fun i:Nat=>Qu (97 + (zh ns (100 + (i:Int)) 26).toNat),by rw [← e];exact SqL.of db,?_,?_⟩
   ·have h1:(List.map (fun x:Str=>x.length) ((List.range 8).map fun i:Nat=>Qu (97 + (zh ns (100 + (i:Int)) 26).toNat))).sum=8:=by
     rw [List.map_map];rfl
    rw [h1,List.length_map,List.length_range];decide +kernel
   ·refine hD _ _ ⟨lb hp,S.new hp,_,?_,fun c hc=>?_,rfl⟩
    ·rw [Yr (fun i:Nat=>97 + (zh ns (100 + (i:Int)) 26).toNat) 8,List.length_map,List.length_range]
    ·rw [Yr (fun i:Nat=>97 + (zh ns (100 + (i:Int)) 26).toNat) 8] at hc;obtain ⟨i,_,rfl⟩:=List.mem_map.mp hc;have d1:=Ae ns (100 + (i:Int)) (m:=26) (by decide);have d2:=we ns (100 + (i:Int)) (m:=26) (by decide);omega
 rintro σ2 H2 ⟨s2,S2,wd,hwl,hwa,rfl⟩;have hwn:wd.length=8:=by
  have:wd.length=wd.cps.toList.length:=by simp [Str.length]
  omega
 obtain ⟨z,hzz,hz1⟩:∃ z:Nat,1 + zh ns 112 8=(z:Nat)∧(1 ≤ z∧z ≤ 8):=by
  have d1:=Ae ns 112 (m:=8) (by decide);have d2:=we ns 112 (m:=8) (by decide);exact ⟨(1 + zh ns 112 8).toNat,by omega,by omega⟩
 subst zzh;refine zS (fun σ' H'=>H'=H2∧σ'=[some (.ref a),some (.int m),some (.str (Str.ofString "abcdefghijklmnopqrstuvwxyz")),some (.str wd),some (.int (z:Nat)),none,none,none,none,none,none]) (fun D' hD=>?_) fun zzM zzh=>?_
 ·(walk_at "RD"; repeat (simp only [jd];walk_at "RD"));rw [hzz];exact ⟨S2,by omega,by omega,by decide,hD _ _ ⟨rfl,rfl⟩⟩
 rintro σ3 H3 ⟨rfl,rfl⟩;obtain ⟨at_,hat,hat1⟩:∃ at_:Nat,zh ns 113 (z:Int)=(at_:Nat)∧at_ < z:=by
  have d1:=Ae ns 113 (m:=(z:Int)) (by omega);have d2:=we ns 113 (m:=(z:Int)) (by omega);exact ⟨(zh ns 113 (z:Int)).toNat,by omega,by omega⟩
 subst zzh;refine zS (fun σ' H'=>H'=H3∧σ'=[some (.ref a),some (.int m),some (.str (Str.ofString "abcdefghijklmnopqrstuvwxyz")),some (.str wd),some (.int (z:Nat)),some (.int (at_:Nat)),none,none,none,none,none]) (fun D' hD=>?_) fun zzM zzh=>?_
 ·(walk_at "RD"; repeat (simp only [jd];walk_at "RD"));rw [hat];exact ⟨S2,by omega,by omega,by omega,hD _ _ ⟨rfl,rfl⟩⟩
 rintro σ4 H4 ⟨rfl,rfl⟩;obtain ⟨f,hf,hf1⟩:∃ f:Nat,zh ns 114 26=(f:Nat)∧f < 26:=by
  have d1:=Ae ns 114 (m:=26) (by decide);have d2:=we ns 114 (m:=26) (by decide);exact ⟨(zh ns 114 26).toNat,by omega,by omega⟩
 subst zzh;refine zS (fun σ' H'=>H'=H4∧σ'=[some (.ref a),some (.int m),some (.str (Str.ofString "abcdefghijklmnopqrstuvwxyz")),some (.str wd),some (.int (z:Nat)),some (.int (at_:Nat)),some (.int (f:Nat)),none,none,none,none]) (fun D' hD=>?_) fun zzM zzh=>?_
 ·(walk_at "RD"; repeat (simp only [jd];walk_at "RD"));rw [hf];exact ⟨S2,by omega,by omega,by decide,hD _ _ ⟨rfl,rfl⟩⟩
 rintro σ5 H5 ⟨rfl,rfl⟩;subst zzh;refine zS (fun σ' H'=>Sc K a ns H'∧Nb H5 H'∧∃ rl,H5 rl=none∧H' rl=some (.lst [])∧σ'=[some (.ref a),some (.int m),some (.str (Str.ofString "abcdefghijklmnopqrstuvwxyz")),some (.str wd),some (.int (z:Nat)),some (.int (at_:Nat)),some (.int (f:Nat)),some (.ref rl),none,none,none]) (fun D' hD=>?_) fun zzM zzh=>?_
 ·walk_at "RD";exact ⟨Nat.zero_le _,fun rl hrl=>hD _ _ ⟨S2.new hrl,lb hrl,rl,hrl,db,rfl⟩⟩
 rintro σ6 H6 ⟨S6,s6,rl,hrl,w6,rfl⟩;obtain ⟨b,hb⟩:∃ b:Bool,decide (zh ns 110 2=1)=b:=⟨_,rfl⟩;subst zzh;obtain ⟨g,hg⟩:∃ g:Nat→List Nat,g=fun k=>if b=true then nmB wd.cps.toList at_ z f k else nmA wd.cps.toList k:=⟨_,rfl⟩
 refine zS (fun σ' H'=>Sc K a ns H'∧Nb H5 H'∧(∃ xs:List Str,H' rl=some (.lst (Hb xs))∧xs.map (·.cps.toList)=(List.range m).map g)∧∃ x8 x9 x10,σ'=[some (.ref a),some (.int m),some (.str (Str.ofString "abcdefghijklmnopqrstuvwxyz")),some (.str wd),some (.int (z:Nat)),some (.int (at_:Nat)),some (.int (f:Nat)),some (.ref rl),x8,x9,x10]) (fun D' hD=>?_) fun zzM zzh=>?_
 ·walk_at "RD";refine ⟨by omega,by omega,?_⟩;refine Fh.range (fun i σ H'=>Sc K a ns H'∧Nb H5 H'∧(∃ xs:List Str,H' rl=some (.lst (Hb xs))∧xs.map (·.cps.toList)=(List.range i).map g)∧∃ x8 x9 x10,σ=[some (.ref a),some (.int m),some (.str (Str.ofString "abcdefghijklmnopqrstuvwxyz")),some (.str wd),some (.int (z:Nat)),some (.int (at_:Nat)),some (.int (f:Nat)),some (.ref rl),x8,x9,x10]) ⟨S6,s6,⟨[],w6,rfl⟩,_,_,_,rfl⟩ ?_ ?_
  ·rintro i σ H' hi zzq;refine zP fun zzM zzh=>?_
   obtain ⟨S7,s7,⟨xs,w7,hxs⟩,x8,x9,x10,rfl⟩:=zzq;have hi8:i < 8:=by have:i < (m:Int).toNat:=hi;omega
   have hxl:xs.length=i:=by have:=congrArg List.length hxs;rwa [List.length_map,List.length_map,List.length_range] at this
   subst zzh;simp only [Mg,Db,List.set_cons_succ,List.set_cons_zero,Int.zero_add];refine zzC (fun σ' H''=>H''=H'∧σ'=[some (.ref a),some (.int m),some (.str (Str.ofString "abcdefghijklmnopqrstuvwxyz")),some (.str wd),some (.int (z:Nat)),some (.int (at_:Nat)),some (.int (f:Nat)),some (.ref rl),some (.int (i:Nat)),some (.str (Txt.slice wd none (some ((i + 1:Nat):Int)))),x10]) (fun D' hD=>?_) fun zzM zzh=>?_
   ·walk_at "RD";exact ⟨by rw [hwn];decide,hD _ _ ⟨rfl,by rw [Int.natCast_add];rfl⟩⟩
   rintro σA HA ⟨rfl,rfl⟩;subst zzh;simp only [Db];refine zzC (fun σ' H''=>H''=HA∧∃ nm:Str,nm.cps.toList=g i∧∃ x10,σ'=[some (.ref a),some (.int m),some (.str (Str.ofString "abcdefghijklmnopqrstuvwxyz")),some (.str wd),some (.int (z:Nat)),some (.int (at_:Nat)),some (.int (f:Nat)),some (.ref rl),some (.int (i:Nat)),some (.str nm),x10]) (fun D' hD=>?_) fun zzM zzh=>?_
   ·refine Wc b (fun Q hQ=>?_) (fun hbt=>?_) (fun hbf=>?_)
    ·(walk_at "RD"; repeat (simp only [jd];walk_at "RD"));rw [hb];exact ⟨S7,by omega,by omega,by decide,hQ⟩
    ·have hgi:g i=nmB wd.cps.toList at_ z f i:=by rw [hg];exact if_pos hbt
     obtain ⟨c,hc,rfl⟩:=xG (i:=((f:Int) + 7 * (i:Int)) % 26) (Int.emod_nonneg _ (by decide)) (Int.emod_lt_of_pos _ (by decide));have hbig:∀ k:Nat,k ≤ 1000→k ≤ sizeLine:=fun k h=>Nat.le_trans h (by decide)
     have l1:=Txt.slice_le wd none (some (at_:Int));have l2:=Txt.slice_le wd (some ((at_:Int) + 1)) (some (z:Int));have l3:(Qu (97 + (((f:Int) + 7 * (i:Int)) % 26).toNat)).length=1:=rfl;walk_at "RD";refine ⟨.inl ⟨by decide,by decide⟩,by decide,by rw [hL];decide,_,hc,by rw [hwn];decide,hbig _ (by show _ + (Qu (97 + (((f:Int) + 7 * (i:Int)) % 26).toNat)).length ≤ 1000;omega),by rw [hwn];decide,hbig _ (by show (_ ++ Qu (97 + (((f:Int) + 7 * (i:Int)) % 26).toNat)).length + _ ≤ 1000;rw [Hn];omega),?_⟩;refine hD _ _ ⟨rfl,_,?_,_,rfl⟩;rw [hgi];unfold nmB;rw [Str.cps_append,Array.toList_append,Str.cps_append,Array.toList_append,Oy wd (by omega),show ((at_:Int) + 1)=((at_ + 1:Nat):Int) by omega,Fu wd (by omega) (by omega),show (((f:Int) + 7 * (i:Int)) % 26).toNat=(f + 7 * i) % 26 by omega]
    ·have hgi:g i=nmA wd.cps.toList i:=by rw [hg];exact if_neg (by rw [hbf];decide)
     walk_at "RD";exact hD _ _ ⟨rfl,_,by rw [hgi,Oy wd (by omega)];rfl,_,rfl⟩
   rintro σB HB ⟨rfl,nm,hnm,x10,rfl⟩;subst zzh;walk_at "RD";refine ⟨.inl ⟨_,SqL.of w7⟩,_,w7,Nat.lt_of_le_of_lt (show (Hb xs).length ≤ 8 by unfold Hb;rw [List.length_map];omega) (by decide),S7.set w7 (fun _ _ z=>by cases z),s7.updN hrl,⟨xs ++ [nm],?_,?_⟩,?_⟩
   ·rw [db];unfold Hb;rw [List.map_append];rfl
   ·rw [List.map_append,hxs,List.range_succ,List.map_append,List.map_cons,List.map_nil,hnm];rfl
   ·repeat (first | exact ⟨_,rfl⟩ | refine ⟨⟨_,rfl⟩,?_⟩)
  ·rintro σ H' zzq;refine zP fun zzM zzh=>?_
   obtain ⟨S7,s7,⟨xs,w7,hxs⟩,x8,x9,x10,rfl⟩:=zzq;subst zzh;exact hD _ _ ⟨S7,s7,⟨xs,w7,by rw [hxs,show (m:Int).toNat=m by omega]⟩,x8,x9,x10,rfl⟩
 rintro σ7 H7 ⟨S7,s7,⟨xs,w7,hxs⟩,x8,x9,x10,rfl⟩;have hxl:xs.length=m:=by have:=congrArg List.length hxs;rwa [List.length_map,List.length_map,List.length_range] at this
 have gok:∀ k,k < m→(1 ≤ (g k).length∧(g k).length ≤ 8)∧∀ c ∈ g k,97 ≤ c∧c ≤ 122:=fun k hk=>by
  rw [hg];dsimp only;split
  ·have:=sJ hwl hwa (f:=f) (k:=k) hat1 hz1.2;exact ⟨by omega,this.2⟩
  ·have:=dD hwl hwa (k:=k) (by omega);exact ⟨by omega,this.2⟩
 have ginj:∀ i j,i < m→j < m→g i=g j→i=j:=fun i j hi hj e=>by
  rw [hg] at e
  try dsimp only at e
  split at e
  ·exact oI hwl hat1 hz1.2 (by omega) (by omega) e
  ·have h1:=dD hwl hwa (k:=i) (by omega);have h2:=dD hwl hwa (k:=j) (by omega);rw [e] at h1;omega
 have hat':∀ (i:Nat) (x:Str),xs[i]? = some x→i < m∧x.cps.toList=g i:=fun i x hx=>by
  have hi:i < m:=by rw [← hxl];exact (List.getElem?_eq_some_iff.mp hx).1
  have e:=congrArg (fun l=>l[i]?) hxs
  try dsimp only at e
  rw [List.getElem?_map,hx,List.getElem?_map,List.getElem?_range hi] at e;exact ⟨hi,Option.some.inj e⟩
 have N:Nms m xs:=by
  refine ⟨hxl,List.pairwise_iff_getElem.mpr fun i j hi hj hij e=>?_,fun x hx=>?_⟩
  ·obtain ⟨a1,a2⟩:=hat' i _ (List.getElem?_eq_getElem hi);obtain ⟨b1,b2⟩:=hat' j _ (List.getElem?_eq_getElem hj);rw [e,b2] at a2;have:=ginj i j a1 b1 a2.symm;omega
  ·obtain ⟨i,hi⟩:=List.getElem?_of_mem hx;obtain ⟨a1,a2⟩:=hat' i _ hi;have:=gok i a1;exact bH a2 this.1.1 this.1.2 this.2
 subst zzh;refine zS (fun σ' H'=>Sc K a ns H'∧Nb H5 H'∧(∃ xs:List Str,H' rl=some (.lst (Hb xs))∧Nms m xs)∧∃ x8 x9 x10,σ'=[some (.ref a),some (.int m),some (.str (Str.ofString "abcdefghijklmnopqrstuvwxyz")),some (.str wd),some (.int (z:Nat)),some (.int (at_:Nat)),some (.int (f:Nat)),some (.ref rl),x8,x9,x10]) (fun D' hD=>?_) fun zzM zzh=>?_
 ·refine Wc (decide (zh ns 111 2=1)) (fun Q hQ=>?_) (fun _=>?_) (fun _=>?_)
  ·(walk_at "RD"; repeat (simp only [jd];walk_at "RD"));exact ⟨S7,by omega,by omega,by decide,hQ⟩
  ·walk_at "RD";refine ⟨.inl ⟨_,SqL.of w7⟩,_,w7,hD _ _ ⟨S7.set w7 (fun _ _ z=>by cases z),s7.updN hrl,⟨xs.reverse,by rw [db];unfold Hb;rw [List.map_reverse],by rw [List.length_reverse];exact N.1,List.pairwise_reverse.mpr (N.2.1.imp fun h=>Ne.symm h),fun x hx=>N.2.2 x (List.mem_reverse.mp hx)⟩,_,_,_,rfl⟩⟩
  ·walk_at "RD";exact hD _ _ ⟨S7,s7,⟨xs,w7,N⟩,_,_,_,rfl⟩
 rintro σ8 H8 ⟨S8,s8,⟨ys,w8,N8⟩,y8,y9,y10,rfl⟩;subst zzh;walk_at "RD";exact q rl ys H8 (s2.trans s8) S8 (s2.free hrl) w8 N8
end
end My
namespace My
open PySem L2
theorem em {α:Type} (z:Nat) (v:α) (b:Int) (hz:0 < z) (l:List α) (hl:l.length=z):∀ (k:Nat) (i:Nat),i < z→(Fw z v b k l)[i]? = if ∃ j,j < k∧(b + (j:Int)) % (z:Int)=(i:Int) then some v else l[i]?
 | 0,i,hi=>by rw [if_neg (fun ⟨j,hj,_⟩=>by omega)];rfl
 | k + 1,i,hi=>by
  have ih:=em z v b hz l hl k i hi;have h0:=Int.emod_nonneg (b + (k:Int)) (show (z:Int) ≠ 0 by omega);have h1:=Int.emod_lt_of_pos (b + (k:Int)) (show 0 < (z:Int) by omega);unfold Fw gG;by_cases c:(b + (k:Int)) % (z:Int)=(i:Int)
  ·rw [show ((b + (k:Int)) % (z:Int)).toNat=i by omega,List.getElem?_set_self (by rw [We,hl];exact hi),if_pos ⟨k,by omega,c⟩]
  ·rw [List.getElem?_set_ne (by omega),ih];by_cases e:∃ j,j < k∧(b + (j:Int)) % (z:Int)=(i:Int)
   ·obtain ⟨j,hj,ej⟩:=e;rw [if_pos ⟨j,hj,ej⟩,if_pos ⟨j,by omega,ej⟩]
   ·rw [if_neg e,if_neg];rintro ⟨j,hj,ej⟩;by_cases hjk:j=k
    ·subst hjk;exact c ej
    ·exact e ⟨j,by omega,ej⟩
theorem Fo {z b i:Int} {n:Int} (hz:0 < z) (hi:0 ≤ i∧i < z) (hn:0 ≤ n∧n ≤ z):(∃ j:Nat,j < n.toNat∧(b + (j:Int)) % z=i)↔(i - b) % z < n:=by
 have h0:=Int.emod_nonneg (i - b) (show z ≠ 0 by omega);have h1:=Int.emod_lt_of_pos (i - b) hz;constructor
 ·rintro ⟨j,hj,e⟩;have:(i - b) % z=j:=by
   rw [← e,Int.emod_sub_emod,show b + (j:Int) - b=j by omega];exact Int.emod_eq_of_lt (by omega) (by omega)
  omega
 ·intro h;refine ⟨((i - b) % z).toNat,by omega,?_⟩;rw [Int.toNat_of_nonneg h0,Int.add_emod_emod,show b + (i - b)=i by omega];exact Int.emod_eq_of_lt hi.1 hi.2
theorem VF {z:Nat} (hz:0 < z) {b n:Int} (hn:0 ≤ n∧n ≤ z) {i:Nat} (hi:i < z):(fmF z [(b,n)])[i]? = some (decide (((i:Int) - b) % (z:Int) < n)):=by
 unfold fmF;rw [List.foldl_cons,List.foldl_nil,em z true b hz _ (List.length_replicate ..) _ _ hi];have:=Fo (z:=z) (b:=b) (i:=i) (n:=n) (by omega) ⟨by omega,by omega⟩ hn;by_cases c:((i:Int) - b) % (z:Int) < n
 ·rw [if_pos (this.mpr c),decide_eq_true c]
 ·rw [if_neg (fun e=>c (this.mp e)),decide_eq_false c,List.getElem?_replicate,if_pos hi]
theorem Ug (m:List Bool):∀ k,0 ≤ Re m k
 | 0=>by show (0:Int) ≤ 0;decide
 | k + 1=>by
  have:=Ug m k;unfold Re;split <;> omega
theorem sv (m:List Bool) (g:Int) (hg:0 ≤ g):∀ k:Nat,Re m k ≤ g↔(∃ j:Nat,(j:Int) ≤ g∧j < k∧m[(2 * m.length - 1 - (k - 1 - j)) % m.length]? = some true)∨(k:Int) ≤ g
 | 0=>by
  constructor
  ·intro _;exact .inr (by omega)
  ·intro _;exact hg
 | k + 1=>by
  by_cases c:m[(2 * m.length - 1 - k) % m.length]? = some true
  ·have e:Re m (k + 1)=0:=by unfold Re;rw [if_pos c]
   rw [e];exact ⟨fun _=>.inl ⟨0,by omega,by omega,by rw [show k + 1 - 1 - 0=k by omega];exact c⟩,fun _=>hg⟩
  ·have e:Re m (k + 1)=Re m k + 1:=by
    show (if m[(2 * m.length - 1 - k) % m.length]? = some true then 0 else Re m k + 1)=_;rw [if_neg c]
   rw [e];by_cases hg1:1 ≤ g
   ·have ih:=sv m (g - 1) (by omega) k;constructor
    ·intro h;rcases ih.mp (by omega) with ⟨j,h1,h2,h3⟩ | h
     ·exact .inl ⟨j + 1,by omega,by omega,by rw [show k + 1 - 1 - (j + 1)=k - 1 - j by omega];exact h3⟩
     ·exact .inr (by omega)
    ·rintro (⟨j,h1,h2,h3⟩ | h)
     ·by_cases hj:j=0
      ·subst hj;rw [show k + 1 - 1 - 0=k by omega] at h3;exact absurd h3 c
      ·have:=ih.mpr (.inl ⟨j - 1,by omega,by omega,by rw [show k - 1 - (j - 1)=k + 1 - 1 - j by omega];exact h3⟩);omega
     ·have:=ih.mpr (.inr (by omega));omega
   ·have:=Ug m k;constructor
    ·intro h;omega
    ·rintro (⟨j,h1,h2,h3⟩ | h)
     ·have hj:j=0:=by omega
      subst hj;rw [show k + 1 - 1 - 0=k by omega] at h3;exact absurd h3 c
     ·omega
theorem Mx {m:List Bool} {t:Nat} (ht:t < m.length):(Bm m)[t]? = some (Re m (2 * m.length - t)):=by
 unfold Bm;rw [List.getElem?_map,List.getElem?_range ht];rfl
theorem cz {m:List Bool} (hm:∃ i,i < m.length∧m[i]? = some true) {t:Nat} (ht:t < m.length) (g:Int) (hg:0 ≤ g):Re m (2 * m.length - t) ≤ g↔∃ j:Nat,(j:Int) ≤ g∧m[(t + j) % m.length]? = some true:=by
 have pos:∀ j,j < 2 * m.length - t→(2 * m.length - 1 - (2 * m.length - t - 1 - j))=t + j:=fun j hj=>by omega
 rw [sv m g hg];constructor
 ·rintro (⟨j,h1,h2,h3⟩ | h)
  ·rw [pos j h2] at h3;exact ⟨j,h1,h3⟩
  ·obtain ⟨i,hi,e⟩:=hm;refine ⟨(i + m.length - t) % m.length,?_,?_⟩
   ·have:=Nat.mod_lt (i + m.length - t) (show 0 < m.length by omega);omega
   ·rw [Nat.add_mod_mod,show t + (i + m.length - t)=i + m.length by omega,Nat.add_mod_right,Nat.mod_eq_of_lt hi];exact e
 ·rintro ⟨j,h1,h2⟩;have hj:=Nat.mod_lt j (show 0 < m.length by omega);have hle:=Nat.mod_le j m.length;refine .inl ⟨j % m.length,by omega,by omega,?_⟩;rw [pos _ (by omega),Nat.add_mod_mod];exact h2
theorem oH {m:List Bool} (hm:∃ i,i < m.length∧m[i]? = some true):∃ i,i < m.reverse.length∧m.reverse[i]? = some true:=by
 obtain ⟨i,hi,e⟩:=hm;refine ⟨m.length - 1 - i,by rw [List.length_reverse];omega,?_⟩;rw [List.getElem?_reverse (by omega),show m.length - 1 - (m.length - 1 - i)=i by omega];exact e
theorem AF {m:List Bool} {t:Nat} (ht:t < m.length):∃ v,(Ms m)[t]? = some v∧0 ≤ v∧((∃ i,i < m.length∧m[i]? = some true)→∀ g:Int,0 ≤ g→(v ≤ g↔∃ j:Nat,(j:Int) ≤ g∧m[(((t:Int) - (j:Int)) % (m.length:Int)).toNat]? = some true)):=by
 have hr:m.reverse.length=m.length:=List.length_reverse;have h1:m.length - 1 - t < m.reverse.length:=by omega
 refine ⟨Re m.reverse (2 * m.reverse.length - (m.length - 1 - t)),?_,Ug _ _,fun hm g hg=>?_⟩
 ·unfold Ms;rw [List.getElem?_reverse (by rw [ck];omega),ck,hr];have:=Mx h1;rw [hr] at this;exact this
 ·rw [cz (oH hm) h1 g hg];have key:∀ j:Nat,m.reverse[(m.length - 1 - t + j) % m.reverse.length]? = m[(((t:Int) - (j:Int)) % (m.length:Int)).toNat]?:=fun j=>by
   rw [hr];have hlt:=Nat.mod_lt (m.length - 1 - t + j) (show 0 < m.length by omega);rw [List.getElem?_reverse (by omega)];congr 1;have h0:=Int.emod_nonneg ((t:Int) - (j:Int)) (show (m.length:Int) ≠ 0 by omega);have e:((t:Int) - (j:Int)) % (m.length:Int)=((m.length - 1 - (m.length - 1 - t + j) % m.length:Nat):Int):=by
    have d:=Nat.div_add_mod (m.length - 1 - t + j) m.length;generalize (m.length - 1 - t + j) / m.length=q at d;generalize (m.length - 1 - t + j) % m.length=r at d hlt ⊢;have e2:(t:Int) - (j:Int)=((m.length - 1 - r:Nat):Int) + (m.length:Int) * (-(q:Int)):=by
     have d':(m.length:Int) * (q:Int) + (r:Int)=((m.length - 1 - t + j:Nat):Int):=by rw [← d];push_cast;rfl
     rw [Int.mul_neg];omega
    rw [e2,Int.add_mul_emod_self_left];exact Int.emod_eq_of_lt (by omega) (by omega)
   omega
  constructor
  ·rintro ⟨j,h2,h3⟩;exact ⟨j,h2,by rw [← key j];exact h3⟩
  ·rintro ⟨j,h2,h3⟩;exact ⟨j,h2,by rw [key j];exact h3⟩
theorem vK {z:Nat} (hz:0 < z) {b n:Int} (hn:1 ≤ n∧n ≤ z) {t:Nat} (ht:t < z):∃ v,(Ms (fmF z [(b,n)]))[t]? = some v∧0 ≤ v∧∀ g:Int,0 ≤ g→(v ≤ g↔∃ j:Nat,(j:Int) ≤ g∧((t:Int) - (j:Int) - b) % (z:Int) < n):=by
 have hl:(fmF z [(b,n)]).length=z:=Qj _ _;obtain ⟨v,h1,h2,h3⟩:=AF (m:=fmF z [(b,n)]) (t:=t) (by rw [hl];exact ht);refine ⟨v,h1,h2,fun g hg=>?_⟩;have hb0:=Int.emod_nonneg b (show (z:Int) ≠ 0 by omega);have hb1:=Int.emod_lt_of_pos b (show 0 < (z:Int) by omega);have hm:∃ i,i < (fmF z [(b,n)]).length∧(fmF z [(b,n)])[i]? = some true:=by
  refine ⟨(b % (z:Int)).toNat,by rw [hl];omega,?_⟩;rw [VF hz ⟨by omega,hn.2⟩ (by omega),Int.toNat_of_nonneg hb0,decide_eq_true];rw [Int.emod_sub_emod,Int.sub_self,Int.zero_emod];omega
 rw [h3 hm g hg,hl];have key:∀ j:Nat,(fmF z [(b,n)])[(((t:Int) - (j:Int)) % (z:Int)).toNat]? = some (decide (((t:Int) - (j:Int) - b) % (z:Int) < n)):=fun j=>by
  have c0:=Int.emod_nonneg ((t:Int) - (j:Int)) (show (z:Int) ≠ 0 by omega);have c1:=Int.emod_lt_of_pos ((t:Int) - (j:Int)) (show 0 < (z:Int) by omega);rw [VF hz ⟨by omega,hn.2⟩ (by omega),Int.toNat_of_nonneg c0,Int.emod_sub_emod]
 constructor
 ·rintro ⟨j,g1,g2⟩;rw [key j] at g2;exact ⟨j,g1,of_decide_eq_true (Option.some.inj g2)⟩
 ·rintro ⟨j,g1,g2⟩;exact ⟨j,g1,by rw [key j,decide_eq_true g2]⟩
theorem Pu {α:Type} (z:Nat) (v:α) (b:Int) (hz:0 < z) (l:List α) (hl:l.length=z):∀ (k:Nat) (i:Nat),i < z→(Ft z v b k l)[i]? = if ∃ j,j < k∧(b - 1 - (j:Int)) % (z:Int)=(i:Int) then some v else l[i]?
 | 0,i,hi=>by rw [if_neg (fun ⟨j,hj,_⟩=>by omega)];rfl
 | k + 1,i,hi=>by
  have ih:=Pu z v b hz l hl k i hi;have h0:=Int.emod_nonneg (b - 1 - (k:Int)) (show (z:Int) ≠ 0 by omega);have h1:=Int.emod_lt_of_pos (b - 1 - (k:Int)) (show 0 < (z:Int) by omega);unfold Ft gG;by_cases c:(b - 1 - (k:Int)) % (z:Int)=(i:Int)
  ·rw [show ((b - 1 - (k:Int)) % (z:Int)).toNat=i by omega,List.getElem?_set_self (by rw [vg,hl];exact hi),if_pos ⟨k,by omega,c⟩]
  ·rw [List.getElem?_set_ne (by omega),ih];by_cases e:∃ j,j < k∧(b - 1 - (j:Int)) % (z:Int)=(i:Int)
   ·obtain ⟨j,hj,ej⟩:=e;rw [if_pos ⟨j,hj,ej⟩,if_pos ⟨j,by omega,ej⟩]
   ·rw [if_neg e,if_neg];rintro ⟨j,hj,ej⟩;by_cases hjk:j=k
    ·subst hjk;exact c ej
    ·exact e ⟨j,by omega,ej⟩
theorem VE {z b i:Int} {n:Int} (hz:0 < z) (hi:0 ≤ i∧i < z) (hn:0 ≤ n∧n ≤ z):(∃ j:Nat,j < n.toNat∧(b - 1 - (j:Int)) % z=i)↔z - n ≤ (i - b) % z:=by
 have h0:=Int.emod_nonneg (i - b) (show z ≠ 0 by omega);have h1:=Int.emod_lt_of_pos (i - b) hz;constructor
 ·rintro ⟨j,hj,e⟩;have:(i - b) % z=z - 1 - j:=by
   rw [← e,Int.emod_sub_emod,show b - 1 - (j:Int) - b=(z - 1 - j) + z * (-1) by omega,Int.add_mul_emod_self_left];exact Int.emod_eq_of_lt (by omega) (by omega)
  omega
 ·intro h;refine ⟨(z - 1 - (i - b) % z).toNat,by omega,?_⟩;rw [Int.toNat_of_nonneg (by omega),show b - 1 - (z - 1 - (i - b) % z)=(b + (i - b) % z) + z * (-1) by omega,Int.add_mul_emod_self_left,Int.add_emod_emod,show b + (i - b)=i by omega];exact Int.emod_eq_of_lt hi.1 hi.2
theorem ID {z:Nat} (hz:0 < z) {rd fd:Nat} {l:List Str} (hl:l.length=z) {p:Int × Int} (hn:0 ≤ p.2∧p.2 + fd + rd ≤ z) {i:Nat} (hi:i < z):(Ur z rd fd l p)[i]? =
  if ((i:Int) - p.1) % (z:Int) < p.2 then some (Str.ofString "free") else if ((i:Int) - p.1) % (z:Int) < p.2 + fd then some (Str.ofString "fade") else if (z:Int) - rd ≤ ((i:Int) - p.1) % (z:Int) then some (Str.ofString "ready") else l[i]?:=by
 obtain ⟨b,n⟩:=p;dsimp only at hn ⊢;unfold Ur;have s0:=Int.emod_nonneg ((i:Int) - b) (show (z:Int) ≠ 0 by omega);have s1:=Int.emod_lt_of_pos ((i:Int) - b) (show 0 < (z:Int) by omega);rw [em z _ _ hz _ (by rw [We,vg,hl]) _ _ hi,em z _ _ hz _ (by rw [vg,hl]) _ _ hi,Pu z _ _ hz _ hl _ _ hi];dsimp only;have m1:=Fo (z:=z) (b:=b + n) (i:=i) (n:=fd) (by omega) ⟨by omega,by omega⟩ ⟨by omega,by omega⟩;have m2:=Fo (z:=z) (b:=b) (i:=i) (n:=n) (by omega) ⟨by omega,by omega⟩ ⟨by omega,by omega⟩;have m3:=VE (z:=z) (b:=b) (i:=i) (n:=rd) (by omega) ⟨by omega,by omega⟩ ⟨by omega,by omega⟩;rw [Int.toNat_natCast] at m1 m3;have f1:((i:Int) - (b + n)) % (z:Int) < fd↔n ≤ ((i:Int) - b) % (z:Int)∧((i:Int) - b) % (z:Int) < n + fd:=by
  have e:((i:Int) - (b + n)) % (z:Int)=(((i:Int) - b) % (z:Int) - n) % (z:Int):=by
   rw [Int.emod_sub_emod,show (i:Int) - (b + n)=(i:Int) - b - n by omega]
  rw [e];by_cases c:n ≤ ((i:Int) - b) % (z:Int)
  ·rw [Int.emod_eq_of_lt (by omega) (by omega)];omega
  ·rw [show ((i:Int) - b) % (z:Int) - n=(((i:Int) - b) % (z:Int) - n + z) + (z:Int) * (-1) by omega,Int.add_mul_emod_self_left,Int.emod_eq_of_lt (by omega) (by omega)];omega
 by_cases c1:((i:Int) - b) % (z:Int) < n
 ·rw [if_neg (fun h=>by have:=f1.mp (m1.mp h);omega),if_pos (m2.mpr c1),if_pos c1]
 ·by_cases c2:((i:Int) - b) % (z:Int) < n + fd
  ·rw [if_pos (m1.mpr (f1.mpr ⟨by omega,c2⟩)),if_neg c1,if_pos c2]
  ·rw [if_neg (fun h=>by have:=f1.mp (m1.mp h);omega),if_neg (fun h=>c1 (m2.mp h)),if_neg c1,if_neg c2];by_cases c3:(z:Int) - rd ≤ ((i:Int) - b) % (z:Int)
   ·rw [if_pos (m3.mpr c3),if_pos c3]
   ·rw [if_neg (fun h=>c3 (m3.mp h)),if_neg c3]
noncomputable def RK (z:Int) (rd fd:Nat) (p q:Int × Int):Prop:=p.2 + fd + rd ≤ (q.1 - p.1) % z∧q.2 + fd + rd ≤ (p.1 - q.1) % z
theorem aH {z x:Int} (hz:0 < z) (hx:0 < x % z):(-x) % z=z - x % z:=by
 have h1:=Int.emod_lt_of_pos x hz;have e:-x=(z - x % z) + z * (-(x / z) - 1):=by
  have:=Int.mul_ediv_add_emod x z;rw [Int.mul_sub,Int.mul_neg,Int.mul_one];omega
 rw [e,Int.add_mul_emod_self_left,Int.emod_eq_of_lt (by omega) (by omega)]
theorem RK.clear {z:Int} (hz:0 < z) {rd fd:Nat} {p q:Int × Int} (h:RK z rd fd p q) (hq:1 ≤ q.2) {i:Int} (hi:(i - p.1) % z < p.2):q.2 + fd ≤ (i - q.1) % z∧(i - q.1) % z < z - rd:=by
 have h0:=Int.emod_nonneg (i - p.1) (show z ≠ 0 by omega);have hD:0 < (p.1 - q.1) % z:=by have:=h.2;omega
 have hn:=aH hz hD;rw [show -(p.1 - q.1)=q.1 - p.1 by omega] at hn;have e:(i - q.1) % z=((i - p.1) % z + (p.1 - q.1) % z) % z:=by
  rw [← Int.add_emod,show i - p.1 + (p.1 - q.1)=i - q.1 by omega]
 have h1:=h.1;have h2:=h.2;rw [hn] at h1;rw [e,Int.emod_eq_of_lt (by omega) (by omega)];omega
theorem Tn {z:Nat} (hz:0 < z) {rd fd:Nat} {i:Nat} (hi:i < z):∀ (ps:List (Int × Int)) (l:List Str),l.length=z→(∀ p ∈ ps,1 ≤ p.2∧p.2 + fd + rd ≤ z)→ps.Pairwise (RK z rd fd) →
  (l[i]? = some (Str.ofString "free")→∀ p ∈ ps,p.2 + fd ≤ ((i:Int) - p.1) % (z:Int)∧((i:Int) - p.1) % (z:Int) < z - rd) →
  ((ps.foldl (Ur z rd fd) l)[i]? = some (Str.ofString "free")↔l[i]? = some (Str.ofString "free")∨∃ p ∈ ps,((i:Int) - p.1) % (z:Int) < p.2)
 | [],l,_,_,_,_=>by simp
 | p :: ps,l,hl,hp,pw,hB=>by
  have hp0:=hp p (List.mem_cons_self ..);obtain ⟨pw1,pw2⟩:=List.pairwise_cons.mp pw;have e:=ID hz hl (p:=p) (rd:=rd) (fd:=fd) ⟨by omega,hp0.2⟩ hi;have ne1:(some (Str.ofString "fade"):Option Str) ≠ some (Str.ofString "free"):=by decide +kernel
  have ne2:(some (Str.ofString "ready"):Option Str) ≠ some (Str.ofString "free"):=by decide +kernel
  have key:(Ur z rd fd l p)[i]? = some (Str.ofString "free")↔l[i]? = some (Str.ofString "free")∨((i:Int) - p.1) % (z:Int) < p.2:=by
   rw [e];by_cases c1:((i:Int) - p.1) % (z:Int) < p.2
   ·rw [if_pos c1];simp [c1]
   ·rw [if_neg c1];by_cases c2:((i:Int) - p.1) % (z:Int) < p.2 + fd
    ·rw [if_pos c2];exact ⟨fun h=>absurd h ne1,fun h=>by
      rcases h with h | h
      ·have:=(hB h p (List.mem_cons_self ..)).1;omega
      ·exact absurd h c1⟩
    ·rw [if_neg c2];by_cases c3:(z:Int) - rd ≤ ((i:Int) - p.1) % (z:Int)
     ·rw [if_pos c3];exact ⟨fun h=>absurd h ne2,fun h=>by
       rcases h with h | h
       ·have:=(hB h p (List.mem_cons_self ..)).2;omega
       ·exact absurd h c1⟩
     ·rw [if_neg c3];simp [c1]
  have hl':(Ur z rd fd l p).length=z:=by unfold Ur;rw [We,We,vg,hl]
  rw [List.foldl_cons,Tn hz hi ps _ hl' (fun q hq=>hp q (List.mem_cons_of_mem _ hq)) pw2 (fun h q hq=>?_),key]
  ·simp only [List.mem_cons,exists_eq_or_imp,or_assoc]
  ·rcases key.mp h with h | h
   ·exact hB h q (List.mem_cons_of_mem _ hq)
   ·exact (pw1 q hq).clear (by omega) (hp q (List.mem_cons_of_mem _ hq)).1 h
theorem RC {z:Nat} (hz:0 < z) {rd fd:Nat} {ps:List (Int × Int)} (hp:∀ p ∈ ps,1 ≤ p.2∧p.2 + fd + rd ≤ z) (pw:ps.Pairwise (RK z rd fd)) {i:Nat} (hi:i < z) :
  (Rh z rd fd ps)[i]? = some (Str.ofString "free")↔∃ p ∈ ps,((i:Int) - p.1) % (z:Int) < p.2:=by
 have hn:¬ (List.replicate z (Str.ofString "stop"))[i]? = some (Str.ofString "free"):=by
  rw [List.getElem?_replicate,if_pos hi];decide +kernel
 unfold Rh;rw [Tn hz hi ps _ (List.length_replicate ..) hp pw (fun h=>absurd h hn)];exact ⟨fun h=>h.resolve_left hn,.inr⟩
noncomputable def EI (z:Int) (ds:List WD) (s e:SD):Prop:=e.name=s.name→∀ d,wOf ds s.name=some d→s.n + Od d + Dc d ≤ (e.b - s.b) % z∧e.n + Od d + Dc d ≤ (s.b - e.b) % z
theorem EI.symm {z:Int} {ds:List WD} {s e:SD} (h:EI z ds s e):EI z ds e s:=fun hn d hd=>by
 rw [← hn] at hd;exact (h hn.symm d hd).symm
theorem uA {z:Int} {ds:List WD} {sp:List SD} (al:∀ s ∈ sp,∃ d,wOf ds s.name=some d∧d.least ≤ s.n∧s.n + Od d + Dc d ≤ z) (pw:sp.Pairwise (EI z ds)):Qs ds z sp=none:=by
 unfold Qs;refine List.find?_eq_none.mpr fun e he=>?_
 obtain ⟨s,k⟩:=e;have hk:sp[k]? = some s:=by simpa using List.mem_zipIdx_iff_getElem?.mp he
 obtain ⟨d,hw,hle,hr⟩:=al s (List.mem_of_getElem? hk);intro c;unfold et at c;dsimp only at c;rw [hw] at c;have c:(decide (s.n < d.least) || decide (Wz z sp k s < s.n + Od d + Dc d))=true:=c;rw [decide_eq_false (show ¬ s.n < d.least by omega),Bool.false_or,decide_eq_true_eq] at c;unfold Wz at c;cases hmin:((ofN s.name (sp.eraseIdx k)).map fun p=>(p.1 - s.b) % z).min? with
 | none=>
  rw [hmin] at c;have c:z < s.n + Od d + Dc d:=c;omega
 | some v=>
  rw [hmin] at c;have c:v < s.n + Od d + Dc d:=c;obtain ⟨p,hp,rfl⟩:=List.mem_map.mp (List.min?_mem hmin);obtain ⟨e,hem,en,rfl⟩:=qx hp;obtain ⟨j,hj,ej⟩:=List.mem_eraseIdx_iff_getElem?.mp hem;have hp:=List.pairwise_iff_getElem.mp pw;obtain ⟨kl,ke⟩:=List.getElem?_eq_some_iff.mp hk;obtain ⟨jl,je⟩:=List.getElem?_eq_some_iff.mp ej;have far:EI z ds s e:=by
   by_cases c1:k < j
   ·have:=hp k j kl jl c1;rwa [ke,je] at this
   ·have:=hp j k jl kl (by omega);rw [ke,je] at this;exact this.symm
  have:=(far en d hw).1;dsimp only at c;omega
noncomputable def Hi (ps:List (Int × Int)) (z:Nat) (turn:Int):Bool:=ps.any fun p=>decide ((turn - p.1) % (z:Int) < p.2)
theorem BM {ds:List WD} {sp:List SD} (h:∀ d ∈ ds,∃ s ∈ sp,s.name=d.name):Vs ds sp=none:=by
 unfold Vs;refine List.find?_eq_none.mpr fun x hx=>?_
 obtain ⟨d,hd,rfl⟩:=List.mem_map.mp hx;obtain ⟨s,hs,e⟩:=h d hd;intro z;have:ofN d.name sp=[]:=by simpa using z
 have m:(s.b,s.n) ∈ ofN d.name sp:=List.mem_map.mpr ⟨s,List.mem_filter.mpr ⟨hs,by simpa using e⟩,rfl⟩;rw [this] at m;cases m
theorem JM {n:Int} {z:Nat} {ds:List WD} {sp:List SD} (h:∀ d ∈ ds,∀ e ∈ ds,d.name ≠ e.name→mt n d e=false):Vr n z sp ds=none:=by
 unfold Vr;refine List.findSome?_eq_none_iff.mpr fun d hd=>?_
 unfold kC;refine List.findSome?_eq_none_iff.mpr fun e he=>?_
 unfold Ss;rw [if_neg]
 ·rfl
 ·rintro ⟨hn,hm⟩;rw [h d hd e he hn] at hm;cases hm
noncomputable abbrev WE:=WD × List (Int × Int)
noncomputable def Hw (e:WE):List SD:=e.2.map fun p=>⟨e.1.name,p.1,p.2⟩
noncomputable def dsE (es:List WE):List WD:=es.map (·.1)
noncomputable def spE (es:List WE):List SD:=es.flatMap Hw
structure Ow (z:Nat) (d:WD) (ps:List (Int × Int)):Prop where
 ln:1 ≤ ps.length∧ps.length ≤ 2
 al:∀ p ∈ ps,0 ≤ p.1∧p.1 < z∧1 ≤ p.2∧p.2 + Od d + Dc d ≤ z
 pw:ps.Pairwise fun p q=>p.2 + Od d + Dc d ≤ (q.1 - p.1) % (z:Int)∧q.2 + Od d + Dc d ≤ (p.1 - q.1) % (z:Int)
theorem Ow.one {z:Nat} {d:WD} {b n:Int} (hb:0 ≤ b∧b < z) (hn:1 ≤ n∧n + Od d + Dc d ≤ z):Ow z d [(b,n)]:=
 ⟨⟨Nat.le_refl _,by show 1 ≤ 2;decide⟩,fun p hp=>by rw [List.mem_singleton.mp hp];exact ⟨hb.1,hb.2,hn.1,hn.2⟩,List.pairwise_singleton ..⟩
theorem QJ {z b m:Int} (hb:0 ≤ b∧b < z) (hm:1 ≤ m∧m < z):(((b + z - m) % z - b) % z=z - m)∧((b - (b + z - m) % z) % z=m):=by
 have e:(b + z - m) % z=if m ≤ b then b - m else b + z - m:=by
  split
  ·rw [show b + z - m=(b - m) + z by omega,Int.add_emod_right,Int.emod_eq_of_lt (by omega) (by omega)]
  ·rw [Int.emod_eq_of_lt (by omega) (by omega)]
 rw [e];split
 ·refine ⟨?_,?_⟩
  ·rw [show b - m - b=(z - m) + z * (-1) by omega,Int.add_mul_emod_self_left,Int.emod_eq_of_lt (by omega) (by omega)]
  ·rw [show b - (b - m)=m by omega,Int.emod_eq_of_lt (by omega) (by omega)]
 ·refine ⟨?_,?_⟩
  ·rw [show b + z - m - b=z - m by omega,Int.emod_eq_of_lt (by omega) (by omega)]
  ·rw [show b - (b + z - m)=m + z * (-1) by omega,Int.add_mul_emod_self_left,Int.emod_eq_of_lt (by omega) (by omega)]
theorem Ow.two {z:Nat} {d:WD} {b n m:Int} (h0:Od d=0∧Dc d=0) (hb:0 ≤ b∧b < z) (hn:1 ≤ n∧n < z) (hm:1 ≤ m∧m ≤ z - n):Ow z d [(b,n),((b + z - m) % (z:Int),m)]:=by
 have l:=QJ hb (m:=m) (by omega);have l0:=Int.emod_nonneg (b + z - m) (show (z:Int) ≠ 0 by omega);have l1:=Int.emod_lt_of_pos (b + z - m) (show (0:Int) < z by omega);refine ⟨⟨by show 1 ≤ 2;decide,Nat.le_refl _⟩,fun p hp=>?_,?_⟩
 ·rw [h0.1,h0.2];simp only [List.mem_cons,List.not_mem_nil,or_false] at hp;rcases hp with rfl | rfl
  ·exact ⟨hb.1,hb.2,hn.1,by show n + 0 + 0 ≤ _;omega⟩
  ·exact ⟨l0,l1,hm.1,by show m + 0 + 0 ≤ _;omega⟩
 ·rw [h0.1,h0.2];refine List.pairwise_cons.mpr ⟨fun q hq=>?_,List.pairwise_singleton ..⟩;rw [List.mem_singleton.mp hq];dsimp only;rw [l.1,l.2];omega
noncomputable def wK (k i:Nat) (x:Str):WD:=⟨k,x,3 * (i:Int),3 * (i:Int) + 1,0,0,1⟩
structure E70 (z:Nat) (xs:List Str) (es:List WE):Prop where
 ln:es.length ≤ xs.length
 at_:∀ (i:Nat) (e:WE),es[i]? = some e→∃ k x,k < 3∧xs[i]? = some x∧e.1=wK k i x∧Ow z e.1 e.2
theorem E70.nil (z:Nat) (xs:List Str):E70 z xs []:=⟨Nat.zero_le _,fun i e h=>by simp at h⟩
theorem E70.snoc {z:Nat} {xs:List Str} {es:List WE} (h:E70 z xs es) {k:Nat} {x:Str} {ps:List (Int × Int)} (hk:k < 3) (hx:xs[es.length]? = some x) (o:Ow z (wK k es.length x) ps):E70 z xs (es ++ [(wK k es.length x,ps)]):=by
 refine ⟨by rw [List.length_append];exact (List.getElem?_eq_some_iff.mp hx).1,fun i e he=>?_⟩;rcases De he with ⟨_,he⟩ | ⟨rfl,rfl⟩
 ·exact h.at_ i e he
 ·exact ⟨k,x,hk,hx,rfl,o⟩
section
variable {z:Nat} {xs:List Str} {es:List WE}
theorem E70.nm (h:E70 z xs es) {i:Nat} {e:WE} (he:es[i]? = some e):xs[i]? = some e.1.name:=by
 obtain ⟨k,x,_,hx,e1,_⟩:=h.at_ i e he;rw [hx,e1];rfl
theorem E70.nd (h:E70 z xs es) (hx:xs.Nodup):((dsE es).map (·.name)).Nodup:=by
 refine List.pairwise_iff_getElem.mpr fun i j hi hj hij e=>?_
 have hi':i < es.length:=by simpa [dsE] using hi
 have hj':j < es.length:=by simpa [dsE] using hj
 have a:=h.nm (List.getElem?_eq_getElem hi');have b:=h.nm (List.getElem?_eq_getElem hj');have e:es[i].1.name=es[j].1.name:=by simpa [dsE] using e
 rw [e] at a;have:=(List.getElem?_inj (by have:=h.ln;omega) hx).mp (a.trans b.symm);omega
theorem gD {i:Nat} {d:WD} (hd:(dsE es)[i]? = some d):∃ e,es[i]? = some e∧d=e.1:=Xb hd
theorem Zm:(dsE es).length=es.length:=by unfold dsE;simp
theorem E70.cok (h:E70 z xs es) (hx:Nms xs.length xs) (hl:1 ≤ es.length) (hl3:xs.length ≤ 3):COk 12 (dsE es):=by
 refine ⟨by decide,by rw [Zm];have:=h.ln;omega,fun d hd=>?_,h.nd hx.2.1⟩;obtain ⟨i,hi⟩:=List.getElem?_of_mem hd;obtain ⟨e,he,rfl⟩:=gD hi;obtain ⟨k,x,hk,hxi,e1,_⟩:=h.at_ i e he;have hi3:i < 3:=by have:=(List.getElem?_eq_some_iff.mp hxi).1;omega
 rw [e1];exact ⟨hk,hx.2.2 x (List.mem_of_getElem? hxi),by unfold wK;dsimp only;omega,by unfold wK;dsimp only;omega,by unfold wK;dsimp only;omega,by unfold wK;dsimp only;omega,by unfold wK;dsimp only;omega,by unfold wK;dsimp only;omega⟩
theorem E70.wof (h:E70 z xs es) (hx:xs.Nodup) {e:WE} (he:e ∈ es):wOf (dsE es) e.1.name=some e.1:=by
 obtain ⟨i,hi⟩:=List.getElem?_of_mem he;have hd:(dsE es)[i]? = some e.1:=by unfold dsE;rw [List.getElem?_map,hi];rfl
 unfold wOf;cases hf:(dsE es).find? fun x=>decide (x.name=e.1.name) with
 | none=>
  have:=List.find?_eq_none.mp hf e.1 (List.mem_of_getElem? hd);simp at this
 | some x=>
  have h1:x.name=e.1.name:=by simpa using List.find?_some hf
  obtain ⟨j,hj⟩:=List.getElem?_of_mem (List.mem_of_find?_eq_some hf);have:=cH (h.nd hx) hj hd h1;subst this;rw [hj] at hd;exact hd
theorem Sm {s:SD} (h:s ∈ spE es):∃ e ∈ es,∃ p ∈ e.2,s=⟨e.1.name,p.1,p.2⟩:=by
 obtain ⟨e,he,hs⟩:=List.mem_flatMap.mp h;obtain ⟨p,hp,rfl⟩:=List.mem_map.mp hs;exact ⟨e,he,p,hp,rfl⟩
theorem iC (x:Str) (a b:List SD):ofN x (a ++ b)=ofN x a ++ ofN x b:=by unfold ofN;rw [List.filter_append,List.map_append]
theorem qE (e:WE):ofN e.1.name (Hw e)=e.2:=by
 unfold ofN Hw;rw [List.filter_eq_self.mpr (fun s hs=>by obtain ⟨p,_,rfl⟩:=List.mem_map.mp hs;exact decide_eq_true rfl),List.map_map];exact List.map_id' _
theorem OF {x:Str} {l:List SD} (h:∀ s ∈ l,s.name ≠ x):ofN x l=[]:=by
 unfold ofN;rw [List.filter_eq_nil_iff.mpr fun s hs=>by simpa using h s hs];rfl
theorem eu:∀ {es:List WE},((dsE es).map (·.name)).Nodup→∀ {e:WE},e ∈ es→ofN e.1.name (spE es)=e.2
 | [],_,_,h=>nomatch h
 | a :: r,nd,e,he=>by
  have nd':=List.nodup_cons.mp (show ((a.1.name) :: (dsE r).map (·.name)).Nodup from nd);show ofN e.1.name (Hw a ++ spE r)=_;rw [iC];rcases List.mem_cons.mp he with rfl | he
  ·rw [qE,OF (fun s hs=>?_),List.append_nil];obtain ⟨b,hb,p,_,rfl⟩:=Sm hs;intro z;exact nd'.1 (by rw [← z];exact List.mem_map.mpr ⟨b.1,List.mem_map.mpr ⟨b,hb,rfl⟩,rfl⟩)
  ·rw [eu nd'.2 he,OF (fun s hs=>?_),List.nil_append];obtain ⟨p,_,rfl⟩:=List.mem_map.mp hs;intro z;exact nd'.1 (by
    have z:a.1.name=e.1.name:=z;rw [z];exact List.mem_map.mpr ⟨e.1,List.mem_map.mpr ⟨e,he,rfl⟩,rfl⟩)
theorem jx:∀ {es:List WE},(∀ e ∈ es,e.2.length ≤ 2)→(spE es).length ≤ 2 * es.length
 | [],_=>Nat.le_refl _
 | a :: r,h=>by
  have h1:=h a (List.mem_cons_self ..);have h2:=jx fun e he=>h e (List.mem_cons_of_mem a he)
  show (Hw a ++ spE r).length ≤ _;rw [List.length_append,List.length_cons];unfold Hw;rw [List.length_map];omega
theorem E70.ow (h:E70 z xs es) {e:WE} (he:e ∈ es):e.1.k < 3∧e.1.off=0∧e.1.least=1∧Ow z e.1 e.2:=by
 obtain ⟨i,hi⟩:=List.getElem?_of_mem he;obtain ⟨k,x,hk,_,e1,o⟩:=h.at_ i e hi;exact ⟨by rw [e1];exact hk,by rw [e1];rfl,by rw [e1];rfl,o⟩
theorem E70.good (h:E70 z xs es) (hx:Nms xs.length xs) (hl3:xs.length ≤ 3):Fx z (dsE es) (spE es):=by
 have nd:=h.nd hx.2.1;refine ⟨?_,fun s hs=>?_,fun i s hs=>?_,fun s hs=>?_⟩
 ·have:=jx (es:=es) fun e he=>(h.ow he).2.2.2.ln.2
  have:=h.ln;omega
 ·obtain ⟨e,he,p,hp,rfl⟩:=Sm hs;obtain ⟨i,hi⟩:=List.getElem?_of_mem he;exact hx.2.2 _ (List.mem_of_getElem? (h.nm hi))
 ·obtain ⟨e,he,p,hp,rfl⟩:=Sm (List.mem_of_getElem? hs);refine List.mem_filter.mpr ⟨List.mem_map.mpr ⟨e.1,List.mem_map.mpr ⟨e,he,rfl⟩,rfl⟩,decide_eq_true ?_⟩;have e2:=eu nd he;rw [← List.take_append_drop i (spE es),iC] at e2;have:=congrArg List.length e2;rw [List.length_append] at this;have:=(h.ow he).2.2.2.ln.2;show (ofN e.1.name ((spE es).take i)).length < 3;omega
 ·obtain ⟨e,he,p,hp,rfl⟩:=Sm hs;have:=(h.ow he).2.2.2.al p hp;have r0:=Cm e.1;have f0:=Jo (d:=e.1) (by have:=(h.ow he).2.1;omega);exact ⟨this.1,this.2.1,this.2.2.1,by show p.2 ≤ _;omega⟩
theorem E70.never (h:E70 z xs es):Vs (dsE es) (spE es)=none:=BM fun d hd=>by
 obtain ⟨e,he,rfl⟩:=List.mem_map.mp hd;obtain ⟨p,hp⟩:=List.exists_mem_of_length_pos (show 0 < e.2.length by have:=(h.ow he).2.2.2.ln;omega);exact ⟨⟨e.1.name,p.1,p.2⟩,List.mem_flatMap.mpr ⟨e,he,List.mem_map.mpr ⟨p,hp,rfl⟩⟩,rfl⟩
theorem E70.short (h:E70 z xs es) (hx:xs.Nodup):Qs (dsE es) z (spE es)=none:=by
 refine uA (fun s hs=>?_) ?_
 ·obtain ⟨e,he,p,hp,rfl⟩:=Sm hs;have o:=(h.ow he);have:=o.2.2.2.al p hp;exact ⟨e.1,h.wof hx he,by dsimp only;omega,by dsimp only;omega⟩
 ·have key:∀ {l:List WE},((dsE l).map (·.name)).Nodup→(∀ e ∈ l,wOf (dsE es) e.1.name=some e.1∧Ow z e.1 e.2)→(spE l).Pairwise (EI z (dsE es)):=by
   intro l
   induction l with
   | nil=>intro _ _;exact List.Pairwise.nil
   | cons a r ih=>
    intro nd al;have nd':=List.nodup_cons.mp (show ((a.1.name) :: (dsE r).map (·.name)).Nodup from nd);refine List.pairwise_append.mpr ⟨?_,ih nd'.2 fun e he=>al e (List.mem_cons_of_mem _ he),fun s hs s' hs'=>?_⟩
    ·refine List.pairwise_map.mpr ((al a (List.mem_cons_self ..)).2.pw.imp fun {p q} hpq=>?_);intro _ d' hd';have hd':wOf (dsE es) a.1.name=some d':=hd';rw [(al a (List.mem_cons_self ..)).1] at hd';cases hd';exact hpq
    ·obtain ⟨p,_,rfl⟩:=List.mem_map.mp hs;obtain ⟨b,hb,p',_,rfl⟩:=Sm hs';intro hn;have hn:b.1.name=a.1.name:=hn;exact absurd (by rw [← hn];exact List.mem_map.mpr ⟨b.1,List.mem_map.mpr ⟨b,hb,rfl⟩,rfl⟩) nd'.1
  exact key (h.nd hx) fun e he=>⟨h.wof hx he,(h.ow he).2.2.2⟩
theorem CM:∀ i:Nat,i < 3→∀ j:Nat,j < 3→i ≠ j→iK 12 (3 * (i:Int)) (3 * (i:Int) + 1) (3 * (j:Int)) (3 * (j:Int) + 1)=false:=by decide
theorem E70.clash (h:E70 z xs es) (hl3:xs.length ≤ 3):Vr 12 z (spE es) (dsE es)=none:=JM fun d hd e he hn=>by
 obtain ⟨i,hi⟩:=List.getElem?_of_mem hd;obtain ⟨j,hj⟩:=List.getElem?_of_mem he;obtain ⟨a,ha,rfl⟩:=gD hi;obtain ⟨b,hb,rfl⟩:=gD hj;obtain ⟨k,x,hk,hxi,e1,_⟩:=h.at_ i a ha;obtain ⟨k',x',hk',hxj,e2,_⟩:=h.at_ j b hb;have hi3:i < 3:=by have:=(List.getElem?_eq_some_iff.mp hxi).1;omega
 have hj3:j < 3:=by have:=(List.getElem?_eq_some_iff.mp hxj).1;omega
 have hij:i ≠ j:=fun z=>hn (by subst z;rw [ha] at hb;cases hb;rfl)
 rw [e1,e2];exact CM i hi3 j hj3 hij
theorem E70.free (h:E70 z xs es) (hx:xs.Nodup) (hz:0 < z) {e:WE} (he:e ∈ es) (turn:Int):Eg z (spE es) e.1 turn=Hi e.2 z turn:=by
 have m0:=Int.emod_nonneg turn (show (z:Int) ≠ 0 by omega);have m1:=Int.emod_lt_of_pos turn (show (0:Int) < z by omega);have o:=(h.ow he);have r0:=Cm e.1;have f0:=Jo (d:=e.1) (by have:=o.2.1;omega);have key:=RC (z:=z) (by omega) (rd:=(Dc e.1).toNat) (fd:=(Od e.1).toNat) (ps:=e.2) (fun p hp=>by have:=o.2.2.2.al p hp;omega) (o.2.2.2.pw.imp fun {p q} h=>⟨by omega,by omega⟩) (i:=(turn % (z:Int)).toNat) (by omega);have hlen:(Dl z (spE es) e.1).length=z:=Zg _ _ _ _;have hj:(turn % (z:Int)).toNat < (Dl z (spE es) e.1).length:=by rw [hlen];omega
 have hl:Dl z (spE es) e.1=Rh z (Dc e.1).toNat (Od e.1).toNat e.2:=by unfold Dl;rw [eu (h.nd hx) he]
 unfold Eg Ln Hi;rw [Bool.eq_iff_iff,decide_eq_true_eq,List.any_eq_true,List.getElem?_eq_getElem hj];show (_:Str)=_↔_;have h2:(Dl z (spE es) e.1)[(turn % (z:Int)).toNat]=Str.ofString "free" ↔ (Rh z (Dc e.1).toNat (Od e.1).toNat e.2)[(turn % (z:Int)).toNat]? = some (Str.ofString "free"):=by
  rw [← hl,List.getElem?_eq_getElem hj];simp
 rw [show (some (Dl z (spE es) e.1)[(turn % (z:Int)).toNat]).getD (Str.ofString "")=(Dl z (spE es) e.1)[(turn % (z:Int)).toNat] from rfl,h2,key];refine ⟨fun ⟨p,hp,h⟩=>⟨p,hp,decide_eq_true ?_⟩,fun ⟨p,hp,h⟩=>⟨p,hp,?_⟩⟩
 ·rw [Int.toNat_of_nonneg m0,Int.emod_sub_emod] at h;exact h
 ·rw [Int.toNat_of_nonneg m0,Int.emod_sub_emod];exact of_decide_eq_true h
end
end My
namespace My
open PySem L2
end My
namespace L2
open PySem PySem.Spec PyProof.Rows
theorem aE {X:Cx} (hc:X.calm=true):oj X (.builtin "sum") (fun xs H Q=>∃ l ks,xs=[.ref l]∧SqL X.K H l (List.map V.int ks)∧(∀ k ∈ ks,0 ≤ k∧k ≤ 1000000000)∧ks.length ≤ 1000∧Q (.int ks.sum) H):=by
 intro pins s σ H xs us Q I r h;obtain ⟨l,ks,rfl,hq,hk,hl,q⟩:=h;obtain ⟨u,rfl,ru⟩:=Jp r;cases ru;obtain ⟨its,rv,pl,hz⟩:=I.list hq;obtain ⟨xs,e1,e2⟩:=Dz rv;have hil:its.toArray=intItems xs.toArray:=by rw [e1];unfold intItems;simp
 have hls:s.heap.IsList l (intItems xs.toArray):=by rw [← hil];exact pl.isList
 have hxl:xs.length=ks.length:=by rw [← e2,List.length_map]
 have hn:∀ i,i < ks.length→ks[i]? = some (numAt xs.toArray i):=fun i hi=>by
  rw [numAt_eq,List.getD_eq_getElem?_getD];show ks[i]? = some (((xs.map (·.1))[i]?).getD 0);rw [e2,List.getElem?_eq_getElem hi];rfl
 have hps:∀ n,n ≤ ks.length→preSum (numAt xs.toArray) n=(ks.take n).sum∧0 ≤ (ks.take n).sum∧(ks.take n).sum ≤ 1000000000 * (n:Int):=fun n=>by
  induction n with
  | zero=>intro _;exact ⟨by simp [preSum],by simp,by simp⟩
  | succ n ih=>
   intro hn';obtain ⟨i1,i2,i3⟩:=ih (by omega);have e:=hn n (by omega);have hv:=hk _ (List.mem_of_getElem? e);have es:(ks.take (n + 1)).sum=(ks.take n).sum + numAt xs.toArray n:=by
    rw [List.take_add_one,e,List.sum_append];simp
   refine ⟨?_,by omega,by omega⟩;show preSum (numAt xs.toArray) n + numAt xs.toArray n=_;rw [i1,es]
 have hsz:xs.toArray.size=ks.length:=by rw [List.size_toArray,hxl]
 refine sum_intList (I.ok.hd hc) hls (fun j hj=>?_) fun h' tk t' k=>⟨.int ks.sum,H,I.kept k,⟨t',?_⟩,q⟩
 ·rw [hsz] at hj;have e:=hn j hj;have hv:=hk _ (List.mem_of_getElem? e);obtain ⟨p1,p2,p3⟩:=hps (j + 1) (by omega);unfold InLong;rw [p1];omega
 ·rw [hsz,(hps _ (Nat.le_refl _)).1,List.take_length]
end L2
namespace My
open PySem L2
end My
namespace My
open PySem L2
theorem CC {z:Nat} (hz:0 < z):∀ (ps:List (Int × Int)),(∀ p ∈ ps,0 ≤ p.2∧p.2 ≤ z)→∀ (l:List Bool),l.length=z→∀ {i:Nat},i < z →
  (ps.foldl (fun l p=>Fw z true p.1 p.2.toNat l) l)[i]? = some ((ps.any fun p=>decide (((i:Int) - p.1) % (z:Int) < p.2)) || l[i]?.getD false)
 | [],_,l,hl,i,hi=>by
  rw [List.foldl_nil,List.any_nil,Bool.false_or,List.getElem?_eq_getElem (by omega)];rfl
 | p :: ps,h,l,hl,i,hi=>by
  have hp:=h p (List.mem_cons_self ..);rw [List.foldl_cons,CC hz ps (fun q hq=>h q (List.mem_cons_of_mem _ hq)) _ (by rw [We,hl]) hi,em z true p.1 hz l hl _ _ hi,List.any_cons];have:=Fo (z:=z) (b:=p.1) (i:=i) (n:=p.2) (by omega) ⟨by omega,by omega⟩ hp;by_cases c:((i:Int) - p.1) % (z:Int) < p.2
  ·rw [if_pos (this.mpr c),decide_eq_true c];simp
  ·rw [if_neg (fun e=>c (this.mp e)),decide_eq_false c,Bool.false_or]
theorem AA {z:Nat} (hz:0 < z) {ps:List (Int × Int)} (h:∀ p ∈ ps,0 ≤ p.2∧p.2 ≤ z) {i:Nat} (hi:i < z):(fmF z ps)[i]? = some (Hi ps z i):=by
 unfold fmF;rw [CC hz ps h _ (List.length_replicate ..) hi,List.getElem?_replicate,if_pos hi];simp [Hi]
theorem Cu (ps:List (Int × Int)) (z:Nat) (x j:Int):Hi ps z (x % (z:Int) + j)=Hi ps z (x + j):=by
 unfold Hi;congr 1;funext p;rw [show x % (z:Int) + j - p.1=x % (z:Int) + (j - p.1) by omega,Int.emod_add_emod,show x + (j - p.1)=x + j - p.1 by omega]
structure Nx (fr:Int→Bool) (x v:Int):Prop where
 nn:0 ≤ v
 at_:fr (x + v)=true
 no:∀ j,0 ≤ j→j < v→fr (x + j)=false
theorem E70.until {z:Nat} {xs:List Str} {es:List WE} (E:E70 z xs es) (hx:xs.Nodup) (hz:0 < z) {e:WE} (he:e ∈ es) (x:Int):∃ v,(gh z (spE es) e.1.name)[(x % (z:Int)).toNat]? = some v∧Nx (Hi e.2 z) x v:=by
 have o:=E.ow he;have m0:=Int.emod_nonneg x (show (z:Int) ≠ 0 by omega);have m1:=Int.emod_lt_of_pos x (show (0:Int) < z by omega);have r0:=Cm e.1;have f0:=Jo (d:=e.1) (by have:=o.2.1;omega);have hps:∀ p ∈ e.2,0 ≤ p.2∧p.2 ≤ z:=fun p hp=>by have:=o.2.2.2.al p hp;omega
 have hl:(fmF z e.2).length=z:=Qj _ _;obtain ⟨p0,hp0⟩:=List.exists_mem_of_length_pos (show 0 < e.2.length by have:=o.2.2.2.ln;omega);have a0:=o.2.2.2.al p0 hp0;have hm:∃ i,i < (fmF z e.2).length∧(fmF z e.2)[i]? = some true:=by
  refine ⟨p0.1.toNat,by rw [hl];omega,?_⟩;rw [AA hz hps (by omega),Int.toNat_of_nonneg a0.1];congr 1;unfold Hi;refine List.any_eq_true.mpr ⟨p0,hp0,decide_eq_true ?_⟩;rw [Int.sub_self,Int.zero_emod];omega
 have ht:(x % (z:Int)).toNat < (fmF z e.2).length:=by rw [hl];omega
 refine ⟨Re (fmF z e.2) (2 * z - (x % (z:Int)).toNat),?_,?_⟩
 ·unfold gh;rw [eu (E.nd hx) he];have:=Mx ht;rwa [hl] at this
 ·have ul:=cz hm ht;rw [hl] at ul;have nn:=Ug (fmF z e.2) (2 * z - (x % (z:Int)).toNat);generalize Re (fmF z e.2) (2 * z - (x % (z:Int)).toNat)=v at ul nn;have key:∀ j:Nat,(fmF z e.2)[((x % (z:Int)).toNat + j) % z]? = some (Hi e.2 z (x + j)):=fun j=>by
   rw [AA hz hps (Nat.mod_lt _ hz),Int.natCast_emod,Int.natCast_add,Int.toNat_of_nonneg m0];have:=Cu e.2 z (x % (z:Int) + j) 0;rw [Int.add_zero,Int.add_zero] at this;rw [this,Cu]
  obtain ⟨j,hj,ej⟩:=(ul v nn).mp (Int.le_refl _);rw [key j,Option.some.injEq] at ej;have hjv:v ≤ (j:Int):=(ul j (by omega)).mpr ⟨j,Int.le_refl _,by rw [key j,ej]⟩;have:v=(j:Int):=by omega
  refine ⟨nn,by rw [this];exact ej,fun i hi0 hiv=>?_⟩;cases hf:Hi e.2 z (x + i) with
  | false=>rfl
  | true=>
   have:=(ul i hi0).mpr ⟨i.toNat,by omega,by rw [key,Int.toNat_of_nonneg hi0,hf]⟩;omega
noncomputable def nxF (z:Nat) (l:LD) (x:Int):Int:=x + ((gh z l.sp l.d.name)[(x % (z:Int)).toNat]?).getD 0
noncomputable def nxK (z:Nat) (ls:List LD) (k:Nat) (x:Int):Int:=((ls[k]?).map fun l=>nxF z l x).getD x
noncomputable def thr (nx:Nat→Int→Int) (fs sh:List Int) (turn:Int):Nat→Int
 | 0=>turn
 | k + 1=>nx k ((if k=0 then turn else thr nx fs sh turn k + fs.getD (k - 1) 0) - sh.getD k 0) + sh.getD k 0
noncomputable def thS (nx:Nat→Int→Int) (fs sh:List Int) (turn:Int) (k:Nat):Int:=if k=0 then turn else thr nx fs sh turn k + fs.getD (k - 1) 0
theorem vm (nx:Nat→Int→Int) (fs sh:List Int) (turn:Int) (k:Nat):thr nx fs sh turn (k + 1)=nx k (thS nx fs sh turn k - sh.getD k 0) + sh.getD k 0:=rfl
noncomputable def thL (nx:Nat→Int→Int) (fs sh:List Int) (turn:Int) (n:Nat):List Int:=(List.range n).map fun k=>thr nx fs sh turn (k + 1)
theorem az (nx:Nat→Int→Int) (fs sh:List Int) (turn:Int) (n:Nat):thL nx fs sh turn (n + 1)=thL nx fs sh turn n ++ [thr nx fs sh turn (n + 1)]:=by unfold thL;rw [List.range_succ,List.map_append];rfl
theorem GC (nx:Nat→Int→Int) (fs sh:List Int) (turn:Int) (n:Nat):(thL nx fs sh turn n).length=n:=by unfold thL;simp
theorem GA {nx:Nat→Int→Int} {fs sh:List Int} {turn:Int} {n k:Nat} (h:k < n):(thL nx fs sh turn n)[k]? = some (thr nx fs sh turn (k + 1)):=by unfold thL;rw [List.getElem?_map,List.getElem?_range h];rfl
theorem Nx.mono {fr:Int→Bool} {x y u v:Int} (hx:Nx fr x u) (hy:Nx fr y v) (h:x ≤ y):x + u ≤ y + v:=by
 have:=hx.no (y + v - x);have h2:=hy.nn;have h3:=hy.at_;refine Classical.byContradiction fun c=>?_
 have e:=this (by omega) (by omega);rw [show x + (y + v - x)=y + v by omega,h3] at e;cases e
theorem ay {nx:Nat→Int→Int} {fr:Nat→Int→Bool} {n:Nat} (hn:∀ k,k < n→∀ x,Nx (fr k) x (nx k x - x)) (fs sh:List Int) {s t:Int} (h:s ≤ t):∀ k,k ≤ n→thr nx fs sh s k ≤ thr nx fs sh t k
 | 0,_=>h
 | k + 1,hk=>by
  rw [vm,vm];have ih:=ay hn fs sh h k (by omega);have e:thS nx fs sh s k ≤ thS nx fs sh t k:=by
   unfold thS;split <;> omega
  have:=(hn k (by omega) (thS nx fs sh s k - sh.getD k 0)).mono (hn k (by omega) (thS nx fs sh t k - sh.getD k 0)) (by omega);omega
theorem Nx.zero {fr:Int→Bool} {x u:Int} (hx:Nx fr x u):u=0↔fr x=true:=by
 constructor
 ·intro h;have:=hx.at_;rwa [h,Int.add_zero] at this
 ·intro h;refine Classical.byContradiction fun c=>?_
  have:=hx.no 0 (Int.le_refl _) (by have:=hx.nn;omega);rw [Int.add_zero,h] at this;cases this
theorem DF {nx:Nat→Int→Int} {fr:Nat→Int→Bool} {n:Nat} (hn:∀ k,k < n→∀ x,Nx (fr k) x (nx k x - x)) {fs sh:List Int} (hf:fs.length + 1=n) (b:Int):thL nx fs sh b n=(List.range n).map (fun k=>b + (fs.take k).sum)↔gA fr (Iv fs sh) n b=true:=by
 have stp:∀ k,k < n→(∀ j,j < k→thr nx fs sh b (j + 1)=b + (fs.take j).sum)→thS nx fs sh b k=b + (fs.take k).sum:=fun k hk h=>by
  unfold thS;by_cases c:k=0
  ·rw [if_pos c,c];simp
  ·rw [if_neg c];obtain ⟨j,rfl⟩:∃ j,k=j + 1:=⟨k - 1,by omega⟩;have hj:fs[j]? = some (fs.getD j 0):=by rw [List.getD_eq_getElem?_getD,List.getElem?_eq_getElem (by omega)];rfl
   rw [h j (by omega),xt hj,show j + 1 - 1=j from rfl];omega
 have one:∀ k,k < n→thS nx fs sh b k=b + (fs.take k).sum→(thr nx fs sh b (k + 1)=b + (fs.take k).sum↔fr k (b + Iv fs sh k)=true):=fun k hk e=>by
  rw [vm,e];have z:=(hn k hk (b + (fs.take k).sum - sh.getD k 0)).zero;unfold Iv;rw [show b + ((fs.take k).sum - sh.getD k 0)=b + (fs.take k).sum - sh.getD k 0 by omega,← z];omega
 have gAi:gA fr (Iv fs sh) n b=true↔∀ k,k < n→fr k (b + Iv fs sh k)=true:=by
  unfold gA;rw [List.all_eq_true];exact ⟨fun h k hk=>h k (List.mem_range.mpr hk),fun h k hk=>h k (List.mem_range.mp hk)⟩
 have lst:thL nx fs sh b n=(List.range n).map (fun k=>b + (fs.take k).sum)↔∀ k,k < n→thr nx fs sh b (k + 1)=b + (fs.take k).sum:=by
  unfold thL;rw [List.map_inj_left];exact ⟨fun h k hk=>h k (List.mem_range.mpr hk),fun h k hk=>h k (List.mem_range.mp hk)⟩
 rw [gAi,lst];constructor
 ·intro h k hk;exact (one k hk (stp k hk fun j hj=>h j (by omega))).mp (h k hk)
 ·intro h;have:∀ k,k ≤ n→∀ j,j < k→thr nx fs sh b (j + 1)=b + (fs.take j).sum:=fun k=>by
   induction k with
   | zero=>intro _ j hj;omega
   | succ k ih=>
    intro hk j hj;by_cases c:j < k
    ·exact ih (by omega) j c
    ·have:j=k:=by omega
     subst this;exact (one j (by omega) (stp j (by omega) (ih (by omega)))).mpr (h j (by omega))
  exact this n (Nat.le_refl _)
end My
namespace My
open PySem L2
noncomputable def NI (t:Adr):Sp:=fun vs H Q _=>∃ (pl c:Addr) (n:Int) (ds:List WD) (z:Nat) (sp:List SD) (d:WD) (turn v:Int),vs=[.ref pl,.str d.name,.int turn]∧Jh t H pl c n ds z sp∧0 < z∧d ∈ ds∧(gh z sp d.name)[(turn % (z:Int)).toNat]? = some v∧Q (.int (turn + v)) H
noncomputable def oG (t:Adr):Sp:=fun vs H Q _=>∃ lp fp hp z ls fs sh turn,vs=[.ref lp,.ref fp,.ref hp,.int turn]∧Nk t H z lp ls∧H fp=some (.lst (kc fs))∧H hp=some (.lst (kc sh))∧fs.length + 1=ls.length∧sh.length=ls.length∧ls.length ≤ 10∧0 < z∧(∀ l ∈ ls,∀ x:Int,∃ v,(gh z l.sp l.d.name)[(x % (z:Int)).toNat]? = some v)∧NoT H∧∀ p H',Nb H H'→NoT H'→H p=none→H' p=some (.lst (kc (thL (nxK z ls) fs sh turn ls.length)))→Q (.ref p) H'
section
variable {P:Program} {w:World} {K:PySem.W.Frag} {mg:Str→Option Value} {base:Heap} {t:Adr}
theorem tL (T:Txt w K mg t):Lb P w K mg base CX0 3 t.Fi t.Ii q8 (NI t):=by
 have g8:Lb P w K mg base CX0 2 t.Tb t.gc q5 (ig t):=nh T;refine T.Hl.ok Jv (fun vs H Q E h=>?_) (fun _ _ _ s H vs Q E hr h=>?_)
 ·obtain ⟨pl,c,n,ds,z,sp,d,turn,v,rfl,_⟩:=h;rfl
 obtain ⟨pl,c,n,ds,z,sp,d,turn,v,rfl,PA,hz,hd,hv,q⟩:=h;obtain ⟨dx,p,lm,un,hpl,C,_,_,NU⟩:=PA.at_;obtain ⟨⟨hnd,_⟩,dxc,wl,nd,e1,_,_⟩:=id C;obtain ⟨i,hi⟩:=List.getElem?_of_mem hd;have hu:=Pw hr;refine ⟨_,(cb (xc (Xc (Bc (pv 0) rfl) T.Pb T.uc g8 hr T.vc .nil Cb (ab (pv 1) fb)))
   (pb (Jb (Gb zc (pv 2) (Yc ic (Vi hu (Bc (pv 0) rfl) (pv 1) (fun _ _=>rfl)) (Gb Le (pv 2) (Bc (pv 0) rfl)) (fun _ _=>rfl)))))),?_⟩
 walk_at "RD";refine ⟨_,Zp T hpl,_,rfl,_,_,e1,mw _ _ _ (by decide +kernel),c,n,ds,i,d,rfl,C,hi,fun a W=>?_⟩;obtain ⟨r,hg,hr'⟩:=NU.get hnd hi;have h0:=Int.emod_nonneg turn (show (z:Int) ≠ 0 by omega);walk_at "RD";refine ⟨_,Ov T hpl,_,rfl,_,hg,_,jt T hpl,_,rfl,by omega,_,rfl,_,SqL.of hr',.int v,?_,_,rfl,q⟩;have e:=wc (xs:=(gh z sp d.name).map V.int) (j:=(turn % (z:Int)).toNat) (v:=.int v) (by rw [List.getElem?_map,hv];rfl);rwa [Int.toNat_of_nonneg h0] at e
theorem LJ (T:Txt w K mg t):Lb P w K mg base CX0 4 t.Xl t.am q34 (oG t):=by
 have g61:Lb P w K mg base CX0 3 t.Fi t.Ii q8 (NI t):=tL T;refine T.sj.ok ie (fun vs H Q E h=>?_) (fun _ _ _ s H vs Q E hr h=>?_)
 ·obtain ⟨lp,fp,hp,z,ls,fs,sh,turn,rfl,_⟩:=h;rfl
 obtain ⟨lp,fp,hp,z,ls,fs,sh,turn,rfl,⟨⟨qs,l1,lq⟩,al⟩,ef,eh,hfl,hhl,hln,hz,hv,nt,q⟩:=h;have hql:qs.length=ls.length:=by rw [lq.1,List.length_map]
 refine ⟨_,(cb (Bb (i:=4) ie.nd rfl (Or.inl rfl) (se fb))
   (cb (Bb (i:=5) ie.nd rfl (Or.inl rfl) (pv 3))
   (cb (Dd PassesOwn.never rfl (zl rfl T.af (ab (pv 0) fb)) (Vd (K:=K) (n:=2) rfl rfl (Eb (xb (i:=6) ie.nd rfl (Or.inl rfl) (.inl rfl)) (Eb (xb (i:=7) ie.nd rfl (Or.inl rfl) (.inl rfl)) Ud))) (cb (mm (pv 7) (Vd (K:=K) (n:=3) rfl rfl (Eb (xb (i:=8) ie.nd rfl (Or.inl rfl) (.inl rfl)) (Eb (xb (i:=9) ie.nd rfl (Or.inl rfl) (.inl rfl)) (Eb (xb (i:=10) ie.nd rfl (Or.inl rfl) (.inl rfl)) Ud)))))
   (cb (Ye (bc qA (pv 6) ub (qc _)) (pb (EC (i:=5) ie.nd rfl (Or.inl rfl) (Yc ic (pv 1) (Gb Oe (pv 6) ub) (fun _ _=>rfl)) zG)) Ec)
   (cb (Bb (i:=5) ie.nd rfl (Or.inl rfl) (Gb zc (yb g61 hr rfl T.yx T.Hl.kp T.ix .nil Cb (ab (pv 8) (ab (pv 9) (ab (Gb Oe (pv 5) (Yc ic (pv 2) (pv 6) (fun _ _=>rfl))) fb)))) (Yc ic (pv 2) (pv 6) (fun _ _=>rfl))))
   (pb (xc (Bi PySem.F.plainAttrs_list PySem.F.slot_list_append PySem.F.type_list_append fe (pv 4) (ab (pv 5) fb))))))))
   (pb (Jb (pv 4)))))),?_⟩
 walk_at "RD";refine ⟨Nat.zero_le _,fun r hr0=>?_⟩;have sr:Nb H (upd H r (.lst [])):=lb hr0;refine ⟨⟨_,SqL.of (sr _ _ l1)⟩,?_⟩;refine Fh.enum (xs:=qs.map V.ref) (fun i σ H'=>Nb H H'∧NoT H'∧H' r=some (.lst (kc (thL (nxK z ls) fs sh turn i)))∧∃ x6 x7 x8 x9 x10,σ=[some (.ref lp),some (.ref fp),some (.ref hp),some (.int turn),some (.ref r),some (.int (thr (nxK z ls) fs sh turn i)),x6,x7,x8,x9,x10]) ?_ ?_ ?_ ?_
 ·exact ⟨sr,nt.upd,db,_,_,_,_,_,rfl⟩
 ·rintro i σ H' hi ⟨sm,_⟩;exact SqL.of (sm _ _ l1)
 ·rintro i v σ H0 p1 hv' ⟨sm0,nt0,o1,x6,x7,x8,x9,x10,rfl⟩ hp1;obtain ⟨qi,hqi,rfl⟩:=Xb hv';have hil:i < ls.length:=by rw [← hql];exact (List.getElem?_eq_some_iff.mp hqi).1
  have hli:ls[i]? = some ls[i]:=List.getElem?_eq_getElem hil;have eq:H qi=some (lO ls[i]):=lq.2 i _ _ hqi (by rw [List.getElem?_map,hli];rfl);have ok:=al ls[i] (List.mem_of_getElem? hli);have s1:Nb H0 (upd H0 p1 (.tup [.int i,.ref qi])):=lb hp1;have n1:NoT (upd H0 p1 (.tup [.int i,.ref qi])):=nt0.upd;refine kg ?_;generalize upd H0 p1 (.tup [.int i,.ref qi])=H1 at s1 n1 ⊢;have sm1:=sm0.trans s1;have o1':=s1 _ _ o1;simp only [Db,List.set_cons_succ,List.set_cons_zero];refine zzC (fun σ' H'=>H'=H1∧σ'=[some (.ref lp),some (.ref fp),some (.ref hp),some (.int turn),some (.ref r),some (.int (thr (nxK z ls) fs sh turn i)),some (.int (i:Nat)),some (.ref qi),some (.ref ls[i].pl),some (.str ls[i].d.name),some (.str ls[i].e.name)]) (fun D' hD=>?_) fun zzM zzh=>?_
  ·walk_at "RD";exact ⟨_,SqT.of (sm1 _ _ eq),rfl,_,_,rfl,_,_,rfl,_,_,rfl,rfl,hD _ _ ⟨rfl,rfl⟩⟩
  rintro σ2 H2 ⟨rfl,rfl⟩;subst zzh;simp only [Db];refine zzC (fun σ' H'=>H'=H2∧σ'=[some (.ref lp),some (.ref fp),some (.ref hp),some (.int turn),some (.ref r),some (.int (thS (nxK z ls) fs sh turn i)),some (.int (i:Nat)),some (.ref qi),some (.ref ls[i].pl),some (.str ls[i].d.name),some (.str ls[i].e.name)]) (fun D' hD=>?_) fun zzM zzh=>?_
  ·refine Wc (decide (0 < i)) (fun Q hQ=>?_) (fun hb=>?_) (fun hb=>?_)
   ·walk_at "RD";rw [show decide ((i:Int) > 0)=decide (0 < i) by rw [Bool.eq_iff_iff,decide_eq_true_eq,decide_eq_true_eq];omega];exact hQ
   ·have hb:=of_decide_eq_true hb;have hfi:fs[i - 1]? = some (fs.getD (i - 1) 0):=by rw [List.getD_eq_getElem?_getD,List.getElem?_eq_getElem (by omega)];rfl
    walk_at "RD";refine ⟨_,SqL.of (sm1 _ _ ef),_,by rw [show (i:Int) - 1=((i - 1:Nat):Int) by omega];exact wc (Kg hfi),_,_,rfl,rfl,hD _ _ ⟨rfl,?_⟩⟩;unfold thS;rw [if_neg (by omega)]
   ·have hb:=of_decide_eq_false hb;have hi0:i=0:=by omega
    subst hi0;walk_at "RD";exact hD _ _ ⟨rfl,rfl⟩
  rintro σ3 H3 ⟨rfl,rfl⟩;have hsi:sh[i]? = some (sh.getD i 0):=by rw [List.getD_eq_getElem?_getD,List.getElem?_eq_getElem (by omega)];rfl
  have hs':=wc (Kg hsi);obtain ⟨v,hvv⟩:=hv ls[i] (List.mem_of_getElem? hli) (thS (nxK z ls) fs sh turn i - sh.getD i 0);have eth:thr (nxK z ls) fs sh turn (i + 1)=thS (nxK z ls) fs sh turn i - sh.getD i 0 + v + sh.getD i 0:=by
   rw [vm];generalize thS (nxK z ls) fs sh turn i - sh.getD i 0=y at hvv ⊢;have:nxK z ls i y=y + v:=by
    unfold nxK nxF;rw [hli];show y + ((gh z ls[i].sp ls[i].d.name)[_]?).getD 0=_;rw [hvv];rfl
   rw [this]
  subst zzh;simp only [Db];refine zzC (fun σ' H'=>H'=H3∧σ'=[some (.ref lp),some (.ref fp),some (.ref hp),some (.int turn),some (.ref r),some (.int (thr (nxK z ls) fs sh turn (i + 1))),some (.int (i:Nat)),some (.ref qi),some (.ref ls[i].pl),some (.str ls[i].d.name),some (.str ls[i].e.name)]) (fun D' hD=>?_) fun zzM zzh=>?_
  ·walk_at "RD";refine ⟨_,SqL.of (sm1 _ _ eh),_,hs',_,rfl,_,_,_,_,z,_,_,_,v,rfl,ok.1.same sm1,hz,ok.2.1,hvv,_,SqL.of (sm1 _ _ eh),_,hs',_,rfl,_,rfl,?_⟩;rw [← eth];exact hD _ _ ⟨rfl,rfl⟩
  rintro σ4 H4 ⟨rfl,rfl⟩;subst zzh;walk_at "RD";refine ⟨.inl ⟨_,SqL.of o1'⟩,_,o1',Nat.lt_of_le_of_lt (show (kc (thL (nxK z ls) fs sh turn i)).length ≤ 10 by rw [ye,GC];omega) (by decide),sm1.updN hr0,n1.upd,?_,?_⟩
  ·rw [db,az];unfold kc;rw [List.map_append];rfl
  ·exact ⟨_,rfl⟩
 ·rintro σ H' zzq;refine zP fun zzM zzh=>?_
  obtain ⟨sm,nt',o1,x6,x7,x8,x9,x10,rfl⟩:=zzq;subst zzh;rw [List.length_map,hql] at o1;walk_at "RD";exact q r H' sm nt' hr0 o1
end
end My
namespace My
open PySem L2
theorem xJ {xs:List V} {k:Nat} (h:k ≤ xs.length):Wy xs none (some ((k:Nat):Int))=xs.take k:=by
 unfold Wy;rw [HT.sIx_none,HT.sIx_nat,Nat.min_eq_left h,List.drop_zero,Nat.sub_zero]
noncomputable abbrev PSS:=List (List (Int × Int) × List (Int × Int))
noncomputable def nJ (H:Hp) (p:Addr) (pss:PSS):Prop:=∃ qs:List Addr,H p=some (.lst (qs.map V.ref))∧qs.length=pss.length∧∀ (i:Nat) (q:Addr) (s:List (Int × Int) × List (Int × Int)),qs[i]? = some q→pss[i]? = some s→∃ a b,H q=some (.tup [.ref a,.ref b])∧LO H a (s.1.map prO)∧LO H b (s.2.map prO)
noncomputable def frP (z:Nat) (pss:PSS) (f:(List (Int × Int) × List (Int × Int))→List (Int × Int)) (k:Nat) (x:Int):Bool:=(pss[k]?).any fun s=>Hi (f s) z x
theorem BD (i:Nat):ts0 (i + 1)=ts0 i ++ [(i:Int)]:=by unfold ts0;rw [List.range_succ,List.map_append];rfl
theorem Yx (f:Int→Bool) (i:Nat):(((ts0 (i + 1)).filter f).length:Int)=((ts0 i).filter f).length + (if f (i:Int)=true then 1 else 0):=by
 rw [BD,List.filter_append,List.length_append];cases h:f (i:Int) <;> simp [h]
noncomputable def Ky:Sp:=fun vs H Q _=>∃ (p:Addr) (ps:List (Int × Int)) (z:Nat) (turn:Int),vs=[.ref p,.int z,.int turn]∧LO H p (ps.map prO)∧0 < z∧Q (.bl (Hi ps z turn)) H
noncomputable def FIn (fr:Nat→Int→Bool) (nx:Nat→Int→Int) (n:Nat):Prop:=∀ k,k < n→∀ x,Nx (fr k) x (nx k x - x)
noncomputable def Wx:Sp:=fun vs H Q _=>∃ sp fp hp z pss fs sh turn nx,vs=[.int (z:Nat),.ref sp,.ref fp,.ref hp,.int turn]∧nJ H sp pss∧H fp=some (.lst (kc fs))∧H hp=some (.lst (kc sh))∧fs.length + 1=pss.length∧sh.length=pss.length∧pss.length ≤ 10∧0 < z∧FIn (frP z pss Prod.fst) nx pss.length∧NoT H∧∀ p H',Nb H H'→NoT H'→H' p=some (.lst (kc (thL nx fs sh turn pss.length)))→Q (.ref p) H'
section
variable {P:Program} {w:World} {K:PySem.W.Frag} {mg:Str→Option Value} {base:Heap} {t:Adr}
theorem OD (T:Txt w K mg t):Lb P w K mg base CX0 1 t.Xf t.cg q47 Ky:=by
 refine T.Qh.ok Lj (fun vs H Q E h=>?_) (fun _ _ _ s H vs Q E hr h=>?_)
 ·obtain ⟨p,ps,z,turn,rfl,_⟩:=h;rfl
 obtain ⟨p,ps,z,turn,rfl,⟨qs,l1,lq⟩,hz,q⟩:=h;have hql:qs.length=ps.length:=by rw [lq.1,List.length_map]
 refine ⟨_,(cb (Dd PassesOwn.never rfl (Sd (pv 0)) (xb (i:=3) Lj.nd rfl (Or.inl rfl)) (pb (Ye (bc cn (Gb Le (Gb Oe (pv 2) (Yc lh (pv 3) ub (fun _ _=>rfl))) (pv 1)) (Yc lh (pv 3) ub (fun _ _=>rfl)) (qc _)) (pb (Jb Yo)) Ec)))
   (pb (Jb Yo))),?_⟩
 walk_at "RD";refine ⟨⟨_,SqL.of l1⟩,?_⟩;refine Fh.list (xs:=qs.map V.ref) (fun i σ H'=>H'=H∧Hi ps z turn=(ps.drop i).any (fun p=>decide ((turn - p.1) % (z:Int) < p.2))∧∃ x3,σ=[some (.ref p),some (.int z),some (.int turn),x3]) ⟨rfl,rfl,_,rfl⟩ ?_ ?_ ?_
 ·rintro i σ H' hi ⟨rfl,_⟩;exact SqL.of l1
 ·rintro i v σ H' hv zzq;refine zP fun zzM zzh=>?_
  obtain ⟨rfl,hf,x3,rfl⟩:=zzq;obtain ⟨qi,hqi,rfl⟩:=Xb hv;obtain ⟨o,ho,e⟩:=lq.at hqi;obtain ⟨pr,hpr,rfl⟩:=Xb ho;obtain ⟨hi,hxi⟩:=List.getElem?_eq_some_iff.mp hpr;subst zzh;rw [List.drop_eq_getElem_cons hi,hxi,List.any_cons] at hf;simp only [Mg,List.set_cons_succ,List.set_cons_zero];refine Wc (decide ((turn - pr.1) % (z:Int) < pr.2)) (fun Q hQ=>?_) (fun c=>?_) (fun c=>?_)
  ·walk_at "RD";exact ⟨_,SqT.of e,_,rfl,_,rfl,by omega,_,SqT.of e,_,rfl,_,rfl,hQ⟩
  ·rw [c,Bool.true_or] at hf;rw [hf] at q;walk_at "RD";exact q
  ·rw [c,Bool.false_or] at hf;walk_at "RD";exact ⟨hf,_,rfl⟩
 ·rintro σ H' zzq;refine zP fun zzM zzh=>?_
  obtain ⟨rfl,hf,x3,rfl⟩:=zzq;subst zzh;rw [List.drop_of_length_le (by rw [List.length_map,hql];exact Nat.le_refl _)] at hf;have hf:Hi ps z turn=false:=hf;rw [hf] at q;walk_at "RD";exact q
theorem wF (T:Txt w K mg t):Lb P w K mg base CX0 2 t.Lg t.Og q48 Wx:=by
 have g62:Lb P w K mg base CX0 1 t.Xf t.cg q47 Ky:=OD T;refine T.Rg.ok Ue (fun vs H Q E h=>?_) (fun _ _ _ s H vs Q E hr h=>?_)
 ·obtain ⟨sp,fp,hp,z,pss,fs,sh,turn,nx,rfl,_⟩:=h;rfl
 obtain ⟨sp,fp,hp,z,pss,fs,sh,turn,nx,rfl,⟨qs,e1,e2,e3⟩,ef,eh,hfl,hhl,hln,hz,hnx,nt,q⟩:=h;refine ⟨_,(cb (Bb (i:=5) Ue.nd rfl (Or.inl rfl) (se fb))
   (cb (Dd PassesOwn.never rfl (Zc rfl T.Wd (ab (Vb Fb rfl T.xg Ob (ab (pv 1) fb)) fb)) (xb (i:=6) Ue.nd rfl (Or.inl rfl)) (cb (yF PassesOwn.never (Lp (Qk (yb g62 hr rfl T.jr T.Qh.kp T.Ir .nil Cb (ab (Yc lh (Yc ic (pv 1) (pv 6) (fun _ _=>rfl)) ub (fun _ _=>rfl)) (ab (pv 0) (ab (Gb Oe (pv 4) (Yc ic (pv 3) (pv 6) (fun _ _=>rfl))) fb)))))) (pb (Bb (i:=4) Ue.nd rfl (Or.inl rfl) (Gb zc (pv 4) ub))))
   (cb (xc (Bi PySem.F.plainAttrs_list PySem.F.slot_list_append PySem.F.type_list_append fe (pv 5) (ab (pv 4) fb)))
   (pb (Ye (bc cn (pv 6) (Vb Fb rfl T.xg Ob (ab (pv 2) fb)) (qc _)) (pb (Bb (i:=4) Ue.nd rfl (Or.inl rfl) (Gb zc (pv 4) (Yc ic (pv 2) (pv 6) (fun _ _=>rfl))))) Ec)))))
   (pb (Jb (pv 5))))),?_⟩
 refine zS (fun σ' H'=>Nb H H'∧NoT H'∧∃ b,H b=none∧H' b=some (.lst [])∧σ'=[some (.int z),some (.ref sp),some (.ref fp),some (.ref hp),some (.int turn),some (.ref b),none]) (fun D' hD=>?_) fun zzM zzh=>?_
 ·walk_at "RD";exact ⟨Nat.zero_le _,fun b hb=>hD _ _ ⟨lb hb,nt.upd,b,hb,db,rfl⟩⟩
 rintro σ1 H1 ⟨s1,n1,b,hb,w1,rfl⟩;subst zzh;walk_at "RD";refine ⟨_,.inl (SqL.of (s1 _ _ e1)),?_⟩;rw [List.length_map,e2];refine ⟨by omega,by omega,?_⟩;refine Fh.range (n:=pss.length) (fun i σ H'=>Nb H H'∧NoT H'∧H' b=some (.lst (kc (thL nx fs sh turn i)))∧∃ x4 x6,(i < pss.length→x4=some (.int (thS nx fs sh turn i)))∧σ=[some (.int z),some (.ref sp),some (.ref fp),some (.ref hp),x4,some (.ref b),x6]) ⟨s1,n1,w1,_,_,fun _=>rfl,rfl⟩ ?_ ?_
 ·rintro i σ H' hi zzq;refine zP fun zzM zzh=>?_
  obtain ⟨sm,nt',hb',x4,x6,hx4,rfl⟩:=zzq;obtain rfl:=hx4 hi;have hps:pss[i]? = some pss[i]:=List.getElem?_eq_getElem hi;have hqk:qs[i]? = some (qs[i]'(by omega)):=List.getElem?_eq_getElem _;obtain ⟨a1,b1,f1,f2,f3⟩:=e3 i _ _ hqk hps;have hsi:sh[i]? = some (sh.getD i 0):=by rw [List.getD_eq_getElem?_getD,List.getElem?_eq_getElem (by omega)];rfl
  have N:=hnx i hi (thS nx fs sh turn i - sh.getD i 0);have eth:=vm nx fs sh turn i;have efr:∀ x,Hi pss[i].1 z x=frP z pss Prod.fst i x:=fun x=>by unfold frP;rw [hps];rfl
  subst zzh;generalize hx0:thS nx fs sh turn i=x0 at N eth;generalize hv0:nx i (x0 - sh.getD i 0) - (x0 - sh.getD i 0)=v at N;have eth:thr nx fs sh turn (i + 1)=x0 + v:=by rw [eth];omega
  simp only [Mg,Db,List.set_cons_succ,List.set_cons_zero,Int.zero_add];refine zzC (fun σ' H2=>H2=H'∧σ'=[some (.int z),some (.ref sp),some (.ref fp),some (.ref hp),some (.int (x0 + v)),some (.ref b),some (.int (i:Nat))]) (fun D' hD=>?_) fun zzM zzh=>?_
  ·refine DC (fun σ' H2=>H2=H'∧∃ j:Int,(0 ≤ j∧j ≤ v)∧σ'=[some (.int z),some (.ref sp),some (.ref fp),some (.ref hp),some (.int (x0 + j)),some (.ref b),some (.int (i:Nat))]) (fun σ' _=>match σ'[4]? with | some (some (V.int y))=>(x0 + v - y).toNat | _=>0) ⟨rfl,0,⟨Int.le_refl _,N.nn⟩,by rw [Int.add_zero]⟩ ?_;rintro σ' H2 zzq;refine zP fun zzM zzh=>?_
   obtain ⟨rfl,j,hj,rfl⟩:=zzq;subst zzh;refine ⟨!frP z pss Prod.fst i (x0 - sh.getD i 0 + j),fun Q hQ=>?_,fun c=>?_,fun c=>?_⟩
   ·walk_at "RD";refine ⟨_,SqL.of (sm _ _ e1),_,wc (by rw [List.getElem?_map,hqk];rfl),_,rfl,_,SqT.of (sm _ _ f1),_,rfl,_,SqL.of (sm _ _ eh),_,wc (Kg hsi),_,rfl,a1,_,z,_,rfl,f2.same sm,hz,?_⟩;rw [efr,show x0 + j - sh.getD i 0=x0 - sh.getD i 0 + j by omega];exact ⟨_,rfl,hQ⟩
   ·have hjv:j < v:=by
     refine Classical.byContradiction fun z=>?_
     have:j=v:=by omega
     rw [this,N.at_] at c;cases c
    walk_at "RD";exact ⟨⟨j + 1,by omega,by omega,by omega⟩,by omega⟩
   ·have hjv:j=v:=by
     refine Classical.byContradiction fun z=>?_
     have:=N.no j hj.1 (by omega);rw [this] at c;cases c
    subst hjv;exact hD _ _ ⟨rfl,rfl⟩
  rintro σ2 H2 ⟨rfl,rfl⟩;have hrng:i < fs.length∨i + 1=pss.length:=by omega
  subst zzh;simp only [Db];refine zzC (fun σ' H3=>Nb H H3∧NoT H3∧H3 b=some (.lst (kc (thL nx fs sh turn (i + 1))))∧σ'=[some (.int z),some (.ref sp),some (.ref fp),some (.ref hp),some (.int (x0 + v)),some (.ref b),some (.int (i:Nat))]) (fun D' hD=>?_) fun zzM zzh=>?_
  ·walk_at "RD";refine ⟨.inl ⟨_,SqL.of hb'⟩,_,hb',Nat.lt_of_le_of_lt (show (kc (thL nx fs sh turn i)).length ≤ 10 by rw [ye,GC];omega) (by decide),hD _ _ ⟨sm.updN hb,nt'.upd,?_,rfl⟩⟩;rw [db,az,eth];unfold kc;rw [List.map_append];rfl
  rintro σ3 H3 ⟨s3,n3,hb3,rfl⟩;subst zzh;dsimp only;refine Wc (decide (i < fs.length)) (fun Q hQ=>?_) (fun c=>?_) (fun c=>?_)
  ·walk_at "RD";refine ⟨_,.inl (SqL.of (s3 _ _ ef)),?_⟩;rw [ye,show decide ((i:Int) < (fs.length:Int))=decide (i < fs.length) by rw [Bool.eq_iff_iff,decide_eq_true_eq,decide_eq_true_eq];omega];exact hQ
  ·have c:=of_decide_eq_true c;have hfi:fs[i]? = some (fs.getD i 0):=by rw [List.getD_eq_getElem?_getD,List.getElem?_eq_getElem c];rfl
   walk_at "RD";refine ⟨_,SqL.of (s3 _ _ ef),_,wc (Kg hfi),_,rfl,s3,n3,hb3,_,fun _=>?_,rfl,_,rfl⟩;unfold thS;rw [if_neg (Nat.succ_ne_zero _),eth];rfl
  ·have c:=of_decide_eq_false c;walk_at "RD";exact ⟨s3,n3,hb3,_,fun z=>by omega,rfl,_,rfl⟩
 ·rintro σ H' zzq;refine zP fun zzM zzh=>?_
  obtain ⟨sm,nt',hb',x4,x6,hx4,rfl⟩:=zzq;subst zzh;walk_at "RD";exact q b H' sm nt' hb'
end
end My
namespace My
open PySem L2
theorem mI {i:Int} (h0:0 ≤ i) (h1:i < 3):atI [V.str (Str.ofString "car"),V.str (Str.ofString "foot"),V.str (Str.ofString "tram")] i=some (.str (Ld i.toNat)):=by
 have:i=0∨i=1∨i=2:=by omega
 rcases this with rfl | rfl | rfl
 ·exact wc (j:=0) rfl
 ·exact wc (j:=1) rfl
 ·exact wc (j:=2) rfl
noncomputable def Rt (H:Hp) (b:Addr):Prop:=∃ xs,H b=some (.lst xs)∧∀ v ∈ xs,∃ q u r,v=.ref q∧H q=some (.tup (.ref u :: r))
theorem Rt.ne {H:Hp} {a b:Addr} {ys:List V} (R:Rt H b) (e:H a=some (.lst ys)) (h:∃ v ∈ ys,∀ q u r,v=.ref q→H q ≠ some (.tup (.ref u :: r))):a ≠ b:=fun z=>by
 subst z;obtain ⟨xs,e1,e2⟩:=R;rw [e1] at e;have e:=Option.some.inj e;injection e with e;subst e;obtain ⟨v,hv,h⟩:=h;obtain ⟨q,u,r,rfl,h2⟩:=e2 v hv;exact h q u r rfl h2
theorem Rt.no {H:Hp} {a b:Addr} {o:HO} (R:Rt H b) (e:H a=some o) (h:∀ xs,o ≠ .lst xs):a ≠ b:=fun z=>by
 subst z;obtain ⟨xs,e1,_⟩:=R;rw [e1] at e;exact h xs (Option.some.inj e).symm
theorem Lc.rt {t:Adr} {H:Hp} {b c:Addr} {n:Int} {ds:List WD} {o:HO} (h:Lc t H c n ds) (R:Rt H b) (hd:ds ≠ []):Lc t (upd H b o) c n ds:=by
 obtain ⟨h0,dx,wl,nd,e1,⟨as,w1,w2,al⟩,e3⟩:=h;have ne1:=R.no e1 (by intro xs z;cases z);have ne3:=R.no e3 (by intro xs z;cases z);have ne2:wl ≠ b:=R.ne w1 (by
  cases as with
  | nil=>exact absurd (List.length_eq_zero_iff.mp w2.symm) hd
  | cons x r=>
   cases ds with
   | nil=>exact absurd rfl hd
   | cons d ds=>
    refine ⟨.ref x,by simp,fun q u r' e=>?_⟩;cases e;obtain ⟨_,dxb,eb⟩:=al 0 x d rfl rfl;rw [eb];intro z;cases z)
 refine ⟨h0,dx,wl,nd,by rw [qb ne1];exact e1,⟨as,by rw [qb ne2];exact w1,w2,fun i x d hb hd=>?_⟩,by rw [qb ne3];exact e3⟩;obtain ⟨k,dxb,eb⟩:=al i x d hb hd;exact ⟨k,dxb,by rw [qb (R.no eb (by intro xs z;cases z))];exact eb⟩
theorem LO.rt {H:Hp} {a b:Addr} {o:HO} {α:Type} {f:α→HO} {ps:List α} (h:LO H a (ps.map f)) (R:Rt H b) (hp:ps ≠ []) (hf:∀ x,∀ u r,f x ≠ .tup (.ref u :: r)) (hg:∀ x xs,f x ≠ .lst xs):LO (upd H b o) a (ps.map f):=by
 obtain ⟨qs,l1,l2⟩:=h;have hl:qs.length=ps.length:=by rw [l2.1,List.length_map]
 have ne:a ≠ b:=R.ne l1 (by
  cases qs with
  | nil=>exact absurd (List.length_eq_zero_iff.mp hl.symm) hp
  | cons x r=>
   cases ps with
   | nil=>exact absurd rfl hp
   | cons d ds=>
    refine ⟨.ref x,by simp,fun q u r' e=>?_⟩;cases e;rw [l2.2 0 x (f d) rfl rfl];intro z;exact hf d u r' (Option.some.inj z))
 refine ⟨qs,by rw [qb ne];exact l1,l2.1,fun i q u hq hu=>?_⟩;have e:=l2.2 i q u hq hu;obtain ⟨x,_,rfl⟩:=Xb hu;rw [qb (R.no e (hg x))];exact e
theorem NK.rt {H:Hp} {p b:Addr} {o:HO} {ds:List WD} {f:WD→List V} {n:Nat} (h:NK H p ds (fun d=>.lst (f d)) n) (R:Rt H b) (hf:∀ d,∃ v ∈ f d,∀ q,v ≠ .ref q):NK (upd H b o) p ds (fun d=>.lst (f d)) n:=by
 obtain ⟨rs,hl,hp,al⟩:=h;refine ⟨rs,hl,by rw [qb (R.no hp (by intro xs z;cases z))];exact hp,fun i r d h1 h2=>?_⟩;have e:=al i r d h1 h2;obtain ⟨v,hv,hq⟩:=hf d;rw [qb (R.ne e ⟨v,hv,fun q u r' e=>absurd e (hq q)⟩)];exact e
theorem Jh.rt {t:Adr} {H:Hp} {b a c:Addr} {n:Int} {ds:List WD} {z:Nat} {sp:List SD} {o:HO} (h:Jh t H a c n ds z sp) (R:Rt H b) (hz:0 < z) (hd:ds ≠ []) (hs:sp ≠ []):Jh t (upd H b o) a c n ds z sp:=by
 obtain ⟨dx,p,lm,un,e,C,L,N1,N2⟩:=h.at_;refine ⟨dx,p,lm,un,by rw [qb (R.no e (by intro xs z;cases z))];exact e,C.rt R hd,L.rt R hs (fun x u r z=>by cases z) (fun x xs z=>by cases z),N1.rt R (fun d=>?_),N2.rt R (fun d=>?_)⟩
 ·have hl:(Dl z sp d).length=z:=Zg _ _ _ _;obtain ⟨y,hy⟩:=List.exists_mem_of_length_pos (show 0 < (Dl z sp d).length by omega);exact ⟨.str y,List.mem_map.mpr ⟨y,hy,rfl⟩,fun q e=>by cases e⟩
 ·have hl:(gh z sp d.name).length=z:=by unfold gh;rw [ck,Qj]
  obtain ⟨y,hy⟩:=List.exists_mem_of_length_pos (show 0 < (gh z sp d.name).length by omega);exact ⟨.int y,List.mem_map.mpr ⟨y,hy,rfl⟩,fun q e=>by cases e⟩
structure L1 (t:Adr) (H:Hp) (z:Nat) (l:LD):Prop where
 ok:LOk t H z l
 ds:l.ds ≠ []
 sp:l.sp ≠ []
noncomputable def P1 (H:Hp) (r:Addr) (s:List (Int × Int) × List (Int × Int)):Prop:=(s.1 ≠ []∧s.2 ≠ [])∧∃ a b,H r=some (.tup [.ref a,.ref b])∧LO H a (s.1.map prO)∧LO H b (s.2.map prO)
theorem L1.same {t:Adr} {H H':Hp} {z:Nat} {l:LD} (h:L1 t H z l) (s:Nb H H'):L1 t H' z l:=⟨h.ok.same s,h.ds,h.sp⟩
theorem P1.same {H H':Hp} {r:Addr} {x:List (Int × Int) × List (Int × Int)} (h:P1 H r x) (s:Nb H H'):P1 H' r x:=by
 obtain ⟨n,a,b,e1,e2,e3⟩:=h;exact ⟨n,a,b,s _ _ e1,e2.same s,e3.same s⟩
theorem L1.rt {t:Adr} {H:Hp} {b:Addr} {z:Nat} {l:LD} {o:HO} (h:L1 t H z l) (R:Rt H b) (hz:0 < z):L1 t (upd H b o) z l:=⟨⟨h.ok.1.rt R hz h.ds h.sp,h.ok.2⟩,h.ds,h.sp⟩
theorem P1.rt {H:Hp} {b r:Addr} {x:List (Int × Int) × List (Int × Int)} {o:HO} (h:P1 H r x) (R:Rt H b):P1 (upd H b o) r x:=by
 obtain ⟨n,a,c,e1,e2,e3⟩:=h;exact ⟨n,a,c,by rw [qb (R.no e1 (by intro xs z;cases z))];exact e1,e2.rt R n.1 (fun x u r z=>by cases z) (fun x xs z=>by cases z),e3.rt R n.2 (fun x u r z=>by cases z) (fun x xs z=>by cases z)⟩
structure LS (t:Adr) (H:Hp) (z:Nat) (lp sl:Addr) (qs rs:List Addr) (ls:List LD) (pss:PSS):Prop where
 ne:lp ≠ sl
 e1:H lp=some (.lst (qs.map V.ref))
 e2:H sl=some (.lst (rs.map V.ref))
 ql:qs.length=ls.length
 rl:rs.length=pss.length
 ql_:∀ (i:Nat) (q:Addr) (l:LD),qs[i]? = some q→ls[i]? = some l→H q=some (lO l)∧L1 t H z l
 rl_:∀ (i:Nat) (r:Addr) (s:List (Int × Int) × List (Int × Int)),rs[i]? = some r→pss[i]? = some s→P1 H r s
section
variable {t:Adr} {H H':Hp} {z:Nat} {lp sl:Addr} {qs rs:List Addr} {ls:List LD} {pss:PSS}
theorem LS.same (h:LS t H z lp sl qs rs ls pss) (s:Nb H H'):LS t H' z lp sl qs rs ls pss:=
 ⟨h.ne,s _ _ h.e1,s _ _ h.e2,h.ql,h.rl,fun i q l a b=>⟨s _ _ (h.ql_ i q l a b).1,(h.ql_ i q l a b).2.same s⟩,fun i r x a b=>(h.rl_ i r x a b).same s⟩
theorem LS.rt1 (h:LS t H z lp sl qs rs ls pss):Rt H lp:=⟨_,h.e1,fun v hv=>by
 obtain ⟨q,hq,rfl⟩:=List.mem_map.mp hv;obtain ⟨i,hi⟩:=List.getElem?_of_mem hq;have hl:ls[i]? = some (ls[i]'(by rw [← h.ql];exact (List.getElem?_eq_some_iff.mp hi).1)):=List.getElem?_eq_getElem _;exact ⟨q,_,_,rfl,(h.ql_ i q _ hi hl).1⟩⟩
theorem LS.rt2 (h:LS t H z lp sl qs rs ls pss):Rt H sl:=⟨_,h.e2,fun v hv=>by
 obtain ⟨q,hq,rfl⟩:=List.mem_map.mp hv;obtain ⟨i,hi⟩:=List.getElem?_of_mem hq;have hl:pss[i]? = some (pss[i]'(by rw [← h.rl];exact (List.getElem?_eq_some_iff.mp hi).1)):=List.getElem?_eq_getElem _;obtain ⟨_,a,b,e,_⟩:=h.rl_ i q _ hi hl;exact ⟨q,_,_,rfl,e⟩⟩
theorem LS.pushL (h:LS t H z lp sl qs rs ls pss) (hz:0 < z) {q:Addr} {l:LD} (e:H q=some (lO l)) (L:L1 t H z l):LS t (upd H lp (.lst (qs.map V.ref ++ [.ref q]))) z lp sl (qs ++ [q]) rs (ls ++ [l]) pss:=by
 have R:=h.rt1;have kt:∀ {a:Addr} {xs:List V},H a=some (.tup xs)→upd H lp (.lst (qs.map V.ref ++ [.ref q])) a=some (.tup xs):=fun e=>by rw [qb (R.no e (by intro xs z;cases z))];exact e
 refine ⟨h.ne,by rw [db,List.map_append];rfl,by rw [qb h.ne.symm];exact h.e2,by rw [List.length_append,List.length_append,h.ql];rfl,h.rl,fun i q' l' a b=>?_,fun i r s a b=>(h.rl_ i r s a b).rt R⟩;rcases De a with ⟨_,a⟩ | ⟨ia,rfl⟩
 ·rcases De b with ⟨_,b⟩ | ⟨ib,_⟩
  ·obtain ⟨x1,x2⟩:=h.ql_ i q' l' a b;exact ⟨kt x1,x2.rt R hz⟩
  ·have:=(List.getElem?_eq_some_iff.mp a).1;have:=h.ql;omega
 ·rcases De b with ⟨ib,_⟩ | ⟨_,rfl⟩
  ·have:=h.ql;omega
  ·exact ⟨kt e,L.rt R hz⟩
theorem LS.pushS (h:LS t H z lp sl qs rs ls pss) (hz:0 < z) {r:Addr} {s:List (Int × Int) × List (Int × Int)} (L:P1 H r s):LS t (upd H sl (.lst (rs.map V.ref ++ [.ref r]))) z lp sl qs (rs ++ [r]) ls (pss ++ [s]):=by
 have R:=h.rt2;have kt:∀ {a:Addr} {xs:List V},H a=some (.tup xs)→upd H sl (.lst (rs.map V.ref ++ [.ref r])) a=some (.tup xs):=fun e=>by rw [qb (R.no e (by intro xs z;cases z))];exact e
 refine ⟨h.ne,by rw [qb h.ne];exact h.e1,by rw [db,List.map_append];rfl,h.ql,by rw [List.length_append,List.length_append,h.rl];rfl,fun i q' l' a b=>⟨kt (h.ql_ i q' l' a b).1,(h.ql_ i q' l' a b).2.rt R hz⟩,fun i r' s' a b=>?_⟩;rcases De a with ⟨_,a⟩ | ⟨ia,rfl⟩
 ·rcases De b with ⟨_,b⟩ | ⟨ib,_⟩
  ·exact (h.rl_ i r' s' a b).rt R
  ·have:=(List.getElem?_eq_some_iff.mp a).1;have:=h.rl;omega
 ·rcases De b with ⟨ib,_⟩ | ⟨_,rfl⟩
  ·have:=h.rl;omega
  ·exact L.rt R
theorem LS.line (h:LS t H z lp sl qs rs ls pss):Nk t H z lp ls:=by
 refine ⟨⟨qs,h.e1,by rw [h.ql,List.length_map],fun i q o hq ho=>?_⟩,fun l hl=>?_⟩
 ·obtain ⟨l,hl,rfl⟩:=Xb ho;exact (h.ql_ i q l hq hl).1
 ·obtain ⟨i,hi⟩:=List.getElem?_of_mem hl;have hq:qs[i]? = some (qs[i]'(by rw [h.ql];exact (List.getElem?_eq_some_iff.mp hi).1)):=List.getElem?_eq_getElem _;exact (h.ql_ i _ l hq hi).2.ok
theorem LS.sps (h:LS t H z lp sl qs rs ls pss):nJ H sl pss:=⟨rs,h.e2,h.rl,fun i q s a b=>(h.rl_ i q s a b).2⟩
end
theorem bF (z:Int):Str.ofString "round " ++ num z=Str.join bk [S "round",num z]:=by
 apply vt;have e1:(Str.ofString "round ").cps.toList=[114,111,117,110,100,32]:=by decide +kernel
 have e2:(Str.ofString "round").cps.toList=[114,111,117,110,100]:=by decide +kernel
 rw [cI,rj];simp only [List.map_cons,List.map_nil,jl,Str.cps_append,Array.toList_append,e1,e2,List.cons_append,List.nil_append]
theorem JI (k i:Nat) (x:Str):Str.join bk [Ld k,x,num (3 * (i:Int)),num (3 * (i:Int) + 1),Str.ofString "0 0 1"]=Str.join bk (sf (wK k i x)):=by
 apply vt;have e1:(Str.ofString "0 0 1").cps.toList=[48,32,48,32,49]:=by decide +kernel
 have e2:(num 0).cps.toList=[48]:=by decide +kernel
 have e3:(num 1).cps.toList=[49]:=by decide +kernel
 rw [cI,rj,rj];show jl 32 ([Ld k,x,num (3 * (i:Int)),num (3 * (i:Int) + 1),Str.ofString "0 0 1"].map (·.cps.toList))=jl 32 ([Ld k,x,num (3 * (i:Int)),num (3 * (i:Int) + 1),num 0,num 0,num 1].map (·.cps.toList));simp only [List.map_cons,List.map_nil,jl,e1,e2,e3,List.cons_append,List.nil_append]
theorem Ey {ds:List WD} (h:ds ≠ []):Str.ofString "ring 12\n" ++ Str.join nl (ds.map fun d=>Str.join bk (sf d))=Zv 12 ds:=by
 apply vt;have e1:(Str.ofString "ring 12\n").cps.toList=[114,105,110,103,32,49,50,10]:=by decide +kernel
 have e2:(Str.join bk [Str.ofString "ring",num 12]).cps.toList=[114,105,110,103,32,49,50]:=by decide +kernel
 unfold Zv Mq;rw [rJ,Str.cps_append,Array.toList_append,rj,rj,List.map_cons,List.map_cons,e1,e2];obtain ⟨d,r,rfl⟩:=List.exists_cons_of_ne_nil h;rw [List.map_cons,List.map_cons,List.map_cons,List.map_cons,List.map_cons];simp only [jl,List.map_map];rfl
theorem cm (sep:Str) (ys:List Str):Txt.join sep ys=Str.join sep ys:=StrLaws.glued_eq_join _ _
theorem QC (k i:Nat) (x:Str) (hk:k < 3):Od (wK k i x) + Dc (wK k i x)=if k=1 then 0 else 3:=by
 match k,hk with
 | 0,_=>rfl
 | 1,_=>rfl
 | 2,_=>rfl
theorem Ev {k:Nat} (hk:k < 3):decide (Ld k=Str.ofString "foot")=decide (k=1):=by
 match k,hk with
 | 0,_=>decide +kernel
 | 1,_=>decide +kernel
 | 2,_=>decide +kernel
end My
namespace My
open PySem L2
noncomputable def pq (z:Nat) (ls:List LD) (pss:PSS):Prop:=∀ (k:Nat) (l:LD) (s:List (Int × Int) × List (Int × Int)),ls[k]? = some l→pss[k]? = some s→∃ xs es,E70 z xs es∧xs.Nodup∧l.sp=spE es∧(l.d,s.1) ∈ es∧(l.e,s.2) ∈ es
structure Co (H G:Hp) (wp rp op:Addr) (U R:List Str) (kv:List (Key × V)):Prop where
 sg:Nb G H
 gw:G wp=none
 gr:G rp=none
 go:G op=none
 w:H wp=some (.lst (Hb U))
 r:H rp=some (.lst (Hb R))
 o:H op=some (.dK kv)
 ne:wp ≠ rp
section
variable {H H' G G':Hp} {wp rp op:Addr} {U R:List Str} {kv:List (Key × V)}
theorem Co.same (h:Co H G wp rp op U R kv) (s:Nb H H'):Co H' G wp rp op U R kv:=⟨h.sg.trans s,h.gw,h.gr,h.go,s _ _ h.w,s _ _ h.r,s _ _ h.o,h.ne⟩
theorem Co.no1 (h:Co H G wp rp op U R kv):op ≠ wp:=ze h.o h.w (by intro z;cases z)
theorem Co.no2 (h:Co H G wp rp op U R kv):op ≠ rp:=ze h.o h.r (by intro z;cases z)
theorem Co.putW (h:Co H G wp rp op U R kv) (y:Str):Co (upd H wp (.lst (Hb U ++ [.str y]))) G wp rp op (U ++ [y]) R kv:=⟨h.sg.updN h.gw,h.gw,h.gr,h.go,by rw [db];unfold Hb;rw [List.map_append];rfl,by rw [qb h.ne.symm];exact h.r,by rw [qb h.no1];exact h.o,h.ne⟩
theorem Co.putR (h:Co H G wp rp op U R kv) (y:Str):Co (upd H rp (.lst (Hb R ++ [.str y]))) G wp rp op U (R ++ [y]) kv:=⟨h.sg.updN h.gr,h.gw,h.gr,h.go,by rw [qb h.ne];exact h.w,by rw [db];unfold Hb;rw [List.map_append];rfl,by rw [qb h.no2];exact h.o,h.ne⟩
theorem Co.putO (h:Co H G wp rp op U R kv) (kv':List (Key × V)):Co (upd H op (.dK kv')) G wp rp op U R kv':=⟨h.sg.updN h.go,h.gw,h.gr,h.go,by rw [qb h.no1.symm];exact h.w,by rw [qb h.no2.symm];exact h.r,db,h.ne⟩
end
theorem Co.grow {H G G1:Hp} {wp rp op:Addr} {U R:List Str} {kv:List (Key × V)} (h:Co H G wp rp op U R kv) (s:Nb G1 H) (a:G1 wp=none) (b:G1 rp=none) (c:G1 op=none):Co H G1 wp rp op U R kv:=⟨s,a,b,c,h.w,h.r,h.o,h.ne⟩
structure Inn (H G:Hp) (z:Nat) (wp rp op:Addr) (es:List WE) (as:List Addr):Prop where
 g:Co H G wp rp op ((dsE es).map fun d=>Str.join bk (sf d)) ((Af z (spE es)).map (Str.join bk)) (nkv (dsE es) as)
 l:as.length=es.length
 a:∀ (i:Nat) (b:Addr) (e:WE),as[i]? = some b→es[i]? = some e→LO G b (e.2.map prO)
theorem rk (es:List WE) (e:WE):dsE (es ++ [e])=dsE es ++ [e.1]:=by unfold dsE;rw [List.map_append];rfl
theorem wE (es:List WE) (e:WE):spE (es ++ [e])=spE es ++ Hw e:=by unfold spE;rw [List.flatMap_append];simp
theorem pE {ds:List WD} {as:List Addr} (h:as.length=ds.length) (d:WD):nkv (ds ++ [d]) as=nkv ds as:=by
 unfold nkv;have e:(ds ++ [d]).zip as=ds.zip as:=by
  have:=List.zip_append (l₁:=ds) (r₁:=[d]) (l₂:=as) (r₂:=[]) h.symm;rw [List.append_nil] at this;rw [this];simp
 rw [e]
theorem E70.names {z:Nat} {xs:List Str} {es:List WE} (h:E70 z xs es):(dsE es).map (·.name)=xs.take es.length:=by
 refine List.ext_getElem? fun i=>?_
 by_cases c:i < es.length
 ·have he:=List.getElem?_eq_getElem c;rw [List.getElem?_take,if_pos c,h.nm he];unfold dsE;rw [List.getElem?_map,List.getElem?_map,he];rfl
 ·rw [List.getElem?_take,if_neg c,List.getElem?_eq_none];unfold dsE;rw [List.length_map,List.length_map];omega
theorem E70.nd1 {z:Nat} {xs:List Str} {es:List WE} (h:E70 z xs es) (hx:xs.Nodup) {d:WD} (hd:xs[es.length]? = some d.name):((dsE es ++ [d]).map (·.name)).Nodup:=by
 rw [List.map_append,h.names];show (xs.take es.length ++ [d.name]).Nodup;rw [← Ve hd];exact hx.sublist (List.take_sublist ..)
theorem wB {H:Hp} {op p:Addr} {es:List WE} {as:List Addr} {d:WD} (e:H op=some (.dK (nkv (dsE es ++ [d]) (as ++ [p])))) (nd:((dsE es ++ [d]).map (·.name)).Nodup) (hal:as.length=(dsE es).length):wo H op (.str d.name) (some (.ref p)):=by
 have key:=Hq (ds:=dsE es ++ [d]) (rs:=as ++ [p]) nd (i:=as.length) (d:=d) (r:=p) (by rw [hal,List.getElem?_append_right (Nat.le_refl _),Nat.sub_self];rfl) (by rw [List.getElem?_append_right (Nat.le_refl _),Nat.sub_self];rfl);have:=wo.k (k:=Sum.inr d.name) e;rw [key] at this;exact this
theorem eA (z:Int) (sp:List SD) (s:SD):Af z (sp ++ [s])=Af z sp ++ [zk s]:=by unfold Af;rw [List.map_append];rfl
theorem au (sep:Str):∀ ys:List Str,(ys.map (·.length)).sum ≤ (Str.join sep ys).length
 | []=>Nat.zero_le _
 | [a]=>by
  show a.length + 0 ≤ a.length;omega
 | a :: b :: r=>by
  have:=au sep (b :: r);show a.length + ((b :: r).map (·.length)).sum ≤ (a ++ sep ++ Str.join sep (b :: r)).length;rw [Hn,Hn];omega
noncomputable def Dy (K:PySem.W.Frag) (t:Adr) (a:Addr) (ns:List Int):Sp:=fun vs H Q _=>vs=[.ref a]∧Sc K a ns H∧∀ r z lp sl qs rs ls pss H',Nb H H'→Sc K a ns H'→H' r=some (.tup [.int (z:Nat),.ref lp,.ref sl])→LS t H' z lp sl qs rs ls pss→(4 ≤ z∧z ≤ 8)→(1 ≤ ls.length∧ls.length ≤ 4)→pss.length=ls.length→pq z ls pss→Q (.ref r) H'
section
variable {P:Program} {w:World} {K:PySem.W.Frag} {mg:Str→Option Value} {base:Heap} {t:Adr}
theorem ZE (T:Txt w K mg t) (a:Addr) (ns:List Int) (h63:ns.length ≤ 63):Lb P w K mg base CX0 9 t.Mi t.Ri q22 (Dy K t a ns):=by
 have g0:Lb P w K mg base CX0 8 t.Hf t.Lf q21 (jd K a ns):=(Mw T a ns h63).mono (by decide);have g63:Lb P w K mg base CX0 8 t.uh t.Hh q46 (xv K a ns):=(zB T a ns h63).mono (by decide);have g64:Lb P w K mg base CX0 8 t.wf t.lf ["text"] (yK t):=(KL T).mono (by decide);have g65:Lb P w K mg base CX0 8 t.Ni t.Qi q41 (Ny t):=(rF T).mono (by decide);refine T.Kl.ok Kb (fun vs H Q E h=>?_) (fun _ _ _ s H vs Q E hr h=>?_)
 ·obtain ⟨rfl,_⟩:=h;rfl
 obtain ⟨rfl,S0,q⟩:=h;have hu:=Pw hr;refine ⟨_,(cb (Bb (i:=1) Kb.nd rfl (Or.inl rfl) (Gb zc ub (yb g0 hr rfl T.Sb T.Mb.kp T.Rb .nil Cb (ab (pv 0) (ab ub (ab ub fb))))))
   (cb (Bb (i:=2) Kb.nd rfl (Or.inl rfl) (Gb zc ub (yb g0 hr rfl T.Sb T.Mb.kp T.Rb .nil Cb (ab (pv 0) (ab ub (ab ub fb))))))
   (cb (Bb (i:=3) Kb.nd rfl (Or.inl rfl) (se fb))
   (cb (Bb (i:=4) Kb.nd rfl (Or.inl rfl) (se fb))
   (cb (Dd PassesOwn.never rfl (Zc rfl T.Wd (ab (pv 2) fb)) (xb (i:=5) Kb.nd rfl (Or.inl rfl)) (cb (Bb (i:=6) Kb.nd rfl (Or.inl rfl) (yb g63 hr rfl T.Wu T.Sj.kp T.Uv .nil Cb (ab (pv 0) (ab (Gb zc ub (yb g0 hr rfl T.Sb T.Mb.kp T.Rb .nil Cb (ab (pv 0) (ab (Gb zc ub (pv 5)) (ab ub fb))))) fb))))
   (cb (Bb (i:=7) Kb.nd rfl (Or.inl rfl) (se fb))
   (cb (Bb (i:=8) Kb.nd rfl (Or.inl rfl) (se (ab (Gb nk Rc (Cc ff rfl T.Jz Vg (ab (pv 1) fb))) fb)))
   (cb (Bb (i:=9) Kb.nd rfl (Or.inl rfl) Lm)
   (cb (Dd PassesOwn.never rfl (Zc rfl T.Wd (ab (Vb Fb rfl T.xg Ob (ab (pv 6) fb)) fb)) (xb (i:=10) Kb.nd rfl (Or.inl rfl)) (cb (Bb (i:=11) Kb.nd rfl (Or.inl rfl) (Yc ic (se (ab Rc (ab Rc (ab Rc fb)))) (yb g0 hr rfl T.Sb T.Mb.kp T.Rb .nil Cb (ab (pv 0) (ab (Gb zc (Gb zc ub (Gb Ig ub (pv 5))) (Gb Ig ub (pv 10))) (ab ub fb)))) (fun _ _=>rfl)))
   (cb (xc (Bi PySem.F.plainAttrs_list PySem.F.slot_list_append PySem.F.type_list_append fe (pv 7) (ab (Bi PySem.F.plainAttrs_str PySem.F.slot_str_join PySem.F.type_str_join aq Rc (ab (se (ab (pv 11) (ab (Yc ic (pv 6) (pv 10) (fun _ _=>rfl)) (ab (Cc ff rfl T.Jz Vg (ab (Gb Ig ub (pv 10)) fb)) (ab (Cc ff rfl T.Jz Vg (ab (Gb zc (Gb Ig ub (pv 10)) ub) fb)) (ab Rc fb)))))) fb)) fb)))
   (cb (Bb (i:=12) Kb.nd rfl (Or.inl rfl) (qk (bc mj (pv 11) Rc (qc _)) (pv 1) (Gb Oe (pv 1) ub)))
   (cb (Bb (i:=13) Kb.nd rfl (Or.inl rfl) (Gb zc ub (yb g0 hr rfl T.Sb T.Mb.kp T.Rb .nil Cb (ab (pv 0) (ab (Gb zc (Gb zc ub (Gb Ig ub (pv 5))) (Gb Ig ub (pv 10))) (ab (pv 12) fb))))))
   (cb (Bb (i:=14) Kb.nd rfl (Or.inl rfl) (yb g0 hr rfl T.Sb T.Mb.kp T.Rb .nil Cb (ab (pv 0) (ab (Gb zc (Gb zc ub (Gb Ig ub (pv 5))) (Gb Ig ub (pv 10))) (ab (pv 1) fb)))))
   (cb (xq hu (pv 9) (Yc ic (pv 6) (pv 10) (fun _ _=>rfl)) (se (ab (bj (ab (pv 14) (ab (pv 13) fb))) fb)) rfl)
   (cb (Ye (PW.pt (FB (bc mj (pv 11) Rc (qc _)) (Dx (bc cn (pv 13) (pv 1) (qc _))))) (cb (Bb (i:=14) Kb.nd rfl (Or.inl rfl) (Gb zc (pv 14) (pv 13)))
   (cb (Bb (i:=15) Kb.nd rfl (Or.inl rfl) (Gb zc ub (yb g0 hr rfl T.Sb T.Mb.kp T.Rb .nil Cb (ab (pv 0) (ab (Gb zc (Gb zc ub (Gb Ig ub (pv 5))) (Gb Ig ub (pv 10))) (ab (Gb Oe (pv 1) (pv 13)) fb))))))
   (cb (Bb (i:=16) Kb.nd rfl (Or.inl rfl) (Gb Le (Gb Oe (Gb Oe (Gb zc (pv 14) (pv 1)) (pv 13)) (pv 15)) (pv 1)))
   (pb (xc (Bi PySem.F.plainAttrs_list PySem.F.slot_list_append PySem.F.type_list_append fe (Vi hu (pv 9) (Yc ic (pv 6) (pv 10) (fun _ _=>rfl)) (fun _ _=>rfl)) (ab (bj (ab (pv 16) (ab (pv 15) fb))) fb))))))) Ec)
   (pb (Dd PassesOwn.never rfl (Sd (Vi hu (pv 9) (Yc ic (pv 6) (pv 10) (fun _ _=>rfl)) (fun _ _=>rfl))) (xb (i:=17) Kb.nd rfl (Or.inl rfl)) (pb (xc (Bi PySem.F.plainAttrs_list PySem.F.slot_list_append PySem.F.type_list_append fe (pv 8) (ab (Bi PySem.F.plainAttrs_str PySem.F.slot_str_join PySem.F.type_str_join aq Rc (ab (se (ab Rc (ab (Yc ic (pv 6) (pv 10) (fun _ _=>rfl)) (ab (Cc ff rfl T.Jz Vg (ab (Yc lh (pv 17) ub (fun _ _=>rfl)) fb)) (ab (Cc ff rfl T.Jz Vg (ab (Yc lh (pv 17) ub (fun _ _=>rfl)) fb)) fb))))) fb)) fb))))))))))))))
   (cb (Bb (i:=18) Kb.nd rfl (Or.inl rfl) (yb g64 hr rfl T.Tp T.bh.kp T.Uo .nil Cb (ab (Gb nk Rc (Bi PySem.F.plainAttrs_str PySem.F.slot_str_join PySem.F.type_str_join aq Rc (ab (pv 7) fb))) fb)))
   (cb (Bb (i:=19) Kb.nd rfl (Or.inl rfl) (Yc ic (pv 6) (yb g0 hr rfl T.Sb T.Mb.kp T.Rb .nil Cb (ab (pv 0) (ab (Gb zc ub (pv 5)) (ab (Vb Fb rfl T.xg Ob (ab (pv 6) fb)) fb)))) (fun _ _=>rfl)))
   (cb (Bb (i:=20) Kb.nd rfl (Or.inl rfl) (Yc ic (pv 6) (yb g0 hr rfl T.Sb T.Mb.kp T.Rb .nil Cb (ab (pv 0) (ab (Gb zc ub (pv 5)) (ab (Vb Fb rfl T.xg Ob (ab (pv 6) fb)) fb)))) (fun _ _=>rfl)))
   (cb (xc (Bi PySem.F.plainAttrs_list PySem.F.slot_list_append PySem.F.type_list_append fe (pv 3) (ab (bj (ab (yb g65 hr rfl T.Ax T.xl.kp T.Kw .nil Cb (ab (pv 18) (ab (Bi PySem.F.plainAttrs_str PySem.F.slot_str_join PySem.F.type_str_join aq Rc (ab (pv 8) fb)) fb))) (ab (pv 19) (ab (pv 20) fb)))) fb)))
   (pb (xc (Bi PySem.F.plainAttrs_list PySem.F.slot_list_append PySem.F.type_list_append fe (pv 4) (ab (bj (ab (Vi hu (pv 9) (pv 19) (fun _ _=>rfl)) (ab (Vi hu (pv 9) (pv 20) (fun _ _=>rfl)) fb))) fb))))))))))))))
   (pb (Jb (bj (ab (pv 1) (ab (pv 3) (ab (pv 4) fb))))))))))),?_⟩
 obtain ⟨z,hz,hz1⟩:∃ z:Nat,4 + zh ns 0 5=(z:Nat)∧(4 ≤ z∧z ≤ 8):=by
  have d1:=Ae ns 0 (m:=5) (by decide);have d2:=we ns 0 (m:=5) (by decide);exact ⟨(4 + zh ns 0 5).toNat,by omega,by omega⟩
 obtain ⟨m,hm,hm1⟩:∃ m:Nat,1 + zh ns 1 4=(m:Nat)∧(1 ≤ m∧m ≤ 4):=by
  have d1:=Ae ns 1 (m:=4) (by decide);have d2:=we ns 1 (m:=4) (by decide);exact ⟨(1 + zh ns 1 4).toNat,by omega,by omega⟩
 refine zS (fun σ' H'=>H'=H∧σ'=[some (.ref a),some (.int (z:Nat)),none,none,none,none,none,none,none,none,none,none,none,none,none,none,none,none,none,none,none]) (fun D' hD=>?_) fun zzM zzh=>?_
 ·(walk_at "RD"; repeat (simp only [jd];walk_at "RD"));rw [hz];exact ⟨S0,by omega,by omega,by decide,hD _ _ ⟨rfl,rfl⟩⟩
 rintro σ1 H1 ⟨rfl,rfl⟩;subst zzh;refine zS (fun σ' H'=>H'=H1∧σ'=[some (.ref a),some (.int (z:Nat)),some (.int (m:Nat)),none,none,none,none,none,none,none,none,none,none,none,none,none,none,none,none,none,none]) (fun D' hD=>?_) fun zzM zzh=>?_
 ·(walk_at "RD"; repeat (simp only [jd];walk_at "RD"));rw [hm];exact ⟨S0,by omega,by omega,by decide,hD _ _ ⟨rfl,rfl⟩⟩
 rintro σ2 H2 ⟨rfl,rfl⟩;subst zzh;refine zS (fun σ' H'=>Nb H2 H'∧Sc K a ns H'∧∃ lp,H2 lp=none∧H' lp=some (.lst [])∧σ'=[some (.ref a),some (.int (z:Nat)),some (.int (m:Nat)),some (.ref lp),none,none,none,none,none,none,none,none,none,none,none,none,none,none,none,none,none]) (fun D' hD=>?_) fun zzM zzh=>?_
 ·walk_at "RD";exact ⟨Nat.zero_le _,fun lp h=>hD _ _ ⟨lb h,S0.new h,lp,h,db,rfl⟩⟩
 rintro σ3 H3 ⟨s3,S3,lp,hlp,w3,rfl⟩;subst zzh;refine zS (fun σ' H'=>Nb H2 H'∧Sc K a ns H'∧∃ sl,H2 sl=none∧LS t H' z lp sl [] [] [] []∧σ'=[some (.ref a),some (.int (z:Nat)),some (.int (m:Nat)),some (.ref lp),some (.ref sl),none,none,none,none,none,none,none,none,none,none,none,none,none,none,none,none]) (fun D' hD=>?_) fun zzM zzh=>?_
 ·walk_at "RD";refine ⟨Nat.zero_le _,fun sl h=>hD _ _ ⟨s3.trans (lb h),S3.new h,sl,s3.free h,⟨wb w3 h,(lb h) _ _ w3,db,rfl,rfl,fun i q l z=>by simp at z,fun i q l z=>by simp at z⟩,rfl⟩⟩
 rintro σ4 H4 ⟨s4,S4,sl,hsl,L4,rfl⟩;subst zzh;simp only [Db];refine zzD (fun σ' H'=>Nb H2 H'∧Sc K a ns H'∧(∃ qs rs ls pss,LS t H' z lp sl qs rs ls pss∧ls.length=m∧pss.length=m∧pq z ls pss)∧∃ x5 x6 x7 x8 x9 x10 x11 x12 x13 x14 x15 x16 x17 x18 x19 x20,σ'=[some (.ref a),some (.int (z:Nat)),some (.int (m:Nat)),some (.ref lp),some (.ref sl),x5,x6,x7,x8,x9,x10,x11,x12,x13,x14,x15,x16,x17,x18,x19,x20]) (fun D' hD=>?_) ?_
 ·walk_at "RD";refine ⟨by omega,by omega,?_⟩;refine Fh.range (fun k σ H'=>Nb H2 H'∧Sc K a ns H'∧(∃ qs rs ls pss,LS t H' z lp sl qs rs ls pss∧ls.length=k∧pss.length=k∧pq z ls pss)∧∃ x5 x6 x7 x8 x9 x10 x11 x12 x13 x14 x15 x16 x17 x18 x19 x20,σ=[some (.ref a),some (.int (z:Nat)),some (.int (m:Nat)),some (.ref lp),some (.ref sl),x5,x6,x7,x8,x9,x10,x11,x12,x13,x14,x15,x16,x17,x18,x19,x20]) ⟨s4,S4,⟨[],[],[],[],L4,rfl,rfl,fun k l s h=>by simp at h⟩,by exact ⟨_,_,_,_,_,_,_,_,_,_,_,_,_,_,_,_,rfl⟩⟩ ?_ ?_
  ·rintro k σ H5 hk zzq;refine zP fun zzM zzh=>?_
   obtain ⟨s5,S5,⟨qs,rs,ls,pss,L5,hls,hps,hrel⟩,x5,x6,x7,x8,x9,x10,x11,x12,x13,x14,x15,x16,x17,x18,x19,x20,rfl⟩:=zzq;have hk4:k < 4:=by have:k < (m:Int).toNat:=hk;omega
   subst zzh;simp only [Mg,Db,List.set_cons_succ,List.set_cons_zero,Int.zero_add];obtain ⟨c,hc,hc1⟩:∃ c:Nat,2 + zh ns (6 + (k:Int)) 2=(c:Nat)∧(2 ≤ c∧c ≤ 3):=by
    have d1:=Ae ns (6 + (k:Int)) (m:=2) (by decide);have d2:=we ns (6 + (k:Int)) (m:=2) (by decide);exact ⟨(2 + zh ns (6 + (k:Int)) 2).toNat,by omega,by omega⟩
   refine zzC (fun σ' H'=>Nb H5 H'∧Sc K a ns H'∧∃ np xs,H' np=some (.lst (Hb xs))∧Nms c xs∧σ'=[some (.ref a),some (.int (z:Nat)),some (.int (m:Nat)),some (.ref lp),some (.ref sl),some (.int (k:Nat)),some (.ref np),x7,x8,x9,x10,x11,x12,x13,x14,x15,x16,x17,x18,x19,x20]) (fun D' hD=>?_) fun zzM zzh=>?_
   ·(walk_at "RD"; repeat (simp only [jd];walk_at "RD"));refine ⟨S5,by omega,by omega,by decide,?_⟩;rw [hc];exact ⟨c,rfl,S5,by omega,fun p xs H' s1 S1 _ e N=>hD _ _ ⟨s1,S1,p,xs,e,N,rfl⟩⟩
   rintro σ6 H6 ⟨s6,S6,np,xs,hnp,N,rfl⟩;have hxl:xs.length=c:=N.1;have N':Nms xs.length xs:=by rw [hxl];exact N
   subst zzh;simp only [Db];refine zzC (fun σ' H'=>Nb H6 H'∧Sc K a ns H'∧∃ wp,H6 wp=none∧H' wp=some (.lst [])∧σ'=[some (.ref a),some (.int (z:Nat)),some (.int (m:Nat)),some (.ref lp),some (.ref sl),some (.int (k:Nat)),some (.ref np),some (.ref wp),x8,x9,x10,x11,x12,x13,x14,x15,x16,x17,x18,x19,x20]) (fun D' hD=>?_) fun zzM zzh=>?_
   ·walk_at "RD";exact ⟨Nat.zero_le _,fun wp h=>hD _ _ ⟨lb h,S6.new h,wp,h,db,rfl⟩⟩
   rintro σ7 H7 ⟨s7,S7,wp,hwp,w7,rfl⟩;subst zzh;simp only [Db];refine zzC (fun σ' H'=>Nb H6 H'∧Sc K a ns H'∧H' wp=some (.lst [])∧∃ rp,H6 rp=none∧wp ≠ rp∧H' rp=some (.lst (Hb [Str.join bk [S "round",num z]]))∧σ'=[some (.ref a),some (.int (z:Nat)),some (.int (m:Nat)),some (.ref lp),some (.ref sl),some (.int (k:Nat)),some (.ref np),some (.ref wp),some (.ref rp),x9,x10,x11,x12,x13,x14,x15,x16,x17,x18,x19,x20]) (fun D' hD=>?_) fun zzM zzh=>?_
   ·walk_at "RD";have hl:(Str.ofString (toString (z:Int))).length ≤ 3:=mB (by omega) (by omega);have h6:(Str.ofString "round ").length=6:=by decide +kernel
    refine ⟨Mp (by omega),Nat.le_trans (show _ ≤ 9 by omega) (by decide),by decide,fun rp h=>hD _ _ ⟨s7.trans (lb h),S7.new h,(lb h) _ _ w7,rp,s7.free h,wb w7 h,?_,rfl⟩⟩;rw [db,bF];rfl
   rintro σ8 H8 ⟨s8,S8,w8,rp,hrp,hwr,r8,rfl⟩;subst zzh;simp only [Db];refine zzC (fun σ' H'=>Sc K a ns H'∧∃ op,Inn H' H6 z wp rp op [] []∧σ'=[some (.ref a),some (.int (z:Nat)),some (.int (m:Nat)),some (.ref lp),some (.ref sl),some (.int (k:Nat)),some (.ref np),some (.ref wp),some (.ref rp),some (.ref op),x10,x11,x12,x13,x14,x15,x16,x17,x18,x19,x20]) (fun D' hD=>?_) fun zzM zzh=>?_
   ·walk_at "RD";intro op hop;have sn:=lb (o:=.dK []) hop;exact hD _ _ ⟨S8.new hop,op,⟨⟨s8.trans sn,hwp,hrp,s8.free hop,sn _ _ w8,sn _ _ r8,db,hwr⟩,rfl,fun i b e h=>by simp at h⟩,rfl⟩
   rintro σ9 H9 ⟨S9,op,I9,rfl⟩;subst zzh;simp only [Db];refine zzC (fun σ' H'=>Nb H6 H'∧Sc K a ns H'∧(∃ G es as,Nb H6 G∧es.length=c∧E70 z xs es∧Inn H' G z wp rp op es as)∧∃ x10 x11 x12 x13 x14 x15 x16 x17 x18 x19 x20,σ'=[some (.ref a),some (.int (z:Nat)),some (.int (m:Nat)),some (.ref lp),some (.ref sl),some (.int (k:Nat)),some (.ref np),some (.ref wp),some (.ref rp),some (.ref op),x10,x11,x12,x13,x14,x15,x16,x17,x18,x19,x20]) (fun D' hD=>?_) fun zzM zzh=>?_
   ·walk_at "RD";refine ⟨_,.inl (SqL.of (I9.g.sg _ _ hnp)),?_⟩;rw [Qe,hxl];refine ⟨by omega,by omega,?_⟩;refine Fh.range (fun n σ H'=>Nb H6 H'∧Sc K a ns H'∧(∃ G es as,Nb H6 G∧es.length=n∧E70 z xs es∧Inn H' G z wp rp op es as)∧∃ x10 x11 x12 x13 x14 x15 x16 x17 x18 x19 x20,σ=[some (.ref a),some (.int (z:Nat)),some (.int (m:Nat)),some (.ref lp),some (.ref sl),some (.int (k:Nat)),some (.ref np),some (.ref wp),some (.ref rp),some (.ref op),x10,x11,x12,x13,x14,x15,x16,x17,x18,x19,x20]) ⟨I9.g.sg,S9,⟨H6,[],[],Nb.refl _,rfl,E70.nil z xs,I9⟩,by exact ⟨_,_,_,_,_,_,_,_,_,_,_,rfl⟩⟩ ?_ ?_
    ·rintro n σ HA hn zzq;refine zP fun zzM zzh=>?_
     obtain ⟨sA,SA,⟨G,es,as,sG,hel,E,IA⟩,x10,x11,x12,x13,x14,x15,x16,x17,x18,x19,x20,rfl⟩:=zzq;have hnc:n < c:=by have:n < (c:Int).toNat:=hn;omega
     have hx:xs[n]? = some (xs[n]'(by omega)):=List.getElem?_eq_getElem _;subst zzh;generalize xs[n]'(by omega)=x at hx;have hxn:made x Ag 8=true:=N.2.2 x (List.mem_of_getElem? hx);have hxp:=Wm hxn;have hnw:np ≠ wp:=wb (sG _ _ hnp) IA.g.gw;have hnr:np ≠ rp:=wb (sG _ _ hnp) IA.g.gr;have hno:np ≠ op:=wb (sG _ _ hnp) IA.g.go;have hal:as.length=(dsE es).length:=by rw [IA.l,Zm]
     have hasl:as.length ≤ 3:=by rw [IA.l];omega
     obtain ⟨ky,hky,hk3⟩:∃ ky:Nat,zh ns (200 + 20 * (k:Int) + 5 * (n:Int)) 3=(ky:Nat)∧ky < 3:=by
      have d1:=Ae ns (200 + 20 * (k:Int) + 5 * (n:Int)) (m:=3) (by decide);have d2:=we ns (200 + 20 * (k:Int) + 5 * (n:Int)) (m:=3) (by decide);exact ⟨(zh ns (200 + 20 * (k:Int) + 5 * (n:Int)) 3).toNat,by omega,by omega⟩
     have hnd:((dsE es ++ [wK ky n x]).map (·.name)).Nodup:=E.nd1 N.2.1 (by rw [hel];exact hx);simp only [Mg,Db,List.set_cons_succ,List.set_cons_zero,Int.zero_add];refine zzC (fun σ' H'=>Nb HA H'∧Sc K a ns H'∧σ'=[some (.ref a),some (.int (z:Nat)),some (.int (m:Nat)),some (.ref lp),some (.ref sl),some (.int (k:Nat)),some (.ref np),some (.ref wp),some (.ref rp),some (.ref op),some (.int (n:Nat)),some (.str (Ld ky)),x12,x13,x14,x15,x16,x17,x18,x19,x20]) (fun D' hD=>?_) fun zzM zzh=>?_
     ·(walk_at "RD"; repeat (simp only [jd];walk_at "RD"));refine ⟨by decide,fun p hp=>⟨.inl ⟨by decide,by decide⟩,.inl ⟨by decide,by decide⟩,SA.new hp,by omega,by omega,by decide,_,SqL.of db,_,?_,hD _ _ ⟨lb hp,SA.new hp,rfl⟩⟩⟩;have:=mI (i:=(ky:Int)) (by omega) (by omega);rw [Int.toNat_natCast] at this;rw [hky];exact this
     rintro σB HB ⟨sB,SB,rfl⟩;have IB:=IA.g.same sB;have hnB:HB np=some (.lst (Hb xs)):=sB _ _ (sA _ _ hnp);subst zzh;simp only [Db];refine zzC (fun σ' H'=>Sc K a ns H'∧H' np=some (.lst (Hb xs))∧Co H' G wp rp op ((dsE (es ++ [(wK ky n x,[])])).map fun d=>Str.join bk (sf d)) ((Af z (spE es)).map (Str.join bk)) (nkv (dsE es) as)∧σ'=[some (.ref a),some (.int (z:Nat)),some (.int (m:Nat)),some (.ref lp),some (.ref sl),some (.int (k:Nat)),some (.ref np),some (.ref wp),some (.ref rp),some (.ref op),some (.int (n:Nat)),some (.str (Ld ky)),x12,x13,x14,x15,x16,x17,x18,x19,x20]) (fun D' hD=>?_) fun zzM zzh=>?_
     ·walk_at "RD";refine ⟨.inl ⟨_,SqL.of IB.w⟩,_,SqL.of hnB,_,wc (Ah hx),.inl ⟨by decide,by decide⟩,Mp (by omega),.inl ⟨by decide,by decide⟩,Mp (by omega),by decide,fun p hp=>?_⟩;have sn:=lb (o:=.lst [V.str (Ld ky),V.str x,V.str (num (3 * (n:Int))),V.str (num (3 * (n:Int) + 1)),V.str (Str.ofString "0 0 1")]) hp;have l1:=(Ys ky).1;have l2:=hxp.1;have l3:=(Nd (v:=3 * (n:Int)) (by omega) (by omega)).1;have l4:=(Nd (v:=3 * (n:Int) + 1) (by omega) (by omega)).1;have l5:(Str.ofString "0 0 1").length=5:=by decide +kernel
      have l6:(Str.ofString " ").length=1:=by decide +kernel
      refine ⟨[Ld ky,x,num (3 * (n:Int)),num (3 * (n:Int) + 1),Str.ofString "0 0 1"],SqL.of db,?_,_,sn _ _ IB.w,Nat.lt_of_le_of_lt (show (Hb ((dsE es).map fun d=>Str.join bk (sf d))).length ≤ 3 by rw [Qe,List.length_map,Zm];omega) (by decide),?_⟩
      ·simp only [List.map_cons,List.map_nil,List.sum_cons,List.sum_nil,List.length_cons,List.length_nil];omega
      ·rw [cm,show Str.join (Str.ofString " ") [Ld ky,x,num (3 * (n:Int)),num (3 * (n:Int) + 1),Str.ofString "0 0 1"]=Str.join bk (sf (wK ky n x)) from JI ky n x];have:=(IB.same sn).putW (Str.join bk (sf (wK ky n x)));refine hD _ _ ⟨(SB.new hp).set (sn _ _ IB.w) (fun _ _ z=>by cases z),by rw [qb hnw];exact sn _ _ hnB,?_,rfl⟩;rw [rk,List.map_append];exact this
     rintro σC HC ⟨SC,hnC,IC,rfl⟩;obtain ⟨mo,hmo⟩:∃ mo:Int,mo=(if ky=1 then (z:Int) else (z:Int) - 3):=⟨_,rfl⟩;subst zzh;simp only [Db];refine zzC (fun σ' H'=>H'=HC∧σ'=[some (.ref a),some (.int (z:Nat)),some (.int (m:Nat)),some (.ref lp),some (.ref sl),some (.int (k:Nat)),some (.ref np),some (.ref wp),some (.ref rp),some (.ref op),some (.int (n:Nat)),some (.str (Ld ky)),some (.int mo),x13,x14,x15,x16,x17,x18,x19,x20]) (fun D' hD=>?_) fun zzM zzh=>?_
     ·walk_at "RD";rw [Ev hk3];by_cases h1:ky=1
      ·rw [if_pos (decide_eq_true h1)];exact hD _ _ ⟨rfl,by rw [hmo,if_pos h1]⟩
      ·rw [if_neg (by simpa using h1)];exact hD _ _ ⟨rfl,by rw [hmo,if_neg h1]⟩
     rintro σD HD ⟨rfl,rfl⟩;obtain ⟨L,hL,hL1⟩:∃ L:Int,1 + zh ns (201 + 20 * (k:Int) + 5 * (n:Int)) mo=L∧(1 ≤ L∧L ≤ mo):=by
      have d1:=Ae ns (201 + 20 * (k:Int) + 5 * (n:Int)) (m:=mo) (by rw [hmo];split <;> omega);have d2:=we ns (201 + 20 * (k:Int) + 5 * (n:Int)) (m:=mo) (by rw [hmo];split <;> omega);exact ⟨_,rfl,by omega,by omega⟩
     subst zzh;simp only [Db];refine zzC (fun σ' H'=>H'=HD∧σ'=[some (.ref a),some (.int (z:Nat)),some (.int (m:Nat)),some (.ref lp),some (.ref sl),some (.int (k:Nat)),some (.ref np),some (.ref wp),some (.ref rp),some (.ref op),some (.int (n:Nat)),some (.str (Ld ky)),some (.int mo),some (.int L),x14,x15,x16,x17,x18,x19,x20]) (fun D' hD=>?_) fun zzM zzh=>?_
     ·(walk_at "RD"; repeat (simp only [jd];walk_at "RD"));exact ⟨.inl ⟨by decide,by decide⟩,.inl ⟨by decide,by decide⟩,SC,by omega,by omega,by omega,hD _ _ ⟨rfl,by rw [hL]⟩⟩
     rintro σE HE ⟨rfl,rfl⟩;obtain ⟨b,hb,hb1⟩:∃ b:Int,zh ns (202 + 20 * (k:Int) + 5 * (n:Int)) z=b∧(0 ≤ b∧b < z):=by
      have d1:=Ae ns (202 + 20 * (k:Int) + 5 * (n:Int)) (m:=z) (by omega);have d2:=we ns (202 + 20 * (k:Int) + 5 * (n:Int)) (m:=z) (by omega);exact ⟨_,rfl,by omega,by omega⟩
     subst zzh;simp only [Db];refine zzC (fun σ' H'=>H'=HE∧σ'=[some (.ref a),some (.int (z:Nat)),some (.int (m:Nat)),some (.ref lp),some (.ref sl),some (.int (k:Nat)),some (.ref np),some (.ref wp),some (.ref rp),some (.ref op),some (.int (n:Nat)),some (.str (Ld ky)),some (.int mo),some (.int L),some (.int b),x15,x16,x17,x18,x19,x20]) (fun D' hD=>?_) fun zzM zzh=>?_
     ·(walk_at "RD"; repeat (simp only [jd];walk_at "RD"));exact ⟨.inl ⟨by decide,by decide⟩,.inl ⟨by decide,by decide⟩,SC,by omega,by omega,by omega,hD _ _ ⟨rfl,by rw [hb]⟩⟩
     rintro σF HF ⟨rfl,rfl⟩;subst zzh;simp only [Db];refine zzC (fun σ' H'=>Sc K a ns H'∧H' np=some (.lst (Hb xs))∧(∃ p1 p2,(G p1=none∧G p2=none∧p1 ≠ p2)∧(p1 ≠ wp∧p1 ≠ rp∧p1 ≠ op)∧(p2 ≠ wp∧p2 ≠ rp∧p2 ≠ op)∧H' p1=some (.tup [.int b,.int L])∧H' p2=some (.lst [.ref p1])∧Co H' G wp rp op ((dsE (es ++ [(wK ky n x,[])])).map fun d=>Str.join bk (sf d)) ((Af z (spE es)).map (Str.join bk)) (nkv (dsE (es ++ [(wK ky n x,[])])) (as ++ [p2])))∧σ'=[some (.ref a),some (.int (z:Nat)),some (.int (m:Nat)),some (.ref lp),some (.ref sl),some (.int (k:Nat)),some (.ref np),some (.ref wp),some (.ref rp),some (.ref op),some (.int (n:Nat)),some (.str (Ld ky)),some (.int mo),some (.int L),some (.int b),x15,x16,x17,x18,x19,x20]) (fun D' hD=>?_) fun zzM zzh=>?_
     ·walk_at "RD";refine ⟨by decide,fun p1 hp1=>⟨by decide,fun p2 hp2=>?_⟩⟩;have sn1:=lb (o:=.tup [.int b,.int L]) hp1;have sn2:=lb (o:=.lst [.ref p1]) hp2;have sn:=sn1.trans sn2;have I2:=IC.same sn;have q1:p1 ≠ p2:=fun z=>by subst z;rw [db] at hp2;cases hp2
      refine ⟨_,SqL.of (sn _ _ hnC),_,wc (Ah hx),_,nA.k (k:=Sum.inr x) I2.o (Nat.lt_of_le_of_lt (show (nkv (dsE es) as).length ≤ 12 by unfold nkv;rw [List.length_map,List.length_zip,Zm];omega) (by decide)),?_⟩;have ek:Ju (nkv (dsE es) as) (Sum.inr x) (.ref p2)=nkv (dsE (es ++ [(wK ky n x,[])])) (as ++ [p2]):=by
       have hal:as.length=(dsE es).length:=by rw [IA.l,Zm]
       rw [rk,← pE hal (wK ky n x)];exact Ht (d:=wK ky n x) (E.nd1 N.2.1 (by rw [hel];exact hx)) (by rw [hal,List.getElem?_append_right (Nat.le_refl _),Nat.sub_self];rfl)
      rw [ek];refine hD _ _ ⟨((SC.new hp1).new hp2).set I2.o (fun _ _ z=>by cases z),by rw [qb hno];exact sn _ _ hnC,⟨p1,p2,⟨IC.sg.free hp1,IC.sg.free (sn1.free hp2),q1⟩,⟨(wb IC.w hp1).symm,(wb IC.r hp1).symm,(wb IC.o hp1).symm⟩,⟨(wb (sn1 _ _ IC.w) hp2).symm,(wb (sn1 _ _ IC.r) hp2).symm,(wb (sn1 _ _ IC.o) hp2).symm⟩,?_,?_,I2.putO _⟩,rfl⟩
      ·rw [qb (wb IC.o hp1).symm,qb q1,db]
      ·rw [qb (wb (sn1 _ _ IC.o) hp2).symm,db]
     rintro σG HG ⟨SG,hnG,⟨p1,p2,⟨gp1,gp2,p12⟩,np1,np2,e1,e2,IG⟩,rfl⟩;subst zzh;simp only [Db];refine zzC (fun σ' H'=>Sc K a ns H'∧H' np=some (.lst (Hb xs))∧(∃ G1 ps,Nb G G1∧LO G1 p2 (ps.map prO)∧Ow z (wK ky n x) ps∧Co H' G1 wp rp op ((dsE (es ++ [(wK ky n x,[])])).map fun d=>Str.join bk (sf d)) ((Af z (spE es)).map (Str.join bk)) (nkv (dsE (es ++ [(wK ky n x,[])])) (as ++ [p2])))∧∃ x14 x15 x16,σ'=[some (.ref a),some (.int (z:Nat)),some (.int (m:Nat)),some (.ref lp),some (.ref sl),some (.int (k:Nat)),some (.ref np),some (.ref wp),some (.ref rp),some (.ref op),some (.int (n:Nat)),some (.str (Ld ky)),some (.int mo),some (.int L),x14,x15,x16,x17,x18,x19,x20]) (fun D' hD=>?_) fun zzM zzh=>?_
     ·have hfr:Od (wK ky n x) + Dc (wK ky n x)=if ky=1 then 0 else 3:=QC ky n x hk3;refine Wc (decide (ky=1) && decide (L < z)) (fun Q hQ=>?_) (fun cc=>?_) (fun cc=>?_)
      ·walk_at "RD";rw [Ev hk3];by_cases h1:ky=1
       ·rw [if_pos (decide_eq_true h1)];rw [decide_eq_true h1,Bool.true_and] at hQ;exact hQ
       ·rw [if_neg (by simpa using h1)];rw [decide_eq_false h1,Bool.false_and] at hQ;exact hQ
      ·rw [Bool.and_eq_true,decide_eq_true_eq,decide_eq_true_eq] at cc;obtain ⟨M,hM,hM1⟩:∃ M:Int,1 + zh ns (203 + 20 * (k:Int) + 5 * (n:Int)) ((z:Int) - L)=M∧(1 ≤ M∧M ≤ (z:Int) - L):=by
        have d1:=Ae ns (203 + 20 * (k:Int) + 5 * (n:Int)) (m:=(z:Int) - L) (by omega);have d2:=we ns (203 + 20 * (k:Int) + 5 * (n:Int)) (m:=(z:Int) - L) (by omega);exact ⟨_,rfl,by omega,by omega⟩
       obtain ⟨la,hla⟩:∃ la:Int,(b + z - M) % (z:Int)=la:=⟨_,rfl⟩;have ela:(b + L + z - L - M) % (z:Int)=la:=by rw [← hla];congr 1;omega
       have hk2:ky=1:=cc.1;(walk_at "RD"; repeat (simp only [jd];walk_at "RD"));refine ⟨.inl ⟨by decide,by decide⟩,.inl ⟨by decide,by decide⟩,SG,by omega,by omega,by omega,?_⟩;rw [hM,ela];have og:wo HG op (.str x) (some (.ref p2)):=wB (d:=wK ky n x) (by have:=IG.o;rwa [rk] at this) hnd hal;refine ⟨by omega,_,SqL.of hnG,_,wc (Ah hx),_,og,.inl ⟨_,SqL.of e2⟩,by decide,fun p3 hp3=>?_⟩;have sn:=lb (o:=.tup [.int la,.int M]) hp3;have q23:p2 ≠ p3:=wb e2 hp3;have q13:p1 ≠ p3:=wb e1 hp3;have k1:p2 ≠ np:=ze e2 hnG (fun z=>by
        injection z with z;cases xs with
        | nil=>cases z
        | cons y r=>injection z with z _;cases z)
       have gp3:G p3=none:=IG.sg.free hp3;refine ⟨p2,rfl,_,sn _ _ e2,by show 1 < sizeLine;decide,hD _ _ ⟨(SG.new hp3).set (sn _ _ e2) (fun _ _ z=>by cases z),by rw [qb k1.symm];exact sn _ _ hnG,⟨upd (upd (upd G p1 (.tup [.int b,.int L])) p3 (.tup [.int la,.int M])) p2 (.lst [.ref p1,.ref p3]),[(b,L),(la,M)],?_,⟨[p1,p3],db,(LQ.one (o:=prO (b,L)) (by rw [qb p12,qb q13,db];rfl)).app (LQ.one (o:=prO (la,M)) (by rw [qb q23.symm,db];rfl))⟩,?_,?_⟩,_,_,_,rfl⟩⟩
       ·exact ((lb gp1).trans (lb (by rw [qb q13.symm];exact gp3))).trans (lb (by rw [qb q23,qb p12.symm];exact gp2))
       ·rw [← hla];exact Ow.two (by subst hk2;exact ⟨rfl,rfl⟩) hb1 ⟨hL1.1,cc.2⟩ hM1
       ·have w3:=(wb IG.w hp3);have r3:=(wb IG.r hp3);have o3:=(wb IG.o hp3);refine ⟨fun u v e=>?_,by rw [qb np2.1.symm,qb w3,qb np1.1.symm];exact IG.gw,by rw [qb np2.2.1.symm,qb r3,qb np1.2.1.symm];exact IG.gr,by rw [qb np2.2.2.symm,qb o3,qb np1.2.2.symm];exact IG.go,by rw [qb np2.1.symm];exact sn _ _ IG.w,by rw [qb np2.2.1.symm];exact sn _ _ IG.r,by rw [qb np2.2.2.symm];exact sn _ _ IG.o,IG.ne⟩;by_cases c2:u=p2
        ·subst c2;rw [db] at e;rw [db];exact e
        ·rw [qb c2] at e;rw [qb c2];by_cases c3:u=p3
         ·subst c3;rw [db] at e;rw [db];exact e
         ·rw [qb c3] at e;rw [qb c3];by_cases c1:u=p1
          ·subst c1;rw [db] at e;rw [e1];exact e
          ·rw [qb c1] at e;exact IG.sg _ _ e
      ·walk_at "RD";refine hD _ _ ⟨SG,hnG,⟨upd (upd G p1 (.tup [.int b,.int L])) p2 (.lst [.ref p1]),[(b,L)],?_,⟨[p1],db,LQ.one (by rw [qb p12,db];rfl)⟩,Ow.one hb1 ?_,?_⟩,_,_,_,rfl⟩
       ·exact (lb gp1).trans (lb (by rw [qb p12.symm];exact gp2))
       ·rw [show L + Od (wK ky n x) + Dc (wK ky n x)=L + (if ky=1 then 0 else 3) by rw [← hfr];omega];refine ⟨hL1.1,?_⟩;have:=hL1.2;rw [hmo] at this;split at this <;> simp_all <;> omega
       ·exact IG.grow (fun u v e=>by
         by_cases c2:u=p2
         ·subst c2;rw [db] at e;rw [e2];exact e
         ·rw [qb c2] at e;by_cases c1:u=p1
          ·subst c1;rw [db] at e;rw [e1];exact e
          ·rw [qb c1] at e;exact IG.sg _ _ e) (by rw [qb np2.1.symm,qb np1.1.symm];exact IG.gw) (by rw [qb np2.2.1.symm,qb np1.2.1.symm];exact IG.gr) (by rw [qb np2.2.2.symm,qb np1.2.2.symm];exact IG.go)
     rintro σH HH ⟨SH,hnH,⟨G1,ps,sG1,LO1,hOw,IH⟩,x14,x15,x16,rfl⟩;obtain ⟨os,o1,oq⟩:=id LO1;have hol:os.length=ps.length:=by rw [oq.1,List.length_map]
     have hpl:=hOw.ln;have og:wo HH op (.str x) (some (.ref p2)):=wB (d:=wK ky n x) (by have:=IH.o;rwa [rk] at this) hnd hal;subst zzh;walk_at "RD";refine ⟨_,SqL.of hnH,_,wc (Ah hx),_,og,p2,rfl,⟨_,SqL.of (IH.sg _ _ o1)⟩,?_⟩;refine Fh.list (xs:=os.map V.ref) (fun j σ H'=>Sc K a ns H'∧H' np=some (.lst (Hb xs))∧Co H' G1 wp rp op ((dsE (es ++ [(wK ky n x,[])])).map fun d=>Str.join bk (sf d)) ((Af z (spE es ++ (ps.take j).map fun p=>⟨x,p.1,p.2⟩)).map (Str.join bk)) (nkv (dsE (es ++ [(wK ky n x,[])])) (as ++ [p2]))∧∃ x17,σ=[some (.ref a),some (.int (z:Nat)),some (.int (m:Nat)),some (.ref lp),some (.ref sl),some (.int (k:Nat)),some (.ref np),some (.ref wp),some (.ref rp),some (.ref op),some (.int (n:Nat)),some (.str (Ld ky)),some (.int mo),some (.int L),x14,x15,x16,x17,x18,x19,x20]) ?_ ?_ ?_ ?_
     ·refine ⟨SH,hnH,?_,_,rfl⟩;rw [List.take_zero,List.map_nil,List.append_nil];exact IH
     ·rintro j σ H' hj zzq;refine zP fun zzM zzh=>?_
      obtain ⟨_,_,I',_⟩:=zzq;subst zzh;exact SqL.of (I'.sg _ _ o1)
     ·rintro j v σ H' hv zzq;refine zP fun zzM zzh=>?_
      obtain ⟨S',hn',I',x17,rfl⟩:=zzq;obtain ⟨qj,hqj,rfl⟩:=Xb hv;obtain ⟨o,ho,e⟩:=oq.at hqj;obtain ⟨pr,hpr,rfl⟩:=Xb ho;have e':=I'.sg _ _ e;have hin:=hOw.al pr (List.mem_of_getElem? hpr);have f0:=QC ky n x hk3;have f1:0 ≤ Od (wK ky n x) + Dc (wK ky n x):=by rw [f0];split <;> omega
      subst zzh;walk_at "RD";refine ⟨.inl ⟨_,SqL.of I'.r⟩,_,SqL.of hn',_,wc (Ah hx),_,SqT.of e',_,rfl,_,rfl,Mp (by omega),_,SqT.of e',_,rfl,_,rfl,Mp (by omega),by decide,fun p hp=>?_⟩;have sn:=lb (o:=.lst [V.str (Str.ofString "free"),V.str x,V.str (num pr.1),V.str (num pr.2)]) hp;have l1:(Str.ofString "free").length=4:=by decide +kernel
      have l2:=hxp.1;have l3:=(Nd (v:=pr.1) (by omega) (by omega)).1;have l4:=(Nd (v:=pr.2) (by omega) (by omega)).1;have l6:(Str.ofString " ").length=1:=by decide +kernel
      have lsp:=jx (es:=es) fun e he=>(E.ow he).2.2.2.ln.2
      refine ⟨[Str.ofString "free",x,num pr.1,num pr.2],SqL.of db,?_,_,sn _ _ I'.r,Nat.lt_of_le_of_lt (show (Hb ((Af z (spE es ++ (ps.take j).map fun p=>⟨x,p.1,p.2⟩)).map (Str.join bk))).length ≤ 20 by rw [Qe,List.length_map];unfold Af;rw [List.length_cons,List.length_map,List.length_append,List.length_map,List.length_take];omega) (by decide),(S'.new hp).set (sn _ _ I'.r) (fun _ _ z=>by cases z),by rw [qb hnr];exact sn _ _ hn',?_⟩
      ·simp only [List.map_cons,List.map_nil,List.sum_cons,List.sum_nil,List.length_cons,List.length_nil];omega
      ·rw [cm];have:=(I'.same sn).putR (Str.join bk (zk ⟨x,pr.1,pr.2⟩));have er:(Af z (spE es ++ (ps.take j).map fun p=>(⟨x,p.1,p.2⟩:SD))).map (Str.join bk) ++ [Str.join bk (zk ⟨x,pr.1,pr.2⟩)]=(Af z (spE es ++ (ps.take (j + 1)).map fun p=>(⟨x,p.1,p.2⟩:SD))).map (Str.join bk):=by
        rw [Ve hpr,List.map_append,← List.append_assoc];show _=(Af z (spE es ++ (ps.take j).map (fun p=>(⟨x,p.1,p.2⟩:SD)) ++ [⟨x,pr.1,pr.2⟩])).map (Str.join bk);rw [eA,List.map_append (l₁:=Af z _)];rfl
       rw [er] at this;refine ⟨this,?_⟩
       repeat (first | exact ⟨_,rfl⟩ | refine ⟨⟨_,rfl⟩,?_⟩ | refine ⟨rfl,?_⟩)
     ·rintro σ H' zzq;refine zP fun zzM zzh=>?_
      obtain ⟨S',hn',I',x17,rfl⟩:=zzq;subst zzh;rw [List.length_map,hol,List.take_length] at I';have E':=E.snoc hk3 (by rw [hel];exact hx) (ps:=ps) (by rw [hel];exact hOw);rw [hel] at E';refine ⟨(sG.trans sG1).trans I'.sg,S',⟨G1,sG.trans sG1,es ++ [(wK ky n x,ps)],by rw [List.length_append,hel];rfl,E',as ++ [p2],⟨?_,by rw [List.length_append,List.length_append,IA.l];rfl,fun i b e hi he=>?_⟩⟩,by exact ⟨_,_,_,_,_,_,_,_,_,_,_,rfl⟩⟩
      ·rw [rk] at I';rw [rk,wE];exact I'
      ·rcases De hi with ⟨_,hi⟩ | ⟨hi,rfl⟩
       ·rcases De he with ⟨_,he⟩ | ⟨he,_⟩
        ·exact (IA.a i b e hi he).same sG1
        ·have:=(List.getElem?_eq_some_iff.mp hi).1;have:=IA.l;omega
       ·rcases De he with ⟨he,_⟩ | ⟨_,rfl⟩
        ·have:=IA.l;omega
        ·exact LO1
    ·rintro σ H' zzq;refine zP fun zzM zzh=>?_
     obtain ⟨sx,S',⟨G,es,as,g1,g2,g3,g4⟩,x10,x11,x12,x13,x14,x15,x16,x17,x18,x19,x20,rfl⟩:=zzq;subst zzh;exact hD _ _ ⟨sx,S',⟨G,es,as,g1,by rw [g2];omega,g3,g4⟩,by exact ⟨_,_,_,_,_,_,_,_,_,_,_,rfl⟩⟩
   rintro σ10 H10 ⟨s10,S10,⟨G,es,as,sG,hel,E,I10⟩,x10,x11,x12,x13,x14,x15,x16,x17,x18,x19,x20,rfl⟩;have hes:es ≠ []:=fun z=>by rw [z] at hel;simp at hel;omega
   have hds:dsE es ≠ []:=fun z=>hes (by unfold dsE at z;simpa using z)
   have hC:=E.cok N' (by omega) (by omega);have hnG:G np=some (.lst (Hb xs)):=sG _ _ hnp;have L10:=(L5.same s6).same (sG.trans I10.g.sg);subst zzh;simp only [Db];refine zzD (fun σ' H'=>Nb H10 H'∧Sc K a ns H'∧∃ cr,Lc t H' cr 12 (dsE es)∧σ'=[some (.ref a),some (.int (z:Nat)),some (.int (m:Nat)),some (.ref lp),some (.ref sl),some (.int (k:Nat)),some (.ref np),some (.ref wp),some (.ref rp),some (.ref op),x10,x11,x12,x13,x14,x15,x16,x17,some (.ref cr),x19,x20]) (fun D' hD=>?_) ?_
   ·walk_at "RD";have lc:=Vu hC;have lr:(Str.ofString "ring 12
").length=8:=by decide +kernel
    rw [← Ey hds,Hn] at lc;have ls:=au nl ((dsE es).map fun d=>Str.join bk (sf d));have l1:(Str.ofString "
").length=1:=by decide +kernel
    refine ⟨_,SqL.of I10.g.w,?_,?_,12,dsE es,?_,hC,S10.nt,fun cr H' s' n' C=>hD _ _ ⟨s',S10.same s' n',cr,C,rfl⟩⟩
    ·rw [List.length_map,Zm,l1];omega
    ·rw [cm];exact Nat.le_trans (show _ ≤ 1000 from lc) (by decide)
    ·rw [cm,← Ey hds]
   rintro σ11 H11 zzq;refine zP fun zzM zzh=>?_
   obtain ⟨s11,S11,cr,C11,rfl⟩:=zzq;have I11:=I10.g.same s11;obtain ⟨jf,hjf,hjf1⟩:∃ jf:Nat,zh ns (30 + (k:Int)) c=(jf:Nat)∧jf < c:=by
    have d1:=Ae ns (30 + (k:Int)) (m:=c) (by omega);have d2:=we ns (30 + (k:Int)) (m:=c) (by omega);exact ⟨(zh ns (30 + (k:Int)) c).toNat,by omega,by omega⟩
   obtain ⟨jb,hjb,hjb1⟩:∃ jb:Nat,zh ns (40 + (k:Int)) c=(jb:Nat)∧jb < c:=by
    have d1:=Ae ns (40 + (k:Int)) (m:=c) (by omega);have d2:=we ns (40 + (k:Int)) (m:=c) (by omega);exact ⟨(zh ns (40 + (k:Int)) c).toNat,by omega,by omega⟩
   obtain ⟨ef,hef⟩:∃ ef,es[jf]? = some ef:=⟨es[jf]'(by omega),List.getElem?_eq_getElem _⟩;obtain ⟨eb,heb⟩:∃ eb,es[jb]? = some eb:=⟨es[jb]'(by omega),List.getElem?_eq_getElem _⟩;have hxf:=E.nm hef;have hxb:=E.nm heb;subst zzh;simp only [Db];refine zzC (fun σ' H'=>H'=H11∧σ'=[some (.ref a),some (.int (z:Nat)),some (.int (m:Nat)),some (.ref lp),some (.ref sl),some (.int (k:Nat)),some (.ref np),some (.ref wp),some (.ref rp),some (.ref op),x10,x11,x12,x13,x14,x15,x16,x17,some (.ref cr),some (.str ef.1.name),x20]) (fun D' hD=>?_) fun zzM zzh=>?_
   ·(walk_at "RD"; repeat (simp only [jd];walk_at "RD"));have hn:=I11.sg _ _ hnG;refine ⟨_,.inl (SqL.of hn),S11,by omega,by omega,by rw [Qe];omega,_,SqL.of hn,_,?_,hD _ _ ⟨rfl,rfl⟩⟩;rw [Qe,hxl,hjf];exact wc (Ah hxf)
   rintro σ12 H12 ⟨rfl,rfl⟩;subst zzh;simp only [Db];refine zzC (fun σ' H'=>H'=H12∧σ'=[some (.ref a),some (.int (z:Nat)),some (.int (m:Nat)),some (.ref lp),some (.ref sl),some (.int (k:Nat)),some (.ref np),some (.ref wp),some (.ref rp),some (.ref op),x10,x11,x12,x13,x14,x15,x16,x17,some (.ref cr),some (.str ef.1.name),some (.str eb.1.name)]) (fun D' hD=>?_) fun zzM zzh=>?_
   ·(walk_at "RD"; repeat (simp only [jd];walk_at "RD"));have hn:=I11.sg _ _ hnG;refine ⟨_,.inl (SqL.of hn),S11,by omega,by omega,by rw [Qe];omega,_,SqL.of hn,_,?_,hD _ _ ⟨rfl,rfl⟩⟩;rw [Qe,hxl,hjb];exact wc (Ah hxb)
   rintro σ13 H13 ⟨rfl,rfl⟩;subst zzh;simp only [Db];refine zzD (fun σ' H'=>Nb H2 H'∧Sc K a ns H'∧H' op=some (.dK (nkv (dsE es) as))∧(∀ (i:Nat) (b:Addr) (e:WE),as[i]? = some b→es[i]? = some e→LO H' b (e.2.map prO))∧(∃ q pl,LS t H' z lp sl (qs ++ [q]) rs (ls ++ [⟨pl,cr,12,dsE es,spE es,ef.1,eb.1⟩]) pss)∧σ'=[some (.ref a),some (.int (z:Nat)),some (.int (m:Nat)),some (.ref lp),some (.ref sl),some (.int (k:Nat)),some (.ref np),some (.ref wp),some (.ref rp),some (.ref op),x10,x11,x12,x13,x14,x15,x16,x17,some (.ref cr),some (.str ef.1.name),some (.str eb.1.name)]) (fun D' hD=>?_) ?_
   ·walk_at "RD";have L13:=L10.same s11;have hG:=E.good N' (by omega);obtain ⟨_,lt,_⟩:=Xr (z:=z) (by omega) hG;have ls:=au nl ((Af z (spE es)).map (Str.join bk));have lt:(Str.join nl ((Af z (spE es)).map (Str.join bk))).length ≤ 20000:=lt;have l1:(Str.ofString "
").length=1:=by decide +kernel
    have lp:=hG.ln;refine ⟨.inl ⟨_,SqL.of L13.e1⟩,_,SqL.of I11.r,?_,cr,12,dsE es,z,spE es,by rw [cm];rfl,C11,by decide,fun d hd=>?_,by omega,hG,S11.nt,E.never,E.short N.2.1,E.clash (by omega),fun pl H' s' n' PA=>⟨by decide,fun q hq=>?_⟩⟩
    ·rw [l1,List.length_map];unfold Af;rw [List.length_cons,List.length_map];unfold Af at ls lt;omega
    ·obtain ⟨e,he,rfl⟩:=List.mem_map.mp hd;have:=(E.ow he).2.1;omega
    have sn:=lb (o:=.tup [.ref pl,.str ef.1.name,.str eb.1.name]) hq;have Lq:=(L13.same s').same sn;have sl1:=Lq.ql;have Sq:=(S11.same s' n').new hq (o:=.tup [.ref pl,.str ef.1.name,.str eb.1.name]);have onl:=Lq.rt1.no (sn _ _ (s' _ _ I11.o)) (by intro xs z;cases z);refine ⟨_,Lq.e1,Nat.lt_of_le_of_lt (show (qs.map V.ref).length ≤ 4 by rw [List.length_map];omega) (by decide),hD _ _ ⟨(((((s5.trans s6).trans (sG.trans I10.g.sg)).trans s11).trans s').trans sn).updN hlp,Sq.set Lq.e1 (fun _ _ z=>by cases z),by rw [qb onl];exact sn _ _ (s' _ _ I11.o),fun i b e hi he=>?_,⟨q,pl,Lq.pushL (by omega) db ⟨⟨PA.same sn,List.mem_map.mpr ⟨ef,List.mem_of_getElem? hef,rfl⟩,List.mem_map.mpr ⟨eb,List.mem_of_getElem? heb,rfl⟩⟩,hds,?_⟩⟩,rfl⟩⟩
    ·have hn:e.2 ≠ []:=fun z=>by have:=(E.ow (List.mem_of_getElem? he)).2.2.2.ln;rw [z] at this;simp at this
     exact ((((I10.a i b e hi he).same I11.sg).same s').same sn).rt Lq.rt1 hn (fun x u r z=>by cases z) (fun x xs z=>by cases z)
    ·intro z;have:=E.never;obtain ⟨d,r,e⟩:=List.exists_cons_of_ne_nil hds;have hm:=List.find?_eq_none.mp this d.name (by rw [e];simp);rw [show spE es=[] from z] at hm;exact hm rfl
   rintro σ14 H14 zzq;refine zP fun zzM zzh=>?_
   obtain ⟨s14,S14,o14,a14,⟨q14,pl,L14⟩,rfl⟩:=zzq;have lk:∀ {j:Nat} {e:WE},es[j]? = some e→∃ b,as[j]? = some b∧wo H14 op (.str e.1.name) (some (.ref b)):=fun {j e} he=>by
    have hj:j < as.length:=by rw [I10.l];exact (List.getElem?_eq_some_iff.mp he).1
    refine ⟨as[j],List.getElem?_eq_getElem hj,?_⟩;have:=wo.k (k:=Sum.inr e.1.name) o14;rw [Hq (E.nd N.2.1) (i:=j) (d:=e.1) (by unfold dsE;rw [List.getElem?_map,he];rfl) (List.getElem?_eq_getElem hj)] at this;exact this
   obtain ⟨bf,hbf,gf⟩:=lk hef;obtain ⟨bb,hbb,gb⟩:=lk heb;have nn:∀ {e:WE},e ∈ es→e.2 ≠ []:=fun {e} he z=>by have:=(E.ow he).2.2.2.ln;rw [z] at this;simp at this
   subst zzh;walk_at "RD";refine ⟨.inl ⟨_,SqL.of L14.e2⟩,_,gf,_,gb,by decide,fun r hr'=>?_⟩;have sn:=lb (o:=.tup [.ref bf,.ref bb]) hr';have Lr:=L14.same sn;have rl1:=Lr.rl;refine ⟨_,Lr.e2,Nat.lt_of_le_of_lt (show (rs.map V.ref).length ≤ 4 by rw [List.length_map];omega) (by decide),(s14.trans sn).updN hsl,(S14.new hr').set Lr.e2 (fun _ _ z=>by cases z),⟨_,_,_,_,Lr.pushS (by omega) (r:=r) (s:=(ef.2,eb.2)) ⟨⟨nn (List.mem_of_getElem? hef),nn (List.mem_of_getElem? heb)⟩,bf,bb,db,(a14 jf bf ef hbf hef).same sn,(a14 jb bb eb hbb heb).same sn⟩,by rw [List.length_append,hls];rfl,by rw [List.length_append,hps];rfl,fun j l s hl hs=>?_⟩,_,rfl⟩;rcases De hl with ⟨_,hl⟩ | ⟨hj,rfl⟩
   ·rcases De hs with ⟨_,hs⟩ | ⟨hj,_⟩
    ·exact hrel j l s hl hs
    ·have:=(List.getElem?_eq_some_iff.mp hl).1;omega
   ·rcases De hs with ⟨hj,_⟩ | ⟨_,rfl⟩
    ·omega
    ·exact ⟨xs,es,E,N.2.1,rfl,List.mem_of_getElem? hef,List.mem_of_getElem? heb⟩
  ·rintro σ H' zzq;refine zP fun zzM zzh=>?_
   obtain ⟨sx,S',⟨qs,rs,ls,pss,g1,g2,g3,g4⟩,x5,x6,x7,x8,x9,x10,x11,x12,x13,x14,x15,x16,x17,x18,x19,x20,rfl⟩:=zzq;subst zzh;exact hD _ _ ⟨sx,S',⟨qs,rs,ls,pss,g1,by rw [g2];omega,by rw [g3];omega,g4⟩,by exact ⟨_,_,_,_,_,_,_,_,_,_,_,_,_,_,_,_,rfl⟩⟩
 rintro σ5 H5 zzq;refine zP fun zzM zzh=>?_
 obtain ⟨s5,S5,⟨qs,rs,ls,pss,L5,hls,hps,hrel⟩,x5,x6,x7,x8,x9,x10,x11,x12,x13,x14,x15,x16,x17,x18,x19,x20,rfl⟩:=zzq;subst zzh;walk_at "RD";refine ⟨by decide,fun r hr'=>?_⟩;exact q r z lp sl qs rs ls pss _ (s5.trans (lb hr')) (S5.new hr') db (L5.same (lb hr')) hz1 (by omega) (by omega) hrel
end
end My
namespace My
open PySem L2
theorem pq.free {z:Nat} {ls:List LD} {pss:PSS} (hr:pq z ls pss) (hz:0 < z) {k:Nat} {l:LD} {s:List (Int × Int) × List (Int × Int)} (h1:ls[k]? = some l) (h2:pss[k]? = some s) (x:Int):Eg z l.sp l.d x=Hi s.1 z x:=by
 obtain ⟨xs,es,E,nd,e,m1,_⟩:=hr k l s h1 h2;rw [e];exact E.free nd hz m1 x
theorem pq.next {z:Nat} {ls:List LD} {pss:PSS} (hr:pq z ls pss) (hz:0 < z) {k:Nat} {l:LD} {s:List (Int × Int) × List (Int × Int)} (h1:ls[k]? = some l) (h2:pss[k]? = some s) (x:Int):∃ v,(gh z l.sp l.d.name)[(x % (z:Int)).toNat]? = some v∧Nx (Hi s.1 z) x v:=by
 obtain ⟨xs,es,E,nd,e,m1,_⟩:=hr k l s h1 h2;rw [e];exact E.until nd hz m1 x
theorem pq.fin {z:Nat} {ls:List LD} {pss:PSS} (hr:pq z ls pss) (hz:0 < z) (hl:pss.length=ls.length):FIn (frP z pss Prod.fst) (nxK z ls) ls.length:=fun k hk x=>by
 have h1:ls[k]? = some ls[k]:=List.getElem?_eq_getElem hk;have h2:pss[k]? = some (pss[k]'(by omega)):=List.getElem?_eq_getElem _;obtain ⟨v,hv,N⟩:=hr.next hz h1 h2 x;have e1:nxK z ls k x=x + v:=by
  unfold nxK nxF;rw [h1];show x + ((gh z ls[k].sp ls[k].d.name)[_]?).getD 0=_;rw [hv];rfl
 have e2:frP z pss Prod.fst k=Hi (pss[k]'(by omega)).1 z:=by
  funext y;unfold frP;rw [h2];rfl
 rw [e1,e2,show x + v - x=v by omega];exact N
theorem GL {z:Nat} {ls:List LD} {pss:PSS} (hr:pq z ls pss) (hz:0 < z) (hl:pss.length=ls.length) (fs sh:List Int):grF z ls fs sh ls.length=(ts0 z).filter (gA (frP z pss Prod.fst) (Iv fs sh) ls.length):=by
 unfold grF;refine List.filter_congr fun t _=>?_
 unfold gA;rw [Bool.eq_iff_iff,List.all_eq_true,List.all_eq_true];have key:∀ k,k ∈ List.range ls.length→frK z ls LD.d k (t + Iv fs sh k)=frP z pss Prod.fst k (t + Iv fs sh k):=fun k hk=>by
  have hk:=List.mem_range.mp hk;have h1:ls[k]? = some ls[k]:=List.getElem?_eq_getElem hk;have h2:pss[k]? = some (pss[k]'(by omega)):=List.getElem?_eq_getElem _;unfold frK frP;rw [h1,h2];exact hr.free hz h1 h2 _
 exact ⟨fun h k hk=>by rw [← key k hk];exact h k hk,fun h k hk=>by rw [key k hk];exact h k hk⟩
theorem Nk.copy {t:Adr} {H:Hp} {z:Nat} {p q:Addr} {ls:List LD} {qs:List Addr} (h:Nk t H z p ls) (e:H p=some (.lst (qs.map V.ref))) (e':H q=some (.lst (qs.map V.ref))):Nk t H z q ls:=by
 obtain ⟨⟨qs',l1,l2⟩,al⟩:=h;rw [e] at l1;have e1:=Option.some.inj l1;injection e1 with e1;have e2:qs=qs':=(List.map_inj_right (fun x y h=>by injection h)).mp e1;subst e2;exact ⟨⟨qs,e',l2⟩,al⟩
theorem XL:∀ n:Nat,(List.replicate n [V.int 0]).flatten=kc (List.replicate n 0)
 | 0=>rfl
 | n + 1=>by rw [List.replicate_succ,List.flatten_cons,XL n,List.replicate_succ];rfl
theorem JJ {K:PySem.W.Frag}:PySem.W.kitOne K (.type "list") (.type "list")=some true:=by
 unfold PySem.W.kitOne;rfl
theorem jG {K:PySem.W.Frag}:PySem.W.kitOne K (.type "int") (.type "bool")=some false:=by
 unfold PySem.W.kitOne;rfl
theorem uF (n:Nat):(List.range n).all (fun _=>true)=true:=List.all_eq_true.mpr fun _ _=>rfl
theorem HK {K:PySem.W.Frag} {H:Hp} {p q:Addr} {l l':List Int} (k:Nat) (h:H p=some (.lst (kc l))) (h':H q=some (.lst (kc l'))):EqH K H (k + 1) (.ref p) (.ref q) (decide (l=l')):=by
 have:=EqH.flats (k:=k) (SqL.of (K:=K) h) (SqL.of h') (fun x hx y hy=>by
  obtain ⟨i,_,rfl⟩:=List.mem_map.mp hx;obtain ⟨j,_,rfl⟩:=List.mem_map.mp hy
  rfl)
 rwa [show decide (kc l=kc l')=decide (l=l') from decide_eq_decide.mpr ⟨fun h=>(List.map_inj_right (fun x y h=>by injection h)).mp h,fun h=>by rw [h]⟩] at this
theorem NE {K:PySem.W.Frag} {H:Hp} {p q:Addr} {l:List Int} (k:Nat) (h:H p=some (.lst (kc l))) (h':H q=some (.lst (kc l))):EqH K H (k + 1) (.ref p) (.ref q) true:=by
 have:=HK (K:=K) k h h';rwa [decide_eq_true rfl] at this
section
variable {P:Program} {w:World} {K:PySem.W.Frag} {mg:Str→Option Value} {base:Heap} {t:Adr}
theorem MJ (T:Txt w K mg t):Lb P w K mg base CX0 10 t.dI t.zD q22 (XI K):=by
 refine T.zL.ok Ef (fun vs H Q E h=>?_) (fun _ _ _ s H vs Q E hr h=>?_)
 ·obtain ⟨a,ns,rfl,_⟩:=h;rfl
 obtain ⟨a,ns,rfl,S0,h63,q⟩:=h;have g0:Lb P w K mg base CX0 9 t.Hf t.Lf q21 (jd K a ns):=(Mw T a ns h63).mono (by decide);have g66:Lb P w K mg base CX0 9 t.Mi t.Ri q22 (Dy K t a ns):=ZE T a ns h63;have g25:Lb P w K mg base CX0 9 t.Lg t.Og q48 Wx:=(wF T).mono (by decide);have g21:Lb P w K mg base CX0 9 t.Xl t.am q34 (oG t):=(LJ T).mono (by decide);have g67:Lb P w K mg base CX0 9 t.vh t.Bh q33 (Xy t):=(CF T).mono (by decide);have hbig:∀ k:Nat,k ≤ 1000→k ≤ sizeLine:=fun k h=>Nat.le_trans h (by decide)
 have hU:=hr.units;refine ⟨_,(cb (Bb (i:=1) Ef.nd rfl (Or.inl rfl) (yb g66 hr rfl T.Zw T.Kl.kp T.Gw .nil Cb (ab (pv 0) fb)))
   (cb (Bb (i:=2) Ef.nd rfl (Or.inr rfl) (Yc lh (pv 1) ub (fun _ _=>rfl)))
   (cb (Bb (i:=3) Ef.nd rfl (Or.inl rfl) (Yc lh (pv 1) ub (fun _ _=>rfl)))
   (cb (Bb (i:=4) Ef.nd rfl (Or.inr rfl) (qk (bc mj (yb g0 hr rfl T.Sb T.Mb.kp T.Rb .nil Cb (ab (pv 0) (ab ub (ab ub fb)))) ub (qc _)) ub ub))
   (cb (Bb (i:=5) Ef.nd rfl (Or.inr rfl) (Jf rfl (Zc rfl T.Wd (ab (Gb Oe (Vb Fb rfl T.xg Ob (ab (pv 3) fb)) ub) fb)) (Qc (sc:=rb yB) rfl (by decide +kernel)) (N:=["_law_k","_law_script","_law_wide"]) (sel:=[none,some 0,some 4]) (ud (M:=q49) (by decide +kernel)) (Blk.of (fun _ _ _ _=>(xb (i:=0) (Bg (N:=["_law_k","_law_script","_law_wide"]) (by decide +kernel) rfl) rfl (Or.inl rfl))) (fun _ _ _ _=>⟨_,uf,by walk_at "B"⟩) (fun _ _ _ _=>⟨_,(yb g0 hr rfl T.Sb T.Mb.kp T.Rb .nil Cb (ab (pv 1) (ab (Gb zc ub (pv 0)) (ab (pv 2) fb)))),by walk_at "B"⟩))))
   (cb (oi (i:=6) Ef.nd rfl (Or.inl rfl) rfl (Zc rfl T.Wd (ab (Vb Fb rfl T.xg Ob (ab (pv 3) fb)) fb)) (Qc (sc:=rb yB) rfl (by decide +kernel)) (N:=["_law_k","_law_script","_law_size"]) (sel:=[none,some 0,some 2]) (ud (M:=q49) (by decide +kernel)) (Blk.of (fun _ _ _ _=>(xb (i:=0) (Bg (N:=["_law_k","_law_script","_law_size"]) (by decide +kernel) rfl) rfl (Or.inl rfl))) (fun _ _ _ _=>⟨_,uf,by walk_at "B"⟩) (fun _ _ _ _=>⟨_,(yb g0 hr rfl T.Sb T.Mb.kp T.Rb .nil Cb (ab (pv 1) (ab (Gb zc ub (pv 0)) (ab (pv 2) fb)))),by walk_at "B"⟩)) rfl)
   (cb (Bb (i:=7) Ef.nd rfl (Or.inl rfl) (qk (bc qA (Vb Fb rfl T.xg Ob (ab (pv 0) fb)) ub (qc _)) (Yc ic (pv 0) (Gb Le ub (Vb Fb rfl T.xg Ob (ab (pv 0) fb))) (fun _ _=>rfl)) ub))
   (cb (Bb (i:=8) Ef.nd rfl (Or.inl rfl) (qk (bc mj (yb g0 hr rfl T.Sb T.Mb.kp T.Rb .nil Cb (ab (pv 0) (ab ub (ab ub fb)))) ub (qc _)) (Gb Le (pv 7) (Gb mG ub ub)) (yb g0 hr rfl T.Sb T.Mb.kp T.Rb .nil Cb (ab (pv 0) (ab ub (ab ub fb))))))
   (cb (Bb (i:=9) Ef.nd rfl (Or.inl rfl) (Vb (lC rfl) rfl T.dJ Xz (ab (Gb mG ub ub) (ab (Gb zc (pv 8) (yb g0 hr rfl T.Sb T.Mb.kp T.Rb .nil Cb (ab (pv 0) (ab ub (ab ub fb))))) fb))))
   (cb (Bb (i:=10) Ef.nd rfl (Or.inl rfl) (se (ab (Cc Pc rfl T.ug Fc (ab (pv 3) fb)) (ab (Cc Pc rfl T.ug Fc (ab (pv 5) fb)) (ab (Cc Pc rfl T.ug Fc (ab (pv 6) fb)) fb)))))
   (cb (Bb (i:=11) Ef.nd rfl (Or.inl rfl) (yb g21 hr rfl T.Op T.sj.kp T.up .nil Cb (ab (Yc ic (pv 10) ub (fun _ _=>rfl)) (ab (Yc ic (pv 10) ub (fun _ _=>rfl)) (ab (Yc ic (pv 10) ub (fun _ _=>rfl)) (ab (pv 8) fb))))))
   (cb (Ye (PW.pt (Lw (Lp (Qk (Vb my rfl T.Rn xi (ab (pv 11) (ab (kD (v:=.ty "list") rfl T.ug Fc rfl) fb))))) (Ro (bc (eD hU) (pv 11) (yb g25 hr rfl T.gm T.Rg.kp T.Jm .nil Cb (ab (pv 2) (ab (Yc lh (pv 1) ub (fun _ _=>rfl)) (ab (pv 5) (ab (pv 6) (ab (pv 8) fb)))))) (qc _))))) (pb (Jb Yo)) Ec)
   (cb (Ye (PW.pt (Lw (bc BA (Vb Fb rfl T.xg Ob (ab (Yc ic (pv 10) ub (fun _ _=>rfl)) fb)) (Vb Fb rfl T.xg Ob (ab (pv 3) fb)) (qc _)) (Ro (bc (eD hU) (Si Xt (pv 10) (Pj ub) dn) (se (ab (pv 5) (ab (pv 6) fb))) (qc _))))) (pb (Jb Yo)) Ec)
   (cb (Bb (i:=12) Ef.nd rfl (Or.inl rfl) (yb g21 hr rfl T.Op T.sj.kp T.up .nil Cb (ab (Cc Pc rfl T.ug Fc (ab (pv 3) fb)) (ab (Cc Pc rfl T.ug Fc (ab (pv 5) fb)) (ab (Cc Pc rfl T.ug Fc (ab (pv 6) fb)) (ab (pv 9) fb))))))
   (cb (Ye (bc (eD hU) (pv 12) (yb g25 hr rfl T.gm T.Rg.kp T.Jm .nil Cb (ab (pv 2) (ab (Yc lh (pv 1) ub (fun _ _=>rfl)) (ab (pv 5) (ab (pv 6) (ab (pv 9) fb)))))) (qc _)) (pb (Jb Yo)) Ec)
   (cb (Dd PassesOwn.never rfl (Zc rfl T.Wd (ab (Vb Fb rfl T.xg Ob (ab (pv 3) fb)) fb)) (xb (i:=13) Ef.nd rfl (Or.inl rfl)) (pb (Ye (PW.pt (Lw (Qk (Vb my rfl T.Rn xi (ab (Yc ic (pv 11) (pv 13) (fun _ _=>rfl)) (ab (kD (v:=.ty "bool") rfl T.kJ Nw rfl) fb)))) (Ro (bc cn (Yc ic (pv 12) (pv 13) (fun _ _=>rfl)) (Yc ic (pv 11) (pv 13) (fun _ _=>rfl)) (qc _))))) (pb (Jb Yo)) Ec)))
   (cb (Bb (i:=14) Ef.nd rfl (Or.inl rfl) ub)
   (cb (Dd PassesOwn.never rfl (Zc rfl T.Wd (ab (pv 2) fb)) (xb (i:=15) Ef.nd rfl (Or.inr rfl)) (cb (Bb (i:=16) Ef.nd rfl (Or.inl rfl) (yb g21 hr rfl T.Op T.sj.kp T.up .nil Cb (ab (Cc Pc rfl T.ug Fc (ab (pv 3) fb)) (ab (Cc Pc rfl T.ug Fc (ab (pv 5) fb)) (ab (Cc Pc rfl T.ug Fc (ab (pv 6) fb)) (ab (pv 15) fb))))))
   (pb (Ye (bc (zK hU) (pv 16) (Jf rfl (Zc rfl T.Wd (ab (Vb Fb rfl T.xg Ob (ab (pv 3) fb)) fb)) (Qc (sc:=rb yB) rfl (by decide +kernel)) (N:=["_law_k","_law_begin","_law_forths"]) (sel:=[none,some 15,some 5]) (ud (M:=q49) (by decide +kernel)) (Blk.of (fun _ _ _ _=>(xb (i:=0) (Bg (N:=["_law_k","_law_begin","_law_forths"]) (by decide +kernel) rfl) rfl (Or.inl rfl))) (fun _ _ _ _=>⟨_,uf,by walk_at "B"⟩) (fun _ _ _ _=>⟨_,(Gb zc (pv 1) (Vb (aE rfl) rfl T.pL wz (ab (Si Xt (pv 2) dn (Pj (pv 0))) fb))),by walk_at "B"⟩))) (qc _)) (pb (Bb (i:=14) Ef.nd rfl (Or.inl rfl) (Gb zc (pv 14) ub))) Ec))))
   (pb (Jb (Ff mj (Yc lh (yb g67 hr rfl T.Iu T.Fj.kp T.Lv .nil Cb (ab (Cc Pc rfl T.ug Fc (ab (pv 3) fb)) (ab (Cc Pc rfl T.ug Fc (ab (pv 5) fb)) (ab (Gb gJ (se (ab ub fb)) (Vb Fb rfl T.xg Ob (ab (pv 5) fb))) (ab (Cc Pc rfl T.ug Fc (ab (pv 6) fb)) fb))))) ub (fun _ _=>rfl)) (pv 14) (qc _)))))))))))))))))))))),?_⟩
 refine zS (fun σ' H'=>Sc K a ns H'∧(∃ r z lp sl qs rs ls pss,H' r=some (.tup [.int (z:Nat),.ref lp,.ref sl])∧LS t H' z lp sl qs rs ls pss∧(4 ≤ z∧z ≤ 8)∧(1 ≤ ls.length∧ls.length ≤ 4)∧pss.length=ls.length∧pq z ls pss∧σ'=[some (.ref a),some (.ref r),none,none,none,none,none,none,none,none,none,none,none,none,none,none,none])) (fun D' hD=>?_) fun zzM zzh=>?_
 ·walk_at "RD";exact ⟨rfl,S0,fun r z lp sl qs rs ls pss H' s1 S1 e L hz hl hp hrl=>hD _ _ ⟨S1,r,z,lp,sl,qs,rs,ls,pss,e,L,hz,hl,hp,hrl,rfl⟩⟩
 rintro σ1 H1 ⟨S1,r,z,lp,sl,qs,rs,ls,pss,e1,L1,hz,hls,hps,hrel,rfl⟩;have hz0:0 < z:=by omega
 have hfin:=hrel.fin hz0 hps;have hun:∀ l ∈ ls,∀ x:Int,∃ v,(gh z l.sp l.d.name)[(x % (z:Int)).toNat]? = some v:=fun l hl x=>by
  obtain ⟨k,hk⟩:=List.getElem?_of_mem hl;have h2:pss[k]? = some (pss[k]'(by rw [hps];exact (List.getElem?_eq_some_iff.mp hk).1)):=List.getElem?_eq_getElem _;obtain ⟨v,hv,_⟩:=hrel.next hz0 hk h2 x;exact ⟨v,hv⟩
 subst zzh;refine zS (fun σ' H'=>H'=H1∧σ'=[some (.ref a),some (.ref r),some (.int (z:Nat)),none,none,none,none,none,none,none,none,none,none,none,none,none,none]) (fun D' hD=>?_) fun zzM zzh=>?_
 ·walk_at "RD";exact ⟨_,SqT.of e1,_,rfl,hD _ _ ⟨rfl,rfl⟩⟩
 rintro σ2 H2 ⟨rfl,rfl⟩;subst zzh;refine zS (fun σ' H'=>H'=H2∧σ'=[some (.ref a),some (.ref r),some (.int (z:Nat)),some (.ref lp),none,none,none,none,none,none,none,none,none,none,none,none,none]) (fun D' hD=>?_) fun zzM zzh=>?_
 ·walk_at "RD";exact ⟨_,SqT.of e1,_,rfl,hD _ _ ⟨rfl,rfl⟩⟩
 rintro σ3 H3 ⟨rfl,rfl⟩;obtain ⟨wd,hwd,hwd1⟩:∃ wd:Int,wd=(if zh ns 50 3=0 then 1000 else 21)∧(1 ≤ wd∧wd ≤ 1000):=⟨_,rfl,by split <;> omega,by split <;> omega⟩;subst zzh;refine zS (fun σ' H'=>H'=H3∧σ'=[some (.ref a),some (.ref r),some (.int (z:Nat)),some (.ref lp),some (.int wd),none,none,none,none,none,none,none,none,none,none,none,none]) (fun D' hD=>?_) fun zzM zzh=>?_
 ·(walk_at "RD"; repeat (simp only [jd];walk_at "RD"));refine ⟨S1,by omega,by omega,by decide,?_⟩;by_cases h:zh ns 50 3=0
  ·rw [if_pos (decide_eq_true h)];exact hD _ _ ⟨rfl,by rw [hwd,if_pos h]⟩
  ·rw [if_neg (by simpa using h)];exact hD _ _ ⟨rfl,by rw [hwd,if_neg h]⟩
 rintro σ4 H4 ⟨rfl,rfl⟩;obtain ⟨m,hm⟩:∃ m,ls.length=m + 1:=⟨ls.length - 1,by omega⟩;have hql:qs.length=m + 1:=by rw [L1.ql,hm]
 subst zzh;refine zS (fun σ' H'=>Nb H4 H'∧Sc K a ns H'∧∃ fp fs,H' fp=some (.lst (kc fs))∧fs.length=m∧(∀ x ∈ fs,0 ≤ x∧x ≤ 1000000000)∧σ'=[some (.ref a),some (.ref r),some (.int (z:Nat)),some (.ref lp),some (.int wd),some (.ref fp),none,none,none,none,none,none,none,none,none,none,none]) (fun D' hD=>?_) fun zzM zzh=>?_
 ·walk_at "RD";refine ⟨_,.inl (SqL.of L1.e1),?_⟩;rw [List.length_map,hql,show ((m + 1:Nat):Int) - 1=(m:Int) by omega];refine ⟨by omega,by omega,?_⟩;refine vd.range_map (n:=m) (fun (k:Nat)=>V.int (zh ns (51 + (k:Int)) wd)) (hbig _ (by omega)) (fun k N hk hN=>?_) (fun p hp=>?_)
  ·(walk_at "RD"; repeat (simp only [jd];walk_at "RD"));exact ⟨Sub.name,S1,by omega,by omega,by omega,hN⟩
  ·refine hD _ _ ⟨lb hp,S1.new hp,p,(List.range (m)).map fun (k:Nat)=>zh ns (51 + (k:Int)) wd,?_,by simp,fun x hx=>?_,rfl⟩
   ·rw [db];unfold kc;rw [List.map_map];rfl
   ·obtain ⟨k,_,rfl⟩:=List.mem_map.mp hx;have d1:=Ae ns (51 + (k:Int)) (m:=wd) (by omega);have d2:=we ns (51 + (k:Int)) (m:=wd) (by omega);omega
 rintro σ5 H5 ⟨s5,S5,fp,fs,hfp,hfl,hfi,rfl⟩;subst zzh;refine zS (fun σ' H'=>Nb H5 H'∧Sc K a ns H'∧∃ hp sh,H' hp=some (.lst (kc sh))∧sh.length=m + 1∧(∀ x ∈ sh,0 ≤ x∧x ≤ 1000000000)∧σ'=[some (.ref a),some (.ref r),some (.int (z:Nat)),some (.ref lp),some (.int wd),some (.ref fp),some (.ref hp),none,none,none,none,none,none,none,none,none,none]) (fun D' hD=>?_) fun zzM zzh=>?_
 ·walk_at "RD";refine ⟨_,.inl (SqL.of (s5 _ _ L1.e1)),?_⟩;rw [List.length_map,hql];refine ⟨by omega,by omega,?_⟩;refine vd.range_map (n:=m + 1) (fun (k:Nat)=>V.int (zh ns (61 + (k:Int)) z)) (hbig _ (by omega)) (fun k N hk hN=>?_) (fun p hp=>?_)
  ·(walk_at "RD"; repeat (simp only [jd];walk_at "RD"));exact ⟨Sub.name,S5,by omega,by omega,by omega,hN⟩
  ·refine hD _ _ ⟨lb hp,S5.new hp,p,(List.range (m + 1)).map fun (k:Nat)=>zh ns (61 + (k:Int)) z,?_,by simp,fun x hx=>?_,rfl⟩
   ·rw [db];unfold kc;rw [List.map_map];rfl
   ·obtain ⟨k,_,rfl⟩:=List.mem_map.mp hx;have d1:=Ae ns (61 + (k:Int)) (m:=z) (by omega);have d2:=we ns (61 + (k:Int)) (m:=z) (by omega);omega
 rintro σ6 H6 ⟨s6,S6,hp,sh,hhp,hhl,hhi,rfl⟩;have L6:=(L1.same s5).same s6;have e6:=s6 _ _ (s5 _ _ e1);have hf6:=s6 _ _ hfp;subst zzh;refine zS (fun σ' H'=>H'=H6∧∃ ce:Int,σ'=[some (.ref a),some (.ref r),some (.int (z:Nat)),some (.ref lp),some (.int wd),some (.ref fp),some (.ref hp),some (.int ce),none,none,none,none,none,none,none,none,none]) (fun D' hD=>?_) fun zzM zzh=>?_
 ·walk_at "RD";refine ⟨_,.inl S6.seq,?_⟩;rw [List.length_map];by_cases hns:0 < ns.length
  ·rw [if_pos (decide_eq_true (by omega))];refine ⟨_,.inl S6.seq,?_⟩;rw [List.length_map];have hlt:=Nat.mod_lt 2 hns;have hat:=wc (xs:=ns.map V.int) (j:=2 % ns.length) (by rw [List.getElem?_map,List.getElem?_eq_getElem hlt];rfl);rw [Int.natCast_emod] at hat;exact ⟨by omega,_,S6.seq,_,hat,hD _ _ ⟨rfl,_,rfl⟩⟩
  ·rw [if_neg (by rw [decide_eq_true_eq];omega)];exact hD _ _ ⟨rfl,_,rfl⟩
 rintro σ7 H7 ⟨rfl,ce,rfl⟩;subst zzh;refine zS (fun σ' H'=>H'=H7∧∃ tu:Int,tu < 10 ^ Int.toNat 59∧σ'=[some (.ref a),some (.ref r),some (.int (z:Nat)),some (.ref lp),some (.int wd),some (.ref fp),some (.ref hp),some (.int ce),some (.int tu),none,none,none,none,none,none,none,none]) (fun D' hD=>?_) fun zzM zzh=>?_
 ·(walk_at "RD"; repeat (simp only [jd];walk_at "RD"));refine ⟨S6,by omega,by omega,by decide,?_⟩;have hp0:(0:Int) < 10 ^ Int.toNat 59:=Int.pow_pos (by decide);by_cases h:zh ns 66 2=0
  ·rw [if_pos (decide_eq_true h)];exact ⟨⟨by decide,by decide,by decide⟩,hp0,hD _ _ ⟨rfl,_,Int.emod_lt_of_pos _ hp0,rfl⟩⟩
  ·rw [if_neg (by simpa using h)];exact ⟨S6,by omega,by omega,by decide,hD _ _ ⟨rfl,_,Int.lt_of_lt_of_le (we ns 67 (m:=300) (by decide)) (by decide),rfl⟩⟩
 rintro σ8 H8 ⟨rfl,tu,htu,rfl⟩;subst zzh;refine zS (fun σ' H'=>H'=H8∧∃ la:Int,tu ≤ la∧σ'=[some (.ref a),some (.ref r),some (.int (z:Nat)),some (.ref lp),some (.int wd),some (.ref fp),some (.ref hp),some (.int ce),some (.int tu),some (.int la),none,none,none,none,none,none,none]) (fun D' hD=>?_) fun zzM zzh=>?_
 ·(walk_at "RD"; repeat (simp only [jd];walk_at "RD"));have d1:=Ae ns 68 (m:=21) (by decide);refine ⟨⟨by decide,by decide,by decide⟩,S6,by omega,by omega,by decide,hD _ _ ⟨rfl,_,?_,rfl⟩⟩;generalize (10:Int) ^ Int.toNat 59=B at htu;split <;> omega
 rintro σ9 H9 ⟨rfl,la,hla,rfl⟩;have L9:=L6;have hf9:=hf6;have hh9:=hhp;subst zzh;refine zS (fun σ' H'=>Nb H9 H'∧Sc K a ns H'∧∃ ha h0 h1 h2,H' ha=some (.lst [.ref h0,.ref h1,.ref h2])∧H' h0=some (.lst (qs.map V.ref))∧H' h1=some (.lst (kc fs))∧H' h2=some (.lst (kc sh))∧σ'=[some (.ref a),some (.ref r),some (.int (z:Nat)),some (.ref lp),some (.int wd),some (.ref fp),some (.ref hp),some (.int ce),some (.int tu),some (.int la),some (.ref ha),none,none,none,none,none,none]) (fun D' hD=>?_) fun zzM zzh=>?_
 ·walk_at "RD";refine ⟨_,.inl (SqL.of L9.e1),fun h0 n0=>?_⟩;have t0:=lb (o:=.lst (qs.map V.ref)) n0;refine ⟨_,.inl (SqL.of (t0 _ _ hf9)),fun h1 n1=>?_⟩;have t1:=lb (o:=.lst (kc fs)) n1;refine ⟨_,.inl (SqL.of (t1 _ _ (t0 _ _ hh9))),fun h2 n2=>?_⟩;have t2:=lb (o:=.lst (kc sh)) n2;have t02:=(t0.trans t1).trans t2;have c0:=t2 _ _ (t1 _ _ (db (H:=H9) (a:=h0) (o:=.lst (qs.map V.ref))));have c1:=t2 _ _ (db (H:=upd H9 h0 (.lst (qs.map V.ref))) (a:=h1) (o:=.lst (kc fs)));have c2:=db (H:=upd (upd H9 h0 (.lst (qs.map V.ref))) h1 (.lst (kc fs))) (a:=h2) (o:=.lst (kc sh));refine ⟨by decide,fun ha n3=>?_⟩;have t3:=lb (o:=.lst [.ref h0,.ref h1,.ref h2]) n3;exact hD _ _ ⟨t02.trans t3,((((S6.new n0).new n1).new n2).new n3),ha,h0,h1,h2,db,t3 _ _ c0,t3 _ _ c1,t3 _ _ c2,rfl⟩
 rintro σ10 H10 ⟨s10,S10,ha,h0,h1,h2,eha,eh0,eh1,eh2,rfl⟩;have L10:=L9.same s10;have hf10:=s10 _ _ hf9;have hh10:=s10 _ _ hh9;have e10:=s10 _ _ e6;subst zzh;refine zS (fun σ' H'=>Nb H10 H'∧Sc K a ns H'∧∃ fo,H' fo=some (.lst (kc (thL (nxK z ls) fs sh tu (m + 1))))∧σ'=[some (.ref a),some (.ref r),some (.int (z:Nat)),some (.ref lp),some (.int wd),some (.ref fp),some (.ref hp),some (.int ce),some (.int tu),some (.int la),some (.ref ha),some (.ref fo),none,none,none,none,none]) (fun D' hD=>?_) fun zzM zzh=>?_
 ·walk_at "RD";refine ⟨_,SqL.of eha,_,rfl,_,SqL.of eha,_,rfl,_,SqL.of eha,_,rfl,h0,h1,h2,z,ls,fs,sh,tu,rfl,L10.line.copy L10.e1 eh0,eh1,eh2,by omega,by omega,by omega,hz0,hun,S10.nt,fun p H' s' n' _ e=>hD _ _ ⟨s',S10.same s' n',p,?_,rfl⟩⟩;rw [hm] at e;exact e
 rintro σ11 HA ⟨sA,SA,fo,hfo,rfl⟩;subst zzh;refine zS (fun σ' H'=>Nb HA H'∧Sc K a ns H'∧σ'=[some (.ref a),some (.ref r),some (.int (z:Nat)),some (.ref lp),some (.int wd),some (.ref fp),some (.ref hp),some (.int ce),some (.int tu),some (.int la),some (.ref ha),some (.ref fo),none,none,none,none,none]) (fun D' hD=>?_) fun zzM zzh=>?_
 ·refine zi (fun b H2=>b=false∧Nb HA H2∧Sc K a ns H2) (fun Q hQ=>?_) (fun H2 r=>absurd r.1 (by decide)) (fun H2 r=>?_)
  ·walk_at "RD";refine ⟨_,.lst hfo,true,JJ,?_⟩;rw [if_neg (by decide)];refine ⟨_,SqT.of (sA _ _ e10),_,rfl,sl,fp,hp,z,pss,fs,sh,tu,nxK z ls,rfl,(L10.same sA).sps,sA _ _ hf10,sA _ _ hh10,by omega,by omega,by omega,hz0,by rw [hps];exact hfin,SA.nt,fun p H' s' n' e=>?_⟩;rw [hps,hm] at e;exact ⟨p,rfl,_,NE 7 (s' _ _ hfo) e,hQ _ _ ⟨rfl,s',SA.same s' n'⟩⟩
  ·walk_at "RD";exact hD _ _ ⟨r.2.1,r.2.2,rfl⟩
 rintro σ12 HB ⟨sB,SB,rfl⟩;have sAB:=sA.trans sB;subst zzh;refine zS (fun σ' H'=>Nb HB H'∧Sc K a ns H'∧σ'=[some (.ref a),some (.ref r),some (.int (z:Nat)),some (.ref lp),some (.int wd),some (.ref fp),some (.ref hp),some (.int ce),some (.int tu),some (.int la),some (.ref ha),some (.ref fo),none,none,none,none,none]) (fun D' hD=>?_) fun zzM zzh=>?_
 ·refine zi (fun b H2=>b=false∧Nb HB H2∧Sc K a ns H2) (fun Q hQ=>?_) (fun H2 r=>absurd r.1 (by decide)) (fun H2 r=>?_)
  ·walk_at "RD";refine ⟨_,SqL.of (sAB _ _ eha),_,rfl,_,rfl,_,.inl (SqL.of (sAB _ _ eh0)),_,.inl (SqL.of (sAB _ _ L10.e1)),?_⟩;rw [if_neg (by simp)];refine ⟨_,SqL.of (sAB _ _ eha),fun p1 hp1=>?_⟩;have c1:Wy [V.ref h0,V.ref h1,V.ref h2] (some 1) none=[V.ref h1,V.ref h2]:=rfl;rw [c1];have y1:=lb (o:=.lst [V.ref h1,V.ref h2]) hp1;refine ⟨by decide,fun p2 hp2=>⟨true,?_,hQ _ _ ⟨rfl,y1.trans (lb hp2),(SB.new hp1).new hp2⟩⟩⟩;have y2:=lb (o:=.lst [V.ref fp,V.ref hp]) hp2;have y12:=(sAB.trans y1).trans y2;have:=EqH.lst (k:=7) (e:=fun _=>true) (SqL.of (K:=K) (y2 _ _ (db (H:=HB) (a:=p1) (o:=.lst [V.ref h1,V.ref h2])))) (SqL.of (show (upd (upd HB p1 (.lst [V.ref h1,V.ref h2])) p2 (.lst [V.ref fp,V.ref hp])) p2=some (.lst [V.ref fp,V.ref hp]) from db)) rfl (fun j x y g1 g2=>by
    match j,g1,g2 with
    | 0,g1,g2=>cases g1;cases g2;exact NE 6 (y12 _ _ eh1) (y12 _ _ hf10)
    | 1,g1,g2=>cases g1;cases g2;exact NE 6 (y12 _ _ eh2) (y12 _ _ hh10))
   rwa [uF] at this
  ·walk_at "RD";exact hD _ _ ⟨r.2.1,r.2.2,rfl⟩
 rintro σ13 HC ⟨sC',SC,rfl⟩;have sC:=sAB.trans sC';have LC:=L10.same sC;subst zzh;refine zS (fun σ' H'=>Nb HC H'∧Sc K a ns H'∧∃ be,H' be=some (.lst (kc (thL (nxK z ls) fs sh la (m + 1))))∧σ'=[some (.ref a),some (.ref r),some (.int (z:Nat)),some (.ref lp),some (.int wd),some (.ref fp),some (.ref hp),some (.int ce),some (.int tu),some (.int la),some (.ref ha),some (.ref fo),some (.ref be),none,none,none,none]) (fun D' hD=>?_) fun zzM zzh=>?_
 ·walk_at "RD";refine ⟨_,.inl (SqL.of LC.e1),fun h0 n0=>?_⟩;have t0:=lb (o:=.lst (qs.map V.ref)) n0;refine ⟨_,.inl (SqL.of (t0 _ _ (sC _ _ hf10))),fun h1 n1=>?_⟩;have t1:=lb (o:=.lst (kc fs)) n1;refine ⟨_,.inl (SqL.of (t1 _ _ (t0 _ _ (sC _ _ hh10)))),fun h2 n2=>?_⟩;have t2:=lb (o:=.lst (kc sh)) n2;have t02:=(t0.trans t1).trans t2;have c0:=t2 _ _ (t1 _ _ (db (H:=HC) (a:=h0) (o:=.lst (qs.map V.ref))));have c1:=t2 _ _ (db (H:=upd HC h0 (.lst (qs.map V.ref))) (a:=h1) (o:=.lst (kc fs)));have c2:=db (H:=upd (upd HC h0 (.lst (qs.map V.ref))) h1 (.lst (kc fs))) (a:=h2) (o:=.lst (kc sh));refine ⟨h0,h1,h2,z,ls,fs,sh,la,rfl,(LC.same t02).line.copy (t02 _ _ LC.e1) c0,c1,c2,by omega,by omega,by omega,hz0,hun,(((SC.new n0).new n1).new n2).nt,fun p H' s' n' _ e=>hD _ _ ⟨t02.trans s',(((SC.new n0).new n1).new n2).same s' n',p,?_,rfl⟩⟩;rw [hm] at e;exact e
 rintro σ14 HD ⟨sD,SD,be,hbe,rfl⟩;have hfoD:=sD _ _ (sC' _ _ (sB _ _ hfo));subst zzh;refine zS (fun σ' H'=>Nb HD H'∧Sc K a ns H'∧σ'=[some (.ref a),some (.ref r),some (.int (z:Nat)),some (.ref lp),some (.int wd),some (.ref fp),some (.ref hp),some (.int ce),some (.int tu),some (.int la),some (.ref ha),some (.ref fo),some (.ref be),none,none,none,none]) (fun D' hD=>?_) fun zzM zzh=>?_
 ·refine zi (fun b H2=>b=false∧Nb HD H2∧Sc K a ns H2) (fun Q hQ=>?_) (fun H2 r=>absurd r.1 (by decide)) (fun H2 r=>?_)
  ·have sCD:=sC.trans sD;walk_at "RD";refine ⟨_,SqT.of (sCD _ _ e10),_,rfl,sl,fp,hp,z,pss,fs,sh,la,nxK z ls,rfl,(L10.same sCD).sps,sCD _ _ hf10,sCD _ _ hh10,by omega,by omega,by omega,hz0,by rw [hps];exact hfin,SD.nt,fun p H' s' n' e=>?_⟩;rw [hps,hm] at e;exact ⟨p,rfl,_,NE 7 (s' _ _ hbe) e,hQ _ _ ⟨rfl,s',SD.same s' n'⟩⟩
  ·walk_at "RD";exact hD _ _ ⟨r.2.1,r.2.2,rfl⟩
 rintro σ15 HE ⟨sE,SE,rfl⟩;have sall:=(sC.trans sD).trans sE;have hf14:=sall _ _ hf10;have hh14:=sall _ _ hh10;have L14:=L10.same sall;have hfoE:=sE _ _ hfoD;have hbeE:=sE _ _ hbe;subst zzh;simp only [Db];refine Qb (fun σ' H'=>H'=HE∧∃ x13,σ'=[some (.ref a),some (.ref r),some (.int (z:Nat)),some (.ref lp),some (.int wd),some (.ref fp),some (.ref hp),some (.int ce),some (.int tu),some (.int la),some (.ref ha),some (.ref fo),some (.ref be),x13,none,none,none]) (fun D' hD hrt _ _=>?_) ?_
 ·walk_at "RD";refine ⟨_,.inl (SqL.of L14.e1),?_⟩;rw [List.length_map,hql];refine ⟨by omega,by omega,?_⟩;refine Fh.range (n:=m + 1) (fun i σ H'=>H'=HE∧∃ x13,σ=[some (.ref a),some (.ref r),some (.int (z:Nat)),some (.ref lp),some (.int wd),some (.ref fp),some (.ref hp),some (.int ce),some (.int tu),some (.int la),some (.ref ha),some (.ref fo),some (.ref be),x13,none,none,none]) ⟨rfl,_,rfl⟩ ?_ ?_
  ·rintro i σ H' hi ⟨rfl,x13,rfl⟩;have mono:=ay hfin fs sh hla (i + 1) (by omega);simp only [Mg,List.set_cons_succ,List.set_cons_zero,Int.zero_add];refine Wc false (fun Q hQ=>?_) (fun c=>nomatch c) (fun _=>?_)
   ·walk_at "RD";refine ⟨_,SqL.of hfoE,_,wc (Kg (GA hi)),_,.int _,false,jG,?_⟩;rw [if_neg (by decide)];refine ⟨_,SqL.of hbeE,_,wc (Kg (GA hi)),_,SqL.of hfoE,_,wc (Kg (GA hi)),_,rfl,_,rfl,?_⟩;rw [decide_eq_false (by omega)];exact hQ
   ·walk_at "RD";exact ⟨_,rfl⟩
  ·rintro σ H' ⟨rfl,x13,rfl⟩;exact hD _ _ ⟨rfl,_,rfl⟩
 rintro σ16 HF ⟨rfl,x13,rfl⟩;simp only [Db];refine zzC (fun σ' H'=>H'=HF∧σ'=[some (.ref a),some (.ref r),some (.int (z:Nat)),some (.ref lp),some (.int wd),some (.ref fp),some (.ref hp),some (.int ce),some (.int tu),some (.int la),some (.ref ha),some (.ref fo),some (.ref be),x13,some (.int 0),none,none]) (fun D' hD=>?_) fun zzM zzh=>?_
 ·walk_at "RD";exact hD _ _ ⟨rfl,rfl⟩
 rintro σ17 HG ⟨rfl,rfl⟩;subst zzh;simp only [Db];refine zzC (fun σ' H'=>Nb HG H'∧Sc K a ns H'∧∃ x15 x16,σ'=[some (.ref a),some (.ref r),some (.int (z:Nat)),some (.ref lp),some (.int wd),some (.ref fp),some (.ref hp),some (.int ce),some (.int tu),some (.int la),some (.ref ha),some (.ref fo),some (.ref be),x13,some (.int (((ts0 z).filter (gA (frP z pss Prod.fst) (Iv fs sh) (m + 1))).length:Nat)),x15,x16]) (fun D' hD=>?_) fun zzM zzh=>?_
 ·walk_at "RD";refine ⟨by omega,by omega,?_⟩;refine Fh.range (fun i σ H'=>Nb HG H'∧Sc K a ns H'∧∃ x15 x16,σ=[some (.ref a),some (.ref r),some (.int (z:Nat)),some (.ref lp),some (.int wd),some (.ref fp),some (.ref hp),some (.int ce),some (.int tu),some (.int la),some (.ref ha),some (.ref fo),some (.ref be),x13,some (.int (((ts0 i).filter (gA (frP z pss Prod.fst) (Iv fs sh) (m + 1))).length:Nat)),x15,x16]) ⟨Nb.refl _,SE,_,_,rfl⟩ ?_ ?_
  ·rintro i σ HA' hi zzq;refine zP fun zzM zzh=>?_
   obtain ⟨sA,SA',x15,x16,rfl⟩:=zzq;subst zzh;simp only [Mg,Db,List.set_cons_succ,List.set_cons_zero,Int.zero_add];refine zzC (fun σ' H'=>Nb HG H'∧Sc K a ns H'∧∃ pp,H' pp=some (.lst (kc (thL (nxK z ls) fs sh i (m + 1))))∧σ'=[some (.ref a),some (.ref r),some (.int (z:Nat)),some (.ref lp),some (.int wd),some (.ref fp),some (.ref hp),some (.int ce),some (.int tu),some (.int la),some (.ref ha),some (.ref fo),some (.ref be),x13,some (.int (((ts0 i).filter (gA (frP z pss Prod.fst) (Iv fs sh) (m + 1))).length:Nat)),some (.int (i:Nat)),some (.ref pp)]) (fun D' hD=>?_) fun zzM zzh=>?_
   ·have LA:=L14.same sA;walk_at "RD";refine ⟨_,.inl (SqL.of LA.e1),fun h0 n0=>?_⟩;have t0:=lb (o:=.lst (qs.map V.ref)) n0;refine ⟨_,.inl (SqL.of (t0 _ _ (sA _ _ hf14))),fun h1 n1=>?_⟩;have t1:=lb (o:=.lst (kc fs)) n1;refine ⟨_,.inl (SqL.of (t1 _ _ (t0 _ _ (sA _ _ hh14)))),fun h2 n2=>?_⟩;have t2:=lb (o:=.lst (kc sh)) n2;have t02:=(t0.trans t1).trans t2;have c0:=t2 _ _ (t1 _ _ (db (H:=HA') (a:=h0) (o:=.lst (qs.map V.ref))));have c1:=t2 _ _ (db (H:=upd HA' h0 (.lst (qs.map V.ref))) (a:=h1) (o:=.lst (kc fs)));have c2:=db (H:=upd (upd HA' h0 (.lst (qs.map V.ref))) h1 (.lst (kc fs))) (a:=h2) (o:=.lst (kc sh));refine ⟨h0,h1,h2,z,ls,fs,sh,i,rfl,(LA.same t02).line.copy (t02 _ _ LA.e1) c0,c1,c2,by omega,by omega,by omega,hz0,hun,(((SA'.new n0).new n1).new n2).nt,fun p H' s' n' _ e=>hD _ _ ⟨(sA.trans t02).trans s',(((SA'.new n0).new n1).new n2).same s' n',p,?_,rfl⟩⟩;rw [hm] at e;exact e
   rintro σ18 HH ⟨sH,SH,pp,hpp,rfl⟩;subst zzh;dsimp only;refine zi (fun b H2=>b=gA (frP z pss Prod.fst) (Iv fs sh) (m + 1) i∧Nb HG H2∧Sc K a ns H2) (fun Q hQ=>?_) (fun H2 r=>?_) (fun H2 r=>?_)
   ·walk_at "RD";refine ⟨_,.inl (SqL.of (sH _ _ L14.e1)),?_⟩;rw [List.length_map,hql];refine ⟨by omega,by omega,?_⟩;refine vd.range (n:=m + 1) (fun k ys H2=>Nb HH H2∧Sc K a ns H2∧ys=kc ((List.range k).map fun (k:Nat)=>(i:Int) + (fs.take k).sum)) (hbig _ (by omega)) ⟨Nb.refl _,SH,rfl⟩ ?_ ?_ ?_
    ·rintro k ys H2 hk ⟨_,_,rfl⟩;rw [ye,List.length_map,List.length_range];exact Nat.le_refl _
    ·rintro k ys H2 hk ⟨s2,S2,rfl⟩ N hN;have hf2:=s2 _ _ (sH _ _ hf14);walk_at "RD";refine ⟨Sub.name,_,SqL.of hf2,fun p3 hp3=>?_⟩;have s3:=lb (o:=.lst (Wy (kc fs) none (some (k:Int)))) hp3;have ec:Wy (kc fs) none (some (k:Int))=List.map V.int (fs.take k):=by
      rw [xJ (by rw [ye];omega)];unfold kc;rw [List.map_take]
     refine ⟨fs.take k,by rw [← ec];exact SqL.of db,fun x hx=>hfi x (List.mem_of_mem_take hx),by rw [List.length_take];omega,hN _ _ ⟨s2.trans s3,S2.new hp3,?_⟩⟩;rw [List.range_succ,List.map_append];unfold kc;rw [List.map_append];rfl
    ·rintro ys H2 ⟨s2,S2,rfl⟩ p3 hp3;have s3:=lb (o:=.lst (kc ((List.range (m + 1)).map fun (k:Nat)=>(i:Int) + (fs.take k).sum))) hp3;refine ⟨p3,rfl,_,HK 7 (s3 _ _ (s2 _ _ hpp)) db,hQ _ _ ⟨?_,(sH.trans s2).trans s3,S2.new hp3⟩⟩;rw [Bool.eq_iff_iff,decide_eq_true_eq];exact DF (n:=m + 1) (by rw [← hm];exact hfin) (by omega) i
   ·obtain ⟨r1,r2,r3⟩:=r;have ec:=Yx (gA (frP z pss Prod.fst) (Iv fs sh) (m + 1)) i;rw [← r1,if_pos rfl] at ec;walk_at "RD";exact ⟨r2,r3,ec.symm,_,rfl⟩
   ·obtain ⟨r1,r2,r3⟩:=r;have ec:=Yx (gA (frP z pss Prod.fst) (Iv fs sh) (m + 1)) i;rw [← r1,if_neg (by decide)] at ec;walk_at "RD";exact ⟨r2,r3,by omega,_,rfl⟩
  ·rintro σ H' zzq;refine zP fun zzM zzh=>?_
   obtain ⟨s',S',x15,x16,rfl⟩:=zzq;subst zzh;rw [Int.toNat_natCast];exact hD _ _ ⟨s',S',_,_,rfl⟩
 rintro σ19 HI ⟨sI,SI,x15,x16,rfl⟩;have LI:=L14.same sI;have hfI:=sI _ _ hf14;have hhI:=sI _ _ hh14;subst zzh;walk_at "RD";refine ⟨_,.inl (SqL.of LI.e1),fun h0 n0=>?_⟩;have t0:=lb (o:=.lst (qs.map V.ref)) n0;refine ⟨_,.inl (SqL.of (t0 _ _ hfI)),fun h1 n1=>?_⟩;have t1:=lb (o:=.lst (kc fs)) n1;refine ⟨by decide,fun pz n2=>?_⟩;have t2:=lb (o:=.lst [V.int 0]) n2;have t02:=(t0.trans t1).trans t2;refine ⟨_,.inl (SqL.of (t02 _ _ hfI)),_,db,?_⟩;rw [ye,hfl,Int.toNat_natCast,XL];refine ⟨by omega,by omega,hbig _ (by show 1 * m ≤ 1000;omega),fun h2 n3=>?_⟩;have t3:=lb (o:=.lst (kc (List.replicate m 0))) n3;have t03:=t02.trans t3;refine ⟨_,.inl (SqL.of (t03 _ _ hhI)),fun h3 n4=>?_⟩;have t4:=lb (o:=.lst (kc sh)) n4;have t04:=t03.trans t4;refine ⟨h0,h1,h2,h3,z,ls,fs,List.replicate m 0,sh,rfl,⟨(LI.same t04).line.copy (t04 _ _ LI.e1) (t4 _ _ (t3 _ _ (t2 _ _ (t1 _ _ db)))),t4 _ _ (t3 _ _ (t2 _ _ db)),t4 _ _ db,by omega,by rw [List.length_replicate];omega,by omega,by omega⟩,db,by omega,(((((SI.new n0).new n1).new n2).new n3).new n4).nt,fun p H' s' n' e=>?_⟩;rw [GL hrel hz0 hps,hm] at e;refine ⟨_,rfl,_,SqT.of e,_,rfl,rfl,?_⟩;rw [decide_eq_true rfl];exact q _
end
end My
structure PySem.W.Fast:Prop where(tw1619621929790755031 tw14712295010633340136 tw6458557591126921734 tw12634730596136304406 tw7714924681380212023 tw14914462203913399690 tw1763785691226679941 tw11036471862762357898 tw15271343553669942807 tw17854141717505713832 tw9420239079153936376 tw16579452914266933009 tw17997767346047484871 tw593545602030749051 tw8617181516585950200 tw3252077488890165504 tw4997553534471736560 tw15750865832079317447 tw10260995193217413724 tw17585217233299301532 tw11849623259578804940 tw1489707672459803306 tw4523411881537175768 tw11841183542586402896 tw4586549475527182128 tw16397725006434107698 tw9795683966758893011 tw17302556748153436114 tw9506926613914796161 tw5170826535592980333 tw1785475969603053443 tw8729240424652444656 tw1805512799072179455 tw4572545498455278131 tw17855547156388308970 tw11934580941175101102 tw9097774839305062947 tw4731423074603446693 tw6883811341298284587 tw9027901650775211725 tw6297016464146599237 tw14656993322296821630 tw15590121562916522338 tw7550080546173117765 tw3519119092589424771 tw10171535837753500170 tw10722495045385292969 tw16297682080799008046 tw6747986113565926736 tw16064376627925988984 tw13960841644510608791 tw6077023890084469711 tw16539562721724524517 tw13664000439057991275 tw7152927881308739119 tw7765581016763754510 tw14229584140384022652 tw7914940418315247480 tw5830116283049219853 tw3273560085045835521 tw14291430932840427069 tw979146269027817069 tw12851150494815233590 tw5365150580704250051 tw2069779949299659398 tw17713760730560668086 tw3151170406926902863 tw3703435760251895710 tw3242389012485368298 tw5389077447334131606 tw14391775766388743019 tw10484795602746262529 tw3726958506898299452 tw13807037304715225094 tw17498387596871042653 tw1321556103478841336 tw10447554501120398155 tw6057149515331812723 tw7769441029646113316 tw4587767031255955498 tw17727663159852672257 tw8413763455532959430 tw15432816260928777985 tw11034926973454607604 tw385572864759357415 tw3692581472300479535 tw1855496996412918149 tw13374989546349915964 tw2780199610823954358 tw6225976556147429004 tw14888095045169037670 tw14535739183648620198 tw9011049657298246397 tw13918260354185048125 tw6238574730354739035 tw9494211986654773216 tw3914162724649451522 tw113282160093644221 tw17456227302581707573 tw3567785243694420059 tw9217422791345897477 tw5488634369491651949 tw14465579355095390498 tw6194413164038164608 tw3803791889796330276 tw7790507828389322022 tw8429062189638670464 tw10409006789153132405 tw3010990524508166662 tw6624176536600109091 tw7737122651457069313 tw3207467959136726251 tw14766534625447451196 tw3772124548240557925 tw13123231295487404852 tw17096657576886191042 tw10312480068104637384 tw14652932237343463181 tw9925909368847298858 tw6413426587889609100 tw18096256064921197498 tw17445515461123551348 tw6934858578909833153 tw18035156349974422347 tw3467193583163488649 tw16655368183879318362 tw10830142512932103194 tw10453644053735914668 tw2809794699639838313 tw4440508090103432872 tw7915019485810831608 tw2377128126941280620 tw9267166872086522501 tw12409670161732478521 tw14349097414646907919 tw2155620562068136940 tw13480535706435246253 tw4586711018086553365 tw70062341146608384 tw12502427353561319225 tw16150031248671655179 tw5208463148569356372 tw15753087115960942424 tw5641576197063762224 tw14475983618640820352 tw914420647903690434 tw2976249684141454531 tw4573975364838328643 tw2330312770565150200 tw16994387969194380657 tw8472087406550729177 tw16835037108091996706 tw10333450271285129803 tw12319710352641535227 tw16976142361139240516 tw4226537015442711389 tw11659076818565426583 tw1597713756445990434 tw5965022643167484495 tw39285250770201082 tw14109638692395464073 tw9818299889605573413 tw6482868174406195281 tw14877211805554779320 tw1351071295962384333 tw14320701867597289195 tw5055097190214928735 tw3141264574140872093 tw2469543768665606718 tw15613046032959140954 tw13917994236179726545 tw8899055577121122848 tw5798308524596612992 tw18215351206110731487 tw13526993043410900474 tw9317824257619385024 tw9302508639497905349 tw2549675016825457301 tw15470271975287067931 tw3203696122962549943 tw2397786531809166898 tw5818824688612951025 tw17988739580954361706 tw13034687257054066388 tw187510104889799887 tw2968564151740581022 tw3209517811125926779 tw8172002529166667807 tw7808617608333400150 tw2500594236003663171 tw1236135018251526385 tw7207956495730570602 tw10560078067806635630 tw8055388869694810201 tw1904419596244426851 tw4154362176170086958 tw9776974117143350264 tw4570263123598968592 tw2220305539044866267 tw2812937325607729476 tw3962266339305989644 tw719832447156733847 tw6692485159294563662 tw10316057485500592884 tw393973353392165820 tw10119127508507565977 tw5566709482718045681 tw17154149002504663057 tw15268550116711419386 tw4440478080305437164 tw1467298805810875084 tw10847171599227314195 tw17892037153519699828 tw9178783326156446903 tw11899846033485305974 tw7397281437848503434 tw6610561635765046784 tw8143966089928194395 tw15763313679062091940 tw3360815507739968292 tw11031030002437644809 tw18017541746065664381 tw15110232539177214671 tw11595269369781159462 tw16923158472418781657 tw16635449166399840093 tw5532082242651471068 tw2110251145299754957 tw8737795755664120438 tw10073756027419982244 tw17705627072696644211 tw16069446556996591197 tw13203277534621404105 tw15529459232767350088 tw620142432592564337 tw14721359652170278456 tw18107857463565307636 tw14479661947994467663 tw8146166056459937915 tw12826540584958321290 tw18132114089436723059 tw18097332639888859032 tw8885372527231808180 tw10012746553822320226 tw18237353755982909335 tw5591963690325727706 tw3894236619433488944 tw17087867797750367974 tw12858952814502284553 tw2827246109936209398 tw17339130573933907167 tw9621413902635946012 tw5093419953523965756 tw3223395513460940309 tw1552294324028126216 tw18222395309139052805 tw17128196191951368923 tw7854813030752038811 tw2409440715854675876 tw17460295438129344881 tw3581271171384775674 tw11712497234283504657 tw16258152567718460089 tw2585142221629270914 tw3408283120332315826 tw3128462822889118760 tw1219655292434913398 tw5034862914746404105 tw14826019990553924317 tw7954497061424894211 tw11776855995842365551 tw12026305200713584703 tw12365948417327122501 tw16923797938049569379 tw14492557059278082217 tw2598381270087073531 tw16628246363317871057 tw2283721398181033862 tw6736925999346219054 tw9314409116980289269 tw2094961366983379486 tw15033456748261118411 tw15727052971601586749 tw516539568995483202 tw11636107279250198504 tw18174787841131880737 tw1434840438601736426 tw12880130029684573626 tw8951632261666879536 tw8622447080979429590 tw13827142197083024360 tw2429515899360750061 tw9627353500459588571 tw3011210451198680636 tw1666668551429241942 tw15018103521298581481 tw7420277022005162404 tw8745465694963052095 tw11980117652950296495 tw14171333791119640484 tw12498978183051938421 tw4096666205399970731 tw17332890786993921201 tw11813927984055180770 tw5765493830659941465 tw16118716466147975809 tw16204950199928786342 tw5776786069930932999 tw5478646517868772583 tw12986076405137292520 tw8470799458015588930 tw8421343669196531609 tw13133537734090370847 tw3494489391436410919 tw4113878688615941676 tw12080752333095019486 tw2275377556484021739 tw10922709915573063677 tw15600659271005812838 tw10789954641688012149 tw4245112295468831640 tw13291857131171850589 tw5108749826720007402 tw9300636330222194220 tw15097455231257881634 tw5011958193140354780 tw13863406485986251842 tw3340730071866604429 tw6810451338166009265 tw10898106270149527115 tw2260169968250842648 tw2229074390914822274 tw18362944630929669688 tw4557164901334831475 tw18199393766159327219 tw8191281940809562559 tw14345746042071333484 tw8014042597076846218 tw11499285893413757546 tw15740104682425475200 tw15268322045439981229 tw1277816002165255858 tw15822488240193810772 tw10136387460141856515 tw18128045504814243112 tw16247870032091740102 tw7872190498520317872 tw2427654392417993193 tw130791759108939277 tw11905244554178416645 tw17130681459669141354 tw6130269424668656884 tw11564930437788938846 tw17067344737041733736 tw7351417828832799077 tw18445153382091747228 tw10215209755097458312 tw7738432305556057575 tw6169880084867382957 tw16883014662436424487 tw8174141132686661117 tw16464106401908611096 tw16690761099642609972 tw9244520079023909192 tw7127062730847572152 tw7751115629117532301 tw866180944159516996 tw11793053867670145555 tw2666106352349308890 tw8812322264420581387 tw210497016624767967 tw3130532708014338262 tw8106178860975662726 tw18418709094600183766 tw17034860668726044971 tw13223521713636392939 tw9662891899614359418 tw308186979037905099 tw5794755555694487820 tw11585952637339094517 tw8834944892321310913 tw8121690164692010931 tw3980776024793751879 tw7607342573138616762 tw2867193802661042516 tw1437174757507902716 tw7088859354671320732 tw4127270240013940011 tw15900097600894468495 tw17296616568480111444 tw2396629159314194859 tw5140272827468501775 tw8948274181755646739 tw6504793378499119310 tw3162052426401591281 tw13547920245275853649 tw7696976891269247728 tw9896970140354727378 tw12825040053346638324 tw3265845141435458415 tw5360985315380108708 tw7835188764039954823 tw7031061880963227141 tw2659294001935508899 tw14759463178381638321 tw4883193258451259646 tw8052686844483558485 tw17569015294278170468 tw1490260123842628408 tw16918071700537289466 tw1173741529576241646 tw13921164340023322816 tw17991203420642005625 tw6252983028344536791 tw5209451779656829319 tw3454752038674969348 tw6793674611155422108 tw580631638575528520 tw15966827782630275566 tw8210278161407167950 tw13516798369888858979 tw6108812703658277672 tw17425109189540439137 tw10772293052374996584 tw2445152835456869443 tw8097105549559790197 tw3020584380108401922 tw17886003451429392082 tw2493000366329239389 tw16548773214334479501 tw6742305119514386684 tw7363144053866570835 tw18131811978874165576 tw8458441559694901894 tw15066196259991045617 tw532115239796824549 tw16394282518436461889 tw13967864053204137053 tw5502858203262085343 tw2893928820902104510 tw15936168300967255628 tw15568144415928612310 tw2303680938210346885 tw13450365611624082888 tw4444514828393622914 tw13062773294410821767 tw5319516522531060460 tw14504456311380535770 tw10038730526686207631 tw3774044817595019616 tw2940403399280568194 tw11776366771115371282 tw15998363810205016650 tw4696608797879771045 tw9484658471780352615 tw1014565452830509040 tw13780246093431386283 tw14500873664591972509 tw5047785808813194900 tw6048432643925962909 tw1409568644291465916 tw12703507997968659508 tw10099861070965909809 tw4023947590129097923 tw8307884996361503103 tw14865047061003201719 tw4780264094184788763 tw14667461773807335142 tw10089561886230021291 tw14814415838310811623 tw6194577830375982222 tw16740075832465614315 tw11186817582044004886 tw8220395707659251456 tw7955211944440316155 tw11611747097107571995 tw1383317733661278124 tw3984141588996073278 tw16304981960288979524 tw5354061501566434061 tw8833716272904488711 tw6902040290724373285 tw806593640026158705 tw14038696872180621459 tw5994259768714349251 tw8960899858761805875 tw10305057656955254769 tw10474313210591150844 tw5063349687401310366 tw13084858890274674703 tw11775262013942604308:True)
open PySem PySem.W PyProof.Rows
set_option maxRecDepth 100000 in
set_option maxHeartbeats 0 in
theorem PySem.Challenge.cw_lampway_k71_through_a_line_holds : PySem.Challenge.rw_lampway_k71_through_a_line.Holds := by
 w_on;o_law;k_head;(case hw=>w_witness2)
 k_fill
 refine L2.kE (l:=PySem.Challenge.rw_lampway_k71_through_a_line) (n:=63) (k:=10) (x := "_law_script") (CX:=L2.CX0) (sp:=L2.XI) rfl (by decide) rfl ⟨rfl,by decide,by decide⟩ (fun w h Y=>PySem.W.kIn_of Y) ?F ?S ?C
 case F=>
  intro w mg fa h KX G hmg;have T:∃ t,My.Txt w (L2.KOf KX) mg t:=by
   dsimp only [L2.KOf];refine' ⟨My.Adr.mk,⟨?maa,?Fab,?mac,?Fad,?mae,?Faf,?mag,?Fah,?mai,?Faj,?mak,?Fal,?mam,?Fan,?mao,?Fap,?maq,?Far,?mas,?Fat,?mau,?Fav,?maw,?Fax,?may,?Faz,?mba,?Fbb,?mbc,?Fbd,?mbe,?Fbf,?mbg,?Fbh,?mbi,?Fbj,?mbk,?Fbl,?mbm,?Fbn,?mbo,?Fbp,?mbq,?Fbr,?mbs,?Fbt,?mbu,?Fbv,?mbw,?Fbx,?mby,?Fbz,?mca,?Fcb,?mcc,?Fcd,?mce,?Fcf,?mcg,?Fch,?mci,?Fcj,?mck,?Fcl,?mcm,?Fcn,?mco,?Fcp,?mcq,?Fcr,?mcs,?Fct,?mcu,?Fcv,?mcw,?Fcx,?mcy,?Fcz,?mda,?Fdb,?mdc,?Fdd,?mde,?Fdf,?mdg,?Fdh,?mdi,?Fdj,?mdk,?Fdl,?mdm,?Fdn,?mdo,?edp,?Fdq,?edr,?Fds,?edt,?Fdu,?edv,?Fdw,?edx,?Fdy,?edz,?Fea,?eeb,?Fec,?med,?eee,?Fef,?meg,?eeh,?Fei,?eej,?Fek,?eel,?Fem,?men,?eeo,?Fep,?eeq,?Fer,?ees,?Fet,?meu,?eev,?Few,?eex,?Fey,?eez,?Ffa,?mfb,?efc,?Ffd,?efe,?Fff,?efg,?Ffh,?efi,?Ffj,?mfk,?efl,?Ffm,?sfn,?sfo,?sfp,?sfq,?sfr,?sfs,?sft,?sfu,?nfv,?nfw,?nfx,?sfy,?nfz,?nga,?ngb,?ngc,?ngd,?nge,?ngf,?sgg,?sgh,?sgi,?sgj,?ngk,?ngl,?ngm,?ngn,?ngo,?ngp,?ngq,?sgr,?sgs,?sgt,?sgu,?ngv,?ngw,?ngx,?ngy,?ngz,?nha,?nhb,?shc,?shd,?she,?shf,?nhg,?nhh,?nhi,?nhj,?nhk,?nhl,?nhm,?shn,?sho,?shp,?shq,?shr,?nhs,?nht,?nhu,?shv,?shw,?nhx,?nhy,?nhz,?nia,?nib,?dic,?did,?die,?dif,?dig,?dih,?sii,?mij,?vik,?mil,?vim,?min,?vio,?mip,?viq,?mir,?vis,?mit,?viu,?miv,?viw,?mix,?viy,?miz,?vja,?mjb,?vjc,?mjd,?vje,?mjf,?vjg,?bjh,?bji,?bjj,?bjk,?bjl,?bjm,?bjn,?bjo,?bjp,?bjq,?bjr,?bjs,?bjt,?bju,?ljv⟩⟩
   case maa | mac | mae | mag | mai | mak | mam | mao | maq | mas | mau | maw | may | mba | mbc | mbe | mbg | mbi | mbk | mbm | mbo | mbq | mbs | mbu | mbw | mby | mca | mcc | mce | mcg | mci | mck | mcm | mco | mcq | mcs | mcu | mcw | mcy | mda | mdc | mde | mdg | mdi | mdk | mdm | mdo | med | meg | men | meu | mfb | mfk | mij | mil | min | mip | mir | mit | miv | mix | miz | mjb | mjd | mjf=>(try dsimp only);refine' PySem.W.mg_of KX G ?z;case z=>k_is
   case edp | edr | edt | edv | edx | edz | eeb | eee | eeh | eej | eel | eeo | eeq | ees | eev | eex | eez | efc | efe | efg | efi | efl=>(try dsimp only);k_is
   case sfn | sfo | sfp | sfq | sfr | sfs | sft | sfu | sfy | sgg | sgh | sgi | sgj | sgr | sgs | sgt | sgu | shc | shd | she | shf | shn | sho | shp | shq | shr | shv | shw | sii=>(try dsimp only);constructor <;> k_is
   case Fab | Fad | Faf | Fah | Faj | Fal | Fan | Fap | Far | Fat | Fav | Fax | Faz | Fbb | Fbd | Fbf | Fbh | Fbj | Fbl | Fbn | Fbp | Fbr | Fbt | Fbv | Fbx | Fbz | Fcb | Fcd | Fcf | Fch | Fcj | Fcl | Fcn | Fcp | Fcr | Fct | Fcv | Fcx | Fcz | Fdb | Fdd | Fdf | Fdh | Fdj | Fdl | Fdn | Fdq | Fds | Fdu | Fdw | Fdy | Fea | Fec | Fef | Fei | Fek | Fem | Fep | Fer | Fet | Few | Fey | Ffa | Ffd | Fff | Ffh | Ffj | Ffm=>(try dsimp only);refine' L2.XJ ?x ?y ?z;(case x=>k_is);(case y=>k_is);(case z=>k_is)
   case nfv | nfw | nfx | nfz | nga | ngb | ngc | ngd | nge | ngf | ngk | ngl | ngm | ngn | ngo | ngp | ngq | ngv | ngw | ngx | ngy | ngz | nha | nhb | nhg | nhh | nhi | nhj | nhk | nhl | nhm | nhs | nht | nhu | nhx | nhy | nhz | nia | nib=>(try dsimp only);unfold L2.dc;k_is
   case dic | did | die | dif | dig | dih=>(try dsimp only);decide
   case vik | vim | vio | viq | vis | viu | viw | viy | vja | vjc | vje | vjg=>(try dsimp only);exact ⟨_,rfl⟩
   case bjh | bji | bjj | bjk | bjl | bjm | bjn | bjo | bjp | bjq | bjr | bjs | bjt | bju=>(try dsimp only);refine' PySem.W.mg_none_of KX G ?z;case z=>k_is
   case ljv=>(try dsimp only);exact fun _ _=>.of_eq rfl
  obtain ⟨t,T⟩:=T;have e0:=hmg.symm.trans T.kL;cases e0;exact ⟨t.zD,T.bJ,fun base kb nb=>My.MJ T⟩
 case S=>exact fun K H a ns hl hO hS=>⟨a,ns,rfl,L2.Sc.of_only hO hS,hl,fun _=>rfl⟩
 case C=>exact fun _ _ _ _ z=>z
