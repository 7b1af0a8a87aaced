import PyProof.Rows.All
import Wide.All
import OpenK.AllK
import Wide.FinOn
import Lean
import PyProof.EqAt
import PyProof.EqKinds
import PyProof.TupleCall
import KE.KTryMore
import PyProof.NsDelKeeps
import PySem.Challenge.RW_lampway_k18_refusals_apart
set_option Elab.async false
set_option linter.all false
set_option maxRecDepth 100000
namespace L2
open PySem PySem.Spec PyProof.Rows
noncomputable abbrev Key:=Sum Int Str
noncomputable def pA:Key→Value→Bool
 | .inl k,v=>Value.isInt k v
 | .inr x,v=>Value.isStrOf x v
noncomputable def aQ (w:World):Key→Int
 | .inl k=>hashInt k
 | .inr x=>hashStr w x
theorem Od:∀ {k:Key} {v:Value},pA k v=true→(∃ i t,k=Sum.inl i∧v=Value.int i t)∨(∃ x t,k=Sum.inr x∧v=Value.str x t)
 | .inl i,v,h=>by
  obtain ⟨t,e⟩:=Value.isInt_shape (k:=i) (v:=v) h
  exact .inl ⟨i,t,rfl,e⟩
 | .inr x,v,h=>by
  obtain ⟨t,e⟩:=Value.isStrOf_shape (x:=x) (v:=v) h
  exact .inr ⟨x,t,rfl,e⟩
theorem uB (i:Int) (t:Tok):pA (.inl i) (.int i t)=true:=by simp [pA,Value.isInt]
theorem cE (x:Str) (t:Tok):pA (.inr x) (.str x t)=true:=by simp [pA,Value.isStrOf]
theorem mL (a b:Int):decide ((Sum.inl a:Key)=Sum.inl b)=(a == b):=by
 by_cases e:a=b
 ·subst e;simp
 ·have h:¬ (Sum.inl a:Key)=Sum.inl b:=fun q=>e (Sum.inl.inj q)
  rw [decide_eq_false h]
  exact (beq_eq_false_iff_ne.mpr e).symm
theorem iN (a b:Str):decide ((Sum.inr a:Key)=Sum.inr b)=decide (a=b):=by
 by_cases e:a=b
 ·subst e;simp
 ·have h:¬ (Sum.inr a:Key)=Sum.inr b:=fun q=>e (Sum.inr.inj q)
  rw [decide_eq_false h,decide_eq_false e]
theorem sM (a:Int) (b:Str):decide ((Sum.inl a:Key)=Sum.inr b)=false:=decide_eq_false (fun q=>nomatch q)
theorem nM (a:Str) (b:Int):decide ((Sum.inr a:Key)=Sum.inl b)=false:=decide_eq_false (fun q=>nomatch q)
noncomputable def Ve (prog:Program) (w:World):PySem.KeyKind prog w Key where
 is:=pA
 hash:=aQ w
 inj:=fun v a b ha hb=>by
  rcases Od ha with ⟨i,t,rfl,rfl⟩ | ⟨x,t,rfl,rfl⟩
  ·rcases Od hb with ⟨j,u,rfl,e⟩ | ⟨y,u,rfl,e⟩
   ·injection e with e1 _;rw [e1]
   ·exact nomatch e
  ·rcases Od hb with ⟨j,u,rfl,e⟩ | ⟨y,u,rfl,e⟩
   ·exact nomatch e
   ·injection e with e1 _;rw [e1]
 byValue:=fun k v h=>by
  rcases Od h with ⟨i,t,rfl,rfl⟩ | ⟨x,t,rfl,rfl⟩ <;> rfl
 pyHash:=fun hv h=>by
  rcases Od hv with ⟨i,t,rfl,rfl⟩ | ⟨x,t,rfl,rfl⟩
  ·exact wpAny_pyHash_int h
  ·exact wpAny_pyHash_str h
 eqBool:=fun hu hv h=>by
  rcases Od hu with ⟨i,t,rfl,rfl⟩ | ⟨x,t,rfl,rfl⟩
  ·rcases Od hv with ⟨j,u,rfl,rfl⟩ | ⟨y,u,rfl,rfl⟩
   ·rw [mL] at h;exact wpAny_eqBool_int h
   ·rw [sM] at h;exact SeqAt.EqAt.int_str i t y u _ _ _ _ h
  ·rcases Od hv with ⟨j,u,rfl,rfl⟩ | ⟨y,u,rfl,rfl⟩
   ·rw [nM] at h;exact SeqAt.EqAt.str_int x t j u _ _ _ _ h
   ·rw [iN] at h;exact wpAny_eqBool_str h
 «strs»:=fun k x t v h=>by
  rcases Od h with ⟨i,u,rfl,e⟩ | ⟨y,u,rfl,e⟩
  ·exact nomatch e
  ·injection e with e1 _
   subst e1
   cases v <;> rfl
theorem Uw (prog:Program) (w:World) (i:Int) (t:Tok):(Ve prog w).is (.inl i) (.int i t)=true:=uB i t
theorem gx (prog:Program) (w:World) (x:Str) (t:Tok):(Ve prog w).is (.inr x) (.str x t)=true:=cE x t
end L2
namespace L2
open PySem PySem.Spec PyProof.Rows
inductive V where
 | non | bl (b:Bool) | int (i:Int) | str (x:Str) | byt (b:Array UInt8) | flt (b:UInt64) | ref (a:Addr) | ty (n:String)
 deriving DecidableEq
noncomputable def Ed:V→Value→Prop
 | .non,u=>u=Value.none
 | .bl b,u=>u=Value.bool b
 | .int i,u=>∃ t,u=Value.int i t
 | .str x,u=>∃ t,u=Value.str x t
 | .byt b,u=>∃ t,u=Value.bytes b t
 | .flt b,u=>∃ t,u=Value.float b t
 | .ref a,u=>u=Value.ref a
 | .ty n,u=>u=Value.type n
noncomputable abbrev Uc:List V→List Value→Prop:=Paired Ed
theorem Uc.length {xs:List V} {us:List Value} (r:Uc xs us):xs.length=us.length:=Paired.length r
theorem Uc.get:∀ {xs:List V} {us:List Value} {i:Nat} {x:V},Uc xs us→xs[i]? = some x→∃ u,us[i]? = some u∧Ed x u
 | _,_,_,_,.nil,e=>by simp at e
 | _,_,0,_,.cons r _,e=>by simp at e;subst e;exact ⟨_,rfl,r⟩
 | _,_,i + 1,x,.cons _ t,e=>by
  obtain ⟨u,h1,h2⟩:=Uc.get (i:=i) (x:=x) t (by simpa using e)
  exact ⟨u,by simpa using h1,h2⟩
theorem Uc.set {x:V} {u:Value} (r:Ed x u):∀ {xs:List V} {us:List Value} (i:Nat),Uc xs us→Uc (xs.set i x) (us.set i u)
 | _,_,_,.nil=>.nil
 | _,_,0,.cons _ t=>.cons r t
 | _,_,i + 1,.cons q t=>.cons q (Uc.set r i t)
theorem Uc.append:∀ {xs ys:List V} {us ws:List Value},Uc xs us→Uc ys ws→Uc (xs ++ ys) (us ++ ws)
 | _,_,_,_,.nil,s=>s
 | _,_,_,_,.cons r t,s=>.cons r (Uc.append t s)
theorem Uc.take:∀ {xs:List V} {us:List Value} (n:Nat),Uc xs us→Uc (xs.take n) (us.take n)
 | _,_,0,_=>.nil
 | _,_,_ + 1,.nil=>.nil
 | _,_,n + 1,.cons r t=>.cons r (Uc.take n t)
theorem Uc.drop:∀ {xs:List V} {us:List Value} (n:Nat),Uc xs us→Uc (xs.drop n) (us.drop n)
 | _,_,0,r=>r
 | _,_,_ + 1,.nil=>.nil
 | _,_,n + 1,.cons _ t=>Uc.drop n t
theorem Uc.none_of:∀ {xs:List V} {us:List Value} {i:Nat},Uc xs us→xs[i]? = none→us[i]? = none:=fun {xs us i} r e=>by
 have h1:=r.length
 have h2:xs.length ≤ i:=List.getElem?_eq_none_iff.mp e
 exact List.getElem?_eq_none_iff.mpr (by omega)
noncomputable def Ar:Option V→Option Value→Prop
 | some v,some u=>Ed v u
 | none,none=>True
 | _,_=>False
noncomputable def KV {κ:Type}:List (κ × V)→List (κ × Value)→Prop:=Paired fun (p:κ × V) (q:κ × Value)=>p.1=q.1∧Ed p.2 q.2
noncomputable def kV:Key→V
 | .inl i=>.int i
 | .inr x=>.str x
inductive HO where
  | lst (xs:List V)
  | tup (xs:List V)
  | dK (kvs:List (Key × V)) | dT (kvs:List (List Key × V))
  | set (S:Int→Bool) (n:Nat)
  | ins (C dx:Addr) (fs:List (Str × V))
  | own (x:Addr)
  | xd (fs:List (Str × V))
  | met (f x:Addr)
  | rng (lo hi:Int)
  | frz (o:Obj) (u:HO)
  | tbl (ps:Array Value)
  | ext (φ:Heap→Prop)
noncomputable abbrev Hp:=Addr→Option HO
noncomputable def upd (H:Hp) (a:Addr) (o:HO):Hp:=fun b=>if b=a then some o else H b
theorem cb {H:Hp} {a:Addr} {o:HO}:upd H a o a=some o:=by unfold upd;rw [if_pos rfl]
theorem lb {H:Hp} {a b:Addr} {o:HO} (h:b ≠ a):upd H a o b=H b:=by unfold upd;rw [if_neg h]
theorem ui {H:Hp} {a:Addr} {o u:HO}:upd (upd H a o) a u=upd H a u:=by
 funext b;unfold upd;split <;> rfl
theorem Bg {H:Hp} {a b:Addr} {o u:HO} (h:H a=some o) (h':H b=some u) (d:o ≠ u):a ≠ b:=by
 intro e;subst e;rw [h] at h';exact d (Option.some.inj h')
theorem qb {H:Hp} {a b:Addr} {o:HO} (h:H a=some o) (h':H b=none):a ≠ b:=by
 intro e;subst e;rw [h] at h';cases h'
section
variable (P:Program) (w:World)
noncomputable def Ad (H:Hp) (h:Heap) (a:Addr):HO→Prop
 | .lst xs=>xs.length ≤ sizeLine∧∃ (its:List Value) (n:Nat),Uc xs its∧h.get? a=some { cls:=.type "list",data:=.seq its.toArray n }
 | .tup xs=>xs.length ≤ sizeLine∧∃ its:List Value,Uc xs its∧IsTup h a its.toArray
 | .dK kvs=>kvs.length ≤ sizeLine∧(a == sysModules)=false∧∃ vs,KV kvs vs∧h.DictOf (Ve P w) a vs
 | .dT kvs=>kvs.length ≤ sizeLine∧(a == sysModules)=false∧∃ xs:List (List Key × Addr × Value),
   Paired (fun (p:List Key × V) (q:List Key × Addr × Value)=>p.1=q.1∧H q.2.1=some (.tup (p.1.map kV))∧Ed p.2 q.2.2) kvs xs ∧
   ∃ o es ep,h.get? a=some o∧o.ExactDict∧o.data=.dict es ep∧es.toList=xs.map (entryOfKey (tupleKind (Ve P w)))∧(xs.map (·.1)).Nodup
 | .set S n=>h.SetOf (intKind P w) a S n
 | .ins C dx fs=>H dx=some (.own a)∧fs.length ≤ 1000∧dx ≠ a∧h.get? a=some (PySem.W.instObj C dx) ∧
   ∃ mA,h.Ns1 dx mA∧(∀ f,Ar (fs.lookup f) (mA f))∧PySem.Within mA (fs.map (·.1))
 | .own _=>∃ o,h.get? a=some o
 | .xd fs=>∃ mA,h.Ns1 a mA∧∀ f,Ar (fs.lookup f) (mA f)
 | .rng lo hi=>∃ t u v,h.get? a=some { cls:=.type "range",data:=.fields #[.int lo t,.int hi u,.int 1 v] }
 | .frz o u=>h.get? a=some o∧Ad H h a u
 | .tbl ps=>h.get? a=some { cls:=.none,data:=.fields ps }
 | .met f x=>h.get? a=some (PySem.W.methodObj (.ref f) (.ref x))
 | .ext φ=>φ h∧(∃ o,h.get? a=some o)∧∀ h1 h2:Heap,φ h1→(∀ o,h1.get? a=some o→h2.get? a=some o)→φ h2
noncomputable def HOk (H:Hp) (h:Heap):Prop:=∀ a o,H a=some o→Ad P w H h a o
end
section
variable {P:Program} {w:World} {H H':Hp} {h h':Heap} {a:Addr} {o:HO}
theorem Ad.lt (x:Ad P w H h a o):a < h.objs.size:=by
 cases o with
 | lst xs=>obtain ⟨_,_,_,_,e⟩:=x;exact Heap.lt_size e
 | tup xs=>obtain ⟨_,_,_,p⟩:=x;exact p.lt
 | dK kvs=>obtain ⟨_,_,_,_,o,_,_,e,_⟩:=x;exact Heap.lt_size e
 | dT kvs=>obtain ⟨_,_,_,_,o,_,_,e,_⟩:=x;exact Heap.lt_size e
 | set S n=>obtain ⟨o,_,_,_,e,_⟩:=x;exact Heap.lt_size e
 | ins C dx fs=>obtain ⟨_,_,_,e,_⟩:=x;exact Heap.lt_size e
 | own y=>obtain ⟨_,e⟩:=x;exact Heap.lt_size e
 | xd fs=>obtain ⟨_,⟨_,_,_,e,_⟩,_⟩:=x;exact Heap.lt_size e
 | rng lo hi=>obtain ⟨_,_,_,e⟩:=x;exact Heap.lt_size e
 | frz ob u=>obtain ⟨e,_⟩:=x;exact Heap.lt_size e
 | tbl ps=>exact Heap.lt_size (show h.get? a=some _ from x)
 | met f y=>exact Heap.lt_size (show h.get? a=some _ from x)
 | ext φ=>obtain ⟨_,⟨_,e⟩,_⟩:=x;exact Heap.lt_size e
theorem Paired.mapP {α β:Type} {F G:α→β→Prop}:∀ {l₁:List α} {l₂:List β},Paired F l₁ l₂→(∀ a b,F a b→G a b)→Paired G l₁ l₂
 | _,_,.nil,_=>.nil
 | _,_,.cons r t,f=>.cons (f _ _ r) (Paired.mapP t f)
theorem Ad.stay (x:Ad P w H h a o) (k:∀ b u,(b=a∨H b=some (.own a))→h.get? b=some u→h'.get? b=some u)
  (ho:∀ b,H b=some (.own a)→H' b=some (.own a)) (ht:∀ b xs,H b=some (.tup xs)→H' b=some (.tup xs)):Ad P w H' h' a o:=by
 induction o with
 | lst xs=>obtain ⟨z,its,n,r,e⟩:=x;exact ⟨z,its,n,r,k _ _ (.inl rfl) e⟩
 | tup xs=>obtain ⟨z,its,r,ob,e,c⟩:=x;exact ⟨z,its,r,ob,k _ _ (.inl rfl) e,c⟩
 | dK kvs=>obtain ⟨z,y,vs,r,ob,es,ep,e,c⟩:=x;exact ⟨z,y,vs,r,ob,es,ep,k _ _ (.inl rfl) e,c⟩
 | dT kvs=>
  obtain ⟨z,y,xs,r,ob,es,ep,e,c⟩:=x
  exact ⟨z,y,xs,Paired.mapP r fun p q z=>⟨z.1,ht _ _ z.2.1,z.2.2⟩,ob,es,ep,k _ _ (.inl rfl) e,c⟩
 | set S n=>obtain ⟨ob,es,ep,t,e,c⟩:=x;exact ⟨ob,es,ep,t,k _ _ (.inl rfl) e,c⟩
 | ins C dx fs=>
  obtain ⟨d,z,ne,e,mA,⟨od,es,ep,e2,c⟩,r⟩:=x
  exact ⟨ho _ d,z,ne,k _ _ (.inl rfl) e,mA,⟨od,es,ep,k _ _ (.inr d) e2,c⟩,r⟩
 | own y=>obtain ⟨ob,e⟩:=x;exact ⟨ob,k _ _ (.inl rfl) e⟩
 | xd fs=>obtain ⟨mA,⟨od,es,ep,e,c⟩,r⟩:=x;exact ⟨mA,⟨od,es,ep,k _ _ (.inl rfl) e,c⟩,r⟩
 | rng lo hi=>obtain ⟨t,u,v,e⟩:=x;exact ⟨t,u,v,k _ _ (.inl rfl) e⟩
 | frz ob u ih=>obtain ⟨e,q⟩:=x;exact ⟨k _ _ (.inl rfl) e,ih q⟩
 | tbl ps=>
  have e:h.get? a=some { cls:=.none,data:=.fields ps }:=x
  show h'.get? a=some { cls:=.none,data:=.fields ps }
  exact k a _ (.inl rfl) e
 | met f y=>
  have e:h.get? a=some (PySem.W.methodObj (.ref f) (.ref y)):=x
  show h'.get? a=some (PySem.W.methodObj (.ref f) (.ref y))
  exact k a _ (.inl rfl) e
 | ext φ=>obtain ⟨p,⟨o,e⟩,st⟩:=x;exact ⟨st _ _ p fun o q=>k _ _ (.inl rfl) q,⟨o,k _ _ (.inl rfl) e⟩,st⟩
theorem HOk.lt (x:HOk P w H h) (e:H a=some o):a < h.objs.size:=(x a o e).lt
theorem HOk.fresh (x:HOk P w H h) (e:h.objs.size ≤ a):H a=none:=by
 cases q:H a with
 | none=>rfl
 | some u=>exact absurd (Nat.lt_of_lt_of_le (x.lt q) e) (Nat.lt_irrefl _)
theorem HOk.kept (x:HOk P w H h) (k:∀ b u,h.get? b=some u→h'.get? b=some u):HOk P w H h':=fun a o e=>
 (x a o e).stay (fun b u _ q=>k b u q) (fun _ q=>q) fun _ _ q=>q
theorem HOk.laid (x:HOk P w H h) (k:∀ b u,h.get? b=some u→h'.get? b=some u) (hp:h.objs.size ≤ a) (new:Ad P w (upd H a o) h' a o):HOk P w (upd H a o) h':=fun b u e=>by
 have hn:=x.fresh hp
 by_cases hb:b=a
 ·subst hb;rw [cb] at e;cases e;exact new
 ·rw [lb hb] at e
  exact (x b u e).stay (fun c v _ q=>k c v q) (fun c q=>by rw [lb (qb q hn)];exact q) fun c xs q=>by rw [lb (qb q hn)];exact q
end
noncomputable def Rd (H:Hp) (a:Addr) (u:HO):Prop:=H a=some u∨∃ o,H a=some (.frz o u)
theorem Rd.of {H:Hp} {a:Addr} {u:HO} (h:H a=some u):Rd H a u:=.inl h
theorem Rd.ok {P:Program} {w:World} {H:Hp} {h:Heap} {a:Addr} {u:HO} (r:Rd H a u) (x:HOk P w H h):Ad P w H h a u:=by
 rcases r with r | ⟨o,r⟩
 ·exact x a u r
 ·obtain ⟨_,q⟩:=x a _ r
  exact q
noncomputable def Mut:Option HO→Prop
 | some (.lst _)=>True
 | some (.dK _)=>True
 | some (.dT _)=>True
 | some (.set _ _)=>True
 | some (.ins _ _ _)=>True
 | some (.ext _)=>True
 | _=>False
section
variable {P:Program} {w:World} {H:Hp} {h h':Heap} {x e:Addr} {o':HO}
theorem HOk.write (ok:HOk P w H h) (mu:Mut (H x)) (he:e=x∨H e=some (.own x)) (k:∀ b u,b ≠ e→h.get? b=some u→h'.get? b=some u) (heo:∃ u,h'.get? e=some u)
  (new:Ad P w (upd H x o') h' x o'):HOk P w (upd H x o') h':=fun b u q=>by
 have nown:∀ c y,H c=some (.own y)→c ≠ x:=fun c y r z=>by subst z;rw [r] at mu;exact mu
 have ntup:∀ c xs,H c=some (.tup xs)→c ≠ x:=fun c xs r z=>by subst z;rw [r] at mu;exact mu
 by_cases hb:b=x
 ·subst hb;rw [cb] at q;cases q;exact new
 ·rw [lb hb] at q
  by_cases hbe:b=e
  ·have q':H b=some (.own x):=by
    rcases he with z | z
    ·exact absurd (hbe.trans z) hb
    ·rw [hbe];exact z
   rw [q] at q';cases q'
   obtain ⟨v,hv⟩:=heo
   exact ⟨v,by rw [hbe];exact hv⟩
  ·refine (ok b u q).stay (fun c v hc r=>k c v ?_ r) (fun c r=>by rw [lb (nown c b r)];exact r) fun c xs r=>by rw [lb (ntup c xs r)];exact r
   rcases hc with rfl | hc
   ·exact hbe
   ·rintro rfl
    rcases he with z | z
    ·exact nown c b hc z
    ·rw [hc] at z;cases z;exact hb rfl
end
structure Un (fs ex:List Addr) (H H':Hp) (h h':Heap):Prop where
 keep:∀ b o,h.get? b=some o→H b=none→b ∉ fs→b ∉ ex→h'.get? b=some o
 slot:∀ b o,h.get? b=some o→H b=none→b ∈ fs→b ∉ ex→∃ sl,h'.get? b=some { o with slots:=sl }
 free:∀ b o,h.get? b=some o→H b=none→b ∉ ex→H' b=none
 there:∀ b o,h.get? b=some o→b ∉ ex→∃ o',h'.get? b=some o'
 tups:∀ b xs,H b=some (.tup xs)→H' b=some (.tup xs)
 frzs:∀ b o u,H b=some (.frz o u)→H' b=some (.frz o u)
 tbls:∀ b ps,H b=some (.tbl ps)→∃ more,H' b=some (.tbl (ps ++ more))
section
variable {fs fs' ex ex':List Addr} {H H1 H2:Hp} {h h1 h2 h':Heap} {a x e:Addr} {o:HO}
theorem Un.any (u:Un fs ex H H1 h h1) {b:Addr} {ob:Obj} (q:h.get? b=some ob) (n:H b=none) (hx:b ∉ ex):∃ sl,h1.get? b=some { ob with slots:=sl }:=by
 by_cases hb:b ∈ fs
 ·exact u.slot b ob q n hb hx
 ·exact ⟨ob.slots,u.keep b ob q n hb hx⟩
theorem Un.trans (a:Un fs ex H H1 h h1) (b:Un fs ex H1 H2 h1 h2):Un fs ex H H2 h h2 where
 keep:=fun c ob q n hc hx=>b.keep c ob (a.keep c ob q n hc hx) (a.free c ob q n hx) hc hx
 slot:=fun c ob q n hc hx=>by
  obtain ⟨sl,e1⟩:=a.slot c ob q n hc hx
  obtain ⟨sl',e2⟩:=b.slot c _ e1 (a.free c ob q n hx) hc hx
  exact ⟨sl',e2⟩
 free:=fun c ob q n hx=>by
  obtain ⟨o',e1⟩:=a.there c ob q hx
  exact b.free c o' e1 (a.free c ob q n hx) hx
 there:=fun c ob q hx=>by
  obtain ⟨o',e1⟩:=a.there c ob q hx
  exact b.there c o' e1 hx
 tups:=fun c xs q=>b.tups c xs (a.tups c xs q)
 frzs:=fun c ob xs q=>b.frzs c ob xs (a.frzs c ob xs q)
 tbls:=fun c ps q=>by
  obtain ⟨m1,e1⟩:=a.tbls c ps q
  obtain ⟨m2,e2⟩:=b.tbls c _ e1
  exact ⟨m1 ++ m2,by rw [e2,Array.append_assoc]⟩
theorem Un.kept (k:∀ b u,h.get? b=some u→h'.get? b=some u):Un fs ex H H h h':=
 ⟨fun b ob q _ _ _=>k b ob q,fun b ob q _ _ _=>⟨ob.slots,k b ob q⟩,fun _ _ _ n _=>n,fun b ob q _=>⟨ob,k b ob q⟩,fun _ _ q=>q,fun _ _ _ q=>q,fun _ ps q=>⟨#[],by rw [q];simp⟩⟩
theorem Un.refl:Un fs ex H H h h:=Un.kept fun _ _ q=>q
theorem Un.laid (k:∀ b u,h.get? b=some u→h'.get? b=some u) (hp:h.objs.size ≤ a) (hn:H a=none):Un fs ex H (upd H a o) h h' where
 keep:=fun b u q _ _ _=>k b u q
 slot:=fun b u q _ _ _=>⟨u.slots,k b u q⟩
 free:=fun b u q n _=>by rw [lb (Nat.ne_of_lt (Nat.lt_of_lt_of_le (Heap.lt_size q) hp))];exact n
 there:=fun b u q _=>⟨u,k b u q⟩
 tups:=fun b xs q=>by rw [lb (qb q hn)];exact q
 frzs:=fun b u xs q=>by rw [lb (qb q hn)];exact q
 tbls:=fun b ps q=>⟨#[],by rw [lb (qb q hn),q];simp⟩
theorem Un.write (mu:Mut (H x)) (he:e=x∨H e=some (.own x)) (k:∀ b u,b ≠ e→h.get? b=some u→h'.get? b=some u) (heo:∃ u,h'.get? e=some u):Un fs ex H (upd H x o) h h':=by
 have hx:∀ b,H b=none→b ≠ x:=fun b n z=>by subst z;rw [n] at mu;exact mu
 have hb:∀ b,H b=none→b ≠ e:=fun b n z=>by
  subst z
  rcases he with r | r
  ·exact hx b n r
  ·rw [n] at r;cases r
 have hm:∀ b u,H b=some u→¬ Mut (some u)→b ≠ x:=fun b u q nm z=>by subst z;rw [q] at mu;exact nm mu
 refine ⟨fun b u q n _ _=>k b u (hb b n) q,fun b u q n _ _=>⟨u.slots,k b u (hb b n) q⟩,fun b u q n _=>by rw [lb (hx b n)];exact n,fun b u q _=>?_,
  fun b xs q=>by rw [lb (hm b _ q fun z=>z)];exact q,fun b u xs q=>by rw [lb (hm b _ q fun z=>z)];exact q,fun b ps q=>⟨#[],by rw [lb (hm b _ q fun z=>z),q];simp⟩⟩
 by_cases hbe:b=e
 ·subst hbe;exact heo
 ·exact ⟨u,k b u hbe q⟩
theorem Un.mono (u:Un fs ex H H1 h h1) (hs:∀ b ∈ fs,b ∈ fs') (hx:∀ b ∈ ex,b ∈ ex'):Un fs' ex' H H1 h h1:=
 ⟨fun b ob q n hb he=>u.keep b ob q n (fun z=>hb (hs b z)) fun z=>he (hx b z),fun _ _ q n _ he=>u.any q n fun z=>he (hx _ z),fun b ob q n he=>u.free b ob q n fun z=>he (hx b z),fun b ob q he=>u.there b ob q fun z=>he (hx b z),u.tups,u.frzs,u.tbls⟩
end
noncomputable def trk (h:Heap) (H:Hp):List Addr:=(List.range h.objs.size).filter fun a=>(H a).isSome
noncomputable def tF (h:Heap) (H:Hp):Heap:=PySem.W.hideAll h (trk h H)
theorem dD (h:Heap) (H:Hp):(tF h H).objs.size=h.objs.size:=PySem.W.hideAll_size _ _
theorem rG {h:Heap} {H:Hp} {b:Addr} {o:Obj} (e:h.get? b=some o) (n:H b=none):(tF h H).get? b=some o:=
 PySem.W.hideAll_get _ e fun hm=>by
  have q:(H b).isSome=true:=(List.mem_filter.mp hm).2
  rw [n] at q;simp at q
theorem PK {h:Heap} {H:Hp} {b:Addr} {o:Obj} (e:(tF h H).get? b=some o):h.get? b=some o∧H b=none:=by
 have e':h.get? b=some o:=PySem.W.of_hideAll (trk h H) e
 refine ⟨e',?_⟩
 cases q:H b with
 | none=>rfl
 | some x=>
  have hm:b ∈ trk h H:=List.mem_filter.mpr ⟨List.mem_range.mpr (Heap.lt_size e'),by simp [q]⟩
  have z:(tF h H).get? b=none:=PySem.W.hideAll_none (trk h H) hm
  rw [z] at e;cases e
noncomputable def qJ (g h:Heap) (L:Addr):List (Addr × Obj):=(List.range h.objs.size).filterMap fun a=>if a=L∨(g.get? a).isSome=true then none else (h.get? a).map fun o=>(a,o)
noncomputable def rest (g h:Heap) (L d:Addr):List (Addr × Obj):=(qJ g h L).filter fun p=>decide (p.1 ≠ d)
end L2
namespace L2
open PySem PySem.Spec PyProof.Rows
structure Mod (K:PySem.W.Frag) (mg:Str→Option Value) (base:Heap):Prop where
 kin:K.In base
 glob:base.Ns mainGlobals mg
 blt:∃ mb,base.Ns builtinsNs mb∧∀ x:Str,x ≠ "__name__" → mb x=bootBuiltins x
 nolimit:base.NoLimit
structure Cx where
 prog:Program
 w:World
 K:PySem.W.Frag
 mg:Str→Option Value
 base:Heap
 A:Around
 N:List Str
 s₀:Shared
 H₀:Hp
 env:Env
 outer:List Env
 stack:List Env
 ex:List Addr
 fn:Str→Bool
 calm:Bool
 pn:List (Addr × Obj)
 xe:Value→Shared→Prop
noncomputable def frs (l:List Env):List Addr:=l.filterMap (·.frame)
noncomputable abbrev Cx.fs (X:Cx):List Addr:=frs X.outer
noncomputable def Vis (sc:Scope) (x:Str):Prop:=sc.names.lookup x=some .local∨sc.names.lookup x=some .cell∨sc.names.lookup x=some .free
noncomputable def Loc (sc:Scope) (x:Str):Prop:=sc.names.lookup x=some .local∨sc.names.lookup x=some .cell
noncomputable def cQ (env:Env) (h:Heap) (m:Str→Option Value) (x:Str) (u:Value):Prop:=
 (env.kindOf x=some .local∧m x=some u)∨((env.kindOf x=some .cell∨env.kindOf x=some .free)∧∃ c,env.cells.lookup x=some c∧h.IsCell c (some u))
structure Cx.Ok (X:Cx):Prop where
 mod:Mod X.K X.mg X.base
 kind:X.env.scope.kind=.function
 glob:X.env.globals=mainGlobals
 blt:X.env.builtins=builtinsNs
 above:X.s₀.heap.objs.size ≤ X.env.locals
 inj:∀ x y c,X.env.cells.lookup x=some c→X.env.cells.lookup y=some c→x=y
 has:∀ x,(X.env.kindOf x=some .cell∨X.env.kindOf x=some .free)→∃ c,X.env.cells.lookup x=some c
 cab:∀ x c,X.fn x=true→X.env.cells.lookup x=some c→X.s₀.heap.objs.size ≤ c
 hd:X.calm=true→X.A.handled=none
 frames:X.A.frames=some X.stack
 stk:X.stack=X.outer∨(X.stack=X.env :: X.outer∧X.env.frame=some X.env.locals)
 exf:∀ b ∈ X.ex,b ≠ X.env.locals∧∀ x c,X.env.cells.lookup x=some c→c ≠ b
 bs:∀ b o,X.base.get? b=some o→X.s₀.heap.get? b=some o∧X.H₀ b=none
 bsz:X.base.objs.size ≤ X.s₀.heap.objs.size
 noex:∀ b o,X.base.get? b=some o→b ∉ X.ex
 exfs:∀ b ∈ X.ex,b ∉ X.fs
 funs:X.s₀.heap.FunFrames X.base X.outer
 frf:∀ b ∈ X.fs,X.H₀ b=none
structure Inv (X:Cx) (pins:List (Addr × Obj)) (σ:List (Option V)) (H:Hp) (s:Shared):Prop where
 ok:X.Ok
 os:s.os=X.s₀.os
 bare:AllBare s.gens
 base:Un X.fs X.ex X.H₀ H X.s₀.heap s.heap
 loc:∃ m,s.heap.Ns X.env.locals m∧∀ (i:Nat) (x:Str) (v:V),X.N[i]? = some x→σ[i]? = some (some v)→Vis X.env.scope x→∃ u,Ed v u∧cQ X.env s.heap m x u
 cell:∀ x c,X.env.cells.lookup x=some c→∃ v,s.heap.IsCell c v
 free:H X.env.locals=none
 freeC:∀ x c,X.env.cells.lookup x=some c→H c=none
 pin:∀ p ∈ X.pn ++ pins,s.heap.get? p.1=some p.2∧H p.1=none∧p.1 ≠ X.env.locals∧p.1 ∉ X.fs∧∀ v,p.2.data ≠ .cell v
 hok:HOk X.prog X.w H s.heap
 len:σ.length=X.N.length
section
variable {X:Cx} {pins:List (Addr × Obj)} {σ:List (Option V)} {H H':Hp} {s:Shared} {h':Heap}
theorem Cx.Ok.nofr (ok:X.Ok) {b:Addr} {o:Obj} (e:X.base.get? b=some o):b ∉ X.fs:=fun hb=>by
 have:=(ok.funs.mem hb).1
 rw [e] at this;cases this
theorem Inv.bs (I:Inv X pins σ H s):∀ b o,X.base.get? b=some o→s.heap.get? b=some o∧H b=none:=fun b o e=>
 ⟨I.base.keep b o (I.ok.bs b o e).1 (I.ok.bs b o e).2 (I.ok.nofr e) (I.ok.noex b o e),I.base.free b o (I.ok.bs b o e).1 (I.ok.bs b o e).2 (I.ok.noex b o e)⟩
theorem Inv.bk (I:Inv X pins σ H s):∀ b o,X.base.get? b=some o→s.heap.get? b=some o:=fun b o e=>(I.bs b o e).1
theorem Inv.mod (I:Inv X pins σ H s):Mod X.K X.mg X.base:=I.ok.mod
theorem Inv.kIn (I:Inv X pins σ H s):X.K.In s.heap:=I.ok.mod.kin.keeps I.bk
theorem Inv.nolimit (I:Inv X pins σ H s):s.heap.NoLimit:=I.ok.mod.nolimit.keeps I.bk
theorem Inv.fr (I:Inv X pins σ H s):∃ m,Fr X.base X.env.locals s.heap m:=
 let ⟨m,hn,_⟩:=I.loc
 ⟨m,hn,I.bk,Nat.le_trans I.ok.bsz I.ok.above⟩
theorem Inv.lt (I:Inv X pins σ H s):X.env.locals < s.heap.objs.size:=let ⟨_,hn,_⟩:=I.loc;hn.lt
theorem Inv.sz (I:Inv X pins σ H s):X.s₀.heap.objs.size ≤ s.heap.objs.size:=Nat.le_trans I.ok.above (Nat.le_of_lt I.lt)
theorem Inv.nofs (I:Inv X pins σ H s) {a:Addr} (h:s.heap.objs.size ≤ a):a ∉ X.fs:=fun hb=>by
 obtain ⟨_,o,ho,_⟩:=I.ok.funs.mem hb
 exact absurd (Nat.lt_of_lt_of_le (Heap.lt_size ho) (Nat.le_trans I.sz h)) (Nat.lt_irrefl _)
theorem Inv.cne (I:Inv X pins σ H s):∀ x c,X.env.cells.lookup x=some c→c ≠ X.env.locals:=fun x c e z=>by
 obtain ⟨v,o,ho,hd⟩:=I.cell x c e
 obtain ⟨m,⟨o',es,ep,ho',hd',_⟩,_⟩:=I.loc
 rw [z,ho'] at ho;cases ho;rw [hd'] at hd;cases hd
theorem Inv.funs (I:Inv X pins σ H s):s.heap.FunFrames X.base X.outer:=by
 have all:∀ (l:List Env),(∀ b ∈ frs l,b ∈ X.fs)→X.s₀.heap.FunFrames X.base l→s.heap.FunFrames X.base l:=by
  intro l
  induction l with
  | nil=>intro _ _;trivial
  | cons env r ih=>
   intro hs hl
   obtain ⟨hk,⟨L,o,hf,hn,ho,hd⟩,hr⟩:=hl
   have hL:L ∈ X.fs:=hs L (by unfold frs;rw [List.filterMap_cons,hf];exact List.mem_cons_self)
   obtain ⟨sl,e⟩:=I.base.slot L o ho (I.ok.frf L hL) hL fun z=>I.ok.exfs L z hL
   exact ⟨hk,⟨L,_,hf,hn,e,hd⟩,ih (fun b hb=>hs b (by unfold frs;rw [List.filterMap_cons,hf];exact List.mem_cons_of_mem _ hb)) hr⟩
 exact all X.outer (fun _ hb=>hb) I.ok.funs
theorem Inv.stack (I:Inv X pins σ H s):s.heap.FunFrames X.base X.stack:=by
 rcases I.ok.stk with e | ⟨e,hf⟩
 ·rw [e];exact I.funs
 ·rw [e]
  obtain ⟨m,hn,_⟩:=I.loc
  refine .cons (by rw [I.ok.kind];decide) hf hn ?_ I.funs
  exact Heap.get?_none_of_le (Nat.le_trans I.ok.bsz I.ok.above)
theorem Inv.stkSub (I:Inv X pins σ H s):∀ b ∈ frs X.stack,b ∈ X.env.locals :: X.fs:=fun b hb=>by
 rcases I.ok.stk with e | ⟨e,hf⟩
 ·rw [e] at hb;exact List.mem_cons_of_mem _ hb
 ·rw [e] at hb
  unfold frs at hb
  rw [List.filterMap_cons,hf] at hb
  exact hb
theorem Inv.stkFree (I:Inv X pins σ H s):∀ b ∈ frs X.stack,H b=none:=fun b hb=>by
 rcases List.mem_cons.mp (I.stkSub b hb) with e | hb
 ·rw [e];exact I.free
 ·obtain ⟨_,o,ho,_⟩:=I.ok.funs.mem hb
  exact I.base.free b o ho (I.ok.frf b hb) fun z=>I.ok.exfs b z hb
theorem Inv.step {g':Array GenState} {t':Nat} {d':Drawn} {ch:List Addr} (I:Inv X pins σ H s)
  (hch:∀ b ∈ ch,(b ∈ X.ex∨X.s₀.heap.objs.size ≤ b)∧b ≠ X.env.locals∧(∀ x c,X.env.cells.lookup x=some c→c ≠ b)∧∀ p ∈ X.pn ++ pins,p.1 ≠ b)
  (keep:∀ b o,b ≠ X.env.locals→b ∉ X.fs→b ∉ ch→s.heap.get? b=some o→H b=none→h'.get? b=some o)
  (slot:∀ b o,b ≠ X.env.locals→b ∈ X.fs→b ∉ ch→s.heap.get? b=some o→H b=none→∃ sl,h'.get? b=some { o with slots:=sl }) (free:∀ b o,b ∉ ch→s.heap.get? b=some o→H b=none→H' b=none)
  (there:∀ b o,b ∉ ch→s.heap.get? b=some o→∃ o',h'.get? b=some o')
  (tups:∀ b xs,H b=some (.tup xs)→H' b=some (.tup xs)) (frzs:∀ b o u,H b=some (.frz o u)→H' b=some (.frz o u)) (tbls:∀ b ps,H b=some (.tbl ps)→∃ more,H' b=some (.tbl (ps ++ more)))
  (ns:∀ m,s.heap.Ns X.env.locals m→h'.Ns X.env.locals m) (hok:HOk X.prog X.w H' h') (hg:AllBare g') :
  Inv X pins σ H' { s with heap:=h',gens:=g',drawn:=d',toks:=t' }:=by
 have neL:∀ b o,X.s₀.heap.get? b=some o→b ≠ X.env.locals:=fun b o e=>Nat.ne_of_lt (Nat.lt_of_lt_of_le (Heap.lt_size e) I.ok.above)
 have neC:∀ b o,X.s₀.heap.get? b=some o→b ∉ X.ex→b ∉ ch:=fun b o e hx hb=>by
  rcases (hch b hb).1 with z | z
  ·exact hx z
  ·exact absurd (Nat.lt_of_lt_of_le (Heap.lt_size e) z) (Nat.lt_irrefl _)
 have cellK:∀ x c,X.env.cells.lookup x=some c→∀ v,s.heap.IsCell c v→h'.IsCell c v:=fun x c e v ⟨o,ho,hd⟩=>by
  have nch:c ∉ ch:=fun z=>(hch c z).2.2.1 x c e rfl
  by_cases hc:c ∈ X.fs
  ·obtain ⟨sl,q⟩:=slot c o (I.cne x c e) hc nch ho (I.freeC x c e)
   exact ⟨_,q,hd⟩
  ·exact ⟨o,keep c o (I.cne x c e) hc nch ho (I.freeC x c e),hd⟩
 refine ⟨I.ok,I.os,hg,⟨fun b o e n hb hx=>?_,fun b o e n hb hx=>?_,fun b o e n hx=>?_,fun b o e hx=>?_,fun b xs e=>tups b xs (I.base.tups b xs e),fun b o xs e=>frzs b o xs (I.base.frzs b o xs e),fun b ps e=>?_⟩,?_,fun x c e=>?_,?_,fun x c e=>?_,fun p hp=>?_,hok,I.len⟩
 ·exact keep b o (neL b o e) hb (neC b o e hx) (I.base.keep b o e n hb hx) (I.base.free b o e n hx)
 ·obtain ⟨sl,e1⟩:=I.base.slot b o e n hb hx
  obtain ⟨sl',e2⟩:=slot b _ (neL b o e) hb (neC b o e hx) e1 (I.base.free b o e n hx)
  exact ⟨sl',e2⟩
 ·obtain ⟨o',e1⟩:=I.base.there b o e hx
  exact free b o' (neC b o e hx) e1 (I.base.free b o e n hx)
 ·obtain ⟨o',e1⟩:=I.base.there b o e hx
  exact there b o' (neC b o e hx) e1
 ·obtain ⟨m1,e1⟩:=I.base.tbls b ps e
  obtain ⟨m2,e2⟩:=tbls b _ e1
  exact ⟨m1 ++ m2,by rw [e2,Array.append_assoc]⟩
 ·obtain ⟨m,hn,hl⟩:=I.loc
  refine ⟨m,ns m hn,fun i x v e1 e2 e3=>?_⟩
  obtain ⟨u,r,l⟩:=hl i x v e1 e2 e3
  refine ⟨u,r,?_⟩
  rcases l with l | ⟨k,c,e,z⟩
  ·exact .inl l
  ·exact .inr ⟨k,c,e,cellK x c e _ z⟩
 ·obtain ⟨v,z⟩:=I.cell x c e
  exact ⟨v,cellK x c e v z⟩
 ·obtain ⟨m,⟨o,_,_,ho,_⟩,_⟩:=I.loc
  exact free _ o (fun z=>(hch _ z).2.1 rfl) ho I.free
 ·obtain ⟨v,o,ho,hd⟩:=I.cell x c e
  exact free c o (fun z=>(hch c z).2.2.1 x c e rfl) ho (I.freeC x c e)
 ·obtain ⟨e,n,ne,nf,d⟩:=I.pin p hp
  have nch:p.1 ∉ ch:=fun z=>(hch p.1 z).2.2.2 p hp rfl
  exact ⟨keep p.1 p.2 ne nf nch e n,free p.1 p.2 nch e n,ne,nf,d⟩
theorem Inv.un {t':Nat} (I:Inv X pins σ H s) (u:Un X.fs [] H H' s.heap h') (hok:HOk X.prog X.w H' h'):Inv X pins σ H' { s with heap:=h',toks:=t' }:=by
 obtain ⟨m,⟨o,es,ep,ho,r⟩,_⟩:=id I.loc
 obtain ⟨sl,hL⟩:=u.any ho I.free (by simp)
 exact I.step (g':=s.gens) (d':=s.drawn) (ch:=[]) (fun _ z=>nomatch z) (fun b o _ hb _ e n=>u.keep b o e n hb (by simp)) (fun b o _ hb _ e n=>u.slot b o e n hb (by simp)) (fun b o _ e n=>u.free b o e n (by simp)) (fun b o _ e=>u.there b o e (by simp)) u.tups u.frzs u.tbls (fun m' hm=>by
  obtain ⟨o',es',ep',ho',r'⟩:=hm
  rw [ho] at ho';cases ho'
  exact ⟨_,es',ep',hL,r'⟩) hok I.bare
theorem Inv.call {g':Array GenState} {t':Nat} {d':Drawn} {ch:List Addr} (I:Inv X pins σ H s) (u:Un (frs X.stack) ch H H' s.heap h') (hok:HOk X.prog X.w H' h') (hg:AllBare g')
  (hch:∀ b ∈ ch,(b ∈ X.ex∨X.s₀.heap.objs.size ≤ b)∧b ≠ X.env.locals∧(∀ x c,X.env.cells.lookup x=some c→c ≠ b)∧∀ p ∈ X.pn ++ pins,p.1 ≠ b) :
  Inv X pins σ H' { s with heap:=h',gens:=g',drawn:=d',toks:=t' }:=by
 obtain ⟨m,⟨o,es,ep,ho,r⟩,_⟩:=id I.loc
 obtain ⟨sl,hL⟩:=u.any ho I.free fun z=>(hch _ z).2.1 rfl
 exact I.step (ch:=ch) hch (fun b o hL hb hc e n=>u.keep b o e n (fun z=>(List.mem_cons.mp (I.stkSub b z)).elim hL hb) hc) (fun b o _ _ hc e n=>u.any e n hc) (fun b o hc e n=>u.free b o e n hc) (fun b o hc e=>u.there b o e hc) u.tups u.frzs u.tbls (fun m' hm=>by
  obtain ⟨o',es',ep',ho',r'⟩:=hm
  rw [ho] at ho';cases ho'
  exact ⟨_,es',ep',hL,r'⟩) hok hg
theorem Inv.turned {t':Nat} {it:Addr} (I:Inv X pins σ H s) (k:∀ b o,b ≠ it→s.heap.get? b=some o→h'.get? b=some o) (hn:H it=none) (hL:it ≠ X.env.locals)
  (h1:it ∈ X.ex∨X.s₀.heap.objs.size ≤ it) (h2:∀ x c,X.env.cells.lookup x=some c→c ≠ it) (h3:∀ p ∈ X.pn ++ pins,p.1 ≠ it):Inv X pins σ H { s with heap:=h',toks:=t' }:=by
 have nit:∀ b u,H b=some u→b ≠ it:=fun b u e z=>by rw [z,hn] at e;cases e
 refine I.step (g':=s.gens) (d':=s.drawn) (ch:=[it]) (fun b hb=>?_) (fun b o _ _ hc e _=>k b o (fun z=>hc (by simp [z])) e) (fun b o _ _ hc e _=>⟨o.slots,k b o (fun z=>hc (by simp [z])) e⟩) (fun _ _ _ _ n=>n)
  (fun b o hc e=>⟨o,k b o (fun z=>hc (by simp [z])) e⟩) (fun _ _ e=>e) (fun _ _ _ e=>e) (fun b ps e=>⟨#[],by rw [e];simp⟩) (fun m hm=>?_) (fun b u e=>?_) I.bare
 ·have e:b=it:=by simpa using hb
  subst e
  exact ⟨h1,hL,h2,h3⟩
 ·obtain ⟨o,es,ep,ho,r⟩:=hm
  exact ⟨o,es,ep,k _ o (Ne.symm hL) ho,r⟩
 ·refine (I.hok b u e).stay (fun c v hc q=>k c v ?_ q) (fun _ q=>q) fun _ _ q=>q
  rcases hc with z | z
  ·rw [z];exact nit b u e
  ·exact nit c _ z
theorem Inv.tok (I:Inv X pins σ H s) (t:Nat):Inv X pins σ H { s with toks:=t }:=I.un (h':=s.heap) (t':=t) Un.refl I.hok
theorem Inv.kept {t':Nat} (I:Inv X pins σ H s) (k:∀ b u,s.heap.get? b=some u→h'.get? b=some u):Inv X pins σ H { s with heap:=h',toks:=t' }:=I.un (Un.kept k) (I.hok.kept k)
theorem Inv.laid {a:Addr} {o:HO} {t':Nat} (I:Inv X pins σ H s) (k:∀ b u,s.heap.get? b=some u→h'.get? b=some u) (hp:s.heap.objs.size ≤ a) (new:Ad X.prog X.w (upd H a o) h' a o) :
  Inv X pins σ (upd H a o) { s with heap:=h',toks:=t' }:=I.un (Un.laid k hp (I.hok.fresh hp)) (I.hok.laid k hp new)
theorem Inv.write {x e:Addr} {o:HO} {t':Nat} (I:Inv X pins σ H s) (mu:Mut (H x)) (he:e=x∨H e=some (.own x)) (k:∀ b u,b ≠ e→s.heap.get? b=some u→h'.get? b=some u) (heo:∃ u,h'.get? e=some u)
  (new:Ad X.prog X.w (upd H x o) h' x o):Inv X pins σ (upd H x o) { s with heap:=h',toks:=t' }:=I.un (Un.write mu he k heo) (I.hok.write mu he k heo new)
theorem Inv.weak {σ':List (Option V)} (I:Inv X pins σ H s) (hl:σ'.length=σ.length) (w:∀ (i:Nat) v,σ'[i]? = some (some v)→σ[i]? = some (some v)):Inv X pins σ' H s:=
 ⟨I.ok,I.os,I.bare,I.base,let ⟨m,hn,hl'⟩:=I.loc;⟨m,hn,fun i x v e1 e2 e3=>hl' i x v e1 (w i v e2) e3⟩,I.cell,I.free,I.freeC,I.pin,I.hok,hl.trans I.len⟩
theorem Inv.pins_of {pins':List (Addr × Obj)} (I:Inv X pins σ H s) (h:∀ p ∈ pins',s.heap.get? p.1=some p.2∧H p.1=none∧p.1 ≠ X.env.locals∧p.1 ∉ X.fs∧∀ v,p.2.data ≠ .cell v):Inv X pins' σ H s:=
 ⟨I.ok,I.os,I.bare,I.base,I.loc,I.cell,I.free,I.freeC,fun p hp=>(List.mem_append.mp hp).elim (fun z=>I.pin p (List.mem_append_left _ z)) (h p),I.hok,I.len⟩
theorem su {N:List Str} (hN:N.Nodup) {i j:Nat} {x:Str} (a:N[i]? = some x) (b:N[j]? = some x):i=j:=by
 obtain ⟨h1,e1⟩:=List.getElem?_eq_some_iff.mp a
 obtain ⟨h2,e2⟩:=List.getElem?_eq_some_iff.mp b
 exact (List.getElem_inj hN).mp (e1.trans e2.symm)
theorem Jv {M:Model} {A:Around} {E:Value→Shared→Prop} {i:Nat} {x:Str} {v:V} {u:Value} {Q:Unit→Shared→Prop} (I:Inv X pins σ H s) (hN:X.N.Nodup) (hi:X.N[i]? = some x) (hx:Loc X.env.scope x) (r:Ed v u)
  (h:∀ s',Inv X pins (σ.set i (some v)) H s'→(∃ a,Heap.SameBut a s.heap s'.heap∧(a=X.env.locals∨X.env.cells.lookup x=some a))→Q () s') (hf:X.fn x=true∨X.env.scope.names.lookup x=some .local:=by first | exact .inl rfl | exact .inr rfl | assumption):wpAny M A (storeName X.env x u) Q E s:=by
 obtain ⟨m,hn,hl⟩:=id I.loc
 have hcls:(X.env.scope.kind == .class || (X.env.scope.kind == .module && X.env.locals != X.env.globals))=false:=by rw [I.ok.kind];rfl
 have hiσ:i < σ.length:=by rw [I.len];exact (List.getElem?_eq_some_iff.mp hi).1
 have cne:=I.cne
 have tracked:∀ {a:Addr} {h':Heap},(∃ o,s.heap.get? a=some o∧H a=none)→Heap.SameBut a s.heap h'→HOk X.prog X.w H h':=fun {a h'} ha hs b ob e=>by
  obtain ⟨_,_,hfree⟩:=ha
  refine (I.hok b ob e).stay (fun c w' hc q=>(hs.2 c ?_).trans q) (fun _ q=>q) fun _ _ q=>q
  rintro rfl
  rcases hc with rfl | hc
  ·rw [hfree] at e;cases e
  ·rw [hfree] at hc;cases hc
 rcases hx with hk | hk
 ·refine wpAny_storeName_local hk hn (fun h' hn' hs=>?_) hcls
  obtain ⟨oL,_,_,hoL,_⟩:=id hn
  refine h _ ⟨I.ok,I.os,I.bare,⟨fun b o e n hb hx=>?_,fun b o e n hb hx=>?_,I.base.free,fun b o e hx=>?_,I.base.tups,I.base.frzs,I.base.tbls⟩,⟨_,hn',fun j y v' e1 e2 e3=>?_⟩,fun y c e=>?_,I.free,I.freeC,fun p hp=>?_,tracked ⟨oL,hoL,I.free⟩ hs,by simpa using I.len⟩ ⟨_,hs,.inl rfl⟩
  ·exact (hs.2 b (Nat.ne_of_lt (Nat.lt_of_lt_of_le (Heap.lt_size e) I.ok.above))).trans (I.base.keep b o e n hb hx)
  ·obtain ⟨sl,e1⟩:=I.base.slot b o e n hb hx
   exact ⟨sl,(hs.2 b (Nat.ne_of_lt (Nat.lt_of_lt_of_le (Heap.lt_size e) I.ok.above))).trans e1⟩
  ·obtain ⟨o',e1⟩:=I.base.there b o e hx
   exact ⟨o',(hs.2 b (Nat.ne_of_lt (Nat.lt_of_lt_of_le (Heap.lt_size e) I.ok.above))).trans e1⟩
  ·by_cases hj:j=i
   ·subst hj
    rw [hi] at e1;cases e1
    rw [List.getElem?_set_self hiσ] at e2
    cases e2
    exact ⟨u,r,.inl ⟨hk,by simp⟩⟩
   ·rw [List.getElem?_set_ne (Ne.symm hj)] at e2
    obtain ⟨u',r',q⟩:=hl j y v' e1 e2 e3
    refine ⟨u',r',?_⟩
    rcases q with ⟨k,e⟩ | ⟨k,c,e,z⟩
    ·refine .inl ⟨k,?_⟩
     have:y ≠ x:=fun e=>hj (su hN e1 (e ▸ hi))
     simp [this,e]
    ·exact .inr ⟨k,c,e,z.sameBut hs (cne y c e)⟩
  ·obtain ⟨w',z⟩:=I.cell y c e
   exact ⟨w',z.sameBut hs (cne y c e)⟩
  ·obtain ⟨e,n,ne,nf,d⟩:=I.pin p hp
   exact ⟨(hs.2 p.1 ne).trans e,n,ne,nf,d⟩
 ·have hfn:X.fn x=true:=by
   rcases hf with z | z
   ·exact z
   ·rw [z] at hk;cases hk
  obtain ⟨c,hc⟩:=I.ok.has x (.inl hk)
  obtain ⟨w',z⟩:=I.cell x c hc
  refine wpAny_storeName_cell I.ok.kind hk hc z (fun h' hc' hs=>?_)
  obtain ⟨oc,hoc,hocd⟩:=id z
  refine h { s with heap:=h' } ⟨I.ok,I.os,I.bare,⟨fun b o e n hb hx=>?_,fun b o e n hb hx=>?_,I.base.free,fun b o e hx=>?_,I.base.tups,I.base.frzs,I.base.tbls⟩,⟨m,hn.sameBut hs (Ne.symm (cne x c hc)),fun j y v' e1 e2 e3=>?_⟩,fun y c' e=>?_,I.free,I.freeC,fun p hp=>?_,tracked ⟨oc,hoc,I.freeC x c hc⟩ hs,by simpa using I.len⟩ ⟨c,hs,.inr hc⟩
  ·exact (hs.2 b (Nat.ne_of_lt (Nat.lt_of_lt_of_le (Heap.lt_size e) (I.ok.cab x c hfn hc)))).trans (I.base.keep b o e n hb hx)
  ·obtain ⟨sl,e1⟩:=I.base.slot b o e n hb hx
   exact ⟨sl,(hs.2 b (Nat.ne_of_lt (Nat.lt_of_lt_of_le (Heap.lt_size e) (I.ok.cab x c hfn hc)))).trans e1⟩
  ·obtain ⟨o',e1⟩:=I.base.there b o e hx
   exact ⟨o',(hs.2 b (Nat.ne_of_lt (Nat.lt_of_lt_of_le (Heap.lt_size e) (I.ok.cab x c hfn hc)))).trans e1⟩
  ·by_cases hj:j=i
   ·subst hj
    rw [hi] at e1;cases e1
    rw [List.getElem?_set_self hiσ] at e2
    cases e2
    exact ⟨u,r,.inr ⟨.inl hk,c,hc,hc'⟩⟩
   ·rw [List.getElem?_set_ne (Ne.symm hj)] at e2
    obtain ⟨u',r',q⟩:=hl j y v' e1 e2 e3
    refine ⟨u',r',?_⟩
    rcases q with q | ⟨k,c',e,z'⟩
    ·exact .inl q
    ·refine .inr ⟨k,c',e,z'.sameBut hs ?_⟩
     rintro rfl
     exact hj (su hN e1 (I.ok.inj _ _ _ e hc ▸ hi))
  ·by_cases hcc:c'=c
   ·subst hcc;exact ⟨_,hc'⟩
   ·obtain ⟨w2,z2⟩:=I.cell y c' e
    exact ⟨w2,z2.sameBut hs hcc⟩
  ·obtain ⟨e,n,ne,nf,d⟩:=I.pin p hp
   refine ⟨(hs.2 p.1 ?_).trans e,n,ne,nf,d⟩
   intro q
   rw [q,hoc] at e
   have q':oc=p.2:=Option.some.inj e
   exact d w' (by rw [← q'];exact hocd)
theorem Qo {M:Model} {A:Around} {E:Value→Shared→Prop} {i:Nat} {x:Str} {v:V} {u:Value} {Q:Unit→Shared→Prop} (I:Inv X pins σ H s) (hN:X.N.Nodup) (hi:X.N[i]? = some x) (hx:Loc X.env.scope x) (r:Ed v u)
  (h:∀ s',Inv X pins (σ.set i (some v)) H s'→Q () s') (hf:X.fn x=true∨X.env.scope.names.lookup x=some .local:=by first | exact .inl rfl | exact .inr rfl | assumption):wpAny M A (storeName X.env x u) Q E s:=
 Jv I hN hi hx r (fun s' I' _=>h s' I') hf
theorem Inv.call' {s':Shared} {ch:List Addr} (I:Inv X pins σ H s) (ho:s'.os=s.os) (u:Un (frs X.stack) ch H H' s.heap s'.heap) (hok:HOk X.prog X.w H' s'.heap) (hg:AllBare s'.gens)
  (hch:∀ b ∈ ch,(b ∈ X.ex∨X.s₀.heap.objs.size ≤ b)∧b ≠ X.env.locals∧(∀ x c,X.env.cells.lookup x=some c→c ≠ b)∧∀ p ∈ X.pn ++ pins,p.1 ≠ b):Inv X pins σ H' s':=by
 obtain ⟨h',g',d',t',o'⟩:=s'
 have e:o'=s.os:=ho
 subst e
 exact I.call (g':=g') (t':=t') (d':=d') u hok hg hch
end
noncomputable abbrev XK:=Value→Option Addr→Hp→Prop
noncomputable abbrev St:=List (Option V)
noncomputable abbrev VK:=V→Hp→Prop
noncomputable abbrev TE:=St→Hp→VK→Prop
noncomputable abbrev TT:=St→Hp→(Bool→Hp→Prop)→Prop
noncomputable abbrev TA:=St→Hp→(List V→Hp→Prop)→Prop
structure lg where
 nx:St→Hp→Prop
 rt:VK
 bk:St→Hp→Prop:=fun _ _=>False
 ct:St→Hp→Prop:=fun _ _=>False
noncomputable abbrev TS:=lg→St→Hp→Prop
noncomputable def EP (X:Cx) (pins:List (Addr × Obj)) (σ:St) (Q:VK) (u:Value) (s':Shared):Prop:=∃ v H',Inv X pins σ H' s'∧Ed v u∧Q v H'
noncomputable def TP (X:Cx) (pins:List (Addr × Obj)) (σ:St) (Q:Bool→Hp→Prop) (b:Bool) (s':Shared):Prop:=∃ H',Inv X pins σ H' s'∧Q b H'
noncomputable def AP (X:Cx) (pins:List (Addr × Obj)) (σ:St) (Q:List V→Hp→Prop) (us:List Value) (s':Shared):Prop:=∃ vs H',Inv X pins σ H' s'∧Uc vs us∧Q vs H'
noncomputable def SP (X:Cx) (pins:List (Addr × Obj)) (D:lg) (f:Flow) (s':Shared):Prop:=
 match f with
 | .next=>∃ σ' H',Inv X pins σ' H' s'∧D.nx σ' H'
 | .brk=>∃ σ' H',Inv X pins σ' H' s'∧D.bk σ' H'
 | .cont=>∃ σ' H',Inv X pins σ' H' s'∧D.ct σ' H'
 | .ret u=>∃ v σ' H',Inv X pins σ' H' s'∧Ed v u∧D.rt v H'
noncomputable def PE (X:Cx) (e:Expr) (t:TE):Prop:=
 ∀ (pins:List (Addr × Obj)) (s:Shared) (σ:St) (H:Hp) (Q:VK),Inv X pins σ H s→t σ H Q→wpAny (model X.prog X.w) X.A (eval e X.env) (EP X pins σ Q) X.xe s
noncomputable def PT (X:Cx) (e:Expr) (t:TT):Prop:=
 ∀ (pins:List (Addr × Obj)) (s:Shared) (σ:St) (H:Hp) (Q:Bool→Hp→Prop),Inv X pins σ H s→t σ H Q→wpAny (model X.prog X.w) X.A (isTrue e X.env (eval e X.env)) (TP X pins σ Q) X.xe s
noncomputable def PW (X:Cx) (e:Expr) (t:TT):Prop:=
 ∀ (whole:Sem Value) (pins:List (Addr × Obj)) (s:Shared) (σ:St) (H:Hp) (Q:Bool→Hp→Prop),Inv X pins σ H s→t σ H Q→wpAny (model X.prog X.w) X.A (isTrue e X.env whole) (TP X pins σ Q) X.xe s
theorem PW.pt {X:Cx} {e:Expr} {t:TT} (h:PW X e t):PT X e t:=h _
noncomputable def PA (X:Cx) (es:List Expr) (t:TA):Prop:=
 ∀ (pos:Pos) (pins:List (Addr × Obj)) (s:Shared) (σ:St) (H:Hp) (Q:List V→Hp→Prop),Inv X pins σ H s→t σ H Q→wpAny (model X.prog X.w) X.A (spliced (backTo pos (starEach es X.env))) (AP X pins σ Q) X.xe s
noncomputable def PS (X:Cx) (st:Stmt) (t:TS):Prop:=
 ∀ (pins:List (Addr × Obj)) (s:Shared) (σ:St) (H:Hp) (D:lg),Inv X pins σ H s→t D σ H→wpAny (model X.prog X.w) X.A (exec st X.env) (SP X pins D) X.xe s
noncomputable def PSs (X:Cx) (st:List Stmt) (t:TS):Prop:=
 ∀ (pins:List (Addr × Obj)) (s:Shared) (σ:St) (H:Hp) (D:lg),Inv X pins σ H s→t D σ H→wpAny (model X.prog X.w) X.A (execs st X.env) (SP X pins D) X.xe s
theorem thn {α:Type} {t:Sem α} {Q Q':α→Shared→Prop} {M:Model} {A:Around} {E:Value→Shared→Prop} {s:Shared} (h:wpAny M A t Q E s) (hQ:∀ a s,Q a s→Q' a s):wpAny M A t Q' E s:=wpAny_mono h hQ fun _ _ x=>x
end L2
namespace L2
open PySem PySem.Spec PyProof.Rows
section
variable {X:Cx}
noncomputable def jO (i:Nat):TE:=fun σ H Q=>∃ v,σ[i]? = some (some v)∧Q v H
noncomputable def tC (v:V):TE:=fun _ H Q=>Q v H
theorem xL {i:Nat} {x:Str} {pos:Pos} (hN:X.N[i]? = some x) (hv:Vis X.env.scope x) (hd:(x == ("__debug__" : Str))=false:=by decide) (hcd:(x == ("__classdict__" : Str))=false:=by decide):PE X (.Name x pos) (jO i):=by
 intro pins s σ H Q I h
 obtain ⟨v,e,h⟩:=h
 obtain ⟨m,hn,hl⟩:=I.loc
 obtain ⟨u,r,l⟩:=hl i x v hN e hv
 have fin:EP X pins σ Q u s:=⟨v,H,I,r,h⟩
 rcases l with ⟨hk,hm⟩ | ⟨hk,c,hc,hcell⟩
 ·exact wpAny_Name (wpAny_loadName_local I.ok.kind hk hn hm fin) hd
 ·rcases hk with hk | hk
  ·exact wpAny_Name (wpAny_loadName_cell I.ok.kind hk hc hcell fin) hd
  ·exact wpAny_Name (wpAny_loadName_free I.ok.kind hk hc hcell fin hcd) hd
theorem xb {i j pos}:PE X (.Constant (.int i) j pos) (tC (.int i)):=fun _ _ _ H _ I h=>wpAny_Constant_int ⟨.int i,H,I.tok _,⟨_,rfl⟩,h⟩
theorem Tu {b j pos}:PE X (.Constant (.bool b) j pos) (tC (.bl b)):=fun _ _ _ H _ I h=>Constant_bool ⟨.bl b,H,I,rfl,h⟩
theorem dz {j pos}:PE X (.Constant .none j pos) (tC .non):=fun _ _ _ H _ I h=>Constant_none ⟨.non,H,I,rfl,h⟩
theorem Gd {x j pos}:PE X (.Constant (.str x) j pos) (tC (.str x)):=fun _ _ _ H _ I h=>Calls.Constant_str ⟨.str x,H,I.tok _,⟨_,rfl⟩,h⟩
noncomputable def Gl (X:Cx) (x:Str):Prop:=X.env.kindOf x=some .globalImplicit
theorem Bi {E:Value→Shared→Prop} {pins:List (Addr × Obj)} {s:Shared} {σ:St} {H:Hp} {x:Str} {u:Value} {pos:Pos} {Q:Value→Shared→Prop} (I:Inv X pins σ H s) (hg:Gl X x) (hm:X.mg x=some u) (h:Q u s)
  (hd:(x == ("__debug__" : Str))=false:=by decide):wpAny (model X.prog X.w) X.A (eval (.Name x pos) X.env) Q E s:=
 Calls.Name_function_global I.ok.kind hg (Calls.loadGlobal_global (by rw [I.ok.glob];exact I.mod.glob.keeps I.bk) hm h) hd
theorem Tm {E:Value→Shared→Prop} {pins:List (Addr × Obj)} {s:Shared} {σ:St} {H:Hp} {x:Str} {u:Value} {pos:Pos} {Q:Value→Shared→Prop} (I:Inv X pins σ H s) (hg:Gl X x) (hm:X.mg x=none) (hv:bootBuiltins x=some u) (h:Q u s)
  (hn:x ≠ "__name__" := by decide) (hd:(x == ("__debug__" : Str))=false:=by decide):wpAny (model X.prog X.w) X.A (eval (.Name x pos) X.env) Q E s:=by
 obtain ⟨mb,h1,h2⟩:=I.mod.blt
 exact Calls.Name_function_global I.ok.kind hg (Calls.loadGlobal_builtin (by rw [I.ok.glob];exact I.mod.glob.keeps I.bk) hm (by rw [I.ok.blt];exact h1.keeps I.bk) ((h2 x hn).trans hv) h) hd
theorem kd {x:Str} {v:V} {u:Value} {pos:Pos} (hg:Gl X x) (hm:X.mg x=some u) (r:Ed v u) (hd:(x == ("__debug__" : Str))=false:=by decide):PE X (.Name x pos) (tC v):=
 fun _ _ _ H _ I h=>Bi I hg hm ⟨v,H,I,r,h⟩ hd
theorem ND {x:Str} {v:V} {u:Value} {pos:Pos} (hg:Gl X x) (hm:X.mg x=none) (hv:bootBuiltins x=some u) (r:Ed v u) (hn:x ≠ "__name__" := by decide) (hd:(x == ("__debug__" : Str))=false:=by decide):PE X (.Name x pos) (tC v):=
 fun _ _ _ H _ I h=>Tm I hg hm hv ⟨v,H,I,r,h⟩ hn hd
noncomputable def t2I (ta tb:TE) (k:Int→Int→Hp→Prop):St→Hp→Prop:=fun σ H=>ta σ H fun x H1=>tb σ H1 fun y H2=>∃ i j,x=.int i∧y=.int j∧k i j H2
noncomputable def uP (ta tb:TE):TE:=fun σ H Q=>t2I ta tb (fun i j H2=>Q (.int (i + j)) H2) σ H
noncomputable def BP (ta tb:TE):TE:=fun σ H Q=>t2I ta tb (fun i j H2=>Q (.int (i - j)) H2) σ H
noncomputable def bQ (ta tb:TE):TE:=fun σ H Q=>t2I ta tb (fun i j H2=>(-(2 ^ 64) < i∧i < 2 ^ 64)∧Q (.int (i * j)) H2) σ H
variable {a b:Expr} {ta tb:TE} {pos:Pos}
noncomputable def PC (X:Cx) (op:CmpOp) (a b:Expr) (t:TE):Prop:=
 ∀ (pins:List (Addr × Obj)) (s:Shared) (σ:St) (H:Hp) (Q:VK),Inv X pins σ H s→t σ H Q →
  wpAny (model X.prog X.w) X.A (eval a X.env) (fun v s₁=>wpAny (model X.prog X.w) X.A (eval b X.env) (fun u s₂=>wpAny (model X.prog X.w) X.A (compareOp op v u) (EP X pins σ Q) X.xe s₂) X.xe s₁) X.xe s
theorem uF (b:Expr) {op:CmpOp} (h:op ≠ .In) (h2:op ≠ .NotIn):behindInMarks op b=false:=by
 have e1:(op == CmpOp.In)=false:=by cases op <;> first | rfl | exact absurd rfl h
 have e2:(op == CmpOp.NotIn)=false:=by cases op <;> first | rfl | exact absurd rfl h2
 cases b <;> simp [behindInMarks,e1,e2]
noncomputable def LP (p:Int→Int→Bool) (ta tb:TE):TE:=fun σ H Q=>t2I ta tb (fun i j H2=>Q (.bl (p i j)) H2) σ H
noncomputable def UP (ta:TE):TE:=fun σ H Q=>ta σ H fun x H1=>Q (.bl (decide (x=.non))) H1
noncomputable def wO (ta:TE):TE:=fun σ H Q=>ta σ H fun x H1=>Q (.bl (!decide (x=.non))) H1
noncomputable def tB (t:TE):TT:=fun σ H Q=>t σ H fun x H1=>∃ c,x=.bl c∧Q c H1
theorem PH {op:CmpOp} {t:TE} (h:PC X op a b t) (h1:behindInMarks op b=false:=by first | exact uF _ (by decide) (by decide) | rfl):PT X (.Compare a [op] [b] pos) (tB t):=by
 intro pins s σ H Q I hw
 refine wpAny_isTrue_Compare1 (thn (h pins s σ H _ I hw) fun v s1 h1=>thn h1 fun u s2 h2=>thn h2 fun c s3 ⟨x,H1,I1,r1,q1⟩=>?_) h1
 obtain ⟨d,rfl,q⟩:=q1
 cases r1
 exact wpAny_truthy_bool ⟨H1,I1,q⟩
theorem xh {e:Expr} {t:TE} (h:PE X e t) (he:∀ whole,isTrue e X.env whole=(do let v ← whole;standAt e.pos;holding [v] (truthy v)):=by intro _;rfl):PT X e (tB t):=by
 intro pins s σ H Q I hw
 refine isTrue_plain (thn (h pins s σ H _ I hw) fun v s1 ⟨x,H1,I1,r1,q1⟩=>?_) (he _)
 obtain ⟨d,rfl,q⟩:=q1
 cases r1
 exact wpAny_truthy_bool ⟨H1,I1,q⟩
variable {tA tB':TT} {rest:List Expr}
noncomputable def oP (t u:TT):TT:=fun σ H Q=>t σ H fun c H1=>if c=true then u σ H1 Q else Q false H1
noncomputable def tOr (t u:TT):TT:=fun σ H Q=>t σ H fun c H1=>if c=true then Q true H1 else u σ H1 Q
noncomputable def RO (t:TT):TT:=fun σ H Q=>t σ H fun c H1=>Q (!c) H1
theorem xC (ha:PT X a tA):PW X (.BoolOp .And [a] pos) tA:=by
 intro wh pins s σ H Q I h
 refine isTrue_and (thn (ha pins s σ H Q I h) fun c s1 e=>?_)
 cases c with
 | true=>exact isTrue_and_nil e
 | false=>exact e
theorem tz (ha:PT X a tA):PW X (.BoolOp .Or [a] pos) tA:=by
 intro wh pins s σ H Q I h
 refine isTrue_or (thn (ha pins s σ H Q I h) fun c s1 e=>?_)
 cases c with
 | false=>exact isTrue_or_nil e
 | true=>exact e
theorem nI (ha:PT X a tA) (hb:PW X (.BoolOp .And (b :: rest) pos) tB'):PW X (.BoolOp .And (a :: b :: rest) pos) (oP tA tB'):=by
 intro wh pins s σ H Q I h
 refine isTrue_and (thn (ha pins s σ H _ I h) fun c s1 ⟨H1,I1,q1⟩=>?_)
 cases c with
 | true=>exact hb wh pins s1 σ H1 Q I1 q1
 | false=>exact ⟨H1,I1,q1⟩
theorem gF (ha:PT X a tA) (hb:PW X (.BoolOp .Or (b :: rest) pos) tB'):PW X (.BoolOp .Or (a :: b :: rest) pos) (tOr tA tB'):=by
 intro wh pins s σ H Q I h
 refine isTrue_or (thn (ha pins s σ H _ I h) fun c s1 ⟨H1,I1,q1⟩=>?_)
 cases c with
 | true=>exact ⟨H1,I1,q1⟩
 | false=>exact hb wh pins s1 σ H1 Q I1 q1
theorem pq (ha:PT X a tA):PT X (.UnaryOp .Not a pos) (RO tA):=by
 intro pins s σ H Q I h
 exact isTrue_not (ha pins s σ H (fun c H1=>Q (!c) H1) I h)
noncomputable def JL (ta tb:TE):TE:=fun σ H Q=>ta σ H fun x H1=>∃ c,x=.bl c∧if c=true then tb σ H1 Q else Q (.bl false) H1
noncomputable def IO (ta tb:TE):TE:=fun σ H Q=>ta σ H fun x H1=>∃ c,x=.bl c∧if c=true then Q (.bl true) H1 else tb σ H1 Q
noncomputable def nO (ta:TE):TE:=fun σ H Q=>ta σ H fun x H1=>∃ c,x=.bl c∧Q (.bl (!c)) H1
theorem yv {op} {t:TE} (h:PE X a t):PE X (.BoolOp op [a] pos) t:=fun pins s σ H Q I hw=>BoolOp_one (h pins s σ H Q I hw)
theorem Py (ha:PE X a ta) (hb:PE X (.BoolOp .And (b :: rest) pos) tb):PE X (.BoolOp .And (a :: b :: rest) pos) (JL ta tb):=by
 intro pins s σ H Q I h
 refine BoolOp_and (thn (ha pins s σ H _ I h) fun v s1 ⟨x,H1,I1,r1,q1⟩=>?_)
 obtain ⟨c,rfl,q1⟩:=q1
 cases r1
 refine wpAny_truthy_bool ?_
 cases c with
 | true=>exact hb pins s1 σ H1 Q I1 q1
 | false=>exact ⟨.bl false,H1,I1,rfl,q1⟩
theorem QL (ha:PE X a ta) (hb:PE X (.BoolOp .Or (b :: rest) pos) tb):PE X (.BoolOp .Or (a :: b :: rest) pos) (IO ta tb):=by
 intro pins s σ H Q I h
 refine BoolOp_or (thn (ha pins s σ H _ I h) fun v s1 ⟨x,H1,I1,r1,q1⟩=>?_)
 obtain ⟨c,rfl,q1⟩:=q1
 cases r1
 refine wpAny_truthy_bool ?_
 cases c with
 | false=>exact hb pins s1 σ H1 Q I1 q1
 | true=>exact ⟨.bl true,H1,I1,rfl,q1⟩
noncomputable def tIf (t:TT) (ta tb:TE):TE:=fun σ H Q=>t σ H fun c H1=>if c=true then ta σ H1 Q else tb σ H1 Q
theorem qz {c:Expr} (hc:PT X c tA) (ha:PE X a ta) (hb:PE X b tb):PE X (.IfExp c a b pos) (tIf tA ta tb):=by
 intro pins s σ H Q I h
 refine wpAny_IfExp (thn (hc pins s σ H _ I h) fun d s1 ⟨H1,I1,q1⟩=>?_)
 cases d with
 | true=>exact ha pins s1 σ H1 Q I1 q1
 | false=>exact hb pins s1 σ H1 Q I1 q1
end
end L2
namespace L2
open PySem PySem.Spec PyProof.Rows
noncomputable def SqL (K:PySem.W.Frag) (H:Hp) (a:Addr) (xs:List V):Prop:=
 Rd H a (.lst xs) ∨
  ∃ (o:Obj) (its:Array Value) (n:Nat),K.lookup a=some o∧o.cls=.type "list" ∧ o.dict=none∧o.data=.seq its n∧its.size ≤ sizeLine∧Uc xs its.toList
noncomputable def SqT (K:PySem.W.Frag) (H:Hp) (a:Addr) (xs:List V):Prop:=
 Rd H a (.tup xs) ∨
  ∃ (o:Obj) (its:Array Value) (n:Nat),K.lookup a=some o∧o.cls=.type "tuple" ∧ o.data=.seq its n∧its.size ≤ sizeLine∧Uc xs its.toList
noncomputable def NP:Value→Option V
 | .none=>some .non
 | .bool b=>some (.bl b)
 | .int i _=>some (.int i)
 | .str x _=>some (.str x)
 | .bytes b _=>some (.byt b)
 | .float b _=>some (.flt b)
 | .ref a=>some (.ref a)
 | .type n=>some (.ty n)
 | _=>none
theorem Ed.abs {x:V} {u:Value} (r:Ed x u):NP u=some x:=by
 cases x with
 | non=>cases r;rfl
 | bl _=>cases r;rfl
 | int _=>obtain ⟨t,rfl⟩:=r;rfl
 | str _=>obtain ⟨t,rfl⟩:=r;rfl
 | byt _=>obtain ⟨t,rfl⟩:=r;rfl
 | flt _=>obtain ⟨t,rfl⟩:=r;rfl
 | ref _=>cases r;rfl
 | ty _=>cases r;rfl
theorem Ed.inj {x y:V} {u:Value} (r:Ed x u) (q:Ed y u):x=y:=Option.some.inj (r.abs.symm.trans q.abs)
theorem Uc.inj:∀ {xs ys:List V} {us:List Value},Uc xs us→Uc ys us→xs=ys
 | _,_,_,.nil,.nil=>rfl
 | _,_,_,.cons r t,.cons r' t'=>by rw [r.inj r',Uc.inj t t']
section
variable {X:Cx} {pins:List (Addr × Obj)} {σ:St} {H:Hp} {s:Shared} {a:Addr} {xs ys:List V}
theorem SqL.of {K:PySem.W.Frag} (h:H a=some (.lst xs)):SqL K H a xs:=.inl (.inl h)
theorem SqT.of {K:PySem.W.Frag} (h:H a=some (.tup xs)):SqT K H a xs:=.inl (.inl h)
theorem Inv.list (I:Inv X pins σ H s) (h:SqL X.K H a xs):∃ its:List Value,Uc xs its∧PlainL s.heap a its.toArray∧xs.length ≤ sizeLine:=by
 rcases h with h | ⟨o,its,n,hk,hc,hd,hs,hz,r⟩
 ·obtain ⟨z,its,n,r,e⟩:=h.ok I.hok
  exact ⟨its,r,⟨_,n,e,rfl,rfl,rfl⟩,z⟩
 ·refine ⟨its.toList,r,⟨o,n,I.kIn a o hk,hc,hd,by simpa using hs⟩,?_⟩
  have e:=r.length
  simp only [Array.length_toList] at e
  omega
theorem Inv.tuple (I:Inv X pins σ H s) (h:SqT X.K H a xs):∃ its:List Value,Uc xs its∧IsTup s.heap a its.toArray∧xs.length ≤ sizeLine:=by
 rcases h with h | ⟨o,its,n,hk,hc,hs,hz,r⟩
 ·obtain ⟨z,its,r,p⟩:=h.ok I.hok
  exact ⟨its,r,p,z⟩
 ·refine ⟨its.toList,r,⟨o,I.kIn a o hk,hc,n,by simpa using hs⟩,?_⟩
  have e:=r.length
  simp only [Array.length_toList] at e
  omega
theorem Inv.list_inj (I:Inv X pins σ H s) (h:SqL X.K H a xs) (h':SqL X.K H a ys):xs=ys:=by
 obtain ⟨its,r,⟨o,n,e,_,_,d⟩,_⟩:=I.list h
 obtain ⟨its',r',⟨o',n',e',_,_,d'⟩,_⟩:=I.list h'
 rw [e] at e';cases e'
 rw [d] at d'
 injection d' with d1 _
 have:its=its':=by simpa using congrArg Array.toList d1
 subst this
 exact r.inj r'
theorem Inv.tuple_inj (I:Inv X pins σ H s) (h:SqT X.K H a xs) (h':SqT X.K H a ys):xs=ys:=by
 obtain ⟨its,r,⟨o,e,_,n,d⟩,_⟩:=I.tuple h
 obtain ⟨its',r',⟨o',e',_,n',d'⟩,_⟩:=I.tuple h'
 rw [e] at e';cases e'
 rw [d] at d'
 injection d' with d1 _
 have:its=its':=by simpa using congrArg Array.toList d1
 subst this
 exact r.inj r'
end
noncomputable abbrev Cx.wish (X:Cx) (E:Value→Shared→Prop):Cx:={ X with xe:=E }
noncomputable abbrev Cx.nox (X:Cx):Cx:=X.wish fun _ _=>False
theorem Cx.Ok.wish {X:Cx} (ok:X.Ok) (E:Value→Shared→Prop):(X.wish E).Ok:=
 ⟨ok.mod,ok.kind,ok.glob,ok.blt,ok.above,ok.inj,ok.has,ok.cab,ok.hd,ok.frames,ok.stk,ok.exf,ok.bs,ok.bsz,ok.noex,ok.exfs,ok.funs,ok.frf⟩
theorem Cx.Ok.unwish {X:Cx} {E:Value→Shared→Prop} (ok:(X.wish E).Ok):X.Ok:=
 ⟨ok.mod,ok.kind,ok.glob,ok.blt,ok.above,ok.inj,ok.has,ok.cab,ok.hd,ok.frames,ok.stk,ok.exf,ok.bs,ok.bsz,ok.noex,ok.exfs,ok.funs,ok.frf⟩
section
variable {X:Cx} {pins:List (Addr × Obj)} {σ:St} {H:Hp} {s:Shared} {E:Value→Shared→Prop}
theorem Inv.wish (I:Inv X pins σ H s) (E:Value→Shared→Prop):Inv (X.wish E) pins σ H s:=⟨I.ok.wish E,I.os,I.bare,I.base,I.loc,I.cell,I.free,I.freeC,I.pin,I.hok,I.len⟩
theorem Inv.unwish (I:Inv (X.wish E) pins σ H s):Inv X pins σ H s:=⟨I.ok.unwish,I.os,I.bare,I.base,I.loc,I.cell,I.free,I.freeC,I.pin,I.hok,I.len⟩
theorem SP.unwish {D:lg} {f:Flow} {s':Shared} (h:SP (X.wish E) pins D f s'):SP X pins D f s':=by
 cases f with
 | next=>obtain ⟨σ',H',I,q⟩:=h;exact ⟨σ',H',I.unwish,q⟩
 | brk=>obtain ⟨σ',H',I,q⟩:=h;exact ⟨σ',H',I.unwish,q⟩
 | cont=>obtain ⟨σ',H',I,q⟩:=h;exact ⟨σ',H',I.unwish,q⟩
 | ret u=>obtain ⟨v,σ',H',I,r,q⟩:=h;exact ⟨v,σ',H',I.unwish,r,q⟩
theorem PE.nox {e:Expr} {t:TE} (h:PE X.nox e t):PE X e t:=fun pins s σ H Q I hw=>
 wpAny_mono (h pins s σ H Q (I.wish _) hw) (fun _ _ ⟨v,H',I',r,q⟩=>⟨v,H',I'.unwish,r,q⟩) fun _ _ z=>False.elim z
theorem PT.nox {e:Expr} {t:TT} (h:PT X.nox e t):PT X e t:=fun pins s σ H Q I hw=>
 wpAny_mono (h pins s σ H Q (I.wish _) hw) (fun _ _ ⟨H',I',q⟩=>⟨H',I'.unwish,q⟩) fun _ _ z=>False.elim z
theorem PSs.nox {st:List Stmt} {t:TS} (h:PSs X.nox st t):PSs X st t:=fun pins s σ H D I hw=>
 wpAny_mono (h pins s σ H D (I.wish _) hw) (fun _ _ q=>q.unwish) fun _ _ z=>False.elim z
end
section
variable {X:Cx} {st:Stmt} {rest:List Stmt} {t u:TS} {e:Expr} {te:TE} {pos:Pos}
noncomputable def tN:TS:=fun D σ H=>D.nx σ H
noncomputable def lP (t u:TS):TS:=fun D σ H=>t { D with nx:=u D } σ H
theorem Zb:PSs X [] tN:=fun _ _ σ H _ I h=>wpAny_execs_nil ⟨σ,H,I,h⟩
theorem db (h1:PS X st t) (h2:PSs X rest u):PSs X (st :: rest) (lP t u):=by
 intro pins s σ H D I h
 refine wpAny_execs_cons (thn (h1 pins s σ H { D with nx:=u D } I h) fun f s1 q=>?_)
 cases f with
 | next=>
  obtain ⟨σ',H',I',q⟩:=q
  exact h2 pins s1 σ' H' D I' q
 | ret v=>exact q
 | brk=>exact q
 | cont=>exact q
theorem gb (h1:PS X st t):PSs X [st] t:=by
 intro pins s σ H D I h
 refine wpAny_execs_cons (thn (h1 pins s σ H D I h) fun f s1 q=>?_)
 cases f with
 | next=>exact wpAny_execs_nil q
 | ret v=>exact q
 | brk=>exact q
 | cont=>exact q
noncomputable def wN:TS:=fun D σ H=>D.bk σ H
noncomputable def aO:TS:=fun D σ H=>D.ct σ H
theorem Inv.quiet {pins:List (Addr × Obj)} {σ:St} {H:Hp} {s:Shared} (I:Inv X pins σ H s):interactive X.env=false:=by simp [interactive,I.ok.kind]
noncomputable def fM (te:TE):TS:=fun D σ H=>te σ H fun _ H1=>D.nx σ H1
theorem ac (he:PE X e te) (hs:swapsWith e none pos.line X.env=pure false:=by rfl):PS X (.Expr e pos) (fM te):=by
 intro pins s σ H D I h
 exact wpAny_Expr_any (thn (he pins s σ H _ I h) fun v s1 ⟨x,H1,I1,r1,q1⟩=>⟨σ,H1,I1,q1⟩) I.quiet hs
noncomputable def qO (te:TE):TS:=fun D σ H=>te σ H D.rt
theorem Db (he:PE X e te):PS X (.Return (some e) pos) (qO te):=by
 intro pins s σ H D I h
 exact wpAny_Return_some (thn (he pins s σ H _ I h) fun v s1 ⟨x,H1,I1,r1,q1⟩=>⟨x,σ,H1,I1,r1,q1⟩)
noncomputable def MN:TS:=fun D _ H=>D.rt .non H
noncomputable def oO (c:TT) (t u:TS):TS:=fun D σ H=>c σ H fun b H1=>if b=true then t D σ H1 else u D σ H1
theorem qe {c:Expr} {a b:List Stmt} {tc:TT} (hc:PT X c tc) (ha:PSs X a t) (hb:PSs X b u):PS X (.If c a b pos) (oO tc t u):=by
 intro pins s σ H D I h
 refine wpAny_If (thn (hc pins s σ H _ I h) fun d s1 ⟨H1,I1,q1⟩=>?_)
 cases d with
 | true=>exact ha pins s1 σ H1 D I1 q1
 | false=>exact hb pins s1 σ H1 D I1 q1
noncomputable def lI:TS:=fun _ _ _=>False
theorem Zt:PS X st lI:=fun _ _ _ _ _ _ h=>h.elim
end
noncomputable abbrev TG:=V→St→Hp→(St→Hp→Prop)→Prop
noncomputable abbrev TGs:=List V→St→Hp→(St→Hp→Prop)→Prop
noncomputable def PG (X:Cx) (target:Expr) (t:TG):Prop:=
 ∀ (pins:List (Addr × Obj)) (s:Shared) (σ:St) (H:Hp) (v:V) (u:Value) (Q:St→Hp→Prop),Inv X pins σ H s→Ed v u→t v σ H Q →
  wpAny (model X.prog X.w) X.A (assign target X.env u) (fun _ s'=>∃ σ' H',Inv X pins σ' H' s'∧Q σ' H') X.xe s
noncomputable def PGs (X:Cx) (ts:List Expr) (t:TGs):Prop:=
 ∀ (pins:List (Addr × Obj)) (s:Shared) (σ:St) (H:Hp) (vs:List V) (us:List Value) (Q:St→Hp→Prop),Inv X pins σ H s→Uc vs us→t vs σ H Q →
  wpAny (model X.prog X.w) X.A (assignInOrder ((assignEach ts X.env).map (·.2)) us) (fun _ s'=>∃ σ' H',Inv X pins σ' H' s'∧Q σ' H') X.xe s
noncomputable abbrev ZK:=V→V→V→Hp→(Hp→Prop)→Prop
noncomputable def EO (X:Cx) (t:ZK):Prop:=
 ∀ (pins:List (Addr × Obj)) (s:Shared) (σ:St) (H:Hp) (o i v:V) (ov iv u:Value) (Q:Hp→Prop),Inv X pins σ H s→Ed o ov→Ed i iv→Ed v u→t o i v H Q →
  wpAny (model X.prog X.w) X.A (setItem ov iv u) (fun _ s'=>∃ H',Inv X pins σ H' s'∧Q H') X.xe s
noncomputable abbrev TIp:=V→V→Hp→VK→Prop
section
variable {X:Cx} {pos:Pos}
noncomputable def aw (i:Nat):TG:=fun v σ H Q=>Q (σ.set i (some v)) H
theorem Bb {i:Nat} {x:Str} (hN:X.N.Nodup) (hi:X.N[i]? = some x) (hx:Loc X.env.scope x) (hf:X.fn x=true∨X.env.scope.names.lookup x=some .local:=by first | exact .inl rfl | exact .inr rfl | assumption):PG X (.Name x pos) (aw i):=by
 intro pins s σ H v u Q I r h
 exact wpAny_assign_Name (Qo I hN hi hx r (fun s' I'=>⟨_,H,I',h⟩) hf)
noncomputable def GN:TGs:=fun vs σ H Q=>vs=[]∧Q σ H
noncomputable def Pz (t:TG) (u:TGs):TGs:=fun vs σ H Q=>∃ v r,vs=v :: r∧t v σ H fun σ' H'=>u r σ' H' Q
theorem lf:PGs X [] GN:=by
 intro pins s σ H vs us Q I r h
 obtain ⟨e,h⟩:=h
 subst e
 cases r
 exact assignInOrder_nil ⟨σ,H,I,h⟩
theorem Ob {e:Expr} {es:List Expr} {t:TG} {u:TGs} (h1:PG X e t) (h2:PGs X es u)
  (hs:(assignEach (e :: es) X.env).map (·.2)=assign e X.env :: (assignEach es X.env).map (·.2):=by rfl):PGs X (e :: es) (Pz t u):=by
 intro pins s σ H vs us Q I r h
 obtain ⟨v,vr,e1,h⟩:=h
 subst e1
 cases r with
 | cons r rr=>
  rw [hs]
  refine assignInOrder_cons (thn (h1 pins s σ H _ _ _ I r h) fun _ s1 ⟨σ1,H1,I1,q1⟩=>?_)
  exact h2 pins s1 σ1 H1 _ _ Q I1 rr q1
noncomputable def lM (K:PySem.W.Frag) (n:Nat) (t:TGs):TG:=fun v σ H Q=>∃ a xs,v=.ref a∧SqT K H a xs∧xs.length=n∧t xs σ H Q
theorem JM {es:List Expr} {k:Nat} {t:TGs} {n:Nat} (hc:X.calm=true) (h:PGs X es t)
  (hn:(assignEach es X.env).length=n:=by rfl) (hst:(assignEach es X.env).findIdx? (·.1)=none:=by rfl):PG X (.Tuple es k pos) (lM X.K n t):=by
 intro pins s σ H v u Q I r hw
 obtain ⟨a,xs,e1,hq,hl,hw⟩:=hw
 subst e1
 cases r
 obtain ⟨its,rv,ht,hz⟩:=I.tuple hq
 refine assign_Tuple_tuple (I.ok.hd hc) ht (by simp [hn,← hl,rv.length]) hst fun h' hx=>?_
 have I1:Inv X pins σ H { s with heap:=h' }:=I.kept (t':=s.toks) fun b o e=>hx b o (Nat.ne_of_lt (Heap.lt_size e)) e
 exact h pins _ σ H xs _ Q I1 (by simpa using rv) hw
noncomputable def fP (to ti:TE) (t:ZK):TG:=fun v σ H Q=>to σ H fun o H1=>ti σ H1 fun i H2=>t o i v H2 fun H3=>Q σ H3
theorem By {o i:Expr} {to ti:TE} {t:ZK} (ho:PE X o to) (hi:PE X i ti) (hs:EO X t)
  (ha:∀ v,assign (.Subscript o i pos) X.env v=(do
   let ov ← holding [v] (eval o X.env)
   let iv ← holding [v,ov] (eval i X.env)
   standAt pos
   holding [v,ov,iv] (setItem ov iv v)
   release [v,ov,iv] []):=by intro _;rfl):PG X (.Subscript o i pos) (fP to ti t):=by
 intro pins s σ H v u Q I r h
 rw [ha]
 refine wpAny_bind (wpAny_holding (thn (ho pins s σ H _ I h) fun ov s1 ⟨x,H1,I1,r1,q1⟩=>?_))
 refine wpAny_bind (wpAny_holding (thn (hi pins s1 σ H1 _ I1 q1) fun iv s2 ⟨y,H2,I2,r2,q2⟩=>?_))
 refine wpAny_bind (wpAny_standAt (wpAny_bind (wpAny_holding (thn (hs pins s2 σ H2 x y v ov iv u _ I2 r1 r2 r q2) fun _ s3 ⟨H3,I3,q3⟩=>?_))))
 exact wpAny_release ⟨σ,H3,I3,q3⟩
noncomputable def KN (te:TE) (g:TG):TS:=fun D σ H=>te σ H fun x H1=>g x σ H1 D.nx
theorem Jt {tg e:Expr} {te:TE} {g:TG} (he:PE X e te) (hg:PG X tg g) (hs:swapsWithSole [tg] e pos.line X.env=pure false:=by rfl) (hw:swappedStores [tg] e X.env=pure none:=by rfl)
  (h1:(assignEach [tg] X.env).map (·.2)=[assign tg X.env]:=by rfl):PS X (.Assign [tg] e pos) (KN te g):=by
 intro pins s σ H D I h
 refine wpAny_Assign_stores (thn (he pins s σ H _ I h) fun v s1 ⟨x,H1,I1,r1,q1⟩=>?_) hs hw
 rw [h1]
 exact thn (hg pins s1 σ H1 x v _ I1 r1 q1) fun _ s2 q=>q
theorem kc {i:Nat} {x:Str} {e:Expr} {te:TE} {pos':Pos} (hN:X.N.Nodup) (hi:X.N[i]? = some x) (hx:Loc X.env.scope x) (he:PE X e te) (hs:swapsWith e (some (.Name x pos')) pos.line X.env=pure false:=by rfl) (hf:X.fn x=true∨X.env.scope.names.lookup x=some .local:=by first | exact .inl rfl | exact .inr rfl | assumption) :
  PS X (.Assign [.Name x pos'] e pos) (KN te (aw i)):=by
 intro pins s σ H D I h
 refine wpAny_Assign_Name (thn (he pins s σ H _ I h) fun v s1 ⟨y,H1,I1,r1,q1⟩=>?_) hs
 exact Qo I1 hN hi hx r1 (fun s2 I2=>⟨_,H1,I2,q1⟩) hf
noncomputable def ZP (i j:Nat) (ta:TA):TS:=fun D σ H=>ta σ H fun vs H1=>∃ v w,vs=[v,w]∧D.nx ((σ.set i (some v)).set j (some w)) H1
noncomputable def PP (i:Nat) (te:TE) (ti:TIp):TS:=fun D σ H=>∃ x,σ[i]? = some (some x)∧te σ H fun y H1=>ti x y H1 fun z H2=>D.nx (σ.set i (some z)) H2
noncomputable def zO (to ti te:TE) (tget:V→V→Hp→VK→Prop) (tip:TIp) (tset:ZK):TS:=fun D σ H=>to σ H fun o H1=>ti σ H1 fun i H2=>tget o i H2 fun x H3=>te σ H3 fun y H4=>tip x y H4 fun z H5=>tset o i z H5 fun H6=>D.nx σ H6
end
section
variable {X:Cx} {pos:Pos}
end
structure It where
 go:Nat→Hp→Prop
 yld:Nat→Hp→V→Hp→Prop
 stop:Nat→Hp→Prop
noncomputable def uw (X:Cx) (pins:List (Addr × Obj)) (H:Hp) (b:Addr):Prop:=
 H b=none∧b ≠ X.env.locals∧b ∉ X.fs∧(b ∈ X.ex∨X.s₀.heap.objs.size ≤ b)∧(∀ x c,X.env.cells.lookup x=some c→c ≠ b)∧∀ p ∈ X.pn ++ pins,p.1 ≠ b
theorem Inv.fpOk {X:Cx} {pins:List (Addr × Obj)} {σ:St} {H H':Hp} {s:Shared} {b:Addr} (I:Inv X pins σ H s) (hb:s.heap.objs.size ≤ b) (hn:H' b=none):uw X pins H' b:=by
 refine ⟨hn,Nat.ne_of_gt (Nat.lt_of_lt_of_le I.lt hb),I.nofs hb,.inr (Nat.le_trans I.sz hb),fun x c e z=>?_,fun p hp z=>?_⟩
 ·obtain ⟨v,q⟩:=I.cell x c e
  exact absurd (Nat.lt_of_lt_of_le q.lt (by rw [z];exact hb)) (Nat.lt_irrefl _)
 ·exact absurd (Nat.lt_of_lt_of_le (Heap.lt_size (I.pin p hp).1) (by rw [z];exact hb)) (Nat.lt_irrefl _)
structure vH (P:Program) (w:World) (K:PySem.W.Frag) (tg:Expr) (J:It) (fp:List Addr) (it:Addr) (tn:Nat→Heap→Prop):Prop where
 mem:it ∈ fp
 obj:∀ i h,tn i h→∀ b ∈ fp,∃ o,h.get? b=some o∧∀ v,o.data ≠ .cell v
 keep:∀ i h h',tn i h→(∀ b ∈ fp,∀ o,h.get? b=some o→h'.get? b=some o)→tn i h'
 item:∀ (X:Cx),X.prog=P→X.w=w→X.K=K→X.calm=true→∀ (i:Nat) (pins:List (Addr × Obj)) (s:Shared) (σ:St) (H:Hp) (E:Value→Shared→Prop),Inv X pins σ H s→(∀ b ∈ fp,uw X pins H b)→tn i s.heap→J.go i H →
  wpAny (model P w) X.A (pyNext (.ref it)) (fun r s1=>∃ u,r=some u ∧
   wpAny (model P w) X.A (letOwnedTupleGo tg (.ref it) u) (fun _ s2=>∃ x H',Inv X pins σ H' s2∧Ed x u∧J.yld i H x H'∧tn (i + 1) s2.heap∧∀ b ∈ fp,H' b=none) E s1) E s
 done:∀ (X:Cx),X.prog=P→X.w=w→X.K=K→X.calm=true→∀ (i:Nat) (pins:List (Addr × Obj)) (s:Shared) (σ:St) (H:Hp) (E:Value→Shared→Prop),Inv X pins σ H s→(∀ b ∈ fp,uw X pins H b)→tn i s.heap→J.stop i H →
  wpAny (model P w) X.A (pyNext (.ref it)) (fun r s1=>r=none∧Inv X pins σ H s1) E s
 self:∀ (A:Around) (i:Nat) (s:Shared) (Q:Value→Shared→Prop) (E:Value→Shared→Prop),tn i s.heap→Q (.ref it) s→wpAny (model P w) A (pyIter (.ref it)) Q E s
noncomputable abbrev TI:=St→Hp→(It→Hp→Prop)→Prop
noncomputable def PIE (X:Cx) (pins:List (Addr × Obj)) (σ:St) (tg:Expr) (R:It→Hp→Prop) (itv:Value) (s2:Shared):Prop:=
 ∃ (it:Addr) (fp:List Addr) (tn:Nat→Heap→Prop) (J:It) (H':Hp),itv=.ref it∧Inv X pins σ H' s2∧vH X.prog X.w X.K tg J fp it tn∧tn 0 s2.heap∧(∀ b ∈ fp,uw X pins H' b)∧R J H'
noncomputable def PI (X:Cx) (tg iter:Expr) (wi:TI):Prop:=
 ∀ (pins:List (Addr × Obj)) (s:Shared) (σ:St) (H:Hp) (R:It→Hp→Prop),Inv X pins σ H s→wi σ H R →
  wpAny (model X.prog X.w) X.A (eval iter X.env) (fun v s1=>wpAny (model X.prog X.w) X.A (pyIter v) (PIE X pins σ tg R) X.xe s1) X.xe s
theorem oC {M:Model} {A:Around} {E:Value→Shared→Prop} {s:Shared} {tg:Expr} {it:Addr} {u:Value} {o:Obj} {n:String} {vs:Array Value} {Q:Unit→Shared→Prop} (ho:s.heap.get? it=some o) (hc:o.cls=.type n) (hd:o.data=.fields vs)
    (hn:["enumerate","zip","dict_itemiterator","dict_reverseitemiterator","odict_iterator","itertools.zip_longest","itertools.pairwise"].contains n=false) (hQ:Q () s):wpAny M A (letOwnedTupleGo tg (.ref it) u) Q E s:=by
  unfold letOwnedTupleGo
  cases tg <;> first
    | exact wpAny_pure hQ
    | (cases u <;> first
        | exact wpAny_pure hQ
        | (refine wpAny_bind (wpAny_load ho ?_)
           rw [hc,hd]
           show wpAny M A (if (["enumerate","zip","dict_itemiterator","dict_reverseitemiterator","odict_iterator","itertools.zip_longest","itertools.pairwise"].contains n && vs[0]? == some (rawInt _))=true then _ else _) Q E s
           rw [if_neg (by intro h;rw [hn,Bool.false_and] at h;cases h)]
           exact wpAny_pure hQ))
noncomputable def Itl (K:PySem.W.Frag) (a:Addr):It:=
 ⟨fun i H=>∃ xs x,SqL K H a xs∧xs[i]? = some x,fun i H x H'=>H'=H∧∀ xs,SqL K H a xs→xs[i]? = some x,fun i H=>∃ xs,SqL K H a xs∧xs.length ≤ i⟩
noncomputable def Itt (K:PySem.W.Frag) (a:Addr):It:=
 ⟨fun i H=>∃ xs x,SqT K H a xs∧xs[i]? = some x,fun i H x H'=>H'=H∧∀ xs,SqT K H a xs→xs[i]? = some x,fun i H=>∃ xs,SqT K H a xs∧xs.length ≤ i⟩
noncomputable def Itr (lo:Int) (n:Nat):It:=⟨fun i _=>i < n,fun i H x H'=>H'=H∧x=.int (lo + i),fun i _=>n ≤ i⟩
theorem WA {P:Program} {w:World} {K:PySem.W.Frag} {tg:Expr} (a it:Addr):vH P w K tg (Itl K a) [it] it (fun i h=>h.IsListIter it a i) where
 mem:=by simp
 obj:=fun i h st b hb=>by
  have e:b=it:=by simpa using hb
  subst e
  obtain ⟨o,e,c,d⟩:=st
  exact ⟨o,e,fun v z=>by rw [d] at z;cases z⟩
 keep:=fun i h h' st k=>st.at fun o e=>k it (by simp) o e
 item:=by
  intro X hP hw hK hc i pins s σ H E I hf st hg
  subst hP hw hK
  obtain ⟨xs,x,hq,hx⟩:=hg
  obtain ⟨its,rv,p,hz⟩:=I.list hq
  obtain ⟨u,hu,ru⟩:=rv.get hx
  obtain ⟨f0,f1,f2,f3,f4,f5⟩:=hf it (by simp)
  refine wpAny_pyNext_list_item st p.isList (x:=u) (by simpa using hu) fun h' st' sb=>?_
  have I1:Inv X pins σ H { s with heap:=h' }:=I.turned (t':=s.toks) (fun b o hb e=>(sb.2 b hb).trans e) f0 f1 f3 f4 f5
  obtain ⟨o,e,c,d⟩:=id st'
  exact ⟨u,rfl,oC (s:={ s with heap:=h' }) e c d (by decide) ⟨x,H,I1,ru,⟨rfl,fun ys hy=>by rw [I.list_inj hy hq];exact hx⟩,st',fun b hb=>(hf b hb).1⟩⟩
 done:=by
  intro X hP hw hK hc i pins s σ H E I hf st hg
  subst hP hw hK
  obtain ⟨xs,hq,hx⟩:=hg
  obtain ⟨its,rv,p,hz⟩:=I.list hq
  obtain ⟨f0,f1,f2,f3,f4,f5⟩:=hf it (by simp)
  have hl:=rv.length
  exact wpAny_pyNext_list_end (I.ok.hd hc) st p.isList (by simp;omega) fun h' eb=>⟨rfl,I.turned (t':=s.toks) (fun b o hb e=>eb b o hb e) f0 f1 f3 f4 f5⟩
 self:=fun _ _ _ _ _ st h=>wpAny_pyIter_listiter st h
theorem wz {P:Program} {w:World} {K:PySem.W.Frag} {tg:Expr} (a it:Addr):vH P w K tg (Itt K a) [it] it (fun i h=>h.IsTupleIter it a i) where
 mem:=by simp
 obj:=fun i h st b hb=>by
  have e:b=it:=by simpa using hb
  subst e
  obtain ⟨o,e,c,d⟩:=st
  exact ⟨o,e,fun v z=>by rw [d] at z;cases z⟩
 keep:=fun i h h' st k=>st.at fun o e=>k it (by simp) o e
 item:=by
  intro X hP hw hK hc i pins s σ H E I hf st hg
  subst hP hw hK
  obtain ⟨xs,x,hq,hx⟩:=hg
  obtain ⟨its,rv,p,hz⟩:=I.tuple hq
  obtain ⟨u,hu,ru⟩:=rv.get hx
  obtain ⟨f0,f1,f2,f3,f4,f5⟩:=hf it (by simp)
  refine wpAny_pyNext_tuple_item st (show s.heap.IsTuple a its.toArray from p) (x:=u) (by simpa using hu) fun h' st' sb=>?_
  have I1:Inv X pins σ H { s with heap:=h' }:=I.turned (t':=s.toks) (fun b o hb e=>(sb.2 b hb).trans e) f0 f1 f3 f4 f5
  obtain ⟨o,e,c,d⟩:=id st'
  exact ⟨u,rfl,oC (s:={ s with heap:=h' }) e c d (by decide) ⟨x,H,I1,ru,⟨rfl,fun ys hy=>by rw [I.tuple_inj hy hq];exact hx⟩,st',fun b hb=>(hf b hb).1⟩⟩
 done:=by
  intro X hP hw hK hc i pins s σ H E I hf st hg
  subst hP hw hK
  obtain ⟨xs,hq,hx⟩:=hg
  obtain ⟨its,rv,p,hz⟩:=I.tuple hq
  obtain ⟨f0,f1,f2,f3,f4,f5⟩:=hf it (by simp)
  have hl:=rv.length
  exact wpAny_pyNext_tuple_end (I.ok.hd hc) st (show s.heap.IsTuple a its.toArray from p) (by simp;omega) fun h' eb=>⟨rfl,I.turned (t':=s.toks) (fun b o hb e=>eb b o hb e) f0 f1 f3 f4 f5⟩
 self:=fun _ _ _ _ _ st h=>wpAny_pyIter_tupleiter st h
theorem rA {P:Program} {w:World} {K:PySem.W.Frag} {tg:Expr} (it:Addr) (lo:Int) (n:Nat):vH P w K tg (Itr lo n) [it] it (fun i h=>IsRangeIter h it (lo + (i:Nat) * 1) ((n:Int) - (i:Nat)) 1) where
 mem:=by simp
 obj:=fun i h st b hb=>by
  have e:b=it:=by simpa using hb
  subst e
  exact ⟨_,st,fun v z=>by
   have z':Data.fields _=Data.cell v:=z
   cases z'⟩
 keep:=fun i h h' st k=>k it (by simp) _ st
 item:=by
  intro X hP hw hK hc i pins s σ H E I hf st hg
  subst hP hw hK
  obtain ⟨f0,f1,f2,f3,f4,f5⟩:=hf it (by simp)
  have W:=Walks.range (prog:=X.prog) (w:=X.w) (I.ok.hd hc) it lo 1 n
  refine W.item i s _ _ hg st fun v h' tk hv st' kk=>?_
  obtain ⟨t,rfl⟩:=hv
  have I1:Inv X pins σ H { s with heap:=h',toks:=tk }:=I.turned (fun b o hb e=>kk b o (by simpa using hb) e) f0 f1 f3 f4 f5
  refine ⟨_,rfl,oC (s:={ s with heap:=h',toks:=tk }) (n := "range_iterator") st' rfl rfl (by decide) ⟨.int (lo + i),H,I1,⟨t,?_⟩,⟨rfl,rfl⟩,st',fun b hb=>(hf b hb).1⟩⟩
  rw [Int.mul_one]
 done:=by
  intro X hP hw hK hc i pins s σ H E I hf st hg
  subst hP hw hK
  obtain ⟨f0,f1,f2,f3,f4,f5⟩:=hf it (by simp)
  exact wpAny_pyNext_range_end (I.ok.hd hc) st (by have:n ≤ i:=hg;omega) fun h' eb=>⟨rfl,I.turned (t':=s.toks) (fun b o hb e=>eb b o hb e) f0 f1 f3 f4 f5⟩
 self:=fun _ _ _ _ _ st h=>wpAny_pyIter_rangeiter st h
end L2
namespace L2
open PySem PySem.Spec PyProof.Rows
section
variable {X:Cx} {tg:Expr}
noncomputable def IM (K:PySem.W.Frag) (tl:TE):TI:=fun σ H R=>tl σ H fun x H1=>∃ a,x=.ref a∧(∃ xs,SqL K H1 a xs)∧R (Itl K a) H1
noncomputable def CO (K:PySem.W.Frag) (tl:TE):TI:=fun σ H R=>tl σ H fun x H1=>∃ a,x=.ref a∧(∃ xs,SqT K H1 a xs)∧R (Itt K a) H1
theorem Me {l:Expr} {tl:TE} (hl:PE X l tl):PI X tg l (IM X.K tl):=by
 intro pins s σ H R I h
 refine thn (hl pins s σ H _ I h) fun v s1 ⟨x,H1,I1,r1,q1⟩=>?_
 obtain ⟨a,e,⟨xs,hq⟩,q⟩:=q1
 subst e
 cases r1
 obtain ⟨its,rv,p,hz⟩:=I1.list hq
 refine wpAny_pyIter_list p.isList ?_
 refine ⟨s1.heap.objs.size,[s1.heap.objs.size],_,_,H1,rfl,I1.kept (t':=s1.toks) fun b o e=>Heap.get?_push_of_some _ e,WA a _,⟨_,Heap.get?_push_size _ rfl,rfl,rfl⟩,fun b hb=>?_,q⟩
 have e:b=s1.heap.objs.size:=by simpa using hb
 subst e
 exact I1.fpOk (Nat.le_refl _) (I1.hok.fresh (Nat.le_refl _))
theorem eM {l:Expr} {tl:TE} (hl:PE X l tl):PI X tg l (CO X.K tl):=by
 intro pins s σ H R I h
 refine thn (hl pins s σ H _ I h) fun v s1 ⟨x,H1,I1,r1,q1⟩=>?_
 obtain ⟨a,e,⟨xs,hq⟩,q⟩:=q1
 subst e
 cases r1
 obtain ⟨its,rv,p,hz⟩:=I1.tuple hq
 refine wpAny_pyIter_tuple (show s1.heap.IsTuple a its.toArray from p) ?_
 refine ⟨s1.heap.objs.size,[s1.heap.objs.size],_,_,H1,rfl,I1.kept (t':=s1.toks) fun b o e=>Heap.get?_push_of_some _ e,wz a _,⟨_,Heap.get?_push_size _ rfl,rfl,rfl⟩,fun b hb=>?_,q⟩
 have e:b=s1.heap.objs.size:=by simpa using hb
 subst e
 exact I1.fpOk (Nat.le_refl _) (I1.hok.fresh (Nat.le_refl _))
theorem AG {pins:List (Addr × Obj)} {σ:St} {H:Hp} {s:Shared} {R:It→Hp→Prop} {E:Value→Shared→Prop} {lo hi:Int} {t u v:Tok} {tk:Nat} (I:Inv X pins σ H s) (h1:-(2 ^ 62) ≤ lo) (h2:lo < 2 ^ 62) (h3:-(2 ^ 62) ≤ hi) (h4:hi < 2 ^ 62)
  (q:R (Itr lo (hi - lo).toNat) H):wpAny (model X.prog X.w) X.A (pyIter (.ref s.heap.objs.size)) (PIE X pins σ tg R) E { s with heap:=s.heap.push { cls:=.type "range",data:=.fields #[.int lo t,.int hi u,.int 1 v] },toks:=tk }:=by
 refine wpAny_pyIter_range (IsRange.new ..) (small_one h1 h2 h3 h4) ?_
 have I1:Inv X pins σ H { s with heap:=s.heap.push { cls:=.type "range",data:=.fields #[.int lo t,.int hi u,.int 1 v] },toks:=tk }:=I.kept fun b o e=>Heap.get?_push_of_some _ e
 refine ⟨(s.heap.push { cls:=.type "range",data:=.fields #[.int lo t,.int hi u,.int 1 v] }).objs.size,[(s.heap.push { cls:=.type "range",data:=.fields #[.int lo t,.int hi u,.int 1 v] }).objs.size],_,_,H,rfl,
  I1.kept (t':=tk) fun b o e=>Heap.get?_push_of_some _ e,rA _ lo (hi - lo).toNat,?_,fun b hb=>?_,q⟩
 ·have e1:lo + ((0:Nat):Int) * 1=lo:=by simp
  have e2:(((hi - lo).toNat:Nat):Int) - ((0:Nat):Int)=Builtin.Range.rangeSize lo hi 1:=by rw [rangeSize_one];split <;> omega
  show IsRangeIter _ _ (lo + ((0:Nat):Int) * 1) ((((hi - lo).toNat:Nat):Int) - ((0:Nat):Int)) 1
  rw [e1,e2]
  exact Heap.get?_push_size _ rfl
 ·have e:b=(s.heap.push { cls:=.type "range",data:=.fields #[.int lo t,.int hi u,.int 1 v] }).objs.size:=by simpa using hb
  subst e
  exact I1.fpOk (Nat.le_refl _) (I1.hok.fresh (Nat.le_refl _))
noncomputable def AL (ta:TA):TI:=fun σ H R=>ta σ H fun vs H1=>∃ j:Int,vs=[.int j]∧-(2 ^ 62) ≤ j∧j < 2 ^ 62∧R (Itr 0 j.toNat) H1
noncomputable def pO (ta:TA):TI:=fun σ H R=>ta σ H fun vs H1=>∃ i j:Int,vs=[.int i,.int j]∧(-(2 ^ 62) ≤ i∧i < 2 ^ 62∧-(2 ^ 62) ≤ j∧j < 2 ^ 62)∧R (Itr i (j - i).toNat) H1
theorem Be {a:Expr} {ta:TA} {p pos:Pos} (hg:Gl X "range") (hm:X.mg "range"=none) (ha:PA X [a] ta) (hs:starEach [a] X.env=[(false,eval a X.env)]:=by rfl):PI X tg (.Call (.Name "range" p) [a] [] pos) (AL ta):=by
 intro pins s σ H R I h
 refine Call_ (Tm I hg hm boot_range (PyProof.Rows.callWith_type1 (thn (ha pos pins s σ H _ I h) fun us s1 ⟨vs,H1,I1,r1,q1⟩=>?_) hs rfl))
 obtain ⟨j,e,q1,q2,q⟩:=q1
 subst e
 cases r1 with
 | cons r rr=>
  cases rr
  obtain ⟨t,rfl⟩:=r
  exact call_range_1 (AG I1 (by omega) (by omega) q1 q2 (by simpa using q))
noncomputable def eP (wi:TI) (g:TG) (tb:TS):TS:=fun D σ H=>wi σ H fun J H1=>∃ W:Nat→Nat→St→Hp→Prop,(∃ m,W 0 m σ H1)∧∀ i m σ H,W i m σ H →
 (J.stop i H∧D.nx σ H)∨(J.go i H∧∃ N:St→Hp→Prop,(∀ σ' H',N σ' H'→∃ m',m' < m∧W (i + 1) m' σ' H')∧∀ x H',J.yld i H x H'→g x σ H' fun σ2 H2=>tb { D with nx:=N,ct:=N,bk:=D.nx } σ2 H2)
noncomputable def Yu (fp:List Addr) (h:Heap):List (Addr × Obj):=fp.filterMap fun b=>(h.get? b).map fun o=>(b,o)
theorem ak {fp:List Addr} {h:Heap} {b:Addr} {o:Obj} (hb:b ∈ fp) (e:h.get? b=some o):(b,o) ∈ Yu fp h:=List.mem_filterMap.mpr ⟨b,hb,by rw [e];rfl⟩
theorem dC {fp:List Addr} {h:Heap} {p:Addr × Obj} (hp:p ∈ Yu fp h):p.1 ∈ fp∧h.get? p.1=some p.2:=by
 obtain ⟨b,hb,e⟩:=List.mem_filterMap.mp hp
 cases q:h.get? b with
 | none=>rw [q] at e;cases e
 | some o=>
  rw [q] at e
  have e':(b,o)=p:=Option.some.inj e
  subst e'
  exact ⟨hb,q⟩
theorem Inv.pinned {pins:List (Addr × Obj)} {σ:St} {H:Hp} {s:Shared} {fp:List Addr} (I:Inv X pins σ H s) (hf:∀ b ∈ fp,uw X pins H b) (ho:∀ b ∈ fp,∃ o,s.heap.get? b=some o∧∀ v,o.data ≠ .cell v):Inv X (pins ++ Yu fp s.heap) σ H s:=
 I.pins_of fun p hp=>(List.mem_append.mp hp).elim (fun z=>I.pin p (List.mem_append_right _ z)) fun z=>by
  obtain ⟨hb,e⟩:=dC z
  obtain ⟨f0,f1,f2,_⟩:=hf p.1 hb
  obtain ⟨o,e',d⟩:=ho p.1 hb
  rw [e] at e';cases e'
  exact ⟨e,f0,f1,f2,d⟩
theorem Inv.unpinned {pins pl:List (Addr × Obj)} {σ:St} {H:Hp} {s:Shared} (I:Inv X (pins ++ pl) σ H s):Inv X pins σ H s:=I.pins_of fun p hp=>I.pin p (List.mem_append_right _ (List.mem_append_left _ hp))
theorem De {iter:Expr} {body:List Stmt} {wi:TI} {g:TG} {tb:TS} {pos:Pos} (hp:PassesOwn (model X.prog X.w) X.A X.env X.xe) (hc:X.calm=true) (hi:PI X tg iter wi) (hg:PG X tg g) (hb:PSs X body tb)
  (hs:∀ x,foldedSetIterable iter X.env x=pure x:=by intro _;rfl):PS X (.For tg iter body [] pos) (eP wi g tb):=by
 intro pins s σ H D I h
 refine wpAny_For (thn (hi pins s σ H _ I h) fun v s1 h1=>thn h1 fun itv s2 h2=>?_) hs
 obtain ⟨it,fp,tn,J,H2,e,I2,T,st2,f2,W,⟨m0,w0⟩,turn⟩:=h2
 subst e
 -- what stays true of the iterator's objects through the loop
 have stat:∀ {H':Hp},(∀ b ∈ fp,H' b=none)→∀ b ∈ fp,uw X pins H' b:=fun hn b hb=>⟨hn b hb,(f2 b hb).2⟩
 refine codeAny_forLoop_any (fun n s'=>∃ i σ' H',Inv X pins σ' H' s'∧tn i s'.heap∧(∀ b ∈ fp,H' b=none)∧W i n σ' H') ?_ m0 ⟨0,σ,H2,I2,st2,fun b hb=>(f2 b hb).1,w0⟩
 rintro n s3 ⟨i,σ3,H3,I3,st3,fr3,w3⟩
 rcases turn i n σ3 H3 w3 with ⟨stop,qn⟩ | ⟨go,N,hN,step⟩
 ·refine wpAny_passesOwn hp (thn (T.done X rfl rfl rfl hc i pins s3 σ3 H3 X.xe I3 (stat fr3) st3 stop) fun r s4 ⟨hr,I4⟩=>?_)
  subst hr
  exact wpAny_execs_nil ⟨σ3,H3,I4,qn⟩
 ·refine wpAny_passesOwn hp (thn (T.item X rfl rfl rfl hc i pins s3 σ3 H3 X.xe I3 (stat fr3) st3 go) fun r s4 ⟨u,hr,h4⟩=>?_)
  subst hr
  refine wpAny_passesOwn hp (thn h4 fun _ s5 ⟨x,H5,I5,r5,y5,st5,fr5⟩=>?_)
  have I5':=I5.pinned (stat fr5) (T.obj _ _ st5)
  refine wpAny_passesOwn hp (thn (hg _ s5 σ3 H5 x u _ I5' r5 (step x H5 y5)) fun _ s6 ⟨σ6,H6,I6,q6⟩=>?_)
  refine wpAny_passesOwn hp (thn (hb _ s6 σ6 H6 _ I6 q6) fun f s7 q7=>?_)
  have again:∀ {σ7:St} {H7:Hp},Inv X (pins ++ Yu fp s5.heap) σ7 H7 s7→N σ7 H7→∃ m,m < n∧∃ i σ' H',Inv X pins σ' H' s7∧tn i s7.heap∧(∀ b ∈ fp,H' b=none)∧W i m σ' H':=fun {σ7 H7} I7 n7=>by
   obtain ⟨m',hm,w7⟩:=hN σ7 H7 n7
   refine ⟨m',hm,i + 1,σ7,H7,I7.unpinned,T.keep _ _ _ st5 fun b hb o e=>(I7.pin (b,o) (List.mem_append_right _ (List.mem_append_right _ (ak hb e)))).1,fun b hb=>?_,w7⟩
   obtain ⟨o,e,d⟩:=T.obj _ _ st5 b hb
   exact (I7.pin (b,o) (List.mem_append_right _ (List.mem_append_right _ (ak hb e)))).2.1
  cases f with
  | next=>obtain ⟨σ7,H7,I7,n7⟩:=q7;exact again I7 n7
  | cont=>obtain ⟨σ7,H7,I7,n7⟩:=q7;exact again I7 n7
  | brk=>obtain ⟨σ7,H7,I7,q7⟩:=q7;exact ⟨σ7,H7,I7.unpinned,q7⟩
  | ret v=>obtain ⟨x7,σ7,H7,I7,r7,q7⟩:=q7;exact ⟨x7,σ7,H7,I7.unpinned,r7,q7⟩
end
theorem pH {K:PySem.W.Frag} {a:Addr} {xs:List V} {g:TG} {tb:TS} {D:lg} {σ:St} {H:Hp} (Pv:Nat→St→Hp→Prop) (h0:Pv 0 σ H) (hl:∀ i σ H,i ≤ xs.length→Pv i σ H→SqL K H a xs)
  (hs:∀ i x σ H,xs[i]? = some x→Pv i σ H→g x σ H fun σ2 H2=>tb { D with nx:=Pv (i + 1),ct:=Pv (i + 1),bk:=D.nx } σ2 H2) (hd:∀ σ H,Pv xs.length σ H→D.nx σ H) :
  ∃ W:Nat→Nat→St→Hp→Prop,(∃ m,W 0 m σ H)∧∀ i m σ H,W i m σ H →
   ((Itl K a).stop i H∧D.nx σ H)∨((Itl K a).go i H∧∃ N:St→Hp→Prop,(∀ σ' H',N σ' H'→∃ m',m' < m∧W (i + 1) m' σ' H')∧∀ x H',(Itl K a).yld i H x H'→g x σ H' fun σ2 H2=>tb { D with nx:=N,ct:=N,bk:=D.nx } σ2 H2):=by
 refine ⟨fun i m σ H=>m=xs.length - i∧i ≤ xs.length∧Pv i σ H,⟨xs.length,by simp,Nat.zero_le _,h0⟩,?_⟩
 rintro i m σ H ⟨rfl,hi,p⟩
 have q:=hl i σ H hi p
 by_cases hlt:i < xs.length
 ·refine .inr ⟨⟨xs,xs[i],q,by simp [hlt]⟩,Pv (i + 1),fun σ' H' p'=>⟨xs.length - (i + 1),by omega,rfl,hlt,p'⟩,fun x H' y=>?_⟩
  obtain ⟨e,y⟩:=y
  subst e
  exact hs i x σ _ (y xs q) p
 ·have e:i=xs.length:=by omega
  subst e
  exact .inl ⟨⟨xs,q,Nat.le_refl _⟩,hd σ H p⟩
theorem KK {K:PySem.W.Frag} {a:Addr} {xs:List V} {g:TG} {tb:TS} {D:lg} {σ:St} {H:Hp} (Pv:Nat→St→Hp→Prop) (h0:Pv 0 σ H) (hl:∀ i σ H,i ≤ xs.length→Pv i σ H→SqT K H a xs)
  (hs:∀ i x σ H,xs[i]? = some x→Pv i σ H→g x σ H fun σ2 H2=>tb { D with nx:=Pv (i + 1),ct:=Pv (i + 1),bk:=D.nx } σ2 H2) (hd:∀ σ H,Pv xs.length σ H→D.nx σ H) :
  ∃ W:Nat→Nat→St→Hp→Prop,(∃ m,W 0 m σ H)∧∀ i m σ H,W i m σ H →
   ((Itt K a).stop i H∧D.nx σ H)∨((Itt K a).go i H∧∃ N:St→Hp→Prop,(∀ σ' H',N σ' H'→∃ m',m' < m∧W (i + 1) m' σ' H')∧∀ x H',(Itt K a).yld i H x H'→g x σ H' fun σ2 H2=>tb { D with nx:=N,ct:=N,bk:=D.nx } σ2 H2):=by
 refine ⟨fun i m σ H=>m=xs.length - i∧i ≤ xs.length∧Pv i σ H,⟨xs.length,by simp,Nat.zero_le _,h0⟩,?_⟩
 rintro i m σ H ⟨rfl,hi,p⟩
 have q:=hl i σ H hi p
 by_cases hlt:i < xs.length
 ·refine .inr ⟨⟨xs,xs[i],q,by simp [hlt]⟩,Pv (i + 1),fun σ' H' p'=>⟨xs.length - (i + 1),by omega,rfl,hlt,p'⟩,fun x H' y=>?_⟩
  obtain ⟨e,y⟩:=y
  subst e
  exact hs i x σ _ (y xs q) p
 ·have e:i=xs.length:=by omega
  subst e
  exact .inl ⟨⟨xs,q,Nat.le_refl _⟩,hd σ H p⟩
theorem bC {lo:Int} {n:Nat} {g:TG} {tb:TS} {D:lg} {σ:St} {H:Hp} (Pv:Nat→St→Hp→Prop) (h0:Pv 0 σ H)
  (hs:∀ i σ H,i < n→Pv i σ H→g (.int (lo + i)) σ H fun σ2 H2=>tb { D with nx:=Pv (i + 1),ct:=Pv (i + 1),bk:=D.nx } σ2 H2) (hd:∀ σ H,Pv n σ H→D.nx σ H) :
  ∃ W:Nat→Nat→St→Hp→Prop,(∃ m,W 0 m σ H)∧∀ i m σ H,W i m σ H →
   ((Itr lo n).stop i H∧D.nx σ H)∨((Itr lo n).go i H∧∃ N:St→Hp→Prop,(∀ σ' H',N σ' H'→∃ m',m' < m∧W (i + 1) m' σ' H')∧∀ x H',(Itr lo n).yld i H x H'→g x σ H' fun σ2 H2=>tb { D with nx:=N,ct:=N,bk:=D.nx } σ2 H2):=by
 refine ⟨fun i m σ H=>m=n - i∧i ≤ n∧Pv i σ H,⟨n,by simp,Nat.zero_le _,h0⟩,?_⟩
 rintro i m σ H ⟨rfl,hi,p⟩
 by_cases hlt:i < n
 ·refine .inr ⟨hlt,Pv (i + 1),fun σ' H' p'=>⟨n - (i + 1),by omega,rfl,hlt,p'⟩,fun x H' y=>?_⟩
  obtain ⟨e,y⟩:=y
  subst e y
  exact hs i σ _ hlt p
 ·have e:i=n:=by omega
  subst e
  exact .inl ⟨Nat.le_refl _,hd σ H p⟩
end L2
namespace L2
open PySem PySem.Spec PyProof.Rows
noncomputable abbrev R2:=V→V→Hp→VK→Prop
noncomputable def OpR (X:Cx) (f:Value→Value→Sem Value) (r:R2):Prop:=
 ∀ (pins:List (Addr × Obj)) (s:Shared) (σ:St) (H:Hp) (x y:V) (v u:Value) (Q:VK),Inv X pins σ H s→Ed x v→Ed y u→r x y H Q →
  wpAny (model X.prog X.w) X.A (f v u) (EP X pins σ Q) X.xe s
noncomputable def UnR (X:Cx) (f:Value→Sem Value) (r:V→Hp→VK→Prop):Prop:=
 ∀ (pins:List (Addr × Obj)) (s:Shared) (σ:St) (H:Hp) (x:V) (v:Value) (Q:VK),Inv X pins σ H s→Ed x v→r x H Q →
  wpAny (model X.prog X.w) X.A (f v) (EP X pins σ Q) X.xe s
noncomputable def sk (X:Cx) (f:Value) (r:List V→Hp→VK→Prop):Prop:=
 ∀ (pins:List (Addr × Obj)) (s:Shared) (σ:St) (H:Hp) (xs:List V) (us:List Value) (Q:VK),Inv X pins σ H s→Uc xs us→r xs H Q →
  wpAny (model X.prog X.w) X.A (call f us) (EP X pins σ Q) X.xe s
noncomputable def yP (X:Cx) (r:V→Hp→(Bool→Hp→Prop)→Prop):Prop:=
 ∀ (pins:List (Addr × Obj)) (s:Shared) (σ:St) (H:Hp) (x:V) (v:Value) (Q:Bool→Hp→Prop),Inv X pins σ H s→Ed x v→r x H Q →
  wpAny (model X.prog X.w) X.A (truthy v) (TP X pins σ Q) X.xe s
noncomputable def tOp (r:R2) (ta tb:TE):TE:=fun σ H Q=>ta σ H fun x H1=>tb σ H1 fun y H2=>r x y H2 Q
noncomputable def tUn (r:V→Hp→VK→Prop) (ta:TE):TE:=fun σ H Q=>ta σ H fun x H1=>r x H1 Q
noncomputable def rI (C:Int→Int→Prop) (g:Int→Int→V):R2:=fun x y H Q=>∃ i j,x=.int i∧y=.int j∧C i j∧Q (g i j) H
noncomputable def rI0 (g:Int→Int→V):R2:=fun x y H Q=>∃ i j,x=.int i∧y=.int j∧Q (g i j) H
noncomputable def rU (g:Int→V):V→Hp→VK→Prop:=fun x H Q=>∃ i,x=.int i∧Q (g i) H
section
variable {X:Cx} {a b c:Expr} {ta tb tc:TE} {pos:Pos}
theorem bO (ha:PE X a ta) (hb:PE X b tb) {pins:List (Addr × Obj)} {s:Shared} {σ:St} {H:Hp} {R:V→V→Hp→Prop} (I:Inv X pins σ H s)
  (h:ta σ H fun x H1=>tb σ H1 fun y H2=>R x y H2) {Q:Value→Shared→Prop} {f:Value→Value→Sem Value}
  (hf:∀ v u s2 x y H2,Inv X pins σ H2 s2→Ed x v→Ed y u→R x y H2→wpAny (model X.prog X.w) X.A (f v u) Q X.xe s2) :
  wpAny (model X.prog X.w) X.A (eval a X.env) (fun v s₁=>wpAny (model X.prog X.w) X.A (eval b X.env) (fun u s₂=>wpAny (model X.prog X.w) X.A (f v u) Q X.xe s₂) X.xe s₁) X.xe s:=by
 refine thn (ha pins s σ H _ I h) fun v s1 ⟨x,H1,I1,r1,q1⟩=>?_
 refine thn (hb pins s1 σ H1 _ I1 q1) fun u s2 ⟨y,H2,I2,r2,q2⟩=>?_
 exact hf v u s2 x y H2 I2 r1 r2 q2
theorem Ic {op:Operator} {r:R2} (ho:OpR X (binaryOp op) r) (ha:PE X a ta) (hb:PE X b tb):PE X (.BinOp a op b pos) (tOp r ta tb):=by
 intro pins s σ H Q I h
 exact wpAny_BinOp (bO ha hb I h fun v u s2 x y H2 I2 rx ry q=>ho pins s2 σ H2 x y v u Q I2 rx ry q)
theorem jM {op:UnaryOp} {r:V→Hp→VK→Prop} (ho:UnR X (unaryOp op) r) (ha:PE X a ta):PE X (.UnaryOp op a pos) (tUn r ta):=by
 intro pins s σ H Q I h
 exact UnaryOp_ (thn (ha pins s σ H _ I h) fun v s1 ⟨x,H1,I1,r1,q1⟩=>ho pins s1 σ H1 x v Q I1 r1 q1)
theorem opI {f:Value→Value→Sem Value} {C:Int→Int→Prop} {g:Int→Int→Int}
  (rule:∀ (i j:Int) (t u:Tok) (s:Shared) (Q:Value→Shared→Prop) (E:Value→Shared→Prop),C i j→Q (.int (g i j) s.toks) { s with toks:=s.toks + 1 }→wpAny (model X.prog X.w) X.A (f (.int i t) (.int j u)) Q E s) :
  OpR X f (rI C fun i j=>.int (g i j)):=by
 intro pins s σ H x y v u Q I rx ry h
 obtain ⟨i,j,rfl,rfl,hc,q⟩:=h
 obtain ⟨t,rfl⟩:=rx
 obtain ⟨t',rfl⟩:=ry
 exact rule i j t t' s _ _ hc ⟨.int (g i j),H,I.tok _,⟨_,rfl⟩,q⟩
theorem aP {f:Value→Value→Sem Value} {g:Int→Int→Int}
  (rule:∀ (i j:Int) (t u:Tok) (s:Shared) (Q:Value→Shared→Prop) (E:Value→Shared→Prop),Q (.int (g i j) s.toks) { s with toks:=s.toks + 1 }→wpAny (model X.prog X.w) X.A (f (.int i t) (.int j u)) Q E s) :
  OpR X f (rI0 fun i j=>.int (g i j)):=by
 intro pins s σ H x y v u Q I rx ry h
 obtain ⟨i,j,rfl,rfl,q⟩:=h
 obtain ⟨t,rfl⟩:=rx
 obtain ⟨t',rfl⟩:=ry
 exact rule i j t t' s _ _ ⟨.int (g i j),H,I.tok _,⟨_,rfl⟩,q⟩
theorem dO {f:Value→Value→Sem Value} {g:Int→Int→Bool}
  (rule:∀ (i j:Int) (t u:Tok) (s:Shared) (Q:Value→Shared→Prop) (E:Value→Shared→Prop),Q (.bool (g i j)) s→wpAny (model X.prog X.w) X.A (f (.int i t) (.int j u)) Q E s) :
  OpR X f (rI0 fun i j=>.bl (g i j)):=by
 intro pins s σ H x y v u Q I rx ry h
 obtain ⟨i,j,rfl,rfl,q⟩:=h
 obtain ⟨t,rfl⟩:=rx
 obtain ⟨t',rfl⟩:=ry
 exact rule i j t t' s _ _ ⟨.bl (g i j),H,I,rfl,q⟩
noncomputable def gI (i j:Int):Prop:=(-(2 ^ 64) < i∧i < 2 ^ 64)∨(-(2 ^ 64) < j∧j < 2 ^ 64)
theorem gI.ok {i j:Int} (h:gI i j):IntMulOk i j:=by
 rcases h with ⟨h1,h2⟩ | ⟨h1,h2⟩
 ·exact .of_left (intBits_le_64 h1 h2)
 ·exact .of_right (intBits_le_64 h1 h2)
theorem cg:OpR X (binaryOp .Add) (rI0 fun i j=>.int (i + j)):=aP fun _ _ _ _ _ _ _ q=>add_int q
theorem yk:OpR X (binaryOp .Sub) (rI0 fun i j=>.int (i - j)):=aP fun _ _ _ _ _ _ _ q=>sub_int q
theorem yt:OpR X (binaryOp .Mult) (rI gI fun i j=>.int (i * j)):=opI fun _ _ _ _ _ _ _ hc q=>mul_int q hc.ok
theorem Xh:OpR X (binaryOp .Mod) (rI (fun _ j=>0 < j) fun i j=>.int (i % j)):=opI fun i j _ _ _ _ _ hc q=>by
 have h1:(0:Int) < j:=hc
 exact mod_int' (by omega) (by rw [Int.fmod_eq_emod_of_nonneg i (by omega)];exact q)
theorem unI {f:Value→Sem Value} {g:Int→Int}
  (rule:∀ (i:Int) (t:Tok) (s:Shared) (Q:Value→Shared→Prop) (E:Value→Shared→Prop),Q (.int (g i) s.toks) { s with toks:=s.toks + 1 }→wpAny (model X.prog X.w) X.A (f (.int i t)) Q E s) :
  UnR X f (rU fun i=>.int (g i)):=by
 intro pins s σ H x v Q I rx h
 obtain ⟨i,rfl,q⟩:=h
 obtain ⟨t,rfl⟩:=rx
 exact rule i t s _ _ ⟨.int (g i),H,I.tok _,⟨_,rfl⟩,q⟩
theorem kI:UnR X (unaryOp .USub) (rU fun i=>.int (-i)):=unI fun _ _ _ _ _ q=>neg_int q
end
noncomputable def rM:V→V→Bool
 | .non,.non=>true | .non,.int _=>true | .int _,.non=>true | .non,.bl _=>true | .bl _,.non=>true | .non,.str _=>true | .str _,.non=>true
 | .int _,.int _=>true | .bl _,.bl _=>true | .str _,.str _=>true | .byt _,.byt _=>true
 | .int _,.str _=>true | .str _,.int _=>true | .bl _,.str _=>true | .str _,.bl _=>true
 | _,_=>false
noncomputable def rEq:R2:=fun x y H Q=>rM x y=true∧Q (.bl (decide (x=y))) H
noncomputable def rNe:R2:=fun x y H Q=>rM x y=true∧Q (.bl (!decide (x=y))) H
theorem GD {i j:Int}:decide (V.int i=V.int j)=(i == j):=by
 rw [Bool.eq_iff_iff]
 simp
theorem BH {i j:Bool}:decide (V.bl i=V.bl j)=(i == j):=by
 rw [Bool.eq_iff_iff]
 simp
theorem aC {i j:Str}:decide (V.str i=V.str j)=(i == j):=by
 rw [Bool.eq_iff_iff]
 simp
theorem EB {i j:Array UInt8}:decide (V.byt i=V.byt j)=(i.toList == j.toList):=by
 rw [Bool.eq_iff_iff]
 cases i
 cases j
 simp
section
variable {X:Cx} {a b c:Expr} {ta tb tc:TE} {pos:Pos}
theorem Zc {pins:List (Addr × Obj)} {σ:St} {H:Hp} {s:Shared} {Q:VK} {k k':Bool} (I:Inv X pins σ H s) (q:Q (.bl k) H) (e:k=k'):EP X pins σ Q (.bool k') s:=by
 subst e
 exact ⟨.bl k,H,I,rfl,q⟩
theorem ij:OpR X (compareOp .Eq) rEq:=by
 intro pins s σ H x y v u Q I rx ry h
 obtain ⟨hs,q⟩:=h
 cases x with
 | non=>
  cases rx
  cases y with
  | non=>cases ry;exact PySem.EqNone.eq_none_none (Zc I q (by simp))
  | bl j=>cases ry;exact PySem.EqNone.eq_none_bool (Zc I q (by simp))
  | int j=>obtain ⟨t',rfl⟩:=ry;exact PySem.EqNone.eq_none_int (Zc I q (by simp))
  | str j=>obtain ⟨t',rfl⟩:=ry;exact PySem.EqNone.eq_none_str (Zc I q (by simp))
  | _=>exact absurd (show false=true from hs) Bool.false_ne_true
 | bl i=>
  cases rx
  cases y with
  | non=>cases ry;exact PySem.EqNone.eq_bool_none (Zc I q (by simp))
  | bl j=>cases ry;exact eq_bool (Zc I q BH)
  | str j=>obtain ⟨t',rfl⟩:=ry;exact PySem.EqMixed.eq_bool_str (Zc I q (by simp))
  | _=>exact absurd (show false=true from hs) Bool.false_ne_true
 | int i=>
  obtain ⟨t,rfl⟩:=rx
  cases y with
  | non=>cases ry;exact PySem.EqNone.eq_int_none (Zc I q (by simp))
  | int j=>obtain ⟨t',rfl⟩:=ry;exact eq_int (Zc I q GD)
  | str j=>obtain ⟨t',rfl⟩:=ry;exact PySem.EqMixed.eq_int_str (Zc I q (by simp))
  | _=>exact absurd (show false=true from hs) Bool.false_ne_true
 | str i=>
  obtain ⟨t,rfl⟩:=rx
  cases y with
  | non=>cases ry;exact PySem.EqNone.eq_str_none (Zc I q (by simp))
  | bl j=>cases ry;exact PySem.EqMixed.eq_str_bool (Zc I q (by simp))
  | int j=>obtain ⟨t',rfl⟩:=ry;exact PySem.EqMixed.eq_str_int (Zc I q (by simp))
  | str j=>obtain ⟨t',rfl⟩:=ry;exact eq_str (Zc I q aC)
  | _=>exact absurd (show false=true from hs) Bool.false_ne_true
 | byt i=>
  obtain ⟨t,rfl⟩:=rx
  cases y with
  | byt j=>obtain ⟨t',rfl⟩:=ry;exact PySem.W.eq_bytes (Zc I q EB)
  | _=>exact absurd (show false=true from hs) Bool.false_ne_true
 | _=>cases y <;> exact absurd (show false=true from hs) Bool.false_ne_true
theorem EG:OpR X (compareOp .NotEq) rNe:=by
 intro pins s σ H x y v u Q I rx ry h
 obtain ⟨hs,q⟩:=h
 cases x with
 | non=>
  cases rx
  cases y with
  | non=>cases ry;exact PySem.EqNone.ne_none_none (Zc I q (by simp))
  | bl j=>cases ry;exact PySem.EqNone.ne_none_bool (Zc I q (by simp))
  | int j=>obtain ⟨t',rfl⟩:=ry;exact PySem.EqNone.ne_none_int (Zc I q (by simp))
  | str j=>obtain ⟨t',rfl⟩:=ry;exact PySem.EqNone.ne_none_str (Zc I q (by simp))
  | _=>exact absurd (show false=true from hs) Bool.false_ne_true
 | bl i=>
  cases rx
  cases y with
  | non=>cases ry;exact PySem.EqNone.ne_bool_none (Zc I q (by simp))
  | bl j=>cases ry;exact ne_bool (Zc I q (congrArg not BH))
  | str j=>obtain ⟨t',rfl⟩:=ry;exact PySem.EqMixed.ne_bool_str (Zc I q (by simp))
  | _=>exact absurd (show false=true from hs) Bool.false_ne_true
 | int i=>
  obtain ⟨t,rfl⟩:=rx
  cases y with
  | non=>cases ry;exact PySem.EqNone.ne_int_none (Zc I q (by simp))
  | int j=>obtain ⟨t',rfl⟩:=ry;exact ne_int (Zc I q (congrArg not GD))
  | str j=>obtain ⟨t',rfl⟩:=ry;exact PySem.EqMixed.ne_int_str (Zc I q (by simp))
  | _=>exact absurd (show false=true from hs) Bool.false_ne_true
 | str i=>
  obtain ⟨t,rfl⟩:=rx
  cases y with
  | non=>cases ry;exact PySem.EqNone.ne_str_none (Zc I q (by simp))
  | bl j=>cases ry;exact PySem.EqMixed.ne_str_bool (Zc I q (by simp))
  | int j=>obtain ⟨t',rfl⟩:=ry;exact PySem.EqMixed.ne_str_int (Zc I q (by simp))
  | str j=>obtain ⟨t',rfl⟩:=ry;exact ne_str (Zc I q (congrArg not aC))
  | _=>exact absurd (show false=true from hs) Bool.false_ne_true
 | byt i=>
  obtain ⟨t,rfl⟩:=rx
  cases y with
  | byt j=>obtain ⟨t',rfl⟩:=ry;exact PySem.W.ne_bytes (Zc I q (congrArg not EB))
  | _=>exact absurd (show false=true from hs) Bool.false_ne_true
 | _=>cases y <;> exact absurd (show false=true from hs) Bool.false_ne_true
theorem Ax:OpR X (compareOp .Lt) (rI0 fun i j=>.bl (decide (i < j))):=dO fun _ _ _ _ _ _ _ q=>lt_int q
theorem fO:OpR X (compareOp .LtE) (rI0 fun i j=>.bl (decide (i ≤ j))):=dO fun _ _ _ _ _ _ _ q=>le_int q
theorem nK:OpR X (compareOp .Gt) (rI0 fun i j=>.bl (decide (j < i))):=dO fun _ _ _ _ _ _ _ q=>gt_int q
theorem KD:OpR X (compareOp .In) (fun x y H Q=>∃ i j,x=.str i∧y=.str j∧Q (.bl (!(Builtin.Str.occurrences j i 0 j.length 1).isEmpty)) H):=by
 intro pins s σ H x y v u Q I rx ry h
 obtain ⟨i,j,rfl,rfl,q⟩:=h
 obtain ⟨t,rfl⟩:=rx
 obtain ⟨t',rfl⟩:=ry
 exact in_str (Zc I q rfl)
theorem nD:OpR X (compareOp .IsNot) (fun x y H Q=>y=.non∧Q (.bl (!decide (x=.non))) H):=by
 intro pins s σ H x y v u Q I rx ry h
 obtain ⟨rfl,q⟩:=h
 cases ry
 refine isnot_none_gen (Zc I q ?_)
 cases x <;> first
  | (cases rx;rfl)
  | (obtain ⟨t,rfl⟩:=rx;rfl)
theorem OpR.or {f:Value→Value→Sem Value} {r r':R2} (h:OpR X f r) (h':OpR X f r'):OpR X f (fun x y H Q=>r x y H Q∨r' x y H Q):=by
 intro pins s σ H x y v u Q I rx ry q
 rcases q with q | q
 ·exact h pins s σ H x y v u Q I rx ry q
 ·exact h' pins s σ H x y v u Q I rx ry q
theorem Lc (b:Expr) {op:CmpOp} (h:op ≠ .In:=by decide) (h2:op ≠ .NotIn:=by decide):behindInMarks op b=false:=by
 have e1:(op == CmpOp.In)=false:=by cases op <;> first | rfl | exact absurd rfl h
 have e2:(op == CmpOp.NotIn)=false:=by cases op <;> first | rfl | exact absurd rfl h2
 cases b <;> simp [behindInMarks,e1,e2]
theorem Oe {op:CmpOp} {r:R2} (ho:OpR X (compareOp op) r) (ha:PE X a ta) (hb:PE X b tb) (hm:behindInMarks op b=false):PE X (.Compare a [op] [b] pos) (tOp r ta tb):=by
 intro pins s σ H Q I h
 exact wpAny_Compare1 (bO ha hb I h fun v u s2 x y H2 I2 rx ry q=>ho pins s2 σ H2 x y v u Q I2 rx ry q) hm
noncomputable def zN (t:TE):TT:=fun σ H Q=>t σ H fun x H'=>∃ k,x=.bl k∧Q k H'
theorem Pc {op:CmpOp} {r:R2} (ho:OpR X (compareOp op) r) (ha:PE X a ta) (hb:PE X b tb) (hm:behindInMarks op b=false):PT X (.Compare a [op] [b] pos) (zN (tOp r ta tb)):=by
 intro pins s σ H Q I h
 refine wpAny_isTrue_Compare1 (thn (ha pins s σ H _ I h) fun v s1 ⟨x,H1,I1,r1,q1⟩=>thn (hb pins s1 σ H1 _ I1 q1) fun u s2 ⟨y,H2,I2,r2,q2⟩=>
  thn (ho pins s2 σ H2 x y v u _ I2 r1 r2 q2) fun c s3 ⟨z,H3,I3,r3,k,e,q3⟩=>?_) hm
 subst e
 cases r3
 exact wpAny_truthy_bool ⟨H3,I3,q3⟩
noncomputable def GL (r r':R2) (ta tb tc:TE):TE:=fun σ H Q=>ta σ H fun x H1=>tb σ H1 fun y H2=>r x y H2 fun z H3=>∃ k,z=.bl k ∧
 (if k=true then tc σ H3 fun w' H4=>r' y w' H4 Q else Q (.bl false) H3)
noncomputable def bP (K:PySem.W.Frag) (x:V) (H:Hp) (k:Bool):Prop:=
 match x with
 | .non=>k=false
 | .bl b=>k=b
 | .int i=>k=(i != 0)
 | .str y=>y.length ≤ sizeLine∧k=((y.length:Int) != 0)
 | .byt y=>y.size ≤ sizeLine∧k=((y.size:Int) != 0)
 | .ref p=>(∃ xs,SqL K H p xs∧k = !xs.isEmpty)∨(∃ xs,SqT K H p xs∧k = !xs.isEmpty)∨∃ kvs,H p=some (.dK kvs)∧k = !kvs.isEmpty
 | _=>False
theorem Fz {κ:Type} {kvs:List (κ × V)} {vs:List (κ × Value)} (r:KV kvs vs):(!vs.isEmpty) = !kvs.isEmpty:=by
 cases r <;> rfl
theorem Dt {xs:List V} {its:List Value} (r:Uc xs its):(!its.toArray.isEmpty) = !xs.isEmpty:=by
 cases r <;> simp
theorem Xq:(sizeLine:Nat) < 2 ^ 63:=by rw [sizeLine_eq];decide
theorem CM:yP X (fun x H Q=>∃ k,bP X.K x H k∧Q k H):=by
 intro pins s σ H x v Q I rx h
 obtain ⟨k,e,q⟩:=h
 have hl:=Xq
 have hs:sizeLine=16777216:=sizeLine_eq
 cases x with
 | non=>
  cases rx
  have e':k=false:=e
  subst e'
  exact truthy_none ⟨H,I,q⟩
 | bl b=>
  cases rx
  have e':k=b:=e
  subst e'
  exact wpAny_truthy_bool ⟨H,I,q⟩
 | int i=>
  obtain ⟨t,rfl⟩:=rx
  have e':k=(i != 0):=e
  subst e'
  exact PySem.P.truthy_int ⟨H,I,q⟩
 | str y=>
  obtain ⟨t,rfl⟩:=rx
  obtain ⟨hy,e'⟩:y.length ≤ sizeLine∧k=((y.length:Int) != 0):=e
  subst e'
  exact PySem.P.truthy_str (by omega) ⟨H,I.tok _,q⟩
 | byt y=>
  obtain ⟨t,rfl⟩:=rx
  obtain ⟨hy,e'⟩:y.size ≤ sizeLine∧k=((y.size:Int) != 0):=e
  subst e'
  exact PySem.W.truthy_bytes (by omega) ⟨H,I.tok _,q⟩
 | ref p=>
  cases rx
  have e':(∃ xs,SqL X.K H p xs∧k = !xs.isEmpty)∨(∃ xs,SqT X.K H p xs∧k = !xs.isEmpty)∨∃ kvs,H p=some (.dK kvs)∧k = !kvs.isEmpty:=e
  rcases e' with ⟨xs,hx,e'⟩ | ⟨xs,hx,e'⟩ | ⟨kvs,hx,e'⟩
  ·subst e'
   obtain ⟨its,r,pl,hz⟩:=I.list hx
   have hlen:=r.length
   exact wpAny_truthy_list pl.isList (by simp only [List.size_toArray];omega) ⟨H,I.tok _,by rw [Dt r];exact q⟩
  ·subst e'
   obtain ⟨its,r,pl,hz⟩:=I.tuple hx
   have hlen:=r.length
   exact truthy_tuple pl (by simp only [List.size_toArray];omega) ⟨H,I.tok _,by rw [Dt r];exact q⟩
  ·subst e'
   obtain ⟨hz,hS,vs,r,m⟩:kvs.length ≤ sizeLine∧(p == sysModules)=false∧∃ vs,KV kvs vs∧s.heap.DictOf (Ve X.prog X.w) p vs:=I.hok p _ hx
   have hlen:kvs.length=vs.length:=Paired.length r
   exact wpAny_truthy_dict hS m (by omega) ⟨H,I.tok _,by rw [Fz r];exact q⟩
 | _=>exact (show False from e).elim
theorem lz (ha:PE X a ta) (he:∀ whole,isTrue a X.env whole=(do let v ← whole;standAt a.pos;holding [v] (truthy v))) :
  PT X a (fun σ H Q=>ta σ H fun x H'=>∃ k,bP X.K x H' k∧Q k H'):=by
 intro pins s σ H Q I h
 exact isTrue_plain (thn (ha pins s σ H _ I h) fun v s1 ⟨x,H1,I1,r1,q1⟩=>CM pins s1 σ H1 x v Q I1 r1 q1) (he _)
theorem Wd:OpR X (binaryOp .Add) (fun x y H Q=>∃ i j,x=.str i∧y=.str j∧i.length + j.length ≤ sizeLine∧Q (.str (i ++ j)) H):=by
 intro pins s σ H x y v u Q I rx ry h
 obtain ⟨i,j,rfl,rfl,hz,q⟩:=h
 obtain ⟨t,rfl⟩:=rx
 obtain ⟨t',rfl⟩:=ry
 exact add_str (fun t' tk=>⟨.str (i ++ j),H,I.tok _,⟨_,rfl⟩,q⟩) hz
theorem Mw {x:V} {us:List Value} (r:Uc [x] us):∃ u,us=[u]∧Ed x u:=by
 cases r with
 | cons r1 r2=>cases r2;exact ⟨_,rfl,r1⟩
theorem nE {x y:V} {us:List Value} (r:Uc [x,y] us):∃ u w',us=[u,w']∧Ed x u∧Ed y w':=by
 cases r with
 | cons r1 r2=>
  cases r2 with
  | cons r3 r4=>cases r4;exact ⟨_,_,rfl,r1,r3⟩
theorem vE (hc:X.calm=true):sk X (.builtin "max") (fun xs H Q=>∃ i j,xs=[.int i,.int j]∧Q (.int (if j > i then j else i)) H):=by
 intro pins s σ H xs us Q I r h
 obtain ⟨i,j,rfl,q⟩:=h
 obtain ⟨u,w',rfl,⟨t,rfl⟩,⟨t',rfl⟩⟩:=nE r
 refine max_two_ints (I.ok.hd hc) fun h' tk k=>⟨_,H,I.kept k,?_,q⟩
 by_cases hj:j > i
 ·rw [if_pos hj,if_pos hj];exact ⟨_,rfl⟩
 ·rw [if_neg hj,if_neg hj];exact ⟨_,rfl⟩
theorem vj:sk X (.type "str") (fun xs H Q=>∃ i,xs=[.int i]∧i.natAbs.log2 < 1920∧Q (.str (toString i)) H):=by
 intro pins s σ H xs us Q I r h
 obtain ⟨i,rfl,hz,q⟩:=h
 obtain ⟨u,rfl,t,rfl⟩:=Mw r
 exact PySem.P.str_of_int hz ⟨.str _,H,I.tok _,⟨_,rfl⟩,q⟩
end
end L2
namespace L2
open PySem PySem.Spec PyProof.Rows
structure QI (h:Heap) (x dx C:Addr) (mA:Str→Option Value):Prop where
 obj:h.get? x=some (PySem.W.instObj C dx)
 ns:h.Ns1 dx mA
 ne:dx ≠ x
theorem Mm {h:Heap} {dx:Addr} {mA:Str→Option Value} (n:h.Ns1 dx mA):∃ od,h.get? dx=some od∧∀ name,PySem.W.lookIn name od=some (mA name):=by
 obtain ⟨o,es,ep,ho,hd,hk,_,hm⟩:=n
 refine ⟨o,ho,fun name=>?_⟩
 have e:=hm name
 unfold nsFind findBy at e
 rw [← Array.find?_toList] at e
 unfold PySem.W.lookIn
 rw [hd]
 dsimp only
 split
 ·rename_i y q
  rw [q] at e
  exact congrArg some e
 ·rename_i q
  rw [q] at e
  have a:es.toList.any (·.refKey)=false:=by
   rw [List.any_eq_false]
   intro y hy
   obtain ⟨z,t,hkey⟩:=hk y (Array.mem_toList_iff.mp hy)
   simp [DictEntry.refKey,hkey]
  have a':¬ es.toList.any (·.refKey)=true:=by rw [a];exact Bool.false_ne_true
  rw [if_neg a']
  exact congrArg some e
theorem QI.look {h:Heap} {x dx C:Addr} {mA:Str→Option Value} (I:QI h x dx C mA):∃ od,PySem.W.InstAt h x (PySem.W.instObj C dx) C (some od)∧∀ name,PySem.W.lookIn name od=some (mA name):=
 let ⟨od,ho,hl⟩:=Mm I.ns
 ⟨od,⟨I.obj,rfl,rfl,ho⟩,hl⟩
section
variable {prog:Program} {w:World} {A:Around} {E:Value→Shared→Prop} {s:Shared} {K:PySem.W.Frag} {x dx C f:Addr} {mA:Str→Option Value} {name:Str} {v:Value}
theorem cJ {expr:Bool} {Q:Value→Shared→Prop} (X:K.In s.heap) (I:QI s.heap x dx C mA) (hg:PySem.W.plainGet K C name=true) (hh:PySem.W.hasDictIn K C=true)
  (ha:PySem.W.findIn K (.ref C) name=some none) (hv:mA name=some v) (hv':PySem.W.handedIn v=true) (h:Q v { s with toks:=s.toks + 1 }) :
  wpAny (model prog w) A (getAttr (.ref x) name expr) Q E s:=by
 obtain ⟨od,J,hl⟩:=I.look
 exact PySem.W.get_value X J (PySem.W.plainGet_of hg).1 (PySem.W.findObj_own hh ha rfl (by rw [hl,hv])) hv' h
theorem lF {pl:Sem Bool} {Q:Value × List Value→Shared→Prop} (X:K.In s.heap) (I:QI s.heap x dx C mA) (hg:PySem.W.plainGet K C name=true)
  (hf:PySem.W.findIn K (.ref C) name=some (some (.ref f))) (ht:PySem.W.isFn K (.ref f)=true) (hv:mA name=none) (h:Q (.ref f,[.ref x]) s) :
  wpAny (model prog w) A (getMethod (.ref x) name pl) Q E s:=by
 obtain ⟨od,J,hl⟩:=I.look
 exact PySem.W.method_fn X J (PySem.W.plainGet_of hg).1 (PySem.W.plainGet_of hg).2 hf (beq_iff_eq.mp ht) (by show (PySem.W.lookIn name od).map (·.isSome)=some false;rw [hl,hv];rfl) h
theorem FI {ns:List Str} {Q:Unit→Shared→Prop} (X:K.In s.heap) (I:QI s.heap x dx C mA)
  (hs:PySem.W.findIn K (.ref C) "__setattr__"=some (some (.builtin "object.__setattr__"))) (hp:PySem.W.plainOver K C=true) (ht:PySem.W.takerIn K C name=some none) (hh:PySem.W.hasDictIn K C=true)
  (hw:PySem.Within mA ns) (hsz:ns.length ≤ sizeLine)
  (h:∀ h',QI h' x dx C (fun y=>if y=name then some v else mA y)→Heap.SameBut dx s.heap h'→Q () { s with heap:=h',toks:=s.toks + 2 }) :
  wpAny (model prog w) A (setAttr (.ref x) name v) Q E s:=by
 obtain ⟨od,J,hl⟩:=I.look
 refine PySem.W.set_plain X J hs (PySem.W.osa_open (s:={ s with toks:=s.toks + 1 }) (r:=none) X J hp ht fun b=>?_)
 obtain ⟨cd,hc,hd'⟩:=PySem.W.any_some hh
 have hx:s.heap.get? x=some ⟨.ref C,some dx,.plain,#[]⟩:=I.obj
 refine wpAny_bind (wpAny_pure (wpAny_bind (wpAny_bind (wpAny_loadPart hx (wpAny_bind (PySem.W.Looks.here (s:={ s with toks:=s.toks + 1 }) (PySem.W.looks_clsIn X hc) ?_))))))
 rw [hd']
 refine wpAny_pure (a:=some dx) (wpAny_bind (wpAny_pure (wpAny_bind ?_)))
 refine wpAny_nsSet1 (s:={ s with toks:=s.toks + 1 }) I.ns fun h' hn2 hs2=>?_
 obtain ⟨oD,esD,epD,hoD,hdD,hcD⟩:=hn2.count (PySem.Within.cons name v hw)
 refine wpAny_bind (wpAny_lookBehind hoD (by rw [hdD];exact pastItsLine_dict (Nat.le_trans hcD (by rw [List.length_cons];omega))) ?_)
 exact wpAny_pure (h _ ⟨(hs2.2 _ (Ne.symm I.ne)).trans I.obj,hn2,I.ne⟩ hs2)
theorem aG {R:Result→Shared→Prop} {vs:List Value} {kw:List (Str × Value)} (X:K.In s.heap) (hm:PySem.W.makesIn K C=true)
  (hi:PySem.W.findIn K (.ref C) "__init__"=some (some (.ref f))) (hf:PySem.W.typeIn K (.ref f)=some (.type "function"))
  (h:codeAny (model prog w) (A.under (.builtin "type.__call__" ⟨.ref C :: vs,kw⟩)) (.call (.ref f) ⟨.ref (s.heap.objs.size + 1) :: vs,kw⟩) (PySem.W.InitBack (s.heap.objs.size + 1) R)
   { s with heap:=(s.heap.push PySem.W.emptyDict).push (PySem.W.instObj C s.heap.objs.size) }) :
  codeAny (model prog w) A (.call (.ref C) ⟨vs,kw⟩) R s:=by
 obtain ⟨hh,g,d,t,os⟩:=s
 exact PySem.W.make_core (PySem.W.makes_of X hm) (PySem.W.looks_findIn X hi) (fun self=>PySem.W.bind_fn X self hf) (.inl rfl) h
end
noncomputable def rg (f:Str) (v:V):List (Str × V)→List (Str × V)
 | []=>[(f,v)]
 | (g,x) :: r=>if g=f then (g,v) :: r else (g,x) :: rg f v r
theorem ol (f g:Str) (v:V):∀ fs:List (Str × V),(rg f v fs).lookup g=if g=f then some v else fs.lookup g
 | []=>by
  show List.lookup g [(f,v)]=_
  by_cases h:g=f
  ·have hb:(g == f)=true:=beq_iff_eq.mpr h
   simp only [List.lookup,hb,if_pos h]
  ·have hb:(g == f)=false:=beq_eq_false_iff_ne.mpr h
   simp only [List.lookup,hb,if_neg h]
 | (k,x) :: r=>by
  have ih:=ol f g v r
  rw [show rg f v ((k,x) :: r)=(if k=f then (k,v) :: r else (k,x) :: rg f v r) from rfl]
  by_cases hk:k=f
  ·rw [if_pos hk]
   by_cases h:g=k
   ·have hb:(g == k)=true:=beq_iff_eq.mpr h
    simp only [List.lookup,hb,if_pos (h.trans hk)]
   ·have hb:(g == k)=false:=beq_eq_false_iff_ne.mpr h
    simp only [List.lookup,hb,if_neg (fun e:g=f=>h (e.trans hk.symm))]
  ·rw [if_neg hk]
   by_cases h:g=k
   ·have hb:(g == k)=true:=beq_iff_eq.mpr h
    simp only [List.lookup,hb,if_neg (fun e:g=f=>hk (h.symm.trans e))]
   ·have hb:(g == k)=false:=beq_eq_false_iff_ne.mpr h
    simp only [List.lookup,hb]
    exact ih
theorem Hj (f:Str) (v:V):∀ fs:List (Str × V),f ∈ (rg f v fs).map (·.1)∧∀ g,g ∈ fs.map (·.1)→g ∈ (rg f v fs).map (·.1)
 | []=>⟨by simp [rg],fun g h=>by simp at h⟩
 | (k,x) :: r=>by
  obtain ⟨i1,i2⟩:=Hj f v r
  rw [show rg f v ((k,x) :: r)=(if k=f then (k,v) :: r else (k,x) :: rg f v r) from rfl]
  by_cases hk:k=f
  ·rw [if_pos hk]
   subst hk
   exact ⟨by simp,fun g h=>by simpa using h⟩
  ·rw [if_neg hk]
   refine ⟨?_,fun g h=>?_⟩
   ·rw [List.map_cons]
    exact List.mem_cons_of_mem _ i1
   ·rw [List.map_cons] at h ⊢
    rcases List.mem_cons.mp h with e | e
    ·exact List.mem_cons.mpr (.inl e)
    ·exact List.mem_cons_of_mem _ (i2 g e)
theorem Rl (f:Str) (v:V):∀ fs:List (Str × V),(rg f v fs).length ≤ fs.length + 1
 | []=>by simp [rg]
 | (k,x) :: r=>by
  have ih:=Rl f v r
  rw [show rg f v ((k,x) :: r)=(if k=f then (k,v) :: r else (k,x) :: rg f v r) from rfl]
  by_cases hk:k=f
  ·rw [if_pos hk,List.length_cons,List.length_cons];omega
  ·rw [if_neg hk,List.length_cons,List.length_cons];omega
theorem Ar.some_of {v:V} {o:Option Value} (r:Ar (some v) o):∃ u,o=some u∧Ed v u:=by
 cases o with
 | none=>exact (show False from r).elim
 | some u=>exact ⟨u,rfl,r⟩
theorem Ar.none_of {o:Option Value} (r:Ar none o):o=none:=by
 cases o with
 | none=>rfl
 | some u=>exact (show False from r).elim
theorem fw {v:V} {u:Value} (r:Ed v u):PySem.W.handedIn u=true:=by
 cases v with
 | non=>cases (show u=Value.none from r);rfl
 | bl b=>cases (show u=Value.bool b from r);rfl
 | int i=>obtain ⟨t,e⟩:=(show ∃ t,u=Value.int i t from r);cases e;rfl
 | str x=>obtain ⟨t,e⟩:=(show ∃ t,u=Value.str x t from r);cases e;rfl
 | byt b=>obtain ⟨t,e⟩:=(show ∃ t,u=Value.bytes b t from r);cases e;rfl
 | flt b=>obtain ⟨t,e⟩:=(show ∃ t,u=Value.float b t from r);cases e;rfl
 | ref a=>cases (show u=Value.ref a from r);rfl
 | ty n=>cases (show u=Value.type n from r);rfl
section
variable {P:Program} {w:World} {H H':Hp} {h h':Heap} {a C dx:Addr} {fs fs':List (Str × V)}
theorem Iu (hok:HOk P w H h) (e:H a=some (.ins C dx fs)):∃ mA,QI h a dx C mA∧(∀ f,Ar (fs.lookup f) (mA f))∧PySem.Within mA (fs.map (·.1))∧fs.length ≤ 1000∧H dx=some (.own a):=by
 obtain ⟨d,z,ne,ob,mA,n,r,q⟩:=(show Ad P w H h a (.ins C dx fs) from hok a _ e)
 exact ⟨mA,⟨ob,n,ne⟩,r,q,z,d⟩
end
structure Cls (K:PySem.W.Frag) (C:Addr):Prop where
 pg:PySem.W.plainGet K C Str.empty=true
 hd:PySem.W.hasDictIn K C=true
 po:PySem.W.plainOver K C=true
 sa:PySem.W.findIn K (.ref C) "__setattr__"=some (some (.builtin "object.__setattr__"))
theorem Cls.get {K:PySem.W.Frag} {C:Addr} (c:Cls K C) (f:Str):PySem.W.plainGet K C f=true:=c.pg
noncomputable def Cb (K:PySem.W.Frag) (C:Addr) (f:Str):Prop:=PySem.W.findIn K (.ref C) f=some none
theorem Cb.taker {K:PySem.W.Frag} {C:Addr} {f:Str} (n:Cb K C f):PySem.W.takerIn K C f=some none:=by
 unfold PySem.W.takerIn
 rw [show PySem.W.findIn K (.ref C) f=some none from n]
 rfl
structure Con (K:PySem.W.Frag) (C:Addr) (f:Str) (v:V) (u:Value):Prop where
 at_:PySem.W.findIn K (.ref C) f=some (some u)
 rel:Ed v u
 get:PySem.W.specialIn K u "__get__"=some none
 cp:PySem.W.copiedNames.contains f=false
structure At (K:PySem.W.Frag) (C:Addr) (m:Str) (f:Addr):Prop where
 at_:PySem.W.findIn K (.ref C) m=some (some (.ref f))
 fn:PySem.W.isFn K (.ref f)=true
 kp:PySem.W.keepIn K (.ref f)=true
section
variable {X:Cx} {pins:List (Addr × Obj)} {σ:St} {H:Hp} {s:Shared} {a C dx:Addr} {fs:List (Str × V)} {f:Str} {v:V} {A:Around} {E:Value→Shared→Prop}
theorem Ht {b:Bool} {Q:Value→Shared→Prop} (I:Inv X pins σ H s) (e:H a=some (.ins C dx fs)) (c:Cls X.K C) (n:Cb X.K C f) (l:fs.lookup f=some v)
  (h:∀ u s',Inv X pins σ H s'→Ed v u→Q u s'):wpAny (model X.prog X.w) A (getAttr (.ref a) f b) Q E s:=by
 obtain ⟨mA,O,r,_,_,_⟩:=Iu I.hok e
 obtain ⟨u,hu,ru⟩:=Ar.some_of (v:=v) (o:=mA f) (by rw [← l];exact r f)
 exact cJ I.kIn O (c.get f) c.hd n hu (fw ru) (h u _ (I.tok _) ru)
theorem En {m:Str} {g:Addr} {pl:Sem Bool} {Q:Value × List Value→Shared→Prop} (I:Inv X pins σ H s) (e:H a=some (.ins C dx fs)) (c:Cls X.K C) (k:At X.K C m g) (l:fs.lookup m=none)
  (h:Q (.ref g,[.ref a]) s):wpAny (model X.prog X.w) A (getMethod (.ref a) m pl) Q E s:=by
 obtain ⟨mA,O,r,_,_,_⟩:=Iu I.hok e
 have hn:mA m=none:=Ar.none_of (by rw [← l];exact r m)
 exact lF I.kIn O (c.get m) k.at_ k.fn hn h
theorem zt {y:V} {u:Value} {Q:Unit→Shared→Prop} (I:Inv X pins σ H s) (e:H a=some (.ins C dx fs)) (c:Cls X.K C) (n:Cb X.K C f) (hl:fs.length < 1000) (ry:Ed y u)
  (h:∀ s',Inv X pins σ (upd H a (.ins C dx (rg f y fs))) s'→Q () s'):wpAny (model X.prog X.w) A (setAttr (.ref a) f u) Q E s:=by
 obtain ⟨mA,O,r,wi,_,ho⟩:=Iu I.hok e
 have hz:(fs.map (·.1)).length ≤ sizeLine:=by rw [List.length_map,sizeLine_eq];omega
 refine FI I.kIn O c.sa c.po n.taker c.hd wi hz fun h' O' sb=>h _ ?_
 have hd:∃ o,h'.get? dx=some o:=let ⟨o,_,_,e',_⟩:=O'.ns;⟨o,e'⟩
 refine I.write (x:=a) (e:=dx) (by rw [e];exact True.intro) (.inr ho) (fun b q hb z=>(sb.2 b hb).trans z) hd ?_
 refine ⟨by rw [lb O.ne];exact ho,?_,O.ne,O'.obj,_,O'.ns,fun g=>?_,fun g hg=>?_⟩
 ·have:=Rl f y fs;omega
 ·show Ar ((rg f y fs).lookup g) (if g=f then some u else mA g)
  rw [ol]
  by_cases q:g=f
  ·rw [if_pos q,if_pos q];exact ry
  ·rw [if_neg q,if_neg q];exact r g
 ·by_cases q:g=f
  ·rw [q];exact (Hj f y fs).1
  ·refine (Hj f y fs).2 g (wi g fun z=>hg ?_)
   show (if g=f then some u else mA g)=none
   rw [if_neg q];exact z
theorem Inv.made (I:Inv X pins σ H s):Inv X pins σ (upd (upd H s.heap.objs.size (.own (s.heap.objs.size + 1))) (s.heap.objs.size + 1) (.ins C s.heap.objs.size []))
  { s with heap:=(s.heap.push PySem.W.emptyDict).push (PySem.W.instObj C s.heap.objs.size) }:=by
 have e1:(s.heap.push PySem.W.emptyDict).get? s.heap.objs.size=some PySem.W.emptyDict:=Heap.get?_push_size s.heap rfl
 have e2:((s.heap.push PySem.W.emptyDict).push (PySem.W.instObj C s.heap.objs.size)).get? (s.heap.objs.size + 1)=some (PySem.W.instObj C s.heap.objs.size):=by
  have:=Heap.get?_push_size (s.heap.push PySem.W.emptyDict) (o:=PySem.W.instObj C s.heap.objs.size) rfl
  rwa [Heap.size_push] at this
 have e3:(s.heap.push PySem.W.emptyDict).Ns s.heap.objs.size (fun _=>none):=⟨PySem.W.emptyDict,#[],_,e1,rfl,(fun e he=>absurd he (by simp)),fun _=>rfl⟩
 have I1:=I.laid (a:=s.heap.objs.size) (o:=.own (s.heap.objs.size + 1)) (h':=s.heap.push PySem.W.emptyDict) (t':=s.toks) (fun b u q=>Heap.get?_push_of_some _ q) (Nat.le_refl _) ⟨_,e1⟩
 refine I1.laid (a:=s.heap.objs.size + 1) (o:=.ins C s.heap.objs.size []) (t':=s.toks) (fun b u q=>Heap.get?_push_of_some _ q) (Nat.le_of_eq (Heap.size_push _ _)) ?_
 have ne:s.heap.objs.size ≠ s.heap.objs.size + 1:=Nat.ne_of_lt (Nat.lt_succ_self _)
 refine ⟨by rw [lb ne,cb],Nat.zero_le _,ne,e2,fun _=>none,(Heap.Ns1.of_empty e3).at fun o q=>Heap.get?_push_of_some _ q,fun _=>True.intro,fun y hy=>absurd rfl hy⟩
theorem fB {prog:Program} {w:World} {env:Env} {e:Expr} {f:Str} {pos:Pos} {s:Shared} {Q:Value→Shared→Prop} (hb:attributeBase e f env (eval e env)=eval e env)
  (h:wpAny (model prog w) A (eval e env) (fun o s₁=>wpAny (model prog w) A (getAttr o f true) Q E s₁) E s):wpAny (model prog w) A (eval (.Attribute e f pos) env) Q E s:=
 Attribute_any_ h (by rw [arm_eval_Attribute,hb])
end
noncomputable def vO (K:PySem.W.Frag) (ta:TE) (f:Str):TE:=fun σ H Q=>ta σ H fun x H1=>∃ a C dx fs v,x=.ref a∧H1 a=some (.ins C dx fs)∧Cls K C∧Cb K C f∧fs.lookup f=some v∧Q v H1
noncomputable def DP (K:PySem.W.Frag) (ta:TE) (f:Str):TE:=fun σ H Q=>ta σ H fun x H1=>∃ a C dx fs v u,x=.ref a∧H1 a=some (.ins C dx fs)∧Cls K C∧Con K C f v u∧fs.lookup f=none∧Q v H1
noncomputable def MO (K:PySem.W.Frag) (ta tv:TE) (f:Str):TS:=fun D σ H=>tv σ H fun y H1=>ta σ H1 fun x H2=>∃ a C dx fs,x=.ref a∧H2 a=some (.ins C dx fs)∧Cls K C∧Cb K C f∧fs.length < 1000 ∧
 D.nx σ (upd H2 a (.ins C dx (rg f y fs)))
noncomputable def pP (X:Cx) (op:Operator) (rd:V→V→Hp→VK→Prop):Prop:=
 ∀ (pins:List (Addr × Obj)) (s:Shared) (σ:St) (H:Hp) (x y:V) (u v:Value) (Q:VK),Inv X pins σ H s→Ed x u→Ed y v→rd x y H Q→wpAny (model X.prog X.w) X.A (inplaceOp op u v) (EP X pins σ Q) X.xe s
noncomputable def DB (K:PySem.W.Frag) (ta tv:TE) (rd:V→V→Hp→VK→Prop) (f:Str):TS:=fun D σ H=>ta σ H fun x H1=>∃ a C dx fs v,x=.ref a∧H1 a=some (.ins C dx fs)∧Cls K C∧Cb K C f∧fs.lookup f=some v ∧
 tv σ H1 fun y H2=>rd v y H2 fun z H3=>∃ dx' fs',H3 a=some (.ins C dx' fs')∧fs'.length < 1000∧D.nx σ (upd H3 a (.ins C dx' (rg f z fs')))
section
variable {X:Cx} {o e value:Expr} {f:Str} {pos pos' tpos:Pos} {ta tv:TE}
theorem zc (he:PE X e ta) (hb:attributeBase e f X.env (eval e X.env)=eval e X.env):PE X (.Attribute e f pos) (vO X.K ta f):=by
 intro pins s σ H Q I h
 refine fB hb (thn (he pins s σ H _ I h) fun u s1 ⟨x,H1,I1,rx,a,C,dx,fs,v,ex,ea,c,n,l,q⟩=>?_)
 subst ex
 obtain rfl:u=Value.ref a:=rx
 exact Ht I1 ea c n l fun u' s2 I2 ru=>⟨v,H1,I2,ru,q⟩
theorem jf (ha:PE X o ta) (hv:PE X value tv) (hs:swapsWith value (some (.Attribute o f pos')) pos.line X.env=pure false):PS X (.Assign [.Attribute o f pos'] value pos) (MO X.K ta tv f):=by
 intro pins s σ H D I h
 refine plainObj_wpAny_Assign_Attribute (thn (hv pins s σ H _ I h) fun u s1 ⟨y,H1,I1,ry,q⟩=>thn (ha pins s1 σ H1 _ I1 q) fun ov s2 ⟨x,H2,I2,rx,a,C,dx,fs,ex,ea,c,n,l,q2⟩=>?_) hs
 subst ex
 obtain rfl:ov=Value.ref a:=rx
 exact zt I2 ea c n l ry fun s3 I3=>⟨σ,_,I3,q2⟩
theorem vw {op:Operator} {rd:V→V→Hp→VK→Prop} (ha:PE X o ta) (hv:PE X value tv) (hop:pP X op rd):PS X (.AugAssign (.Attribute o f tpos) op value pos) (DB X.K ta tv rd f):=by
 intro pins s σ H D I h
 refine wpAny_AugAssign_AttributeAny (thn (ha pins s σ H _ I h) fun ov s1 ⟨x,H1,I1,rx,a,C,dx,fs,v,ex,ea,c,n,l,q⟩=>?_)
 subst ex
 obtain rfl:ov=Value.ref a:=rx
 refine Ht I1 ea c n l fun u s2 I2 ru=>thn (hv pins s2 σ H1 _ I2 q) fun w3 s3 ⟨y,H2,I3,ry,q3⟩=>thn (hop pins s3 σ H2 v y u w3 _ I3 ru ry q3) fun w4 s4 ⟨z,H3,I4,rz,dx',fs',ea',l',q4⟩=>?_
 exact zt I4 ea' c n l' rz fun s5 I5=>⟨σ,_,I5,q4⟩
noncomputable def NO:V→V→Hp→VK→Prop:=fun x y H Q=>∃ i j,x=.int i∧y=.int j∧Q (.int (i + j)) H
noncomputable def MP:V→V→Hp→VK→Prop:=fun x y H Q=>∃ i j,x=.int i∧y=.int j∧Q (.int (i - j)) H
theorem JH:pP X .Add NO:=by
 rintro pins s σ H x y u v Q I rx ry ⟨i,j,rfl,rfl,q⟩
 obtain ⟨t,rfl⟩:=(show ∃ t,u=Value.int i t from rx)
 obtain ⟨t',rfl⟩:=(show ∃ t',v=Value.int j t' from ry)
 exact PyProof.Rows.iadd_int ⟨.int (i + j),H,I.tok _,⟨_,rfl⟩,q⟩
end
section
variable {X:Cx} {pins:List (Addr × Obj)} {σ:St} {H:Hp} {s:Shared} {A:Around} {E:Value→Shared→Prop} {Q:Value→Shared→Prop} {c:Value} {b:Bool}
inductive Oy (K:PySem.W.Frag) (H:Hp):V→Value→Prop where
 | non:Oy K H .non (.type "NoneType")
 | bl (x:Bool):Oy K H (.bl x) (.type "bool")
 | int (i:Int):Oy K H (.int i) (.type "int")
 | str (x:Str):Oy K H (.str x) (.type "str")
 | flt (x:UInt64):Oy K H (.flt x) (.type "float")
 | lst {a:Addr} {xs:List V} (e:H a=some (.lst xs)):Oy K H (.ref a) (.type "list")
 | frz {a:Addr} {o:Obj} {xs:List V} (e:H a=some (.frz o (.lst xs))):Oy K H (.ref a) (.type "list")
 | tup {a:Addr} {xs:List V} (e:H a=some (.tup xs)):Oy K H (.ref a) (.type "tuple")
 | dK {a:Addr} {kvs:List (Key × V)} (e:H a=some (.dK kvs)):Oy K H (.ref a) (.type "dict")
 | dT {a:Addr} {kvs:List (List Key × V)} (e:H a=some (.dT kvs)):Oy K H (.ref a) (.type "dict")
 | ins {a C dx:Addr} {fs:List (Str × V)} (e:H a=some (.ins C dx fs)) (cl:Cls K C) (ha:PySem.W.findIn K (.ref C) "__class__"=some (some (.builtin "object.__class__")))
   (hn:PySem.W.specialIn K (.builtin "object.__class__") "__get__"=some (some (.builtin "getset_descriptor.__get__"))) (htk:PySem.W.takesIn K (.builtin "object.__class__")=some true)
   (hm:PySem.W.mroIn K C (.type "object")=some true):Oy K H (.ref a) (.ref C)
theorem LB {x:V} {u t:Value} (I:Inv X pins σ H s) (rx:Ed x u) (ty:Oy X.K H x t) (e:PySem.W.kitOne X.K t c=some b) (h:∀ tk,Q (.bool b) { s with toks:=tk }) :
  wpAny (model X.prog X.w) A (call (.builtin "isinstance") [u,c]) Q E s:=by
 cases ty with
 | non=>cases (show u=Value.none from rx);exact PySem.W.kia_one PySem.W.kitx_none I.kIn True.intro e (fun z=>nomatch z) h
 | bl y=>cases (show u=Value.bool y from rx);exact PySem.W.kia_one PySem.W.kitx_bool I.kIn True.intro e (fun z=>nomatch z) h
 | int i=>obtain ⟨t,q⟩:=(show ∃ t,u=Value.int i t from rx);cases q;exact PySem.W.kia_one PySem.W.kitx_int I.kIn True.intro e (fun z=>nomatch z) h
 | str y=>obtain ⟨t,q⟩:=(show ∃ t,u=Value.str y t from rx);cases q;exact PySem.W.kia_one PySem.W.kitx_str I.kIn True.intro e (fun z=>nomatch z) h
 | flt y=>obtain ⟨t,q⟩:=(show ∃ t,u=Value.float y t from rx);cases q;exact PySem.W.kia_one PySem.W.kitx_float I.kIn True.intro e (fun z=>nomatch z) h
 | @lst a xs ea=>
  cases (show u=Value.ref a from rx)
  obtain ⟨_,_,n,_,h1⟩:=(show Ad X.prog X.w H s.heap a (.lst xs) from I.hok a _ ea)
  exact PySem.W.kia_one PySem.W.kitx_list I.kIn ⟨_,h1,rfl⟩ e (fun z=>nomatch z) h
 | @frz a ob xs ea=>
  cases (show u=Value.ref a from rx)
  obtain ⟨_,_,_,n,_,h1⟩:=(show Ad X.prog X.w H s.heap a (.frz ob (.lst xs)) from I.hok a _ ea)
  exact PySem.W.kia_one PySem.W.kitx_list I.kIn ⟨_,h1,rfl⟩ e (fun z=>nomatch z) h
 | @tup a xs ea=>
  cases (show u=Value.ref a from rx)
  obtain ⟨_,_,_,p⟩:=(show Ad X.prog X.w H s.heap a (.tup xs) from I.hok a _ ea)
  obtain ⟨o,h1,h2,_⟩:=p
  exact PySem.W.kia_one PySem.W.kitx_tuple I.kIn ⟨o,h1,h2⟩ e (fun z=>nomatch z) h
 | @dK a kvs ea=>
  cases (show u=Value.ref a from rx)
  obtain ⟨_,_,vs,_,p⟩:=(show Ad X.prog X.w H s.heap a (.dK kvs) from I.hok a _ ea)
  obtain ⟨o,es,ep,h1,h2,_⟩:=p
  exact PySem.W.kia_one PySem.W.kitx_dict I.kIn ⟨o,h1,h2.1⟩ e (fun z=>nomatch z) h
 | @dT a kvs ea=>
  cases (show u=Value.ref a from rx)
  obtain ⟨_,_,xs,_,o,es,ep,h1,h2,_⟩:=(show Ad X.prog X.w H s.heap a (.dT kvs) from I.hok a _ ea)
  exact PySem.W.kia_one PySem.W.kitx_dict I.kIn ⟨o,h1,h2.1⟩ e (fun z=>nomatch z) h
 | @ins a C dx fs ea cl ha hn htk hm=>
  cases (show u=Value.ref a from rx)
  obtain ⟨mA,O,_⟩:=Iu I.hok ea
  obtain ⟨od,J,_⟩:=O.look
  exact PySem.W.kia_one (PySem.W.kitx_own (cl.get _) cl.hd ha hn htk hm) I.kIn J e (fun z=>nomatch z) h
end
end L2
namespace L2
open PySem PySem.Spec PyProof.Rows
structure Nh (k:Nat) (A:Around):Prop where
 hd:A.handled=none
 dp:A.depth + 3 * k + 5 < recursionLimit
 un:A.units + 16 * k + 200 < cLine
theorem Nh.mono {j k:Nat} {A:Around} (r:Nh k A) (h:j ≤ k):Nh j A:=⟨r.hd,by have:=r.dp;omega,by have:=r.un;omega⟩
theorem Nh.deeper {k:Nat} {A:Around} (r:Nh (k + 1) A) (env:Env):Nh k (A.deeper env):=
 ⟨r.hd,by have:=r.dp;show A.depth + 1 + 3 * k + 5 < _;omega,by have:=r.un;show A.units + 3 + 16 * k + 200 < _;omega⟩
theorem Nh.in1 {k:Nat} {A:Around} (r:Nh (k + 1) A):Nh k A.in1:=
 ⟨r.hd,by have:=r.dp;show A.depth + 3 * k + 5 < _;omega,by have:=r.un;show A.units + 1 + 16 * k + 200 < _;omega⟩
theorem Tz {A:Around} {C:Addr} {us:List Value} {kw:List (Str × Value)}:(A.under (.builtin "type.__call__" ⟨.ref C :: us,kw⟩)).depth=A.depth + 1:=by
 first | rfl | simp [Around.under,Code.weight,Code.isCreation,Code.isGuard,Code.isCaller,Code.frames,Code.isFrame,guardIds]
theorem Bz {A:Around} {C:Addr} {us:List Value} {kw:List (Str × Value)}:(A.under (.builtin "type.__call__" ⟨.ref C :: us,kw⟩)).units=A.units + 1:=by
 first | rfl | simp [Around.under,Code.cUnits,Code.frames,Code.isFrame]
theorem Nh.make {k:Nat} {A:Around} (r:Nh (k + 1) A) (C:Addr) (us:List Value) (kw:List (Str × Value)):Nh k (A.under (.builtin "type.__call__" ⟨.ref C :: us,kw⟩)):=
 ⟨r.hd,by have:=r.dp;rw [Tz];omega,by have:=r.un;rw [Bz];omega⟩
theorem Nh.depth {k:Nat} {A:Around} (r:Nh k A):A.depth < recursionLimit:=by have:=r.dp;omega
theorem Nh.units {k:Nat} {A:Around} (r:Nh k A):A.units + 64 < cLine:=by have:=r.un;omega
noncomputable def FN:TA:=fun _ H Q=>Q [] H
noncomputable def dM (ta:TE) (tr:TA):TA:=fun σ H Q=>ta σ H fun x H1=>tr σ H1 fun xs H2=>Q (x :: xs) H2
section
variable {X:Cx} {e:Expr} {es:List Expr} {te:TE} {t:TA} {pos:Pos}
theorem fb:PA X [] FN:=fun _ _ _ _ H Q I h=>Calls.spliced_nil ⟨[],H,I,.nil,h⟩
theorem bb (ha:PE X e te) (hr:PA X es t) (hs:starEach (e :: es) X.env=(false,eval e X.env) :: starEach es X.env:=by rfl):PA X (e :: es) (dM te t):=by
 intro pos pins s σ H Q I h
 rw [hs]
 show wpAny _ _ (spliced ((false,eval e X.env) :: backTo pos (starEach es X.env))) _ _ s
 refine Calls.spliced_cons (thn (ha pins s σ H _ I h) fun u s1 ⟨x,H1,I1,r1,q1⟩=>?_)
 exact thn (hr pos pins s1 σ H1 _ I1 q1) fun us s2 ⟨xs,H2,I2,r2,q2⟩=>⟨x :: xs,H2,I2,.cons r1 r2,q2⟩
noncomputable def YO (t:TA):TE:=fun σ H Q=>t σ H fun xs H1=>xs.length ≤ sizeLine∧∀ p,H1 p=none→Q (.ref p) (upd H1 p (.tup xs))
noncomputable def jP (t:TA):TE:=fun σ H Q=>t σ H fun xs H1=>xs.length ≤ sizeLine∧∀ p,H1 p=none→Q (.ref p) (upd H1 p (.lst xs))
theorem ze {x1} (h:PA X es t):PE X (.Tuple es x1 pos) (YO t):=by
 intro pins s σ H Q I hq
 refine wpAny_Tuple_spliced (thn (h pos pins s σ H _ I hq) fun us s1 ⟨xs,H1,I1,r,z,q⟩=>⟨by rw [← r.length];exact z,?_⟩)
 have hf:H1 s1.heap.objs.size=none:=I1.hok.fresh (Nat.le_refl _)
 refine ⟨.ref s1.heap.objs.size,upd H1 s1.heap.objs.size (.tup xs),I1.laid (t':=s1.toks) (fun b u e=>Heap.get?_push_of_some _ e) (Nat.le_refl _) ?_,rfl,q _ hf⟩
 exact ⟨z,us,r,⟨_,Heap.get?_push_size _ rfl,rfl,_,rfl⟩⟩
theorem Og (h:PA X es t):PE X (.List es pos) (jP t):=by
 intro pins s σ H Q I hq
 refine wpAny_List_spliced (thn (h pos pins s σ H _ I hq) fun us s1 ⟨xs,H1,I1,r,z,q⟩=>⟨by rw [← r.length];exact z,?_⟩)
 have hf:H1 s1.heap.objs.size=none:=I1.hok.fresh (Nat.le_refl _)
 refine ⟨.ref s1.heap.objs.size,upd H1 s1.heap.objs.size (.lst xs),I1.laid (t':=s1.toks) (fun b u e=>Heap.get?_push_of_some _ e) (Nat.le_refl _) ?_,rfl,q _ hf⟩
 exact ⟨z,us,0,r,Heap.get?_push_size _ rfl⟩
end
noncomputable abbrev Sp:=List V→Hp→VK→XK→Prop
noncomputable abbrev CXT:=List Env→Hp→Shared→XK→Value→Shared→Prop
structure UA (P:Program) (w:World) (K:PySem.W.Frag) (mg:Str→Option Value) (base:Heap) (A:Around) (outer:List Env) (s:Shared) (H:Hp):Prop where
 frames:A.frames=some outer
 mod:Mod K mg base
 bs:∀ b o,base.get? b=some o→s.heap.get? b=some o∧H b=none
 bsz:base.objs.size ≤ s.heap.objs.size
 funs:s.heap.FunFrames base outer
 frf:∀ b ∈ frs outer,H b=none
 hok:HOk P w H s.heap
 bare:AllBare s.gens
noncomputable def CE (outer:List Env) (P:Program) (w:World) (H:Hp) (s:Shared) (Q:VK) (u:Value) (s':Shared):Prop:=
 ∃ v H',s'.os=s.os∧AllBare s'.gens∧Un (frs outer) [] H H' s.heap s'.heap∧HOk P w H' s'.heap∧Ed v u∧Q v H'
noncomputable def CR (CX:CXT) (outer:List Env) (P:Program) (w:World) (H:Hp) (s:Shared) (Q:VK) (E:XK) (r:Result) (s':Shared):Prop:=
 match r with
 | .ok (.ret u)=>CE outer P w H s Q u s'
 | .ok _=>False
 | .error e=>CX outer H s E e s'
structure Eb (P:Program) (w:World) (K:PySem.W.Frag) (mg:Str→Option Value) (base:Heap) (CX:CXT) (k:Nat) (f:Addr) (fd:FuncData) (ps:List Str) (sp:Sp):Prop where
 len:∀ vs H Q E,sp vs H Q E→vs.length=ps.length
 run:∀ (A:Around) (outer:List Env) (s:Shared) (H:Hp) (args:Args) (us:List Value) (vs:List V) (Q:VK) (E:XK),Nh k A→UA P w K mg base A outer s H→BindsTo s fd args (ps.zip us)→Uc vs us→sp vs H Q E →
  codeAny (model P w) A (.call (.ref f) args) (CR CX outer P w H s Q E) s
theorem Eb.mono {P:Program} {w:World} {K:PySem.W.Frag} {mg:Str→Option Value} {base:Heap} {CX:CXT} {j k:Nat} {f:Addr} {fd:FuncData} {ps:List Str} {sp:Sp} (F:Eb P w K mg base CX j f fd ps sp) (h:j ≤ k) :
  Eb P w K mg base CX k f fd ps sp:=⟨F.len,fun A outer s H args us vs Q E hr=>F.run A outer s H args us vs Q E (hr.mono h)⟩
theorem Eb.imp {P:Program} {w:World} {K:PySem.W.Frag} {mg:Str→Option Value} {base:Heap} {CX:CXT} {k:Nat} {f:Addr} {fd:FuncData} {ps:List Str} {sp sp':Sp} (F:Eb P w K mg base CX k f fd ps sp)
  (h:∀ vs H Q E,sp' vs H Q E→sp vs H Q E):Eb P w K mg base CX k f fd ps sp':=
 ⟨fun vs H Q E q=>F.len vs H Q E (h _ _ _ _ q),fun A outer s H args us vs Q E hr he hb hv hs=>F.run A outer s H args us vs Q E hr he hb hv (h _ _ _ _ hs)⟩
theorem UA.make {P:Program} {w:World} {K:PySem.W.Frag} {mg:Str→Option Value} {base:Heap} {A:Around} {outer:List Env} {s:Shared} {H:Hp} (e:UA P w K mg base A outer s H) (C:Addr) (us:List Value) (kw:List (Str × Value)) :
  UA P w K mg base (A.under (.builtin "type.__call__" ⟨.ref C :: us,kw⟩)) outer s H:=⟨by first | exact e.frames | (simpa [Around.under,Code.envs,Code.isFrame,pushEnvs] using e.frames),e.mod,e.bs,e.bsz,e.funs,e.frf,e.hok,e.bare⟩
theorem UA.in1 {P:Program} {w:World} {K:PySem.W.Frag} {mg:Str→Option Value} {base:Heap} {A:Around} {outer:List Env} {s:Shared} {H:Hp} (e:UA P w K mg base A outer s H) :
  UA P w K mg base A.in1 outer s H:=⟨e.frames,e.mod,e.bs,e.bsz,e.funs,e.frf,e.hok,e.bare⟩
section
variable {X:Cx} {pins:List (Addr × Obj)} {σ:St} {H:Hp} {s s':Shared}
theorem Inv.env0 (I:Inv X pins σ H s):UA X.prog X.w X.K X.mg X.base X.A X.stack s H:=
 ⟨I.ok.frames,I.ok.mod,I.bs,Nat.le_trans I.ok.bsz I.sz,I.stack,I.stkFree,I.hok,I.bare⟩
theorem Inv.after {Q:VK} {u:Value} (I:Inv X pins σ H s) (h:CE X.stack X.prog X.w H s Q u s'):EP X pins σ Q u s':=by
 obtain ⟨v,H',os,bare,un,hok,r,q⟩:=h
 obtain ⟨hh,g,d,t,os'⟩:=s'
 obtain rfl:os'=s.os:=os
 exact ⟨v,H',I.call (h':=hh) (g':=g) (d':=d) (t':=t) (ch:=[]) un hok bare (fun b z=>absurd z (by simp)),r,q⟩
end
noncomputable def YE (sp:Sp) (dvs:List V) (E:XK) (t:TA):TE:=fun σ H Q=>t σ H fun vs H1=>sp (vs ++ dvs) H1 Q E
noncomputable def iK (C:Addr) (m:Str) (sp:Sp) (dvs:List V) (E:XK) (ta:TE) (t:TA):TE:=fun σ H Q=>ta σ H fun x H1=>∃ a dx fs,x=.ref a∧H1 a=some (.ins C dx fs)∧fs.lookup m=none ∧
 t σ H1 fun vs H2=>sp (x :: (vs ++ dvs)) H2 Q E
noncomputable def MM (C:Addr) (sp:Sp) (dvs:List V) (E:XK) (t:TA):TE:=fun σ H Q=>t σ H fun vs H1=>∀ x dx,H1 x=none→H1 dx=none→dx ≠ x →
 sp (.ref x :: (vs ++ dvs)) (upd (upd H1 dx (.own x)) x (.ins C dx [])) (fun v H2=>v=.non∧Q (.ref x) H2) E
noncomputable def Qb (K:PySem.W.Frag) (fd:FuncData) (ps:List Str) (ds:List Value):Prop:=
 ∀ (s:Shared) (us:List Value),K.In s.heap→(us ++ ds).length=ps.length→BindsTo s fd ⟨us,[]⟩ (ps.zip (us ++ ds))
theorem Qb.all {K:PySem.W.Frag} {fd:FuncData} {ps:List Str} (h:∀ us:List Value,us.length=ps.length→bindArgs fd ⟨us,[]⟩=pure (ps.zip us)):Qb K fd ps []:=fun s us _ hl=>by
 rw [List.append_nil] at hl ⊢
 exact .of_eq (h us hl)
noncomputable def Zi (CX:CXT) (X:Cx) (E:XK):Prop:=∀ (pins:List (Addr × Obj)) (σ:St) (H:Hp) (s:Shared) (e:Value) (s':Shared),Inv X pins σ H s→CX X.stack H s E e s'→X.xe e s'
section
variable {X:Cx} {CX:CXT} {k:Nat} {f C:Addr} {fd:FuncData} {ps:List Str} {sp:Sp} {dvs:List V} {ds:List Value} {E:XK} {x m:Str} {p pos apos:Pos} {e o:Expr} {es:List Expr} {ta:TE} {t:TA}
theorem bv {pins:List (Addr × Obj)} {σ:St} {H:Hp} {s:Shared} {Q:VK} {us:List Value} {vs:List V} (F:Eb X.prog X.w X.K X.mg X.base CX k f fd ps sp) (hr:Nh k X.A) (hb:Qb X.K fd ps ds) (hd:Uc dvs ds) (hx:Zi CX X E)
  (I:Inv X pins σ H s) (r:Uc vs us) (h:sp (vs ++ dvs) H Q E):wpAny (model X.prog X.w) X.A (call (.ref f) us) (EP X pins σ Q) X.xe s:=by
 have r2:Uc (vs ++ dvs) (us ++ ds):=r.append hd
 have hl:(us ++ ds).length=ps.length:=by rw [← r2.length];exact F.len _ _ _ _ h
 refine wpAny_call (codeAny_mono (F.run X.A X.stack s H ⟨us,[]⟩ (us ++ ds) (vs ++ dvs) Q E hr I.env0 (hb s us I.kIn hl) r2 h) fun r s' hq=>?_)
 cases r with
 | error e=>exact hx pins σ H s e s' I hq
 | ok fl=>
  cases fl with
  | ret u=>exact I.after hq
  | next=>exact False.elim hq
  | brk=>exact False.elim hq
  | cont=>exact False.elim hq
theorem Jb (F:Eb X.prog X.w X.K X.mg X.base CX k f fd ps sp) (hr:Nh k X.A) (hg:Gl X x) (hm:X.mg x=some (.ref f)) (hk:PySem.W.keepIn X.K (.ref f)=true) (hb:Qb X.K fd ps ds) (hd:Uc dvs ds) (hx:Zi CX X E)
  (ha:PA X (e :: es) t) (hdb:(x == ("__debug__" : Str))=false:=by decide) (he:starEach (e :: es) X.env=(false,eval e X.env) :: starEach es X.env:=by rfl) (hpl:(backTo pos (starEach es X.env)).any (·.1)=false:=by rfl) :
  PE X (.Call (.Name x p) (e :: es) [] pos) (YE sp dvs E t):=by
 intro pins s σ H Q I h
 refine wpAny_Call_Name_kw (Bi I hg hm ?_ hdb)
 refine PySem.W.callWith_K (h₀:=X.base) I.ok.mod.kin hk (thn (ha pos pins s σ H _ I h) fun us s1 ⟨vs,H1,I1,r,q⟩=>⟨I1.kIn,?_⟩) he hpl
 exact bv F hr hb hd hx I1 r q
theorem md {pl:Sem Bool} (he:PE X o ta) (c:Cls X.K C) (hm:At X.K C m f) (F:Eb X.prog X.w X.K X.mg X.base CX k f fd ps sp) (hr:Nh k X.A) (hb:Qb X.K fd ps ds) (hd:Uc dvs ds) (hx:Zi CX X E) (ha:PA X (e :: es) t)
  (hst:starEach (e :: es) X.env=(false,eval e X.env) :: starEach es X.env:=by rfl) (hpl:(backTo pos (starEach es X.env)).any (·.1)=false:=by rfl)
  (ht:eval (.Call (.Attribute o m apos) (e :: es) [] pos) X.env=(do
   let ov ← eval o X.env
   standAt apos.atName
   let (f,first) ← holding [ov] (getMethod ov m pl)
   callWith pos f first (backTo pos (starEach (e :: es) X.env)) (backToKw pos (keywordEach [] X.env))):=by rfl) :
  PE X (.Call (.Attribute o m apos) (e :: es) [] pos) (iK C m sp dvs E ta t):=by
 intro pins s σ H Q I h
 refine PySem.W.methodCall_KW (pl:=pl) (thn (he pins s σ H _ I h) fun u s1 ⟨x,H1,I1,rx,a,dx,fs,ex,ea,l,q⟩=>?_) ht
 subst ex
 obtain rfl:u=Value.ref a:=rx
 refine En I1 ea c hm l ?_
 refine PySem.W.callWith_K (first:=[.ref a]) (h₀:=X.base) I.ok.mod.kin hm.kp (thn (ha pos pins s1 σ H1 _ I1 q) fun us s2 ⟨vs,H2,I2,r,q2⟩=>⟨I2.kIn,?_⟩) hst hpl
 exact bv (us:=.ref a :: us) (vs:=.ref a :: vs) F hr hb hd hx I2 (.cons rfl r) q2
theorem qd {pl:Sem Bool} (he:PE X o ta) (c:Cls X.K C) (hm:At X.K C m f) (F:Eb X.prog X.w X.K X.mg X.base CX k f fd ps sp) (hr:Nh k X.A) (hb:Qb X.K fd ps ds) (hd:Uc dvs ds) (hx:Zi CX X E)
  (ht:eval (.Call (.Attribute o m apos) [] [] pos) X.env=(do
   let ov ← eval o X.env
   standAt apos.atName
   let (f,first) ← holding [ov] (getMethod ov m pl)
   callWith pos f first (backTo pos (starEach [] X.env)) (backToKw pos (keywordEach [] X.env))):=by rfl) :
  PE X (.Call (.Attribute o m apos) [] [] pos) (iK C m sp dvs E ta FN):=by
 intro pins s σ H Q I h
 refine PySem.W.methodCall_KW (pl:=pl) (thn (he pins s σ H _ I h) fun u s1 ⟨x,H1,I1,rx,a,dx,fs,ex,ea,l,q⟩=>?_) ht
 subst ex
 obtain rfl:u=Value.ref a:=rx
 refine En I1 ea c hm l ?_
 exact PySem.W.callWith_K0 (first:=[.ref a]) I1.kIn hm.kp (bv (us:=[.ref a]) (vs:=[.ref a]) F hr hb hd hx I1 (.cons rfl .nil) q)
structure Mk (K:PySem.W.Frag) (C f:Addr):Prop where
 makes:PySem.W.makesIn K C=true
 init:PySem.W.findIn K (.ref C) "__init__"=some (some (.ref f))
 fn:PySem.W.isFn K (.ref f)=true
 kp:PySem.W.keepIn K (.ref C)=true
theorem aH {pins:List (Addr × Obj)} {σ:St} {H:Hp} {s:Shared} {Q:VK} {us:List Value} {vs:List V} (M:Mk X.K C f) (F:Eb X.prog X.w X.K X.mg X.base CX k f fd ps sp) (hr:Nh (k + 1) X.A) (hb:Qb X.K fd ps ds) (hd:Uc dvs ds)
  (hx:Zi CX X E) (I:Inv X pins σ H s) (r:Uc vs us)
  (h:∀ x dx,H x=none→H dx=none→dx ≠ x→sp (.ref x :: (vs ++ dvs)) (upd (upd H dx (.own x)) x (.ins C dx [])) (fun v H2=>v=.non∧Q (.ref x) H2) E) :
  wpAny (model X.prog X.w) X.A (call (.ref C) us) (EP X pins σ Q) X.xe s:=by
 have hq:=h (s.heap.objs.size + 1) s.heap.objs.size (I.hok.fresh (Nat.le_succ _)) (I.hok.fresh (Nat.le_refl _)) (Nat.ne_of_lt (Nat.lt_succ_self _))
 have I2:=Inv.made (C:=C) I
 have r2:Uc (V.ref (s.heap.objs.size + 1) :: (vs ++ dvs)) (Value.ref (s.heap.objs.size + 1) :: (us ++ ds)):=.cons rfl (r.append hd)
 have hl:(Value.ref (s.heap.objs.size + 1) :: us ++ ds).length=ps.length:=by
  have e:=r2.length
  rw [F.len _ _ _ _ hq] at e
  exact e.symm
 refine wpAny_call (aG (f:=f) I.kIn M.makes M.init (beq_iff_eq.mp M.fn) (codeAny_mono (F.run _ X.stack _ _ ⟨Value.ref (s.heap.objs.size + 1) :: us,[]⟩ (Value.ref (s.heap.objs.size + 1) :: (us ++ ds)) _ _ E (hr.make C us [])
  (I2.env0.make C us []) (hb _ (Value.ref (s.heap.objs.size + 1) :: us) I2.kIn hl) r2 hq) fun r s' hq'=>?_))
 cases r with
 | error e=>exact hx pins σ _ _ e s' I2 hq'
 | ok fl=>
  cases fl with
  | ret u=>
   obtain ⟨v,H',I3,rv,ev,q3⟩:=I2.after hq'
   subst ev
   exact ⟨rv,⟨V.ref (s.heap.objs.size + 1),H',I3,rfl,q3⟩⟩
  | next=>exact False.elim hq'
  | brk=>exact False.elim hq'
  | cont=>exact False.elim hq'
theorem Jn (M:Mk X.K C f) (F:Eb X.prog X.w X.K X.mg X.base CX k f fd ps sp) (hr:Nh (k + 1) X.A) (hg:Gl X x) (hm:X.mg x=some (.ref C)) (hb:Qb X.K fd ps ds) (hd:Uc dvs ds) (hx:Zi CX X E)
  (ha:PA X (e :: es) t) (hdb:(x == ("__debug__" : Str))=false:=by decide) (he:starEach (e :: es) X.env=(false,eval e X.env) :: starEach es X.env:=by rfl) (hpl:(backTo pos (starEach es X.env)).any (·.1)=false:=by rfl) :
  PE X (.Call (.Name x p) (e :: es) [] pos) (MM C sp dvs E t):=by
 intro pins s σ H Q I h
 refine wpAny_Call_Name_kw (Bi I hg hm ?_ hdb)
 refine PySem.W.callWith_K (h₀:=X.base) I.ok.mod.kin M.kp (thn (ha pos pins s σ H _ I h) fun us s1 ⟨vs,H1,I1,r,q⟩=>⟨I1.kIn,?_⟩) he hpl
 exact aH M F hr hb hd hx I1 r q
end
section
variable {X:Cx} {CX:CXT} {k:Nat} {f C:Addr} {fd:FuncData} {ps ks:List Str} {sp:Sp} {E:XK} {x m:Str} {p pos apos kpos:Pos} {e o:Expr} {es:List Expr} {kws:List Keyword} {te ta:TE} {t tk:TA} {nm:Option Str}
structure cP (K:PySem.W.Frag) (fd:FuncData) (ps ks:List Str) (g:List Value→List Value→List Value) (gV:List V→List V→List V):Prop where
 to:∀ (s:Shared) (us ws:List Value),K.In s.heap→(g us ws).length=ps.length→BindsTo s fd ⟨us,ks.zip ws⟩ (ps.zip (g us ws))
 rel:∀ {vs:List V} {us:List Value} {zs:List V} {ws:List Value},Uc vs us→Uc zs ws→Uc (gV vs zs) (g us ws)
noncomputable def EM (sp:Sp) (gV:List V→List V→List V) (E:XK) (t tk:TA):TE:=fun σ H Q=>t σ H fun vs H1=>tk σ H1 fun zs H2=>sp (gV vs zs) H2 Q E
variable {g:List Value→List Value→List Value} {gV:List V→List V→List V}
end
structure wb (N P:List Str) (sc:Scope):Prop where
 kind:sc.kind=.function
 co:sc.isCoroutine=false
 gen:sc.isGenerator=false
 nd:N.Nodup
 pre:N.take P.length=P
 par:∀ x ∈ P,sc.names.lookup x=some .local∨sc.names.lookup x=some .cell
 nofree:∀ y ∈ sc.names,y.2 ≠ .free
theorem Bv {kindOf:Str→Option NameKind} {x:Str}:∀ {binds:List (Str × Value)} {m:Str→Option Value},(∀ v,(x,v) ∉ binds)→bindL kindOf binds m x=m x
 | [],_,_=>rfl
 | (n,v) :: r,m,h=>by
  unfold bindL
  rw [Bv fun w hw=>h w (List.mem_cons_of_mem _ hw)]
  split
  ·have:x ≠ n:=by rintro rfl;exact h v List.mem_cons_self
   simp [this]
  ·rfl
theorem Rv {kindOf:Str→Option NameKind} {x:Str}:∀ {binds:List (Str × Value)} {m:Str→Option Value},(∀ v,(x,v) ∉ binds)→bindC kindOf binds m x=m x
 | [],_,_=>rfl
 | (n,v) :: r,m,h=>by
  unfold bindC
  rw [Rv fun w hw=>h w (List.mem_cons_of_mem _ hw)]
  split
  ·rfl
  ·have:x ≠ n:=by rintro rfl;exact h v List.mem_cons_self
   simp [this]
theorem ar {kindOf:Str→Option NameKind} {x:Str} {v:Value}:∀ {P:List Str} {vs:List Value} {i:Nat} {m:Str→Option Value},P.Nodup→P[i]? = some x→vs[i]? = some v→kindOf x=some .local →
  bindL kindOf (P.zip vs) m x=some v
 | [],_,_,_,_,h,_,_=>by simp at h
 | _ :: _,[],_,_,_,_,h,_=>by simp at h
 | p :: P,w :: vs,0,m,nd,h1,h2,hk=>by
  simp at h1 h2;subst h1;subst h2
  show bindL kindOf ((p,w) :: P.zip vs) m p=_
  unfold bindL
  rw [Bv fun v hv=>(List.nodup_cons.mp nd).1 (List.of_mem_zip hv).1,if_pos hk]
  simp
 | p :: P,w :: vs,i + 1,m,nd,h1,h2,hk=>by
  show bindL kindOf ((p,w) :: P.zip vs) m x=_
  unfold bindL
  exact ar (i:=i) (List.nodup_cons.mp nd).2 (by simpa using h1) (by simpa using h2) hk
theorem vq {kindOf:Str→Option NameKind} {x:Str} {v:Value}:∀ {P:List Str} {vs:List Value} {i:Nat} {m:Str→Option Value},P.Nodup→P[i]? = some x→vs[i]? = some v→kindOf x ≠ some .local →
  bindC kindOf (P.zip vs) m x=some v
 | [],_,_,_,_,h,_,_=>by simp at h
 | _ :: _,[],_,_,_,_,h,_=>by simp at h
 | p :: P,w :: vs,0,m,nd,h1,h2,hk=>by
  simp at h1 h2;subst h1;subst h2
  show bindC kindOf ((p,w) :: P.zip vs) m p=_
  unfold bindC
  rw [Rv fun v hv=>(List.nodup_cons.mp nd).1 (List.of_mem_zip hv).1,if_neg hk]
  simp
 | p :: P,w :: vs,i + 1,m,nd,h1,h2,hk=>by
  show bindC kindOf ((p,w) :: P.zip vs) m x=_
  unfold bindC
  exact vq (i:=i) (List.nodup_cons.mp nd).2 (by simpa using h1) (by simpa using h2) hk
noncomputable def start (N:List Str) (vs:List V):St:=vs.map some ++ List.replicate (N.length - vs.length) none
noncomputable def pB (CX:CXT) (P:Program) (w:World) (K:PySem.W.Frag) (mg:Str→Option Value) (base:Heap) (N:List Str) (qual:Str) (scope:Scope) (f:Addr) (cd:Value) (A:Around) (outer:List Env) (s:Shared) (H:Hp) (E:XK):Cx where
 prog:=P
 w:=w
 K:=K
 mg:=mg
 base:=base
 A:=A.deeper (envOfC qual scope s.heap.objs.size f cd)
 N:=N
 s₀:=s
 H₀:=H
 env:=envOfC qual scope s.heap.objs.size f cd
 outer:=outer
 stack:=envOfC qual scope s.heap.objs.size f cd :: outer
 ex:=[]
 calm:=true
 fn:=fun _=>true
 pn:=[]
 xe:=fun e s'=>wpAny (model P w) (A.deeper (envOfC qual scope s.heap.objs.size f cd)) (leaving (envOfC qual scope s.heap.objs.size f cd) e) (fun _ s''=>CX outer H s E e s'') (fun e' s''=>CX outer H s E e' s'') s'
theorem Uo {sc:Scope} {n:Nat} {x:Str} (h:sc.names.lookup x=some .cell):∃ c,(cellsFrom n sc.names []).lookup x=some c:=by
 have q:=PySem.W.cellsFrom_some sc.names n [] (.inl h)
 exact Option.isSome_iff_exists.mp q
theorem WB {CX:CXT} {P:Program} {w:World} {K:PySem.W.Frag} {mg:Str→Option Value} {base:Heap} {N ps:List Str} {qual:Str} {scope:Scope} {f:Addr} {cd:Value} {A:Around} {outer:List Env} {s s1:Shared} {H:Hp} {E:XK} {us:List Value} {vs:List V}
  (S:wb N ps scope) (hd:A.handled=none) (e0:UA P w K mg base A outer s H) (hl:vs.length=ps.length) (r:Uc vs us)
  (x:InCallC s s.heap.objs.size (bindL (envOfC qual scope s.heap.objs.size f cd).kindOf (ps.zip us) fun _=>none) (cellsFrom (s.heap.objs.size + 1) scope.names []) (bindC (envOfC qual scope s.heap.objs.size f cd).kindOf (ps.zip us) fun _=>none) s1) :
  Inv (pB CX P w K mg base N qual scope f cd A outer s H E) [] (start N vs) H s1:=by
 have hpl:ps.length ≤ N.length:=by have:=congrArg List.length S.pre;rw [List.length_take] at this;omega
 obtain ⟨h1,tk,rfl,hk⟩:=x.done
 have noA:∀ b:Addr,b ∉ (pB CX P w K mg base N qual scope f cd A outer s H E).ex:=fun b z=>absurd (show b ∈ ([]:List Addr) from z) (by simp)
 refine ⟨⟨e0.mod,S.kind,rfl,rfl,Nat.le_refl _,fun y z c h1 h2=>?_,fun y hy=>?_,fun y c _ h=>?_,fun _=>hd,Around.frames_deeper e0.frames,.inr ⟨rfl,rfl⟩,fun b z=>absurd z (noA b),e0.bs,e0.bsz,fun b _ _=>noA b,fun b z=>absurd z (noA b),e0.funs,e0.frf⟩,
  rfl,e0.bare,Un.kept hk,⟨_,x.toInCall.ns,fun i y v h1 h2 h3=>?_⟩,fun y c h=>⟨_,x.cell y c h⟩,e0.hok.fresh (Nat.le_refl _),fun y c h=>?_,fun p hp=>absurd (show p ∈ ([]:List (Addr × Obj)) from hp) (by simp),e0.hok.kept hk,?_⟩
 ·exact name_of_addr x.apart (PySem.mem_of_lookup h1) (PySem.mem_of_lookup h2)
 ·have hy:scope.names.lookup y=some .cell∨scope.names.lookup y=some .free:=hy
  rcases hy with hy | hy
  ·exact Uo hy
  ·exact absurd rfl (S.nofree _ (PySem.mem_of_lookup hy))
 ·exact Nat.le_of_lt (x.above y c (PySem.mem_of_lookup h))
 ·have hi:i < vs.length:=by
   unfold start at h2
   by_cases hi:i < vs.length
   ·exact hi
   ·rw [List.getElem?_append_right (by simpa using hi)] at h2
    rw [List.getElem?_replicate] at h2
    split at h2 <;> cases h2
  have ha:vs[i]? = some v:=by
   unfold start at h2
   rw [List.getElem?_append_left (by simpa using hi),List.getElem?_map] at h2
   cases e:vs[i]? with
   | none=>rw [e] at h2;cases h2
   | some a=>rw [e] at h2;cases h2;rfl
  obtain ⟨u,hu,rv⟩:=r.get ha
  have hp:ps[i]? = some y:=by
   rw [← S.pre,List.getElem?_take_of_lt (by omega)];exact h1
  have ndP:ps.Nodup:=by rw [← S.pre];exact S.nd.sublist (List.take_sublist _ _)
  refine ⟨u,rv,?_⟩
  rcases S.par y (List.mem_of_getElem? hp) with k | k
  ·exact .inl ⟨k,ar ndP hp hu k⟩
  ·obtain ⟨c,e⟩:=Uo (n:=s.heap.objs.size + 1) k
   refine .inr ⟨.inl k,c,e,?_⟩
   have q:=x.cell y c e
   rw [vq ndP hp hu (by show scope.names.lookup y ≠ _;rw [k];decide)] at q
   exact q
 ·exact e0.hok.fresh (Nat.le_of_lt (x.above y c (PySem.mem_of_lookup h)))
 ·unfold start
  show _=N.length
  rw [List.length_append,List.length_map,List.length_replicate]
  omega
theorem pN {CX:CXT} {P:Program} {w:World} {K:PySem.W.Frag} {mg:Str→Option Value} {base:Heap} {k:Nat} {f:Addr} {name qual:Str} {params:Arguments} {body:List Stmt} {scope:Scope} {dV kV doc pm cdv ct oc:Value} {an od:Option Addr}
  {osl:Array (Option Value)} {N ps:List Str} {sp:Sp} (lk:K.lookup f=some ⟨oc,od,.func (PySem.W.fnOf name qual params body scope dV kV doc pm an cdv ct),osl⟩) (hcd:PySem.W.codeIn K cdv qual=true) (S:wb N ps scope)
  (len:∀ vs H Q E,sp vs H Q E→vs.length=ps.length)
  (hbody:∀ (A:Around) (outer:List Env) (s:Shared) (H:Hp) (vs:List V) (Q:VK) (E:XK),Nh k (A.deeper (envOfC qual scope s.heap.objs.size f cdv))→sp vs H Q E →
   ∃ t,PSs (pB CX P w K mg base N qual scope f cdv A outer s H E) body t∧t { nx:=fun _ H'=>Q .non H',rt:=Q } (start N vs) H) :
  Eb P w K mg base CX (k + 1) f (PySem.W.fnOf name qual params body scope dV kV doc pm an cdv ct) ps sp:=by
 refine ⟨len,fun A outer s H args us vs Q E hr e0 hb r hsp=>?_⟩
 have hl:=len _ _ _ _ hsp
 have KX:K.In s.heap:=e0.mod.kin.keeps fun b o e=>(e0.bs b o e).1
 have lim:s.heap.NoLimit:=e0.mod.nolimit.keeps fun b o e=>(e0.bs b o e).1
 have hkind:∀ y ∈ ps.zip us,scope.names.lookup y.1=some .local∨(scope.names.lookup y.1=some .cell∧((cellsFrom (s.heap.objs.size + 1) scope.names []).lookup y.1).isSome=true):=fun ⟨n,v⟩ hy=>by
  rcases S.par n (List.of_mem_zip hy).1 with q | q
  ·exact .inl q
  ·exact .inr ⟨q,PySem.W.cellsFrom_some _ _ _ (.inl q)⟩
 refine codeAny_call_function hr.depth (KX _ _ lk) rfl S.co S.gen rfl (PySem.W.codeRec_of KX hcd) (hb _ _ _ _ ?_)
 refine wpAny_newFunctionEnv_cells S.kind hkind fun env he s1 x=>?_
 subst he
 refine ⟨lim.keeps x.toInCall.keep,codeAny_func ?_⟩
 obtain ⟨t,ht,hq⟩:=hbody A outer s H vs Q E (hr.deeper _) hsp
 have I:Inv (pB CX P w K mg base N qual scope f cdv A outer s H E) [] (start N vs) H s1:=WB S hr.hd e0 hl r x
 refine wpAny_mono (ht [] s1 (start N vs) H _ I hq) (fun fl s' hs=>?_) fun e s' hs=>hs
 have fin:∀ {σ':St} {H':Hp} {v:V} {u:Value},Inv (pB CX P w K mg base N qual scope f cdv A outer s H E) [] σ' H' s'→Ed v u→Q v H'→CE outer P w H s Q u s':=
  fun {σ' H' v u} J rv q=>⟨v,H',J.os,J.bare,J.base,J.hok,rv,q⟩
 cases fl with
 | ret u=>
  obtain ⟨v,σ',H',J,rv,q⟩:=hs
  exact fin J rv q
 | next=>
  obtain ⟨σ',H',J,q⟩:=hs
  exact fin (v:=V.non) (u:=Value.none) J rfl q
 | brk=>
  obtain ⟨_,_,_,q⟩:=hs
  exact False.elim q
 | cont=>
  obtain ⟨_,_,_,q⟩:=hs
  exact False.elim q
end L2
namespace L2
open PySem PySem.Spec PyProof.Rows
section
variable {X:Cx} {x:Str} {p pos:Pos} {e:Expr} {es:List Expr} {t:TA} {id T:String} {r:List V→Hp→VK→Prop}
noncomputable def tCB (r:List V→Hp→VK→Prop) (t:TA):TE:=fun σ H Q=>t σ H fun vs H1=>r vs H1 Q
theorem fc (hc:sk X (.builtin id) r) (hg:Gl X x) (hm:X.mg x=none) (hv:bootBuiltins x=some (.builtin id)) (ha:PA X (e :: es) t) (hn:x ≠ "__name__" := by decide) (hdb:(x == ("__debug__" : Str))=false:=by decide)
  (he:starEach (e :: es) X.env=(false,eval e X.env) :: starEach es X.env:=by rfl) (hpl:(backTo pos (starEach es X.env)).any (·.1)=false:=by rfl):PE X (.Call (.Name x p) (e :: es) [] pos) (tCB r t):=by
 intro pins s σ H Q I h
 refine wpAny_Call_Name_kw (Tm I hg hm hv ?_ hn hdb)
 exact PyProof.Rows.callWith_builtin1 (thn (ha pos pins s σ H _ I h) fun us s1 ⟨vs,H1,I1,r1,q1⟩=>hc pins s1 σ H1 vs us Q I1 r1 q1) he hpl
theorem Jm (hc:sk X (.type T) r) (hg:Gl X x) (hm:X.mg x=none) (hv:bootBuiltins x=some (.type T)) (ha:PA X (e :: es) t) (hn:x ≠ "__name__" := by decide) (hdb:(x == ("__debug__" : Str))=false:=by decide)
  (he:starEach (e :: es) X.env=(false,eval e X.env) :: starEach es X.env:=by rfl) (hpl:(backTo pos (starEach es X.env)).any (·.1)=false:=by rfl):PE X (.Call (.Name x p) (e :: es) [] pos) (tCB r t):=by
 intro pins s σ H Q I h
 refine wpAny_Call_Name_kw (Tm I hg hm hv ?_ hn hdb)
 exact PyProof.Rows.callWith_type1 (thn (ha pos pins s σ H _ I h) fun us s1 ⟨vs,H1,I1,r1,q1⟩=>hc pins s1 σ H1 vs us Q I1 r1 q1) he hpl
end
end L2
namespace HT
open PySem PyProof.Rows
noncomputable def lexLt:List Int→List Int→Bool
 | [],[]=>false
 | [],_ :: _=>true
 | _ :: _,[]=>false
 | x :: xs,y :: ys=>if x=y then lexLt xs ys else decide (x < y)
section
open PySem.SeqAt
open PySem.AutoSeq1 (wpAny_loadPart')
open PySem.MeetsSeq PySem.MeetsSeq2 PySem.MeetsSeq3
end
section
variable {prog:Program} {w:World} {A:Around} {E:Value→Shared→Prop} {s:Shared}
noncomputable def sIx (n d:Nat):Option Int→Nat
 | none=>d
 | some v=>if v < 0 then (v + (n:Int)).toNat else min v.toNat n
end
end HT
namespace L2
open PySem PySem.Spec PyProof.Rows
noncomputable abbrev TO:=St→Hp→(Option Int→Hp→Prop)→Prop
noncomputable def PO (X:Cx) (e:Option Expr) (t:TO):Prop:=
 ∀ (pins:List (Addr × Obj)) (s:Shared) (σ:St) (H:Hp) (Q:Option Int→Hp→Prop),Inv X pins σ H s→t σ H Q →
  wpAny (model X.prog X.w) X.A (evalPart e X.env) (fun u s'=>∃ o H',Inv X pins σ H' s'∧IsPart u o∧Q o H') X.xe s
noncomputable def xD:TO:=fun _ H Q=>Q none H
noncomputable def gM (t:TE):TO:=fun σ H Q=>t σ H fun x H1=>∃ i,x=.int i∧Q (some i) H1
section
variable {X:Cx} {e:Expr} {te:TE} {lo hi:Option Expr} {tl th:TO} {pos p2:Pos}
theorem jD:PO X none xD:=by
 intro pins s σ H Q I h
 rw [evalPart_none]
 exact wpAny_pure ⟨none,H,I,.none,h⟩
theorem HB (h:PE X e te):PO X (some e) (gM te):=by
 intro pins s σ H Q I hw
 rw [evalPart_some]
 refine thn (h pins s σ H _ I hw) fun u s1 ⟨x,H1,I1,r1,q1⟩=>?_
 obtain ⟨i,rfl,q⟩:=q1
 obtain ⟨t,rfl⟩:=r1
 exact ⟨some i,H1,I1,.int i t,q⟩
noncomputable def SlR (X:Cx) (r:V→Option Int→Option Int→Hp→VK→Prop):Prop:=
 ∀ (pins:List (Addr × Obj)) (s:Shared) (σ:St) (H:Hp) (x:V) (v vl vu:Value) (lo hi:Option Int) (sl:Addr) (Q:VK),Inv X pins σ H s→Ed x v→s.heap.IsSliceOf sl vl vu .none→IsPart vl lo→IsPart vu hi→r x lo hi H Q →
  ∃ T id,typeLookup (.type T) "__getitem__"=pure (some (.builtin id))∧s.TypeIs v T∧wpAny (model X.prog X.w) X.A (getItem v (.ref sl)) (EP X pins σ Q) X.xe s
theorem SlR.or {r r':V→Option Int→Option Int→Hp→VK→Prop} (h:SlR X r) (h':SlR X r'):SlR X (fun x lo hi H Q=>r x lo hi H Q∨r' x lo hi H Q):=by
 intro pins s σ H x v vl vu lo hi sl Q I rx hs pl pu q
 rcases q with q | q
 ·exact h pins s σ H x v vl vu lo hi sl Q I rx hs pl pu q
 ·exact h' pins s σ H x v vl vu lo hi sl Q I rx hs pl pu q
noncomputable def tSl (r:V→Option Int→Option Int→Hp→VK→Prop) (te:TE) (tl th:TO):TE:=fun σ H Q=>te σ H fun x H1=>tl σ H1 fun l H2=>th σ H2 fun u H3=>r x l u H3 Q
theorem Cy {r:V→Option Int→Option Int→Hp→VK→Prop} (hr:SlR X r) (he:PE X e te) (hl:PO X lo tl) (hu:PO X hi th):PE X (.Subscript e (.Slice lo hi none p2) pos) (tSl r te tl th):=by
 intro pins s σ H Q I h
 refine Subscript_ (thn (he pins s σ H _ I h) fun v s1 ⟨x,H1,I1,r1,q1⟩=>?_)
 refine wpAny_Slice (thn (hl pins s1 σ H1 _ I1 q1) fun vl s2 ⟨l,H2,I2,pl,q2⟩=>thn (hu pins s2 σ H2 _ I2 q2) fun vu s3 ⟨u,H3,I3,pu,q3⟩=>?_)
 rw [evalPart_none]
 refine wpAny_pure ?_
 have I4:Inv X pins σ H3 { s3 with heap:=s3.heap.push { cls:=.type "slice",data:=.fields #[vl,vu,.none] } }:=I3.kept (t':=s3.toks) fun b ob q=>Heap.get?_push_of_some _ q
 obtain ⟨T,id,hT,ht,hg⟩:=hr pins { s3 with heap:=s3.heap.push { cls:=.type "slice",data:=.fields #[vl,vu,.none] } } σ H3 x v vl vu l u s3.heap.objs.size Q I4 r1 (Heap.IsSliceOf.new ..) pl pu q3
 show wpAny (model X.prog X.w) X.A (subscriptTail e (.Slice lo hi none p2) v (.ref s3.heap.objs.size)) (EP X pins σ Q) X.xe { s3 with heap:=s3.heap.push { cls:=.type "slice",data:=.fields #[vl,vu,.none] } }
 exact tail_any (ops:=[.ref s3.heap.objs.size,v]) ht hT hg (by with_unfolding_all rfl)
noncomputable def gE (xs:List V) (lo hi:Option Int):List V:=(xs.drop (HT.sIx xs.length 0 lo)).take (HT.sIx xs.length xs.length hi - HT.sIx xs.length 0 lo)
theorem Qw (xs:List V) (lo hi:Option Int):(gE xs lo hi).length ≤ xs.length:=by
 unfold gE
 rw [List.length_take,List.length_drop]
 omega
noncomputable def VP (K:PySem.W.Frag):V→Option Int→Option Int→Hp→VK→Prop:=fun x lo hi H Q=>∃ a xs,x=.ref a∧SqT K H a xs ∧
 ¬ (HT.sIx xs.length 0 lo=0∧HT.sIx xs.length xs.length hi=xs.length)∧∀ p,H p=none→Q (.ref p) (upd H p (.tup (gE xs lo hi)))
noncomputable def QP (K:PySem.W.Frag):R2:=fun x y H Q=>∃ a b ns ms,x=.ref a∧y=.ref b∧SqT K H a (ns.map V.int)∧SqT K H b (ms.map V.int)∧Q (.bl (HT.lexLt ns ms)) H
noncomputable def sO (K:PySem.W.Frag):R2:=fun x y H Q=>∃ a b xs ys,x=.ref a∧y=.ref b∧SqT K H a xs∧SqT K H b ys∧xs ≠ []∧xs.length + ys.length ≤ sizeLine ∧
 (ys=[]→Q (.ref a) H)∧(ys ≠ []→∀ p,H p=none→Q (.ref p) (upd H p (.tup (xs ++ ys))))
end
end L2
namespace L2
open PySem PySem.Spec PyProof.Rows
noncomputable def ixN (n:Nat) (i:Int):Option Nat:=if 0 ≤ i then (if i < n then some i.toNat else none) else if -(n:Int) ≤ i then some (i + n).toNat else none
noncomputable def atI {α:Type} (xs:List α) (i:Int):Option α:=(ixN xs.length i).bind fun j=>xs[j]?
theorem GB {n:Nat} {i:Int} {j:Nat} (h:ixN n i=some j):seqIndex? i n=some j∧j < n∧-(n:Int) ≤ i∧i < n:=by
 unfold ixN at h
 by_cases h0:0 ≤ i
 ·rw [if_pos h0] at h
  by_cases h1:i < n
  ·rw [if_pos h1] at h
   have e:i.toNat=j:=Option.some.inj h
   exact ⟨by rw [seqIndex_of h0 h1,e],by omega,by omega,h1⟩
  ·rw [if_neg h1] at h;cases h
 ·rw [if_neg h0] at h
  by_cases h1:-(n:Int) ≤ i
  ·rw [if_pos h1] at h
   have e:(i + n).toNat=j:=Option.some.inj h
   exact ⟨by rw [seqIndex_neg (by omega) h1,e],by omega,h1,by omega⟩
  ·rw [if_neg h1] at h;cases h
theorem Pw {α:Type} {xs:List α} {i:Int} {v:α} (h:atI xs i=some v):∃ j,seqIndex? i xs.length=some j∧xs[j]? = some v∧j < xs.length∧-(xs.length:Int) ≤ i∧i < xs.length:=by
 unfold atI at h
 cases e:ixN xs.length i with
 | none=>rw [e] at h;cases h
 | some j=>
  rw [e] at h
  obtain ⟨h1,h2,h3,h4⟩:=GB e
  exact ⟨j,h1,h,h2,h3,h4⟩
theorem yc {α:Type} {xs:List α} {j:Nat} {v:α} (h:xs[j]? = some v):atI xs (j:Int)=some v:=by
 have hj:j < xs.length:=(List.getElem?_eq_some_iff.mp h).1
 have e:ixN xs.length (j:Int)=some j:=by
  unfold ixN
  rw [if_pos (by omega),if_pos (by omega)];simp
 unfold atI;rw [e];exact h
noncomputable def oJ (b:Expr):Prop:=∀ o i,subscripted b false o i=operate [o,i] (getItem o i)
noncomputable def IxR (X:Cx) (r:R2):Prop:=
 ∀ (value slice:Expr) (pins:List (Addr × Obj)) (s:Shared) (σ:St) (H:Hp) (x y:V) (v u:Value) (Q:VK),Inv X pins σ H s→Ed x v→Ed y u→r x y H Q →
  subscripted slice false v u=operate [v,u] (getItem v u)→wpAny (model X.prog X.w) X.A (subscriptTail value slice v u) (EP X pins σ Q) X.xe s
noncomputable def MtR (X:Cx) (id:String) (r:V→List V→Hp→VK→Prop):Prop:=
 ∀ (pins:List (Addr × Obj)) (s:Shared) (σ:St) (H:Hp) (x:V) (xs:List V) (v:Value) (us:List Value) (Q:VK),Inv X pins σ H s→Ed x v→Uc xs us→r x xs H Q →
  wpAny (model X.prog X.w) X.A (call (.builtin id) (v :: us)) (EP X pins σ Q) X.xe s
section
variable {X:Cx} {a b:Expr} {ta tb:TE} {pos:Pos}
theorem IxR.or {r r':R2} (h:IxR X r) (h':IxR X r'):IxR X (fun x y H Q=>r x y H Q∨r' x y H Q):=by
 intro value slice pins s σ H x y v u Q I rx ry q hs
 rcases q with q | q
 ·exact h value slice pins s σ H x y v u Q I rx ry q hs
 ·exact h' value slice pins s σ H x y v u Q I rx ry q hs
theorem MtR.or {id:String} {r r':V→List V→Hp→VK→Prop} (h:MtR X id r) (h':MtR X id r'):MtR X id (fun x xs H Q=>r x xs H Q∨r' x xs H Q):=by
 intro pins s σ H x xs v us Q I rx rs q
 rcases q with q | q
 ·exact h pins s σ H x xs v us Q I rx rs q
 ·exact h' pins s σ H x xs v us Q I rx rs q
theorem gf {r:R2} (hr:IxR X r) (ha:PE X a ta) (hb:PE X b tb) (hs:oJ b):PE X (.Subscript a b pos) (tOp r ta tb):=by
 intro pins s σ H Q I h
 exact Subscript_ (bO ha hb I h fun v u s2 x y H2 I2 rx ry q=>hr a b pins s2 σ H2 x y v u Q I2 rx ry q (hs _ _))
noncomputable def JN (K:PySem.W.Frag):R2:=fun x y H Q=>∃ p xs i v,x=.ref p∧y=.int i∧SqL K H p xs∧atI xs i=some v∧Q v H
noncomputable def DN (K:PySem.W.Frag):R2:=fun x y H Q=>∃ p xs i v,x=.ref p∧y=.int i∧SqT K H p xs∧atI xs i=some v∧Q v H
noncomputable def CN:R2:=fun x y H Q=>∃ z i c,x=.str z∧y=.int i∧z.length ≤ sizeLine∧atI z.cps.toList i=some c∧Q (.str ⟨#[c]⟩) H
theorem Fd:IxR X (JN X.K):=by
 intro value slice pins s σ H x y v u Q I rx ry h hs
 obtain ⟨p,xs,i,z,rfl,rfl,hq,he,q⟩:=h
 cases rx
 obtain ⟨t,rfl⟩:=ry
 obtain ⟨its,r,pl,hz⟩:=I.list hq
 obtain ⟨j,h1,h2,h3,h4,h5⟩:=Pw he
 obtain ⟨w,ew,rw'⟩:=r.get h2
 have hl:=r.length
 have hn:=Xq
 have fin:EP X pins σ Q w s:=⟨z,H,I,rw',q⟩
 by_cases h0:0 ≤ i
 ·have hj:i.toNat=j:=by
   rw [seqIndex_of h0 h5] at h1
   exact Option.some.inj h1
  exact item_listR pl.isList h0 (by omega) (by rw [hj];simpa using ew) fin hs
 ·have hj:(i + (its.toArray.size:Int)).toNat=j:=by
   rw [seqIndex_neg (by omega) h4] at h1
   rw [List.size_toArray,← hl]
   exact Option.some.inj h1
  exact subscriptTail_builtinR (x:=w) pl.isList.typeIs slot_list_getitem.lookup
   (wpAny_getItem_list_neg (Q:=fun r s'=>r=w∧EP X pins σ Q r s') pl.isList (by omega) (by rw [List.size_toArray] <;> omega) (by omega) (by rw [hj];simpa using ew) ⟨rfl,fin⟩) hs
theorem Ky:IxR X (DN X.K):=by
 intro value slice pins s σ H x y v u Q I rx ry h hs
 obtain ⟨p,xs,i,z,rfl,rfl,hq,he,q⟩:=h
 cases rx
 obtain ⟨t,rfl⟩:=ry
 obtain ⟨its,r,pl,hz⟩:=I.tuple hq
 obtain ⟨j,h1,h2,h3,h4,h5⟩:=Pw he
 obtain ⟨w,ew,rw'⟩:=r.get h2
 have hl:=r.length
 have hn:=Xq
 have fin:EP X pins σ Q w s:=⟨z,H,I,rw',q⟩
 exact subscriptTail_builtinR (x:=w) pl.typeIs slot_tuple_getitem.lookup
  (getItem_tuple (j:=j) (Q:=fun r s'=>r=w∧EP X pins σ Q r s') pl (by omega) (by omega) (by rw [List.size_toArray,← hl];exact h1) (by simpa using ew) ⟨rfl,fin⟩) hs
theorem vB:IxR X CN:=by
 intro value slice pins s σ H x y v u Q I rx ry h hs
 obtain ⟨z,i,c,rfl,rfl,hz,he,q⟩:=h
 obtain ⟨t,rfl⟩:=rx
 obtain ⟨t',rfl⟩:=ry
 obtain ⟨j,h1,h2,h3,h4,h5⟩:=Pw he
 have hl:z.cps.toList.length=z.length:=by simp [Str.length]
 rw [hl] at h1 h4 h5
 have hn:=Xq
 exact tail_any (typeIs_str s z t) slot_str_getitem.lookup (getItem_str (c:=c) (by
  have e1:decide (i < -(2 ^ 63:Int))=false:=decide_eq_false (by omega)
  have e2:decide (i ≥ 2 ^ 63)=false:=decide_eq_false (by omega)
  rw [e1,e2,Bool.or_false]) (by rw [h1];simpa using h2) ⟨.str ⟨#[c]⟩,H,I.tok _,⟨_,rfl⟩,q⟩) hs
noncomputable def rIx (K:PySem.W.Frag):R2:=fun x y H Q=>JN K x y H Q∨DN K x y H Q∨CN x y H Q
theorem FA (its:List Value) (n j:Nat) (u:Value):Obj.mapSeq (·.setIfInBounds j u) { cls:=.type "list",data:=.seq its.toArray n } = { cls:=.type "list",data:=.seq (its.set j u).toArray n }:=by
 simp [Obj.mapSeq]
theorem Inv.lst {pins:List (Addr × Obj)} {σ:St} {H:Hp} {s:Shared} {p:Addr} {xs:List V} (I:Inv X pins σ H s) (h:H p=some (.lst xs)) :
  ∃ (its:List Value) (n:Nat),Uc xs its∧s.heap.get? p=some { cls:=.type "list",data:=.seq its.toArray n }∧xs.length ≤ sizeLine:=by
 obtain ⟨z,its,n,r,e⟩:=I.hok p _ h
 exact ⟨its,n,r,e,z⟩
theorem Inv.lstUpd {pins:List (Addr × Obj)} {σ:St} {H:Hp} {s:Shared} {p:Addr} {xs ys:List V} {its its':List Value} {n n':Nat} {f:Obj→Obj} (I:Inv X pins σ H s) (h:H p=some (.lst xs))
  (ho:s.heap.get? p=some { cls:=.type "list",data:=.seq its.toArray n }) (hf:f { cls:=.type "list",data:=.seq its.toArray n } = { cls:=.type "list",data:=.seq its'.toArray n' }) (r:Uc ys its') (hz:ys.length ≤ sizeLine) (t:Nat) :
  Inv X pins σ (upd H p (.lst ys)) { s with heap:=s.heap.update p f,toks:=t }:=by
 have e:(s.heap.update p f).get? p=some { cls:=.type "list",data:=.seq its'.toArray n' }:=by
  rw [Heap.get?_update_self f ho (by rw [hf] <;> rfl),hf]
 refine I.write (x:=p) (e:=p) (by rw [h];trivial) (.inl rfl) (fun b u hb q=>(Heap.get?_update_other _ _ (Ne.symm hb)).trans q) ⟨_,e⟩ ?_
 exact ⟨hz,its',n',r,e⟩
noncomputable def zL:V→V→V→Hp→(Hp→Prop)→Prop:=fun o i v H Q=>∃ p xs k j,o=.ref p∧i=.int k∧H p=some (.lst xs)∧ixN xs.length k=some j∧Q (upd H p (.lst (xs.set j v)))
theorem gp:EO X zL:=by
 intro pins s σ H o i v ov iv u Q I ro ri rv h
 obtain ⟨p,xs,k,j,rfl,rfl,hp,hj,q⟩:=h
 cases ro
 obtain ⟨t,rfl⟩:=ri
 obtain ⟨its,n,r,ho,hz⟩:=I.lst hp
 obtain ⟨h1,h2,h3,h4⟩:=GB hj
 have hl:=r.length
 have hn:=Xq
 have I':Inv X pins σ (upd H p (.lst (xs.set j v))) { s with heap:=s.heap.update p (Obj.mapSeq (·.setIfInBounds j u)) }:=
  I.lstUpd hp ho (FA its n j u) (r.set rv j) (by rw [List.length_set];exact hz) s.toks
 by_cases h0:0 ≤ k
 ·have hk:k.toNat=j:=by
   rw [seqIndex_of h0 h4] at h1
   exact Option.some.inj h1
  exact PySem.W.ki_setAt ho h0 (by omega) (by rw [List.size_toArray,← hl];exact h4) (by rw [hk];exact ⟨_,I',q⟩)
 ·have hk:(k + (its.toArray.size:Int)).toNat=j:=by
   rw [seqIndex_neg (by omega) h3] at h1
   rw [List.size_toArray,← hl]
   exact Option.some.inj h1
  exact PySem.W.ki_setBack ho (by omega) (by rw [List.size_toArray,← hl];exact h3) (by omega) (by rw [hk];exact ⟨_,I',q⟩)
theorem Cv (lo hi:Option Int) (n:Nat):(sliceBounds lo hi none n).1=((HT.sIx n 0 lo:Nat):Int)∧(sliceBounds lo hi none n).2.1=((HT.sIx n n hi:Nat):Int)∧(sliceBounds lo hi none n).2.2=1:=by
 refine ⟨?_,?_,rfl⟩
 ·cases lo with
  | none=>simp [sliceBounds,HT.sIx]
  | some i=>
   simp only [sliceBounds,HT.sIx,Option.getD_none,show (1:Int) > 0 by decide,if_true]
   by_cases h:i < 0
   ·simp only [h,if_true] <;> omega
   ·simp only [h,if_false] <;> omega
 ·cases hi with
  | none=>simp [sliceBounds,HT.sIx]
  | some i=>
   simp only [sliceBounds,HT.sIx,Option.getD_none,show (1:Int) > 0 by decide,if_true]
   by_cases h:i < 0
   ·simp only [h,if_true] <;> omega
   ·simp only [h,if_false] <;> omega
theorem yu (its:List Value) (lo hi:Option Int):slicePick its.toArray lo hi none=((its.drop (HT.sIx its.length 0 lo)).take (HT.sIx its.length its.length hi - HT.sIx its.length 0 lo)).toArray:=by
 obtain ⟨h1,h2,h3⟩:=Cv lo hi its.toArray.size
 unfold slicePick
 rw [h1,h2,h3]
 simp only [sliceRange_one,pick_run,List.size_toArray] <;> rfl
noncomputable def iP (K:PySem.W.Frag):V→Option Int→Option Int→Hp→VK→Prop:=fun x lo hi H Q=>∃ a xs,x=.ref a∧SqL K H a xs∧∀ p,H p=none→Q (.ref p) (upd H p (.lst (gE xs lo hi)))
theorem pC:SlR X (iP X.K):=by
 intro pins s σ H x v vl vu lo hi sl Q I rx hs pl pu h
 obtain ⟨a,xs,rfl,hx,q⟩:=h
 cases rx
 obtain ⟨its,r,ht,hz⟩:=I.list hx
 have hlen:=r.length
 refine ⟨"list",_,slot_list_getitem.lookup,ht.isList.typeIs,?_⟩
 refine wpAny_getItem_list_slice ht.isList hs pl pu .none (by simp) ?_ (by rw [List.size_toArray] <;> omega)
 rw [yu,← hlen]
 refine ⟨.ref s.heap.objs.size,_,I.laid (t':=s.toks) (o:=.lst (gE xs lo hi)) (fun b ob q=>Heap.get?_push_of_some _ q) (Nat.le_refl _) ?_,rfl,q _ (I.hok.fresh (Nat.le_refl _))⟩
 exact ⟨Nat.le_trans (Qw xs lo hi) hz,_,0,(r.drop (HT.sIx xs.length 0 lo)).take (HT.sIx xs.length xs.length hi - HT.sIx xs.length 0 lo),Heap.get?_push_size _ rfl⟩
noncomputable def rj:V→Bool
 | .non=>true
 | .bl _=>true
 | .int _=>true
 | .str _=>true
 | _=>false
noncomputable def eqV:V→V→Bool
 | .non,.non=>true
 | .bl a,.bl b=>a == b
 | .bl a,.int b=>(if a then 1 else 0) == b
 | .int a,.bl b=>a == (if b then 1 else 0)
 | .int a,.int b=>a == b
 | .str a,.str b=>a == b
 | _,_=>false
theorem sI {A:Around} {s:Shared} {y x:V} {u v:Value} (ry:Ed y u) (rx:Ed x v) (fy:rj y=true) (fx:rj x=true):SeqAt.EqAt A s u v (eqV y x):=by
 cases y with
 | non=>
  cases ry
  cases x with
  | non=>cases rx;exact SeqAt.EqAt.same _
  | bl b=>cases rx;exact SeqAt.EqAt.none_bool b
  | int b=>obtain ⟨t,rfl⟩:=rx;exact SeqAt.EqAt.none_int b t
  | str b=>obtain ⟨t,rfl⟩:=rx;exact SeqAt.EqAt.none_str b t
  | _=>exact absurd (show false=true from fx) Bool.false_ne_true
 | bl a=>
  cases ry
  cases x with
  | non=>cases rx;exact SeqAt.EqAt.bool_none a
  | bl b=>cases rx;exact SeqAt.EqAt.bool_bool a b
  | int b=>obtain ⟨t,rfl⟩:=rx;exact SeqAt.EqAt.bool_int a b t
  | str b=>obtain ⟨t,rfl⟩:=rx;exact SeqAt.EqAt.bool_str a b t
  | _=>exact absurd (show false=true from fx) Bool.false_ne_true
 | int a=>
  obtain ⟨t',rfl⟩:=ry
  cases x with
  | non=>cases rx;exact SeqAt.EqAt.int_none a t'
  | bl b=>cases rx;exact SeqAt.EqAt.int_bool a t' b
  | int b=>obtain ⟨t,rfl⟩:=rx;exact SeqAt.EqAt.int_int a t' b t
  | str b=>obtain ⟨t,rfl⟩:=rx;exact SeqAt.EqAt.int_str a t' b t
  | _=>exact absurd (show false=true from fx) Bool.false_ne_true
 | str a=>
  obtain ⟨t',rfl⟩:=ry
  cases x with
  | non=>cases rx;exact SeqAt.EqAt.str_none a t'
  | bl b=>cases rx;exact SeqAt.EqAt.str_bool a t' b
  | int b=>obtain ⟨t,rfl⟩:=rx;exact SeqAt.EqAt.str_int a t' b t
  | str b=>obtain ⟨t,rfl⟩:=rx;exact SeqAt.EqAt.str_str a t' b t
  | _=>exact absurd (show false=true from fx) Bool.false_ne_true
 | _=>exact absurd (show false=true from fy) Bool.false_ne_true
noncomputable def eqU (x:V) (u:Value):Bool:=match u with
 | .none=>eqV .non x
 | .bool b=>eqV (.bl b) x
 | .int i _=>eqV (.int i) x
 | .str z _=>eqV (.str z) x
 | _=>false
theorem UH {x y:V} {u:Value} (r:Ed y u) (f:rj y=true):eqU x u=eqV y x:=by
 cases y with
 | non=>cases r;rfl
 | bl b=>cases r;rfl
 | int i=>obtain ⟨t,rfl⟩:=r;rfl
 | str z=>obtain ⟨t,rfl⟩:=r;rfl
 | _=>exact absurd (show false=true from f) Bool.false_ne_true
theorem Jp {x:V}:∀ {xs:List V} {us:List Value},Uc xs us→xs.all rj=true→us.any (eqU x)=xs.any fun y=>eqV y x
 | _,_,.nil,_=>rfl
 | y :: xs,u :: us,.cons r t,f=>by
  rw [List.all_cons,Bool.and_eq_true] at f
  rw [List.any_cons,List.any_cons,UH r f.1,Jp t f.2]
theorem Wm {A:Around} {s:Shared} {x:V} {v:Value} (rx:Ed x v) (fx:rj x=true):∀ {xs:List V} {us:List Value},Uc xs us→xs.all rj=true→∀ u ∈ us,SeqAt.EqAt A s u v (eqU x u)
 | _,_,.nil,_=>fun u hu=>by cases hu
 | y :: xs,u :: us,.cons r t,f=>fun u' hu=>by
  rw [List.all_cons,Bool.and_eq_true] at f
  rcases List.mem_cons.mp hu with rfl | hu
  ·rw [UH r f.1];exact sI r rx f.1 fx
  ·exact Wm rx fx t f.2 u' hu
noncomputable def inV (x:V) (xs:List V):Bool:=xs.any fun y=>eqV y x
noncomputable def rIn (K:PySem.W.Frag) (neg:Bool):R2:=fun x y H Q=>∃ p xs,y=.ref p∧(SqL K H p xs∨SqT K H p xs)∧rj x=true∧xs.all rj=true∧Q (.bl (if neg then !inV x xs else inV x xs)) H
theorem iq:OpR X (compareOp .In) (rIn X.K false):=by
 intro pins s σ H x y v u Q I rx ry h
 obtain ⟨p,xs,rfl,hq,fx,fs,q⟩:=h
 cases ry
 rcases hq with hq | hq
 ·obtain ⟨its,r,pl,hz⟩:=I.list hq
  refine SeqAt.in_listAt (eqU x) pl.isList (fun w hw=>Wm rx fx r fs w (by simpa using hw)) ⟨.bl _,H,I,rfl,?_⟩
  rw [show its.toArray.any (eqU x)=its.any (eqU x) by simp,Jp r fs]
  exact q
 ·obtain ⟨its,r,pl,hz⟩:=I.tuple hq
  refine SeqAt.in_tupleAt (eqU x) pl (fun w hw=>Wm rx fx r fs w (by simpa using hw)) ⟨.bl _,H,I,rfl,?_⟩
  rw [show its.toArray.any (eqU x)=its.any (eqU x) by simp,Jp r fs]
  exact q
theorem Av:OpR X (compareOp .NotIn) (rIn X.K true):=by
 intro pins s σ H x y v u Q I rx ry h
 obtain ⟨p,xs,rfl,hq,fx,fs,q⟩:=h
 cases ry
 rcases hq with hq | hq
 ·obtain ⟨its,r,pl,hz⟩:=I.list hq
  refine SeqAt.notIn_listAt (eqU x) pl.isList (fun w hw=>Wm rx fx r fs w (by simpa using hw)) ⟨.bl _,H,I,rfl,?_⟩
  rw [show its.toArray.any (eqU x)=its.any (eqU x) by simp,Jp r fs]
  exact q
 ·obtain ⟨its,r,pl,hz⟩:=I.tuple hq
  refine SeqAt.notIn_tupleAt (eqU x) pl (fun w hw=>Wm rx fx r fs w (by simpa using hw)) ⟨.bl _,H,I,rfl,?_⟩
  rw [show its.toArray.any (eqU x)=its.any (eqU x) by simp,Jp r fs]
  exact q
theorem Qe:sk X (.builtin "len") (fun xs H Q=>∃ p ys,xs=[.ref p]∧(SqL X.K H p ys∨SqT X.K H p ys)∧Q (.int ys.length) H):=by
 intro pins s σ H xs us Q I r h
 obtain ⟨p,ys,rfl,hq,q⟩:=h
 obtain ⟨u,rfl,rx⟩:=Mw r
 cases rx
 have hn:=Xq
 rcases hq with hq | hq
 ·obtain ⟨its,r',pl,hz⟩:=I.list hq
  have hlen:=r'.length
  exact Calls.call_len_list pl.isList (by simp only [List.size_toArray] <;> omega) ⟨.int ys.length,H,I.tok _,⟨s.toks + 1,by rw [List.size_toArray,hlen]⟩,q⟩
 ·obtain ⟨its,r',pl,hz⟩:=I.tuple hq
  have hlen:=r'.length
  exact len_tuple pl (by simp only [List.size_toArray] <;> omega) ⟨.int ys.length,H,I.tok _,⟨s.toks + 1,by rw [List.size_toArray,hlen]⟩,q⟩
theorem Dv:sk X (.builtin "len") (fun xs H Q=>∃ z,xs=[.str z]∧z.length ≤ sizeLine∧Q (.int z.length) H):=by
 intro pins s σ H xs us Q I r h
 obtain ⟨z,rfl,hz,q⟩:=h
 obtain ⟨u,rfl,t,rfl⟩:=Mw r
 have hn:=Xq
 exact len_str (by omega) ⟨.int z.length,H,I.tok _,⟨_,rfl⟩,q⟩
theorem sk.or {f:Value} {r r':List V→Hp→VK→Prop} (h:sk X f r) (h':sk X f r'):sk X f (fun xs H Q=>r xs H Q∨r' xs H Q):=by
 intro pins s σ H xs us Q I rs q
 rcases q with q | q
 ·exact h pins s σ H xs us Q I rs q
 ·exact h' pins s σ H xs us Q I rs q
noncomputable def tyV (K:PySem.W.Frag) (T:String) (x:V) (H:Hp):Prop:=match x with
 | .str _=>T = "str"
 | .int _=>T = "int"
 | .ref p=>(T = "list" ∧ ∃ xs,SqL K H p xs)∨(T = "tuple" ∧ ∃ o,K.lookup p=some o∧o.cls=.type "tuple" ∧ o.dict=none) ∨
   (T = "dict" ∧ ((∃ kvs,H p=some (.dK kvs))∨∃ kvs,H p=some (.dT kvs)))∨(T = "set" ∧ ∃ S n,H p=some (.set S n))
 | _=>False
theorem pM {pins:List (Addr × Obj)} {σ:St} {H:Hp} {s:Shared} {T:String} {x:V} {v:Value} (I:Inv X pins σ H s) (r:Ed x v) (ty:tyV X.K T x H) :
  s.TypeIs v T∧∀ a,v=.ref a→∃ ob,s.heap.get? a=some ob∧ob.dict=none:=by
 cases x with
 | str z=>
  obtain ⟨t,rfl⟩:=r
  cases (show T = "str" from ty)
  exact ⟨typeIs_str s z t,fun _ e=>nomatch e⟩
 | int i=>
  obtain ⟨t,rfl⟩:=r
  cases (show T = "int" from ty)
  exact ⟨typeIs_int s i t,fun _ e=>nomatch e⟩
 | ref p=>
  cases r
  rcases ty with ⟨rfl,xs,hq⟩ | ⟨rfl,o,hk,hc,hd⟩ | ⟨rfl,hk⟩ | ⟨rfl,S,n,hk⟩
  ·obtain ⟨its,_,pl,_⟩:=I.list hq
   refine ⟨pl.isList.typeIs,fun a e=>?_⟩
   cases e
   obtain ⟨o,n,e,c,hd,_⟩:=pl
   exact ⟨o,e,hd⟩
  ·refine ⟨⟨o,I.kIn p o hk,hc⟩,fun a e=>?_⟩
   cases e
   exact ⟨o,I.kIn _ o hk,hd⟩
  ·have z:∃ o,s.heap.get? p=some o∧o.ExactDict:=by
    rcases hk with ⟨kvs,hk⟩ | ⟨kvs,hk⟩
    ·obtain ⟨_,_,_,_,o,_,_,e,ex,_⟩:=I.hok p _ hk
     exact ⟨o,e,ex⟩
    ·obtain ⟨_,_,_,_,o,_,_,e,ex,_⟩:=I.hok p _ hk
     exact ⟨o,e,ex⟩
   obtain ⟨o,e,ex⟩:=z
   refine ⟨⟨o,e,ex.1⟩,fun a e2=>?_⟩
   cases e2
   exact ⟨o,e,ex.2.1⟩
  ·obtain ⟨o,_,_,_,e,ex,_⟩:=I.hok p _ hk
   refine ⟨⟨o,e,ex.1⟩,fun a e2=>?_⟩
   cases e2
   exact ⟨o,e,ex.2.1⟩
 | _=>exact False.elim ty
noncomputable def JP (K:PySem.W.Frag) (T:String) (r:V→List V→Hp→VK→Prop) (to:TE):TE:=fun σ H Q=>to σ H fun x H1=>tyV K T x H1∧r x [] H1 Q
noncomputable def tBM (K:PySem.W.Frag) (T:String) (r:V→List V→Hp→VK→Prop) (to:TE) (t:TA):TE:=fun σ H Q=>to σ H fun x H1=>tyV K T x H1∧t σ H1 fun xs H2=>r x xs H2 Q
variable {o e:Expr} {es:List Expr} {to:TE} {t:TA} {name:Str} {apos cpos:Pos} {T id:String} {r:V→List V→Hp→VK→Prop}
theorem JC (pa:PlainAttrs T) (slot:Slot T name id) (hty:typeOf (.builtin id)=pure (.type "method_descriptor")) (hm:MtR X id r) (ho:PE X o to) (ha:PA X (e :: es) t)
  (hbase:attributeBase o name X.env (eval o X.env)=eval o X.env:=by rfl)
  (hfew:((backTo cpos (starEach (e :: es) X.env)).all (fun x=>!x.1) && (backToKw cpos (keywordEach [] X.env)).all (fun x=>x.1.isSome)
   && decide ((e :: es).length + ([]:List Keyword).length + (if ([]:List Keyword).isEmpty then 0 else 1) < 30))=true:=by rfl)
  (hline:(apos.endLine == cpos.line)=true:=by rfl) (hs:starEach (e :: es) X.env=(false,eval e X.env) :: starEach es X.env:=by rfl) (hplain:(backTo cpos (starEach es X.env)).any (·.1)=false:=by rfl) :
  PE X (.Call (.Attribute o name apos) (e :: es) [] cpos) (tBM X.K T r to t):=by
 intro pins s σ H Q I h
 refine wpAny_Call_method_late hbase hfew hline rfl (thn (ho pins s σ H _ I h) fun v s1 ⟨x,H1,I1,r1,ty,q1⟩=>?_)
 obtain ⟨h1,h2⟩:=pM I1 r1 ty
 refine ⟨T,id,pa,slot,hty,h1,h2,?_⟩
 have hA:=ha cpos pins s1 σ H1 _ I1 q1
 rw [hs] at hA ⊢
 refine Calls.callWith_builtin (by show (false || (backTo cpos (starEach es X.env)).any (·.1))=false;rw [hplain] <;> rfl) (Calls.evalArgs_plain ?_)
 exact thn hA fun us s2 ⟨vs,H2,I2,r2,q2⟩=>hm pins s2 σ H2 x vs v us Q I2 r1 r2 q2
end
end L2
namespace L2
open PySem PySem.Spec PyProof.Rows
noncomputable def MtM (X:Cx) (id:String) (r:V→List V→Hp→VK→Prop):Prop:=
 ∀ (pins:List (Addr × Obj)) (s:Shared) (σ:St) (H:Hp) (x:V) (xs:List V) (v:Value) (us:List Value) (Q:VK),Inv X pins σ H s→Ed x v→Uc xs us→r x xs H Q →
  wpAny (model X.prog X.w) X.A (call (.builtin id) (v :: us)) (EP X pins σ Q) X.xe s
theorem Uc.one:∀ {x:V} {us:List Value},Uc [x] us→∃ u,us=[u]∧Ed x u
 | _,_,.cons r .nil=>⟨_,rfl,r⟩
theorem Uc.zero:∀ {us:List Value},Uc [] us→us=[]
 | _,.nil=>rfl
theorem Uc.dropLast {xs:List V} {us:List Value} (h:Uc xs us):Uc xs.dropLast us.dropLast:=by
 induction h with
 | nil=>exact .nil
 | cons r t ih=>
  cases t with
  | nil=>exact .nil
  | cons q t'=>exact .cons r ih
theorem Uc.eraseIdx:∀ {xs:List V} {us:List Value} (i:Nat),Uc xs us→Uc (xs.eraseIdx i) (us.eraseIdx i)
 | _,_,_,.nil=>.nil
 | _,_,0,.cons _ t=>t
 | _,_,i + 1,.cons r t=>.cons r (Uc.eraseIdx i t)
theorem Uc.reverse {xs:List V} {us:List Value} (h:Uc xs us):Uc xs.reverse us.reverse:=by
 induction h with
 | nil=>exact .nil
 | cons r t ih=>rw [List.reverse_cons,List.reverse_cons];exact Uc.append ih (.cons r .nil)
section
variable {X:Cx} {pins:List (Addr × Obj)} {σ:St} {H:Hp} {s:Shared} {l b:Addr} {xs ys zs:List V}
theorem Inv.lset {its its':List Value} {n:Nat} {f:Array Value→Array Value} {t':Nat} (I:Inv X pins σ H s) (hH:H l=some (.lst xs))
  (e:s.heap.get? l=some { cls:=.type "list",data:=.seq its.toArray n }) (hf:f its.toArray=its'.toArray) (hv:Uc ys its') (hz:ys.length ≤ sizeLine) :
  Inv X pins σ (upd H l (.lst ys)) { s with heap:=s.heap.update l (Obj.mapSeq f),toks:=t' }:=by
 have q:=PySem.IsL.update e f
 rw [hf] at q
 refine I.write (x:=l) (e:=l) (by rw [hH];exact trivial) (.inl rfl) (fun b' u hb hu=>(Heap.get?_update_other s.heap (Obj.mapSeq f) (Ne.symm hb)).trans hu) ⟨_,q⟩ ?_
 exact ⟨hz,its',_,hv,q⟩
theorem Inv.lnew {its:List Value} {t':Nat} (I:Inv X pins σ H s) (hv:Uc ys its) (hz:ys.length ≤ sizeLine) :
  Inv X pins σ (upd H s.heap.objs.size (.lst ys)) { s with heap:=s.heap.push { cls:=.type "list",data:=.seq its.toArray },toks:=t' }:=
 I.laid (fun _ _ q=>Heap.get?_push_of_some _ q) (Nat.le_refl _) ⟨hz,its,0,hv,Heap.get?_push_size _ rfl⟩
theorem Inv.fresh (I:Inv X pins σ H s):H s.heap.objs.size=none:=I.hok.fresh (Nat.le_refl _)
theorem Inv.lstM (I:Inv X pins σ H s) (hH:H l=some (.lst xs)):xs.length ≤ sizeLine∧∃ (its:List Value) (n:Nat),Uc xs its∧xs.length=its.length∧s.heap.get? l=some { cls:=.type "list",data:=.seq its.toArray n }:=by
 obtain ⟨z,its,n,r,e⟩:=I.hok l _ hH
 exact ⟨z,its,n,r,r.length,e⟩
end
section
variable {X:Cx}
noncomputable def RC:V→List V→Hp→VK→Prop:=fun x vs H Q=>∃ l xs y,x=.ref l∧vs=[y]∧H l=some (.lst xs)∧xs.length < sizeLine∧Q .non (upd H l (.lst (xs ++ [y])))
theorem lp:MtM X "list.append" RC:=by
 intro pins s σ H x vs v us Q I rx rv h
 obtain ⟨l,xs,y,rfl,rfl,hH,hz,q⟩:=h
 cases rx
 obtain ⟨u,rfl,ru⟩:=rv.one
 obtain ⟨z,its,n,r,hl,e⟩:=I.lstM hH
 refine call_meets F.slot_list_append ⟨_,e,rfl⟩ F.entry_list_append (F.args_list_append_2 _ _) (PySem.list_append l its.toArray n u (by rw [List.size_toArray];omega)) ⟨e,?_⟩
 refine ⟨.non,_,I.lset (its':=its ++ [u]) hH e (by simp) (r.append (.cons ru .nil)) ?_,rfl,q⟩
 rw [List.length_append,List.length_singleton]
 omega
noncomputable def ZJ:V→List V→Hp→VK→Prop:=fun x vs H Q=>∃ l b xs zs,x=.ref l∧vs=[.ref b]∧H l=some (.lst xs)∧H b=some (.lst zs)∧xs.length + zs.length ≤ sizeLine∧Q .non (upd H l (.lst (xs ++ zs)))
noncomputable def xP:V→List V→Hp→VK→Prop:=fun x vs H Q=>∃ l xs y,x=.ref l∧vs=[]∧H l=some (.lst xs)∧xs[xs.length - 1]? = some y∧Q y (upd H l (.lst xs.dropLast))
noncomputable def xM:V→List V→Hp→VK→Prop:=fun x vs H Q=>∃ l xs i k y,x=.ref l∧vs=[.int i]∧H l=some (.lst xs)∧-(2 ^ 63) ≤ i∧i < 2 ^ 63∧seqIndex? i xs.length=some k∧xs[k]? = some y∧Q y (upd H l (.lst (xs.eraseIdx k)))
noncomputable def iF:V→List V→Hp→VK→Prop:=fun x vs H Q=>∃ l xs,x=.ref l∧vs=[]∧H l=some (.lst xs)∧Q .non (upd H l (.lst xs.reverse))
noncomputable def RL:V→List V→Hp→VK→Prop:=fun x vs H Q=>∃ l xs,x=.ref l∧vs=[]∧H l=some (.lst xs)∧Q .non (upd H l (.lst []))
noncomputable def SO:R2:=fun x y H Q=>∃ l b xs zs,x=.ref l∧y=.ref b∧H l=some (.lst xs)∧H b=some (.lst zs)∧xs.length + zs.length ≤ sizeLine∧∀ p,H p=none→Q (.ref p) (upd H p (.lst (xs ++ zs)))
theorem OM:OpR X (binaryOp .Add) SO:=by
 intro pins s σ H x y v u Q I rx ry h
 obtain ⟨l,b,xs,zs,rfl,rfl,hH,hB,hz,q⟩:=h
 cases rx
 cases ry
 obtain ⟨z,its,n,r,hl,e⟩:=I.lstM hH
 obtain ⟨z2,its2,n2,r2,hl2,e2⟩:=I.lstM hB
 refine PySem.P.add_list e e2 ?_ (by rw [List.size_toArray,List.size_toArray];omega)
 have ea:its.toArray ++ its2.toArray=(its ++ its2).toArray:=by simp
 rw [ea]
 exact ⟨.ref _,_,I.lnew (t':=s.toks) (r.append r2) (by rw [List.length_append];omega),rfl,q _ I.fresh⟩
noncomputable def OP:R2:=fun x y H Q=>∃ l k xs,x=.ref l∧y=.int k∧H l=some (.lst xs)∧-(2 ^ 63) ≤ k∧k < 2 ^ 63∧xs.length * k.toNat ≤ sizeLine ∧
 ∀ p,H p=none→Q (.ref p) (upd H p (.lst (List.replicate k.toNat xs).flatten))
end
section
variable {prog:Program} {w:World} {A:Around} {E:Value→Shared→Prop} {s:Shared}
end
section
variable {X:Cx}
end
end L2
namespace L2
open PySem PySem.Spec PyProof.Rows
section
variable {κ:Type} [DecidableEq κ]
noncomputable def Vl (kvs:List (κ × V)) (k:κ):Option V:=(kvs.find? fun kv=>decide (kv.1=k)).map (·.2)
noncomputable def Xu (kvs:List (κ × V)) (k:κ) (v:V):List (κ × V):=
 if (kvs.any fun kv=>decide (kv.1=k))=true then kvs.map (fun kv=>if kv.1=k then (kv.1,v) else kv) else kvs ++ [(k,v)]
noncomputable def Nv (kvs:List (κ × V)) (k:κ):List (κ × V):=kvs.filter fun kv=>decide (kv.1 ≠ k)
theorem Ou {p:κ × V} {r:List (κ × V)} {k:κ} (e:p.1=k):Vl (p :: r) k=some p.2:=by simp [Vl,List.find?_cons,e]
theorem qu {p:κ × V} {r:List (κ × V)} {k:κ} (e:¬ p.1=k):Vl (p :: r) k=Vl r k:=by simp [Vl,List.find?_cons,e]
theorem sy (k:κ):∀ kvs:List (κ × V),(kvs.any fun kv=>decide (kv.1=k))=(Vl kvs k).isSome
 | []=>rfl
 | p :: r=>by
  rw [List.any_cons]
  by_cases e:p.1=k
  ·simp only [Ou e,decide_eq_true e,Bool.true_or,Option.isSome_some]
  ·rw [qu e,decide_eq_false e,Bool.false_or];exact sy k r
theorem Mp (kvs:List (κ × V)) (k:κ) (v:V):(Xu kvs k v).length ≤ kvs.length + 1:=by
 unfold Xu
 split
 ·rw [List.length_map];omega
 ·rw [List.length_append,List.length_cons,List.length_nil];omega
theorem Ar.isSome_eq {o:Option V} {u:Option Value} (r:Ar o u):o.isSome=u.isSome:=by
 cases o with
 | none=>cases u with
  | none=>rfl
  | some _=>exact (show False from r).elim
 | some _=>cases u with
  | none=>exact (show False from r).elim
  | some _=>rfl
theorem Ar.getD {o:Option V} {u:Option Value} {d:V} {d':Value} (r:Ar o u) (rd:Ed d d'):Ed (o.getD d) (u.getD d'):=by
 cases o with
 | none=>cases u with
  | none=>exact rd
  | some _=>exact (show False from r).elim
 | some _=>cases u with
  | none=>exact (show False from r).elim
  | some _=>exact r
theorem KV.val {kvs:List (κ × V)} {vs:List (κ × Value)} (r:KV kvs vs) (k:κ):Ar (Vl kvs k) (valueAt vs k):=by
 unfold KV at r
 induction r with
 | nil=>exact True.intro
 | @cons p q ps qs h t ih=>
  obtain ⟨h1,h2⟩:=h
  by_cases e:p.1=k
  ·have e':q.1=k:=h1.symm.trans e
   have b:valueAt (q :: qs) k=some q.2:=by simp [valueAt,List.find?_cons,e']
   rw [Ou e,b];exact h2
  ·have e':¬ q.1=k:=fun z=>e (h1.trans z)
   have b:valueAt (q :: qs) k=valueAt qs k:=by simp [valueAt,List.find?_cons,e']
   rw [qu e,b];exact ih
theorem KV.any {kvs:List (κ × V)} {vs:List (κ × Value)} (r:KV kvs vs) (k:κ):(kvs.any fun kv=>decide (kv.1=k))=vs.any fun kv=>decide (kv.1=k):=by
 unfold KV at r
 induction r with
 | nil=>rfl
 | cons h t ih=>rw [List.any_cons,List.any_cons,ih,h.1]
theorem KV.repl {kvs:List (κ × V)} {vs:List (κ × Value)} (r:KV kvs vs) (k:κ) {y:V} {u:Value} (ry:Ed y u) :
  KV (kvs.map fun kv=>if kv.1=k then (kv.1,y) else kv) (vs.map fun kv=>if kv.1=k then (kv.1,u) else kv):=by
 unfold KV at r ⊢
 induction r with
 | nil=>exact .nil
 | @cons p q ps qs h t ih=>
  rw [List.map_cons,List.map_cons]
  refine .cons ?_ ih
  obtain ⟨h1,h2⟩:=h
  by_cases e:p.1=k
  ·rw [if_pos e,if_pos (h1.symm.trans e)];exact ⟨h1,ry⟩
  ·rw [if_neg e,if_neg (fun z=>e (h1.trans z))];exact ⟨h1,h2⟩
theorem KV.put {kvs:List (κ × V)} {vs:List (κ × Value)} (r:KV kvs vs) (k:κ) {y:V} {u:Value} (ry:Ed y u):KV (Xu kvs k y) (stored vs k u):=by
 unfold Xu stored
 rw [r.any k]
 by_cases e:(vs.any fun kv=>decide (kv.1=k))=true
 ·rw [if_pos e,if_pos e];exact r.repl k ry
 ·rw [if_neg e,if_neg e];exact Paired.snoc r ⟨rfl,ry⟩
theorem KV.drop {kvs:List (κ × V)} {vs:List (κ × Value)} (r:KV kvs vs) (k:κ):KV (Nv kvs k) (without vs k):=by
 unfold KV at r ⊢
 unfold Nv without
 induction r with
 | nil=>exact .nil
 | @cons p q ps qs h t ih=>
  obtain ⟨h1,h2⟩:=h
  rw [List.filter_cons,List.filter_cons]
  by_cases e:p.1=k
  ·have a:¬ decide (p.1 ≠ k)=true:=by simp [e]
   have b:¬ decide (q.1 ≠ k)=true:=by simp [h1.symm.trans e]
   rw [if_neg a,if_neg b];exact ih
  ·have e':¬ q.1=k:=fun z=>e (h1.trans z)
   have a:decide (p.1 ≠ k)=true:=by simp [e]
   have b:decide (q.1 ≠ k)=true:=by simp [e']
   rw [if_pos a,if_pos b];exact .cons ⟨h1,h2⟩ ih
theorem KV.length {kvs:List (κ × V)} {vs:List (κ × Value)} (r:KV kvs vs):kvs.length=vs.length:=Paired.length r
end
theorem kG {P:Program} {w:World} {k:Key} {u:Value} (r:Ed (kV k) u):(Ve P w).is k u=true:=by
 cases k with
 | inl i=>obtain ⟨t,e⟩:=(show ∃ t,u=Value.int i t from r);subst e;exact Uw P w i t
 | inr x=>obtain ⟨t,e⟩:=(show ∃ t,u=Value.str x t from r);subst e;exact gx P w x t
theorem xv {P:Program} {w:World}:∀ {ks:List Key} {us:List Value},Uc (ks.map kV) us→ItemsAre (Ve P w) ks us
 | [],_,r=>by rw [List.map_nil] at r;cases r;exact .nil
 | k :: ks,_,r=>by
  rw [List.map_cons] at r
  cases r with
  | cons h t=>exact .cons (kG h) (xv t)
noncomputable abbrev KT (H:Hp):List (List Key × V)→List (List Key × Addr × Value)→Prop:=Paired fun p q=>p.1=q.1∧H q.2.1=some (.tup (p.1.map kV))∧Ed p.2 q.2.2
theorem KT.val {H:Hp} {kvs:List (List Key × V)} {xs:List (List Key × Addr × Value)} (r:KT H kvs xs) (k:List Key):Ar (Vl kvs k) ((atKey xs k).map (·.2)):=by
 induction r with
 | nil=>exact True.intro
 | @cons p q ps qs h t ih=>
  obtain ⟨h1,_,h2⟩:=h
  by_cases e:p.1=k
  ·have e':q.1=k:=h1.symm.trans e
   have b:atKey (q :: qs) k=some q.2:=by simp [atKey,List.find?_cons,e']
   rw [Ou e,b];exact h2
  ·have e':¬ q.1=k:=fun z=>e (h1.trans z)
   have b:atKey (q :: qs) k=atKey qs k:=by simp [atKey,List.find?_cons,e']
   rw [qu e,b];exact ih
theorem KT.repl {H:Hp} {kvs:List (List Key × V)} {xs:List (List Key × Addr × Value)} (r:KT H kvs xs) (k:List Key) {y:V} {u:Value} (ry:Ed y u) :
  KT H (kvs.map fun kv=>if kv.1=k then (kv.1,y) else kv) (xs.map (putAt k u)):=by
 induction r with
 | nil=>exact .nil
 | @cons p q ps qs h t ih=>
  rw [List.map_cons,List.map_cons]
  refine .cons ?_ ih
  obtain ⟨h1,h2,h3⟩:=h
  unfold putAt
  by_cases e:p.1=k
  ·rw [if_pos e,if_pos (h1.symm.trans e)];exact ⟨h1,h2,ry⟩
  ·rw [if_neg e,if_neg (fun z=>e (h1.trans z))];exact ⟨h1,h2,h3⟩
theorem KT.put {H:Hp} {kvs:List (List Key × V)} {xs:List (List Key × Addr × Value)} (r:KT H kvs xs) (k:List Key) {b:Addr} {y:V} {u:Value} (hb:H b=some (.tup (k.map kV))) (ry:Ed y u) :
  KT H (Xu kvs k y) (storedH xs k b u):=by
 have e:(kvs.any fun kv=>decide (kv.1=k))=(atKey xs k).isSome:=by
  rw [sy,(r.val k).isSome_eq,Option.isSome_map]
 unfold Xu storedH
 rw [e]
 by_cases q:(atKey xs k).isSome=true
 ·rw [if_pos q,if_pos q];exact r.repl k ry
 ·rw [if_neg q,if_neg q];exact Paired.snoc r ⟨rfl,hb,ry⟩
theorem KT.keeps {H H':Hp} {kvs:List (List Key × V)} {xs:List (List Key × Addr × Value)} (r:KT H kvs xs) (ht:∀ b ys,H b=some (.tup ys)→H' b=some (.tup ys)):KT H' kvs xs:=
 Paired.mapP r fun _ _ z=>⟨z.1,ht _ _ z.2.1,z.2.2⟩
section
variable {P:Program} {w:World} {H:Hp} {h:Heap} {a:Addr}
theorem TL {u:HO} (ok:HOk P w H h) (e:Rd H a u):Ad P w H h a u:=e.ok ok
theorem cH {kvs:List (Key × V)} (ok:HOk P w H h) (e:Rd H a (.dK kvs)):kvs.length ≤ sizeLine∧(a == sysModules)=false∧∃ vs,KV kvs vs∧h.DictOf (Ve P w) a vs:=
 show Ad P w H h a (.dK kvs) from TL ok e
theorem LN {kvs:List (Key × V)} (ok:HOk P w H h) (e:H a=some (.dK kvs)):kvs.length ≤ sizeLine∧(a == sysModules)=false∧∃ vs,KV kvs vs∧h.DictOf (Ve P w) a vs:=cH ok (.inl e)
theorem Gy {ks:List Key} (ok:HOk P w H h) (e:H a=some (.tup (ks.map kV))):(tupleKind (Ve P w)).is h ks a:=by
 obtain ⟨_,its,r,o,h1,h2,n,h3⟩:=(show Ad P w H h a (.tup (ks.map kV)) from ok a _ e)
 exact ⟨o,its.toArray,n,h1,h2,h3,by simpa using xv r⟩
theorem cG {kvs:List (List Key × V)} (ok:HOk P w H h) (e:Rd H a (.dT kvs)):kvs.length ≤ sizeLine∧(a == sysModules)=false ∧
  ∃ xs,KT H kvs xs∧h.DictOfH (tupleKind (Ve P w)) a xs:=by
 obtain ⟨z,y,xs,r,o,es,ep,h1,h2,h3,h4,h5⟩:=(show Ad P w H h a (.dT kvs) from TL ok e)
 refine ⟨z,y,xs,r,o,es,ep,h1,h2,h3,h4,fun x hx=>?_,h5⟩
 have all:∀ {l:List (List Key × V)} {m:List (List Key × Addr × Value)},KT H l m→∀ x ∈ m,(tupleKind (Ve P w)).is h x.1 x.2.1:=by
  intro l m q
  induction q with
  | nil=>intro x hx;exact nomatch hx
  | @cons p q ps qs hq t ih=>
   intro x hx
   rcases List.mem_cons.mp hx with e | hx
   ·subst e
    exact Gy ok (by rw [← hq.1];exact hq.2.1)
   ·exact ih x hx
 exact all r x hx
theorem kO {kvs:List (List Key × V)} (ok:HOk P w H h) (e:H a=some (.dT kvs)):kvs.length ≤ sizeLine∧(a == sysModules)=false ∧
  ∃ xs,KT H kvs xs∧h.DictOfH (tupleKind (Ve P w)) a xs:=cG ok (.inl e)
end
noncomputable def Km (H:Hp) (a:Addr) (y:V) (r:Option V):Prop:=
 (∃ kvs k,Rd H a (.dK kvs)∧y=kV k∧r=Vl kvs k)∨∃ kvs k b,Rd H a (.dT kvs)∧y=.ref b∧H b=some (.tup (k.map kV))∧r=Vl kvs k
noncomputable def Nz (H:Hp) (a:Addr) (y v:V) (H':Hp):Prop:=
 (∃ kvs k,H a=some (.dK kvs)∧y=kV k∧kvs.length < sizeLine∧H'=upd H a (.dK (Xu kvs k v))) ∨
 ∃ kvs k b,H a=some (.dT kvs)∧y=.ref b∧H b=some (.tup (k.map kV))∧kvs.length < sizeLine∧H'=upd H a (.dT (Xu kvs k v))
theorem Km.k {H:Hp} {a:Addr} {kvs:List (Key × V)} {k:Key} (e:H a=some (.dK kvs)):Km H a (kV k) (Vl kvs k):=.inl ⟨kvs,k,.inl e,rfl,rfl⟩
theorem Km.t {H:Hp} {a b:Addr} {kvs:List (List Key × V)} {k:List Key} (e:H a=some (.dT kvs)) (eb:H b=some (.tup (k.map kV))):Km H a (.ref b) (Vl kvs k):=.inr ⟨kvs,k,b,.inl e,rfl,eb,rfl⟩
theorem Nz.k {H:Hp} {a:Addr} {kvs:List (Key × V)} {k:Key} {v:V} (e:H a=some (.dK kvs)) (hl:kvs.length < sizeLine):Nz H a (kV k) v (upd H a (.dK (Xu kvs k v))):=.inl ⟨kvs,k,e,rfl,hl,rfl⟩
theorem Nz.t {H:Hp} {a b:Addr} {kvs:List (List Key × V)} {k:List Key} {v:V} (e:H a=some (.dT kvs)) (eb:H b=some (.tup (k.map kV))) (hl:kvs.length < sizeLine) :
  Nz H a (.ref b) v (upd H a (.dT (Xu kvs k v))):=.inr ⟨kvs,k,b,e,rfl,eb,hl,rfl⟩
section
variable {X:Cx} {pins:List (Addr × Obj)} {σ:St} {H:Hp} {s:Shared} {a:Addr} {y v:V} {u r:Value} {o:Option V} {A:Around} {E:Value→Shared→Prop}
theorem Inv.big (I:Inv X pins σ H s):sysModules < s.heap.objs.size:=by
 have h:mainGlobals < s.heap.objs.size:=(I.mod.glob.keeps I.bk).lt
 exact Nat.lt_trans (by decide) h
theorem aB {Q:Value→Shared→Prop} (hu:A.units + 1 < cLine) (I:Inv X pins σ H s) (g:Km H a y (some v)) (ry:Ed y u) (h:∀ w' s',Inv X pins σ H s'→Ed v w'→Q w' s') :
  wpAny (model X.prog X.w) A (getItem (.ref a) u) Q E s:=by
 rcases g with ⟨kvs,k,e,ey,l⟩ | ⟨kvs,k,b,e,ey,eb,l⟩
 ·subst ey
  obtain ⟨z,hd,vs,rel,dd⟩:=cH I.hok e
  obtain ⟨w',hw,rw'⟩:=Ar.some_of (v:=v) (o:=valueAt vs k) (by rw [l];exact rel.val k)
  exact wpAny_getItem_of (kG ry) dd.mapOf hw (h w' _ (I.tok _) rw')
 ·subst ey
  cases (show u=Value.ref b from ry)
  obtain ⟨z,hd,xs,rel,dd⟩:=cG I.hok e
  obtain ⟨w',hw,rw'⟩:=Ar.some_of (v:=v) (o:=(atKey xs k).map (·.2)) (by rw [l];exact rel.val k)
  obtain ⟨p,hp,hp2⟩:=Option.map_eq_some_iff.mp hw
  refine wpAny_getItem_heap (tupleKind_room_in1 hu) (Gy I.hok eb) dd hp ?_
  rw [hp2]
  exact h w' _ (I.tok _) rw'
theorem UJ {Q:Value→Shared→Prop} (hu:A.units + 1 < cLine) (I:Inv X pins σ H s) (g:Km H a y o) (ry:Ed y u) (h:∀ s',Inv X pins σ H s'→Q (.bool (!o.isSome)) s') :
  wpAny (model X.prog X.w) A (compareOp .NotIn u (.ref a)) Q E s:=by
 rcases g with ⟨kvs,k,e,ey,l⟩ | ⟨kvs,k,b,e,ey,eb,l⟩
 ·subst ey
  obtain ⟨z,hd,vs,rel,dd⟩:=cH I.hok e
  refine wpAny_notIn_of (kG ry) hd dd.mapOf ?_
  rw [← (rel.val k).isSome_eq,← l]
  exact h _ (I.tok _)
 ·subst ey
  cases (show u=Value.ref b from ry)
  obtain ⟨z,hd,xs,rel,dd⟩:=cG I.hok e
  refine wpAny_notIn_heap (tupleKind_room_in1 hu) (Gy I.hok eb) hd dd ?_
  have q:=(rel.val k).isSome_eq
  rw [Option.isSome_map] at q
  rw [← q,← l]
  exact h _ (I.tok _)
theorem lE {h':Heap} {t':Nat} {ob:HO} (I:Inv X pins σ H s) (mu:Mut (H a)) (hs:Heap.SameBut a s.heap h') (he:∃ q,h'.get? a=some q) (new:Ad X.prog X.w (upd H a ob) h' a ob) :
  Inv X pins σ (upd H a ob) { s with heap:=h',toks:=t' }:=
 I.write (x:=a) (e:=a) mu (.inl rfl) (fun b q hb z=>(hs.2 b hb).trans z) he new
theorem YL {P:Program} {w:World} {H':Hp} {h':Heap} {kvs:List (Key × V)} {vs:List (Key × Value)} (z:kvs.length ≤ sizeLine) (hd:(a == sysModules)=false) (rel:KV kvs vs) (dd:h'.DictOf (Ve P w) a vs) :
  Ad P w H' h' a (.dK kvs):=⟨z,hd,vs,rel,dd⟩
theorem NC {H':Hp} {Q:Unit→Shared→Prop} (hu:A.units + 1 < cLine) (I:Inv X pins σ H s) (g:Nz H a y v H') (ry:Ed y u) (rv:Ed v r) (h:∀ s',Inv X pins σ H' s'→Q () s') :
  wpAny (model X.prog X.w) A (setItem (.ref a) u r) Q E s:=by
 rcases g with ⟨kvs,k,e,ey,l,eH⟩ | ⟨kvs,k,b,e,ey,eb,l,eH⟩
 ·subst ey eH
  obtain ⟨z,hd,vs,rel,dd⟩:=LN I.hok e
  have hz:vs.length ≤ sizeLine:=by rw [← rel.length];exact z
  have hl:(Xu kvs k v).length ≤ sizeLine:=by have:=Mp kvs k v;omega
  refine wpAny_setItem_pairs (hsz:=hz) (kG ry) dd fun h' dd' hs=>h _ ?_
  have he:∃ q,h'.get? a=some q:=let ⟨q,_,_,hq,_⟩:=dd';⟨q,hq⟩
  exact lE I (by rw [e];exact True.intro) hs he (YL hl hd (rel.put k rv) dd')
 ·subst ey eH
  cases (show u=Value.ref b from ry)
  obtain ⟨z,hd,xs,rel,dd⟩:=kO I.hok e
  have hz:xs.length ≤ sizeLine:=by rw [← Paired.length rel];exact z
  have hl:(Xu kvs k v).length ≤ sizeLine:=by have:=Mp kvs k v;omega
  refine wpAny_setItem_heap (hsz:=hz) (tupleKind_room_in1 hu) (Gy I.hok eb) dd fun h' dd' hs=>h _ ?_
  obtain ⟨q,es,ep,hq,h2,h3,h4,_,h5⟩:=dd'
  refine lE I (by rw [e];exact True.intro) hs ⟨q,hq⟩ ⟨hl,hd,_,(rel.put k eb rv).keeps fun c ys ec=>?_,q,es,ep,hq,h2,h3,h4,h5⟩
  rw [lb (Bg ec e (fun z=>nomatch z))]
  exact ec
end
section
variable {X:Cx} {pins:List (Addr × Obj)} {σ:St} {H:Hp} {s:Shared} {a:Addr} {kvs:List (Key × V)} {k:Key} {u:Value} {A:Around} {E:Value→Shared→Prop}
end
noncomputable def XO (i:Expr):Prop:=∀ ov iv,subscripted i false ov iv=operate [ov,iv] (getItem ov iv)
theorem EK {prog:Program} {w:World} {A:Around} {E:Value→Shared→Prop} {s:Shared} {env:Env} {value slice:Expr} {pos:Pos} {T id:String} {Q:Value→Shared→Prop}
  (hl:typeLookup (.type T) "__getitem__"=pure (some (.builtin id))) (hs:XO slice)
  (h:wpAny (model prog w) A (eval value env) (fun o s₁=>wpAny (model prog w) A (eval slice env) (fun i s₂=>s₂.TypeIs o T∧wpAny (model prog w) A (getItem o i) Q E s₂) E s₁) E s) :
  wpAny (model prog w) A (eval (.Subscript value slice pos) env) Q E s:=by
 refine Subscript_ (wpAny_mono h (fun o s₁ h₁=>wpAny_mono h₁ (fun i s₂ h₂=>?_) fun _ _ x=>x) fun _ _ x=>x)
 obtain ⟨hT,h₂⟩:=h₂
 unfold subscriptTail
 refine wpAny_bind ?_
 rw [getitemInPython_of_ne hT.not_modules]
 refine wpAny_bind (wpAny_specialOf hT hl ?_)
 have fin:wpAny (model prog w) A (subscripted slice false o i) (fun r s₃=>wpAny (model prog w) A (letTemporaryGo value o r >>= fun _=>pure r) Q E s₃) E s₂:=by
  rw [hs o i]
  exact wpAny_operating (wpAny_mono h₂ (fun r s₃ h₃=>wpAny_bind (wpAny_letTemporaryGo (wpAny_pure h₃))) fun _ _ x=>x)
 first
  | exact wpAny_pure (wpAny_bind fin)
  | exact wpAny_bind (wpAny_pure (wpAny_bind fin))
  | exact wpAny_bind fin
theorem Zx {X:Cx} {pins:List (Addr × Obj)} {σ:St} {H:Hp} {s:Shared} {a:Addr} {y:V} {o:Option V} (I:Inv X pins σ H s) (g:Km H a y o):s.TypeIs (.ref a) "dict" := by
 rcases g with ⟨kvs,k,e,_,_⟩ | ⟨kvs,k,b,e,_,_,_⟩
 ·obtain ⟨_,_,vs,_,dd⟩:=cH I.hok e
  exact dd.typeIs
 ·obtain ⟨_,_,xs,_,dd⟩:=cG I.hok e
  exact dd.typeIs
noncomputable def aN (td ty:TE):TE:=fun σ H Q=>td σ H fun x H1=>ty σ H1 fun y H2=>∃ a v,x=.ref a∧Km H2 a y (some v)∧Q v H2
noncomputable def RP (ty td:TE):TE:=fun σ H Q=>ty σ H fun y H1=>td σ H1 fun x H2=>∃ a o,x=.ref a∧Km H2 a y o∧Q (.bl o.isSome) H2
noncomputable def ZC (ty td:TE):TE:=fun σ H Q=>ty σ H fun y H1=>td σ H1 fun x H2=>∃ a o,x=.ref a∧Km H2 a y o∧Q (.bl (!o.isSome)) H2
noncomputable def pL (td ty tv:TE):TS:=fun D σ H=>tv σ H fun v H1=>td σ H1 fun x H2=>ty σ H2 fun y H3=>∃ a H4,x=.ref a∧Nz H3 a y v H4∧D.nx σ H4
noncomputable def TN (td ty tv:TE) (rd:V→V→Hp→VK→Prop):TS:=fun D σ H=>td σ H fun x H1=>ty σ H1 fun y H2=>∃ a v,x=.ref a∧Km H2 a y (some v) ∧
 tv σ H2 fun y2 H3=>rd v y2 H3 fun z H4=>∃ H5,Nz H4 a y z H5∧D.nx σ H5
noncomputable def PN (td ty:TE):TS:=fun D σ H=>td σ H fun x H1=>ty σ H1 fun y H2=>∃ a kvs k,x=.ref a∧H2 a=some (.dK kvs)∧y=kV k∧(Vl kvs k).isSome=true∧D.nx σ (upd H2 a (.dK (Nv kvs k)))
section
variable {X:Cx} {o i e value:Expr} {pos pos' tpos:Pos} {td ty tv:TE}
theorem zu (hu:X.A.units + 1 < cLine) (ho:PE X o td) (hi:PE X i ty) (hs:XO i):PE X (.Subscript o i pos) (aN td ty):=by
 intro pins s σ H Q I h
 refine EK PySem.F.slot_dict_getitem.lookup hs (thn (ho pins s σ H _ I h) fun u s1 ⟨x,H1,I1,rx,q1⟩=>thn (hi pins s1 σ H1 _ I1 q1) fun iv s2 ⟨y,H2,I2,ry,a,v,ex,g,q2⟩=>?_)
 subst ex
 obtain rfl:u=Value.ref a:=rx
 exact ⟨Zx I2 g,aB hu I2 g ry fun w' s3 I3 rw'=>⟨v,H2,I3,rw',q2⟩⟩
theorem Fv (hu:X.A.units + 1 < cLine) (hi:PE X i ty) (ho:PE X o td):PC X .NotIn i o (ZC ty td):=by
 intro pins s σ H Q I h
 refine thn (hi pins s σ H _ I h) fun iv s1 ⟨y,H1,I1,ry,q1⟩=>thn (ho pins s1 σ H1 _ I1 q1) fun u s2 ⟨x,H2,I2,rx,a,ov,ex,g,q2⟩=>?_
 subst ex
 obtain rfl:u=Value.ref a:=rx
 exact UJ hu I2 g ry fun s3 I3=>⟨.bl (!ov.isSome),H2,I3,rfl,q2⟩
theorem fu (hu:X.A.units + 1 < cLine) (ho:PE X o td) (hi:PE X i ty) (hv:PE X value tv) (hs:swapsWith value (some (.Subscript o i pos')) pos.line X.env=pure false) :
  PS X (.Assign [.Subscript o i pos'] value pos) (pL td ty tv):=by
 intro pins s σ H D I h
 refine wpAny_Assign_Subscript (thn (hv pins s σ H _ I h) fun r s1 ⟨v,H1,I1,rv,q1⟩=>thn (ho pins s1 σ H1 _ I1 q1) fun u s2 ⟨x,H2,I2,rx,q2⟩=>thn (hi pins s2 σ H2 _ I2 q2) fun iv s3 ⟨y,H3,I3,ry,a,H4,ex,g,q3⟩=>?_) hs
 subst ex
 obtain rfl:u=Value.ref a:=rx
 exact NC hu I3 g ry rv fun s4 I4=>⟨σ,H4,I4,q3⟩
end
theorem rF {P:Program} {w:World} {H:Hp} (h:Heap) (hb:sysModules < h.objs.size):Ad P w H (h.push { cls:=.type "dict",data:=.dict #[] }) h.objs.size (.dK []):=
 ⟨Nat.zero_le _,beq_eq_false_iff_ne.mpr (Ne.symm (Nat.ne_of_lt hb)),[],.nil,Heap.DictOf.new h⟩
noncomputable def oI:TE:=fun _ H Q=>∀ p,H p=none→Q (.ref p) (upd H p (.dK []))
noncomputable def yN:TE:=fun _ H Q=>∀ p,H p=none→Q (.ref p) (upd H p (.dT []))
section
variable {X:Cx} {pos:Pos}
theorem Yo:PE X (.Dict [] [] pos) oI:=fun pins s σ H Q I h=>
 wpAny_Dict_empty ⟨.ref s.heap.objs.size,_,I.laid (a:=s.heap.objs.size) (o:=.dK []) (t':=s.toks) (fun _ _ q=>Heap.get?_push_of_some _ q) (Nat.le_refl _) (rF s.heap I.big),rfl,h _ (I.hok.fresh (Nat.le_refl _))⟩
end
noncomputable def SC:List (TE × TE)→St→Hp→(List (V × V)→Hp→Prop)→Prop
 | [],_,H,Q=>Q [] H
 | (tk,tv) :: r,σ,H,Q=>tk σ H fun x H1=>tv σ H1 fun y H2=>SC r σ H2 fun ps H3=>Q ((x,y) :: ps) H3
noncomputable def NH (kvs more:List (Key × V)):List (Key × V):=more.foldl (fun acc kv=>Xu acc kv.1 kv.2) kvs
noncomputable def QN (trs:List (TE × TE)):TE:=fun σ H Q=>∀ p,H p=none→SC trs σ (upd H p (.dK [])) fun ps H2=>H2 p=some (.dK [])∧∃ kvs:List (Key × V),ps=kvs.map (fun kv=>(kV kv.1,kv.2))∧kvs.length ≤ 15∧Q (.ref p) (upd H2 p (.dK (NH [] kvs)))
structure M1 (X:Cx) (o:Expr) (m:Str) (apos:Pos) (e:Expr) (cpos:Pos):Prop where
 base:attributeBase o m X.env (eval o X.env)=eval o X.env
 few:((backTo cpos (starEach [e] X.env)).all (fun x=>!x.1) && (backToKw cpos (keywordEach [] X.env)).all (fun x=>x.1.isSome)
  && decide (([e]:List Expr).length + ([]:List Keyword).length + (if ([]:List Keyword).isEmpty then 0 else 1) < 30))=true
 line:(apos.endLine == cpos.line)=true
 trees:backTo cpos (starEach [e] X.env)=[(false,eval e X.env)]
structure M2 (X:Cx) (o:Expr) (m:Str) (apos:Pos) (e f:Expr) (cpos:Pos):Prop where
 base:attributeBase o m X.env (eval o X.env)=eval o X.env
 few:((backTo cpos (starEach [e,f] X.env)).all (fun x=>!x.1) && (backToKw cpos (keywordEach [] X.env)).all (fun x=>x.1.isSome)
  && decide (([e,f]:List Expr).length + ([]:List Keyword).length + (if ([]:List Keyword).isEmpty then 0 else 1) < 30))=true
 line:(apos.endLine == cpos.line)=true
 trees:backTo cpos (starEach [e,f] X.env)=[(false,eval e X.env),(false,eval f X.env)]
noncomputable def IsD (H:Hp) (a:Addr):Prop:=(∃ kvs,Rd H a (.dK kvs))∨∃ kvs,Rd H a (.dT kvs)
section
variable {X:Cx} {pins:List (Addr × Obj)} {σ:St} {H:Hp} {s:Shared} {a:Addr} {y d:V} {u r:Value} {o:Option V} {A:Around} {E:Value→Shared→Prop}
end
noncomputable def fL (td ty:TE):TE:=fun σ H Q=>td σ H fun x H1=>∃ a,x=.ref a∧IsD H1 a∧ty σ H1 fun y H2=>∃ o,Km H2 a y o∧Q (o.getD .non) H2
noncomputable def zM (td ty tx:TE):TE:=fun σ H Q=>td σ H fun x H1=>∃ a,x=.ref a∧IsD H1 a∧ty σ H1 fun y H2=>tx σ H2 fun z H3=>∃ o,Km H3 a y o∧Q (o.getD z) H3
noncomputable def HL (td ty:TE):TE:=fun σ H Q=>td σ H fun x H1=>∃ a,x=.ref a∧IsD H1 a∧ty σ H1 fun y H2=>∃ kvs k v,H2 a=some (.dK kvs)∧y=kV k∧Vl kvs k=some v∧Q v (upd H2 a (.dK (Nv kvs k)))
noncomputable def EL (td ty tx:TE):TE:=fun σ H Q=>td σ H fun x H1=>∃ a,x=.ref a∧IsD H1 a∧ty σ H1 fun y H2=>tx σ H2 fun z H3=>∃ kvs k,H3 a=some (.dK kvs)∧y=kV k ∧
 (∀ v,Vl kvs k=some v→Q v (upd H3 a (.dK (Nv kvs k))))∧(Vl kvs k=none→Q z H3)
section
variable {X:Cx} {o e f:Expr} {apos cpos:Pos} {td ty tx:TE}
end
section
variable {X:Cx} {pins:List (Addr × Obj)} {σ:St} {H:Hp} {s:Shared} {a:Addr} {kvs:List (Key × V)} {A:Around} {E:Value→Shared→Prop}
end
section
variable {X:Cx} {pins:List (Addr × Obj)} {σ:St} {H:Hp} {s:Shared} {a:Addr} {y:V} {u:Value} {A:Around} {E:Value→Shared→Prop}
end
end L2
namespace Att
open PySem PySem.W PySem.Calls PyProof.Rows
theorem zq {P:Params} {h:Heap}:∀ (ns:List Int) (vs:List Value),WellAll P h vs (ns.map WData.int)→IntsAre vs ns:=by
 intro ns
 induction ns with
 | nil=>
  intro vs w
  rw [List.map_nil] at w
  cases w
  exact .nil
 | cons n ns ih=>
  intro vs w
  rw [List.map_cons] at w
  cases w with
  | cons a b=>
   cases a
   exact .cons _ _ (ih _ b)
theorem MB {l:OpenLaw} {n:Nat} (hn:l.most=some n) {P:Params} {h:Heap} {args:List WData} {vals:List Value}
  (hpre:l.row.toRowW.claim.pre args=true) (hwl:WellAll P h vals args) :
  ∃ a vs ns,vals=[Value.ref a]∧args=[WData.list (ns.map WData.int)]∧h.get? a=some { cls:=.type "list",data:=.seq vs.toArray }∧IntsAre vs ns∧ns.length ≤ n:=by
 have hsh:WShape.hasAll [] args [.list .int]=true:=(pre_splitW hpre).1
 have hc:l.pre.holds [] { args:=args }=true:=(pre_splitW hpre).2
 obtain ⟨d,r,rfl,h1,h2⟩:=hasAllW_cons hsh
 obtain rfl:=hasAllW_nil h2
 obtain ⟨xs,rfl,h3⟩:=hasW_list h1
 obtain ⟨ns,rfl⟩:=items_int h3
 have hlen:ns.length ≤ n:=by
  unfold OpenLaw.pre at hc
  have h4:(WTm.not (.lt (.lit (.int (n:Int))) (.len (.arg 0)))).holds [] { args:=[.list (ns.map .int)] }=true:=by
   have h4:=(holds_andW hc).1
   rw [hn] at h4
   exact h4
  have h5:=condW_of h4 (w_not (w_lt w_lit (w_len_list (w_arg rfl))))
  rw [List.length_map] at h5
  refine Nat.le_of_not_lt fun q=>?_
  have q':(n:Int) < ((ns.length:Nat):Int):=by omega
  first
   | (rw [decide_eq_true q'] at h5;exact absurd h5 (by decide))
   | (simp at h5;omega)
 cases hwl with
 | cons w1 w2=>
  cases w2
  cases w1 with
  | list ho hall=>exact ⟨_,_,ns,rfl,rfl,ho,zq ns _ hall,hlen⟩
theorem rD (l:OpenLaw) (args:List WData):l.row.toRowW.claim.post args (.bool true) args=true:=
 postW_of (r:=l.row.toRowW) (X:=(true == true))
  (show WShape.has [] (.bool true) .bool=true by first | rfl | decide | simp [WShape.has,WShape.arms,WShape.armsAll])
  (show (WTm.eq .res (.lit (.bool true))).value [] { args:=args,res:=some (.bool true),after:=args }=some (.bool (true == true)) from w_eq_bool (w_res rfl) w_lit) rfl
theorem attach_call {l:OpenLaw} {n:Nat} {q:Program} {loose:List Str} {XP:(Str→Option Value)→Heap→Prop} {YP:World→Heap→Prop} {d:DefRec}
  (hn:l.most=some n) (hdf:d.params.defaults=[])
  (call:∀ (w:World) (s₀ s₁:Shared) (mg mb:Str→Option Value) (fa:Addr) (o:Obj) (pm cd doc:Value) (a:Addr) (vs:List Value) (ns:List Int),
   Ground q loose [] XP w s₀ mg mb s₁.heap→YP w s₁.heap →
   s₁.heap.get? fa=some o→o.data=.func (docDef d.name d.params d.body d.scope pm cd doc)→s₁.heap.CodeRec cd d.name→mg d.name=some (.ref fa) →
   s₁.heap.get? a=some { cls:=.type "list",data:=.seq vs.toArray }→IntsAre vs ns→ns.length ≤ n→s₁.gens=#[] →
   codeAny (model l.prog w) callerA (.call (.ref fa) ⟨[.ref a],[]⟩) (fun r s'=>r=.ok (.ret (.bool true))∧OldK s₁.heap s'.heap∧s'.os=s₁.os∧AllBare s'.gens) s₁) :
  WalkO q loose XP YP l.row.toRowW d [] (fun f vs=>PySem.call f vs):=by
 intro w s₀ s₁ mg mb G Y fa o pm cd doc dV kV ho hd hcd hD hmg hg args vals as hpre hlay hrd hwl hlo
 obtain rfl:dV=.none:=Dflts.none hD hdf
 obtain rfl:kV=.none:=Dflts.noKw hD
 obtain ⟨a,vs,ns,rfl,rfl,hobj,hints,hlen⟩:=MB hn hpre hwl
 refine enter_call (codeAny_mono (call w s₀ s₁ mg mb fa o pm cd doc a vs ns G Y ho (fd_plain hd) hcd hmg hobj hints hlen hg) fun r s' hq=>?_)
 obtain ⟨rfl,h2,h3,h4⟩:=hq
 exact ⟨.inl ⟨.bool true,.bool true,[],rfl,fun _=>rfl,.bool true,rD l _,fun _=>⟨List.Pairwise.nil,fun _ hm=>(nomatch hm)⟩⟩,h2,h3,h4⟩
section
variable {prog:Program} {w:World} {A:Around} {E:Value→Shared→Prop} {s:Shared} {K:Frag}
end
end Att
namespace L2
open PySem PySem.Spec PyProof.Rows
theorem vv:∀ {vs:List Value} {ns:List Int},IntsAre vs ns→Uc (ns.map V.int) vs
 | _,_,.nil=>.nil
 | _,_,.cons n t h=>.cons ⟨t,rfl⟩ (vv h)
noncomputable def uM (H:Hp):Prop:=∀ b,H b=none∨∃ o xs,H b=some (.frz o (.lst xs))
theorem FG {P:Program} {w:World} {K:PySem.W.Frag} {mg mb:Str→Option Value} {CX:CXT} {k:Nat} {fa a:Addr} {fd:FuncData} {x:Str} {sp:Sp} {s₁:Shared} {vs:List Value} {ns:List Int}
  (KX:K.In s₁.heap) (hns:s₁.heap.Ns mainGlobals mg) (hb:s₁.heap.Ns builtinsNs mb) (hbb:∀ x:Str,x ≠ "__name__" → mb x=bootBuiltins x) (hlim:s₁.heap.NoLimit) (hg:s₁.gens=#[])
  (ha:s₁.heap.get? a=some { cls:=.type "list",data:=.seq vs.toArray }) (hi:IntsAre vs ns) (hl:ns.length ≤ sizeLine) (hr:Nh k callerA)
  (F:∀ base:Heap,K.In base→base.Ns mainGlobals mg→Eb P w K mg base CX k fa fd [x] sp) (hbind:∀ (s:Shared) (u:Value),BindsTo s fd ⟨[u],[]⟩ [(x,u)])
  (hsp:∀ H:Hp,uM H→SqL K H a (ns.map V.int)→sp [.ref a] H (fun v _=>v=.bl true) fun _ _ _=>False)
  (hCX:∀ H e s',CX [] H s₁ (fun _ _ _=>False) e s'→False) :
  codeAny (model P w) callerA (.call (.ref fa) ⟨[.ref a],[]⟩) (fun r s'=>r=.ok (.ret (.bool true))∧OldK s₁.heap s'.heap∧s'.os=s₁.os∧AllBare s'.gens) s₁:=by
 have rv:=vv hi
 have lenV:=hi.length
 -- from an abstract heap in which nothing but the script may be tracked
 have core:∀ H:Hp,uM H→SqL K H a (ns.map V.int)→HOk P w H s₁.heap→(∀ b,H b ≠ none→b=a)→(H a ≠ none→K.lookup a=none) →
   codeAny (model P w) callerA (.call (.ref fa) ⟨[.ref a],[]⟩) (fun r s'=>r=.ok (.ret (.bool true))∧OldK s₁.heap s'.heap∧s'.os=s₁.os∧AllBare s'.gens) s₁:=by
  intro H hO hS hok hA hK
  have base_of:∀ {b:Addr} {o:Obj},s₁.heap.get? b=some o→H b=none→(tF s₁.heap H).get? b=some o:=fun e n=>rG e n
  have noA:∀ {b:Addr} {o:Obj} {es:Array DictEntry} {ep:Nat},s₁.heap.get? b=some o→o.data=.dict es ep→H b=none:=fun {b o es ep} e d=>by
   cases q:H b with
   | none=>rfl
   | some u=>
    have e':b=a:=hA b (by rw [q];simp)
    subst e'
    rw [ha] at e;cases e
    have d':Data.seq vs.toArray _=Data.dict es ep:=d
    cases d'
  have nsK:∀ {b:Addr} {m:Str→Option Value},s₁.heap.Ns b m→(tF s₁.heap H).Ns b m:=fun {b m} ⟨o,es,ep,e,d,r⟩=>⟨o,es,ep,base_of e (noA e d),d,r⟩
  have hKb:K.In (tF s₁.heap H):=fun b o e=>base_of (KX b o e) (by
   cases q:H b with
   | none=>rfl
   | some u=>
    have e':b=a:=hA b (by rw [q];simp)
    subst e'
    rw [hK (by rw [q];simp)] at e;cases e)
  have hM:Mod K mg (tF s₁.heap H):=⟨hKb,nsK hns,⟨mb,nsK hb,hbb⟩,let ⟨mc,h1,h2⟩:=hlim;⟨mc,nsK h1,h2⟩⟩
  have e0:UA P w K mg (tF s₁.heap H) callerA [] s₁ H:=⟨rfl,hM,fun b o e=>PK e,Nat.le_of_eq (dD _ _),trivial,fun b hb=>absurd (show b ∈ ([]:List Addr) from hb) (by simp),hok,.of_eq hg⟩
  refine codeAny_mono ((F _ hKb (nsK hns)).run callerA [] s₁ H ⟨[.ref a],[]⟩ [.ref a] [.ref a] _ _ hr e0 (hbind s₁ (.ref a)) (.cons rfl .nil) (hsp H hO hS)) fun r s' h=>?_
  cases r with
  | error e=>exact (hCX H e s' h).elim
  | ok fl=>
   cases fl with
   | next=>exact False.elim h
   | brk=>exact False.elim h
   | cont=>exact False.elim h
   | ret u=>
    obtain ⟨v,H',os,bare,un,hok',r',q⟩:=h
    have q':v=.bl true:=q
    subst q'
    obtain rfl:u=Value.bool true:=r'
    refine ⟨rfl,OldK.of_keep fun b o e=>?_,os,bare⟩
    cases q:H b with
    | none=>exact un.keep b o e q (by intro z;exact absurd (show b ∈ ([]:List Addr) from z) (by simp)) (by simp)
    | some u=>
     rcases hO b with z | ⟨ob,xs,z⟩
     ·rw [q] at z;cases z
     ·have z2:=un.frzs b ob _ z
      obtain ⟨e1,_⟩:=hok b _ z
      obtain ⟨e2,_⟩:=hok' b _ z2
      rw [e] at e1;cases e1
      exact e2
 cases hk:K.lookup a with
 | some o=>
  -- the script is one of the module's own objects
  have e:=KX a o hk
  rw [ha] at e
  cases e
  refine core (fun _=>none) (fun _=>.inl rfl) (.inr ⟨_,vs.toArray,_,hk,rfl,rfl,rfl,by rw [List.size_toArray,lenV];exact hl,by simpa using rv⟩) (fun b u z=>by have z':(none:Option HO)=some u:=z;cases z') (fun b z=>absurd rfl z) fun z=>absurd rfl z
 | none=>
  refine core (fun b=>if b=a then some (.frz { cls:=.type "list",data:=.seq vs.toArray } (.lst (ns.map V.int))) else none) (fun b=>?_) (.inl (.inr ⟨{ cls:=.type "list",data:=.seq vs.toArray },if_pos rfl⟩)) (fun b u z=>?_) (fun b z=>?_) fun _=>hk
  ·by_cases hb:b=a
   ·exact .inr ⟨_,_,if_pos hb⟩
   ·exact .inl (if_neg hb)
  ·by_cases hb:b=a
   ·have z':=(if_pos hb).symm.trans z
    cases z'
    subst hb
    exact ⟨ha,by rw [List.length_map];exact hl,vs,_,rv,ha⟩
   ·have z':=(if_neg hb).symm.trans z
    cases z'
  ·by_cases hb:b=a
   ·exact hb
   ·exact absurd (if_neg hb) z
end L2
namespace L2
open PySem PySem.Spec PyProof.Rows
noncomputable abbrev KOf {K:PySem.W.Frag} {h:Heap} (_:K.In h):PySem.W.Frag:=K
theorem zJ {l:PySem.W.OpenLaw} {n k:Nat} {q:Program} {loose:List Str} {XP:(Str→Option Value)→Heap→Prop} {YP:World→Heap→Prop} {d:DefRec} {K:Params→PySem.W.Frag} {CX:World→CXT} {sp:World→Sp} {x:Str}
  (hn:l.most=some n) (hn2:n ≤ sizeLine) (hdf:d.params.defaults=[]) (hr:Nh k callerA)
  (hY:∀ (w:World) (h:Heap),YP w h→(K w.params).In h)
  (F:∀ (w:World) (mg:Str→Option Value) (fa:Addr) (h:Heap),(K w.params).In h→h.Ns mainGlobals mg→mg d.name=some (.ref fa) →
   ∃ fd:FuncData,(∀ (s:Shared) (u:Value),BindsTo s fd ⟨[u],[]⟩ [(x,u)]) ∧
    ∀ base:Heap,(K w.params).In base→base.Ns mainGlobals mg→Eb l.prog w (K w.params) mg base (CX w) k fa fd [x] (sp w))
  (hsp:∀ (w:World) (H:Hp) (a:Addr) (ns:List Int),ns.length ≤ n→uM H→SqL (K w.params) H a (ns.map V.int)→sp w [.ref a] H (fun v _=>v=.bl true) fun _ _ _=>False)
  (hCX:∀ (w:World) (H:Hp) (s:Shared) (e:Value) (s':Shared),CX w [] H s (fun _ _ _=>False) e s'→False) :
  PySem.W.WalkO q loose XP YP l.row.toRowW d [] (fun f vs=>PySem.call f vs):=by
 refine Att.attach_call hn hdf fun w s₀ s₁ mg mb fa o pm cd doc a vs ns G Y ho hd hcd hmg hobj hints hlen hg=>?_
 have KX:=hY w _ Y
 obtain ⟨fd,hb,hF⟩:=F w mg fa _ KX G.T.g hmg
 exact FG KX G.T.g G.T.b G.T.builtins G.T.nolimit hg hobj hints (Nat.le_trans hlen hn2) hr hF hb (fun H hO hS=>hsp w H a ns hlen hO hS) fun H e s'=>hCX w H s₁ e s'
theorem AF {l:PySem.W.OpenLaw} {n k:Nat} {q:Program} {loose:List Str} {XP:(Str→Option Value)→Heap→Prop} {YP:World→Heap→Prop} {d:DefRec} {K:Params→PySem.W.Frag} {CX:CXT} {sp:PySem.W.Frag→Sp} {x:Str}
  (hn:l.most=some n) (hn2:n ≤ sizeLine) (hdf:d.params.defaults=[]) (hr:Nh k callerA)
  (hY:∀ (w:World) (h:Heap),YP w h→(K w.params).In h)
  (F:∀ (w:World) (mg:Str→Option Value) (fa:Addr) (h:Heap),(K w.params).In h→h.Ns mainGlobals mg→mg d.name=some (.ref fa) →
   ∃ fd:FuncData,(∀ (s:Shared) (u:Value),BindsTo s fd ⟨[u],[]⟩ [(x,u)]) ∧
    ∀ base:Heap,(K w.params).In base→base.Ns mainGlobals mg→Eb l.prog w (K w.params) mg base CX k fa fd [x] (sp (K w.params)))
  (hsp:∀ (K:PySem.W.Frag) (H:Hp) (a:Addr) (ns:List Int),ns.length ≤ n→uM H→SqL K H a (ns.map V.int)→sp K [.ref a] H (fun v _=>v=.bl true) fun _ _ _=>False)
  (hCX:∀ (H:Hp) (s:Shared) (e:Value) (s':Shared),CX [] H s (fun _ _ _=>False) e s'→False) :
  PySem.W.WalkO q loose XP YP l.row.toRowW d [] (fun f vs=>PySem.call f vs):=
 zJ (K:=K) (CX:=fun _=>CX) (sp:=fun w=>sp (K w.params)) hn hn2 hdf hr hY F (fun w H a ns h1 h2 h3=>hsp (K w.params) H a ns h1 h2 h3) fun _ H s e s'=>hCX H s e s'
end L2
namespace L2
open PySem PySem.Spec PyProof.Rows
noncomputable def Gc (s:Stmt) (j:Nat):Stmt:=match s with
 | .ClassDef _ _ _ body _ _ _ _ _ _ _=>body.getD j (.Pass ⟨0,0,0,0⟩)
 | _=>.Pass ⟨0,0,0,0⟩
noncomputable def lu (s:Stmt):Arguments:=match s with
 | .FunctionDef _ a _ _ _ _ _ _ _ _=>a
 | _=>{ posonlyargs:=[],args:=[],vararg:=none,kwonlyargs:=[],kw_defaults:=[],kwarg:=none,defaults:=[] }
noncomputable def ml (s:Stmt):List Stmt:=match s with
 | .FunctionDef _ _ b _ _ _ _ _ _ _=>b
 | _=>[]
noncomputable def jb (s:Stmt):Scope:=match s with
 | .FunctionDef _ _ _ _ _ _ sc _ _ _=>sc
 | _=>{ kind:=.function,names:=[],isGenerator:=false,isCoroutine:=false }
noncomputable abbrev CX0:CXT:=fun _ _ _ _ _ _=>False
noncomputable abbrev E0:XK:=fun _ _ _=>False
theorem dc {X:Cx}:Zi CX0 X E0:=fun _ _ _ _ _ _ _ h=>h.elim
structure Fun (K:PySem.W.Frag) (x qual:Str) (st:Stmt) (f:Addr) (fd:FuncData):Prop where
 ex:∃ (oc:Value) (od:Option Addr) (kV doc pm:Value) (an:Option Addr) (cdv ct:Value) (osl:Array (Option Value)),
  fd=PySem.W.fnOf x qual (lu st) (ml st) (jb st) .none kV doc pm an cdv ct∧K.lookup f=some ⟨oc,od,.func fd,osl⟩∧PySem.W.codeIn K cdv qual=true
 kp:PySem.W.keepIn K (.ref f)=true
section
variable {P:Program} {w:World} {K:PySem.W.Frag} {mg:Str→Option Value} {base:Heap}
theorem Fun.ok {x qual:Str} {st:Stmt} {f:Addr} {fd:FuncData} {N ps:List Str} {k:Nat} {sp:Sp} (F:Fun K x qual st f fd) (S:wb N ps (jb st)) (len:∀ vs H Q E,sp vs H Q E→vs.length=ps.length)
  (hbody:∀ (cdv:Value) (A:Around) (outer:List Env) (s:Shared) (H:Hp) (vs:List V) (Q:VK) (E:XK),Nh k (A.deeper (envOfC qual (jb st) s.heap.objs.size f cdv))→sp vs H Q E →
   ∃ t,PSs (pB CX0 P w K mg base N qual (jb st) f cdv A outer s H E).nox (ml st) t∧t { nx:=fun _ H'=>Q .non H',rt:=Q } (start N vs) H):Eb P w K mg base CX0 (k + 1) f fd ps sp:=by
 obtain ⟨oc,od,kV,doc,pm,an,cdv,ct,osl,rfl,lk,hcd⟩:=F.ex
 refine pN lk hcd S len fun A outer s H vs Q E hr hsp=>?_
 obtain ⟨t,h,q⟩:=hbody cdv A outer s H vs Q E hr hsp
 exact ⟨t,h.nox,q⟩
theorem Fun.binds {x qual:Str} {st:Stmt} {f:Addr} {fd:FuncData} {ps:List Str} (F:Fun K x qual st f fd)
  (h:∀ (kV doc pm:Value) (an:Option Addr) (cdv ct:Value) (us:List Value),us.length=ps.length→bindArgs (PySem.W.fnOf x qual (lu st) (ml st) (jb st) .none kV doc pm an cdv ct) ⟨us,[]⟩=pure (ps.zip us)):Qb K fd ps []:=by
 obtain ⟨oc,od,kV,doc,pm,an,cdv,ct,osl,rfl,lk,hcd⟩:=F.ex
 exact .all (h kV doc pm an cdv ct)
theorem QM {x qual:Str} {st:Stmt} {f:Addr} {oc:Value} {od an:Option Addr} {osl:Array (Option Value)} {kV doc pm cdv ct:Value} (l:K.lookup f=some ⟨oc,od,.func (PySem.W.fnOf x qual (lu st) (ml st) (jb st) .none kV doc pm an cdv ct),osl⟩)
  (c:PySem.W.codeIn K cdv qual=true) (k:PySem.W.keepIn K (.ref f)=true):Fun K x qual st f (PySem.W.fnOf x qual (lu st) (ml st) (jb st) .none kV doc pm an cdv ct):=⟨⟨oc,od,kV,doc,pm,an,cdv,ct,osl,rfl,l,c⟩,k⟩
end
theorem OB {A:Around} {k:Nat} (hr:Nh k A):A.units + 1 < cLine:=Nat.lt_of_le_of_lt (Nat.add_le_add_left (by decide:1 ≤ 64) _) hr.units
section
variable {X:Cx}
theorem pv (i:Nat) {x:Str} {pos:Pos} (hN:X.N[i]? = some x:=by rfl) (hv:Vis X.env.scope x:=by first | exact Or.inl rfl | exact Or.inr (Or.inl rfl) | exact Or.inr (Or.inr rfl)) (hd:(x == ("__debug__" : Str))=false:=by decide)
  (hcd:(x == ("__classdict__" : Str))=false:=by decide):PE X (.Name x pos) (jO i):=xL hN hv hd hcd
end
noncomputable def Xb (H H':Hp):Prop:=∀ b o,H b=some o→H' b=some o
theorem Xb.refl (H:Hp):Xb H H:=fun _ _ h=>h
theorem Xb.trans {H H1 H2:Hp} (a:Xb H H1) (b:Xb H1 H2):Xb H H2:=fun c o h=>b c o (a c o h)
theorem Xb.free {H H':Hp} (e:Xb H H') {l:Addr} (h:H' l=Option.none):H l=Option.none:=by
 cases q:H l with
 | none=>rfl
 | some o=>
  rw [e l o q] at h
  cases h
theorem Xb.seq {K:PySem.W.Frag} {H H':Hp} {a:Addr} {xs:List V} (e:Xb H H') (h:SqL K H a xs):SqL K H' a xs:=by
 rcases h with (h | ⟨o,h⟩) | h
 ·exact .inl (.inl (e _ _ h))
 ·exact .inl (.inr ⟨o,e _ _ h⟩)
 ·exact .inr h
section
variable {κ:Type} [DecidableEq κ]
end
end L2
set_option maxHeartbeats 4000000
namespace L2
open PySem PySem.Spec PyProof.Rows
noncomputable def Wu (cells:List (Str × Addr)):List (Str × NameKind)→List (Str × Addr)→List (Str × Addr)
 | [],acc=>acc
 | (n,k) :: r,acc=>if k == .free then (match cells.lookup n with | some c=>Wu cells r ((n,c) :: acc) | none=>Wu cells r acc) else Wu cells r acc
theorem Jx {env:Env}:∀ (names:List (Str × NameKind)) (acc:List (Str × Addr)),(∀ y ∈ names,y.2=.free→∃ c,env.cells.lookup y.1=some c) →
  (forIn names acc (fun (x:Str × NameKind) (cs:List (Str × Addr))=>(if (x.2 == .free)=true then do let a ← cellOf env x.1;pure (ForInStep.yield ((x.1,a) :: cs)) else pure (ForInStep.yield cs):Sem (ForInStep (List (Str × Addr))))))=pure (Wu env.cells names acc)
 | [],acc,_=>rfl
 | (n,k) :: r,acc,h=>by
  have hr:∀ y ∈ r,y.2=.free→∃ c,env.cells.lookup y.1=some c:=fun y hy=>h y (List.mem_cons_of_mem _ hy)
  rw [List.forIn_cons]
  by_cases hk:(k == NameKind.free)=true
  ·have e:k=.free:=by simpa using hk
   obtain ⟨c,hc⟩:=h (n,k) List.mem_cons_self e
   have hc':env.cells.lookup n=some c:=hc
   simp only [Wu,hk,if_true,hc',cellOf]
   exact Jx r _ hr
  ·simp only [Wu,hk]
   exact Jx r _ hr
theorem xB {scope:Scope} {env:Env} (h:∀ y ∈ scope.names,y.2=.free→∃ c,env.cells.lookup y.1=some c):closureFor scope env=pure (Wu env.cells scope.names []):=by
 unfold closureFor
 exact congrArg (fun t=>t >>= pure) (Jx scope.names [] h)
theorem Zo {cells:List (Str × Addr)}:∀ (names:List (Str × NameKind)) (acc:List (Str × Addr)) {x:Str} {c:Addr},(Wu cells names acc).lookup x=some c→acc.lookup x=some c∨cells.lookup x=some c
 | [],acc,x,c,h=>.inl h
 | (n,k) :: r,acc,x,c,h=>by
  unfold Wu at h
  split at h
  ·cases q:cells.lookup n with
   | none=>rw [q] at h;exact Zo r acc h
   | some d=>
    rw [q] at h
    rcases Zo r _ h with z | z
    ·rw [List.lookup_cons] at z
     by_cases hx:(x == n)=true
     ·rw [hx] at z
      have e:x=n:=by simpa using hx
      subst e
      right;rw [q];exact z
     ·have hx':(x == n)=false:=by simpa using hx
      rw [hx'] at z;exact .inl z
    ·exact .inr z
  ·exact Zo r acc h
theorem zm {cells:List (Str × Addr)}:∀ (names:List (Str × NameKind)) (acc:List (Str × Addr)) {x:Str} {c:Addr},acc.lookup x=some c→cells.lookup x=some c→(Wu cells names acc).lookup x=some c
 | [],acc,x,c,h,_=>h
 | (n,k) :: r,acc,x,c,h,hc=>by
  unfold Wu
  split
  ·cases q:cells.lookup n with
   | none=>exact zm r acc h hc
   | some d=>
    refine zm r _ ?_ hc
    rw [List.lookup_cons]
    by_cases hx:(x == n)=true
    ·have e:x=n:=by simpa using hx
     subst e
     rw [hx];rw [q] at hc;exact hc
    ·have hx':(x == n)=false:=by simpa using hx
     rw [hx'];exact h
  ·exact zm r acc h hc
theorem cm {cells:List (Str × Addr)}:∀ (names:List (Str × NameKind)) (acc:List (Str × Addr)) {x:Str} {c:Addr},(x,NameKind.free) ∈ names→cells.lookup x=some c→(Wu cells names acc).lookup x=some c
 | [],_,_,_,h,_=>nomatch h
 | (n,k) :: r,acc,x,c,h,hc=>by
  rcases List.mem_cons.mp h with e | h
  ·cases e
   unfold Wu
   rw [if_pos (by decide),hc]
   refine zm r _ ?_ hc
   rw [List.lookup_cons];simp
  ·unfold Wu
   split
   ·cases q:cells.lookup n with
    | none=>exact cm r acc h hc
    | some d=>exact cm r _ h hc
   ·exact cm r acc h hc
theorem yn {α:Type}:∀ {l:List (Str × α)} {x:Str} {a:α},l.lookup x=some a→(x,a) ∈ l
 | [],_,_,h=>by simp at h
 | (n,b) :: r,x,a,h=>by
  rw [List.lookup_cons] at h
  by_cases hx:(x == n)=true
  ·have e:x=n:=by simpa using hx
   subst e
   rw [hx] at h
   have e2:b=a:=Option.some.inj h
   subst e2
   exact List.mem_cons_self
  ·have hx':(x == n)=false:=by simpa using hx
   rw [hx'] at h
   exact List.mem_cons_of_mem _ (yn h)
theorem ay {env:Env} {scope:Scope} {x:Str} {k:NameKind} (h:(relabel scope env).names.lookup x=some k) (hk:k=.cell∨k=.free) (hc:∀ y ∈ scope.names,y.2 ≠ .cell):(x,NameKind.free) ∈ scope.names:=by
 have h1:=yn h
 obtain ⟨⟨n,j⟩,hm,e⟩:=List.mem_map.mp h1
 have e':(if (j == NameKind.free && env.scope.kind == .function && env.kindOf n == some .cell)=true then (n,NameKind.cell) else (n,j))=(x,k):=e
 split at e'
 ·rename_i hcond
  have e1:n=x:=(Prod.mk.inj e').1
  subst e1
  have hj:j=.free:=by
   simp only [Bool.and_eq_true] at hcond
   simpa using hcond.1.1
  subst hj
  exact hm
 ·have e1:n=x:=(Prod.mk.inj e').1
  have e2:j=k:=(Prod.mk.inj e').2
  subst e1;subst e2
  rcases hk with z | z
  ·exact absurd z (hc _ hm)
  ·subst z;exact hm
theorem Ml {env:Env} {scope:Scope} {x:Str} (h:scope.names.lookup x=some .free):(relabel scope env).names.lookup x=some .cell∨(relabel scope env).names.lookup x=some .free:=by
 have all:∀ (names:List (Str × NameKind)),names.lookup x=some .free →
   (names.map fun (n,k)=>if (k == NameKind.free && env.scope.kind == .function && env.kindOf n == some .cell) then (n,NameKind.cell) else (n,k)).lookup x=some .cell ∨
   (names.map fun (n,k)=>if (k == NameKind.free && env.scope.kind == .function && env.kindOf n == some .cell) then (n,NameKind.cell) else (n,k)).lookup x=some .free:=by
  intro names
  induction names with
  | nil=>intro h;simp at h
  | cons p r ih=>
   obtain ⟨n,k⟩:=p
   intro h
   rw [List.map_cons]
   by_cases hx:(x == n)=true
   ·simp only [List.lookup_cons,hx] at h
    have hk:k=.free:=Option.some.inj h
    subst hk
    by_cases hc:(NameKind.free == NameKind.free && env.scope.kind == .function && env.kindOf n == some .cell)=true
    ·left;simp only [if_pos hc,List.lookup_cons,hx]
    ·right;simp only [if_neg hc,List.lookup_cons,hx]
   ·have hx':(x == n)=false:=by simpa using hx
    simp only [List.lookup_cons,hx'] at h
    by_cases hc:(k == NameKind.free && env.scope.kind == .function && env.kindOf n == some .cell)=true
    ·simp only [if_pos hc,List.lookup_cons,hx'];exact ih h
    ·simp only [if_neg hc,List.lookup_cons,hx'];exact ih h
 exact all scope.names h
noncomputable abbrev Cx.block (X:Cx) (scope:Scope) (C:Addr) (N:List Str) (s:Shared) (H:Hp) (fp:List Addr):Cx where
 prog:=X.prog
 w:=X.w
 K:=X.K
 mg:=X.mg
 base:=X.base
 A:=X.A
 N:=N
 s₀:=s
 H₀:=H
 env:=compEnvC scope (Wu X.env.cells scope.names []) C X.env
 outer:=X.stack
 stack:=X.stack
 ex:=fp
 fn:=fun _=>false
 calm:=X.calm
 pn:=[]
 xe:=fun _ _=>False
structure Qn (env:Env) (scope:Scope):Prop where
 kind:scope.kind=.function
 nocell:∀ y ∈ scope.names,y.2 ≠ .cell
 fr:∀ y ∈ scope.names,y.2=.free→env.kindOf y.1=some .cell∨env.kindOf y.1=some .free
 loc:∀ x ∈ scope.names,x.2=.local→scope.names.lookup x.1=some .local
noncomputable def blk (sel:List (Option Nat)) (σ:St):St:=sel.map fun o=>o.bind fun j=>(σ[j]?).join
noncomputable def jC (M:List Str) (scope:Scope) (N:List Str) (sel:List (Option Nat)):Prop:=
 sel.length=N.length∧∀ (i j:Nat) (x:Str),sel[i]? = some (some j)→N[i]? = some x→M[j]? = some x∧scope.names.lookup x=some .free
section
variable {X:Cx} {pins:List (Addr × Obj)} {σ:St} {H:Hp} {s:Shared} {scope:Scope} {fp:List Addr} {C:Addr} {N:List Str}
theorem Qn.cells (S:Qn X.env scope) (ok:X.Ok):∀ y ∈ scope.names,y.2=.free→∃ c,X.env.cells.lookup y.1=some c:=fun y hy e=>ok.has y.1 (S.fr y hy e)
theorem Qt {x:Str} {c:Addr} (h:(Wu X.env.cells scope.names []).lookup x=some c):X.env.cells.lookup x=some c:=by
 rcases Zo _ _ h with z | z
 ·simp at z
 ·exact z
theorem gz (I:Inv X pins σ H s) (S:Qn X.env scope) (hf:∀ b ∈ fp,uw X pins H b) (hs:∀ b ∈ fp,b < s.heap.objs.size) (hC:s.heap.objs.size ≤ C):(X.block scope C N s H fp).Ok where
 mod:=I.ok.mod
 kind:=S.kind
 glob:=I.ok.glob
 blt:=I.ok.blt
 above:=hC
 inj:=fun x y c h1 h2=>I.ok.inj x y c (Qt h1) (Qt h2)
 has:=fun x h=>by
  have hk:∃ k,(relabel scope X.env).names.lookup x=some k∧(k=.cell∨k=.free):=by
   rcases h with h | h
   ·exact ⟨_,h,.inl rfl⟩
   ·exact ⟨_,h,.inr rfl⟩
  obtain ⟨k,h1,h2⟩:=hk
  have hm:=ay h1 h2 S.nocell
  obtain ⟨c,hc⟩:=S.cells I.ok _ hm rfl
  exact ⟨c,cm _ _ hm hc⟩
 cab:=fun _ _ h _=>nomatch h
 hd:=I.ok.hd
 frames:=I.ok.frames
 stk:=.inl rfl
 exf:=fun b hb=>⟨Nat.ne_of_lt (Nat.lt_of_lt_of_le (hs b hb) hC),fun x c e=>(hf b hb).2.2.2.2.1 x c (Qt e)⟩
 bs:=I.bs
 bsz:=Nat.le_trans I.ok.bsz I.sz
 noex:=fun b o e hb=>by
  rcases (hf b hb).2.2.2.1 with z | z
  ·exact I.ok.noex b o e z
  ·exact absurd (Nat.lt_of_lt_of_le (Nat.lt_of_lt_of_le (Heap.lt_size e) I.ok.bsz) z) (Nat.lt_irrefl _)
 exfs:=fun b hb hz=>by
  rcases List.mem_cons.mp (I.stkSub b hz) with z | z
  ·exact (hf b hb).2.1 z
  ·exact (hf b hb).2.2.1 z
 funs:=I.stack
 frf:=I.stkFree
theorem oB {h':Heap} {t':Nat} {m:Str→Option Value} {sel:List (Option Nat)} (I:Inv X pins σ H s) (S:Qn X.env scope) (hf:∀ b ∈ fp,uw X pins H b) (hs:∀ b ∈ fp,b < s.heap.objs.size) (hC:s.heap.objs.size ≤ C)
  (k:∀ b o,s.heap.get? b=some o→h'.get? b=some o) (hn:h'.Ns C m) (hsel:jC X.N scope N sel):Inv (X.block scope C N s H fp) [] (blk sel σ) H { s with heap:=h',toks:=t' } where
 ok:=gz I S hf hs hC
 os:=rfl
 bare:=I.bare
 base:=Un.kept k
 loc:=by
  refine ⟨m,hn,fun i x v e1 e2 e3=>?_⟩
  obtain ⟨m0,hn0,hl⟩:=I.loc
  obtain ⟨j,ej,eσ⟩:∃ j,sel[i]? = some (some j)∧σ[j]? = some (some v):=by
   unfold blk at e2
   rw [List.getElem?_map] at e2
   cases q:sel[i]? with
   | none=>rw [q] at e2;cases e2
   | some o=>
    rw [q] at e2
    cases o with
    | none=>cases e2
    | some j=>
     refine ⟨j,rfl,?_⟩
     have e2':(σ[j]?).join=some v:=Option.some.inj e2
     cases r:σ[j]? with
     | none=>rw [r] at e2';cases e2'
     | some z=>rw [r] at e2';exact congrArg some e2'
  obtain ⟨eN,hfr⟩:=hsel.2 i j x ej e1
  have hm:=yn hfr
  have hk:=S.fr _ hm rfl
  have hv:Vis X.env.scope x:=hk.elim (fun z=>.inr (.inl z)) fun z=>.inr (.inr z)
  obtain ⟨u,r,l⟩:=hl j x v eN eσ hv
  refine ⟨u,r,?_⟩
  rcases l with ⟨hloc,_⟩ | ⟨_,c,hc,hcell⟩
  ·rcases hk with z | z <;> (have z':X.env.kindOf x=_:=z;rw [hloc] at z';cases z')
  ·refine .inr ⟨?_,c,cm _ _ hm hc,?_⟩
   ·exact Ml hfr
   ·obtain ⟨o,ho,hd⟩:=hcell
    exact ⟨o,k _ _ ho,hd⟩
 cell:=fun x c e=>by
  obtain ⟨v,o,ho,hd⟩:=I.cell x c (Qt e)
  exact ⟨v,o,k _ _ ho,hd⟩
 free:=I.hok.fresh hC
 freeC:=fun x c e=>I.freeC x c (Qt e)
 pin:=fun p hp=>nomatch hp
 hok:=I.hok.kept k
 len:=by unfold blk;rw [List.length_map];exact hsel.1
theorem Inv.adopt {a:Addr} {o:HO} (I:Inv X pins σ H s) (fo:uw X pins H a) (new:Ad X.prog X.w (upd H a o) s.heap a o):Inv X pins σ (upd H a o) s:=by
 obtain ⟨hn,hL,hfs,hex,hcl,hpn⟩:=fo
 refine I.step (g':=s.gens) (d':=s.drawn) (t':=s.toks) (h':=s.heap) (ch:=[a]) (fun b hb=>?_) (fun b o _ _ _ e _=>e) (fun b o _ _ _ e _=>⟨o.slots,e⟩) (fun b o hb e n=>?_) (fun b o _ e=>⟨o,e⟩)
  (fun b xs e=>?_) (fun b o u e=>?_) (fun b ps e=>⟨#[],?_⟩) (fun m hm=>hm) (fun b u e=>?_) I.bare
 ·have e:b=a:=by simpa using hb
  subst e
  exact ⟨hex,hL,hcl,hpn⟩
 ·rw [lb (fun z=>hb (by simp [z]))];exact n
 ·rw [lb (qb e hn)];exact e
 ·rw [lb (qb e hn)];exact e
 ·rw [lb (qb e hn),e];simp
 ·by_cases hb:b=a
  ·subst hb;rw [cb] at e;cases e;exact new
  ·rw [lb hb] at e
   exact (I.hok b u e).stay (fun c v _ q=>q) (fun c q=>by rw [lb (qb q hn)];exact q) fun c xs q=>by rw [lb (qb q hn)];exact q
end
theorem uk {prog:Program} {w:World} {A:Around} {R:Result→Shared→Prop} {s:Shared} {elt target iter:Expr} {ifs:List Expr} {scope:Scope} {pos:Pos} {it acc:Value} {env:Env} (I:Nat→Shared→Prop)
  (turn:∀ n s,I n s→wpAny (model prog w) A (pyNext it) (fun r s₁=>match r with
   | none=>R (.ok .next) s₁
   | some v=>wpAny (model prog w) A (letOwnedTupleGo target it v) (fun _ s₀=>wpAny (model prog w) A (assign target env v) (fun _ s₂=>
     wpAny (model prog w) A (forIn ifs true fun c r=>if r=true then do let ok ← isTrue c env (eval c env);pure (ForInStep.yield ok) else pure (ForInStep.yield r)) (fun ok s₃=>
      if ok=true then wpAny (model prog w) A (eval elt env) (fun x s₄=>
       wpAny (model prog w) A (call (.builtin "list.append") [acc,x]) (fun _ s₅=>∃ m,m < n∧I m s₅) (fun _ _=>False) s₄) (fun _ _=>False) s₃
      else ∃ m,m < n∧I m s₃) (fun _ _=>False) s₂) (fun _ _=>False) s₀) (fun _ _=>False) s₁) (fun _ _=>False) s)
  (n:Nat) (h:I n s) :
  codeAny (model prog w) A (.compLoop (.ListComp elt [⟨target,iter,ifs,0⟩] scope pos) 0 it acc env) R s:=by
 refine codeAny_loop rfl I (fun n s hI=>?_) n h
 show wpAny _ A ((compTurn (.ListComp elt [⟨target,iter,ifs,0⟩] scope pos) 0 it acc env).onRaise (fun x=>do noteFrame x env;theTreesLotGoes x)) _ _ s
 refine wpAny_noted (wpAny_noRaise ?_)
 rw [compTurn_list]
 refine wpAny_bind (wpAny_standAt (wpAny_bind (wpAny_mono (turn n s hI) (fun r s₁ h₁=>?_) fun _ _ h'=>h')))
 cases r with
 | none=>exact wpAny_pure h₁
 | some v=>
  refine wpAny_bind (wpAny_mono h₁ (fun _ s₀ h₀=>?_) fun _ _ h'=>h')
  refine wpAny_bind (wpAny_mono h₀ (fun _ s₂ h₂=>wpAny_bind (wpAny_mono h₂ (fun ok s₃ h₃=>?_) fun _ _ h'=>h')) fun _ _ h'=>h')
  cases ok with
  | false=>exact wpAny_pure ⟨rfl,h₃⟩
  | true=>
   exact wpAny_bind (wpAny_bind (wpAny_mono h₃ (fun x s₄ h₄=>wpAny_bind (wpAny_mono h₄ (fun _ s₅ h₅=>wpAny_pure (wpAny_pure ⟨rfl,h₅⟩)) fun _ _ h'=>h')) fun _ _ h'=>h'))
noncomputable def PTs (X:Cx) (ifs:List Expr) (t:TT):Prop:=
 ∀ (pins:List (Addr × Obj)) (s:Shared) (σ:St) (H:Hp) (Q:Bool→Hp→Prop),Inv X pins σ H s→t σ H Q →
  wpAny (model X.prog X.w) X.A (forIn ifs true fun c r=>if r=true then do let ok ← isTrue c X.env (eval c X.env);pure (ForInStep.yield ok) else pure (ForInStep.yield r)) (TP X pins σ Q) X.xe s
noncomputable def AA:TT:=fun _ H Q=>Q true H
theorem Mh {X:Cx}:PTs X [] AA:=fun _ _ _ H _ I h=>wpAny_tests_nil ⟨H,I,h⟩
theorem CB {X:Cx} {c:Expr} {t:TT} (h:PT X c t):PTs X [c] t:=fun pins s σ H Q I q=>wpAny_tests_one (h pins s σ H Q I q)
noncomputable def Sub (σ σ':St):Prop:=σ'.length=σ.length∧∀ (i:Nat) (v:V),σ[i]? = some (some v)→σ'[i]? = some (some v)
theorem Sub.refl (σ:St):Sub σ σ:=⟨rfl,fun _ _ h=>h⟩
theorem Sub.set {σ σ':St} {i:Nat} {x:Option V} (h:Sub σ σ') (e:σ[i]? = some none):Sub σ (σ'.set i x):=by
 refine ⟨by rw [List.length_set];exact h.1,fun j v q=>?_⟩
 have hj:i ≠ j:=fun z=>by subst z;rw [e] at q;cases q
 rw [List.getElem?_set_ne hj]
 exact h.2 j v q
noncomputable def Rw (J:It) (g:TG) (tc:TT) (te:TE) (σb:St) (Q:VK) (W:Nat→Nat→List V→Hp→Prop):Prop:=∀ i m ys H,W i m ys H →
 (J.stop i H∧∀ p,H p=none→Q (.ref p) (upd H p (.lst ys))) ∨
 (J.go i H∧ys.length < sizeLine∧∀ x H',J.yld i H x H'→g x σb H' fun σ2 H2=>Sub σb σ2∧tc σ2 H2 fun c H3=>if c=true then te σ2 H3 fun y H4=>∃ m',m' < m∧W (i + 1) m' (ys ++ [y]) H4 else ∃ m',m' < m∧W (i + 1) m' ys H3)
noncomputable def YJ (wi:TI) (g:TG) (tc:TT) (te:TE) (sel:List (Option Nat)):TE:=fun σ H Q=>wi σ H fun J H1=>∃ W:Nat→Nat→List V→Hp→Prop,(∃ m,W 0 m [] H1)∧Rw J g tc te (blk sel σ) Q W
section
variable {X:Cx} {elt tg iter:Expr} {ifs:List Expr} {scope:Scope} {pos:Pos} {wi:TI} {g:TG} {tc:TT} {te:TE} {N:List Str} {sel:List (Option Nat)}
structure Blk (X:Cx) (scope:Scope) (N:List Str) (tg elt:Expr) (ifs:List Expr) (g:TG) (tc:TT) (te:TE):Prop where
 tgt:∀ C s H fp,PG (X.block scope C N s H fp) tg g
 tests:∀ C s H fp,PTs (X.block scope C N s H fp) ifs tc
 elem:∀ C s H fp,PE (X.block scope C N s H fp) elt te
theorem Blk.of {X:Cx} {scope:Scope} {N:List Str} {tg elt:Expr} {ifs:List Expr} {g:TG} {tc:TT} {te:TE} (h1:∀ C s H fp,PG (X.block scope C N s H fp) tg g)
  (h2:∀ C s H fp,∃ t,PTs (X.block scope C N s H fp) ifs t∧t=tc) (h3:∀ C s H fp,∃ t,PE (X.block scope C N s H fp) elt t∧t=te):Blk X scope N tg elt ifs g tc te:=
 ⟨h1,fun C s H fp=>by obtain ⟨t,h,rfl⟩:=h2 C s H fp;exact h,fun C s H fp=>by obtain ⟨t,h,rfl⟩:=h3 C s H fp;exact h⟩
theorem Wv {pins:List (Addr × Obj)} {s₂:Shared} {σ:St} {H₂:Hp} {Q:VK} {it:Addr} {fp:List Addr} {tn:Nat→Heap→Prop} {J:It} {W:Nat→Nat→List V→Hp→Prop} {E:Value→Shared→Prop} {RR:Value→Addr→Result→Shared→Prop}
  (hc:X.calm=true) (S:Qn X.env scope) (hsel:jC X.N scope N sel) (B:Blk X scope N tg elt ifs g tc te) (I2:Inv X pins σ H₂ s₂) (T:vH X.prog X.w X.K tg J fp it tn) (st2:tn 0 s₂.heap) (f2:∀ b ∈ fp,uw X pins H₂ b)
  (w0:∃ m,W 0 m [] H₂) (hW:Rw J g tc te (blk sel σ) Q W)
  (fin:∀ D C ys H' s',Inv X pins σ (upd H' D (.lst ys)) s'→(∃ m,s'.heap.Ns C m)→uw X pins (upd H' D (.lst ys)) C→Q (.ref D) (upd H' D (.lst ys))→RR (.ref D) C (.ok .next) s') :
  wpAny (model X.prog X.w) X.A (newList []) (fun acc s₃=>wpAny (model X.prog X.w) X.A (newFunctionEnv scope X.env.globals (Wu X.env.cells scope.names []) [] X.env.qual none .none (some X.env)) (fun cenv s₄=>
   codeAny (model X.prog X.w) X.A (.compStart (.ListComp elt [⟨tg,iter,ifs,0⟩] scope pos) 0 (.ref it) acc { cenv with scope:=relabel scope X.env }) (RR acc cenv.locals) s₄) E s₃) E s₂:=by
 refine wpAny_newObj_type (wpAny_newFunctionEnv S.nocell (by intro y hy;simp at hy) (fun h₁ hns₁ hsb₁=>?_) S.kind)
 dsimp only at hns₁ hsb₁ ⊢
 generalize hH2:s₂.heap.push { cls:=.type "list",dict:=none,data:=.seq ([]:List Value).toArray }=H2 at hns₁ hsb₁ ⊢
 have hC:H2.objs.size=s₂.heap.objs.size + 1:=by rw [← hH2,Heap.size_push]
 have hDC:s₂.heap.objs.size ≠ H2.objs.size:=by rw [hC];exact Nat.ne_of_lt (Nat.lt_succ_self _)
 have hCle:s₂.heap.objs.size ≤ H2.objs.size:=by rw [hC];exact Nat.le_succ _
 have below:∀ b,b < s₂.heap.objs.size→b ≠ H2.objs.size∧b ≠ s₂.heap.objs.size:=fun b hb=>⟨by rw [hC];exact Nat.ne_of_lt (Nat.lt_succ_of_lt hb),Nat.ne_of_lt hb⟩
 have old:∀ b o,s₂.heap.get? b=some o→h₁.get? b=some o:=fun b o e=>hsb₁.extBut b o (below b (Heap.lt_size e)).1 (Heap.get?_push_of_some _ (hH2 ▸ Heap.get?_push_of_some _ e))
 have hacc:h₁.get? s₂.heap.objs.size=some { cls:=.type "list",data:=.seq ([]:List Value).toArray }:=hsb₁.extBut _ _ hDC (Heap.get?_push_of_some _ (hH2 ▸ Heap.get?_push_size _ rfl))
 have fps:∀ b ∈ fp,b < s₂.heap.objs.size:=fun b hb=>by
  obtain ⟨o,e,_⟩:=T.obj _ _ st2 b hb
  exact Heap.lt_size e
 generalize hCe:H2.objs.size=C at *
 generalize hDe:s₂.heap.objs.size=D at *
 have st1:tn 0 h₁:=T.keep _ _ _ st2 fun b _ o e=>old b o e
 have IB0:Inv (X.block scope C N s₂ H₂ fp) [] (blk sel σ) H₂ { s₂ with heap:=h₁,toks:=s₂.toks + ([]:List (Str × Value)).length }:=
  oB I2 S f2 (fun b hb=>by rw [hDe];exact fps b hb) (by rw [hDe];exact hCle) old hns₁ hsel
 have hDfs:D ∉ (X.block scope C N s₂ H₂ fp).fs:=fun z=>by
  have z':=I2.stkSub D z
  rcases List.mem_cons.mp z' with e | e
  ·exact absurd I2.lt (by rw [← e,hDe];exact Nat.lt_irrefl _)
  ·exact I2.nofs (by rw [hDe];exact Nat.le_refl _) e
 have loop:∀ s₃:Shared,s₃ = { s₂ with heap:=h₁,toks:=s₂.toks + ([]:List (Str × Value)).length } →
   codeAny (model X.prog X.w) X.A (.compLoop (.ListComp elt [⟨tg,iter,ifs,0⟩] scope pos) 0 (.ref it) (.ref D) (compEnvC scope (Wu X.env.cells scope.names []) C X.env)) (RR (.ref D) C) s₃:=by
  rintro s₃ rfl
  obtain ⟨m0,w0⟩:=w0
  refine uk (fun k s'=>∃ i ys us n H',Inv (X.block scope C N s₂ H₂ fp) [(D,{ cls:=.type "list",data:=.seq us n })] (blk sel σ) H' s'∧(∃ vs:List Value,us=vs.toArray∧Uc ys vs)∧ys.length ≤ sizeLine∧tn i s'.heap∧(∀ b ∈ fp,H' b=none)∧W i k ys H') ?_ m0
   ⟨0,[],_,0,H₂,IB0.pins_of fun p hp=>?_,⟨[],rfl,.nil⟩,Nat.zero_le _,st1,fun b hb=>(f2 b hb).1,w0⟩
  ·rintro k s' ⟨i,ys,us,n,H',IB,⟨vs,rfl,rv⟩,hyz,st,fr,w⟩
   have fpB:∀ {pl:List (Addr × Obj)} {H'':Hp},(∀ p ∈ pl,p.1=D)→(∀ b ∈ fp,H'' b=none)→∀ b ∈ fp,uw (X.block scope C N s₂ H₂ fp) pl H'' b:=fun {pl H''} hp hn b hb=>
    ⟨hn b hb,(below b (fps b hb)).1,(gz (N:=N) (C:=C) I2 S f2 (fun b hb=>by rw [hDe];exact fps b hb) (by rw [hDe];exact hCle)).exfs b hb,.inl hb,fun x c e=>(f2 b hb).2.2.2.2.1 x c (Qt e),fun p hpp z=>by
     have hpp':p ∈ pl:=by simpa using hpp
     exact (below b (fps b hb)).2 (by rw [← z];exact hp p hpp')⟩
   have hD1:∀ p ∈ [((D,{ cls:=.type "list",data:=.seq vs.toArray n }):Addr × Obj)],p.1=D:=fun p hp=>by
    have e:p=(D,{ cls:=.type "list",data:=.seq vs.toArray n }):=by simpa using hp
    rw [e]
   rcases hW i k ys H' w with ⟨stop,qn⟩ | ⟨go,hlen,step⟩
   ·refine thn (T.done (X.block scope C N s₂ H₂ fp) rfl rfl rfl hc i _ s' _ H' _ IB (fpB hD1 fr) st stop) fun r s4 ⟨hr,I4⟩=>?_
    subst hr
    -- the block is left
    have pD:=I4.pin (D,{ cls:=.type "list",data:=.seq vs.toArray n }) (by simp)
    have hDn:H' D=none:=pD.2.1
    have IX:Inv X pins σ H' s4:=I2.call' (ch:=fp) I4.os I4.base I4.hok I4.bare fun b hb=>⟨(f2 b hb).2.2.2.1,(f2 b hb).2.1,(f2 b hb).2.2.2.2.1,(f2 b hb).2.2.2.2.2⟩
    have foD:uw X pins H' D:=I2.fpOk (by rw [hDe];exact Nat.le_refl _) hDn
    have IA:Inv X pins σ (upd H' D (.lst ys)) s4:=IX.adopt foD ⟨hyz,vs,n,rv,pD.1⟩
    obtain ⟨mC,hnC,_⟩:=I4.loc
    refine fin D C ys H' s4 IA ⟨mC,hnC⟩ (I2.fpOk (by rw [hDe];exact hCle) ?_) (qn D hDn)
    rw [lb (Ne.symm hDC)]
    exact I4.free
   ·refine thn (T.item (X.block scope C N s₂ H₂ fp) rfl rfl rfl hc i _ s' _ H' _ IB (fpB hD1 fr) st go) fun r s4 ⟨u,hr,h4⟩=>?_
    subst hr
    refine thn h4 fun _ s5 ⟨x,H5,I5,r5,y5,st5,fr5⟩=>?_
    have I5':=I5.pinned (fpB hD1 fr5) (T.obj _ _ st5)
    refine thn (B.tgt C s₂ H₂ fp _ s5 _ H5 x u _ I5' r5 (step x H5 y5)) fun _ s6 ⟨σ6,H6,I6,sb,q6⟩=>?_
    refine thn (B.tests C s₂ H₂ fp _ s6 σ6 H6 _ I6 q6) fun c s7 ⟨H7,I7,q7⟩=>?_
    have again:∀ {σ8:St} {H8:Hp} {s8:Shared},Inv (X.block scope C N s₂ H₂ fp) ([(D,{ cls:=.type "list",data:=.seq vs.toArray n })] ++ Yu fp s5.heap) σ8 H8 s8→tn (i + 1) s8.heap∧(∀ b ∈ fp,H8 b=none):=fun {σ8 H8 s8} I8=>by
     refine ⟨T.keep _ _ _ st5 fun b hb o e=>(I8.pin (b,o) (List.mem_append_right _ (List.mem_append_right _ (ak hb e)))).1,fun b hb=>?_⟩
     obtain ⟨o,e,d⟩:=T.obj _ _ st5 b hb
     exact (I8.pin (b,o) (List.mem_append_right _ (List.mem_append_right _ (ak hb e)))).2.1
    have back:∀ {H8:Hp} {s8:Shared} {pl:List (Addr × Obj)},Inv (X.block scope C N s₂ H₂ fp) pl σ6 H8 s8→Inv (X.block scope C N s₂ H₂ fp) pl (blk sel σ) H8 s8:=fun {H8 s8 pl} I8=>I8.weak sb.1.symm sb.2
    cases c with
    | false=>
     obtain ⟨m',hm,w'⟩:=q7
     obtain ⟨t1,t2⟩:=again I7
     exact ⟨m',hm,i + 1,ys,_,n,H7,back I7.unpinned,⟨vs,rfl,rv⟩,hyz,t1,t2,w'⟩
    | true=>
     refine thn (B.elem C s₂ H₂ fp _ s7 σ6 H7 _ I7 q7) fun v s8 ⟨y,H8,I8,r8,m',hm,w'⟩=>?_
     obtain ⟨t1,t2⟩:=again I8
     have pD:=I8.pin (D,{ cls:=.type "list",data:=.seq vs.toArray n }) (by simp)
     refine append_at (hsz:=by have:=rv.length;rw [List.size_toArray];omega) pD.1 fun h9 hs9 hD9=>?_
     have IB':Inv (X.block scope C N s₂ H₂ fp) [] (blk sel σ) H8 s8:=(back I8).pins_of fun p hp=>nomatch hp
     have foD:uw (X.block scope C N s₂ H₂ fp) [] H8 D:=⟨pD.2.1,hDC,hDfs,.inr (by show s₂.heap.objs.size ≤ D;rw [hDe];exact Nat.le_refl _),(fun x c e z=>by
      obtain ⟨cv,o,ho,hd⟩:=I8.cell x c e
      rw [z,pD.1] at ho
      cases ho
      cases hd),(fun p hp=>nomatch hp)⟩
     have I9:Inv (X.block scope C N s₂ H₂ fp) [] (blk sel σ) H8 { s8 with heap:=h9 }:=IB'.turned (t':=s8.toks) (it:=D) (fun b o hb e=>(hs9.2 b hb).trans e) foD.1 foD.2.1 foD.2.2.2.1 foD.2.2.2.2.1 foD.2.2.2.2.2
     refine ⟨m',hm,i + 1,ys ++ [y],vs.toArray.push v,n + 1,H8,I9.pins_of fun p hp=>?_,⟨vs ++ [v],by simp,Paired.snoc rv r8⟩,by rw [List.length_append,List.length_singleton];omega,T.keep _ _ _ t1 fun b hb o e=>(hs9.2 b (below b (fps b hb)).2).trans e,t2,w'⟩
     have e:p=(D,{ cls:=.type "list",data:=.seq (vs.toArray.push v) (n + 1) }):=by simpa using hp
     subst e
     exact ⟨hD9,pD.2.1,hDC,hDfs,fun v z=>by cases z⟩
  ·have e:p=(D,{ cls:=.type "list",data:=.seq ([]:List Value).toArray }):=by simpa using hp
   subst e
   exact ⟨hacc,I2.hok.fresh (by rw [hDe];exact Nat.le_refl _),hDC,hDfs,fun v z=>by cases z⟩
 exact codeAny_compStart_list (loop _ rfl) (T.self _ 0 _ _ _ st1 (loop _ rfl))
theorem Ij (hc:X.calm=true) (hi:PI X tg iter wi) (S:Qn X.env scope) (hsel:jC X.N scope N sel) (B:Blk X scope N tg elt ifs g tc te)
  (hs:∀ x,foldedSetIterable iter X.env x=pure x:=by intro _;rfl):PE X (.ListComp elt [⟨tg,iter,ifs,0⟩] scope pos) (YJ wi g tc te sel):=by
 intro pins s σ H Q I h
 rw [eval_ListComp]
 refine wpAny_comprehension_free (use:=none) rfl hs (xB (S.cells I.ok)) S.kind S.loc ?_
 refine thn (hi pins s σ H _ I h) fun v s1 h1=>thn h1 fun itv s2 h2=>?_
 obtain ⟨it,fp,tn,J,H2,e,I2,T,st2,f2,W,w0,hW⟩:=h2
 subst e
 refine Wv (RR:=fun acc C=>compPost (model X.prog X.w) X.A X.xe none (EP X pins σ Q) acc C) hc S hsel B I2 T st2 f2 w0 hW fun D C ys H' s' I' ⟨m,hm⟩ fo q=>?_
 exact ⟨m,hm,fun h' hsb=>⟨.ref D,_,I'.turned (t':=s'.toks) (it:=C) (fun b o hb e=>(hsb.2 b hb).trans e) fo.1 fo.2.1 fo.2.2.2.1 fo.2.2.2.2.1 fo.2.2.2.2.2,rfl,q⟩⟩
theorem Yj {i:Nat} {y:Str} {py spos:Pos} (hN:X.N.Nodup) (hi:X.N[i]? = some y) (hx:Loc X.env.scope y) (hc:X.calm=true) (hit:PI X tg iter wi) (S:Qn X.env scope) (hsel:jC X.N scope N sel) (B:Blk X scope N tg elt ifs g tc te)
  (hsw:swapsWith (.ListComp elt [⟨tg,iter,ifs,0⟩] scope pos) (some (.Name y py)) spos.line X.env=pure true) (hf:X.fn y=true∨X.env.scope.names.lookup y=some .local:=by first | exact .inl rfl | exact .inr rfl | assumption)
  (hs:∀ x,foldedSetIterable iter X.env x=pure x:=by intro _;rfl):PS X (.Assign [.Name y py] (.ListComp elt [⟨tg,iter,ifs,0⟩] scope pos) spos) (KN (YJ wi g tc te sel) (aw i)):=by
 intro pins s σ H D I h
 rw [exec_Assign_Name_used _ _ _ _ hsw]
 refine wpAny_bind (wpAny_standAt (wpAny_bind ?_))
 show wpAny _ X.A (do let _ ← comprehension (.ListComp elt [⟨tg,iter,ifs,0⟩] scope pos) scope X.env _ (newList []) false (eval iter X.env) (some (assign (.Name y py) X.env))) _ _ s
 refine wpAny_bind (wpAny_mono (wpAny_comprehension_free (use:=some (assign (.Name y py) X.env)) (Q:=fun _ s'=>SP X pins D .next s') rfl hs (xB (S.cells I.ok)) S.kind S.loc ?_) (fun _ s' hq=>wpAny_pure (wpAny_pure hq)) fun _ _ e=>e)
 refine thn (hit pins s σ H _ I h) fun v s1 h1=>thn h1 fun itv s2 h2=>?_
 obtain ⟨it,fp,tn,J,H2,e,I2,T,st2,f2,W,w0,hW⟩:=h2
 subst e
 refine Wv (RR:=fun acc C=>compPost (model X.prog X.w) X.A X.xe (some (assign (.Name y py) X.env)) (fun _ s'=>SP X pins D .next s') acc C) hc S hsel B I2 T st2 f2 w0 hW fun Da C ys H' s' I' ⟨m,hm⟩ fo q=>?_
 show wpAny _ X.A (assign (.Name y py) X.env (.ref Da)) _ _ _
 refine wpAny_assign_Name (Jv I' hN hi hx (show Ed (.ref Da) (.ref Da) from rfl) (fun s3 I3 ⟨a,hsb,ha⟩=>?_) hf)
 have hCa:C ≠ a:=by
  rcases ha with z | z
  ·rw [z];exact fo.2.1
  ·exact fun w=>fo.2.2.2.2.1 y a z w.symm
 refine ⟨m,hm.sameBut hsb hCa,fun h' hsb'=>⟨_,_,I3.turned (t':=s3.toks) (it:=C) (fun b o hb e=>(hsb'.2 b hb).trans e) fo.1 fo.2.1 fo.2.2.2.1 fo.2.2.2.2.1 fo.2.2.2.2.2,q⟩⟩
end
noncomputable def Xg (Pv:Nat→List V→Hp→Prop) (g:TG) (tc:TT) (te:TE) (σb:St) (i:Nat) (x:V) (ys:List V) (H:Hp):Prop:=
 ∀ N:List V→Hp→Prop,(∀ ys' H',Pv (i + 1) ys' H'→N ys' H')→g x σb H fun σ2 H2=>Sub σb σ2∧tc σ2 H2 fun c H3=>if c=true then te σ2 H3 fun y H4=>N (ys ++ [y]) H4 else N ys H3
theorem jE {K:PySem.W.Frag} {a:Addr} {xs:List V} {g:TG} {tc:TT} {te:TE} {σb:St} {Q:VK} {H:Hp} (Pv:Nat→List V→Hp→Prop) (hz:xs.length ≤ sizeLine) (h0:Pv 0 [] H) (hl:∀ i ys H,i ≤ xs.length→Pv i ys H→SqL K H a xs∧ys.length ≤ i)
  (hs:∀ i x ys H,xs[i]? = some x→Pv i ys H→Xg Pv g tc te σb i x ys H) (hd:∀ ys H,Pv xs.length ys H→∀ p,H p=none→Q (.ref p) (upd H p (.lst ys))) :
  ∃ W:Nat→Nat→List V→Hp→Prop,(∃ m,W 0 m [] H)∧Rw (Itl K a) g tc te σb Q W:=by
 refine ⟨fun i m ys H=>m=xs.length - i∧i ≤ xs.length∧Pv i ys H,⟨xs.length,by simp,Nat.zero_le _,h0⟩,?_⟩
 rintro i m ys H ⟨rfl,hi,p⟩
 have q:=(hl i ys H hi p).1
 have hyl:=(hl i ys H hi p).2
 by_cases hlt:i < xs.length
 ·refine .inr ⟨⟨xs,xs[i],q,by simp [hlt]⟩,by omega,fun x H' y=>?_⟩
  obtain ⟨e,y⟩:=y
  subst e
  exact hs i x ys _ (y xs q) p (fun ys' H'=>∃ m',m' < xs.length - i∧m'=xs.length - (i + 1)∧i + 1 ≤ xs.length∧Pv (i + 1) ys' H') fun ys' H' r=>⟨xs.length - (i + 1),by omega,rfl,hlt,r⟩
 ·have e:i=xs.length:=by omega
  subst e
  exact .inl ⟨⟨xs,q,Nat.le_refl _⟩,hd ys H p⟩
theorem Ez {lo:Int} {n:Nat} {g:TG} {tc:TT} {te:TE} {σb:St} {Q:VK} {H:Hp} (Pv:Nat→List V→Hp→Prop) (hz:n ≤ sizeLine) (h0:Pv 0 [] H) (hl:∀ i ys H,i ≤ n→Pv i ys H→ys.length ≤ i)
  (hs:∀ i ys H,i < n→Pv i ys H→Xg Pv g tc te σb i (.int (lo + i)) ys H) (hd:∀ ys H,Pv n ys H→∀ p,H p=none→Q (.ref p) (upd H p (.lst ys))) :
  ∃ W:Nat→Nat→List V→Hp→Prop,(∃ m,W 0 m [] H)∧Rw (Itr lo n) g tc te σb Q W:=by
 refine ⟨fun i m ys H=>m=n - i∧i ≤ n∧Pv i ys H,⟨n,by simp,Nat.zero_le _,h0⟩,?_⟩
 rintro i m ys H ⟨rfl,hi,p⟩
 have hyl:=hl i ys H hi p
 by_cases hlt:i < n
 ·refine .inr ⟨hlt,by omega,fun x H' y=>?_⟩
  obtain ⟨e,y⟩:=y
  subst e y
  exact hs i ys _ hlt p (fun ys' H'=>∃ m',m' < n - i∧m'=n - (i + 1)∧i + 1 ≤ n∧Pv (i + 1) ys' H') fun ys' H' r=>⟨n - (i + 1),by omega,rfl,hlt,r⟩
 ·have e:i=n:=by omega
  subst e
  exact .inl ⟨Nat.le_refl _,hd ys H p⟩
end L2
namespace L2
open PySem PySem.Spec PyProof.Rows
noncomputable def Its (xs:List V):It:=⟨fun i _=>i < xs.length,fun i H x H'=>H'=H∧xs[i]? = some x,fun i _=>xs.length ≤ i⟩
theorem Ot {P:Program} {w:World} {K:PySem.W.Frag} {tg:Expr} {it:Addr} {xs:List V} {PV:Nat→Value→Prop} {St:Nat→Heap→Prop} (hW:∀ A:Around,A.handled=none→Walks P w A it [it] [it] xs.length PV St)
  (hP:∀ i v,PV i v→∃ x,xs[i]? = some x∧Ed x v)
  (hgo:∀ i h,St i h→∃ o n vs,h.get? it=some o∧o.cls=.type n∧o.data=.fields vs∧["enumerate","zip","dict_itemiterator","dict_reverseitemiterator","odict_iterator","itertools.zip_longest","itertools.pairwise"].contains n=false)
  (hfr:∀ i h h',St i h→(∀ o,h.get? it=some o→h'.get? it=some o)→St i h')
  (hself:∀ (A:Around) (i:Nat) (s:Shared) (Q:Value→Shared→Prop) (E:Value→Shared→Prop),St i s.heap→Q (.ref it) s→wpAny (model P w) A (pyIter (.ref it)) Q E s) :
  vH P w K tg (Its xs) [it] it (fun i h=>i ≤ xs.length∧St i h) where
 mem:=by simp
 obj:=fun i h st b hb=>by
  have e:b=it:=by simpa using hb
  subst e
  obtain ⟨o,n,vs,e,_,d,_⟩:=hgo i h st.2
  exact ⟨o,e,fun v z=>by rw [d] at z;cases z⟩
 keep:=fun i h h' st k=>⟨st.1,hfr i h h' st.2 fun o e=>k it (by simp) o e⟩
 item:=by
  intro X hP' hw hK hc i pins s σ H E I hf st hg
  subst hP' hw hK
  obtain ⟨f0,f1,f2,f3,f4,f5⟩:=hf it (by simp)
  refine (hW X.A (I.ok.hd hc)).item i s _ _ hg st.2 fun v h' tk hv st' kk=>?_
  obtain ⟨x,hx,rx⟩:=hP i v hv
  have I1:Inv X pins σ H { s with heap:=h',toks:=tk }:=I.turned (fun b o hb e=>kk b o (by simpa using hb) e) f0 f1 f3 f4 f5
  obtain ⟨o,n,vs,e,c,d,nm⟩:=hgo _ _ st'
  exact ⟨v,rfl,oC (s:={ s with heap:=h',toks:=tk }) e c d nm ⟨x,H,I1,rx,⟨rfl,hx⟩,⟨hg,st'⟩,fun b hb=>(hf b hb).1⟩⟩
 done:=by
  intro X hP' hw hK hc i pins s σ H E I hf st hg
  subst hP' hw hK
  obtain ⟨f0,f1,f2,f3,f4,f5⟩:=hf it (by simp)
  have e:i=xs.length:=Nat.le_antisymm st.1 hg
  subst e
  exact (hW X.A (I.ok.hd hc)).done s _ _ st.2 fun h' tk kk=>⟨rfl,I.turned (fun b o hb e=>kk b o (by simpa using hb) e) f0 f1 f3 f4 f5⟩
 self:=fun A i s Q E st h=>hself A i s Q E st.2 h
noncomputable def bN (c:Nat):Str:=⟨#[c]⟩
noncomputable def Oi (x:Str):List V:=x.cps.toList.map fun c=>V.str (bN c)
theorem Dm (x:Str):(Oi x).length=x.cps.size:=by unfold Oi;simp
theorem zC {x:Str} {i c:Nat} (h:x.cps[i]? = some c):(Oi x)[i]? = some (.str (bN c)):=by
 unfold Oi
 rw [List.getElem?_map,Array.getElem?_toList,h]
 rfl
theorem Mt {x:Str} {i:Nat} {v:Value} (h:SignAt x i v):∃ y,(Oi x)[i]? = some y∧Ed y v:=by
 obtain ⟨c,u,hc,rfl⟩:=h
 exact ⟨.str (bN c),zC hc,u,rfl⟩
section
variable {X:Cx} {tg:Expr}
noncomputable def GO (tl:TE):TI:=fun σ H R=>tl σ H fun x H1=>∃ z,x=.str z∧R (Its (Oi z)) H1
theorem DL {l:Expr} {tl:TE} (hl:PE X l tl):PI X tg l (GO tl):=by
 intro pins s σ H R I h
 refine thn (hl pins s σ H _ I h) fun v s1 ⟨x,H1,I1,r1,q1⟩=>?_
 obtain ⟨z,e,q⟩:=q1
 subst e
 obtain ⟨t,rfl⟩:=r1
 have fo:∀ b ∈ [s1.heap.objs.size],uw X pins H1 b:=fun b hb=>by
  have e:b=s1.heap.objs.size:=by simpa using hb
  subst e
  exact I1.fpOk (Nat.le_refl _) (I1.hok.fresh (Nat.le_refl _))
 have hz:=Dm z
 cases ha:z.cps.all (· < 128) with
 | false=>
  refine wpAny_pyIter_wide ha ⟨s1.heap.objs.size,[s1.heap.objs.size],fun i h=>i ≤ (Oi z).length∧h.IsStrIter s1.heap.objs.size "str_iterator" z t i,_,H1,rfl,I1.kept (t':=s1.toks) fun b o e=>Heap.get?_push_of_some _ e,
   Ot (fun A hA=>by rw [hz];exact Walks.strWide hA _ z t) (fun i v=>Mt) (fun i h ⟨o,e,c,d⟩=>⟨o,_,_,e,c,d,by decide⟩) (fun i h h' ⟨o,e,r⟩ k=>⟨o,k o e,r⟩) (fun A i s Q E st q=>wpAny_pyIter_striter_wide st q),
   ⟨Nat.zero_le _,_,Heap.get?_push_size _ rfl,rfl,rfl⟩,fo,q⟩
 | true=>
  refine wpAny_pyIter_ascii ha ⟨s1.heap.objs.size,[s1.heap.objs.size],fun i h=>i ≤ (Oi z).length∧h.IsStrIter s1.heap.objs.size "str_ascii_iterator" z t i,_,H1,rfl,I1.kept (t':=s1.toks) fun b o e=>Heap.get?_push_of_some _ e,
   Ot (fun A hA=>by rw [hz];exact Walks.strAscii hA _ z t) (fun i v=>Mt) (fun i h ⟨o,e,c,d⟩=>⟨o,_,_,e,c,d,by decide⟩) (fun i h h' ⟨o,e,r⟩ k=>⟨o,k o e,r⟩) (fun A i s Q E st q=>wpAny_pyIter_striter_ascii st q),
   ⟨Nat.zero_le _,_,Heap.get?_push_size _ rfl,rfl,rfl⟩,fo,q⟩
end
theorem zI {xs:List V} {g:TG} {tb:TS} {D:lg} {σ:St} {H:Hp} (Pv:Nat→St→Hp→Prop) (h0:Pv 0 σ H)
  (hs:∀ i x σ H,xs[i]? = some x→Pv i σ H→g x σ H fun σ2 H2=>tb { D with nx:=Pv (i + 1),ct:=Pv (i + 1),bk:=D.nx } σ2 H2) (hd:∀ σ H,Pv xs.length σ H→D.nx σ H) :
  ∃ W:Nat→Nat→St→Hp→Prop,(∃ m,W 0 m σ H)∧∀ i m σ H,W i m σ H →
   ((Its xs).stop i H∧D.nx σ H)∨((Its xs).go i H∧∃ N:St→Hp→Prop,(∀ σ' H',N σ' H'→∃ m',m' < m∧W (i + 1) m' σ' H')∧∀ x H',(Its xs).yld i H x H'→g x σ H' fun σ2 H2=>tb { D with nx:=N,ct:=N,bk:=D.nx } σ2 H2):=by
 refine ⟨fun i m σ H=>m=xs.length - i∧i ≤ xs.length∧Pv i σ H,⟨xs.length,by simp,Nat.zero_le _,h0⟩,?_⟩
 rintro i m σ H ⟨rfl,hi,p⟩
 by_cases hlt:i < xs.length
 ·refine .inr ⟨hlt,Pv (i + 1),fun σ' H' p'=>⟨xs.length - (i + 1),by omega,rfl,hlt,p'⟩,fun x H' y=>?_⟩
  obtain ⟨e,y⟩:=y
  subst e
  exact hs i x σ _ y p
 ·have e:i=xs.length:=by omega
  subst e
  exact .inl ⟨Nat.le_refl _,hd σ H p⟩
theorem xG {xs:List V} {g:TG} {tc:TT} {te:TE} {σb:St} {Q:VK} {H:Hp} (Pv:Nat→List V→Hp→Prop) (hz:xs.length ≤ sizeLine) (h0:Pv 0 [] H) (hl:∀ i ys H,i ≤ xs.length→Pv i ys H→ys.length ≤ i)
  (hs:∀ i x ys H,xs[i]? = some x→Pv i ys H→Xg Pv g tc te σb i x ys H) (hd:∀ ys H,Pv xs.length ys H→∀ p,H p=none→Q (.ref p) (upd H p (.lst ys))) :
  ∃ W:Nat→Nat→List V→Hp→Prop,(∃ m,W 0 m [] H)∧Rw (Its xs) g tc te σb Q W:=by
 refine ⟨fun i m ys H=>m=xs.length - i∧i ≤ xs.length∧Pv i ys H,⟨xs.length,by simp,Nat.zero_le _,h0⟩,?_⟩
 rintro i m ys H ⟨rfl,hi,p⟩
 have hyl:=hl i ys H hi p
 by_cases hlt:i < xs.length
 ·refine .inr ⟨hlt,by omega,fun x H' y=>?_⟩
  obtain ⟨e,y⟩:=y
  subst e
  exact hs i x ys _ y p (fun ys' H'=>∃ m',m' < xs.length - i∧m'=xs.length - (i + 1)∧i + 1 ≤ xs.length∧Pv (i + 1) ys' H') fun ys' H' r=>⟨xs.length - (i + 1),by omega,rfl,hlt,r⟩
 ·have e:i=xs.length:=by omega
  subst e
  exact .inl ⟨Nat.le_refl _,hd ys H p⟩
section
variable {X:Cx}
noncomputable def HP:V→Option Int→Option Int→Hp→VK→Prop:=fun x lo hi H Q=>∃ z,x=.str z∧z.length ≤ sizeLine∧Q (.str (Txt.slice z lo hi)) H
noncomputable def bc (ys:List Str):List V:=ys.map V.str
theorem uv:∀ (l:List (Str × Tok)),Uc (bc (l.map (·.1))) (strValues l)
 | []=>.nil
 | (x,t) :: r=>.cons ⟨t,rfl⟩ (uv r)
noncomputable def eO (K:PySem.W.Frag):V→List V→Hp→VK→Prop:=fun x vs H Q=>∃ sep p ys,x=.str sep∧vs=[.ref p]∧SqL K H p (bc ys)∧(ys.map (·.length)).sum + ys.length * sep.length ≤ 16777216∧Q (.str (Txt.join sep ys)) H
end
theorem Zz {prog:Program} {w:World} {A:Around} {E:Value→Shared→Prop} {s:Shared} {x y:Str} {t u:Tok} {Q:Value→Shared→Prop} (hy:(y.length == 0)=false)
  (h:∀ l k,l.map (·.1)=Txt.split x y→Q (.ref s.heap.objs.size) { s with heap:=s.heap.push { cls:=.type "list",data:=.seq (strValues l).toArray },toks:=k }) (hsz:x.length + 2 ≤ sizeLine) :
  wpAny (model prog w) A (call (.builtin "str.split") [.str x t,.str y u]) Q E s:=by
 have hn:(Builtin.Str.partsBetween x (Builtin.Str.occurrences x y 0 x.length (x.length + 1)) y.length).length ≤ sizeLine:=by
  have e1:=StrLaws.occ_length_le x y 0 x.length (x.length + 1)
  rw [length_partsBetween];omega
 cases h1:(decide (x.length < y.length) || decide (Builtin.Str.strKind x < Builtin.Str.strKind y))
 ·cases hf:(Builtin.Str.occurrences x y 0 x.length (x.length + 1)).isEmpty
  ·refine call_meets F.slot_str_split (typeIs_str _ _ _) F.entry_str_split (F.args_str_split_2 _ _) (meets_str_split_sep x y t u h1 hy hf (by omega) hn) ?_
   show wants Q E _ { s with toks:=_,heap:=s.heap.push { cls:=.type "list",data:=.seq (strsFrom s.toks (Builtin.Str.partsBetween x (Builtin.Str.occurrences x y 0 x.length (x.length + 1)) y.length)).toArray } }
   rw [strsFrom_eq]
   exact h (numbered s.toks _) _ ((numbered_texts _ _).trans ((if_neg (ne_true_of_eq_false h1)).trans (if_neg (ne_true_of_eq_false hf))).symm)
  ·exact call_meets F.slot_str_split (typeIs_str _ _ _) F.entry_str_split (F.args_str_split_2 _ _) (meets_str_split_not_found x y t u h1 hy hf)
    (h [(x,t)] s.toks ((if_neg (ne_true_of_eq_false h1)).trans (if_pos hf)).symm)
 ·exact call_meets F.slot_str_split (typeIs_str _ _ _) F.entry_str_split (F.args_str_split_2 _ _) (meets_str_split_cannot_occur x y t u h1)
   (h [(x,t)] s.toks (if_pos h1).symm)
section
variable {X:Cx}
noncomputable def VH:V→List V→Hp→VK→Prop:=fun x vs H Q=>∃ z y,x=.str z∧vs=[.str y]∧y.length ≠ 0∧z.length + 2 ≤ sizeLine∧(Txt.split z y).length ≤ sizeLine∧∀ p,H p=none→Q (.ref p) (upd H p (.lst (bc (Txt.split z y))))
theorem mz:MtR X "str.split" VH:=by
 intro pins s σ H x xs v us Q I rx rv h
 obtain ⟨z,y,rfl,rfl,hy,hz,hn,q⟩:=h
 obtain ⟨t,rfl⟩:=rx
 obtain ⟨u,rfl,ru⟩:=Mw rv
 obtain ⟨tu,rfl⟩:=ru
 refine Zz (by simpa using hy) (fun l k hl=>?_) hz
 refine ⟨.ref s.heap.objs.size,_,I.laid (t':=k) (o:=.lst (bc (Txt.split z y))) (fun b o e=>Heap.get?_push_of_some _ e) (Nat.le_refl _) ⟨by unfold bc;rw [List.length_map];exact hn,strValues l,0,by rw [← hl];exact uv l,Heap.get?_push_size _ rfl⟩,rfl,q _ (I.hok.fresh (Nat.le_refl _))⟩
noncomputable def rK:V→List V→Hp→VK→Prop:=fun x vs H Q=>∃ z y i rest,x=.str z∧vs=[.str y]∧Builtin.Str.occurrences z y 0 z.length 1=i :: rest∧Q (.int (i:Nat)) H
theorem dB:sk X (.type "int") (fun xs H Q=>∃ z n,xs=[.str z]∧intText? z=some n∧z.length ≤ 640∧Q (.int n) H):=by
 intro pins s σ H xs us Q I r h
 obtain ⟨z,n,rfl,hn,hz,q⟩:=h
 obtain ⟨u,rfl,t,rfl⟩:=Mw r
 exact PySem.W.KIN.call_text hn hz ⟨.int n,H,I.tok _,⟨_,rfl⟩,q⟩
theorem Uv:∀ {bs:List Bool} {us:List Value},Uc (bs.map V.bl) us→us=bs.map Value.bool
 | [],_,.nil=>rfl
 | b :: bs,_,.cons r t=>by
  have e:_=Value.bool b:=r
  rw [e,Uv t];rfl
theorem ux {A:Around} (bs:List Bool):TruthOf X.prog X.w A (fun i v=>(bs.map Value.bool).toArray[i]? = some v) (fun i=>bs.getD i true):=by
 intro i v s Q E hP hQ
 have e:(bs.map Value.bool)[i]? = some v:=by simpa using hP
 rw [List.getElem?_map] at e
 cases q:bs[i]? with
 | none=>rw [q] at e;cases e
 | some b=>
  rw [q] at e
  have e':Value.bool b=v:=Option.some.inj e
  subst e'
  refine wpAny_truthy_bool ?_
  have:bs.getD i true=b:=by simp [List.getD,q]
  have hQ':Q (bs.getD i true) s:=hQ
  rw [this] at hQ'
  exact hQ'
theorem AD (bs:List Bool):(List.range bs.length).all (fun i=>bs.getD i true)=bs.all id:=by
 rw [Bool.eq_iff_iff]
 simp only [List.all_eq_true,List.mem_range,id]
 constructor
 ·intro h b hb
  obtain ⟨i,hi,e⟩:=List.mem_iff_getElem.mp hb
  have:=h i hi
  simp [List.getD,hi,e] at this
  exact this
 ·intro h i hi
  simp [List.getD,hi]
  exact h _ (List.getElem_mem hi)
theorem iH (hc:X.calm=true):sk X (.builtin "all") (fun xs H Q=>∃ (p:Addr) (bs:List Bool),xs=[.ref p]∧SqL X.K H p (bs.map V.bl)∧Q (.bl (bs.all id)) H):=by
 intro pins s σ H xs us Q I r h
 obtain ⟨p,bs,rfl,hq,q⟩:=h
 obtain ⟨u,rfl,ru⟩:=Mw r
 cases ru
 obtain ⟨its,rv,pl,_⟩:=I.list hq
 have e:=Uv rv
 subst e
 refine call_all_walk (wpAny_pyIter_list pl.isList ?_)
 have hne:p ≠ s.heap.objs.size:=Nat.ne_of_lt (by obtain ⟨o,_,ho,_⟩:=pl;exact Heap.lt_size ho)
 refine ⟨s.heap.objs.size,_,_,_,_,_,fun i=>bs.getD i true,rfl,Walks.list (show X.A.in1.handled=none from I.ok.hd hc) _ p hne (bs.map Value.bool).toArray,⟨⟨_,Heap.get?_push_size _ rfl,rfl,rfl⟩,pl.isList.at fun o e=>Heap.get?_push_of_some _ e⟩,ux bs,fun h' tk kk=>?_⟩
 refine ⟨.bl (bs.all id),H,I.kept fun b o e=>kk b o (by simpa using Nat.ne_of_lt (Heap.lt_size e)) (Heap.get?_push_of_some _ e),?_,q⟩
 show Value.bool _=Value.bool _
 rw [show (bs.map Value.bool).toArray.size=bs.length by simp,AD]
theorem pG:sk X (.builtin "isinstance") (fun xs H Q=>∃ x T t b,xs=[x,.ty T]∧Oy X.K H x t∧PySem.W.kitOne X.K t (.type T)=some b∧Q (.bl b) H):=by
 intro pins s σ H xs us Q I r h
 obtain ⟨x,T,t,b,rfl,ty,e,q⟩:=h
 obtain ⟨u,u2,rfl,rx,r2⟩:=nE r
 cases r2
 exact LB I rx ty e fun tk=>⟨.bl b,H,I.tok _,rfl,q⟩
end
end L2
namespace L2
open PySem PySem.Spec PyProof.Rows
theorem Ai {X:Cx} {N:List Str} (h:N.Nodup) (e:X.N=N):X.N.Nodup:=e ▸ h
noncomputable def eB (sc scope:Scope):Bool:=
 (scope.kind == .function) && scope.names.all (fun y=>y.2 != .cell) && scope.names.all (fun y=>y.2 != .free || sc.names.lookup y.1 == some .cell || sc.names.lookup y.1 == some .free) &&
  scope.names.all (fun y=>y.2 != .local || scope.names.lookup y.1 == some .local)
theorem Ud {env:Env} {sc scope:Scope} (he:env.scope=sc) (h:eB sc scope=true):Qn env scope:=by
 subst he
 unfold eB at h
 simp only [Bool.and_eq_true,List.all_eq_true] at h
 obtain ⟨⟨⟨h1,h2⟩,h3⟩,h4⟩:=h
 refine ⟨by simpa using h1,fun y hy e=>?_,fun y hy e=>?_,fun y hy e=>?_⟩
 ·have:=h2 y hy
  rw [e] at this
  exact absurd this (by decide)
 ·have:=h3 y hy
  rw [e] at this
  simp only [Bool.or_eq_true] at this
  rcases this with (z | z) | z
  ·exact absurd z (by decide)
  ·exact .inl (show env.scope.names.lookup y.1=some .cell by simpa using z)
  ·exact .inr (show env.scope.names.lookup y.1=some .free by simpa using z)
 ·have:=h4 y hy
  rw [e] at this
  simp only [Bool.or_eq_true] at this
  rcases this with z | z
  ·exact absurd z (by decide)
  ·simpa using z
noncomputable def rP (M:List Str) (scope:Scope) (N:List Str) (sel:List (Option Nat)):Bool:=
 sel.length == N.length && (sel.zip N).all fun p=>match p.1 with | none=>true | some j=>M[j]? == some p.2 && scope.names.lookup p.2 == some .free
theorem Ie {M:List Str} {scope:Scope} {N:List Str} {sel:List (Option Nat)} (h:rP M scope N sel=true):jC M scope N sel:=by
 unfold rP at h
 simp only [Bool.and_eq_true,List.all_eq_true] at h
 refine ⟨by simpa using h.1,fun i j x e1 e2=>?_⟩
 have hm:(some j,x) ∈ sel.zip N:=by
  rw [List.mem_iff_getElem?]
  exact ⟨i,by rw [List.getElem?_zip_eq_some];exact ⟨e1,e2⟩⟩
 have:=h.2 _ hm
 simp only [Bool.and_eq_true] at this
 exact ⟨by simpa using this.1,by simpa using this.2⟩
noncomputable def noT:HO→Bool
 | .dT _=>false
 | .frz _ u=>noT u
 | _=>true
noncomputable def NoT (H:Hp):Prop:=∀ b o,H b=some o→noT o=true
theorem Ad.back {P:Program} {w:World} {H H':Hp} {h h':Heap} {a:Addr}:∀ (o:HO),noT o=true→Ad P w H' h' a o→Ad P w H h a o→Ad P w H h' a o
 | .lst _,_,x,_=>x
 | .tup _,_,x,_=>x
 | .dK _,_,x,_=>x
 | .dT _,e,_,_=>absurd e (by unfold noT;decide)
 | .set _ _,_,x,_=>x
 | .ins _ _ _,_,x,y=>⟨y.1,x.2⟩
 | .own _,_,x,_=>x
 | .xd _,_,x,_=>x
 | .met _ _,_,x,_=>x
 | .rng _ _,_,x,_=>x
 | .frz ob u,e,x,y=>⟨x.1,Ad.back u (by unfold noT at e;exact e) x.2 y.2⟩
 | .tbl _,_,x,_=>x
 | .ext _,_,x,_=>x
section
variable {P:Program} {w:World} {K:PySem.W.Frag} {mg:Str→Option Value} {base:Heap}
theorem Eb.forget {k:Nat} {f:Addr} {fd:FuncData} {ps:List Str} {sp sp':Sp} (F:Eb P w K mg base CX0 k f fd ps sp)
  (h:∀ vs H Q E,sp' vs H Q E→NoT H∧sp vs H (fun v H'=>Xb H H'∧Q v H) E):Eb P w K mg base CX0 k f fd ps sp':=by
 refine ⟨fun vs H Q E q=>F.len vs H _ E (h vs H Q E q).2,fun A outer s H args us vs Q E hr he hb hv hs=>?_⟩
 obtain ⟨nt,q⟩:=h vs H Q E hs
 refine codeAny_mono (F.run A outer s H args us vs _ E hr he hb hv q) fun r s' hq=>?_
 cases r with
 | error e=>exact hq
 | ok fl=>
  cases fl with
  | next=>exact hq
  | brk=>exact hq
  | cont=>exact hq
  | ret u=>
   obtain ⟨v,H',os,bare,un,hok,rv,sm,q'⟩:=hq
   exact ⟨v,H,os,bare,⟨un.keep,un.slot,fun _ _ _ n _=>n,un.there,fun _ _ z=>z,fun _ _ _ z=>z,fun _ ps z=>⟨#[],by rw [z];simp⟩⟩,fun a o e=>(hok a o (sm a o e)).back o (nt a o e) (he.hok a o e),rv,q'⟩
end
theorem ib {H:Hp} {p:Addr} {o:HO} (h:H p=none):Xb H (upd H p o):=fun b u q=>by rw [lb (qb q h)];exact q
theorem Xb.updN {H H1:Hp} {p:Addr} {o:HO} (s:Xb H H1) (h:H p=none):Xb H (upd H1 p o):=fun b u q=>by rw [lb (qb q h)];exact s b u q
structure Sc (K:PySem.W.Frag) (a:Addr) (ns:List Int) (H:Hp):Prop where
 sq:(∃ o,H a=some (.frz o (.lst (ns.map V.int))))∨∃ (o:Obj) (its:Array Value) (n:Nat),K.lookup a=some o∧o.cls=.type "list" ∧ o.dict=none∧o.data=.seq its n∧its.size ≤ sizeLine∧Uc (ns.map V.int) its.toList
 nt:NoT H
section
variable {K:PySem.W.Frag} {a p:Addr} {ns:List Int} {H H':Hp} {o:HO}
theorem Sc.seq (s:Sc K a ns H):SqL K H a (ns.map V.int):=by
 rcases s.sq with ⟨o,h⟩ | h
 ·exact .inl (.inr ⟨o,h⟩)
 ·exact .inr h
theorem Sc.new (s:Sc K a ns H) (hp:H p=none) (ho:noT o=true:=by rfl):Sc K a ns (upd H p o):=by
 refine ⟨?_,fun b u e=>?_⟩
 ·rcases s.sq with ⟨ob,h⟩ | h
  ·exact .inl ⟨ob,by rw [lb (qb h hp)];exact h⟩
  ·exact .inr h
 ·by_cases hb:b=p
  ·subst hb;rw [cb] at e;cases e;exact ho
  ·rw [lb hb] at e;exact s.nt b u e
theorem Sc.set {u:HO} (s:Sc K a ns H) (hp:H p=some u) (hu:∀ ob z,u ≠ .frz ob z) (ho:noT o=true:=by rfl):Sc K a ns (upd H p o):=by
 refine ⟨?_,fun b x e=>?_⟩
 ·rcases s.sq with ⟨ob,h⟩ | h
  ·refine .inl ⟨ob,?_⟩
   have hne:a ≠ p:=fun z=>by subst z;rw [hp] at h;exact hu _ _ (Option.some.inj h)
   rw [lb hne];exact h
  ·exact .inr h
 ·by_cases hb:b=p
  ·subst hb;rw [cb] at e;cases e;exact ho
  ·rw [lb hb] at e;exact s.nt b x e
theorem Sc.of_only (hO:uM H) (hS:SqL K H a (ns.map V.int)):Sc K a ns H:=by
 refine ⟨?_,fun b u e=>?_⟩
 ·rcases hS with (h | ⟨o,h⟩) | h
  ·rcases hO a with z | ⟨ob,xs,z⟩
   ·rw [h] at z;cases z
   ·rw [h] at z;cases z
  ·exact .inl ⟨o,h⟩
  ·exact .inr h
 ·rcases hO b with z | ⟨ob,xs,z⟩
  ·rw [e] at z;cases z
  ·rw [e] at z;cases z;rfl
end
noncomputable def wM (K:PySem.W.Frag):Sp:=fun vs H Q _=>∃ (a:Addr) (ns:List Int),vs=[.ref a]∧Sc K a ns H∧ns.length ≤ 63∧∀ H',Q (.bl true) H'
theorem yf:bootBuiltins "len"=some (.builtin "len"):=PySem.boot_len
theorem yA:bootBuiltins "all"=some (.builtin "all"):=by decide +kernel
theorem gA:bootBuiltins "max"=some (.builtin "max"):=by decide +kernel
theorem Ab:bootBuiltins "isinstance"=some (.builtin "isinstance"):=by decide +kernel
theorem vA:bootBuiltins "int"=some (.type "int"):=by decide +kernel
theorem vn:bootBuiltins "str"=some (.type "str"):=by decide +kernel
theorem Tx:bootBuiltins "bool"=some (.type "bool"):=by decide +kernel
theorem bx:bootBuiltins "list"=some (.type "list"):=by decide +kernel
theorem aM {K:PySem.W.Frag}:PySem.W.kitOne K (.type "int") (.type "bool")=some false:=by
 unfold PySem.W.kitOne
 rw [if_neg (by decide)]
 with_unfolding_all rfl
theorem Rd.same {H H':Hp} {a:Addr} {o:HO} (h:Rd H a o) (s:Xb H H'):Rd H' a o:=by
 rcases h with h | ⟨ob,h⟩
 ·exact .inl (s _ _ h)
 ·exact .inr ⟨ob,s _ _ h⟩
theorem SqL.same {K:PySem.W.Frag} {H H':Hp} {a:Addr} {xs:List V} (h:SqL K H a xs) (s:Xb H H'):SqL K H' a xs:=by
 rcases h with h | h
 ·exact .inl (h.same s)
 ·exact .inr h
theorem SqT.same {K:PySem.W.Frag} {H H':Hp} {a:Addr} {xs:List V} (h:SqT K H a xs) (s:Xb H H'):SqT K H' a xs:=by
 rcases h with h | h
 ·exact .inl (h.same s)
 ·exact .inr h
theorem NoT.upd {H:Hp} {p:Addr} {o:HO} (h:NoT H) (ho:noT o=true:=by rfl):NoT (upd H p o):=fun b u e=>by
 by_cases hb:b=p
 ·subst hb;rw [cb] at e;cases e;exact ho
 ·rw [lb hb] at e;exact h b u e
theorem Sc.same {K:PySem.W.Frag} {a:Addr} {ns:List Int} {H H':Hp} (s:Sc K a ns H) (sm:Xb H H') (nt:NoT H'):Sc K a ns H':=by
 refine ⟨?_,nt⟩
 rcases s.sq with ⟨o,h⟩ | h
 ·exact .inl ⟨o,sm _ _ h⟩
 ·exact .inr h
end L2
namespace L2
open PySem PySem.Spec PyProof.Rows
structure VO (K:PySem.W.Frag) (C:Addr) (m:Str) (f:Addr):Prop where
 rd:PySem.W.readsIn K C (.type "type")=true
 fd:PySem.W.findCls K (.ref C) (.type "type") m=some (.val (.ref f))
 ga:PySem.W.specialIn K (.ref C) "__getattribute__"=some (some (.builtin "type.__getattribute__"))
 kp:PySem.W.keepIn K (.ref f)=true
structure uG (P:Program) (w:World) (K:PySem.W.Frag) (mg:Str→Option Value) (base:Heap) (CX:CXT) (k:Nat) (OK:Addr→Prop) (m:Str) (ps:List Str) (SPV:Addr→Sp):Prop where
 ok:∀ C,OK C→∃ f fd,Cls K C∧At K C m f∧Eb P w K mg base CX k f fd ps (SPV C)∧Qb K fd ps []
noncomputable def IH (OK:Addr→Prop) (m:Str) (SPV:Addr→Sp) (E:XK) (ta:TE) (t:TA):TE:=fun σ H Q=>ta σ H fun x H1=>∃ a C dx fs,x=.ref a∧H1 a=some (.ins C dx fs)∧OK C∧fs.lookup m=none ∧
 t σ H1 fun vs H2=>SPV C (x :: vs) H2 Q E
section
variable {X:Cx} {CX:CXT} {k:Nat} {f C:Addr} {fd:FuncData} {ps:List Str} {sp:Sp} {dvs:List V} {ds:List Value} {E:XK} {x m:Str} {p pos apos:Pos} {e o:Expr} {es:List Expr} {ta:TE} {t:TA}
theorem wu {pl:Sem Bool} (hg:Gl X x) (hm:X.mg x=some (.ref C)) (c:VO X.K C m f) (F:Eb X.prog X.w X.K X.mg X.base CX k f fd ps sp) (hr:Nh k X.A) (hb:Qb X.K fd ps ds) (hd:Uc dvs ds) (hx:Zi CX X E) (ha:PA X (e :: es) t)
  (hdb:(x == ("__debug__" : Str))=false:=by decide) (hst:starEach (e :: es) X.env=(false,eval e X.env) :: starEach es X.env:=by rfl) (hpl:(backTo pos (starEach es X.env)).any (·.1)=false:=by rfl)
  (ht:eval (.Call (.Attribute (.Name x p) m apos) (e :: es) [] pos) X.env=(do
   let ov ← eval (.Name x p) X.env
   standAt apos.atName
   let (f,first) ← holding [ov] (getMethod ov m pl)
   callWith pos f first (backTo pos (starEach (e :: es) X.env)) (backToKw pos (keywordEach [] X.env))):=by rfl) :
  PE X (.Call (.Attribute (.Name x p) m apos) (e :: es) [] pos) (YE sp dvs E t):=by
 intro pins s σ H Q I h
 refine PySem.W.methodCall_KW (pl:=pl) (Bi I hg hm ?_ hdb) ht
 refine PySem.W.method_cls I.kIn c.ga (PySem.W.cls_value I.kIn c.rd c.fd rfl ?_)
 have I1:=I.tok (s.toks + 1)
 refine PySem.W.callWith_K (first:=[]) (h₀:=X.base) I.ok.mod.kin c.kp (thn (ha pos pins _ σ H _ I1 h) fun us s2 ⟨vs,H2,I2,r,q2⟩=>⟨I2.kIn,?_⟩) hst hpl
 exact bv F hr hb hd hx I2 r q2
variable {OK:Addr→Prop} {SPV:Addr→Sp}
theorem Em {pl:Sem Bool} (he:PE X o ta) (V:uG X.prog X.w X.K X.mg X.base CX k OK m ps SPV) (hr:Nh k X.A) (hx:Zi CX X E)
  (ht:eval (.Call (.Attribute o m apos) [] [] pos) X.env=(do
   let ov ← eval o X.env
   standAt apos.atName
   let (f,first) ← holding [ov] (getMethod ov m pl)
   callWith pos f first (backTo pos (starEach [] X.env)) (backToKw pos (keywordEach [] X.env))):=by rfl) :
  PE X (.Call (.Attribute o m apos) [] [] pos) (IH OK m SPV E ta FN):=by
 intro pins s σ H Q I h
 refine PySem.W.methodCall_KW (pl:=pl) (thn (he pins s σ H _ I h) fun u s1 ⟨x,H1,I1,rx,a,C,dx,fs,ex,ea,ok,l,q⟩=>?_) ht
 subst ex
 obtain rfl:u=Value.ref a:=rx
 obtain ⟨f,fd,c,hm,F,hb⟩:=V.ok C ok
 refine En I1 ea c hm l ?_
 exact PySem.W.callWith_K0 (first:=[.ref a]) I1.kIn hm.kp (bv (us:=[.ref a]) (vs:=[.ref a]) (dvs:=[]) F hr hb .nil hx I1 (.cons rfl .nil) q)
end
noncomputable abbrev SVs:=List (Str × V)
noncomputable def oM (kvs:SVs) (ty:TE):TE:=fun σ H Q=>ty σ H fun y H1=>∃ x v,y=.str x∧kvs.lookup x=some v∧Q v H1
section
variable {X:Cx} {x:Str} {p pos:Pos} {i:Expr} {ty:TE} {u:Value} {kvs:List (Str × V)}
end
noncomputable def gj (K:PySem.W.Frag) (H:Hp) (a:Addr) (f:Str) (v:V):Prop:=∃ C dx fs,H a=some (.ins C dx fs)∧Cls K C∧Cb K C f∧fs.lookup f=some v
theorem Mc {f:Str} {v:V}:∀ {fs:List (Str × V)} (ks:List Str),fs.map (·.1)=ks→ks.contains f=false→rg f v fs=fs ++ [(f,v)]
 | [],_,_,_=>rfl
 | (g,y) :: r,ks,e,h=>by
  cases e
  rw [List.map_cons,List.contains_cons] at h
  have h1:=(Bool.or_eq_false_iff.mp h)
  have hne:¬ g=f:=fun z=>by
   have:=h1.1
   rw [z] at this
   simp at this
  show (if g=f then _ else _)=_
  rw [if_neg hne,Mc _ rfl h1.2]
  rfl
theorem Zm {f:Str} {v:V} {fs:List (Str × V)} {n:Nat} (h:fs.length < n):(rg f v fs).length < n + 1:=Nat.lt_of_le_of_lt (Rl f v fs) (by omega)
theorem ic {f:Str} {v:V}:∀ {fs:List (Str × V)} (ks:List Str) (i:Nat),fs.map (·.1)=ks→ks.findIdx? (· == f)=some i→fs[i]? = some (f,v)→fs.lookup f=some v
 | [],_,_,_,_,h=>by simp at h
 | (g,y) :: r,ks,i,e,h,hv=>by
  cases e
  rw [List.map_cons,List.findIdx?_cons] at h
  rw [List.lookup]
  by_cases e:g=f
  ·subst e
   rw [beq_self_eq_true,if_pos rfl] at h
   cases h
   have:(g,y)=(g,v):=by simpa using hv
   cases this
   rw [beq_self_eq_true]
  ·rw [beq_eq_false_iff_ne.mpr e,if_neg (by decide)] at h
   obtain ⟨j,hj,rfl⟩:=Option.map_eq_some_iff.mp h
   rw [beq_eq_false_iff_ne.mpr (fun z=>e z.symm)]
   exact ic _ j rfl hj (by simpa using hv)
theorem am {f:Str}:∀ {fs:List (Str × V)} (ks:List Str),fs.map (·.1)=ks→ks.contains f=false→fs.lookup f=none
 | [],_,_,_=>rfl
 | (g,y) :: r,ks,e,h=>by
  cases e
  rw [List.map_cons,List.contains_cons] at h
  have h1:=(Bool.or_eq_false_iff.mp h)
  rw [List.lookup,h1.1]
  exact am _ rfl h1.2
end L2
namespace L2
open PySem PySem.Spec PyProof.Rows
theorem Inv.turnedL {X:Cx} {pins:List (Addr × Obj)} {σ:St} {H:Hp} {s:Shared} {h':Heap} {t':Nat} {fp:List Addr} (I:Inv X pins σ H s) (k:∀ b o,b ∉ fp→s.heap.get? b=some o→h'.get? b=some o)
  (hf:∀ b ∈ fp,uw X pins H b):Inv X pins σ H { s with heap:=h',toks:=t' }:=by
 have nit:∀ b u,H b=some u→b ∉ fp:=fun b u e z=>by rw [(hf b z).1] at e;cases e
 refine I.step (g':=s.gens) (d':=s.drawn) (ch:=fp) (fun b hb=>?_) (fun b o _ _ hc e _=>k b o hc e) (fun b o _ _ hc e _=>⟨o.slots,k b o hc e⟩) (fun _ _ _ _ n=>n)
  (fun b o hc e=>⟨o,k b o hc e⟩) (fun _ _ e=>e) (fun _ _ _ e=>e) (fun b ps e=>⟨#[],by rw [e];simp⟩) (fun m hm=>?_) (fun b u e=>?_) I.bare
 ·obtain ⟨f0,f1,f2,f3,f4,f5⟩:=hf b hb
  exact ⟨f3,f1,f4,f5⟩
 ·obtain ⟨o,es,ep,ho,r⟩:=hm
  exact ⟨o,es,ep,k _ o (fun z=>(hf _ z).2.1 rfl) ho,r⟩
 ·refine (I.hok b u e).stay (fun c v hc q=>k c v ?_ q) (fun _ q=>q) fun _ _ q=>q
  rcases hc with z | z
  ·rw [z];exact nit b u e
  ·exact nit c _ z
noncomputable def Ite (K:PySem.W.Frag) (a:Addr):It:=
 ⟨fun i H=>∃ xs x,SqL K H a xs∧xs[i]? = some x,fun i H v H'=>∃ p y,H p=none∧v=.ref p∧(∀ xs,SqL K H a xs→xs[i]? = some y)∧H'=upd H p (.tup [.int i,y]),fun i H=>∃ xs,SqL K H a xs∧xs.length ≤ i⟩
theorem CD {P:Program} {w:World} {K:PySem.W.Frag} {es:List Expr} {k} {pos:Pos} (a e it:Addr) (hne:e ≠ it) :
  vH P w K (.Tuple es k pos) (Ite K a) [e,it] e (fun i h=>∃ old,IsEnum h e it ((i:Nat):Int) old∧h.IsListIter it a i) where
 mem:=by simp
 obj:=fun i h ⟨old,he,hi⟩ b hb=>by
  simp only [List.mem_cons,List.not_mem_nil,or_false] at hb
  rcases hb with rfl | rfl
  ·exact ⟨_,he,fun v z=>by
    have z':Data.fields _=Data.cell v:=z
    cases z'⟩
  ·obtain ⟨o,q,c,d⟩:=hi
   exact ⟨o,q,fun v z=>by rw [d] at z;cases z⟩
 keep:=fun i h h' ⟨old,he,hi⟩ k=>⟨old,k e (by simp) _ he,hi.at fun o q=>k it (by simp) o q⟩
 item:=by
  intro X hP hw hK hc i pins s σ H E I hf ⟨old,he,hi⟩ hg
  subst hP hw hK
  obtain ⟨xs,x,hq,hx⟩:=hg
  obtain ⟨its,rv,p,hz⟩:=I.list hq
  obtain ⟨u,hu,ru⟩:=rv.get hx
  refine wpAny_pyNext_enum_item he hi p.isList (x:=u) (by simpa using hu) hne fun h1 he1 hi1 ht1 hz1 hk1=>⟨_,rfl,?_⟩
  refine wpAny_letOwnedTupleGo_enum he1 fun h2 he2 hs2=>?_
  replace hs2:Heap.SameBut e h1 h2:=hs2
  have hel:e < s.heap.objs.size:=Heap.lt_size he
  have hk:∀ b o,b ∉ [e,it]→s.heap.get? b=some o→h2.get? b=some o:=fun b o hb q=>by
   simp only [List.mem_cons,List.not_mem_nil,or_false,not_or] at hb
   exact hs2.extBut _ _ hb.1 (hk1 b o hb.1 hb.2 q)
  have I1:Inv X pins σ H { s with heap:=h2,toks:=s.toks + 1 }:=I.turnedL hk hf
  have fo:uw X pins H s.heap.objs.size:=I.fpOk (Nat.le_refl _) (I.hok.fresh (Nat.le_refl _))
  have ht2:h2.get? s.heap.objs.size=some { cls:=.type "tuple",data:=.seq #[.int i s.toks,u] }:=(hs2.2 _ (Nat.ne_of_gt hel)).trans ht1
  have I2:=I1.adopt (o:=.tup [.int i,x]) fo ⟨by show 2 ≤ sizeLine;decide,[.int i s.toks,u],.cons ⟨_,rfl⟩ (.cons ru .nil),⟨_,ht2,rfl,_,rfl⟩⟩
  refine ⟨.ref s.heap.objs.size,_,I2,rfl,⟨_,x,fo.1,rfl,fun ys hy=>by rw [I.list_inj hy hq];exact hx,rfl⟩,⟨u,?_,?_⟩,fun b hb=>?_⟩
  ·have e1:((i + 1:Nat):Int)=(i:Int) + 1:=by omega
   rw [e1];exact he2
  ·exact hi1.extBut hs2.extBut (Ne.symm hne)
  ·have hlt:b < s.heap.objs.size:=by
    simp only [List.mem_cons,List.not_mem_nil,or_false] at hb
    rcases hb with rfl | rfl
    ·exact hel
    ·obtain ⟨o,q,_⟩:=hi
     exact Heap.lt_size q
   rw [lb (Nat.ne_of_lt hlt)];exact (hf b hb).1
 done:=by
  intro X hP hw hK hc i pins s σ H E I hf ⟨old,he,hi⟩ hg
  subst hP hw hK
  obtain ⟨xs,hq,hx⟩:=hg
  obtain ⟨its,rv,p,hz⟩:=I.list hq
  have hl:=rv.length
  exact wpAny_pyNext_enum_end (I.ok.hd hc) he hi p.isList (by simp;omega) fun h' eb=>⟨rfl,I.turnedL (t':=s.toks) (fun b o hb q=>eb b o (fun z=>hb (by simp [z])) q) hf⟩
 self:=fun _ _ _ _ _ ⟨_,he,_⟩ h=>wpAny_pyIter_enum he h
theorem Xr:bootBuiltins "enumerate"=some (.type "enumerate"):=by decide +kernel
theorem Pu:bootBuiltins "reversed"=some (.type "reversed"):=by decide +kernel
noncomputable def Itz (K:PySem.W.Frag) (a b:Addr):It:=
  ⟨fun i H=>∃ xs ys x y,SqL K H a xs∧SqL K H b ys∧xs[i]? = some x∧ys[i]? = some y,
   fun i H v H'=>∃ p x y,H p=none∧v=.ref p∧(∀ xs,SqL K H a xs→xs[i]? = some x)∧(∀ ys,SqL K H b ys→ys[i]? = some y)∧H'=upd H p (.tup [x,y]),
   fun i H=>∃ xs ys,SqL K H a xs∧SqL K H b ys∧(xs.length ≤ i∨ys.length ≤ i)⟩
noncomputable def Itv (K:PySem.W.Frag) (a:Addr) (n:Nat):It:=
 ⟨fun i H=>i < n∧∃ xs,SqL K H a xs∧xs.length=n,fun i H x H'=>H'=H∧∀ xs,SqL K H a xs→xs[n - 1 - i]? = some x,fun i _=>n ≤ i⟩
section
variable {X:Cx}
noncomputable def XL (K:PySem.W.Frag) (ta:TA):TI:=fun σ H R=>ta σ H fun vs H1=>∃ a,vs=[.ref a]∧(∃ xs,SqL K H1 a xs)∧R (Ite K a) H1
theorem jq {es:List Expr} {k} {tpos:Pos} {a:Expr} {ta:TA} {p pos:Pos} (hg:Gl X "enumerate") (hm:X.mg "enumerate"=none) (ha:PA X [a] ta) (hs:starEach [a] X.env=[(false,eval a X.env)]:=by rfl) :
  PI X (.Tuple es k tpos) (.Call (.Name "enumerate" p) [a] [] pos) (XL X.K ta):=by
 intro pins s σ H R I h
 refine Call_ (Tm I hg hm Xr (PyProof.Rows.callWith_type1 (thn (ha pos pins s σ H _ I h) fun us s1 ⟨vs,H1,I1,r1,q1⟩=>?_) hs rfl))
 obtain ⟨a,e,⟨xs,hq⟩,q⟩:=q1
 subst e
 cases r1 with
 | cons r rr=>
  cases rr
  cases r
  obtain ⟨its,rv,pl,hz⟩:=I1.list hq
  refine call_enumerate_list pl.isList fun h' hE hI hsz hk=>wpAny_pyIter_enum hE ?_
  refine ⟨s1.heap.objs.size + 1,[s1.heap.objs.size + 1,s1.heap.objs.size],_,_,H1,rfl,I1.kept (t':=s1.toks) hk,CD a _ _ (Nat.succ_ne_self _),⟨_,hE,hI⟩,fun b hb=>?_,q⟩
  have hb':s1.heap.objs.size ≤ b:=by
   simp only [List.mem_cons,List.not_mem_nil,or_false] at hb
   rcases hb with rfl | rfl
   ·exact Nat.le_succ _
   ·exact Nat.le_refl _
  exact I1.fpOk hb' (I1.hok.fresh hb')
noncomputable def KP (K:PySem.W.Frag) (ta:TA):TI:=fun σ H R=>ta σ H fun vs H1=>∃ a b,vs=[.ref a,.ref b]∧(∃ xs,SqL K H1 a xs)∧(∃ ys,SqL K H1 b ys)∧R (Itz K a b) H1
noncomputable def wP (K:PySem.W.Frag) (ta:TA):TI:=fun σ H R=>ta σ H fun vs H1=>∃ a xs,vs=[.ref a]∧SqL K H1 a xs∧R (Itv K a xs.length) H1
end
theorem xf {X:Cx} {es:List Expr} {k:Nat} {pos:Pos} {t:TGs} {n:Nat} {K:PySem.W.Frag} (hK:X.K=K) (hc:X.calm=true) (h:PGs X es t)
  (hn:(assignEach es X.env).length=n:=by rfl) (hst:(assignEach es X.env).findIdx? (·.1)=none:=by rfl):PG X (.Tuple es k pos) (lM K n t):=by
 subst hK
 exact JM hc h hn hst
section
variable {X:Cx}
noncomputable def II:V→List V→Hp→VK→Prop:=fun x vs H Q=>∃ l xs i y,x=.ref l∧vs=[.int i,y]∧H l=some (.lst xs)∧0 ≤ i∧i < 2 ^ 62∧i ≤ (xs.length:Int)∧xs.length < sizeLine∧Q .non (upd H l (.lst (xs.take i.toNat ++ y :: xs.drop i.toNat)))
theorem qw {P:Nat→Value→Prop} {f:Nat→V} (hP:∀ i v,P i v→Ed (f i) v):∀ (l:List Value) (k:Nat),(∀ j v,l[j]? = some v→P (k + j) v)→Uc ((List.range l.length).map fun i=>f (k + i)) l
 | [],_,_=>.nil
 | v :: r,k,h=>by
  rw [List.length_cons,List.range_succ_eq_map,List.map_cons,List.map_map]
  refine .cons (hP _ _ (h 0 v rfl)) ?_
  have:=qw hP r (k + 1) fun j w hj=>by
   have:=h (j + 1) w (by simpa using hj)
   rwa [show k + 1 + j=k + (j + 1) by omega]
  have e:(fun i=>f (k + 1 + i))=((fun i=>f (k + i)) ∘ Nat.succ):=funext fun i=>by
   show f (k + 1 + i)=f (k + (i + 1))
   rw [show k + 1 + i=k + (i + 1) by omega]
  rwa [e] at this
theorem cA {P:Nat→Value→Prop} {f:Nat→V} (hP:∀ i v,P i v→Ed (f i) v) {acc:Array Value} {n:Nat} (h:ItemsOf P acc n):Uc ((List.range n).map f) acc.toList:=by
 have:=qw hP acc.toList 0 fun j v hj=>by
  rw [Nat.zero_add]
  exact h.2 j v (by rw [← Array.getElem?_toList];exact hj)
 rw [show acc.toList.length=n by rw [Array.length_toList];exact h.1] at this
 simpa using this
end
end L2
namespace L2
open PySem PySem.Spec PyProof.Rows
inductive EqH (K:PySem.W.Frag) (H:Hp):Nat→V→V→Bool→Prop
 | flat {k:Nat} {x y:V} (hx:rj x=true) (hy:rj y=true):EqH K H k x y (eqV x y)
 | lst {k:Nat} {p q:Addr} {xs ys:List V} {e:Nat→Bool} (hp:SqL K H p xs) (hq:SqL K H q ys) (hl:xs.length=ys.length) (he:∀ (j:Nat) (x y:V),xs[j]? = some x→ys[j]? = some y→EqH K H k x y (e j)):EqH K H (k + 1) (.ref p) (.ref q) ((List.range xs.length).all e)
 | lstN {k:Nat} {p q:Addr} {xs ys:List V} (hp:SqL K H p xs) (hq:SqL K H q ys) (hl:xs.length ≠ ys.length):EqH K H (k + 1) (.ref p) (.ref q) false
 | tup {k:Nat} {p q:Addr} {xs ys:List V} {e:Nat→Bool} (hp:SqT K H p xs) (hq:SqT K H q ys) (he:∀ (j:Nat) (x y:V),xs[j]? = some x→ys[j]? = some y→EqH K H k x y (e j)):EqH K H (k + 1) (.ref p) (.ref q) ((List.range (min xs.length ys.length)).all e && xs.length == ys.length)
theorem dF {x:V} (h:rj x=true):eqV x x=true:=by
 cases x <;> first | rfl | (simp [eqV];done) | cases h
theorem Ut {n:Nat} {e:Nat→Bool} (h:∀ j,j < n→e j=true):(List.range n).all e=true:=by
 rw [List.all_eq_true]
 exact fun j hj=>h j (List.mem_range.mp hj)
section
variable {X:Cx} {pins:List (Addr × Obj)} {σ:St} {H:Hp} {s:Shared}
theorem EqH.self (I:Inv X pins σ H s) {k:Nat} {x y:V} {b:Bool} (h:EqH X.K H k x y b) (e:x=y):b=true:=by
 induction h with
 | flat hx hy=>subst e;exact dF hx
 | @lst k p q xs ys f hp hq hl he ih=>
  injection e with e
  subst e
  have:=I.list_inj hp hq
  subst this
  refine Ut fun j hj=>?_
  exact ih j xs[j] xs[j] (List.getElem?_eq_getElem hj) (List.getElem?_eq_getElem hj) rfl
 | lstN hp hq hl=>
  injection e with e
  subst e
  have:=I.list_inj hp hq
  subst this
  exact absurd rfl hl
 | @tup k p q xs ys f hp hq he ih=>
  injection e with e
  subst e
  have:=I.tuple_inj hp hq
  subst this
  rw [Bool.and_eq_true]
  refine ⟨Ut fun j hj=>?_,by simp⟩
  have hj':j < xs.length:=by omega
  exact ih j xs[j] xs[j] (List.getElem?_eq_getElem hj') (List.getElem?_eq_getElem hj') rfl
theorem zw (A:Around):A.in1.units=A.units + 1:=rfl
theorem SG (I:Inv X pins σ H s) {k:Nat} {x y:V} {b:Bool} (h:EqH X.K H k x y b):∀ (A:Around) (v u:Value),A.units + k < cLine→Ed x v→Ed y u →
  SeqAt.EqAt A s v u b∧(∀ p q,x=.ref p→y=.ref q→SeqAt.RcAt A s v u b):=by
 induction h with
 | flat hx hy=>
  intro A v u hu rx ry
  refine ⟨sI rx ry hx hy,fun p q e _=>?_⟩
  subst e
  cases hx
 | @lst k p q xs ys f hp hq hl he ih=>
  intro A v u hu rx ry
  cases rx
  cases ry
  obtain ⟨its,r,pl,hz⟩:=I.list hp
  obtain ⟨jts,r',pl',hz'⟩:=I.list hq
  have l1:=r.length
  have l2:=r'.length
  have rc:SeqAt.RcAt A s (.ref p) (.ref q) ((List.range xs.length).all f):=by
   have:=SeqAt.RcAt.lists (A:=A) (e:=f) pl.isList pl'.isList (by simp only [List.size_toArray];omega) (by omega) fun j h1 h2=>by
    simp only [List.size_toArray] at h1 h2
    have hj:j < xs.length:=by omega
    have hj':j < ys.length:=by omega
    obtain ⟨a,ha,ra⟩:=r.get (List.getElem?_eq_getElem hj)
    obtain ⟨c,hc,rc⟩:=r'.get (List.getElem?_eq_getElem hj')
    have ea:its.toArray[j]=a:=by
     have:=List.getElem?_eq_getElem h1
     rw [ha] at this
     simpa using (Option.some.inj this).symm
    have ec:jts.toArray[j]=c:=by
     have:=List.getElem?_eq_getElem h2
     rw [hc] at this
     simpa using (Option.some.inj this).symm
    rw [ea,ec]
    exact (ih j _ _ (List.getElem?_eq_getElem hj) (List.getElem?_eq_getElem hj') A.in1 a c (by rw [zw];omega) ra rc).1
   rwa [List.size_toArray,← l1] at this
  refine ⟨?_,fun _ _ _ _=>rc⟩
  by_cases hne:p=q
  ·have hb:=(EqH.lst hp hq hl he).self I (congrArg V.ref hne)
   rw [hb,hne]
   exact SeqAt.EqAt.same _
  ·exact SeqAt.EqAt.of_refs hne rc
 | @lstN k p q xs ys hp hq hl=>
  intro A v u hu rx ry
  cases rx
  cases ry
  obtain ⟨its,r,pl,hz⟩:=I.list hp
  obtain ⟨jts,r',pl',hz'⟩:=I.list hq
  have l1:=r.length
  have l2:=r'.length
  have rc:SeqAt.RcAt A s (.ref p) (.ref q) false:=SeqAt.RcAt.lists_lengths pl.isList pl'.isList (by simp only [List.size_toArray,bne_iff_ne,ne_eq];omega) (by omega)
  refine ⟨SeqAt.EqAt.of_refs (fun e=>hl ?_) rc,fun _ _ _ _=>rc⟩
  subst e
  rw [I.list_inj hp hq]
 | @tup k p q xs ys f hp hq he ih=>
  intro A v u hu rx ry
  cases rx
  cases ry
  obtain ⟨its,r,pl,hz⟩:=I.tuple hp
  obtain ⟨jts,r',pl',hz'⟩:=I.tuple hq
  have l1:=r.length
  have l2:=r'.length
  have rc:SeqAt.RcAt A s (.ref p) (.ref q) ((List.range (min xs.length ys.length)).all f && xs.length == ys.length):=by
   have:=SeqAt.RcAt.tuples (A:=A) (e:=f) pl pl' (by omega) fun j h1 h2=>by
    simp only [List.size_toArray] at h1 h2
    have hj:j < xs.length:=by omega
    have hj':j < ys.length:=by omega
    obtain ⟨a,ha,ra⟩:=r.get (List.getElem?_eq_getElem hj)
    obtain ⟨c,hc,rc⟩:=r'.get (List.getElem?_eq_getElem hj')
    have ea:its.toArray[j]=a:=by
     have:=List.getElem?_eq_getElem h1
     rw [ha] at this
     simpa using (Option.some.inj this).symm
    have ec:jts.toArray[j]=c:=by
     have:=List.getElem?_eq_getElem h2
     rw [hc] at this
     simpa using (Option.some.inj this).symm
    rw [ea,ec]
    exact (ih j _ _ (List.getElem?_eq_getElem hj) (List.getElem?_eq_getElem hj') A.in1 a c (by rw [zw];omega) ra rc).1
   rwa [List.size_toArray,List.size_toArray,← l1,← l2] at this
  refine ⟨?_,fun _ _ _ _=>rc⟩
  by_cases hne:p=q
  ·have hb:=(EqH.tup hp hq he).self I (congrArg V.ref hne)
   rw [hb,hne]
   exact SeqAt.EqAt.same _
  ·exact SeqAt.EqAt.of_refs hne rc
end
section
variable {X:Cx} {pins:List (Addr × Obj)} {σ:St} {H:Hp} {s:Shared}
end
section
variable {X:Cx}
noncomputable def FP (K:PySem.W.Frag):R2:=fun x y H Q=>∃ p q b,x=.ref p∧y=.ref q∧EqH K H 8 (.ref p) (.ref q) b∧Q (.bl (!b)) H
noncomputable def ZO (K:PySem.W.Frag):R2:=fun x y H Q=>∃ p q b,x=.ref p∧y=.ref q∧EqH K H 8 (.ref p) (.ref q) b∧Q (.bl b) H
theorem rH (hU:X.A.units + 64 < cLine):OpR X (compareOp .Eq) (ZO X.K):=by
 intro pins s σ H x y v u Q I rx ry h
 obtain ⟨p,q,b,rfl,rfl,hE,q'⟩:=h
 exact (SG I hE X.A v u (by omega) rx ry).2 p q rfl rfl _ _ _ _ ⟨.bl b,H,I,rfl,q'⟩
end
theorem EqH.mono {K:PySem.W.Frag} {H:Hp} {j k:Nat} {x y:V} {b:Bool} (h:EqH K H j x y b):j ≤ k→EqH K H k x y b:=by
 induction h generalizing k with
 | flat hx hy=>exact fun _=>.flat hx hy
 | lst hp hq hl he ih=>
  intro hk
  obtain ⟨m,rfl⟩:∃ m,k=m + 1:=⟨k - 1,by omega⟩
  exact .lst hp hq hl fun j x y h1 h2=>ih j x y h1 h2 (by omega)
 | lstN hp hq hl=>
  intro hk
  obtain ⟨m,rfl⟩:∃ m,k=m + 1:=⟨k - 1,by omega⟩
  exact .lstN hp hq hl
 | tup hp hq he ih=>
  intro hk
  obtain ⟨m,rfl⟩:∃ m,k=m + 1:=⟨k - 1,by omega⟩
  exact .tup hp hq fun j x y h1 h2=>ih j x y h1 h2 (by omega)
noncomputable def xO:V→V→Bool
 | .int _,.int _=>true
 | .str _,.str _=>true
 | .bl _,.bl _=>true
 | .non,.non=>true
 | _,_=>false
theorem Hw {x y:V} (h:xO x y=true):rj x=true∧rj y=true∧eqV x y=decide (x=y):=by
 cases x <;> cases y <;> first | (exfalso;simp [xO] at h;done) | (refine ⟨rfl,rfl,?_⟩;rfl) | (refine ⟨rfl,rfl,?_⟩;rw [Bool.eq_iff_iff];simp [eqV];done)
theorem EqH.flats {K:PySem.W.Frag} {H:Hp} {k:Nat} {p q:Addr} {xs ys:List V} (hp:SqL K H p xs) (hq:SqL K H q ys) (h:∀ x ∈ xs,∀ y ∈ ys,xO x y=true):EqH K H (k + 1) (.ref p) (.ref q) (decide (xs=ys)):=by
 by_cases hl:xs.length=ys.length
 ·have hd:decide (xs=ys)=(List.range xs.length).all fun j=>eqV (xs.getD j .non) (ys.getD j .non):=by
   rw [Bool.eq_iff_iff,decide_eq_true_eq,List.all_eq_true]
   constructor
   ·rintro rfl j hj
    have hj':=List.mem_range.mp hj
    have hm:xs.getD j .non ∈ xs:=by rw [List.getD_eq_getElem?_getD,List.getElem?_eq_getElem hj'];exact List.getElem_mem hj'
    rw [(Hw (h _ hm _ hm)).2.2,decide_eq_true rfl]
   ·intro z
    refine List.ext_getElem hl fun j h1 h2=>?_
    have:=z j (List.mem_range.mpr h1)
    rw [List.getD_eq_getElem?_getD,List.getD_eq_getElem?_getD,List.getElem?_eq_getElem h1,List.getElem?_eq_getElem h2] at this
    have w:eqV xs[j] ys[j]=true:=this
    rw [(Hw (h _ (List.getElem_mem h1) _ (List.getElem_mem h2))).2.2,decide_eq_true_eq] at w
    exact w
  rw [hd]
  refine .lst hp hq hl fun j x y h1 h2=>?_
  have e:=Hw (h x (List.mem_of_getElem? h1) y (List.mem_of_getElem? h2))
  rw [List.getD_eq_getElem?_getD,List.getD_eq_getElem?_getD,h1,h2]
  exact .flat e.1 e.2.1
 ·rw [decide_eq_false (fun z=>hl (by rw [z]))]
  exact .lstN hp hq hl
end L2
namespace L2
open PySem PySem.Spec PyProof.Rows PySem.Builtin PySem.Builtin.ObjectAttr
theorem XH {H:Hp} {a:Addr} {o:HO} (h:H a=some o):upd H a o=H:=by
 funext b
 unfold upd
 by_cases e:b=a
 ·rw [if_pos e,e,h]
 ·rw [if_neg e]
noncomputable abbrev bmV:List Value:=[.type "ValueError",.type "Exception",.type "BaseException",.type "object"]
noncomputable def qt (K:PySem.W.Frag) (C fI:Addr):Bool:=
 match K.lookup C with
 | some ⟨.type "type",_,.cls cd,sl⟩=>
  match cd.mro,sl.toList with
  | .ref D :: tl,[_,_,_,_,some (.builtin n),_]=>
   (D == C) && (n == "ValueError.__new__") && (cd.hasDel == false) && (cd.hasDict == true) && PySem.W.tailIn K bmV tl && PySem.W.nsOkIn K cd.ns && (PySem.W.nsIn K cd.ns "__init__" == some (some (.ref fI)))
  | _,_=>false
 | _=>false
theorem UK {K:PySem.W.Frag} {h:Heap} {N:Addr} {mN:Str→Option Value} {x:Str} {v:Value} (KX:K.In h) (G:h.Ns N mN) (e:PySem.W.nsIn K N x=some (some v)):mN x=some v:=by
 obtain ⟨ob,rows,ep,e1,e2,_,look⟩:=G
 unfold PySem.W.nsIn at e
 split at e
 ·rename_i ho
  have z:=KX _ _ ho
  rw [e1] at z
  cases z
  cases e2
  split at e
  ·rename_i en he
   cases e
   rw [← look]
   unfold nsFind findBy
   rw [← Array.find?_toList,he];rfl
  ·split at e <;> cases e
 ·cases e
theorem iu {K:PySem.W.Frag} {h:Heap} {C fI:Addr} (KX:K.In h) (e:qt K C fI=true) :
  ∃ tl N nm q bs sn sub ab co dd k0 k1 k2 k3 k5 mN,h.get? C=some (excClassObj nm q C N bs tl true sn sub ab co dd k0 k1 k2 k3 k5 "ValueError.__new__")∧h.Ns N mN∧mN "__init__"=some (.ref fI)∧OwnTail h bmV tl:=by
 unfold qt at e
 split at e
 ·rename_i dd cd sl ho
  split at e
  ·rename_i D tl k0 k1 k2 k3 n k5 hm hs
   simp only [Bool.and_eq_true,beq_iff_eq] at e
   obtain ⟨⟨⟨⟨⟨⟨e1,e2⟩,e3⟩,e4⟩,e5⟩,e6⟩,e7⟩:=e
   obtain ⟨nm,bs,mro,ns,qn,hd,sn,sub,ab,co,del⟩:=cd
   simp only at hm e3 e4 e6 e7
   subst hm e1 e2 e3 e4
   obtain ⟨l⟩:=sl
   simp only at hs
   subst hs
   have G:h.Ns ns (h.nsMap ns):=.of_isNs (PySem.W.isNs_of_in KX e6)
   exact ⟨tl,ns,nm,qn,bs,sn,sub,ab,co,dd,k0,k1,k2,k3,k5,h.nsMap ns,KX _ _ ho,G,UK KX G e7,PySem.W.tail_of_in KX e5⟩
  ·cases e
 ·cases e
section
variable {P:Program} {w:World} {A:Around} {h:Heap} {g:Array GenState} {d:Drawn} {t:Nat} {os:OsState} {K:PySem.W.Frag} {C fI:Addr} {R:Result→Shared→Prop}
theorem gB {us:List Value} (KX:K.In h) (e:qt K C fI=true) (hf:PySem.W.typeIn K (.ref fI)=some (.type "function")) (hz:us.length ≤ sizeLine)
  (hq:∀ h' x,h.objs.size ≤ x→Heap.MadeExcOf h h' x (.ref C) us→codeAny (model P w) (A.under (.builtin "type.__call__" ⟨.ref C :: us,[]⟩)) (.call (.ref fI) ⟨.ref x :: us,[]⟩) (PySem.W.InitBack x R) ⟨h',g,d,t,os⟩) :
  codeAny (model P w) A (.call (.ref C) ⟨us,[]⟩) R ⟨h,g,d,t,os⟩:=by
 obtain ⟨tl,N,nm,q,bs,sn,sub,ab,co,dd,k0,k1,k2,k3,k5,mN,hC,hN,hi,T⟩:=iu KX e
 have F:=PySem.F.excBase_ValueError
 have f1:=tc_lookup
 have f2:=tc_bind (.ref C)
 have ty:(⟨h,g,d,t,os⟩:Shared).TypeIs (.ref C) "type" := ⟨_,hC,rfl⟩
 refine codeAny_of_tree ?_
 show wpAny _ _ (callAny (.ref C) _) _ _ _
 repeat (any_goals (first | assumption | with_reducible refine wpAny_loadPart_at hC ?_ | wp_step))
 refine ⟨rfl,?_⟩
 refine codeAny_call_builtin_at (Code.quiet_builtin _ (by decide +kernel)) entry_typeCall (wpAny_check_type_call_sub hC ?_)
 repeat (first | with_reducible refine wpAny_loadPart_at hC ?_ | with_reducible refine wpAny_madeBy_exc hC ?_ | wp_step)
 refine codeAny_call_builtin_code (Code.quiet_builtin _ F.quiet) (wpAny_check_new_subT F T hC ?_)
 refine codeAny_exc_new_subT (rest:=us) F T hC ?_ hz
 show wpAny _ _ _ _ _ _
 generalize hh:(h.push { cls:=.type "tuple",data:=.seq us.toArray }).push { cls:=.ref C,data:=.fields #[.ref h.objs.size,.none,.none,.none,.bool false,.none] }=h2
 have k:∀ b o,h.get? b=some o→h2.get? b=some o:=fun b o z=>by rw [← hh];exact Heap.get?_push_of_some _ (Heap.get?_push_of_some _ z)
 have hx:h2.get? (h.objs.size + 1)=some { cls:=.ref C,data:=.fields #[.ref h.objs.size,.none,.none,.none,.bool false,.none] }:=by rw [← hh];heap_get
 have ht:h2.get? h.objs.size=some { cls:=.type "tuple",data:=.seq us.toArray }:=by rw [← hh];exact Heap.get?_push_of_some _ (Heap.get?_push_at rfl rfl)
 have M:Heap.MadeExcOf h h2 (h.objs.size + 1) (.ref C) us:=⟨k,Heap.get?_none_of_le (Nat.le_succ _),h.objs.size,hx,Heap.get?_none_of_le (Nat.le_refl _),ht⟩
 have cC:(Value.ref C :: tl).contains (.ref C)=true:=by simp
 unfold isInstance
 repeat (first | with_reducible refine wpAny_loadPart_at hx ?_ | wp_step)
 refine wpAny_isSubtype_exc (k _ _ hC) ?_
 rw [cC]
 repeat wp_step
 show wpAny _ _ (typeLookup (.ref C) _) _ _ _
 refine wpAny_typeLookup_tail (k _ _ hC) (hN.keeps k) (T.keeps k) F.mroIs F.init.lookup ?_
 rw [hi]
 refine wpAny_holding (wpAny_bind ((PySem.W.bind_fn (KX.keeps k) _ hf).here (wpAny_bind (wpAny_call ?_))))
 refine codeAny_mono (hq h2 _ (Nat.le_succ _) M) fun r s' z=>?_
 rcases r with e | (v | _ | _ | _) <;> first | exact z | exact z.elim | skip
 obtain ⟨rfl,z⟩:=z
 exact wpAny_pure (wpAny_pure z)
end
noncomputable def XC:List Value→Bool
 | .ref _ :: r=>XC r
 | l=>l == bmV
theorem Kj (self:Value):refuseLoop self "__setattr__" bmV=pure ():=by kernel_rfl
theorem uo (self:Value):∀ {l:List Value},XC l=true→refuseLoop self "__setattr__" l=pure ()
 | .ref c :: r,e=>by rw [refuseLoop_ref];exact uo self (l:=r) e
 | [],e=>by cases e
 | .type n :: r,e=>by rw [show Value.type n :: r=bmV from beq_iff_eq.mp e];exact Kj self
 | .none :: r,e=>by rw [show Value.none :: r=bmV from beq_iff_eq.mp e];exact Kj self
 | .bool b :: r,e=>by rw [show Value.bool b :: r=bmV from beq_iff_eq.mp e];exact Kj self
 | .int b c :: r,e=>by rw [show Value.int b c :: r=bmV from beq_iff_eq.mp e];exact Kj self
 | .str b c :: r,e=>by rw [show Value.str b c :: r=bmV from beq_iff_eq.mp e];exact Kj self
 | .bytes b c :: r,e=>by rw [show Value.bytes b c :: r=bmV from beq_iff_eq.mp e];exact Kj self
 | .float b c :: r,e=>by rw [show Value.float b c :: r=bmV from beq_iff_eq.mp e];exact Kj self
 | .builtin b :: r,e=>by rw [show Value.builtin b :: r=bmV from beq_iff_eq.mp e];exact Kj self
theorem Xm (T:String) (h:bmV.contains (.type T)=true):∀ {l:List Value},XC l=true→l.contains (.type T)=true
 | .ref c :: r,e=>by rw [List.contains_cons,Xm T h (l:=r) e,Bool.or_true]
 | [],e=>by cases e
 | .type n :: r,e=>by rw [show Value.type n :: r=bmV from beq_iff_eq.mp e];exact h
 | .none :: r,e=>by rw [show Value.none :: r=bmV from beq_iff_eq.mp e];exact h
 | .bool b :: r,e=>by rw [show Value.bool b :: r=bmV from beq_iff_eq.mp e];exact h
 | .int b c :: r,e=>by rw [show Value.int b c :: r=bmV from beq_iff_eq.mp e];exact h
 | .str b c :: r,e=>by rw [show Value.str b c :: r=bmV from beq_iff_eq.mp e];exact h
 | .bytes b c :: r,e=>by rw [show Value.bytes b c :: r=bmV from beq_iff_eq.mp e];exact h
 | .float b c :: r,e=>by rw [show Value.float b c :: r=bmV from beq_iff_eq.mp e];exact h
 | .builtin b :: r,e=>by rw [show Value.builtin b :: r=bmV from beq_iff_eq.mp e];exact h
structure cq (K:PySem.W.Frag) (C:Addr):Prop where
 hd:PySem.W.hasDictIn K C=true
 ov:((PySem.W.clsIn K C).any fun cd=>XC cd.mro)=true
 sa:PySem.W.findIn K (.ref C) "__setattr__"=some (some (.builtin "object.__setattr__"))
 ga:PySem.W.findIn K (.ref C) "__getattribute__"=some (some (.builtin "BaseException.__getattribute__"))
 gt:PySem.W.findIn K (.ref C) "__getattr__"=some none
 ex:∃ fI,qt K C fI=true
noncomputable def XF (x C:Addr) (od:Option Addr):Heap→Prop:=fun h=>∃ vs sl,h.get? x=some ⟨.ref C,od,.fields vs,sl⟩∧1 < vs.size∧vs[1]? = some .none
noncomputable def XD (dx:Addr) (fs:List (Str × V)):Heap→Prop:=fun h=>∃ mA,h.Ns1 dx mA∧(∀ f,Ar (fs.lookup f) (mA f))∧PySem.Within mA (fs.map (·.1))
theorem XF.at {x C:Addr} {od:Option Addr} {h h':Heap} (z:XF x C od h) (k:∀ o,h.get? x=some o→h'.get? x=some o):XF x C od h':=let ⟨vs,sl,e,r⟩:=z;⟨vs,sl,k _ e,r⟩
theorem XD.at {dx:Addr} {fs:List (Str × V)} {h h':Heap} (z:XD dx fs h) (k:∀ o,h.get? dx=some o→h'.get? dx=some o):XD dx fs h':=let ⟨mA,e,r⟩:=z;⟨mA,e.at k,r⟩
theorem XF.ok {P:Program} {w:World} {H:Hp} {h:Heap} {x C:Addr} {od:Option Addr} (z:XF x C od h):Ad P w H h x (.ext (XF x C od)):=by
 obtain ⟨vs,sl,e,r⟩:=id z
 exact ⟨z,⟨_,e⟩,fun h1 h2 q k=>q.at k⟩
theorem XD.ok {P:Program} {w:World} {H:Hp} {h:Heap} {dx:Addr} {fs:List (Str × V)} (z:XD dx fs h):Ad P w H h dx (.ext (XD dx fs)):=by
 obtain ⟨mA,⟨o,es,ep,e,_⟩,_⟩:=id z
 exact ⟨z,⟨_,e⟩,fun h1 h2 q k=>q.at k⟩
section
variable {prog:Program} {w:World} {A:Around} {E:Value→Shared→Prop} {K:PySem.W.Frag} {C x:Addr} {s:Shared} {R:Result→Shared→Prop}
theorem OO {ox:Obj} {od:Option Obj} {name:Str} {tk:Tok} {v:Value} (KX:K.In s.heap) (J:PySem.W.InstAt s.heap x ox C od) (c:cq K C) (ht:Cb K C name)
  (h:wpAny (model prog w) A.in1 (storeInOwnDict (.ref x) (.ref C) (.str name tk) name v false)
   (fun fin s'=>match fin with | .done f=>R (.ok f) s' | .again c'=>c'.quiet=true∧codeAny (model prog w) A c' R s') (fun e s'=>R (.error e) s') s) :
  codeAny (model prog w) A (.call (.builtin "object.__setattr__") ⟨[.ref x,.str name tk,v],[]⟩) R s:=by
 have G:=PySem.F.store_object
 obtain ⟨cd,hc,ho⟩:=PySem.W.any_some c.ov
 have ne:cd.mro.isEmpty=false:=by
  cases q:cd.mro with
  | nil=>rw [q] at ho;cases ho
  | cons _ _=>rfl
 have sub:PySem.W.Looks (model prog w) s.heap (isInstance (.ref x) (.type "object")) true:=
  J.type.andThen (PySem.W.looks_mroIn KX (by unfold PySem.W.mroIn;rw [hc,Option.bind_some,if_neg (by rw [ne];decide),Xm "object" (by decide) ho]))
 refine codeAny_call_builtin G.slot.plain G.entry (@PySem.W.check_slot (model prog w) _ _ s "object.__setattr__" "object" "__setattr__" (.ref x) [.str name tk,v] [] _ G.kind G.split sub (G.args (.ref x) (.str name tk) v) ?_)
 have hm:PySem.W.Looks (model prog w) s.heap (mroOf (.ref C)) cd.mro:=(PySem.W.looks_clsIn KX hc).andThen .now
 rw [PySem.W.osa_eq,refuse_eq]
 refine wpAny_bind (wpAny_bind (J.type.here (wpAny_bind (hm.here ?_))))
 rw [uo _ ho]
 exact wpAny_pure (wpAny_bind (J.type.here (wpAny_bind ((PySem.W.looks_findIn KX ht).here (wpAny_bind (wpAny_pure h))))))
end
section
variable {X:Cx} {pins:List (Addr × Obj)} {σ:St} {H:Hp} {s:Shared} {x C dx:Addr} {fs:List (Str × V)} {f:Str} {y:V} {u:Value} {A:Around} {E:Value→Shared→Prop} {Q:Unit→Shared→Prop}
theorem NG (I:Inv X pins σ H s) (e:H x=some (.ext (XF x C none))) (c:cq X.K C) (n:Cb X.K C f) (ry:Ed y u)
  (h:∀ dx s',H dx=none→dx ≠ x→Inv X pins σ (upd (upd H x (.ext (XF x C (some dx)))) dx (.ext (XD dx [(f,y)]))) s'→Q () s'):wpAny (model X.prog X.w) A (setAttr (.ref x) f u) Q E s:=by
 obtain ⟨vs,sl,hx,z1,z2⟩:=(show Ad X.prog X.w H s.heap x (.ext (XF x C none)) from I.hok _ _ e).1
 have J:PySem.W.InstAt s.heap x ⟨.ref C,none,.fields vs,sl⟩ C none:=⟨hx,rfl,rfl,True.intro⟩
 refine PySem.W.set_plain I.kIn J c.sa (OO (s:={ s with toks:=s.toks + 1 }) I.kIn J c n ?_)
 obtain ⟨cd,hc,hd'⟩:=PySem.W.any_some c.hd
 refine wpAny_bind (wpAny_pure (wpAny_bind (wpAny_bind (wpAny_loadPart hx (wpAny_bind (PySem.W.Looks.here (s:={ s with toks:=s.toks + 1 }) (PySem.W.looks_clsIn I.kIn hc) ?_))))))
 rw [hd']
 show wpAny _ _ (alloc PySem.W.emptyDict >>= fun d=>(update x fun o=>{ o with dict:=some d }) >>= fun _=>dictMade (.ref C) x d) _ _ _
 refine wpAny_bind (wpAny_alloc (wpAny_bind ?_))
 have hx1:(s.heap.push PySem.W.emptyDict).get? x=some ⟨.ref C,none,.fields vs,sl⟩:=Heap.get?_push_of_some _ hx
 have lx:x < s.heap.objs.size:=Heap.lt_size hx
 refine wpAny_update hx1 (wpAny_pure ?_)
 have e1:(s.heap.push PySem.W.emptyDict).get? s.heap.objs.size=some PySem.W.emptyDict:=Heap.get?_push_size s.heap rfl
 have e3:(s.heap.push PySem.W.emptyDict).Ns s.heap.objs.size (fun _=>none):=⟨PySem.W.emptyDict,#[],_,e1,rfl,(fun e he=>absurd he (by simp)),fun _=>rfl⟩
 generalize hg2:(s.heap.push PySem.W.emptyDict).update x (fun o=>{ o with dict:=some s.heap.objs.size })=h2
 have nx:s.heap.objs.size ≠ x:=Nat.ne_of_gt lx
 have k2:∀ b,b ≠ x→h2.get? b=(s.heap.push PySem.W.emptyDict).get? b:=fun b hb=>by rw [← hg2];exact Heap.get?_update_other _ _ (Ne.symm hb)
 have x2:h2.get? x=some ⟨.ref C,some s.heap.objs.size,.fields vs,sl⟩:=by rw [← hg2];exact Heap.get?_update_self _ hx1 rfl
 have n2:h2.Ns1 s.heap.objs.size (fun _=>none):=(Heap.Ns1.of_empty e3).at fun o q=>(k2 _ nx).trans q
 refine wpAny_bind (wpAny_pure (wpAny_bind ?_))
 refine wpAny_nsSet1 (s:={ s with heap:=h2,toks:=s.toks + 1 }) n2 fun h3 n3 s3=>?_
 have wi:PySem.Within (fun a=>if a=f then some u else none) [f]:=PySem.Within.cons f u (fun a ha=>absurd rfl ha)
 obtain ⟨oD,esD,epD,hoD,hdD,hcD⟩:=n3.count wi
 refine wpAny_bind (wpAny_lookBehind hoD (by rw [hdD];exact pastItsLine_dict (Nat.le_trans hcD (by rw [sizeLine_eq];show 1 ≤ _;decide))) ?_)
 refine wpAny_pure (h s.heap.objs.size _ (I.hok.fresh (Nat.le_refl _)) nx ?_)
 have k3:∀ b o,b ≠ x→s.heap.get? b=some o→h3.get? b=some o:=fun b o hb q=>
  (s3.2 b (fun z=>by rw [z] at q;exact absurd (Heap.lt_size q) (Nat.lt_irrefl _))).trans ((k2 b hb).trans (Heap.get?_push_of_some _ q))
 have x3:h3.get? x=some ⟨.ref C,some s.heap.objs.size,.fields vs,sl⟩:=(s3.2 x (Ne.symm nx)).trans x2
 generalize hgA:s.heap.update x (fun o=>{ o with dict:=some s.heap.objs.size })=hA
 have kA:∀ b,b ≠ x→hA.get? b=s.heap.get? b:=fun b hb=>by rw [← hgA];exact Heap.get?_update_other _ _ (Ne.symm hb)
 have xA:hA.get? x=some ⟨.ref C,some s.heap.objs.size,.fields vs,sl⟩:=by rw [← hgA];exact Heap.get?_update_self _ hx rfl
 have szA:hA.objs.size=s.heap.objs.size:=by rw [← hgA];exact Heap.size_update _ _ _
 have IA:=I.write (x:=x) (e:=x) (o:=.ext (XF x C (some s.heap.objs.size))) (h':=hA) (t':=s.toks) (by rw [e];exact True.intro) (.inl rfl) (fun b o hb q=>(kA b hb).trans q) ⟨_,xA⟩ (XF.ok ⟨vs,sl,xA,z1,z2⟩)
 refine IA.laid (a:=s.heap.objs.size) (h':=h3) (fun b o q=>?_) (Nat.le_of_eq szA) (XD.ok ⟨_,n3,fun g=>?_,wi⟩)
 ·by_cases hb:b=x
  ·subst hb;rw [xA] at q;rw [x3,← q]
  ·rw [kA b hb] at q;exact k3 b o hb q
 ·show Ar (List.lookup g [(f,y)]) (if g=f then some u else none)
  by_cases hq:g=f
  ·rw [if_pos hq,hq,List.lookup_cons_self];exact ry
  ·rw [if_neg hq,List.lookup_cons,beq_false_of_ne hq];exact True.intro
theorem qE (I:Inv X pins σ H s) (e:H x=some (.ext (XF x C (some dx)))) (ed:H dx=some (.ext (XD dx fs))) (c:cq X.K C) (n:Cb X.K C f) (hl:fs.length < 1000) (ry:Ed y u)
  (h:∀ s',Inv X pins σ (upd H dx (.ext (XD dx (rg f y fs)))) s'→Q () s'):wpAny (model X.prog X.w) A (setAttr (.ref x) f u) Q E s:=by
 obtain ⟨vs,sl,hx,z1,z2⟩:=(show Ad X.prog X.w H s.heap x (.ext (XF x C (some dx))) from I.hok _ _ e).1
 obtain ⟨mA,n1,r,wi⟩:=(show Ad X.prog X.w H s.heap dx (.ext (XD dx fs)) from I.hok _ _ ed).1
 obtain ⟨od,ho,hlk⟩:=Mm n1
 have J:PySem.W.InstAt s.heap x ⟨.ref C,some dx,.fields vs,sl⟩ C (some od):=⟨hx,rfl,rfl,ho⟩
 refine PySem.W.set_plain I.kIn J c.sa (OO (s:={ s with toks:=s.toks + 1 }) I.kIn J c n ?_)
 obtain ⟨cd,hc,hd'⟩:=PySem.W.any_some c.hd
 refine wpAny_bind (wpAny_pure (wpAny_bind (wpAny_bind (wpAny_loadPart hx (wpAny_bind (PySem.W.Looks.here (s:={ s with toks:=s.toks + 1 }) (PySem.W.looks_clsIn I.kIn hc) ?_))))))
 rw [hd']
 refine wpAny_pure (a:=some dx) (wpAny_bind (wpAny_pure (wpAny_bind ?_)))
 refine wpAny_nsSet1 (s:={ s with toks:=s.toks + 1 }) n1 fun h3 n3 s3=>?_
 obtain ⟨oD,esD,epD,hoD,hdD,hcD⟩:=n3.count (PySem.Within.cons f u wi)
 refine wpAny_bind (wpAny_lookBehind hoD (by rw [hdD];exact pastItsLine_dict (Nat.le_trans hcD (by rw [List.length_cons,List.length_map,sizeLine_eq];omega))) ?_)
 refine wpAny_pure (h _ ?_)
 refine I.write (x:=dx) (e:=dx) (by rw [ed];exact True.intro) (.inl rfl) (fun b o hb q=>(s3.2 b hb).trans q) ⟨_,hoD⟩ (XD.ok ⟨_,n3,fun g=>?_,fun g hg=>?_⟩)
 ·show Ar ((rg f y fs).lookup g) (if g=f then some u else mA g)
  rw [ol]
  by_cases q:g=f
  ·rw [if_pos q,if_pos q];exact ry
  ·rw [if_neg q,if_neg q];exact r g
 ·by_cases q:g=f
  ·rw [q];exact (Hj f y fs).1
  ·refine (Hj f y fs).2 g (wi g fun z=>hg ?_)
   show (if g=f then some u else mA g)=none
   rw [if_neg q];exact z
noncomputable def XA (x C:Addr) (od:Option Addr):Heap→Prop:=fun h=>∃ vs sl,h.get? x=some ⟨.ref C,od,.fields vs,sl⟩
theorem XA.at {x C:Addr} {od:Option Addr} {h h':Heap} (z:XA x C od h) (k:∀ o,h.get? x=some o→h'.get? x=some o):XA x C od h':=let ⟨vs,sl,e⟩:=z;⟨vs,sl,k _ e⟩
theorem XA.ok {P:Program} {w:World} {H:Hp} {h:Heap} {x C:Addr} {od:Option Addr} (z:XA x C od h):Ad P w H h x (.ext (XA x C od)):=by
 obtain ⟨vs,sl,e⟩:=id z
 exact ⟨z,⟨_,e⟩,fun h1 h2 q k=>q.at k⟩
theorem zP {b:Bool} {Q:Value→Shared→Prop} (I:Inv X pins σ H s) (e:H x=some (.ext (XA x C (some dx)))) (ed:H dx=some (.ext (XD dx fs))) (c:cq X.K C) (n:Cb X.K C f) (l:fs.lookup f=some y)
  (h:∀ u s',Inv X pins σ H s'→Ed y u→Q u s'):wpAny (model X.prog X.w) A (getAttr (.ref x) f b) Q E s:=by
 obtain ⟨vs,sl,hx⟩:=(show Ad X.prog X.w H s.heap x (.ext (XA x C (some dx))) from I.hok _ _ e).1
 obtain ⟨mA,n1,r,wi⟩:=(show Ad X.prog X.w H s.heap dx (.ext (XD dx fs)) from I.hok _ _ ed).1
 obtain ⟨od,ho,hlk⟩:=Mm n1
 obtain ⟨u,hu,ru⟩:=Ar.some_of (v:=y) (o:=mA f) (by rw [← l];exact r f)
 have J:PySem.W.InstAt s.heap x ⟨.ref C,some dx,.fields vs,sl⟩ C (some od):=⟨hx,rfl,rfl,ho⟩
 have fin:=h u _ (I.tok (s.toks + 1)) ru
 have KX:=I.kIn
 clear h
 obtain ⟨cd,hc,hd'⟩:=PySem.W.any_some c.hd
 obtain ⟨cd',hc',hov⟩:=PySem.W.any_some c.ov
 rw [hc] at hc'
 cases hc'
 have hh:=fw ru
 obtain ⟨hp,g,d,t,os⟩:=s
 have L0:=J.type (M:=model X.prog X.w)
 have L1:=PySem.W.looks_findIn (M:=model X.prog X.w) KX c.ga
 have L2:=PySem.W.looks_findIn (M:=model X.prog X.w) KX c.gt
 have L3:=PySem.W.looks_findIn (M:=model X.prog X.w) KX n
 have L4:=PySem.W.looks_own (M:=model X.prog X.w) (name:=f) (r:=some u) KX J hc (by unfold PySem.W.ownOf;rw [if_pos hd'];show PySem.W.lookIn f od=_;rw [hlk,hu])
 have FB:=PySem.F.excAttr_ValueError
 have f3:=FB.ga.bind (.ref x)
 have hx0:(b && onTheHeap (Value.builtin "BaseException.__getattribute__"))=false:=by cases b <;> rfl
 have hx2:(Value.builtin "BaseException.__getattribute__" == Value.builtin "object.__getattribute__")=false:=by decide +kernel
 have hx1:(onTheHeap (Value.ref C) && Value.builtin "BaseException.__getattribute__" == Value.builtin "object.__getattribute__")=false:=by rw [hx2];rfl
 unfold getAttr getAttrBy
 refine wpAny_bind (wpAny_mkText (wpAny_holding (wpAny_bind (L0.at (wpAny_bind (L1.at ?_))))))
 dsimp only
 rw [if_neg (by rw [hx1];decide)]
 unfold getAttrByItsOwn
 repeat (any_goals (first | assumption | with_reducible refine PySem.W.Looks.at (by assumption) ?_ | wp_step))
 have ne:cd.mro.isEmpty=false:=by
  cases q:cd.mro with
  | nil=>rw [q] at hov;cases hov
  | cons _ _=>rfl
 have sub:PySem.W.Looks (model X.prog X.w) hp (isInstance (.ref x) (.type "BaseException")) true:=
  L0.andThen (PySem.W.looks_mroIn KX (by unfold PySem.W.mroIn;rw [hc,Option.bind_some,if_neg (by rw [ne];decide),Xm "BaseException" (by decide) hov]))
 refine codeAny_call_builtin FB.ga.plain PySem.F.entry_bexc_ga (@PySem.W.check_slot (model X.prog X.w) _ _ ⟨hp,g,d,t + 1,os⟩ "BaseException.__getattribute__" "BaseException" "__getattribute__" (.ref x) [.str f t] [] _ (by decide +kernel) (by decide +kernel) sub (PySem.F.args_bexc_ga (.ref x) (.str f t)) ?_)
 unfold Builtin.«object.__getattribute__»
 repeat (any_goals (first | assumption | with_reducible refine PySem.W.Looks.at (by assumption) ?_ | wp_step))
 show wpAny _ _ (handedOut u) _ _ _
 rw [PySem.W.handedOut_of hh]
 exact wpAny_pure fin
end
noncomputable abbrev TJ:=St→Hp→(Hp→Prop)→Prop
noncomputable def PJ (X:Cx) (es:List Expr) (n:Nat) (t:TJ):Prop:=
 ∀ (pins:List (Addr × Obj)) (s:Shared) (σ:St) (H:Hp) (Q:Hp→Prop) (acc:Str) (R:Str→Shared→Prop),Inv X pins σ H s→acc.length + n ≤ sizeLine→t σ H Q →
  (∀ out H' s',Inv X pins σ H' s'→out.length ≤ sizeLine→Q H'→R out s')→Joins (model X.prog X.w) X.A X.xe (evalEach es X.env) acc R s
noncomputable def tJ0:TJ:=fun _ H Q=>Q H
noncomputable def tJI (te:TE) (t:TJ):TJ:=fun σ H Q=>te σ H fun v H1=>∃ i,v=.int i∧i.natAbs.log2 < 1920∧t σ H1 Q
noncomputable def tJS (te:TE) (t:TJ):TJ:=fun σ H Q=>te σ H fun v H1=>∃ x,v=.str x∧x.length ≤ 1000∧t σ H1 Q
noncomputable def tJR (te:TE) (t:TJ):TJ:=fun σ H Q=>te σ H fun v H1=>∃ x,v=.str x∧x.length ≤ 1000∧(∀ c ∈ x.cps.toList,c < 16 ^ 8)∧t σ H1 Q
noncomputable def gC (t:TJ):TE:=fun σ H Q=>t σ H fun H1=>∀ y:Str,Q (.str y) H1
section
variable {X:Cx} {e:Expr} {es:List Expr} {n:Nat} {t:TJ} {te:TE} {pos:Pos}
theorem Mv:PJ X [] 0 tJ0:=fun pins s σ H Q acc R I hl q h=>h acc H s I hl q
theorem Pf {c:Str} {k:Nat} (h:PJ X es n t):PJ X (.Constant (.str c) k pos :: es) (n + c.length) t:=fun pins s σ H Q acc R I hl q hR=>by
 show wpAny _ _ _ _ _ _
 refine Calls.Constant_str ⟨c,_,rfl,by rw [strLen_append];omega,h pins _ σ H Q _ R (I.tok _) (by rw [strLen_append];omega) q hR⟩
theorem wy (he:PE X e te) (h:PJ X es n t):PJ X (.FormattedValue e (-1) none pos :: es) (n + 2000) (tJI te t):=fun pins s σ H Q acc R I hl q hR=>by
 show wpAny _ _ _ _ _ _
 refine wpAny_FormattedValue_plain (thn (he pins s σ H _ I q) fun u s1 ⟨v,H1,I1,r,i,ev,hi,q1⟩=>?_)
 subst ev
 obtain ⟨tk,rfl⟩:=(show ∃ tk,u=Value.int i tk from r)
 have hz:=int_text_fits hi
 have hz2:(Str.ofString (toString i)).length ≤ 2000:=by
  have e:=int_text_length_le (k:=1920) (by decide) hi
  rw [PySem.ofString_length];omega
 refine wpAny_formatField_int hi ⟨_,_,rfl,by rw [strLen_append];omega,h pins _ σ H1 Q _ R (I1.tok _) (by rw [strLen_append];omega) q1 hR⟩
theorem yq (he:PE X e te) (h:PJ X es n t):PJ X (.FormattedValue e 114 none pos :: es) (n + 11000) (tJR te t):=fun pins s σ H Q acc R I hl q hR=>by
 show wpAny _ _ _ _ _ _
 refine wpAny_FormattedValue_repr (thn (he pins s σ H _ I q) fun u s1 ⟨v,H1,I1,r,x,ev,hx,hc,q1⟩=>?_)
 subst ev
 obtain ⟨tk,rfl⟩:=(show ∃ tk,u=Value.str x tk from r)
 have hz:=PySem.StrLaws.reprText_len x hc
 refine wpAny_pyReprObj_str ?_ (by rw [sizeLine_eq];omega)
 exact formatField_str (fun t' tk'=>⟨_,_,rfl,by rw [strLen_append];omega,h pins _ σ H1 Q _ R ((I1.tok _).tok _) (by rw [strLen_append];omega) q1 hR⟩) (by rw [sizeLine_eq];omega)
theorem kj {e2:Expr} (h:PJ X (e :: e2 :: es) n t) (hn:n ≤ sizeLine):PE X (.JoinedStr (e :: e2 :: es) pos) (gC t):=by
 intro pins s σ H Q I q
 refine wpAny_JoinedStr (h pins s σ H _ _ _ I (by show 0 + n ≤ _;omega) q fun out H' s' I' hl q'=>⟨hl,?_⟩)
 exact ⟨.str out,H',I'.tok _,⟨_,rfl⟩,q' out⟩
end
structure QO (K:PySem.W.Frag) (L:Addr) (m:Str):Prop where
 rd:PySem.W.readsIn K L (.type "type")=true
 fd:PySem.W.findCls K (.ref L) (.type "type") m=some (.val (.builtin "ValueError.__init__"))
 ga:PySem.W.specialIn K (.ref L) "__getattribute__"=some (some (.builtin "type.__getattribute__"))
noncomputable def yH (K:PySem.W.Frag) (t:TA):TE:=fun σ H Q=>t σ H fun vs H1=>∃ x C od v,vs=[.ref x,v]∧H1 x=some (.ext (XF x C od))∧cq K C∧Q .non H1
section
variable {X:Cx} {L:Addr} {x:Str} {p pos apos:Pos} {e:Expr} {es:List Expr} {t:TA}
theorem rC {pins:List (Addr × Obj)} {σ:St} {H:Hp} {s:Shared} {a C:Addr} {od:Option Addr} {u:Value} {A:Around} {E:Value→Shared→Prop} {Q:Value→Shared→Prop} (I:Inv X pins σ H s) (ea:H a=some (.ext (XF a C od))) (c:cq X.K C)
  (h:∀ s',Inv X pins σ H s'→Q .none s'):wpAny (model X.prog X.w) A (call (.builtin "ValueError.__init__") [.ref a,u]) Q E s:=by
 obtain ⟨vs,sl,hx,z1,z2⟩:=(show Ad X.prog X.w H s.heap a (.ext (XF a C od)) from I.hok _ _ ea).1
 obtain ⟨fI,hfI⟩:=c.ex
 obtain ⟨tl,N,nm,q,bs,sn,sub,ab,co,dd,k0,k1,k2,k3,k5,mN,hC,hN,hi,T⟩:=iu I.kIn hfI
 have F:=PySem.F.excBase_ValueError
 obtain ⟨v0,h0⟩:∃ v0,vs[0]? = some v0:=⟨vs[0]'(by omega),Array.getElem?_eq_getElem (by omega)⟩
 obtain ⟨hh,g,d,tt,os⟩:=s
 refine wpAny_call (codeAny_call_builtin F.init.plain F.initEntry (wpAny_check_init_subT F T hC hx rfl ?_))
 show wpAny _ _ (newTuple [u] >>= fun tp=>(do
  let old ← field (.ref a) 0
  setField (.ref a) 0 tp
  if let .ref _:=old then letGo [old] []) >>= fun _=>ret .none) _ _ _
 have hx1:(hh.push { cls:=.type "tuple",data:=.seq [u].toArray }).get? a=some ⟨.ref C,od,.fields vs,sl⟩:=Heap.get?_push_of_some _ hx
 refine wpAny_bind (wpAny_newTuple (wpAny_bind (wpAny_bind (wpAny_field hx1 rfl h0 (wpAny_bind (wpAny_setField hx1 rfl (by omega) ?_))))))
 have x2:=Heap.get?_update_self (h:=hh.push { cls:=.type "tuple",data:=.seq [u].toArray }) (Obj.mapFields (·.setIfInBounds 0 (.ref hh.objs.size))) hx1 rfl
 have fin:∀ s',s'=(⟨(hh.push { cls:=.type "tuple",data:=.seq [u].toArray }).update a (Obj.mapFields (·.setIfInBounds 0 (.ref hh.objs.size))),g,d,tt,os⟩:Shared)→Q .none s':=by
  rintro s' rfl
  refine h _ ?_
  have I1:Inv X pins σ H ⟨hh.push { cls:=.type "tuple",data:=.seq [u].toArray },g,d,tt,os⟩:=I.kept (t':=tt) fun b o q=>Heap.get?_push_of_some _ q
  have:=I1.write (x:=a) (e:=a) (o:=.ext (XF a C od)) (h':=(hh.push { cls:=.type "tuple",data:=.seq [u].toArray }).update a (Obj.mapFields (·.setIfInBounds 0 (.ref hh.objs.size)))) (t':=tt) (by rw [ea];exact True.intro) (.inl rfl)
   (fun b o hb q=>(Heap.get?_update_other _ _ (Ne.symm hb)).trans q) ⟨_,x2⟩ (XF.ok ⟨vs.setIfInBounds 0 (.ref hh.objs.size),sl,x2,by simpa using z1,by rw [Array.getElem?_setIfInBounds_ne (by decide)];exact z2⟩)
  rwa [XH ea] at this
 cases v0 with
 | ref b=>exact wpAny_bind (wpAny_holding (wpAny_point (wpAny_pure (wpAny_pure (fin _ rfl)))))
 | _=>exact wpAny_pure (wpAny_pure (fin _ rfl))
theorem Am {pl:Sem Bool} {m:Str} (hg:Gl X x) (hm:X.mg x=some (.ref L)) (c:QO X.K L m) (ha:PA X (e :: es) t)
  (hdb:(x == ("__debug__" : Str))=false:=by decide) (hst:starEach (e :: es) X.env=(false,eval e X.env) :: starEach es X.env:=by rfl) (hpl:(backTo pos (starEach es X.env)).any (·.1)=false:=by rfl)
  (ht:eval (.Call (.Attribute (.Name x p) m apos) (e :: es) [] pos) X.env=(do
   let ov ← eval (.Name x p) X.env
   standAt apos.atName
   let (f,first) ← holding [ov] (getMethod ov m pl)
   callWith pos f first (backTo pos (starEach (e :: es) X.env)) (backToKw pos (keywordEach [] X.env))):=by rfl) :
  PE X (.Call (.Attribute (.Name x p) m apos) (e :: es) [] pos) (yH X.K t):=by
 intro pins s σ H Q I h
 refine PySem.W.methodCall_KW (pl:=pl) (Bi I hg hm ?_ hdb) ht
 refine PySem.W.method_cls I.kIn c.ga (PySem.W.cls_value I.kIn c.rd c.fd rfl ?_)
 refine PyProof.Rows.callWith_builtin1 (thn (ha pos pins _ σ H _ (I.tok (s.toks + 1)) h) fun us s2 ⟨vs,H2,I2,r,a,C,od,v,ev,ea,cc,q⟩=>?_) hst hpl
 subst ev
 obtain ⟨u1,u2,rfl,r1,r2⟩:=nE r
 obtain rfl:u1=Value.ref a:=r1
 exact rC I2 ea cc fun s3 I3=>⟨.non,H2,I3,rfl,q⟩
end
structure MkX (K:PySem.W.Frag) (C fI:Addr):Prop where
 e:qt K C fI=true
 fn:PySem.W.typeIn K (.ref fI)=some (.type "function")
 kp:PySem.W.keepIn K (.ref C)=true
noncomputable def xI (C:Addr) (sp:Sp) (t:TA):TE:=fun σ H Q=>t σ H fun vs H1=>vs.length ≤ sizeLine∧∀ x,H1 x=none→sp (.ref x :: vs) (upd H1 x (.ext (XF x C none))) (fun v H2=>v=.non∧Q (.ref x) H2) (fun _ _ _=>False)
noncomputable def tI (K:PySem.W.Frag) (ta tv:TE) (f:Str):TS:=fun D σ H=>tv σ H fun y H1=>ta σ H1 fun x H2=>∃ a C,x=.ref a∧H2 a=some (.ext (XF a C none))∧cq K C∧Cb K C f ∧
 ∀ dx,H2 dx=none→dx ≠ a→D.nx σ (upd (upd H2 a (.ext (XF a C (some dx)))) dx (.ext (XD dx [(f,y)])))
noncomputable def iI (K:PySem.W.Frag) (ta tv:TE) (f:Str):TS:=fun D σ H=>tv σ H fun y H1=>ta σ H1 fun x H2=>∃ a C dx fs,x=.ref a∧H2 a=some (.ext (XF a C (some dx)))∧H2 dx=some (.ext (XD dx fs))∧cq K C∧Cb K C f∧fs.length < 1000 ∧
 D.nx σ (upd H2 dx (.ext (XD dx (rg f y fs))))
noncomputable def VL (K:PySem.W.Frag) (ta:TE) (f:Str):TE:=fun σ H Q=>ta σ H fun x H1=>∃ a C dx fs v,x=.ref a∧H1 a=some (.ext (XA a C (some dx)))∧H1 dx=some (.ext (XD dx fs))∧cq K C∧Cb K C f∧fs.lookup f=some v∧Q v H1
section
variable {X:Cx} {k:Nat} {f C:Addr} {fd:FuncData} {ps:List Str} {sp:Sp} {x g:Str} {p pos pos' apos:Pos} {e o value:Expr} {es:List Expr} {ta tv:TE} {t:TA}
theorem eE {pins:List (Addr × Obj)} {σ:St} {H:Hp} {s:Shared} {Q:VK} {us:List Value} {vs:List V} (M:MkX X.K C f) (F:Eb X.prog X.w X.K X.mg X.base (fun _ _ _ _ _ _=>False) k f fd ps sp) (hr:Nh (k + 1) X.A) (hb:Qb X.K fd ps [])
  (I:Inv X pins σ H s) (r:Uc vs us) (hz:vs.length ≤ sizeLine) (h:∀ x,H x=none→sp (.ref x :: vs) (upd H x (.ext (XF x C none))) (fun v H2=>v=.non∧Q (.ref x) H2) (fun _ _ _=>False)) :
  wpAny (model X.prog X.w) X.A (call (.ref C) us) (EP X pins σ Q) X.xe s:=by
 obtain ⟨hh,g,d,tt,os⟩:=s
 refine wpAny_call (gB (fI:=f) I.kIn M.e M.fn (by rw [← r.length];exact hz) fun h' x hx Mx=>?_)
 obtain ⟨tp,ox,_,_⟩:=Mx.there
 have I2:=I.laid (a:=x) (o:=.ext (XF x C none)) (h':=h') (t':=tt) Mx.keeps hx (XF.ok ⟨_,_,ox,Nat.lt_of_lt_of_eq (show 1 < 6 by decide) rfl,rfl⟩)
 have hq:=h x (I.hok.fresh hx)
 have r2:Uc (V.ref x :: vs) (Value.ref x :: us):=.cons rfl r
 have hl:((Value.ref x :: us) ++ []).length=ps.length:=by
  rw [List.append_nil,← r2.length]
  exact F.len _ _ _ _ hq
 have hb2:=hb ⟨h',g,d,tt,os⟩ (Value.ref x :: us) I2.kIn hl
 rw [List.append_nil] at hb2
 refine codeAny_mono (F.run _ X.stack _ _ ⟨Value.ref x :: us,[]⟩ (Value.ref x :: us) _ _ _ (hr.make C us []) (I2.env0.make C us []) hb2 r2 hq) fun r s' hq'=>?_
 rcases r with e | (u | _ | _ | _) <;> first | exact False.elim hq' | skip
 obtain ⟨v,H',I3,rv,ev,q3⟩:=I2.after hq'
 subst ev
 exact ⟨rv,⟨V.ref x,H',I3,rfl,q3⟩⟩
theorem Tj (M:MkX X.K C f) (F:Eb X.prog X.w X.K X.mg X.base (fun _ _ _ _ _ _=>False) k f fd ps sp) (hr:Nh (k + 1) X.A) (hg:Gl X x) (hm:X.mg x=some (.ref C)) (hb:Qb X.K fd ps [])
  (ha:PA X (e :: es) t) (hdb:(x == ("__debug__" : Str))=false:=by decide) (he:starEach (e :: es) X.env=(false,eval e X.env) :: starEach es X.env:=by rfl) (hpl:(backTo pos (starEach es X.env)).any (·.1)=false:=by rfl) :
  PE X (.Call (.Name x p) (e :: es) [] pos) (xI C sp t):=by
 intro pins s σ H Q I h
 refine wpAny_Call_Name_kw (Bi I hg hm ?_ hdb)
 exact PySem.W.callWith_K (h₀:=X.base) I.ok.mod.kin M.kp (thn (ha pos pins s σ H _ I h) fun us s1 ⟨vs,H1,I1,r,hz,q⟩=>⟨I1.kIn,eE M F hr hb I1 r hz q⟩) he hpl
theorem Yl (ha:PE X o ta) (hv:PE X value tv) (hs:swapsWith value (some (.Attribute o g pos')) pos.line X.env=pure false):PS X (.Assign [.Attribute o g pos'] value pos) (tI X.K ta tv g):=by
 intro pins s σ H D I h
 refine plainObj_wpAny_Assign_Attribute (thn (hv pins s σ H _ I h) fun u s1 ⟨y,H1,I1,ry,q⟩=>thn (ha pins s1 σ H1 _ I1 q) fun ov s2 ⟨x,H2,I2,rx,a,C,ex,ea,c,n,q2⟩=>?_) hs
 subst ex
 obtain rfl:ov=Value.ref a:=rx
 exact NG I2 ea c n ry fun dx s3 hd hne I3=>⟨σ,_,I3,q2 dx hd hne⟩
theorem Wo (ha:PE X o ta) (hv:PE X value tv) (hs:swapsWith value (some (.Attribute o g pos')) pos.line X.env=pure false):PS X (.Assign [.Attribute o g pos'] value pos) (iI X.K ta tv g):=by
 intro pins s σ H D I h
 refine plainObj_wpAny_Assign_Attribute (thn (hv pins s σ H _ I h) fun u s1 ⟨y,H1,I1,ry,q⟩=>thn (ha pins s1 σ H1 _ I1 q) fun ov s2 ⟨x,H2,I2,rx,a,C,dx,fs,ex,ea,ed,c,n,hl,q2⟩=>?_) hs
 subst ex
 obtain rfl:ov=Value.ref a:=rx
 exact qE I2 ea ed c n hl ry fun s3 I3=>⟨σ,_,I3,q2⟩
theorem yi (he:PE X e ta) (hb:attributeBase e g X.env (eval e X.env)=eval e X.env):PE X (.Attribute e g pos) (VL X.K ta g):=by
 intro pins s σ H Q I h
 refine fB hb (thn (he pins s σ H _ I h) fun u s1 ⟨x,H1,I1,rx,a,C,dx,fs,v,ex,ea,ed,c,n,l,q⟩=>?_)
 subst ex
 obtain rfl:u=Value.ref a:=rx
 exact zP I1 ea ed c n l fun u s2 I2 ru=>⟨v,H1,I2,ru,q⟩
end
end L2
namespace L2
open PySem PySem.Spec PyProof.Rows PySem.Builtin PySem.Builtin.ObjectAttr
noncomputable def FlA (x C:Addr) (od:Option Addr) (T:Addr) (fl:Value) (h:Heap):Prop:=
 T ≠ x∧∃ vs sl oT ts,h.get? x=some ⟨.ref C,od,.fields vs,sl⟩∧vs[1]? = some (.ref T)∧h.get? T=some oT∧oT.data=.fields ts∧ts[3]? = some fl
theorem FlA.xa {x C T:Addr} {od:Option Addr} {fl:Value} {h:Heap} (z:FlA x C od T fl h):XA x C od h:=let ⟨_,vs,sl,_,_,e,_⟩:=z;⟨vs,sl,e⟩
structure Kp (fs:List Addr) (x:Addr) (To:Option Addr) (h h':Heap):Prop where
 keep:∀ b o,h.get? b=some o→b ∉ fs→b ≠ x→some b ≠ To→h'.get? b=some o
 slot:∀ b o,h.get? b=some o→b ∈ fs→∃ sl,h'.get? b=some { o with slots:=sl }
 there:∀ b o,h.get? b=some o→∃ o',h'.get? b=some o'
section
variable {M:Model} {A:Around} {E:Value→Shared→Prop} {s:Shared}
theorem nofr {base h:Heap} {l:List Env} {b:Addr} {o:Obj} {vs:Array Value} (hl:h.FunFrames base l) (e:h.get? b=some o) (d:o.data=.fields vs):b ∉ frs l:=fun hm=>by
 obtain ⟨_,o',e',nf⟩:=hl.mem hm
 rw [e] at e'
 cases e'
 exact nf vs d
theorem MF {env env':Env} {L:Addr} (hf:env.frame=some L) (hf':env'.frame=some L):PySem.frameOf env'=PySem.frameOf env:=by
 unfold PySem.frameOf
 rw [hf',hf]
theorem ZH {base:Heap} {env env':Env} {outer:List Env} {L x C:Addr} {od:Option Addr} {vs:Array Value} {sl:Array (Option Value)} {head:Value} {hn:Bool} {Q:Unit→Shared→Prop}
  (hfr:A.frames=some (env :: outer)) (hl:s.heap.FunFrames base (env :: outer)) (hf:env.frame=some L) (hf':env'.frame=some L) (he:s.heap.get? x=some ⟨.ref C,od,.fields vs,sl⟩) (hz:1 < vs.size)
  (h:∀ h' T,Kp (frs (env :: outer)) x none s.heap h'→s.heap.objs.size ≤ T→FlA x C od T (rawInt L) h'→Q () { s with heap:=h' }) :
  wpAny M A (do let a ← PySem.frameOf env';let pl ← entryPlaceOf L hn;let b ← EntryCells.newEntry head a .none (rawInt L) .none pl;setField (.ref x) 1 b) Q E s:=by
 have nx:x ∉ frs (env :: outer):=nofr hl he rfl
 rw [MF hf hf']
 refine wpAny_bind (wpAny_frameOf_fun hfr hl hf fun h1 S=>wpAny_bind (wpAny_entryPlaceOf fun pl hp=>?_))
 unfold EntryCells.newEntry newFields
 refine wpAny_bind (wpAny_newObj_type ?_ (hp.sizeOk5 _ _ _ _ _))
 have e1:h1.get? x=some ⟨.ref C,od,.fields vs,sl⟩:=(S.2.1 x nx).trans he
 obtain ⟨ts,hts,h3⟩:∃ ts:Array Value,([head,.ref L,.none,rawInt L,.none] ++ (if pl.isEmpty then List.replicate 6 Value.none else pl)).toArray=ts∧ts[3]? = some (rawInt L):=⟨_,rfl,by simp⟩
 rw [hts]
 have e2:=Heap.get?_push_of_some (h:=h1) { cls:=.type "traceback",dict:=none,data:=.fields ts } e1
 have ne:h1.objs.size ≠ x:=Nat.ne_of_gt (Heap.lt_size e1)
 have sz:h1.objs.size=s.heap.objs.size:=S.1
 refine wpAny_setField e2 rfl hz (h _ h1.objs.size ⟨fun b o q n1 n2 _=>?_,fun b o q n1=>?_,fun b o q=>?_⟩ (Nat.le_of_eq sz.symm) ⟨ne,vs.setIfInBounds 1 (.ref h1.objs.size),sl,{ cls:=.type "traceback",dict:=none,data:=.fields ts },ts,Heap.get?_update_self _ e2 rfl,by simp [hz],?_,rfl,h3⟩)
 ·rw [Heap.get?_update_other _ _ (Ne.symm n2)]
  exact Heap.get?_push_of_some _ ((S.2.1 b n1).trans q)
 ·obtain ⟨sl',e3⟩:=S.2.2 b o q
  have nb:x ≠ b:=fun z=>nx (by rw [z];exact n1)
  exact ⟨sl',(Heap.get?_update_other _ _ nb).trans (Heap.get?_push_of_some _ e3)⟩
 ·by_cases hb:b=x
  ·rw [hb];exact ⟨_,Heap.get?_update_self _ e2 rfl⟩
  ·obtain ⟨sl',e3⟩:=S.2.2 b o q
   exact ⟨_,by rw [Heap.get?_update_other _ _ (Ne.symm hb)];exact Heap.get?_push_of_some _ e3⟩
 ·exact (Heap.get?_update_other _ _ (Ne.symm ne)).trans (Heap.get?_push_size h1 rfl)
theorem Hz {base:Heap} {env env':Env} {outer:List Env} {L x C:Addr} {od:Option Addr} {vs:Array Value} {sl:Array (Option Value)} {Q:Unit→Shared→Prop}
  (hfr:A.frames=some (env :: outer)) (hl:s.heap.FunFrames base (env :: outer)) (hf:env.frame=some L) (hf':env'.frame=some L) (he:s.heap.get? x=some ⟨.ref C,od,.fields vs,sl⟩) (h1:vs[1]? = some .none)
  (h:∀ h' T,Kp (frs (env :: outer)) x none s.heap h'→s.heap.objs.size ≤ T→FlA x C od T (rawInt L) h'→Q () { s with heap:=h' }) :
  wpAny M A (noteFrame (.ref x) env') Q E s:=by
 unfold noteFrame
 simp only [hf']
 refine wpAny_bind (wpAny_field he rfl h1 ?_)
 rw [if_neg (by decide)]
 exact ZH hfr hl hf hf' he (Array.getElem?_eq_some_iff.mp h1).1 h
theorem VD {base:Heap} {env env':Env} {outer:List Env} {L x C T:Addr} {od:Option Addr} {fl:Value} {Q:Unit→Shared→Prop}
  (hfr:A.frames=some (env :: outer)) (hl:s.heap.FunFrames base (env :: outer)) (hf:env.frame=some L) (hf':env'.frame=some L) (z:FlA x C od T fl s.heap) (hne:¬ (fl == rawInt L)=true)
  (h:∀ h' T',Kp (frs (env :: outer)) x (some T) s.heap h'→s.heap.objs.size ≤ T'→FlA x C od T' (rawInt L) h'→Q () { s with heap:=h' }) :
  wpAny M A (noteFrame (.ref x) env') Q E s:=by
 obtain ⟨ne,vs,sl,oT,ts,he,h1,hT,hd,h3⟩:=z
 unfold noteFrame
 simp only [hf']
 refine wpAny_bind (wpAny_field he rfl h1 ?_)
 rw [if_pos (show (Value.ref T != Value.none)=true from by simp)]
 refine wpAny_bind (wpAny_field hT hd h3 ?_)
 rw [if_neg hne]
 refine wpAny_bind (wpAny_setField hT hd (Array.getElem?_eq_some_iff.mp h3).1 ?_)
 have nT:T ∉ frs (env :: outer):=nofr hl hT hd
 have oth:∀ b,b ≠ T→(s.heap.update T (Obj.mapFields (·.setIfInBounds 3 Value.none))).get? b=s.heap.get? b:=fun b hb=>Heap.get?_update_other _ _ (Ne.symm hb)
 have tT:∃ o',(s.heap.update T (Obj.mapFields (·.setIfInBounds 3 Value.none))).get? T=some o':=⟨_,Heap.get?_update_self _ hT (Obj.isFreed_of_fields (Obj.data_mapFields hd _))⟩
 have hl2:(s.heap.update T (Obj.mapFields (·.setIfInBounds 3 Value.none))).FunFrames base (env :: outer):=hl.of_keeps fun b o e nf=>⟨o,(oth b fun q=>by rw [q,hT] at e;cases e;exact nf ts hd).trans e,rfl⟩
 refine ZH (s:={ s with heap:=s.heap.update T (Obj.mapFields (·.setIfInBounds 3 Value.none)) }) hfr hl2 hf hf' ((oth x (Ne.symm ne)).trans he) (Array.getElem?_eq_some_iff.mp h1).1 fun h' T' k w f=>h h' T' ⟨fun b o q n1 n2 n3=>?_,fun b o q n1=>?_,fun b o q=>?_⟩ ?_ f
 ·exact k.keep b o ((oth b fun y=>n3 (by rw [y])).trans q) n1 n2 (fun y=>by cases y)
 ·exact k.slot b o ((oth b fun y=>nT (y ▸ n1)).trans q) n1
 ·by_cases hb:b=T
  ·subst hb
   obtain ⟨o',e'⟩:=tT
   exact k.there _ _ e'
  ·exact k.there b o ((oth b hb).trans q)
 ·exact Nat.le_trans (Nat.le_of_eq (Heap.size_update _ _ _).symm) w
theorem flight {x C T:Addr} {od:Option Addr} {fl:Value} {fs:List Addr} {Q:Unit→Shared→Prop} (o:Option Addr) (z:FlA x C od T fl s.heap) (nT:T ∉ fs)
  (h:∀ h',Kp fs x (some T) s.heap h'→FlA x C od T (o.elim .none fun f=>rawInt f) h'→Q () { s with heap:=h' }):wpAny M A (setFlight (.ref x) o) Q E s:=by
 obtain ⟨ne,vs,sl,oT,ts,he,h1,hT,hd,h3⟩:=z
 have z3:3 < ts.size:=(Array.getElem?_eq_some_iff.mp h3).1
 have oth:∀ b,b ≠ T→(s.heap.update T (Obj.mapFields (·.setIfInBounds 3 (o.elim Value.none fun f=>rawInt f)))).get? b=s.heap.get? b:=fun b hb=>Heap.get?_update_other _ _ (Ne.symm hb)
 have tT:=Heap.get?_update_self (Obj.mapFields (·.setIfInBounds 3 (o.elim Value.none fun f=>rawInt f))) hT (Obj.isFreed_of_fields (Obj.data_mapFields hd _))
 unfold setFlight
 refine wpAny_bind (wpAny_field he rfl h1 ?_)
 rw [if_pos (show (Value.ref T != Value.none)=true from by simp)]
 refine wpAny_setField hT hd z3 (h _ ⟨fun b o q _ _ n3=>(oth b fun y=>n3 (by rw [y])).trans q,fun b o q n1=>⟨o.slots,(oth b fun y=>nT (y ▸ n1)).trans q⟩,fun b o q=>?_⟩
  ⟨ne,vs,sl,_,_,(oth x (Ne.symm ne)).trans he,h1,tT,Obj.data_mapFields hd _,by simp [z3]⟩)
 by_cases hb:b=T
 ·subst hb;exact ⟨_,tT⟩
 ·exact ⟨o,(oth b hb).trans q⟩
end
section
variable {P:Program} {w:World} {H:Hp} {h h':Heap} {fs:List Addr} {x C T:Addr} {od:Option Addr} {fl:Value} {To:Option Addr} {o:HO}
theorem Kp.hok (k:Kp fs x To h h') (ok:HOk P w H h) (hfs:∀ b ∈ fs,H b=none) (hT:∀ t,To=some t→H t=none) (mu:Mut (H x)) (new:XA x C od h'):HOk P w (upd H x (.ext (XA x C od))) h':=fun b u q=>by
 have nown:∀ c y,H c=some (.own y)→c ≠ x:=fun c y r z=>by subst z;rw [r] at mu;exact mu
 have ntup:∀ c xs,H c=some (.tup xs)→c ≠ x:=fun c xs r z=>by subst z;rw [r] at mu;exact mu
 have kk:∀ c v,c ≠ x→H c ≠ none→h.get? c=some v→h'.get? c=some v:=fun c v n1 n2 r=>k.keep c v r (fun z=>n2 (hfs c z)) n1 fun z=>n2 (hT c z.symm)
 by_cases hb:b=x
 ·subst hb;rw [cb] at q;cases q;exact new.ok
 ·rw [lb hb] at q
  refine (ok b u q).stay (fun c v hc r=>?_) (fun c r=>by rw [lb (nown c b r)];exact r) fun c xs r=>by rw [lb (ntup c xs r)];exact r
  rcases hc with rfl | hc
  ·exact kk c v hb (by rw [q];exact fun z=>by cases z) r
  ·exact kk c v (nown c b hc) (by rw [hc];exact fun z=>by cases z) r
theorem Kp.un (k:Kp fs x To h h') (hT:∀ t,To=some t→H t=none) (mu:Mut (H x)):Un fs To.toList H (upd H x o) h h':=by
 have hx:∀ b,H b=none→b ≠ x:=fun b n z=>by subst z;rw [n] at mu;exact mu
 have hm:∀ b u,H b=some u→¬ Mut (some u)→b ≠ x:=fun b u q nm z=>by subst z;rw [q] at mu;exact nm mu
 refine ⟨fun b u q n n1 n2=>k.keep b u q n1 (hx b n) fun z=>n2 (by rw [← z];simp),fun b u q n n1 n2=>k.slot b u q n1,fun b u q n _=>by rw [lb (hx b n)];exact n,fun b u q _=>k.there b u q,
  fun b xs q=>by rw [lb (hm b _ q fun z=>z)];exact q,fun b u xs q=>by rw [lb (hm b _ q fun z=>z)];exact q,fun b ps q=>⟨#[],by rw [lb (hm b _ q fun z=>z),q];simp⟩⟩
end
noncomputable def CX1 (P:Program) (w:World):CXT:=fun outer H s E e s'=>
 ∃ x C od H' T,e=.ref x∧s'.os=s.os∧AllBare s'.gens∧Un (frs outer) [] H H' s.heap s'.heap∧HOk P w H' s'.heap∧H' x=some (.ext (XA x C od))∧s.heap.objs.size ≤ T∧H' T=none∧FlA x C od T .none s'.heap∧E (.ref C) od H'
noncomputable def eD (X:Cx) (E:St→XK):Prop:=∀ (pins:List (Addr × Obj)) (σ:St) (H:Hp) (s:Shared) (x C:Addr) (od:Option Addr),Inv X pins σ H s→H x=some (.ext (XF x C od))→E σ (.ref C) od (upd H x (.ext (XA x C od)))→X.xe (.ref x) s
noncomputable def Lw (CX:CXT) (X:Cx) (E:St→XK):Prop:=∀ (pins:List (Addr × Obj)) (σ:St) (H:Hp) (s:Shared) (e:Value) (s':Shared),Inv X pins σ H s→CX X.stack H s (E σ) e s'→X.xe e s'
structure Fr1 (X:Cx):Prop where
 st:X.stack=X.env :: X.outer
 fr:X.env.frame=some X.env.locals
noncomputable def vL (X:Cx) (pins:List (Addr × Obj)) (T:Addr):Prop:=(T ∈ X.ex∨X.s₀.heap.objs.size ≤ T)∧T ≠ X.env.locals∧(∀ x c,X.env.cells.lookup x=some c→c ≠ T)∧∀ p ∈ X.pn ++ pins,p.1 ≠ T
noncomputable def NA (X:Cx) (pins:List (Addr × Obj)) (E:St→XK) (fl:Value) (e:Value) (s':Shared):Prop:=
 ∃ σ' H' x C od T,e=.ref x∧Inv X pins σ' H' s'∧H' x=some (.ext (XA x C od))∧H' T=none∧vL X pins T∧FlA x C od T fl s'.heap∧E σ' (.ref C) od H'
noncomputable def xeR (X:Cx) (pins:List (Addr × Obj)) (E:St→XK) (e:Value) (s':Shared):Prop:=
 ∃ σ' H' x C od,e=.ref x∧Inv X pins σ' H' s'∧H' x=some (.ext (XF x C od))∧E σ' (.ref C) od (upd H' x (.ext (XA x C od)))
noncomputable def xeT (X:Cx) (pins:List (Addr × Obj)) (E:St→XK) (e:Value) (s':Shared):Prop:=xeR X pins E e s'∨∃ fl,NA X pins E fl e s'
noncomputable def xeA (X:Cx) (E:St→XK) (e:Value) (s':Shared):Prop:=∃ pins,xeT X pins E e s'
section
variable {X:Cx} {pins:List (Addr × Obj)} {σ:St} {H:Hp} {s:Shared} {T x C:Addr} {od:Option Addr} {E:St→XK} {M:Model} {A:Around} {E':Value→Shared→Prop} {Q:Unit→Shared→Prop} {e fl:Value} {h':Heap}
theorem IN (I:Inv X pins σ H s) (hT:s.heap.objs.size ≤ T):vL X pins T:=by
 have lt:∀ {b:Addr} {o:Obj},s.heap.get? b=some o→b ≠ T:=fun q z=>by
  subst z
  exact absurd (Nat.lt_of_lt_of_le (Heap.lt_size q) hT) (Nat.lt_irrefl _)
 refine ⟨.inr (Nat.le_trans I.sz hT),fun z=>?_,fun x c e=>?_,fun p hp=>lt (I.pin p hp).1⟩
 ·obtain ⟨m,⟨o,es,ep,ho,_⟩,_⟩:=I.loc
  exact lt ho z.symm
 ·obtain ⟨v,o,ho,_⟩:=I.cell x c e
  exact lt ho
theorem bJ (I:Inv X pins σ H s) (k:Kp (frs X.stack) x (some T) s.heap h') (ex:H x=some (.ext (XA x C od))) (eT:H T=none) (nT:vL X pins T) (xa:XA x C od h'):Inv X pins σ H { s with heap:=h' }:=by
 have mu:Mut (H x):=by rw [ex];exact True.intro
 have z:∀ t,some T=some t→H t=none:=fun t z=>by cases z;exact eT
 have u1:=k.un (H:=H) (o:=.ext (XA x C od)) z mu
 have k1:=k.hok I.hok I.stkFree z mu xa
 rw [XH ex] at u1 k1
 exact I.call' (s':={ s with heap:=h' }) (ch:=[T]) rfl u1 k1 I.bare fun b hb=>by
  obtain rfl:b=T:=by simpa using hb
  exact nT
theorem tH (F:Fr1 X) (I:Inv X pins σ H s) (k:Kp (frs (X.env :: X.outer)) x (some T) s.heap h') (ex:H x=some (.ext (XA x C od))) (eT:H T=none) (nT:vL X pins T) (xa:XA x C od h'):Inv X pins σ H { s with heap:=h' }:=
 bJ I (by rw [F.st];exact k) ex eT nT xa
theorem NA.note (F:Fr1 X) (q:NA X pins E fl e s) (hne:¬ (fl == rawInt X.env.locals)=true) (h:∀ s',NA X pins E (rawInt X.env.locals) e s'→Q () s'):wpAny M X.A (noteFrame e X.env) Q E' s:=by
 obtain ⟨σ,H,x,C,od,T,rfl,I,ex,eT,nT,f,w⟩:=q
 have fs:s.heap.FunFrames X.base (X.env :: X.outer):=by rw [← F.st];exact I.stack
 exact VD (by rw [← F.st];exact I.ok.frames) fs F.fr F.fr f hne fun h' T' k w' f'=>h _ ⟨σ,H,x,C,od,T',rfl,tH F I k ex eT nT f'.xa,ex,I.hok.fresh w',IN I w',f',w⟩
theorem NA.noted (F:Fr1 X) (q:NA X pins E (rawInt X.env.locals) e s) (h:Q () s):wpAny M X.A (noteFrame e X.env) Q E' s:=by
 obtain ⟨σ,H,x,C,od,T,rfl,I,ex,eT,nT,⟨ne,vs,sl,oT,ts,he,h1,hT,hd,h3⟩,w⟩:=q
 unfold noteFrame
 simp only [F.fr]
 refine wpAny_bind (wpAny_field he rfl h1 ?_)
 rw [if_pos (show (Value.ref T != Value.none)=true from by simp)]
 refine wpAny_bind (wpAny_field hT hd h3 ?_)
 rw [if_pos (show (rawInt X.env.locals == rawInt X.env.locals)=true from by simp)]
 exact wpAny_pure h
theorem xeR.note (F:Fr1 X) (q:xeR X pins E e s) (h:∀ s',NA X pins E (rawInt X.env.locals) e s'→Q () s'):wpAny M X.A (noteFrame e X.env) Q E' s:=by
 obtain ⟨σ,H,x,C,od,rfl,I,ex,w⟩:=q
 have fs:s.heap.FunFrames X.base (X.env :: X.outer):=by rw [← F.st];exact I.stack
 obtain ⟨vs,sl,hx,z1,z2⟩:=(show Ad X.prog X.w H s.heap x (.ext (XF x C od)) from I.hok _ _ ex).1
 have mu:Mut (H x):=by rw [ex];exact True.intro
 refine Hz (by rw [← F.st];exact I.ok.frames) fs F.fr F.fr hx z2 fun h' T k w' f=>h _ ?_
 have z:∀ t,none=some t→H t=none:=fun t z=>by cases z
 have u1:=k.un (H:=H) (o:=.ext (XA x C od)) z mu
 have k1:=k.hok I.hok (by rw [← F.st];exact I.stkFree) z mu f.xa
 rw [← F.st] at u1
 have I2:=I.call' (s':={ s with heap:=h' }) (ch:=[]) rfl u1 k1 I.bare fun b hb=>absurd hb (by simp)
 exact ⟨σ,_,x,C,od,T,rfl,I2,cb,by rw [lb f.1];exact I.hok.fresh w',IN I w',f,w⟩
theorem xeT.note (F:Fr1 X) (q:xeT X pins E e s) (h:∀ s',NA X pins E (rawInt X.env.locals) e s'→Q () s'):wpAny M X.A (noteFrame e X.env) Q E' s:=by
 rcases q with q | ⟨fl,q⟩
 ·exact q.note F h
 ·by_cases c:(fl == rawInt X.env.locals)=true
  ·rw [beq_iff_eq] at c
   subst c
   exact q.noted F (h _ q)
  ·exact q.note F c h
theorem NA.flight (F:Fr1 X) (o:Option Addr) (q:NA X pins E fl e s) (h:∀ s',NA X pins E (o.elim .none fun f=>rawInt f) e s'→Q () s'):wpAny M A (setFlight e o) Q E' s:=by
 obtain ⟨σ,H,x,C,od,T,rfl,I,ex,eT,nT,f,w⟩:=q
 have fs:s.heap.FunFrames X.base (X.env :: X.outer):=by rw [← F.st];exact I.stack
 have nf:T ∉ frs (X.env :: X.outer):=by
  obtain ⟨_,_,_,oT,ts,_,_,e,d,_⟩:=id f
  exact nofr fs e d
 exact L2.flight o f nf fun h' k f'=>h _ ⟨σ,H,x,C,od,T,rfl,tH F I k ex eT nT f'.xa,ex,eT,nT,f',w⟩
theorem xeT.leave (F:Fr1 X) (q:xeT X pins E e s) (h:∀ s',NA X pins E .none e s'→Q () s'):wpAny M X.A (leaving X.env e) Q E' s:=by
 unfold leaving
 exact wpAny_bind (q.note F fun s' q'=>q'.flight F none h)
theorem Nw (F:Fr1 X):PassesOwn M X.A X.env (xeT X pins E):=fun e s' q=>by
 refine q.note F fun s2 q2=>?_
 show wpAny _ _ _ _ _ _
 obtain ⟨σ,H,x,C,od,T,rfl,I,ex,eT,nT,⟨ne,vs,sl,oT,ts,he,h1,hT,hd,h3⟩,w⟩:=id q2
 refine wpAny_bind (wpAny_field he rfl h1 ?_)
 rw [if_neg (show ¬ (Value.ref T == Value.none)=true from by simp)]
 rw [F.fr]
 exact q2.flight F _ fun s3 q3=>.inr ⟨_,q3⟩
theorem ge (F:Fr1 X):PassesOwn M X.A X.env (xeA X E):=fun e s' ⟨pins,q⟩=>by
 have z:=Nw (M:=M) F e s' q
 refine wpAny_mono z (fun _ s2 q2=>?_) fun e2 s2 q2=>?_
 all_goals exact wpAny_mono q2 (fun _ s3 q3=>⟨pins,q3⟩) fun e3 s3 q3=>⟨pins,q3⟩
theorem jK:eD (X.wish (xeA X E)) E:=fun pins σ H s x C od I ex q=>⟨pins,.inl ⟨σ,H,x,C,od,rfl,I.unwish,ex,q⟩⟩
theorem VJ {E0:XK} {s':Shared} (I:Inv X pins σ H s) (hq:CX1 X.prog X.w X.stack H s E0 e s') (h:∀ C od H',E0 C od H'→E σ C od H'):xeT X pins E e s':=by
 obtain ⟨x,C,od,H2,T,rfl,os,bare,un,hok,ex,hT,eT,fl,q⟩:=hq
 exact .inr ⟨_,σ,H2,x,C,od,T,rfl,I.call' os un hok bare (fun b z=>absurd z (by simp)),ex,eT,IN I hT,fl,h _ _ _ q⟩
end
theorem qc {X:Cx} {E:XK}:Zi (CX1 X.prog X.w) (X.wish (xeA X fun _=>E)) E:=fun pins σ H s e s' I hq=>⟨pins,VJ I.unwish hq fun _ _ _ z=>z⟩
theorem Ln {X:Cx} {E:XK}:eD (X.wish (xeA X fun _=>E)) (fun _=>E):=jK
section
variable {P:Program} {w:World} {K:PySem.W.Frag} {mg:Str→Option Value} {base:Heap} {N:List Str} {qual:Str} {scope:Scope} {f:Addr} {cd:Value} {A:Around} {outer:List Env} {s:Shared} {H:Hp} {E:XK}
theorem vK {e:Value} {s':Shared} (q:xeA (pB (CX1 P w) P w K mg base N qual scope f cd A outer s H E) (fun _=>E) e s'):(pB (CX1 P w) P w K mg base N qual scope f cd A outer s H E).xe e s':=by
 obtain ⟨pins,q⟩:=q
 refine q.leave ⟨rfl,rfl⟩ fun s2 q2=>?_
 obtain ⟨σ,H2,x,C,od,T,rfl,I,ex,eT,nT,fl,q⟩:=q2
 refine ⟨x,C,od,H2,T,rfl,I.os,I.bare,I.base,I.hok,ex,?_,eT,fl,q⟩
 rcases nT.1 with z | z
 ·exact absurd z (by show T ∉ ([]:List Addr);simp)
 ·exact z
end
noncomputable def wH (sp:Sp) (dvs:List V) (E:St→XK) (t:TA):TE:=fun σ H Q=>t σ H fun vs H1=>sp (vs ++ dvs) H1 Q (E σ)
noncomputable def SM (C:Addr) (m:Str) (sp:Sp) (dvs:List V) (E:St→XK) (ta:TE) (t:TA):TE:=fun σ H Q=>ta σ H fun x H1=>∃ a dx fs,x=.ref a∧H1 a=some (.ins C dx fs)∧fs.lookup m=none ∧
 t σ H1 fun vs H2=>sp (x :: (vs ++ dvs)) H2 Q (E σ)
section
variable {X:Cx} {CX:CXT} {k:Nat} {f C:Addr} {fd:FuncData} {ps:List Str} {sp:Sp} {dvs:List V} {ds:List Value} {E:St→XK} {x m:Str} {p pos apos:Pos} {e o:Expr} {es:List Expr} {ta:TE} {t:TA}
theorem SI {pins:List (Addr × Obj)} {σ:St} {H:Hp} {s:Shared} {Q:VK} {us:List Value} {vs:List V} (F:Eb X.prog X.w X.K X.mg X.base CX k f fd ps sp) (hr:Nh k X.A) (hb:Qb X.K fd ps ds) (hd:Uc dvs ds) (hx:Lw CX X E)
  (I:Inv X pins σ H s) (r:Uc vs us) (h:sp (vs ++ dvs) H Q (E σ)):wpAny (model X.prog X.w) X.A (call (.ref f) us) (EP X pins σ Q) X.xe s:=by
 have r2:Uc (vs ++ dvs) (us ++ ds):=r.append hd
 have hl:(us ++ ds).length=ps.length:=by rw [← r2.length];exact F.len _ _ _ _ h
 refine wpAny_call (codeAny_mono (F.run X.A X.stack s H ⟨us,[]⟩ (us ++ ds) (vs ++ dvs) Q (E σ) hr I.env0 (hb s us I.kIn hl) r2 h) fun r s' hq=>?_)
 rcases r with e | (u | _ | _ | _)
 ·exact hx pins σ H s e s' I hq
 all_goals first | exact I.after hq | exact False.elim hq
theorem HG (F:Eb X.prog X.w X.K X.mg X.base CX k f fd ps sp) (hr:Nh k X.A) (hg:Gl X x) (hm:X.mg x=some (.ref f)) (hk:PySem.W.keepIn X.K (.ref f)=true) (hb:Qb X.K fd ps ds) (hd:Uc dvs ds) (hx:Lw CX X E)
  (ha:PA X (e :: es) t) (hdb:(x == ("__debug__" : Str))=false:=by decide) (he:starEach (e :: es) X.env=(false,eval e X.env) :: starEach es X.env:=by rfl) (hpl:(backTo pos (starEach es X.env)).any (·.1)=false:=by rfl) :
  PE X (.Call (.Name x p) (e :: es) [] pos) (wH sp dvs E t):=by
 intro pins s σ H Q I h
 refine wpAny_Call_Name_kw (Bi I hg hm ?_ hdb)
 exact PySem.W.callWith_K (h₀:=X.base) I.ok.mod.kin hk (thn (ha pos pins s σ H _ I h) fun us s1 ⟨vs,H1,I1,r,q⟩=>⟨I1.kIn,SI F hr hb hd hx I1 r q⟩) he hpl
end
noncomputable abbrev Cx.tr (X:Cx) (pn:List (Addr × Obj)) (E:Value→Shared→Prop):Cx:={ X with pn:=X.pn ++ pn,xe:=E }
noncomputable abbrev Cx.hn (X:Cx) (e:Value):Cx:={ X with A:=X.A.mark (some e),calm:=false,xe:=fun _ _=>False }
section
variable {X:Cx} {pins pins':List (Addr × Obj)} {σ:St} {H:Hp} {s:Shared} {E:Value→Shared→Prop} {e:Value}
theorem Cx.Ok.tr (ok:X.Ok) (pn:List (Addr × Obj)) (E:Value→Shared→Prop):(X.tr pn E).Ok:=
 ⟨ok.mod,ok.kind,ok.glob,ok.blt,ok.above,ok.inj,ok.has,ok.cab,ok.hd,ok.frames,ok.stk,ok.exf,ok.bs,ok.bsz,ok.noex,ok.exfs,ok.funs,ok.frf⟩
theorem Cx.Ok.untr {pn:List (Addr × Obj)} (ok:(X.tr pn E).Ok):X.Ok:=
 ⟨ok.mod,ok.kind,ok.glob,ok.blt,ok.above,ok.inj,ok.has,ok.cab,ok.hd,ok.frames,ok.stk,ok.exf,ok.bs,ok.bsz,ok.noex,ok.exfs,ok.funs,ok.frf⟩
theorem Cx.Ok.hn (ok:X.Ok) (e:Value):(X.hn e).Ok:=
 ⟨ok.mod,ok.kind,ok.glob,ok.blt,ok.above,ok.inj,ok.has,ok.cab,(fun z=>Bool.noConfusion z),ok.frames,ok.stk,ok.exf,ok.bs,ok.bsz,ok.noex,ok.exfs,ok.funs,ok.frf⟩
theorem Inv.tr (I:Inv X pins σ H s) (E:Value→Shared→Prop):Inv (X.tr pins E) [] σ H s:=⟨I.ok.tr pins E,I.os,I.bare,I.base,I.loc,I.cell,I.free,I.freeC,fun p hp=>I.pin p (by simpa using hp),I.hok,I.len⟩
theorem Inv.untr (I:Inv (X.tr pins E) pins' σ H s):Inv X pins σ H s:=⟨I.ok.untr,I.os,I.bare,I.base,I.loc,I.cell,I.free,I.freeC,fun p hp=>I.pin p (List.mem_append_left _ hp),I.hok,I.len⟩
theorem Inv.hn (I:Inv X pins σ H s) (e:Value):Inv (X.hn e) pins σ H s:=⟨I.ok.hn e,I.os,I.bare,I.base,I.loc,I.cell,I.free,I.freeC,I.pin,I.hok,I.len⟩
theorem Inv.unhn (ok:X.Ok) (I:Inv (X.hn e) pins σ H s):Inv X pins σ H s:=⟨ok,I.os,I.bare,I.base,I.loc,I.cell,I.free,I.freeC,I.pin,I.hok,I.len⟩
theorem SP.untr {D:lg} {f:Flow} {s':Shared} (h:SP (X.tr pins E) pins' D f s'):SP X pins D f s':=by
 cases f with
 | next=>obtain ⟨σ',H',I,q⟩:=h;exact ⟨σ',H',I.untr,q⟩
 | brk=>obtain ⟨σ',H',I,q⟩:=h;exact ⟨σ',H',I.untr,q⟩
 | cont=>obtain ⟨σ',H',I,q⟩:=h;exact ⟨σ',H',I.untr,q⟩
 | ret u=>obtain ⟨v,σ',H',I,r,q⟩:=h;exact ⟨v,σ',H',I.untr,r,q⟩
end
theorem JI {X:Cx} {pins:List (Addr × Obj)} {E:St→XK}:Lw (CX1 X.prog X.w) (X.tr pins (xeT X pins E)) E:=by
 intro pins' σ H s e s' I hq
 obtain ⟨x,C,od,H2,T,rfl,os,bare,un,hok,ex,hT,eT,fl,q⟩:=hq
 have I2:=I.call' os un hok bare (fun b z=>absurd z (by simp))
 exact .inr ⟨_,σ,H2,x,C,od,T,rfl,I2.untr,ex,eT,IN I.untr hT,fl,q⟩
theorem qm {X:Cx} {pins:List (Addr × Obj)} {σ:St} {H:Hp} {s:Shared} {i:Nat} {n:Str} {pos:Pos} {A:Around} {E:Value→Shared→Prop} {Q:Unit→Shared→Prop} (I:Inv X pins σ H s) (hN:X.N.Nodup) (hi:X.N[i]? = some n)
  (hl:X.env.scope.names.lookup n=some .local) (h:∀ s',Inv X pins (σ.set i none) H s'→Q () s'):wpAny (model X.prog X.w) A (do bindName X.env n .none;unbindBehindTheSuite X.env n pos) Q E s:=by
 have hiσ:i < σ.length:=by rw [I.len];exact (List.getElem?_eq_some_iff.mp hi).1
 refine wpAny_bind (wpAny_bindName (Qo I hN hi (.inl hl) (v:=.non) (u:=.none) rfl (fun s1 I1=>?_) (.inr hl)))
 obtain ⟨m,hn,hlk⟩:=I1.loc
 have hk:X.env.kindOf n=some .local:=hl
 obtain ⟨u,ru,lk⟩:=hlk i n .non hi (List.getElem?_set_self hiσ) (.inl hl)
 have hmn:(m n).isSome=true:=by
  rcases lk with ⟨_,e⟩ | ⟨k,_⟩
  ·rw [e];rfl
  ·rcases k with k | k <;> (rw [hk] at k;cases k)
 have hp:(X.env.scope.kind == .class || (X.env.scope.kind == .module && X.env.locals != X.env.globals))=false:=by rw [I.ok.kind];rfl
 unfold unbindBehindTheSuite
 refine wpAny_onRaise ?_
 unfold unbindName
 refine wpAny_bind (wpAny_point (wpAny_bind ?_))
 unfold deleteName
 simp only [hk,hp]
 rw [if_neg (by decide)]
 refine wpAny_bind (wpAny_nsDel_keeps hn fun h2 v2 hn2 hs=>?_)
 rw [hmn]
 refine wpAny_pure (wpAny_point (h _ ?_))
 have neL:∀ b o,X.s₀.heap.get? b=some o→b ≠ X.env.locals:=fun b o e=>Nat.ne_of_lt (Nat.lt_of_lt_of_le (Heap.lt_size e) I1.ok.above)
 refine ⟨I1.ok,I1.os,I1.bare,⟨fun b o e n' hb hx=>(hs.2 b (neL b o e)).trans (I1.base.keep b o e n' hb hx),fun b o e n' hb hx=>?_,I1.base.free,fun b o e hx=>?_,I1.base.tups,I1.base.frzs,I1.base.tbls⟩,⟨_,hn2,fun j y v e1 e2 e3=>?_⟩,fun y c e=>?_,I1.free,I1.freeC,fun p hp=>?_,fun b u' e=>?_,by simpa using I.len⟩
 ·obtain ⟨sl,e1⟩:=I1.base.slot b o e n' hb hx
  exact ⟨sl,(hs.2 b (neL b o e)).trans e1⟩
 ·obtain ⟨o',e1⟩:=I1.base.there b o e hx
  exact ⟨o',(hs.2 b (neL b o e)).trans e1⟩
 ·by_cases hj:j=i
  ·subst hj
   rw [List.getElem?_set_self hiσ] at e2
   cases e2
  ·rw [List.getElem?_set_ne (Ne.symm hj)] at e2
   obtain ⟨u',r',q⟩:=hlk j y v e1 (by rw [List.getElem?_set_ne (Ne.symm hj)];exact e2) e3
   refine ⟨u',r',?_⟩
   rcases q with ⟨k,e⟩ | ⟨k,c,e,z⟩
   ·refine .inl ⟨k,?_⟩
    have:y ≠ n:=fun e=>hj (su hN e1 (e ▸ hi))
    simp [this,e]
   ·exact .inr ⟨k,c,e,z.sameBut hs (I1.cne y c e)⟩
 ·obtain ⟨w',z⟩:=I1.cell y c e
  exact ⟨w',z.sameBut hs (I1.cne y c e)⟩
 ·obtain ⟨e,n',ne,nf,d⟩:=I1.pin p hp
  exact ⟨(hs.2 p.1 ne).trans e,n',ne,nf,d⟩
 ·have nL:∀ c,H c ≠ none→c ≠ X.env.locals:=fun c q z=>q (by rw [z];exact I1.free)
  refine (I1.hok b u' e).stay (fun c v hc q=>(hs.2 c (nL c ?_)).trans q) (fun _ q=>q) fun _ _ q=>q
  rcases hc with rfl | hc
  ·rw [e];exact fun z=>by cases z
  ·rw [hc];exact fun z=>by cases z
noncomputable def lg.gone (D:lg) (i:Nat):lg:={ nx:=fun σ H=>D.nx (σ.set i none) H,rt:=D.rt,bk:=fun σ H=>D.bk (σ.set i none) H,ct:=fun σ H=>D.ct (σ.set i none) H }
noncomputable def WN (K:PySem.W.Frag) (c:Addr) (i:Nat) (th:TS) (D:lg):St→XK:=fun σ C od H=>∃ C',C=.ref C'∧PySem.W.exmOne K C (.ref c)=some true∧∀ x,H x=some (.ext (XA x C' od))→th (D.gone i) (σ.set i (some (.ref x))) H
noncomputable def ZN (K:PySem.W.Frag) (c:Addr) (i:Nat) (tb:(St→XK)→TS) (th:TS):TS:=fun D σ H=>tb (WN K c i th D) D σ H
section
variable {X:Cx} {body suite:List Stmt} {b0:Stmt} {x n:Str} {c:Addr} {i:Nat} {tb:(St→XK)→TS} {th:TS} {xp hp pos:Pos}
theorem yM (hb:∀ pins E,PSs (X.tr pins (xeT X pins E)) body (tb E)) (hg:Gl X x) (hm:X.mg x=some (.ref c)) (hh:∀ e,PSs (X.hn e) (b0 :: suite) th) (hN:X.N.Nodup) (hi:X.N[i]? = some n)
  (hl:X.env.scope.names.lookup n=some .local) (F:Fr1 X:=by exact ⟨rfl,rfl⟩) (hdb:(x == ("__debug__" : Str))=false:=by decide) :
  PS X (.Try body [.ExceptHandler (some (.Name x xp)) (some n) (b0 :: suite) hp] [] [] pos) (ZN X.K c i tb th):=by
 intro pins s σ H D I h
 refine wpAny_Try_except (wpAny_mono (hb pins _ [] s σ H D (I.tr _) h) (fun f s1 q=>?_) fun e s1 q=>?_)
 ·have q':=q.untr
  cases f with
  | next=>exact wpAny_execs_nil q'
  | brk=>exact q'
  | cont=>exact q'
  | ret u=>exact q'
 ·refine q.note F fun s2 q2=>q2.flight F none fun s3 q3=>?_
  obtain ⟨σ1,H1,a,C,od,T,rfl,I2,ea,eT,nT,fl,C',eC,em,w⟩:=id q3
  cases eC
  refine wpAny_handleBy_cons (codeAny_handlers_test (Bi (I2.hn (.ref a)) hg hm ?_ hdb)) (fun z=>by cases z)
  have LT:PySem.W.Looks (model X.prog X.w) s3.heap (typeOf (.ref a)) (.ref C):=by
   obtain ⟨vs,sl,e⟩:=fl.xa
   exact (PySem.W.Looks.ld e).andThen .now
  refine (PySem.W.exm_one I2.kIn LT em).here ?_
  rw [if_pos rfl]
  refine codeAny_handlers_suite_as (q3.flight F none fun s4 q4=>?_)
  ·obtain ⟨σ1,H1,a',C,od,T,ea',I3,ea,eT,nT,fl,C',eC,em,w⟩:=q4
   cases eC
   cases ea'
   refine Qo (X:=X.hn (.ref a)) (I3.hn (.ref a)) hN hi (.inl hl) (v:=.ref a) (u:=.ref a) rfl (fun s5 I4=>?_) (.inr hl)
   refine wpAny_mono (hh (.ref a) pins s5 _ H1 (D.gone i) I4 (w a ea)) (fun f s5 q5=>?_) fun _ _ z=>False.elim z
   cases f with
   | next=>obtain ⟨σ',H',J,q⟩:=q5;exact qm (J.unhn I.ok) hN hi hl fun s6 I6=>⟨_,_,I6,q⟩
   | brk=>obtain ⟨σ',H',J,q⟩:=q5;exact qm (J.unhn I.ok) hN hi hl fun s6 I6=>⟨_,_,I6,q⟩
   | cont=>obtain ⟨σ',H',J,q⟩:=q5;exact qm (J.unhn I.ok) hN hi hl fun s6 I6=>⟨_,_,I6,q⟩
   | ret u=>obtain ⟨v,σ',H',J,r,q⟩:=q5;exact qm (J.unhn I.ok) hN hi hl fun s6 I6=>⟨v,_,_,I6,r,q⟩
end
theorem uK {X:Cx} {body suite:List Stmt} {b0:Stmt} {x n:Str} {c:Addr} {i:Nat} {tb:(St→XK)→TS} {th:TS} {xp hp pos:Pos} (hb:∀ pins E,∃ t,PSs (X.tr pins (xeT X pins E)) body t∧t=tb E) (hg:Gl X x) (hm:X.mg x=some (.ref c))
  (hh:∀ e,∃ t,PSs (X.hn e) (b0 :: suite) t∧t=th) (hN:X.N.Nodup) (hi:X.N[i]? = some n) (hl:X.env.scope.names.lookup n=some .local) (F:Fr1 X:=by exact ⟨rfl,rfl⟩)
  (hdb:(x == ("__debug__" : Str))=false:=by decide):PS X (.Try body [.ExceptHandler (some (.Name x xp)) (some n) (b0 :: suite) hp] [] [] pos) (ZN X.K c i tb th):=
 yM (fun pins E=>by obtain ⟨t,h,rfl⟩:=hb pins E;exact h) hg hm (fun e=>by obtain ⟨t,h,rfl⟩:=hh e;exact h) hN hi hl F hdb
theorem RI (K:PySem.W.Frag) (c:Addr) (i:Nat) (tb:(St→XK)→TS) (th:TS) (D:lg) (σ:St) (H:Hp):ZN K c i tb th D σ H=tb (WN K c i th D) D σ H:=rfl
theorem gJ (K:PySem.W.Frag) (c:Addr) (i:Nat) (th:TS) (D:lg) (σ:St) (C:Value) (od:Option Addr) (H:Hp) :
  WN K c i th D σ C od H = ∃ C',C=.ref C'∧PySem.W.exmOne K C (.ref c)=some true∧∀ x,H x=some (.ext (XA x C' od))→th (D.gone i) (σ.set i (some (.ref x))) H:=rfl
theorem MJ (D:lg) (i:Nat) (σ:St) (H:Hp):(D.gone i).nx σ H=D.nx (σ.set i none) H:=rfl
theorem gK (D:lg) (i:Nat) (v:V) (H:Hp):(D.gone i).rt v H=D.rt v H:=rfl
theorem OwnTail.has {h:Heap} {bm tl:List Value} {v:Value} (T:OwnTail h bm tl) (e:bm.contains v=true):tl.contains v=true:=by
 induction T with
 | base=>exact e
 | own _ _ _ _ ih=>rw [List.contains_cons,ih,Bool.or_true]
noncomputable def LH (K:PySem.W.Frag) (E:St→XK) (te:TE):TS:=fun D σ H=>te σ H fun v H1=>∃ x C od,v=.ref x∧H1 x=some (.ext (XF x C od))∧cq K C∧E σ (.ref C) od (upd H1 x (.ext (XA x C od)))
theorem oA {M:Model} {A:Around} {E:Value→Shared→Prop} {s:Shared} {env:Env} {x:Sem Value} {Q:Flow→Shared→Prop} (hh:A.handled=none)
  (h:wpAny M A x (fun v s1=>∃ e C od vs sl nm q N bs bm hdct sn sub ab col dd k0 k1 k2 k3 k5 newId,v=.ref e∧bm.contains (.type "BaseException")=true ∧
   s1.heap.get? C=some (excClassObj nm q C N bs bm hdct sn sub ab col dd k0 k1 k2 k3 k5 newId)∧s1.heap.get? e=some ⟨.ref C,od,.fields vs,sl⟩∧vs[1]? = some .none∧E (.ref e) s1) E s) :
  wpAny M A (raiseStmt env (some x) none) Q E s:=by
 unfold raiseStmt
 refine wpAny_bind (wpAny_mono h (fun v s1 h1=>?_) fun _ _ x=>x)
 obtain ⟨e,C,od,vs,sl,nm,q,N,bs,bm,hdct,sn,sub,ab,col,dd,k0,k1,k2,k3,k5,newId,rfl,hb,hC,he,h1,hE⟩:=h1
 have hcB:(Value.ref C :: bm).contains (.type "BaseException")=true:=by rw [List.contains_cons,hb,Bool.or_true]
 obtain ⟨hp,g,d,tk,os⟩:=s1
 repeat (first | with_reducible refine wpAny_loadPart_at he ?_ | with_reducible refine wpAny_loadPart_at hC ?_ | (with_reducible refine wpAny_isSubtype_exc hC ?_;rw [hcB]) | (with_reducible refine wpAny_field he rfl h1 ?_) | wp_step)
 exact wpAny_raiseNew_none hh hE
section
variable {X:Cx} {e:Expr} {te:TE} {pos:Pos} {E:St→XK}
theorem fk (he:PE X e te) (hT:eD X E) (hc:X.calm=true:=by rfl):PS X (.Raise (some e) none pos) (LH X.K E te):=by
 intro pins s σ H D I h
 rw [arm_exec_Raise]
 refine wpAny_bind (wpAny_standAt (oA (I.ok.hd hc) ?_))
 refine wpAny_bind (thn (he pins s σ H _ I h) fun u s1 ⟨v,H1,I1,r,x,C,od,ev,ex,c,q⟩=>wpAny_bind (wpAny_standAt (wpAny_pure ?_)))
 subst ev
 obtain rfl:u=Value.ref x:=r
 obtain ⟨vs,sl,hx,z1,z2⟩:=(show Ad X.prog X.w H1 s1.heap x (.ext (XF x C od)) from I1.hok _ _ ex).1
 obtain ⟨fI,hfI⟩:=c.ex
 obtain ⟨tl,N,nm,q',bs,sn,sub,ab,co,dd,k0,k1,k2,k3,k5,mN,hC,hN,hi,T⟩:=iu I1.kIn hfI
 exact ⟨x,C,od,vs,sl,nm,q',N,bs,tl,true,sn,sub,ab,co,dd,k0,k1,k2,k3,k5,_,rfl,L2.OwnTail.has T (by decide),hC,hx,z2,hT pins σ H1 s1 x C od I1 ex q⟩
theorem PS.nox {X:Cx} {st:Stmt} {t:TS} (h:PS X.nox st t):PS X st t:=fun pins s σ H D I hw=>
 wpAny_mono (h pins s σ H D (I.wish _) hw) (fun _ _ q=>q.unwish) fun _ _ z=>False.elim z
end
theorem Fun.okX {P:Program} {w:World} {K:PySem.W.Frag} {mg:Str→Option Value} {base:Heap} {x qual:Str} {st:Stmt} {f:Addr} {fd:FuncData} {N ps:List Str} {k:Nat} {sp:Sp} (F:Fun K x qual st f fd) (S:wb N ps (jb st))
  (len:∀ vs H Q E,sp vs H Q E→vs.length=ps.length)
  (hbody:∀ (cdv:Value) (A:Around) (outer:List Env) (s:Shared) (H:Hp) (vs:List V) (Q:VK) (E:XK),Nh k (A.deeper (envOfC qual (jb st) s.heap.objs.size f cdv))→sp vs H Q E →
   ∃ t,PSs ((pB (CX1 P w) P w K mg base N qual (jb st) f cdv A outer s H E).wish (xeA (pB (CX1 P w) P w K mg base N qual (jb st) f cdv A outer s H E) fun _=>E)) (ml st) t∧t { nx:=fun _ H'=>Q .non H',rt:=Q } (start N vs) H):Eb P w K mg base (CX1 P w) (k + 1) f fd ps sp:=by
 obtain ⟨oc,od,kV,doc,pm,an,cdv,ct,osl,rfl,lk,hcd⟩:=F.ex
 refine pN lk hcd S len fun A outer s H vs Q E hr hsp=>?_
 obtain ⟨t,h,q⟩:=hbody cdv A outer s H vs Q E hr hsp
 exact ⟨t,fun pins s1 σ H1 D I hw=>wpAny_mono (h pins s1 σ H1 D (I.wish _) hw) (fun _ _ q=>q.unwish) fun _ _ z=>vK z,q⟩
noncomputable def xeB (B:Cx) (E:XK) (e:Value) (s':Shared):Prop:=
 ∃ pins fl σ' H' x C od T,e=.ref x∧Inv B pins σ' H' s'∧H' x=some (.ext (XA x C od))∧H' T=none∧vL B pins T∧B.s₀.heap.objs.size ≤ T∧FlA x C od T fl s'.heap∧E (.ref C) od H'
structure qP (X:Cx) (scope:Scope) (N:List Str) (tg elt:Expr) (ifs:List Expr) (g:TG) (tc:TT) (te:XK→TE):Prop where
 tgt:∀ E C s H fp,PG ((X.block scope C N s H fp).wish (xeB (X.block scope C N s H fp) E)) tg g
 tests:∀ E C s H fp,PTs ((X.block scope C N s H fp).wish (xeB (X.block scope C N s H fp) E)) ifs tc
 elem:∀ E C s H fp,PE ((X.block scope C N s H fp).wish (xeB (X.block scope C N s H fp) E)) elt (te E)
theorem qP.of {X:Cx} {scope:Scope} {N:List Str} {tg elt:Expr} {ifs:List Expr} {g:TG} {tc:TT} {te:XK→TE} (h1:∀ E C s H fp,PG ((X.block scope C N s H fp).wish (xeB (X.block scope C N s H fp) E)) tg g)
  (h2:∀ E C s H fp,∃ t,PTs ((X.block scope C N s H fp).wish (xeB (X.block scope C N s H fp) E)) ifs t∧t=tc) (h3:∀ E C s H fp,∃ t,PE ((X.block scope C N s H fp).wish (xeB (X.block scope C N s H fp) E)) elt t∧t=te E):qP X scope N tg elt ifs g tc te:=
 ⟨h1,fun E C s H fp=>by obtain ⟨t,h,rfl⟩:=h2 E C s H fp;exact h,fun E C s H fp=>by obtain ⟨t,h,e⟩:=h3 E C s H fp;rw [← e];exact h⟩
noncomputable def ML (J:It) (g:TG) (tc:TT) (te:TE) (σb:St) (Q:VK) (H:Hp):Prop:=∃ W:Nat→Nat→List V→Hp→Prop,(∃ m,W 0 m [] H)∧Rw J g tc te σb Q W
noncomputable def jN (wi:TI) (g:TG) (tc:TT) (te:XK→TE) (sel:List (Option Nat)) (E:St→XK):TE:=fun σ H Q=>wi σ H fun J H1=>ML J g tc (te (E σ)) (blk sel σ) Q H1
section
variable {X:Cx} {elt tg iter:Expr} {ifs:List Expr} {scope:Scope} {pos:Pos} {wi:TI} {g:TG} {tc:TT} {te:XK→TE} {N:List Str} {sel:List (Option Nat)}
theorem FlA.but {x C T c:Addr} {od:Option Addr} {fl:Value} {h h':Heap} (z:FlA x C od T fl h) (n1:x ≠ c) (n2:T ≠ c) (k:∀ b,b ≠ c→h'.get? b=h.get? b):FlA x C od T fl h':=by
 obtain ⟨ne,vs,sl,oT,ts,he,h1,hT,hd,h3⟩:=z
 exact ⟨ne,vs,sl,oT,ts,(k _ n1).trans he,h1,(k _ n2).trans hT,hd,h3⟩
end
structure mP (K:PySem.W.Frag) (C:Addr):Prop where
 cl:Cls K C
 ha:PySem.W.findIn K (.ref C) "__class__"=some (some (.builtin "object.__class__"))
 hn:PySem.W.specialIn K (.builtin "object.__class__") "__get__"=some (some (.builtin "getset_descriptor.__get__"))
 htk:PySem.W.takesIn K (.builtin "object.__class__")=some true
 hm:PySem.W.mroIn K C (.type "object")=some true
theorem mP.ty {K:PySem.W.Frag} {H:Hp} {C a dx:Addr} {fs:List (Str × V)} (c:mP K C) (e:H a=some (.ins C dx fs)):Oy K H (.ref a) (.ref C):=.ins e c.cl c.ha c.hn c.htk c.hm
end L2
namespace L2
open PySem PySem.Spec PyProof.Rows
noncomputable def Itd (hi:Int) (n:Nat):It:=⟨fun i _=>i < n,fun i H x H'=>H'=H∧x=.int (hi - i),fun i _=>n ≤ i⟩
theorem cD {P:Program} {w:World} {K:PySem.W.Frag} {tg:Expr} (it:Addr) (hi:Int) (n:Nat):vH P w K tg (Itd hi n) [it] it (fun i h=>IsRangeIter h it (hi + (i:Nat) * (-1)) ((n:Int) - (i:Nat)) (-1)) where
 mem:=by simp
 obj:=fun i h st b hb=>by
  have e:b=it:=by simpa using hb
  subst e
  exact ⟨_,st,fun v z=>by
   have z':Data.fields _=Data.cell v:=z
   cases z'⟩
 keep:=fun i h h' st k=>k it (by simp) _ st
 item:=by
  intro X hP hw hK hc i pins s σ H E I hf st hg
  subst hP hw hK
  obtain ⟨f0,f1,f2,f3,f4,f5⟩:=hf it (by simp)
  have W:=Walks.range (prog:=X.prog) (w:=X.w) (I.ok.hd hc) it hi (-1) n
  refine W.item i s _ _ hg st fun v h' tk hv st' kk=>?_
  obtain ⟨t,rfl⟩:=hv
  have I1:Inv X pins σ H { s with heap:=h',toks:=tk }:=I.turned (fun b o hb e=>kk b o (by simpa using hb) e) f0 f1 f3 f4 f5
  refine ⟨_,rfl,oC (s:={ s with heap:=h',toks:=tk }) (n := "range_iterator") st' rfl rfl (by decide) ⟨.int (hi - i),H,I1,⟨t,?_⟩,⟨rfl,rfl⟩,st',fun b hb=>(hf b hb).1⟩⟩
  congr 1
  omega
 done:=by
  intro X hP hw hK hc i pins s σ H E I hf st hg
  subst hP hw hK
  obtain ⟨f0,f1,f2,f3,f4,f5⟩:=hf it (by simp)
  exact wpAny_pyNext_range_end (I.ok.hd hc) st (by have:n ≤ i:=hg;omega) fun h' eb=>⟨rfl,I.turned (t':=s.toks) (fun b o hb e=>eb b o hb e) f0 f1 f3 f4 f5⟩
 self:=fun _ _ _ _ _ st h=>wpAny_pyIter_rangeiter st h
theorem Qk (a b:Int):Builtin.Range.rangeSize a b (-1)=if b < a then a - b else 0:=by
 unfold Builtin.Range.rangeSize
 rw [if_neg (show ¬ (-1:Int) > 0 by decide),show (- -1:Int)=1 by decide,Int.ediv_one]
 show (if b < a then a - b - 1 + 1 else 0)=_
 split <;> omega
theorem GA {a b:Int} (ha:-(2 ^ 62) ≤ a) (ha':a < 2 ^ 62) (hb:-(2 ^ 62) ≤ b) (hb':b < 2 ^ 62):Builtin.Range.small a b (-1)=true:=by
 unfold Builtin.Range.small
 rw [Qk]
 simp only [Builtin.Range.rangeFitsLong,Bool.and_eq_true,Bool.or_eq_true,decide_eq_true_eq,beq_iff_eq,show ¬ (-1:Int) > 0 by decide,if_false]
 split <;> omega
section
variable {X:Cx} {tg:Expr}
noncomputable def KM (ta:TA):TI:=fun σ H R=>ta σ H fun vs H1=>∃ i j:Int,vs=[.int i,.int j,.int (-1)]∧(-1073741824 ≤ i∧i < 1073741824∧-1073741824 ≤ j∧j < 1073741824)∧R (Itd i (i - j).toNat) H1
theorem vD {a b c:Expr} {ta:TA} {p pos:Pos} (hg:Gl X "range") (hm:X.mg "range"=none) (ha:PA X [a,b,c] ta) (hs:starEach [a,b,c] X.env=[(false,eval a X.env),(false,eval b X.env),(false,eval c X.env)]:=by rfl) (hs2:starEach [b,c] X.env=[(false,eval b X.env),(false,eval c X.env)]:=by rfl) :
  PI X tg (.Call (.Name "range" p) [a,b,c] [] pos) (KM ta):=by
 intro pins s σ H R I h
 refine Call_ (Tm I hg hm boot_range (PyProof.Rows.callWith_type1 (thn (ha pos pins s σ H _ I h) fun us s1 ⟨vs,H1,I1,r1,q1⟩=>?_) (by rw [hs,hs2]) (by rw [hs2];rfl)))
 obtain ⟨i,j,e,⟨q1,q2,q3,q4⟩,q⟩:=q1
 subst e
 cases r1 with
 | cons r rr=>
  cases rr with
  | cons r' rr=>
   cases rr with
   | cons r'' rr=>
    cases rr
    obtain ⟨t,rfl⟩:=r
    obtain ⟨t',rfl⟩:=r'
    obtain ⟨t'',rfl⟩:=r''
    refine call_range_3 (by decide) ?_ (Or.inl (PyProof.noPylong_small (by omega)))
    refine wpAny_pyIter_range (IsRange.new ..) (GA (by omega) (by omega) (by omega) (by omega)) ?_
    have I2:Inv X pins σ H1 { s1 with heap:=s1.heap.push { cls:=.type "range",data:=.fields #[.int i t,.int j t',.int (-1) t''] },toks:=s1.toks }:=I1.kept fun b o e=>Heap.get?_push_of_some _ e
    refine ⟨(s1.heap.push { cls:=.type "range",data:=.fields #[.int i t,.int j t',.int (-1) t''] }).objs.size,[(s1.heap.push { cls:=.type "range",data:=.fields #[.int i t,.int j t',.int (-1) t''] }).objs.size],_,_,H1,rfl,
     I2.kept (t':=s1.toks) fun b o e=>Heap.get?_push_of_some _ e,cD _ i (i - j).toNat,?_,fun b hb=>?_,q⟩
    ·have e1:i + ((0:Nat):Int) * (-1)=i:=by simp
     have e2:(((i - j).toNat:Nat):Int) - ((0:Nat):Int)=Builtin.Range.rangeSize i j (-1):=by rw [Qk];split <;> omega
     show IsRangeIter _ _ (i + ((0:Nat):Int) * (-1)) ((((i - j).toNat:Nat):Int) - ((0:Nat):Int)) (-1)
     rw [e1,e2]
     exact Heap.get?_push_size _ rfl
    ·have e:b=(s1.heap.push { cls:=.type "range",data:=.fields #[.int i t,.int j t',.int (-1) t''] }).objs.size:=by simpa using hb
     subst e
     exact I2.fpOk (Nat.le_refl _) (I2.hok.fresh (Nat.le_refl _))
end
theorem CA:typeLookup (.type "list_reverseiterator") "__len__"=pure none:=by rw [typeLookup_type,builtinLookup_eq_fast];kernel_rfl
theorem Ev:typeLookup (.type "list_reverseiterator") "__length_hint__"=pure (some (.builtin "list_reverseiterator.__length_hint__")):=by rw [typeLookup_type,builtinLookup_eq_fast];kernel_rfl
section
variable {prog:Program} {w:World} {A:Around} {E:Value→Shared→Prop} {s:Shared} {it l:Addr} {items:Array Value}
theorem UF (hT:s.TypeIs (.ref it) "list_reverseiterator") {Q:Bool→Shared→Prop} (h:Q false s):wpAny (model prog w) A (Builtin.List.listLengthHint (.ref it)) Q E s:=by
 unfold Builtin.List.listLengthHint
 refine wpAny_bind (wpAny_specialOf hT CA ?_)
 show wpAny _ A (specialOf (Value.ref it) (Str.ofString "__length_hint__") >>= _) _ _ _
 refine wpAny_bind (wpAny_specialOf hT Ev ?_)
 generalize hid:("list_reverseiterator.__length_hint__" : String)=id0
 wp_delta
 rw [show splitId id0=some ("list_reverseiterator","__length_hint__") from by subst hid;decide +kernel]
 subst hid
 refine wpAny_bind (wpAny_isInstance (T := "list_reverseiterator") (b:=true) hT (by rw [isSubtype_type];kernel_rfl) ?_)
 refine wpAny_ite_split (fun hab=>absurd hab (by decide)) (fun _=>?_)
 refine wpAny_ite_split (fun _=>?_) (fun hab=>absurd (by decide +kernel) hab)
 refine wpAny_ite_split (fun hab=>absurd hab (by decide +kernel)) (fun _=>?_)
 exact wpAny_pure h
noncomputable abbrev gL (items:Array Value):Nat→Value→Prop:=fun i v=>items[items.size - 1 - i]? = some v
theorem dA {R:Result→Shared→Prop} (hh:A.handled=none) (hit:s.heap.IsRevIter it l ((items.size:Int) - 1 - ((0:Nat):Int))) (hl:s.heap.IsList l items) (hne:l ≠ it) (S:Addr) (hSi:S ≠ it) (hSl:S ≠ l) (res:Value) (c₀:Nat)
  (hS:s.heap.get? S=some { cls:=.type "list",data:=.seq #[] c₀ }) (hn:items.size ≤ sizeLine)
  (hR:∀ h' tk acc c,(∀ b o,b ≠ S→b ≠ it→s.heap.get? b=some o→h'.get? b=some o)→h'.get? S=some { cls:=.type "list",dict:=none,data:=.seq acc c,slots:=#[] }→ItemsOf (gL items) acc items.size→R (.ok (.ret res)) { s with heap:=h',toks:=tk }) :
  wpAny (model prog w) A.in1 (Builtin.List.listExtendWith (.ref S) (.ref it) res)
   (fun fin s'=>match fin with | .done f=>R (.ok f) s' | .again c'=>c'.quiet=true∧codeAny (model prog w) A c' R s') (fun e s'=>R (.error e) s') s:=by
 unfold Builtin.List.listExtendWith
 refine wpAny_bind (wpAny_typeOf hit.typeIs ?_)
 have h1:Builtin.List.listSameRef (.ref S) (.ref it)=false:=by simp [Builtin.List.listSameRef,hSi]
 have h2:(Value.type "list_reverseiterator" == Value.type "list")=false:=by decide
 have h3:(Value.type "list_reverseiterator" == Value.type "tuple")=false:=by decide
 simp only [h1,h2,h3,Bool.or_false,Bool.false_eq_true,if_false]
 refine wpAny_bind (wpAny_pyIter_revIter hit ?_)
 refine wpAny_bind (wpAny_holding (UF hit.typeIs ?_))
 refine wpAny_ite_split (fun hab=>absurd hab (by decide +kernel)) (fun _=>?_)
 have W:=Walks.listRev (prog:=prog) (w:=w) (A:=A.in1) hh it l hne items
 have hSf:S ∉ [it,l]:=by simp only [List.mem_cons,List.not_mem_nil,or_false,not_or];exact ⟨hSi,hSl⟩
 refine wpAny_pure ⟨plainId_quiet PySem.F.plain_extend_loop _,codeAny_extend_loopS W.toS hn S hSf res items.size 0 s #[] c₀ rfl (Nat.zero_le _) ⟨Nat.zero_le _,hit,hl⟩ hS (ItemsOf.nil _) fun s' acc c hm hS' hacc=>?_⟩
 rw [Moved.eq_with hm]
 refine hR s'.heap s'.toks acc c (fun b o hb hi e=>hm.heap b o (fun hmem=>?_) e) hS' hacc
 rcases List.mem_cons.mp hmem with e' | hmem
 ·exact hb e'
 ·exact hi (List.mem_singleton.mp hmem)
theorem Ju {Q:Value→Shared→Prop} (hh:A.handled=none) (hit:s.heap.IsRevIter it l ((items.size:Int) - 1 - ((0:Nat):Int))) (hl:s.heap.IsList l items) (hne:l ≠ it) (hn:items.size ≤ sizeLine)
  (hQ:∀ h' tk acc c,(∀ b o,b ≠ it→s.heap.get? b=some o→h'.get? b=some o)→h'.get? s.heap.objs.size=some { cls:=.type "list",dict:=none,data:=.seq acc c,slots:=#[] }→ItemsOf (gL items) acc items.size→Q (.ref s.heap.objs.size) { s with heap:=h',toks:=tk }) :
  wpAny (model prog w) A (call (.type "list") [.ref it]) Q E s:=by
 have li:it < s.heap.objs.size:=by obtain ⟨_,e,_⟩:=hit;exact Heap.lt_size e
 have ll:l < s.heap.objs.size:=by obtain ⟨_,e,_⟩:=hl;exact Heap.lt_size e
 refine callType_codes (Q₁:=fun obj s₁=>obj=.ref s.heap.objs.size∧s₁ = { s with heap:=s.heap.push { cls:=.type "list",data:=.seq #[] } }) PySem.F.called_list (PySem.F.typeCall_list_1 _) PySem.F.entry_list_init
  (code_list_new _ ⟨rfl,rfl⟩) fun obj s₁ h₁=>?_
 obtain ⟨rfl,rfl⟩:=h₁
 have hS:(s.heap.push { cls:=.type "list",data:=.seq #[] }).get? s.heap.objs.size=some { cls:=.type "list",data:=.seq #[] }:=Heap.get?_push_size _ rfl
 refine ⟨⟨_,hS,rfl⟩,PySem.F.args_list_init_2 _ _,?_⟩
 show wpAny _ _ (do let old ← Builtin.List.listItems (.ref s.heap.objs.size);Builtin.List.listUpdate (.ref s.heap.objs.size) (fun _=>#[]);letGo old.toList.reverse;Builtin.List.listExtendWith (.ref s.heap.objs.size) (.ref it) .none) _ _ _
 refine wpAny_bind ?_
 unfold Builtin.List.listItems
 refine wpAny_bind (wpAny_seqItems hS rfl (wpAny_pure ?_))
 show wpAny _ _ (updateSeq s.heap.objs.size (fun _=>#[]) >>= fun _=>letGo (#[]:Array Value).toList.reverse >>= fun _=>Builtin.List.listExtendWith (.ref s.heap.objs.size) (.ref it) .none) _ _ _
 refine wpAny_bind (wpAny_updateSeq hS rfl ?_)
 have hS₂:=Heap.get?_update_self (Obj.mapSeq (fun _=>(#[]:Array Value))) hS rfl
 have oth:∀ b o,s.heap.get? b=some o→((s.heap.push { cls:=.type "list",data:=.seq #[] }).update s.heap.objs.size (Obj.mapSeq (fun _=>(#[]:Array Value)))).get? b=some o:=
  fun b o e=>(Heap.get?_update_other _ _ (Ne.symm (Nat.ne_of_lt (Heap.lt_size e)))).trans (Heap.get?_push_of_some _ e)
 refine wpAny_bind (wpAny_letGo ?_)
 refine dA (A:=A.in1) hh (hit.at fun o e=>oth _ o e) (hl.at fun o e=>oth _ o e) hne _ (Ne.symm (Nat.ne_of_lt li)) (Ne.symm (Nat.ne_of_lt ll)) .none _ hS₂ hn fun h' tk acc c hk hS' hacc=>?_
 exact ⟨rfl,hQ h' tk acc c (fun b o hb e=>hk b o (Nat.ne_of_lt (Heap.lt_size e)) hb (oth b o e)) hS' hacc⟩
end
section
variable {X:Cx}
noncomputable def Wy (K:PySem.W.Frag) (ta:TA):TE:=fun σ H Q=>ta σ H fun vs H1=>∃ a xs,vs=[.ref a]∧SqL K H1 a xs∧∀ l,H1 l=none→Q (.ref l) (upd H1 l (.lst xs.reverse))
theorem xn {a:Expr} {ta:TA} {p q pos pos':Pos} (hc:X.calm=true) (hg:Gl X "list") (hm:X.mg "list"=none) (hg':Gl X "reversed") (hm':X.mg "reversed"=none) (ha:PA X [a] ta) (hs:starEach [a] X.env=[(false,eval a X.env)]:=by rfl)
  (hs2:starEach [Expr.Call (.Name "reversed" q) [a] [] pos'] X.env=(false,eval (Expr.Call (.Name "reversed" q) [a] [] pos') X.env) :: starEach [] X.env:=by rfl) :
  PE X (.Call (.Name "list" p) [.Call (.Name "reversed" q) [a] [] pos'] [] pos) (Wy X.K ta):=by
 intro pins s σ H Q I h
 refine wpAny_Call_Name_kw (Tm I hg hm bx ?_)
 refine PyProof.Rows.callWith_type1 ?_ hs2 rfl
 rw [hs2]
 show wpAny _ _ (spliced ((false,eval (Expr.Call (.Name "reversed" q) [a] [] pos') X.env) :: [])) _ _ s
 refine Calls.spliced_cons ?_
 refine Call_ (Tm I hg' hm' Pu (PyProof.Rows.callWith_type1 (thn (ha pos' pins s σ H _ I h) fun us s1 ⟨vs,H1,I1,r1,q1⟩=>?_) hs rfl))
 obtain ⟨a,xs,e,hq,q⟩:=q1
 subst e
 cases r1 with
 | cons r rr=>
  cases rr
  cases r
  obtain ⟨its,rv,pl,hz⟩:=I1.list hq
  have hl:=rv.length
  have hlt:a < s1.heap.objs.size:=by obtain ⟨_,e,_⟩:=pl.isList;exact Heap.lt_size e
  refine call_reversed_list pl.isList ?_
  refine Calls.spliced_nil ?_
  have hit:(s1.heap.push (revObj a ((its.toArray.size:Int) - 1))).IsRevIter s1.heap.objs.size a ((its.toArray.size:Int) - 1 - ((0:Nat):Int)):=by
   refine ⟨_,Heap.get?_push_size _ rfl,rfl,?_⟩
   simp only [revObj]
   simp
  have kp:∀ b o,s1.heap.get? b=some o→(s1.heap.push (revObj a ((its.toArray.size:Int) - 1))).get? b=some o:=fun b o e=>Heap.get?_push_of_some _ e
  refine Ju (I1.ok.hd hc) hit (pl.isList.at fun o e=>kp _ o e) (Nat.ne_of_lt hlt) (by rw [List.size_toArray];omega) fun h' tk acc c hk e' hacc=>?_
  refine ⟨.ref _,_,I1.laid (o:=.lst xs.reverse) (t':=tk) (fun b u e=>hk b u (Nat.ne_of_lt (Heap.lt_size e)) (kp b u e)) (by rw [Heap.size_push];exact Nat.le_succ _) ⟨by rw [List.length_reverse];omega,acc.toList,c,?_,e'⟩,rfl,q _ (I1.hok.fresh (by rw [Heap.size_push];exact Nat.le_succ _))⟩
  have hv:=cA (f:=fun i=>xs.getD (xs.length - 1 - i) .non) (fun i v hv=>by
   have hv':its.toArray[its.toArray.size - 1 - i]? = some v:=hv
   rw [List.size_toArray,← hl,List.getElem?_toArray] at hv'
   have hj:=(List.getElem?_eq_some_iff.mp hv').1
   have hx:xs[xs.length - 1 - i]? = some xs[xs.length - 1 - i]:=List.getElem?_eq_getElem (by omega)
   obtain ⟨w,hw,rw'⟩:=rv.get hx
   rw [hv'] at hw
   cases hw
   rw [List.getD_eq_getElem?_getD,hx]
   exact rw') hacc
  have er:(List.range its.toArray.size).map (fun i=>xs.getD (xs.length - 1 - i) .non)=xs.reverse:=by
   rw [List.size_toArray,← hl]
   refine List.ext_getElem (by simp) fun i h1 h2=>?_
   rw [List.getElem_map,List.getElem_range,List.getElem_reverse,List.getD_eq_getElem?_getD,List.getElem?_eq_getElem (by simp at h2;omega)];rfl
  rw [er] at hv
  exact hv
end
section
variable {prog:Program} {w:World} {A:Around} {R:Result→Shared→Prop} {I:Addr} {fp wr:List Addr} {n:Nat} {P:Nat→Value→Prop} {St:Nat→Heap→Prop}
noncomputable def cM (P:Nat→Value→Prop) (bt:Nat→Nat→Bool) (j:Nat) (acc:Array Value):Prop:=(j=0∧acc=#[])∨∃ vb i,j=i + 1∧acc=#[vb,vb]∧P (argBest bt i) vb
theorem IC (W:Walks prog w A.in1 I fp wr n P St) (bt:Nat→Nat→Bool) (hcmp:CmpOf prog w A.in1 .Lt P bt) (S:Addr) (hSf:S ∉ fp) (dv:Value) (kn:Str) :
  ∀ (k j:Nat) (s:Shared) (acc:Array Value) (c:Nat),n - j=k→j ≤ n→St j s.heap→cM P bt j acc →
  s.heap.get? S=some { cls:=.type "list",dict:=none,data:=.seq acc c,slots:=#[] } →
  (∀ v h' tk,(n=0∧v=dv)∨(0 < n∧P (argBest bt (n - 1)) v)→(∀ b o,b ∉ wr→b ≠ S→s.heap.get? b=some o→h'.get? b=some o)→R (.ok (.ret v)) { s with heap:=h',toks:=tk }) →
  codeAny (model prog w) A (.builtin "min.loop" ⟨[.ref I,.none,.ref S],[(kn,dv)]⟩) R s:=by
 have hSw:S ∉ wr:=fun h=>hSf (W.sub _ h)
 have hname:(toString "min" ++ toString ".loop" : String) = "min.loop" := by decide
 intro k
 induction k with
 | zero=>
  intro j s acc c hk hj hst hB hS hR
  have hin:j=n:=by omega
  refine codeAny_builtin PySem.F.entry_min_loop ?_
  rw [Around.under_plainId PySem.F.plain_min_loop _]
  show wpAny _ A.in1 (seqItems? (.ref S) >>= _) _ _ s
  refine wpAny_bind (wpAny_seqItems hS rfl ?_)
  show wpAny _ A.in1 (tryCatch (pyNext (.ref I)) _ >>= _) _ _ s
  refine wpAny_bind (wpAny_tryCatch (W.done s _ _ (hin ▸ hst) fun h' tk hk'=>?_))
  have hS':=hk' S _ hSw hS
  rcases hB with ⟨h0,rfl⟩ | ⟨vb,i,hi,rfl,hP⟩
  ·show wpAny _ A.in1 (rule _ >>= _) _ _ _
   refine wpAny_bind (wpAny_rule (wpAny_pure ?_))
   exact hR dv h' tk (.inl ⟨by omega,rfl⟩) fun b o hbw hbS e=>hk' b o hbw e
  ·show wpAny _ A.in1 (updateSeq S (fun _=>#[]) >>= _) _ _ _
   refine wpAny_bind ?_
   refine wpAny_updateSeq hS' rfl (wpAny_bind (wpAny_letGo (wpAny_pure ?_)))
   refine hR vb _ tk (.inr ⟨by omega,by rw [show n - 1=i by omega];exact hP⟩) fun b o hbw hbS e=>(Heap.get?_update_other _ _ (Ne.symm hbS)).trans (hk' b o hbw e)
 | succ k ih=>
  intro j s acc c hk hj hst hB hS hR
  have hlt:j < n:=by omega
  refine codeAny_builtin PySem.F.entry_min_loop ?_
  rw [Around.under_plainId PySem.F.plain_min_loop _]
  show wpAny _ A.in1 (seqItems? (.ref S) >>= _) _ _ s
  refine wpAny_bind (wpAny_seqItems hS rfl ?_)
  show wpAny _ A.in1 (tryCatch (pyNext (.ref I)) _ >>= _) _ _ s
  refine wpAny_bind (wpAny_tryCatch (W.item j s _ _ hlt hst fun v h' tk hP hst' hk'=>?_))
  have hS':=hk' S _ hSw hS
  have put:∀ h'':Heap,h''=h'.update S (Obj.mapSeq (fun _=>#[v,v]))→St (j + 1) h'':=fun h'' e=>by
   subst e
   exact W.frame _ _ _ hst' fun b hbf o e=>(Heap.get?_update_other _ _ (fun h:S=b=>hSf (by rw [h];exact hbf))).trans e
  rcases hB with ⟨h0,rfl⟩ | ⟨vb,i,hi,rfl,hPb⟩
  ·show wpAny _ A.in1 (updateSeq S (fun _=>#[v,v]) >>= _) _ _ _
   refine wpAny_bind ?_
   refine wpAny_updateSeq hS' rfl ?_
   rw [hname]
   refine wpAny_pure ⟨plainId_quiet PySem.F.plain_min_loop _,ih (j + 1) _ #[v,v] _ (by omega) hlt (put _ rfl) (.inr ⟨v,j,rfl,rfl,by subst h0;exact hP⟩) (Heap.get?_update_self _ hS' rfl) fun v' h'' tk'' hP' hk''=>?_⟩
   exact hR v' h'' tk'' hP' fun b o hbw hbS e=>hk'' b o hbw hbS ((Heap.get?_update_other _ _ (Ne.symm hbS)).trans (hk' b o hbw e))
  ·subst hi
   show wpAny _ A.in1 (tryCatch (holding [v,v] (richCompare .Lt v vb >>= _)) _ >>= _) _ _ _
   refine wpAny_bind (wpAny_tryCatch (wpAny_holding (wpAny_bind (hcmp (i + 1) (argBest bt i) v vb _ _ _ hP hPb ?_))))
   refine wpAny_bind (wpAny_holding (wpAny_truthy_bool ?_))
   refine wpAny_bind (wpAny_letGo (wpAny_pure ?_))
   cases hb:bt (i + 1) (argBest bt i) with
   | true=>
    simp only [if_true]
    refine wpAny_bind ?_
    refine wpAny_updateSeq hS' rfl (wpAny_bind (wpAny_letGo ?_))
    rw [hname]
    refine wpAny_pure ⟨plainId_quiet PySem.F.plain_min_loop _,ih (i + 1 + 1) _ #[v,v] _ (by omega) hlt (put _ rfl) (.inr ⟨v,i + 1,rfl,rfl,by simp only [argBest,hb,if_true];exact hP⟩) (Heap.get?_update_self _ hS' rfl) fun v' h'' tk'' hP' hk''=>?_⟩
    exact hR v' h'' tk'' hP' fun b o hbw hbS e=>hk'' b o hbw hbS ((Heap.get?_update_other _ _ (Ne.symm hbS)).trans (hk' b o hbw e))
   | false=>
    simp only [Bool.false_eq_true,if_false]
    refine wpAny_bind (wpAny_letGo ?_)
    rw [hname]
    refine wpAny_pure ⟨plainId_quiet PySem.F.plain_min_loop _,ih (i + 1 + 1) _ #[vb,vb] c (by omega) hlt hst' (.inr ⟨vb,i + 1,rfl,rfl,by simp only [argBest,hb,Bool.false_eq_true,if_false];exact hPb⟩) hS' fun v' h'' tk'' hP' hk''=>?_⟩
    exact hR v' h'' tk'' hP' fun b o hbw hbS e=>hk'' b o hbw hbS (hk' b o hbw e)
end
section
variable {prog:Program} {w:World} {A:Around} {E:Value→Shared→Prop} {s:Shared}
theorem YC (a d:Value):argsOk "min" ⟨[a],[(Str.ofString "default",d)]⟩:=by unfold argsOk;kernel_rfl
theorem HD {l:Addr} {its:Array Value} {dv:Value} {Q:Value→Shared→Prop} (hh:A.handled=none) (hl:s.heap.IsList l its) (ks:List Int) (hk:its.size=ks.length) (hv:∀ (i:Nat) (v:Value),its[i]? = some v→∃ t,v=Value.int (ks.getD i 0) t)
  (hQ:∀ v h' tk,(ks=[]∧v=dv)∨(∃ m t,ks.min? = some m∧v=.int m t)→(∀ b o,s.heap.get? b=some o→h'.get? b=some o)→Q v { s with heap:=h',toks:=tk }) :
  wpAny (model prog w) A (call (.builtin "min") [.ref l] [(Str.ofString "default",dv)]) Q E s:=by
 have hname:(toString "min" ++ toString ".loop" : String) = "min.loop" := by decide
 have hlt:l < s.heap.objs.size:=by obtain ⟨_,e,_⟩:=hl;exact Heap.lt_size e
 refine wpAny_call (codeAny_call_builtin PySem.F.plain_min PySem.F.entry_min ?_)
 simp only [checkBuiltinCall,PySem.F.kind_min]
 have key:wpAny (model prog w) A.in1 (Builtin.«min» ⟨[.ref l],[(Str.ofString "default",dv)]⟩) (fun fin s'=>match fin with
   | .done f=>(match (Except.ok f:Result) with | .ok (.ret v)=>Q v s' | .ok _=>False | .error e=>E e s')
   | .again c'=>c'.quiet=true∧codeAny (model prog w) A c' (fun r s'=>match r with | .ok (.ret v)=>Q v s' | .ok _=>False | .error e=>E e s') s') E s:=by
  show wpAny _ A.in1 (Builtin.Builtins.bindParams "min" ["key","default"] 0 ⟨[],[(Str.ofString "default",dv)]⟩ >>= _) _ _ s
  refine wpAny_bind (wpAny_of_eq (show Builtin.Builtins.bindParams "min" ["key","default"] 0 ⟨[],[(Str.ofString "default",dv)]⟩=pure [none,some dv] from rfl) ?_)
  refine wpAny_bind (wpAny_pure ?_)
  refine wpAny_bind (wpAny_pyIter_list hl ?_)
  refine wpAny_bind (wpAny_newObj_type ?_)
  rw [hname]
  have W:=Walks.list (prog:=prog) (w:=w) (A:=A.in1) hh s.heap.objs.size l (Nat.ne_of_lt hlt) its
  have hz1:(s.heap.push { cls:=.type "list_iterator",data:=.fields #[.ref l,.int 0 0] }).objs.size=s.heap.objs.size + 1:=Heap.size_push ..
  refine wpAny_pure ⟨plainId_quiet PySem.F.plain_min_loop _,IC W _ (CmpOf.ints_lt (fun i=>ks.getD i 0) fun i v h=>hv i v h) _ ?_ dv _ its.size 0 _ #[] _ rfl (Nat.zero_le _) ?_ (.inl ⟨rfl,rfl⟩) (Heap.get?_push_size _ rfl) fun v h' tk hP hk'=>?_⟩
  ·show (s.heap.push _).objs.size ∉ _
   rw [hz1]
   simp only [List.mem_cons,List.not_mem_nil,or_false,not_or]
   exact ⟨Nat.succ_ne_self _,Ne.symm (Nat.ne_of_lt (Nat.lt_succ_of_lt hlt))⟩
  ·exact W.frame 0 (s.heap.push { cls:=.type "list_iterator",data:=.fields #[.ref l,.int 0 0] }) _ ⟨⟨_,Heap.get?_push_size _ rfl,rfl,rfl⟩,hl.push _⟩ fun b _ o e=>Heap.get?_push_of_some _ e
  ·refine hQ v h' tk ?_ fun b o e=>hk' b o (fun hm=>?_) ?_ (Heap.get?_push_of_some _ (Heap.get?_push_of_some _ e))
   ·rcases hP with ⟨h0,h1⟩ | ⟨h0,h1⟩
    ·exact .inl ⟨List.length_eq_zero_iff.mp (by omega),h1⟩
    ·obtain ⟨t,e⟩:=hv _ v h1
     have hb:=argBest_lt (fun i=>ks.getD i 0) (its.size - 1)
     refine .inr ⟨_,t,?_,e⟩
     rw [List.min?_eq_some_iff]
     have hi:argBest (fun i j=>decide (ks.getD i 0 < ks.getD j 0)) (its.size - 1) < ks.length:=by omega
     refine ⟨?_,fun b hb'=>?_⟩
     ·rw [List.getD_eq_getElem?_getD,List.getElem?_eq_getElem hi]
      exact List.getElem_mem hi
     ·obtain ⟨j,hj,rfl⟩:=List.getElem_of_mem hb'
      have:=hb.2 j (by omega)
      rw [List.getD_eq_getElem?_getD (i:=j),List.getElem?_eq_getElem hj] at this
      exact this
   ·rw [List.mem_singleton.mp hm] at e
    exact absurd (Heap.lt_size e) (Nat.lt_irrefl _)
   ·rw [hz1]
    exact Nat.ne_of_lt (Nat.lt_succ_of_lt (Heap.lt_size e))
 cases hsig:Manifest.signature? "min" with
 | none=>exact wpAny_pure key
 | some sig=>
  have ha:=YC (.ref l) dv
  have ha':Bind.checkArgs "min" sig ⟨[.ref l],[(Str.ofString "default",dv)]⟩=pure ():=by simpa only [argsOk,hsig] using ha
  simp only [ha']
  exact wpAny_pure key
end
section
variable {X:Cx}
noncomputable def OL (K:PySem.W.Frag) (ta:TA) (td:TE):TE:=fun σ H Q=>ta σ H fun vs H1=>td σ H1 fun y H2=>∃ l ks,vs=[.ref l]∧SqL K H2 l (List.map V.int ks)∧Q (match ks.min? with | some m=>.int m | none=>y) H2
theorem SJ {a d:Expr} {ta:TA} {td:TE} {p kp pos:Pos} (hc:X.calm=true) (hg:Gl X "min") (hm:X.mg "min"=none) (ha:PA X [a] ta) (hd:PE X d td)
  (he:∀ pos,backTo pos (starEach [a] X.env)=(false,eval a X.env) :: backTo pos (starEach [] X.env):=by intro _;rfl) (hpl:∀ pos,(backTo pos (starEach [a] X.env)).any (·.1)=false:=by intro _;rfl) :
  PE X (.Call (.Name "min" p) [a] [⟨some "default",d,kp⟩] pos) (OL X.K ta td):=by
 intro pins s σ H Q I h
 refine wpAny_Call_Name_kw (Tm I hg hm (show bootBuiltins "min"=some (.builtin "min") by decide +kernel) ?_)
 refine callWith_kw (id := "min") (thn (ha pos pins s σ H _ I h) fun us s1 ⟨vs,H1,I1,r1,q1⟩=>?_) (he:=he pos) (hplain:=hpl pos)
 refine kws_cons (thn (hd pins s1 σ H1 _ I1 q1) fun v s2 ⟨y,H2,I2,r2,q2⟩=>kws_nil ?_)
 obtain ⟨l,ks,rfl,hq,q⟩:=q2
 cases r1 with
 | cons r rr=>
  cases rr
  cases r
  obtain ⟨its,rv,pl,hz⟩:=I2.list hq
  have hl:=rv.length
  rw [List.length_map] at hl
  refine HD (I2.ok.hd hc) pl.isList ks (by rw [List.size_toArray];omega) (fun i v hv=>?_) fun v' h' tk hv' hk=>⟨_,H2,I2.kept hk,?_,q⟩
  ·rw [List.getElem?_toArray] at hv
   have hi:i < ks.length:=by have:=(List.getElem?_eq_some_iff.mp hv).1;omega
   obtain ⟨w,hw,rw'⟩:=rv.get (show (ks.map V.int)[i]? = some (.int ks[i]) by rw [List.getElem?_map,List.getElem?_eq_getElem hi];rfl)
   rw [hv] at hw
   cases hw
   rw [List.getD_eq_getElem?_getD,List.getElem?_eq_getElem hi]
   exact rw'
  ·rcases hv' with ⟨rfl,rfl⟩ | ⟨m,t,hm,rfl⟩
   ·exact r2
   ·rw [hm];exact ⟨t,rfl⟩
end
end L2
namespace L2
open PySem PySem.Spec PyProof.Rows
structure KB (K:PySem.W.Frag) (C:Addr):Prop where
 x:cq K C
 ha:PySem.W.findIn K (.ref C) "__class__"=some (some (.builtin "object.__class__"))
 hn:PySem.W.specialIn K (.builtin "object.__class__") "__get__"=some (some (.builtin "getset_descriptor.__get__"))
 htk:PySem.W.takesIn K (.builtin "object.__class__")=some true
 hm:PySem.W.mroIn K C (.type "object")=some true
section
variable {prog:Program} {w:World} {A:Around} {E:Value→Shared→Prop} {s:Shared} {K:PySem.W.Frag} {x C:Addr} {od:Obj} {dx:Addr} {vs:Array Value} {sl:Array (Option Value)}
theorem iJ {Q:Option Value→Shared→Prop} (c:KB K C) (KX:K.In s.heap) (J:PySem.W.InstAt s.heap x ⟨.ref C,some dx,.fields vs,sl⟩ C (some od)) (h:Q (some (.ref C)) { s with toks:=s.toks + 1 }) :
  wpAny (model prog w) A (getAttr? (.ref x) "__class__") Q E s:=by
 obtain ⟨cd,hc,hd'⟩:=PySem.W.any_some c.x.hd
 obtain ⟨cd',hc',hov⟩:=PySem.W.any_some c.x.ov
 rw [hc] at hc'
 cases hc'
 have hf:PySem.W.findObj K C (some od) "__class__"=some (.bind (.builtin "getset_descriptor.__get__") (.builtin "object.__class__")):=PySem.W.findObj_data (by rw [hc];rfl) c.ha c.hn c.htk
 have hm:=c.hm
 have ga:=c.x.ga
 have gt:=c.x.gt
 obtain ⟨hp,g,d,t,os⟩:=s
 have L0:=J.type (M:=model prog w)
 have L1:=PySem.W.looks_findIn (M:=model prog w) KX ga
 have L2:=PySem.W.looks_findIn (M:=model prog w) KX gt
 have L3:=PySem.W.looks_find (M:=model prog w) KX J hf
 have FB:=PySem.F.excAttr_ValueError
 have f3:=FB.ga.bind (.ref x)
 have hx2:(Value.builtin "BaseException.__getattribute__" == Value.builtin "object.__getattribute__")=false:=by decide +kernel
 have hx1:(onTheHeap (Value.ref C) && Value.builtin "BaseException.__getattribute__" == Value.builtin "object.__getattribute__")=false:=by rw [hx2];rfl
 unfold getAttr? getAttrBy? getAttrBy
 refine wpAny_bind (wpAny_mkText (wpAny_bind (wpAny_attempt (wpAny_holding (wpAny_bind (L0.at (wpAny_bind (L1.at ?_))))))))
 dsimp only
 rw [if_neg (by rw [hx1];decide)]
 unfold getAttrByItsOwn
 repeat (any_goals (first | assumption | with_reducible refine PySem.W.Looks.at (by assumption) ?_ | wp_step))
 have ne:cd.mro.isEmpty=false:=by
  cases q:cd.mro with
  | nil=>rw [q] at hov;cases hov
  | cons _ _=>rfl
 have sub:PySem.W.Looks (model prog w) hp (isInstance (.ref x) (.type "BaseException")) true:=
  L0.andThen (PySem.W.looks_mroIn KX (by unfold PySem.W.mroIn;rw [hc,Option.bind_some,if_neg (by rw [ne];decide),Xm "BaseException" (by decide) hov]))
 refine codeAny_call_builtin FB.ga.plain PySem.F.entry_bexc_ga (@PySem.W.check_slot (model prog w) _ _ ⟨hp,g,d,t + 1,os⟩ "BaseException.__getattribute__" "BaseException" "__getattribute__" (.ref x) [.str "__class__" t] [] _ (by decide +kernel) (by decide +kernel) sub (PySem.F.args_bexc_ga (.ref x) (.str "__class__" t)) ?_)
 unfold Builtin.«object.__getattribute__»
 repeat (any_goals (first | assumption | with_reducible refine PySem.W.Looks.at (by assumption) ?_ | wp_step))
 refine PySem.W.class_get (s:=⟨hp,g,d,t + 1,os⟩) (ox:=⟨.ref C,some dx,.fields vs,sl⟩) (od:=some od) KX J hm ?_
 refine wpAny_pure ?_
 show wpAny _ _ (handedOut (.ref C)) _ _ _
 exact PySem.W.handed_on rfl (wpAny_pure h)
theorem Ay (c:KB K C):PySem.W.KitX K (.ref x) (.ref C) (fun h=>∃ dx vs sl od,PySem.W.InstAt h x ⟨.ref C,some dx,.fields vs,sl⟩ C (some od)) where
 ty:=fun _ _ _ ⟨_,_,_,_,I⟩=>I.type
 it:=fun _ _ X _=>by
  obtain ⟨cdD,hcD,_⟩:=PySem.W.any_some c.x.hd
  unfold PySem.W.clsIn at hcD
  split at hcD
  ·rename_i c' d' cd' sl' ho
   intro A' Q' E' s' k q
   unfold isType loadHead
   exact wpAny_bind (wpAny_loadPart (k _ _ (X _ _ ho)) (wpAny_pure q))
  ·cases hcD
 ne:=fun h tp dd its n sl X htp=>by
  obtain ⟨cdD,hcD,_⟩:=PySem.W.any_some c.x.hd
  refine Bool.eq_false_iff.mpr fun q=>?_
  have e:C=tp:=Value.ref.inj (beq_iff_eq.mp q)
  subst e
  unfold PySem.W.clsIn at hcD
  split at hcD
  ·rename_i c' d' cd' sl' ho
   have z:=(X _ _ ho).symm.trans htp
   cases z
  ·cases hcD
 ca:=fun X ⟨_,_,_,_,I⟩ k=>iJ c X I k
end
theorem uH {X:Cx} {pins:List (Addr × Obj)} {σ:St} {H:Hp} {s:Shared} {x C dx:Addr} {fs:List (Str × V)} (I:Inv X pins σ H s) (e:H x=some (.ext (XA x C (some dx)))) (ed:H dx=some (.ext (XD dx fs))) :
  ∃ dx vs sl od,PySem.W.InstAt s.heap x ⟨.ref C,some dx,.fields vs,sl⟩ C (some od):=by
 obtain ⟨vs,sl,hx⟩:=(show Ad X.prog X.w H s.heap x (.ext (XA x C (some dx))) from I.hok _ _ e).1
 obtain ⟨mA,n1,r,wi⟩:=(show Ad X.prog X.w H s.heap dx (.ext (XD dx fs)) from I.hok _ _ ed).1
 obtain ⟨od,ho,hlk⟩:=Mm n1
 exact ⟨dx,vs,sl,od,hx,rfl,rfl,ho⟩
theorem Md {X:Cx}:sk X (.builtin "isinstance") (fun xs H Q=>∃ x C dx fs D b,xs=[.ref x,.ref D]∧H x=some (.ext (XA x C (some dx)))∧H dx=some (.ext (XD dx fs))∧KB X.K C∧PySem.W.kitOne X.K (.ref C) (.ref D)=some b∧Q (.bl b) H):=by
 intro pins s σ H xs us Q I r h
 obtain ⟨x,C,dx,fs,D,b,rfl,e,ed,c,hk,q⟩:=h
 obtain ⟨u,u2,rfl,rx,r2⟩:=nE r
 cases (show u=Value.ref x from rx)
 cases (show u2=Value.ref D from r2)
 exact PySem.W.kia_one (Ay c) I.kIn (uH I e ed) hk (fun z=>nomatch z) fun tk=>⟨.bl b,H,I.tok _,rfl,q⟩
theorem Vz {X:Cx}:sk X (.builtin "isinstance") (fun xs H Q=>∃ x C dx fs T b,xs=[.ref x,.ty T]∧H x=some (.ext (XA x C (some dx)))∧H dx=some (.ext (XD dx fs))∧KB X.K C∧PySem.W.kitOne X.K (.ref C) (.type T)=some b∧Q (.bl b) H):=by
 intro pins s σ H xs us Q I r h
 obtain ⟨x,C,dx,fs,T,b,rfl,e,ed,c,hk,q⟩:=h
 obtain ⟨u,u2,rfl,rx,r2⟩:=nE r
 cases (show u=Value.ref x from rx)
 cases r2
 exact PySem.W.kia_one (Ay c) I.kIn (uH I e ed) hk (fun z=>nomatch z) fun tk=>⟨.bl b,H,I.tok _,rfl,q⟩
theorem Hn:bootBuiltins "ValueError"=some (.type "ValueError"):=by decide +kernel
noncomputable def GP (K:PySem.W.Frag) (neg:Bool):R2:=fun x y H Q=>∃ p qs f,y=.ref p∧SqL K H p (List.map V.ref qs)∧(∀ q ∈ qs,EqH K H 8 (.ref q) x (f q))∧Q (.bl (if neg then !(qs.any f) else qs.any f)) H
section
variable {X:Cx}
end
theorem Eb.quiet {P:Program} {w:World} {K:PySem.W.Frag} {mg:Str→Option Value} {base:Heap} {k:Nat} {f:Addr} {fd:FuncData} {ps:List Str} {sp sp':Sp} (F:Eb P w K mg base (CX1 P w) k f fd ps sp)
  (h:∀ vs H Q E,sp' vs H Q E→sp vs H Q (fun _ _ _=>False)):Eb P w K mg base CX0 k f fd ps sp':=by
 refine ⟨fun vs H Q E q=>F.len vs H _ _ (h vs H Q E q),fun A outer s H args us vs Q E hr he hb hv hs=>?_⟩
 refine codeAny_mono (F.run A outer s H args us vs Q _ hr he hb hv (h vs H Q E hs)) fun r s' hq=>?_
 cases r with
 | error e=>
  obtain ⟨x,C,od,H',T,_,_,_,_,_,_,_,_,_,z⟩:=hq
  exact z.elim
 | ok fl=>cases fl <;> exact hq
end L2
namespace L2
open PySem PySem.Spec PyProof.Rows
structure dj (k:Nat) (A:Around):Prop where
 dp:A.depth + 3 * k + 5 < recursionLimit
 un:A.units + 16 * k + 200 < cLine
theorem Nh.h {k:Nat} {A:Around} (r:Nh k A):dj k A:=⟨r.dp,r.un⟩
theorem dj.mono {j k:Nat} {A:Around} (r:dj k A) (h:j ≤ k):dj j A:=⟨by have:=r.dp;omega,by have:=r.un;omega⟩
theorem dj.deeper {k:Nat} {A:Around} (r:dj (k + 1) A) (env:Env):dj k (A.deeper env):=
 ⟨by have:=r.dp;show A.depth + 1 + 3 * k + 5 < _;omega,by have:=r.un;show A.units + 3 + 16 * k + 200 < _;omega⟩
theorem dj.depth {k:Nat} {A:Around} (r:dj k A):A.depth < recursionLimit:=by have:=r.dp;omega
theorem dj.units {k:Nat} {A:Around} (r:dj k A):A.units + 64 < cLine:=by have:=r.un;omega
theorem Nh.hn {k:Nat} {X:Cx} {e:Value} (r:Nh k X.A):dj k (X.hn e).A:=⟨r.dp,r.un⟩
structure bq (P:Program) (w:World) (K:PySem.W.Frag) (mg:Str→Option Value) (base:Heap) (CX:CXT) (k:Nat) (f:Addr) (fd:FuncData) (ps:List Str) (sp:Sp):Prop where
 len:∀ vs H Q E,sp vs H Q E→vs.length=ps.length
 run:∀ (A:Around) (outer:List Env) (s:Shared) (H:Hp) (args:Args) (us:List Value) (vs:List V) (Q:VK) (E:XK),dj k A→UA P w K mg base A outer s H→BindsTo s fd args (ps.zip us)→Uc vs us→sp vs H Q E →
  codeAny (model P w) A (.call (.ref f) args) (CR CX outer P w H s Q E) s
theorem bq.mono {P:Program} {w:World} {K:PySem.W.Frag} {mg:Str→Option Value} {base:Heap} {CX:CXT} {j k:Nat} {f:Addr} {fd:FuncData} {ps:List Str} {sp:Sp} (F:bq P w K mg base CX j f fd ps sp) (h:j ≤ k) :
  bq P w K mg base CX k f fd ps sp:=⟨F.len,fun A outer s H args us vs Q E hr=>F.run A outer s H args us vs Q E (hr.mono h)⟩
section
variable {X:Cx} {CX:CXT} {k:Nat} {f C:Addr} {fd:FuncData} {ps:List Str} {sp:Sp} {dvs:List V} {ds:List Value} {E:XK} {x m:Str} {p pos apos:Pos} {e o:Expr} {es:List Expr} {ta:TE} {t:TA}
theorem fK {pins:List (Addr × Obj)} {σ:St} {H:Hp} {s:Shared} {Q:VK} {us:List Value} {vs:List V} (F:bq X.prog X.w X.K X.mg X.base CX k f fd ps sp) (hr:dj k X.A) (hb:Qb X.K fd ps ds) (hd:Uc dvs ds) (hx:Zi CX X E)
  (I:Inv X pins σ H s) (r:Uc vs us) (h:sp (vs ++ dvs) H Q E):wpAny (model X.prog X.w) X.A (call (.ref f) us) (EP X pins σ Q) X.xe s:=by
 have r2:Uc (vs ++ dvs) (us ++ ds):=r.append hd
 have hl:(us ++ ds).length=ps.length:=by rw [← r2.length];exact F.len _ _ _ _ h
 refine wpAny_call (codeAny_mono (F.run X.A X.stack s H ⟨us,[]⟩ (us ++ ds) (vs ++ dvs) Q E hr I.env0 (hb s us I.kIn hl) r2 h) fun r s' hq=>?_)
 cases r with
 | error e=>exact hx pins σ H s e s' I hq
 | ok fl=>
  cases fl with
  | ret u=>exact I.after hq
  | next=>exact False.elim hq
  | brk=>exact False.elim hq
  | cont=>exact False.elim hq
theorem yy (F:bq X.prog X.w X.K X.mg X.base CX k f fd ps sp) (hr:dj k X.A) (hg:Gl X x) (hm:X.mg x=some (.ref f)) (hk:PySem.W.keepIn X.K (.ref f)=true) (hb:Qb X.K fd ps ds) (hd:Uc dvs ds) (hx:Zi CX X E)
  (ha:PA X (e :: es) t) (hdb:(x == ("__debug__" : Str))=false:=by decide) (he:starEach (e :: es) X.env=(false,eval e X.env) :: starEach es X.env:=by rfl) (hpl:(backTo pos (starEach es X.env)).any (·.1)=false:=by rfl) :
  PE X (.Call (.Name x p) (e :: es) [] pos) (YE sp dvs E t):=by
 intro pins s σ H Q I h
 refine wpAny_Call_Name_kw (Bi I hg hm ?_ hdb)
 refine PySem.W.callWith_K (h₀:=X.base) I.ok.mod.kin hk (thn (ha pos pins s σ H _ I h) fun us s1 ⟨vs,H1,I1,r,q⟩=>⟨I1.kIn,?_⟩) he hpl
 exact fK F hr hb hd hx I1 r q
end
noncomputable def iy (CX:CXT) (P:Program) (w:World) (K:PySem.W.Frag) (mg:Str→Option Value) (base:Heap) (N:List Str) (qual:Str) (scope:Scope) (f:Addr) (cd:Value) (A:Around) (outer:List Env) (s:Shared) (H:Hp) (E:XK):Cx where
 prog:=P
 w:=w
 K:=K
 mg:=mg
 base:=base
 A:=A.deeper (envOfC qual scope s.heap.objs.size f cd)
 N:=N
 s₀:=s
 H₀:=H
 env:=envOfC qual scope s.heap.objs.size f cd
 outer:=outer
 stack:=envOfC qual scope s.heap.objs.size f cd :: outer
 ex:=[]
 calm:=false
 fn:=fun _=>true
 pn:=[]
 xe:=fun e s'=>wpAny (model P w) (A.deeper (envOfC qual scope s.heap.objs.size f cd)) (leaving (envOfC qual scope s.heap.objs.size f cd) e) (fun _ s''=>CX outer H s E e s'') (fun e' s''=>CX outer H s E e' s'') s'
theorem BA {CX:CXT} {P:Program} {w:World} {K:PySem.W.Frag} {mg:Str→Option Value} {base:Heap} {N ps:List Str} {qual:Str} {scope:Scope} {f:Addr} {cd:Value} {A:Around} {outer:List Env} {s s1:Shared} {H:Hp} {E:XK} {us:List Value} {vs:List V}
  (S:wb N ps scope) (e0:UA P w K mg base A outer s H) (hl:vs.length=ps.length) (r:Uc vs us)
  (x:InCallC s s.heap.objs.size (bindL (envOfC qual scope s.heap.objs.size f cd).kindOf (ps.zip us) fun _=>none) (cellsFrom (s.heap.objs.size + 1) scope.names []) (bindC (envOfC qual scope s.heap.objs.size f cd).kindOf (ps.zip us) fun _=>none) s1) :
  Inv (iy CX P w K mg base N qual scope f cd A outer s H E) [] (start N vs) H s1:=by
 have hpl:ps.length ≤ N.length:=by have:=congrArg List.length S.pre;rw [List.length_take] at this;omega
 obtain ⟨h1,tk,rfl,hk⟩:=x.done
 have noA:∀ b:Addr,b ∉ (iy CX P w K mg base N qual scope f cd A outer s H E).ex:=fun b z=>absurd (show b ∈ ([]:List Addr) from z) (by simp)
 refine ⟨⟨e0.mod,S.kind,rfl,rfl,Nat.le_refl _,fun y z c h1 h2=>?_,fun y hy=>?_,fun y c _ h=>?_,fun z=>absurd (show false=true from z) (by decide),Around.frames_deeper e0.frames,.inr ⟨rfl,rfl⟩,fun b z=>absurd z (noA b),e0.bs,e0.bsz,fun b _ _=>noA b,fun b z=>absurd z (noA b),e0.funs,e0.frf⟩,
  rfl,e0.bare,Un.kept hk,⟨_,x.toInCall.ns,fun i y v h1 h2 h3=>?_⟩,fun y c h=>⟨_,x.cell y c h⟩,e0.hok.fresh (Nat.le_refl _),fun y c h=>?_,fun p hp=>absurd (show p ∈ ([]:List (Addr × Obj)) from hp) (by simp),e0.hok.kept hk,?_⟩
 ·exact name_of_addr x.apart (PySem.mem_of_lookup h1) (PySem.mem_of_lookup h2)
 ·have hy:scope.names.lookup y=some .cell∨scope.names.lookup y=some .free:=hy
  rcases hy with hy | hy
  ·exact Uo hy
  ·exact absurd rfl (S.nofree _ (PySem.mem_of_lookup hy))
 ·exact Nat.le_of_lt (x.above y c (PySem.mem_of_lookup h))
 ·have hi:i < vs.length:=by
   unfold start at h2
   by_cases hi:i < vs.length
   ·exact hi
   ·rw [List.getElem?_append_right (by simpa using hi)] at h2
    rw [List.getElem?_replicate] at h2
    split at h2 <;> cases h2
  have ha:vs[i]? = some v:=by
   unfold start at h2
   rw [List.getElem?_append_left (by simpa using hi),List.getElem?_map] at h2
   cases e:vs[i]? with
   | none=>rw [e] at h2;cases h2
   | some a=>rw [e] at h2;cases h2;rfl
  obtain ⟨u,hu,rv⟩:=r.get ha
  have hp:ps[i]? = some y:=by
   rw [← S.pre,List.getElem?_take_of_lt (by omega)];exact h1
  have ndP:ps.Nodup:=by rw [← S.pre];exact S.nd.sublist (List.take_sublist _ _)
  refine ⟨u,rv,?_⟩
  rcases S.par y (List.mem_of_getElem? hp) with k | k
  ·exact .inl ⟨k,ar ndP hp hu k⟩
  ·obtain ⟨c,e⟩:=Uo (n:=s.heap.objs.size + 1) k
   refine .inr ⟨.inl k,c,e,?_⟩
   have q:=x.cell y c e
   rw [vq ndP hp hu (by show scope.names.lookup y ≠ _;rw [k];decide)] at q
   exact q
 ·exact e0.hok.fresh (Nat.le_of_lt (x.above y c (PySem.mem_of_lookup h)))
 ·unfold start
  show _=N.length
  rw [List.length_append,List.length_map,List.length_replicate]
  omega
theorem dN {CX:CXT} {P:Program} {w:World} {K:PySem.W.Frag} {mg:Str→Option Value} {base:Heap} {k:Nat} {f:Addr} {name qual:Str} {params:Arguments} {body:List Stmt} {scope:Scope} {dV kV doc pm cdv ct oc:Value} {an od:Option Addr}
  {osl:Array (Option Value)} {N ps:List Str} {sp:Sp} (lk:K.lookup f=some ⟨oc,od,.func (PySem.W.fnOf name qual params body scope dV kV doc pm an cdv ct),osl⟩) (hcd:PySem.W.codeIn K cdv qual=true) (S:wb N ps scope)
  (len:∀ vs H Q E,sp vs H Q E→vs.length=ps.length)
  (hbody:∀ (A:Around) (outer:List Env) (s:Shared) (H:Hp) (vs:List V) (Q:VK) (E:XK),dj k (A.deeper (envOfC qual scope s.heap.objs.size f cdv))→sp vs H Q E →
   ∃ t,PSs (iy CX P w K mg base N qual scope f cdv A outer s H E) body t∧t { nx:=fun _ H'=>Q .non H',rt:=Q } (start N vs) H) :
  bq P w K mg base CX (k + 1) f (PySem.W.fnOf name qual params body scope dV kV doc pm an cdv ct) ps sp:=by
 refine ⟨len,fun A outer s H args us vs Q E hr e0 hb r hsp=>?_⟩
 have hl:=len _ _ _ _ hsp
 have KX:K.In s.heap:=e0.mod.kin.keeps fun b o e=>(e0.bs b o e).1
 have lim:s.heap.NoLimit:=e0.mod.nolimit.keeps fun b o e=>(e0.bs b o e).1
 have hkind:∀ y ∈ ps.zip us,scope.names.lookup y.1=some .local∨(scope.names.lookup y.1=some .cell∧((cellsFrom (s.heap.objs.size + 1) scope.names []).lookup y.1).isSome=true):=fun ⟨n,v⟩ hy=>by
  rcases S.par n (List.of_mem_zip hy).1 with q | q
  ·exact .inl q
  ·exact .inr ⟨q,PySem.W.cellsFrom_some _ _ _ (.inl q)⟩
 refine codeAny_call_function hr.depth (KX _ _ lk) rfl S.co S.gen rfl (PySem.W.codeRec_of KX hcd) (hb _ _ _ _ ?_)
 refine wpAny_newFunctionEnv_cells S.kind hkind fun env he s1 x=>?_
 subst he
 refine ⟨lim.keeps x.toInCall.keep,codeAny_func ?_⟩
 obtain ⟨t,ht,hq⟩:=hbody A outer s H vs Q E (hr.deeper _) hsp
 have I:Inv (iy CX P w K mg base N qual scope f cdv A outer s H E) [] (start N vs) H s1:=BA S e0 hl r x
 refine wpAny_mono (ht [] s1 (start N vs) H _ I hq) (fun fl s' hs=>?_) fun e s' hs=>hs
 have fin:∀ {σ':St} {H':Hp} {v:V} {u:Value},Inv (iy CX P w K mg base N qual scope f cdv A outer s H E) [] σ' H' s'→Ed v u→Q v H'→CE outer P w H s Q u s':=
  fun {σ' H' v u} J rv q=>⟨v,H',J.os,J.bare,J.base,J.hok,rv,q⟩
 cases fl with
 | ret u=>
  obtain ⟨v,σ',H',J,rv,q⟩:=hs
  exact fin J rv q
 | next=>
  obtain ⟨σ',H',J,q⟩:=hs
  exact fin (v:=V.non) (u:=Value.none) J rfl q
 | brk=>
  obtain ⟨_,_,_,q⟩:=hs
  exact False.elim q
 | cont=>
  obtain ⟨_,_,_,q⟩:=hs
  exact False.elim q
section
variable {P:Program} {w:World} {K:PySem.W.Frag} {mg:Str→Option Value} {base:Heap}
theorem Fun.okH {x qual:Str} {st:Stmt} {f:Addr} {fd:FuncData} {N ps:List Str} {k:Nat} {sp:Sp} (F:Fun K x qual st f fd) (S:wb N ps (jb st)) (len:∀ vs H Q E,sp vs H Q E→vs.length=ps.length)
  (hbody:∀ (cdv:Value) (A:Around) (outer:List Env) (s:Shared) (H:Hp) (vs:List V) (Q:VK) (E:XK),dj k (A.deeper (envOfC qual (jb st) s.heap.objs.size f cdv))→sp vs H Q E →
   ∃ t,PSs (iy CX0 P w K mg base N qual (jb st) f cdv A outer s H E).nox (ml st) t∧t { nx:=fun _ H'=>Q .non H',rt:=Q } (start N vs) H):bq P w K mg base CX0 (k + 1) f fd ps sp:=by
 obtain ⟨oc,od,kV,doc,pm,an,cdv,ct,osl,rfl,lk,hcd⟩:=F.ex
 refine dN lk hcd S len fun A outer s H vs Q E hr hsp=>?_
 obtain ⟨t,h,q⟩:=hbody cdv A outer s H vs Q E hr hsp
 exact ⟨t,h.nox,q⟩
end
end L2
namespace L2
open PySem PySem.Spec PyProof.Rows
noncomputable def dG (a b:Str):List Str:=if ltCps b.cps.toList a.cps.toList then [b,a] else [a,b]
theorem mK:∀ a b:List Nat,ltCps a b=false→ltCps b a=false→a=b:=fun a b h1 h2=>by
 rw [ltCps_eq,decide_eq_false_iff_not] at h1 h2
 exact List.le_antisymm (List.not_lt.mp h2) (List.not_lt.mp h1)
theorem BJ {a b:Str} {ys:List Str} (hp:ys.Perm [a,b]) (hs:sortedS ys=true):ys=dG a b:=by
 have hc:ys=[a,b]∨ys=[b,a]:=by
  match ys,hp.length_eq with
  | [x,y],_=>
   have h1:x ∈ [a,b]:=hp.subset (by simp)
   have h2:=List.mem_cons.mp h1
   rcases h2 with rfl | h2
   ·have:=(List.perm_cons x).mp hp
    rw [List.perm_singleton.mp this];exact .inl rfl
   ·have h2:x=b:=by simpa using h2
    subst h2
    have:=(List.perm_cons x).mp (hp.trans (List.Perm.swap x a []))
    rw [List.perm_singleton.mp this];exact .inr rfl
 unfold dG
 rcases hc with rfl | rfl
 ·have h1:(!ltCps b.cps.toList a.cps.toList && true)=true:=hs
  rw [if_neg]
  intro z
  rw [z] at h1
  cases h1
 ·have h1:(!ltCps a.cps.toList b.cps.toList && true)=true:=hs
  by_cases c:ltCps b.cps.toList a.cps.toList=true
  ·rw [if_pos c]
  ·rw [if_neg c]
   have e1:ltCps a.cps.toList b.cps.toList=false:=by
    cases h:ltCps a.cps.toList b.cps.toList with
    | true=>rw [h] at h1;cases h1
    | false=>rfl
   have e2:ltCps b.cps.toList a.cps.toList=false:=by simpa using c
   have e3:=mK _ _ e1 e2
   have:a=b:=by
    obtain ⟨⟨a⟩⟩:=a
    obtain ⟨⟨b⟩⟩:=b
    exact congrArg (fun l=>Str.mk (Array.mk l)) e3
   rw [this]
theorem Uz {ss:List Str}:∀ {its:List Value},StrsAre its ss→Uc (ss.map V.str) its:=by
 induction ss with
 | nil=>intro its r;cases r;exact .nil
 | cons k ks ih=>
  intro its r
  cases r with
  | cons x t r=>exact .cons ⟨t,rfl⟩ (ih r)
theorem uA {ss:List Str}:∀ {its:List Value},Uc (ss.map V.str) its→StrsAre its ss:=by
 induction ss with
 | nil=>intro its r;cases r;exact .nil
 | cons k ks ih=>
  intro its r
  cases r with
  | cons h t=>
   obtain ⟨tk,rfl⟩:=(show ∃ t,_=Value.str k t from h)
   exact .cons _ _ (ih t)
theorem xm:bootBuiltins "sorted"=some (.builtin "sorted"):=by decide +kernel
section
variable {X:Cx}
theorem Bt:sk X (.builtin "sorted") (fun xs H Q=>∃ l a b,xs=[.ref l]∧SqL X.K H l [.str a,.str b]∧∀ p,H p=none→Q (.ref p) (upd H p (.lst ((dG a b).map V.str)))):=by
 intro pins s σ H xs us Q I r h
 obtain ⟨l,a,b,rfl,hq,q⟩:=h
 obtain ⟨u,rfl,ru⟩:=Mw r
 cases ru
 obtain ⟨its,rv,pl,hz⟩:=I.list hq
 have hS:StrsAre its [a,b]:=uA rv
 have hln:=rv.length
 refine sorted_strs pl.isList hS (by rw [← hln];simp) fun out ss' g1 g2 g3=>?_
 have e:=BJ g2 g3
 subst e
 obtain ⟨c,hc⟩:=sortedAll_at s.heap its out
 refine ⟨.ref _,_,I.laid (o:=.lst ((dG a b).map V.str)) (t':=s.toks) (fun b u e=>sortedAll_old e) (Nat.le_succ _) ⟨?_,out.toList,c,Uz g1,hc⟩,rfl,q _ (I.hok.fresh (Nat.le_succ _))⟩
 rw [List.length_map]
 unfold dG
 split <;> (rw [sizeLine_eq];simp)
end
end L2
namespace L2
open PySem PySem.Spec PyProof.Rows
section
variable {α:Type} {M:List α→Prop}
theorem us1 (h:∀ a,M [a]):∀ us:List α,us.length=1→M us | [a],_=>h a
theorem us2 (h:∀ a b,M [a,b]):∀ us:List α,us.length=2→M us | [a,b],_=>h a b
theorem us3 (h:∀ a b c,M [a,b,c]):∀ us:List α,us.length=3→M us | [a,b,c],_=>h a b c
theorem us4 (h:∀ a b c d,M [a,b,c,d]):∀ us:List α,us.length=4→M us | [a,b,c,d],_=>h a b c d
theorem us5 (h:∀ a b c d e,M [a,b,c,d,e]):∀ us:List α,us.length=5→M us | [a,b,c,d,e],_=>h a b c d e
theorem us7 (h:∀ a b c d e f g,M [a,b,c,d,e,f,g]):∀ us:List α,us.length=7→M us | [a,b,c,d,e,f,g],_=>h a b c d e f g
theorem us8 (h:∀ a b c d e f g i,M [a,b,c,d,e,f,g,i]):∀ us:List α,us.length=8→M us | [a,b,c,d,e,f,g,i],_=>h a b c d e f g i
end
structure XB (K:PySem.W.Frag) (C:Addr):Prop where
 hd:PySem.W.hasDictIn K C=true
 ov:((PySem.W.clsIn K C).any fun cd=>XC cd.mro)=true
 sa:PySem.W.findIn K (.ref C) "__setattr__"=some (some (.builtin "object.__setattr__"))
 ga:PySem.W.findIn K (.ref C) "__getattribute__"=some (some (.builtin "BaseException.__getattribute__"))
 gt:PySem.W.findIn K (.ref C) "__getattr__"=some none
theorem mr {K:PySem.W.Frag} {C f:Addr} (b:XB K C) (m:MkX K C f):cq K C:=⟨b.hd,b.ov,b.sa,b.ga,b.gt,_,m.e⟩
structure IB (K:PySem.W.Frag) (C:Addr):Prop where
 ha:PySem.W.findIn K (.ref C) "__class__"=some (some (.builtin "object.__class__"))
 hn:PySem.W.specialIn K (.builtin "object.__class__") "__get__"=some (some (.builtin "getset_descriptor.__get__"))
 htk:PySem.W.takesIn K (.builtin "object.__class__")=some true
 hm:PySem.W.mroIn K C (.type "object")=some true
theorem Nq {K:PySem.W.Frag} {C:Addr} (x:cq K C) (b:IB K C):KB K C:=⟨x,b.ha,b.hn,b.htk,b.hm⟩
theorem eL {K:PySem.W.Frag} {C f:Addr} (i:PySem.W.isFn K (.ref f)=true) (e:qt K C f=true) (k:PySem.W.keepIn K (.ref C)=true):MkX K C f:=⟨e,beq_iff_eq.mp i,k⟩
end L2
namespace L2
open PySem PySem.Spec PyProof.Rows
section
variable {X:Cx}
noncomputable def qK (K:PySem.W.Frag):V→List V→Hp→VK→Prop:=fun x vs H Q=>∃ l ks k,x=.ref l∧vs=[.int k]∧SqL K H l (List.map V.int ks)∧k ∈ ks∧ks.length ≤ 1000∧Q (.int (ks.idxOf k:Nat)) H
end
end L2
namespace L2
open PySem PySem.Spec PyProof.Rows
theorem LI (i:Nat) (σ:St) (H:Hp) (Q:VK):jO i σ H Q=(∃ v,σ[i]? = some (some v)∧Q v H):=rfl
theorem AO (v:V) (x_0:St) (H:Hp) (Q:VK):tC v x_0 H Q=(Q v H):=rfl
theorem QJ (ta tb:TE) (σ:St) (H:Hp) (Q:VK):uP ta tb σ H Q=(t2I ta tb (fun i j H2=>Q (.int (i + j)) H2) σ H):=rfl
theorem yI (ta tb:TE) (σ:St) (H:Hp) (Q:VK):BP ta tb σ H Q=(t2I ta tb (fun i j H2=>Q (.int (i - j)) H2) σ H):=rfl
theorem wJ (ta tb:TE) (σ:St) (H:Hp) (Q:VK):bQ ta tb σ H Q=(t2I ta tb (fun i j H2=>(-(2 ^ 64) < i∧i < 2 ^ 64)∧Q (.int (i * j)) H2) σ H):=rfl
theorem vJ (p:Int→Int→Bool) (ta tb:TE) (σ:St) (H:Hp) (Q:VK):LP p ta tb σ H Q=(t2I ta tb (fun i j H2=>Q (.bl (p i j)) H2) σ H):=rfl
theorem yJ (ta:TE) (σ:St) (H:Hp) (Q:VK):UP ta σ H Q=(ta σ H fun x H1=>Q (.bl (decide (x=.non))) H1):=rfl
theorem hG (ta:TE) (σ:St) (H:Hp) (Q:VK):wO ta σ H Q=(ta σ H fun x H1=>Q (.bl (!decide (x=.non))) H1):=rfl
theorem uO (t:TE) (σ:St) (H:Hp) (Q:(Bool→Hp→Prop)):tB t σ H Q=(t σ H fun x H1=>∃ c,x=.bl c∧Q c H1):=rfl
theorem CI (t u:TT) (σ:St) (H:Hp) (Q:(Bool→Hp→Prop)):oP t u σ H Q=(t σ H fun c H1=>if c=true then u σ H1 Q else Q false H1):=rfl
theorem PL (t u:TT) (σ:St) (H:Hp) (Q:(Bool→Hp→Prop)):tOr t u σ H Q=(t σ H fun c H1=>if c=true then Q true H1 else u σ H1 Q):=rfl
theorem AJ (t:TT) (σ:St) (H:Hp) (Q:(Bool→Hp→Prop)):RO t σ H Q=(t σ H fun c H1=>Q (!c) H1):=rfl
theorem bH (ta tb:TE) (σ:St) (H:Hp) (Q:VK):JL ta tb σ H Q=(ta σ H fun x H1=>∃ c,x=.bl c∧if c=true then tb σ H1 Q else Q (.bl false) H1):=rfl
theorem LJ (ta tb:TE) (σ:St) (H:Hp) (Q:VK):IO ta tb σ H Q=(ta σ H fun x H1=>∃ c,x=.bl c∧if c=true then Q (.bl true) H1 else tb σ H1 Q):=rfl
theorem nH (ta:TE) (σ:St) (H:Hp) (Q:VK):nO ta σ H Q=(ta σ H fun x H1=>∃ c,x=.bl c∧Q (.bl (!c)) H1):=rfl
theorem UM (t:TT) (ta tb:TE) (σ:St) (H:Hp) (Q:VK):tIf t ta tb σ H Q=(t σ H fun c H1=>if c=true then ta σ H1 Q else tb σ H1 Q):=rfl
theorem Ry (D:lg) (σ:St) (H:Hp):tN  D σ H=(D.nx σ H):=rfl
theorem wf (t u:TS) (D:lg) (σ:St) (H:Hp):lP t u D σ H=(t { D with nx:=u D } σ H):=rfl
theorem UB (D:lg) (σ:St) (H:Hp):wN  D σ H=(D.bk σ H):=rfl
theorem WF (D:lg) (σ:St) (H:Hp):aO  D σ H=(D.ct σ H):=rfl
theorem eF (te:TE) (D:lg) (σ:St) (H:Hp):fM te D σ H=(te σ H fun _ H1=>D.nx σ H1):=rfl
theorem AI (te:TE) (D:lg) (σ:St) (H:Hp):qO te D σ H=(te σ H D.rt):=rfl
theorem bG (D:lg) (x_1:St) (H:Hp):MN  D x_1 H=(D.rt .non H):=rfl
theorem uE (x_0:lg) (x_1:St) (x_2:Hp):lI  x_0 x_1 x_2=(False):=rfl
theorem um (i:Nat) (v:V) (σ:St) (H:Hp) (Q:(St→Hp→Prop)):aw i v σ H Q=(Q (σ.set i (some v)) H):=rfl
theorem DJ (vs:List V) (σ:St) (H:Hp) (Q:(St→Hp→Prop)):GN  vs σ H Q=(vs=[]∧Q σ H):=rfl
theorem eG (t:TG) (u:TGs) (vs:List V) (σ:St) (H:Hp) (Q:(St→Hp→Prop)):Pz t u vs σ H Q=(∃ v r,vs=v :: r∧t v σ H fun σ' H'=>u r σ' H' Q):=rfl
theorem QK (K:PySem.W.Frag) (n:Nat) (t:TGs) (v:V) (σ:St) (H:Hp) (Q:(St→Hp→Prop)):lM K n t v σ H Q=(∃ a xs,v=.ref a∧SqT K H a xs∧xs.length=n∧t xs σ H Q):=rfl
theorem DI (to ti:TE) (t:ZK) (v:V) (σ:St) (H:Hp) (Q:(St→Hp→Prop)):fP to ti t v σ H Q=(to σ H fun o H1=>ti σ H1 fun i H2=>t o i v H2 fun H3=>Q σ H3):=rfl
theorem AK (te:TE) (g:TG) (D:lg) (σ:St) (H:Hp):KN te g D σ H=(te σ H fun x H1=>g x σ H1 D.nx):=rfl
theorem ZI (i j:Nat) (ta:TA) (D:lg) (σ:St) (H:Hp):ZP i j ta D σ H=(ta σ H fun vs H1=>∃ v w,vs=[v,w]∧D.nx ((σ.set i (some v)).set j (some w)) H1):=rfl
theorem pK (i:Nat) (te:TE) (ti:TIp) (D:lg) (σ:St) (H:Hp):PP i te ti D σ H=(∃ x,σ[i]? = some (some x)∧te σ H fun y H1=>ti x y H1 fun z H2=>D.nx (σ.set i (some z)) H2):=rfl
theorem wF (to ti te:TE) (tget:V→V→Hp→VK→Prop) (tip:TIp) (tset:ZK) (D:lg) (σ:St) (H:Hp):zO to ti te tget tip tset D σ H=(to σ H fun o H1=>ti σ H1 fun i H2=>tget o i H2 fun x H3=>te σ H3 fun y H4=>tip x y H4 fun z H5=>tset o i z H5 fun H6=>D.nx σ H6):=rfl
theorem aF (K:PySem.W.Frag) (tl:TE) (σ:St) (H:Hp) (R:(It→Hp→Prop)):IM K tl σ H R=(tl σ H fun x H1=>∃ a,x=.ref a∧(∃ xs,SqL K H1 a xs)∧R (Itl K a) H1):=rfl
theorem SK (K:PySem.W.Frag) (tl:TE) (σ:St) (H:Hp) (R:(It→Hp→Prop)):CO K tl σ H R=(tl σ H fun x H1=>∃ a,x=.ref a∧(∃ xs,SqT K H1 a xs)∧R (Itt K a) H1):=rfl
theorem wL (r:R2) (ta tb:TE) (σ:St) (H:Hp) (Q:VK):tOp r ta tb σ H Q=(ta σ H fun x H1=>tb σ H1 fun y H2=>r x y H2 Q):=rfl
theorem iL (r:V→Hp→VK→Prop) (ta:TE) (σ:St) (H:Hp) (Q:VK):tUn r ta σ H Q=(ta σ H fun x H1=>r x H1 Q):=rfl
theorem rO (C:Int→Int→Prop) (g:Int→Int→V) (x:V) (y:V) (H:Hp) (Q:VK):rI C g x y H Q=(∃ i j,x=.int i∧y=.int j∧C i j∧Q (g i j) H):=rfl
theorem lN (g:Int→Int→V) (x:V) (y:V) (H:Hp) (Q:VK):rI0 g x y H Q=(∃ i j,x=.int i∧y=.int j∧Q (g i j) H):=rfl
theorem gO (g:Int→V) (x:V) (H:Hp) (Q:VK):rU g x H Q=(∃ i,x=.int i∧Q (g i) H):=rfl
theorem DM (x:V) (y:V) (H:Hp) (Q:VK):rEq  x y H Q=(rM x y=true∧Q (.bl (decide (x=y))) H):=rfl
theorem BL (x:V) (y:V) (H:Hp) (Q:VK):rNe  x y H Q=(rM x y=true∧Q (.bl (!decide (x=y))) H):=rfl
theorem RG (t:TE) (σ:St) (H:Hp) (Q:(Bool→Hp→Prop)):zN t σ H Q=(t σ H fun x H'=>∃ k,x=.bl k∧Q k H'):=rfl
theorem SB (r r':R2) (ta tb tc:TE) (σ:St) (H:Hp) (Q:VK):GL r r' ta tb tc σ H Q=(ta σ H fun x H1=>tb σ H1 fun y H2=>r x y H2 fun z H3=>∃ k,z=.bl k ∧
 (if k=true then tc σ H3 fun w' H4=>r' y w' H4 Q else Q (.bl false) H3)):=rfl
theorem pJ (K:PySem.W.Frag) (ta:TE) (f:Str) (σ:St) (H:Hp) (Q:VK):DP K ta f σ H Q=(ta σ H fun x H1=>∃ a C dx fs v u,x=.ref a∧H1 a=some (.ins C dx fs)∧Cls K C∧Con K C f v u∧fs.lookup f=none∧Q v H1):=rfl
theorem CK (K:PySem.W.Frag) (ta tv:TE) (f:Str) (D:lg) (σ:St) (H:Hp):MO K ta tv f D σ H=(tv σ H fun y H1=>ta σ H1 fun x H2=>∃ a C dx fs,x=.ref a∧H2 a=some (.ins C dx fs)∧Cls K C∧Cb K C f∧fs.length < 1000 ∧
 D.nx σ (upd H2 a (.ins C dx (rg f y fs)))):=rfl
theorem qA (K:PySem.W.Frag) (ta tv:TE) (rd:V→V→Hp→VK→Prop) (f:Str) (D:lg) (σ:St) (H:Hp):DB K ta tv rd f D σ H=(ta σ H fun x H1=>∃ a C dx fs v,x=.ref a∧H1 a=some (.ins C dx fs)∧Cls K C∧Cb K C f∧fs.lookup f=some v ∧
 tv σ H1 fun y H2=>rd v y H2 fun z H3=>∃ dx' fs',H3 a=some (.ins C dx' fs')∧fs'.length < 1000∧D.nx σ (upd H3 a (.ins C dx' (rg f z fs')))):=rfl
theorem DK (x:V) (y:V) (H:Hp) (Q:VK):NO  x y H Q=(∃ i j,x=.int i∧y=.int j∧Q (.int (i + j)) H):=rfl
theorem RJ (x:V) (y:V) (H:Hp) (Q:VK):MP  x y H Q=(∃ i j,x=.int i∧y=.int j∧Q (.int (i - j)) H):=rfl
theorem kJ (x_0:St) (H:Hp) (Q:(List V→Hp→Prop)):FN  x_0 H Q=(Q [] H):=rfl
theorem QF (ta:TE) (tr:TA) (σ:St) (H:Hp) (Q:(List V→Hp→Prop)):dM ta tr σ H Q=(ta σ H fun x H1=>tr σ H1 fun xs H2=>Q (x :: xs) H2):=rfl
theorem XI (t:TA) (σ:St) (H:Hp) (Q:VK):YO t σ H Q=(t σ H fun xs H1=>xs.length ≤ sizeLine∧∀ p,H1 p=none→Q (.ref p) (upd H1 p (.tup xs))):=rfl
theorem EI (t:TA) (σ:St) (H:Hp) (Q:VK):jP t σ H Q=(t σ H fun xs H1=>xs.length ≤ sizeLine∧∀ p,H1 p=none→Q (.ref p) (upd H1 p (.lst xs))):=rfl
theorem IG (sp:Sp) (dvs:List V) (E:XK) (t:TA) (σ:St) (H:Hp) (Q:VK):YE sp dvs E t σ H Q=(t σ H fun vs H1=>sp (vs ++ dvs) H1 Q E):=rfl
theorem qF (C:Addr) (m:Str) (sp:Sp) (dvs:List V) (E:XK) (ta:TE) (t:TA) (σ:St) (H:Hp) (Q:VK):iK C m sp dvs E ta t σ H Q=(ta σ H fun x H1=>∃ a dx fs,x=.ref a∧H1 a=some (.ins C dx fs)∧fs.lookup m=none ∧
 t σ H1 fun vs H2=>sp (x :: (vs ++ dvs)) H2 Q E):=rfl
theorem nF (C:Addr) (sp:Sp) (dvs:List V) (E:XK) (t:TA) (σ:St) (H:Hp) (Q:VK):MM C sp dvs E t σ H Q=(t σ H fun vs H1=>∀ x dx,H1 x=none→H1 dx=none→dx ≠ x →
 sp (.ref x :: (vs ++ dvs)) (upd (upd H1 dx (.own x)) x (.ins C dx [])) (fun v H2=>v=.non∧Q (.ref x) H2) E):=rfl
theorem aD (sp:Sp) (gV:List V→List V→List V) (E:XK) (t tk:TA) (σ:St) (H:Hp) (Q:VK):EM sp gV E t tk σ H Q=(t σ H fun vs H1=>tk σ H1 fun zs H2=>sp (gV vs zs) H2 Q E):=rfl
theorem KL (r:List V→Hp→VK→Prop) (t:TA) (σ:St) (H:Hp) (Q:VK):tCB r t σ H Q=(t σ H fun vs H1=>r vs H1 Q):=rfl
theorem aA (x_0:St) (H:Hp) (Q:(Option Int→Hp→Prop)):xD  x_0 H Q=(Q none H):=rfl
theorem BG (t:TE) (σ:St) (H:Hp) (Q:(Option Int→Hp→Prop)):gM t σ H Q=(t σ H fun x H1=>∃ i,x=.int i∧Q (some i) H1):=rfl
theorem SL (r:V→Option Int→Option Int→Hp→VK→Prop) (te:TE) (tl th:TO) (σ:St) (H:Hp) (Q:VK):tSl r te tl th σ H Q=(te σ H fun x H1=>tl σ H1 fun l H2=>th σ H2 fun u H3=>r x l u H3 Q):=rfl
theorem IK (K:PySem.W.Frag) (x:V) (lo:Option Int) (hi:Option Int) (H:Hp) (Q:VK):VP K x lo hi H Q=(∃ a xs,x=.ref a∧SqT K H a xs ∧
 ¬ (HT.sIx xs.length 0 lo=0∧HT.sIx xs.length xs.length hi=xs.length)∧∀ p,H p=none→Q (.ref p) (upd H p (.tup (gE xs lo hi)))):=rfl
theorem GI (K:PySem.W.Frag) (x:V) (y:V) (H:Hp) (Q:VK):QP K x y H Q=(∃ a b ns ms,x=.ref a∧y=.ref b∧SqT K H a (ns.map V.int)∧SqT K H b (ms.map V.int)∧Q (.bl (HT.lexLt ns ms)) H):=rfl
theorem OG (K:PySem.W.Frag) (x:V) (y:V) (H:Hp) (Q:VK):sO K x y H Q=(∃ a b xs ys,x=.ref a∧y=.ref b∧SqT K H a xs∧SqT K H b ys∧xs ≠ []∧xs.length + ys.length ≤ sizeLine ∧
 (ys=[]→Q (.ref a) H)∧(ys ≠ []→∀ p,H p=none→Q (.ref p) (upd H p (.tup (xs ++ ys))))):=rfl
theorem xK (K:PySem.W.Frag) (x:V) (y:V) (H:Hp) (Q:VK):JN K x y H Q=(∃ p xs i v,x=.ref p∧y=.int i∧SqL K H p xs∧atI xs i=some v∧Q v H):=rfl
theorem GJ (K:PySem.W.Frag) (x:V) (y:V) (H:Hp) (Q:VK):DN K x y H Q=(∃ p xs i v,x=.ref p∧y=.int i∧SqT K H p xs∧atI xs i=some v∧Q v H):=rfl
theorem FJ (x:V) (y:V) (H:Hp) (Q:VK):CN  x y H Q=(∃ z i c,x=.str z∧y=.int i∧z.length ≤ sizeLine∧atI z.cps.toList i=some c∧Q (.str ⟨#[c]⟩) H):=rfl
theorem rL (K:PySem.W.Frag) (x:V) (y:V) (H:Hp) (Q:VK):rIx K x y H Q=(JN K x y H Q∨DN K x y H Q∨CN x y H Q):=rfl
theorem IF (o:V) (i:V) (v:V) (H:Hp) (Q:(Hp→Prop)):zL  o i v H Q=(∃ p xs k j,o=.ref p∧i=.int k∧H p=some (.lst xs)∧ixN xs.length k=some j∧Q (upd H p (.lst (xs.set j v)))):=rfl
theorem dJ (K:PySem.W.Frag) (x:V) (lo:Option Int) (hi:Option Int) (H:Hp) (Q:VK):iP K x lo hi H Q=(∃ a xs,x=.ref a∧SqL K H a xs∧∀ p,H p=none→Q (.ref p) (upd H p (.lst (gE xs lo hi)))):=rfl
theorem NL (K:PySem.W.Frag) (neg:Bool) (x:V) (y:V) (H:Hp) (Q:VK):rIn K neg x y H Q=(∃ p xs,y=.ref p∧(SqL K H p xs∨SqT K H p xs)∧rj x=true∧xs.all rj=true∧Q (.bl (if neg then !inV x xs else inV x xs)) H):=rfl
theorem VI (K:PySem.W.Frag) (T:String) (r:V→List V→Hp→VK→Prop) (to:TE) (σ:St) (H:Hp) (Q:VK):JP K T r to σ H Q=(to σ H fun x H1=>tyV K T x H1∧r x [] H1 Q):=rfl
theorem jL (K:PySem.W.Frag) (T:String) (r:V→List V→Hp→VK→Prop) (to:TE) (t:TA) (σ:St) (H:Hp) (Q:VK):tBM K T r to t σ H Q=(to σ H fun x H1=>tyV K T x H1∧t σ H1 fun xs H2=>r x xs H2 Q):=rfl
theorem Gz (x:V) (vs:List V) (H:Hp) (Q:VK):RC  x vs H Q=(∃ l xs y,x=.ref l∧vs=[y]∧H l=some (.lst xs)∧xs.length < sizeLine∧Q .non (upd H l (.lst (xs ++ [y])))):=rfl
theorem Wz (x:V) (vs:List V) (H:Hp) (Q:VK):ZJ  x vs H Q=(∃ l b xs zs,x=.ref l∧vs=[.ref b]∧H l=some (.lst xs)∧H b=some (.lst zs)∧xs.length + zs.length ≤ sizeLine∧Q .non (upd H l (.lst (xs ++ zs)))):=rfl
theorem UI (x:V) (vs:List V) (H:Hp) (Q:VK):xP  x vs H Q=(∃ l xs y,x=.ref l∧vs=[]∧H l=some (.lst xs)∧xs[xs.length - 1]? = some y∧Q y (upd H l (.lst xs.dropLast))):=rfl
theorem pE (x:V) (vs:List V) (H:Hp) (Q:VK):xM  x vs H Q=(∃ l xs i k y,x=.ref l∧vs=[.int i]∧H l=some (.lst xs)∧-(2 ^ 63) ≤ i∧i < 2 ^ 63∧seqIndex? i xs.length=some k∧xs[k]? = some y∧Q y (upd H l (.lst (xs.eraseIdx k)))):=rfl
theorem kx (x:V) (vs:List V) (H:Hp) (Q:VK):iF  x vs H Q=(∃ l xs,x=.ref l∧vs=[]∧H l=some (.lst xs)∧Q .non (upd H l (.lst xs.reverse))):=rfl
theorem BB (x:V) (vs:List V) (H:Hp) (Q:VK):RL  x vs H Q=(∃ l xs,x=.ref l∧vs=[]∧H l=some (.lst xs)∧Q .non (upd H l (.lst []))):=rfl
theorem tJ (x:V) (y:V) (H:Hp) (Q:VK):SO  x y H Q=(∃ l b xs zs,x=.ref l∧y=.ref b∧H l=some (.lst xs)∧H b=some (.lst zs)∧xs.length + zs.length ≤ sizeLine∧∀ p,H p=none→Q (.ref p) (upd H p (.lst (xs ++ zs)))):=rfl
theorem eJ (x:V) (y:V) (H:Hp) (Q:VK):OP  x y H Q=(∃ l k xs,x=.ref l∧y=.int k∧H l=some (.lst xs)∧-(2 ^ 63) ≤ k∧k < 2 ^ 63∧xs.length * k.toNat ≤ sizeLine ∧
 ∀ p,H p=none→Q (.ref p) (upd H p (.lst (List.replicate k.toNat xs).flatten))):=rfl
theorem qG (td ty:TE) (σ:St) (H:Hp) (Q:VK):aN td ty σ H Q=(td σ H fun x H1=>ty σ H1 fun y H2=>∃ a v,x=.ref a∧Km H2 a y (some v)∧Q v H2):=rfl
theorem jJ (ty td:TE) (σ:St) (H:Hp) (Q:VK):RP ty td σ H Q=(ty σ H fun y H1=>td σ H1 fun x H2=>∃ a o,x=.ref a∧Km H2 a y o∧Q (.bl o.isSome) H2):=rfl
theorem KA (ty td:TE) (σ:St) (H:Hp) (Q:VK):ZC ty td σ H Q=(ty σ H fun y H1=>td σ H1 fun x H2=>∃ a o,x=.ref a∧Km H2 a y o∧Q (.bl (!o.isSome)) H2):=rfl
theorem fG (td ty tv:TE) (D:lg) (σ:St) (H:Hp):pL td ty tv D σ H=(tv σ H fun v H1=>td σ H1 fun x H2=>ty σ H2 fun y H3=>∃ a H4,x=.ref a∧Nz H3 a y v H4∧D.nx σ H4):=rfl
theorem kH (td ty tv:TE) (rd:V→V→Hp→VK→Prop) (D:lg) (σ:St) (H:Hp):TN td ty tv rd D σ H=(td σ H fun x H1=>ty σ H1 fun y H2=>∃ a v,x=.ref a∧Km H2 a y (some v) ∧
 tv σ H2 fun y2 H3=>rd v y2 H3 fun z H4=>∃ H5,Nz H4 a y z H5∧D.nx σ H5):=rfl
theorem VF (td ty:TE) (D:lg) (σ:St) (H:Hp):PN td ty D σ H=(td σ H fun x H1=>ty σ H1 fun y H2=>∃ a kvs k,x=.ref a∧H2 a=some (.dK kvs)∧y=kV k∧(Vl kvs k).isSome=true∧D.nx σ (upd H2 a (.dK (Nv kvs k)))):=rfl
theorem lC (x_0:St) (H:Hp) (Q:VK):oI  x_0 H Q=(∀ p,H p=none→Q (.ref p) (upd H p (.dK []))):=rfl
theorem kB (x_0:St) (H:Hp) (Q:VK):yN  x_0 H Q=(∀ p,H p=none→Q (.ref p) (upd H p (.dT []))):=rfl
theorem jH (trs:List (TE × TE)) (σ:St) (H:Hp) (Q:VK):QN trs σ H Q=(∀ p,H p=none→SC trs σ (upd H p (.dK [])) fun ps H2=>H2 p=some (.dK [])∧∃ kvs:List (Key × V),ps=kvs.map (fun kv=>(kV kv.1,kv.2))∧kvs.length ≤ 15∧Q (.ref p) (upd H2 p (.dK (NH [] kvs)))):=rfl
theorem vC (td ty:TE) (σ:St) (H:Hp) (Q:VK):fL td ty σ H Q=(td σ H fun x H1=>∃ a,x=.ref a∧IsD H1 a∧ty σ H1 fun y H2=>∃ o,Km H2 a y o∧Q (o.getD .non) H2):=rfl
theorem yD (td ty tx:TE) (σ:St) (H:Hp) (Q:VK):zM td ty tx σ H Q=(td σ H fun x H1=>∃ a,x=.ref a∧IsD H1 a∧ty σ H1 fun y H2=>tx σ H2 fun z H3=>∃ o,Km H3 a y o∧Q (o.getD z) H3):=rfl
theorem FC (td ty:TE) (σ:St) (H:Hp) (Q:VK):HL td ty σ H Q=(td σ H fun x H1=>∃ a,x=.ref a∧IsD H1 a∧ty σ H1 fun y H2=>∃ kvs k v,H2 a=some (.dK kvs)∧y=kV k∧Vl kvs k=some v∧Q v (upd H2 a (.dK (Nv kvs k)))):=rfl
theorem FD (td ty tx:TE) (σ:St) (H:Hp) (Q:VK):EL td ty tx σ H Q=(td σ H fun x H1=>∃ a,x=.ref a∧IsD H1 a∧ty σ H1 fun y H2=>tx σ H2 fun z H3=>∃ kvs k,H3 a=some (.dK kvs)∧y=kV k ∧
 (∀ v,Vl kvs k=some v→Q v (upd H3 a (.dK (Nv kvs k))))∧(Vl kvs k=none→Q z H3)):=rfl
theorem yF (x_0:St) (H:Hp) (Q:(Bool→Hp→Prop)):AA  x_0 H Q=(Q true H):=rfl
theorem zK (tl:TE) (σ:St) (H:Hp) (R:(It→Hp→Prop)):GO tl σ H R=(tl σ H fun x H1=>∃ z,x=.str z∧R (Its (Oi z)) H1):=rfl
theorem cK (x:V) (lo:Option Int) (hi:Option Int) (H:Hp) (Q:VK):HP  x lo hi H Q=(∃ z,x=.str z∧z.length ≤ sizeLine∧Q (.str (Txt.slice z lo hi)) H):=rfl
theorem EF (K:PySem.W.Frag) (x:V) (vs:List V) (H:Hp) (Q:VK):eO K x vs H Q=(∃ sep p ys,x=.str sep∧vs=[.ref p]∧SqL K H p (bc ys)∧(ys.map (·.length)).sum + ys.length * sep.length ≤ 16777216∧Q (.str (Txt.join sep ys)) H):=rfl
theorem tD (x:V) (vs:List V) (H:Hp) (Q:VK):VH  x vs H Q=(∃ z y,x=.str z∧vs=[.str y]∧y.length ≠ 0∧z.length + 2 ≤ sizeLine∧(Txt.split z y).length ≤ sizeLine∧∀ p,H p=none→Q (.ref p) (upd H p (.lst (bc (Txt.split z y))))):=rfl
theorem Jz (x:V) (vs:List V) (H:Hp) (Q:VK):rK  x vs H Q=(∃ z y i rest,x=.str z∧vs=[.str y]∧Builtin.Str.occurrences z y 0 z.length 1=i :: rest∧Q (.int (i:Nat)) H):=rfl
theorem HC (OK:Addr→Prop) (m:Str) (SPV:Addr→Sp) (E:XK) (ta:TE) (t:TA) (σ:St) (H:Hp) (Q:VK):IH OK m SPV E ta t σ H Q=(ta σ H fun x H1=>∃ a C dx fs,x=.ref a∧H1 a=some (.ins C dx fs)∧OK C∧fs.lookup m=none ∧
 t σ H1 fun vs H2=>SPV C (x :: vs) H2 Q E):=rfl
theorem iB (kvs:SVs) (ty:TE) (σ:St) (H:Hp) (Q:VK):oM kvs ty σ H Q=(ty σ H fun y H1=>∃ x v,y=.str x∧kvs.lookup x=some v∧Q v H1):=rfl
theorem oH (K:PySem.W.Frag) (ta:TA) (σ:St) (H:Hp) (R:(It→Hp→Prop)):XL K ta σ H R=(ta σ H fun vs H1=>∃ a,vs=[.ref a]∧(∃ xs,SqL K H1 a xs)∧R (Ite K a) H1):=rfl
theorem eK (K:PySem.W.Frag) (ta:TA) (σ:St) (H:Hp) (R:(It→Hp→Prop)):KP K ta σ H R=(ta σ H fun vs H1=>∃ a b,vs=[.ref a,.ref b]∧(∃ xs,SqL K H1 a xs)∧(∃ ys,SqL K H1 b ys)∧R (Itz K a b) H1):=rfl
theorem JJ (K:PySem.W.Frag) (ta:TA) (σ:St) (H:Hp) (R:(It→Hp→Prop)):wP K ta σ H R=(ta σ H fun vs H1=>∃ a xs,vs=[.ref a]∧SqL K H1 a xs∧R (Itv K a xs.length) H1):=rfl
theorem bA (x:V) (vs:List V) (H:Hp) (Q:VK):II  x vs H Q=(∃ l xs i y,x=.ref l∧vs=[.int i,y]∧H l=some (.lst xs)∧0 ≤ i∧i < 2 ^ 62∧i ≤ (xs.length:Int)∧xs.length < sizeLine∧Q .non (upd H l (.lst (xs.take i.toNat ++ y :: xs.drop i.toNat)))):=rfl
theorem fJ (K:PySem.W.Frag) (x:V) (y:V) (H:Hp) (Q:VK):FP K x y H Q=(∃ p q b,x=.ref p∧y=.ref q∧EqH K H 8 (.ref p) (.ref q) b∧Q (.bl (!b)) H):=rfl
theorem HK (K:PySem.W.Frag) (x:V) (y:V) (H:Hp) (Q:VK):ZO K x y H Q=(∃ p q b,x=.ref p∧y=.ref q∧EqH K H 8 (.ref p) (.ref q) b∧Q (.bl b) H):=rfl
theorem AM (x_0:St) (H:Hp) (Q:(Hp→Prop)):tJ0  x_0 H Q=(Q H):=rfl
theorem TM (te:TE) (t:TJ) (σ:St) (H:Hp) (Q:(Hp→Prop)):tJI te t σ H Q=(te σ H fun v H1=>∃ i,v=.int i∧i.natAbs.log2 < 1920∧t σ H1 Q):=rfl
theorem RM (te:TE) (t:TJ) (σ:St) (H:Hp) (Q:(Hp→Prop)):tJS te t σ H Q=(te σ H fun v H1=>∃ x,v=.str x∧x.length ≤ 1000∧t σ H1 Q):=rfl
theorem WL (te:TE) (t:TJ) (σ:St) (H:Hp) (Q:(Hp→Prop)):tJR te t σ H Q=(te σ H fun v H1=>∃ x,v=.str x∧x.length ≤ 1000∧(∀ c ∈ x.cps.toList,c < 16 ^ 8)∧t σ H1 Q):=rfl
theorem eA (t:TJ) (σ:St) (H:Hp) (Q:VK):gC t σ H Q=(t σ H fun H1=>∀ y:Str,Q (.str y) H1):=rfl
theorem lB (K:PySem.W.Frag) (t:TA) (σ:St) (H:Hp) (Q:VK):yH K t σ H Q=(t σ H fun vs H1=>∃ x C od v,vs=[.ref x,v]∧H1 x=some (.ext (XF x C od))∧cq K C∧Q .non H1):=rfl
theorem yC (C:Addr) (sp:Sp) (t:TA) (σ:St) (H:Hp) (Q:VK):xI C sp t σ H Q=(t σ H fun vs H1=>vs.length ≤ sizeLine∧∀ x,H1 x=none→sp (.ref x :: vs) (upd H1 x (.ext (XF x C none))) (fun v H2=>v=.non∧Q (.ref x) H2) (fun _ _ _=>False)):=rfl
theorem bD (K:PySem.W.Frag) (ta tv:TE) (f:Str) (D:lg) (σ:St) (H:Hp):tI K ta tv f D σ H=(tv σ H fun y H1=>ta σ H1 fun x H2=>∃ a C,x=.ref a∧H2 a=some (.ext (XF a C none))∧cq K C∧Cb K C f ∧
 ∀ dx,H2 dx=none→dx ≠ a→D.nx σ (upd (upd H2 a (.ext (XF a C (some dx)))) dx (.ext (XD dx [(f,y)])))):=rfl
theorem YB (K:PySem.W.Frag) (ta tv:TE) (f:Str) (D:lg) (σ:St) (H:Hp):iI K ta tv f D σ H=(tv σ H fun y H1=>ta σ H1 fun x H2=>∃ a C dx fs,x=.ref a∧H2 a=some (.ext (XF a C (some dx)))∧H2 dx=some (.ext (XD dx fs))∧cq K C∧Cb K C f∧fs.length < 1000 ∧
 D.nx σ (upd H2 dx (.ext (XD dx (rg f y fs))))):=rfl
theorem kF (K:PySem.W.Frag) (ta:TE) (f:Str) (σ:St) (H:Hp) (Q:VK):VL K ta f σ H Q=(ta σ H fun x H1=>∃ a C dx fs v,x=.ref a∧H1 a=some (.ext (XA a C (some dx)))∧H1 dx=some (.ext (XD dx fs))∧cq K C∧Cb K C f∧fs.lookup f=some v∧Q v H1):=rfl
theorem qD (sp:Sp) (dvs:List V) (E:St→XK) (t:TA) (σ:St) (H:Hp) (Q:VK):wH sp dvs E t σ H Q=(t σ H fun vs H1=>sp (vs ++ dvs) H1 Q (E σ)):=rfl
theorem rE (C:Addr) (m:Str) (sp:Sp) (dvs:List V) (E:St→XK) (ta:TE) (t:TA) (σ:St) (H:Hp) (Q:VK):SM C m sp dvs E ta t σ H Q=(ta σ H fun x H1=>∃ a dx fs,x=.ref a∧H1 a=some (.ins C dx fs)∧fs.lookup m=none ∧
 t σ H1 fun vs H2=>sp (x :: (vs ++ dvs)) H2 Q (E σ)):=rfl
theorem MD (K:PySem.W.Frag) (E:St→XK) (te:TE) (D:lg) (σ:St) (H:Hp):LH K E te D σ H=(te σ H fun v H1=>∃ x C od,v=.ref x∧H1 x=some (.ext (XF x C od))∧cq K C∧E σ (.ref C) od (upd H1 x (.ext (XA x C od)))):=rfl
theorem mG (ta:TA) (σ:St) (H:Hp) (R:(It→Hp→Prop)):KM ta σ H R=(ta σ H fun vs H1=>∃ i j:Int,vs=[.int i,.int j,.int (-1)]∧(-1073741824 ≤ i∧i < 1073741824∧-1073741824 ≤ j∧j < 1073741824)∧R (Itd i (i - j).toNat) H1):=rfl
theorem zx (K:PySem.W.Frag) (ta:TA) (σ:St) (H:Hp) (Q:VK):Wy K ta σ H Q=(ta σ H fun vs H1=>∃ a xs,vs=[.ref a]∧SqL K H1 a xs∧∀ l,H1 l=none→Q (.ref l) (upd H1 l (.lst xs.reverse))):=rfl
theorem jG (K:PySem.W.Frag) (ta:TA) (td:TE) (σ:St) (H:Hp) (Q:VK):OL K ta td σ H Q=(ta σ H fun vs H1=>td σ H1 fun y H2=>∃ l ks,vs=[.ref l]∧SqL K H2 l (List.map V.int ks)∧Q (match ks.min? with | some m=>.int m | none=>y) H2):=rfl
theorem GK (K:PySem.W.Frag) (neg:Bool) (x:V) (y:V) (H:Hp) (Q:VK):GP K neg x y H Q=(∃ p qs f,y=.ref p∧SqL K H p (List.map V.ref qs)∧(∀ q ∈ qs,EqH K H 8 (.ref q) x (f q))∧Q (.bl (if neg then !(qs.any f) else qs.any f)) H):=rfl
theorem nA (K:PySem.W.Frag) (x:V) (vs:List V) (H:Hp) (Q:VK):qK K x vs H Q=(∃ l ks k,x=.ref l∧vs=[.int k]∧SqL K H l (List.map V.int ks)∧k ∈ ks∧ks.length ≤ 1000∧Q (.int (ks.idxOf k:Nat)) H):=rfl
noncomputable def sj (J:It) (g:TG) (tb:TS) (D:lg) (σ:St) (H:Hp):Prop:=∃ W:Nat→Nat→St→Hp→Prop,(∃ m,W 0 m σ H)∧∀ i m σ H,W i m σ H →
 (J.stop i H∧D.nx σ H)∨(J.go i H∧∃ N:St→Hp→Prop,(∀ σ' H',N σ' H'→∃ m',m' < m∧W (i + 1) m' σ' H')∧∀ x H',J.yld i H x H'→g x σ H' fun σ2 H2=>tb { D with nx:=N,ct:=N,bk:=D.nx } σ2 H2)
theorem FK (wi:TI) (g:TG) (tb:TS) (D:lg) (σ:St) (H:Hp):eP wi g tb D σ H=wi σ H fun J H1=>sj J g tb D σ H1:=rfl
noncomputable def Xd (J:It) (g:TG) (tc:TT) (te:TE) (σb:St) (Q:VK) (H:Hp):Prop:=∃ W:Nat→Nat→List V→Hp→Prop,(∃ m,W 0 m [] H)∧Rw J g tc te σb Q W
theorem RK (K:PySem.W.Frag) (ta:TE) (f:Str) (σ:St) (H:Hp) (Q:VK):vO K ta f σ H Q=(ta σ H fun x H1=>∃ a v,x=.ref a∧gj K H1 a f v∧Q v H1):=by
 unfold vO gj
 congr 1
 funext x H1
 apply propext
 constructor
 ·rintro ⟨a,C,dx,fs,v,h1,h2,h3,h4,h5,h6⟩;exact ⟨a,v,h1,⟨C,dx,fs,h2,h3,h4,h5⟩,h6⟩
 ·rintro ⟨a,v,h1,⟨C,dx,fs,h2,h3,h4,h5⟩,h6⟩;exact ⟨a,C,dx,fs,v,h1,h2,h3,h4,h5,h6⟩
theorem qB (wi:TI) (g:TG) (tc:TT) (te:XK→TE) (sel:List (Option Nat)) (E:St→XK) (σ:St) (H:Hp) (Q:VK):jN wi g tc te sel E σ H Q=wi σ H fun J H1=>Xd J g tc (te (E σ)) (blk sel σ) Q H1:=rfl
theorem mF (wi:TI) (g:TG) (tc:TT) (te:TE) (sel:List (Option Nat)) (σ:St) (H:Hp) (Q:VK):YJ wi g tc te sel σ H Q=wi σ H fun J H1=>Xd J g tc te (blk sel σ) Q H1:=rfl
theorem sG (ta:TA) (σ:St) (H:Hp) (R:It→Hp→Prop):AL ta σ H R=(ta σ H fun vs H1=>∃ j:Int,vs=[.int j]∧-4611686018427387904 ≤ j∧j < 4611686018427387904∧R (Itr 0 j.toNat) H1):=rfl
theorem CG (ta:TA) (σ:St) (H:Hp) (R:It→Hp→Prop):pO ta σ H R=(ta σ H fun vs H1=>∃ i j:Int,vs=[.int i,.int j]∧(-4611686018427387904 ≤ i∧i < 4611686018427387904∧-4611686018427387904 ≤ j∧j < 4611686018427387904)∧R (Itr i (j - i).toNat) H1):=rfl
theorem WI (sel:List (Option Nat)) (σ:St):blk sel σ=sel.map fun o=>o.bind fun j=>(σ[j]?).join:=rfl
theorem Vb {c:TT} {t u:TS} {D:lg} {σ:St} {H:Hp} (b:Bool) (hc:∀ Q:Bool→Hp→Prop,Q b H→c σ H Q) (h1:b=true→t D σ H) (h2:b=false→u D σ H):oO c t u D σ H:=by
 refine hc _ ?_
 cases b with
 | true=>exact h1 rfl
 | false=>exact h2 rfl
theorem Vo {c:TT} {t u:TS} {D:lg} {σ:St} {H:Hp} (R:Bool→Hp→Prop) (hc:∀ Q:Bool→Hp→Prop,(∀ b H',R b H'→Q b H')→c σ H Q) (h1:∀ H',R true H'→t D σ H') (h2:∀ H',R false H'→u D σ H'):oO c t u D σ H:=by
 refine hc _ fun b H' r=>?_
 cases b with
 | true=>exact h1 H' r
 | false=>exact h2 H' r
theorem Ui {t:TS} {D:lg} {σ:St} {H:Hp} (R:St→Hp→Prop) (h:∀ D':lg,(∀ σ H,R σ H→D'.nx σ H)→D'.rt=D.rt→D'.bk=D.bk→D'.ct=D.ct→t D' σ H) (hR:∀ σ H,R σ H→D.nx σ H):t D σ H:=h D hR rfl rfl rfl
theorem uJ {te:TE} {D:lg} {σ:St} {H:Hp} (v:V) (hc:∀ Q:VK,Q v H→te σ H Q) (h:D.rt v H):qO te D σ H:=hc _ h
theorem xj (x y:Str):(x ++ y).length=x.length + y.length:=by
 show (x.cps ++ y.cps).size=_
 rw [Array.size_append];rfl
theorem Ny (c:Nat):(⟨#[c]⟩:Str).length=1:=rfl
theorem sj.range {lo:Int} {n:Nat} {g:TG} {tb:TS} {D:lg} {σ:St} {H:Hp} (Pv:Nat→St→Hp→Prop) (h0:Pv 0 σ H)
  (hs:∀ i σ H,i < n→Pv i σ H→g (.int (lo + i)) σ H fun σ2 H2=>tb { D with nx:=Pv (i + 1),ct:=Pv (i + 1),bk:=D.nx } σ2 H2) (hd:∀ σ H,Pv n σ H→D.nx σ H):sj (Itr lo n) g tb D σ H:=bC Pv h0 hs hd
theorem sj.list {K:PySem.W.Frag} {a:Addr} {xs:List V} {g:TG} {tb:TS} {D:lg} {σ:St} {H:Hp} (Pv:Nat→St→Hp→Prop) (h0:Pv 0 σ H) (hl:∀ i σ H,i ≤ xs.length→Pv i σ H→SqL K H a xs)
  (hs:∀ i x σ H,xs[i]? = some x→Pv i σ H→g x σ H fun σ2 H2=>tb { D with nx:=Pv (i + 1),ct:=Pv (i + 1),bk:=D.nx } σ2 H2) (hd:∀ σ H,Pv xs.length σ H→D.nx σ H):sj (Itl K a) g tb D σ H:=pH Pv h0 hl hs hd
theorem sj.its {xs:List V} {g:TG} {tb:TS} {D:lg} {σ:St} {H:Hp} (Pv:Nat→St→Hp→Prop) (h0:Pv 0 σ H)
  (hs:∀ i x σ H,xs[i]? = some x→Pv i σ H→g x σ H fun σ2 H2=>tb { D with nx:=Pv (i + 1),ct:=Pv (i + 1),bk:=D.nx } σ2 H2) (hd:∀ σ H,Pv xs.length σ H→D.nx σ H):sj (Its xs) g tb D σ H:=zI Pv h0 hs hd
theorem Xd.list {K:PySem.W.Frag} {a:Addr} {xs:List V} {g:TG} {tc:TT} {te:TE} {σb:St} {Q:VK} {H:Hp} (Pv:Nat→List V→Hp→Prop) (hz:xs.length ≤ sizeLine) (h0:Pv 0 [] H) (hl:∀ i ys H,i ≤ xs.length→Pv i ys H→SqL K H a xs∧ys.length ≤ i)
  (hs:∀ i x ys H,xs[i]? = some x→Pv i ys H→Xg Pv g tc te σb i x ys H) (hd:∀ ys H,Pv xs.length ys H→∀ p,H p=none→Q (.ref p) (upd H p (.lst ys))):Xd (Itl K a) g tc te σb Q H:=jE Pv hz h0 hl hs hd
theorem Xd.its {xs:List V} {g:TG} {tc:TT} {te:TE} {σb:St} {Q:VK} {H:Hp} (Pv:Nat→List V→Hp→Prop) (hz:xs.length ≤ sizeLine) (h0:Pv 0 [] H) (hl:∀ i ys H,i ≤ xs.length→Pv i ys H→ys.length ≤ i)
  (hs:∀ i x ys H,xs[i]? = some x→Pv i ys H→Xg Pv g tc te σb i x ys H) (hd:∀ ys H,Pv xs.length ys H→∀ p,H p=none→Q (.ref p) (upd H p (.lst ys))):Xd (Its xs) g tc te σb Q H:=xG Pv hz h0 hl hs hd
theorem Xd.range {lo:Int} {n:Nat} {g:TG} {tc:TT} {te:TE} {σb:St} {Q:VK} {H:Hp} (Pv:Nat→List V→Hp→Prop) (hz:n ≤ sizeLine) (h0:Pv 0 [] H) (hl:∀ i ys H,i ≤ n→Pv i ys H→ys.length ≤ i)
  (hs:∀ i ys H,i < n→Pv i ys H→Xg Pv g tc te σb i (.int (lo + i)) ys H) (hd:∀ ys H,Pv n ys H→∀ p,H p=none→Q (.ref p) (upd H p (.lst ys))):Xd (Itr lo n) g tc te σb Q H:=Ez Pv hz h0 hl hs hd
theorem Ru {α β:Type} {xs:List α} {i:Nat} {x:α} (f:α→β) (h:xs[i]? = some x):(xs.take (i + 1)).map f=(xs.take i).map f ++ [f x]:=by
 rw [List.take_add_one,h,List.map_append];rfl
theorem Xd.its_map {xs:List V} {g:TG} {te:TE} {σb:St} {Q:VK} {H:Hp} (f:V→V) (hz:xs.length ≤ sizeLine) (hs:∀ (i:Nat) (x:V) (N:V→Hp→Prop),xs[i]? = some x→N (f x) H→g x σb H fun σ2 H2=>Sub σb σ2∧te σ2 H2 N)
  (hd:∀ p,H p=none→Q (.ref p) (upd H p (.lst (xs.map f)))):Xd (Its xs) g AA te σb Q H:=by
 refine Xd.its (fun i ys H'=>H'=H∧ys=(xs.take i).map f) hz ⟨rfl,rfl⟩ (fun i ys H' hi ⟨_,e⟩=>?_) (fun i x ys H' hx ⟨e1,e2⟩ N hN=>?_) (fun ys H' ⟨e1,e2⟩ p hp=>?_)
 ·rw [e,List.length_map,List.length_take];omega
 ·subst e1
  exact hs i x (fun y H4=>N (ys ++ [y]) H4) hx (hN _ _ ⟨rfl,by rw [e2,Ru f hx]⟩)
 ·subst e1
  rw [e2,List.take_length]
  exact hd p hp
theorem Xd.range_map {lo:Int} {n:Nat} {g:TG} {te:TE} {σb:St} {Q:VK} {H:Hp} (f:Nat→V) (hz:n ≤ sizeLine) (hs:∀ (i:Nat) (N:V→Hp→Prop),i < n→N (f i) H→g (.int (lo + i)) σb H fun σ2 H2=>Sub σb σ2∧te σ2 H2 N)
  (hd:∀ p,H p=none→Q (.ref p) (upd H p (.lst ((List.range n).map f)))):Xd (Itr lo n) g AA te σb Q H:=by
 refine Xd.range (fun i ys H'=>H'=H∧ys=(List.range i).map f) hz ⟨rfl,rfl⟩ (fun i ys H' hi ⟨_,e⟩=>?_) (fun i ys H' hi ⟨e1,e2⟩ N hN=>?_) (fun ys H' ⟨e1,e2⟩ p hp=>?_)
 ·rw [e,List.length_map,List.length_range];exact Nat.le_refl _
 ·subst e1
  exact hs i (fun y H4=>N (ys ++ [y]) H4) hi (hN _ _ ⟨rfl,by rw [e2,List.range_succ,List.map_append];rfl⟩)
 ·subst e1
  rw [e2]
  exact hd p hp
theorem Xd.list_mk {K:PySem.W.Frag} {a:Addr} {xs:List V} {g:TG} {te:TE} {σb:St} {Q:VK} {H:Hp} (f:V→HO) (hl:SqL K H a xs) (hz:xs.length ≤ sizeLine) (hn:∀ x,noT (f x)=true)
  (hs:∀ (i:Nat) (x:V) (H1:Hp) (N:V→Hp→Prop),xs[i]? = some x→Xb H H1→(NoT H→NoT H1)→(∀ q,H1 q=none→N (.ref q) (upd H1 q (f x)))→g x σb H1 fun σ2 H2=>Sub σb σ2∧te σ2 H2 N)
  (hd:∀ (qs:List Addr) (H1:Hp),Xb H H1→(NoT H→NoT H1)→qs.length=xs.length→(∀ (j:Nat) (q:Addr) (x:V),qs[j]? = some q→xs[j]? = some x→H1 q=some (f x)∧H q=none)→∀ p,H1 p=none→Q (.ref p) (upd H1 p (.lst (qs.map V.ref)))):Xd (Itl K a) g AA te σb Q H:=by
 refine Xd.list (fun i ys H'=>∃ qs:List Addr,ys=qs.map V.ref∧qs.length=i∧Xb H H'∧(NoT H→NoT H')∧∀ (j:Nat) (q:Addr) (x:V),qs[j]? = some q→xs[j]? = some x→H' q=some (f x)∧H q=none) hz
  ⟨[],rfl,rfl,Xb.refl H,id,fun j q x h _=>by simp at h⟩ ?_ ?_ ?_
 ·rintro i ys H' hi ⟨qs,e,e2,sm,_,_⟩
  exact ⟨hl.same sm,by rw [e,List.length_map];omega⟩
 ·rintro i x ys H' hx ⟨qs,e1,e2,sm,nt,al⟩ N hN
  refine hs i x H' (fun y H4=>N (ys ++ [y]) H4) hx sm nt fun q hq=>hN _ _ ⟨qs ++ [q],by rw [e1,List.map_append];rfl,by rw [List.length_append,e2];rfl,sm.updN (sm.free hq),fun n=>(nt n).upd (hn x),fun j q' x' h1 h2=>?_⟩
  by_cases hj:j < qs.length
  ·rw [List.getElem?_append_left hj] at h1
   obtain ⟨z1,z2⟩:=al j q' x' h1 h2
   exact ⟨by rw [lb (qb z1 hq)];exact z1,z2⟩
  ·rw [List.getElem?_append_right (by omega)] at h1
   have hj0:j - qs.length=0:=by
    cases hh:j - qs.length with
    | zero=>rfl
    | succ n=>rw [hh] at h1;simp at h1
   rw [hj0] at h1
   have e3:q=q':=by simpa using h1
   subst e3
   have e4:j=i:=by omega
   subst e4
   rw [hx] at h2
   cases h2
   exact ⟨cb,sm.free hq⟩
 ·rintro ys H' ⟨qs,e1,e2,sm,nt,al⟩ p hp
  subst e1
  exact hd qs H' sm nt e2 al p hp
theorem sj.of {J:It} {n:Nat} {g:TG} {tb:TS} {D:lg} {σ:St} {H:Hp} (Pv:Nat→St→Hp→Prop) (h0:Pv 0 σ H) (hgo:∀ i σ H,i < n→Pv i σ H→J.go i H) (hst:∀ σ H,Pv n σ H→J.stop n H)
  (hs:∀ i σ H x H',i < n→Pv i σ H→J.yld i H x H'→g x σ H' fun σ2 H2=>tb { D with nx:=Pv (i + 1),ct:=Pv (i + 1),bk:=D.nx } σ2 H2) (hd:∀ σ H,Pv n σ H→D.nx σ H):sj J g tb D σ H:=by
 refine ⟨fun i m σ H=>m=n - i∧i ≤ n∧Pv i σ H,⟨n,by simp,Nat.zero_le _,h0⟩,?_⟩
 rintro i m σ H ⟨rfl,hi,p⟩
 by_cases hlt:i < n
 ·exact .inr ⟨hgo i σ H hlt p,Pv (i + 1),fun σ' H' p'=>⟨n - (i + 1),by omega,rfl,hlt,p'⟩,fun x H' y=>hs i σ H x H' hlt p y⟩
 ·have e:i=n:=by omega
  subst e
  exact .inl ⟨hst σ H p,hd σ H p⟩
theorem Xd.of {J:It} {n:Nat} {g:TG} {tc:TT} {te:TE} {σb:St} {Q:VK} {H:Hp} (Pv:Nat→List V→Hp→Prop) (hz:n ≤ sizeLine) (h0:Pv 0 [] H) (hgo:∀ i ys H,i < n→Pv i ys H→J.go i H) (hst:∀ ys H,Pv n ys H→J.stop n H) (hl:∀ i ys H,i < n→Pv i ys H→ys.length ≤ i)
  (hs:∀ i ys H x H',i < n→Pv i ys H→J.yld i H x H'→Xg Pv g tc te σb i x ys H') (hd:∀ ys H,Pv n ys H→∀ p,H p=none→Q (.ref p) (upd H p (.lst ys))):Xd J g tc te σb Q H:=by
 refine ⟨fun i m ys H=>m=n - i∧i ≤ n∧Pv i ys H,⟨n,by simp,Nat.zero_le _,h0⟩,?_⟩
 rintro i m ys H ⟨rfl,hi,p⟩
 by_cases hlt:i < n
 ·have hyl:=hl i ys H hlt p
  refine .inr ⟨hgo i ys H hlt p,by omega,fun x H' y=>?_⟩
  exact hs i ys H x H' hlt p y (fun ys' H'=>∃ m',m' < n - i∧m'=n - (i + 1)∧i + 1 ≤ n∧Pv (i + 1) ys' H') fun ys' H' r=>⟨n - (i + 1),by omega,rfl,hlt,r⟩
 ·have e:i=n:=by omega
  subst e
  exact .inl ⟨hst ys H p,hd ys H p⟩
section
variable {K:PySem.W.Frag} {a b:Addr} {xs ys:List V} {g:TG} {tb:TS} {D:lg} {σ σb:St} {H:Hp} {tc:TT} {te:TE} {Q:VK}
theorem sj.enum (Pv:Nat→St→Hp→Prop) (h0:Pv 0 σ H) (hl:∀ i σ H,i ≤ xs.length→Pv i σ H→SqL K H a xs)
  (hs:∀ i x σ H p,xs[i]? = some x→Pv i σ H→H p=none→g (.ref p) σ (upd H p (.tup [.int i,x])) fun σ2 H2=>tb { D with nx:=Pv (i + 1),ct:=Pv (i + 1),bk:=D.nx } σ2 H2) (hd:∀ σ H,Pv xs.length σ H→D.nx σ H):sj (Ite K a) g tb D σ H:=by
 refine sj.of (n:=xs.length) Pv h0 (fun i σ H hi p=>⟨xs,xs[i],hl i σ H (Nat.le_of_lt hi) p,by simp [hi]⟩) (fun σ H p=>⟨xs,hl _ σ H (Nat.le_refl _) p,Nat.le_refl _⟩) (fun i σ H v H' hi p y=>?_) hd
 obtain ⟨q,x,hq,rfl,hx,rfl⟩:=y
 exact hs i x σ H q (hx xs (hl i σ H (Nat.le_of_lt hi) p)) p hq
theorem sj.zip (Pv:Nat→St→Hp→Prop) (h0:Pv 0 σ H) (hl:∀ i σ H,i ≤ xs.length→Pv i σ H→SqL K H a xs∧SqL K H b ys) (n:Nat) (hn:n=min xs.length ys.length)
  (hs:∀ i x y σ H p,xs[i]? = some x→ys[i]? = some y→Pv i σ H→H p=none→g (.ref p) σ (upd H p (.tup [x,y])) fun σ2 H2=>tb { D with nx:=Pv (i + 1),ct:=Pv (i + 1),bk:=D.nx } σ2 H2) (hd:∀ σ H,Pv n σ H→D.nx σ H):sj (Itz K a b) g tb D σ H:=by
 subst hn
 refine sj.of (n:=min xs.length ys.length) Pv h0 (fun i σ H hi p=>?_) (fun σ H p=>?_) (fun i σ H v H' hi p y=>?_) hd
 ·obtain ⟨z1,z2⟩:=hl i σ H (by omega) p
  exact ⟨xs,ys,xs[i],ys[i],z1,z2,by rw [List.getElem?_eq_getElem (by omega)],by rw [List.getElem?_eq_getElem (by omega)]⟩
 ·obtain ⟨z1,z2⟩:=hl _ σ H (by omega) p
  exact ⟨xs,ys,z1,z2,by omega⟩
 ·obtain ⟨q,x,y,hq,rfl,hx,hy,rfl⟩:=y
  obtain ⟨z1,z2⟩:=hl i σ H (by omega) p
  exact hs i x y σ H q (hx xs z1) (hy ys z2) p hq
theorem Xd.enum (Pv:Nat→List V→Hp→Prop) (hz:xs.length ≤ sizeLine) (h0:Pv 0 [] H) (hl:∀ i ys H,i ≤ xs.length→Pv i ys H→SqL K H a xs∧ys.length ≤ i)
  (hs:∀ i x ys H p,xs[i]? = some x→Pv i ys H→H p=none→Xg Pv g tc te σb i (.ref p) ys (upd H p (.tup [.int i,x]))) (hd:∀ ys H,Pv xs.length ys H→∀ p,H p=none→Q (.ref p) (upd H p (.lst ys))):Xd (Ite K a) g tc te σb Q H:=by
 refine Xd.of (n:=xs.length) Pv hz h0 (fun i ys H hi p=>⟨xs,xs[i],(hl i ys H (Nat.le_of_lt hi) p).1,by simp [hi]⟩) (fun ys H p=>⟨xs,(hl _ ys H (Nat.le_refl _) p).1,Nat.le_refl _⟩) (fun i ys H hi p=>(hl i ys H (Nat.le_of_lt hi) p).2) (fun i zs H v H' hi p y=>?_) hd
 obtain ⟨q,x,hq,rfl,hx,rfl⟩:=y
 exact hs i x zs H q (hx xs (hl i zs H (Nat.le_of_lt hi) p).1) p hq
theorem YF {i j:Nat} {p:Addr} {x y:V} {R:St→Hp→Prop} (h:SqT K H p [x,y]) (q:R ((σ.set i (some x)).set j (some y)) H):lM K 2 (Pz (aw i) (Pz (aw j) GN)) (.ref p) σ H R:=
 ⟨p,_,rfl,h,rfl,x,_,rfl,y,_,rfl,rfl,q⟩
theorem tj {i j:Nat} {p:Addr} {x y:V} {R:St→Hp→Prop} (q:R ((σ.set i (some x)).set j (some y)) (upd H p (.tup [x,y]))):lM K 2 (Pz (aw i) (Pz (aw j) GN)) (.ref p) σ (upd H p (.tup [x,y])) R:=
 YF (.inl (.inl cb)) q
end
theorem Sub.name2 {r:St} {v w:Option V}:Sub (none :: none :: r) (v :: w :: r):=by
 refine ⟨rfl,fun i u h=>?_⟩
 match i with
 | 0=>cases h
 | 1=>cases h
 | i + 2=>exact h
theorem Sub.name3 {r:St} {v w z:Option V}:Sub (none :: none :: none :: r) (v :: w :: z :: r):=by
 refine ⟨rfl,fun i u h=>?_⟩
 match i with
 | 0=>cases h
 | 1=>cases h
 | 2=>cases h
 | i + 3=>exact h
theorem Xd.list_zs {K:PySem.W.Frag} {a:Addr} {xs zs:List V} {g:TG} {te:TE} {σb:St} {Q:VK} {H:Hp} (hl:SqL K H a xs) (hz:xs.length ≤ sizeLine) (he:zs.length=xs.length)
  (hs:∀ (i:Nat) (x z:V) (N:V→Hp→Prop),xs[i]? = some x→zs[i]? = some z→N z H→g x σb H fun σ2 H2=>Sub σb σ2∧te σ2 H2 N) (hd:∀ p,H p=none→Q (.ref p) (upd H p (.lst zs))):Xd (Itl K a) g AA te σb Q H:=by
 refine Xd.list (fun i ys H'=>H'=H∧ys=zs.take i) hz ⟨rfl,rfl⟩ (fun i ys H' hi ⟨e0,e⟩=>?_) (fun i x ys H' hx ⟨e1,e2⟩ N hN=>?_) (fun ys H' ⟨e1,e2⟩ p hp=>?_)
 ·subst e0
  exact ⟨hl,by rw [e,List.length_take];omega⟩
 ·subst e1
  have hi:i < zs.length:=by rw [he];exact (List.getElem?_eq_some_iff.mp hx).1
  have hz':zs[i]? = some zs[i]:=List.getElem?_eq_getElem hi
  exact hs i x zs[i] (fun y H4=>N (ys ++ [y]) H4) hx hz' (hN _ _ ⟨rfl,by rw [e2,List.take_add_one,hz'];rfl⟩)
 ·subst e1
  rw [e2,← he,List.take_length]
  exact hd p hp
theorem Sub.name {r:St} {v:Option V}:Sub (none :: r) (v :: r):=by
 refine ⟨rfl,fun i w h=>?_⟩
 cases i with
 | zero=>cases h
 | succ i=>exact h
end L2
local macro_rules | `(tactic| walk_at "RD")=>`(tactic| ((try dsimp only [L2.pB,L2.iy,L2.Cx.nox,L2.Cx.wish,L2.Cx.block,L2.Cx.tr,L2.Cx.hn]);(try simp only [L2.LI,L2.AO,L2.QJ,L2.yI,L2.wJ,L2.vJ,L2.yJ,L2.hG,L2.uO,L2.CI,L2.PL,L2.AJ,L2.bH,L2.LJ,L2.nH,L2.UM,L2.Ry,L2.wf,L2.UB,L2.WF,L2.eF,L2.AI,L2.bG,L2.uE,L2.um,L2.DJ,L2.eG,L2.QK,L2.DI,L2.AK,L2.ZI,L2.pK,L2.wF,L2.aF,L2.SK,L2.wL,L2.iL,L2.rO,L2.lN,L2.gO,L2.DM,L2.BL,L2.RG,L2.SB,L2.pJ,L2.CK,L2.qA,L2.DK,L2.RJ,L2.kJ,L2.QF,L2.XI,L2.EI,L2.IG,L2.qF,L2.nF,L2.aD,L2.KL,L2.aA,L2.BG,L2.SL,L2.IK,L2.GI,L2.OG,L2.xK,L2.GJ,L2.FJ,L2.rL,L2.IF,L2.dJ,L2.NL,L2.VI,L2.jL,L2.Gz,L2.Wz,L2.UI,L2.pE,L2.kx,L2.BB,L2.tJ,L2.eJ,L2.qG,L2.jJ,L2.KA,L2.fG,L2.kH,L2.VF,L2.lC,L2.kB,L2.jH,L2.vC,L2.yD,L2.FC,L2.FD,L2.yF,L2.zK,L2.cK,L2.EF,L2.tD,L2.Jz,L2.HC,L2.iB,L2.oH,L2.eK,L2.JJ,L2.bA,L2.fJ,L2.HK,L2.AM,L2.TM,L2.RM,L2.WL,L2.eA,L2.lB,L2.yC,L2.bD,L2.YB,L2.kF,L2.qD,L2.rE,L2.MD,L2.mG,L2.zx,L2.jG,L2.GK,L2.nA,L2.FK,L2.mF,L2.sG,L2.CG,L2.RK,L2.RI,L2.gJ,L2.qB,L2.MJ,L2.gK,L2.start,L2.WI,List.map_cons,List.map_nil,Option.bind_none,Option.bind_some,Option.join_some,Option.join_none,List.length_cons,List.length_nil,Nat.reduceAdd,Nat.reduceSub,Nat.zero_add,List.replicate,List.cons_append,List.nil_append,List.append_nil,List.set_cons_zero,List.set_cons_succ,List.getElem?_cons_zero,List.getElem?_cons_succ,Option.some.injEq,L2.V.int.injEq,L2.V.bl.injEq,L2.V.str.injEq,L2.V.ref.injEq,L2.V.ty.injEq,exists_eq_left',exists_eq_left,exists_and_left,List.cons.injEq,and_true,true_and,and_assoc,Int.zero_add,reduceCtorEq,false_and,exists_false,and_false,ite_true,ite_false,if_true,if_false,Bool.false_eq_true,L2.rM,L2.tyV,false_or,or_false,Bool.not_true,Bool.not_false,decide_true,decide_false])))
local macro_rules | `(tactic| walk_at "F")=>`(tactic| exact ⟨rfl,rfl,rfl,by decide +kernel,rfl,by decide +kernel,by decide +kernel⟩)
namespace My
open PySem L2
noncomputable def top (i:Nat):Stmt:=PySem.Challenge.pw_lampway_k18_refusals_apart.main.body.getD i (.Pass ⟨0,0,0,0⟩)
noncomputable abbrev Ow:Stmt:=top 16
theorem zG:wb ["text"] ["text"] (jb Ow):=(by walk_at "F")
noncomputable abbrev Cj:Stmt:=top 17
theorem Gu:wb ["word","signs","most"] ["word","signs","most"] (jb Cj):=(by walk_at "F")
noncomputable abbrev Mq:Stmt:=top 18
theorem sv:wb ["word","most_figures"] ["word","most_figures"] (jb Mq):=(by walk_at "F")
noncomputable abbrev qv:Stmt:=top 19
theorem vt:wb ["word","low","high","number"] ["word","low","high"] (jb qv):=(by walk_at "F")
noncomputable abbrev mv:Stmt:=top 20
theorem Cz:wb ["word"] ["word"] (jb mv):=(by walk_at "F")
noncomputable abbrev vp:Stmt:=top 23
theorem Sz:wb ["text"] ["text"] (jb vp):=(by walk_at "F")
noncomputable abbrev lr:Stmt:=top 37
theorem On:wb ["reader","places"] ["reader"] (jb lr):=(by walk_at "F")
noncomputable abbrev Cg:Stmt:=top 38
theorem Pi:wb ["reader","ways","name"] ["reader","ways"] (jb Cg):=(by walk_at "F")
noncomputable abbrev Tt:Stmt:=top 39
theorem yp:wb ["reader","places","start"] ["reader","places","start"] (jb Tt):=(by walk_at "F")
noncomputable abbrev Pt:Stmt:=top 40
theorem mx:wb ["sort","name","start","end","off","near","least"] ["sort","name","start","end","off","near","least"] (jb Pt):=(by walk_at "F")
noncomputable abbrev ut:Stmt:=top 41
theorem me:wb ["reader","places","ways","sort","name","start","end","off","near","least"] ["reader","places","ways"] (jb ut):=(by walk_at "F")
noncomputable abbrev Gj:Stmt:=top 42
theorem Qd:wb ["text","rows","places","ways","reader"] ["text"] (jb Gj):=(by walk_at "F")
noncomputable abbrev ky:Stmt:=top 44
theorem Lv:wb ["places","way","place","steps"] ["places","way","place"] (jb ky):=(by walk_at "F")
noncomputable abbrev Zn:Stmt:=top 45
theorem Vu:wb ["places","way","second"] ["places","way","second"] (jb Zn):=(by walk_at "F")
noncomputable abbrev OH:Stmt:=top 46
theorem cx:wb ["crossing","one","other","way","second"] ["crossing","one","other"] (jb OH):=(by walk_at "F")
noncomputable abbrev LM:Stmt:=top 47
theorem bE:wb ["crossing","one","other","way","second"] ["crossing","one","other"] (jb LM):=(by walk_at "F")
noncomputable abbrev el:Stmt:=top 49
theorem Nd:wb ["marks","size","steps","untils","place"] ["marks"] (jb el):=(by walk_at "F")
noncomputable abbrev Jk:Stmt:=top 50
theorem aq:wb ["marks"] ["marks"] (jb Jk):=(by walk_at "F")
noncomputable abbrev dn:Stmt:=top 53
theorem Gx:wb ["spans","name"] ["spans","name"] (jb dn):=(by walk_at "F")
noncomputable abbrev Ej:Stmt:=top 54
theorem Ue:wb ["size","spans","name","marks","begin","turns","step"] ["size","spans","name"] (jb Ej):=(by walk_at "F")
noncomputable abbrev QB:Stmt:=top 55
theorem Fl:wb ["way","size","spans","shown","begin","turns","step"] ["way","size","spans"] (jb QB):=(by walk_at "F")
noncomputable abbrev Vk:Stmt:=top 56
theorem Oj:wb ["crossing","spans","name"] ["crossing","spans"] (jb Vk):=(by walk_at "F")
noncomputable abbrev Cd:Stmt:=top 57
theorem Jc:wb ["size","spans","place","name","begin","turns","others"] ["size","spans","place"] (jb Cd):=(by walk_at "F")
noncomputable abbrev Yk:Stmt:=top 58
theorem Nc:wb ["crossing","size","spans","place","span","name","begin","turns","way","needed"] ["crossing","size","spans"] (jb Yk):=(by walk_at "F")
noncomputable abbrev Th:Stmt:=top 59
theorem Yd:wb ["crossing","one","other","since_one","since_other","between","turn","steps"] ["crossing","one","other","since_one","since_other"] (jb Th):=(by walk_at "F")
noncomputable abbrev Wk:Stmt:=top 60
theorem je:wb ["crossing","size","spans","since","name","one","other"] ["crossing","size","spans"] (jb Wk):=(by walk_at "F")
noncomputable abbrev Pl:Stmt:=top 61
theorem Yf:wb ["crossing","size","rows","spans","name","begin","turns"] ["crossing","size","rows"] (jb Pl):=(by walk_at "F")
noncomputable abbrev Bq:Stmt:=top 63
theorem Nj:wb ["_law_script","_law_k","_law_many","_law_cell","_law_seed"] ["_law_script","_law_k","_law_many"] (jb Bq):=(by walk_at "F")
noncomputable abbrev Vt:Stmt:=top 64
theorem Gw:wb ["_law_k","_law_crossing","_law_names","_law_number"] ["_law_k","_law_crossing","_law_names","_law_number"] (jb Vt):=(by walk_at "F")
noncomputable abbrev Xl:Stmt:=top 65
theorem Hr:wb ["_law_e"] ["_law_e"] (jb Xl):=(by walk_at "F")
noncomputable abbrev Vn:Stmt:=top 66
theorem Ei:wb ["_law_e","_law_first","_law_second"] ["_law_e"] (jb Vn):=(by walk_at "F")
noncomputable abbrev Al:Stmt:=top 67
theorem Re:wb ["_law_k","_law_crossing","_law_names","_law_number","_law_due","_law_told","_law_e","_law_field"] ["_law_k","_law_crossing","_law_names","_law_number"] (jb Al):=(by walk_at "F")
noncomputable abbrev PM:Stmt:=top 68
theorem Bk:wb ["_law_script","_law_letters","_law_names","_law_k","_law_name","_law_i","_law_number","_law_crossing"] ["_law_script"] (jb PM):=(by walk_at "F")
noncomputable abbrev Zl:Stmt:=Gc (top 3) 0
theorem ym:wb ["self","row","word"] ["self","row","word"] (jb Zl):=(by walk_at "F")
noncomputable abbrev ao:Stmt:=Gc (top 4) 0
theorem Bn:wb ["self","name"] ["self","name"] (jb ao):=(by walk_at "F")
noncomputable abbrev qo:Stmt:=Gc (top 5) 0
theorem gn:wb ["self","way"] ["self","way"] (jb qo):=(by walk_at "F")
noncomputable abbrev mo:Stmt:=Gc (top 6) 0
theorem rn:wb ["self","way","at"] ["self","way","at"] (jb mo):=(by walk_at "F")
noncomputable abbrev Rn:Stmt:=Gc (top 7) 0
theorem zn:wb ["self","way","other","at"] ["self","way","other","at"] (jb Rn):=(by walk_at "F")
noncomputable abbrev Qi:Stmt:=Gc (top 22) 0
theorem nj:wb ["self","row","told"] ["self","row","told"] (jb Qi):=(by walk_at "F")
noncomputable abbrev Sh:Stmt:=Gc (top 22) 1
theorem fm:wb ["self"] ["self"] (jb Sh):=(by walk_at "F")
noncomputable abbrev jg:Stmt:=Gc (top 22) 2
theorem Fj:wb ["self"] ["self"] (jb jg):=(by walk_at "F")
noncomputable abbrev Tg:Stmt:=Gc (top 22) 3
theorem Sl:wb ["self"] ["self"] (jb Tg):=(by walk_at "F")
noncomputable abbrev Ti:Stmt:=Gc (top 22) 4
theorem ki:wb ["self","good"] ["self","good"] (jb Ti):=(by walk_at "F")
noncomputable abbrev gh:Stmt:=Gc (top 22) 5
theorem Dg:wb ["self","choices","found"] ["self","choices"] (jb gh):=(by walk_at "F")
noncomputable abbrev Fg:Stmt:=Gc (top 22) 6
theorem Jd:wb ["self","low","high","found"] ["self","low","high"] (jb Fg):=(by walk_at "F")
noncomputable abbrev Sg:Stmt:=Gc (top 22) 7
theorem Ll:wb ["self"] ["self"] (jb Sg):=(by walk_at "F")
noncomputable abbrev Ct:Stmt:=Gc (top 25) 0
theorem pp:wb ["self","kind","name","start","end","off","near","least"] ["self","kind","name","start","end","off","near","least"] (jb Ct):=(by walk_at "F")
noncomputable abbrev gm:Stmt:=Gc (top 26) 0
theorem im:wb ["self","name","start","end","off","near","least"] ["self","name","start","end","off","near","least"] (jb gm):=(by walk_at "F")
noncomputable abbrev Ak:Stmt:=Gc (top 26) 1
theorem Ep:wb ["self"] ["self"] (jb Ak):=(by walk_at "F")
noncomputable abbrev Bm:Stmt:=Gc (top 26) 2
theorem Gs:wb ["self"] ["self"] (jb Bm):=(by walk_at "F")
noncomputable abbrev dl:Stmt:=Gc (top 27) 0
theorem Hl:wb ["self","name","start","end","off","near","least"] ["self","name","start","end","off","near","least"] (jb dl):=(by walk_at "F")
noncomputable abbrev bj:Stmt:=Gc (top 27) 1
theorem Lo:wb ["self"] ["self"] (jb bj):=(by walk_at "F")
noncomputable abbrev Xk:Stmt:=Gc (top 27) 2
theorem Yq:wb ["self"] ["self"] (jb Xk):=(by walk_at "F")
noncomputable abbrev Tk:Stmt:=Gc (top 28) 0
theorem zl:wb ["self","name","start","end","off","near","least"] ["self","name","start","end","off","near","least"] (jb Tk):=(by walk_at "F")
noncomputable abbrev oj:Stmt:=Gc (top 28) 1
theorem Ko:wb ["self"] ["self"] (jb oj):=(by walk_at "F")
noncomputable abbrev zk:Stmt:=Gc (top 28) 2
theorem Lq:wb ["self"] ["self"] (jb zk):=(by walk_at "F")
noncomputable abbrev qj:Stmt:=Gc (top 36) 0
theorem ye:wb ["self","places","ways","number","way"] ["self","places","ways"] (jb qj):=(by walk_at "F")
noncomputable abbrev ig:Stmt:=Gc (top 36) 1
theorem Fn:wb ["self"] ["self"] (jb ig):=(by walk_at "F")
noncomputable abbrev ai:Stmt:=Gc (top 36) 2
theorem yh:wb ["self","name"] ["self","name"] (jb ai):=(by walk_at "F")
noncomputable abbrev Uh:Stmt:=Gc (top 36) 3
theorem bh:wb ["self","name"] ["self","name"] (jb Uh):=(by walk_at "F")
noncomputable abbrev Zq:Stmt:=Gc (top 52) 0
theorem Xi:wb ["self","crossing","size","spans","name"] ["self","crossing","size","spans"] (jb Zq):=(by walk_at "F")
set_option genInjectivity false in
structure Adr where
 {Fu fg Fi Lj Qm Im Ni df ei gk pk Kd Po Ug Ey bF Ae Jf zf dg Vy Lf zd Cf pe Ef zi oi ck vg Wg Ii MK oe bg Zf Tf Uf Td Sb Wc gc jc Qc Pb Rc vf Ye Rf qg Ee Xe Nf Fe ff Mf fe Tc Kc Nb Pg yb Hm Xc Bc Dc Mb we ie zb Lb Kb Gb Fb Wf Dj jh:Addr}
 {Mu Xf si fj jm Lm vi bf Ph jk Zj Ld Oo Zg Iy xF Ce Df pf Vf oz Gf yd Kf ve Qf xi Ji Sj wg Bh Gi NF Te ah rh lh mh Je Yb Id Cc Fc Dd Tb Bd xg og Eh Hi Bf Ag Jh Of Mg Lh cf vd jd Rb Di:FuncData}
 {Cw Uk Iv Lk ko Pk xr Rt Rm Qq:Value}
structure Txt (w:World) (K:PySem.W.Frag) (mg:Str→Option Value) (t:Adr):Prop where
 XJ:mg "words"=some (.ref t.Fu)
 Lx:Fun K "words" "words" Ow t.Fu t.Mu
 Xn:mg "is_made_of"=some (.ref t.fg)
 vh:Fun K "is_made_of" "is_made_of" Cj t.fg t.Xf
 Dx:mg "is_number"=some (.ref t.Fi)
 Ol:Fun K "is_number" "is_number" Mq t.Fi t.si
 wv:mg "figured"=some (.ref t.Lj)
 tm:Fun K "figured" "figured" qv t.Lj t.fj
 TC:mg "is_name"=some (.ref t.Qm)
 Yp:Fun K "is_name" "is_name" mv t.Qm t.jm
 sB:mg "readers"=some (.ref t.Im)
 uq:Fun K "readers" "readers" vp t.Im t.Lm
 Jw:mg "read_ring"=some (.ref t.Ni)
 Ql:Fun K "read_ring" "read_ring" lr t.Ni t.vi
 wq:mg "read_new_name"=some (.ref t.df)
 Ng:Fun K "read_new_name" "read_new_name" Cg t.df t.bf
 DA:mg "read_end"=some (.ref t.ei)
 Xj:Fun K "read_end" "read_end" Tt t.ei t.Ph
 Xz:mg "made_way"=some (.ref t.gk)
 wn:Fun K "made_way" "made_way" Pt t.gk t.jk
 zA:mg "read_way"=some (.ref t.pk)
 Kn:Fun K "read_way" "read_way" ut t.pk t.Zj
 yj:mg "read_crossing"=some (.ref t.Kd)
 Ze:Fun K "read_crossing" "read_crossing" Gj t.Kd t.Ld
 oy:mg "in_bow"=some (.ref t.Po)
 So:Fun K "in_bow" "in_bow" ky t.Po t.Oo
 bw:mg "bows_cross"=some (.ref t.Ug)
 pj:Fun K "bows_cross" "bows_cross" Zn t.Ug t.Zg
 vN:mg "meet"=some (.ref t.Ey)
 mE:Fun K "meet" "meet" OH t.Ey t.Iy
 VN:mg "gap"=some (.ref t.bF)
 KI:Fun K "gap" "gap" LM t.bF t.xF
 Dk:mg "until_marked"=some (.ref t.Ae)
 Ff:Fun K "until_marked" "until_marked" el t.Ae t.Ce
 Ws:mg "since_marked"=some (.ref t.Jf)
 Gh:Fun K "since_marked" "since_marked" Jk t.Jf t.Df
 Qj:mg "spans_of"=some (.ref t.zf)
 yg:Fun K "spans_of" "spans_of" dn t.zf t.pf
 jo:mg "free_marks"=some (.ref t.dg)
 Ah:Fun K "free_marks" "free_marks" Ej t.dg t.Vf
 cN:mg "lamp"=some (.ref t.Vy)
 TB:Fun K "lamp" "lamp" QB t.Vy t.oz
 Ss:mg "refuse_never"=some (.ref t.Lf)
 Kh:Fun K "refuse_never" "refuse_never" Vk t.Lf t.Gf
 zj:mg "turns_to_next_begin"=some (.ref t.zd)
 ke:Fun K "turns_to_next_begin" "turns_to_next_begin" Cd t.zd t.yd
 Jr:mg "refuse_short"=some (.ref t.Cf)
 Fh:Fun K "refuse_short" "refuse_short" Yk t.Cf t.Kf
 Dn:mg "refuse_clash_of"=some (.ref t.pe)
 Af:Fun K "refuse_clash_of" "refuse_clash_of" Th t.pe t.ve
 Xs:mg "refuse_clash"=some (.ref t.Ef)
 Ih:Fun K "refuse_clash" "refuse_clash" Wk t.Ef t.Qf
 yl:mg "made_plan"=some (.ref t.zi)
 zg:Fun K "made_plan" "made_plan" Pl t.zi t.xi
 Nl:mg "_law_draw"=some (.ref t.oi)
 Eg:Fun K "_law_draw" "_law_draw" Bq t.oi t.Ji
 Az:mg "_law_met"=some (.ref t.ck)
 Gn:Fun K "_law_met" "_law_met" Vt t.ck t.Sj
 Au:mg "_law_fields"=some (.ref t.vg)
 Li:Fun K "_law_fields" "_law_fields" Xl t.vg t.wg
 tw:mg "_law_kinds"=some (.ref t.Wg)
 jj:Fun K "_law_kinds" "_law_kinds" Vn t.Wg t.Bh
 Sx:mg "_law_good"=some (.ref t.Ii)
 El:Fun K "_law_good" "_law_good" Al t.Ii t.Gi
 YN:mg "law"=some (.ref t.MK)
 BO:Fun K "law" "law" PM t.MK t.NF
 ap:mg "NoText"=some (.ref t.zb)
 zF:PySem.W.findIn K (.ref t.zb) "__init__"=some (some (.ref t.oe))
 vm:Fun K "__init__" "NoText.__init__" Zl t.oe t.Te
 Ix:mg "NoWay"=some (.ref t.Lb)
 EH:PySem.W.findIn K (.ref t.Lb) "__init__"=some (some (.ref t.bg))
 so:Fun K "__init__" "NoWay.__init__" ao t.bg t.ah
 jx:mg "Never"=some (.ref t.Kb)
 AH:PySem.W.findIn K (.ref t.Kb) "__init__"=some (some (.ref t.Zf))
 bo:Fun K "__init__" "Never.__init__" qo t.Zf t.rh
 Vx:mg "Short"=some (.ref t.Gb)
 pI:PySem.W.findIn K (.ref t.Gb) "__init__"=some (some (.ref t.Tf))
 Wn:Fun K "__init__" "Short.__init__" mo t.Tf t.lh
 Fx:mg "Clash"=some (.ref t.Fb)
 vI:PySem.W.findIn K (.ref t.Fb) "__init__"=some (some (.ref t.Uf))
 Sn:Fun K "__init__" "Clash.__init__" Rn t.Uf t.mh
 vx:mg "RowReader"=some (.ref t.yb)
 QA:PySem.W.findIn K (.ref t.yb) "__init__"=some (some (.ref t.Td))
 Ri:Fun K "__init__" "RowReader.__init__" Qi t.Td t.Je
 jA:PySem.W.findIn K (.ref t.yb) "ahead"=some (some (.ref t.Sb))
 di:Fun K "ahead" "RowReader.ahead" Sh t.Sb t.Yb
 Ew:PySem.W.findIn K (.ref t.yb) "has_more"=some (some (.ref t.Wc))
 kg:Fun K "has_more" "RowReader.has_more" jg t.Wc t.Id
 Hy:PySem.W.findIn K (.ref t.yb) "refuse"=some (some (.ref t.gc))
 dh:Fun K "refuse" "RowReader.refuse" Tg t.gc t.Cc
 RA:PySem.W.findIn K (.ref t.yb) "take"=some (some (.ref t.jc))
 gg:Fun K "take" "RowReader.take" Ti t.jc t.Fc
 iz:PySem.W.findIn K (.ref t.yb) "one_of"=some (some (.ref t.Qc))
 ph:Fun K "one_of" "RowReader.one_of" gh t.Qc t.Dd
 Xw:PySem.W.findIn K (.ref t.yb) "figures"=some (some (.ref t.Pb))
 Le:Fun K "figures" "RowReader.figures" Fg t.Pb t.Tb
 jz:PySem.W.findIn K (.ref t.yb) "finish"=some (some (.ref t.Rc))
 Rg:Fun K "finish" "RowReader.finish" Sg t.Rc t.Bd
 mJ:mg "Way"=some (.ref t.Hm)
 cL:PySem.W.findIn K (.ref t.Hm) "__init__"=some (some (.ref t.vf))
 Wt:Fun K "__init__" "Way.__init__" Ct t.vf t.xg
 GF:mg "CarWay"=some (.ref t.Xc)
 ZF:PySem.W.findIn K (.ref t.Xc) "__init__"=some (some (.ref t.Ye))
 dm:Fun K "__init__" "CarWay.__init__" gm t.Ye t.og
 FE:PySem.W.findIn K (.ref t.Xc) "ready"=some (some (.ref t.Rf))
 Fk:Fun K "ready" "CarWay.ready" Ak t.Rf t.Eh
 gH:PySem.W.findIn K (.ref t.Xc) "fade"=some (some (.ref t.qg))
 Cm:Fun K "fade" "CarWay.fade" Bm t.qg t.Hi
 GC:mg "FootWay"=some (.ref t.Bc)
 EE:PySem.W.findIn K (.ref t.Bc) "__init__"=some (some (.ref t.Ee))
 Nk:Fun K "__init__" "FootWay.__init__" dl t.Ee t.Bf
 ID:PySem.W.findIn K (.ref t.Bc) "ready"=some (some (.ref t.Xe))
 uj:Fun K "ready" "FootWay.ready" bj t.Xe t.Ag
 QE:PySem.W.findIn K (.ref t.Bc) "fade"=some (some (.ref t.Nf))
 Kk:Fun K "fade" "FootWay.fade" Xk t.Nf t.Jh
 zD:mg "TramWay"=some (.ref t.Dc)
 UE:PySem.W.findIn K (.ref t.Dc) "__init__"=some (some (.ref t.Fe))
 Hk:Fun K "__init__" "TramWay.__init__" Tk t.Fe t.Of
 yB:PySem.W.findIn K (.ref t.Dc) "ready"=some (some (.ref t.ff))
 Pj:Fun K "ready" "TramWay.ready" oj t.ff t.Mg
 yE:PySem.W.findIn K (.ref t.Dc) "fade"=some (some (.ref t.Mf))
 Ck:Fun K "fade" "TramWay.fade" zk t.Mf t.Lh
 LA:mg "Crossing"=some (.ref t.Mb)
 NB:PySem.W.findIn K (.ref t.Mb) "__init__"=some (some (.ref t.fe))
 lj:Fun K "__init__" "Crossing.__init__" qj t.fe t.cf
 VA:PySem.W.findIn K (.ref t.Mb) "names"=some (some (.ref t.Tc))
 Vi:Fun K "names" "Crossing.names" ig t.Tc t.vd
 JA:PySem.W.findIn K (.ref t.Mb) "number"=some (some (.ref t.Kc))
 rf:Fun K "number" "Crossing.number" ai t.Kc t.jd
 Qz:PySem.W.findIn K (.ref t.Mb) "called"=some (some (.ref t.Nb))
 mf:Fun K "called" "Crossing.called" Uh t.Nb t.Rb
 sL:mg "Plan"=some (.ref t.we)
 KJ:PySem.W.findIn K (.ref t.we) "__init__"=some (some (.ref t.Pg))
 Op:Fun K "__init__" "Plan.__init__" Zq t.Pg t.Di
 rb:Cls K t.yb
 Yw:Mk K t.yb t.Td
 bd:At K t.yb "ahead" t.Sb
 xk:At K t.yb "has_more" t.Wc
 ae:At K t.yb "refuse" t.gc
 Ke:At K t.yb "take" t.jc
 fh:At K t.yb "one_of" t.Qc
 vc:At K t.yb "figures" t.Pb
 oh:At K t.yb "finish" t.Rc
 Si:Cb K t.yb "row"
 Oh:Cb K t.yb "told"
 Zd:Cb K t.yb "place"
 FO:Cls K t.Hm
 lK:Cb K t.Hm "kind"
 sK:Cb K t.Hm "name"
 CH:Cb K t.Hm "start"
 bL:Cb K t.Hm "end"
 aL:Cb K t.Hm "off"
 BI:Cb K t.Hm "near"
 qI:Cb K t.Hm "least"
 Wp:Cls K t.Xc
 lH:Mk K t.Xc t.Ye
 As:At K t.Xc "ready" t.Rf
 Nu:At K t.Xc "fade" t.qg
 ls:Cb K t.Xc "kind"
 Ps:Cb K t.Xc "name"
 ur:Cb K t.Xc "start"
 Cu:Cb K t.Xc "end"
 ou:Cb K t.Xc "off"
 Qr:Cb K t.Xc "near"
 br:Cb K t.Xc "least"
 jn:Cls K t.Bc
 ED:Mk K t.Bc t.Ee
 sr:At K t.Bc "ready" t.Xe
 Sr:At K t.Bc "fade" t.Nf
 xq:Cb K t.Bc "kind"
 Sq:Cb K t.Bc "name"
 Bo:Cb K t.Bc "start"
 Pr:Cb K t.Bc "end"
 Br:Cb K t.Bc "off"
 cr:Cb K t.Bc "near"
 yo:Cb K t.Bc "least"
 cn:Cls K t.Dc
 YD:Mk K t.Dc t.Fe
 Vp:At K t.Dc "ready" t.ff
 Gr:At K t.Dc "fade" t.Mf
 Dq:Cb K t.Dc "kind"
 Iq:Cb K t.Dc "name"
 Io:Cb K t.Dc "start"
 Nr:Cb K t.Dc "end"
 Bs:Cb K t.Dc "off"
 wp:Cb K t.Dc "near"
 vo:Cb K t.Dc "least"
 Ib:Cls K t.Mb
 lA:Mk K t.Mb t.fe
 Vd:At K t.Mb "names" t.Tc
 Vh:At K t.Mb "number" t.Kc
 xc:At K t.Mb "called" t.Nb
 qh:Cb K t.Mb "places"
 Wi:Cb K t.Mb "ways"
 Gg:Cb K t.Mb "numbers"
 Il:Cls K t.we
 IL:Mk K t.we t.Pg
 Do:Cb K t.we "crossing"
 Aw:Cb K t.we "size"
 Bu:Cb K t.we "spans"
 mm:Cb K t.we "lamps"
 Ik:Cb K t.we "untils"
 qf:mg "LampError"=some (.ref t.ie)
 Kg:QO K t.ie "__init__"
 PD:XB K t.zb
 Hq:MkX K t.zb t.oe
 Gm:Cb K t.zb "row"
 Sk:Cb K t.zb "word"
 BC:IB K t.zb
 Fo:PySem.W.kitOne K (.ref t.zb) (.ref t.zb)=some true
 Wq:PySem.W.kitOne K (.ref t.zb) (.ref t.Lb)=some false
 jr:PySem.W.kitOne K (.ref t.zb) (.ref t.Kb)=some false
 Dp:PySem.W.kitOne K (.ref t.zb) (.ref t.Gb)=some false
 Cq:PySem.W.kitOne K (.ref t.zb) (.ref t.Fb)=some false
 Nn:PySem.W.kitOne K (.ref t.zb) (.ref t.Wf)=some false
 Np:PySem.W.kitOne K (.ref t.zb) (.ref t.Dj)=some false
 zo:PySem.W.kitOne K (.ref t.zb) (.ref t.jh)=some false
 vk:PySem.W.kitOne K (.ref t.zb) (.type "ValueError")=some true
 gl:PySem.W.exmOne K (.ref t.zb) (.ref t.ie)=some true
 OA:PySem.W.exmOne K (.ref t.zb) (.ref t.zb)=some true
 CC:PySem.W.exmOne K (.ref t.zb) (.ref t.Lb)=some false
 AB:PySem.W.exmOne K (.ref t.zb) (.ref t.Kb)=some false
 RD:PySem.W.exmOne K (.ref t.zb) (.ref t.Gb)=some false
 oE:PySem.W.exmOne K (.ref t.zb) (.ref t.Fb)=some false
 mH:XB K t.Lb
 ez:MkX K t.Lb t.bg
 wm:Cb K t.Lb "name"
 HF:IB K t.Lb
 rq:PySem.W.kitOne K (.ref t.Lb) (.ref t.zb)=some false
 Mr:PySem.W.kitOne K (.ref t.Lb) (.ref t.Lb)=some true
 Zr:PySem.W.kitOne K (.ref t.Lb) (.ref t.Kb)=some false
 et:PySem.W.kitOne K (.ref t.Lb) (.ref t.Gb)=some false
 jt:PySem.W.kitOne K (.ref t.Lb) (.ref t.Fb)=some false
 No:PySem.W.kitOne K (.ref t.Lb) (.ref t.Wf)=some false
 Wr:PySem.W.kitOne K (.ref t.Lb) (.ref t.Dj)=some false
 Rp:PySem.W.kitOne K (.ref t.Lb) (.ref t.jh)=some false
 xl:PySem.W.kitOne K (.ref t.Lb) (.type "ValueError")=some true
 Om:PySem.W.exmOne K (.ref t.Lb) (.ref t.ie)=some true
 BD:PySem.W.exmOne K (.ref t.Lb) (.ref t.zb)=some false
 OE:PySem.W.exmOne K (.ref t.Lb) (.ref t.Lb)=some true
 NE:PySem.W.exmOne K (.ref t.Lb) (.ref t.Kb)=some false
 GE:PySem.W.exmOne K (.ref t.Lb) (.ref t.Gb)=some false
 WE:PySem.W.exmOne K (.ref t.Lb) (.ref t.Fb)=some false
 lG:XB K t.Kb
 zy:MkX K t.Kb t.Zf
 Tn:Cb K t.Kb "way"
 BF:IB K t.Kb
 Uq:PySem.W.kitOne K (.ref t.Kb) (.ref t.zb)=some false
 Zs:PySem.W.kitOne K (.ref t.Kb) (.ref t.Lb)=some false
 Dr:PySem.W.kitOne K (.ref t.Kb) (.ref t.Kb)=some true
 Ir:PySem.W.kitOne K (.ref t.Kb) (.ref t.Gb)=some false
 Vr:PySem.W.kitOne K (.ref t.Kb) (.ref t.Fb)=some false
 Co:PySem.W.kitOne K (.ref t.Kb) (.ref t.Wf)=some false
 Os:PySem.W.kitOne K (.ref t.Kb) (.ref t.Dj)=some false
 yr:PySem.W.kitOne K (.ref t.Kb) (.ref t.jh)=some false
 Cl:PySem.W.kitOne K (.ref t.Kb) (.type "ValueError")=some true
 om:PySem.W.exmOne K (.ref t.Kb) (.ref t.ie)=some true
 YA:PySem.W.exmOne K (.ref t.Kb) (.ref t.zb)=some false
 AE:PySem.W.exmOne K (.ref t.Kb) (.ref t.Lb)=some false
 LE:PySem.W.exmOne K (.ref t.Kb) (.ref t.Kb)=some true
 RE:PySem.W.exmOne K (.ref t.Kb) (.ref t.Gb)=some false
 DE:PySem.W.exmOne K (.ref t.Kb) (.ref t.Fb)=some false
 VG:XB K t.Gb
 uy:MkX K t.Gb t.Tf
 eo:Cb K t.Gb "way"
 kq:Cb K t.Gb "at"
 FF:IB K t.Gb
 oq:PySem.W.kitOne K (.ref t.Gb) (.ref t.zb)=some false
 Lr:PySem.W.kitOne K (.ref t.Gb) (.ref t.Lb)=some false
 Ys:PySem.W.kitOne K (.ref t.Gb) (.ref t.Kb)=some false
 Us:PySem.W.kitOne K (.ref t.Gb) (.ref t.Gb)=some true
 Ds:PySem.W.kitOne K (.ref t.Gb) (.ref t.Fb)=some false
 Eo:PySem.W.kitOne K (.ref t.Gb) (.ref t.Wf)=some false
 js:PySem.W.kitOne K (.ref t.Gb) (.ref t.Dj)=some false
 Xp:PySem.W.kitOne K (.ref t.Gb) (.ref t.jh)=some false
 Bl:PySem.W.kitOne K (.ref t.Gb) (.type "ValueError")=some true
 Pm:PySem.W.exmOne K (.ref t.Gb) (.ref t.ie)=some true
 ZA:PySem.W.exmOne K (.ref t.Gb) (.ref t.zb)=some false
 zE:PySem.W.exmOne K (.ref t.Gb) (.ref t.Lb)=some false
 IE:PySem.W.exmOne K (.ref t.Gb) (.ref t.Kb)=some false
 VE:PySem.W.exmOne K (.ref t.Gb) (.ref t.Gb)=some true
 BE:PySem.W.exmOne K (.ref t.Gb) (.ref t.Fb)=some false
 XG:XB K t.Fb
 Ly:MkX K t.Fb t.Uf
 oo:Cb K t.Fb "way"
 Zk:Cb K t.Fb "other"
 Ip:Cb K t.Fb "at"
 sF:IB K t.Fb
 fq:PySem.W.kitOne K (.ref t.Fb) (.ref t.zb)=some false
 Ts:PySem.W.kitOne K (.ref t.Fb) (.ref t.Lb)=some false
 Cr:PySem.W.kitOne K (.ref t.Fb) (.ref t.Kb)=some false
 dt:PySem.W.kitOne K (.ref t.Fb) (.ref t.Gb)=some false
 Ks:PySem.W.kitOne K (.ref t.Fb) (.ref t.Fb)=some true
 Jo:PySem.W.kitOne K (.ref t.Fb) (.ref t.Wf)=some false
 gs:PySem.W.kitOne K (.ref t.Fb) (.ref t.Dj)=some false
 Bp:PySem.W.kitOne K (.ref t.Fb) (.ref t.jh)=some false
 Ul:PySem.W.kitOne K (.ref t.Fb) (.type "ValueError")=some true
 Sm:PySem.W.exmOne K (.ref t.Fb) (.ref t.ie)=some true
 wE:PySem.W.exmOne K (.ref t.Fb) (.ref t.zb)=some false
 ME:PySem.W.exmOne K (.ref t.Fb) (.ref t.Lb)=some false
 HE:PySem.W.exmOne K (.ref t.Fb) (.ref t.Kb)=some false
 SE:PySem.W.exmOne K (.ref t.Fb) (.ref t.Gb)=some false
 XE:PySem.W.exmOne K (.ref t.Fb) (.ref t.Fb)=some true
 kE:mg "TooMany"=some (.ref t.Wf)
 nJ:mg "NoRow"=some (.ref t.Dj)
 GG:mg "NoName"=some (.ref t.jh)
 LG:t.Hm ≠ t.Xc
 JE:t.Hm ≠ t.Bc
 xE:t.Hm ≠ t.Dc
 ji:t.Xc ≠ t.Bc
 Qh:t.Xc ≠ t.Dc
 zh:t.Bc ≠ t.Dc
 Mn:VO K t.Hm "__init__" t.vf
 VC:mg "FIGURES"=some t.Cw
 iD:Ed (.str (Str.ofString "0123456789")) t.Cw
 Fs:mg "LEAST_PLACES"=some t.Uk
 Vs:Ed (.int 2) t.Uk
 OD:mg "LETTERS"=some t.Iv
 nB:Ed (.str (Str.ofString "abcdefghijklmnopqrstuvwxyz")) t.Iv
 Er:mg "MOST_FIGURES"=some t.Lk
 ft:Ed (.int 3) t.Lk
 zv:mg "MOST_LEAST"=some t.ko
 Bw:Ed (.int 60) t.ko
 Cs:mg "MOST_LETTERS"=some t.Pk
 Js:Ed (.int 8) t.Pk
 Tw:mg "MOST_NEAR"=some t.xr
 Sw:Ed (.int 30) t.xr
 Dz:mg "MOST_OFF"=some t.Rt
 fA:Ed (.int 30) t.Rt
 eu:mg "MOST_PLACES"=some t.Rm
 Du:Ed (.int 99) t.Rm
 Xx:mg "MOST_WAYS"=some t.Qq
 gy:Ed (.int 12) t.Qq
 gw:mg "ValueError"=none
 UN:mg "all"=none
 kL:mg "bool"=none
 Jg:mg "enumerate"=none
 RN:mg "int"=none
 Ub:mg "isinstance"=none
 Nx:mg "len"=none
 RB:mg "list"=none
 ON:mg "max"=none
 cO:mg "min"=none
 Ig:mg "range"=none
 bn:mg "reversed"=none
 Ty:mg "sorted"=none
 WK:mg "str"=none
 WM:∀ (s:Shared) (u:Value),BindsTo s t.NF ⟨[u],[]⟩ [("_law_script",u)]
section
variable {w:World} {K:PySem.W.Frag} {mg:Str→Option Value} {t:Adr} (T:Txt w K mg t)
include T
theorem Txt.sJ:Qb K t.Mu ["text"] []:=T.Lx.binds fun _ _ _ _ _ _=>us1 fun _=>rfl
theorem Txt.Yn:Qb K t.Xf ["word","signs","most"] []:=T.vh.binds fun _ _ _ _ _ _=>us3 fun _ _ _=>rfl
theorem Txt.jy:Qb K t.si ["word","most_figures"] []:=T.Ol.binds fun _ _ _ _ _ _=>us2 fun _ _=>rfl
theorem Txt.ww:Qb K t.fj ["word","low","high"] []:=T.tm.binds fun _ _ _ _ _ _=>us3 fun _ _ _=>rfl
theorem Txt.VB:Qb K t.jm ["word"] []:=T.Yp.binds fun _ _ _ _ _ _=>us1 fun _=>rfl
theorem Txt.lD:Qb K t.Lm ["text"] []:=T.uq.binds fun _ _ _ _ _ _=>us1 fun _=>rfl
theorem Txt.Kx:Qb K t.vi ["reader"] []:=T.Ql.binds fun _ _ _ _ _ _=>us1 fun _=>rfl
theorem Txt.Kq:Qb K t.bf ["reader","ways"] []:=T.Ng.binds fun _ _ _ _ _ _=>us2 fun _ _=>rfl
theorem Txt.Yz:Qb K t.Ph ["reader","places","start"] []:=T.Xj.binds fun _ _ _ _ _ _=>us3 fun _ _ _=>rfl
theorem Txt.Iz:Qb K t.jk ["sort","name","start","end","off","near","least"] []:=T.wn.binds fun _ _ _ _ _ _=>us7 fun _ _ _ _ _ _ _=>rfl
theorem Txt.Lz:Qb K t.Zj ["reader","places","ways"] []:=T.Kn.binds fun _ _ _ _ _ _=>us3 fun _ _ _=>rfl
theorem Txt.Mj:Qb K t.Ld ["text"] []:=T.Ze.binds fun _ _ _ _ _ _=>us1 fun _=>rfl
theorem Txt.az:Qb K t.Oo ["places","way","place"] []:=T.So.binds fun _ _ _ _ _ _=>us3 fun _ _ _=>rfl
theorem Txt.ow:Qb K t.Zg ["places","way","second"] []:=T.pj.binds fun _ _ _ _ _ _=>us3 fun _ _ _=>rfl
theorem Txt.VM:Qb K t.Iy ["crossing","one","other"] []:=T.mE.binds fun _ _ _ _ _ _=>us3 fun _ _ _=>rfl
theorem Txt.yO:Qb K t.xF ["crossing","one","other"] []:=T.KI.binds fun _ _ _ _ _ _=>us3 fun _ _ _=>rfl
theorem Txt.Rk:Qb K t.Ce ["marks"] []:=T.Ff.binds fun _ _ _ _ _ _=>us1 fun _=>rfl
theorem Txt.Hs:Qb K t.Df ["marks"] []:=T.Gh.binds fun _ _ _ _ _ _=>us1 fun _=>rfl
theorem Txt.Uj:Qb K t.pf ["spans","name"] []:=T.yg.binds fun _ _ _ _ _ _=>us2 fun _ _=>rfl
theorem Txt.io:Qb K t.Vf ["size","spans","name"] []:=T.Ah.binds fun _ _ _ _ _ _=>us3 fun _ _ _=>rfl
theorem Txt.tL:Qb K t.oz ["way","size","spans"] []:=T.TB.binds fun _ _ _ _ _ _=>us3 fun _ _ _=>rfl
theorem Txt.Qs:Qb K t.Gf ["crossing","spans"] []:=T.Kh.binds fun _ _ _ _ _ _=>us2 fun _ _=>rfl
theorem Txt.mj:Qb K t.yd ["size","spans","place"] []:=T.ke.binds fun _ _ _ _ _ _=>us3 fun _ _ _=>rfl
theorem Txt.Rr:Qb K t.Kf ["crossing","size","spans"] []:=T.Fh.binds fun _ _ _ _ _ _=>us3 fun _ _ _=>rfl
theorem Txt.Cn:Qb K t.ve ["crossing","one","other","since_one","since_other"] []:=T.Af.binds fun _ _ _ _ _ _=>us5 fun _ _ _ _ _=>rfl
theorem Txt.Is:Qb K t.Qf ["crossing","size","spans"] []:=T.Ih.binds fun _ _ _ _ _ _=>us3 fun _ _ _=>rfl
theorem Txt.il:Qb K t.xi ["crossing","size","rows"] []:=T.zg.binds fun _ _ _ _ _ _=>us3 fun _ _ _=>rfl
theorem Txt.ql:Qb K t.Ji ["_law_script","_law_k","_law_many"] []:=T.Eg.binds fun _ _ _ _ _ _=>us3 fun _ _ _=>rfl
theorem Txt.Oz:Qb K t.Sj ["_law_k","_law_crossing","_law_names","_law_number"] []:=T.Gn.binds fun _ _ _ _ _ _=>us4 fun _ _ _ _=>rfl
theorem Txt.Ku:Qb K t.wg ["_law_e"] []:=T.Li.binds fun _ _ _ _ _ _=>us1 fun _=>rfl
theorem Txt.iw:Qb K t.Bh ["_law_e"] []:=T.jj.binds fun _ _ _ _ _ _=>us1 fun _=>rfl
theorem Txt.Bx:Qb K t.Gi ["_law_k","_law_crossing","_law_names","_law_number"] []:=T.El.binds fun _ _ _ _ _ _=>us4 fun _ _ _ _=>rfl
theorem Txt.Fm:Qb K t.Te ["self","row","word"] []:=T.vm.binds fun _ _ _ _ _ _=>us3 fun _ _ _=>rfl
theorem Txt.Zv:Qb K t.ah ["self","name"] []:=T.so.binds fun _ _ _ _ _ _=>us2 fun _ _=>rfl
theorem Txt.jw:Qb K t.rh ["self","way"] []:=T.bo.binds fun _ _ _ _ _ _=>us2 fun _ _=>rfl
theorem Txt.lv:Qb K t.lh ["self","way","at"] []:=T.Wn.binds fun _ _ _ _ _ _=>us3 fun _ _ _=>rfl
theorem Txt.Ov:Qb K t.mh ["self","way","other","at"] []:=T.Sn.binds fun _ _ _ _ _ _=>us4 fun _ _ _ _=>rfl
theorem Txt.Mo:Qb K t.Je ["self","row","told"] []:=T.Ri.binds fun _ _ _ _ _ _=>us3 fun _ _ _=>rfl
theorem Txt.gd:Qb K t.Yb ["self"] []:=T.di.binds fun _ _ _ _ _ _=>us1 fun _=>rfl
theorem Txt.qk:Qb K t.Id ["self"] []:=T.kg.binds fun _ _ _ _ _ _=>us1 fun _=>rfl
theorem Txt.ce:Qb K t.Cc ["self"] []:=T.dh.binds fun _ _ _ _ _ _=>us1 fun _=>rfl
theorem Txt.Ge:Qb K t.Fc ["self","good"] []:=T.gg.binds fun _ _ _ _ _ _=>us2 fun _ _=>rfl
theorem Txt.Vg:Qb K t.Dd ["self","choices"] []:=T.ph.binds fun _ _ _ _ _ _=>us2 fun _ _=>rfl
theorem Txt.lc:Qb K t.Tb ["self","low","high"] []:=T.Le.binds fun _ _ _ _ _ _=>us3 fun _ _ _=>rfl
theorem Txt.Dh:Qb K t.Bd ["self"] []:=T.Rg.binds fun _ _ _ _ _ _=>us1 fun _=>rfl
theorem Txt.An:Qb K t.xg ["self","kind","name","start","end","off","near","least"] []:=T.Wt.binds fun _ _ _ _ _ _=>us8 fun _ _ _ _ _ _ _ _=>rfl
theorem Txt.nu:Qb K t.og ["self","name","start","end","off","near","least"] []:=T.dm.binds fun _ _ _ _ _ _=>us7 fun _ _ _ _ _ _ _=>rfl
theorem Txt.Ms:Qb K t.Eh ["self"] []:=T.Fk.binds fun _ _ _ _ _ _=>us1 fun _=>rfl
theorem Txt.Su:Qb K t.Hi ["self"] []:=T.Cm.binds fun _ _ _ _ _ _=>us1 fun _=>rfl
theorem Txt.Tr:Qb K t.Bf ["self","name","start","end","off","near","least"] []:=T.Nk.binds fun _ _ _ _ _ _=>us7 fun _ _ _ _ _ _ _=>rfl
theorem Txt.Ap:Qb K t.Ag ["self"] []:=T.uj.binds fun _ _ _ _ _ _=>us1 fun _=>rfl
theorem Txt.Ur:Qb K t.Jh ["self"] []:=T.Kk.binds fun _ _ _ _ _ _=>us1 fun _=>rfl
theorem Txt.Es:Qb K t.Of ["self","name","start","end","off","near","least"] []:=T.Hk.binds fun _ _ _ _ _ _=>us7 fun _ _ _ _ _ _ _=>rfl
theorem Txt.Fp:Qb K t.Mg ["self"] []:=T.Pj.binds fun _ _ _ _ _ _=>us1 fun _=>rfl
theorem Txt.Ls:Qb K t.Lh ["self"] []:=T.Ck.binds fun _ _ _ _ _ _=>us1 fun _=>rfl
theorem Txt.dr:Qb K t.cf ["self","places","ways"] []:=T.lj.binds fun _ _ _ _ _ _=>us3 fun _ _ _=>rfl
theorem Txt.Pd:Qb K t.vd ["self"] []:=T.Vi.binds fun _ _ _ _ _ _=>us1 fun _=>rfl
theorem Txt.ni:Qb K t.jd ["self","name"] []:=T.rf.binds fun _ _ _ _ _ _=>us2 fun _ _=>rfl
theorem Txt.wc:Qb K t.Rb ["self","name"] []:=T.mf.binds fun _ _ _ _ _ _=>us2 fun _ _=>rfl
theorem Txt.yx:Qb K t.Di ["self","crossing","size","spans"] []:=T.Op.binds fun _ _ _ _ _ _=>us4 fun _ _ _ _=>rfl
theorem Txt.kh:cq K t.zb:=mr T.PD T.Hq
theorem Txt.sC:KB K t.zb:=Nq T.kh T.BC
theorem Txt.kr:cq K t.Lb:=mr T.mH T.ez
theorem Txt.iG:KB K t.Lb:=Nq T.kr T.HF
theorem Txt.Tq:cq K t.Kb:=mr T.lG T.zy
theorem Txt.tG:KB K t.Kb:=Nq T.Tq T.BF
theorem Txt.Jl:cq K t.Gb:=mr T.VG T.uy
theorem Txt.ZE:KB K t.Gb:=Nq T.Jl T.FF
theorem Txt.Mi:cq K t.Fb:=mr T.XG T.Ly
theorem Txt.PF:KB K t.Fb:=Nq T.Mi T.sF
end
noncomputable def pF (ns:List Int) (k m:Int):Int:=
 ((((if 0 < (ns.length:Int) then ns.getD (k % (ns.length:Int)).toNat 0 else 0) % 1000003 + 31 * k * k + 1) * 48271 % 999983 * 7919) % 524287) % m
theorem Iw (ns:List Int) (k:Int) {m:Int} (h:0 < m):0 ≤ pF ns k m:=Int.emod_nonneg _ (by omega)
theorem px (ns:List Int) (k:Int) {m:Int} (h:0 < m):pF ns k m < m:=Int.emod_lt_of_pos _ h
noncomputable def qp (K:PySem.W.Frag) (a:Addr) (ns:List Int):Sp:=fun vs H Q _=>∃ k m,vs=[.ref a,.int k,.int m]∧Sc K a ns H∧(0 ≤ k∧k < 1000000)∧0 < m∧Q (.int (pF ns k m)) H
section
variable {P:Program} {w:World} {K:PySem.W.Frag} {mg:Str→Option Value} {base:Heap} {t:Adr}
theorem HI (T:Txt w K mg t) (a:Addr) (ns:List Int) (h63:ns.length ≤ 63):Eb P w K mg base CX0 1 t.oi t.Ji ["_law_script","_law_k","_law_many"] (qp K a ns):=by
 refine T.Eg.ok Nj (fun vs H Q E h=>?_) (fun cdv A outer s H vs Q E hr h=>?_)
 ·obtain ⟨k,m,rfl,_⟩:=h;rfl
 obtain ⟨k,m,rfl,S,⟨h0,h1⟩,hm,q⟩:=h
 refine ⟨_,(db (kc (i:=3) Nj.nd rfl (Or.inl rfl) (qz (Pc nK (fc Qe rfl T.Nx yf (bb (pv 0) fb)) xb (Lc _)) (gf Fd (pv 0) (Ic Xh (pv 1) (fc Qe rfl T.Nx yf (bb (pv 0) fb))) (fun _ _=>rfl)) xb))
   (db (kc (i:=4) Nj.nd rfl (Or.inl rfl) (Ic cg (Ic cg (Ic Xh (pv 3) xb) (Ic yt (Ic yt xb (pv 1)) (pv 1))) xb))
   (gb (Db (Ic Xh (Ic Xh (Ic yt (Ic Xh (Ic yt (pv 4) xb) xb) xb) xb) (pv 2)))))),?_⟩
 (walk_at "RD")
 refine ⟨_,.inl S.seq,?_⟩
 rw [List.length_map]
 have hkk:(0:Int) ≤ k * k∧k * k < 1000000 * 1000000:=⟨Int.mul_nonneg h0 h0,Int.mul_lt_mul' (by omega) h1 h0 (by decide)⟩
 have fin:∀ i:Int,(0:Int) < 1000003∧gI 31 k∧gI (31 * k) k∧gI (i % 1000003 + 31 * k * k + 1) 48271∧(0:Int) < 999983∧gI ((i % 1000003 + 31 * k * k + 1) * 48271 % 999983) 7919∧(0:Int) < 524287∧0 < m:=by
  intro i
  refine ⟨by decide,.inl (by decide),.inr (by omega),.inr (by decide),by decide,.inr (by decide),by decide,hm⟩
 by_cases c:(0:Int) < (ns.length:Int)
 ·rw [if_pos (decide_eq_true c)]
  have hk:0 ≤ k % (ns.length:Int)∧k % (ns.length:Int) < (ns.length:Int):=⟨Int.emod_nonneg _ (by omega),Int.emod_lt_of_pos _ c⟩
  refine ⟨_,.inl S.seq,by rw [List.length_map];exact c,_,S.seq,?_⟩
  rw [List.length_map]
  have hj:(k % (ns.length:Int)).toNat < ns.length:=by omega
  refine ⟨.int ns[(k % (ns.length:Int)).toNat],?_,_,rfl,?_⟩
  ·have e:=yc (xs:=ns.map V.int) (j:=(k % (ns.length:Int)).toNat) (v:=.int ns[(k % (ns.length:Int)).toNat]) (by rw [List.getElem?_map,List.getElem?_eq_getElem hj] <;> rfl)
   rwa [Int.toNat_of_nonneg hk.1] at e
  ·obtain ⟨f1,f2,f3,f4,f5,f6,f7,f8⟩:=fin ns[(k % (ns.length:Int)).toNat]
   refine ⟨f1,f2,f3,f4,f5,f6,f7,f8,?_⟩
   have e:pF ns k m=(((ns[(k % (ns.length:Int)).toNat] % 1000003 + 31 * k * k + 1) * 48271 % 999983 * 7919) % 524287) % m:=by
    unfold pF
    rw [if_pos c,List.getD_eq_getElem?_getD,List.getElem?_eq_getElem hj]
    rfl
   rw [← e];exact q
 ·rw [if_neg (by simpa using c)]
  obtain ⟨f1,f2,f3,f4,f5,f6,f7,f8⟩:=fin 0
  refine ⟨f1,f2,f3,f4,f5,f6,f7,f8,?_⟩
  have e:pF ns k m=(((0 % 1000003 + 31 * k * k + 1) * 48271 % 999983 * 7919) % 524287) % m:=by
   unfold pF
   rw [if_neg c]
  rw [← e];exact q
end
theorem EN {w:Str}:w=Str.ofString "" ↔ w.length=0:=by
 constructor
 ·rintro rfl;decide +kernel
 ·intro h
  have e:w.cps=#[]:=Array.eq_empty_of_size_eq_zero h
  have e2:(Str.ofString "").cps=#[]:=by decide +kernel
  cases w
  cases h2:Str.ofString ""
  rw [h2] at e2
  simp only at e e2
  rw [e,e2]
noncomputable def inL (sg:Str) (c:Nat):Bool:=!(Builtin.Str.occurrences sg (bN c) 0 sg.length 1).isEmpty
theorem xx (sg:Str) (c:Nat):inL sg c=decide (c ∈ sg.cps.toList):=StrLaws.found_one sg c
noncomputable def made (w sg:Str) (m:Int):Bool:=if w=Str.ofString "" then false else if m < (w.length:Int) then false else w.cps.toList.all (inL sg)
noncomputable def Jq:Sp:=fun vs H Q _=>∃ w sg m,vs=[.str w,.str sg,.int m]∧w.length ≤ 1000∧NoT H∧Q (.bl (made w sg m)) H
noncomputable def dH:Sp:=fun vs H Q _=>∃ w sg m,vs=[.str w,.str sg,.int m]∧w.length ≤ 1000∧∀ H',Xb H H'→Q (.bl (made w sg m)) H'
section
variable {P:Program} {w:World} {K:PySem.W.Frag} {mg:Str→Option Value} {base:Heap} {t:Adr}
theorem mB (T:Txt w K mg t):Eb P w K mg base CX0 1 t.fg t.Xf ["word","signs","most"] Jq:=by
 refine Eb.forget (sp:=dH) ?_ fun vs H Q E h=>?_
 ·refine T.vh.ok Gu (fun vs H Q E h=>?_) (fun cdv A outer s H vs Q E hr h=>?_)
  ·obtain ⟨w,sg,m,rfl,_⟩:=h;rfl
  obtain ⟨w,sg,m,rfl,hz,q⟩:=h
  have hz':w.length ≤ sizeLine:=Nat.le_trans hz (by decide)
  refine ⟨_,(db (qe (PW.pt (gF (Pc ij (pv 0) Gd (Lc _)) (tz (Pc nK (fc Dv rfl T.Nx yf (bb (pv 0) fb)) (pv 2) (Lc _))))) (gb (Db Tu)) Zb)
   (gb (Db (fc (iH rfl) rfl T.UN yA (bb (Ij rfl (DL (pv 0)) (Ud (sc:=jb Cj) rfl (by decide +kernel)) (N:=["sign","signs"]) (sel:=[none,some 1]) (Ie (M:=["word","signs","most"]) (by decide +kernel)) (Blk.of (fun _ _ _ _=>(Bb (i:=0) (Ai (N:=["sign","signs"]) (by decide +kernel) rfl) rfl (Or.inl rfl))) (fun _ _ _ _=>⟨_,Mh,by first | rfl | (dsimp only [Cx.block];done) | (dsimp only [Cx.block];exact rfl)⟩) (fun _ _ _ _=>⟨_,(Oe KD (pv 0) (pv 1) (by with_unfolding_all rfl)),by first | rfl | (dsimp only [Cx.block];done) | (dsimp only [Cx.block];exact rfl)⟩))) fb))))),?_⟩
  (walk_at "RD")
  refine Vb (decide (w=Str.ofString "") || decide (m < (w.length:Int))) (fun Q hQ=>?_) (fun hb=>?_) (fun hb=>?_)
  ·(walk_at "RD")
   by_cases c:w=Str.ofString ""
   ·rw [if_pos (decide_eq_true c)]
    rw [decide_eq_true c,Bool.true_or] at hQ
    exact hQ
   ·rw [if_neg (by simpa using c)]
    rw [decide_eq_false c,Bool.false_or] at hQ
    exact ⟨hz',hQ⟩
  ·(walk_at "RD")
   have e:made w sg m=false:=by
    unfold made
    simp only [Bool.or_eq_true,decide_eq_true_eq] at hb
    by_cases c:w=Str.ofString ""
    ·rw [if_pos c]
    ·rw [if_neg c,if_pos (hb.resolve_left c)]
   have:=q H (Xb.refl H)
   rw [e] at this
   exact this
  ·(walk_at "RD")
   have e:made w sg m=w.cps.toList.all (inL sg):=by
    unfold made
    simp only [Bool.or_eq_false_iff,decide_eq_false_iff_not] at hb
    rw [if_neg hb.1,if_neg hb.2]
   refine Xd.its_map (fun x=>match x with | .str y=>.bl (!(Builtin.Str.occurrences sg y 0 sg.length 1).isEmpty) | _=>.non) (by rw [Dm];exact hz') (fun i x N hx hN=>?_) (fun p hp=>?_)
   ·unfold Oi at hx
    rw [List.getElem?_map] at hx
    cases hc:w.cps.toList[i]? with
    | none=>rw [hc] at hx;cases hx
    | some c=>
     rw [hc] at hx
     have hx':V.str (bN c)=x:=Option.some.inj hx
     subst hx'
     (walk_at "RD")
     exact ⟨Sub.name,hN⟩
   ·refine ⟨p,rfl,w.cps.toList.map (inL sg),SqL.of ?_,?_⟩
    ·rw [cb]
     unfold Oi
     rw [List.map_map,List.map_map]
     rfl
    ·have:=q (upd H p (.lst (List.map (fun x=>match x with | .str y=>.bl (!(Builtin.Str.occurrences sg y 0 sg.length 1).isEmpty) | _=>.non) (Oi w)))) (ib hp)
     rw [e] at this
     rw [List.all_map]
     exact this
 ·obtain ⟨w,sg,m,e,hz,nt,q⟩:=h
  exact ⟨nt,w,sg,m,e,hz,fun H' sm=>⟨sm,q⟩⟩
end
noncomputable abbrev OI:Str:=Str.ofString "0123456789"
noncomputable def wo (c:Nat):Bool:=decide (48 ≤ c∧c ≤ 57)
theorem qC:OI.cps.toList=[48,49,50,51,52,53,54,55,56,57]:=by decide +kernel
theorem CF (c:Nat):inL OI c=wo c:=by
 rw [xx,qC]
 unfold wo
 rw [Bool.eq_iff_iff]
 simp only [decide_eq_true_eq,List.mem_cons,List.not_mem_nil,or_false]
 omega
noncomputable abbrev cs (w:Str):List Nat:=w.cps.toList
theorem wD (w:Str):(cs w).length=w.length:=by simp [cs,Str.length]
noncomputable def okB (w:Str):Bool:=decide (1 ≤ (cs w).length) && decide ((cs w).length ≤ 3) && (cs w).all wo && (decide ((cs w).length ≤ 1) || decide ((cs w).headD 0 ≠ 48))
noncomputable abbrev val (w:Str):Int:=((NumText.digitsVal (cs w):Nat):Int)
noncomputable def Oq (w:Str) (lo hi:Int):V:=if okB w && !(decide (val w < lo) || decide (hi < val w)) then .int (val w) else .non
theorem JD {w:Str} {c:Nat}:w=⟨#[c]⟩↔cs w=[c]:=by
 constructor
 ·rintro rfl;rfl
 ·intro h
  cases w with
  | mk a=>
   have e:a=#[c]:=Array.toList_inj.mp h
   rw [e]
theorem Px:Str.ofString "0"=⟨#[48]⟩:=by decide +kernel
theorem sw (w:Str):made w OI 3=(decide (1 ≤ (cs w).length) && decide ((cs w).length ≤ 3) && (cs w).all wo):=by
 unfold made
 have e:(inL OI)=wo:=funext CF
 rw [e]
 by_cases h1:w=Str.ofString ""
 ·have h2:=EN.mp h1
  rw [if_pos h1,wD,h2];rfl
 ·have h2:¬ w.length=0:=fun z=>h1 (EN.mpr z)
  rw [if_neg h1,wD]
  by_cases h3:(3:Int) < (w.length:Int)
  ·rw [if_pos h3,decide_eq_false (show ¬ w.length ≤ 3 by omega),Bool.and_false,Bool.false_and]
  ·rw [if_neg h3,decide_eq_true (show 1 ≤ w.length by omega),decide_eq_true (show w.length ≤ 3 by omega)];rfl
theorem gu {l:List Nat} (h:l.all wo=true):NumText.AllDigits l:=fun c hc=>by
 have:=List.all_eq_true.mp h c hc
 simpa [wo] using this
theorem BM {w:Str} (h:okB w=true):(1 ≤ (cs w).length∧(cs w).length ≤ 3)∧(cs w).all wo=true:=by
 unfold okB at h
 simp only [Bool.and_eq_true,decide_eq_true_eq] at h
 exact h.1
noncomputable def DD:Sp:=fun vs H Q _=>∃ w,vs=[.str w,.int 3]∧w.length ≤ 1000∧NoT H∧Q (.bl (okB w)) H
noncomputable def rB:Sp:=fun vs H Q _=>∃ w lo hi,vs=[.str w,.int lo,.int hi]∧w.length ≤ 1000∧NoT H∧Q (Oq w lo hi) H
section
variable {P:Program} {w:World} {K:PySem.W.Frag} {mg:Str→Option Value} {base:Heap} {t:Adr}
theorem oN (T:Txt w K mg t):Eb P w K mg base CX0 2 t.Fi t.si ["word","most_figures"] DD:=by
 have G_is_made_of:Eb P w K mg base CX0 1 t.fg t.Xf ["word","signs","most"] Jq:=mB T
 refine T.Ol.ok sv (fun vs H Q E h=>?_) (fun cdv A outer s H vs Q E hr h=>?_)
 ·obtain ⟨w,rfl,_⟩:=h;rfl
 obtain ⟨w,rfl,hz,nt,q⟩:=h
 have hz':w.length ≤ sizeLine:=Nat.le_trans hz (by decide)
 refine ⟨_,(db (qe (pq (xh (Jb G_is_made_of hr rfl T.Xn T.vh.kp T.Yn .nil dc (bb (pv 0) (bb (kd rfl T.VC T.iD) (bb (pv 1) fb)))))) (gb (Db Tu)) Zb)
   (gb (Db (QL (Oe ij (pv 0) Gd (Lc _)) (yv (Oe EG (gf vB (pv 0) xb (fun _ _=>rfl)) Gd (Lc _))))))),?_⟩
 refine Vb (!made w OI 3) (fun Q hQ=>?_) (fun hb=>?_) (fun hb=>?_)
 ·(walk_at "RD"; repeat (simp only [Jq];walk_at "RD"))
  exact ⟨hz,nt,hQ⟩
 ·(walk_at "RD")
  have e:okB w=false:=by
   have hb':made w OI 3=false:=by simpa using hb
   rw [sw] at hb'
   unfold okB
   rw [hb'];rfl
  rw [e] at q
  exact q
 ·have hb':made w OI 3=true:=by simpa using hb
  rw [sw] at hb'
  rw [Ry]
  dsimp only
  refine uJ (.bl (okB w)) (fun Q hQ=>?_) ?_
  case refine_2=>exact q
  (walk_at "RD")
  have hb2:(1 ≤ (cs w).length∧(cs w).length ≤ 3)∧(cs w).all wo=true:=by
   simpa only [Bool.and_eq_true,decide_eq_true_eq] using hb'
  obtain ⟨c,r,hcr⟩:∃ c r,cs w=c :: r:=by
   cases h:cs w with
   | nil=>rw [h] at hb2;exact absurd hb2.1.1 (by decide)
   | cons c r=>exact ⟨c,r,rfl⟩
  have ok:okB w=(decide ((cs w).length ≤ 1) || decide ((cs w).headD 0 ≠ 48)):=by
   unfold okB
   rw [hb',Bool.true_and]
  by_cases c0:w=Str.ofString "0"
  ·rw [if_pos (decide_eq_true c0)]
   have e:cs w=[48]:=by rw [c0,Px]
   rw [ok,e] at hQ
   exact hQ
  ·rw [if_neg (by simpa using c0)]
   refine ⟨hz',c,?_,?_⟩
   ·have:=yc (xs:=cs w) (j:=0) (v:=c) (by rw [hcr];rfl)
    exact this
   ·have e2:decide ((⟨#[c]⟩:Str)=Str.ofString "0")=decide (c=48):=by
     rw [Px]
     by_cases h48:c=48
     ·rw [h48];simp
     ·rw [decide_eq_false h48,decide_eq_false]
      intro z
      have z2:=JD.mp z
      exact h48 (List.cons.inj z2).1
    rw [e2]
    have e3:okB w = !decide (c=48):=by
     rw [ok,hcr]
     show (decide ((c :: r).length ≤ 1) || decide (c ≠ 48))=_
     by_cases h48:c=48
     ·have hr:r ≠ []:=fun z=>c0 (by rw [Px];exact JD.mpr (by rw [hcr,z,h48]))
      have:¬ (c :: r).length ≤ 1:=by
       cases r with
       | nil=>exact absurd rfl hr
       | cons d r=>simp
      rw [decide_eq_false this,h48];rfl
     ·rw [decide_eq_true h48,Bool.or_true,decide_eq_false h48];rfl
    rw [← e3]
    exact hQ
theorem WH (T:Txt w K mg t):Eb P w K mg base CX0 3 t.Lj t.fj ["word","low","high"] rB:=by
 have G_is_number:Eb P w K mg base CX0 2 t.Fi t.si ["word","most_figures"] DD:=oN T
 refine T.tm.ok vt (fun vs H Q E h=>?_) (fun cdv A outer s H vs Q E hr h=>?_)
 ·obtain ⟨w,lo,hi,rfl,_⟩:=h;rfl
 obtain ⟨w,lo,hi,rfl,hz,nt,q⟩:=h
 refine ⟨_,(db (qe (pq (xh (Jb G_is_number hr rfl T.Dx T.Ol.kp T.jy .nil dc (bb (pv 0) (bb (kd rfl T.Er T.ft) fb))))) (gb (Db dz)) Zb)
   (db (kc (i:=3) vt.nd rfl (Or.inl rfl) (Jm dB rfl T.RN vA (bb (pv 0) fb)))
   (db (qe (PW.pt (gF (Pc Ax (pv 3) (pv 1) (Lc _)) (tz (Pc nK (pv 3) (pv 2) (Lc _))))) (gb (Db dz)) Zb)
   (gb (Db (pv 3)))))),?_⟩
 refine Vb (!okB w) (fun Q hQ=>?_) (fun hb=>?_) (fun hb=>?_)
 ·(walk_at "RD"; repeat (simp only [DD];walk_at "RD"))
  exact ⟨hz,nt,hQ⟩
 ·(walk_at "RD")
  have hb':okB w=false:=by simpa using hb
  have e:Oq w lo hi=.non:=by unfold Oq;rw [hb'];rfl
  rw [e] at q;exact q
 ·have hb':okB w=true:=by simpa using hb
  have h3:(1 ≤ (cs w).length∧(cs w).length ≤ 3)∧(cs w).all wo=true:=by
   have:=hb'
   unfold okB at this
   simp only [Bool.and_eq_true,decide_eq_true_eq] at this
   exact this.1
  have hl:=wD w
  have hi':intText? w=some (val w):=intText_digits (gu h3.2) (fun z=>by have z':cs w=[]:=z;rw [z'] at h3;exact absurd h3.1.1 (by decide)) (by omega)
  (walk_at "RD")
  refine ⟨val w,hi',by omega,?_⟩
  refine Vb (decide (val w < lo) || decide (hi < val w)) (fun Q hQ=>?_) (fun hc=>?_) (fun hc=>?_)
  ·(walk_at "RD")
   by_cases c:val w < lo
   ·rw [if_pos (decide_eq_true c)]
    rw [decide_eq_true c,Bool.true_or] at hQ
    exact hQ
   ·rw [if_neg (by simpa using c)]
    rw [decide_eq_false c,Bool.false_or] at hQ
    exact hQ
  ·(walk_at "RD")
   have e:Oq w lo hi=.non:=by unfold Oq;rw [hb',hc];rfl
   rw [e] at q;exact q
  ·(walk_at "RD")
   have e:Oq w lo hi=.int (val w):=by unfold Oq;rw [hb',hc];rfl
   rw [e] at q;exact q
end
theorem Qv {n:Nat} (h:n < 1000):n.log2 < 1920:=by
 by_cases h0:n=0
 ·subst h0;decide
 ·rw [Nat.log2_lt h0]
  exact Nat.lt_of_lt_of_le h (Nat.le_trans (show 1000 ≤ 2 ^ 10 by decide) (Nat.pow_le_pow_right (by decide) (by decide)))
theorem oF:∀ n,n < 1000→(Nat.toDigits 10 n).length ≤ 3:=by decide +kernel
theorem EJ {n:Int} (h0:0 ≤ n) (h1:n ≤ 999):(Str.ofString (toString n)).length ≤ 3:=by
 have e:=PySem.W.KIN.signs_num n.toNat
 rw [Int.toNat_of_nonneg h0] at e
 have l:(Str.ofString (toString n)).length=(Str.ofString (toString n)).cps.toList.length:=by simp [Str.length]
 rw [l,e,List.length_map]
 exact oF _ (by omega)
noncomputable abbrev Yc:Str:=Str.ofString "abcdefghijklmnopqrstuvwxyz"
noncomputable def QD:Sp:=fun vs H Q _=>∃ w,vs=[.str w]∧w.length ≤ 1000∧NoT H∧Q (.bl (made w Yc 8)) H
section
variable {P:Program} {w:World} {K:PySem.W.Frag} {mg:Str→Option Value} {base:Heap} {t:Adr}
theorem yK (T:Txt w K mg t):Eb P w K mg base CX0 2 t.Qm t.jm ["word"] QD:=by
 have G_is_made_of:Eb P w K mg base CX0 1 t.fg t.Xf ["word","signs","most"] Jq:=mB T
 refine T.Yp.ok Cz (fun vs H Q E h=>?_) (fun cdv A outer s H vs Q E hr h=>?_)
 ·obtain ⟨w,rfl,_⟩:=h;rfl
 obtain ⟨w,rfl,hz,nt,q⟩:=h
 refine ⟨_,(gb (Db (Jb G_is_made_of hr rfl T.Xn T.vh.kp T.Yn .nil dc (bb (pv 0) (bb (kd rfl T.OD T.nB) (bb (kd rfl T.Cs T.Js) fb)))))),?_⟩
 (walk_at "RD"; repeat (simp only [Jq];walk_at "RD"))
 exact ⟨hz,nt,q⟩
end
noncomputable abbrev nl:Str:=Str.ofString "\n"
noncomputable abbrev bk:Str:=Str.ofString " "
theorem YK:nl=⟨#[10]⟩:=by decide +kernel
theorem aJ:bk=⟨#[32]⟩:=by decide +kernel
noncomputable def Ch (x:Str):List (List Str):=(Txt.split x nl).map fun r=>Txt.split r bk
theorem ot:∀ {ys:List Str} {y:Str},y ∈ ys→y.length ≤ (ys.map (·.length)).sum
 | [],_,h=>nomatch h
 | a :: r,y,h=>by
  rw [List.map_cons,List.sum_cons]
  rcases List.mem_cons.mp h with rfl | h
  ·omega
  ·have:=ot h;omega
theorem NI {x y r:Str} (hy:1 ≤ y.length) (h:r ∈ Txt.split x y):r.length ≤ x.length + 1:=by
 have h1:=PyProof.Rows.split_weight x y hy
 have h2:=ot h
 omega
theorem rp {x y:Str} (hy:1 ≤ y.length):(Txt.split x y).length ≤ x.length + 1:=by
 have h1:=PyProof.Rows.split_weight x y hy
 omega
theorem LF (x y:Str):Txt.split x y ≠ []:=by
 unfold Txt.split
 split
 ·simp
 ·split
  ·simp
  ·rw [StrLaws.partsBetween_eq]
   obtain ⟨p,r,e⟩:=StrLaws.partsFrom_ne x y.length 0 (Builtin.Str.occurrences x y 0 x.length (x.length + 1))
   rw [e];simp
noncomputable def LL (H0 H:Hp) (p:Addr) (rows:List (List Str)):Prop:=∃ qs:List Addr,H p=some (.lst (qs.map V.ref))∧H0 p=none∧p ∉ qs∧qs.length=rows.length∧∀ (i:Nat) (q:Addr) (r:List Str),qs[i]? = some q→rows[i]? = some r→H q=some (.lst (bc r))∧H0 q=none
noncomputable def my:Sp:=fun vs H Q _=>∃ x,vs=[.str x]∧x.length ≤ 20000∧NoT H∧∀ p H',Xb H H'→NoT H'→LL H H' p (Ch x)→Q (.ref p) H'
theorem dw:nl.length=1:=by decide +kernel
theorem Zy:bk.length=1:=by decide +kernel
section
variable {P:Program} {w:World} {K:PySem.W.Frag} {mg:Str→Option Value} {base:Heap} {t:Adr}
theorem nG (T:Txt w K mg t):Eb P w K mg base CX0 1 t.Fu t.Mu ["text"] my:=by
 refine T.Lx.ok zG (fun vs H Q E h=>?_) (fun cdv A outer s H vs Q E hr h=>?_)
 ·obtain ⟨x,rfl,_⟩:=h;rfl
 obtain ⟨x,rfl,hz,nt,q⟩:=h
 have hzz:∀ n:Nat,n ≤ 40000→n ≤ sizeLine:=fun n h=>Nat.le_trans h (by decide)
 refine ⟨_,(gb (Db (Ij rfl (Me (JC PySem.F.plainAttrs_str PySem.F.slot_str_split PySem.F.type_str_split mz (pv 0) (bb Gd fb))) (Ud (sc:=jb Ow) rfl (by decide +kernel)) (N:=["row"]) (sel:=[none]) (Ie (M:=["text"]) (by decide +kernel)) (Blk.of (fun _ _ _ _=>(Bb (i:=0) (Ai (N:=["row"]) (by decide +kernel) rfl) rfl (Or.inl rfl))) (fun _ _ _ _=>⟨_,Mh,by first | rfl | (dsimp only [Cx.block];done) | (dsimp only [Cx.block];exact rfl)⟩) (fun _ _ _ _=>⟨_,(JC PySem.F.plainAttrs_str PySem.F.slot_str_split PySem.F.type_str_split mz (pv 0) (bb Gd fb)),by first | rfl | (dsimp only [Cx.block];done) | (dsimp only [Cx.block];exact rfl)⟩))))),?_⟩
 (walk_at "RD")
 have hy:1 ≤ nl.length:=by rw [dw];exact Nat.le_refl _
 have hy2:1 ≤ bk.length:=by rw [Zy];exact Nat.le_refl _
 have hs:=rp (x:=x) hy
 have hs':(bc (Txt.split x nl)).length ≤ sizeLine:=by unfold bc;rw [List.length_map];exact hzz _ (by omega)
 refine ⟨by rw [dw];decide,hzz _ (by omega),hzz _ (show (Txt.split x nl).length ≤ 40000 by omega),fun p hp=>⟨⟨_,SqL.of cb⟩,?_⟩⟩
 refine Xd.list_mk (xs:=bc (Txt.split x nl)) (fun v=>match v with | .str r=>.lst (bc (Txt.split r bk)) | _=>.lst []) (SqL.of cb) hs' (fun v=>by cases v <;> rfl) (fun i v H1 N hx sm nt1 hN=>?_) (fun qs H1 sm nt1 hl al p2 hp2=>?_)
 ·unfold bc at hx
  rw [List.getElem?_map] at hx
  cases hr:(Txt.split x nl)[i]? with
  | none=>rw [hr] at hx;cases hx
  | some r=>
   rw [hr] at hx
   have e:=Option.some.inj hx
   subst e
   have hm:=NI hy (List.mem_of_getElem? hr)
   have hs2:=rp (x:=r) hy2
   (walk_at "RD")
   exact ⟨Sub.name,by rw [Zy];decide,hzz _ (by omega),hzz _ (show (Txt.split r bk).length ≤ 40000 by omega),hN⟩
 ·have sm0:Xb H H1:=(ib hp).trans sm
  refine q _ _ (sm0.updN (sm0.free hp2)) ((nt1 (nt.upd)).upd) ⟨qs,cb,sm0.free hp2,fun hm=>?_,?_,fun i q' r h1 h2=>?_⟩
  ·obtain ⟨j,hj,e⟩:=List.getElem_of_mem hm
   have hj2:j < (bc (Txt.split x nl)).length:=by omega
   have:=al j p2 _ (by rw [List.getElem?_eq_getElem hj,e]) (List.getElem?_eq_getElem hj2)
   rw [hp2] at this
   cases this.1
  ·rw [hl];unfold Ch bc;rw [List.length_map,List.length_map]
  ·unfold Ch at h2
   rw [List.getElem?_map] at h2
   cases hr:(Txt.split x nl)[i]? with
   | none=>rw [hr] at h2;cases h2
   | some r0=>
    rw [hr] at h2
    have e:=Option.some.inj h2
    subst e
    have z:=al i q' (.str r0) h1 (by unfold bc;rw [List.getElem?_map,hr];rfl)
    refine ⟨by rw [lb (qb z.1 hp2)];exact z.1,?_⟩
    have:=z.2
    by_cases hq:q'=p
    ·rw [hq];exact hp
    ·rwa [lb hq] at this
end
end My
namespace My
open PySem L2
structure WD where
 k:Nat
 name:Str
 start:Int
 fin:Int
 off:Int
 near:Int
 least:Int
noncomputable def tf:Nat→Str
 | 0=>Str.ofString "car"
 | 1=>Str.ofString "foot"
 | _=>Str.ofString "tram"
noncomputable def Adr.cw (t:Adr):Nat→Addr
 | 0=>t.Xc
 | 1=>t.Bc
 | _=>t.Dc
noncomputable def Ho (d:WD):List (Str × V):=[(Str.ofString "kind",.str (tf d.k)),(Str.ofString "name",.str d.name),(Str.ofString "start",.int d.start),(Str.ofString "end",.int d.fin),(Str.ofString "off",.int d.off),(Str.ofString "near",.int d.near),(Str.ofString "least",.int d.least)]
noncomputable abbrev Yr:List Str:=[Str.ofString "kind",Str.ofString "name",Str.ofString "start",Str.ofString "end",Str.ofString "off",Str.ofString "near",Str.ofString "least"]
theorem wt (d:WD):(Ho d).map (·.1)=Yr:=rfl
noncomputable def de (t:Adr) (H:Hp) (p:Addr) (d:WD):Prop:=d.k < 3∧∃ dx,H p=some (.ins (t.cw d.k) dx (Ho d))
theorem de.same {t:Adr} {H H':Hp} {p:Addr} {d:WD} (h:de t H p d) (s:Xb H H'):de t H' p d:=⟨h.1,h.2.imp fun dx e=>s _ _ e⟩
noncomputable def isW (t:Adr) (C:Addr):Prop:=∃ k,k < 3∧C=t.cw k
noncomputable def Sd (d:WD):Int:=match d.k with | 0=>1 | 1=>0 | _=>2
noncomputable def Lg (d:WD):Int:=match d.k with | 0=>2 | 1=>d.off | _=>1
section
variable {w:World} {K:PySem.W.Frag} {mg:Str→Option Value} {t:Adr}
theorem Txt.clw (T:Txt w K mg t):∀ k,Cls K (t.cw k)
 | 0=>T.Wp
 | 1=>T.jn
 | _ + 2=>T.cn
theorem Txt.naw (T:Txt w K mg t) {f:Str} (hf:f ∈ Yr):∀ k,Cb K (t.cw k) f:=by
 intro k
 simp only [Yr,List.mem_cons,List.not_mem_nil,or_false] at hf
 rcases hf with rfl | rfl | rfl | rfl | rfl | rfl | rfl
 ·match k with
  | 0=>exact T.ls
  | 1=>exact T.xq
  | _ + 2=>exact T.Dq
 ·match k with
  | 0=>exact T.Ps
  | 1=>exact T.Sq
  | _ + 2=>exact T.Iq
 ·match k with
  | 0=>exact T.ur
  | 1=>exact T.Bo
  | _ + 2=>exact T.Io
 ·match k with
  | 0=>exact T.Cu
  | 1=>exact T.Pr
  | _ + 2=>exact T.Nr
 ·match k with
  | 0=>exact T.ou
  | 1=>exact T.Br
  | _ + 2=>exact T.Bs
 ·match k with
  | 0=>exact T.Qr
  | 1=>exact T.cr
  | _ + 2=>exact T.wp
 ·match k with
  | 0=>exact T.br
  | 1=>exact T.yo
  | _ + 2=>exact T.vo
theorem Txt.cw_inj (T:Txt w K mg t) {j k:Nat} (hj:j < 3) (hk:k < 3) (e:t.cw j=t.cw k):j=k:=by
 match j,k,hj,hk with
 | 0,0,_,_=>rfl
 | 0,1,_,_=>exact absurd e T.ji
 | 0,2,_,_=>exact absurd e T.Qh
 | 1,0,_,_=>exact absurd e.symm T.ji
 | 1,1,_,_=>rfl
 | 1,2,_,_=>exact absurd e T.zh
 | 2,0,_,_=>exact absurd e.symm T.Qh
 | 2,1,_,_=>exact absurd e.symm T.zh
 | 2,2,_,_=>rfl
 | j + 3,_,h,_=>omega
 | _,k + 3,_,h=>omega
theorem de.fld (T:Txt w K mg t) {H:Hp} {p:Addr} {d:WD} (h:de t H p d) {f:Str} {v:V} (i:Nat) (hi:Yr.findIdx? (· == f)=some i) (hv:(Ho d)[i]? = some (f,v)):gj K H p f v:=by
 obtain ⟨_,dx,e⟩:=h
 have hm:f ∈ Yr:=by
  obtain ⟨hlt,h1,_⟩:=List.findIdx?_eq_some_iff_getElem.mp hi
  have:Yr[i]=f:=by simpa using h1
  rw [← this];exact List.getElem_mem hlt
 exact ⟨_,dx,_,e,T.clw _,T.naw hm _,ic Yr i (wt d) hi hv⟩
theorem de.f_name (T:Txt w K mg t) {H:Hp} {p:Addr} {d:WD} (h:de t H p d):gj K H p (Str.ofString "name") (.str d.name):=h.fld T 1 (by decide +kernel) rfl
theorem de.f_start (T:Txt w K mg t) {H:Hp} {p:Addr} {d:WD} (h:de t H p d):gj K H p (Str.ofString "start") (.int d.start):=h.fld T 2 (by decide +kernel) rfl
theorem de.f_end (T:Txt w K mg t) {H:Hp} {p:Addr} {d:WD} (h:de t H p d):gj K H p (Str.ofString "end") (.int d.fin):=h.fld T 3 (by decide +kernel) rfl
theorem de.f_off (T:Txt w K mg t) {H:Hp} {p:Addr} {d:WD} (h:de t H p d):gj K H p (Str.ofString "off") (.int d.off):=h.fld T 4 (by decide +kernel) rfl
theorem de.f_near (T:Txt w K mg t) {H:Hp} {p:Addr} {d:WD} (h:de t H p d):gj K H p (Str.ofString "near") (.int d.near):=h.fld T 5 (by decide +kernel) rfl
theorem de.f_least (T:Txt w K mg t) {H:Hp} {p:Addr} {d:WD} (h:de t H p d):gj K H p (Str.ofString "least") (.int d.least):=h.fld T 6 (by decide +kernel) rfl
end
noncomputable def bu (t:Adr):Sp:=fun vs H Q _=>∃ (p dx:Addr) (d:WD),vs=[.ref p,.str (tf d.k),.str d.name,.int d.start,.int d.fin,.int d.off,.int d.near,.int d.least]∧d.k < 3∧H p=some (.ins (t.cw d.k) dx [])∧Q .non (upd H p (.ins (t.cw d.k) dx (Ho d)))
noncomputable def nk (t:Adr) (k:Nat):Sp:=fun vs H Q _=>∃ (p dx:Addr) (d:WD),vs=[.ref p,.str d.name,.int d.start,.int d.fin,.int d.off,.int d.near,.int d.least]∧d.k=k∧H p=some (.ins (t.cw d.k) dx [])∧Q .non (upd H p (.ins (t.cw d.k) dx (Ho d)))
section
variable {P:Program} {w:World} {K:PySem.W.Frag} {mg:Str→Option Value} {base:Heap} {t:Adr}
theorem Vw (T:Txt w K mg t):Eb P w K mg base CX0 1 t.vf t.xg ["self","kind","name","start","end","off","near","least"] (bu t):=by
 refine T.Wt.ok pp (fun vs H Q E h=>?_) (fun cdv A outer s H vs Q E hr h=>?_)
 ·obtain ⟨p,dx,d,rfl,_⟩:=h;rfl
 obtain ⟨p,dx,d,rfl,hk,hp,q⟩:=h
 refine ⟨_,(db (jf (pv 0) (pv 1) rfl)
   (db (jf (pv 0) (pv 2) rfl)
   (db (jf (pv 0) (pv 3) rfl)
   (db (jf (pv 0) (pv 4) rfl)
   (db (jf (pv 0) (pv 5) rfl)
   (db (jf (pv 0) (pv 6) rfl)
   (gb (jf (pv 0) (pv 7) rfl)))))))),?_⟩
 (walk_at "RD")
 have na:∀ {f:Str},f ∈ Yr→Cb K (t.cw d.k) f:=fun hf=>T.naw hf d.k
 refine ⟨_,_,_,hp,T.clw _,na (by decide +kernel),by decide,?_⟩
 refine ⟨_,_,_,cb,T.clw _,na (by decide +kernel),Zm (n:=999) (by decide),?_⟩
 refine ⟨_,_,_,cb,T.clw _,na (by decide +kernel),Zm (n:=999) (Zm (n:=998) (by decide)),?_⟩
 refine ⟨_,_,_,cb,T.clw _,na (by decide +kernel),Zm (n:=999) (Zm (n:=998) (Zm (n:=997) (by decide))),?_⟩
 refine ⟨_,_,_,cb,T.clw _,na (by decide +kernel),Zm (n:=999) (Zm (n:=998) (Zm (n:=997) (Zm (n:=996) (by decide)))),?_⟩
 refine ⟨_,_,_,cb,T.clw _,na (by decide +kernel),Zm (n:=999) (Zm (n:=998) (Zm (n:=997) (Zm (n:=996) (Zm (n:=995) (by decide))))),?_⟩
 refine ⟨_,_,_,cb,T.clw _,na (by decide +kernel),Zm (n:=999) (Zm (n:=998) (Zm (n:=997) (Zm (n:=996) (Zm (n:=995) (Zm (n:=994) (by decide)))))),?_⟩
 simp only [ui]
 rw [show rg (Str.ofString "kind") (V.str (tf d.k)) ([]:List (Str × V))=[(Str.ofString "kind",V.str (tf d.k))] from Mc [] rfl (by decide +kernel),
  show rg (Str.ofString "name") (V.str d.name) ([(Str.ofString "kind",V.str (tf d.k))]:List (Str × V))=[(Str.ofString "kind",V.str (tf d.k)),(Str.ofString "name",V.str d.name)] from Mc [Str.ofString "kind"] rfl (by decide +kernel),
  show rg (Str.ofString "start") (V.int d.start) ([(Str.ofString "kind",V.str (tf d.k)),(Str.ofString "name",V.str d.name)]:List (Str × V))=[(Str.ofString "kind",V.str (tf d.k)),(Str.ofString "name",V.str d.name),(Str.ofString "start",V.int d.start)] from Mc [Str.ofString "kind",Str.ofString "name"] rfl (by decide +kernel),
  show rg (Str.ofString "end") (V.int d.fin) ([(Str.ofString "kind",V.str (tf d.k)),(Str.ofString "name",V.str d.name),(Str.ofString "start",V.int d.start)]:List (Str × V))=[(Str.ofString "kind",V.str (tf d.k)),(Str.ofString "name",V.str d.name),(Str.ofString "start",V.int d.start),(Str.ofString "end",V.int d.fin)] from Mc [Str.ofString "kind",Str.ofString "name",Str.ofString "start"] rfl (by decide +kernel),
  show rg (Str.ofString "off") (V.int d.off) ([(Str.ofString "kind",V.str (tf d.k)),(Str.ofString "name",V.str d.name),(Str.ofString "start",V.int d.start),(Str.ofString "end",V.int d.fin)]:List (Str × V))=[(Str.ofString "kind",V.str (tf d.k)),(Str.ofString "name",V.str d.name),(Str.ofString "start",V.int d.start),(Str.ofString "end",V.int d.fin),(Str.ofString "off",V.int d.off)] from Mc [Str.ofString "kind",Str.ofString "name",Str.ofString "start",Str.ofString "end"] rfl (by decide +kernel),
  show rg (Str.ofString "near") (V.int d.near) ([(Str.ofString "kind",V.str (tf d.k)),(Str.ofString "name",V.str d.name),(Str.ofString "start",V.int d.start),(Str.ofString "end",V.int d.fin),(Str.ofString "off",V.int d.off)]:List (Str × V))=[(Str.ofString "kind",V.str (tf d.k)),(Str.ofString "name",V.str d.name),(Str.ofString "start",V.int d.start),(Str.ofString "end",V.int d.fin),(Str.ofString "off",V.int d.off),(Str.ofString "near",V.int d.near)] from Mc [Str.ofString "kind",Str.ofString "name",Str.ofString "start",Str.ofString "end",Str.ofString "off"] rfl (by decide +kernel),
  show rg (Str.ofString "least") (V.int d.least) ([(Str.ofString "kind",V.str (tf d.k)),(Str.ofString "name",V.str d.name),(Str.ofString "start",V.int d.start),(Str.ofString "end",V.int d.fin),(Str.ofString "off",V.int d.off),(Str.ofString "near",V.int d.near)]:List (Str × V))=[(Str.ofString "kind",V.str (tf d.k)),(Str.ofString "name",V.str d.name),(Str.ofString "start",V.int d.start),(Str.ofString "end",V.int d.fin),(Str.ofString "off",V.int d.off),(Str.ofString "near",V.int d.near),(Str.ofString "least",V.int d.least)] from Mc [Str.ofString "kind",Str.ofString "name",Str.ofString "start",Str.ofString "end",Str.ofString "off",Str.ofString "near"] rfl (by decide +kernel)]
 exact q
theorem WJ (T:Txt w K mg t):Eb P w K mg base CX0 2 t.Ye t.og ["self","name","start","end","off","near","least"] (nk t 0):=by
 have G_Way_init:Eb P w K mg base CX0 1 t.vf t.xg ["self","kind","name","start","end","off","near","least"] (bu t):=Vw T
 refine T.dm.ok im (fun vs H Q E h=>?_) (fun cdv A outer s H vs Q E hr h=>?_)
 ·obtain ⟨p,dx,d,rfl,_⟩:=h;rfl
 obtain ⟨p,dx,d,rfl,hk,hp,q⟩:=h
 refine ⟨_,(gb (ac (wu rfl T.mJ T.Mn G_Way_init hr T.An .nil dc (bb (pv 0) (bb Gd (bb (pv 1) (bb (pv 2) (bb (pv 3) (bb (pv 4) (bb (pv 5) (bb (pv 6) fb))))))))))),?_⟩
 (walk_at "RD")
 exact ⟨p,dx,d,by rw [hk];rfl,by omega,hp,q⟩
theorem JF (T:Txt w K mg t):Eb P w K mg base CX0 2 t.Ee t.Bf ["self","name","start","end","off","near","least"] (nk t 1):=by
 have G_Way_init:Eb P w K mg base CX0 1 t.vf t.xg ["self","kind","name","start","end","off","near","least"] (bu t):=Vw T
 refine T.Nk.ok Hl (fun vs H Q E h=>?_) (fun cdv A outer s H vs Q E hr h=>?_)
 ·obtain ⟨p,dx,d,rfl,_⟩:=h;rfl
 obtain ⟨p,dx,d,rfl,hk,hp,q⟩:=h
 refine ⟨_,(gb (ac (wu rfl T.mJ T.Mn G_Way_init hr T.An .nil dc (bb (pv 0) (bb Gd (bb (pv 1) (bb (pv 2) (bb (pv 3) (bb (pv 4) (bb (pv 5) (bb (pv 6) fb))))))))))),?_⟩
 (walk_at "RD")
 exact ⟨p,dx,d,by rw [hk];rfl,by omega,hp,q⟩
theorem JG (T:Txt w K mg t):Eb P w K mg base CX0 2 t.Fe t.Of ["self","name","start","end","off","near","least"] (nk t 2):=by
 have G_Way_init:Eb P w K mg base CX0 1 t.vf t.xg ["self","kind","name","start","end","off","near","least"] (bu t):=Vw T
 refine T.Hk.ok zl (fun vs H Q E h=>?_) (fun cdv A outer s H vs Q E hr h=>?_)
 ·obtain ⟨p,dx,d,rfl,_⟩:=h;rfl
 obtain ⟨p,dx,d,rfl,hk,hp,q⟩:=h
 refine ⟨_,(gb (ac (wu rfl T.mJ T.Mn G_Way_init hr T.An .nil dc (bb (pv 0) (bb Gd (bb (pv 1) (bb (pv 2) (bb (pv 3) (bb (pv 4) (bb (pv 5) (bb (pv 6) fb))))))))))),?_⟩
 (walk_at "RD")
 exact ⟨p,dx,d,by rw [hk];rfl,by omega,hp,q⟩
end
noncomputable def ci (t:Adr) (C:Addr):Sp:=fun vs H Q _=>∃ p d,vs=[.ref p]∧de t H p d∧C=t.cw d.k∧Q (.int (Sd d)) H
noncomputable def Vj (t:Adr) (C:Addr):Sp:=fun vs H Q _=>∃ p d,vs=[.ref p]∧de t H p d∧C=t.cw d.k∧Q (.int (Lg d)) H
section
variable {P:Program} {w:World} {K:PySem.W.Frag} {mg:Str→Option Value} {base:Heap} {t:Adr}
theorem Pp (T:Txt w K mg t):Eb P w K mg base CX0 1 t.Rf t.Eh ["self"] (ci t (t.cw 0)):=by
 refine T.Fk.ok Ep (fun vs H Q E h=>?_) (fun cdv A outer s H vs Q E hr h=>?_)
 ·obtain ⟨p,d,rfl,_⟩:=h;rfl
 obtain ⟨p,d,rfl,W,hC,q⟩:=h
 have hk:=(T.cw_inj (by decide) W.1 hC).symm
 refine ⟨_,(gb (Db xb)),?_⟩
 rw [show Sd d=1 by unfold Sd;simp only [hk]] at q
 (walk_at "RD")
 exact q
theorem Go (T:Txt w K mg t):Eb P w K mg base CX0 1 t.Xe t.Ag ["self"] (ci t (t.cw 1)):=by
 refine T.uj.ok Lo (fun vs H Q E h=>?_) (fun cdv A outer s H vs Q E hr h=>?_)
 ·obtain ⟨p,d,rfl,_⟩:=h;rfl
 obtain ⟨p,d,rfl,W,hC,q⟩:=h
 have hk:=(T.cw_inj (by decide) W.1 hC).symm
 refine ⟨_,(gb (Db xb)),?_⟩
 rw [show Sd d=0 by unfold Sd;simp only [hk]] at q
 (walk_at "RD")
 exact q
theorem xo (T:Txt w K mg t):Eb P w K mg base CX0 1 t.ff t.Mg ["self"] (ci t (t.cw 2)):=by
 refine T.Pj.ok Ko (fun vs H Q E h=>?_) (fun cdv A outer s H vs Q E hr h=>?_)
 ·obtain ⟨p,d,rfl,_⟩:=h;rfl
 obtain ⟨p,d,rfl,W,hC,q⟩:=h
 have hk:=(T.cw_inj (by decide) W.1 hC).symm
 refine ⟨_,(gb (Db xb)),?_⟩
 rw [show Sd d=2 by unfold Sd;simp only [hk]] at q
 (walk_at "RD")
 exact q
theorem kC (T:Txt w K mg t):uG P w K mg base CX0 1 (isW t) "ready" ["self"] (ci t):=by
 refine ⟨fun C hC=>?_⟩
 obtain ⟨k,hk,rfl⟩:=hC
 match k,hk with
 | 0,_=>exact ⟨_,_,T.Wp,T.As,Pp T,T.Ms⟩
 | 1,_=>exact ⟨_,_,T.jn,T.sr,Go T,T.Ap⟩
 | 2,_=>exact ⟨_,_,T.cn,T.Vp,xo T,T.Fp⟩
theorem Kr (T:Txt w K mg t):Eb P w K mg base CX0 1 t.qg t.Hi ["self"] (Vj t (t.cw 0)):=by
 refine T.Cm.ok Gs (fun vs H Q E h=>?_) (fun cdv A outer s H vs Q E hr h=>?_)
 ·obtain ⟨p,d,rfl,_⟩:=h;rfl
 obtain ⟨p,d,rfl,W,hC,q⟩:=h
 have hk:=(T.cw_inj (by decide) W.1 hC).symm
 refine ⟨_,(gb (Db xb)),?_⟩
 rw [show Lg d=2 by unfold Lg;simp only [hk]] at q
 (walk_at "RD")
 exact q
theorem np (T:Txt w K mg t):Eb P w K mg base CX0 1 t.Nf t.Jh ["self"] (Vj t (t.cw 1)):=by
 refine T.Kk.ok Yq (fun vs H Q E h=>?_) (fun cdv A outer s H vs Q E hr h=>?_)
 ·obtain ⟨p,d,rfl,_⟩:=h;rfl
 obtain ⟨p,d,rfl,W,hC,q⟩:=h
 have hk:=(T.cw_inj (by decide) W.1 hC).symm
 refine ⟨_,(gb (Db (zc (pv 0) rfl))),?_⟩
 rw [show Lg d=d.off by unfold Lg;simp only [hk]] at q
 (walk_at "RD")
 exact ⟨_,W.f_off T,q⟩
theorem Gq (T:Txt w K mg t):Eb P w K mg base CX0 1 t.Mf t.Lh ["self"] (Vj t (t.cw 2)):=by
 refine T.Ck.ok Lq (fun vs H Q E h=>?_) (fun cdv A outer s H vs Q E hr h=>?_)
 ·obtain ⟨p,d,rfl,_⟩:=h;rfl
 obtain ⟨p,d,rfl,W,hC,q⟩:=h
 have hk:=(T.cw_inj (by decide) W.1 hC).symm
 refine ⟨_,(gb (Db xb)),?_⟩
 rw [show Lg d=1 by unfold Lg;simp only [hk]] at q
 (walk_at "RD")
 exact q
theorem uI (T:Txt w K mg t):uG P w K mg base CX0 1 (isW t) "fade" ["self"] (Vj t):=by
 refine ⟨fun C hC=>?_⟩
 obtain ⟨k,hk,rfl⟩:=hC
 match k,hk with
 | 0,_=>exact ⟨_,_,T.Wp,T.Nu,Kr T,T.Su⟩
 | 1,_=>exact ⟨_,_,T.jn,T.Sr,np T,T.Ur⟩
 | 2,_=>exact ⟨_,_,T.cn,T.Gr,Gq T,T.Ls⟩
end
noncomputable def jl (c:Nat):List (List Nat)→List Nat
 | []=>[]
 | [a]=>a
 | a :: b :: r=>a ++ c :: jl c (b :: r)
theorem gD {c:Nat}:∀ {a b X Y:List Nat},c ∉ a→c ∉ b→a ++ c :: X=b ++ c :: Y→a=b∧X=Y
 | [],[],X,Y,_,_,h=>⟨rfl,(List.cons.inj h).2⟩
 | [],d :: b,X,Y,_,hb,h=>absurd (List.cons.inj h).1 (fun z=>hb (by simp [← z]))
 | d :: a,[],X,Y,ha,_,h=>absurd (List.cons.inj h).1 (fun z=>ha (by simp [z]))
 | d :: a,e :: b,X,Y,ha,hb,h=>by
  obtain ⟨h1,h2⟩:=List.cons.inj h
  obtain ⟨e1,e2⟩:=gD (fun z=>ha (List.mem_cons_of_mem _ z)) (fun z=>hb (List.mem_cons_of_mem _ z)) h2
  exact ⟨by rw [h1,e1],e2⟩
theorem RH {c:Nat}:∀ {ps qs:List (List Nat)},(∀ p ∈ ps,c ∉ p)→(∀ q ∈ qs,c ∉ q)→ps ≠ []→qs ≠ []→jl c ps=jl c qs→ps=qs
 | [a],[b],_,_,_,_,h=>by rw [show a=b from h]
 | [a],b :: b' :: r,ha,_,_,_,h=>absurd (show c ∈ a by rw [show a=b ++ c :: jl c (b' :: r) from h];simp) (ha a (by simp))
 | a :: a' :: r,[b],_,hb,_,_,h=>absurd (show c ∈ b by rw [show b=a ++ c :: jl c (a' :: r) from h.symm];simp) (hb b (by simp))
 | a :: a' :: r,b :: b' :: s,ha,hb,_,_,h=>by
  obtain ⟨e1,e2⟩:=gD (ha a (by simp)) (hb b (by simp)) (show a ++ c :: jl c (a' :: r)=b ++ c :: jl c (b' :: s) from h)
  rw [e1,RH (fun p hp=>ha p (List.mem_cons_of_mem _ hp)) (fun q hq=>hb q (List.mem_cons_of_mem _ hq)) (by simp) (by simp) e2]
 | [],_,_,_,h,_,_=>absurd rfl h
 | _ :: _,[],_,_,_,h,_=>absurd rfl h
theorem wI {c d:Nat}:∀ {ps:List (List Nat)},d ∈ jl c ps→d=c∨∃ p ∈ ps,d ∈ p
 | [],h=>nomatch h
 | [a],h=>.inr ⟨a,by simp,h⟩
 | a :: b :: r,h=>by
  rcases List.mem_append.mp (show d ∈ a ++ c :: jl c (b :: r) from h) with h | h
  ·exact .inr ⟨a,by simp,h⟩
  ·rcases List.mem_cons.mp h with h | h
   ·exact .inl h
   ·rcases wI h with h | ⟨p,hp,h⟩
    ·exact .inl h
    ·exact .inr ⟨p,List.mem_cons_of_mem _ hp,h⟩
theorem Dl (c:Nat):∀ ys:List Str,(Str.join ⟨#[c]⟩ ys).cps.toList=jl c (ys.map (·.cps.toList))
 | []=>rfl
 | [a]=>rfl
 | a :: b :: r=>by
  show (a ++ ⟨#[c]⟩ ++ Str.join ⟨#[c]⟩ (b :: r)).cps.toList=_
  rw [Str.cps_append,Array.toList_append,Str.cps_append,Array.toList_append,Dl c (b :: r)]
  simp [jl]
theorem qx {x y:Str} (h:x.cps.toList=y.cps.toList):x=y:=by
 cases x;cases y
 exact congrArg Str.mk (Array.toList_inj.mp h)
theorem Nt {c:Nat} {ys:List Str} (hn:ys ≠ []) (hf:∀ y ∈ ys,c ∉ y.cps.toList):Txt.split (Str.join ⟨#[c]⟩ ys) ⟨#[c]⟩=ys:=by
 have e:=congrArg (·.cps.toList) (StrLaws.join_split (Str.join ⟨#[c]⟩ ys) ⟨#[c]⟩)
 simp only [Dl] at e
 have e2:=RH (c:=c) (ps:=(Txt.split (Str.join ⟨#[c]⟩ ys) ⟨#[c]⟩).map (·.cps.toList)) (qs:=ys.map (·.cps.toList)) (fun p hp=>by
  obtain ⟨y,hy,rfl⟩:=List.mem_map.mp hp
  exact StrLaws.split_free _ c y hy) (fun p hp=>by
  obtain ⟨y,hy,rfl⟩:=List.mem_map.mp hp
  exact hf y hy) (by simp [LF]) (by simpa using hn) e
 exact (List.map_inj_right fun x y h=>qx h).mp e2
noncomputable abbrev num (v:Int):Str:=Str.ofString (toString v)
theorem rJ:∀ n,n < 1000→(decide (1 ≤ ((Nat.toDigits 10 n).map Char.toNat).length) && decide (((Nat.toDigits 10 n).map Char.toNat).length ≤ 3) && ((Nat.toDigits 10 n).map Char.toNat).all wo && (decide (((Nat.toDigits 10 n).map Char.toNat).length ≤ 1) || decide (((Nat.toDigits 10 n).map Char.toNat).headD 0 ≠ 48)) &&
  decide (NumText.digitsVal ((Nat.toDigits 10 n).map Char.toNat)=n))=true:=by decide +kernel
theorem Fy {v:Int} (h0:0 ≤ v) (h1:v < 1000):okB (num v)=true∧val (num v)=v:=by
 have e:=PySem.W.KIN.signs_num v.toNat
 rw [Int.toNat_of_nonneg h0] at e
 have a:=rJ v.toNat (by omega)
 rw [← e,Bool.and_eq_true,decide_eq_true_eq] at a
 exact ⟨a.1,by show ((NumText.digitsVal (cs (num v)):Nat):Int)=v;rw [a.2];omega⟩
theorem TD {v lo hi:Int} (h0:0 ≤ v) (h1:v < 1000) (hl:lo ≤ v) (hh:v ≤ hi):Oq (num v) lo hi=.int v:=by
 obtain ⟨a,b⟩:=Fy h0 h1
 unfold Oq
 rw [a,b,decide_eq_false (by omega:¬ v < lo),decide_eq_false (by omega:¬ hi < v)];rfl
theorem Ux {u v:Int} (h0:0 ≤ u) (h1:u < 1000) (h2:0 ≤ v) (h3:v < 1000) (e:num u=num v):u=v:=by
 rw [← (Fy h0 h1).2,e,(Fy h2 h3).2]
theorem qy {v:Int} (h0:0 ≤ v) (h1:v < 1000):∀ c ∈ (num v).cps.toList,48 ≤ c∧c ≤ 57:=fun c hc=>by
 have:=List.all_eq_true.mp (BM (Fy h0 h1).1).2 c hc
 simpa [wo] using this
theorem Pn:Yc.cps.toList=[97,98,99,100,101,102,103,104,105,106,107,108,109,110,111,112,113,114,115,116,117,118,119,120,121,122]:=by decide +kernel
theorem Pe {x:Str} (h:made x Yc 8=true):(1 ≤ x.length∧x.length ≤ 8)∧∀ c ∈ x.cps.toList,97 ≤ c∧c ≤ 122:=by
 unfold made at h
 split at h
 ·cases h
 ·rename_i h1
  split at h
  ·cases h
  ·rename_i h2
   have h3:¬ x.length=0:=fun z=>h1 (EN.mpr z)
   refine ⟨by omega,fun c hc=>?_⟩
   have:=List.all_eq_true.mp h c hc
   rw [xx,Pn] at this
   simp only [decide_eq_true_eq,List.mem_cons,List.not_mem_nil,or_false] at this
   omega
theorem Dw {x:Str} (h0:1 ≤ x.length) (h1:x.length ≤ 8) (h:∀ c ∈ x.cps.toList,97 ≤ c∧c ≤ 122):made x Yc 8=true:=by
 unfold made
 rw [if_neg (fun z=>by have:=EN.mp z;omega),if_neg (by omega)]
 refine List.all_eq_true.mpr fun c hc=>?_
 have:=h c hc
 rw [xx,Pn]
 simp only [decide_eq_true_eq,List.mem_cons,List.not_mem_nil,or_false]
 omega
structure WOk (n:Int) (d:WD):Prop where
 k:d.k < 3
 nm:made d.name Yc 8=true
 st:0 ≤ d.start∧d.start < n
 fi:0 ≤ d.fin∧d.fin < n
 ne:d.start ≠ d.fin
 of:0 ≤ d.off∧d.off ≤ 30
 nr:0 ≤ d.near∧d.near ≤ 30
 le:1 ≤ d.least∧d.least ≤ 60
structure COk (n:Int) (ds:List WD):Prop where
 nn:2 ≤ n∧n ≤ 99
 ln:1 ≤ ds.length∧ds.length ≤ 12
 al:∀ d ∈ ds,WOk n d
 nd:(ds.map (·.name)).Nodup
noncomputable def ad (d:WD):List Str:=[tf d.k,d.name,num d.start,num d.fin,num d.off,num d.near,num d.least]
noncomputable def av (n:Int) (ds:List WD):List (List Str):=[Str.ofString "ring",num n] :: ds.map ad
noncomputable def Wx (n:Int) (ds:List WD):Str:=Str.join nl ((av n ds).map (Str.join bk))
noncomputable def Qu (x:Str):Prop:=x.length ≤ 8∧(32:Nat) ∉ x.cps.toList∧(10:Nat) ∉ x.cps.toList
theorem zz (k:Nat):Qu (tf k):=by
 match k with
 | 0=>exact ⟨by decide +kernel,by decide +kernel,by decide +kernel⟩
 | 1=>exact ⟨by decide +kernel,by decide +kernel,by decide +kernel⟩
 | _ + 2=>exact ⟨show (Str.ofString "tram").length ≤ 8 by decide +kernel,show (32:Nat) ∉ (Str.ofString "tram").cps.toList by decide +kernel,show (10:Nat) ∉ (Str.ofString "tram").cps.toList by decide +kernel⟩
theorem Sf {v:Int} (h0:0 ≤ v) (h1:v < 1000):Qu (num v):=
 ⟨Nat.le_trans (EJ h0 (by omega)) (by decide),fun z=>by have:=qy h0 h1 _ z;omega,fun z=>by have:=qy h0 h1 _ z;omega⟩
theorem Zh {x:Str} (h:made x Yc 8=true):Qu x:=
 ⟨(Pe h).1.2,fun z=>by have:=(Pe h).2 _ z;omega,fun z=>by have:=(Pe h).2 _ z;omega⟩
theorem WOk.plain {n:Int} {d:WD} (h:WOk n d) (hn:n ≤ 99):∀ x ∈ ad d,Qu x:=fun x hx=>by
 have h1:=h.st;have h2:=h.fi;have h3:=h.of;have h4:=h.nr;have h5:=h.le
 simp only [ad,List.mem_cons,List.not_mem_nil,or_false] at hx
 rcases hx with rfl | rfl | rfl | rfl | rfl | rfl | rfl
 ·exact zz _
 ·exact Zh h.nm
 ·exact Sf (by omega) (by omega)
 ·exact Sf (by omega) (by omega)
 ·exact Sf (by omega) (by omega)
 ·exact Sf (by omega) (by omega)
 ·exact Sf (by omega) (by omega)
theorem COk.plain {n:Int} {ds:List WD} (h:COk n ds):∀ r ∈ av n ds,∀ x ∈ r,Qu x:=fun r hr x hx=>by
 have hn:=h.nn
 rcases List.mem_cons.mp hr with rfl | hr
 ·simp only [List.mem_cons,List.not_mem_nil,or_false] at hx
  rcases hx with rfl | rfl
  ·exact ⟨by decide +kernel,by decide +kernel,by decide +kernel⟩
  ·exact Sf (by omega) (by omega)
 ·obtain ⟨d,hd,rfl⟩:=List.mem_map.mp hr
  exact (h.al d hd).plain hn.2 x hx
theorem Tv {rs:List (List Str)} (h0:rs ≠ []) (h1:∀ r ∈ rs,r ≠ []) (h2:∀ r ∈ rs,∀ x ∈ r,Qu x):Ch (Str.join nl (rs.map (Str.join bk)))=rs:=by
 unfold Ch
 rw [YK,aJ]
 rw [Nt (by simpa using h0) (fun y hy=>by
  obtain ⟨r,hr,rfl⟩:=List.mem_map.mp hy
  rw [Dl]
  intro z
  rcases wI z with z | ⟨p,hp,z⟩
  ·cases z
  ·obtain ⟨x,hx,rfl⟩:=List.mem_map.mp hp
   exact (h2 r hr x hx).2.2 z)]
 rw [List.map_map]
 have:∀ r ∈ rs,((fun r=>Txt.split r ⟨#[32]⟩) ∘ Str.join ⟨#[32]⟩) r=r:=fun r hr=>Nt (h1 r hr) fun x hx=>(h2 r hr x hx).2.1
 exact (List.map_congr_left this).trans (List.map_id rs)
theorem sA {n:Int} {ds:List WD} (h:COk n ds):Ch (Wx n ds)=av n ds:=Tv (by simp [av]) (fun r hr=>by
 rcases List.mem_cons.mp hr with rfl | hr
 ·simp
 ·obtain ⟨d,hd,rfl⟩:=List.mem_map.mp hr
  simp [ad]) h.plain
theorem Up (sep:Str) (B:Nat):∀ ys:List Str,(∀ y ∈ ys,y.length ≤ B)→(Str.join sep ys).length ≤ ys.length * (B + sep.length)
 | [],_=>by show (Str.empty).length ≤ _;exact Nat.zero_le _
 | [a],h=>by
  have:=h a (by simp)
  show a.length ≤ _
  simp only [List.length_cons,List.length_nil];omega
 | a :: b :: r,h=>by
  have h1:=h a (by simp)
  have h2:=Up sep B (b :: r) fun y hy=>h y (List.mem_cons_of_mem _ hy)
  show (a ++ sep ++ Str.join sep (b :: r)).length ≤ _
  rw [xj,xj,List.length_cons,Nat.succ_mul]
  omega
theorem uD {n:Int} {ds:List WD} (h:COk n ds):(Wx n ds).length ≤ 1000:=by
 have h1:∀ y ∈ (av n ds).map (Str.join bk),y.length ≤ 63:=fun y hy=>by
  obtain ⟨r,hr,rfl⟩:=List.mem_map.mp hy
  have:=Up bk 8 r fun x hx=>(h.plain r hr x hx).1
  rw [Zy] at this
  have hl:r.length ≤ 7:=by
   rcases List.mem_cons.mp hr with rfl | hr
   ·simp
   ·obtain ⟨d,hd,rfl⟩:=List.mem_map.mp hr
    simp [ad]
  omega
 have h2:=Up nl 63 _ h1
 rw [dw] at h2
 have h3:((av n ds).map (Str.join bk)).length ≤ 13:=by
  have:=h.ln
  simp [av];omega
 unfold Wx
 omega
end My
namespace My
open PySem L2
noncomputable abbrev xw:List Str:=[Str.ofString "row",Str.ofString "told",Str.ofString "place"]
noncomputable def rdF (row:Int) (ta:Addr) (pl:Int):List (Str × V):=[(Str.ofString "row",.int row),(Str.ofString "told",.ref ta),(Str.ofString "place",.int pl)]
theorem Qg (row:Int) (ta:Addr) (pl:Int):(rdF row ta pl).map (·.1)=xw:=rfl
theorem MC (row:Int) (ta:Addr) (pl v:Int):rg (Str.ofString "place") (.int v) (rdF row ta pl)=rdF row ta v:=by
 unfold rdF
 simp only [rg]
 rw [if_neg (by decide +kernel),if_neg (by decide +kernel)];rfl
noncomputable def Se (t:Adr) (H:Hp) (p:Addr) (row:Int) (ws:List Str) (pl:Nat):Prop:=
 (ws.length ≤ 1000∧∀ x ∈ ws,x.length ≤ 1000)∧∃ dx ta,H p=some (.ins t.yb dx (rdF row ta pl))∧H ta=some (.lst (bc ws))
noncomputable def Vc (p:Addr) (H H':Hp):Prop:=∀ b u,b ≠ p→H b=some u→H' b=some u
theorem Vc.trans {p:Addr} {H H1 H2:Hp} (a:Vc p H H1) (b:Vc p H1 H2):Vc p H H2:=fun c u n e=>b c u n (a c u n e)
theorem Vc.of {p:Addr} {H H1:Hp} (a:Xb H H1):Vc p H H1:=fun c u _ e=>a c u e
theorem Vc.put {p:Addr} {H:Hp} {o:HO}:Vc p H (upd H p o):=fun c u n e=>by rw [lb n];exact e
theorem Bj (ws:List Str):(bc ws).length=ws.length:=by unfold bc;rw [List.length_map]
theorem RF {ws:List Str} {i:Nat} {x:Str} (h:ws[i]? = some x):(bc ws)[i]? = some (.str x):=by unfold bc;rw [List.getElem?_map,h];rfl
theorem Et (ws:List Str):(bc ws).all rj=true:=by unfold bc;simp [rj]
theorem Xy (x:Str) (xs:List Str):inV (.str x) (bc xs)=decide (x ∈ xs):=by
 unfold inV bc
 rw [List.any_map,Bool.eq_iff_iff]
 simp only [List.any_eq_true,Function.comp,eqV,beq_iff_eq,decide_eq_true_eq]
 constructor
 ·rintro ⟨y,hy,rfl⟩;exact hy
 ·intro h;exact ⟨x,h,rfl⟩
section
variable {w:World} {K:PySem.W.Frag} {mg:Str→Option Value} {t:Adr} {H H':Hp} {p:Addr} {row:Int} {ws:List Str} {pl:Nat}
theorem Se.same (h:Se t H p row ws pl) (s:Xb H H'):Se t H' p row ws pl:=by
 obtain ⟨hz,dx,ta,e1,e2⟩:=h
 exact ⟨hz,dx,ta,s _ _ e1,s _ _ e2⟩
theorem Se.sameX {q:Addr} (h:Se t H p row ws pl) (s:Vc q H H') (n:p ≠ q) (k:∃ C dx fs,H q=some (.ins C dx fs)):Se t H' p row ws pl:=by
 obtain ⟨hz,dx,ta,e1,e2⟩:=h
 obtain ⟨C,dq,fs,e3⟩:=k
 exact ⟨hz,dx,ta,s _ _ n e1,s _ _ (Bg e2 e3 (by intro z;cases z)) e2⟩
theorem Se.ins (h:Se t H p row ws pl):∃ C dx fs,H p=some (.ins C dx fs):=by
 obtain ⟨hz,dx,ta,e1,e2⟩:=h
 exact ⟨_,_,_,e1⟩
theorem Se.no {m:Str} (row:Int) (ta:Addr) (pl:Int) (h:xw.contains m=false):(rdF row ta pl).lookup m=none:=am xw (Qg ..) h
theorem Ro (T:Txt w K mg t) {dx ta:Addr} {pl:Int} (e:H p=some (.ins t.yb dx (rdF row ta pl))):gj K H p (Str.ofString "place") (.int pl):=
 ⟨_,dx,_,e,T.rb,T.Zd,ic xw 2 (Qg ..) (by decide +kernel) rfl⟩
theorem Ww (T:Txt w K mg t) {dx ta:Addr} {pl:Int} (e:H p=some (.ins t.yb dx (rdF row ta pl))):gj K H p (Str.ofString "told") (.ref ta):=
 ⟨_,dx,_,e,T.rb,T.Oh,ic xw 1 (Qg ..) (by decide +kernel) rfl⟩
end
noncomputable def YH (t:Adr):Sp:=fun vs H Q _=>∃ (p dx ta:Addr) (row:Int),vs=[.ref p,.int row,.ref ta]∧H p=some (.ins t.yb dx [])∧Q .non (upd H p (.ins t.yb dx (rdF row ta 0)))
noncomputable def Ci (t:Adr):Sp:=fun vs H Q _=>∃ p row ws pl,vs=[.ref p]∧Se t H p row ws pl∧pl ≤ ws.length∧Q (.str (ws.getD pl (Str.ofString ""))) H
noncomputable def zB (t:Adr):Sp:=fun vs H Q _=>∃ p row ws pl,vs=[.ref p]∧Se t H p row ws pl∧Q (.bl (decide (pl < ws.length))) H
noncomputable def yL (t:Adr) (H:Hp) (p:Addr) (row:Int) (ws:List Str) (pl:Nat) (R:Hp→Prop):Prop:=∀ H',Vc p H H'→(NoT H→NoT H')→Se t H' p row ws pl→R H'
noncomputable def EC (t:Adr):Sp:=fun vs H Q _=>∃ p row ws pl,vs=[.ref p,.bl true]∧Se t H p row ws pl∧yL t H p row ws (pl + 1) (Q .non)
noncomputable def UC (t:Adr):Sp:=fun vs H Q _=>∃ p row ws pl x lo hi v,vs=[.ref p,.int lo,.int hi]∧Se t H p row ws pl∧ws[pl]? = some x∧Oq x lo hi=.int v∧NoT H∧yL t H p row ws (pl + 1) (Q (.int v))
section
variable {P:Program} {w:World} {K:PySem.W.Frag} {mg:Str→Option Value} {base:Heap} {t:Adr}
theorem fN (T:Txt w K mg t):Eb P w K mg base CX0 1 t.Td t.Je ["self","row","told"] (YH t):=by
 refine T.Ri.ok nj (fun vs H Q E h=>?_) (fun cdv A outer s H vs Q E hr h=>?_)
 ·obtain ⟨p,dx,ta,row,rfl,_⟩:=h;rfl
 obtain ⟨p,dx,ta,row,rfl,hp,q⟩:=h
 refine ⟨_,(db (jf (pv 0) (pv 1) rfl)
   (db (jf (pv 0) (pv 2) rfl)
   (gb (jf (pv 0) xb rfl)))),?_⟩
 (walk_at "RD")
 refine ⟨_,_,_,hp,T.rb,T.Si,by decide,?_⟩
 refine ⟨_,_,_,cb,T.rb,T.Oh,Zm (n:=999) (by decide),?_⟩
 refine ⟨_,_,_,cb,T.rb,T.Zd,Zm (n:=999) (Zm (n:=998) (by decide)),?_⟩
 simp only [ui]
 rw [show rg (Str.ofString "row") (V.int row) ([]:List (Str × V))=[(Str.ofString "row",V.int row)] from Mc [] rfl (by decide +kernel),
  show rg (Str.ofString "told") (V.ref ta) ([(Str.ofString "row",V.int row)]:List (Str × V))=[(Str.ofString "row",V.int row),(Str.ofString "told",V.ref ta)] from Mc [Str.ofString "row"] rfl (by decide +kernel),
  show rg (Str.ofString "place") (V.int 0) ([(Str.ofString "row",V.int row),(Str.ofString "told",V.ref ta)]:List (Str × V))=[(Str.ofString "row",V.int row),(Str.ofString "told",V.ref ta),(Str.ofString "place",V.int 0)] from Mc [Str.ofString "row",Str.ofString "told"] rfl (by decide +kernel)]
 exact q
theorem ik (T:Txt w K mg t):Eb P w K mg base CX0 1 t.Sb t.Yb ["self"] (Ci t):=by
 refine T.di.ok fm (fun vs H Q E h=>?_) (fun cdv A outer s H vs Q E hr h=>?_)
 ·obtain ⟨p,row,ws,pl,rfl,_⟩:=h;rfl
 obtain ⟨p,row,ws,pl,rfl,⟨hz,dx,ta,e1,e2⟩,hle,q⟩:=h
 refine ⟨_,(db (qe (Pc ij (zc (pv 0) rfl) (fc Qe rfl T.Nx yf (bb (zc (pv 0) rfl) fb)) (Lc _)) (gb (Db Gd)) Zb)
   (gb (Db (gf Fd (zc (pv 0) rfl) (zc (pv 0) rfl) (fun _ _=>rfl))))),?_⟩
 (walk_at "RD")
 refine Vb (decide ((pl:Int)=(ws.length:Int))) (fun Q hQ=>?_) (fun c=>?_) (fun c=>?_)
 ·(walk_at "RD")
  refine ⟨_,Ro T e1,_,Ww T e1,_,rfl,_,.inl (SqL.of e2),rfl,?_⟩
  rw [Bj]
  (walk_at "RD")
  exact hQ
 ·(walk_at "RD")
  have c':pl=ws.length:=by have:=of_decide_eq_true c;omega
  rw [show ws.getD pl (Str.ofString "")=Str.ofString "" by rw [List.getD_eq_getElem?_getD,List.getElem?_eq_none (by omega)];rfl] at q
  exact q
 ·(walk_at "RD")
  have c':pl < ws.length:=by have:=of_decide_eq_false c;omega
  have hx:ws[pl]? = some ws[pl]:=List.getElem?_eq_getElem c'
  rw [List.getD_eq_getElem?_getD,hx] at q
  exact ⟨_,Ww T e1,_,Ro T e1,_,rfl,_,_,rfl,SqL.of e2,_,yc (RF hx),q⟩
theorem lJ (T:Txt w K mg t):Eb P w K mg base CX0 1 t.Wc t.Id ["self"] (zB t):=by
 refine T.kg.ok Fj (fun vs H Q E h=>?_) (fun cdv A outer s H vs Q E hr h=>?_)
 ·obtain ⟨p,row,ws,pl,rfl,_⟩:=h;rfl
 obtain ⟨p,row,ws,pl,rfl,⟨hz,dx,ta,e1,e2⟩,q⟩:=h
 refine ⟨_,(gb (Db (Oe Ax (zc (pv 0) rfl) (fc Qe rfl T.Nx yf (bb (zc (pv 0) rfl) fb)) (Lc _)))),?_⟩
 (walk_at "RD")
 have e:decide (pl < ws.length)=decide ((pl:Int) < (ws.length:Int)):=by rw [Bool.eq_iff_iff];simp
 rw [e] at q
 refine ⟨_,Ro T e1,_,Ww T e1,_,rfl,_,.inl (SqL.of e2),?_⟩
 rw [Bj]
 exact ⟨_,rfl,q⟩
theorem hJ (T:Txt w K mg t):Eb P w K mg base CX0 1 t.jc t.Fc ["self","good"] (EC t):=by
 refine T.gg.ok ki (fun vs H Q E h=>?_) (fun cdv A outer s H vs Q E hr h=>?_)
 ·obtain ⟨p,row,ws,pl,rfl,_⟩:=h;rfl
 obtain ⟨p,row,ws,pl,rfl,⟨hz,dx,ta,e1,e2⟩,q⟩:=h
 refine ⟨_,(db (qe (pq (xh (pv 1))) (gb Zt) Zb)
   (gb (vw (pv 0) xb JH))),?_⟩
 (walk_at "RD")
 refine Vb false (fun Q hQ=>?_) (fun hc=>nomatch hc) (fun _=>?_)
 ·(walk_at "RD")
  exact hQ
 ·(walk_at "RD")
  refine ⟨_,_,_,e1,T.rb,T.Zd,_,ic xw 2 (Qg ..) (by decide +kernel) rfl,_,rfl,_,_,e1,by rw [← List.length_map (f:=(·.1)),Qg];decide,?_⟩
  rw [MC]
  exact q _ Vc.put (fun n=>n.upd) ⟨hz,dx,ta,cb,by rw [lb (Bg e2 e1 (by intro z;cases z))];exact e2⟩
theorem kK (T:Txt w K mg t):Eb P w K mg base CX0 4 t.Pb t.Tb ["self","low","high"] (UC t):=by
 have G_RowReader_ahead:Eb P w K mg base CX0 3 t.Sb t.Yb ["self"] (Ci t):=(ik T).mono (by decide)
 have G_RowReader_take:Eb P w K mg base CX0 3 t.jc t.Fc ["self","good"] (EC t):=(hJ T).mono (by decide)
 have G_figured:Eb P w K mg base CX0 3 t.Lj t.fj ["word","low","high"] rB:=WH T
 refine T.Le.ok Jd (fun vs H Q E h=>?_) (fun cdv A outer s H vs Q E hr h=>?_)
 ·obtain ⟨p,row,ws,pl,x,lo,hi,v,rfl,_⟩:=h;rfl
 obtain ⟨p,row,ws,pl,x,lo,hi,v,rfl,R,hx,hv,nt,q⟩:=h
 refine ⟨_,(db (kc (i:=3) Jd.nd rfl (Or.inl rfl) (Jb G_figured hr rfl T.wv T.tm.kp T.ww .nil dc (bb (qd (pv 0) T.rb T.bd G_RowReader_ahead hr T.gd .nil dc) (bb (pv 1) (bb (pv 2) fb)))))
   (db (ac (md (pv 0) T.rb T.Ke G_RowReader_take hr T.Ge .nil dc (bb (Oe nD (pv 3) dz (Lc _)) fb)))
   (gb (Db (pv 3))))),?_⟩
 have hlt:pl < ws.length:=(List.getElem?_eq_some_iff.mp hx).1
 have hg:ws.getD pl (Str.ofString "")=x:=by rw [List.getD_eq_getElem?_getD,hx];rfl
 obtain ⟨hz,dx,ta,e1,e2⟩:=id R
 (walk_at "RD")
 refine ⟨_,_,e1,Se.no _ _ _ (by decide +kernel),⟨p,row,ws,pl,rfl,R,by omega,?_⟩⟩
 rw [hg]
 (walk_at "RD")
 refine ⟨x,lo,hi,rfl,hz.2 x (List.mem_of_getElem? hx),nt,?_⟩
 rw [hv]
 (walk_at "RD")
 refine ⟨_,_,e1,Se.no _ _ _ (by decide +kernel),?_⟩
 refine ⟨p,row,ws,pl,rfl,R,fun H' s1 s2 s3=>?_⟩
 (walk_at "RD")
 exact q H' s1 s2 s3
end
end My
namespace My
open PySem L2
noncomputable abbrev wd (ws:List Str) (k:Nat):Str:=ws.getD k (Str.ofString "")
theorem HH {ws:List Str} (h:∀ x ∈ ws,x.length ≤ 1000) (k:Nat):(wd ws k).length ≤ 1000:=by
 unfold wd
 rw [List.getD_eq_getElem?_getD]
 cases e:ws[k]? with
 | none=>exact Nat.le_trans (show (Str.ofString "").length ≤ 0 by decide +kernel) (Nat.zero_le _)
 | some x=>exact h x (List.mem_of_getElem? e)
theorem gG {ws:List Str} {k:Nat} (h:wd ws k ≠ Str.ofString ""):k < ws.length:=by
 refine Classical.byContradiction fun z=>h ?_
 unfold wd
 rw [List.getD_eq_getElem?_getD,List.getElem?_eq_none (by omega)];rfl
theorem kt (w:Str) (lo hi:Int):(∃ v,Oq w lo hi=.int v∧lo ≤ v∧v ≤ hi∧w ≠ Str.ofString "")∨Oq w lo hi=.non:=by
 unfold Oq
 split
 ·rename_i h
  rw [Bool.and_eq_true] at h
  refine .inl ⟨val w,rfl,?_,?_,fun z=>?_⟩
  ·have:=h.2;simp at this;omega
  ·have:=h.2;simp at this;omega
  ·have h1:=h.1
   rw [z] at h1
   exact absurd h1 (by decide +kernel)
 ·exact .inr rfl
theorem zr {i:Int} (h:i.natAbs < 100000):i.natAbs.log2 < 1920:=by
 by_cases h0:i.natAbs=0
 ·rw [h0];decide
 ·exact (Nat.log2_lt h0).mpr (Nat.lt_trans h (by decide))
noncomputable def wk (t:Adr) (i:Int) (k:Nat) (p:Addr) (H:Hp) (E:XK):Prop:=∀ dx H',Vc p H H'→(NoT H→NoT H')→H' dx=some (.ext (XD dx [(Str.ofString "row",.int i),(Str.ofString "word",.int k)]))→E (.ref t.zb) (some dx) H'
theorem wk.step {t:Adr} {i:Int} {k:Nat} {p:Addr} {H H1:Hp} {E:XK} (h:wk t i k p H E) (s:Vc p H H1) (n:NoT H→NoT H1):wk t i k p H1 E:=fun dx H' s' n' e=>h dx H' (s.trans s') (fun z=>n' (n z)) e
theorem qN {w:World} {K:PySem.W.Frag} {mg:Str→Option Value} {t:Adr} {H:Hp} {p:Addr} {row:Int} (T:Txt w K mg t) {dx ta:Addr} {pl:Int} (e:H p=some (.ins t.yb dx (rdF row ta pl))):gj K H p (Str.ofString "row") (.int row):=
 ⟨_,dx,_,e,T.rb,T.Si,ic xw 0 (Qg ..) (by decide +kernel) rfl⟩
noncomputable def nC (t:Adr):Sp:=fun vs H Q _=>∃ x i j,vs=[.ref x,.int i,.int j]∧i.natAbs.log2 < 1920∧j.natAbs.log2 < 1920∧H x=some (.ext (XF x t.zb none)) ∧
 ∀ dx,H dx=none→dx ≠ x→Q .non (upd (upd H x (.ext (XF x t.zb (some dx)))) dx (.ext (XD dx [(Str.ofString "row",.int i),(Str.ofString "word",.int j)])))
noncomputable def zp (t:Adr):Sp:=fun vs H Q E=>∃ p row ws pl,vs=[.ref p]∧Se t H p row ws pl∧(0 ≤ row∧row ≤ 10000)∧pl ≤ 10000∧wk t row pl p H E
noncomputable def ip (t:Adr):Sp:=fun vs H Q E=>∃ p row ws pl g,vs=[.ref p,.bl g]∧Se t H p row ws pl∧(0 ≤ row∧row ≤ 10000)∧pl ≤ 10000∧(g=true→yL t H p row ws (pl + 1) (Q .non))∧(g=false→wk t row pl p H E)
noncomputable def Gp (K:PySem.W.Frag) (t:Adr):Sp:=fun vs H Q E=>∃ p row ws pl c xs,vs=[.ref p,.ref c]∧Se t H p row ws pl∧(0 ≤ row∧row ≤ 10000)∧pl ≤ ws.length∧SqL K H c (bc xs) ∧
 (wd ws pl ∈ xs→yL t H p row ws (pl + 1) (Q (.str (wd ws pl))))∧(wd ws pl ∉ xs→wk t row pl p H E)
noncomputable def bp (t:Adr):Sp:=fun vs H Q E=>∃ p row ws pl lo hi,vs=[.ref p,.int lo,.int hi]∧Se t H p row ws pl∧(0 ≤ row∧row ≤ 10000)∧pl ≤ ws.length∧NoT H ∧
 (∀ v,Oq (wd ws pl) lo hi=.int v→yL t H p row ws (pl + 1) (Q (.int v)))∧(Oq (wd ws pl) lo hi=.non→wk t row pl p H E)
noncomputable def Kw (t:Adr):Sp:=fun vs H Q E=>∃ p row ws pl,vs=[.ref p]∧Se t H p row ws pl∧(0 ≤ row∧row ≤ 10000)∧(¬ pl < ws.length→Q .non H)∧(pl < ws.length→wk t row pl p H E)
section
variable {P:Program} {w:World} {K:PySem.W.Frag} {mg:Str→Option Value} {base:Heap} {t:Adr}
theorem MH (T:Txt w K mg t):Eb P w K mg base CX0 1 t.oe t.Te ["self","row","word"] (nC t):=by
 refine T.vm.ok ym (fun vs H Q E h=>?_) (fun cdv A outer s H vs Q E hr h=>?_)
 ·obtain ⟨x,i,j,rfl,_⟩:=h;rfl
 obtain ⟨x,i,j,rfl,hi,hj,hx,q⟩:=h
 refine ⟨_,(db (ac (Am rfl T.qf T.Kg (bb (pv 0) (bb (kj (Pf (wy (pv 1) (Pf (wy (pv 2) Mv)))) (by rw [sizeLine_eq];decide)) fb))))
   (db (Yl (pv 0) (pv 1) rfl)
   (gb (Wo (pv 0) (pv 2) rfl)))),?_⟩
 (walk_at "RD")
 refine ⟨hi,hj,fun y=>⟨_,_,hx,T.kh,?_⟩⟩
 refine ⟨_,hx,T.kh,T.Gm,fun dx hd hne=>?_⟩
 refine ⟨_,dx,by rw [lb (Ne.symm hne),cb],_,cb,T.kh,T.Sk,show 1 < 1000 by decide,?_⟩
 rw [ui,show rg (Str.ofString "word") (V.int j) ([(Str.ofString "row",V.int i)]:List (Str × V))=[(Str.ofString "row",V.int i),(Str.ofString "word",V.int j)] from Mc [Str.ofString "row"] rfl (by decide +kernel)]
 exact q dx hd hne
theorem ju (T:Txt w K mg t):Eb P w K mg base (CX1 P w) 3 t.gc t.Cc ["self"] (zp t):=by
 have G_NoText_init:Eb P w K mg base CX0 1 t.oe t.Te ["self","row","word"] (nC t):=MH T
 refine T.dh.okX Sl (fun vs H Q E h=>?_) (fun cdv A outer s H vs Q E hr h=>?_)
 ·obtain ⟨p,row,ws,pl,rfl,_⟩:=h;rfl
 obtain ⟨p,row,ws,pl,rfl,⟨hz,dx,ta,e1,e2⟩,hrow,hpl,q⟩:=h
 refine ⟨_,(gb (fk (Tj T.Hq G_NoText_init hr rfl T.ap T.Fm (bb (zc (pv 0) rfl) (bb (zc (pv 0) rfl) fb))) Ln)),?_⟩
 (walk_at "RD")
 refine ⟨_,qN T e1,_,Ro T e1,by decide,fun a ha=>⟨a,row,pl,rfl,zr (by omega),zr (by omega),cb,fun d hd hne=>?_⟩⟩
 have hd0:H d=none:=by rw [lb hne] at hd;exact hd
 refine ⟨rfl,t.zb,some d,by rw [lb (Ne.symm hne),cb],T.kh,q d _ (fun b u _ e=>?_) (fun nt=>(((nt.upd).upd).upd).upd) (by rw [lb hne,cb])⟩
 rw [lb (qb e ha),lb (qb e hd0),lb (qb e ha),lb (qb e ha)]
 exact e
theorem xu (T:Txt w K mg t):Eb P w K mg base (CX1 P w) 4 t.jc t.Fc ["self","good"] (ip t):=by
 have GX_RowReader_refuse:Eb P w K mg base (CX1 P w) 3 t.gc t.Cc ["self"] (zp t):=ju T
 refine T.gg.okX ki (fun vs H Q E h=>?_) (fun cdv A outer s H vs Q E hr h=>?_)
 ·obtain ⟨p,row,ws,pl,g,rfl,_⟩:=h;rfl
 obtain ⟨p,row,ws,pl,g,rfl,R,hrow,hpl,q1,q2⟩:=h
 obtain ⟨hz,dx,ta,e1,e2⟩:=id R
 refine ⟨_,(db (qe (pq (xh (pv 1))) (gb (ac (qd (pv 0) T.rb T.ae GX_RowReader_refuse hr T.ce .nil qc))) Zb)
   (gb (vw (pv 0) xb JH))),?_⟩
 (walk_at "RD")
 refine Vb (!g) (fun Q hQ=>?_) (fun c=>?_) (fun c=>?_)
 ·(walk_at "RD")
  exact hQ
 ·(walk_at "RD")
  have hg:g=false:=by simpa using c
  exact ⟨_,_,e1,Se.no _ _ _ (by decide +kernel),⟨p,row,ws,pl,rfl,R,hrow,hpl,q2 hg⟩⟩
 ·(walk_at "RD")
  have hg:g=true:=by simpa using c
  refine ⟨_,_,_,e1,T.rb,T.Zd,_,ic xw 2 (Qg ..) (by decide +kernel) rfl,_,rfl,_,_,e1,by rw [← List.length_map (f:=(·.1)),Qg];decide,?_⟩
  rw [MC]
  exact q1 hg _ Vc.put (fun n=>n.upd) ⟨hz,dx,ta,cb,by rw [lb (Bg e2 e1 (by intro z;cases z))];exact e2⟩
theorem Hv (T:Txt w K mg t):Eb P w K mg base (CX1 P w) 5 t.Qc t.Dd ["self","choices"] (Gp K t):=by
 have G_RowReader_ahead:Eb P w K mg base CX0 4 t.Sb t.Yb ["self"] (Ci t):=(ik T).mono (by decide)
 have GX_RowReader_take:Eb P w K mg base (CX1 P w) 4 t.jc t.Fc ["self","good"] (ip t):=xu T
 refine T.ph.okX Dg (fun vs H Q E h=>?_) (fun cdv A outer s H vs Q E hr h=>?_)
 ·obtain ⟨p,row,ws,pl,c,xs,rfl,_⟩:=h;rfl
 obtain ⟨p,row,ws,pl,c,xs,rfl,R,hrow,hpl,hc,q1,q2⟩:=h
 refine ⟨_,(db (kc (i:=2) Dg.nd rfl (Or.inl rfl) (qd (pv 0) T.rb T.bd G_RowReader_ahead hr T.gd .nil dc))
   (db (ac (md (pv 0) T.rb T.Ke GX_RowReader_take hr T.Ge .nil qc (bb (Oe iq (pv 2) (pv 1) (by with_unfolding_all rfl)) fb)))
   (gb (Db (pv 2))))),?_⟩
 obtain ⟨hz,dx,ta,e1,e2⟩:=id R
 (walk_at "RD")
 refine ⟨_,_,e1,Se.no _ _ _ (by decide +kernel),⟨p,row,ws,pl,rfl,R,hpl,?_⟩⟩
 (walk_at "RD")
 refine ⟨_,_,e1,Se.no _ _ _ (by decide +kernel),_,.inl hc,rfl,Et xs,?_⟩
 rw [Xy]
 refine ⟨p,row,ws,pl,_,rfl,R,hrow,by omega,fun g H' s1 s2 s3=>?_,fun g=>q2 (of_decide_eq_false g)⟩
 (walk_at "RD")
 exact q1 (of_decide_eq_true g) H' s1 s2 s3
theorem Uu (T:Txt w K mg t):Eb P w K mg base (CX1 P w) 5 t.Pb t.Tb ["self","low","high"] (bp t):=by
 have G_RowReader_ahead:Eb P w K mg base CX0 4 t.Sb t.Yb ["self"] (Ci t):=(ik T).mono (by decide)
 have GX_RowReader_take:Eb P w K mg base (CX1 P w) 4 t.jc t.Fc ["self","good"] (ip t):=xu T
 have G_figured:Eb P w K mg base CX0 4 t.Lj t.fj ["word","low","high"] rB:=(WH T).mono (by decide)
 refine T.Le.okX Jd (fun vs H Q E h=>?_) (fun cdv A outer s H vs Q E hr h=>?_)
 ·obtain ⟨p,row,ws,pl,lo,hi,rfl,_⟩:=h;rfl
 obtain ⟨p,row,ws,pl,lo,hi,rfl,R,hrow,hpl,nt,q1,q2⟩:=h
 refine ⟨_,(db (kc (i:=3) Jd.nd rfl (Or.inl rfl) (Jb G_figured hr rfl T.wv T.tm.kp T.ww .nil dc (bb (qd (pv 0) T.rb T.bd G_RowReader_ahead hr T.gd .nil dc) (bb (pv 1) (bb (pv 2) fb)))))
   (db (ac (md (pv 0) T.rb T.Ke GX_RowReader_take hr T.Ge .nil qc (bb (Oe nD (pv 3) dz (Lc _)) fb)))
   (gb (Db (pv 3))))),?_⟩
 obtain ⟨hz,dx,ta,e1,e2⟩:=id R
 (walk_at "RD")
 refine ⟨_,_,e1,Se.no _ _ _ (by decide +kernel),⟨p,row,ws,pl,rfl,R,hpl,?_⟩⟩
 (walk_at "RD")
 refine ⟨_,lo,hi,rfl,HH hz.2 pl,nt,?_⟩
 rcases kt (wd ws pl) lo hi with ⟨v,hv,_⟩ | hv
 ·rw [hv]
  (walk_at "RD")
  refine ⟨_,_,e1,Se.no _ _ _ (by decide +kernel),?_⟩
  refine ⟨p,row,ws,pl,_,rfl,R,hrow,by omega,fun g H' s1 s2 s3=>?_,fun g=>by cases g⟩
  (walk_at "RD")
  exact q1 v hv H' s1 s2 s3
 ·rw [hv]
  (walk_at "RD")
  refine ⟨_,_,e1,Se.no _ _ _ (by decide +kernel),?_⟩
  exact ⟨p,row,ws,pl,_,rfl,R,hrow,by omega,(fun g=>by cases g),fun g=>q2 hv⟩
theorem ZD (T:Txt w K mg t):Eb P w K mg base (CX1 P w) 4 t.Rc t.Bd ["self"] (Kw t):=by
 have G_RowReader_has_more:Eb P w K mg base CX0 3 t.Wc t.Id ["self"] (zB t):=(lJ T).mono (by decide)
 have GX_RowReader_refuse:Eb P w K mg base (CX1 P w) 3 t.gc t.Cc ["self"] (zp t):=ju T
 refine T.Rg.okX Ll (fun vs H Q E h=>?_) (fun cdv A outer s H vs Q E hr h=>?_)
 ·obtain ⟨p,row,ws,pl,rfl,_⟩:=h;rfl
 obtain ⟨p,row,ws,pl,rfl,R,hrow,q1,q2⟩:=h
 obtain ⟨hz,dx,ta,e1,e2⟩:=id R
 refine ⟨_,(gb (qe (xh (qd (pv 0) T.rb T.xk G_RowReader_has_more hr T.qk .nil dc)) (gb (ac (qd (pv 0) T.rb T.ae GX_RowReader_refuse hr T.ce .nil qc))) Zb)),?_⟩
 (walk_at "RD")
 refine Vb (decide (pl < ws.length)) (fun Q hQ=>?_) (fun c=>?_) (fun c=>?_)
 ·(walk_at "RD")
  refine ⟨_,_,e1,Se.no _ _ _ (by decide +kernel),⟨p,row,ws,pl,rfl,R,?_⟩⟩
  exact ⟨_,rfl,hQ⟩
 ·(walk_at "RD")
  have hl:=of_decide_eq_true c
  exact ⟨_,_,e1,Se.no _ _ _ (by decide +kernel),⟨p,row,ws,pl,rfl,R,hrow,by omega,q2 hl⟩⟩
 ·(walk_at "RD")
  exact q1 (of_decide_eq_false c)
end
end My
namespace My
open PySem L2
theorem Ec {α β:Type} {f:α→β} {l:List α} {i:Nat} {y:β} (h:(l.map f)[i]? = some y):∃ x,l[i]? = some x∧y=f x:=by
 rw [List.getElem?_map] at h
 cases e:l[i]? with
 | none=>rw [e] at h;cases h
 | some x=>rw [e] at h;exact ⟨x,rfl,(Option.some.inj h).symm⟩
noncomputable def mO (t:Adr) (H0 H:Hp) (p:Addr) (rows:List (List Str)):Prop:=∃ qs:List Addr,H p=some (.lst (qs.map V.ref))∧H0 p=none∧qs.length=rows.length∧∀ (i:Nat) (q:Addr) (r:List Str),qs[i]? = some q→rows[i]? = some r→Se t H q i r 0∧H0 q=none
noncomputable def Ft (t:Adr):Sp:=fun vs H Q _=>∃ x,vs=[.str x]∧x.length ≤ 20000∧(∀ r ∈ Ch x,r.length ≤ 1000∧∀ y ∈ r,y.length ≤ 1000)∧NoT H∧∀ p H',Xb H H'→NoT H'→mO t H H' p (Ch x)→Q (.ref p) H'
section
variable {P:Program} {w:World} {K:PySem.W.Frag} {mg:Str→Option Value} {base:Heap} {t:Adr}
theorem vz (T:Txt w K mg t):Eb P w K mg base CX0 3 t.Im t.Lm ["text"] (Ft t):=by
 have G_words:Eb P w K mg base CX0 2 t.Fu t.Mu ["text"] my:=(nG T).mono (by decide)
 have G_RowReader_init:Eb P w K mg base CX0 1 t.Td t.Je ["self","row","told"] (YH t):=fN T
 refine T.uq.ok Sz (fun vs H Q E h=>?_) (fun cdv A outer s H vs Q E hr h=>?_)
 ·obtain ⟨x,rfl,_⟩:=h;rfl
 obtain ⟨x,rfl,hz,hrow,nt,q⟩:=h
 refine ⟨_,(gb (Db (Ij rfl (jq rfl T.Jg (bb (Jb G_words hr rfl T.XJ T.Lx.kp T.sJ .nil dc (bb (pv 0) fb)) fb)) (Ud (sc:=jb vp) rfl (by decide +kernel)) (N:=["row","told"]) (sel:=[none,none]) (Ie (M:=["text"]) (by decide +kernel)) (Blk.of (fun _ _ _ _=>(xf (K:=K) (n:=2) rfl rfl (Ob (Bb (i:=0) (Ai (N:=["row","told"]) (by decide +kernel) rfl) rfl (Or.inl rfl) (.inr rfl)) (Ob (Bb (i:=1) (Ai (N:=["row","told"]) (by decide +kernel) rfl) rfl (Or.inl rfl) (.inr rfl)) lf)))) (fun _ _ _ _=>⟨_,Mh,by first | rfl | (dsimp only [Cx.block];done) | (dsimp only [Cx.block];exact rfl)⟩) (fun _ _ _ _=>⟨_,(Jn T.Yw G_RowReader_init hr rfl T.vx T.Mo .nil dc (bb (pv 0) (bb (pv 1) fb))),by first | rfl | (dsimp only [Cx.block];done) | (dsimp only [Cx.block];exact rfl)⟩))))),?_⟩
 (walk_at "RD")
 refine ⟨x,rfl,hz,nt,fun p H1 sm1 nt1 ⟨ps,hp,hp0,hpn,hpl,hpa⟩=>?_⟩
 (walk_at "RD")
 refine ⟨⟨_,SqL.of hp⟩,?_⟩
 have hlen:ps.length ≤ sizeLine:=by
  rw [hpl]
  unfold Ch
  rw [List.length_map]
  have:=rp (x:=x) (y:=nl) (by rw [dw];exact Nat.le_refl _)
  exact Nat.le_trans (show _ ≤ 40000 by omega) (by decide)
 refine Xd.enum (xs:=ps.map V.ref) (fun i ys H2=>Xb H1 H2∧NoT H2∧∃ qs:List Addr,ys=qs.map V.ref∧qs.length=i∧∀ (j:Nat) (q:Addr) (r:List Str),qs[j]? = some q→(Ch x)[j]? = some r→Se t H2 q j r 0∧H1 q=none)
  (by rw [List.length_map];exact hlen) ⟨Xb.refl H1,nt1,[],rfl,rfl,fun j q r h _=>by simp at h⟩ ?_ ?_ ?_
 ·rintro i ys H2 hi ⟨s2,n2,qs,rfl,hq,_⟩
  exact ⟨SqL.of (s2 _ _ hp),by rw [List.length_map];omega⟩
 ·rintro i v ys H2 p2 hv ⟨s2,n2,qs,rfl,hq,al⟩ hp2 N hN
  rw [List.getElem?_map] at hv
  cases hpi:ps[i]? with
  | none=>rw [hpi] at hv;cases hv
  | some pi=>
   rw [hpi] at hv
   have e:=(Option.some.inj hv).symm
   subst e
   refine tj ?_
   (walk_at "RD")
   refine ⟨Sub.name2,fun a dx ha hd hne=>?_⟩
   refine ⟨a,dx,pi,i,rfl,cb,rfl,?_⟩
   rw [ui]
   have s3:Xb H2 (upd (upd (upd H2 p2 (.tup [.int i,.ref pi])) dx (.own a)) a (.ins t.yb dx (rdF i pi 0))):=by
    have s':Xb H2 (upd H2 p2 (.tup [.int i,.ref pi])):=ib hp2
    exact ((Xb.trans s' (ib hd)).updN (s'.free ha))
   obtain ⟨r,hr⟩:∃ r,(Ch x)[i]? = some r:=⟨(Ch x)[i]'(by rw [← hpl];exact (List.getElem?_eq_some_iff.mp hpi).1),List.getElem?_eq_getElem _⟩
   have ha2:H2 a=none:=(ib hp2).free ha
   refine hN _ _ ⟨s2.trans s3,((n2.upd).upd).upd,qs ++ [a],by rw [List.map_append];rfl,by rw [List.length_append,hq];rfl,fun j q' r' h1 h2=>?_⟩
   by_cases hj:j < qs.length
   ·rw [List.getElem?_append_left hj] at h1
    obtain ⟨z1,z2⟩:=al j q' r' h1 h2
    exact ⟨z1.same s3,z2⟩
   ·rw [List.getElem?_append_right (by omega)] at h1
    have hj0:j - qs.length=0:=by
     cases hh:j - qs.length with
     | zero=>rfl
     | succ n=>rw [hh] at h1;simp at h1
    rw [hj0] at h1
    have e3:a=q':=by simpa using h1
    subst e3
    have e4:j=i:=by omega
    subst e4
    rw [hr] at h2
    cases h2
    refine ⟨⟨hrow r (List.mem_of_getElem? hr),dx,pi,cb,?_⟩,s2.free ha2⟩
    exact s3 _ _ (s2 _ _ (hpa j pi r hpi hr).1)
 ·rintro ys H2 ⟨s2,n2,qs,rfl,hq,al⟩ p2 hp2
  refine q p2 _ ((sm1.trans s2).updN ((sm1.trans s2).free hp2)) (n2.upd) ⟨qs,cb,(sm1.trans s2).free hp2,by rw [hq,List.length_map,hpl],fun i q' r h1 h2=>?_⟩
  obtain ⟨z1,z2⟩:=al i q' r h1 h2
  exact ⟨z1.same (ib hp2),sm1.free z2⟩
end
noncomputable def tP (q:Addr) (H:Hp) (R:Hp→Prop):Prop:=∀ H',Vc q H H'→NoT H'→R H'
noncomputable def Aj (t:Adr) (H:Hp) (wl:Addr) (ds:List WD):Prop:=∃ as:List Addr,H wl=some (.lst (as.map V.ref))∧as.length=ds.length∧∀ (i:Nat) (a:Addr) (d:WD),as[i]? = some a→ds[i]? = some d→de t H a d
noncomputable def qL (t:Adr):Sp:=fun vs H Q _=>∃ q row ws pl n st fi,vs=[.ref q,.int n,.int st]∧Se t H q row ws pl∧ws[pl]? = some (num fi)∧(0 ≤ st∧st < n)∧(0 ≤ fi∧fi < n)∧st ≠ fi∧n ≤ 99∧NoT H ∧
 ∀ H',Vc q H H'→NoT H'→Se t H' q row ws (pl + 1)→Q (.int fi) H'
noncomputable def fz (t:Adr):Sp:=fun vs H Q _=>∃ d:WD,vs=[.str (tf d.k),.str d.name,.int d.start,.int d.fin,.int d.off,.int d.near,.int d.least]∧d.k < 3∧∀ x H',Xb H H'→(NoT H→NoT H')→de t H' x d→H x=none→Q (.ref x) H'
theorem Aj.sameX {t:Adr} {H H':Hp} {q wl:Addr} {ds:List WD} {row:Int} {ws:List Str} {pl:Nat} (h:Aj t H wl ds) (s:Vc q H H') (r:Se t H q row ws pl):Aj t H' wl ds:=by
 obtain ⟨as,e1,e2,al⟩:=h
 obtain ⟨hz,dx,ta,e3,e4⟩:=r
 refine ⟨as,s _ _ (Bg e1 e3 (by intro z;cases z)) e1,e2,fun i a d h1 h2=>?_⟩
 obtain ⟨hk,dx',e5⟩:=al i a d h1 h2
 refine ⟨hk,dx',s _ _ (fun z=>?_) e5⟩
 subst z
 rw [e5] at e3
 have e6:=Option.some.inj e3
 injection e6 with _ _ e8
 have e9:(7:Nat)=3:=congrArg List.length e8
 omega
theorem Aj.same {t:Adr} {H H':Hp} {wl:Addr} {ds:List WD} (h:Aj t H wl ds) (s:Xb H H'):Aj t H' wl ds:=by
 obtain ⟨as,e1,e2,al⟩:=h
 exact ⟨as,s _ _ e1,e2,fun i a d h1 h2=>(al i a d h1 h2).same s⟩
section
variable {P:Program} {w:World} {K:PySem.W.Frag} {mg:Str→Option Value} {base:Heap} {t:Adr}
theorem gP (T:Txt w K mg t):Eb P w K mg base CX0 5 t.ei t.Ph ["reader","places","start"] (qL t):=by
 have G_RowReader_ahead:Eb P w K mg base CX0 4 t.Sb t.Yb ["self"] (Ci t):=(ik T).mono (by decide)
 have G_RowReader_figures:Eb P w K mg base CX0 4 t.Pb t.Tb ["self","low","high"] (UC t):=kK T
 refine T.Xj.ok yp (fun vs H Q E h=>?_) (fun cdv A outer s H vs Q E hr h=>?_)
 ·obtain ⟨q,row,ws,pl,n,st,fi,rfl,_⟩:=h;rfl
 obtain ⟨q,row,ws,pl,n,st,fi,rfl,R,hx,hst,hfi,hne,hn,nt,qq⟩:=h
 refine ⟨_,(db (qe (Pc ij (qd (pv 0) T.rb T.bd G_RowReader_ahead hr T.gd .nil dc) (Jm vj rfl T.WK vn (bb (pv 2) fb)) (Lc _)) (gb Zt) Zb)
   (gb (Db (md (pv 0) T.rb T.vc G_RowReader_figures hr T.lc .nil dc (bb xb (bb (Ic yk (pv 1) xb) fb)))))),?_⟩
 have hlt:pl < ws.length:=(List.getElem?_eq_some_iff.mp hx).1
 have hg:ws.getD pl (Str.ofString "")=num fi:=by rw [List.getD_eq_getElem?_getD,hx];rfl
 obtain ⟨hz,dx,ta,e1,e2⟩:=id R
 (walk_at "RD")
 refine Vb false (fun Q hQ=>?_) (fun hc=>nomatch hc) (fun _=>?_)
 ·(walk_at "RD")
  refine ⟨_,_,e1,Se.no _ _ _ (by decide +kernel),⟨q,row,ws,pl,rfl,R,by omega,?_⟩⟩
  rw [hg]
  (walk_at "RD")
  refine ⟨Qv (by omega),?_⟩
  rw [decide_eq_false (fun z=>hne (Ux (by omega) (by omega) (by omega) (by omega) z).symm)]
  exact hQ
 ·(walk_at "RD")
  refine ⟨_,_,e1,Se.no _ _ _ (by decide +kernel),⟨q,row,ws,pl,num fi,0,n - 1,fi,rfl,R,hx,TD (by omega) (by omega) (by omega) (by omega),nt,fun H1 s1 n1 R1=>?_⟩⟩
  exact qq H1 s1 (n1 nt) R1
theorem FM {t:Adr} {H:Hp} {x dx:Addr} {d:WD} (hx:H x=none) (hd:H dx=none) (hk:d.k < 3) :
  Xb H (upd (upd (upd H dx (.own x)) x (.ins (t.cw d.k) dx [])) x (.ins (t.cw d.k) dx (Ho d)))∧(NoT H→NoT (upd (upd (upd H dx (.own x)) x (.ins (t.cw d.k) dx [])) x (.ins (t.cw d.k) dx (Ho d)))) ∧
   de t (upd (upd (upd H dx (.own x)) x (.ins (t.cw d.k) dx [])) x (.ins (t.cw d.k) dx (Ho d))) x d:=
 ⟨(((Xb.refl H).updN hd).updN hx).updN hx,fun n=>((n.upd).upd).upd,hk,dx,cb⟩
theorem vF (T:Txt w K mg t):Eb P w K mg base CX0 4 t.gk t.jk ["sort","name","start","end","off","near","least"] (fz t):=by
 have G_CarWay_init:Eb P w K mg base CX0 2 t.Ye t.og ["self","name","start","end","off","near","least"] (nk t 0):=WJ T
 have G_FootWay_init:Eb P w K mg base CX0 2 t.Ee t.Bf ["self","name","start","end","off","near","least"] (nk t 1):=JF T
 have G_TramWay_init:Eb P w K mg base CX0 2 t.Fe t.Of ["self","name","start","end","off","near","least"] (nk t 2):=JG T
 refine T.wn.ok mx (fun vs H Q E h=>?_) (fun cdv A outer s H vs Q E hr h=>?_)
 ·obtain ⟨d,rfl,_⟩:=h;rfl
 obtain ⟨d,rfl,hk,q⟩:=h
 refine ⟨_,(db (qe (Pc ij (pv 0) Gd (Lc _)) (gb (Db (Jn T.lH G_CarWay_init hr rfl T.GF T.nu .nil dc (bb (pv 1) (bb (pv 2) (bb (pv 3) (bb (pv 4) (bb (pv 5) (bb (pv 6) fb))))))))) Zb)
   (db (qe (Pc ij (pv 0) Gd (Lc _)) (gb (Db (Jn T.ED G_FootWay_init hr rfl T.GC T.Tr .nil dc (bb (pv 1) (bb (pv 2) (bb (pv 3) (bb (pv 4) (bb (pv 5) (bb (pv 6) fb))))))))) Zb)
   (gb (Db (Jn T.YD G_TramWay_init hr rfl T.zD T.Es .nil dc (bb (pv 1) (bb (pv 2) (bb (pv 3) (bb (pv 4) (bb (pv 5) (bb (pv 6) fb))))))))))),?_⟩
 have fin:∀ (x dx:Addr),H x=none→H dx=none→Q (.ref x) (upd (upd (upd H dx (.own x)) x (.ins (t.cw d.k) dx [])) x (.ins (t.cw d.k) dx (Ho d))):=fun x dx hx hd=>by
  obtain ⟨m1,m2,m3⟩:=FM (t:=t) (d:=d) hx hd hk
  exact q x _ m1 m2 m3 hx
 obtain ⟨k,name,start,fi,off,near,least⟩:=d
 match k,hk with
 | 0,_=>
  (walk_at "RD"; repeat (simp only [tf];walk_at "RD"))
  refine Vb true (fun Q hQ=>?_) (fun _=>?_) (fun hc=>nomatch hc)
  ·(walk_at "RD")
   exact hQ
  ·(walk_at "RD")
   exact fun x dx hx hd hne=>⟨x,dx,⟨0,name,start,fi,off,near,least⟩,rfl,rfl,cb,rfl,fin x dx hx hd⟩
 | 1,_=>
  (walk_at "RD"; repeat (simp only [tf];walk_at "RD"))
  refine Vb false (fun Q hQ=>?_) (fun hc=>nomatch hc) (fun _=>?_)
  ·(walk_at "RD")
   rw [decide_eq_false (by decide +kernel)]
   exact hQ
  ·(walk_at "RD")
   refine Vb true (fun Q hQ=>?_) (fun _=>?_) (fun hc=>nomatch hc)
   ·(walk_at "RD")
    exact hQ
   ·(walk_at "RD")
    exact fun x dx hx hd hne=>⟨x,dx,⟨1,name,start,fi,off,near,least⟩,rfl,rfl,cb,rfl,fin x dx hx hd⟩
 | 2,_=>
  (walk_at "RD"; repeat (simp only [tf];walk_at "RD"))
  refine Vb false (fun Q hQ=>?_) (fun hc=>nomatch hc) (fun _=>?_)
  ·(walk_at "RD")
   rw [decide_eq_false (by decide +kernel)]
   exact hQ
  ·(walk_at "RD")
   refine Vb false (fun Q hQ=>?_) (fun hc=>nomatch hc) (fun _=>?_)
   ·(walk_at "RD")
    rw [decide_eq_false (by decide +kernel)]
    exact hQ
   ·(walk_at "RD")
    exact fun x dx hx hd hne=>⟨x,dx,⟨2,name,start,fi,off,near,least⟩,rfl,rfl,cb,rfl,fin x dx hx hd⟩
end
end My
namespace My
open PySem L2
noncomputable def Oc {α:Type} (m:Except Nat α) (ok:α→Prop) (er:Nat→Prop):Prop:=match m with | .ok a=>ok a | .error k=>er k
noncomputable def Wl (x:Str) (lo hi:Int):Option Int:=if okB x && !(decide (val x < lo) || decide (hi < val x)) then some (val x) else none
theorem dE (x:Str) (lo hi:Int):Oq x lo hi=(Wl x lo hi).elim .non .int:=by
 unfold Oq Wl
 split <;> rfl
theorem Tl {x:Str} {lo hi v:Int} (h:Oq x lo hi=.int v):Wl x lo hi=some v:=by
 rw [dE] at h
 cases e:Wl x lo hi with
 | none=>rw [e] at h;cases h
 | some u=>rw [e] at h;injection h with h;rw [h]
theorem ii {x:Str} {lo hi:Int} (h:Oq x lo hi=.non):Wl x lo hi=none:=by
 rw [dE] at h
 cases e:Wl x lo hi with
 | none=>rfl
 | some u=>rw [e] at h;cases h
theorem gr {ws:List Str} {k:Nat} {lo hi v:Int} (h:Oq (wd ws k) lo hi=.int v):k + 1 ≤ ws.length∧lo ≤ v∧v ≤ hi:=by
 rcases kt (wd ws k) lo hi with ⟨u,hu,h1,h2,h3⟩ | hn
 ·rw [hu] at h
  injection h with h
  subst h
  exact ⟨gG h3,h1,h2⟩
 ·rw [hn] at h;cases h
noncomputable def Oc2 {α:Type} (m:Except (Nat × Nat) α) (ok:α→Prop) (er:Nat→Nat→Prop):Prop:=match m with | .ok a=>ok a | .error e=>er e.1 e.2
theorem Kl {α:Type} {l:List α} {a x:α} {i:Nat} (h:(l ++ [a])[i]? = some x):(i < l.length∧l[i]? = some x)∨(i=l.length∧x=a):=by
 by_cases hi:i < l.length
 ·rw [List.getElem?_append_left hi] at h
  exact .inl ⟨hi,h⟩
 ·rw [List.getElem?_append_right (by omega)] at h
  have h0:i - l.length=0:=by
   cases hh:i - l.length with
   | zero=>rfl
   | succ m=>rw [hh] at h;simp at h
  rw [h0] at h
  exact .inr ⟨by omega,(by simpa using h:a=x).symm⟩
noncomputable def HN (t:Adr) (i k:Nat) (H:Hp) (E:XK):Prop:=∀ dx H',Xb H H'→NoT H'→H' dx=some (.ext (XD dx [(Str.ofString "row",.int i),(Str.ofString "word",.int k)]))→E (.ref t.zb) (some dx) H'
noncomputable def Aq (ws:List Str) (n:Int):Except Nat Int:=if 2 < ws.length then .error 2 else .ok n
noncomputable def Eu (ws:List Str):Except Nat Int:=if wd ws 0 ∈ [Str.ofString "ring"] then (Wl (wd ws 1) 2 99).elim (.error 1) (Aq ws) else .error 0
noncomputable def yw (x:Str):Option Nat:=if x=Str.ofString "car" then some 0 else if x=Str.ofString "foot" then some 1 else if x=Str.ofString "tram" then some 2 else none
theorem uz {x:Str} (h:x ∈ [Str.ofString "car",Str.ofString "foot",Str.ofString "tram"]):∃ k,k < 3∧yw x=some k∧x=tf k∧x ≠ Str.ofString "" := by
 simp only [List.mem_cons,List.not_mem_nil,or_false] at h
 rcases h with rfl | rfl | rfl
 ·exact ⟨0,by decide,by decide +kernel,rfl,by decide +kernel⟩
 ·exact ⟨1,by decide,by decide +kernel,rfl,by decide +kernel⟩
 ·exact ⟨2,by decide,by decide +kernel,rfl,by decide +kernel⟩
theorem Kz {x:Str} (h:x ∉ [Str.ofString "car",Str.ofString "foot",Str.ofString "tram"]):yw x=none:=by
 simp only [List.mem_cons,List.not_mem_nil,or_false,not_or] at h
 unfold yw
 rw [if_neg h.1,if_neg h.2.1,if_neg h.2.2]
noncomputable def au (ws:List Str) (d:WD):Except Nat WD:=if 7 < ws.length then .error 7 else .ok d
noncomputable def Tp (ws:List Str) (k:Nat) (x:Str) (st fi off near:Int):Except Nat WD:=(Wl (wd ws 6) 1 60).elim (.error 6) fun l=>au ws ⟨k,x,st,fi,off,near,l⟩
noncomputable def Pq (ws:List Str) (k:Nat) (x:Str) (st fi off:Int):Except Nat WD:=(Wl (wd ws 5) 0 30).elim (.error 5) fun v=>Tp ws k x st fi off v
noncomputable def Zp (ws:List Str) (k:Nat) (x:Str) (st fi:Int):Except Nat WD:=(Wl (wd ws 4) 0 30).elim (.error 4) fun v=>Pq ws k x st fi v
noncomputable def up (n:Int) (ws:List Str) (k:Nat) (x:Str) (st:Int):Except Nat WD:=if wd ws 3=num st then .error 3 else (Wl (wd ws 3) 0 (n - 1)).elim (.error 3) fun v=>Zp ws k x st v
noncomputable def lw (n:Int) (ws:List Str) (k:Nat) (x:Str):Except Nat WD:=(Wl (wd ws 2) 0 (n - 1)).elim (.error 2) fun v=>up n ws k x v
noncomputable def ir (n:Int) (names:List Str) (ws:List Str) (k:Nat):Except Nat WD:=if made (wd ws 1) Yc 8=true∧wd ws 1 ∉ names then lw n ws k (wd ws 1) else .error 1
noncomputable def Rx (n:Int) (names:List Str) (ws:List Str):Except Nat WD:=(yw (wd ws 0)).elim (.error 0) fun k=>ir n names ws k
noncomputable def Jy (t:Adr):Sp:=fun vs H Q E=>∃ q row ws,vs=[.ref q]∧Se t H q row ws 0∧(0 ≤ row∧row ≤ 10000)∧NoT H∧Oc (Eu ws) (fun n=>tP q H (Q (.int n))) (fun k=>wk t row k q H E)
noncomputable def nq (t:Adr):Sp:=fun vs H Q E=>∃ q row ws pl wl ds,vs=[.ref q,.ref wl]∧Se t H q row ws pl∧(0 ≤ row∧row ≤ 10000)∧pl ≤ ws.length∧Aj t H wl ds∧ds.length ≤ 12∧NoT H ∧
 (made (wd ws pl) Yc 8=true∧wd ws pl ∉ ds.map (·.name)→∀ H',Vc q H H'→NoT H'→Se t H' q row ws (pl + 1)→Q (.str (wd ws pl)) H')∧(¬ (made (wd ws pl) Yc 8=true∧wd ws pl ∉ ds.map (·.name))→wk t row pl q H E)
noncomputable def tE (t:Adr):Sp:=fun vs H Q E=>∃ q row ws pl n st,vs=[.ref q,.int n,.int st]∧Se t H q row ws pl∧(0 ≤ row∧row ≤ 10000)∧pl ≤ ws.length∧(0 ≤ st∧st < n)∧n ≤ 99∧NoT H ∧
 (wd ws pl=num st→wk t row pl q H E)∧(¬ wd ws pl=num st→(∀ v,Oq (wd ws pl) 0 (n - 1)=.int v→∀ H',Vc q H H'→NoT H'→Se t H' q row ws (pl + 1)→Q (.int v) H')∧(Oq (wd ws pl) 0 (n - 1)=.non→wk t row pl q H E))
noncomputable def wC (t:Adr):Sp:=fun vs H Q E=>∃ q row n wl ds ws,vs=[.ref q,.int n,.ref wl]∧Se t H q row ws 0∧(0 ≤ row∧row ≤ 10000)∧(2 ≤ n∧n ≤ 99)∧Aj t H wl ds∧ds.length ≤ 12∧NoT H ∧
 Oc (Rx n (ds.map (·.name)) ws) (fun d=>∀ x H',Vc q H H'→NoT H'→de t H' x d→H x=none→Q (.ref x) H') (fun k=>wk t row k q H E)
section
variable {P:Program} {w:World} {K:PySem.W.Frag} {mg:Str→Option Value} {base:Heap} {t:Adr}
theorem vG (T:Txt w K mg t):Eb P w K mg base (CX1 P w) 6 t.Ni t.vi ["reader"] (Jy t):=by
 have GX_RowReader_one_of:Eb P w K mg base (CX1 P w) 5 t.Qc t.Dd ["self","choices"] (Gp K t):=Hv T
 have GX_RowReader_figures:Eb P w K mg base (CX1 P w) 5 t.Pb t.Tb ["self","low","high"] (bp t):=Uu T
 have GX_RowReader_finish:Eb P w K mg base (CX1 P w) 5 t.Rc t.Bd ["self"] (Kw t):=(ZD T).mono (by decide)
 refine T.Ql.okX On (fun vs H Q E h=>?_) (fun cdv A outer s H vs Q E hr h=>?_)
 ·obtain ⟨q,row,ws,rfl,_⟩:=h;rfl
 obtain ⟨q,row,ws,rfl,R,hrow,nt,qq⟩:=h
 refine ⟨_,(db (ac (md (pv 0) T.rb T.fh GX_RowReader_one_of hr T.Vg .nil qc (bb (Og (bb Gd fb)) fb)))
   (db (kc (i:=1) On.nd rfl (Or.inl rfl) (md (pv 0) T.rb T.vc GX_RowReader_figures hr T.lc .nil qc (bb (kd rfl T.Fs T.Vs) (bb (kd rfl T.eu T.Du) fb))))
   (db (ac (qd (pv 0) T.rb T.oh GX_RowReader_finish hr T.Dh .nil qc))
   (gb (Db (pv 1)))))),?_⟩
 obtain ⟨_,dx,ta,e1,e2⟩:=id R
 (walk_at "RD")
 refine ⟨_,_,e1,Se.no _ _ _ (by decide +kernel),by decide,fun p hp=>?_⟩
 have s0:Xb H (upd H p (.lst [V.str (Str.ofString "ring")])):=ib hp
 refine ⟨q,row,ws,0,p,[Str.ofString "ring"],rfl,R.same s0,hrow,Nat.zero_le _,SqL.of cb,fun hin=>fun H1 s1 n1 R1=>?_,fun hnin=>?_⟩
 ·obtain ⟨_,dx1,ta1,f1,f2⟩:=id R1
  have nt1:=n1 nt.upd
  have x1:Vc q H H1:=(Vc.of s0).trans s1
  have l1:1 ≤ ws.length:=gG (k:=0) (by rw [List.mem_singleton.mp hin];decide +kernel)
  unfold Eu at qq
  rw [if_pos hin] at qq
  (walk_at "RD")
  refine ⟨_,_,f1,Se.no _ _ _ (by decide +kernel),⟨q,row,ws,1,2,99,rfl,R1,hrow,l1,nt1,fun v hv=>fun H2 s2 n2 R2=>?_,fun hv=>?_⟩⟩
  ·obtain ⟨_,dx2,ta2,g1,g2⟩:=id R2
   rw [Tl hv] at qq
   have qq:Oc (Aq ws v) (fun n=>tP q H (Q (.int n))) (fun k=>wk t row k q H E):=qq
   unfold Aq at qq
   (walk_at "RD")
   refine ⟨_,_,g1,Se.no _ _ _ (by decide +kernel),⟨q,row,ws,2,rfl,R2,hrow,fun hl=>?_,fun hl=>?_⟩⟩
   ·rw [if_neg hl] at qq
    (walk_at "RD")
    exact qq H2 (x1.trans s2) (n2 nt1)
   ·rw [if_pos hl] at qq
    exact (show wk t row 2 q H E from qq).step (x1.trans s2) fun _=>n2 nt1
  ·rw [ii hv] at qq
   exact (show wk t row 1 q H E from qq).step x1 fun _=>nt1
 ·unfold Eu at qq
  rw [if_neg hnin] at qq
  exact (show wk t row 0 q H E from qq).step (Vc.of s0) fun n=>n.upd
theorem Ex (T:Txt w K mg t):Eb P w K mg base (CX1 P w) 5 t.df t.bf ["reader","ways"] (nq t):=by
 have G_RowReader_ahead:Eb P w K mg base CX0 4 t.Sb t.Yb ["self"] (Ci t):=(ik T).mono (by decide)
 have GX_RowReader_take:Eb P w K mg base (CX1 P w) 4 t.jc t.Fc ["self","good"] (ip t):=xu T
 have G_is_name:Eb P w K mg base CX0 4 t.Qm t.jm ["word"] QD:=(yK T).mono (by decide)
 refine T.Ng.okX Pi (fun vs H Q E h=>?_) (fun cdv A outer s H vs Q E hr h=>?_)
 ·obtain ⟨q,row,ws,pl,wl,ds,rfl,_⟩:=h;rfl
 obtain ⟨q,row,ws,pl,wl,ds,rfl,R,hrow,hpl,hW,hdl,nt,q1,q2⟩:=h
 refine ⟨_,(db (kc (i:=2) Pi.nd rfl (Or.inl rfl) (qd (pv 0) T.rb T.bd G_RowReader_ahead hr T.gd .nil dc))
   (db (ac (md (pv 0) T.rb T.Ke GX_RowReader_take hr T.Ge .nil qc (bb (Py (Jb G_is_name hr rfl T.TC T.Yp.kp T.VB .nil dc (bb (pv 2) fb)) (yv (Oe Av (pv 2) (Ij rfl (Me (pv 1)) (Ud (sc:=jb Cg) rfl (by decide +kernel)) (N:=["way"]) (sel:=[none]) (Ie (M:=["reader","ways","name"]) (by decide +kernel)) (Blk.of (fun _ _ _ _=>(Bb (i:=0) (Ai (N:=["way"]) (by decide +kernel) rfl) rfl (Or.inl rfl))) (fun _ _ _ _=>⟨_,Mh,by first | rfl | (dsimp only [Cx.block];done) | (dsimp only [Cx.block];exact rfl)⟩) (fun _ _ _ _=>⟨_,(zc (pv 0) rfl),by first | rfl | (dsimp only [Cx.block];done) | (dsimp only [Cx.block];exact rfl)⟩))) (by with_unfolding_all rfl)))) fb)))
   (gb (Db (pv 2))))),?_⟩
 obtain ⟨hz,dx,ta,e1,e2⟩:=id R
 (walk_at "RD")
 refine ⟨_,_,e1,Se.no _ _ _ (by decide +kernel),⟨q,row,ws,pl,rfl,R,hpl,?_⟩⟩
 (walk_at "RD")
 refine ⟨_,_,e1,Se.no _ _ _ (by decide +kernel),?_⟩
 refine ⟨_,rfl,HH hz.2 pl,nt,?_⟩
 cases hm:made (wd ws pl) Yc 8 with
 | false=>
  (walk_at "RD")
  refine ⟨q,row,ws,pl,_,rfl,R,hrow,by omega,(fun g=>by cases g),fun _=>q2 (fun z=>by rw [hm] at z;cases z.1)⟩
 | true=>
  (walk_at "RD")
  obtain ⟨as,w1,w2,al⟩:=hW
  refine ⟨⟨_,SqL.of w1⟩,?_⟩
  have hle:(as.map V.ref).length ≤ sizeLine:=by rw [List.length_map,w2];exact Nat.le_trans hdl (by decide)
  refine Xd.list_zs (xs:=as.map V.ref) (zs:=bc (ds.map (·.name))) (SqL.of w1) hle (by rw [Bj,List.length_map,List.length_map,w2]) (fun i v z N hv hz' hN=>?_) (fun p hp=>?_)
  ·obtain ⟨a,ha,rfl⟩:=Ec hv
   obtain ⟨y,hy,rfl⟩:=Ec hz'
   obtain ⟨d,hd,rfl⟩:=Ec hy
   (walk_at "RD")
   exact ⟨Sub.name,_,(al i a d ha hd).f_name T,hN⟩
  ·(walk_at "RD")
   refine ⟨_,.inl (SqL.of cb),rfl,Et _,?_⟩
   rw [Xy]
   have s0:Xb H (upd H p (.lst (bc (ds.map (·.name))))):=ib hp
   refine ⟨q,row,ws,pl,_,rfl,R.same s0,hrow,by omega,fun g H' s1 n1 R1=>?_,fun g=>?_⟩
   ·(walk_at "RD")
    exact q1 ⟨hm,of_decide_eq_false (by simpa using g)⟩ H' ((Vc.of s0).trans s1) (n1 nt.upd) R1
   ·exact (q2 fun z=>z.2 (of_decide_eq_true (by simpa using g))).step (Vc.of s0) fun n=>n.upd
theorem tK (T:Txt w K mg t):Eb P w K mg base (CX1 P w) 6 t.ei t.Ph ["reader","places","start"] (tE t):=by
 have G_RowReader_ahead:Eb P w K mg base CX0 5 t.Sb t.Yb ["self"] (Ci t):=(ik T).mono (by decide)
 have GX_RowReader_figures:Eb P w K mg base (CX1 P w) 5 t.Pb t.Tb ["self","low","high"] (bp t):=Uu T
 have GX_RowReader_refuse:Eb P w K mg base (CX1 P w) 5 t.gc t.Cc ["self"] (zp t):=(ju T).mono (by decide)
 refine T.Xj.okX yp (fun vs H Q E h=>?_) (fun cdv A outer s H vs Q E hr h=>?_)
 ·obtain ⟨q,row,ws,pl,n,st,rfl,_⟩:=h;rfl
 obtain ⟨q,row,ws,pl,n,st,rfl,R,hrow,hpl,hst,hn,nt,q1,q2⟩:=h
 refine ⟨_,(db (qe (Pc ij (qd (pv 0) T.rb T.bd G_RowReader_ahead hr T.gd .nil dc) (Jm vj rfl T.WK vn (bb (pv 2) fb)) (Lc _)) (gb (ac (qd (pv 0) T.rb T.ae GX_RowReader_refuse hr T.ce .nil qc))) Zb)
   (gb (Db (md (pv 0) T.rb T.vc GX_RowReader_figures hr T.lc .nil qc (bb xb (bb (Ic yk (pv 1) xb) fb)))))),?_⟩
 obtain ⟨hz,dx,ta,e1,e2⟩:=id R
 (walk_at "RD")
 refine Vb (decide (wd ws pl=num st)) (fun Q hQ=>?_) (fun c=>?_) (fun c=>?_)
 ·(walk_at "RD")
  refine ⟨_,_,e1,Se.no _ _ _ (by decide +kernel),⟨q,row,ws,pl,rfl,R,hpl,?_⟩⟩
  (walk_at "RD")
  exact ⟨Qv (by omega),hQ⟩
 ·(walk_at "RD")
  exact ⟨_,_,e1,Se.no _ _ _ (by decide +kernel),⟨q,row,ws,pl,rfl,R,hrow,by omega,q1 (of_decide_eq_true c)⟩⟩
 ·(walk_at "RD")
  obtain ⟨k1,k2⟩:=q2 (of_decide_eq_false c)
  exact ⟨_,_,e1,Se.no _ _ _ (by decide +kernel),⟨q,row,ws,pl,0,n - 1,rfl,R,hrow,hpl,nt,fun v hv H1 s1 n1 R1=>k1 v hv H1 s1 (n1 nt) R1,k2⟩⟩
end
end My
namespace My
open PySem L2
section
variable {P:Program} {w:World} {K:PySem.W.Frag} {mg:Str→Option Value} {base:Heap} {t:Adr}
theorem bK (T:Txt w K mg t):Eb P w K mg base (CX1 P w) 7 t.pk t.Zj ["reader","places","ways"] (wC t):=by
 have GX_RowReader_one_of:Eb P w K mg base (CX1 P w) 6 t.Qc t.Dd ["self","choices"] (Gp K t):=(Hv T).mono (by decide)
 have GX_RowReader_figures:Eb P w K mg base (CX1 P w) 6 t.Pb t.Tb ["self","low","high"] (bp t):=(Uu T).mono (by decide)
 have GX_RowReader_finish:Eb P w K mg base (CX1 P w) 6 t.Rc t.Bd ["self"] (Kw t):=(ZD T).mono (by decide)
 have GX_read_new_name:Eb P w K mg base (CX1 P w) 6 t.df t.bf ["reader","ways"] (nq t):=(Ex T).mono (by decide)
 have GX_read_end:Eb P w K mg base (CX1 P w) 6 t.ei t.Ph ["reader","places","start"] (tE t):=tK T
 have G_made_way:Eb P w K mg base CX0 6 t.gk t.jk ["sort","name","start","end","off","near","least"] (fz t):=(vF T).mono (by decide)
 refine T.Kn.okX me (fun vs H Q E h=>?_) (fun cdv A outer s H vs Q E hr h=>?_)
 ·obtain ⟨q,row,n,wl,ds,ws,rfl,_⟩:=h;rfl
 obtain ⟨q,row,n,wl,ds,ws,rfl,R,hrow,hn,hW,hdl,nt,qq⟩:=h
 refine ⟨_,(db (kc (i:=3) me.nd rfl (Or.inl rfl) (md (pv 0) T.rb T.fh GX_RowReader_one_of hr T.Vg .nil qc (bb (Og (bb Gd (bb Gd (bb Gd fb)))) fb)))
   (db (kc (i:=4) me.nd rfl (Or.inl rfl) (Jb GX_read_new_name hr rfl T.wq T.Ng.kp T.Kq .nil qc (bb (pv 0) (bb (pv 2) fb))))
   (db (kc (i:=5) me.nd rfl (Or.inl rfl) (md (pv 0) T.rb T.vc GX_RowReader_figures hr T.lc .nil qc (bb xb (bb (Ic yk (pv 1) xb) fb))))
   (db (kc (i:=6) me.nd rfl (Or.inl rfl) (Jb GX_read_end hr rfl T.DA T.Xj.kp T.Yz .nil qc (bb (pv 0) (bb (pv 1) (bb (pv 5) fb)))))
   (db (kc (i:=7) me.nd rfl (Or.inl rfl) (md (pv 0) T.rb T.vc GX_RowReader_figures hr T.lc .nil qc (bb xb (bb (kd rfl T.Dz T.fA) fb))))
   (db (kc (i:=8) me.nd rfl (Or.inl rfl) (md (pv 0) T.rb T.vc GX_RowReader_figures hr T.lc .nil qc (bb xb (bb (kd rfl T.Tw T.Sw) fb))))
   (db (kc (i:=9) me.nd rfl (Or.inl rfl) (md (pv 0) T.rb T.vc GX_RowReader_figures hr T.lc .nil qc (bb xb (bb (kd rfl T.zv T.Bw) fb))))
   (db (ac (qd (pv 0) T.rb T.oh GX_RowReader_finish hr T.Dh .nil qc))
   (gb (Db (Jb G_made_way hr rfl T.Xz T.wn.kp T.Iz .nil dc (bb (pv 3) (bb (pv 4) (bb (pv 5) (bb (pv 6) (bb (pv 7) (bb (pv 8) (bb (pv 9) fb)))))))))))))))))),?_⟩
 generalize hok:(fun d:WD=>∀ x H',Vc q H H'→NoT H'→de t H' x d→H x=none→Q (.ref x) H')=okk at qq
 obtain ⟨_,dx,ta,e1,e2⟩:=id R
 unfold Rx at qq
 (walk_at "RD")
 refine ⟨_,_,e1,Se.no _ _ _ (by decide +kernel),by decide,fun p hp=>?_⟩
 have s0:Xb H (upd H p (.lst [V.str (Str.ofString "car"),V.str (Str.ofString "foot"),V.str (Str.ofString "tram")])):=ib hp
 refine ⟨q,row,ws,0,p,[Str.ofString "car",Str.ofString "foot",Str.ofString "tram"],rfl,R.same s0,hrow,Nat.zero_le _,SqL.of cb,fun hin=>fun H1 s1 n1 R1=>?_,fun hnin=>?_⟩
 case refine_2=>
  rw [Kz hnin] at qq
  exact (show wk t row 0 q H E from qq).step (Vc.of s0) fun n=>n.upd
 obtain ⟨k,hk3,hk,hks,hk0⟩:=uz hin
 rw [hk] at qq
 replace qq:Oc (ir n (ds.map (·.name)) ws k) okk (fun k=>wk t row k q H E):=qq
 unfold ir at qq
 have x1:Vc q H H1:=(Vc.of s0).trans s1
 have m1:=n1 nt.upd
 have l1:1 ≤ ws.length:=gG hk0
 (walk_at "RD")
 refine ⟨q,row,ws,1,wl,ds,rfl,R1,hrow,l1,hW.sameX x1 R,hdl,m1,fun hc=>fun H2 s2 m2 R2=>?_,fun hc=>?_⟩
 case refine_2=>
  rw [if_neg hc] at qq
  exact (show wk t row 1 q H E from qq).step x1 fun _=>m1
 rw [if_pos hc] at qq
 unfold lw at qq
 obtain ⟨_,dx2,ta2,f2,g2⟩:=id R2
 have x2:=x1.trans s2
 have l2:2 ≤ ws.length:=gG (fun z=>by
  have:=(Pe hc.1).1.1
  rw [z] at this
  exact absurd this (by decide +kernel))
 (walk_at "RD")
 refine ⟨_,_,f2,Se.no _ _ _ (by decide +kernel),⟨q,row,ws,2,0,n - 1,rfl,R2,hrow,l2,m2,fun st hst=>fun H3 s3 n3 R3=>?_,fun hno=>?_⟩⟩
 case refine_2=>
  rw [ii hno] at qq
  exact (show wk t row 2 q H E from qq).step x2 fun _=>m2
 rw [Tl hst] at qq
 replace qq:Oc (up n ws k (wd ws 1) st) okk (fun k=>wk t row k q H E):=qq
 unfold up at qq
 have x3:=x2.trans s3
 have m3:=n3 m2
 obtain ⟨l3,a3,b3⟩:=gr hst
 (walk_at "RD")
 refine ⟨q,row,ws,3,n,st,rfl,R3,hrow,l3,⟨a3,by omega⟩,hn.2,m3,fun he=>?_,fun he=>⟨fun fi hfi H4 s4 m4 R4=>?_,fun hno=>?_⟩⟩
 ·rw [if_pos he] at qq
  exact (show wk t row 3 q H E from qq).step x3 fun _=>m3
 case refine_3=>
  rw [if_neg he,ii hno] at qq
  exact (show wk t row 3 q H E from qq).step x3 fun _=>m3
 rw [if_neg he,Tl hfi] at qq
 replace qq:Oc (Zp ws k (wd ws 1) st fi) okk (fun k=>wk t row k q H E):=qq
 unfold Zp at qq
 obtain ⟨_,dx4,ta4,f4,g4⟩:=id R4
 have x4:=x3.trans s4
 obtain ⟨l4,a4,b4⟩:=gr hfi
 (walk_at "RD")
 refine ⟨_,_,f4,Se.no _ _ _ (by decide +kernel),⟨q,row,ws,4,0,30,rfl,R4,hrow,l4,m4,fun off hoff=>fun H5 s5 n5 R5=>?_,fun hno=>?_⟩⟩
 case refine_2=>
  rw [ii hno] at qq
  exact (show wk t row 4 q H E from qq).step x4 fun _=>m4
 rw [Tl hoff] at qq
 replace qq:Oc (Pq ws k (wd ws 1) st fi off) okk (fun k=>wk t row k q H E):=qq
 unfold Pq at qq
 obtain ⟨_,dx5,ta5,f5,g5⟩:=id R5
 have x5:=x4.trans s5
 have m5:=n5 m4
 obtain ⟨l5,a5,b5⟩:=gr hoff
 (walk_at "RD")
 refine ⟨_,_,f5,Se.no _ _ _ (by decide +kernel),⟨q,row,ws,5,0,30,rfl,R5,hrow,l5,m5,fun near hnear=>fun H6 s6 n6 R6=>?_,fun hno=>?_⟩⟩
 case refine_2=>
  rw [ii hno] at qq
  exact (show wk t row 5 q H E from qq).step x5 fun _=>m5
 rw [Tl hnear] at qq
 replace qq:Oc (Tp ws k (wd ws 1) st fi off near) okk (fun k=>wk t row k q H E):=qq
 unfold Tp at qq
 obtain ⟨_,dx6,ta6,f6,g6⟩:=id R6
 have x6:=x5.trans s6
 have m6:=n6 m5
 obtain ⟨l6,a6,b6⟩:=gr hnear
 (walk_at "RD")
 refine ⟨_,_,f6,Se.no _ _ _ (by decide +kernel),⟨q,row,ws,6,1,60,rfl,R6,hrow,l6,m6,fun least hleast=>fun H7 s7 n7 R7=>?_,fun hno=>?_⟩⟩
 case refine_2=>
  rw [ii hno] at qq
  exact (show wk t row 6 q H E from qq).step x6 fun _=>m6
 rw [Tl hleast] at qq
 replace qq:Oc (au ws ⟨k,wd ws 1,st,fi,off,near,least⟩) okk (fun k=>wk t row k q H E):=qq
 unfold au at qq
 obtain ⟨_,dx7,ta7,f7,g7⟩:=id R7
 have x7:=x6.trans s7
 have m7:=n7 m6
 (walk_at "RD")
 refine ⟨_,_,f7,Se.no _ _ _ (by decide +kernel),⟨q,row,ws,7,rfl,R7,hrow,fun hl=>?_,fun hl=>?_⟩⟩
 case refine_2=>
  rw [if_pos hl] at qq
  exact (show wk t row 7 q H E from qq).step x7 fun _=>m7
 rw [if_neg hl] at qq
 replace qq:okk ⟨k,wd ws 1,st,fi,off,near,least⟩:=qq
 subst hok
 rw [hks]
 (walk_at "RD")
 refine ⟨⟨k,wd ws 1,st,fi,off,near,least⟩,rfl,hk3,fun x H8 s8 n8 w8 hx8=>?_⟩
 refine qq x H8 (x7.trans (Vc.of s8)) (n8 m7) w8 ?_
 cases hH:H x with
 | none=>rfl
 | some u=>
  by_cases hxq:x=q
  ·subst hxq;rw [f7] at hx8;cases hx8
  ·rw [x7 x u hxq hH] at hx8;cases hx8
end
end My
namespace My
open PySem L2
noncomputable abbrev HA:List Str:=[Str.ofString "places",Str.ofString "ways",Str.ofString "numbers"]
noncomputable def cF (n:Int) (wl nd:Addr):List (Str × V):=[(Str.ofString "places",.int n),(Str.ofString "ways",.ref wl),(Str.ofString "numbers",.ref nd)]
theorem Hu (n:Int) (wl nd:Addr):(cF n wl nd).map (·.1)=HA:=rfl
noncomputable def nm (ds:List WD) (i:Nat):Str:=((ds[i]?).map (·.name)).getD (Str.ofString "")
noncomputable def Fw (ds:List WD) (i:Nat):List (Key × V):=(List.range i).map fun j=>(Sum.inr (nm ds j),V.int j)
theorem Sv {ds:List WD} {i:Nat} {d:WD} (h:ds[i]? = some d):nm ds i=d.name:=by unfold nm;rw [h];rfl
theorem WC {ds:List WD} (h:(ds.map (·.name)).Nodup) {i j:Nat} (hi:i < ds.length) (hj:j < ds.length) (e:nm ds i=nm ds j):i=j:=by
 rw [Sv (List.getElem?_eq_getElem hi),Sv (List.getElem?_eq_getElem hj)] at e
 have:=(List.getElem_inj (xs:=ds.map (·.name)) (i:=i) (j:=j) (h₀:=by rw [List.length_map];exact hi) (h₁:=by rw [List.length_map];exact hj) h).mp (by rw [List.getElem_map,List.getElem_map];exact e)
 exact this
theorem ly {ds:List WD} (h:(ds.map (·.name)).Nodup) {i:Nat}:∀ {n:Nat},i < n→n ≤ ds.length→Vl (Fw ds n) (Sum.inr (nm ds i))=some (.int i):=by
 intro n
 induction n with
 | zero=>intro hi _;omega
 | succ n ih=>
  intro hi hn
  unfold Fw Vl
  rw [List.range_succ,List.map_append,List.find?_append]
  by_cases c:i < n
  ·have:=ih c (by omega)
   unfold Fw Vl at this
   cases e:List.find? (fun kv=>decide (kv.fst=Sum.inr (nm ds i))) (List.map (fun j=>((Sum.inr (nm ds j):Key),V.int j)) (List.range n)) with
   | none=>rw [e] at this;cases this
   | some p=>rw [e] at this;exact this
  ·have e:i=n:=by omega
   subst e
   have no:List.find? (fun kv=>decide (kv.fst=Sum.inr (nm ds i))) (List.map (fun j=>((Sum.inr (nm ds j):Key),V.int j)) (List.range i))=none:=by
    rw [List.find?_eq_none]
    intro p hp
    obtain ⟨j,hj,rfl⟩:=List.mem_map.mp hp
    have hj':=List.mem_range.mp hj
    simp only [decide_eq_true_eq]
    intro z
    have:=WC h (by omega) (by omega) (Sum.inr.inj z)
    omega
   rw [no]
   simp
theorem IJ {ds:List WD} {x:Str} (h:∀ d ∈ ds,d.name ≠ x):∀ {n:Nat},n ≤ ds.length→Vl (Fw ds n) (Sum.inr x)=none:=by
 intro n hn
 unfold Vl Fw
 rw [List.find?_eq_none.mpr]
 ·rfl
 intro p hp
 obtain ⟨j,hj,rfl⟩:=List.mem_map.mp hp
 have hj':=List.mem_range.mp hj
 simp only [decide_eq_true_eq]
 intro z
 have hjl:j < ds.length:=by omega
 have e:=Sum.inr.inj z
 rw [Sv (List.getElem?_eq_getElem hjl)] at e
 exact h _ (List.getElem_mem hjl) e
theorem DG {ds:List WD} (h:(ds.map (·.name)).Nodup) {n:Nat} (hn:n < ds.length):Xu (Fw ds n) (Sum.inr (nm ds n)) (.int n)=Fw ds (n + 1):=by
 unfold Xu
 have no:((Fw ds n).any fun kv=>decide (kv.1=Sum.inr (nm ds n)))=false:=by
  rw [List.any_eq_false]
  intro p hp
  obtain ⟨j,hj,rfl⟩:=List.mem_map.mp hp
  have hj':=List.mem_range.mp hj
  simp only [decide_eq_true_eq]
  intro z
  have:=WC h (by omega) hn (Sum.inr.inj z)
  omega
 rw [no]
 unfold Fw
 rw [List.range_succ,List.map_append]
 rfl
theorem re {H H1 H2:Hp} {q:Addr} (a:Xb H H1) (b:Vc q H1 H2) (n:H q=none):Xb H H2:=fun c u e=>b c u (qb e n) (a c u e)
theorem CL {t:Adr} {H:Hp} {p q:Addr} {i j:Int} {ws vs:List Str} {k l:Nat} (a:Se t H p i ws k) (b:Se t H q j vs l) (n:i ≠ j):p ≠ q:=fun z=>by
 subst z
 obtain ⟨_,dx,ta,e1,_⟩:=a
 obtain ⟨_,dx',ta',e2,_⟩:=b
 rw [e1] at e2
 have e3:=Option.some.inj e2
 injection e3 with _ _ e4
 unfold rdF at e4
 injection e4 with e5 _
 injection e5 with _ e6
 injection e6 with e7
 exact n e7
theorem AC {t:Adr} {H:Hp} {p q:Addr} {d:WD} {j:Int} {vs:List Str} {l:Nat} (a:de t H p d) (b:Se t H q j vs l):p ≠ q:=fun z=>by
 subst z
 obtain ⟨_,dx,e1⟩:=a
 obtain ⟨_,dx',ta',e2,_⟩:=b
 rw [e1] at e2
 have e3:=Option.some.inj e2
 injection e3 with _ _ e4
 exact absurd (congrArg List.length e4) (by show ¬ (7:Nat)=3;decide)
noncomputable def Ac (t:Adr) (H:Hp) (c:Addr) (n:Int) (ds:List WD):Prop:=
 ((ds.map (·.name)).Nodup∧ds.length ≤ 12)∧∃ dx wl nd,H c=some (.ins t.Mb dx (cF n wl nd))∧Aj t H wl ds∧H nd=some (.dK (Fw ds ds.length))
theorem Ac.same {t:Adr} {H H':Hp} {c:Addr} {n:Int} {ds:List WD} (h:Ac t H c n ds) (s:Xb H H'):Ac t H' c n ds:=by
 obtain ⟨h0,dx,wl,nd,e1,e2,e3⟩:=h
 exact ⟨h0,dx,wl,nd,s _ _ e1,e2.same s,s _ _ e3⟩
theorem Yx {m:Str} (n:Int) (wl nd:Addr) (h:HA.contains m=false):(cF n wl nd).lookup m=none:=am HA (Hu ..) h
section
variable {w:World} {K:PySem.W.Frag} {mg:Str→Option Value} {t:Adr} {H:Hp} {c dx wl nd:Addr} {n:Int}
theorem SF (T:Txt w K mg t) (e:H c=some (.ins t.Mb dx (cF n wl nd))):gj K H c (Str.ofString "places") (.int n):=⟨_,dx,_,e,T.Ib,T.qh,ic HA 0 (Hu ..) (by decide +kernel) rfl⟩
theorem sE (T:Txt w K mg t) (e:H c=some (.ins t.Mb dx (cF n wl nd))):gj K H c (Str.ofString "ways") (.ref wl):=⟨_,dx,_,e,T.Ib,T.Wi,ic HA 1 (Hu ..) (by decide +kernel) rfl⟩
theorem gi (T:Txt w K mg t) (e:H c=some (.ins t.Mb dx (cF n wl nd))):gj K H c (Str.ofString "numbers") (.ref nd):=⟨_,dx,_,e,T.Ib,T.Gg,ic HA 2 (Hu ..) (by decide +kernel) rfl⟩
end
noncomputable def bI (t:Adr):Sp:=fun vs H Q _=>∃ c dx n wl ds,vs=[.ref c,.int n,.ref wl]∧H c=some (.ins t.Mb dx [])∧Aj t H wl ds∧(ds.map (·.name)).Nodup∧ds.length ≤ 12∧NoT H ∧
 ∀ H',Vc c H H'→NoT H'→Ac t H' c n ds→Q .non H'
noncomputable def jp (t:Adr):Sp:=fun vs H Q _=>∃ c n ds,vs=[.ref c]∧Ac t H c n ds∧∀ p,H p=none→Q (.ref p) (upd H p (.lst (bc (ds.map (·.name)))))
noncomputable def Kv (t:Adr):Sp:=fun vs H Q _=>∃ c n ds,∃ i:Nat,∃ d,vs=[.ref c,.str d.name]∧Ac t H c n ds∧ds[i]? = some d∧Q (.int (i:Nat)) H
noncomputable def Rh (t:Adr):Sp:=fun vs H Q _=>∃ c n ds,∃ i:Nat,∃ d,vs=[.ref c,.str d.name]∧Ac t H c n ds∧ds[i]? = some d∧∀ a,de t H a d→Q (.ref a) H
section
variable {P:Program} {w:World} {K:PySem.W.Frag} {mg:Str→Option Value} {base:Heap} {t:Adr}
theorem uL (T:Txt w K mg t):Eb P w K mg base CX0 1 t.fe t.cf ["self","places","ways"] (bI t):=by
 refine T.lj.ok ye (fun vs H Q E h=>?_) (fun cdv A outer s H vs Q E hr h=>?_)
 ·obtain ⟨c,dx,n,wl,ds,rfl,_⟩:=h;rfl
 obtain ⟨c,dx,n,wl,ds,rfl,hc,hW,hnd,hdl,nt,q⟩:=h
 have hu:=OB hr
 refine ⟨_,(db (jf (pv 0) (pv 1) rfl)
   (db (jf (pv 0) (pv 2) rfl)
   (db (jf (pv 0) Yo rfl)
   (gb (De PassesOwn.never rfl (jq rfl T.Jg (bb (pv 2) fb)) (xf (K:=K) (n:=2) rfl rfl (Ob (Bb (i:=3) ye.nd rfl (Or.inl rfl) (.inl rfl)) (Ob (Bb (i:=4) ye.nd rfl (Or.inl rfl) (.inl rfl)) lf))) (gb (fu hu (zc (pv 0) rfl) (zc (pv 4) rfl) (pv 3) rfl))))))),?_⟩
 (walk_at "RD")
 refine ⟨_,_,_,hc,T.Ib,T.qh,by decide,?_⟩
 refine ⟨_,_,_,cb,T.Ib,T.Wi,Zm (n:=999) (by decide),fun nd hn=>?_⟩
 simp only [ui] at hn ⊢
 rw [show rg (Str.ofString "places") (V.int n) ([]:List (Str × V))=[(Str.ofString "places",V.int n)] from rfl,show rg (Str.ofString "ways") (V.ref wl) [(Str.ofString "places",V.int n)]=[(Str.ofString "places",V.int n),(Str.ofString "ways",V.ref wl)] from Mc [Str.ofString "places"] rfl (by decide +kernel)] at hn ⊢
 have hnc:c ≠ nd:=fun z=>by subst z;rw [cb] at hn;cases hn
 refine ⟨t.Mb,dx,[(Str.ofString "places",V.int n),(Str.ofString "ways",V.ref wl)],by rw [lb hnc];exact cb,T.Ib,T.Gg,show (2:Nat) < 1000 by decide,?_⟩
 rw [show rg (Str.ofString "numbers") (V.ref nd) [(Str.ofString "places",V.int n),(Str.ofString "ways",V.ref wl)]=cF n wl nd from Mc [Str.ofString "places",Str.ofString "ways"] rfl (by decide +kernel)]
 obtain ⟨as,w1,w2,al⟩:=hW
 have hHn:H nd=none:=by rw [lb (Ne.symm hnc)] at hn;exact hn
 have sx:Vc c H (upd (upd (upd H c (.ins t.Mb dx [(Str.ofString "places",V.int n),(Str.ofString "ways",V.ref wl)])) nd (.dK [])) c (.ins t.Mb dx (cF n wl nd))):=fun b u hb e=>by
  rw [lb hb,lb (qb e hHn),lb hb];exact e
 have hwc:wl ≠ c:=Bg w1 hc (by intro z;cases z)
 refine ⟨⟨_,SqL.of (sx _ _ hwc w1)⟩,?_⟩
 refine sj.enum (xs:=as.map V.ref) (fun i σ H'=>(∃ x y,σ=[some (V.ref c),some (V.int n),some (V.ref wl),x,y])∧H' c=some (.ins t.Mb dx (cF n wl nd))∧H' nd=some (.dK (Fw ds i))∧Vc c H H'∧NoT H') ?_ ?_ ?_ ?_
 ·exact ⟨⟨_,_,rfl⟩,cb,by rw [lb (Ne.symm hnc),cb];rfl,sx,((nt.upd).upd).upd⟩
 ·rintro i σ H' hi ⟨_,_,_,sx',_⟩
  exact SqL.of (sx' _ _ hwc w1)
 ·rintro i v σ H' p hv ⟨⟨x,y,rfl⟩,h1,h2,sx',nt'⟩ hp
  obtain ⟨a,ha,rfl⟩:=Ec hv
  obtain ⟨hi,_⟩:=List.getElem?_eq_some_iff.mp ha
  have hid:i < ds.length:=by omega
  have hd:ds[i]? = some ds[i]:=List.getElem?_eq_getElem hid
  have Wa:de t H a ds[i]:=al i a _ ha hd
  have hac:a ≠ c:=by
   obtain ⟨_,dx',e⟩:=Wa
   intro z
   subst z
   rw [hc] at e
   have e2:=Option.some.inj e
   injection e2 with _ _ e3
   exact absurd (congrArg List.length e3) (by show ¬ (0:Nat)=7;decide)
  have Wa':de t H' a ds[i]:=⟨Wa.1,Wa.2.imp fun dx' e=>sx' _ _ hac e⟩
  have sp:Xb H' (upd H' p (.tup [.int i,.ref a])):=ib hp
  refine tj ?_
  (walk_at "RD")
  refine ⟨_,gi T (sp _ _ h1),_,(Wa'.same sp).f_name T,_,rfl,_,Nz.k (k:=Sum.inr ds[i].name) (sp _ _ h2) (Nat.lt_of_le_of_lt (show (Fw ds i).length ≤ 12 by unfold Fw;rw [List.length_map,List.length_range];omega) (by decide)),?_⟩
  rw [← Sv hd,DG hnd hid]
  refine ⟨⟨_,rfl⟩,?_,cb,fun b u hb e=>?_,(nt'.upd).upd⟩
  ·rw [lb hnc];exact sp _ _ h1
  ·rw [lb (qb e hHn)];exact sp _ _ (sx' b u hb e)
 ·rintro σ H' ⟨⟨x,y,rfl⟩,h1,h2,sx',nt'⟩
  (walk_at "RD")
  rw [List.length_map,w2] at h2
  refine q H' sx' nt' ⟨⟨hnd,hdl⟩,dx,wl,nd,h1,⟨as,sx' _ _ hwc w1,w2,fun i a d h3 h4=>?_⟩,h2⟩
  have Wa:=al i a d h3 h4
  have hac:a ≠ c:=by
   obtain ⟨_,dx',e⟩:=Wa
   intro z
   subst z
   rw [hc] at e
   have e2:=Option.some.inj e
   injection e2 with _ _ e3
   exact absurd (congrArg List.length e3) (by show ¬ (0:Nat)=7;decide)
  exact ⟨Wa.1,Wa.2.imp fun dx' e=>sx' _ _ hac e⟩
theorem cB (T:Txt w K mg t):Eb P w K mg base CX0 1 t.Kc t.jd ["self","name"] (Kv t):=by
 refine T.rf.ok yh (fun vs H Q E h=>?_) (fun cdv A outer s H vs Q E hr h=>?_)
 ·obtain ⟨c,n,ds,i,d,rfl,_⟩:=h;rfl
 obtain ⟨c,n,ds,i,d,rfl,⟨⟨hnd,hdl⟩,dx,wl,nd,e1,e2,e3⟩,hd,q⟩:=h
 have hu:=OB hr
 have hv:Vl (Fw ds ds.length) (Sum.inr d.name)=some (.int i):=by
  rw [← Sv hd]
  exact ly hnd (List.getElem?_eq_some_iff.mp hd).1 (Nat.le_refl _)
 have hg:Km H nd (.str d.name) (some (.int i)):=by rw [← hv];exact Km.k (k:=Sum.inr d.name) e3
 refine ⟨_,(db (qe (PH (Fv hu (pv 1) (zc (pv 0) rfl))) (gb Zt) Zb)
   (gb (Db (zu hu (zc (pv 0) rfl) (pv 1) (fun _ _=>rfl))))),?_⟩
 (walk_at "RD")
 refine Vb false (fun Q hQ=>?_) (fun hc=>nomatch hc) (fun _=>?_)
 ·(walk_at "RD")
  refine ⟨_,gi T e1,_,rfl,_,hg,?_⟩
  exact hQ
 ·(walk_at "RD")
  exact ⟨_,gi T e1,_,rfl,_,hg,q⟩
theorem Jj (T:Txt w K mg t):Eb P w K mg base CX0 2 t.Nb t.Rb ["self","name"] (Rh t):=by
 have G_Crossing_number:Eb P w K mg base CX0 1 t.Kc t.jd ["self","name"] (Kv t):=cB T
 refine T.mf.ok bh (fun vs H Q E h=>?_) (fun cdv A outer s H vs Q E hr h=>?_)
 ·obtain ⟨c,n,ds,i,d,rfl,_⟩:=h;rfl
 obtain ⟨c,n,ds,i,d,rfl,C,hd,q⟩:=h
 obtain ⟨⟨hnd,hdl⟩,dx,wl,nd,e1,⟨as,w1,w2,al⟩,e3⟩:=id C
 refine ⟨_,(gb (Db (gf Fd (zc (pv 0) rfl) (md (pv 0) T.Ib T.Vh G_Crossing_number hr T.ni .nil dc (bb (pv 1) fb)) (fun _ _=>rfl)))),?_⟩
 (walk_at "RD")
 refine ⟨_,sE T e1,_,_,e1,Yx _ _ _ (by decide +kernel),⟨c,n,ds,i,d,rfl,C,hd,?_⟩⟩
 have hi:i < as.length:=by rw [w2];exact (List.getElem?_eq_some_iff.mp hd).1
 have ha:as[i]? = some as[i]:=List.getElem?_eq_getElem hi
 (walk_at "RD")
 refine ⟨_,SqL.of w1,_,yc (show (as.map V.ref)[i]? = some (V.ref as[i]) by rw [List.getElem?_map,ha];rfl),?_⟩
 exact q as[i] (al i _ d ha hd)
end
section
variable {P:Program} {w:World} {K:PySem.W.Frag} {mg:Str→Option Value} {base:Heap} {t:Adr}
theorem du (T:Txt w K mg t):Eb P w K mg base CX0 1 t.Tc t.vd ["self"] (jp t):=by
 refine T.Vi.ok Fn (fun vs H Q E h=>?_) (fun cdv A outer s H vs Q E hr h=>?_)
 ·obtain ⟨c,n,ds,rfl,_⟩:=h;rfl
 obtain ⟨c,n,ds,rfl,⟨⟨hnd,hdl⟩,dx,wl,nd,e1,⟨as,w1,w2,al⟩,e3⟩,q⟩:=h
 refine ⟨_,(gb (Db (Ij rfl (Me (zc (pv 0) rfl)) (Ud (sc:=jb ig) rfl (by decide +kernel)) (N:=["way"]) (sel:=[none]) (Ie (M:=["self"]) (by decide +kernel)) (Blk.of (fun _ _ _ _=>(Bb (i:=0) (Ai (N:=["way"]) (by decide +kernel) rfl) rfl (Or.inl rfl))) (fun _ _ _ _=>⟨_,Mh,by first | rfl | (dsimp only [Cx.block];done) | (dsimp only [Cx.block];exact rfl)⟩) (fun _ _ _ _=>⟨_,(zc (pv 0) rfl),by first | rfl | (dsimp only [Cx.block];done) | (dsimp only [Cx.block];exact rfl)⟩))))),?_⟩
 (walk_at "RD")
 refine ⟨_,sE T e1,_,rfl,⟨_,SqL.of w1⟩,?_⟩
 refine Xd.list_zs (xs:=as.map V.ref) (zs:=bc (ds.map (·.name))) (SqL.of w1) (by rw [List.length_map,w2];exact Nat.le_trans hdl (by decide)) (by rw [Bj,List.length_map,List.length_map,w2]) (fun i v z N hv hz' hN=>?_) (fun p hp=>q p hp)
 obtain ⟨a,ha,rfl⟩:=Ec hv
 obtain ⟨x,hx,rfl⟩:=Ec hz'
 obtain ⟨d,hd,rfl⟩:=Ec hx
 (walk_at "RD")
 exact ⟨Sub.name,_,(al i a d ha hd).f_name T,hN⟩
end
end My
namespace My
open PySem L2
noncomputable def Um (n:Int):List (List Str)→Nat→List WD→Except (Nat × Nat) (List WD)
 | [],_,ds=>.ok ds
 | ws :: r,i,ds=>if ds.length=12 then .error (i,0) else match Rx n (ds.map (·.name)) ws with
  | .error k=>.error (i,k)
  | .ok d=>Um n r (i + 1) (ds ++ [d])
noncomputable def Vq (r0:List Str) (rest:List (List Str)):Except (Nat × Nat) (Int × List WD):=match Eu r0 with
 | .error k=>.error (0,k)
 | .ok n=>match Um n rest 1 [] with
  | .error e=>.error e
  | .ok []=>.error (1,0)
  | .ok (d :: ds)=>.ok (n,d :: ds)
theorem oG {ws:List Str} {n:Int} (h:Eu ws=.ok n):2 ≤ n∧n ≤ 99:=by
 unfold Eu at h
 split at h
 ·cases e:Wl (wd ws 1) 2 99 with
  | none=>rw [e] at h;cases h
  | some v=>
   rw [e] at h
   have hv:Oq (wd ws 1) 2 99=.int v:=by rw [dE,e];rfl
   have:=gr hv
   replace h:Aq ws v=.ok n:=h
   unfold Aq at h
   split at h
   ·cases h
   ·cases h;exact ⟨this.2.1,this.2.2⟩
 ·cases h
theorem mD {n:Int} {names:List Str} {ws:List Str} {d:WD} (h:Rx n names ws=.ok d):d.name ∉ names:=by
 unfold Rx at h
 cases e0:yw (wd ws 0) with
 | none=>rw [e0] at h;cases h
 | some k=>
  rw [e0] at h
  replace h:ir n names ws k=.ok d:=h
  unfold ir at h
  split at h
  ·rename_i hc
   unfold lw at h
   cases e1:Wl (wd ws 2) 0 (n - 1) with
   | none=>rw [e1] at h;cases h
   | some st=>
    rw [e1] at h
    replace h:up n ws k (wd ws 1) st=.ok d:=h
    unfold up at h
    split at h
    ·cases h
    ·cases e2:Wl (wd ws 3) 0 (n - 1) with
     | none=>rw [e2] at h;cases h
     | some fi=>
      rw [e2] at h
      replace h:Zp ws k (wd ws 1) st fi=.ok d:=h
      unfold Zp at h
      cases e3:Wl (wd ws 4) 0 30 with
      | none=>rw [e3] at h;cases h
      | some off=>
       rw [e3] at h
       replace h:Pq ws k (wd ws 1) st fi off=.ok d:=h
       unfold Pq at h
       cases e4:Wl (wd ws 5) 0 30 with
       | none=>rw [e4] at h;cases h
       | some near=>
        rw [e4] at h
        replace h:Tp ws k (wd ws 1) st fi off near=.ok d:=h
        unfold Tp at h
        cases e5:Wl (wd ws 6) 1 60 with
        | none=>rw [e5] at h;cases h
        | some least=>
         rw [e5] at h
         replace h:au ws ⟨k,wd ws 1,st,fi,off,near,least⟩=.ok d:=h
         unfold au at h
         split at h
         ·cases h
         ·cases h;exact hc.2
  ·cases h
noncomputable def cI (t:Adr):Sp:=fun vs H Q E=>∃ x r0 rest,vs=[.str x]∧Ch x=r0 :: rest∧x.length ≤ 20000∧rest.length ≤ 1000∧(∀ r ∈ r0 :: rest,r ≠ []∧r.length ≤ 1000∧∀ y ∈ r,y.length ≤ 1000)∧NoT H ∧
 Oc2 (Vq r0 rest) (fun m=>∀ c H',Xb H H'→NoT H'→Ac t H' c m.1 m.2→Q (.ref c) H') (fun i k=>HN t i k H E)
section
variable {P:Program} {w:World} {K:PySem.W.Frag} {mg:Str→Option Value} {base:Heap} {t:Adr}
theorem xH (T:Txt w K mg t):Eb P w K mg base (CX1 P w) 8 t.Kd t.Ld ["text"] (cI t):=by
 have G_readers:Eb P w K mg base CX0 7 t.Im t.Lm ["text"] (Ft t):=(vz T).mono (by decide)
 have GX_read_ring:Eb P w K mg base (CX1 P w) 7 t.Ni t.vi ["reader"] (Jy t):=(vG T).mono (by decide)
 have GX_read_way:Eb P w K mg base (CX1 P w) 7 t.pk t.Zj ["reader","places","ways"] (wC t):=bK T
 have GX_RowReader_refuse:Eb P w K mg base (CX1 P w) 7 t.gc t.Cc ["self"] (zp t):=(ju T).mono (by decide)
 have G_Crossing_init:Eb P w K mg base CX0 6 t.fe t.cf ["self","places","ways"] (bI t):=(uL T).mono (by decide)
 have G_NoText_init:Eb P w K mg base CX0 6 t.oe t.Te ["self","row","word"] (nC t):=(MH T).mono (by decide)
 refine T.Ze.okX Qd (fun vs H Q E h=>?_) (fun cdv A outer s H vs Q E hr h=>?_)
 ·obtain ⟨x,r0,rest,rfl,_⟩:=h;rfl
 obtain ⟨x,r0,rest,rfl,hrow,hxl,hrl,hall,nt,qq⟩:=h
 refine ⟨_,(db (kc (i:=1) Qd.nd rfl (Or.inl rfl) (Jb G_readers hr rfl T.sB T.uq.kp T.lD .nil dc (bb (pv 0) fb)))
   (db (kc (i:=2) Qd.nd rfl (Or.inl rfl) (Jb GX_read_ring hr rfl T.Jw T.Ql.kp T.Kx .nil qc (bb (gf Fd (pv 1) xb (fun _ _=>rfl)) fb)))
   (db (kc (i:=3) Qd.nd rfl (Or.inl rfl) (Og fb))
   (db (De (ge ⟨rfl,rfl⟩) rfl (Me (Cy pC (pv 1) (HB xb) jD)) (Bb (i:=4) Qd.nd rfl (Or.inl rfl)) (db (qe (Pc ij (fc Qe rfl T.Nx yf (bb (pv 3) fb)) (kd rfl T.Xx T.gy) (Lc _)) (gb (ac (qd (pv 4) T.rb T.ae GX_RowReader_refuse hr T.ce .nil qc))) Zb)
   (gb (ac (JC PySem.F.plainAttrs_list PySem.F.slot_list_append PySem.F.type_list_append lp (pv 3) (bb (Jb GX_read_way hr rfl T.zA T.Kn.kp T.Lz .nil qc (bb (pv 4) (bb (pv 2) (bb (pv 3) fb)))) fb))))))
   (db (qe (pq (lz (pv 3) (fun _=>rfl))) (gb (fk (Tj T.Hq G_NoText_init hr rfl T.ap T.Fm (bb xb (bb xb fb))) Ln)) Zb)
   (gb (Db (Jn T.lA G_Crossing_init hr rfl T.LA T.dr .nil dc (bb (pv 2) (bb (pv 3) fb)))))))))),?_⟩
 have toC:∀ {i k:Nat} {q:Addr} {H1:Hp},HN t i k H E→Xb H H1→H q=none→NoT H1→wk t i k q H1 E:=fun {i k q H1} r s n m dx H' s' n' e=>r dx H' (re s s' n) (n' m) e
 (walk_at "RD")
 refine ⟨x,rfl,hxl,?_,nt,fun p H1 sm1 nt1 R=>?_⟩
 ·rw [hrow]
  exact fun r hr=>(hall r hr).2
 rw [hrow] at R
 obtain ⟨qs,hp,hp0,hql,hqa⟩:=R
 obtain ⟨q0,qr,rfl⟩:∃ q0 qr,qs=q0 :: qr:=by
  cases qs with
  | nil=>simp at hql
  | cons a b=>exact ⟨a,b,rfl⟩
 have hqrl:qr.length=rest.length:=by simpa using hql
 obtain ⟨R0,hq0⟩:=hqa 0 q0 _ rfl rfl
 (walk_at "RD")
 refine ⟨_,SqL.of hp,_,yc (j:=0) rfl,⟨q0,_,r0,rfl,R0,by omega,nt1,?_⟩⟩
 unfold Vq at qq
 cases er:Eu r0 with
 | error k=>
  rw [er] at qq
  exact toC qq sm1 hq0 nt1
 | ok n=>
  rw [er] at qq
  have hnn:=oG er
  intro H2 s2 nt2
  (walk_at "RD")
  refine ⟨Nat.zero_le _,fun wl hwl=>?_⟩
  obtain ⟨C0,dq0,fq0,hins⟩:=R0.ins
  have hpq:p ≠ q0:=Bg hp hins (by intro z;cases z)
  have hp2:H2 p=some (.lst ((q0 :: qr).map V.ref)):=s2 _ _ hpq hp
  have swl:Xb H2 (upd H2 wl (.lst [])):=ib hwl
  have hcut:gE ((q0 :: qr).map V.ref) (some 1) none=qr.map V.ref:=by
   unfold gE
   simp [HT.sIx]
   exact List.take_of_length_le (by rw [List.length_map];exact Nat.le_refl _)
  refine ⟨_,SqL.of (swl _ _ hp2),fun pc hpc=>?_⟩
  rw [hcut]
  have hpw:pc ≠ wl:=fun z=>by subst z;rw [cb] at hpc;cases hpc
  have spc:Xb (upd H2 wl (.lst [])) (upd (upd H2 wl (.lst [])) pc (.lst (qr.map V.ref))):=ib hpc
  refine ⟨⟨_,SqL.of cb⟩,?_⟩
  have sH2:Xb H H2:=re sm1 s2 hq0
  replace qq:Oc2 (match Um n rest 1 [] with | .error e=>.error e | .ok []=>.error (1,0) | .ok (d :: ds)=>.ok (n,d :: ds)) (fun m=>∀ c H',Xb H H'→NoT H'→Ac t H' c m.1 m.2→Q (.ref c) H') (fun i k=>HN t i k H E):=qq
  generalize hW0:Um n rest 1 []=W0 at qq
  refine sj.list (xs:=qr.map V.ref) (fun i σ H'=>(∃ y,σ=[some (V.str x),some (V.ref p),some (V.int n),some (V.ref wl),y])∧NoT H'∧Xb H H'∧H' pc=some (.lst (qr.map V.ref))∧H wl=none ∧
   (∃ ds,Aj t H' wl ds∧ds.length ≤ 12∧(ds.map (·.name)).Nodup∧Um n (rest.drop i) (i + 1) ds=W0) ∧
   ∀ (j:Nat) (q:Addr) (r:List Str),i ≤ j→qr[j]? = some q→rest[j]? = some r→Se t H' q ((j + 1:Nat):Int) r 0∧H q=none) ?_ ?_ ?_ ?_
  ·refine ⟨⟨_,rfl⟩,(nt2.upd).upd,(sH2.trans swl).trans spc,cb,sH2.free hwl,⟨[],⟨[],spc _ _ cb,rfl,fun j a d h=>by simp at h⟩,Nat.zero_le _,by simp,hW0⟩,fun j q r _ h1 h2=>?_⟩
   obtain ⟨Rj,hqj⟩:=hqa (j + 1) q r (by rw [List.getElem?_cons_succ];exact h1) (by rw [List.getElem?_cons_succ];exact h2)
   exact ⟨((Rj.sameX s2 (CL Rj R0 (by omega)) R0.ins).same swl).same spc,hqj⟩
  ·rintro i σ H' hi ⟨_,_,_,h,_⟩
   exact SqL.of h
  ·rintro i v σ H' hv ⟨⟨y,rfl⟩,nt',sm',hpc',hwl0,⟨ds,W,hdl,hnd,hwp⟩,Rs⟩
   obtain ⟨q,hq,rfl⟩:=Ec hv
   obtain ⟨hi,_⟩:=List.getElem?_eq_some_iff.mp hq
   have hid:i < rest.length:=by omega
   have hr:rest[i]? = some rest[i]:=List.getElem?_eq_getElem hid
   obtain ⟨Rq,hqn⟩:=Rs i q _ (Nat.le_refl _) hq hr
   obtain ⟨as,w1,w2,al⟩:=id W
   obtain ⟨_,dq,tq,hqi,hqt⟩:=id Rq
   rw [List.drop_eq_getElem_cons hid] at hwp
   unfold Um at hwp
   (walk_at "RD")
   refine Vb (decide (ds.length=12)) (fun Q hQ=>?_) (fun c=>?_) (fun c=>?_)
   ·(walk_at "RD")
    refine ⟨_,.inl (SqL.of w1),?_⟩
    rw [List.length_map,w2,show decide (((ds.length:Nat):Int)=12)=decide (ds.length=12) by rw [Bool.eq_iff_iff,decide_eq_true_eq,decide_eq_true_eq];omega]
    exact hQ
   ·rw [if_pos (of_decide_eq_true c)] at hwp
    subst hwp
    (walk_at "RD")
    exact ⟨_,_,hqi,Se.no _ _ _ (by decide +kernel),⟨q,_,rest[i],0,rfl,Rq,by omega,by omega,toC qq sm' hqn nt'⟩⟩
   ·have c':=of_decide_eq_false c
    rw [if_neg c'] at hwp
    (walk_at "RD")
    refine ⟨.inl ⟨_,SqL.of w1⟩,?_⟩
    refine ⟨q,_,n,wl,ds,rest[i],rfl,Rq,by omega,hnn,W,hdl,nt',?_⟩
    cases ew:Rx n (ds.map (·.name)) rest[i] with
    | error k=>
     rw [ew] at hwp
     replace hwp:Except.error (i + 1,k)=W0:=hwp
     subst hwp
     exact toC qq sm' hqn nt'
    | ok d=>
     rw [ew] at hwp
     replace hwp:Um n (rest.drop (i + 1)) (i + 1 + 1) (ds ++ [d])=W0:=hwp
     intro y' H3 s3 nt3 w3 hy3
     (walk_at "RD")
     have hwq:wl ≠ q:=Bg w1 hqi (by intro z;cases z)
     have hw3:H3 wl=some (.lst (as.map V.ref)):=s3 _ _ hwq w1
     have hsm3:Xb H H3:=re sm' s3 hqn
     refine ⟨_,hw3,Nat.lt_of_le_of_lt (show (as.map V.ref).length ≤ 12 by rw [List.length_map];omega) (by decide),?_⟩
     have hyw:y' ≠ wl:=fun z=>by
      subst z
      rw [w1] at hy3;cases hy3
     refine ⟨⟨_,rfl⟩,nt3.upd,fun b u e=>?_,?_,hwl0,⟨ds ++ [d],⟨as ++ [y'],by rw [cb,List.map_append];rfl,by rw [List.length_append,List.length_append,w2];rfl,fun j a e h1 h2=>?_⟩,?_,?_,hwp⟩,fun j q' r hj h1 h2=>?_⟩
     ·rw [lb (qb e hwl0)];exact hsm3 _ _ e
     ·rw [lb hpw]
      exact s3 _ _ (Bg hpc' hqi (by intro z;cases z)) hpc'
     ·rcases Kl h1 with ⟨z1,z2⟩ | ⟨z1,rfl⟩
      ·rcases Kl h2 with ⟨y1,y2⟩ | ⟨y1,_⟩
       ·obtain ⟨hk,dx',e'⟩:=al j a e z2 y2
        have haq:a ≠ q:=AC ⟨hk,dx',e'⟩ Rq
        have haw:a ≠ wl:=Bg e' w1 (by intro z;cases z)
        exact ⟨hk,dx',by rw [lb haw];exact s3 _ _ haq e'⟩
       ·omega
      ·rcases Kl h2 with ⟨y1,y2⟩ | ⟨y1,rfl⟩
       ·omega
       ·exact ⟨w3.1,w3.2.imp fun dx' e=>by rw [lb hyw];exact e⟩
     ·rw [List.length_append,List.length_singleton];omega
     ·rw [List.map_append,List.map_cons,List.map_nil]
      refine List.nodup_append.mpr ⟨hnd,by simp,fun x1 hx1 y1 hy1=>?_⟩
      rw [List.mem_singleton.mp hy1]
      exact fun z=>mD ew (z ▸ hx1)
     ·obtain ⟨Rj,hqj⟩:=Rs j q' r (by omega) h1 h2
      have R3:=Rj.sameX s3 (CL Rj Rq (by omega)) Rq.ins
      refine ⟨?_,hqj⟩
      obtain ⟨hz,dx',ta,e1,e2⟩:=R3
      refine ⟨hz,dx',ta,by rw [lb (Bg e1 hw3 (by intro z;cases z))];exact e1,?_⟩
      rw [lb (fun z=>by
       subst z
       rw [hw3] at e2
       have e5:=Option.some.inj e2
       injection e5 with e6
       have hr0:=(hall r (List.mem_cons_of_mem _ (List.mem_of_getElem? h2))).1
       cases as with
       | nil=>
        cases r with
        | nil=>exact hr0 rfl
        | cons u v=>cases e6
       | cons a r'=>
        cases r with
        | nil=>cases e6
        | cons u v=>injection e6 with e7 _;cases e7)]
      exact e2
  ·rintro σ H' ⟨⟨y,rfl⟩,nt',sm',hpc',hwl0,⟨ds,W,hdl,hnd,hwp⟩,Rs⟩
   rw [List.length_map,hqrl,List.drop_length] at hwp
   replace hwp:Except.ok ds=W0:=hwp
   subst hwp
   obtain ⟨as,w1,w2,al⟩:=id W
   (walk_at "RD")
   cases ds with
   | nil=>
    replace qq:HN t 1 0 H E:=qq
    refine Vb true (fun Q hQ=>?_) (fun _=>?_) (fun hc=>nomatch hc)
    ·(walk_at "RD")
     refine ⟨false,.inl ⟨_,SqL.of w1,?_⟩,hQ⟩
     cases as with
     | nil=>rfl
     | cons a r=>simp at w2
    ·(walk_at "RD")
     refine ⟨by decide,fun a ha=>⟨a,1,0,rfl,by decide,by decide,cb,fun d hd hne=>?_⟩⟩
     have hd0:H' d=none:=by rw [lb hne] at hd;exact hd
     refine ⟨rfl,t.zb,some d,by rw [lb (Ne.symm hne),cb],T.kh,qq d _ (fun b u e=>?_) ((((nt'.upd).upd).upd).upd) (by rw [lb hne,cb];rfl)⟩
     have e':=sm' _ _ e
     rw [lb (qb e' ha),lb (qb e' hd0),lb (qb e' ha),lb (qb e' ha)]
     exact e'
   | cons d ds'=>
    replace qq:∀ c H',Xb H H'→NoT H'→Ac t H' c n (d :: ds')→Q (.ref c) H':=qq
    refine Vb false (fun Q hQ=>?_) (fun hc=>nomatch hc) (fun _=>?_)
    ·(walk_at "RD")
     refine ⟨true,.inl ⟨_,SqL.of w1,?_⟩,hQ⟩
     cases as with
     | nil=>simp at w2
     | cons a r=>rfl
    ·(walk_at "RD")
     intro c dx hc hdx hne
     have sc:Xb H' (upd (upd H' dx (.own c)) c (.ins t.Mb dx [])):=((Xb.refl H').updN hdx).updN hc
     refine ⟨c,dx,n,wl,d :: ds',rfl,cb,W.same sc,hnd,hdl,(nt'.upd).upd,fun H5 s5 nt5 C5=>⟨rfl,?_⟩⟩
     exact qq c H5 (re (sm'.trans sc) s5 (sm'.free hc)) nt5 C5
end
theorem af {v lo hi:Int} (h0:0 ≤ v) (h1:v < 1000) (hl:lo ≤ v) (hh:v ≤ hi):Wl (num v) lo hi=some v:=Tl (TD h0 h1 hl hh)
theorem Lp:∀ k,k < 3→yw (tf k)=some k:=by
 intro k hk
 match k,hk with
 | 0,_=>decide +kernel
 | 1,_=>decide +kernel
 | 2,_=>decide +kernel
noncomputable def XN (n:Int) (names:List Str) (d:WD) (ws:List Str):Nat→Prop
 | 0=>yw (wd ws 0)=none
 | 1=>¬ (made (wd ws 1) Yc 8=true∧wd ws 1 ∉ names)
 | 2=>Wl (wd ws 2) 0 (n - 1)=none
 | 3=>wd ws 3=num d.start∨Wl (wd ws 3) 0 (n - 1)=none
 | 4=>Wl (wd ws 4) 0 30=none
 | 5=>Wl (wd ws 5) 0 30=none
 | 6=>Wl (wd ws 6) 1 60=none
 | 7=>7 < ws.length
 | _=>False
theorem fC {n:Int} {names:List Str} {d:WD} {ws:List Str} {j:Nat} (h:WOk n d) (hn:n ≤ 99) (hx:d.name ∉ names) (ag:∀ i,i < j→wd ws i=wd (ad d) i) (hb:XN n names d ws j):Rx n names ws=.error j:=by
 have b1:=h.st;have b2:=h.fi;have b3:=h.of;have b4:=h.nr;have b5:=h.le
 have g0:0 < j→Rx n names ws=ir n names ws d.k:=fun hj=>by
  unfold Rx
  rw [ag 0 hj,show wd (ad d) 0=tf d.k from rfl,Lp d.k h.k];rfl
 have g1:1 < j→ir n names ws d.k=lw n ws d.k d.name:=fun hj=>by
  unfold ir
  rw [ag 1 hj,show wd (ad d) 1=d.name from rfl,if_pos ⟨h.nm,hx⟩]
 have g2:2 < j→lw n ws d.k d.name=up n ws d.k d.name d.start:=fun hj=>by
  unfold lw
  rw [ag 2 hj,show wd (ad d) 2=num d.start from rfl,af (by omega) (by omega) (by omega) (by omega)];rfl
 have g3:3 < j→up n ws d.k d.name d.start=Zp ws d.k d.name d.start d.fin:=fun hj=>by
  unfold up
  rw [ag 3 hj,show wd (ad d) 3=num d.fin from rfl,if_neg (fun z=>h.ne (Ux (by omega) (by omega) (by omega) (by omega) z).symm),af (by omega) (by omega) (by omega) (by omega)];rfl
 have g4:4 < j→Zp ws d.k d.name d.start d.fin=Pq ws d.k d.name d.start d.fin d.off:=fun hj=>by
  unfold Zp
  rw [ag 4 hj,show wd (ad d) 4=num d.off from rfl,af (by omega) (by omega) (by omega) (by omega)];rfl
 have g5:5 < j→Pq ws d.k d.name d.start d.fin d.off=Tp ws d.k d.name d.start d.fin d.off d.near:=fun hj=>by
  unfold Pq
  rw [ag 5 hj,show wd (ad d) 5=num d.near from rfl,af (by omega) (by omega) (by omega) (by omega)];rfl
 have g6:6 < j→Tp ws d.k d.name d.start d.fin d.off d.near=au ws d:=fun hj=>by
  unfold Tp
  rw [ag 6 hj,show wd (ad d) 6=num d.least from rfl,af (by omega) (by omega) (by omega) (by omega)];rfl
 match j,hb with
 | 0,hb=>unfold Rx;rw [show yw (wd ws 0)=none from hb];rfl
 | 1,hb=>rw [g0 (by decide)];unfold ir;rw [if_neg hb]
 | 2,hb=>rw [g0 (by decide),g1 (by decide)];unfold lw;rw [show Wl (wd ws 2) 0 (n - 1)=none from hb];rfl
 | 3,hb=>
  rw [g0 (by decide),g1 (by decide),g2 (by decide)]
  unfold up
  by_cases c:wd ws 3=num d.start
  ·rw [if_pos c]
  ·rw [if_neg c,(show wd ws 3=num d.start∨Wl (wd ws 3) 0 (n - 1)=none from hb).resolve_left c];rfl
 | 4,hb=>rw [g0 (by decide),g1 (by decide),g2 (by decide),g3 (by decide)];unfold Zp;rw [show Wl (wd ws 4) 0 30=none from hb];rfl
 | 5,hb=>rw [g0 (by decide),g1 (by decide),g2 (by decide),g3 (by decide),g4 (by decide)];unfold Pq;rw [show Wl (wd ws 5) 0 30=none from hb];rfl
 | 6,hb=>rw [g0 (by decide),g1 (by decide),g2 (by decide),g3 (by decide),g4 (by decide),g5 (by decide)];unfold Tp;rw [show Wl (wd ws 6) 1 60=none from hb];rfl
 | 7,hb=>rw [g0 (by decide),g1 (by decide),g2 (by decide),g3 (by decide),g4 (by decide),g5 (by decide),g6 (by decide)];unfold au;rw [if_pos (show 7 < ws.length from hb)]
theorem yG {n:Int} {names:List Str} {d:WD} (h:WOk n d) (hn:n ≤ 99) (hx:d.name ∉ names):Rx n names (ad d)=.ok d:=by
 have b1:=h.st;have b2:=h.fi;have b3:=h.of;have b4:=h.nr;have b5:=h.le
 unfold Rx
 rw [show wd (ad d) 0=tf d.k from rfl,Lp d.k h.k]
 show ir n names (ad d) d.k=_
 unfold ir
 rw [show wd (ad d) 1=d.name from rfl,if_pos ⟨h.nm,hx⟩]
 unfold lw
 rw [show wd (ad d) 2=num d.start from rfl,af (by omega) (by omega) (by omega) (by omega)]
 show up n (ad d) d.k d.name d.start=_
 unfold up
 rw [show wd (ad d) 3=num d.fin from rfl,if_neg (fun z=>h.ne (Ux (by omega) (by omega) (by omega) (by omega) z).symm),af (by omega) (by omega) (by omega) (by omega)]
 show Zp (ad d) d.k d.name d.start d.fin=_
 unfold Zp
 rw [show wd (ad d) 4=num d.off from rfl,af (by omega) (by omega) (by omega) (by omega)]
 show Pq (ad d) d.k d.name d.start d.fin d.off=_
 unfold Pq
 rw [show wd (ad d) 5=num d.near from rfl,af (by omega) (by omega) (by omega) (by omega)]
 show Tp (ad d) d.k d.name d.start d.fin d.off d.near=_
 unfold Tp
 rw [show wd (ad d) 6=num d.least from rfl,af (by omega) (by omega) (by omega) (by omega)]
 show au (ad d) d=_
 unfold au
 rw [if_neg (by show ¬ 7 < 7;decide)]
theorem Kt (n:Int) (ws:List Str) (r:List (List Str)) (i:Nat) (ds:List WD):Um n (ws :: r) i ds=if ds.length=12 then .error (i,0) else match Rx n (ds.map (·.name)) ws with
  | .error k=>.error (i,k)
  | .ok d=>Um n r (i + 1) (ds ++ [d]):=by first | (rw [Um];done) | (rw [Um];rfl)
theorem Cp {n:Int} (hn:n ≤ 99) (tail:List (List Str)):∀ (ds pre:List WD) (i:Nat),(∀ d ∈ ds,WOk n d)→((pre ++ ds).map (·.name)).Nodup→(pre ++ ds).length ≤ 12→Um n (ds.map ad ++ tail) i pre=Um n tail (i + ds.length) (pre ++ ds)
 | [],pre,i,_,_,_=>by simp
 | d :: ds,pre,i,h,nd,hl=>by
  rw [List.map_cons,List.cons_append,Kt]
  have hp:pre.length ≠ 12:=by rw [List.length_append,List.length_cons] at hl;omega
  have hx:d.name ∉ pre.map (·.name):=fun z=>by
   rw [List.map_append,List.map_cons] at nd
   exact (List.nodup_append.mp nd).2.2 _ z _ (List.mem_cons_self ..) rfl
  rw [if_neg hp,yG (h d (List.mem_cons_self ..)) hn hx]
  show Um n (ds.map ad ++ tail) (i + 1) (pre ++ [d])=_
  rw [Cp hn tail ds (pre ++ [d]) (i + 1) (fun e he=>h e (List.mem_cons_of_mem _ he)) (by rw [List.append_assoc];exact nd) (by rw [List.append_assoc];exact hl),List.append_assoc,List.length_cons,Nat.add_assoc,Nat.add_comm 1 ds.length]
  rfl
theorem Yv {n:Int} (h:2 ≤ n∧n ≤ 99):Eu [Str.ofString "ring",num n]=.ok n:=by
 unfold Eu
 rw [show wd [Str.ofString "ring",num n] 0=Str.ofString "ring" from rfl,if_pos (by simp),show wd [Str.ofString "ring",num n] 1=num n from rfl,af (by omega) (by omega) h.1 h.2]
 show Aq [Str.ofString "ring",num n] n=_
 unfold Aq
 rw [if_neg (by show ¬ 2 < 2;decide)]
theorem EA {n:Int} {ds:List WD} (h:COk n ds):Vq [Str.ofString "ring",num n] (ds.map ad)=.ok (n,ds):=by
 unfold Vq
 rw [Yv h.nn]
 have e:=Cp h.nn.2 [] ds [] 1 h.al (by simpa using h.nd) (by simpa using h.ln.2)
 rw [List.append_nil,List.nil_append] at e
 dsimp only
 rw [e]
 have hl:=h.ln.1
 cases ds with
 | nil=>simp at hl
 | cons d r=>rfl
theorem Zw {n:Int} (hn:2 ≤ n∧n ≤ 99) {ds:List WD} (al:∀ d ∈ ds,WOk n d) (nd:(ds.map (·.name)).Nodup) (hl:ds.length ≤ 11) {ws:List Str} {tail:List (List Str)} {k:Nat} (hw:Rx n (ds.map (·.name)) ws=.error k) :
  Vq [Str.ofString "ring",num n] (ds.map ad ++ ws :: tail)=.error (ds.length + 1,k):=by
 unfold Vq
 rw [Yv hn]
 have e:=Cp hn.2 (ws :: tail) ds [] 1 al (by simpa using nd) (by rw [List.nil_append];omega)
 rw [List.nil_append] at e
 dsimp only
 rw [e,Kt,if_neg (by omega),hw,Nat.add_comm]
end My
namespace My
open PySem L2
noncomputable def YG (x:Str):Prop:=x.length ≤ 1000∧∀ c ∈ x.cps.toList,c < 16 ^ 8
noncomputable def ax (ds:List WD) (x:Str):Prop:=∀ d ∈ ds,d.name ≠ x
noncomputable def jB (t:Adr) (x:Str) (H:Hp) (E:XK):Prop:=∀ dx H',Xb H H'→(NoT H→NoT H')→H' dx=some (.ext (XD dx [(Str.ofString "name",.str x)]))→E (.ref t.Lb) (some dx) H'
noncomputable def SH (t:Adr):Sp:=fun vs H Q _=>∃ x n,vs=[.ref x,.str n]∧YG n∧H x=some (.ext (XF x t.Lb none)) ∧
 ∀ dx,H dx=none→dx ≠ x→Q .non (upd (upd H x (.ext (XF x t.Lb (some dx)))) dx (.ext (XD dx [(Str.ofString "name",.str n)])))
noncomputable def Xt (t:Adr):Sp:=fun vs H Q E=>∃ c n ds x,vs=[.ref c,.str x]∧Ac t H c n ds∧YG x∧((∃ i:Nat,∃ d,ds[i]? = some d∧x=d.name∧Q (.int (i:Nat)) H)∨(ax ds x∧jB t x H E))
noncomputable def Yt (t:Adr):Sp:=fun vs H Q E=>∃ c n ds x,vs=[.ref c,.str x]∧Ac t H c n ds∧YG x∧((∃ i:Nat,∃ d,ds[i]? = some d∧x=d.name∧∀ a,de t H a d→Q (.ref a) H)∨(ax ds x∧jB t x H E))
section
variable {P:Program} {w:World} {K:PySem.W.Frag} {mg:Str→Option Value} {base:Heap} {t:Adr}
theorem UL (T:Txt w K mg t):Eb P w K mg base CX0 1 t.bg t.ah ["self","name"] (SH t):=by
 refine T.so.ok Bn (fun vs H Q E h=>?_) (fun cdv A outer s H vs Q E hr h=>?_)
 ·obtain ⟨x,n,rfl,_⟩:=h;rfl
 obtain ⟨x,n,rfl,hn,hx,q⟩:=h
 refine ⟨_,(db (ac (Am rfl T.qf T.Kg (bb (pv 0) (bb (kj (Pf (yq (pv 1) Mv)) (by rw [sizeLine_eq];decide)) fb))))
   (gb (Yl (pv 0) (pv 1) rfl))),?_⟩
 (walk_at "RD")
 refine ⟨hn.1,hn.2,fun y=>⟨_,_,hx,T.kr,?_⟩⟩
 exact ⟨_,hx,T.kr,T.wm,q⟩
theorem iA (T:Txt w K mg t):Eb P w K mg base (CX1 P w) 3 t.Kc t.jd ["self","name"] (Xt t):=by
 have G_NoWay_init:Eb P w K mg base CX0 1 t.bg t.ah ["self","name"] (SH t):=UL T
 refine T.rf.okX yh (fun vs H Q E h=>?_) (fun cdv A outer s H vs Q E hr h=>?_)
 ·obtain ⟨c,n,ds,x,rfl,_⟩:=h;rfl
 obtain ⟨c,n,ds,x,rfl,⟨⟨hnd,hdl⟩,dx,wl,nd,e1,e2,e3⟩,hsm,hq⟩:=h
 have hu:=OB hr
 refine ⟨_,(db (qe (PH (Fv hu (pv 1) (zc (pv 0) rfl))) (gb (fk (Tj T.ez G_NoWay_init hr rfl T.Ix T.Zv (bb (pv 1) fb)) Ln)) Zb)
   (gb (Db (zu hu (zc (pv 0) rfl) (pv 1) (fun _ _=>rfl))))),?_⟩
 rcases hq with ⟨i,d,hd,rfl,q⟩ | ⟨hs,q⟩
 ·have hv:Vl (Fw ds ds.length) (Sum.inr d.name)=some (.int i):=by
   rw [← Sv hd]
   exact ly hnd (List.getElem?_eq_some_iff.mp hd).1 (Nat.le_refl _)
  have hg:Km H nd (.str d.name) (some (.int i)):=by rw [← hv];exact Km.k (k:=Sum.inr d.name) e3
  (walk_at "RD")
  refine Vb false (fun Q hQ=>?_) (fun hc=>nomatch hc) (fun _=>?_)
  ·(walk_at "RD")
   refine ⟨_,gi T e1,_,rfl,_,hg,?_⟩
   exact hQ
  ·(walk_at "RD")
   exact ⟨_,gi T e1,_,rfl,_,hg,q⟩
 ·have hv:Vl (Fw ds ds.length) (Sum.inr x)=none:=IJ hs (Nat.le_refl _)
  have hg:Km H nd (.str x) none:=by rw [← hv];exact Km.k (k:=Sum.inr x) e3
  (walk_at "RD")
  refine Vb true (fun Q hQ=>?_) (fun _=>?_) (fun hc=>nomatch hc)
  ·(walk_at "RD")
   refine ⟨_,gi T e1,_,rfl,_,hg,?_⟩
   exact hQ
  ·(walk_at "RD")
   refine ⟨Nat.le_trans (show 1 ≤ 1000 by decide) (by decide),fun a ha=>⟨a,x,rfl,hsm,cb,fun d hd hne=>?_⟩⟩
   have hd0:H d=none:=by rw [lb hne] at hd;exact hd
   refine ⟨rfl,t.Lb,some d,by rw [lb (Ne.symm hne),cb],T.kr,q d _ (fun b u e=>?_) (fun nt=>(((nt.upd).upd).upd).upd) (by rw [lb hne,cb])⟩
   rw [lb (qb e ha),lb (qb e hd0),lb (qb e ha),lb (qb e ha)]
   exact e
theorem MA (T:Txt w K mg t):Eb P w K mg base (CX1 P w) 4 t.Nb t.Rb ["self","name"] (Yt t):=by
 have GX_Crossing_number:Eb P w K mg base (CX1 P w) 3 t.Kc t.jd ["self","name"] (Xt t):=iA T
 refine T.mf.okX bh (fun vs H Q E h=>?_) (fun cdv A outer s H vs Q E hr h=>?_)
 ·obtain ⟨c,n,ds,x,rfl,_⟩:=h;rfl
 obtain ⟨c,n,ds,x,rfl,C,hsm,hq⟩:=h
 obtain ⟨⟨hnd,hdl⟩,dx,wl,nd,e1,⟨as,w1,w2,al⟩,e3⟩:=id C
 refine ⟨_,(gb (Db (gf Fd (zc (pv 0) rfl) (md (pv 0) T.Ib T.Vh GX_Crossing_number hr T.ni .nil qc (bb (pv 1) fb)) (fun _ _=>rfl)))),?_⟩
 (walk_at "RD")
 refine ⟨_,sE T e1,_,_,e1,Yx _ _ _ (by decide +kernel),⟨c,n,ds,x,rfl,C,hsm,?_⟩⟩
 rcases hq with ⟨i,d,hd,ex,q⟩ | ⟨hs,q⟩
 ·refine .inl ⟨i,d,hd,ex,?_⟩
  have hi:i < as.length:=by rw [w2];exact (List.getElem?_eq_some_iff.mp hd).1
  have ha:as[i]? = some as[i]:=List.getElem?_eq_getElem hi
  (walk_at "RD")
  refine ⟨_,SqL.of w1,_,yc (show (as.map V.ref)[i]? = some (V.ref as[i]) by rw [List.getElem?_map,ha];rfl),?_⟩
  exact q as[i] (al i _ d ha hd)
 ·exact .inr ⟨hs,q⟩
end
noncomputable def Ao (n s f p:Int):Bool:=decide (0 < (p - s) % n) && decide ((p - s) % n < (f - s) % n)
noncomputable def sN (n s f s2 f2:Int):Bool:=decide (f=f2) || (if (s2=s∨s2=f)∨(f2=s∨f2=f) then false else (Ao n s f s2 != Ao n s f f2))
noncomputable abbrev mt (n:Int) (d e:WD):Bool:=sN n d.start d.fin e.start e.fin
noncomputable def FH (t:Adr):Sp:=fun vs H Q _=>∃ a d n p,vs=[.int n,.ref a,.int p]∧de t H a d∧0 < n∧Q (.bl (Ao n d.start d.fin p)) H
noncomputable def FL (n:Int) (d e:WD):Bool:=if (e.start=d.start∨e.start=d.fin)∨(e.fin=d.start∨e.fin=d.fin) then false else (Ao n d.start d.fin e.start != Ao n d.start d.fin e.fin)
noncomputable def LD (t:Adr):Sp:=fun vs H Q _=>∃ a b d e n,vs=[.int n,.ref a,.ref b]∧de t H a d∧de t H b e∧0 < n∧NoT H∧Q (.bl (FL n d e)) H
noncomputable def WG (t:Adr):Sp:=fun vs H Q _=>∃ a b d e n,vs=[.int n,.ref a,.ref b]∧de t H a d∧de t H b e∧0 < n∧∀ H',Xb H H'→Q (.bl (FL n d e)) H'
noncomputable def DC (t:Adr):Sp:=fun vs H Q _=>∃ c n ds,∃ i j:Nat,∃ d e,vs=[.ref c,.str d.name,.str e.name]∧Ac t H c n ds∧0 < n∧ds[i]? = some d∧ds[j]? = some e∧NoT H∧Q (.bl (mt n d e)) H
section
variable {P:Program} {w:World} {K:PySem.W.Frag} {mg:Str→Option Value} {base:Heap} {t:Adr}
theorem lL (T:Txt w K mg t):Eb P w K mg base CX0 1 t.Po t.Oo ["places","way","place"] (FH t):=by
 refine T.So.ok Lv (fun vs H Q E h=>?_) (fun cdv A outer s H vs Q E hr h=>?_)
 ·obtain ⟨a,d,n,p,rfl,_⟩:=h;rfl
 obtain ⟨a,d,n,p,rfl,W,hn,q⟩:=h
 refine ⟨_,(db (kc (i:=3) Lv.nd rfl (Or.inl rfl) (Ic Xh (Ic yk (pv 2) (zc (pv 1) rfl)) (pv 0)))
   (gb (Db (Py (Oe Ax xb (pv 3) (Lc _)) (yv (Oe Ax (pv 3) (Ic Xh (Ic yk (zc (pv 1) rfl) (zc (pv 1) rfl)) (pv 0)) (Lc _))))))),?_⟩
 (walk_at "RD")
 refine ⟨_,W.f_start T,_,rfl,hn,?_⟩
 unfold Ao at q
 by_cases c:0 < (p - d.start) % n
 ·rw [if_pos (decide_eq_true c)]
  rw [decide_eq_true c,Bool.true_and] at q
  exact ⟨_,W.f_end T,_,W.f_start T,_,rfl,_,rfl,hn,q⟩
 ·rw [if_neg (by simpa using c)]
  rw [decide_eq_false c,Bool.false_and] at q
  exact q
theorem nP (x a b:Int):inV (.int x) [.int a,.int b]=decide (x=a∨x=b):=by
 unfold inV
 simp only [List.any_cons,List.any_nil,eqV,Bool.or_false]
 rw [Bool.eq_iff_iff]
 simp only [Bool.or_eq_true,beq_iff_eq,decide_eq_true_eq]
 omega
theorem OJ (T:Txt w K mg t):Eb P w K mg base CX0 2 t.Ug t.Zg ["places","way","second"] (LD t):=by
 refine Eb.forget (sp:=WG t) ?_ fun vs H Q E h=>?_
 ·have G_in_bow:Eb P w K mg base CX0 1 t.Po t.Oo ["places","way","place"] (FH t):=lL T
  refine T.pj.ok Vu (fun vs H Q E h=>?_) (fun cdv A outer s H vs Q E hr h=>?_)
  ·obtain ⟨a,b,d,e,n,rfl,_⟩:=h;rfl
  obtain ⟨a,b,d,e,n,rfl,Wa,Wb,hn,q⟩:=h
  refine ⟨_,(db (qe (PW.pt (gF (Pc iq (zc (pv 2) rfl) (Og (bb (zc (pv 1) rfl) (bb (zc (pv 1) rfl) fb))) (by with_unfolding_all rfl)) (tz (Pc iq (zc (pv 2) rfl) (Og (bb (zc (pv 1) rfl) (bb (zc (pv 1) rfl) fb))) (by with_unfolding_all rfl))))) (gb (Db Tu)) Zb)
   (gb (Db (Oe EG (Jb G_in_bow hr rfl T.oy T.So.kp T.az .nil dc (bb (pv 0) (bb (pv 1) (bb (zc (pv 2) rfl) fb)))) (Jb G_in_bow hr rfl T.oy T.So.kp T.az .nil dc (bb (pv 0) (bb (pv 1) (bb (zc (pv 2) rfl) fb)))) (Lc _))))),?_⟩
  (walk_at "RD")
  refine Vo (fun b H'=>Xb H H'∧b=decide ((e.start=d.start∨e.start=d.fin)∨(e.fin=d.start∨e.fin=d.fin))) (fun Q hQ=>?_) (fun H' ⟨sm,hb⟩=>?_) (fun H' ⟨sm,hb⟩=>?_)
  ·(walk_at "RD")
   refine ⟨_,Wb.f_start T,_,Wa.f_start T,_,Wa.f_end T,by decide,fun p hp=>⟨_,.inl (SqL.of cb),rfl,rfl,?_⟩⟩
   have s1:Xb H (upd H p (.lst [.int d.start,.int d.fin])):=ib hp
   rw [nP]
   by_cases c1:e.start=d.start∨e.start=d.fin
   ·rw [if_pos (decide_eq_true c1)]
    exact hQ _ _ ⟨s1,(decide_eq_true (.inl c1)).symm⟩
   ·rw [if_neg (by simpa using c1)]
    refine ⟨_,(Wb.same s1).f_end T,_,(Wa.same s1).f_start T,_,(Wa.same s1).f_end T,by decide,fun p2 hp2=>⟨_,.inl (SqL.of cb),rfl,rfl,?_⟩⟩
    rw [nP]
    refine hQ _ _ ⟨s1.trans (ib hp2),?_⟩
    rw [Bool.eq_iff_iff,decide_eq_true_eq,decide_eq_true_eq]
    exact ⟨.inr,fun z=>z.resolve_left c1⟩
  ·(walk_at "RD")
   have hb':=of_decide_eq_true hb.symm
   have:=q H' sm
   unfold FL at this
   rw [if_pos hb'] at this
   exact this
  ·(walk_at "RD")
   have hb':=of_decide_eq_false hb.symm
   refine ⟨_,(Wb.same sm).f_start T,⟨a,d,n,_,rfl,Wa.same sm,hn,?_⟩⟩
   refine ⟨_,(Wb.same sm).f_end T,⟨a,d,n,_,rfl,Wa.same sm,hn,?_⟩⟩
   refine ⟨rfl,?_⟩
   have:=q H' sm
   unfold FL at this
   rw [if_neg hb'] at this
   rw [show (!decide (V.bl (Ao n d.start d.fin e.start)=V.bl (Ao n d.start d.fin e.fin)))=(Ao n d.start d.fin e.start != Ao n d.start d.fin e.fin) by
    cases Ao n d.start d.fin e.start <;> cases Ao n d.start d.fin e.fin <;> rfl]
   exact this
 ·obtain ⟨a,b,d,e,n,h1,h2,h3,h4,nt,q⟩:=h
  exact ⟨nt,a,b,d,e,n,h1,h2,h3,h4,fun H' sm=>⟨sm,q⟩⟩
theorem tO (n:Int) (d e:WD):mt n d e=(decide (d.fin=e.fin) || FL n d e):=rfl
theorem HJ (T:Txt w K mg t):Eb P w K mg base CX0 3 t.Ey t.Iy ["crossing","one","other"] (DC t):=by
 have G_Crossing_called:Eb P w K mg base CX0 2 t.Nb t.Rb ["self","name"] (Rh t):=Jj T
 have G_bows_cross:Eb P w K mg base CX0 2 t.Ug t.Zg ["places","way","second"] (LD t):=OJ T
 refine T.mE.ok cx (fun vs H Q E h=>?_) (fun cdv A outer s H vs Q E hr h=>?_)
 ·obtain ⟨c,n,ds,i,j,d,e,rfl,_⟩:=h;rfl
 obtain ⟨c,n,ds,i,j,d,e,rfl,C,hn,hd,he,nt,q⟩:=h
 obtain ⟨_,dx,wl,nd,e1,e2,e3⟩:=id C
 refine ⟨_,(db (kc (i:=3) cx.nd rfl (Or.inl rfl) (md (pv 0) T.Ib T.xc G_Crossing_called hr T.wc .nil dc (bb (pv 1) fb)))
   (db (kc (i:=4) cx.nd rfl (Or.inl rfl) (md (pv 0) T.Ib T.xc G_Crossing_called hr T.wc .nil dc (bb (pv 2) fb)))
   (gb (Db (QL (Oe ij (zc (pv 3) rfl) (zc (pv 4) rfl) (Lc _)) (yv (Jb G_bows_cross hr rfl T.bw T.pj.kp T.ow .nil dc (bb (zc (pv 0) rfl) (bb (pv 3) (bb (pv 4) fb)))))))))),?_⟩
 rw [tO] at q
 (walk_at "RD")
 refine ⟨_,_,e1,Yx _ _ _ (by decide +kernel),⟨c,n,ds,i,d,rfl,C,hd,fun a Wa=>?_⟩⟩
 (walk_at "RD")
 refine ⟨_,_,e1,Yx _ _ _ (by decide +kernel),⟨c,n,ds,j,e,rfl,C,he,fun b Wb=>?_⟩⟩
 (walk_at "RD")
 refine ⟨_,Wa.f_end T,_,Wb.f_end T,rfl,?_⟩
 (walk_at "RD")
 by_cases c1:d.fin=e.fin
 ·rw [if_pos (decide_eq_true c1)]
  rw [decide_eq_true c1,Bool.true_or] at q
  exact q
 ·rw [if_neg (by simpa using c1)]
  rw [decide_eq_false c1,Bool.false_or] at q
  exact ⟨_,SF T e1,⟨a,b,d,e,n,rfl,Wa,Wb,hn,nt,q⟩⟩
end
noncomputable def GH (t:Adr):Sp:=fun vs H Q _=>∃ c n ds,∃ i j:Nat,∃ d e,vs=[.ref c,.str d.name,.str e.name]∧Ac t H c n ds∧ds[i]? = some d∧ds[j]? = some e∧Q (.int (if d.off - e.near > 0 then d.off - e.near else 0)) H
section
variable {P:Program} {w:World} {K:PySem.W.Frag} {mg:Str→Option Value} {base:Heap} {t:Adr}
theorem kM (T:Txt w K mg t):Eb P w K mg base CX0 3 t.bF t.xF ["crossing","one","other"] (GH t):=by
 have G_Crossing_called:Eb P w K mg base CX0 2 t.Nb t.Rb ["self","name"] (Rh t):=Jj T
 refine T.KI.ok bE (fun vs H Q E h=>?_) (fun cdv A outer s H vs Q E hr h=>?_)
 ·obtain ⟨c,n,ds,i,j,d,e,rfl,_⟩:=h;rfl
 obtain ⟨c,n,ds,i,j,d,e,rfl,C,hd,he,q⟩:=h
 obtain ⟨_,dx,wl,nd,e1,e2,e3⟩:=id C
 refine ⟨_,(db (kc (i:=3) bE.nd rfl (Or.inl rfl) (md (pv 0) T.Ib T.xc G_Crossing_called hr T.wc .nil dc (bb (pv 1) fb)))
   (db (kc (i:=4) bE.nd rfl (Or.inl rfl) (md (pv 0) T.Ib T.xc G_Crossing_called hr T.wc .nil dc (bb (pv 2) fb)))
   (gb (Db (fc (vE rfl) rfl T.ON gA (bb xb (bb (Ic yk (zc (pv 3) rfl) (zc (pv 4) rfl)) fb))))))),?_⟩
 (walk_at "RD")
 refine ⟨_,_,e1,Yx _ _ _ (by decide +kernel),⟨c,n,ds,i,d,rfl,C,hd,fun a Wa=>?_⟩⟩
 (walk_at "RD")
 refine ⟨_,_,e1,Yx _ _ _ (by decide +kernel),⟨c,n,ds,j,e,rfl,C,he,fun b Wb=>?_⟩⟩
 (walk_at "RD")
 refine ⟨_,Wa.f_off T,_,Wb.f_near T,?_⟩
 (walk_at "RD")
 exact q
end
end My
namespace My
open PySem L2
structure SD where
 name:Str
 b:Int
 n:Int
noncomputable def sdO (d:SD):HO:=.tup [.str d.name,.int d.b,.int d.n]
noncomputable def prO (p:Int × Int):HO:=.tup [.int p.1,.int p.2]
noncomputable def ofN (x:Str) (sp:List SD):List (Int × Int):=(sp.filter fun d=>decide (d.name=x)).map fun d=>(d.b,d.n)
noncomputable def LQ (H:Hp) (qs:List Addr) (os:List HO):Prop:=qs.length=os.length∧∀ (i:Nat) (q:Addr) (o:HO),qs[i]? = some q→os[i]? = some o→H q=some o
noncomputable def LO (H:Hp) (p:Addr) (os:List HO):Prop:=∃ qs:List Addr,H p=some (.lst (qs.map V.ref))∧LQ H qs os
theorem LQ.same {H H':Hp} {qs:List Addr} {os:List HO} (h:LQ H qs os) (s:Xb H H'):LQ H' qs os:=⟨h.1,fun i q o h1 h2=>s _ _ (h.2 i q o h1 h2)⟩
theorem LO.same {H H':Hp} {p:Addr} {os:List HO} (h:LO H p os) (s:Xb H H'):LO H' p os:=by
 obtain ⟨qs,e,q⟩:=h
 exact ⟨qs,s _ _ e,q.same s⟩
theorem LQ.nil (H:Hp):LQ H [] []:=⟨rfl,fun i q o h _=>by simp at h⟩
theorem LQ.app {H:Hp} {qs qs':List Addr} {os os':List HO} (h:LQ H qs os) (h':LQ H qs' os'):LQ H (qs ++ qs') (os ++ os'):=by
 refine ⟨by rw [List.length_append,List.length_append,h.1,h'.1],fun i q r h1 h2=>?_⟩
 rw [List.getElem?_append] at h1 h2
 rw [h.1] at h1
 by_cases c:i < os.length
 ·rw [if_pos c] at h1 h2;exact h.2 i q r h1 h2
 ·rw [if_neg c] at h1 h2;exact h'.2 _ q r h1 h2
theorem LQ.one {H:Hp} {p:Addr} {o:HO} (e:H p=some o):LQ H [p] [o]:=⟨rfl,fun i q r' h1 h2=>by
 match i,h1,h2 with
 | 0,h1,h2=>cases h1;cases h2;exact e
 | i + 1,h1,_=>simp at h1⟩
theorem LQ.at {H:Hp} {qs:List Addr} {os:List HO} (h:LQ H qs os) {i:Nat} {q:Addr} (hq:qs[i]? = some q):∃ o,os[i]? = some o∧H q=some o:=by
 have hi:i < os.length:=by rw [← h.1];exact (List.getElem?_eq_some_iff.mp hq).1
 exact ⟨_,List.getElem?_eq_getElem hi,h.2 i q _ hq (List.getElem?_eq_getElem hi)⟩
theorem KF (x:Str) (sp:List SD) (d:SD):ofN x (sp ++ [d])=ofN x sp ++ if d.name=x then [(d.b,d.n)] else []:=by
 unfold ofN
 rw [List.filter_append,List.map_append]
 congr 1
 by_cases c:d.name=x
 ·rw [if_pos c,List.filter_cons_of_pos (by simpa using c)];rfl
 ·rw [if_neg c,List.filter_cons_of_neg (by simpa using c)];rfl
theorem iC (x:Str) (sp:List SD):(ofN x sp).length ≤ sp.length:=by
 unfold ofN
 rw [List.length_map]
 exact List.length_filter_le _ _
theorem wj {α:Type} {xs:List α} {i:Nat} {x:α} (h:xs[i]? = some x):xs.take (i + 1)=xs.take i ++ [x]:=by
 rw [List.take_add_one,h];rfl
noncomputable def xJ {α:Type} (z:Int) (v:α) (l:List α) (i:Int):List α:=l.set (i % z).toNat v
noncomputable def Uy {α:Type} (z:Int) (v:α) (b:Int):Nat→List α→List α
 | 0,l=>l
 | k + 1,l=>xJ z v (Uy z v b k l) (b + k)
noncomputable def Ox {α:Type} (z:Int) (v:α) (b:Int):Nat→List α→List α
 | 0,l=>l
 | k + 1,l=>xJ z v (Ox z v b k l) (b - 1 - k)
theorem vy {α:Type} (z:Int) (v:α) (l:List α) (i:Int):(xJ z v l i).length=l.length:=by unfold xJ;rw [List.length_set]
theorem Yg {α:Type} (z:Int) (v:α) (b:Int) (k:Nat) (l:List α):(Uy z v b k l).length=l.length:=by
 induction k with
 | zero=>rfl
 | succ k ih=>unfold Uy;rw [vy,ih]
theorem rm {α:Type} (z:Int) (v:α) (b:Int) (k:Nat) (l:List α):(Ox z v b k l).length=l.length:=by
 induction k with
 | zero=>rfl
 | succ k ih=>unfold Ox;rw [vy,ih]
noncomputable def fmF (z:Nat) (ps:List (Int × Int)):List Bool:=ps.foldl (fun l p=>Uy z true p.1 p.2.toNat l) (List.replicate z false)
noncomputable def jF (z rd fd:Nat) (l:List Str) (p:Int × Int):List Str:=Uy z (Str.ofString "fade") (p.1 + p.2) fd (Uy z (Str.ofString "free") p.1 p.2.toNat (Ox z (Str.ofString "ready") p.1 rd l))
noncomputable def cj (z rd fd:Nat) (ps:List (Int × Int)):List Str:=ps.foldl (jF z rd fd) (List.replicate z (Str.ofString "stop"))
theorem BK {z:Nat} {ps:List (Int × Int)} {i:Nat} {p:Int × Int} (h:ps[i]? = some p):fmF z (ps.take (i + 1))=Uy z true p.1 p.2.toNat (fmF z (ps.take i)):=by
 unfold fmF;rw [wj h,List.foldl_append];rfl
theorem fE {z rd fd:Nat} {ps:List (Int × Int)} {i:Nat} {p:Int × Int} (h:ps[i]? = some p):cj z rd fd (ps.take (i + 1))=jF z rd fd (cj z rd fd (ps.take i)) p:=by
 unfold cj;rw [wj h,List.foldl_append];rfl
theorem ul (z:Nat) (ps:List (Int × Int)):(fmF z ps).length=z:=by
 unfold fmF
 suffices h:∀ l:List Bool,l.length=z→(ps.foldl (fun l p=>Uy z true p.1 p.2.toNat l) l).length=z from h _ (List.length_replicate ..)
 induction ps with
 | nil=>exact fun l h=>h
 | cons p ps ih=>exact fun l h=>ih _ (by rw [Yg];exact h)
theorem km (z rd fd:Nat) (ps:List (Int × Int)):(cj z rd fd ps).length=z:=by
 unfold cj
 suffices h:∀ l:List Str,l.length=z→(ps.foldl (jF z rd fd) l).length=z from h _ (List.length_replicate ..)
 induction ps with
 | nil=>exact fun l h=>h
 | cons p ps ih=>exact fun l h=>ih _ (by unfold jF;rw [Yg,Yg,rm];exact h)
noncomputable def dL (z:Int) (sp:List SD):Prop:=sp.length ≤ 100∧∀ d ∈ sp,0 ≤ d.b∧d.b < 1000∧0 ≤ d.n∧d.n < 1000
theorem iE {x:Str} {sp:List SD} {p:Int × Int} (h:p ∈ ofN x sp):∃ d ∈ sp,d.name=x∧p=(d.b,d.n):=by
 unfold ofN at h
 obtain ⟨d,hd,rfl⟩:=List.mem_map.mp h
 have:=List.mem_filter.mp hd
 exact ⟨d,this.1,by simpa using this.2,rfl⟩
theorem tM {m:Nat} (h:0 < m) (i:Int):ixN m (i % (m:Int))=some (i % (m:Int)).toNat:=by
 have h1:=Int.emod_nonneg i (show (m:Int) ≠ 0 by omega)
 have h2:=Int.emod_lt_of_pos i (show 0 < (m:Int) by omega)
 unfold ixN
 rw [if_pos h1,if_pos h2]
theorem kz {α β:Type} (f:α→β) {l:List α} {z:Nat} (h:l.length=z) (hz:0 < z) (i:Int):ixN (l.map f).length (i % (z:Int))=some (i % (z:Int)).toNat:=by
 rw [List.length_map,h];exact tM hz i
theorem UD (d:WD):0 ≤ Sd d∧Sd d ≤ 2:=by
 unfold Sd;split <;> omega
theorem wG {d:WD} (h:0 ≤ d.off∧d.off ≤ 1000):0 ≤ Lg d∧Lg d ≤ 1000:=by
 unfold Lg;split <;> omega
theorem BN {d:WD} {m:Str} (h:Yr.contains m=false):(Ho d).lookup m=none:=am Yr (wt _) h
noncomputable def kf (l:List Bool):List V:=l.map V.bl
theorem Xo {α β:Type} (f:α→β) (z:Int) (v:α) (l:List α) (i:Int):(l.map f).set (i % z).toNat (f v)=(xJ z v l i).map f:=by
 unfold xJ;rw [List.map_set]
noncomputable def Qp:Sp:=fun vs H Q _=>∃ p x sp,vs=[.ref p,.str x]∧LO H p (List.map sdO sp)∧sp.length ≤ 100∧∀ r H',Xb H H'→(NoT H→NoT H')→LO H' r ((ofN x sp).map prO)→Q (.ref r) H'
noncomputable def YI:Sp:=fun vs H Q _=>∃ (z:Nat) (p:Addr) (x:Str) (sp:List SD),vs=[.int z,.ref p,.str x]∧(0 < z∧z ≤ 1000)∧LO H p (List.map sdO sp)∧dL z sp∧∀ r H',Xb H H'→(NoT H→NoT H')→H r=none→H' r=some (.lst (kf (fmF z (ofN x sp))))→Q (.ref r) H'
noncomputable def QC (t:Adr):Sp:=fun vs H Q _=>∃ (a:Addr) (d:WD) (z:Nat) (p:Addr) (sp:List SD),vs=[.ref a,.int z,.ref p]∧(0 < z∧z ≤ 1000)∧de t H a d∧LO H p (List.map sdO sp)∧dL z sp∧(0 ≤ d.off∧d.off ≤ 1000)∧∀ r H',Xb H H'→(NoT H→NoT H')→H r=none→H' r=some (.lst (bc (cj z (Sd d).toNat (Lg d).toNat (ofN d.name sp))))→Q (.ref r) H'
noncomputable def We (m:List Bool):Nat→Int
 | 0=>0
 | k + 1=>if m[(2 * m.length - 1 - k) % m.length]? = some true then 0 else We m k + 1
noncomputable def Vm (m:List Bool):List Int:=(List.range m.length).map fun t=>We m (2 * m.length - t)
noncomputable def xt (m:List Bool) (k:Nat):List Int:=(List.range k).map fun j=>We m (m.length + j + 1)
theorem Rz (m:List Bool):(xt m m.length).reverse=Vm m:=by
 unfold xt Vm
 refine List.ext_getElem (by simp) (fun i h1 h2=>?_)
 simp at h1
 simp
 congr 1
 omega
noncomputable def Yi (m:List Bool):List Int:=(Vm m.reverse).reverse
noncomputable def Lu:Sp:=fun vs H Q _=>∃ (p:Addr) (m:List Bool),vs=[.ref p]∧H p=some (.lst (kf m))∧(0 < m.length∧m.length ≤ 1000)∧∀ r H',Xb H H'→(NoT H→NoT H')→H r=none→H' r=some (.lst ((Vm m).map V.int))→Q (.ref r) H'
noncomputable def Dy:Sp:=fun vs H Q _=>∃ (p:Addr) (m:List Bool),vs=[.ref p]∧H p=some (.lst (kf m))∧(0 < m.length∧m.length ≤ 1000)∧∀ r H',Xb H H'→(NoT H→NoT H')→H r=none→H' r=some (.lst ((Yi m).map V.int))→Q (.ref r) H'
section
variable {P:Program} {w:World} {K:PySem.W.Frag} {mg:Str→Option Value} {base:Heap} {t:Adr}
theorem cu (T:Txt w K mg t):Eb P w K mg base CX0 1 t.zf t.pf ["spans","name"] Qp:=by
 refine T.yg.ok Gx (fun vs H Q E h=>?_) (fun cdv A outer s H vs Q E hr h=>?_)
 ·obtain ⟨p,x,sp,rfl,_⟩:=h;rfl
 obtain ⟨p,x,sp,rfl,⟨qs,l1,lq⟩,hl,q⟩:=h
 refine ⟨_,(gb (Db (Ij rfl (Me (pv 0)) (Ud (sc:=jb dn) rfl (by decide +kernel)) (N:=["called","begin","turns","name"]) (sel:=[none,none,none,some 1]) (Ie (M:=["spans","name"]) (by decide +kernel)) (Blk.of (fun _ _ _ _=>(xf (K:=K) (n:=3) rfl rfl (Ob (Bb (i:=0) (Ai (N:=["called","begin","turns","name"]) (by decide +kernel) rfl) rfl (Or.inl rfl) (.inr rfl)) (Ob (Bb (i:=1) (Ai (N:=["called","begin","turns","name"]) (by decide +kernel) rfl) rfl (Or.inl rfl) (.inr rfl)) (Ob (Bb (i:=2) (Ai (N:=["called","begin","turns","name"]) (by decide +kernel) rfl) rfl (Or.inl rfl) (.inr rfl)) lf))))) (fun _ _ _ _=>⟨_,(CB (Pc ij (pv 0) (pv 3) (Lc _))),by first | rfl | (dsimp only [Cx.block];done) | (dsimp only [Cx.block];exact rfl)⟩) (fun _ _ _ _=>⟨_,(ze (bb (pv 1) (bb (pv 2) fb))),by first | rfl | (dsimp only [Cx.block];done) | (dsimp only [Cx.block];exact rfl)⟩))))),?_⟩
 (walk_at "RD")
 have hql:qs.length=sp.length:=by rw [lq.1,List.length_map]
 refine ⟨⟨_,SqL.of l1⟩,?_⟩
 refine Xd.list (xs:=qs.map V.ref) (fun i ys H'=>∃ os:List Addr,ys=os.map V.ref∧LQ H' os ((ofN x (sp.take i)).map prO)∧Xb H H'∧(NoT H→NoT H')) (Nat.le_trans (show (qs.map V.ref).length ≤ 100 by rw [List.length_map];omega) (by decide)) ⟨[],rfl,LQ.nil _,Xb.refl _,id⟩ ?_ ?_ ?_
 ·rintro i ys H' hi ⟨os,rfl,r,sm,_⟩
  refine ⟨(SqL.of l1).same sm,?_⟩
  rw [List.length_map,r.1,List.length_map]
  exact Nat.le_trans (iC _ _) (by rw [List.length_take];omega)
 ·rintro i v ys H' hv ⟨os,rfl,r,sm,nt⟩ N hN
  obtain ⟨qi,hqi,rfl⟩:=Ec hv
  obtain ⟨o,ho,e⟩:=lq.at hqi
  obtain ⟨d,hd,rfl⟩:=Ec ho
  have e':=sm _ _ e
  (walk_at "RD")
  refine ⟨_,SqT.of e',rfl,_,_,rfl,_,_,rfl,_,_,rfl,rfl,Sub.name3,rfl,?_⟩
  dsimp only at hN
  rw [wj hd,KF,List.map_append] at hN
  by_cases c:d.name=x
  ·rw [if_pos c] at hN
   rw [if_pos (by rw [c];exact decide_eq_true rfl)]
   refine ⟨by decide,fun p1 hp1=>hN _ _ ⟨os ++ [p1],by rw [List.map_append];rfl,(r.same (ib hp1)).app (LQ.one cb),sm.trans (ib hp1),fun n=>(nt n).upd⟩⟩
  ·rw [if_neg c] at hN
   rw [if_neg (by rw [decide_eq_true_eq];intro z;exact c (V.str.inj z))]
   exact hN _ _ ⟨os,rfl,by rw [List.map_nil,List.append_nil];exact r,sm,nt⟩
 ·rintro ys H' ⟨os,rfl,r,sm,nt⟩ p1 hp1
  rw [List.take_of_length_le (by rw [List.length_map];omega)] at r
  exact q _ _ (sm.trans (ib hp1)) (fun n=>(nt n).upd) ⟨os,cb,r.same (ib hp1)⟩
theorem GM (T:Txt w K mg t):Eb P w K mg base CX0 2 t.dg t.Vf ["size","spans","name"] YI:=by
 have G_spans_of:Eb P w K mg base CX0 1 t.zf t.pf ["spans","name"] Qp:=cu T
 refine T.Ah.ok Ue (fun vs H Q E h=>?_) (fun cdv A outer s H vs Q E hr h=>?_)
 ·obtain ⟨z,p,x,sp,rfl,_⟩:=h;rfl
 obtain ⟨z,p,x,sp,rfl,hz,L,hs,q⟩:=h
 refine ⟨_,(db (Yj (i:=3) Ue.nd rfl (Or.inl rfl) rfl (Be rfl T.Ig (bb (pv 0) fb)) (Ud (sc:=jb Ej) rfl (by decide +kernel)) (N:=["turn"]) (sel:=[none]) (Ie (M:=["size","spans","name","marks","begin","turns","step"]) (by decide +kernel)) (Blk.of (fun _ _ _ _=>(Bb (i:=0) (Ai (N:=["turn"]) (by decide +kernel) rfl) rfl (Or.inl rfl))) (fun _ _ _ _=>⟨_,Mh,by first | rfl | (dsimp only [Cx.block];done) | (dsimp only [Cx.block];exact rfl)⟩) (fun _ _ _ _=>⟨_,Tu,by first | rfl | (dsimp only [Cx.block];done) | (dsimp only [Cx.block];exact rfl)⟩)) rfl)
   (db (De PassesOwn.never rfl (Me (Jb G_spans_of hr rfl T.Qj T.yg.kp T.Uj .nil dc (bb (pv 1) (bb (pv 2) fb)))) (xf (K:=K) (n:=2) rfl rfl (Ob (Bb (i:=4) Ue.nd rfl (Or.inl rfl) (.inl rfl)) (Ob (Bb (i:=5) Ue.nd rfl (Or.inl rfl) (.inl rfl)) lf))) (gb (De PassesOwn.never rfl (Be rfl T.Ig (bb (pv 5) fb)) (Bb (i:=6) Ue.nd rfl (Or.inl rfl)) (gb (Jt Tu (By (pv 3) (Ic Xh (Ic cg (pv 4) (pv 6)) (pv 0)) gp))))))
   (gb (Db (pv 3))))),?_⟩
 (walk_at "RD")
 obtain ⟨hz0,hz1⟩:=hz
 obtain ⟨hs1,hs2⟩:=hs
 refine ⟨by omega,by omega,?_⟩
 refine Xd.range_map (fun _=>V.bl false) (Nat.le_trans (show (z:Int).toNat ≤ 1000 by omega) (by decide)) (fun i N hi hN=>?_) (fun mk hmk=>?_)
 ·(walk_at "RD")
  exact ⟨Sub.name,hN⟩
 rw [show (List.range (z:Int).toNat).map (fun _=>V.bl false)=kf (fmF z []) by
  unfold kf fmF;rw [List.foldl_nil,List.map_replicate];exact List.ext_getElem (by simp) (by simp)]
 refine ⟨p,x,sp,rfl,L.same (ib hmk),hs1,fun r H1 s1 nt1 L1=>⟨r,rfl,?_⟩⟩
 obtain ⟨qs,l1,lq⟩:=L1
 refine ⟨⟨_,SqL.of l1⟩,?_⟩
 have hmk1:H1 mk=some (.lst (kf (fmF z []))):=s1 _ _ cb
 have hrm:r ≠ mk:=fun e=>by
  subst e
  rw [l1] at hmk1
  injection hmk1 with e1
  injection e1 with e2
  have e3:=congrArg List.length e2
  cases qs with
  | nil=>simp [kf,ul] at e3;omega
  | cons a qs=>
   have:(kf (fmF z []))[0]? = some (V.ref a):=by rw [← e2];rfl
   unfold kf at this
   rw [List.getElem?_map] at this
   cases hh:(fmF z [])[0]? with
   | none=>rw [hh] at this;cases this
   | some b=>rw [hh] at this;cases this
 refine sj.list (xs:=qs.map V.ref) (fun i σ H'=>(∃ a b c,σ=[some (V.int z),some (V.ref p),some (V.str x),some (V.ref mk),a,b,c])∧Vc mk H1 H'∧(NoT H→NoT H')∧H' mk=some (.lst (kf (fmF z ((ofN x sp).take i))))) ?_ ?_ ?_ ?_
 ·exact ⟨⟨_,_,_,rfl⟩,fun b u _ e=>e,fun n=>nt1 n.upd,hmk1⟩
 ·rintro i σ H' hi ⟨_,sx,_,_⟩
  exact SqL.of (sx _ _ hrm l1)
 ·rintro i v σ H' hv ⟨⟨a,b,c,rfl⟩,sx,nt',hm⟩
  obtain ⟨qi,hqi,rfl⟩:=Ec hv
  obtain ⟨o,ho,e⟩:=lq.at hqi
  obtain ⟨d,hd,rfl⟩:=Ec ho
  obtain ⟨sd,hsd,hsn,rfl⟩:=iE (List.mem_of_getElem? hd)
  have hb:=hs2 sd hsd
  have e':=sx _ _ (Bg e hmk1 (by intro z;cases z)) e
  (walk_at "RD")
  refine ⟨_,SqT.of e',rfl,_,_,rfl,_,_,rfl,rfl,_,rfl,(by dsimp only;omega),(by dsimp only;omega),?_⟩
  rw [BK hd]
  refine sj.range (fun k σ H'=>(∃ c,σ=[some (V.int z),some (V.ref p),some (V.str x),some (V.ref mk),some (V.int sd.b),some (V.int sd.n),c])∧Vc mk H1 H'∧(NoT H→NoT H')∧H' mk=some (.lst (kf (Uy z true sd.b k (fmF z ((ofN x sp).take i)))))) ?_ ?_ ?_
  ·exact ⟨⟨_,rfl⟩,sx,nt',hm⟩
  ·rintro k σ H2 hk ⟨⟨c,rfl⟩,sx2,nt2,hm2⟩
   (walk_at "RD")
   refine ⟨by omega,_,hm2,_,kz V.bl (by rw [Yg,ul]) hz0 _,⟨_,rfl⟩,fun b u hb e=>by rw [lb hb];exact sx2 _ _ hb e,fun n=>(nt2 n).upd,?_⟩
   rw [cb]
   unfold kf
   rw [Xo V.bl]
   rfl
  ·rintro σ H2 ⟨⟨c,rfl⟩,sx2,nt2,hm2⟩
   exact ⟨⟨_,_,_,rfl⟩,sx2,nt2,hm2⟩
 ·rintro σ H' ⟨⟨a,b,c,rfl⟩,sx,nt',hm⟩
  (walk_at "RD")
  rw [List.take_of_length_le (by rw [List.length_map,lq.1,List.length_map];exact Nat.le_refl _)] at hm
  exact q _ _ (re ((ib hmk).trans s1) sx hmk) nt' hmk hm
theorem wK (T:Txt w K mg t):Eb P w K mg base CX0 2 t.Vy t.oz ["way","size","spans"] (QC t):=by
 have G_spans_of:Eb P w K mg base CX0 1 t.zf t.pf ["spans","name"] Qp:=cu T
 have V_Way_ready:uG P w K mg base CX0 1 (isW t) "ready" ["self"] (ci t):=kC T
 have V_Way_fade:uG P w K mg base CX0 1 (isW t) "fade" ["self"] (Vj t):=uI T
 refine T.TB.ok Fl (fun vs H Q E h=>?_) (fun cdv A outer s H vs Q E hr h=>?_)
 ·obtain ⟨a,d,z,p,sp,rfl,_⟩:=h;rfl
 obtain ⟨a,d,z,p,sp,rfl,⟨hz0,hz1⟩,W,L,⟨hs1,hs2⟩,hoff,q⟩:=h
 refine ⟨_,(db (Yj (i:=3) Fl.nd rfl (Or.inl rfl) rfl (Be rfl T.Ig (bb (pv 1) fb)) (Ud (sc:=jb QB) rfl (by decide +kernel)) (N:=["turn"]) (sel:=[none]) (Ie (M:=["way","size","spans","shown","begin","turns","step"]) (by decide +kernel)) (Blk.of (fun _ _ _ _=>(Bb (i:=0) (Ai (N:=["turn"]) (by decide +kernel) rfl) rfl (Or.inl rfl))) (fun _ _ _ _=>⟨_,Mh,by first | rfl | (dsimp only [Cx.block];done) | (dsimp only [Cx.block];exact rfl)⟩) (fun _ _ _ _=>⟨_,Gd,by first | rfl | (dsimp only [Cx.block];done) | (dsimp only [Cx.block];exact rfl)⟩)) rfl)
   (db (De PassesOwn.never rfl (Me (Jb G_spans_of hr rfl T.Qj T.yg.kp T.Uj .nil dc (bb (pv 2) (bb (zc (pv 0) rfl) fb)))) (xf (K:=K) (n:=2) rfl rfl (Ob (Bb (i:=4) Fl.nd rfl (Or.inl rfl) (.inl rfl)) (Ob (Bb (i:=5) Fl.nd rfl (Or.inl rfl) (.inl rfl)) lf))) (db (De PassesOwn.never rfl (Be rfl T.Ig (bb (Em (pv 0) V_Way_ready hr dc) fb)) (Bb (i:=6) Fl.nd rfl (Or.inl rfl)) (gb (Jt Gd (By (pv 3) (Ic Xh (Ic yk (Ic yk (pv 4) xb) (pv 6)) (pv 1)) gp))))
   (db (De PassesOwn.never rfl (Be rfl T.Ig (bb (pv 5) fb)) (Bb (i:=6) Fl.nd rfl (Or.inl rfl)) (gb (Jt Gd (By (pv 3) (Ic Xh (Ic cg (pv 4) (pv 6)) (pv 1)) gp))))
   (gb (De PassesOwn.never rfl (Be rfl T.Ig (bb (Em (pv 0) V_Way_fade hr dc) fb)) (Bb (i:=6) Fl.nd rfl (Or.inl rfl)) (gb (Jt Gd (By (pv 3) (Ic Xh (Ic cg (Ic cg (pv 4) (pv 5)) (pv 6)) (pv 1)) gp))))))))
   (gb (Db (pv 3))))),?_⟩
 (walk_at "RD")
 refine ⟨by omega,by omega,?_⟩
 refine Xd.range_map (fun _=>V.str (Str.ofString "stop")) (Nat.le_trans (show (z:Int).toNat ≤ 1000 by omega) (by decide)) (fun i N hi hN=>?_) (fun mk hmk=>?_)
 ·(walk_at "RD")
  exact ⟨Sub.name,hN⟩
 rw [show (List.range (z:Int).toNat).map (fun _=>V.str (Str.ofString "stop"))=bc (cj z (Sd d).toNat (Lg d).toNat []) by
  unfold bc cj;rw [List.foldl_nil,List.map_replicate];exact List.ext_getElem (by simp) (by simp)]
 have hrd:=UD d
 have hfd:=wG hoff
 obtain ⟨dk,dx,hway⟩:=id W
 have w0:∀ {H':Hp},Vc mk (upd H mk (.lst (bc (cj z (Sd d).toNat (Lg d).toNat [])))) H'→H' a=some (.ins (t.cw d.k) dx (Ho d)):=fun sx=>sx _ _ (qb hway hmk) ((ib hmk) _ _ hway)
 refine ⟨_,(W.same (ib hmk)).f_name T,p,d.name,sp,rfl,L.same (ib hmk),hs1,fun r H1 s1 nt1 L1=>⟨r,rfl,?_⟩⟩
 obtain ⟨qs,l1,lq⟩:=L1
 refine ⟨⟨_,SqL.of l1⟩,?_⟩
 have hmk1:H1 mk=some (.lst (bc (cj z (Sd d).toNat (Lg d).toNat []))):=s1 _ _ cb
 have hrm:r ≠ mk:=fun e=>by
  subst e
  rw [l1] at hmk1
  injection hmk1 with e1
  injection e1 with e2
  have e3:=congrArg List.length e2
  cases qs with
  | nil=>simp [bc,km] at e3;omega
  | cons a qs=>
   have:(bc (cj z (Sd d).toNat (Lg d).toNat []))[0]? = some (V.ref a):=by rw [← e2];rfl
   unfold bc at this
   rw [List.getElem?_map] at this
   cases hh:(cj z (Sd d).toNat (Lg d).toNat [])[0]? with
   | none=>rw [hh] at this;cases this
   | some b=>rw [hh] at this;cases this
 have wx:∀ {H':Hp},Vc mk H1 H'→de t H' a d:=fun sx=>⟨dk,dx,sx _ _ (qb hway hmk) (s1 _ _ ((ib hmk) _ _ hway))⟩
 refine sj.list (xs:=qs.map V.ref) (fun i σ H'=>(∃ a1 b c,σ=[some (V.ref a),some (V.int z),some (V.ref p),some (V.ref mk),a1,b,c])∧Vc mk H1 H'∧(NoT H→NoT H')∧H' mk=some (.lst (bc (cj z (Sd d).toNat (Lg d).toNat ((ofN d.name sp).take i))))) ?_ ?_ ?_ ?_
 ·exact ⟨⟨_,_,_,rfl⟩,fun b u _ e=>e,fun n=>nt1 n.upd,hmk1⟩
 ·rintro i σ H' hi ⟨_,sx,_,_⟩
  exact SqL.of (sx _ _ hrm l1)
 ·rintro i v σ H' hv ⟨⟨a1,b,c,rfl⟩,sx,nt',hm⟩
  obtain ⟨qi,hqi,rfl⟩:=Ec hv
  obtain ⟨o,ho,e⟩:=lq.at hqi
  obtain ⟨dd,hd,rfl⟩:=Ec ho
  obtain ⟨sd,hsd,hsn,rfl⟩:=iE (List.mem_of_getElem? hd)
  have hb:=hs2 sd hsd
  have e':=sx _ _ (Bg e hmk1 (by intro z;cases z)) e
  have W1:=wx sx
  obtain ⟨_,dx1,hw1⟩:=id W1
  (walk_at "RD")
  refine ⟨_,SqT.of e',rfl,_,_,rfl,_,_,rfl,rfl,_,_,_,hw1,⟨_,dk,rfl⟩,BN (by decide +kernel),_,d,rfl,W1,rfl,_,rfl,by omega,by omega,?_⟩
  rw [fE hd]
  refine sj.range (fun k σ H'=>(∃ c,σ=[some (V.ref a),some (V.int z),some (V.ref p),some (V.ref mk),some (V.int sd.b),some (V.int sd.n),c])∧Vc mk H1 H'∧(NoT H→NoT H')∧H' mk=some (.lst (bc (Ox z (Str.ofString "ready") sd.b k (cj z (Sd d).toNat (Lg d).toNat ((ofN d.name sp).take i)))))) ?_ ?_ ?_
  ·exact ⟨⟨_,rfl⟩,sx,nt',hm⟩
  ·rintro k σ H2 hk ⟨⟨c,rfl⟩,sx2,nt2,hm2⟩
   (walk_at "RD")
   refine ⟨by omega,_,hm2,_,kz V.str (by rw [rm,km]) hz0 _,⟨_,rfl⟩,fun b u hb e=>by rw [lb hb];exact sx2 _ _ hb e,fun n=>(nt2 n).upd,?_⟩
   rw [cb]
   unfold bc
   rw [Xo V.str]
   rfl
  rintro σ H2 ⟨⟨c,rfl⟩,sx2,nt2,hm2⟩
  (walk_at "RD")
  refine ⟨by omega,by omega,?_⟩
  refine sj.range (fun k σ H'=>(∃ c,σ=[some (V.ref a),some (V.int z),some (V.ref p),some (V.ref mk),some (V.int sd.b),some (V.int sd.n),c])∧Vc mk H1 H'∧(NoT H→NoT H')∧H' mk=some (.lst (bc (Uy z (Str.ofString "free") sd.b k (Ox z (Str.ofString "ready") sd.b (Sd d).toNat (cj z (Sd d).toNat (Lg d).toNat ((ofN d.name sp).take i))))))) ?_ ?_ ?_
  ·exact ⟨⟨_,rfl⟩,sx2,nt2,hm2⟩
  ·rintro k σ H2 hk ⟨⟨c,rfl⟩,sx2,nt2,hm2⟩
   (walk_at "RD")
   refine ⟨by omega,_,hm2,_,kz V.str (by rw [Yg,rm,km]) hz0 _,⟨_,rfl⟩,fun b u hb e=>by rw [lb hb];exact sx2 _ _ hb e,fun n=>(nt2 n).upd,?_⟩
   rw [cb]
   unfold bc
   rw [Xo V.str]
   rfl
  rintro σ H3 ⟨⟨c,rfl⟩,sx3,nt3,hm3⟩
  have W3:=wx sx3
  obtain ⟨_,dx3,hw3⟩:=id W3
  (walk_at "RD")
  refine ⟨_,_,_,hw3,⟨_,dk,rfl⟩,BN (by decide +kernel),_,d,rfl,W3,rfl,_,rfl,by omega,by omega,?_⟩
  refine sj.range (fun k σ H'=>(∃ c,σ=[some (V.ref a),some (V.int z),some (V.ref p),some (V.ref mk),some (V.int sd.b),some (V.int sd.n),c])∧Vc mk H1 H'∧(NoT H→NoT H')∧H' mk=some (.lst (bc (Uy z (Str.ofString "fade") (sd.b + sd.n) k (Uy z (Str.ofString "free") sd.b sd.n.toNat (Ox z (Str.ofString "ready") sd.b (Sd d).toNat (cj z (Sd d).toNat (Lg d).toNat ((ofN d.name sp).take i)))))))) ?_ ?_ ?_
  ·exact ⟨⟨_,rfl⟩,sx3,nt3,hm3⟩
  ·rintro k σ H2 hk ⟨⟨c,rfl⟩,sx2,nt2,hm2⟩
   (walk_at "RD")
   refine ⟨by omega,_,hm2,_,kz V.str (by rw [Yg,Yg,rm,km]) hz0 _,⟨_,rfl⟩,fun b u hb e=>by rw [lb hb];exact sx2 _ _ hb e,fun n=>(nt2 n).upd,?_⟩
   rw [cb]
   unfold bc
   rw [Xo V.str]
   rfl
  ·rintro σ H2 ⟨⟨c,rfl⟩,sx2,nt2,hm2⟩
   exact ⟨⟨_,_,_,rfl⟩,sx2,nt2,hm2⟩
 ·rintro σ H' ⟨⟨a1,b,c,rfl⟩,sx,nt',hm⟩
  (walk_at "RD")
  rw [List.take_of_length_le (by rw [List.length_map,lq.1,List.length_map];exact Nat.le_refl _)] at hm
  exact q _ _ (re ((ib hmk).trans s1) sx hmk) nt' hmk hm
theorem bz (T:Txt w K mg t):Eb P w K mg base CX0 1 t.Ae t.Ce ["marks"] Lu:=by
 refine T.Ff.ok Nd (fun vs H Q E h=>?_) (fun cdv A outer s H vs Q E hr h=>?_)
 ·obtain ⟨p,m,rfl,_⟩:=h;rfl
 obtain ⟨p,m,rfl,hm,hl,q⟩:=h
 refine ⟨_,(db (kc (i:=1) Nd.nd rfl (Or.inl rfl) (fc Qe rfl T.Nx yf (bb (pv 0) fb)))
   (db (kc (i:=2) Nd.nd rfl (Or.inl rfl) xb)
   (db (kc (i:=3) Nd.nd rfl (Or.inl rfl) (Og fb))
   (db (De PassesOwn.never rfl (vD rfl T.Ig (bb (Ic yk (Ic yt xb (pv 1)) xb) (bb (jM kI xb) (bb (jM kI xb) fb)))) (Bb (i:=4) Nd.nd rfl (Or.inl rfl)) (db (kc (i:=2) Nd.nd rfl (Or.inl rfl) (qz (xh (gf Fd (pv 0) (Ic Xh (pv 4) (pv 1)) (fun _ _=>rfl))) xb (Ic cg (pv 2) xb)))
   (gb (qe (Pc Ax (pv 4) (pv 1) (Lc _)) (gb (ac (JC PySem.F.plainAttrs_list PySem.F.slot_list_append PySem.F.type_list_append lp (pv 3) (bb (pv 2) fb)))) Zb))))
   (gb (Db (xn rfl rfl T.RB rfl T.bn (bb (pv 3) fb)))))))),?_⟩
 (walk_at "RD")
 refine ⟨_,.inl (SqL.of hm),Nat.zero_le _,fun u hu=>?_⟩
 have hbl:(kf m).length=m.length:=by unfold kf;rw [List.length_map]
 rw [hbl]
 refine ⟨by unfold gI;omega,by omega,by omega,by omega,by omega,?_⟩
 have hun:p ≠ u:=qb hm hu
 refine sj.of (n:=2 * m.length) (fun k σ H'=>(∃ x,σ=[some (V.ref p),some (V.int m.length),some (V.int (We m k)),some (V.ref u),x])∧Vc u H H'∧(NoT H→NoT H')∧H' u=some (.lst ((xt m (k - m.length)).map V.int))) ?_ (fun i σ H' hi _=>?_) (fun σ H' _=>?_) ?_ ?_
 ·exact ⟨⟨_,rfl⟩,fun b o hb e=>by rw [lb hb];exact e,fun n=>n.upd,by rw [cb,Nat.zero_sub];rfl⟩
 ·show i < _;omega
 ·show _ ≤ 2 * m.length;omega
 ·rintro k σ H'' v H' hk ⟨⟨x,rfl⟩,sx,nt',hu'⟩ ⟨rfl,rfl⟩
  have hjn:(2 * m.length - 1 - k) % m.length < m.length:=Nat.mod_lt _ hl.1
  have hmj:m[(2 * m.length - 1 - k) % m.length]? = some m[(2 * m.length - 1 - k) % m.length]:=List.getElem?_eq_getElem hjn
  have hj:((2 * m.length - 1 - k:Int)) % (m.length:Int)=(((2 * m.length - 1 - k) % m.length:Nat):Int):=by
   rw [Int.natCast_emod];congr 1;omega
  have hat:atI (kf m) ((2 * m.length - 1 - k:Int) % (m.length:Int))=some (V.bl m[(2 * m.length - 1 - k) % m.length]):=by
   rw [hj];exact yc (by unfold kf;rw [List.getElem?_map,hmj];rfl)
  have hst:We m (k + 1)=if m[(2 * m.length - 1 - k) % m.length]=true then 0 else We m k + 1:=by
   show (if m[(2 * m.length - 1 - k) % m.length]? = some true then 0 else We m k + 1)=_
   rw [hmj]
   simp
  simp only [um,wf,List.set_cons_succ,List.set_cons_zero]
  refine Ui (fun σ H4=>H4=H'∧σ=[some (V.ref p),some (V.int m.length),some (V.int (We m (k + 1))),some (V.ref u),some (V.int (2 * m.length - 1 - k))]) (fun D' hD _ _ _=>?_) ?_
  ·(walk_at "RD")
   refine ⟨by omega,_,SqL.of (sx _ _ hun hm),_,hat,_,rfl,?_⟩
   rw [hst] at hD
   by_cases c:m[(2 * m.length - 1 - k) % m.length]=true
   ·rw [if_pos c] at hD ⊢
    exact hD _ _ ⟨rfl,rfl⟩
   ·rw [if_neg c] at hD ⊢
    exact hD _ _ ⟨rfl,rfl⟩
  rintro σ H4 ⟨rfl,rfl⟩
  dsimp only
  refine Vb (decide ((2 * m.length - 1 - k:Int) < m.length)) (fun Q hQ=>?_) (fun hc=>?_) (fun hc=>?_)
  ·(walk_at "RD")
   exact hQ
  ·(walk_at "RD")
   have hc':=of_decide_eq_true hc
   refine ⟨.inl ⟨_,SqL.of hu'⟩,_,hu',Nat.lt_of_le_of_lt (show ((xt m (k - m.length)).map V.int).length ≤ 1000 by unfold xt;simp;omega) (by decide),⟨_,rfl⟩,fun b o hb e=>by rw [lb hb];exact sx _ _ hb e,fun n=>(nt' n).upd,?_⟩
   rw [cb,show k + 1 - m.length=k - m.length + 1 by omega]
   unfold xt
   rw [List.range_succ,List.map_append,List.map_append]
   simp only [List.map_cons,List.map_nil]
   rw [show m.length + (k - m.length) + 1=k + 1 by omega]
  ·(walk_at "RD")
   have hc':=of_decide_eq_false hc
   refine ⟨⟨_,rfl⟩,sx,nt',?_⟩
   rw [hu',show k - m.length=0 by omega,show k + 1 - m.length=0 by omega]
 ·rintro σ H' ⟨⟨x,rfl⟩,sx,nt',hu'⟩
  (walk_at "RD")
  refine ⟨_,SqL.of hu',fun l hl'=>?_⟩
  have hlu:l ≠ u:=fun z=>by subst z;rw [hu'] at hl';cases hl'
  refine q _ _ ((re (Xb.refl H) sx hu).trans (ib hl')) (fun n=>(nt' n).upd) ((re (Xb.refl H) sx hu).free hl') ?_
  rw [cb,show 2 * m.length - m.length=m.length by omega,← List.map_reverse,Rz]
theorem ZG (T:Txt w K mg t):Eb P w K mg base CX0 2 t.Jf t.Df ["marks"] Dy:=by
 have G_until_marked:Eb P w K mg base CX0 1 t.Ae t.Ce ["marks"] Lu:=bz T
 refine T.Gh.ok aq (fun vs H Q E h=>?_) (fun cdv A outer s H vs Q E hr h=>?_)
 ·obtain ⟨p,m,rfl,_⟩:=h;rfl
 obtain ⟨p,m,rfl,hm,hl,q⟩:=h
 refine ⟨_,(gb (Db (xn rfl rfl T.RB rfl T.bn (bb (Jb G_until_marked hr rfl T.Dk T.Ff.kp T.Rk .nil dc (bb (xn rfl rfl T.RB rfl T.bn (bb (pv 0) fb)) fb)) fb)))),?_⟩
 (walk_at "RD")
 refine ⟨_,SqL.of hm,fun l1 h1=>?_⟩
 refine ⟨l1,m.reverse,rfl,by rw [cb,kf,kf,List.map_reverse],by rw [List.length_reverse];exact hl,fun r H1 s1 nt1 hr1 hu=>⟨r,rfl,_,SqL.of hu,fun l2 h2=>?_⟩⟩
 refine q _ _ (((ib h1).trans s1).trans (ib h2)) (fun n=>(nt1 n.upd).upd) (((ib h1).trans s1).free h2) ?_
 rw [cb,← List.map_reverse]
 rfl
end
end My
namespace My
open PySem L2
noncomputable def mI (x:Str):Prop:=x.length ≤ 1000∧∀ c ∈ x.cps.toList,c < 16 ^ 8
noncomputable def pz (C:Addr) (fs:List (Str × V)) (H:Hp) (E:XK):Prop:=∀ dx H',Xb H H'→(NoT H→NoT H')→H' dx=some (.ext (XD dx fs))→E (.ref C) (some dx) H'
theorem pz.step {C:Addr} {fs:List (Str × V)} {H H1:Hp} {E:XK} (h:pz C fs H E) (s:Xb H H1) (n:NoT H→NoT H1):pz C fs H1 E:=fun dx H' s' n' e=>h dx H' (s.trans s') (fun z=>n' (n z)) e
noncomputable def DOk (ds:List WD):Prop:=∀ d ∈ ds,mI d.name∧0 ≤ d.off∧d.off ≤ 1000
noncomputable def Yh (ds:List WD) (sp:List SD):Option Str:=(ds.map (·.name)).find? fun x=>(ofN x sp).isEmpty
noncomputable def DH (t:Adr):Sp:=fun vs H Q _=>∃ x n,vs=[.ref x,.str n]∧mI n∧H x=some (.ext (XF x t.Kb none)) ∧
 ∀ dx,H dx=none→dx ≠ x→Q .non (upd (upd H x (.ext (XF x t.Kb (some dx)))) dx (.ext (XD dx [(Str.ofString "way",.str n)])))
noncomputable def KH (t:Adr):Sp:=fun vs H Q _=>∃ x n i,vs=[.ref x,.str n,.int i]∧mI n∧i.natAbs.log2 < 1920∧H x=some (.ext (XF x t.Gb none)) ∧
 ∀ dx,H dx=none→dx ≠ x→Q .non (upd (upd H x (.ext (XF x t.Gb (some dx)))) dx (.ext (XD dx [(Str.ofString "way",.str n),(Str.ofString "at",.int i)])))
noncomputable def zH (t:Adr):Sp:=fun vs H Q _=>∃ x n m i,vs=[.ref x,.str n,.str m,.int i]∧mI n∧mI m∧i.natAbs.log2 < 1920∧H x=some (.ext (XF x t.Fb none)) ∧
 ∀ dx,H dx=none→dx ≠ x→Q .non (upd (upd H x (.ext (XF x t.Fb (some dx)))) dx (.ext (XD dx [(Str.ofString "way",.str n),(Str.ofString "other",.str m),(Str.ofString "at",.int i)])))
noncomputable def Zu (t:Adr):Sp:=fun vs H Q E=>∃ c n ds p sp,vs=[.ref c,.ref p]∧Ac t H c n ds∧DOk ds∧LO H p (List.map sdO sp)∧sp.length ≤ 100 ∧
 match Yh ds sp with
 | none=>∀ H',Xb H H'→(NoT H→NoT H')→Q .non H'
 | some x=>pz t.Kb [(Str.ofString "way",.str x)] H E
noncomputable def Vv (z:Int) (sp:List SD) (k:Nat) (d:SD):Int:=(((ofN d.name (sp.eraseIdx k)).map fun p=>(p.1 - d.b) % z).min?).getD z
noncomputable def ZB:Sp:=fun vs H Q E=>∃ (z:Int) (p:Addr) (sp:List SD) (k:Nat) (d:SD),vs=[.int z,.ref p,.int k]∧0 < z∧LO H p (List.map sdO sp)∧sp.length ≤ 100∧sp[k]? = some d∧∀ H',Xb H H'→(NoT H→NoT H')→Q (.int (Vv z sp k d)) H'
theorem Mz {α:Type} (l:List α) (x:α) (k:Nat):(l ++ [x]).eraseIdx k=if k=l.length then l.eraseIdx k else l.eraseIdx k ++ [x]:=by
 by_cases h:k < l.length
 ·rw [if_neg (by omega),List.eraseIdx_append_of_lt_length h]
 ·rw [List.eraseIdx_append_of_length_le (by omega),List.eraseIdx_of_length_le (l:=l) (by omega)]
  by_cases h2:k=l.length
  ·rw [if_pos h2,h2,Nat.sub_self];simp
  ·rw [if_neg h2,List.eraseIdx_of_length_le (by simp;omega)]
noncomputable def wOf (ds:List WD) (x:Str):Option WD:=ds.find? fun d=>decide (d.name=x)
noncomputable def Wh (ds:List WD) (z:Int) (sp:List SD) (k:Nat) (s:SD):Bool:=(wOf ds s.name).any fun d=>decide (s.n < d.least) || decide (Vv z sp k s < s.n + Lg d + Sd d)
noncomputable def aj (ds:List WD) (z:Int) (sp:List SD):Option (SD × Nat):=sp.zipIdx.find? fun e=>Wh ds z sp e.2 e.1
noncomputable def gv (t:Adr):Sp:=fun vs H Q E=>∃ (c:Addr) (n:Int) (ds:List WD) (z:Int) (p:Addr) (sp:List SD),vs=[.ref c,.int z,.ref p]∧Ac t H c n ds∧DOk ds∧(0 < z∧z ≤ 1000)∧LO H p (List.map sdO sp)∧dL z sp∧(∀ s ∈ sp,∃ d,wOf ds s.name=some d) ∧
 match aj ds z sp with
 | none=>∀ H',Xb H H'→(NoT H→NoT H')→Q .non H'
 | some e=>pz t.Gb [(Str.ofString "way",.str e.1.name),(Str.ofString "at",.int e.1.b)] H E
theorem jv {P:Program} {w:World} {K:PySem.W.Frag} {mg:Str→Option Value} {base:Heap} {CX:CXT} {j k:Nat} {OK:Addr→Prop} {m:Str} {ps:List Str} {SPV:Addr→Sp} (V:uG P w K mg base CX j OK m ps SPV) (h:j ≤ k):uG P w K mg base CX k OK m ps SPV:=⟨fun C hC=>by
 obtain ⟨f,fd,h1,h2,h3,h4⟩:=V.ok C hC
 exact ⟨f,fd,h1,h2,h3.mono h,h4⟩⟩
theorem dI {ds:List WD} {x:Str} {d:WD} (h:wOf ds x=some d):d.name=x∧∃ i:Nat,ds[i]? = some d:=by
 unfold wOf at h
 refine ⟨by simpa using List.find?_some h,?_⟩
 obtain ⟨i,hi,e⟩:=List.getElem_of_mem (List.mem_of_find?_eq_some h)
 exact ⟨i,by rw [List.getElem?_eq_getElem hi,e]⟩
noncomputable def SA (d1 d2:WD):Int:=if d1.off - d2.near > 0 then d1.off - d2.near else 0
noncomputable def mi (g:Int) (m1 m2:List Int):Option ((Int × Int) × Nat):=(m1.zip m2).zipIdx.find? fun e=>decide (e.1.2=0) && decide (e.1.1 ≤ g)
noncomputable def eI (t:Adr):Sp:=fun vs H Q E=>∃ (c:Addr) (n:Int) (ds:List WD) (d1 d2:WD) (p1 p2:Addr) (m1 m2:List Int),vs=[.ref c,.str d1.name,.str d2.name,.ref p1,.ref p2]∧Ac t H c n ds∧DOk ds∧d1 ∈ ds∧d2 ∈ ds∧H p1=some (.lst (m1.map V.int))∧H p2=some (.lst (m2.map V.int))∧m1.length=m2.length∧m1.length ≤ 1000 ∧
 match mi (SA d1 d2) m1 m2 with
 | none=>∀ H',Xb H H'→(NoT H→NoT H')→Q .non H'
 | some e=>pz t.Fb [(Str.ofString "way",.str d1.name),(Str.ofString "other",.str d2.name),(Str.ofString "at",.int e.2)] H E
noncomputable def Gk (z:Nat) (sp:List SD) (x:Str):List Int:=Yi (fmF z (ofN x sp))
noncomputable def Ek (n:Int) (z:Nat) (sp:List SD) (d1 d2:WD):Option Nat:=if d1.name ≠ d2.name∧mt n d1 d2=true then (mi (SA d1 d2) (Gk z sp d1.name) (Gk z sp d2.name)).map (·.2) else none
noncomputable def Fq (n:Int) (z:Nat) (sp:List SD) (d1:WD) (ds:List WD):Option (WD × WD × Nat):=ds.findSome? fun d2=>(Ek n z sp d1 d2).map fun i=>(d1,d2,i)
noncomputable def Ym (n:Int) (z:Nat) (sp:List SD) (ds:List WD):Option (WD × WD × Nat):=ds.findSome? fun d1=>Fq n z sp d1 ds
noncomputable def Gv (t:Adr):Sp:=fun vs H Q E=>∃ (c:Addr) (n:Int) (ds:List WD) (z:Nat) (p:Addr) (sp:List SD),vs=[.ref c,.int z,.ref p]∧Ac t H c n ds∧0 < n∧DOk ds∧(0 < z∧z ≤ 1000)∧LO H p (List.map sdO sp)∧dL z sp∧NoT H ∧
 match Ym n z sp ds with
 | none=>∀ H',Xb H H'→NoT H'→Q .non H'
 | some e=>pz t.Fb [(Str.ofString "way",.str e.1.name),(Str.ofString "other",.str e.2.1.name),(Str.ofString "at",.int e.2.2)] H E
theorem Wj (m:List Bool):(Vm m).length=m.length:=by unfold Vm;simp
theorem mn (z:Nat) (sp:List SD) (x:Str):(Gk z sp x).length=z:=by
 unfold Gk Yi
 rw [List.length_reverse,Wj,List.length_reverse,ul]
noncomputable def nkv (ds:List WD) (rs:List Addr):List (Key × V):=(ds.zip rs).map fun e=>(Sum.inr e.1.name,V.ref e.2)
noncomputable def NK (H:Hp) (p:Addr) (ds:List WD) (f:WD→HO) (n:Nat):Prop:=∃ rs:List Addr,rs.length=n∧H p=some (.dK (nkv ds rs))∧∀ (i:Nat) (r:Addr) (d:WD),rs[i]? = some r→ds[i]? = some d→H r=some (f d)
theorem ZL {ds:List WD} (h:(ds.map (·.name)).Nodup) {i j:Nat} {d e:WD} (hi:ds[i]? = some d) (hj:ds[j]? = some e) (z:d.name=e.name):i=j:=
 WC h (List.getElem?_eq_some_iff.mp hi).1 (List.getElem?_eq_some_iff.mp hj).1 (by rw [Sv hi,Sv hj];exact z)
theorem bB {ds:List WD} {rs:List Addr} (h:(ds.map (·.name)).Nodup) {i:Nat} {d:WD} {r:Addr} (hd:ds[i]? = some d) (hr:rs[i]? = some r):Vl (nkv ds rs) (Sum.inr d.name)=some (.ref r):=by
 obtain ⟨h1,e1⟩:=List.getElem?_eq_some_iff.mp hd
 obtain ⟨h2,e2⟩:=List.getElem?_eq_some_iff.mp hr
 unfold Vl
 have hf:List.find? (fun kv=>decide (kv.1=(Sum.inr d.name:Key))) (nkv ds rs)=some (Sum.inr d.name,.ref r):=by
  rw [List.find?_eq_some_iff_getElem]
  refine ⟨by simp,i,by unfold nkv;simp;omega,by unfold nkv;simp [e1,e2],fun j hj=>?_⟩
  unfold nkv
  simp
  intro z
  have:=ZL h (List.getElem?_eq_getElem (show j < ds.length by omega)) hd z
  omega
 rw [hf];rfl
theorem dy {ds:List WD} {rs:List Addr} (h:(ds.map (·.name)).Nodup) {d:WD} {r:Addr} (hd:ds[rs.length]? = some d):Xu (nkv ds rs) (Sum.inr d.name) (.ref r)=nkv ds (rs ++ [r]):=by
 obtain ⟨h1,e1⟩:=List.getElem?_eq_some_iff.mp hd
 unfold Xu
 have no:((nkv ds rs).any fun kv=>decide (kv.1=Sum.inr d.name))=false:=by
  rw [List.any_eq_false]
  intro p hp
  unfold nkv at hp
  obtain ⟨e,he,rfl⟩:=List.mem_map.mp hp
  obtain ⟨j,hj,hje⟩:=List.getElem_of_mem he
  simp only [decide_eq_true_eq]
  intro z
  have z:=Sum.inr.inj z
  rw [← hje] at z
  simp at hj z
  have:=ZL h (List.getElem?_eq_getElem (show j < ds.length by omega)) hd z
  omega
 rw [no,if_neg (by decide)]
 unfold nkv
 refine List.ext_getElem (by simp;omega) (fun i h3 h4=>?_)
 simp at h3 h4
 by_cases c:i < rs.length
 ·simp [List.getElem_append,c,show i < ds.length by omega]
  rw [dif_pos (by omega)]
 ·have:i=rs.length:=by omega
  subst this
  simp [List.getElem_append,Nat.le_of_lt h1,e1]
section
variable {P:Program} {w:World} {K:PySem.W.Frag} {mg:Str→Option Value} {base:Heap} {t:Adr}
theorem vM (T:Txt w K mg t):Eb P w K mg base CX0 1 t.Zf t.rh ["self","way"] (DH t):=by
 refine T.bo.ok gn (fun vs H Q E h=>?_) (fun cdv A outer s H vs Q E hr h=>?_)
 ·obtain ⟨x,n,rfl,_⟩:=h;rfl
 obtain ⟨x,n,rfl,hn,hx,q⟩:=h
 refine ⟨_,(db (ac (Am rfl T.qf T.Kg (bb (pv 0) (bb (kj (Pf (yq (pv 1) (Pf Mv))) (by rw [sizeLine_eq];decide)) fb))))
   (gb (Yl (pv 0) (pv 1) rfl))),?_⟩
 (walk_at "RD")
 refine ⟨hn.1,hn.2,fun y=>⟨_,_,hx,T.Tq,?_⟩⟩
 exact ⟨_,hx,T.Tq,T.Tn,q⟩
theorem YM (T:Txt w K mg t):Eb P w K mg base CX0 1 t.Tf t.lh ["self","way","at"] (KH t):=by
 refine T.Wn.ok rn (fun vs H Q E h=>?_) (fun cdv A outer s H vs Q E hr h=>?_)
 ·obtain ⟨x,n,i,rfl,_⟩:=h;rfl
 obtain ⟨x,n,i,rfl,hn,hi,hx,q⟩:=h
 refine ⟨_,(db (ac (Am rfl T.qf T.Kg (bb (pv 0) (bb (kj (Pf (yq (pv 1) (Pf (wy (pv 2) Mv)))) (by rw [sizeLine_eq];decide)) fb))))
   (db (Yl (pv 0) (pv 1) rfl)
   (gb (Wo (pv 0) (pv 2) rfl)))),?_⟩
 (walk_at "RD")
 refine ⟨hn.1,hn.2,hi,fun y=>⟨_,_,hx,T.Jl,?_⟩⟩
 refine ⟨_,hx,T.Jl,T.eo,fun dx hd hne=>?_⟩
 refine ⟨_,dx,by rw [lb (Ne.symm hne),cb],_,cb,T.Jl,T.kq,show 1 < 1000 by decide,?_⟩
 rw [ui,show rg (Str.ofString "at") (V.int i) ([(Str.ofString "way",V.str n)]:List (Str × V))=[(Str.ofString "way",V.str n),(Str.ofString "at",V.int i)] from Mc [Str.ofString "way"] rfl (by decide +kernel)]
 exact q dx hd hne
theorem HM (T:Txt w K mg t):Eb P w K mg base CX0 1 t.Uf t.mh ["self","way","other","at"] (zH t):=by
 refine T.Sn.ok zn (fun vs H Q E h=>?_) (fun cdv A outer s H vs Q E hr h=>?_)
 ·obtain ⟨x,n,m,i,rfl,_⟩:=h;rfl
 obtain ⟨x,n,m,i,rfl,hn,hm,hi,hx,q⟩:=h
 refine ⟨_,(db (ac (Am rfl T.qf T.Kg (bb (pv 0) (bb (kj (Pf (yq (pv 1) (Pf (yq (pv 2) (Pf (wy (pv 3) Mv)))))) (by rw [sizeLine_eq];decide)) fb))))
   (db (Yl (pv 0) (pv 1) rfl)
   (db (Wo (pv 0) (pv 2) rfl)
   (gb (Wo (pv 0) (pv 3) rfl))))),?_⟩
 (walk_at "RD")
 refine ⟨hn.1,hn.2,hm.1,hm.2,hi,fun y=>⟨_,_,hx,T.Mi,?_⟩⟩
 refine ⟨_,hx,T.Mi,T.oo,fun dx hd hne=>?_⟩
 refine ⟨_,dx,by rw [lb (Ne.symm hne),cb],_,cb,T.Mi,T.Zk,show 1 < 1000 by decide,?_⟩
 rw [ui,show rg (Str.ofString "other") (V.str m) ([(Str.ofString "way",V.str n)]:List (Str × V))=[(Str.ofString "way",V.str n),(Str.ofString "other",V.str m)] from Mc [Str.ofString "way"] rfl (by decide +kernel)]
 refine ⟨_,dx,by rw [lb (Ne.symm hne),cb],_,cb,T.Mi,T.Ip,show 2 < 1000 by decide,?_⟩
 rw [ui,show rg (Str.ofString "at") (V.int i) ([(Str.ofString "way",V.str n),(Str.ofString "other",V.str m)]:List (Str × V))=[(Str.ofString "way",V.str n),(Str.ofString "other",V.str m),(Str.ofString "at",V.int i)] from Mc [Str.ofString "way",Str.ofString "other"] rfl (by decide +kernel)]
 exact q dx hd hne
theorem LC (T:Txt w K mg t):Eb P w K mg base (CX1 P w) 3 t.Lf t.Gf ["crossing","spans"] (Zu t):=by
 have G_Never_init:Eb P w K mg base CX0 1 t.Zf t.rh ["self","way"] (DH t):=vM T
 have G_spans_of:Eb P w K mg base CX0 2 t.zf t.pf ["spans","name"] Qp:=(cu T).mono (by decide)
 have G_Crossing_names:Eb P w K mg base CX0 2 t.Tc t.vd ["self"] (jp t):=(du T).mono (by decide)
 refine T.Kh.okX Oj (fun vs H Q E h=>?_) (fun cdv A outer s H vs Q E hr h=>?_)
 ·obtain ⟨c,n,ds,p,sp,rfl,_⟩:=h;rfl
 obtain ⟨c,n,ds,p,sp,rfl,C,hD,L,hs,q⟩:=h
 refine ⟨_,(gb (De (ge ⟨rfl,rfl⟩) rfl (Me (qd (pv 0) T.Ib T.Vd G_Crossing_names hr T.Pd .nil dc)) (Bb (i:=2) Oj.nd rfl (Or.inl rfl)) (gb (qe (pq (lz (Jb G_spans_of hr rfl T.Qj T.yg.kp T.Uj .nil dc (bb (pv 1) (bb (pv 2) fb))) (fun _=>rfl))) (gb (fk (Tj T.zy G_Never_init hr rfl T.jx T.jw (bb (pv 2) fb)) Ln)) Zb)))),?_⟩
 (walk_at "RD")
 obtain ⟨_,dx,wl,nd,e1,_,_⟩:=id C
 refine ⟨_,_,e1,Yx _ _ _ (by decide +kernel),c,n,ds,rfl,C,fun pn hpn=>⟨pn,rfl,⟨_,SqL.of cb⟩,?_⟩⟩
 refine sj.list (xs:=bc (ds.map (·.name))) (fun i σ H'=>(∃ y,σ=[some (V.ref c),some (V.ref p),y])∧Xb (upd H pn (.lst (bc (ds.map (·.name))))) H'∧(NoT H→NoT H')∧Yh ds sp=((ds.map (·.name)).drop i).find? fun x=>(ofN x sp).isEmpty) ?_ ?_ ?_ ?_
 ·exact ⟨⟨_,rfl⟩,Xb.refl _,fun n=>n.upd,rfl⟩
 ·rintro i σ H' hi ⟨_,sm,_,_⟩
  exact SqL.of (sm _ _ cb)
 ·rintro i v σ H' hv ⟨⟨y,rfl⟩,sm,nt,hf⟩
  obtain ⟨x,hx,rfl⟩:=Ec hv
  have smH:Xb H H':=(ib hpn).trans sm
  obtain ⟨hi,hxi⟩:=List.getElem?_eq_some_iff.mp hx
  rw [List.drop_eq_getElem_cons hi,hxi,List.find?_cons] at hf
  (walk_at "RD")
  refine Vo (fun b H2=>b=(ofN x sp).isEmpty∧Xb H' H2∧(NoT H'→NoT H2)) (fun Q hQ=>?_) (fun H2 r=>?_) (fun H2 r=>?_)
  ·(walk_at "RD")
   refine ⟨p,x,sp,rfl,L.same smH,hs,fun r H2 s2 n2 ⟨qs,l1,l2⟩=>⟨!(ofN x sp).isEmpty,.inl ⟨_,SqL.of l1,?_⟩,?_⟩⟩
   ·have hl:=l2.1
    cases qs with
    | nil=>cases h:ofN x sp with
     | nil=>rfl
     | cons a r=>rw [h] at hl;simp at hl
    | cons a r=>cases h:ofN x sp with
     | nil=>rw [h] at hl;simp at hl
     | cons a r=>rfl
   ·rw [Bool.not_not]
    exact hQ _ _ ⟨rfl,s2,n2⟩
  ·obtain ⟨r1,r2,r3⟩:=r
   rw [← r1] at hf
   have hf:Yh ds sp=some x:=hf
   rw [hf] at q
   (walk_at "RD")
   have hn:mI x:=by
    obtain ⟨d,hd,rfl⟩:=Ec hx
    exact (hD d (List.mem_of_getElem? hd)).1
   refine ⟨by decide,fun a ha=>⟨a,x,rfl,hn,cb,fun d hd hne=>?_⟩⟩
   have hd0:H2 d=none:=by rw [lb hne] at hd;exact hd
   refine ⟨rfl,t.Kb,some d,by rw [lb (Ne.symm hne),cb],T.Tq,q d _ (fun b u e=>?_) (fun n=>((((r3 (nt n)).upd).upd).upd).upd) (by rw [lb hne,cb])⟩
   have e':=r2 _ _ (smH _ _ e)
   rw [lb (qb e' ha),lb (qb e' hd0),lb (qb e' ha),lb (qb e' ha)]
   exact e'
  ·obtain ⟨r1,r2,r3⟩:=r
   rw [← r1] at hf
   (walk_at "RD")
   exact ⟨⟨_,rfl⟩,sm.trans r2,fun n=>r3 (nt n),hf⟩
 ·rintro σ H' ⟨⟨y,rfl⟩,sm,nt,hf⟩
  rw [List.drop_of_length_le (by unfold bc;simp)] at hf
  have hf:Yh ds sp=none:=hf
  rw [hf] at q
  exact q _ ((ib hpn).trans sm) nt
theorem TK (T:Txt w K mg t):Eb P w K mg base CX0 2 t.zd t.yd ["size","spans","place"] ZB:=by
 have G_spans_of:Eb P w K mg base CX0 1 t.zf t.pf ["spans","name"] Qp:=cu T
 refine T.ke.ok Jc (fun vs H Q E h=>?_) (fun cdv A outer s H vs Q E hr h=>?_)
 ·obtain ⟨z,p,sp,k,d,rfl,_⟩:=h;rfl
 obtain ⟨z,p,sp,k,d,rfl,hz,⟨qs,l1,lq⟩,hs,hk,q⟩:=h
 refine ⟨_,(db (Jt (gf Fd (pv 1) (pv 2) (fun _ _=>rfl)) (xf (K:=K) (n:=3) rfl rfl (Ob (Bb (i:=3) Jc.nd rfl (Or.inl rfl) (.inl rfl)) (Ob (Bb (i:=4) Jc.nd rfl (Or.inr rfl) (.inl rfl)) (Ob (Bb (i:=5) Jc.nd rfl (Or.inl rfl) (.inl rfl)) lf)))))
   (db (Yj (i:=6) Jc.nd rfl (Or.inl rfl) rfl (jq rfl T.Jg (bb (pv 1) fb)) (Ud (sc:=jb Cd) rfl (by decide +kernel)) (N:=["at","span","place"]) (sel:=[none,none,some 2]) (Ie (M:=["size","spans","place","name","begin","turns","others"]) (by decide +kernel)) (Blk.of (fun _ _ _ _=>(xf (K:=K) (n:=2) rfl rfl (Ob (Bb (i:=0) (Ai (N:=["at","span","place"]) (by decide +kernel) rfl) rfl (Or.inl rfl) (.inr rfl)) (Ob (Bb (i:=1) (Ai (N:=["at","span","place"]) (by decide +kernel) rfl) rfl (Or.inl rfl) (.inr rfl)) lf)))) (fun _ _ _ _=>⟨_,(CB (Pc EG (pv 0) (pv 2) (Lc _))),by first | rfl | (dsimp only [Cx.block];done) | (dsimp only [Cx.block];exact rfl)⟩) (fun _ _ _ _=>⟨_,(pv 1),by first | rfl | (dsimp only [Cx.block];done) | (dsimp only [Cx.block];exact rfl)⟩)) rfl)
   (gb (Db (SJ rfl rfl T.cO (bb (Ij rfl (Me (Jb G_spans_of hr rfl T.Qj T.yg.kp T.Uj .nil dc (bb (pv 6) (bb (pv 3) fb)))) (Ud (sc:=jb Cd) rfl (by decide +kernel)) (N:=["later","many","begin","size"]) (sel:=[none,none,some 4,some 0]) (Ie (M:=["size","spans","place","name","begin","turns","others"]) (by decide +kernel)) (Blk.of (fun _ _ _ _=>(xf (K:=K) (n:=2) rfl rfl (Ob (Bb (i:=0) (Ai (N:=["later","many","begin","size"]) (by decide +kernel) rfl) rfl (Or.inl rfl) (.inr rfl)) (Ob (Bb (i:=1) (Ai (N:=["later","many","begin","size"]) (by decide +kernel) rfl) rfl (Or.inl rfl) (.inr rfl)) lf)))) (fun _ _ _ _=>⟨_,Mh,by first | rfl | (dsimp only [Cx.block];done) | (dsimp only [Cx.block];exact rfl)⟩) (fun _ _ _ _=>⟨_,(Ic Xh (Ic yk (pv 0) (pv 2)) (pv 3)),by first | rfl | (dsimp only [Cx.block];done) | (dsimp only [Cx.block];exact rfl)⟩))) fb) (pv 0)))))),?_⟩
 (walk_at "RD")
 have hql:qs.length=sp.length:=by rw [lq.1,List.length_map]
 obtain ⟨hkl,hkd⟩:=List.getElem?_eq_some_iff.mp hk
 have hqk:qs[k]? = some qs[k]:=List.getElem?_eq_getElem (by omega)
 have ek:H qs[k]=some (sdO d):=lq.2 k _ _ hqk (by rw [List.getElem?_map,hk];rfl)
 refine ⟨_,SqL.of l1,_,yc (by rw [List.getElem?_map,hqk];rfl),_,rfl,_,SqT.of ek,rfl,_,_,rfl,_,_,rfl,_,_,rfl,rfl,⟨_,SqL.of l1⟩,?_⟩
 refine Xd.enum (xs:=qs.map V.ref) (fun i ys H'=>∃ os:List Addr,ys=os.map V.ref∧LQ H' os (((sp.take i).eraseIdx k).map sdO)∧Xb H H'∧(NoT H→NoT H')) (Nat.le_trans (show (qs.map V.ref).length ≤ 100 by rw [List.length_map];omega) (by decide)) ⟨[],rfl,by rw [List.take_zero];exact LQ.nil _,Xb.refl _,id⟩ ?_ ?_ ?_
 ·rintro i ys H' hi ⟨os,rfl,r,sm,_⟩
  refine ⟨(SqL.of l1).same sm,?_⟩
  rw [List.length_map,r.1,List.length_map]
  exact Nat.le_trans (List.length_eraseIdx_le ..) (by rw [List.length_take];omega)
 ·rintro i v ys H' p1 hv ⟨os,rfl,r,sm,nt⟩ hp1 N hN
  obtain ⟨qi,hqi,rfl⟩:=Ec hv
  obtain ⟨o,ho,e⟩:=lq.at hqi
  obtain ⟨d',hd',rfl⟩:=Ec ho
  have e':=sm _ _ e
  have s1:Xb H' (upd H' p1 (.tup [.int i,.ref qi])):=ib hp1
  refine tj ?_
  dsimp only at hN
  have hil:(sp.take i).length=i:=by
   have:=(List.getElem?_eq_some_iff.mp hd').1
   rw [List.length_take];omega
  rw [wj hd',Mz,hil] at hN
  (walk_at "RD")
  refine ⟨Sub.name2,?_⟩
  by_cases c:k=i
  ·rw [if_pos c] at hN
   rw [if_neg (by subst c;simp)]
   exact hN _ _ ⟨os,rfl,r.same s1,sm.trans s1,fun n=>(nt n).upd⟩
  ·rw [if_neg c] at hN
   rw [if_pos (by simp;omega)]
   refine hN _ _ ⟨os ++ [qi],by rw [List.map_append];rfl,?_,sm.trans s1,fun n=>(nt n).upd⟩
   rw [List.map_append]
   exact (r.same s1).app (LQ.one (s1 _ _ e'))
 ·rintro ys H' ⟨os,rfl,r,sm,nt⟩ p1 hp1
  rw [List.take_of_length_le (by rw [List.length_map];omega)] at r
  (walk_at "RD")
  have s1:Xb H' (upd H' p1 (.lst (os.map V.ref))):=ib hp1
  refine ⟨p1,d.name,sp.eraseIdx k,rfl,⟨os,cb,r.same s1⟩,Nat.le_trans (List.length_eraseIdx_le ..) hs,fun r2 H2 s2 n2 ⟨qs2,m1,m2⟩=>⟨r2,rfl,⟨_,SqL.of m1⟩,?_⟩⟩
  have hln:(ofN d.name (sp.eraseIdx k)).length ≤ 100:=Nat.le_trans (iC _ _) (Nat.le_trans (List.length_eraseIdx_le ..) hs)
  have hml:qs2.length=(ofN d.name (sp.eraseIdx k)).length:=by rw [m2.1,List.length_map]
  refine Xd.list_zs (zs:=((ofN d.name (sp.eraseIdx k)).map fun p=>(p.1 - d.b) % z).map V.int) (SqL.of m1) (Nat.le_trans (show (qs2.map V.ref).length ≤ 100 by rw [List.length_map];omega) (by decide)) (by simp [hml]) (fun i v z' N hv hz' hN=>?_) (fun l hl=>?_)
  ·obtain ⟨qi,hqi,rfl⟩:=Ec hv
   obtain ⟨o,ho,e⟩:=m2.at hqi
   obtain ⟨pr,hpr,rfl⟩:=Ec ho
   obtain ⟨y,hy,rfl⟩:=Ec hz'
   obtain ⟨pr',hpr',rfl⟩:=Ec hy
   rw [hpr] at hpr'
   cases hpr'
   (walk_at "RD")
   exact ⟨_,SqT.of e,rfl,_,_,rfl,_,_,rfl,rfl,Sub.name2,_,rfl,hz,hN⟩
  ·(walk_at "RD")
   refine ⟨_,SqL.of cb,?_⟩
   have:=q (upd H2 l (.lst (((ofN d.name (sp.eraseIdx k)).map fun p=>(p.1 - d.b) % z).map V.int))) (((sm.trans s1).trans s2).trans (ib hl)) (fun n=>(n2 (nt n).upd).upd)
   unfold Vv at this
   cases hm:((ofN d.name (sp.eraseIdx k)).map fun p=>(p.1 - d.b) % z).min? with
   | none=>rw [hm] at this;exact this
   | some m=>rw [hm] at this;exact this
theorem kD (T:Txt w K mg t):Eb P w K mg base (CX1 P w) 4 t.Cf t.Kf ["crossing","size","spans"] (gv t):=by
 have G_Short_init:Eb P w K mg base CX0 2 t.Tf t.lh ["self","way","at"] (KH t):=(YM T).mono (by decide)
 have G_turns_to_next_begin:Eb P w K mg base CX0 3 t.zd t.yd ["size","spans","place"] ZB:=(TK T).mono (by decide)
 have G_Crossing_called:Eb P w K mg base CX0 3 t.Nb t.Rb ["self","name"] (Rh t):=(Jj T).mono (by decide)
 have V_Way_ready:uG P w K mg base CX0 3 (isW t) "ready" ["self"] (ci t):=jv (kC T) (by decide)
 have V_Way_fade:uG P w K mg base CX0 3 (isW t) "fade" ["self"] (Vj t):=jv (uI T) (by decide)
 refine T.Fh.okX Nc (fun vs H Q E h=>?_) (fun cdv A outer s H vs Q E hr h=>?_)
 ·obtain ⟨c,n,ds,z,p,sp,rfl,_⟩:=h;rfl
 obtain ⟨c,n,ds,z,p,sp,rfl,C,hD,hz,⟨qs,l1,lq⟩,hs,hk,q⟩:=h
 refine ⟨_,(gb (De (ge ⟨rfl,rfl⟩) rfl (jq rfl T.Jg (bb (pv 2) fb)) (xf (K:=K) (n:=2) rfl rfl (Ob (Bb (i:=3) Nc.nd rfl (Or.inl rfl) (.inl rfl)) (Ob (Bb (i:=4) Nc.nd rfl (Or.inl rfl) (.inl rfl)) lf))) (db (Jt (pv 4) (xf (K:=K) (n:=3) rfl rfl (Ob (Bb (i:=5) Nc.nd rfl (Or.inl rfl) (.inl rfl)) (Ob (Bb (i:=6) Nc.nd rfl (Or.inl rfl) (.inl rfl)) (Ob (Bb (i:=7) Nc.nd rfl (Or.inl rfl) (.inl rfl)) lf)))))
   (db (kc (i:=8) Nc.nd rfl (Or.inl rfl) (md (pv 0) T.Ib T.xc G_Crossing_called hr T.wc .nil dc (bb (pv 5) fb)))
   (db (kc (i:=9) Nc.nd rfl (Or.inl rfl) (Ic cg (Ic cg (pv 7) (Em (pv 8) V_Way_fade hr dc)) (Em (pv 8) V_Way_ready hr dc)))
   (gb (qe (PW.pt (gF (Pc Ax (pv 7) (zc (pv 8) rfl) (Lc _)) (tz (Pc Ax (Jb G_turns_to_next_begin hr rfl T.zj T.ke.kp T.mj .nil dc (bb (pv 1) (bb (pv 2) (bb (pv 3) fb)))) (pv 9) (Lc _))))) (gb (fk (Tj T.uy G_Short_init hr rfl T.Vx T.lv (bb (pv 5) (bb (pv 6) fb))) Ln)) Zb))))))),?_⟩
 (walk_at "RD")
 have hql:qs.length=sp.length:=by rw [lq.1,List.length_map]
 refine ⟨⟨_,SqL.of l1⟩,?_⟩
 refine sj.enum (xs:=qs.map V.ref) (fun i σ H'=>(∃ a b c1 d e f g,σ=[some (V.ref c),some (V.int z),some (V.ref p),a,b,c1,d,e,f,g])∧Xb H H'∧(NoT H→NoT H')∧aj ds z sp=(sp.zipIdx.drop i).find? fun e=>Wh ds z sp e.2 e.1) ?_ ?_ ?_ ?_
 ·exact ⟨⟨_,_,_,_,_,_,_,rfl⟩,Xb.refl _,id,rfl⟩
 ·rintro i σ H' hi ⟨_,sm,_,_⟩
  exact SqL.of (sm _ _ l1)
 ·rintro i v σ H0 p1 hv ⟨⟨a1,a2,a3,a4,a5,a6,a7,rfl⟩,sm,nt,hf⟩ hp1
  obtain ⟨qi,hqi,rfl⟩:=Ec hv
  obtain ⟨o,ho,e⟩:=lq.at hqi
  obtain ⟨sd,hsd,rfl⟩:=Ec ho
  obtain ⟨hi,hxi⟩:=List.getElem?_eq_some_iff.mp hsd
  rw [List.drop_eq_getElem_cons (by simpa using hi),List.find?_cons] at hf
  simp only [List.getElem_zipIdx,Nat.zero_add,hxi] at hf
  have s1:Xb H0 (upd H0 p1 (.tup [.int i,.ref qi])):=ib hp1
  refine tj ?_
  have nt1:NoT H→NoT (upd H0 p1 (.tup [.int i,.ref qi])):=fun n=>(nt n).upd
  generalize upd H0 p1 (.tup [.int i,.ref qi])=H' at s1 nt1 ⊢
  have smH:Xb H H':=sm.trans s1
  obtain ⟨d,hd⟩:=hk sd (List.mem_of_getElem? hsd)
  obtain ⟨hdn,j,hj⟩:=dI hd
  have C':=C.same smH
  obtain ⟨_,dx,wl,nd,e1,_,_⟩:=id C'
  have hDd:=hD d (List.mem_of_getElem? hj)
  have hB:Wh ds z sp i sd=(decide (sd.n < d.least) || decide (Vv z sp i sd < sd.n + Lg d + Sd d)):=by
   unfold Wh;rw [hd];rfl
  (walk_at "RD")
  refine ⟨_,SqT.of (smH _ _ e),rfl,_,_,rfl,_,_,rfl,_,_,rfl,rfl,_,_,e1,Yx _ _ _ (by decide +kernel),c,n,ds,j,d,by rw [hdn],C',hj,fun a W=>?_⟩
  obtain ⟨dk,dxa,ha⟩:=id W
  refine ⟨a,rfl,_,_,_,ha,⟨_,dk,rfl⟩,BN (by decide +kernel),a,d,rfl,W,rfl,_,rfl,_,rfl,a,rfl,_,_,_,ha,⟨_,dk,rfl⟩,BN (by decide +kernel),a,d,rfl,W,rfl,_,rfl,?_⟩
  refine Vo (fun b H2=>b=Wh ds z sp i sd∧Xb H' H2∧(NoT H'→NoT H2)) (fun Q hQ=>?_) (fun H2 r=>?_) (fun H2 r=>?_)
  ·rw [hB] at hQ
   (walk_at "RD")
   refine ⟨_,W.f_least T,_,rfl,?_⟩
   by_cases c1:sd.n < d.least
   ·rw [decide_eq_true c1] at hQ
    rw [if_pos (decide_eq_true c1)]
    exact hQ _ _ ⟨rfl,Xb.refl _,id⟩
   ·rw [decide_eq_false c1,Bool.false_or] at hQ
    rw [if_neg (by simpa using c1)]
    exact ⟨z,p,sp,i,sd,rfl,hz.1,⟨qs,smH _ _ l1,lq.same smH⟩,hs.1,hsd,fun H2 s2 n2=>⟨_,rfl,hQ _ _ ⟨rfl,s2,n2⟩⟩⟩
  ·obtain ⟨r1,r2,r3⟩:=r
   rw [← r1] at hf
   have hf:aj ds z sp=some (sd,i):=hf
   rw [hf] at q
   (walk_at "RD")
   have hn:mI sd.name:=by rw [← hdn];exact hDd.1
   have hsb:=hs.2 sd (List.mem_of_getElem? hsd)
   refine ⟨by decide,fun a ha=>⟨a,sd.name,sd.b,rfl,hn,zr (by omega),cb,fun d hd hne=>?_⟩⟩
   have hd0:H2 d=none:=by rw [lb hne] at hd;exact hd
   refine ⟨rfl,t.Gb,some d,by rw [lb (Ne.symm hne),cb],T.Jl,q d _ (fun b u e=>?_) (fun n=>((((r3 (nt1 n)).upd).upd).upd).upd) (by rw [lb hne,cb])⟩
   have e':=r2 _ _ (smH _ _ e)
   rw [lb (qb e' ha),lb (qb e' hd0),lb (qb e' ha),lb (qb e' ha)]
   exact e'
  ·obtain ⟨r1,r2,r3⟩:=r
   rw [← r1] at hf
   exact ⟨⟨_,_,_,_,_,_,_,rfl⟩,smH.trans r2,fun n=>r3 (nt1 n),hf⟩
 ·rintro σ H' ⟨_,sm,nt,hf⟩
  rw [List.drop_of_length_le (by simp [hql])] at hf
  have hf:aj ds z sp=none:=hf
  rw [hf] at q
  exact q _ sm nt
theorem NM (T:Txt w K mg t):Eb P w K mg base (CX1 P w) 4 t.pe t.ve ["crossing","one","other","since_one","since_other"] (eI t):=by
 have G_Clash_init:Eb P w K mg base CX0 2 t.Uf t.mh ["self","way","other","at"] (zH t):=(HM T).mono (by decide)
 have G_gap:Eb P w K mg base CX0 3 t.bF t.xF ["crossing","one","other"] (GH t):=kM T
 refine T.Af.okX Yd (fun vs H Q E h=>?_) (fun cdv A outer s H vs Q E hr h=>?_)
 ·obtain ⟨c,n,ds,d1,d2,p1,p2,m1,m2,rfl,_⟩:=h;rfl
 obtain ⟨c,n,ds,d1,d2,p1,p2,m1,m2,rfl,C,hD,h1,h2,L1,L2,hl,hm,q⟩:=h
 refine ⟨_,(db (kc (i:=5) Yd.nd rfl (Or.inl rfl) (Jb G_gap hr rfl T.VN T.KI.kp T.yO .nil dc (bb (pv 0) (bb (pv 1) (bb (pv 2) fb)))))
   (gb (De (ge ⟨rfl,rfl⟩) rfl (jq rfl T.Jg (bb (pv 3) fb)) (xf (K:=K) (n:=2) rfl rfl (Ob (Bb (i:=6) Yd.nd rfl (Or.inl rfl) (.inl rfl)) (Ob (Bb (i:=7) Yd.nd rfl (Or.inl rfl) (.inl rfl)) lf))) (gb (qe (PW.pt (nI (Pc ij (gf Fd (pv 4) (pv 6) (fun _ _=>rfl)) xb (Lc _)) (xC (Pc fO (pv 7) (pv 5) (Lc _))))) (gb (fk (Tj T.Ly G_Clash_init hr rfl T.Fx T.Ov (bb (pv 1) (bb (pv 2) (bb (pv 6) fb)))) Ln)) Zb))))),?_⟩
 (walk_at "RD")
 obtain ⟨j1,hj1,ej1⟩:=List.getElem_of_mem h1
 obtain ⟨j2,hj2,ej2⟩:=List.getElem_of_mem h2
 refine ⟨c,n,ds,j1,j2,d1,d2,rfl,C,by rw [List.getElem?_eq_getElem hj1,ej1],by rw [List.getElem?_eq_getElem hj2,ej2],⟨_,SqL.of L1⟩,?_⟩
 rw [show (if d1.off - d2.near > 0 then d1.off - d2.near else 0)=SA d1 d2 from rfl]
 refine sj.enum (xs:=m1.map V.int) (fun i σ H'=>(∃ a b,σ=[some (V.ref c),some (V.str d1.name),some (V.str d2.name),some (V.ref p1),some (V.ref p2),some (V.int (SA d1 d2)),a,b])∧Xb H H'∧(NoT H→NoT H')∧mi (SA d1 d2) m1 m2=((m1.zip m2).zipIdx.drop i).find? fun e=>decide (e.1.2=0) && decide (e.1.1 ≤ SA d1 d2)) ?_ ?_ ?_ ?_
 ·exact ⟨⟨_,_,rfl⟩,Xb.refl _,id,rfl⟩
 ·rintro i σ H' hi ⟨_,sm,_,_⟩
  exact SqL.of (sm _ _ L1)
 ·rintro i v σ H0 p3 hv ⟨⟨a1,a2,rfl⟩,sm,nt,hf⟩ hp3
  obtain ⟨x1,hx1,rfl⟩:=Ec hv
  obtain ⟨hi,ex1⟩:=List.getElem?_eq_some_iff.mp hx1
  have hi2:i < m2.length:=by omega
  have hx2:m2[i]? = some m2[i]:=List.getElem?_eq_getElem hi2
  rw [List.drop_eq_getElem_cons (by simp;omega),List.find?_cons] at hf
  simp only [List.getElem_zipIdx,List.getElem_zip,Nat.zero_add,ex1] at hf
  have s1:Xb H0 (upd H0 p3 (.tup [.int i,.int x1])):=ib hp3
  refine tj ?_
  have nt1:NoT H→NoT (upd H0 p3 (.tup [.int i,.int x1])):=fun n=>(nt n).upd
  generalize upd H0 p3 (.tup [.int i,.int x1])=H' at s1 nt1 ⊢
  have smH:Xb H H':=sm.trans s1
  (walk_at "RD")
  refine Vb (decide (m2[i]=0) && decide (x1 ≤ SA d1 d2)) (fun Q hQ=>?_) (fun c1=>?_) (fun c1=>?_)
  ·(walk_at "RD")
   refine ⟨_,SqL.of (smH _ _ L2),_,yc (by rw [List.getElem?_map,hx2];rfl),rfl,?_⟩
   by_cases c0:m2[i]=0
   ·rw [decide_eq_true c0,Bool.true_and] at hQ
    rw [if_pos (by rw [c0];exact decide_eq_true rfl)]
    exact hQ
   ·rw [decide_eq_false c0,Bool.false_and] at hQ
    rw [if_neg (by rw [decide_eq_true_eq];exact fun e=>c0 (V.int.inj e))]
    exact hQ
  ·rw [c1] at hf
   have hf:mi (SA d1 d2) m1 m2=some ((x1,m2[i]),i):=hf
   rw [hf] at q
   (walk_at "RD")
   refine ⟨by decide,fun a ha=>⟨a,d1.name,d2.name,i,rfl,(hD _ h1).1,(hD _ h2).1,zr (by omega),cb,fun d hd hne=>?_⟩⟩
   have hd0:H' d=none:=by rw [lb hne] at hd;exact hd
   refine ⟨rfl,t.Fb,some d,by rw [lb (Ne.symm hne),cb],T.Mi,q d _ (fun b u e=>?_) (fun n=>((((nt1 n).upd).upd).upd).upd) (by rw [lb hne,cb])⟩
   have e':=smH _ _ e
   rw [lb (qb e' ha),lb (qb e' hd0),lb (qb e' ha),lb (qb e' ha)]
   exact e'
  ·rw [c1] at hf
   exact ⟨⟨_,_,rfl⟩,smH,nt1,hf⟩
 ·rintro σ H' ⟨_,sm,nt,hf⟩
  rw [List.drop_of_length_le (by simp;omega)] at hf
  have hf:mi (SA d1 d2) m1 m2=none:=hf
  rw [hf] at q
  exact q _ sm nt
theorem sD (T:Txt w K mg t):Eb P w K mg base (CX1 P w) 5 t.Ef t.Qf ["crossing","size","spans"] (Gv t):=by
 have G_since_marked:Eb P w K mg base CX0 4 t.Jf t.Df ["marks"] Dy:=(ZG T).mono (by decide)
 have G_free_marks:Eb P w K mg base CX0 4 t.dg t.Vf ["size","spans","name"] YI:=(GM T).mono (by decide)
 have G_Crossing_names:Eb P w K mg base CX0 4 t.Tc t.vd ["self"] (jp t):=(du T).mono (by decide)
 have G_meet:Eb P w K mg base CX0 4 t.Ey t.Iy ["crossing","one","other"] (DC t):=(HJ T).mono (by decide)
 have GX_refuse_clash_of:Eb P w K mg base (CX1 P w) 4 t.pe t.ve ["crossing","one","other","since_one","since_other"] (eI t):=NM T
 refine T.Ih.okX je (fun vs H Q E h=>?_) (fun cdv A outer s H vs Q E hr h=>?_)
 ·obtain ⟨c,n,ds,z,p,sp,rfl,_⟩:=h;rfl
 obtain ⟨c,n,ds,z,p,sp,rfl,C,hn,hD,hz,L,hs,nt0,q⟩:=h
 have hu:=OB hr
 refine ⟨_,(db (kc (i:=3) je.nd rfl (Or.inl rfl) Yo)
   (db (De (ge ⟨rfl,rfl⟩) rfl (Me (qd (pv 0) T.Ib T.Vd G_Crossing_names hr T.Pd .nil dc)) (Bb (i:=4) je.nd rfl (Or.inl rfl)) (gb (fu hu (pv 3) (pv 4) (Jb G_since_marked hr rfl T.Ws T.Gh.kp T.Hs .nil dc (bb (Jb G_free_marks hr rfl T.jo T.Ah.kp T.io .nil dc (bb (pv 1) (bb (pv 2) (bb (pv 4) fb)))) fb)) rfl)))
   (gb (De (ge ⟨rfl,rfl⟩) rfl (Me (qd (pv 0) T.Ib T.Vd G_Crossing_names hr T.Pd .nil dc)) (Bb (i:=5) je.nd rfl (Or.inl rfl)) (gb (De (ge ⟨rfl,rfl⟩) rfl (Me (qd (pv 0) T.Ib T.Vd G_Crossing_names hr T.Pd .nil dc)) (Bb (i:=6) je.nd rfl (Or.inl rfl)) (gb (qe (PW.pt (nI (Pc EG (pv 5) (pv 6) (Lc _)) (xC (xh (Jb G_meet hr rfl T.vN T.mE.kp T.VM .nil dc (bb (pv 0) (bb (pv 5) (bb (pv 6) fb)))))))) (gb (ac (Jb GX_refuse_clash_of hr rfl T.Dn T.Af.kp T.Cn .nil qc (bb (pv 0) (bb (pv 5) (bb (pv 6) (bb (zu hu (pv 3) (pv 5) (fun _ _=>rfl)) (bb (zu hu (pv 3) (pv 6) (fun _ _=>rfl)) fb)))))))) Zb)))))))),?_⟩
 (walk_at "RD")
 intro pd hpd
 obtain ⟨⟨hnd,hdl⟩,dx,wl,nd,e1,_,_⟩:=id C
 have s0:Xb H (upd H pd (.dK [])):=ib hpd
 refine ⟨_,_,s0 _ _ e1,Yx _ _ _ (by decide +kernel),c,n,ds,rfl,C.same s0,fun pn hpn=>⟨pn,rfl,⟨_,SqL.of cb⟩,?_⟩⟩
 have hpp:pn ≠ pd:=fun e=>by subst e;rw [cb] at hpn;cases hpn
 refine sj.list (xs:=bc (ds.map (·.name))) (fun i σ H'=>(∃ y,σ=[some (V.ref c),some (V.int z),some (V.ref p),some (V.ref pd),y,none,none])∧Xb H H'∧NoT H'∧H' pn=some (.lst (bc (ds.map (·.name))))∧NK H' pd ds (fun d=>.lst ((Gk z sp d.name).map V.int)) i) ?_ ?_ ?_ ?_
 ·exact ⟨⟨_,rfl⟩,s0.trans (ib hpn),(nt0.upd).upd,cb,[],rfl,by rw [lb (Ne.symm hpp),cb];simp [nkv],fun i r d h=>by simp at h⟩
 ·rintro i σ H' hi ⟨_,_,_,h,_⟩
  exact SqL.of h
 ·rintro i v σ H' hv ⟨⟨y,rfl⟩,sm,nt,hpn',rs,hrl,hpd',hrs⟩
  obtain ⟨x,hx,rfl⟩:=Ec hv
  obtain ⟨d,hd,rfl⟩:=Ec hx
  (walk_at "RD")
  refine ⟨z,p,d.name,sp,rfl,hz,L.same sm,hs,fun r1 H1 s1 n1 hr1 h1=>⟨r1,_,rfl,h1,by rw [ul];exact hz,fun r2 H2 s2 n2 hr2 h2=>?_⟩⟩
  have s12:=s1.trans s2
  have hp2:=s12 _ _ hpd'
  refine ⟨_,Nz.k (k:=Sum.inr d.name) hp2 (Nat.lt_of_le_of_lt (show (nkv ds rs).length ≤ 12 by unfold nkv;rw [List.length_map,List.length_zip];omega) (by decide)),?_⟩
  have hdi:ds[rs.length]? = some d:=by rw [hrl];exact hd
  rw [dy hnd hdi]
  have hne:∀ {b:Addr} {ys:List V},H2 b=some (.lst ys)→b ≠ pd:=fun e=>Bg e hp2 (by intro z;cases z)
  refine ⟨⟨_,rfl⟩,fun b u e=>?_,(n2 (n1 nt)).upd,?_,rs ++ [r2],by rw [List.length_append,hrl];rfl,cb,fun j r e hj he=>?_⟩
  ·rw [lb (qb e hpd)];exact s12 _ _ (sm _ _ e)
  ·rw [lb hpp];exact s12 _ _ hpn'
  ·rcases Kl hj with ⟨_,z2⟩ | ⟨z1,rfl⟩
   ·have:=s12 _ _ (hrs j r e z2 he)
    rw [lb (hne this)];exact this
   ·rw [z1] at he
    rw [hdi] at he
    cases he
    rw [lb (hne h2)];exact h2
 rintro σ H1 ⟨⟨y,rfl⟩,sm1,nt1,hpn1,N1⟩
 have hsl:(bc (ds.map (·.name))).length=ds.length:=by unfold bc;simp
 rw [hsl] at N1
 obtain ⟨rs,hrl,hpd1,hrs⟩:=N1
 have C1:=C.same sm1
 (walk_at "RD")
 refine ⟨_,_,sm1 _ _ e1,Yx _ _ _ (by decide +kernel),c,n,ds,rfl,C1,fun p2 hp2=>⟨p2,rfl,⟨_,SqL.of cb⟩,?_⟩⟩
 refine sj.list (xs:=bc (ds.map (·.name))) (fun i σ H'=>(∃ y u v,σ=[some (V.ref c),some (V.int z),some (V.ref p),some (V.ref pd),y,u,v])∧Xb H1 H'∧NoT H'∧H' p2=some (.lst (bc (ds.map (·.name))))∧Ym n z sp ds=(ds.drop i).findSome? fun d1=>Fq n z sp d1 ds) ?_ ?_ ?_ ?_
 ·exact ⟨⟨_,_,_,rfl⟩,ib hp2,nt1.upd,cb,rfl⟩
 ·rintro i σ H' hi ⟨_,_,_,h,_⟩
  exact SqL.of h
 ·rintro i v σ H2 hv ⟨⟨y,u,v',rfl⟩,sm2,nt2,hpn2,hA⟩
  obtain ⟨x,hx,rfl⟩:=Ec hv
  obtain ⟨d1,hd1,rfl⟩:=Ec hx
  obtain ⟨hi,hxi⟩:=List.getElem?_eq_some_iff.mp hd1
  rw [List.drop_eq_getElem_cons hi,hxi,List.findSome?_cons] at hA
  have C2:=C1.same sm2
  (walk_at "RD")
  refine ⟨_,_,sm2 _ _ (sm1 _ _ e1),Yx _ _ _ (by decide +kernel),c,n,ds,rfl,C2,fun p3 hp3=>⟨p3,rfl,⟨_,SqL.of cb⟩,?_⟩⟩
  refine sj.list (xs:=bc (ds.map (·.name))) (fun j σ H'=>(∃ y v,σ=[some (V.ref c),some (V.int z),some (V.ref p),some (V.ref pd),y,some (V.str d1.name),v])∧Xb H2 H'∧NoT H'∧H' p3=some (.lst (bc (ds.map (·.name))))∧Fq n z sp d1 ds=(ds.drop j).findSome? fun d2=>(Ek n z sp d1 d2).map fun i=>(d1,d2,i)) ?_ ?_ ?_ ?_
  ·exact ⟨⟨_,_,rfl⟩,ib hp3,nt2.upd,cb,rfl⟩
  ·rintro i σ H' hi ⟨_,_,_,h,_⟩
   exact SqL.of h
  ·rintro j v σ H3 hv ⟨⟨y,v',rfl⟩,sm3,nt3,hpn3,hB⟩
   obtain ⟨x,hx,rfl⟩:=Ec hv
   obtain ⟨d2,hd2,rfl⟩:=Ec hx
   obtain ⟨hj,hxj⟩:=List.getElem?_eq_some_iff.mp hd2
   rw [List.drop_eq_getElem_cons hj,hxj,List.findSome?_cons] at hB
   have C3:=C2.same sm3
   have sm13:=sm2.trans sm3
   (walk_at "RD")
   refine Vb (decide (d1.name ≠ d2.name) && mt n d1 d2) (fun Q hQ=>?_) (fun c1=>?_) (fun c1=>?_)
   ·(walk_at "RD")
    by_cases c0:d1.name=d2.name
    ·rw [decide_eq_false (fun z=>z c0),Bool.false_and] at hQ
     rw [if_neg (by simp [c0])]
     exact hQ
    ·rw [decide_eq_true c0,Bool.true_and] at hQ
     rw [if_pos (by simp [c0])]
     exact ⟨c,n,ds,i,j,d1,d2,rfl,C3,hn,hd1,hd2,nt3,_,rfl,hQ⟩
   ·rw [Bool.and_eq_true] at c1
    have c2:Ek n z sp d1 d2=(mi (SA d1 d2) (Gk z sp d1.name) (Gk z sp d2.name)).map (·.2):=by
     unfold Ek;rw [if_pos ⟨of_decide_eq_true c1.1,c1.2⟩]
    rw [c2] at hB
    have hr1:rs[i]? = some rs[i]:=List.getElem?_eq_getElem (by omega)
    have hr2:rs[j]? = some rs[j]:=List.getElem?_eq_getElem (by omega)
    have g1:Km H3 pd (.str d1.name) (some (.ref rs[i])):=by rw [← bB hnd hd1 hr1];exact Km.k (k:=Sum.inr d1.name) (sm13 _ _ hpd1)
    have g2:Km H3 pd (.str d2.name) (some (.ref rs[j])):=by rw [← bB hnd hd2 hr2];exact Km.k (k:=Sum.inr d2.name) (sm13 _ _ hpd1)
    (walk_at "RD")
    refine ⟨_,g1,_,g2,c,n,ds,d1,d2,_,_,_,_,rfl,C3,hD,List.mem_of_getElem? hd1,List.mem_of_getElem? hd2,sm13 _ _ (hrs i _ _ hr1 hd1),sm13 _ _ (hrs j _ _ hr2 hd2),by rw [mn,mn],by rw [mn];exact hz.2,?_⟩
    cases hc:mi (SA d1 d2) (Gk z sp d1.name) (Gk z sp d2.name) with
    | none=>
     rw [hc] at hB
     exact fun H4 s4 n4=>⟨(by first | exact ⟨_,_,rfl⟩ | exact ⟨_,rfl⟩ | simp),sm3.trans s4,n4 nt3,s4 _ _ hpn3,hB⟩
    | some e=>
     rw [hc] at hB
     have hB:Fq n z sp d1 ds=some (d1,d2,e.2):=hB
     rw [hB] at hA
     have hA:Ym n z sp ds=some (d1,d2,e.2):=hA
     rw [hA] at q
     exact q.step (sm1.trans sm13) fun _=>nt3
   ·have c2:Ek n z sp d1 d2=none:=by
     unfold Ek
     rw [if_neg]
     rintro ⟨z1,z2⟩
     rw [decide_eq_true z1,z2] at c1
     cases c1
    rw [c2] at hB
    exact ⟨⟨_,_,rfl⟩,sm3,nt3,hpn3,hB⟩
  ·rintro σ H' ⟨⟨y,v',rfl⟩,sm3,nt3,_,hB⟩
   rw [hsl,List.drop_of_length_le (Nat.le_refl _)] at hB
   have hB:Fq n z sp d1 ds=none:=hB
   rw [hB] at hA
   exact ⟨⟨_,_,_,rfl⟩,sm2.trans sm3,nt3,sm3 _ _ hpn2,hA⟩
 ·rintro σ H' ⟨_,sm,nt,_,hA⟩
  rw [hsl,List.drop_of_length_le (Nat.le_refl _)] at hA
  have hA:Ym n z sp ds=none:=hA
  rw [hA] at q
  exact q _ (sm1.trans sm) nt
end
end My
namespace My
open PySem L2
noncomputable abbrev MI:List Str:=[Str.ofString "crossing",Str.ofString "size",Str.ofString "spans",Str.ofString "lamps",Str.ofString "untils"]
noncomputable def plF (c:Addr) (z:Int) (p lm un:Addr):List (Str × V):=[(Str.ofString "crossing",.ref c),(Str.ofString "size",.int z),(Str.ofString "spans",.ref p),(Str.ofString "lamps",.ref lm),(Str.ofString "untils",.ref un)]
theorem Sy (c:Addr) (z:Int) (p lm un:Addr):(plF c z p lm un).map (·.1)=MI:=rfl
noncomputable def uN (z:Nat) (sp:List SD) (d:WD):List Str:=cj z (Sd d).toNat (Lg d).toNat (ofN d.name sp)
noncomputable def QH (z:Nat) (sp:List SD) (x:Str):List Int:=Vm (fmF z (ofN x sp))
structure qH (t:Adr) (H:Hp) (a c:Addr) (n:Int) (ds:List WD) (z:Nat) (sp:List SD):Prop where
 at_:∃ dx p lm un,H a=some (.ins t.we dx (plF c z p lm un))∧Ac t H c n ds∧LO H p (List.map sdO sp)∧NK H lm ds (fun d=>.lst (bc (uN z sp d))) ds.length∧NK H un ds (fun d=>.lst ((QH z sp d.name).map V.int)) ds.length
noncomputable def aI (t:Adr):Sp:=fun vs H Q _=>∃ (a dx c:Addr) (n:Int) (ds:List WD) (z:Nat) (p:Addr) (sp:List SD),vs=[.ref a,.ref c,.int z,.ref p]∧H a=some (.ins t.we dx [])∧Ac t H c n ds∧DOk ds∧(0 < z∧z ≤ 1000)∧LO H p (List.map sdO sp)∧dL z sp∧NoT H ∧
 ∀ H',Vc a H H'→NoT H'→qH t H' a c n ds z sp→Q .non H'
noncomputable def gN (t:Adr) (c:Addr) (n:Int) (ds:List WD) (z:Nat) (sp:List SD) (H:Hp) (Q:VK) (E:XK):Prop:=
 (Yh ds sp=none→aj ds z sp=none→Ym n z sp ds=none→∀ a H',Xb H H'→NoT H'→qH t H' a c n ds z sp→Q (.ref a) H') ∧
 (∀ x,Yh ds sp=some x→pz t.Kb [(Str.ofString "way",.str x)] H E) ∧
 (∀ e,Yh ds sp=none→aj ds z sp=some e→pz t.Gb [(Str.ofString "way",.str e.1.name),(Str.ofString "at",.int e.1.b)] H E) ∧
 (∀ e,Yh ds sp=none→aj ds z sp=none→Ym n z sp ds=some e→pz t.Fb [(Str.ofString "way",.str e.1.name),(Str.ofString "other",.str e.2.1.name),(Str.ofString "at",.int e.2.2)] H E)
noncomputable def uu (t:Adr):Sp:=fun vs H Q E=>∃ (c:Addr) (n:Int) (ds:List WD) (z:Nat) (p:Addr) (sp:List SD),vs=[.ref c,.int z,.ref p]∧Ac t H c n ds∧0 < n∧DOk ds∧(0 < z∧z ≤ 1000)∧LO H p (List.map sdO sp)∧dL z sp∧(∀ s ∈ sp,∃ d,wOf ds s.name=some d)∧NoT H ∧
 gN t c n ds z sp H Q E
section
variable {w:World} {K:PySem.W.Frag} {mg:Str→Option Value} {t:Adr} {H:Hp} {a c dx p lm un:Addr} {z:Int}
theorem UG (T:Txt w K mg t) (e:H a=some (.ins t.we dx (plF c z p lm un))):gj K H a (Str.ofString "lamps") (.ref lm):=⟨_,dx,_,e,T.Il,T.mm,ic MI 3 (Sy ..) (by decide +kernel) rfl⟩
theorem aE (T:Txt w K mg t) (e:H a=some (.ins t.we dx (plF c z p lm un))):gj K H a (Str.ofString "untils") (.ref un):=⟨_,dx,_,e,T.Il,T.Ik,ic MI 4 (Sy ..) (by decide +kernel) rfl⟩
end
theorem uC {H:Hp} {a b C C' dx dx':Addr} {fs:List (Str × V)} (ha:H a=some (.ins C dx [])) (hb:H b=some (.ins C' dx' fs)) (hf:fs ≠ []):b ≠ a:=fun z=>by
 subst z
 rw [hb] at ha
 have e:=Option.some.inj ha
 injection e with _ _ e3
 exact hf e3
theorem Ac.sameX {t:Adr} {H H':Hp} {a c C dx:Addr} {n:Int} {ds:List WD} (h:Ac t H c n ds) (s:Vc a H H') (ha:H a=some (.ins C dx [])):Ac t H' c n ds:=by
 obtain ⟨h0,dx',wl,nd,e1,⟨as,w1,w2,al⟩,e3⟩:=h
 refine ⟨h0,dx',wl,nd,s _ _ (uC ha e1 (by unfold cF;simp)) e1,⟨as,s _ _ (Bg w1 ha (by intro z;cases z)) w1,w2,fun i b d hb hd=>?_⟩,s _ _ (Bg e3 ha (by intro z;cases z)) e3⟩
 obtain ⟨k,dxb,eb⟩:=al i b d hb hd
 exact ⟨k,dxb,s _ _ (uC ha eb (by unfold Ho;simp)) eb⟩
theorem LO.sameX {H H':Hp} {a p C dx:Addr} {sp:List SD} (h:LO H p (List.map sdO sp)) (s:Vc a H H') (ha:H a=some (.ins C dx [])):LO H' p (List.map sdO sp):=by
 obtain ⟨qs,l1,l2⟩:=h
 refine ⟨qs,s _ _ (Bg l1 ha (by intro z;cases z)) l1,l2.1,fun i q o hq ho=>?_⟩
 have e:=l2.2 i q o hq ho
 refine s _ _ (Bg e ha ?_) e
 obtain ⟨d,_,rfl⟩:=Ec ho
 intro z;cases z
section
variable {P:Program} {w:World} {K:PySem.W.Frag} {mg:Str→Option Value} {base:Heap} {t:Adr}
theorem XM (T:Txt w K mg t):Eb P w K mg base CX0 4 t.Pg t.Di ["self","crossing","size","spans"] (aI t):=by
 have G_lamp:Eb P w K mg base CX0 3 t.Vy t.oz ["way","size","spans"] (QC t):=(wK T).mono (by decide)
 have G_until_marked:Eb P w K mg base CX0 3 t.Ae t.Ce ["marks"] Lu:=(bz T).mono (by decide)
 have G_free_marks:Eb P w K mg base CX0 3 t.dg t.Vf ["size","spans","name"] YI:=(GM T).mono (by decide)
 have G_Crossing_names:Eb P w K mg base CX0 3 t.Tc t.vd ["self"] (jp t):=(du T).mono (by decide)
 have G_Crossing_called:Eb P w K mg base CX0 3 t.Nb t.Rb ["self","name"] (Rh t):=(Jj T).mono (by decide)
 refine T.Op.ok Xi (fun vs H Q E h=>?_) (fun cdv A outer s H vs Q E hr h=>?_)
 ·obtain ⟨a,dx,c,n,ds,z,p,sp,rfl,_⟩:=h;rfl
 obtain ⟨a,dx,c,n,ds,z,p,sp,rfl,ha,C,hD,hz,L,hs,nt0,q⟩:=h
 have hu:=OB hr
 refine ⟨_,(db (jf (pv 0) (pv 1) rfl)
   (db (jf (pv 0) (pv 2) rfl)
   (db (jf (pv 0) (pv 3) rfl)
   (db (jf (pv 0) Yo rfl)
   (db (jf (pv 0) Yo rfl)
   (gb (De PassesOwn.never rfl (Me (qd (pv 1) T.Ib T.Vd G_Crossing_names hr T.Pd .nil dc)) (Bb (i:=4) Xi.nd rfl (Or.inl rfl)) (db (fu hu (zc (pv 0) rfl) (pv 4) (Jb G_lamp hr rfl T.cN T.TB.kp T.tL .nil dc (bb (md (pv 1) T.Ib T.xc G_Crossing_called hr T.wc .nil dc (bb (pv 4) fb)) (bb (pv 2) (bb (pv 3) fb)))) rfl)
   (gb (fu hu (zc (pv 0) rfl) (pv 4) (Jb G_until_marked hr rfl T.Dk T.Ff.kp T.Rk .nil dc (bb (Jb G_free_marks hr rfl T.jo T.Ah.kp T.io .nil dc (bb (pv 2) (bb (pv 3) (bb (pv 4) fb)))) fb)) rfl)))))))))),?_⟩
 (walk_at "RD")
 refine ⟨_,_,_,ha,T.Il,T.Do,by decide,?_⟩
 refine ⟨_,_,_,cb,T.Il,T.Aw,Zm (n:=999) (by decide),?_⟩
 refine ⟨_,_,_,cb,T.Il,T.Bu,Zm (n:=999) (Zm (n:=998) (by decide)),fun lm hlm=>?_⟩
 simp only [ui] at hlm ⊢
 rw [show rg (Str.ofString "crossing") (V.ref c) ([]:List (Str × V))=[(Str.ofString "crossing",V.ref c)] from rfl,show rg (Str.ofString "size") (V.int z) [(Str.ofString "crossing",V.ref c)]=[(Str.ofString "crossing",V.ref c),(Str.ofString "size",V.int z)] from Mc [Str.ofString "crossing"] rfl (by decide +kernel),show rg (Str.ofString "spans") (V.ref p) [(Str.ofString "crossing",V.ref c),(Str.ofString "size",V.int z)]=[(Str.ofString "crossing",V.ref c),(Str.ofString "size",V.int z),(Str.ofString "spans",V.ref p)] from Mc [Str.ofString "crossing",Str.ofString "size"] rfl (by decide +kernel)] at hlm ⊢
 have hla:a ≠ lm:=fun z=>by subst z;rw [cb] at hlm;cases hlm
 have hHl:H lm=none:=by rw [lb (Ne.symm hla)] at hlm;exact hlm
 refine ⟨t.we,dx,[(Str.ofString "crossing",V.ref c),(Str.ofString "size",V.int z),(Str.ofString "spans",V.ref p)],by rw [lb hla];exact cb,T.Il,T.mm,show (3:Nat) < 1000 by decide,fun un hun=>?_⟩
 rw [show rg (Str.ofString "lamps") (V.ref lm) [(Str.ofString "crossing",V.ref c),(Str.ofString "size",V.int z),(Str.ofString "spans",V.ref p)]=[(Str.ofString "crossing",V.ref c),(Str.ofString "size",V.int z),(Str.ofString "spans",V.ref p),(Str.ofString "lamps",V.ref lm)] from Mc [Str.ofString "crossing",Str.ofString "size",Str.ofString "spans"] rfl (by decide +kernel)] at hun ⊢
 have hua:a ≠ un:=fun z=>by subst z;rw [cb] at hun;cases hun
 have hul:un ≠ lm:=fun z=>by subst z;rw [lb (Ne.symm hua),cb] at hun;cases hun
 have hHu:H un=none:=by rw [lb (Ne.symm hua),lb hul,lb (Ne.symm hua)] at hun;exact hun
 refine ⟨t.we,dx,[(Str.ofString "crossing",V.ref c),(Str.ofString "size",V.int z),(Str.ofString "spans",V.ref p),(Str.ofString "lamps",V.ref lm)],by rw [lb hua];exact cb,T.Il,T.Ik,show (4:Nat) < 1000 by decide,?_⟩
 rw [show rg (Str.ofString "untils") (V.ref un) [(Str.ofString "crossing",V.ref c),(Str.ofString "size",V.int z),(Str.ofString "spans",V.ref p),(Str.ofString "lamps",V.ref lm)]=plF c z p lm un from Mc [Str.ofString "crossing",Str.ofString "size",Str.ofString "spans",Str.ofString "lamps"] rfl (by decide +kernel)]
 have hf:∃ H5:Hp,H5=upd (upd (upd (upd (upd H a (.ins t.we dx [(Str.ofString "crossing",V.ref c),(Str.ofString "size",V.int z),(Str.ofString "spans",V.ref p)])) lm (.dK [])) a (.ins t.we dx [(Str.ofString "crossing",V.ref c),(Str.ofString "size",V.int z),(Str.ofString "spans",V.ref p),(Str.ofString "lamps",V.ref lm)])) un (.dK [])) a (.ins t.we dx (plF c z p lm un)):=⟨_,rfl⟩
 obtain ⟨H5,h5⟩:=hf
 rw [← h5]
 have g1:H5 a=some (.ins t.we dx (plF c z p lm un)):=by rw [h5,cb]
 have g2:H5 lm=some (.dK []):=by rw [h5,lb (Ne.symm hla),lb (Ne.symm hul),lb (Ne.symm hla),cb]
 have g3:H5 un=some (.dK []):=by rw [h5,lb (Ne.symm hua),cb]
 have g4:Vc a H H5:=fun b u hb e=>by rw [h5,lb hb,lb (qb e hHu),lb hb,lb (qb e hHl),lb hb];exact e
 have g5:NoT H5:=by rw [h5];exact ((((nt0.upd).upd).upd).upd).upd
 clear h5
 have C5:=C.sameX g4 ha
 obtain ⟨⟨hnd,hdl⟩,dxc,wl,nd,e1,_,_⟩:=id C5
 refine ⟨_,_,e1,Yx _ _ _ (by decide +kernel),c,n,ds,rfl,C5,fun pn hpn=>⟨pn,rfl,⟨_,SqL.of cb⟩,?_⟩⟩
 refine sj.list (xs:=bc (ds.map (·.name))) (fun i σ H'=>(∃ y,σ=[some (V.ref a),some (V.ref c),some (V.int z),some (V.ref p),y])∧Vc a H H'∧NoT H'∧H' a=some (.ins t.we dx (plF c z p lm un))∧H' pn=some (.lst (bc (ds.map (·.name))))∧NK H' lm ds (fun d=>.lst (bc (uN z sp d))) i∧NK H' un ds (fun d=>.lst ((QH z sp d.name).map V.int)) i) ?_ ?_ ?_ ?_
 ·have sn:=ib (o:=.lst (bc (ds.map (·.name)))) hpn
  exact ⟨⟨_,rfl⟩,g4.trans (Vc.of sn),g5.upd,sn _ _ g1,cb,⟨[],rfl,by rw [sn _ _ g2];simp [nkv],fun i r d h=>by simp at h⟩,⟨[],rfl,by rw [sn _ _ g3];simp [nkv],fun i r d h=>by simp at h⟩⟩
 ·rintro i σ H' hi ⟨_,_,_,_,h,_⟩
  exact SqL.of h
 ·rintro i v σ H' hv ⟨⟨y,rfl⟩,sx,nt,ha',hpn',⟨rl,hrl,hlm',hrs⟩,⟨ru,hru,hun',hus⟩⟩
  obtain ⟨x,hx,rfl⟩:=Ec hv
  obtain ⟨d,hd,rfl⟩:=Ec hx
  have C':=C.sameX sx ha
  have L':=L.sameX sx ha
  obtain ⟨_,dxc',wl',nd',e1',_,_⟩:=id C'
  (walk_at "RD")
  refine ⟨_,_,e1',Yx _ _ _ (by decide +kernel),c,n,ds,i,d,rfl,C',hd,fun wa W=>?_⟩
  have hdi:ds[rl.length]? = some d:=by rw [hrl];exact hd
  have hdj:ds[ru.length]? = some d:=by rw [hru];exact hd
  refine ⟨wa,d,z,p,sp,rfl,hz,W,L',hs,(hD d (List.mem_of_getElem? hd)).2,fun r1 H1 s1 n1 hr1 h1=>⟨_,UG T (s1 _ _ ha'),lm,rfl,_,Nz.k (k:=Sum.inr d.name) (s1 _ _ hlm') (Nat.lt_of_le_of_lt (show (nkv ds rl).length ≤ 12 by unfold nkv;rw [List.length_map,List.length_zip];omega) (by decide)),?_⟩⟩
  rw [dy hnd hdi]
  have kl:∀ {b:Addr} {u:HO},H' b=some u→b ≠ lm→upd H1 lm (.dK (nkv ds (rl ++ [r1]))) b=some u:=fun e h=>by rw [lb h];exact s1 _ _ e
  have k1:Vc a H (upd H1 lm (.dK (nkv ds (rl ++ [r1])))):=fun b u hb e=>kl (sx b u hb e) (qb e hHl)
  refine ⟨z,p,d.name,sp,rfl,hz,L.sameX k1 ha,hs,fun r3 H3 s3 n3 hr3 h3=>⟨r3,_,rfl,h3,by rw [ul];exact hz,fun r4 H4 s4 n4 hr4 h4=>?_⟩⟩
  have s34:=s3.trans s4
  have un2:H4 un=some (.dK (nkv ds ru)):=s34 _ _ (kl hun' hul)
  have a2:H4 a=some (.ins t.we dx (plF c z p lm un)):=s34 _ _ (kl ha' hla)
  refine ⟨_,aE T a2,un,rfl,_,Nz.k (k:=Sum.inr d.name) un2 (Nat.lt_of_le_of_lt (show (nkv ds ru).length ≤ 12 by unfold nkv;rw [List.length_map,List.length_zip];omega) (by decide)),?_⟩
  rw [dy hnd hdj]
  have ku:∀ {b:Addr} {u:HO},upd H1 lm (.dK (nkv ds (rl ++ [r1]))) b=some u→b ≠ un→upd H4 un (.dK (nkv ds (ru ++ [r4]))) b=some u:=fun e h=>by rw [lb h];exact s34 _ _ e
  have nel:∀ {b:Addr} {ys:List V},H' b=some (.lst ys)→b ≠ lm:=fun e=>Bg e hlm' (by intro z;cases z)
  have neu:∀ {b:Addr} {ys:List V},H' b=some (.lst ys)→b ≠ un:=fun e=>Bg e hun' (by intro z;cases z)
  have r1l:r1 ≠ lm:=Bg h1 (s1 _ _ hlm') (by intro z;cases z)
  have r1u:r1 ≠ un:=Bg h1 (s1 _ _ hun') (by intro z;cases z)
  have r4u:r4 ≠ un:=Bg h4 un2 (by intro z;cases z)
  refine ⟨⟨_,rfl⟩,fun b u hb e=>ku (k1 b u hb e) (qb e hHu),(n4 (n3 (n1 nt).upd)).upd,ku (kl ha' hla) hua,ku (kl hpn' (nel hpn')) (neu hpn'),⟨rl ++ [r1],by rw [List.length_append,hrl];rfl,ku cb (Ne.symm hul),fun j r e hj he=>?_⟩,⟨ru ++ [r4],by rw [List.length_append,hru];rfl,cb,fun j r e hj he=>?_⟩⟩
  ·rcases Kl hj with ⟨_,z2⟩ | ⟨z1,rfl⟩
   ·have:=hrs j r e z2 he
    exact ku (kl this (nel this)) (neu this)
   ·rw [z1,hdi] at he
    cases he
    exact ku (by rw [lb r1l];exact h1) r1u
  ·rcases Kl hj with ⟨_,z2⟩ | ⟨z1,rfl⟩
   ·have:=hus j r e z2 he
    exact ku (kl this (nel this)) (neu this)
   ·rw [z1,hdj] at he
    cases he
    rw [lb r4u];exact h4
 ·rintro σ H' ⟨_,sx,nt,ha',_,N1,N2⟩
  have hsl:(bc (ds.map (·.name))).length=ds.length:=by unfold bc;simp
  rw [hsl] at N1 N2
  exact q _ sx nt ⟨dx,p,lm,un,ha',C.sameX sx ha,L.sameX sx ha,N1,N2⟩
theorem fH (T:Txt w K mg t):Eb P w K mg base (CX1 P w) 6 t.zi t.xi ["crossing","size","rows"] (uu t):=by
 have G_Crossing_called:Eb P w K mg base CX0 5 t.Nb t.Rb ["self","name"] (Rh t):=(Jj T).mono (by decide)
 have G_Plan_init:Eb P w K mg base CX0 4 t.Pg t.Di ["self","crossing","size","spans"] (aI t):=XM T
 have GX_refuse_never:Eb P w K mg base (CX1 P w) 5 t.Lf t.Gf ["crossing","spans"] (Zu t):=(LC T).mono (by decide)
 have GX_refuse_short:Eb P w K mg base (CX1 P w) 5 t.Cf t.Kf ["crossing","size","spans"] (gv t):=(kD T).mono (by decide)
 have GX_refuse_clash:Eb P w K mg base (CX1 P w) 5 t.Ef t.Qf ["crossing","size","spans"] (Gv t):=sD T
 refine T.zg.okX Yf (fun vs H Q E h=>?_) (fun cdv A outer s H vs Q E hr h=>?_)
 ·obtain ⟨c,n,ds,z,p,sp,rfl,_⟩:=h;rfl
 obtain ⟨c,n,ds,z,p,sp,rfl,C,hn,hD,hz,L,hs,hw,nt0,q1,q2,q3,q4⟩:=h
 refine ⟨_,(db (Yj (i:=3) Yf.nd rfl (Or.inl rfl) rfl (Me (pv 2)) (Ud (sc:=jb Pl) rfl (by decide +kernel)) (N:=["name","begin","turns"]) (sel:=[none,none,none]) (Ie (M:=["crossing","size","rows","spans","name","begin","turns"]) (by decide +kernel)) (Blk.of (fun _ _ _ _=>(xf (K:=K) (n:=3) rfl rfl (Ob (Bb (i:=0) (Ai (N:=["name","begin","turns"]) (by decide +kernel) rfl) rfl (Or.inl rfl) (.inr rfl)) (Ob (Bb (i:=1) (Ai (N:=["name","begin","turns"]) (by decide +kernel) rfl) rfl (Or.inl rfl) (.inr rfl)) (Ob (Bb (i:=2) (Ai (N:=["name","begin","turns"]) (by decide +kernel) rfl) rfl (Or.inl rfl) (.inr rfl)) lf))))) (fun _ _ _ _=>⟨_,Mh,by first | rfl | (dsimp only [Cx.block];done) | (dsimp only [Cx.block];exact rfl)⟩) (fun _ _ _ _=>⟨_,(ze (bb (pv 0) (bb (pv 1) (bb (pv 2) fb)))),by first | rfl | (dsimp only [Cx.block];done) | (dsimp only [Cx.block];exact rfl)⟩)) rfl)
   (db (De (ge ⟨rfl,rfl⟩) rfl (Me (pv 3)) (xf (K:=K) (n:=3) rfl rfl (Ob (Bb (i:=4) Yf.nd rfl (Or.inl rfl) (.inl rfl)) (Ob (Bb (i:=5) Yf.nd rfl (Or.inl rfl) (.inl rfl)) (Ob (Bb (i:=6) Yf.nd rfl (Or.inl rfl) (.inl rfl)) lf)))) (gb (ac (md (pv 0) T.Ib T.xc G_Crossing_called hr T.wc .nil dc (bb (pv 4) fb)))))
   (db (ac (Jb GX_refuse_never hr rfl T.Ss T.Kh.kp T.Qs .nil qc (bb (pv 0) (bb (pv 3) fb))))
   (db (ac (Jb GX_refuse_short hr rfl T.Jr T.Fh.kp T.Rr .nil qc (bb (pv 0) (bb (pv 1) (bb (pv 3) fb)))))
   (db (ac (Jb GX_refuse_clash hr rfl T.Xs T.Ih.kp T.Is .nil qc (bb (pv 0) (bb (pv 1) (bb (pv 3) fb)))))
   (gb (Db (Jn T.IL G_Plan_init hr rfl T.sL T.yx .nil dc (bb (pv 0) (bb (pv 1) (bb (pv 3) fb))))))))))),?_⟩
 (walk_at "RD")
 obtain ⟨qs,l1,lq⟩:=L
 have hql:qs.length=sp.length:=by rw [lq.1,List.length_map]
 have hs1:=hs.1
 refine ⟨⟨_,SqL.of l1⟩,?_⟩
 refine Xd.list (xs:=qs.map V.ref) (fun i ys H'=>∃ os:List Addr,ys=os.map V.ref∧LQ H' os ((sp.take i).map sdO)∧Xb H H'∧NoT H') (Nat.le_trans (show (qs.map V.ref).length ≤ 100 by rw [List.length_map];omega) (by decide)) ⟨[],rfl,by rw [List.take_zero];exact LQ.nil _,Xb.refl _,nt0⟩ ?_ ?_ ?_
 ·rintro i ys H' hi ⟨os,rfl,r,sm,_⟩
  refine ⟨(SqL.of l1).same sm,?_⟩
  rw [List.length_map,r.1,List.length_map,List.length_take];omega
 ·rintro i v ys H' hv ⟨os,rfl,r,sm,nt⟩ N hN
  obtain ⟨qi,hqi,rfl⟩:=Ec hv
  obtain ⟨o,ho,e⟩:=lq.at hqi
  obtain ⟨d,hd,rfl⟩:=Ec ho
  have e':=sm _ _ e
  dsimp only at hN
  rw [wj hd,List.map_append] at hN
  (walk_at "RD")
  refine ⟨_,SqT.of e',rfl,_,_,rfl,_,_,rfl,_,_,rfl,rfl,Sub.name3,by decide,fun p1 hp1=>?_⟩
  exact hN _ _ ⟨os ++ [p1],by rw [List.map_append];rfl,(r.same (ib hp1)).app (LQ.one cb),sm.trans (ib hp1),nt.upd⟩
 rintro ys H1 ⟨os,rfl,r,sm1,nt1⟩ p1 hp1
 rw [List.take_of_length_le (by rw [List.length_map];omega)] at r
 have s2:Xb H1 (upd H1 p1 (.lst (os.map V.ref))):=ib hp1
 have nt2:NoT (upd H1 p1 (.lst (os.map V.ref))):=nt1.upd
 have L2:LO (upd H1 p1 (.lst (os.map V.ref))) p1 (List.map sdO sp):=⟨os,cb,r.same s2⟩
 have sm2:=sm1.trans s2
 generalize upd H1 p1 (.lst (os.map V.ref))=H2 at s2 nt2 L2 sm2 ⊢
 have C2:=C.same sm2
 obtain ⟨_,dxc,wl,nd,e1,_,_⟩:=id C2
 obtain ⟨qs2,m1,mq⟩:=id L2
 have hql2:qs2.length=sp.length:=by rw [mq.1,List.length_map]
 (walk_at "RD")
 refine ⟨⟨_,SqL.of m1⟩,?_⟩
 refine sj.list (xs:=qs2.map V.ref) (fun i σ H'=>(∃ x y z',σ=[some (V.ref c),some (V.int z),some (V.ref p),some (V.ref p1),x,y,z'])∧H'=H2) ?_ ?_ ?_ ?_
 ·exact ⟨⟨_,_,_,rfl⟩,rfl⟩
 ·rintro i σ H' hi ⟨_,rfl⟩
  exact SqL.of m1
 ·rintro i v σ H' hv ⟨⟨x,y,z',rfl⟩,rfl⟩
  obtain ⟨qi,hqi,rfl⟩:=Ec hv
  obtain ⟨o,ho,e⟩:=mq.at hqi
  obtain ⟨sd,hsd,rfl⟩:=Ec ho
  obtain ⟨d,hd⟩:=hw sd (List.mem_of_getElem? hsd)
  obtain ⟨hdn,j,hj⟩:=dI hd
  (walk_at "RD")
  exact ⟨_,SqT.of e,rfl,_,_,rfl,_,_,rfl,_,_,rfl,rfl,_,_,e1,Yx _ _ _ (by decide +kernel),c,n,ds,j,d,by rw [hdn],C2,hj,fun a W=>⟨(by first | exact ⟨_,_,_,rfl⟩ | exact ⟨_,_,rfl⟩ | exact ⟨_,rfl⟩ | simp),rfl⟩⟩
 rintro σ H' ⟨⟨x,y,z',rfl⟩,rfl⟩
 (walk_at "RD")
 refine ⟨c,n,ds,p1,sp,rfl,C2,hD,L2,hs1,?_⟩
 cases hN:Yh ds sp with
 | some x=>exact (q2 x hN).step sm2 fun _=>nt2
 | none=>
 intro H3 s3 n3
 have nt3:=n3 nt2
 have C3:=C2.same s3
 have L3:=L2.same s3
 (walk_at "RD")
 refine ⟨c,n,ds,z,p1,sp,rfl,C3,hD,⟨by omega,by omega⟩,L3,hs,hw,?_⟩
 cases hS:aj ds z sp with
 | some e=>exact (q3 e hN hS).step (sm2.trans s3) fun _=>nt3
 | none=>
 intro H4 s4 n4
 have nt4:=n4 nt3
 have C4:=C3.same s4
 have L4:=L3.same s4
 (walk_at "RD")
 refine ⟨c,n,ds,z,p1,sp,rfl,C4,hn,hD,hz,L4,hs,nt4,?_⟩
 cases hC:Ym n z sp ds with
 | some e=>exact (q4 e hN hS hC).step ((sm2.trans s3).trans s4) fun _=>nt4
 | none=>
 intro H5 s5 nt5
 have C5:=C4.same s5
 have L5:=L4.same s5
 (walk_at "RD")
 intro a dx ha hdx hne
 have sc:Xb H5 (upd (upd H5 dx (.own a)) a (.ins t.we dx [])):=((Xb.refl H5).updN hdx).updN ha
 refine ⟨a,dx,c,n,ds,z,p1,sp,rfl,cb,C5.same sc,hD,hz,L5.same sc,hs,(nt5.upd).upd,fun H6 s6 nt6 PA=>⟨rfl,?_⟩⟩
 have sm5:=((sm2.trans s3).trans s4).trans s5
 exact q1 hN hS hC a H6 (re (sm5.trans sc) s6 (sm5.free ha)) nt6 PA
end
end My
namespace My
open PySem L2
theorem Qy {α:Type} (z:Nat) (v:α) (b:Int) (hz:0 < z) (l:List α) (hl:l.length=z):∀ (k:Nat) (i:Nat),i < z→(Uy z v b k l)[i]? = if ∃ j,j < k∧(b + (j:Int)) % (z:Int)=(i:Int) then some v else l[i]?
 | 0,i,hi=>by rw [if_neg (fun ⟨j,hj,_⟩=>by omega)];rfl
 | k + 1,i,hi=>by
  have ih:=Qy z v b hz l hl k i hi
  have h0:=Int.emod_nonneg (b + (k:Int)) (show (z:Int) ≠ 0 by omega)
  have h1:=Int.emod_lt_of_pos (b + (k:Int)) (show 0 < (z:Int) by omega)
  unfold Uy xJ
  by_cases c:(b + (k:Int)) % (z:Int)=(i:Int)
  ·rw [show ((b + (k:Int)) % (z:Int)).toNat=i by omega,List.getElem?_set_self (by rw [Yg,hl];exact hi),if_pos ⟨k,by omega,c⟩]
  ·rw [List.getElem?_set_ne (by omega),ih]
   by_cases e:∃ j,j < k∧(b + (j:Int)) % (z:Int)=(i:Int)
   ·obtain ⟨j,hj,ej⟩:=e
    rw [if_pos ⟨j,hj,ej⟩,if_pos ⟨j,by omega,ej⟩]
   ·rw [if_neg e,if_neg]
    rintro ⟨j,hj,ej⟩
    by_cases hjk:j=k
    ·subst hjk;exact c ej
    ·exact e ⟨j,by omega,ej⟩
theorem fF {z b i:Int} {n:Int} (hz:0 < z) (hi:0 ≤ i∧i < z) (hn:0 ≤ n∧n ≤ z):(∃ j:Nat,j < n.toNat∧(b + (j:Int)) % z=i)↔(i - b) % z < n:=by
 have h0:=Int.emod_nonneg (i - b) (show z ≠ 0 by omega)
 have h1:=Int.emod_lt_of_pos (i - b) hz
 constructor
 ·rintro ⟨j,hj,e⟩
  have:(i - b) % z=j:=by
   rw [← e,Int.emod_sub_emod,show b + (j:Int) - b=j by omega]
   exact Int.emod_eq_of_lt (by omega) (by omega)
  omega
 ·intro h
  refine ⟨((i - b) % z).toNat,by omega,?_⟩
  rw [Int.toNat_of_nonneg h0,Int.add_emod_emod,show b + (i - b)=i by omega]
  exact Int.emod_eq_of_lt hi.1 hi.2
theorem jI {z:Nat} (hz:0 < z) {b n:Int} (hn:0 ≤ n∧n ≤ z) {i:Nat} (hi:i < z):(fmF z [(b,n)])[i]? = some (decide (((i:Int) - b) % (z:Int) < n)):=by
 unfold fmF
 rw [List.foldl_cons,List.foldl_nil,Qy z true b hz _ (List.length_replicate ..) _ _ hi]
 have:=fF (z:=z) (b:=b) (i:=i) (n:=n) (by omega) ⟨by omega,by omega⟩ hn
 by_cases c:((i:Int) - b) % (z:Int) < n
 ·rw [if_pos (this.mpr c),decide_eq_true c]
 ·rw [if_neg (fun e=>c (this.mp e)),decide_eq_false c,List.getElem?_replicate,if_pos hi]
theorem Ki (m:List Bool):∀ k,0 ≤ We m k
 | 0=>by show (0:Int) ≤ 0;decide
 | k + 1=>by
  have:=Ki m k
  unfold We
  split <;> omega
theorem Xv (m:List Bool) (g:Int) (hg:0 ≤ g):∀ k:Nat,We m k ≤ g↔(∃ j:Nat,(j:Int) ≤ g∧j < k∧m[(2 * m.length - 1 - (k - 1 - j)) % m.length]? = some true)∨(k:Int) ≤ g
 | 0=>by
  constructor
  ·intro _;exact .inr (by omega)
  ·intro _;exact hg
 | k + 1=>by
  by_cases c:m[(2 * m.length - 1 - k) % m.length]? = some true
  ·have e:We m (k + 1)=0:=by unfold We;rw [if_pos c]
   rw [e]
   exact ⟨fun _=>.inl ⟨0,by omega,by omega,by rw [show k + 1 - 1 - 0=k by omega];exact c⟩,fun _=>hg⟩
  ·have e:We m (k + 1)=We m k + 1:=by
    show (if m[(2 * m.length - 1 - k) % m.length]? = some true then 0 else We m k + 1)=_
    rw [if_neg c]
   rw [e]
   by_cases hg1:1 ≤ g
   ·have ih:=Xv m (g - 1) (by omega) k
    constructor
    ·intro h
     rcases ih.mp (by omega) with ⟨j,h1,h2,h3⟩ | h
     ·exact .inl ⟨j + 1,by omega,by omega,by rw [show k + 1 - 1 - (j + 1)=k - 1 - j by omega];exact h3⟩
     ·exact .inr (by omega)
    ·rintro (⟨j,h1,h2,h3⟩ | h)
     ·by_cases hj:j=0
      ·subst hj
       rw [show k + 1 - 1 - 0=k by omega] at h3
       exact absurd h3 c
      ·have:=ih.mpr (.inl ⟨j - 1,by omega,by omega,by rw [show k - 1 - (j - 1)=k + 1 - 1 - j by omega];exact h3⟩)
       omega
     ·have:=ih.mpr (.inr (by omega))
      omega
   ·have:=Ki m k
    constructor
    ·intro h;omega
    ·rintro (⟨j,h1,h2,h3⟩ | h)
     ·have hj:j=0:=by omega
      subst hj
      rw [show k + 1 - 1 - 0=k by omega] at h3
      exact absurd h3 c
     ·omega
theorem MG {m:List Bool} {t:Nat} (ht:t < m.length):(Vm m)[t]? = some (We m (2 * m.length - t)):=by
 unfold Vm
 rw [List.getElem?_map,List.getElem?_range ht];rfl
theorem KG {m:List Bool} (hm:∃ i,i < m.length∧m[i]? = some true) {t:Nat} (ht:t < m.length) (g:Int) (hg:0 ≤ g):We m (2 * m.length - t) ≤ g↔∃ j:Nat,(j:Int) ≤ g∧m[(t + j) % m.length]? = some true:=by
 have pos:∀ j,j < 2 * m.length - t→(2 * m.length - 1 - (2 * m.length - t - 1 - j))=t + j:=fun j hj=>by omega
 rw [Xv m g hg]
 constructor
 ·rintro (⟨j,h1,h2,h3⟩ | h)
  ·rw [pos j h2] at h3
   exact ⟨j,h1,h3⟩
  ·obtain ⟨i,hi,e⟩:=hm
   refine ⟨(i + m.length - t) % m.length,?_,?_⟩
   ·have:=Nat.mod_lt (i + m.length - t) (show 0 < m.length by omega)
    omega
   ·rw [Nat.add_mod_mod,show t + (i + m.length - t)=i + m.length by omega,Nat.add_mod_right,Nat.mod_eq_of_lt hi]
    exact e
 ·rintro ⟨j,h1,h2⟩
  have hj:=Nat.mod_lt j (show 0 < m.length by omega)
  have hle:=Nat.mod_le j m.length
  refine .inl ⟨j % m.length,by omega,by omega,?_⟩
  rw [pos _ (by omega),Nat.add_mod_mod]
  exact h2
theorem oK {m:List Bool} (hm:∃ i,i < m.length∧m[i]? = some true):∃ i,i < m.reverse.length∧m.reverse[i]? = some true:=by
 obtain ⟨i,hi,e⟩:=hm
 refine ⟨m.length - 1 - i,by rw [List.length_reverse];omega,?_⟩
 rw [List.getElem?_reverse (by omega),show m.length - 1 - (m.length - 1 - i)=i by omega]
 exact e
theorem OF {m:List Bool} {t:Nat} (ht:t < m.length):∃ v,(Yi m)[t]? = some v∧0 ≤ v∧((∃ i,i < m.length∧m[i]? = some true)→∀ g:Int,0 ≤ g→(v ≤ g↔∃ j:Nat,(j:Int) ≤ g∧m[(((t:Int) - (j:Int)) % (m.length:Int)).toNat]? = some true)):=by
 have hr:m.reverse.length=m.length:=List.length_reverse
 have h1:m.length - 1 - t < m.reverse.length:=by omega
 refine ⟨We m.reverse (2 * m.reverse.length - (m.length - 1 - t)),?_,Ki _ _,fun hm g hg=>?_⟩
 ·unfold Yi
  rw [List.getElem?_reverse (by rw [Wj];omega),Wj,hr]
  have:=MG h1
  rw [hr] at this
  exact this
 ·rw [KG (oK hm) h1 g hg]
  have key:∀ j:Nat,m.reverse[(m.length - 1 - t + j) % m.reverse.length]? = m[(((t:Int) - (j:Int)) % (m.length:Int)).toNat]?:=fun j=>by
   rw [hr]
   have hlt:=Nat.mod_lt (m.length - 1 - t + j) (show 0 < m.length by omega)
   rw [List.getElem?_reverse (by omega)]
   congr 1
   have h0:=Int.emod_nonneg ((t:Int) - (j:Int)) (show (m.length:Int) ≠ 0 by omega)
   have e:((t:Int) - (j:Int)) % (m.length:Int)=((m.length - 1 - (m.length - 1 - t + j) % m.length:Nat):Int):=by
    have d:=Nat.div_add_mod (m.length - 1 - t + j) m.length
    generalize (m.length - 1 - t + j) / m.length=q at d
    generalize (m.length - 1 - t + j) % m.length=r at d hlt ⊢
    have e2:(t:Int) - (j:Int)=((m.length - 1 - r:Nat):Int) + (m.length:Int) * (-(q:Int)):=by
     have d':(m.length:Int) * (q:Int) + (r:Int)=((m.length - 1 - t + j:Nat):Int):=by rw [← d];push_cast;rfl
     rw [Int.mul_neg]
     omega
    rw [e2,Int.add_mul_emod_self_left]
    exact Int.emod_eq_of_lt (by omega) (by omega)
   omega
  constructor
  ·rintro ⟨j,h2,h3⟩
   exact ⟨j,h2,by rw [← key j];exact h3⟩
  ·rintro ⟨j,h2,h3⟩
   exact ⟨j,h2,by rw [key j];exact h3⟩
theorem pw {z:Nat} (hz:0 < z) {b n:Int} (hn:1 ≤ n∧n ≤ z) {t:Nat} (ht:t < z):∃ v,(Yi (fmF z [(b,n)]))[t]? = some v∧0 ≤ v∧∀ g:Int,0 ≤ g→(v ≤ g↔∃ j:Nat,(j:Int) ≤ g∧((t:Int) - (j:Int) - b) % (z:Int) < n):=by
 have hl:(fmF z [(b,n)]).length=z:=ul _ _
 obtain ⟨v,h1,h2,h3⟩:=OF (m:=fmF z [(b,n)]) (t:=t) (by rw [hl];exact ht)
 refine ⟨v,h1,h2,fun g hg=>?_⟩
 have hb0:=Int.emod_nonneg b (show (z:Int) ≠ 0 by omega)
 have hb1:=Int.emod_lt_of_pos b (show 0 < (z:Int) by omega)
 have hm:∃ i,i < (fmF z [(b,n)]).length∧(fmF z [(b,n)])[i]? = some true:=by
  refine ⟨(b % (z:Int)).toNat,by rw [hl];omega,?_⟩
  rw [jI hz ⟨by omega,hn.2⟩ (by omega),Int.toNat_of_nonneg hb0,decide_eq_true]
  rw [Int.emod_sub_emod,Int.sub_self,Int.zero_emod]
  omega
 rw [h3 hm g hg,hl]
 have key:∀ j:Nat,(fmF z [(b,n)])[(((t:Int) - (j:Int)) % (z:Int)).toNat]? = some (decide (((t:Int) - (j:Int) - b) % (z:Int) < n)):=fun j=>by
  have c0:=Int.emod_nonneg ((t:Int) - (j:Int)) (show (z:Int) ≠ 0 by omega)
  have c1:=Int.emod_lt_of_pos ((t:Int) - (j:Int)) (show 0 < (z:Int) by omega)
  rw [jI hz ⟨by omega,hn.2⟩ (by omega),Int.toNat_of_nonneg c0,Int.emod_sub_emod]
 constructor
 ·rintro ⟨j,g1,g2⟩
  rw [key j] at g2
  exact ⟨j,g1,of_decide_eq_true (Option.some.inj g2)⟩
 ·rintro ⟨j,g1,g2⟩
  exact ⟨j,g1,by rw [key j,decide_eq_true g2]⟩
end My
namespace My
open PySem L2
inductive F5
 | tx (r k:Int)
 | nw (x:Str)
 | nv (x:Str)
 | sh (x:Str) (i:Int)
 | cl (x y:Str) (i:Int)
noncomputable def F5.no:F5→Nat
 | .tx _ _=>0
 | .nw _=>1
 | .nv _=>2
 | .sh _ _=>3
 | .cl _ _ _=>4
noncomputable def F5.cls (t:Adr):F5→Addr
 | .tx _ _=>t.zb
 | .nw _=>t.Lb
 | .nv _=>t.Kb
 | .sh _ _=>t.Gb
 | .cl _ _ _=>t.Fb
noncomputable def F5.fs:F5→List (Str × V)
 | .tx r k=>[(Str.ofString "row",.int r),(Str.ofString "word",.int k)]
 | .nw x=>[(Str.ofString "name",.str x)]
 | .nv x=>[(Str.ofString "way",.str x)]
 | .sh x i=>[(Str.ofString "way",.str x),(Str.ofString "at",.int i)]
 | .cl x y i=>[(Str.ofString "way",.str x),(Str.ofString "other",.str y),(Str.ofString "at",.int i)]
noncomputable def F5.at (H:Hp) (p:Addr):F5→Prop
 | .tx r k=>H p=some (.tup [.int r,.int k])
 | .nw x=>H p=some (.tup [.str x])
 | .nv x=>H p=some (.tup [.str x])
 | .sh x i=>H p=some (.tup [.str x,.int i])
 | .cl x y i=>∃ l,H l=some (.lst ((dG x y).map V.str))∧H p=some (.tup [.ref l,.int i])
theorem F5.at_same {H H':Hp} {p:Addr}:∀ {f:F5},f.at H p→Xb H H'→f.at H' p
 | .tx _ _,h,s=>s _ _ h
 | .nw _,h,s=>s _ _ h
 | .nv _,h,s=>s _ _ h
 | .sh _ _,h,s=>s _ _ h
 | .cl _ _ _,h,s=>by
  obtain ⟨l,h1,h2⟩:=h
  exact ⟨l,s _ _ h1,s _ _ h2⟩
noncomputable def sP (t:Adr) (H:Hp) (x:Addr) (f:F5):Prop:=∃ dx,H x=some (.ext (XA x (f.cls t) (some dx)))∧H dx=some (.ext (XD dx f.fs))
noncomputable def isB (f:F5):List V:=(List.range 8).map fun (j:Nat)=>V.bl (decide ((j:Int)=(f.no:Int)))
noncomputable def mw (t:Adr):Sp:=fun vs H Q _=>∃ x f,vs=[.ref x]∧sP t H x f∧∀ p H',Xb H H'→(NoT H→NoT H')→f.at H' p→Q (.ref p) H'
noncomputable def Yy (t:Adr):Sp:=fun vs H Q _=>∃ x f,vs=[.ref x]∧sP t H x f∧∀ p H',Xb H H'→(NoT H→NoT H')→H' p=some (.lst (isB f))→Q (.ref p) H'
section
variable {P:Program} {w:World} {K:PySem.W.Frag} {mg:Str→Option Value} {base:Heap} {t:Adr}
theorem aK (T:Txt w K mg t):∀ f:F5,KB K (f.cls t)
 | .tx _ _=>T.sC
 | .nw _=>T.iG
 | .nv _=>T.tG
 | .sh _ _=>T.ZE
 | .cl _ _ _=>T.PF
theorem kt0 (T:Txt w K mg t):∀ f:F5,PySem.W.kitOne K (.ref (f.cls t)) (.ref t.zb)=some (decide (f.no=0))
 | .tx _ _=>T.Fo
 | .nw _=>T.rq
 | .nv _=>T.Uq
 | .sh _ _=>T.oq
 | .cl _ _ _=>T.fq
theorem kt1 (T:Txt w K mg t):∀ f:F5,PySem.W.kitOne K (.ref (f.cls t)) (.ref t.Lb)=some (decide (f.no=1))
 | .tx _ _=>T.Wq
 | .nw _=>T.Mr
 | .nv _=>T.Zs
 | .sh _ _=>T.Lr
 | .cl _ _ _=>T.Ts
theorem kt2 (T:Txt w K mg t):∀ f:F5,PySem.W.kitOne K (.ref (f.cls t)) (.ref t.Kb)=some (decide (f.no=2))
 | .tx _ _=>T.jr
 | .nw _=>T.Zr
 | .nv _=>T.Dr
 | .sh _ _=>T.Ys
 | .cl _ _ _=>T.Cr
theorem kt3 (T:Txt w K mg t):∀ f:F5,PySem.W.kitOne K (.ref (f.cls t)) (.ref t.Gb)=some (decide (f.no=3))
 | .tx _ _=>T.Dp
 | .nw _=>T.et
 | .nv _=>T.Ir
 | .sh _ _=>T.Us
 | .cl _ _ _=>T.dt
theorem kt4 (T:Txt w K mg t):∀ f:F5,PySem.W.kitOne K (.ref (f.cls t)) (.ref t.Fb)=some (decide (f.no=4))
 | .tx _ _=>T.Cq
 | .nw _=>T.jt
 | .nv _=>T.Vr
 | .sh _ _=>T.Ds
 | .cl _ _ _=>T.Ks
theorem kt5 (T:Txt w K mg t):∀ f:F5,PySem.W.kitOne K (.ref (f.cls t)) (.ref t.Wf)=some false
 | .tx _ _=>T.Nn
 | .nw _=>T.No
 | .nv _=>T.Co
 | .sh _ _=>T.Eo
 | .cl _ _ _=>T.Jo
theorem kt6 (T:Txt w K mg t):∀ f:F5,PySem.W.kitOne K (.ref (f.cls t)) (.ref t.Dj)=some false
 | .tx _ _=>T.Np
 | .nw _=>T.Wr
 | .nv _=>T.Os
 | .sh _ _=>T.js
 | .cl _ _ _=>T.gs
theorem kt7 (T:Txt w K mg t):∀ f:F5,PySem.W.kitOne K (.ref (f.cls t)) (.ref t.jh)=some false
 | .tx _ _=>T.zo
 | .nw _=>T.Rp
 | .nv _=>T.yr
 | .sh _ _=>T.Xp
 | .cl _ _ _=>T.Bp
theorem ktV (T:Txt w K mg t):∀ f:F5,PySem.W.kitOne K (.ref (f.cls t)) (.type "ValueError")=some true
 | .tx _ _=>T.vk
 | .nw _=>T.xl
 | .nv _=>T.Cl
 | .sh _ _=>T.Bl
 | .cl _ _ _=>T.Ul
theorem exL (T:Txt w K mg t):∀ f:F5,PySem.W.exmOne K (.ref (f.cls t)) (.ref t.ie)=some true
 | .tx _ _=>T.gl
 | .nw _=>T.Om
 | .nv _=>T.om
 | .sh _ _=>T.Pm
 | .cl _ _ _=>T.Sm
theorem JB (T:Txt w K mg t):bq P w K mg base CX0 1 t.vg t.wg ["_law_e"] (mw t):=by
 refine T.Li.okH Hr (fun vs H Q E h=>?_) (fun cdv A outer s H vs Q E hr h=>?_)
 ·obtain ⟨x,f,rfl,_⟩:=h;rfl
 obtain ⟨x,f,rfl,⟨dx,hx,hd⟩,q⟩:=h
 refine ⟨_,(db (qe (xh (fc Md rfl T.Ub Ab (bb (pv 0) (bb (kd (v:=.ref t.zb) rfl T.ap rfl) fb)))) (gb (Db (ze (bb (yi (pv 0) rfl) (bb (yi (pv 0) rfl) fb))))) Zb)
   (db (qe (xh (fc Md rfl T.Ub Ab (bb (pv 0) (bb (kd (v:=.ref t.Lb) rfl T.Ix rfl) fb)))) (gb (Db (ze (bb (yi (pv 0) rfl) fb)))) Zb)
   (db (qe (xh (fc Md rfl T.Ub Ab (bb (pv 0) (bb (kd (v:=.ref t.Kb) rfl T.jx rfl) fb)))) (gb (Db (ze (bb (yi (pv 0) rfl) fb)))) Zb)
   (db (qe (xh (fc Md rfl T.Ub Ab (bb (pv 0) (bb (kd (v:=.ref t.Gb) rfl T.Vx rfl) fb)))) (gb (Db (ze (bb (yi (pv 0) rfl) (bb (yi (pv 0) rfl) fb))))) Zb)
   (db (qe (xh (fc Md rfl T.Ub Ab (bb (pv 0) (bb (kd (v:=.ref t.Fb) rfl T.Fx rfl) fb)))) (gb (Db (ze (bb (fc Bt rfl T.Ty xm (bb (Og (bb (yi (pv 0) rfl) (bb (yi (pv 0) rfl) fb))) fb)) (bb (yi (pv 0) rfl) fb))))) Zb)
   (gb (Db (ze fb)))))))),?_⟩
 have ix:=aK T f
 (walk_at "RD")
 refine Vb (decide (f.no=0)) (fun Q hQ=>?_) (fun c=>?_) (fun c=>?_)
 ·(walk_at "RD")
  exact ⟨_,_,hx,_,hd,ix,_,kt0 T f,hQ⟩
 ·cases f <;> first | (cases c;done) | skip
  (walk_at "RD")
  exact ⟨_,_,hx,_,hd,T.kh,T.Gm,_,ic [Str.ofString "row",Str.ofString "word"] 0 rfl (by decide +kernel) rfl,_,_,hx,_,hd,T.kh,T.Sk,_,ic [Str.ofString "row",Str.ofString "word"] 1 rfl (by decide +kernel) rfl,by decide,fun p hp=>q p _ (ib hp) (fun n=>n.upd) cb⟩
 (walk_at "RD")
 refine Vb (decide (f.no=1)) (fun Q hQ=>?_) (fun c=>?_) (fun c=>?_)
 ·(walk_at "RD")
  exact ⟨_,_,hx,_,hd,ix,_,kt1 T f,hQ⟩
 ·cases f <;> first | (cases c;done) | skip
  (walk_at "RD")
  exact ⟨_,_,hx,_,hd,T.kr,T.wm,_,ic [Str.ofString "name"] 0 rfl (by decide +kernel) rfl,by decide,fun p hp=>q p _ (ib hp) (fun n=>n.upd) cb⟩
 (walk_at "RD")
 refine Vb (decide (f.no=2)) (fun Q hQ=>?_) (fun c=>?_) (fun c=>?_)
 ·(walk_at "RD")
  exact ⟨_,_,hx,_,hd,ix,_,kt2 T f,hQ⟩
 ·cases f <;> first | (cases c;done) | skip
  (walk_at "RD")
  exact ⟨_,_,hx,_,hd,T.Tq,T.Tn,_,ic [Str.ofString "way"] 0 rfl (by decide +kernel) rfl,by decide,fun p hp=>q p _ (ib hp) (fun n=>n.upd) cb⟩
 (walk_at "RD")
 refine Vb (decide (f.no=3)) (fun Q hQ=>?_) (fun c=>?_) (fun c=>?_)
 ·(walk_at "RD")
  exact ⟨_,_,hx,_,hd,ix,_,kt3 T f,hQ⟩
 ·cases f <;> first | (cases c;done) | skip
  (walk_at "RD")
  exact ⟨_,_,hx,_,hd,T.Jl,T.eo,_,ic [Str.ofString "way",Str.ofString "at"] 0 rfl (by decide +kernel) rfl,_,_,hx,_,hd,T.Jl,T.kq,_,ic [Str.ofString "way",Str.ofString "at"] 1 rfl (by decide +kernel) rfl,by decide,fun p hp=>q p _ (ib hp) (fun n=>n.upd) cb⟩
 (walk_at "RD")
 refine Vb (decide (f.no=4)) (fun Q hQ=>?_) (fun c=>?_) (fun c=>?_)
 ·(walk_at "RD")
  exact ⟨_,_,hx,_,hd,ix,_,kt4 T f,hQ⟩
 ·cases f with
  | tx _ _=>cases c
  | nw _=>cases c
  | nv _=>cases c
  | sh _ _=>cases c
  | cl y y2 i=>
   (walk_at "RD")
   refine ⟨_,_,hx,_,hd,T.Mi,T.oo,_,ic [Str.ofString "way",Str.ofString "other",Str.ofString "at"] 0 rfl (by decide +kernel) rfl,_,_,hx,_,hd,T.Mi,T.Zk,_,ic [Str.ofString "way",Str.ofString "other",Str.ofString "at"] 1 rfl (by decide +kernel) rfl,by decide,fun p1 hp1=>?_⟩
   refine ⟨y,y2,SqL.of cb,fun p2 hp2=>?_⟩
   have s1:Xb H (upd H p1 (.lst [.str y,.str y2])):=ib hp1
   have s2:Xb (upd H p1 (.lst [.str y,.str y2])) (upd (upd H p1 (.lst [.str y,.str y2])) p2 (.lst ((dG y y2).map V.str))):=ib hp2
   have s3:=s1.trans s2
   refine ⟨_,_,s3 _ _ hx,_,s3 _ _ hd,T.Mi,T.Ip,_,ic [Str.ofString "way",Str.ofString "other",Str.ofString "at"] 2 rfl (by decide +kernel) rfl,by decide,fun p3 hp3=>?_⟩
   exact q p3 _ (s3.trans (ib hp3)) (fun n=>((n.upd).upd).upd) ⟨p2,(ib hp3) _ _ cb,cb⟩
 ·cases f <;> simp [F5.no] at *
theorem TF (T:Txt w K mg t):bq P w K mg base CX0 1 t.Wg t.Bh ["_law_e"] (Yy t):=by
 refine T.jj.okH Ei (fun vs H Q E h=>?_) (fun cdv A outer s H vs Q E hr h=>?_)
 ·obtain ⟨x,f,rfl,_⟩:=h;rfl
 obtain ⟨x,f,rfl,⟨dx,hx,hd⟩,q⟩:=h
 refine ⟨_,(db (kc (i:=1) Ei.nd rfl (Or.inl rfl) (Og (bb (fc Md rfl T.Ub Ab (bb (pv 0) (bb (kd (v:=.ref t.zb) rfl T.ap rfl) fb))) (bb (fc Md rfl T.Ub Ab (bb (pv 0) (bb (kd (v:=.ref t.Lb) rfl T.Ix rfl) fb))) (bb (fc Md rfl T.Ub Ab (bb (pv 0) (bb (kd (v:=.ref t.Kb) rfl T.jx rfl) fb))) (bb (fc Md rfl T.Ub Ab (bb (pv 0) (bb (kd (v:=.ref t.Gb) rfl T.Vx rfl) fb))) fb))))))
   (db (kc (i:=2) Ei.nd rfl (Or.inl rfl) (Og (bb (fc Md rfl T.Ub Ab (bb (pv 0) (bb (kd (v:=.ref t.Fb) rfl T.Fx rfl) fb))) (bb (fc Md rfl T.Ub Ab (bb (pv 0) (bb (kd (v:=.ref t.Wf) rfl T.kE rfl) fb))) (bb (fc Md rfl T.Ub Ab (bb (pv 0) (bb (kd (v:=.ref t.Dj) rfl T.nJ rfl) fb))) (bb (fc Md rfl T.Ub Ab (bb (pv 0) (bb (kd (v:=.ref t.jh) rfl T.GG rfl) fb))) fb))))))
   (gb (Db (Ic OM (pv 1) (pv 2)))))),?_⟩
 have ix:=aK T f
 (walk_at "RD")
 refine ⟨_,_,hx,_,hd,ix,_,kt0 T f,_,_,hx,_,hd,ix,_,kt1 T f,_,_,hx,_,hd,ix,_,kt2 T f,_,_,hx,_,hd,ix,_,kt3 T f,by decide,fun p1 hp1=>?_⟩
 (walk_at "RD")
 refine ⟨_,_,(ib hp1) _ _ hx,_,(ib hp1) _ _ hd,ix,_,kt4 T f,_,_,(ib hp1) _ _ hx,_,(ib hp1) _ _ hd,ix,_,kt5 T f,_,_,(ib hp1) _ _ hx,_,(ib hp1) _ _ hd,ix,_,kt6 T f,_,_,(ib hp1) _ _ hx,_,(ib hp1) _ _ hd,ix,_,kt7 T f,by decide,fun p2 hp2=>?_⟩
 (walk_at "RD")
 refine ⟨_,(ib hp2) _ _ cb,_,cb,show (8:Nat) ≤ sizeLine by decide,fun p3 hp3=>?_⟩
 refine q p3 _ (((ib hp1).trans (ib hp2)).trans (ib hp3)) (fun n=>((n.upd).upd).upd) ?_
 rw [cb]
 cases f <;> rfl
end
end My
namespace My
open PySem L2
noncomputable def wA (x:Str):WD:=⟨0,x,0,4,0,0,1⟩
noncomputable def wB (y:Str):WD:=⟨2,y,2,6,0,0,1⟩
noncomputable def rk (x y:Str):List WD:=[wA x,wB y]
noncomputable def KO (x y:Str):Str:=Str.ofString "ring 8\ncar " ++ x ++ Str.ofString " 0 4 0 0 1\ntram " ++ y ++ Str.ofString " 2 6 0 0 1"
noncomputable def kN (m:Int) (x:Str):Str:=Str.ofString "ring " ++ num m ++ Str.ofString "\ncar " ++ x ++ Str.ofString " 0 1 0 0 61"
noncomputable def CJ (m:Int) (x:Str):List (List Str):=[[Str.ofString "ring",num m],[Str.ofString "car",x,num 0,num 1,num 0,num 0,num 61]]
theorem NJ (x y:Str):KO x y=Wx 8 (rk x y):=by
 apply qx
 have l0:(Str.ofString "ring 8\ncar ").cps.toList=[114,105,110,103,32,56,10,99,97,114,32]:=by decide +kernel
 have l1:(Str.ofString " 0 4 0 0 1\ntram ").cps.toList=[32,48,32,52,32,48,32,48,32,49,10,116,114,97,109,32]:=by decide +kernel
 have l2:(Str.ofString " 2 6 0 0 1").cps.toList=[32,50,32,54,32,48,32,48,32,49]:=by decide +kernel
 have l3:(Str.ofString "ring").cps.toList=[114,105,110,103]:=by decide +kernel
 have l4:(Str.ofString "car").cps.toList=[99,97,114]:=by decide +kernel
 have l5:(Str.ofString "tram").cps.toList=[116,114,97,109]:=by decide +kernel
 have n0:(num 0).cps.toList=[48]:=by decide +kernel
 have n1:(num 1).cps.toList=[49]:=by decide +kernel
 have n2:(num 2).cps.toList=[50]:=by decide +kernel
 have n4:(num 4).cps.toList=[52]:=by decide +kernel
 have n6:(num 6).cps.toList=[54]:=by decide +kernel
 have n8:(num 8).cps.toList=[56]:=by decide +kernel
 unfold KO Wx
 rw [YK,Dl]
 simp only [av,rk,ad,wA,wB,tf,List.map_cons,List.map_nil,aJ,Dl,jl,Str.cps_append,Array.toList_append,l0,l1,l2,l3,l4,l5,n0,n1,n2,n4,n6,n8,List.append_assoc,List.cons_append,List.nil_append]
theorem PB (m:Int) (x:Str):kN m x=Str.join nl ((CJ m x).map (Str.join bk)):=by
 apply qx
 have l0:(Str.ofString "ring ").cps.toList=[114,105,110,103,32]:=by decide +kernel
 have l1:(Str.ofString "\ncar ").cps.toList=[10,99,97,114,32]:=by decide +kernel
 have l2:(Str.ofString " 0 1 0 0 61").cps.toList=[32,48,32,49,32,48,32,48,32,54,49]:=by decide +kernel
 have l3:(Str.ofString "ring").cps.toList=[114,105,110,103]:=by decide +kernel
 have l4:(Str.ofString "car").cps.toList=[99,97,114]:=by decide +kernel
 have n0:(num 0).cps.toList=[48]:=by decide +kernel
 have n1:(num 1).cps.toList=[49]:=by decide +kernel
 have n61:(num 61).cps.toList=[54,49]:=by decide +kernel
 unfold kN CJ
 rw [YK,Dl]
 simp only [List.map_cons,List.map_nil,aJ,Dl,jl,Str.cps_append,Array.toList_append,l0,l1,l2,l3,l4,n0,n1,n61,List.append_assoc,List.cons_append,List.nil_append]
theorem lO {x y:Str} (hx:made x Yc 8=true) (hy:made y Yc 8=true) (h:x ≠ y):COk 8 (rk x y):=by
 refine ⟨by decide,⟨by show 1 ≤ 2;decide,by show 2 ≤ 12;decide⟩,fun d hd=>?_,?_⟩
 ·rcases List.mem_cons.mp hd with rfl | hd
  ·exact ⟨show (0:Nat) < 3 by decide,hx,show (0:Int) ≤ 0∧(0:Int) < 8 by decide,show (0:Int) ≤ 4∧(4:Int) < 8 by decide,show (0:Int) ≠ 4 by decide,show (0:Int) ≤ 0∧(0:Int) ≤ 30 by decide,show (0:Int) ≤ 0∧(0:Int) ≤ 30 by decide,show (1:Int) ≤ 1∧(1:Int) ≤ 60 by decide⟩
  ·rw [List.mem_singleton.mp hd]
   exact ⟨show (2:Nat) < 3 by decide,hy,show (0:Int) ≤ 2∧(2:Int) < 8 by decide,show (0:Int) ≤ 6∧(6:Int) < 8 by decide,show (2:Int) ≠ 6 by decide,show (0:Int) ≤ 0∧(0:Int) ≤ 30 by decide,show (0:Int) ≤ 0∧(0:Int) ≤ 30 by decide,show (1:Int) ≤ 1∧(1:Int) ≤ 60 by decide⟩
 ·show [x,y].Nodup
  simpa using h
theorem bi {m:Int} (hm:0 ≤ m∧m < 1000) {x:Str} (hx:made x Yc 8=true):∀ r ∈ CJ m x,r ≠ []∧r.length ≤ 7∧∀ y ∈ r,Qu y:=fun r hr=>by
 have c:∀ y ∈ [Str.ofString "ring",Str.ofString "car",num 0,num 1,num 61],Qu y:=by unfold Qu;decide +kernel
 rcases List.mem_cons.mp hr with rfl | hr
 ·refine ⟨by simp,by show 2 ≤ 7;decide,fun y hy=>?_⟩
  rcases List.mem_cons.mp hy with rfl | hy
  ·exact c _ (by simp)
  ·rw [List.mem_singleton.mp hy];exact Sf hm.1 hm.2
 ·rw [List.mem_singleton.mp hr]
  refine ⟨by simp,by show 7 ≤ 7;decide,fun y hy=>?_⟩
  have:y=x∨y ∈ [Str.ofString "car",num 0,num 1,num 61]:=by
   simp only [List.mem_cons,List.not_mem_nil,or_false] at hy ⊢
   rcases hy with h | h | h | h | h | h | h
   ·exact .inr (.inl h)
   ·exact .inl h
   ·exact .inr (.inr (.inl h))
   ·exact .inr (.inr (.inr (.inl h)))
   ·exact .inr (.inr (.inl h))
   ·exact .inr (.inr (.inl h))
   ·exact .inr (.inr (.inr (.inr h)))
  rcases this with rfl | h
  ·exact Zh hx
  ·refine c _ ?_
   simp only [List.mem_cons,List.not_mem_nil,or_false] at h ⊢
   rcases h with h | h | h | h
   ·exact .inr (.inl h)
   ·exact .inr (.inr (.inl h))
   ·exact .inr (.inr (.inr (.inl h)))
   ·exact .inr (.inr (.inr (.inr h)))
theorem KC {m:Int} (hm:0 ≤ m∧m < 1000) {x:Str} (hx:made x Yc 8=true):Ch (kN m x)=CJ m x:=by
 rw [PB]
 exact Tv (by unfold CJ;simp) (fun r hr=>(bi hm hx r hr).1) fun r hr=>(bi hm hx r hr).2.2
theorem QG {m:Int} (hm:0 ≤ m∧m < 1000) {x:Str} (hx:made x Yc 8=true):(kN m x).length ≤ 200:=by
 rw [PB]
 have hys:∀ y ∈ (CJ m x).map (Str.join bk),y.length ≤ 63:=fun y hy=>by
  obtain ⟨r,hr,rfl⟩:=List.mem_map.mp hy
  have h1:=Up bk 8 r fun z hz=>((bi hm hx r hr).2.2 z hz).1
  rw [Zy] at h1
  have:=(bi hm hx r hr).2.1
  omega
 have:=Up nl 63 _ hys
 rw [dw,List.length_map] at this
 have:(CJ m x).length=2:=rfl
 omega
theorem DF {m:Int} (hm:2 ≤ m∧m ≤ 99) {x:Str} (hx:made x Yc 8=true):Vq [Str.ofString "ring",num m] [[Str.ofString "car",x,num 0,num 1,num 0,num 0,num 61]]=.error (1,6):=by
 have hw:Rx m [] [Str.ofString "car",x,num 0,num 1,num 0,num 0,num 61]=.error 6:=by
  refine fC (d:=⟨0,x,0,1,0,0,1⟩) (j:=6) ⟨show (0:Nat) < 3 by decide,hx,⟨Int.le_refl _,by show (0:Int) < m;omega⟩,⟨by show (0:Int) ≤ 1;decide,by show (1:Int) < m;omega⟩,show (0:Int) ≠ 1 by decide,show (0:Int) ≤ 0∧(0:Int) ≤ 30 by decide,show (0:Int) ≤ 0∧(0:Int) ≤ 30 by decide,show (1:Int) ≤ 1∧(1:Int) ≤ 60 by decide⟩ hm.2 (by simp) (fun i hi=>?_) ?_
  ·match i,hi with
   | 0,_=>rfl
   | 1,_=>rfl
   | 2,_=>rfl
   | 3,_=>rfl
   | 4,_=>rfl
   | 5,_=>rfl
  ·show Wl (num 61) 1 60=none
   decide +kernel
 exact Zw (ds:=[]) hm (by simp) (by simp) (by simp) (tail:=[]) hw
theorem IP {x y:Str} (h:x ≠ y) (b n:Int):Yh (rk x y) [⟨x,b,n⟩]=some y:=by
 simp [Yh,rk,wA,wB,ofN,h]
theorem kP {x y:Str} (h:x ≠ y) (b n c m:Int):Yh (rk x y) [⟨y,b,n⟩,⟨x,c,m⟩]=none:=by
 simp [Yh,rk,wA,wB,ofN,h,Ne.symm h]
theorem UO (x y:Str):wOf (rk x y) x=some (wA x):=by simp [wOf,rk,wA]
theorem JO {x y:Str} (h:x ≠ y):wOf (rk x y) y=some (wB y):=by simp [wOf,rk,wA,wB,h]
theorem WO {x y:Str} (h:x ≠ y) (z b n c m:Int):Vv z [⟨y,b,n⟩,⟨x,c,m⟩] 0 ⟨y,b,n⟩=z∧Vv z [⟨y,b,n⟩,⟨x,c,m⟩] 1 ⟨x,c,m⟩=z:=by
 constructor
 ·simp [Vv,ofN,h]
 ·simp [Vv,ofN,Ne.symm h]
theorem xN {x y:Str} (h:x ≠ y) (z b n c m:Int):Wh (rk x y) z [⟨y,b,n⟩,⟨x,c,m⟩] 0 ⟨y,b,n⟩=(decide (n < 1) || decide (z < n + 1 + 2)):=by
 unfold Wh
 rw [(WO h z b n c m).1]
 dsimp only
 rw [JO h]
 rfl
theorem mM {x y:Str} (h:x ≠ y) (z b n c m:Int):Wh (rk x y) z [⟨y,b,n⟩,⟨x,c,m⟩] 1 ⟨x,c,m⟩=(decide (m < 1) || decide (z < m + 2 + 1)):=by
 unfold Wh
 rw [(WO h z b n c m).2]
 dsimp only
 rw [UO]
 rfl
theorem NN {x y:Str} (h:x ≠ y) {k:Int} (hk:0 ≤ k):aj (rk x y) (20 + k) [⟨y,0,1⟩,⟨x,k,18 + k⟩]=some (⟨x,k,18 + k⟩,1):=by
 have b0:Wh (rk x y) (20 + k) [⟨y,0,1⟩,⟨x,k,18 + k⟩] 0 ⟨y,0,1⟩=false:=by
  rw [xN h,decide_eq_false (by omega),decide_eq_false (by omega)];rfl
 have b1:Wh (rk x y) (20 + k) [⟨y,0,1⟩,⟨x,k,18 + k⟩] 1 ⟨x,k,18 + k⟩=true:=by
  rw [mM h,decide_eq_true (show 20 + k < 18 + k + 2 + 1 by omega),Bool.or_true]
 unfold aj
 rw [show List.zipIdx [(⟨y,0,1⟩:SD),⟨x,k,18 + k⟩]=[(⟨y,0,1⟩,0),(⟨x,k,18 + k⟩,1)] from rfl,List.find?_cons_of_neg (by rw [b0];exact Bool.false_ne_true),List.find?_cons_of_pos (by exact b1)]
theorem CP {x y:Str} (h:x ≠ y) {k:Int} (hk:0 ≤ k):aj (rk x y) (20 + k) [⟨y,k,1⟩,⟨x,k,1⟩]=none:=by
 have b0:Wh (rk x y) (20 + k) [⟨y,k,1⟩,⟨x,k,1⟩] 0 ⟨y,k,1⟩=false:=by
  rw [xN h,decide_eq_false (by omega),decide_eq_false (by omega)];rfl
 have b1:Wh (rk x y) (20 + k) [⟨y,k,1⟩,⟨x,k,1⟩] 1 ⟨x,k,1⟩=false:=by
  rw [mM h,decide_eq_false (by omega),decide_eq_false (by omega)];rfl
 unfold aj
 rw [show List.zipIdx [(⟨y,k,1⟩:SD),⟨x,k,1⟩]=[(⟨y,k,1⟩,0),(⟨x,k,1⟩,1)] from rfl,List.find?_cons_of_neg (by rw [b0];exact Bool.false_ne_true),List.find?_cons_of_neg (by rw [b1];exact Bool.false_ne_true)]
 rfl
theorem cy {g:Int} {m1 m2:List Int} {e:(Int × Int) × Nat} (h:mi g m1 m2=some e):m1[e.2]? = some e.1.1∧m2[e.2]? = some e.1.2∧e.1.2=0∧e.1.1 ≤ g:=by
 unfold mi at h
 have h1:=List.find?_some h
 have h2:=List.mem_of_find?_eq_some h
 rw [Bool.and_eq_true,decide_eq_true_eq,decide_eq_true_eq] at h1
 have h3:=List.mem_zipIdx_iff_getElem?.mp h2
 rw [List.getElem?_zip_eq_some] at h3
 exact ⟨h3.1,h3.2,h1.1,h1.2⟩
theorem Qx {g:Int} {m1 m2:List Int} (h:mi g m1 m2=none) {t:Nat} {x1 x2:Int} (h1:m1[t]? = some x1) (h2:m2[t]? = some x2):¬ (x2=0∧x1 ≤ g):=fun z=>by
 unfold mi at h
 have:=List.find?_eq_none.mp h ((x1,x2),t) (List.mem_zipIdx_iff_getElem?.mpr (List.getElem?_zip_eq_some.mpr ⟨h1,h2⟩))
 rw [Bool.and_eq_true,decide_eq_true_eq,decide_eq_true_eq] at this
 exact this z
theorem WP {k:Nat}:∃ e,mi 0 (Yi (fmF (20 + k) [((k:Int),1)])) (Yi (fmF (20 + k) [((k:Int),1)]))=some e∧e.2=k:=by
 have hl:(Yi (fmF (20 + k) [((k:Int),1)])).length=20 + k:=by
  unfold Yi
  rw [List.length_reverse,Wj,List.length_reverse,ul]
 cases hC:mi 0 (Yi (fmF (20 + k) [((k:Int),1)])) (Yi (fmF (20 + k) [((k:Int),1)])) with
 | none=>
  obtain ⟨v,h1,h2,h3⟩:=pw (z:=20 + k) (by omega) (b:=(k:Int)) (n:=1) ⟨by omega,by omega⟩ (t:=k) (by omega)
  have h4:=(h3 0 (by omega)).mpr ⟨0,by omega,by rw [show (k:Int) - ((0:Nat):Int) - (k:Int)=0 by omega,Int.zero_emod];decide⟩
  exact (Qx hC h1 h1 ⟨by omega,h4⟩).elim
 | some e=>
  refine ⟨e,rfl,?_⟩
  obtain ⟨h1,_,h0,hle⟩:=cy hC
  have hlt:e.2 < 20 + k:=by rw [← hl];exact (List.getElem?_eq_some_iff.mp h1).1
  obtain ⟨v,g1,g2,g3⟩:=pw (z:=20 + k) (by omega) (b:=(k:Int)) (n:=1) ⟨by omega,by omega⟩ (t:=e.2) hlt
  rw [h1] at g1
  have ev:=Option.some.inj g1
  obtain ⟨j,hj,hm⟩:=(g3 0 (by omega)).mp (by omega)
  have hj0:j=0:=by omega
  subst hj0
  have hz:=Int.emod_nonneg ((e.2:Int) - ((0:Nat):Int) - (k:Int)) (show ((20 + k:Nat):Int) ≠ 0 by omega)
  have hz0:((e.2:Int) - ((0:Nat):Int) - (k:Int)) % ((20 + k:Nat):Int)=0:=by omega
  have hd:=Int.emod_add_mul_ediv ((e.2:Int) - ((0:Nat):Int) - (k:Int)) ((20 + k:Nat):Int)
  rw [hz0] at hd
  generalize ((e.2:Int) - ((0:Nat):Int) - (k:Int)) / ((20 + k:Nat):Int)=q at hd
  have:q=0:=by
   by_cases c1:1 ≤ q
   ·have:=Int.mul_le_mul_of_nonneg_left c1 (show (0:Int) ≤ ((20 + k:Nat):Int) by omega)
    omega
   ·by_cases c2:q ≤ -1
    ·have:=Int.mul_le_mul_of_nonneg_left c2 (show (0:Int) ≤ ((20 + k:Nat):Int) by omega)
     omega
    ·omega
  rw [this,Int.mul_zero] at hd
  omega
theorem DO {x y:Str} (h:x ≠ y) (b n c m:Int):ofN y [⟨y,b,n⟩,⟨x,c,m⟩]=[(b,n)]∧ofN x [⟨y,b,n⟩,⟨x,c,m⟩]=[(c,m)]:=by
 constructor
 ·simp [ofN,h]
 ·simp [ofN,Ne.symm h]
theorem dP {x y:Str} (h:x ≠ y) (k:Nat):Ym 8 (20 + k) [⟨y,k,1⟩,⟨x,k,1⟩] (rk x y)=some (wA x,wB y,k):=by
 obtain ⟨e,he,ek⟩:=WP (k:=k)
 have c0:Ek 8 (20 + k) [⟨y,k,1⟩,⟨x,k,1⟩] (wA x) (wA x)=none:=by
  unfold Ek
  rw [if_neg (fun z=>z.1 rfl)]
 have c1:Ek 8 (20 + k) [⟨y,k,1⟩,⟨x,k,1⟩] (wA x) (wB y)=some k:=by
  unfold Ek
  rw [if_pos ⟨h,show sN 8 0 4 2 6=true by decide +kernel⟩]
  unfold Gk
  rw [show (wA x).name=x from rfl,show (wB y).name=y from rfl,(DO h k 1 k 1).1,(DO h k 1 k 1).2,show SA (wA x) (wB y)=0 from rfl,he,← ek]
  rfl
 have c2:Fq 8 (20 + k) [⟨y,k,1⟩,⟨x,k,1⟩] (wA x) (rk x y)=some (wA x,wB y,k):=by
  unfold Fq rk
  rw [List.findSome?_cons,c0]
  show (List.findSome? _ [wB y])=_
  rw [List.findSome?_cons,c1]
  rfl
 unfold Ym
 show List.findSome? _ (wA x :: [wB y])=_
 rw [List.findSome?_cons,c2]
theorem iO {x y:Str} (hx:made x Yc 8=true) (hy:made y Yc 8=true):DOk (rk x y):=fun d hd=>by
 have nm:∀ {x:Str},made x Yc 8=true→mI x:=fun {x} h=>by
  obtain ⟨⟨h1,h2⟩,h3⟩:=Pe h
  refine ⟨by omega,fun c hc=>?_⟩
  have:=h3 c hc
  omega
 rcases List.mem_cons.mp hd with rfl | hd
 ·exact ⟨nm hx,by show (0:Int) ≤ 0;decide,by show (0:Int) ≤ 1000;decide⟩
 ·rw [List.mem_singleton.mp hd]
  exact ⟨nm hy,by show (0:Int) ≤ 0;decide,by show (0:Int) ≤ 1000;decide⟩
end My
namespace My
open PySem L2
noncomputable def F18 (x y z:Str) (m:Nat):Nat→F5
 | 0=>.tx 1 6
 | 1=>.nw z
 | 2=>.nv y
 | 3=>.sh x m
 | _=>.cl x y m
theorem qM (x y z:Str) (m:Nat):∀ k,k < 5→(F18 x y z m k).no=k
 | 0,_=>rfl
 | 1,_=>rfl
 | 2,_=>rfl
 | 3,_=>rfl
 | 4,_=>rfl
structure L18 (x y z:Str) (m:Nat):Prop where
 hx:made x Yc 8=true
 hy:made y Yc 8=true
 hz:made z Yc 8=true
 xy:x ≠ y
 xz:x ≠ z
 yz:y ≠ z
 m2:2 ≤ m∧m ≤ 91
noncomputable def sH (t:Adr):Sp:=fun vs H _ E=>∃ (k:Nat) (c nl:Addr) (x y z:Str) (m:Nat),vs=[.int k,.ref c,.ref nl,.int m]∧k < 5∧Ac t H c 8 (rk x y)∧H nl=some (.lst [.str x,.str y,.str z])∧L18 x y z m∧NoT H∧pz ((F18 x y z m k).cls t) (F18 x y z m k).fs H E
theorem L18.sm {x y z:Str} {m:Nat} (L:L18 x y z m):YG z:=by
 obtain ⟨⟨h1,h2⟩,h3⟩:=Pe L.hz
 refine ⟨by omega,fun c hc=>?_⟩
 have:=h3 c hc
 omega
theorem L18.strange {x y z:Str} {m:Nat} (L:L18 x y z m):ax (rk x y) z:=fun d hd=>by
 rcases List.mem_cons.mp hd with rfl | hd
 ·exact L.xz
 ·rw [List.mem_singleton.mp hd]
  exact L.yz
theorem L18.known {x y z:Str} {m:Nat} (L:L18 x y z m) {sp:List SD} (h:∀ s ∈ sp,s.name=x∨s.name=y):∀ s ∈ sp,∃ d,wOf (rk x y) s.name=some d:=fun s hs=>by
 rcases h s hs with e | e
 ·rw [e];exact ⟨_,UO x y⟩
 ·rw [e];exact ⟨_,JO L.xy⟩
section
variable {P:Program} {w:World} {K:PySem.W.Frag} {mg:Str→Option Value} {base:Heap} {t:Adr}
theorem AN (T:Txt w K mg t):Eb P w K mg base (CX1 P w) 9 t.ck t.Sj ["_law_k","_law_crossing","_law_names","_law_number"] (sH t):=by
 have GX_read_crossing:Eb P w K mg base (CX1 P w) 8 t.Kd t.Ld ["text"] (cI t):=xH T
 have GX_Crossing_called:Eb P w K mg base (CX1 P w) 8 t.Nb t.Rb ["self","name"] (Yt t):=(MA T).mono (by decide)
 have GX_made_plan:Eb P w K mg base (CX1 P w) 8 t.zi t.xi ["crossing","size","rows"] (uu t):=(fH T).mono (by decide)
 refine T.Gn.okX Gw (fun vs H Q E h=>?_) (fun cdv A outer s H vs Q E hr h=>?_)
 ·obtain ⟨k,c,nl,x,y,z,m,rfl,_⟩:=h;rfl
 obtain ⟨k,c,nl,x,y,z,m,rfl,hk,C,hnl,L,nt,q⟩:=h
 refine ⟨_,(db (qe (Pc ij (pv 0) xb (Lc _)) (gb (ac (Jb GX_read_crossing hr rfl T.yj T.Ze.kp T.Mj .nil qc (bb (Ic Wd (Ic Wd (Ic Wd (Ic Wd Gd (Jm vj rfl T.WK vn (bb (pv 3) fb))) Gd) (gf Fd (pv 2) xb (fun _ _=>rfl))) Gd) fb)))) Zb)
   (db (qe (Pc ij (pv 0) xb (Lc _)) (gb (ac (md (pv 1) T.Ib T.xc GX_Crossing_called hr T.wc .nil qc (bb (gf Fd (pv 2) xb (fun _ _=>rfl)) fb)))) Zb)
   (db (qe (Pc ij (pv 0) xb (Lc _)) (gb (ac (Jb GX_made_plan hr rfl T.yl T.zg.kp T.il .nil qc (bb (pv 1) (bb (Ic cg xb (pv 3)) (bb (Og (bb (ze (bb (gf Fd (pv 2) xb (fun _ _=>rfl)) (bb (pv 3) (bb xb fb)))) fb)) fb)))))) Zb)
   (db (qe (Pc ij (pv 0) xb (Lc _)) (gb (ac (Jb GX_made_plan hr rfl T.yl T.zg.kp T.il .nil qc (bb (pv 1) (bb (Ic cg xb (pv 3)) (bb (Og (bb (ze (bb (gf Fd (pv 2) xb (fun _ _=>rfl)) (bb xb (bb xb fb)))) (bb (ze (bb (gf Fd (pv 2) xb (fun _ _=>rfl)) (bb (pv 3) (bb (Ic cg xb (pv 3)) fb)))) fb))) fb)))))) Zb)
   (db (qe (Pc ij (pv 0) xb (Lc _)) (gb (ac (Jb GX_made_plan hr rfl T.yl T.zg.kp T.il .nil qc (bb (pv 1) (bb (Ic cg xb (pv 3)) (bb (Og (bb (ze (bb (gf Fd (pv 2) xb (fun _ _=>rfl)) (bb (pv 3) (bb xb fb)))) (bb (ze (bb (gf Fd (pv 2) xb (fun _ _=>rfl)) (bb (pv 3) (bb xb fb)))) fb))) fb)))))) Zb)
   (gb (Db (pv 0)))))))),?_⟩
 have hm:=L.m2
 have hbig:∀ k:Nat,k ≤ 1000→k ≤ sizeLine:=fun k h=>Nat.le_trans h (by decide)
 obtain ⟨_,dxc,wl,nd,e1,_,_⟩:=id C
 have hx8:=(Zh L.hx).1
 have hm8:(Str.ofString (toString (m:Int))).length ≤ 8:=(Sf (v:=(m:Int)) (by omega) (by omega)).1
 have ts:∀ {Q:VK} {qs:List Addr} {sp:List SD} {H':Hp} {p:Addr},Ac t H' c 8 (rk x y)→H' p=some (.lst (qs.map V.ref))→LQ H' qs (List.map sdO sp)→Xb H H'→NoT H'→(∀ s ∈ sp,(s.name=x∨s.name=y)∧0 ≤ s.b∧s.b < 1000∧0 ≤ s.n∧s.n < 1000)→sp.length ≤ 100→gN t c 8 (rk x y) (20 + m) sp H' Q E→uu t [.ref c,.int (20 + (m:Int)),.ref p] H' Q E:=fun {Q qs sp H' p} C' hp lq sm nt' hs hl hq=>by
  refine ⟨c,8,rk x y,20 + m,p,sp,by push_cast;rfl,C',by decide,iO L.hx L.hy,⟨by omega,by omega⟩,⟨qs,hp,lq⟩,⟨hl,fun d hd=>(hs d hd).2⟩,L.known fun s hs'=>(hs s hs').1,nt',hq⟩
 have dk:∀ j:Nat,decide (((k:Nat):Int)=(j:Int))=decide (k=j):=fun j=>by rw [Bool.eq_iff_iff,decide_eq_true_eq,decide_eq_true_eq];omega
 (walk_at "RD")
 refine Vb (decide (k=0)) (fun Q hQ=>?_) (fun c0=>?_) (fun c0=>?_)
 ·(walk_at "RD")
  rw [← dk 0] at hQ
  exact hQ
 ·have c0:=of_decide_eq_true c0
  subst c0
  (walk_at "RD")
  have y1:(Str.ofString "ring ").length=5:=by decide +kernel
  have y2:(Str.ofString "\ncar ").length=5:=by decide +kernel
  have y3:(Str.ofString " 0 1 0 0 61").length=11:=by decide +kernel
  refine ⟨zr (by omega),hbig _ (by omega),hbig _ (by simp only [xj];omega),_,SqL.of hnl,_,yc (j:=0) rfl,_,rfl,hbig _ (by simp only [xj];omega),hbig _ (by simp only [xj];omega),?_⟩
  refine ⟨kN m x,_,_,rfl,KC ⟨by omega,by omega⟩ L.hx,Nat.le_trans (QG ⟨by omega,by omega⟩ L.hx) (by decide),by show 1 ≤ _;decide,fun r hr=>?_,nt,?_⟩
  ·have h:=bi (m:=m) ⟨by omega,by omega⟩ L.hx r hr
   exact ⟨h.1,Nat.le_trans h.2.1 (by decide),fun y hy=>Nat.le_trans (h.2.2 y hy).1 (by decide)⟩
  ·rw [DF ⟨by omega,by omega⟩ L.hx]
   exact fun dx H' s n e=>q dx H' s (fun _=>n) e
 have c0:=of_decide_eq_false c0
 (walk_at "RD")
 refine Vb (decide (k=1)) (fun Q hQ=>?_) (fun c1=>?_) (fun c1=>?_)
 ·(walk_at "RD")
  rw [← dk 1] at hQ
  exact hQ
 ·have c1:=of_decide_eq_true c1
  subst c1
  (walk_at "RD")
  exact ⟨_,_,e1,Yx _ _ _ (by decide +kernel),_,SqL.of hnl,_,yc (j:=2) rfl,c,8,rk x y,z,rfl,C,L.sm,.inr ⟨L.strange,q⟩⟩
 have c1:=of_decide_eq_false c1
 (walk_at "RD")
 refine Vb (decide (k=2)) (fun Q hQ=>?_) (fun c2=>?_) (fun c2=>?_)
 ·(walk_at "RD")
  rw [← dk 2] at hQ
  exact hQ
 ·have c2:=of_decide_eq_true c2
  subst c2
  (walk_at "RD")
  refine ⟨_,SqL.of hnl,_,yc (j:=0) rfl,by decide,fun p hp=>⟨by decide,fun p1 hp1=>?_⟩⟩
  have sa:Xb H (upd H p (.tup [.str x,.int m,.int 1])):=ib hp
  have sb:Xb (upd H p (.tup [.str x,.int m,.int 1])) (upd (upd H p (.tup [.str x,.int m,.int 1])) p1 (.lst [.ref p])):=ib hp1
  have hN:=IP L.xy m 1
  refine ts (qs:=[p]) (sp:=[⟨x,m,1⟩]) (C.same (sa.trans sb)) cb ((LQ.one (cb)).same sb) (sa.trans sb) (nt.upd).upd (fun s hs=>?_) (by show 1 ≤ 100;decide) ⟨fun h=>?_,fun x' h=>?_,fun e h=>?_,fun e h=>?_⟩
  ·rw [List.mem_singleton.mp hs]
   exact ⟨.inl rfl,by dsimp only;omega,by dsimp only;omega,by dsimp only;omega,by dsimp only;omega⟩
  ·rw [hN] at h;cases h
  ·rw [hN] at h;cases h
   exact pz.step q (sa.trans sb) fun n=>(n.upd).upd
  ·rw [hN] at h;cases h
  ·rw [hN] at h;cases h
 have c2:=of_decide_eq_false c2
 (walk_at "RD")
 refine Vb (decide (k=3)) (fun Q hQ=>?_) (fun c3=>?_) (fun c3=>?_)
 ·(walk_at "RD")
  rw [← dk 3] at hQ
  exact hQ
 ·have c3:=of_decide_eq_true c3
  subst c3
  (walk_at "RD")
  refine ⟨_,SqL.of hnl,_,yc (j:=1) rfl,by decide,fun p hp=>?_⟩
  have sa:Xb H (upd H p (.tup [.str y,.int 0,.int 1])):=ib hp
  refine ⟨_,SqL.of (sa _ _ hnl),_,yc (j:=0) rfl,by decide,fun p1 hp1=>⟨by decide,fun p2 hp2=>?_⟩⟩
  have sb:Xb (upd H p (.tup [.str y,.int 0,.int 1])) (upd (upd H p (.tup [.str y,.int 0,.int 1])) p1 (.tup [.str x,.int m,.int (18 + (m:Int))])):=ib hp1
  have sc:Xb (upd (upd H p (.tup [.str y,.int 0,.int 1])) p1 (.tup [.str x,.int m,.int (18 + (m:Int))])) (upd (upd (upd H p (.tup [.str y,.int 0,.int 1])) p1 (.tup [.str x,.int m,.int (18 + (m:Int))])) p2 (.lst [.ref p,.ref p1])):=ib hp2
  have sm:=(sa.trans sb).trans sc
  have hN:=kP L.xy 0 1 m (18 + (m:Int))
  refine ts (qs:=[p,p1]) (sp:=[⟨y,0,1⟩,⟨x,m,(18 + (m:Int))⟩]) (C.same sm) cb (((LQ.one (sb _ _ cb)).app (LQ.one cb)).same sc) sm ((nt.upd).upd).upd (fun s hs=>?_) (by show 2 ≤ 100;decide) ⟨fun _ h=>?_,fun x' h=>?_,fun e _ h=>?_,fun e _ h h'=>?_⟩
  ·rcases List.mem_cons.mp hs with rfl | hs
   ·exact ⟨.inr rfl,by dsimp only;omega,by dsimp only;omega,by dsimp only;omega,by dsimp only;omega⟩
   ·rw [List.mem_singleton.mp hs]
    exact ⟨.inl rfl,by dsimp only;omega,by dsimp only;omega,by dsimp only;omega,by dsimp only;omega⟩
  ·rw [show ((20 + m:Nat):Int)=20 + (m:Int) by omega,NN L.xy (by omega)] at h;cases h
  ·rw [hN] at h;cases h
  ·rw [show ((20 + m:Nat):Int)=20 + (m:Int) by omega,NN L.xy (by omega)] at h;cases h
   exact pz.step q sm fun n=>((n.upd).upd).upd
  ·rw [show ((20 + m:Nat):Int)=20 + (m:Int) by omega,NN L.xy (by omega)] at h;cases h
 have c3:=of_decide_eq_false c3
 (walk_at "RD")
 refine Vb (decide (k=4)) (fun Q hQ=>?_) (fun c4=>?_) (fun c4=>?_)
 ·(walk_at "RD")
  rw [← dk 4] at hQ
  exact hQ
 ·have c4:=of_decide_eq_true c4
  subst c4
  (walk_at "RD")
  refine ⟨_,SqL.of hnl,_,yc (j:=1) rfl,by decide,fun p hp=>?_⟩
  have sa:Xb H (upd H p (.tup [.str y,.int m,.int 1])):=ib hp
  refine ⟨_,SqL.of (sa _ _ hnl),_,yc (j:=0) rfl,by decide,fun p1 hp1=>⟨by decide,fun p2 hp2=>?_⟩⟩
  have sb:Xb (upd H p (.tup [.str y,.int m,.int 1])) (upd (upd H p (.tup [.str y,.int m,.int 1])) p1 (.tup [.str x,.int m,.int 1])):=ib hp1
  have sc:Xb (upd (upd H p (.tup [.str y,.int m,.int 1])) p1 (.tup [.str x,.int m,.int 1])) (upd (upd (upd H p (.tup [.str y,.int m,.int 1])) p1 (.tup [.str x,.int m,.int 1])) p2 (.lst [.ref p,.ref p1])):=ib hp2
  have sm:=(sa.trans sb).trans sc
  have hN:=kP L.xy m 1 m 1
  refine ts (qs:=[p,p1]) (sp:=[⟨y,m,1⟩,⟨x,m,1⟩]) (C.same sm) cb (((LQ.one (sb _ _ cb)).app (LQ.one cb)).same sc) sm ((nt.upd).upd).upd (fun s hs=>?_) (by show 2 ≤ 100;decide) ⟨fun _ h=>?_,fun x' h=>?_,fun e _ h=>?_,fun e _ h h'=>?_⟩
  ·rcases List.mem_cons.mp hs with rfl | hs
   ·exact ⟨.inr rfl,by dsimp only;omega,by dsimp only;omega,by dsimp only;omega,by dsimp only;omega⟩
   ·rw [List.mem_singleton.mp hs]
    exact ⟨.inl rfl,by dsimp only;omega,by dsimp only;omega,by dsimp only;omega,by dsimp only;omega⟩
  ·intro h'
   rw [dP L.xy m] at h';cases h'
  ·rw [hN] at h;cases h
  ·rw [show ((20 + m:Nat):Int)=20 + (m:Int) by omega,CP L.xy (by omega)] at h;cases h
  ·rw [dP L.xy m] at h';cases h'
   exact pz.step q sm fun n=>((n.upd).upd).upd
 have c4:=of_decide_eq_false c4
 omega
end
theorem rN {K:PySem.W.Frag}:PySem.W.kitOne K (.type "str") (.type "bool")=some false:=by
 unfold PySem.W.kitOne
 rw [if_neg (by decide)]
 with_unfolding_all rfl
theorem ZM {K:PySem.W.Frag}:PySem.W.kitOne K (.type "list") (.type "bool")=some false:=by
 unfold PySem.W.kitOne
 rw [if_neg (by decide)]
 with_unfolding_all rfl
theorem F5.tup {H:Hp} {p:Addr}:∀ {f:F5},f.at H p→∃ vs:List V,H p=some (.tup vs)∧∀ (j:Nat) (v:V),vs[j]? = some v→(∃ i,v=.int i)∨(∃ x,v=.str x)∨∃ l xs,v=.ref l∧H l=some (.lst xs)
 | .tx r k,h=>⟨_,h,fun j v hj=>by
  rcases List.mem_cons.mp (List.mem_of_getElem? hj) with rfl | h
  ·exact .inl ⟨_,rfl⟩
  ·exact .inl ⟨_,List.mem_singleton.mp h⟩⟩
 | .nw x,h=>⟨_,h,fun j v hj=>.inr (.inl ⟨_,List.mem_singleton.mp (List.mem_of_getElem? hj)⟩)⟩
 | .nv x,h=>⟨_,h,fun j v hj=>.inr (.inl ⟨_,List.mem_singleton.mp (List.mem_of_getElem? hj)⟩)⟩
 | .sh x i,h=>⟨_,h,fun j v hj=>by
  rcases List.mem_cons.mp (List.mem_of_getElem? hj) with rfl | h
  ·exact .inr (.inl ⟨_,rfl⟩)
  ·exact .inl ⟨_,List.mem_singleton.mp h⟩⟩
 | .cl x y i,⟨l,hl,h⟩=>⟨_,h,fun j v hj=>by
  rcases List.mem_cons.mp (List.mem_of_getElem? hj) with rfl | h
  ·exact .inr (.inr ⟨_,_,rfl,hl⟩)
  ·exact .inl ⟨_,List.mem_singleton.mp h⟩⟩
theorem eq_int {K:PySem.W.Frag} {H:Hp} {k:Nat} (i:Int):EqH K H k (.int i) (.int i) true:=by
 have:=EqH.flat (K:=K) (H:=H) (k:=k) (x:=.int i) (y:=.int i) rfl rfl
 rwa [show eqV (.int i) (.int i)=true by simp [eqV]] at this
theorem eq_str {K:PySem.W.Frag} {H:Hp} {k:Nat} (x:Str):EqH K H k (.str x) (.str x) true:=by
 have:=EqH.flat (K:=K) (H:=H) (k:=k) (x:=.str x) (y:=.str x) rfl rfl
 rwa [show eqV (.str x) (.str x)=true by simp [eqV]] at this
theorem gq {K:PySem.W.Frag} {H:Hp} {p q:Addr} {xs ys:List V} (hl:xs.length=ys.length) (hp:H p=some (.tup xs)) (hq:H q=some (.tup ys)) (he:∀ (j:Nat) (x y:V),xs[j]? = some x→ys[j]? = some y→EqH K H 7 x y true):EqH K H 8 (.ref p) (.ref q) true:=by
 have:=EqH.tup (k:=7) (e:=fun _=>true) (SqT.of hp) (SqT.of hq) he
 rw [hl,show (((List.range (min ys.length ys.length)).all fun _=>true) && ys.length == ys.length)=true by rw [Bool.and_eq_true];exact ⟨List.all_eq_true.mpr fun _ _=>rfl,beq_self_eq_true _⟩] at this
 exact this
theorem SN {K:PySem.W.Frag} {H:Hp} {p q:Addr}:∀ {f:F5},f.at H p→f.at H q→EqH K H 8 (.ref p) (.ref q) true
 | .tx r k,h,h'=>gq rfl h h' fun j x y h1 h2=>by
  match j,h1,h2 with
  | 0,h1,h2=>cases h1;cases h2;exact eq_int _
  | 1,h1,h2=>cases h1;cases h2;exact eq_int _
  | j + 2,h1,_=>simp at h1
 | .nw x,h,h'=>gq rfl h h' fun j x y h1 h2=>by
  match j,h1,h2 with
  | 0,h1,h2=>cases h1;cases h2;exact eq_str _
  | j + 1,h1,_=>simp at h1
 | .nv x,h,h'=>gq rfl h h' fun j x y h1 h2=>by
  match j,h1,h2 with
  | 0,h1,h2=>cases h1;cases h2;exact eq_str _
  | j + 1,h1,_=>simp at h1
 | .sh x i,h,h'=>gq rfl h h' fun j x y h1 h2=>by
  match j,h1,h2 with
  | 0,h1,h2=>cases h1;cases h2;exact eq_str _
  | 1,h1,h2=>cases h1;cases h2;exact eq_int _
  | j + 2,h1,_=>simp at h1
 | .cl x y i,⟨l,hl,h⟩,⟨l',hl',h'⟩=>gq (xs:=[.ref l,.int i]) (ys:=[.ref l',.int i]) rfl h h' fun j x y h1 h2=>by
  match j,h1,h2 with
  | 0,h1,h2=>
   cases h1;cases h2
   have:=EqH.flats (k:=6) (SqL.of (K:=K) hl) (SqL.of hl') fun a ha b hb=>by
    obtain ⟨a',_,rfl⟩:=List.mem_map.mp ha
    obtain ⟨b',_,rfl⟩:=List.mem_map.mp hb
    rfl
   rwa [decide_eq_true rfl] at this
  | 1,h1,h2=>cases h1;cases h2;exact eq_int _
  | j + 2,h1,_=>simp at h1
theorem vP (a b c:V):gE [a,b,c] none (some 2)=[a,b]:=by
 unfold gE
 simp [HT.sIx]
noncomputable def fD (t:Adr):Sp:=fun vs H Q _=>∃ (k:Nat) (c nl:Addr) (x y z:Str) (m:Nat),vs=[.int k,.ref c,.ref nl,.int m]∧k < 5∧Ac t H c 8 (rk x y)∧H nl=some (.lst [.str x,.str y,.str z])∧L18 x y z m∧NoT H∧∀ H',Xb H H'→NoT H'→Q (.bl true) H'
section
variable {P:Program} {w:World} {K:PySem.W.Frag} {mg:Str→Option Value} {base:Heap} {t:Adr}
theorem JK (T:Txt w K mg t):Eb P w K mg base CX0 10 t.Ii t.Gi ["_law_k","_law_crossing","_law_names","_law_number"] (fD t):=by
 have GX__law_met:Eb P w K mg base (CX1 P w) 9 t.ck t.Sj ["_law_k","_law_crossing","_law_names","_law_number"] (sH t):=AN T
 have GH__law_fields:bq P w K mg base CX0 9 t.vg t.wg ["_law_e"] (mw t):=(JB T).mono (by decide)
 have GH__law_kinds:bq P w K mg base CX0 9 t.Wg t.Bh ["_law_e"] (Yy t):=(TF T).mono (by decide)
 refine T.El.ok Re (fun vs H Q E h=>?_) (fun cdv A outer s H vs Q E hr h=>?_)
 ·obtain ⟨k,c,nl,x,y,z,m,rfl,_⟩:=h;rfl
 obtain ⟨k,c,nl,x,y,z,m,rfl,hk,C,hnl,L,nt,q⟩:=h
 have hU:=hr.units
 refine ⟨_,(db (kc (i:=4) Re.nd rfl (Or.inl rfl) (gf Fd (Og (bb (ze (bb xb (bb xb fb))) (bb (ze (bb (gf Fd (pv 2) xb (fun _ _=>rfl)) fb)) (bb (ze (bb (gf Fd (pv 2) xb (fun _ _=>rfl)) fb)) (bb (ze (bb (gf Fd (pv 2) xb (fun _ _=>rfl)) (bb (pv 3) fb))) (bb (ze (bb (fc Bt rfl T.Ty xm (bb (Cy pC (pv 2) jD (HB xb)) fb)) (bb (pv 3) fb))) fb)))))) (pv 0) (fun _ _=>rfl)))
   (db (kc (i:=5) Re.nd rfl (Or.inl rfl) (ze (bb (ze fb) (bb (Og fb) (bb Tu fb)))))
   (db (uK (i:=6) (fun _ _=>⟨_,(gb (ac (HG GX__law_met hr rfl T.Az T.Gn.kp T.Oz .nil JI (bb (pv 0) (bb (pv 1) (bb (pv 2) (bb (pv 3) fb))))))),by first | rfl | (dsimp only [Cx.tr,Cx.hn];done) | (dsimp only [Cx.tr,Cx.hn];exact rfl)⟩) rfl T.qf (fun _=>⟨_,(gb (kc (i:=5) Re.nd rfl (Or.inl rfl) (ze (bb (yy GH__law_fields (Nh.hn hr) rfl T.Au T.Li.kp T.Ku .nil dc (bb (pv 6) fb)) (bb (yy GH__law_kinds (Nh.hn hr) rfl T.tw T.jj.kp T.iw .nil dc (bb (pv 6) fb)) (bb (fc Vz rfl T.Ub Ab (bb (pv 6) (bb (ND (v:=.ty "ValueError") rfl T.gw Hn rfl) fb))) fb)))))),by first | rfl | (dsimp only [Cx.tr,Cx.hn];done) | (dsimp only [Cx.tr,Cx.hn];exact rfl)⟩) Re.nd rfl rfl)
   (db (De PassesOwn.never rfl (eM (gf Ky (pv 5) xb (fun _ _=>rfl))) (Bb (i:=7) Re.nd rfl (Or.inl rfl)) (gb (qe (xh (fc pG rfl T.Ub Ab (bb (pv 7) (bb (ND (v:=.ty "bool") rfl T.kL Tx rfl) fb)))) (gb (Db Tu)) Zb)))
   (gb (Db (Py (Oe (rH hU) (gf Ky (pv 5) xb (fun _ _=>rfl)) (pv 4) (Lc _)) (Py (Oe (rH hU) (gf Ky (pv 5) xb (fun _ _=>rfl)) (Ij rfl (Be rfl T.Ig (bb xb fb)) (Ud (sc:=jb Al) rfl (by decide +kernel)) (N:=["_law_other","_law_k"]) (sel:=[none,some 0]) (Ie (M:=["_law_k","_law_crossing","_law_names","_law_number","_law_due","_law_told","_law_e","_law_field"]) (by decide +kernel)) (Blk.of (fun _ _ _ _=>(Bb (i:=0) (Ai (N:=["_law_other","_law_k"]) (by decide +kernel) rfl) rfl (Or.inl rfl))) (fun _ _ _ _=>⟨_,Mh,by first | rfl | (dsimp only [Cx.block];done) | (dsimp only [Cx.block];exact rfl)⟩) (fun _ _ _ _=>⟨_,(Oe ij (pv 0) (pv 1) (Lc _)),by first | rfl | (dsimp only [Cx.block];done) | (dsimp only [Cx.block];exact rfl)⟩))) (Lc _)) (yv (gf Ky (pv 5) xb (fun _ _=>rfl))))))))))),?_⟩
 simp only [wf]
 refine Ui (fun σ' H'=>Xb H H'∧NoT H'∧∃ d,(F18 x y z m k).at H' d∧σ'=[some (.int k),some (.ref c),some (.ref nl),some (.int m),some (.ref d),none,none,none]) (fun D' hD _ _ _=>?_) ?_
 ·(walk_at "RD")
  refine ⟨by decide,fun p hp=>?_⟩
  obtain ⟨Ha,ea⟩:∃ Hx:Hp,Hx=upd H p (.tup [.int 1,.int 6]):=⟨_,rfl⟩
  rw [← ea]
  have sa:Xb H Ha:=by rw [ea];exact ib hp
  have na:NoT Ha:=by rw [ea];exact nt.upd
  have ua:Ha p=some (.tup [.int 1,.int 6]):=by rw [ea];exact cb
  clear ea
  refine ⟨_,SqL.of (sa _ _ hnl),_,yc (j:=2) rfl,by decide,fun p1 hp1=>?_⟩
  obtain ⟨Hb,eb⟩:∃ Hx:Hp,Hx=upd Ha p1 (.tup [.str z]):=⟨_,rfl⟩
  rw [← eb]
  have sb:Xb Ha Hb:=by rw [eb];exact ib hp1
  have nb:NoT Hb:=by rw [eb];exact na.upd
  have ub:Hb p1=some (.tup [.str z]):=by rw [eb];exact cb
  clear eb
  have sab:=sa.trans sb
  refine ⟨_,SqL.of (sab _ _ hnl),_,yc (j:=1) rfl,by decide,fun p2 hp2=>?_⟩
  obtain ⟨Hc,ec⟩:∃ Hx:Hp,Hx=upd Hb p2 (.tup [.str y]):=⟨_,rfl⟩
  rw [← ec]
  have sc:Xb Hb Hc:=by rw [ec];exact ib hp2
  have nc:NoT Hc:=by rw [ec];exact nb.upd
  have uc:Hc p2=some (.tup [.str y]):=by rw [ec];exact cb
  clear ec
  have sac:=sab.trans sc
  refine ⟨_,SqL.of (sac _ _ hnl),_,yc (j:=0) rfl,by decide,fun p3 hp3=>?_⟩
  obtain ⟨Hd,ed⟩:∃ Hx:Hp,Hx=upd Hc p3 (.tup [.str x,.int m]):=⟨_,rfl⟩
  rw [← ed]
  have sd:Xb Hc Hd:=by rw [ed];exact ib hp3
  have nd:NoT Hd:=by rw [ed];exact nc.upd
  have ud:Hd p3=some (.tup [.str x,.int m]):=by rw [ed];exact cb
  clear ed
  have sad:=sac.trans sd
  refine ⟨_,SqL.of (sad _ _ hnl),fun p4 hp4=>?_⟩
  rw [vP]
  obtain ⟨He,ee⟩:∃ Hx:Hp,Hx=upd Hd p4 (.lst [.str x,.str y]):=⟨_,rfl⟩
  rw [← ee]
  have se:Xb Hd He:=by rw [ee];exact ib hp4
  have ne:NoT He:=by rw [ee];exact nd.upd
  have ue:He p4=some (.lst [.str x,.str y]):=by rw [ee];exact cb
  clear ee
  refine ⟨x,y,SqL.of ue,fun p5 hp5=>?_⟩
  obtain ⟨Hf,ef⟩:∃ Hx:Hp,Hx=upd He p5 (.lst ((dG x y).map V.str)):=⟨_,rfl⟩
  rw [← ef]
  have sf:Xb He Hf:=by rw [ef];exact ib hp5
  have nf:NoT Hf:=by rw [ef];exact ne.upd
  have uf:Hf p5=some (.lst ((dG x y).map V.str)):=by rw [ef];exact cb
  clear ef
  refine ⟨by decide,fun p6 hp6=>?_⟩
  obtain ⟨Hg,eg⟩:∃ Hx:Hp,Hx=upd Hf p6 (.tup [.ref p5,.int m]):=⟨_,rfl⟩
  rw [← eg]
  have sg:Xb Hf Hg:=by rw [eg];exact ib hp6
  have ng:NoT Hg:=by rw [eg];exact nf.upd
  have ug:Hg p6=some (.tup [.ref p5,.int m]):=by rw [eg];exact cb
  clear eg
  refine ⟨by decide,fun p7 hp7=>?_⟩
  obtain ⟨Hh,eh⟩:∃ Hx:Hp,Hx=upd Hg p7 (.lst [.ref p,.ref p1,.ref p2,.ref p3,.ref p6]):=⟨_,rfl⟩
  rw [← eh]
  have sh:Xb Hg Hh:=by rw [eh];exact ib hp7
  have nh:NoT Hh:=by rw [eh];exact ng.upd
  have uh:Hh p7=some (.lst [.ref p,.ref p1,.ref p2,.ref p3,.ref p6]):=by rw [eh];exact cb
  clear eh
  have hat:∃ d,atI [V.ref p,.ref p1,.ref p2,.ref p3,.ref p6] ((k:Nat):Int)=some (.ref d)∧(F18 x y z m k).at Hh d:=by
   match k,hk with
   | 0,_=>exact ⟨p,yc (j:=0) rfl,sh _ _ (sg _ _ (sf _ _ (se _ _ (sd _ _ (sc _ _ (sb _ _ ua))))))⟩
   | 1,_=>exact ⟨p1,yc (j:=1) rfl,sh _ _ (sg _ _ (sf _ _ (se _ _ (sd _ _ (sc _ _ ub)))))⟩
   | 2,_=>exact ⟨p2,yc (j:=2) rfl,sh _ _ (sg _ _ (sf _ _ (se _ _ (sd _ _ uc))))⟩
   | 3,_=>exact ⟨p3,yc (j:=3) rfl,sh _ _ (sg _ _ (sf _ _ (se _ _ ud)))⟩
   | 4,_=>exact ⟨p6,yc (j:=4) rfl,p5,sh _ _ (sg _ _ uf),sh _ _ ug⟩
  obtain ⟨d,hat,hd⟩:=hat
  exact ⟨_,SqL.of uh,_,hat,hD _ _ ⟨(((sad.trans se).trans sf).trans sg).trans sh,nh,d,hd,rfl⟩⟩
 rintro σ1 H1 ⟨s1,n1,d,hd,rfl⟩
 simp only [wf]
 refine Ui (fun σ' H'=>Xb H1 H'∧NoT H'∧∃ tp,σ'=[some (.int k),some (.ref c),some (.ref nl),some (.int m),some (.ref d),some (.ref tp),none,none]) (fun D' hD _ _ _=>?_) ?_
 ·(walk_at "RD")
  exact ⟨by decide,fun pa ha=>⟨by decide,fun pb hb=>⟨by decide,fun pc hc=>hD _ _ ⟨((ib ha).trans (ib hb)).trans (ib hc),((n1.upd).upd).upd,pc,rfl⟩⟩⟩⟩
 rintro σ2 H2 ⟨s2,n2,tp0,rfl⟩
 have s12:=s1.trans s2
 simp only [wf]
 refine Ui (fun σ' H'=>Xb H2 H'∧NoT H'∧∃ tp fp kl ev,H' tp=some (.tup [.ref fp,.ref kl,.bl true])∧(F18 x y z m k).at H' fp∧H' kl=some (.lst (isB (F18 x y z m k)))∧σ'=[some (.int k),some (.ref c),some (.ref nl),some (.int m),some (.ref d),some (.ref tp),ev,none]) (fun D' hD _ _ _=>?_) ?_
 ·(walk_at "RD")
  refine ⟨k,c,nl,x,y,z,m,rfl,hk,C.same s12,s12 _ _ hnl,L,n2,fun dx H3 s3 n3 hdx=>?_⟩
  (walk_at "RD")
  refine ⟨_,rfl,exL T _,fun ex hex=>?_⟩
  (walk_at "RD")
  have n3':=n3 n2
  refine ⟨ex,F18 x y z m k,rfl,⟨dx,hex,hdx⟩,fun fp H4 s4 n4 hfp=>?_⟩
  refine ⟨ex,F18 x y z m k,rfl,⟨dx,s4 _ _ hex,s4 _ _ hdx⟩,fun kl H5 s5 n5 hkl=>?_⟩
  have s45:=s4.trans s5
  refine ⟨_,_,s45 _ _ hex,_,s45 _ _ hdx,aK T _,_,ktV T _,by decide,fun tp htp=>hD _ _ ⟨(s3.trans s45).trans (ib htp),(n5 (n4 n3')).upd,tp,fp,kl,_,cb,F5.at_same (F5.at_same hfp s5) (ib htp),(ib htp) _ _ hkl,rfl⟩⟩
 rintro σ3 H3 ⟨s3,n3,tp,fp,kl,ev,htp,hfp,hkl,rfl⟩
 obtain ⟨vs,hvs,hty⟩:=F5.tup hfp
 have hd3:=F5.at_same (F5.at_same hd s2) s3
 have s13:=s12.trans s3
 simp only [wf]
 refine Ui (fun σ' H'=>H'=H3∧∃ fv,σ'=[some (.int k),some (.ref c),some (.ref nl),some (.int m),some (.ref d),some (.ref tp),ev,fv]) (fun D' hD _ _ _=>?_) ?_
 ·(walk_at "RD")
  refine ⟨_,SqT.of htp,_,yc (j:=0) rfl,fp,rfl,⟨_,SqT.of hvs⟩,?_⟩
  refine KK (xs:=vs) (fun i σ H'=>H'=H3∧∃ fv,σ=[some (.int k),some (.ref c),some (.ref nl),some (.int m),some (.ref d),some (.ref tp),ev,fv]) ⟨rfl,_,rfl⟩ ?_ ?_ ?_
  ·rintro i σ H' _ ⟨rfl,_⟩
   exact SqT.of hvs
  ·rintro i v σ H' hv ⟨rfl,fv,rfl⟩
   simp only [um,List.set_cons_succ,List.set_cons_zero]
   refine Vb false (fun Q hQ=>?_) (fun cc=>nomatch cc) (fun _=>?_)
   ·(walk_at "RD")
    rcases hty i v hv with ⟨j,rfl⟩ | ⟨x',rfl⟩ | ⟨l,xs,rfl,hl⟩
    ·exact ⟨_,.int _,_,aM,hQ⟩
    ·exact ⟨_,.str _,_,rN,hQ⟩
    ·exact ⟨_,.lst hl,_,ZM,hQ⟩
   ·(walk_at "RD")
    exact ⟨_,rfl⟩
  ·rintro σ H' ⟨rfl,fv,rfl⟩
   exact hD _ _ ⟨rfl,fv,rfl⟩
 rintro σ4 H4 ⟨rfl,fv,rfl⟩
 have hno:=qM x y z m k hk
 (walk_at "RD")
 refine ⟨_,SqT.of htp,_,yc (j:=0) rfl,fp,rfl,true,SN hfp hd3,?_⟩
 rw [if_pos rfl]
 refine ⟨_,SqT.of htp,_,yc (j:=1) rfl,by decide,by decide,?_⟩
 refine Xd.range_map (fun j=>V.bl (decide ((j:Int)=((F18 x y z m k).no:Int)))) (show (8:Nat) ≤ sizeLine by decide) (fun j N hj hN=>?_) (fun p2 hp2=>?_)
 ·(walk_at "RD")
  rw [hno] at hN
  exact ⟨Sub.name,hN⟩
 refine ⟨kl,rfl,p2,rfl,true,?_,?_⟩
 ·have:=EqH.flats (k:=7) (SqL.of (K:=K) ((ib hp2) _ _ hkl)) (SqL.of (show _=some (.lst (isB (F18 x y z m k))) from cb)) fun a ha b hb=>by
   obtain ⟨a',_,rfl⟩:=List.mem_map.mp ha
   obtain ⟨b',_,rfl⟩:=List.mem_map.mp hb
   rfl
  rwa [decide_eq_true rfl] at this
 ·rw [if_pos rfl]
  exact ⟨_,SqT.of ((ib hp2) _ _ htp),_,yc (j:=2) rfl,q _ (s13.trans (ib hp2)) n3.upd⟩
end
end My
namespace My
open PySem L2
noncomputable def Nm (c:Nat) (x:Str):Prop:=∃ pre:List Nat,x.cps.toList=pre ++ [c]∧pre.length ≤ 7∧∀ d ∈ pre,97 ≤ d∧d ≤ 122
noncomputable def cz (k:Nat):Nat:=[97,120,122].getD k 97
theorem LK (k:Nat):97 ≤ cz k∧cz k ≤ 122:=by
 match k with
 | 0=>decide
 | 1=>decide
 | 2=>decide
 | k + 3=>exact ⟨by show 97 ≤ 97;decide,by show 97 ≤ 122;decide⟩
theorem Nm.made {c:Nat} {x:Str} (hc:97 ≤ c∧c ≤ 122) (h:Nm c x):made x Yc 8=true:=by
 obtain ⟨pre,e,hl,al⟩:=h
 have hx:x.length=x.cps.toList.length:=by simp [Str.length]
 refine Dw ?_ ?_ ?_
 ·rw [hx,e,List.length_append];simp
 ·rw [hx,e,List.length_append,List.length_singleton];omega
 ·intro d hd
  rw [e] at hd
  rcases List.mem_append.mp hd with hd | hd
  ·exact al d hd
  ·rw [List.mem_singleton.mp hd];exact hc
theorem Nm.ne {c d:Nat} {x y:Str} (hx:Nm c x) (hy:Nm d y) (h:c ≠ d):x ≠ y:=fun z=>by
 obtain ⟨p1,e1,_⟩:=hx
 obtain ⟨p2,e2,_⟩:=hy
 rw [z,e2] at e1
 have:=congrArg List.getLast? e1
 simp at this
 exact h this.symm
theorem OC {i:Int} (h0:0 ≤ i) (h1:i < 26):∃ c:Nat,atI (Str.ofString "abcdefghijklmnopqrstuvwxyz").cps.toList i=some c∧97 ≤ c∧c ≤ 122:=by
 have:∀ k,k < 26→atI (Str.ofString "abcdefghijklmnopqrstuvwxyz").cps.toList ((k:Nat):Int)=some (97 + k):=by decide +kernel
 refine ⟨97 + i.toNat,?_,by omega,by omega⟩
 have e:=this i.toNat (by omega)
 rwa [Int.toNat_of_nonneg h0] at e
theorem nN:∀ k,k < 3→atI (Str.ofString "axz").cps.toList ((k:Nat):Int)=some (cz k):=by decide +kernel
noncomputable def TH (t:Adr):Sp:=fun vs H Q _=>∃ n ds,vs=[.str (Wx n ds)]∧COk n ds∧NoT H∧∀ c H',Xb H H'→NoT H'→Ac t H' c n ds→Q (.ref c) H'
section
variable {P:Program} {w:World} {K:PySem.W.Frag} {mg:Str→Option Value} {base:Heap} {t:Adr}
theorem bM (T:Txt w K mg t):Eb P w K mg base CX0 8 t.Kd t.Ld ["text"] (TH t):=by
 refine (xH T).quiet fun vs H Q E h=>?_
 obtain ⟨n,ds,rfl,hC,nt,q⟩:=h
 refine ⟨Wx n ds,_,_,rfl,sA hC,Nat.le_trans (uD hC) (by decide),?_,fun r hr=>⟨?_,?_,fun y hy=>?_⟩,nt,?_⟩
 ·rw [List.length_map];have:=hC.ln;omega
 ·intro z
  subst z
  rcases List.mem_cons.mp hr with e | e
  ·cases e
  ·obtain ⟨d,_,e⟩:=List.mem_map.mp e
   cases e
 ·rcases List.mem_cons.mp hr with e | e
  ·rw [e];show 2 ≤ 1000;decide
  ·obtain ⟨d,_,rfl⟩:=List.mem_map.mp e
   show 7 ≤ 1000;decide
 ·exact Nat.le_trans (hC.plain r hr y hy).1 (by decide)
 ·rw [EA hC]
  exact q
theorem iM (T:Txt w K mg t):Eb P w K mg base CX0 11 t.MK t.NF ["_law_script"] (wM K):=by
 refine T.BO.ok Bk (fun vs H Q E h=>?_) (fun cdv A outer s H vs Q E hr h=>?_)
 ·obtain ⟨a,ns,rfl,_⟩:=h;rfl
 obtain ⟨a,ns,rfl,S00,h63,q⟩:=h
 have G__law_draw:Eb P w K mg base CX0 10 t.oi t.Ji ["_law_script","_law_k","_law_many"] (qp K a ns):=(HI T a ns h63).mono (by decide)
 have G_read_crossing:Eb P w K mg base CX0 10 t.Kd t.Ld ["text"] (TH t):=(bM T).mono (by decide)
 have G__law_good:Eb P w K mg base CX0 10 t.Ii t.Gi ["_law_k","_law_crossing","_law_names","_law_number"] (fD t):=JK T
 refine ⟨_,(db (kc (i:=1) Bk.nd rfl (Or.inl rfl) Gd)
   (db (kc (i:=2) Bk.nd rfl (Or.inl rfl) (Og fb))
   (db (De PassesOwn.never rfl (Be rfl T.Ig (bb xb fb)) (Bb (i:=3) Bk.nd rfl (Or.inl rfl)) (db (kc (i:=4) Bk.nd rfl (Or.inl rfl) Gd)
   (db (De PassesOwn.never rfl (Be rfl T.Ig (bb (Jb G__law_draw hr rfl T.Nl T.Eg.kp T.ql .nil dc (bb (pv 0) (bb (Ic cg xb (pv 3)) (bb xb fb)))) fb)) (Bb (i:=5) Bk.nd rfl (Or.inl rfl)) (gb (kc (i:=4) Bk.nd rfl (Or.inl rfl) (Ic Wd (pv 4) (gf vB (pv 1) (Jb G__law_draw hr rfl T.Nl T.Eg.kp T.ql .nil dc (bb (pv 0) (bb (Ic cg (Ic cg xb (Ic yt xb (pv 3))) (pv 5)) (bb xb fb)))) (fun _ _=>rfl))))))
   (gb (ac (JC PySem.F.plainAttrs_list PySem.F.slot_list_append PySem.F.type_list_append lp (pv 2) (bb (Ic Wd (pv 4) (gf vB Gd (pv 3) (fun _ _=>rfl))) fb)))))))
   (db (kc (i:=6) Bk.nd rfl (Or.inl rfl) (Ic cg xb (Jb G__law_draw hr rfl T.Nl T.Eg.kp T.ql .nil dc (bb (pv 0) (bb xb (bb xb fb))))))
   (db (kc (i:=7) Bk.nd rfl (Or.inl rfl) (Jb G_read_crossing hr rfl T.yj T.Ze.kp T.Mj .nil dc (bb (Ic Wd (Ic Wd (Ic Wd (Ic Wd Gd (gf Fd (pv 2) xb (fun _ _=>rfl))) Gd) (gf Fd (pv 2) xb (fun _ _=>rfl))) Gd) fb)))
   (db (De PassesOwn.never rfl (Be rfl T.Ig (bb xb fb)) (Bb (i:=3) Bk.nd rfl (Or.inl rfl)) (gb (qe (pq (xh (Jb G__law_good hr rfl T.Sx T.El.kp T.Bx .nil dc (bb (pv 3) (bb (pv 7) (bb (pv 2) (bb (pv 6) fb))))))) (gb (Db Tu)) Zb)))
   (gb (Db Tu)))))))),?_⟩
 have hbig:∀ k:Nat,k ≤ 1000→k ≤ sizeLine:=fun k h=>Nat.le_trans h (by decide)
 simp only [wf]
 refine Ui (fun σ' H'=>H'=H∧σ'=[some (.ref a),some (.str (Str.ofString "abcdefghijklmnopqrstuvwxyz")),none,none,none,none,none,none]) (fun D' hD _ _ _=>?_) ?_
 ·(walk_at "RD")
  exact hD _ _ ⟨rfl,rfl⟩
 rintro σ0 H0 ⟨rfl,rfl⟩
 simp only [wf]
 refine Ui (fun σ' H'=>Sc K a ns H'∧∃ nl,H' nl=some (.lst [])∧σ'=[some (.ref a),some (.str (Str.ofString "abcdefghijklmnopqrstuvwxyz")),some (.ref nl),none,none,none,none,none]) (fun D' hD _ _ _=>?_) ?_
 ·(walk_at "RD")
  exact ⟨Nat.zero_le _,fun nl hnl=>hD _ _ ⟨S00.new hnl,nl,cb,rfl⟩⟩
 rintro σ1 H1 ⟨S1,nl,hnl,rfl⟩
 simp only [wf]
 refine Ui (fun σ' H'=>Sc K a ns H'∧(∃ xs:List Str,H' nl=some (.lst (bc xs))∧xs.length=3∧∀ (j:Nat) (x:Str),xs[j]? = some x→Nm (cz j) x)∧∃ v1 v2 v3,σ'=[some (.ref a),some (.str (Str.ofString "abcdefghijklmnopqrstuvwxyz")),some (.ref nl),v1,v2,v3,none,none]) (fun D' hD _ _ _=>?_) ?_
 ·(walk_at "RD")
  refine ⟨by decide,by decide,?_⟩
  refine sj.range (fun i σ H'=>Sc K a ns H'∧(∃ xs:List Str,H' nl=some (.lst (bc xs))∧xs.length=i∧∀ (j:Nat) (x:Str),xs[j]? = some x→Nm (cz j) x)∧∃ v1 v2 v3,σ=[some (.ref a),some (.str (Str.ofString "abcdefghijklmnopqrstuvwxyz")),some (.ref nl),v1,v2,v3,none,none]) ?_ ?_ ?_
  ·exact ⟨S1,⟨[],hnl,rfl,fun j x h=>by simp at h⟩,_,_,_,rfl⟩
  ·rintro i σ H' hi ⟨S2,⟨xs,hx,hxl,hxn⟩,v1,v2,v3,rfl⟩
   have hi3:i < 3:=hi
   have d1:=Iw ns (1 + (i:Int)) (m:=8) (by decide)
   have d2:=px ns (1 + (i:Int)) (m:=8) (by decide)
   simp only [um,wf,List.set_cons_succ,List.set_cons_zero,Int.zero_add]
   refine Ui (fun σ' H2=>H2=H'∧σ'=[some (.ref a),some (.str (Str.ofString "abcdefghijklmnopqrstuvwxyz")),some (.ref nl),some (.int (i:Nat)),some (.str (Str.ofString "")),v3,none,none]) (fun D' hD _ _ _=>?_) ?_
   ·(walk_at "RD")
    exact hD _ _ ⟨rfl,rfl⟩
   rintro σ2 H2 ⟨rfl,rfl⟩
   simp only [wf]
   refine Ui (fun σ' H3=>H3=H2∧∃ x v3,(x.cps.toList.length ≤ 7∧∀ d ∈ x.cps.toList,97 ≤ d∧d ≤ 122)∧σ'=[some (.ref a),some (.str (Str.ofString "abcdefghijklmnopqrstuvwxyz")),some (.ref nl),some (.int (i:Nat)),some (.str x),v3,none,none]) (fun D' hD _ _ _=>?_) ?_
   ·(walk_at "RD"; repeat (simp only [qp];walk_at "RD"))
    refine ⟨S2,by omega,by omega,by decide,by omega,by omega,?_⟩
    refine sj.range (fun j σ H3=>H3=H2∧∃ x v3,(x.cps.toList.length ≤ j∧∀ d ∈ x.cps.toList,97 ≤ d∧d ≤ 122)∧σ=[some (.ref a),some (.str (Str.ofString "abcdefghijklmnopqrstuvwxyz")),some (.ref nl),some (.int (i:Nat)),some (.str x),v3,none,none]) ?_ ?_ ?_
    ·exact ⟨rfl,_,_,⟨by decide +kernel,by decide +kernel⟩,rfl⟩
    ·rintro j σ H3 hj ⟨rfl,x,v3,⟨hl,hc⟩,rfl⟩
     have e1:=Iw ns (10 + 8 * (i:Int) + (j:Int)) (m:=26) (by decide)
     have e2:=px ns (10 + 8 * (i:Int) + (j:Int)) (m:=26) (by decide)
     obtain ⟨cc,hat,hcc⟩:=OC e1 e2
     have hxl:x.length=x.cps.toList.length:=by simp [Str.length]
     have hcps:(x ++ (⟨#[cc]⟩:Str)).cps.toList=x.cps.toList ++ [cc]:=by rw [Str.cps_append,Array.toList_append]
     (walk_at "RD"; repeat (simp only [qp];walk_at "RD"))
     refine ⟨.inl ⟨by decide,by decide⟩,S2,by omega,by omega,by decide,by decide +kernel,cc,hat,hbig _ (by rw [Ny];omega),x ++ ⟨#[cc]⟩,by rw [hcps,List.length_append,List.length_singleton];omega,fun d hd=>?_,rfl,_,rfl⟩
     rw [hcps] at hd
     rcases List.mem_append.mp hd with hd | hd
     ·exact hc d hd
     ·rw [List.mem_singleton.mp hd];exact hcc
    ·rintro σ H3 ⟨rfl,x,v3,⟨hl,hc⟩,rfl⟩
     exact hD _ _ ⟨rfl,x,v3,⟨by omega,hc⟩,rfl⟩
   rintro σ3 H3 ⟨rfl,x,v3,⟨hl,hc⟩,rfl⟩
   have hxl':x.length=x.cps.toList.length:=by simp [Str.length]
   (walk_at "RD")
   refine ⟨.inl ⟨_,SqL.of hx⟩,by decide +kernel,cz i,nN i hi3,hbig _ (by rw [Ny];omega),_,hx,Nat.lt_of_le_of_lt (show (bc xs).length ≤ 3 by rw [Bj];omega) (by decide),?_,⟨xs ++ [x ++ ⟨#[cz i]⟩],?_,?_,?_⟩,_,rfl⟩
   ·exact S2.set hx (fun ob z e=>by cases e)
   ·rw [cb];unfold bc;rw [List.map_append];rfl
   ·rw [List.length_append,hxl];rfl
   ·intro j y hy
    rcases Kl hy with ⟨_,z'⟩ | ⟨z1,rfl⟩
    ·exact hxn j y z'
    ·rw [z1,hxl]
     exact ⟨x.cps.toList,by rw [Str.cps_append,Array.toList_append],hl,hc⟩
  ·rintro σ H' ⟨S2,⟨xs,hx,hxl,hxn⟩,v1,v2,v3,rfl⟩
   exact hD _ _ ⟨S2,⟨xs,hx,hxl,hxn⟩,_,_,_,rfl⟩
 rintro σ2 H2 ⟨S2,⟨xs,hx,hxl,hxn⟩,v1,v2,v3,rfl⟩
 obtain ⟨x,y,z,rfl⟩:∃ x y z,xs=[x,y,z]:=by
  match xs,hxl with
  | [x,y,z],_=>exact ⟨x,y,z,rfl⟩
 have nx:=hxn 0 x rfl
 have ny:=hxn 1 y rfl
 have nz:=hxn 2 z rfl
 have d1:=Iw ns 5 (m:=90) (by decide)
 have d2:=px ns 5 (m:=90) (by decide)
 obtain ⟨m,hm⟩:∃ m:Nat,2 + pF ns 5 90=(m:Nat):=⟨(2 + pF ns 5 90).toNat,by omega⟩
 have L:L18 x y z m:=⟨nx.made (LK 0),ny.made (LK 1),nz.made (LK 2),nx.ne ny (by decide),nx.ne nz (by decide),ny.ne nz (by decide),by omega⟩
 have hC:=lO L.hx L.hy L.xy
 simp only [wf]
 refine Ui (fun σ' H'=>H'=H2∧σ'=[some (.ref a),some (.str (Str.ofString "abcdefghijklmnopqrstuvwxyz")),some (.ref nl),v1,v2,v3,some (.int m),none]) (fun D' hD _ _ _=>?_) ?_
 ·(walk_at "RD"; repeat (simp only [qp];walk_at "RD"))
  rw [hm]
  exact ⟨S2,by omega,by omega,by decide,hD _ _ ⟨rfl,rfl⟩⟩
 rintro σ3 H3 ⟨rfl,rfl⟩
 simp only [wf]
 refine Ui (fun σ' H'=>Xb H3 H'∧NoT H'∧∃ c,Ac t H' c 8 (rk x y)∧σ'=[some (.ref a),some (.str (Str.ofString "abcdefghijklmnopqrstuvwxyz")),some (.ref nl),v1,v2,v3,some (.int m),some (.ref c)]) (fun D' hD _ _ _=>?_) ?_
 ·(walk_at "RD")
  have z1:=(Zh L.hx).1
  have z2:=(Zh L.hy).1
  have y1:(Str.ofString "ring 8\ncar ").length=11:=by decide +kernel
  have y2:(Str.ofString " 0 4 0 0 1\ntram ").length=16:=by decide +kernel
  have y3:(Str.ofString " 2 6 0 0 1").length=10:=by decide +kernel
  refine ⟨_,SqL.of hx,_,yc (j:=0) rfl,_,rfl,hbig _ (by omega),hbig _ (by simp only [xj];omega),_,SqL.of hx,_,yc (j:=1) rfl,_,rfl,hbig _ (by simp only [xj];omega),hbig _ (by simp only [xj];omega),?_⟩
  exact ⟨8,rk x y,by rw [← NJ];rfl,hC,S2.nt,fun c H' s1 n1 C=>hD _ _ ⟨s1,n1,c,C,rfl⟩⟩
 rintro σ4 H4 ⟨s4,n4,c,C4,rfl⟩
 have hx4:=s4 _ _ hx
 (walk_at "RD")
 refine ⟨by decide,by decide,?_⟩
 refine sj.range (fun i σ H'=>Xb H4 H'∧NoT H'∧∃ v1,σ=[some (.ref a),some (.str (Str.ofString "abcdefghijklmnopqrstuvwxyz")),some (.ref nl),v1,v2,v3,some (.int m),some (.ref c)]) ?_ ?_ ?_
 ·exact ⟨Xb.refl _,n4,_,rfl⟩
 ·rintro i σ H' hi ⟨s5,n5,v1,rfl⟩
  have hi5:i < 5:=hi
  simp only [um,List.set_cons_succ,List.set_cons_zero,Int.zero_add]
  refine Vo (fun b H5=>b=false∧Xb H4 H5∧NoT H5) (fun Q hQ=>?_) (fun H5 r=>?_) (fun H5 r=>?_)
  ·(walk_at "RD")
   exact ⟨i,c,nl,x,y,z,m,rfl,hi5,C4.same s5,s5 _ _ hx4,L,n5,fun H5 s6 n6=>⟨_,rfl,hQ _ _ ⟨rfl,s5.trans s6,n6⟩⟩⟩
  ·cases r.1
  ·(walk_at "RD")
   exact ⟨r.2.1,r.2.2,_,rfl⟩
 ·rintro σ H' ⟨s5,n5,v1,rfl⟩
  (walk_at "RD")
  exact q _
end
end My
inductive PySem.W.Fast:Prop
|tw14451276371162495379|tw3195654376997667240|tw13611673032158685851|tw17176063934985552545|tw14135405021270573887|tw17294329403441123816|tw15719229944042802802|tw12365356834080497517|tw11808112997583806337|tw10092328691062187607|tw13614357190612287112|tw11801852503519626107|tw6688607451901280458|tw11035812567366030028|tw1002310883550307182|tw7502017400840934922|tw13296696321683706760|tw1147389955953369135|tw7087910425518229144|tw4959489707548180735|tw6679352048158282339|tw8195485349464153044|tw4298632915562330700|tw7850858218533368158|tw5123890261395829717|tw14628254677033411467|tw5563898878082411283|tw12472458056031048898|tw13572330007806743843|tw3719118832283587151|tw15869150910938463448|tw9511080476686971133|tw12991822710759215713|tw16250866422686888433|tw6892528804295819965|tw7647898407655307934|tw8431999277354694516|tw2620000823215216062|tw8132908010803046610|tw12381296565370587386|tw17755564383055079560|tw3663232851996541842|tw12481436465636456394|tw5499752816742061240|tw15972652333535202846|tw9260159743092812169|tw17502580011424404185|tw11105936152101846645|tw2478049296725222155|tw12450441604445319179|tw243165740356720872|tw372332002954324975|tw15896066621213035231|tw1945661503882754826|tw7963472913709395001|tw15671579120493427507|tw17360857783580628717|tw1154533917181740642|tw15391200208472458767|tw14515785039686585678|tw5634328695814800455|tw5679140861612946095|tw3621435188161476471|tw14291677033158607983|tw8997396490239537043|tw12436899494381490108|tw16428085246369531963|tw15924476919892949702|tw15923076787489249744|tw8845262652917037338|tw10097790921483188522|tw14173166109626515939|tw670626231018321957|tw16273648608553395786|tw12771538891664200716|tw4743131133315656432|tw14678856383538632703|tw2774196266770042273|tw845415331389989026|tw18062370355897050746|tw9886739355792913468|tw5953424293422183357|tw10310170997592019537|tw18290643974988131569|tw9799668758384554365|tw6668201293851191002|tw11530297961360538461|tw11589299407985447030|tw8345426624716755981|tw14498718227651941722|tw5563224853917439180|tw3067938499559992763|tw16633463819679455639|tw6428374958203721006|tw10238780875838583052|tw3289915496114740703|tw11208815379410972941|tw5835434821539383502|tw15509896803228711007|tw8132543402388566712|tw4061841830052897201|tw7200809204789922111|tw15676027216747097150|tw2753095431791033231|tw10060073038914328547|tw5365892077270543839|tw13412508116694252120|tw1399752019228561573|tw15667186313774086500|tw17863879670304137236|tw4304971998541416335|tw949054629206065295|tw2873083676000134602|tw8089925731064809814|tw14283986460794483114|tw7045877724289241103|tw910561386850814453|tw131329050401438921|tw16715139224724141278|tw12568342613826979409|tw8809499021166016890|tw17631435420896315103|tw15173935883087767507|tw18308669775418668728|tw1742730845822878588|tw3464554634333517077|tw5440238357394308060|tw11596373461315290769|tw6962296475531048816|tw13432388752347776214|tw3672905162231332850|tw14630173137112738139|tw17308854584005973602|tw8786904485373217630|tw9925113652593546364|tw2869315422658227311|tw1134105494818338903|tw12524057661172593287|tw7783779024871880210|tw10836571864138426818|tw9172396170049050828|tw9036078045679062912|tw7629803208053261275|tw2962401268629320336|tw14714720054287838616|tw9856592239910655192|tw743509342422908271|tw11218348869645942682|tw13267861972044751755|tw1544771920786618178|tw8169294804915038875|tw11848505866740563414|tw6593470263798643171|tw16341251213568933253|tw16970369537954239966|tw1513970062246366967|tw5288216363083305300|tw17953451793331306237|tw13170485710171670115|tw2853497883087549262|tw6529519785456961337|tw11638212615191573920|tw17141284861774906750|tw11417845792790086219|tw3679145497181037241|tw1444115025161625847|tw5624830537613115732|tw14283482665524285885|tw6648073868551234105|tw6787593880726494313|tw18427193978516485813|tw2375267315412454104|tw9124522442107048136|tw3037114727959281610|tw9984562568985690260|tw18047016351486383229|tw8830208754861836089|tw1161100354718575552|tw16690638768822433368|tw7863745708845811062|tw6940313815133091293|tw13442303393282852460|tw7798659072129740007|tw9766781035999217862|tw6238996789807096913|tw13217566152444492100|tw16119579401976836231|tw4820137936822861302|tw9769131989376692059|tw184351969366191376|tw7547964717136539895|tw17762326644127355328|tw13557711394665009551|tw14098473718369362602|tw16314300280388534525|tw7565554883828867510|tw3355516900358827683|tw5027826214100314340|tw11553153250726247857|tw623527680044020439|tw10627224406694481071|tw14437093296544889182|tw1764407963553779757|tw5318922567405141561|tw3922883286539004663|tw54011181722293336|tw11998783165249460150|tw2914280482687446988|tw6225875568777514633|tw5824494426932360567|tw17323257041253212928|tw11758070967034571585|tw847428496413343147|tw8387906803657468189|tw5791503981272659238|tw16648354376381632925|tw9091508122829693731|tw10755412997354862210|tw1158262005158919053|tw5285483715108139727|tw15166998028794977198|tw17693237444781241909|tw14694236689509247954|tw4453940048488069587|tw13976155653622796682|tw14547368535120814700|tw12974355800243846090|tw7245256954307561671|tw17313463122949105946|tw16661752819732778599|tw17484997167419156593|tw2350853536823746878|tw1138864893473542629|tw6212101383808575898|tw4438403702747777730|tw1248653335967316761|tw14664258200550902265|tw2376343173686001315|tw3994894540532046710|tw1017774490094911198|tw18088443520275512005|tw1916397436469226085|tw2310071589693092639|tw267018906738033393|tw2704322019388569466|tw16618731971131769241|tw12455315757871144873|tw4485999167850253076|tw3781025380687863338|tw13217260512771118571|tw16366546713743779632|tw17768627988466836273|tw5961280604666825620|tw6953943553160701245|tw9163023364229664403|tw1903925821360918443|tw6192937396604120046|tw1419700388507088145|tw11206544980605179524|tw2974976983206109894|tw13126047346237828302|tw3946341543063104362|tw17490625238242241332|tw1410693125498573550|tw16280255606103063270|tw6720129638858791954|tw17164963953097878587|tw11988255443021743700|tw15268568205764148496|tw10197258242392614288|tw8273402889726853225|tw3022256924603362693|tw12953001616002141466|tw1819919250101953662|tw15820846904006700326|tw4350408381869983580|tw10821164217834782917|tw18036584507649165913|tw5387965060189595881|tw2422599920112616236|tw13054114545484933090|tw5117689299873888977|tw8323177573777195588|tw117238625876408681|tw12512835586671315576|tw4759721424737659376|tw15634243265009920250|tw14624033907189266871|tw829184434185651566|tw364069636277961542|tw14300930755342340009|tw427490558476544970|tw4320185105974101635|tw9109260230218255560|tw9505495890852437698|tw1264258498265021127|tw7590851861164701230|tw8744345253582850334|tw8854344780257351115|tw10558114066450577436|tw1155905171670107727|tw10356112569655954170|tw14085136601217895843|tw7316336666146671378|tw3000522895768784147|tw9429214342788307966|tw4739822472620306998|tw9896541487239023467|tw5034698861702238406|tw13933434658800054044|tw17279272931985922580|tw10118998346786485314|tw17785159918374562887|tw2468850828880784123|tw6486526624625142511|tw10424803403920572554|tw17342024505830287359|tw2200890207342490675|tw12162741988082574377|tw16012103526207971968|tw3980972085478431689|tw16857381986317899498|tw13157298917706363036|tw1323255457719685383|tw1069683540810747556|tw3551925126074537204|tw4209891038075984887|tw10748138153606449199|tw8172254039162285634|tw15539921313703351428|tw990104192991446038|tw12947667778542605332|tw15564914528225130234|tw17117129465554978662|tw1078326465869285600|tw424146466841641660|tw6923626223481698612|tw11737267688649796899|tw7076958623967561541|tw5950651270728592398|tw16669550151279563680|tw232668548126547715|tw16323343976268830938|tw17358637631980208477|tw8596523733891028152|tw14293253206233250990|tw1136274477345016782|tw15640997255690766300|tw740357417520372192|tw8351640398343375938|tw1698158074282842845|tw16807095569765628104|tw14701302739994135076|tw8633236304277447420|tw11265601806024377750|tw4793750854500098920|tw11881549055171465892|tw8156471789221757062|tw15990105611974324521|tw5010670579669434104|tw2328818511108829168|tw9238970041242241319|tw10953392538651903249|tw3863278080157926228|tw13523239564645194926|tw15806333490506305850|tw3894854850460319918|tw257019674891366830|tw8581100778489033318|tw16964161961814234556|tw16826264791089344545|tw371164101251676890|tw11336353459377339661|tw17117851562149196284|tw17073573058281286292|tw8613543735140126334|tw6334681403443194346|tw12682403738635825427|tw11274935482170666894|tw3142708491316583607|tw2356971309098018281|tw9181695625197863376|tw7646695497050658427|tw16844546880346306352|tw3594551602792239424|tw15020091913056154233|tw15411683902790143015|tw6370687449176757443|tw15369463380814358334|tw14485329824442257423|tw12391421264398564214|tw6410081186747205428|tw16668643288454722272|tw3810179826054465977|tw15113457197209252135|tw11653689730747193870|tw10681617959490258575|tw16622935948908848280|tw8688412596820897967|tw17096195155675994223|tw2399972375119524168|tw17104491938946684646|tw5149608084591453627|tw3885905527221709580|tw3265911528678049637|tw9888726711802627654|tw2653822867268157927|tw10587673561859457935|tw11556989374710704520|tw3140858862541155009|tw14762412525797311493|tw2173573254959398628|tw11637156054219329565|tw3149474819425718881|tw7320249418933847973|tw11789773579503467876|tw15531463743096843533|tw12072889835470611609|tw9383737302623454842|tw5398559329550645307|tw6210954022632736672|tw8242599720494852777|tw1562883498459868726|tw16202327171268485523|tw5491993506093476934|tw6632209490385421514|tw986509097703636191|tw10692809323037983998|tw17602123756936564772|tw11337691982772885975|tw6985909935948825348|tw5312825309405623018|tw18365644301429454095|tw12622424140001355181|tw8209174119666018777|tw1767959081540470841|tw10372375753913092377|tw17710531509466243489|tw5961363912828774507|tw1641873629357761184|tw7116644609444355167|tw240084841732831080|tw2351263869559656576|tw15689473746636673079|tw13440866769174942251|tw4548405475571653347|tw6489258619006710611|tw16014347334109066775|tw8709536928858846920|tw17661782738037408565|tw2987892784287425347|tw4322916074922476294|tw4702749616887307608|tw10353525872493573505|tw9779986236867167965|tw14584017184902447573|tw3672511871951029015|tw15738767076319843633|tw10905748549643834395|tw15170841567211254344|tw3272103812514161070|tw2733186168394717964|tw16769590428368891648|tw13591987892508481152|tw16167114918558064911|tw500908298095409280|tw9609909237784334898|tw2836537976441714957|tw12815915261626828967|tw3516423402858249033|tw1515927409012107817|tw2524807432348075707|tw15985841963873924247|tw945946984911563446|tw7835117001749636092
open PySem PySem.W PyProof.Rows
set_option maxRecDepth 100000 in
set_option maxHeartbeats 0 in
theorem PySem.Challenge.cw_lampway_k18_refusals_apart_holds : PySem.Challenge.rw_lampway_k18_refusals_apart.Holds := by
 w_on;o_law;k_head;(case hw=>w_witness2)
 k_fill
 refine L2.AF (l:=PySem.Challenge.rw_lampway_k18_refusals_apart) (n:=63) (k:=11) (x := "_law_script") (CX:=L2.CX0) (sp:=L2.wM) rfl (by decide) rfl ⟨rfl,by decide,by decide⟩ (fun w h Y=>PySem.W.kIn_of Y) ?F ?S ?C
 case F=>
  intro w mg fa h KX G hmg
  have T:∃ t,My.Txt w (L2.KOf KX) mg t:=by
   dsimp only [L2.KOf]
   refine' ⟨My.Adr.mk,⟨?maa,?Fab,?mac,?Fad,?mae,?Faf,?mag,?Fah,?mai,?Faj,?mak,?Fal,?mam,?Fan,?mao,?Fap,?maq,?Far,?mas,?Fat,?mau,?Fav,?maw,?Fax,?may,?Faz,?mba,?Fbb,?mbc,?Fbd,?mbe,?Fbf,?mbg,?Fbh,?mbi,?Fbj,?mbk,?Fbl,?mbm,?Fbn,?mbo,?Fbp,?mbq,?Fbr,?mbs,?Fbt,?mbu,?Fbv,?mbw,?Fbx,?mby,?Fbz,?mca,?Fcb,?mcc,?Fcd,?mce,?Fcf,?mcg,?Fch,?mci,?Fcj,?mck,?Fcl,?mcm,?Fcn,?mco,?ecp,?Fcq,?mcr,?ecs,?Fct,?mcu,?ecv,?Fcw,?mcx,?ecy,?Fcz,?mda,?edb,?Fdc,?mdd,?ede,?Fdf,?edg,?Fdh,?edi,?Fdj,?edk,?Fdl,?edm,?Fdn,?edo,?Fdp,?edq,?Fdr,?eds,?Fdt,?mdu,?edv,?Fdw,?mdx,?edy,?Fdz,?eea,?Feb,?eec,?Fed,?mee,?eef,?Feg,?eeh,?Fei,?eej,?Fek,?mel,?eem,?Fen,?eeo,?Fep,?eeq,?Fer,?mes,?eet,?Feu,?eev,?Few,?eex,?Fey,?eez,?Ffa,?mfb,?efc,?Ffd,?sfe,?sff,?sfg,?sfh,?sfi,?sfj,?sfk,?sfl,?sfm,?nfn,?nfo,?nfp,?sfq,?nfr,?nfs,?nft,?nfu,?nfv,?nfw,?nfx,?sfy,?sfz,?sga,?sgb,?ngc,?ngd,?nge,?ngf,?ngg,?ngh,?ngi,?sgj,?sgk,?sgl,?sgm,?ngn,?ngo,?ngp,?ngq,?ngr,?ngs,?ngt,?sgu,?sgv,?sgw,?sgx,?ngy,?ngz,?nha,?nhb,?nhc,?nhd,?nhe,?shf,?shg,?shh,?shi,?shj,?nhk,?nhl,?nhm,?shn,?sho,?nhp,?nhq,?nhr,?nhs,?nht,?mhu,?shv,?xhw,?Xhx,?nhy,?nhz,?sia,?rib,?ric,?rid,?rie,?rif,?rig,?rih,?rii,?rij,?rik,?ril,?rim,?rin,?rio,?rip,?xiq,?Xir,?nis,?sit,?riu,?riv,?riw,?rix,?riy,?riz,?rja,?rjb,?rjc,?rjd,?rje,?rjf,?rjg,?rjh,?rji,?xjj,?Xjk,?njl,?sjm,?rjn,?rjo,?rjp,?rjq,?rjr,?rjs,?rjt,?rju,?rjv,?rjw,?rjx,?rjy,?rjz,?rka,?rkb,?xkc,?Xkd,?nke,?nkf,?skg,?rkh,?rki,?rkj,?rkk,?rkl,?rkm,?rkn,?rko,?rkp,?rkq,?rkr,?rks,?rkt,?rku,?rkv,?xkw,?Xkx,?nky,?nkz,?nla,?slb,?rlc,?rld,?rle,?rlf,?rlg,?rlh,?rli,?rlj,?rlk,?rll,?rlm,?rln,?rlo,?rlp,?rlq,?mlr,?mls,?mlt,?dlu,?dlv,?dlw,?dlx,?dly,?dlz,?sma,?mmb,?vmc,?mmd,?vme,?mmf,?vmg,?mmh,?vmi,?mmj,?vmk,?mml,?vmm,?mmn,?vmo,?mmp,?vmq,?mmr,?vms,?mmt,?vmu,?bmv,?bmw,?bmx,?bmy,?bmz,?bna,?bnb,?bnc,?bnd,?bne,?bnf,?bng,?bnh,?bni,?lnj⟩⟩
   case maa | mac | mae | mag | mai | mak | mam | mao | maq | mas | mau | maw | may | mba | mbc | mbe | mbg | mbi | mbk | mbm | mbo | mbq | mbs | mbu | mbw | mby | mca | mcc | mce | mcg | mci | mck | mcm | mco | mcr | mcu | mcx | mda | mdd | mdu | mdx | mee | mel | mes | mfb | mhu | mlr | mls | mlt | mmb | mmd | mmf | mmh | mmj | mml | mmn | mmp | mmr | mmt=>(try dsimp only);refine' PySem.W.mg_of KX G ?z;case z=>k_is
   case ecp | ecs | ecv | ecy | edb | ede | edg | edi | edk | edm | edo | edq | eds | edv | edy | eea | eec | eef | eeh | eej | eem | eeo | eeq | eet | eev | eex | eez | efc=>(try dsimp only);k_is
   case sfe | sff | sfg | sfh | sfi | sfj | sfk | sfl | sfm | sfq | sfy | sfz | sga | sgb | sgj | sgk | sgl | sgm | sgu | sgv | sgw | sgx | shf | shg | shh | shi | shj | shn | sho | shv | sia | sit | sjm | skg | slb | sma=>(try dsimp only);constructor <;> k_is
   case Fab | Fad | Faf | Fah | Faj | Fal | Fan | Fap | Far | Fat | Fav | Fax | Faz | Fbb | Fbd | Fbf | Fbh | Fbj | Fbl | Fbn | Fbp | Fbr | Fbt | Fbv | Fbx | Fbz | Fcb | Fcd | Fcf | Fch | Fcj | Fcl | Fcn | Fcq | Fct | Fcw | Fcz | Fdc | Fdf | Fdh | Fdj | Fdl | Fdn | Fdp | Fdr | Fdt | Fdw | Fdz | Feb | Fed | Feg | Fei | Fek | Fen | Fep | Fer | Feu | Few | Fey | Ffa | Ffd=>(try dsimp only);refine' L2.QM ?x ?y ?z;(case x=>k_is);(case y=>k_is);(case z=>k_is)
   case nfn | nfo | nfp | nfr | nfs | nft | nfu | nfv | nfw | nfx | ngc | ngd | nge | ngf | ngg | ngh | ngi | ngn | ngo | ngp | ngq | ngr | ngs | ngt | ngy | ngz | nha | nhb | nhc | nhd | nhe | nhk | nhl | nhm | nhp | nhq | nhr | nhs | nht | nhy | nhz | nis | njl | nke | nkf | nky | nkz | nla=>(try dsimp only);unfold L2.Cb;k_is
   case rib | ric | rid | rie | rif | rig | rih | rii | rij | rik | ril | rim | rin | rio | rip | riu | riv | riw | rix | riy | riz | rja | rjb | rjc | rjd | rje | rjf | rjg | rjh | rji | rjn | rjo | rjp | rjq | rjr | rjs | rjt | rju | rjv | rjw | rjx | rjy | rjz | rka | rkb | rkh | rki | rkj | rkk | rkl | rkm | rkn | rko | rkp | rkq | rkr | rks | rkt | rku | rkv | rlc | rld | rle | rlf | rlg | rlh | rli | rlj | rlk | rll | rlm | rln | rlo | rlp | rlq=>(try dsimp only);kernel_rfl
   case xhw | xiq | xjj | xkc | xkw=>(try dsimp only);refine' ⟨?_,by kernel_rfl,?_,?_,?_⟩ <;> k_is
   case Xhx | Xir | Xjk | Xkd | Xkx=>(try dsimp only);refine' L2.eL ?x (by kernel_rfl) ?y;(case x=>k_is);(case y=>k_is)
   case dlu | dlv | dlw | dlx | dly | dlz=>(try dsimp only);decide
   case vmc | vme | vmg | vmi | vmk | vmm | vmo | vmq | vms | vmu=>(try dsimp only);exact ⟨_,rfl⟩
   case bmv | bmw | bmx | bmy | bmz | bna | bnb | bnc | bnd | bne | bnf | bng | bnh | bni=>(try dsimp only);refine' PySem.W.mg_none_of KX G ?z;case z=>k_is
   case lnj=>(try dsimp only);exact fun _ _=>.of_eq rfl
  obtain ⟨t,T⟩:=T
  have e0:=hmg.symm.trans T.YN
  cases e0
  exact ⟨t.NF,T.WM,fun base kb nb=>My.iM T⟩
 case S=>exact fun K H a ns hl hO hS=>⟨a,ns,rfl,L2.Sc.of_only hO hS,hl,fun _=>rfl⟩
 case C=>exact fun _ _ _ _ z=>z
