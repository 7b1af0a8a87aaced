import PyProof.Rows.All
import Wide.All
import OpenK.AllK
import Wide.FinOn
import Lean
import PyProof.EqAt
import PyProof.EqKinds
import PyProof.TupleCall
import KE.KTryMore
import PyProof.NsDelKeeps
import PySem.Challenge.RW_lampway_k16_colours_shown
set_option Elab.async false
set_option linter.all false
set_option maxRecDepth 100000
namespace L2
open PySem PySem.Spec PyProof.Rows
noncomputable abbrev Key:=Sum Int Str
noncomputable def Qy:Key→Value→Bool
 | .inl k,v=>Value.isInt k v
 | .inr x,v=>Value.isStrOf x v
noncomputable def rP (w:World):Key→Int
 | .inl k=>hashInt k
 | .inr x=>hashStr w x
theorem Md:∀ {k:Key} {v:Value},Qy k v=true→(∃ i t,k=Sum.inl i∧v=Value.int i t)∨(∃ x t,k=Sum.inr x∧v=Value.str x t)
 | .inl i,v,h=>by
  obtain ⟨t,e⟩:=Value.isInt_shape (k:=i) (v:=v) h
  exact .inl ⟨i,t,rfl,e⟩
 | .inr x,v,h=>by
  obtain ⟨t,e⟩:=Value.isStrOf_shape (x:=x) (v:=v) h
  exact .inr ⟨x,t,rfl,e⟩
theorem sD (i:Int) (t:Tok):Qy (.inl i) (.int i t)=true:=by simp [Qy,Value.isInt]
theorem oA (x:Str) (t:Tok):Qy (.inr x) (.str x t)=true:=by simp [Qy,Value.isStrOf]
theorem DK (a b:Int):decide ((Sum.inl a:Key)=Sum.inl b)=(a == b):=by
 by_cases e:a=b
 ·subst e;simp
 ·have h:¬ (Sum.inl a:Key)=Sum.inl b:=fun q=>e (Sum.inl.inj q)
  rw [decide_eq_false h]
  exact (beq_eq_false_iff_ne.mpr e).symm
theorem HK (a b:Str):decide ((Sum.inr a:Key)=Sum.inr b)=decide (a=b):=by
 by_cases e:a=b
 ·subst e;simp
 ·have h:¬ (Sum.inr a:Key)=Sum.inr b:=fun q=>e (Sum.inr.inj q)
  rw [decide_eq_false h,decide_eq_false e]
theorem MK (a:Int) (b:Str):decide ((Sum.inl a:Key)=Sum.inr b)=false:=decide_eq_false (fun q=>nomatch q)
theorem lL (a:Str) (b:Int):decide ((Sum.inr a:Key)=Sum.inl b)=false:=decide_eq_false (fun q=>nomatch q)
noncomputable def Wd (prog:Program) (w:World):PySem.KeyKind prog w Key where
 is:=Qy
 hash:=rP w
 inj:=fun v a b ha hb=>by
  rcases Md ha with ⟨i,t,rfl,rfl⟩ | ⟨x,t,rfl,rfl⟩
  ·rcases Md hb with ⟨j,u,rfl,e⟩ | ⟨y,u,rfl,e⟩
   ·injection e with e1 _;rw [e1]
   ·exact nomatch e
  ·rcases Md hb with ⟨j,u,rfl,e⟩ | ⟨y,u,rfl,e⟩
   ·exact nomatch e
   ·injection e with e1 _;rw [e1]
 byValue:=fun k v h=>by
  rcases Md h with ⟨i,t,rfl,rfl⟩ | ⟨x,t,rfl,rfl⟩ <;> rfl
 pyHash:=fun hv h=>by
  rcases Md hv with ⟨i,t,rfl,rfl⟩ | ⟨x,t,rfl,rfl⟩
  ·exact wpAny_pyHash_int h
  ·exact wpAny_pyHash_str h
 eqBool:=fun hu hv h=>by
  rcases Md hu with ⟨i,t,rfl,rfl⟩ | ⟨x,t,rfl,rfl⟩
  ·rcases Md hv with ⟨j,u,rfl,rfl⟩ | ⟨y,u,rfl,rfl⟩
   ·rw [DK] at h;exact wpAny_eqBool_int h
   ·rw [MK] at h;exact SeqAt.EqAt.int_str i t y u _ _ _ _ h
  ·rcases Md hv with ⟨j,u,rfl,rfl⟩ | ⟨y,u,rfl,rfl⟩
   ·rw [lL] at h;exact SeqAt.EqAt.str_int x t j u _ _ _ _ h
   ·rw [HK] at h;exact wpAny_eqBool_str h
 «strs»:=fun k x t v h=>by
  rcases Md h with ⟨i,u,rfl,e⟩ | ⟨y,u,rfl,e⟩
  ·exact nomatch e
  ·injection e with e1 _
   subst e1
   cases v <;> rfl
theorem uw (prog:Program) (w:World) (i:Int) (t:Tok):(Wd prog w).is (.inl i) (.int i t)=true:=sD i t
theorem Gw (prog:Program) (w:World) (x:Str) (t:Tok):(Wd prog w).is (.inr x) (.str x t)=true:=oA x t
end L2
namespace L2
open PySem PySem.Spec PyProof.Rows
inductive V where
 | non | bl (b:Bool) | int (i:Int) | str (x:Str) | byt (b:Array UInt8) | flt (b:UInt64) | ref (a:Addr) | ty (n:String)
 deriving DecidableEq
noncomputable def yd:V→Value→Prop
 | .non,u=>u=Value.none
 | .bl b,u=>u=Value.bool b
 | .int i,u=>∃ t,u=Value.int i t
 | .str x,u=>∃ t,u=Value.str x t
 | .byt b,u=>∃ t,u=Value.bytes b t
 | .flt b,u=>∃ t,u=Value.float b t
 | .ref a,u=>u=Value.ref a
 | .ty n,u=>u=Value.type n
noncomputable abbrev Wc:List V→List Value→Prop:=Paired yd
theorem Wc.length {xs:List V} {us:List Value} (r:Wc xs us):xs.length=us.length:=Paired.length r
theorem Wc.get:∀ {xs:List V} {us:List Value} {i:Nat} {x:V},Wc xs us→xs[i]? = some x→∃ u,us[i]? = some u∧yd x u
 | _,_,_,_,.nil,e=>by simp at e
 | _,_,0,_,.cons r _,e=>by simp at e;subst e;exact ⟨_,rfl,r⟩
 | _,_,i + 1,x,.cons _ t,e=>by
  obtain ⟨u,h1,h2⟩:=Wc.get (i:=i) (x:=x) t (by simpa using e)
  exact ⟨u,by simpa using h1,h2⟩
theorem Wc.set {x:V} {u:Value} (r:yd x u):∀ {xs:List V} {us:List Value} (i:Nat),Wc xs us→Wc (xs.set i x) (us.set i u)
 | _,_,_,.nil=>.nil
 | _,_,0,.cons _ t=>.cons r t
 | _,_,i + 1,.cons q t=>.cons q (Wc.set r i t)
theorem Wc.append:∀ {xs ys:List V} {us ws:List Value},Wc xs us→Wc ys ws→Wc (xs ++ ys) (us ++ ws)
 | _,_,_,_,.nil,s=>s
 | _,_,_,_,.cons r t,s=>.cons r (Wc.append t s)
theorem Wc.take:∀ {xs:List V} {us:List Value} (n:Nat),Wc xs us→Wc (xs.take n) (us.take n)
 | _,_,0,_=>.nil
 | _,_,_ + 1,.nil=>.nil
 | _,_,n + 1,.cons r t=>.cons r (Wc.take n t)
theorem Wc.drop:∀ {xs:List V} {us:List Value} (n:Nat),Wc xs us→Wc (xs.drop n) (us.drop n)
 | _,_,0,r=>r
 | _,_,_ + 1,.nil=>.nil
 | _,_,n + 1,.cons _ t=>Wc.drop n t
theorem Wc.none_of:∀ {xs:List V} {us:List Value} {i:Nat},Wc xs us→xs[i]? = none→us[i]? = none:=fun {xs us i} r e=>by
 have h1:=r.length
 have h2:xs.length ≤ i:=List.getElem?_eq_none_iff.mp e
 exact List.getElem?_eq_none_iff.mpr (by omega)
noncomputable def yq:Option V→Option Value→Prop
 | some v,some u=>yd v u
 | none,none=>True
 | _,_=>False
noncomputable def KV {κ:Type}:List (κ × V)→List (κ × Value)→Prop:=Paired fun (p:κ × V) (q:κ × Value)=>p.1=q.1∧yd p.2 q.2
noncomputable def kV:Key→V
 | .inl i=>.int i
 | .inr x=>.str x
inductive HO where
  | lst (xs:List V)
  | tup (xs:List V)
  | dK (kvs:List (Key × V)) | dT (kvs:List (List Key × V))
  | set (S:Int→Bool) (n:Nat)
  | ins (C dx:Addr) (fs:List (Str × V))
  | own (x:Addr)
  | xd (fs:List (Str × V))
  | met (f x:Addr)
  | rng (lo hi:Int)
  | frz (o:Obj) (u:HO)
  | tbl (ps:Array Value)
  | ext (φ:Heap→Prop)
noncomputable abbrev Hp:=Addr→Option HO
noncomputable def upd (H:Hp) (a:Addr) (o:HO):Hp:=fun b=>if b=a then some o else H b
theorem cb {H:Hp} {a:Addr} {o:HO}:upd H a o a=some o:=by unfold upd;rw [if_pos rfl]
theorem lb {H:Hp} {a b:Addr} {o:HO} (h:b ≠ a):upd H a o b=H b:=by unfold upd;rw [if_neg h]
theorem Cj {H:Hp} {a:Addr} {o u:HO}:upd (upd H a o) a u=upd H a u:=by
 funext b;unfold upd;split <;> rfl
theorem Me {H:Hp} {a b:Addr} {o u:HO} (h:H a=some o) (h':H b=some u) (d:o ≠ u):a ≠ b:=by
 intro e;subst e;rw [h] at h';exact d (Option.some.inj h')
theorem qb {H:Hp} {a b:Addr} {o:HO} (h:H a=some o) (h':H b=none):a ≠ b:=by
 intro e;subst e;rw [h] at h';cases h'
section
variable (P:Program) (w:World)
noncomputable def kd (H:Hp) (h:Heap) (a:Addr):HO→Prop
 | .lst xs=>xs.length ≤ sizeLine∧∃ (its:List Value) (n:Nat),Wc xs its∧h.get? a=some { cls:=.type "list",data:=.seq its.toArray n }
 | .tup xs=>xs.length ≤ sizeLine∧∃ its:List Value,Wc xs its∧IsTup h a its.toArray
 | .dK kvs=>kvs.length ≤ sizeLine∧(a == sysModules)=false∧∃ vs,KV kvs vs∧h.DictOf (Wd P w) a vs
 | .dT kvs=>kvs.length ≤ sizeLine∧(a == sysModules)=false∧∃ xs:List (List Key × Addr × Value),
   Paired (fun (p:List Key × V) (q:List Key × Addr × Value)=>p.1=q.1∧H q.2.1=some (.tup (p.1.map kV))∧yd p.2 q.2.2) kvs xs ∧
   ∃ o es ep,h.get? a=some o∧o.ExactDict∧o.data=.dict es ep∧es.toList=xs.map (entryOfKey (tupleKind (Wd P w)))∧(xs.map (·.1)).Nodup
 | .set S n=>h.SetOf (intKind P w) a S n
 | .ins C dx fs=>H dx=some (.own a)∧fs.length ≤ 1000∧dx ≠ a∧h.get? a=some (PySem.W.instObj C dx) ∧
   ∃ mA,h.Ns1 dx mA∧(∀ f,yq (fs.lookup f) (mA f))∧PySem.Within mA (fs.map (·.1))
 | .own _=>∃ o,h.get? a=some o
 | .xd fs=>∃ mA,h.Ns1 a mA∧∀ f,yq (fs.lookup f) (mA f)
 | .rng lo hi=>∃ t u v,h.get? a=some { cls:=.type "range",data:=.fields #[.int lo t,.int hi u,.int 1 v] }
 | .frz o u=>h.get? a=some o∧kd H h a u
 | .tbl ps=>h.get? a=some { cls:=.none,data:=.fields ps }
 | .met f x=>h.get? a=some (PySem.W.methodObj (.ref f) (.ref x))
 | .ext φ=>φ h∧(∃ o,h.get? a=some o)∧∀ h1 h2:Heap,φ h1→(∀ o,h1.get? a=some o→h2.get? a=some o)→φ h2
noncomputable def HOk (H:Hp) (h:Heap):Prop:=∀ a o,H a=some o→kd P w H h a o
end
section
variable {P:Program} {w:World} {H H':Hp} {h h':Heap} {a:Addr} {o:HO}
theorem kd.lt (x:kd P w H h a o):a < h.objs.size:=by
 cases o with
 | lst xs=>obtain ⟨_,_,_,_,e⟩:=x;exact Heap.lt_size e
 | tup xs=>obtain ⟨_,_,_,p⟩:=x;exact p.lt
 | dK kvs=>obtain ⟨_,_,_,_,o,_,_,e,_⟩:=x;exact Heap.lt_size e
 | dT kvs=>obtain ⟨_,_,_,_,o,_,_,e,_⟩:=x;exact Heap.lt_size e
 | set S n=>obtain ⟨o,_,_,_,e,_⟩:=x;exact Heap.lt_size e
 | ins C dx fs=>obtain ⟨_,_,_,e,_⟩:=x;exact Heap.lt_size e
 | own y=>obtain ⟨_,e⟩:=x;exact Heap.lt_size e
 | xd fs=>obtain ⟨_,⟨_,_,_,e,_⟩,_⟩:=x;exact Heap.lt_size e
 | rng lo hi=>obtain ⟨_,_,_,e⟩:=x;exact Heap.lt_size e
 | frz ob u=>obtain ⟨e,_⟩:=x;exact Heap.lt_size e
 | tbl ps=>exact Heap.lt_size (show h.get? a=some _ from x)
 | met f y=>exact Heap.lt_size (show h.get? a=some _ from x)
 | ext φ=>obtain ⟨_,⟨_,e⟩,_⟩:=x;exact Heap.lt_size e
theorem Paired.mapP {α β:Type} {F G:α→β→Prop}:∀ {l₁:List α} {l₂:List β},Paired F l₁ l₂→(∀ a b,F a b→G a b)→Paired G l₁ l₂
 | _,_,.nil,_=>.nil
 | _,_,.cons r t,f=>.cons (f _ _ r) (Paired.mapP t f)
theorem kd.stay (x:kd P w H h a o) (k:∀ b u,(b=a∨H b=some (.own a))→h.get? b=some u→h'.get? b=some u)
  (ho:∀ b,H b=some (.own a)→H' b=some (.own a)) (ht:∀ b xs,H b=some (.tup xs)→H' b=some (.tup xs)):kd P w H' h' a o:=by
 induction o with
 | lst xs=>obtain ⟨z,its,n,r,e⟩:=x;exact ⟨z,its,n,r,k _ _ (.inl rfl) e⟩
 | tup xs=>obtain ⟨z,its,r,ob,e,c⟩:=x;exact ⟨z,its,r,ob,k _ _ (.inl rfl) e,c⟩
 | dK kvs=>obtain ⟨z,y,vs,r,ob,es,ep,e,c⟩:=x;exact ⟨z,y,vs,r,ob,es,ep,k _ _ (.inl rfl) e,c⟩
 | dT kvs=>
  obtain ⟨z,y,xs,r,ob,es,ep,e,c⟩:=x
  exact ⟨z,y,xs,Paired.mapP r fun p q z=>⟨z.1,ht _ _ z.2.1,z.2.2⟩,ob,es,ep,k _ _ (.inl rfl) e,c⟩
 | set S n=>obtain ⟨ob,es,ep,t,e,c⟩:=x;exact ⟨ob,es,ep,t,k _ _ (.inl rfl) e,c⟩
 | ins C dx fs=>
  obtain ⟨d,z,ne,e,mA,⟨od,es,ep,e2,c⟩,r⟩:=x
  exact ⟨ho _ d,z,ne,k _ _ (.inl rfl) e,mA,⟨od,es,ep,k _ _ (.inr d) e2,c⟩,r⟩
 | own y=>obtain ⟨ob,e⟩:=x;exact ⟨ob,k _ _ (.inl rfl) e⟩
 | xd fs=>obtain ⟨mA,⟨od,es,ep,e,c⟩,r⟩:=x;exact ⟨mA,⟨od,es,ep,k _ _ (.inl rfl) e,c⟩,r⟩
 | rng lo hi=>obtain ⟨t,u,v,e⟩:=x;exact ⟨t,u,v,k _ _ (.inl rfl) e⟩
 | frz ob u ih=>obtain ⟨e,q⟩:=x;exact ⟨k _ _ (.inl rfl) e,ih q⟩
 | tbl ps=>
  have e:h.get? a=some { cls:=.none,data:=.fields ps }:=x
  show h'.get? a=some { cls:=.none,data:=.fields ps }
  exact k a _ (.inl rfl) e
 | met f y=>
  have e:h.get? a=some (PySem.W.methodObj (.ref f) (.ref y)):=x
  show h'.get? a=some (PySem.W.methodObj (.ref f) (.ref y))
  exact k a _ (.inl rfl) e
 | ext φ=>obtain ⟨p,⟨o,e⟩,st⟩:=x;exact ⟨st _ _ p fun o q=>k _ _ (.inl rfl) q,⟨o,k _ _ (.inl rfl) e⟩,st⟩
theorem HOk.lt (x:HOk P w H h) (e:H a=some o):a < h.objs.size:=(x a o e).lt
theorem HOk.fresh (x:HOk P w H h) (e:h.objs.size ≤ a):H a=none:=by
 cases q:H a with
 | none=>rfl
 | some u=>exact absurd (Nat.lt_of_lt_of_le (x.lt q) e) (Nat.lt_irrefl _)
theorem HOk.kept (x:HOk P w H h) (k:∀ b u,h.get? b=some u→h'.get? b=some u):HOk P w H h':=fun a o e=>
 (x a o e).stay (fun b u _ q=>k b u q) (fun _ q=>q) fun _ _ q=>q
theorem HOk.laid (x:HOk P w H h) (k:∀ b u,h.get? b=some u→h'.get? b=some u) (hp:h.objs.size ≤ a) (new:kd P w (upd H a o) h' a o):HOk P w (upd H a o) h':=fun b u e=>by
 have hn:=x.fresh hp
 by_cases hb:b=a
 ·subst hb;rw [cb] at e;cases e;exact new
 ·rw [lb hb] at e
  exact (x b u e).stay (fun c v _ q=>k c v q) (fun c q=>by rw [lb (qb q hn)];exact q) fun c xs q=>by rw [lb (qb q hn)];exact q
end
noncomputable def Rd (H:Hp) (a:Addr) (u:HO):Prop:=H a=some u∨∃ o,H a=some (.frz o u)
theorem Rd.of {H:Hp} {a:Addr} {u:HO} (h:H a=some u):Rd H a u:=.inl h
theorem Rd.ok {P:Program} {w:World} {H:Hp} {h:Heap} {a:Addr} {u:HO} (r:Rd H a u) (x:HOk P w H h):kd P w H h a u:=by
 rcases r with r | ⟨o,r⟩
 ·exact x a u r
 ·obtain ⟨_,q⟩:=x a _ r
  exact q
noncomputable def Mut:Option HO→Prop
 | some (.lst _)=>True
 | some (.dK _)=>True
 | some (.dT _)=>True
 | some (.set _ _)=>True
 | some (.ins _ _ _)=>True
 | some (.ext _)=>True
 | _=>False
section
variable {P:Program} {w:World} {H:Hp} {h h':Heap} {x e:Addr} {o':HO}
theorem HOk.write (ok:HOk P w H h) (mu:Mut (H x)) (he:e=x∨H e=some (.own x)) (k:∀ b u,b ≠ e→h.get? b=some u→h'.get? b=some u) (heo:∃ u,h'.get? e=some u)
  (new:kd P w (upd H x o') h' x o'):HOk P w (upd H x o') h':=fun b u q=>by
 have nown:∀ c y,H c=some (.own y)→c ≠ x:=fun c y r z=>by subst z;rw [r] at mu;exact mu
 have ntup:∀ c xs,H c=some (.tup xs)→c ≠ x:=fun c xs r z=>by subst z;rw [r] at mu;exact mu
 by_cases hb:b=x
 ·subst hb;rw [cb] at q;cases q;exact new
 ·rw [lb hb] at q
  by_cases hbe:b=e
  ·have q':H b=some (.own x):=by
    rcases he with z | z
    ·exact absurd (hbe.trans z) hb
    ·rw [hbe];exact z
   rw [q] at q';cases q'
   obtain ⟨v,hv⟩:=heo
   exact ⟨v,by rw [hbe];exact hv⟩
  ·refine (ok b u q).stay (fun c v hc r=>k c v ?_ r) (fun c r=>by rw [lb (nown c b r)];exact r) fun c xs r=>by rw [lb (ntup c xs r)];exact r
   rcases hc with rfl | hc
   ·exact hbe
   ·rintro rfl
    rcases he with z | z
    ·exact nown c b hc z
    ·rw [hc] at z;cases z;exact hb rfl
end
structure Un (fs ex:List Addr) (H H':Hp) (h h':Heap):Prop where
 keep:∀ b o,h.get? b=some o→H b=none→b ∉ fs→b ∉ ex→h'.get? b=some o
 slot:∀ b o,h.get? b=some o→H b=none→b ∈ fs→b ∉ ex→∃ sl,h'.get? b=some { o with slots:=sl }
 free:∀ b o,h.get? b=some o→H b=none→b ∉ ex→H' b=none
 there:∀ b o,h.get? b=some o→b ∉ ex→∃ o',h'.get? b=some o'
 tups:∀ b xs,H b=some (.tup xs)→H' b=some (.tup xs)
 frzs:∀ b o u,H b=some (.frz o u)→H' b=some (.frz o u)
 tbls:∀ b ps,H b=some (.tbl ps)→∃ more,H' b=some (.tbl (ps ++ more))
section
variable {fs fs' ex ex':List Addr} {H H1 H2:Hp} {h h1 h2 h':Heap} {a x e:Addr} {o:HO}
theorem Un.any (u:Un fs ex H H1 h h1) {b:Addr} {ob:Obj} (q:h.get? b=some ob) (n:H b=none) (hx:b ∉ ex):∃ sl,h1.get? b=some { ob with slots:=sl }:=by
 by_cases hb:b ∈ fs
 ·exact u.slot b ob q n hb hx
 ·exact ⟨ob.slots,u.keep b ob q n hb hx⟩
theorem Un.trans (a:Un fs ex H H1 h h1) (b:Un fs ex H1 H2 h1 h2):Un fs ex H H2 h h2 where
 keep:=fun c ob q n hc hx=>b.keep c ob (a.keep c ob q n hc hx) (a.free c ob q n hx) hc hx
 slot:=fun c ob q n hc hx=>by
  obtain ⟨sl,e1⟩:=a.slot c ob q n hc hx
  obtain ⟨sl',e2⟩:=b.slot c _ e1 (a.free c ob q n hx) hc hx
  exact ⟨sl',e2⟩
 free:=fun c ob q n hx=>by
  obtain ⟨o',e1⟩:=a.there c ob q hx
  exact b.free c o' e1 (a.free c ob q n hx) hx
 there:=fun c ob q hx=>by
  obtain ⟨o',e1⟩:=a.there c ob q hx
  exact b.there c o' e1 hx
 tups:=fun c xs q=>b.tups c xs (a.tups c xs q)
 frzs:=fun c ob xs q=>b.frzs c ob xs (a.frzs c ob xs q)
 tbls:=fun c ps q=>by
  obtain ⟨m1,e1⟩:=a.tbls c ps q
  obtain ⟨m2,e2⟩:=b.tbls c _ e1
  exact ⟨m1 ++ m2,by rw [e2,Array.append_assoc]⟩
theorem Un.kept (k:∀ b u,h.get? b=some u→h'.get? b=some u):Un fs ex H H h h':=
 ⟨fun b ob q _ _ _=>k b ob q,fun b ob q _ _ _=>⟨ob.slots,k b ob q⟩,fun _ _ _ n _=>n,fun b ob q _=>⟨ob,k b ob q⟩,fun _ _ q=>q,fun _ _ _ q=>q,fun _ ps q=>⟨#[],by rw [q];simp⟩⟩
theorem Un.refl:Un fs ex H H h h:=Un.kept fun _ _ q=>q
theorem Un.laid (k:∀ b u,h.get? b=some u→h'.get? b=some u) (hp:h.objs.size ≤ a) (hn:H a=none):Un fs ex H (upd H a o) h h' where
 keep:=fun b u q _ _ _=>k b u q
 slot:=fun b u q _ _ _=>⟨u.slots,k b u q⟩
 free:=fun b u q n _=>by rw [lb (Nat.ne_of_lt (Nat.lt_of_lt_of_le (Heap.lt_size q) hp))];exact n
 there:=fun b u q _=>⟨u,k b u q⟩
 tups:=fun b xs q=>by rw [lb (qb q hn)];exact q
 frzs:=fun b u xs q=>by rw [lb (qb q hn)];exact q
 tbls:=fun b ps q=>⟨#[],by rw [lb (qb q hn),q];simp⟩
theorem Un.write (mu:Mut (H x)) (he:e=x∨H e=some (.own x)) (k:∀ b u,b ≠ e→h.get? b=some u→h'.get? b=some u) (heo:∃ u,h'.get? e=some u):Un fs ex H (upd H x o) h h':=by
 have hx:∀ b,H b=none→b ≠ x:=fun b n z=>by subst z;rw [n] at mu;exact mu
 have hb:∀ b,H b=none→b ≠ e:=fun b n z=>by
  subst z
  rcases he with r | r
  ·exact hx b n r
  ·rw [n] at r;cases r
 have hm:∀ b u,H b=some u→¬ Mut (some u)→b ≠ x:=fun b u q nm z=>by subst z;rw [q] at mu;exact nm mu
 refine ⟨fun b u q n _ _=>k b u (hb b n) q,fun b u q n _ _=>⟨u.slots,k b u (hb b n) q⟩,fun b u q n _=>by rw [lb (hx b n)];exact n,fun b u q _=>?_,
  fun b xs q=>by rw [lb (hm b _ q fun z=>z)];exact q,fun b u xs q=>by rw [lb (hm b _ q fun z=>z)];exact q,fun b ps q=>⟨#[],by rw [lb (hm b _ q fun z=>z),q];simp⟩⟩
 by_cases hbe:b=e
 ·subst hbe;exact heo
 ·exact ⟨u,k b u hbe q⟩
theorem Un.mono (u:Un fs ex H H1 h h1) (hs:∀ b ∈ fs,b ∈ fs') (hx:∀ b ∈ ex,b ∈ ex'):Un fs' ex' H H1 h h1:=
 ⟨fun b ob q n hb he=>u.keep b ob q n (fun z=>hb (hs b z)) fun z=>he (hx b z),fun _ _ q n _ he=>u.any q n fun z=>he (hx _ z),fun b ob q n he=>u.free b ob q n fun z=>he (hx b z),fun b ob q he=>u.there b ob q fun z=>he (hx b z),u.tups,u.frzs,u.tbls⟩
end
noncomputable def trk (h:Heap) (H:Hp):List Addr:=(List.range h.objs.size).filter fun a=>(H a).isSome
noncomputable def UF (h:Heap) (H:Hp):Heap:=PySem.W.hideAll h (trk h H)
theorem oB (h:Heap) (H:Hp):(UF h H).objs.size=h.objs.size:=PySem.W.hideAll_size _ _
theorem GE {h:Heap} {H:Hp} {b:Addr} {o:Obj} (e:h.get? b=some o) (n:H b=none):(UF h H).get? b=some o:=
 PySem.W.hideAll_get _ e fun hm=>by
  have q:(H b).isSome=true:=(List.mem_filter.mp hm).2
  rw [n] at q;simp at q
theorem GJ {h:Heap} {H:Hp} {b:Addr} {o:Obj} (e:(UF h H).get? b=some o):h.get? b=some o∧H b=none:=by
 have e':h.get? b=some o:=PySem.W.of_hideAll (trk h H) e
 refine ⟨e',?_⟩
 cases q:H b with
 | none=>rfl
 | some x=>
  have hm:b ∈ trk h H:=List.mem_filter.mpr ⟨List.mem_range.mpr (Heap.lt_size e'),by simp [q]⟩
  have z:(UF h H).get? b=none:=PySem.W.hideAll_none (trk h H) hm
  rw [z] at e;cases e
noncomputable def aJ (g h:Heap) (L:Addr):List (Addr × Obj):=(List.range h.objs.size).filterMap fun a=>if a=L∨(g.get? a).isSome=true then none else (h.get? a).map fun o=>(a,o)
noncomputable def rest (g h:Heap) (L d:Addr):List (Addr × Obj):=(aJ g h L).filter fun p=>decide (p.1 ≠ d)
end L2
namespace L2
open PySem PySem.Spec PyProof.Rows
structure Mod (K:PySem.W.Frag) (mg:Str→Option Value) (base:Heap):Prop where
 kin:K.In base
 glob:base.Ns mainGlobals mg
 blt:∃ mb,base.Ns builtinsNs mb∧∀ x:Str,x ≠ "__name__" → mb x=bootBuiltins x
 nolimit:base.NoLimit
structure Cx where
 prog:Program
 w:World
 K:PySem.W.Frag
 mg:Str→Option Value
 base:Heap
 A:Around
 N:List Str
 s₀:Shared
 H₀:Hp
 env:Env
 outer:List Env
 stack:List Env
 ex:List Addr
 fn:Str→Bool
 calm:Bool
 pn:List (Addr × Obj)
 xe:Value→Shared→Prop
noncomputable def frs (l:List Env):List Addr:=l.filterMap (·.frame)
noncomputable abbrev Cx.fs (X:Cx):List Addr:=frs X.outer
noncomputable def Vis (sc:Scope) (x:Str):Prop:=sc.names.lookup x=some .local∨sc.names.lookup x=some .cell∨sc.names.lookup x=some .free
noncomputable def Loc (sc:Scope) (x:Str):Prop:=sc.names.lookup x=some .local∨sc.names.lookup x=some .cell
noncomputable def qP (env:Env) (h:Heap) (m:Str→Option Value) (x:Str) (u:Value):Prop:=
 (env.kindOf x=some .local∧m x=some u)∨((env.kindOf x=some .cell∨env.kindOf x=some .free)∧∃ c,env.cells.lookup x=some c∧h.IsCell c (some u))
structure Cx.Ok (X:Cx):Prop where
 mod:Mod X.K X.mg X.base
 kind:X.env.scope.kind=.function
 glob:X.env.globals=mainGlobals
 blt:X.env.builtins=builtinsNs
 above:X.s₀.heap.objs.size ≤ X.env.locals
 inj:∀ x y c,X.env.cells.lookup x=some c→X.env.cells.lookup y=some c→x=y
 has:∀ x,(X.env.kindOf x=some .cell∨X.env.kindOf x=some .free)→∃ c,X.env.cells.lookup x=some c
 cab:∀ x c,X.fn x=true→X.env.cells.lookup x=some c→X.s₀.heap.objs.size ≤ c
 hd:X.calm=true→X.A.handled=none
 frames:X.A.frames=some X.stack
 stk:X.stack=X.outer∨(X.stack=X.env :: X.outer∧X.env.frame=some X.env.locals)
 exf:∀ b ∈ X.ex,b ≠ X.env.locals∧∀ x c,X.env.cells.lookup x=some c→c ≠ b
 bs:∀ b o,X.base.get? b=some o→X.s₀.heap.get? b=some o∧X.H₀ b=none
 bsz:X.base.objs.size ≤ X.s₀.heap.objs.size
 noex:∀ b o,X.base.get? b=some o→b ∉ X.ex
 exfs:∀ b ∈ X.ex,b ∉ X.fs
 funs:X.s₀.heap.FunFrames X.base X.outer
 frf:∀ b ∈ X.fs,X.H₀ b=none
structure Inv (X:Cx) (pins:List (Addr × Obj)) (σ:List (Option V)) (H:Hp) (s:Shared):Prop where
 ok:X.Ok
 os:s.os=X.s₀.os
 bare:AllBare s.gens
 base:Un X.fs X.ex X.H₀ H X.s₀.heap s.heap
 loc:∃ m,s.heap.Ns X.env.locals m∧∀ (i:Nat) (x:Str) (v:V),X.N[i]? = some x→σ[i]? = some (some v)→Vis X.env.scope x→∃ u,yd v u∧qP X.env s.heap m x u
 cell:∀ x c,X.env.cells.lookup x=some c→∃ v,s.heap.IsCell c v
 free:H X.env.locals=none
 freeC:∀ x c,X.env.cells.lookup x=some c→H c=none
 pin:∀ p ∈ X.pn ++ pins,s.heap.get? p.1=some p.2∧H p.1=none∧p.1 ≠ X.env.locals∧p.1 ∉ X.fs∧∀ v,p.2.data ≠ .cell v
 hok:HOk X.prog X.w H s.heap
 len:σ.length=X.N.length
section
variable {X:Cx} {pins:List (Addr × Obj)} {σ:List (Option V)} {H H':Hp} {s:Shared} {h':Heap}
theorem Cx.Ok.nofr (ok:X.Ok) {b:Addr} {o:Obj} (e:X.base.get? b=some o):b ∉ X.fs:=fun hb=>by
 have:=(ok.funs.mem hb).1
 rw [e] at this;cases this
theorem Inv.bs (I:Inv X pins σ H s):∀ b o,X.base.get? b=some o→s.heap.get? b=some o∧H b=none:=fun b o e=>
 ⟨I.base.keep b o (I.ok.bs b o e).1 (I.ok.bs b o e).2 (I.ok.nofr e) (I.ok.noex b o e),I.base.free b o (I.ok.bs b o e).1 (I.ok.bs b o e).2 (I.ok.noex b o e)⟩
theorem Inv.bk (I:Inv X pins σ H s):∀ b o,X.base.get? b=some o→s.heap.get? b=some o:=fun b o e=>(I.bs b o e).1
theorem Inv.mod (I:Inv X pins σ H s):Mod X.K X.mg X.base:=I.ok.mod
theorem Inv.kIn (I:Inv X pins σ H s):X.K.In s.heap:=I.ok.mod.kin.keeps I.bk
theorem Inv.nolimit (I:Inv X pins σ H s):s.heap.NoLimit:=I.ok.mod.nolimit.keeps I.bk
theorem Inv.fr (I:Inv X pins σ H s):∃ m,Fr X.base X.env.locals s.heap m:=
 let ⟨m,hn,_⟩:=I.loc
 ⟨m,hn,I.bk,Nat.le_trans I.ok.bsz I.ok.above⟩
theorem Inv.lt (I:Inv X pins σ H s):X.env.locals < s.heap.objs.size:=let ⟨_,hn,_⟩:=I.loc;hn.lt
theorem Inv.sz (I:Inv X pins σ H s):X.s₀.heap.objs.size ≤ s.heap.objs.size:=Nat.le_trans I.ok.above (Nat.le_of_lt I.lt)
theorem Inv.nofs (I:Inv X pins σ H s) {a:Addr} (h:s.heap.objs.size ≤ a):a ∉ X.fs:=fun hb=>by
 obtain ⟨_,o,ho,_⟩:=I.ok.funs.mem hb
 exact absurd (Nat.lt_of_lt_of_le (Heap.lt_size ho) (Nat.le_trans I.sz h)) (Nat.lt_irrefl _)
theorem Inv.cne (I:Inv X pins σ H s):∀ x c,X.env.cells.lookup x=some c→c ≠ X.env.locals:=fun x c e z=>by
 obtain ⟨v,o,ho,hd⟩:=I.cell x c e
 obtain ⟨m,⟨o',es,ep,ho',hd',_⟩,_⟩:=I.loc
 rw [z,ho'] at ho;cases ho;rw [hd'] at hd;cases hd
theorem Inv.funs (I:Inv X pins σ H s):s.heap.FunFrames X.base X.outer:=by
 have all:∀ (l:List Env),(∀ b ∈ frs l,b ∈ X.fs)→X.s₀.heap.FunFrames X.base l→s.heap.FunFrames X.base l:=by
  intro l
  induction l with
  | nil=>intro _ _;trivial
  | cons env r ih=>
   intro hs hl
   obtain ⟨hk,⟨L,o,hf,hn,ho,hd⟩,hr⟩:=hl
   have hL:L ∈ X.fs:=hs L (by unfold frs;rw [List.filterMap_cons,hf];exact List.mem_cons_self)
   obtain ⟨sl,e⟩:=I.base.slot L o ho (I.ok.frf L hL) hL fun z=>I.ok.exfs L z hL
   exact ⟨hk,⟨L,_,hf,hn,e,hd⟩,ih (fun b hb=>hs b (by unfold frs;rw [List.filterMap_cons,hf];exact List.mem_cons_of_mem _ hb)) hr⟩
 exact all X.outer (fun _ hb=>hb) I.ok.funs
theorem Inv.stack (I:Inv X pins σ H s):s.heap.FunFrames X.base X.stack:=by
 rcases I.ok.stk with e | ⟨e,hf⟩
 ·rw [e];exact I.funs
 ·rw [e]
  obtain ⟨m,hn,_⟩:=I.loc
  refine .cons (by rw [I.ok.kind];decide) hf hn ?_ I.funs
  exact Heap.get?_none_of_le (Nat.le_trans I.ok.bsz I.ok.above)
theorem Inv.stkSub (I:Inv X pins σ H s):∀ b ∈ frs X.stack,b ∈ X.env.locals :: X.fs:=fun b hb=>by
 rcases I.ok.stk with e | ⟨e,hf⟩
 ·rw [e] at hb;exact List.mem_cons_of_mem _ hb
 ·rw [e] at hb
  unfold frs at hb
  rw [List.filterMap_cons,hf] at hb
  exact hb
theorem Inv.stkFree (I:Inv X pins σ H s):∀ b ∈ frs X.stack,H b=none:=fun b hb=>by
 rcases List.mem_cons.mp (I.stkSub b hb) with e | hb
 ·rw [e];exact I.free
 ·obtain ⟨_,o,ho,_⟩:=I.ok.funs.mem hb
  exact I.base.free b o ho (I.ok.frf b hb) fun z=>I.ok.exfs b z hb
theorem Inv.step {g':Array GenState} {t':Nat} {d':Drawn} {ch:List Addr} (I:Inv X pins σ H s)
  (hch:∀ b ∈ ch,(b ∈ X.ex∨X.s₀.heap.objs.size ≤ b)∧b ≠ X.env.locals∧(∀ x c,X.env.cells.lookup x=some c→c ≠ b)∧∀ p ∈ X.pn ++ pins,p.1 ≠ b)
  (keep:∀ b o,b ≠ X.env.locals→b ∉ X.fs→b ∉ ch→s.heap.get? b=some o→H b=none→h'.get? b=some o)
  (slot:∀ b o,b ≠ X.env.locals→b ∈ X.fs→b ∉ ch→s.heap.get? b=some o→H b=none→∃ sl,h'.get? b=some { o with slots:=sl }) (free:∀ b o,b ∉ ch→s.heap.get? b=some o→H b=none→H' b=none)
  (there:∀ b o,b ∉ ch→s.heap.get? b=some o→∃ o',h'.get? b=some o')
  (tups:∀ b xs,H b=some (.tup xs)→H' b=some (.tup xs)) (frzs:∀ b o u,H b=some (.frz o u)→H' b=some (.frz o u)) (tbls:∀ b ps,H b=some (.tbl ps)→∃ more,H' b=some (.tbl (ps ++ more)))
  (ns:∀ m,s.heap.Ns X.env.locals m→h'.Ns X.env.locals m) (hok:HOk X.prog X.w H' h') (hg:AllBare g') :
  Inv X pins σ H' { s with heap:=h',gens:=g',drawn:=d',toks:=t' }:=by
 have neL:∀ b o,X.s₀.heap.get? b=some o→b ≠ X.env.locals:=fun b o e=>Nat.ne_of_lt (Nat.lt_of_lt_of_le (Heap.lt_size e) I.ok.above)
 have neC:∀ b o,X.s₀.heap.get? b=some o→b ∉ X.ex→b ∉ ch:=fun b o e hx hb=>by
  rcases (hch b hb).1 with z | z
  ·exact hx z
  ·exact absurd (Nat.lt_of_lt_of_le (Heap.lt_size e) z) (Nat.lt_irrefl _)
 have cellK:∀ x c,X.env.cells.lookup x=some c→∀ v,s.heap.IsCell c v→h'.IsCell c v:=fun x c e v ⟨o,ho,hd⟩=>by
  have nch:c ∉ ch:=fun z=>(hch c z).2.2.1 x c e rfl
  by_cases hc:c ∈ X.fs
  ·obtain ⟨sl,q⟩:=slot c o (I.cne x c e) hc nch ho (I.freeC x c e)
   exact ⟨_,q,hd⟩
  ·exact ⟨o,keep c o (I.cne x c e) hc nch ho (I.freeC x c e),hd⟩
 refine ⟨I.ok,I.os,hg,⟨fun b o e n hb hx=>?_,fun b o e n hb hx=>?_,fun b o e n hx=>?_,fun b o e hx=>?_,fun b xs e=>tups b xs (I.base.tups b xs e),fun b o xs e=>frzs b o xs (I.base.frzs b o xs e),fun b ps e=>?_⟩,?_,fun x c e=>?_,?_,fun x c e=>?_,fun p hp=>?_,hok,I.len⟩
 ·exact keep b o (neL b o e) hb (neC b o e hx) (I.base.keep b o e n hb hx) (I.base.free b o e n hx)
 ·obtain ⟨sl,e1⟩:=I.base.slot b o e n hb hx
  obtain ⟨sl',e2⟩:=slot b _ (neL b o e) hb (neC b o e hx) e1 (I.base.free b o e n hx)
  exact ⟨sl',e2⟩
 ·obtain ⟨o',e1⟩:=I.base.there b o e hx
  exact free b o' (neC b o e hx) e1 (I.base.free b o e n hx)
 ·obtain ⟨o',e1⟩:=I.base.there b o e hx
  exact there b o' (neC b o e hx) e1
 ·obtain ⟨m1,e1⟩:=I.base.tbls b ps e
  obtain ⟨m2,e2⟩:=tbls b _ e1
  exact ⟨m1 ++ m2,by rw [e2,Array.append_assoc]⟩
 ·obtain ⟨m,hn,hl⟩:=I.loc
  refine ⟨m,ns m hn,fun i x v e1 e2 e3=>?_⟩
  obtain ⟨u,r,l⟩:=hl i x v e1 e2 e3
  refine ⟨u,r,?_⟩
  rcases l with l | ⟨k,c,e,z⟩
  ·exact .inl l
  ·exact .inr ⟨k,c,e,cellK x c e _ z⟩
 ·obtain ⟨v,z⟩:=I.cell x c e
  exact ⟨v,cellK x c e v z⟩
 ·obtain ⟨m,⟨o,_,_,ho,_⟩,_⟩:=I.loc
  exact free _ o (fun z=>(hch _ z).2.1 rfl) ho I.free
 ·obtain ⟨v,o,ho,hd⟩:=I.cell x c e
  exact free c o (fun z=>(hch c z).2.2.1 x c e rfl) ho (I.freeC x c e)
 ·obtain ⟨e,n,ne,nf,d⟩:=I.pin p hp
  have nch:p.1 ∉ ch:=fun z=>(hch p.1 z).2.2.2 p hp rfl
  exact ⟨keep p.1 p.2 ne nf nch e n,free p.1 p.2 nch e n,ne,nf,d⟩
theorem Inv.un {t':Nat} (I:Inv X pins σ H s) (u:Un X.fs [] H H' s.heap h') (hok:HOk X.prog X.w H' h'):Inv X pins σ H' { s with heap:=h',toks:=t' }:=by
 obtain ⟨m,⟨o,es,ep,ho,r⟩,_⟩:=id I.loc
 obtain ⟨sl,hL⟩:=u.any ho I.free (by simp)
 exact I.step (g':=s.gens) (d':=s.drawn) (ch:=[]) (fun _ z=>nomatch z) (fun b o _ hb _ e n=>u.keep b o e n hb (by simp)) (fun b o _ hb _ e n=>u.slot b o e n hb (by simp)) (fun b o _ e n=>u.free b o e n (by simp)) (fun b o _ e=>u.there b o e (by simp)) u.tups u.frzs u.tbls (fun m' hm=>by
  obtain ⟨o',es',ep',ho',r'⟩:=hm
  rw [ho] at ho';cases ho'
  exact ⟨_,es',ep',hL,r'⟩) hok I.bare
theorem Inv.call {g':Array GenState} {t':Nat} {d':Drawn} {ch:List Addr} (I:Inv X pins σ H s) (u:Un (frs X.stack) ch H H' s.heap h') (hok:HOk X.prog X.w H' h') (hg:AllBare g')
  (hch:∀ b ∈ ch,(b ∈ X.ex∨X.s₀.heap.objs.size ≤ b)∧b ≠ X.env.locals∧(∀ x c,X.env.cells.lookup x=some c→c ≠ b)∧∀ p ∈ X.pn ++ pins,p.1 ≠ b) :
  Inv X pins σ H' { s with heap:=h',gens:=g',drawn:=d',toks:=t' }:=by
 obtain ⟨m,⟨o,es,ep,ho,r⟩,_⟩:=id I.loc
 obtain ⟨sl,hL⟩:=u.any ho I.free fun z=>(hch _ z).2.1 rfl
 exact I.step (ch:=ch) hch (fun b o hL hb hc e n=>u.keep b o e n (fun z=>(List.mem_cons.mp (I.stkSub b z)).elim hL hb) hc) (fun b o _ _ hc e n=>u.any e n hc) (fun b o hc e n=>u.free b o e n hc) (fun b o hc e=>u.there b o e hc) u.tups u.frzs u.tbls (fun m' hm=>by
  obtain ⟨o',es',ep',ho',r'⟩:=hm
  rw [ho] at ho';cases ho'
  exact ⟨_,es',ep',hL,r'⟩) hok hg
theorem Inv.turned {t':Nat} {it:Addr} (I:Inv X pins σ H s) (k:∀ b o,b ≠ it→s.heap.get? b=some o→h'.get? b=some o) (hn:H it=none) (hL:it ≠ X.env.locals)
  (h1:it ∈ X.ex∨X.s₀.heap.objs.size ≤ it) (h2:∀ x c,X.env.cells.lookup x=some c→c ≠ it) (h3:∀ p ∈ X.pn ++ pins,p.1 ≠ it):Inv X pins σ H { s with heap:=h',toks:=t' }:=by
 have nit:∀ b u,H b=some u→b ≠ it:=fun b u e z=>by rw [z,hn] at e;cases e
 refine I.step (g':=s.gens) (d':=s.drawn) (ch:=[it]) (fun b hb=>?_) (fun b o _ _ hc e _=>k b o (fun z=>hc (by simp [z])) e) (fun b o _ _ hc e _=>⟨o.slots,k b o (fun z=>hc (by simp [z])) e⟩) (fun _ _ _ _ n=>n)
  (fun b o hc e=>⟨o,k b o (fun z=>hc (by simp [z])) e⟩) (fun _ _ e=>e) (fun _ _ _ e=>e) (fun b ps e=>⟨#[],by rw [e];simp⟩) (fun m hm=>?_) (fun b u e=>?_) I.bare
 ·have e:b=it:=by simpa using hb
  subst e
  exact ⟨h1,hL,h2,h3⟩
 ·obtain ⟨o,es,ep,ho,r⟩:=hm
  exact ⟨o,es,ep,k _ o (Ne.symm hL) ho,r⟩
 ·refine (I.hok b u e).stay (fun c v hc q=>k c v ?_ q) (fun _ q=>q) fun _ _ q=>q
  rcases hc with z | z
  ·rw [z];exact nit b u e
  ·exact nit c _ z
theorem Inv.tok (I:Inv X pins σ H s) (t:Nat):Inv X pins σ H { s with toks:=t }:=I.un (h':=s.heap) (t':=t) Un.refl I.hok
theorem Inv.kept {t':Nat} (I:Inv X pins σ H s) (k:∀ b u,s.heap.get? b=some u→h'.get? b=some u):Inv X pins σ H { s with heap:=h',toks:=t' }:=I.un (Un.kept k) (I.hok.kept k)
theorem Inv.laid {a:Addr} {o:HO} {t':Nat} (I:Inv X pins σ H s) (k:∀ b u,s.heap.get? b=some u→h'.get? b=some u) (hp:s.heap.objs.size ≤ a) (new:kd X.prog X.w (upd H a o) h' a o) :
  Inv X pins σ (upd H a o) { s with heap:=h',toks:=t' }:=I.un (Un.laid k hp (I.hok.fresh hp)) (I.hok.laid k hp new)
theorem Inv.write {x e:Addr} {o:HO} {t':Nat} (I:Inv X pins σ H s) (mu:Mut (H x)) (he:e=x∨H e=some (.own x)) (k:∀ b u,b ≠ e→s.heap.get? b=some u→h'.get? b=some u) (heo:∃ u,h'.get? e=some u)
  (new:kd X.prog X.w (upd H x o) h' x o):Inv X pins σ (upd H x o) { s with heap:=h',toks:=t' }:=I.un (Un.write mu he k heo) (I.hok.write mu he k heo new)
theorem Inv.weak {σ':List (Option V)} (I:Inv X pins σ H s) (hl:σ'.length=σ.length) (w:∀ (i:Nat) v,σ'[i]? = some (some v)→σ[i]? = some (some v)):Inv X pins σ' H s:=
 ⟨I.ok,I.os,I.bare,I.base,let ⟨m,hn,hl'⟩:=I.loc;⟨m,hn,fun i x v e1 e2 e3=>hl' i x v e1 (w i v e2) e3⟩,I.cell,I.free,I.freeC,I.pin,I.hok,hl.trans I.len⟩
theorem Inv.pins_of {pins':List (Addr × Obj)} (I:Inv X pins σ H s) (h:∀ p ∈ pins',s.heap.get? p.1=some p.2∧H p.1=none∧p.1 ≠ X.env.locals∧p.1 ∉ X.fs∧∀ v,p.2.data ≠ .cell v):Inv X pins' σ H s:=
 ⟨I.ok,I.os,I.bare,I.base,I.loc,I.cell,I.free,I.freeC,fun p hp=>(List.mem_append.mp hp).elim (fun z=>I.pin p (List.mem_append_left _ z)) (h p),I.hok,I.len⟩
theorem Et {N:List Str} (hN:N.Nodup) {i j:Nat} {x:Str} (a:N[i]? = some x) (b:N[j]? = some x):i=j:=by
 obtain ⟨h1,e1⟩:=List.getElem?_eq_some_iff.mp a
 obtain ⟨h2,e2⟩:=List.getElem?_eq_some_iff.mp b
 exact (List.getElem_inj hN).mp (e1.trans e2.symm)
theorem Av {M:Model} {A:Around} {E:Value→Shared→Prop} {i:Nat} {x:Str} {v:V} {u:Value} {Q:Unit→Shared→Prop} (I:Inv X pins σ H s) (hN:X.N.Nodup) (hi:X.N[i]? = some x) (hx:Loc X.env.scope x) (r:yd v u)
  (h:∀ s',Inv X pins (σ.set i (some v)) H s'→(∃ a,Heap.SameBut a s.heap s'.heap∧(a=X.env.locals∨X.env.cells.lookup x=some a))→Q () s') (hf:X.fn x=true∨X.env.scope.names.lookup x=some .local:=by first | exact .inl rfl | exact .inr rfl | assumption):wpAny M A (storeName X.env x u) Q E s:=by
 obtain ⟨m,hn,hl⟩:=id I.loc
 have hcls:(X.env.scope.kind == .class || (X.env.scope.kind == .module && X.env.locals != X.env.globals))=false:=by rw [I.ok.kind];rfl
 have hiσ:i < σ.length:=by rw [I.len];exact (List.getElem?_eq_some_iff.mp hi).1
 have cne:=I.cne
 have tracked:∀ {a:Addr} {h':Heap},(∃ o,s.heap.get? a=some o∧H a=none)→Heap.SameBut a s.heap h'→HOk X.prog X.w H h':=fun {a h'} ha hs b ob e=>by
  obtain ⟨_,_,hfree⟩:=ha
  refine (I.hok b ob e).stay (fun c w' hc q=>(hs.2 c ?_).trans q) (fun _ q=>q) fun _ _ q=>q
  rintro rfl
  rcases hc with rfl | hc
  ·rw [hfree] at e;cases e
  ·rw [hfree] at hc;cases hc
 rcases hx with hk | hk
 ·refine wpAny_storeName_local hk hn (fun h' hn' hs=>?_) hcls
  obtain ⟨oL,_,_,hoL,_⟩:=id hn
  refine h _ ⟨I.ok,I.os,I.bare,⟨fun b o e n hb hx=>?_,fun b o e n hb hx=>?_,I.base.free,fun b o e hx=>?_,I.base.tups,I.base.frzs,I.base.tbls⟩,⟨_,hn',fun j y v' e1 e2 e3=>?_⟩,fun y c e=>?_,I.free,I.freeC,fun p hp=>?_,tracked ⟨oL,hoL,I.free⟩ hs,by simpa using I.len⟩ ⟨_,hs,.inl rfl⟩
  ·exact (hs.2 b (Nat.ne_of_lt (Nat.lt_of_lt_of_le (Heap.lt_size e) I.ok.above))).trans (I.base.keep b o e n hb hx)
  ·obtain ⟨sl,e1⟩:=I.base.slot b o e n hb hx
   exact ⟨sl,(hs.2 b (Nat.ne_of_lt (Nat.lt_of_lt_of_le (Heap.lt_size e) I.ok.above))).trans e1⟩
  ·obtain ⟨o',e1⟩:=I.base.there b o e hx
   exact ⟨o',(hs.2 b (Nat.ne_of_lt (Nat.lt_of_lt_of_le (Heap.lt_size e) I.ok.above))).trans e1⟩
  ·by_cases hj:j=i
   ·subst hj
    rw [hi] at e1;cases e1
    rw [List.getElem?_set_self hiσ] at e2
    cases e2
    exact ⟨u,r,.inl ⟨hk,by simp⟩⟩
   ·rw [List.getElem?_set_ne (Ne.symm hj)] at e2
    obtain ⟨u',r',q⟩:=hl j y v' e1 e2 e3
    refine ⟨u',r',?_⟩
    rcases q with ⟨k,e⟩ | ⟨k,c,e,z⟩
    ·refine .inl ⟨k,?_⟩
     have:y ≠ x:=fun e=>hj (Et hN e1 (e ▸ hi))
     simp [this,e]
    ·exact .inr ⟨k,c,e,z.sameBut hs (cne y c e)⟩
  ·obtain ⟨w',z⟩:=I.cell y c e
   exact ⟨w',z.sameBut hs (cne y c e)⟩
  ·obtain ⟨e,n,ne,nf,d⟩:=I.pin p hp
   exact ⟨(hs.2 p.1 ne).trans e,n,ne,nf,d⟩
 ·have hfn:X.fn x=true:=by
   rcases hf with z | z
   ·exact z
   ·rw [z] at hk;cases hk
  obtain ⟨c,hc⟩:=I.ok.has x (.inl hk)
  obtain ⟨w',z⟩:=I.cell x c hc
  refine wpAny_storeName_cell I.ok.kind hk hc z (fun h' hc' hs=>?_)
  obtain ⟨oc,hoc,hocd⟩:=id z
  refine h { s with heap:=h' } ⟨I.ok,I.os,I.bare,⟨fun b o e n hb hx=>?_,fun b o e n hb hx=>?_,I.base.free,fun b o e hx=>?_,I.base.tups,I.base.frzs,I.base.tbls⟩,⟨m,hn.sameBut hs (Ne.symm (cne x c hc)),fun j y v' e1 e2 e3=>?_⟩,fun y c' e=>?_,I.free,I.freeC,fun p hp=>?_,tracked ⟨oc,hoc,I.freeC x c hc⟩ hs,by simpa using I.len⟩ ⟨c,hs,.inr hc⟩
  ·exact (hs.2 b (Nat.ne_of_lt (Nat.lt_of_lt_of_le (Heap.lt_size e) (I.ok.cab x c hfn hc)))).trans (I.base.keep b o e n hb hx)
  ·obtain ⟨sl,e1⟩:=I.base.slot b o e n hb hx
   exact ⟨sl,(hs.2 b (Nat.ne_of_lt (Nat.lt_of_lt_of_le (Heap.lt_size e) (I.ok.cab x c hfn hc)))).trans e1⟩
  ·obtain ⟨o',e1⟩:=I.base.there b o e hx
   exact ⟨o',(hs.2 b (Nat.ne_of_lt (Nat.lt_of_lt_of_le (Heap.lt_size e) (I.ok.cab x c hfn hc)))).trans e1⟩
  ·by_cases hj:j=i
   ·subst hj
    rw [hi] at e1;cases e1
    rw [List.getElem?_set_self hiσ] at e2
    cases e2
    exact ⟨u,r,.inr ⟨.inl hk,c,hc,hc'⟩⟩
   ·rw [List.getElem?_set_ne (Ne.symm hj)] at e2
    obtain ⟨u',r',q⟩:=hl j y v' e1 e2 e3
    refine ⟨u',r',?_⟩
    rcases q with q | ⟨k,c',e,z'⟩
    ·exact .inl q
    ·refine .inr ⟨k,c',e,z'.sameBut hs ?_⟩
     rintro rfl
     exact hj (Et hN e1 (I.ok.inj _ _ _ e hc ▸ hi))
  ·by_cases hcc:c'=c
   ·subst hcc;exact ⟨_,hc'⟩
   ·obtain ⟨w2,z2⟩:=I.cell y c' e
    exact ⟨w2,z2.sameBut hs hcc⟩
  ·obtain ⟨e,n,ne,nf,d⟩:=I.pin p hp
   refine ⟨(hs.2 p.1 ?_).trans e,n,ne,nf,d⟩
   intro q
   rw [q,hoc] at e
   have q':oc=p.2:=Option.some.inj e
   exact d w' (by rw [← q'];exact hocd)
theorem Oo {M:Model} {A:Around} {E:Value→Shared→Prop} {i:Nat} {x:Str} {v:V} {u:Value} {Q:Unit→Shared→Prop} (I:Inv X pins σ H s) (hN:X.N.Nodup) (hi:X.N[i]? = some x) (hx:Loc X.env.scope x) (r:yd v u)
  (h:∀ s',Inv X pins (σ.set i (some v)) H s'→Q () s') (hf:X.fn x=true∨X.env.scope.names.lookup x=some .local:=by first | exact .inl rfl | exact .inr rfl | assumption):wpAny M A (storeName X.env x u) Q E s:=
 Av I hN hi hx r (fun s' I' _=>h s' I') hf
theorem Inv.call' {s':Shared} {ch:List Addr} (I:Inv X pins σ H s) (ho:s'.os=s.os) (u:Un (frs X.stack) ch H H' s.heap s'.heap) (hok:HOk X.prog X.w H' s'.heap) (hg:AllBare s'.gens)
  (hch:∀ b ∈ ch,(b ∈ X.ex∨X.s₀.heap.objs.size ≤ b)∧b ≠ X.env.locals∧(∀ x c,X.env.cells.lookup x=some c→c ≠ b)∧∀ p ∈ X.pn ++ pins,p.1 ≠ b):Inv X pins σ H' s':=by
 obtain ⟨h',g',d',t',o'⟩:=s'
 have e:o'=s.os:=ho
 subst e
 exact I.call (g':=g') (t':=t') (d':=d') u hok hg hch
end
noncomputable abbrev XK:=Value→Option Addr→Hp→Prop
noncomputable abbrev St:=List (Option V)
noncomputable abbrev VK:=V→Hp→Prop
noncomputable abbrev TE:=St→Hp→VK→Prop
noncomputable abbrev TT:=St→Hp→(Bool→Hp→Prop)→Prop
noncomputable abbrev TA:=St→Hp→(List V→Hp→Prop)→Prop
structure jg where
 nx:St→Hp→Prop
 rt:VK
 bk:St→Hp→Prop:=fun _ _=>False
 ct:St→Hp→Prop:=fun _ _=>False
noncomputable abbrev TS:=jg→St→Hp→Prop
noncomputable def EP (X:Cx) (pins:List (Addr × Obj)) (σ:St) (Q:VK) (u:Value) (s':Shared):Prop:=∃ v H',Inv X pins σ H' s'∧yd v u∧Q v H'
noncomputable def TP (X:Cx) (pins:List (Addr × Obj)) (σ:St) (Q:Bool→Hp→Prop) (b:Bool) (s':Shared):Prop:=∃ H',Inv X pins σ H' s'∧Q b H'
noncomputable def AP (X:Cx) (pins:List (Addr × Obj)) (σ:St) (Q:List V→Hp→Prop) (us:List Value) (s':Shared):Prop:=∃ vs H',Inv X pins σ H' s'∧Wc vs us∧Q vs H'
noncomputable def SP (X:Cx) (pins:List (Addr × Obj)) (D:jg) (f:Flow) (s':Shared):Prop:=
 match f with
 | .next=>∃ σ' H',Inv X pins σ' H' s'∧D.nx σ' H'
 | .brk=>∃ σ' H',Inv X pins σ' H' s'∧D.bk σ' H'
 | .cont=>∃ σ' H',Inv X pins σ' H' s'∧D.ct σ' H'
 | .ret u=>∃ v σ' H',Inv X pins σ' H' s'∧yd v u∧D.rt v H'
noncomputable def PE (X:Cx) (e:Expr) (t:TE):Prop:=
 ∀ (pins:List (Addr × Obj)) (s:Shared) (σ:St) (H:Hp) (Q:VK),Inv X pins σ H s→t σ H Q→wpAny (model X.prog X.w) X.A (eval e X.env) (EP X pins σ Q) X.xe s
noncomputable def PT (X:Cx) (e:Expr) (t:TT):Prop:=
 ∀ (pins:List (Addr × Obj)) (s:Shared) (σ:St) (H:Hp) (Q:Bool→Hp→Prop),Inv X pins σ H s→t σ H Q→wpAny (model X.prog X.w) X.A (isTrue e X.env (eval e X.env)) (TP X pins σ Q) X.xe s
noncomputable def PW (X:Cx) (e:Expr) (t:TT):Prop:=
 ∀ (whole:Sem Value) (pins:List (Addr × Obj)) (s:Shared) (σ:St) (H:Hp) (Q:Bool→Hp→Prop),Inv X pins σ H s→t σ H Q→wpAny (model X.prog X.w) X.A (isTrue e X.env whole) (TP X pins σ Q) X.xe s
theorem PW.pt {X:Cx} {e:Expr} {t:TT} (h:PW X e t):PT X e t:=h _
noncomputable def PA (X:Cx) (es:List Expr) (t:TA):Prop:=
 ∀ (pos:Pos) (pins:List (Addr × Obj)) (s:Shared) (σ:St) (H:Hp) (Q:List V→Hp→Prop),Inv X pins σ H s→t σ H Q→wpAny (model X.prog X.w) X.A (spliced (backTo pos (starEach es X.env))) (AP X pins σ Q) X.xe s
noncomputable def PS (X:Cx) (st:Stmt) (t:TS):Prop:=
 ∀ (pins:List (Addr × Obj)) (s:Shared) (σ:St) (H:Hp) (D:jg),Inv X pins σ H s→t D σ H→wpAny (model X.prog X.w) X.A (exec st X.env) (SP X pins D) X.xe s
noncomputable def PSs (X:Cx) (st:List Stmt) (t:TS):Prop:=
 ∀ (pins:List (Addr × Obj)) (s:Shared) (σ:St) (H:Hp) (D:jg),Inv X pins σ H s→t D σ H→wpAny (model X.prog X.w) X.A (execs st X.env) (SP X pins D) X.xe s
theorem thn {α:Type} {t:Sem α} {Q Q':α→Shared→Prop} {M:Model} {A:Around} {E:Value→Shared→Prop} {s:Shared} (h:wpAny M A t Q E s) (hQ:∀ a s,Q a s→Q' a s):wpAny M A t Q' E s:=wpAny_mono h hQ fun _ _ x=>x
end L2
namespace L2
open PySem PySem.Spec PyProof.Rows
section
variable {X:Cx}
noncomputable def eO (i:Nat):TE:=fun σ H Q=>∃ v,σ[i]? = some (some v)∧Q v H
noncomputable def tC (v:V):TE:=fun _ H Q=>Q v H
theorem VL {i:Nat} {x:Str} {pos:Pos} (hN:X.N[i]? = some x) (hv:Vis X.env.scope x) (hd:(x == ("__debug__" : Str))=false:=by decide) (hcd:(x == ("__classdict__" : Str))=false:=by decide):PE X (.Name x pos) (eO i):=by
 intro pins s σ H Q I h
 obtain ⟨v,e,h⟩:=h
 obtain ⟨m,hn,hl⟩:=I.loc
 obtain ⟨u,r,l⟩:=hl i x v hN e hv
 have fin:EP X pins σ Q u s:=⟨v,H,I,r,h⟩
 rcases l with ⟨hk,hm⟩ | ⟨hk,c,hc,hcell⟩
 ·exact wpAny_Name (wpAny_loadName_local I.ok.kind hk hn hm fin) hd
 ·rcases hk with hk | hk
  ·exact wpAny_Name (wpAny_loadName_cell I.ok.kind hk hc hcell fin) hd
  ·exact wpAny_Name (wpAny_loadName_free I.ok.kind hk hc hcell fin hcd) hd
theorem pb {i j pos}:PE X (.Constant (.int i) j pos) (tC (.int i)):=fun _ _ _ H _ I h=>wpAny_Constant_int ⟨.int i,H,I.tok _,⟨_,rfl⟩,h⟩
theorem xo {b j pos}:PE X (.Constant (.bool b) j pos) (tC (.bl b)):=fun _ _ _ H _ I h=>Constant_bool ⟨.bl b,H,I,rfl,h⟩
theorem ly {j pos}:PE X (.Constant .none j pos) (tC .non):=fun _ _ _ H _ I h=>Constant_none ⟨.non,H,I,rfl,h⟩
theorem ac {x j pos}:PE X (.Constant (.str x) j pos) (tC (.str x)):=fun _ _ _ H _ I h=>Calls.Constant_str ⟨.str x,H,I.tok _,⟨_,rfl⟩,h⟩
noncomputable def Gl (X:Cx) (x:Str):Prop:=X.env.kindOf x=some .globalImplicit
theorem bj {E:Value→Shared→Prop} {pins:List (Addr × Obj)} {s:Shared} {σ:St} {H:Hp} {x:Str} {u:Value} {pos:Pos} {Q:Value→Shared→Prop} (I:Inv X pins σ H s) (hg:Gl X x) (hm:X.mg x=some u) (h:Q u s)
  (hd:(x == ("__debug__" : Str))=false:=by decide):wpAny (model X.prog X.w) X.A (eval (.Name x pos) X.env) Q E s:=
 Calls.Name_function_global I.ok.kind hg (Calls.loadGlobal_global (by rw [I.ok.glob];exact I.mod.glob.keeps I.bk) hm h) hd
theorem vm {E:Value→Shared→Prop} {pins:List (Addr × Obj)} {s:Shared} {σ:St} {H:Hp} {x:Str} {u:Value} {pos:Pos} {Q:Value→Shared→Prop} (I:Inv X pins σ H s) (hg:Gl X x) (hm:X.mg x=none) (hv:bootBuiltins x=some u) (h:Q u s)
  (hn:x ≠ "__name__" := by decide) (hd:(x == ("__debug__" : Str))=false:=by decide):wpAny (model X.prog X.w) X.A (eval (.Name x pos) X.env) Q E s:=by
 obtain ⟨mb,h1,h2⟩:=I.mod.blt
 exact Calls.Name_function_global I.ok.kind hg (Calls.loadGlobal_builtin (by rw [I.ok.glob];exact I.mod.glob.keeps I.bk) hm (by rw [I.ok.blt];exact h1.keeps I.bk) ((h2 x hn).trans hv) h) hd
theorem Bh {x:Str} {v:V} {u:Value} {pos:Pos} (hg:Gl X x) (hm:X.mg x=some u) (r:yd v u) (hd:(x == ("__debug__" : Str))=false:=by decide):PE X (.Name x pos) (tC v):=
 fun _ _ _ H _ I h=>bj I hg hm ⟨v,H,I,r,h⟩ hd
theorem NH {x:Str} {v:V} {u:Value} {pos:Pos} (hg:Gl X x) (hm:X.mg x=none) (hv:bootBuiltins x=some u) (r:yd v u) (hn:x ≠ "__name__" := by decide) (hd:(x == ("__debug__" : Str))=false:=by decide):PE X (.Name x pos) (tC v):=
 fun _ _ _ H _ I h=>vm I hg hm hv ⟨v,H,I,r,h⟩ hn hd
noncomputable def t2I (ta tb:TE) (k:Int→Int→Hp→Prop):St→Hp→Prop:=fun σ H=>ta σ H fun x H1=>tb σ H1 fun y H2=>∃ i j,x=.int i∧y=.int j∧k i j H2
noncomputable def ZO (ta tb:TE):TE:=fun σ H Q=>t2I ta tb (fun i j H2=>Q (.int (i + j)) H2) σ H
noncomputable def bP (ta tb:TE):TE:=fun σ H Q=>t2I ta tb (fun i j H2=>Q (.int (i - j)) H2) σ H
noncomputable def pP (ta tb:TE):TE:=fun σ H Q=>t2I ta tb (fun i j H2=>(-(2 ^ 64) < i∧i < 2 ^ 64)∧Q (.int (i * j)) H2) σ H
variable {a b:Expr} {ta tb:TE} {pos:Pos}
noncomputable def PC (X:Cx) (op:CmpOp) (a b:Expr) (t:TE):Prop:=
 ∀ (pins:List (Addr × Obj)) (s:Shared) (σ:St) (H:Hp) (Q:VK),Inv X pins σ H s→t σ H Q →
  wpAny (model X.prog X.w) X.A (eval a X.env) (fun v s₁=>wpAny (model X.prog X.w) X.A (eval b X.env) (fun u s₂=>wpAny (model X.prog X.w) X.A (compareOp op v u) (EP X pins σ Q) X.xe s₂) X.xe s₁) X.xe s
theorem HF (b:Expr) {op:CmpOp} (h:op ≠ .In) (h2:op ≠ .NotIn):behindInMarks op b=false:=by
 have e1:(op == CmpOp.In)=false:=by cases op <;> first | rfl | exact absurd rfl h
 have e2:(op == CmpOp.NotIn)=false:=by cases op <;> first | rfl | exact absurd rfl h2
 cases b <;> simp [behindInMarks,e1,e2]
noncomputable def dP (p:Int→Int→Bool) (ta tb:TE):TE:=fun σ H Q=>t2I ta tb (fun i j H2=>Q (.bl (p i j)) H2) σ H
noncomputable def WO (ta:TE):TE:=fun σ H Q=>ta σ H fun x H1=>Q (.bl (decide (x=.non))) H1
noncomputable def uN (ta:TE):TE:=fun σ H Q=>ta σ H fun x H1=>Q (.bl (!decide (x=.non))) H1
noncomputable def tB (t:TE):TT:=fun σ H Q=>t σ H fun x H1=>∃ c,x=.bl c∧Q c H1
theorem GG {op:CmpOp} {t:TE} (h:PC X op a b t) (h1:behindInMarks op b=false:=by first | exact HF _ (by decide) (by decide) | rfl):PT X (.Compare a [op] [b] pos) (tB t):=by
 intro pins s σ H Q I hw
 refine wpAny_isTrue_Compare1 (thn (h pins s σ H _ I hw) fun v s1 h1=>thn h1 fun u s2 h2=>thn h2 fun c s3 hZ1=>?_) h1
 obtain ⟨x,H1,I1,r1,q1⟩:=hZ1
 obtain ⟨d,rfl,q⟩:=q1
 cases r1
 exact wpAny_truthy_bool ⟨H1,I1,q⟩
theorem Ck {e:Expr} {t:TE} (h:PE X e t) (he:∀ whole,isTrue e X.env whole=(do let v ← whole;standAt e.pos;holding [v] (truthy v)):=by intro _;rfl):PT X e (tB t):=by
 intro pins s σ H Q I hw
 refine isTrue_plain (thn (h pins s σ H _ I hw) fun v s1 hZ1=>?_) (he _)
 obtain ⟨x,H1,I1,r1,q1⟩:=hZ1
 obtain ⟨d,rfl,q⟩:=q1
 cases r1
 exact wpAny_truthy_bool ⟨H1,I1,q⟩
variable {tA tB':TT} {rest:List Expr}
noncomputable def QO (t u:TT):TT:=fun σ H Q=>t σ H fun c H1=>if c=true then u σ H1 Q else Q false H1
noncomputable def tOr (t u:TT):TT:=fun σ H Q=>t σ H fun c H1=>if c=true then Q true H1 else u σ H1 Q
noncomputable def AO (t:TT):TT:=fun σ H Q=>t σ H fun c H1=>Q (!c) H1
theorem Yt (ha:PT X a tA):PW X (.BoolOp .And [a] pos) tA:=by
 intro wh pins s σ H Q I h
 refine isTrue_and (thn (ha pins s σ H Q I h) fun c s1 e=>?_)
 cases c with
 | true=>exact isTrue_and_nil e
 | false=>exact e
theorem Is (ha:PT X a tA):PW X (.BoolOp .Or [a] pos) tA:=by
 intro wh pins s σ H Q I h
 refine isTrue_or (thn (ha pins s σ H Q I h) fun c s1 e=>?_)
 cases c with
 | false=>exact isTrue_or_nil e
 | true=>exact e
theorem Wx (ha:PT X a tA) (hb:PW X (.BoolOp .And (b :: rest) pos) tB'):PW X (.BoolOp .And (a :: b :: rest) pos) (QO tA tB'):=by
 intro wh pins s σ H Q I h
 refine isTrue_and (thn (ha pins s σ H _ I h) fun c s1 hZ1=>?_)
 obtain ⟨H1,I1,q1⟩:=hZ1
 cases c with
 | true=>exact hb wh pins s1 σ H1 Q I1 q1
 | false=>exact ⟨H1,I1,q1⟩
theorem pw (ha:PT X a tA) (hb:PW X (.BoolOp .Or (b :: rest) pos) tB'):PW X (.BoolOp .Or (a :: b :: rest) pos) (tOr tA tB'):=by
 intro wh pins s σ H Q I h
 refine isTrue_or (thn (ha pins s σ H _ I h) fun c s1 hZ1=>?_)
 obtain ⟨H1,I1,q1⟩:=hZ1
 cases c with
 | true=>exact ⟨H1,I1,q1⟩
 | false=>exact hb wh pins s1 σ H1 Q I1 q1
theorem wm (ha:PT X a tA):PT X (.UnaryOp .Not a pos) (AO tA):=by
 intro pins s σ H Q I h
 exact isTrue_not (ha pins s σ H (fun c H1=>Q (!c) H1) I h)
noncomputable def wM (ta tb:TE):TE:=fun σ H Q=>ta σ H fun x H1=>∃ c,x=.bl c∧if c=true then tb σ H1 Q else Q (.bl false) H1
noncomputable def yO (ta tb:TE):TE:=fun σ H Q=>ta σ H fun x H1=>∃ c,x=.bl c∧if c=true then Q (.bl true) H1 else tb σ H1 Q
noncomputable def BN (ta:TE):TE:=fun σ H Q=>ta σ H fun x H1=>∃ c,x=.bl c∧Q (.bl (!c)) H1
theorem Hy {op} {t:TE} (h:PE X a t):PE X (.BoolOp op [a] pos) t:=fun pins s σ H Q I hw=>BoolOp_one (h pins s σ H Q I hw)
theorem LG (ha:PE X a ta) (hb:PE X (.BoolOp .And (b :: rest) pos) tb):PE X (.BoolOp .And (a :: b :: rest) pos) (wM ta tb):=by
 intro pins s σ H Q I h
 refine BoolOp_and (thn (ha pins s σ H _ I h) fun v s1 hZ1=>?_)
 obtain ⟨x,H1,I1,r1,q1⟩:=hZ1
 obtain ⟨c,rfl,q1⟩:=q1
 cases r1
 refine wpAny_truthy_bool ?_
 cases c with
 | true=>exact hb pins s1 σ H1 Q I1 q1
 | false=>exact ⟨.bl false,H1,I1,rfl,q1⟩
theorem IK (ha:PE X a ta) (hb:PE X (.BoolOp .Or (b :: rest) pos) tb):PE X (.BoolOp .Or (a :: b :: rest) pos) (yO ta tb):=by
 intro pins s σ H Q I h
 refine BoolOp_or (thn (ha pins s σ H _ I h) fun v s1 hZ1=>?_)
 obtain ⟨x,H1,I1,r1,q1⟩:=hZ1
 obtain ⟨c,rfl,q1⟩:=q1
 cases r1
 refine wpAny_truthy_bool ?_
 cases c with
 | false=>exact hb pins s1 σ H1 Q I1 q1
 | true=>exact ⟨.bl true,H1,I1,rfl,q1⟩
noncomputable def tIf (t:TT) (ta tb:TE):TE:=fun σ H Q=>t σ H fun c H1=>if c=true then ta σ H1 Q else tb σ H1 Q
theorem Ey {c:Expr} (hc:PT X c tA) (ha:PE X a ta) (hb:PE X b tb):PE X (.IfExp c a b pos) (tIf tA ta tb):=by
 intro pins s σ H Q I h
 refine wpAny_IfExp (thn (hc pins s σ H _ I h) fun d s1 hZ1=>?_)
 obtain ⟨H1,I1,q1⟩:=hZ1
 cases d with
 | true=>exact ha pins s1 σ H1 Q I1 q1
 | false=>exact hb pins s1 σ H1 Q I1 q1
end
end L2
namespace L2
open PySem PySem.Spec PyProof.Rows
noncomputable def SqL (K:PySem.W.Frag) (H:Hp) (a:Addr) (xs:List V):Prop:=
 Rd H a (.lst xs) ∨
  ∃ (o:Obj) (its:Array Value) (n:Nat),K.lookup a=some o∧o.cls=.type "list" ∧ o.dict=none∧o.data=.seq its n∧its.size ≤ sizeLine∧Wc xs its.toList
noncomputable def SqT (K:PySem.W.Frag) (H:Hp) (a:Addr) (xs:List V):Prop:=
 Rd H a (.tup xs) ∨
  ∃ (o:Obj) (its:Array Value) (n:Nat),K.lookup a=some o∧o.cls=.type "tuple" ∧ o.data=.seq its n∧its.size ≤ sizeLine∧Wc xs its.toList
noncomputable def uP:Value→Option V
 | .none=>some .non
 | .bool b=>some (.bl b)
 | .int i _=>some (.int i)
 | .str x _=>some (.str x)
 | .bytes b _=>some (.byt b)
 | .float b _=>some (.flt b)
 | .ref a=>some (.ref a)
 | .type n=>some (.ty n)
 | _=>none
theorem yd.abs {x:V} {u:Value} (r:yd x u):uP u=some x:=by
 cases x with
 | non=>cases r;rfl
 | bl _=>cases r;rfl
 | int _=>obtain ⟨t,rfl⟩:=r;rfl
 | str _=>obtain ⟨t,rfl⟩:=r;rfl
 | byt _=>obtain ⟨t,rfl⟩:=r;rfl
 | flt _=>obtain ⟨t,rfl⟩:=r;rfl
 | ref _=>cases r;rfl
 | ty _=>cases r;rfl
theorem yd.inj {x y:V} {u:Value} (r:yd x u) (q:yd y u):x=y:=Option.some.inj (r.abs.symm.trans q.abs)
theorem Wc.inj:∀ {xs ys:List V} {us:List Value},Wc xs us→Wc ys us→xs=ys
 | _,_,_,.nil,.nil=>rfl
 | _,_,_,.cons r t,.cons r' t'=>by rw [r.inj r',Wc.inj t t']
section
variable {X:Cx} {pins:List (Addr × Obj)} {σ:St} {H:Hp} {s:Shared} {a:Addr} {xs ys:List V}
theorem SqL.of {K:PySem.W.Frag} (h:H a=some (.lst xs)):SqL K H a xs:=.inl (.inl h)
theorem SqT.of {K:PySem.W.Frag} (h:H a=some (.tup xs)):SqT K H a xs:=.inl (.inl h)
theorem Inv.list (I:Inv X pins σ H s) (h:SqL X.K H a xs):∃ its:List Value,Wc xs its∧PlainL s.heap a its.toArray∧xs.length ≤ sizeLine:=by
 rcases h with h | ⟨o,its,n,hk,hc,hd,hs,hz,r⟩
 ·obtain ⟨z,its,n,r,e⟩:=h.ok I.hok
  exact ⟨its,r,⟨_,n,e,rfl,rfl,rfl⟩,z⟩
 ·refine ⟨its.toList,r,⟨o,n,I.kIn a o hk,hc,hd,by simpa using hs⟩,?_⟩
  have e:=r.length
  simp only [Array.length_toList] at e
  omega
theorem Inv.tuple (I:Inv X pins σ H s) (h:SqT X.K H a xs):∃ its:List Value,Wc xs its∧IsTup s.heap a its.toArray∧xs.length ≤ sizeLine:=by
 rcases h with h | ⟨o,its,n,hk,hc,hs,hz,r⟩
 ·obtain ⟨z,its,r,p⟩:=h.ok I.hok
  exact ⟨its,r,p,z⟩
 ·refine ⟨its.toList,r,⟨o,I.kIn a o hk,hc,n,by simpa using hs⟩,?_⟩
  have e:=r.length
  simp only [Array.length_toList] at e
  omega
theorem Inv.list_inj (I:Inv X pins σ H s) (h:SqL X.K H a xs) (h':SqL X.K H a ys):xs=ys:=by
 obtain ⟨its,r,⟨o,n,e,_,_,d⟩,_⟩:=I.list h
 obtain ⟨its',r',⟨o',n',e',_,_,d'⟩,_⟩:=I.list h'
 rw [e] at e';cases e'
 rw [d] at d'
 injection d' with d1 _
 have:its=its':=by simpa using congrArg Array.toList d1
 subst this
 exact r.inj r'
theorem Inv.tuple_inj (I:Inv X pins σ H s) (h:SqT X.K H a xs) (h':SqT X.K H a ys):xs=ys:=by
 obtain ⟨its,r,⟨o,e,_,n,d⟩,_⟩:=I.tuple h
 obtain ⟨its',r',⟨o',e',_,n',d'⟩,_⟩:=I.tuple h'
 rw [e] at e';cases e'
 rw [d] at d'
 injection d' with d1 _
 have:its=its':=by simpa using congrArg Array.toList d1
 subst this
 exact r.inj r'
end
noncomputable abbrev Cx.wish (X:Cx) (E:Value→Shared→Prop):Cx:={ X with xe:=E }
noncomputable abbrev Cx.nox (X:Cx):Cx:=X.wish fun _ _=>False
theorem Cx.Ok.wish {X:Cx} (ok:X.Ok) (E:Value→Shared→Prop):(X.wish E).Ok:=
 ⟨ok.mod,ok.kind,ok.glob,ok.blt,ok.above,ok.inj,ok.has,ok.cab,ok.hd,ok.frames,ok.stk,ok.exf,ok.bs,ok.bsz,ok.noex,ok.exfs,ok.funs,ok.frf⟩
theorem Cx.Ok.unwish {X:Cx} {E:Value→Shared→Prop} (ok:(X.wish E).Ok):X.Ok:=
 ⟨ok.mod,ok.kind,ok.glob,ok.blt,ok.above,ok.inj,ok.has,ok.cab,ok.hd,ok.frames,ok.stk,ok.exf,ok.bs,ok.bsz,ok.noex,ok.exfs,ok.funs,ok.frf⟩
section
variable {X:Cx} {pins:List (Addr × Obj)} {σ:St} {H:Hp} {s:Shared} {E:Value→Shared→Prop}
theorem Inv.wish (I:Inv X pins σ H s) (E:Value→Shared→Prop):Inv (X.wish E) pins σ H s:=⟨I.ok.wish E,I.os,I.bare,I.base,I.loc,I.cell,I.free,I.freeC,I.pin,I.hok,I.len⟩
theorem Inv.unwish (I:Inv (X.wish E) pins σ H s):Inv X pins σ H s:=⟨I.ok.unwish,I.os,I.bare,I.base,I.loc,I.cell,I.free,I.freeC,I.pin,I.hok,I.len⟩
theorem SP.unwish {D:jg} {f:Flow} {s':Shared} (h:SP (X.wish E) pins D f s'):SP X pins D f s':=by
 cases f with
 | next=>obtain ⟨σ',H',I,q⟩:=h;exact ⟨σ',H',I.unwish,q⟩
 | brk=>obtain ⟨σ',H',I,q⟩:=h;exact ⟨σ',H',I.unwish,q⟩
 | cont=>obtain ⟨σ',H',I,q⟩:=h;exact ⟨σ',H',I.unwish,q⟩
 | ret u=>obtain ⟨v,σ',H',I,r,q⟩:=h;exact ⟨v,σ',H',I.unwish,r,q⟩
theorem PE.nox {e:Expr} {t:TE} (h:PE X.nox e t):PE X e t:=fun pins s σ H Q I hw=>
 wpAny_mono (h pins s σ H Q (I.wish _) hw) (fun _ _ ⟨v,H',I',r,q⟩=>⟨v,H',I'.unwish,r,q⟩) fun _ _ z=>False.elim z
theorem PT.nox {e:Expr} {t:TT} (h:PT X.nox e t):PT X e t:=fun pins s σ H Q I hw=>
 wpAny_mono (h pins s σ H Q (I.wish _) hw) (fun _ _ ⟨H',I',q⟩=>⟨H',I'.unwish,q⟩) fun _ _ z=>False.elim z
theorem PSs.nox {st:List Stmt} {t:TS} (h:PSs X.nox st t):PSs X st t:=fun pins s σ H D I hw=>
 wpAny_mono (h pins s σ H D (I.wish _) hw) (fun _ _ q=>q.unwish) fun _ _ z=>False.elim z
end
section
variable {X:Cx} {st:Stmt} {rest:List Stmt} {t u:TS} {e:Expr} {te:TE} {pos:Pos}
noncomputable def HM:TS:=fun D σ H=>D.nx σ H
noncomputable def mO (t u:TS):TS:=fun D σ H=>t { D with nx:=u D } σ H
theorem Zb:PSs X [] HM:=fun _ _ σ H _ I h=>wpAny_execs_nil ⟨σ,H,I,h⟩
theorem db (h1:PS X st t) (h2:PSs X rest u):PSs X (st :: rest) (mO t u):=by
 intro pins s σ H D I h
 refine wpAny_execs_cons (thn (h1 pins s σ H { D with nx:=u D } I h) fun f s1 q=>?_)
 cases f with
 | next=>
  obtain ⟨σ',H',I',q⟩:=q
  exact h2 pins s1 σ' H' D I' q
 | ret v=>exact q
 | brk=>exact q
 | cont=>exact q
theorem gb (h1:PS X st t):PSs X [st] t:=by
 intro pins s σ H D I h
 refine wpAny_execs_cons (thn (h1 pins s σ H D I h) fun f s1 q=>?_)
 cases f with
 | next=>exact wpAny_execs_nil q
 | ret v=>exact q
 | brk=>exact q
 | cont=>exact q
noncomputable def HL:TS:=fun D σ H=>D.bk σ H
noncomputable def ZN:TS:=fun D σ H=>D.ct σ H
theorem Inv.quiet {pins:List (Addr × Obj)} {σ:St} {H:Hp} {s:Shared} (I:Inv X pins σ H s):interactive X.env=false:=by simp [interactive,I.ok.kind]
noncomputable def vM (te:TE):TS:=fun D σ H=>te σ H fun _ H1=>D.nx σ H1
theorem Ac (he:PE X e te) (hs:swapsWith e none pos.line X.env=pure false:=by rfl):PS X (.Expr e pos) (vM te):=by
 intro pins s σ H D I h
 exact wpAny_Expr_any (thn (he pins s σ H _ I h) fun v s1 ⟨x,H1,I1,r1,q1⟩=>⟨σ,H1,I1,q1⟩) I.quiet hs
noncomputable def VN (te:TE):TS:=fun D σ H=>te σ H D.rt
theorem Db (he:PE X e te):PS X (.Return (some e) pos) (VN te):=by
 intro pins s σ H D I h
 exact wpAny_Return_some (thn (he pins s σ H _ I h) fun v s1 ⟨x,H1,I1,r1,q1⟩=>⟨x,σ,H1,I1,r1,q1⟩)
noncomputable def fO:TS:=fun D _ H=>D.rt .non H
noncomputable def HN (c:TT) (t u:TS):TS:=fun D σ H=>c σ H fun b H1=>if b=true then t D σ H1 else u D σ H1
theorem Ae {c:Expr} {a b:List Stmt} {tc:TT} (hc:PT X c tc) (ha:PSs X a t) (hb:PSs X b u):PS X (.If c a b pos) (HN tc t u):=by
 intro pins s σ H D I h
 refine wpAny_If (thn (hc pins s σ H _ I h) fun d s1 hZ1=>?_)
 obtain ⟨H1,I1,q1⟩:=hZ1
 cases d with
 | true=>exact ha pins s1 σ H1 D I1 q1
 | false=>exact hb pins s1 σ H1 D I1 q1
noncomputable def OG:TS:=fun _ _ _=>False
theorem Sj:PS X st OG:=fun _ _ _ _ _ _ h=>h.elim
end
noncomputable abbrev TG:=V→St→Hp→(St→Hp→Prop)→Prop
noncomputable abbrev TGs:=List V→St→Hp→(St→Hp→Prop)→Prop
noncomputable def PG (X:Cx) (target:Expr) (t:TG):Prop:=
 ∀ (pins:List (Addr × Obj)) (s:Shared) (σ:St) (H:Hp) (v:V) (u:Value) (Q:St→Hp→Prop),Inv X pins σ H s→yd v u→t v σ H Q →
  wpAny (model X.prog X.w) X.A (assign target X.env u) (fun _ s'=>∃ σ' H',Inv X pins σ' H' s'∧Q σ' H') X.xe s
noncomputable def PGs (X:Cx) (ts:List Expr) (t:TGs):Prop:=
 ∀ (pins:List (Addr × Obj)) (s:Shared) (σ:St) (H:Hp) (vs:List V) (us:List Value) (Q:St→Hp→Prop),Inv X pins σ H s→Wc vs us→t vs σ H Q →
  wpAny (model X.prog X.w) X.A (assignInOrder ((assignEach ts X.env).map (·.2)) us) (fun _ s'=>∃ σ' H',Inv X pins σ' H' s'∧Q σ' H') X.xe s
noncomputable abbrev zK:=V→V→V→Hp→(Hp→Prop)→Prop
noncomputable def UO (X:Cx) (t:zK):Prop:=
 ∀ (pins:List (Addr × Obj)) (s:Shared) (σ:St) (H:Hp) (o i v:V) (ov iv u:Value) (Q:Hp→Prop),Inv X pins σ H s→yd o ov→yd i iv→yd v u→t o i v H Q →
  wpAny (model X.prog X.w) X.A (setItem ov iv u) (fun _ s'=>∃ H',Inv X pins σ H' s'∧Q H') X.xe s
noncomputable abbrev TIp:=V→V→Hp→VK→Prop
section
variable {X:Cx} {pos:Pos}
noncomputable def Su (i:Nat):TG:=fun v σ H Q=>Q (σ.set i (some v)) H
theorem wb {i:Nat} {x:Str} (hN:X.N.Nodup) (hi:X.N[i]? = some x) (hx:Loc X.env.scope x) (hf:X.fn x=true∨X.env.scope.names.lookup x=some .local:=by first | exact .inl rfl | exact .inr rfl | assumption):PG X (.Name x pos) (Su i):=by
 intro pins s σ H v u Q I r h
 exact wpAny_assign_Name (Oo I hN hi hx r (fun s' I'=>⟨_,H,I',h⟩) hf)
noncomputable def dN:TGs:=fun vs σ H Q=>vs=[]∧Q σ H
noncomputable def Yy (t:TG) (u:TGs):TGs:=fun vs σ H Q=>∃ v r,vs=v :: r∧t v σ H fun σ' H'=>u r σ' H' Q
theorem vf:PGs X [] dN:=by
 intro pins s σ H vs us Q I r h
 obtain ⟨e,h⟩:=h
 subst e
 cases r
 exact assignInOrder_nil ⟨σ,H,I,h⟩
theorem Qb {e:Expr} {es:List Expr} {t:TG} {u:TGs} (h1:PG X e t) (h2:PGs X es u)
  (hs:(assignEach (e :: es) X.env).map (·.2)=assign e X.env :: (assignEach es X.env).map (·.2):=by rfl):PGs X (e :: es) (Yy t u):=by
 intro pins s σ H vs us Q I r h
 obtain ⟨v,vr,e1,h⟩:=h
 subst e1
 cases r with
 | cons r rr=>
  rw [hs]
  refine assignInOrder_cons (thn (h1 pins s σ H _ _ _ I r h) fun _ s1 hZ1=>?_)
  obtain ⟨σ1,H1,I1,q1⟩:=hZ1
  exact h2 pins s1 σ1 H1 _ _ Q I1 rr q1
noncomputable def gL (K:PySem.W.Frag) (n:Nat) (t:TGs):TG:=fun v σ H Q=>∃ a xs,v=.ref a∧SqT K H a xs∧xs.length=n∧t xs σ H Q
theorem YM {es:List Expr} {k:Nat} {t:TGs} {n:Nat} (hc:X.calm=true) (h:PGs X es t)
  (hn:(assignEach es X.env).length=n:=by rfl) (hst:(assignEach es X.env).findIdx? (·.1)=none:=by rfl):PG X (.Tuple es k pos) (gL X.K n t):=by
 intro pins s σ H v u Q I r hw
 obtain ⟨a,xs,e1,hq,hl,hw⟩:=hw
 subst e1
 cases r
 obtain ⟨its,rv,ht,hz⟩:=I.tuple hq
 refine assign_Tuple_tuple (I.ok.hd hc) ht (by simp [hn,← hl,rv.length]) hst fun h' hx=>?_
 have I1:Inv X pins σ H { s with heap:=h' }:=I.kept (t':=s.toks) fun b o e=>hx b o (Nat.ne_of_lt (Heap.lt_size e)) e
 exact h pins _ σ H xs _ Q I1 (by simpa using rv) hw
noncomputable def VO (to ti:TE) (t:zK):TG:=fun v σ H Q=>to σ H fun o H1=>ti σ H1 fun i H2=>t o i v H2 fun H3=>Q σ H3
theorem Jx {o i:Expr} {to ti:TE} {t:zK} (ho:PE X o to) (hi:PE X i ti) (hs:UO X t)
  (ha:∀ v,assign (.Subscript o i pos) X.env v=(do
   let ov ← holding [v] (eval o X.env)
   let iv ← holding [v,ov] (eval i X.env)
   standAt pos
   holding [v,ov,iv] (setItem ov iv v)
   release [v,ov,iv] []):=by intro _;rfl):PG X (.Subscript o i pos) (VO to ti t):=by
 intro pins s σ H v u Q I r h
 rw [ha]
 refine wpAny_bind (wpAny_holding (thn (ho pins s σ H _ I h) fun ov s1 hZ1=>?_))
 obtain ⟨x,H1,I1,r1,q1⟩:=hZ1
 refine wpAny_bind (wpAny_holding (thn (hi pins s1 σ H1 _ I1 q1) fun iv s2 hZ1=>?_))
 obtain ⟨y,H2,I2,r2,q2⟩:=hZ1
 refine wpAny_bind (wpAny_standAt (wpAny_bind (wpAny_holding (thn (hs pins s2 σ H2 x y v ov iv u _ I2 r1 r2 r q2) fun _ s3 hZ1=>?_))))
 obtain ⟨H3,I3,q3⟩:=hZ1
 exact wpAny_release ⟨σ,H3,I3,q3⟩
noncomputable def kN (te:TE) (g:TG):TS:=fun D σ H=>te σ H fun x H1=>g x σ H1 D.nx
theorem Hr {tg e:Expr} {te:TE} {g:TG} (he:PE X e te) (hg:PG X tg g) (hs:swapsWithSole [tg] e pos.line X.env=pure false:=by rfl) (hw:swappedStores [tg] e X.env=pure none:=by rfl)
  (h1:(assignEach [tg] X.env).map (·.2)=[assign tg X.env]:=by rfl):PS X (.Assign [tg] e pos) (kN te g):=by
 intro pins s σ H D I h
 refine wpAny_Assign_stores (thn (he pins s σ H _ I h) fun v s1 hZ1=>?_) hs hw
 obtain ⟨x,H1,I1,r1,q1⟩:=hZ1
 rw [h1]
 exact thn (hg pins s1 σ H1 x v _ I1 r1 q1) fun _ s2 q=>q
theorem Ab {i:Nat} {x:Str} {e:Expr} {te:TE} {pos':Pos} (hN:X.N.Nodup) (hi:X.N[i]? = some x) (hx:Loc X.env.scope x) (he:PE X e te) (hs:swapsWith e (some (.Name x pos')) pos.line X.env=pure false:=by rfl) (hf:X.fn x=true∨X.env.scope.names.lookup x=some .local:=by first | exact .inl rfl | exact .inr rfl | assumption) :
  PS X (.Assign [.Name x pos'] e pos) (kN te (Su i)):=by
 intro pins s σ H D I h
 refine wpAny_Assign_Name (thn (he pins s σ H _ I h) fun v s1 hZ1=>?_) hs
 obtain ⟨y,H1,I1,r1,q1⟩:=hZ1
 exact Oo I1 hN hi hx r1 (fun s2 I2=>⟨_,H1,I2,q1⟩) hf
noncomputable def iP (i j:Nat) (ta:TA):TS:=fun D σ H=>ta σ H fun vs H1=>∃ v w,vs=[v,w]∧D.nx ((σ.set i (some v)).set j (some w)) H1
noncomputable def cP (i:Nat) (te:TE) (ti:TIp):TS:=fun D σ H=>∃ x,σ[i]? = some (some x)∧te σ H fun y H1=>ti x y H1 fun z H2=>D.nx (σ.set i (some z)) H2
noncomputable def LN (to ti te:TE) (tget:V→V→Hp→VK→Prop) (tip:TIp) (tset:zK):TS:=fun D σ H=>to σ H fun o H1=>ti σ H1 fun i H2=>tget o i H2 fun x H3=>te σ H3 fun y H4=>tip x y H4 fun z H5=>tset o i z H5 fun H6=>D.nx σ H6
end
section
variable {X:Cx} {pos:Pos}
noncomputable def nG (c:TT) (tb:TS):TS:=fun D σ H=>∃ W:Nat→St→Hp→Prop,(∃ m,W m σ H)∧∀ m σ H,W m σ H →
 c σ H fun b H1=>if b=true then ∃ N:St→Hp→Prop,(∀ σ' H',N σ' H'→∃ m',m' < m∧W m' σ' H')∧tb { D with nx:=N,ct:=N,bk:=D.nx } σ H1 else D.nx σ H1
theorem JF {c:Expr} {body:List Stmt} {tc:TT} {tb:TS} (hp:PassesOwn (model X.prog X.w) X.A X.env X.xe) (hc:PT X c tc) (hb:PSs X body tb):PS X (.While c body [] pos) (nG tc tb):=by
 intro pins s σ H D I h
 obtain ⟨W,⟨m0,w0⟩,turn⟩:=h
 refine wpAny_While (codeAny_whileLoop (fun n s'=>∃ σ' H',Inv X pins σ' H' s'∧W n σ' H') ?_ m0 ⟨σ,H,I,w0⟩)
 rintro n s1 ⟨σ1,H1,I1,w1⟩
 refine wpAny_passesOwn hp (thn (hc pins s1 σ1 H1 _ I1 (turn n σ1 H1 w1)) fun b s2 hZ1=>?_)
 obtain ⟨H2,I2,q2⟩:=hZ1
 cases b with
 | true=>
  obtain ⟨N,hN,q2⟩:=q2
  rw [if_pos rfl]
  refine wpAny_passesOwn hp (thn (hb pins s2 σ1 H2 _ I2 q2) fun f s3 q3=>?_)
  cases f with
  | next=>
   obtain ⟨σ3,H3,I3,n3⟩:=q3
   obtain ⟨m',hm,w3⟩:=hN σ3 H3 n3
   exact ⟨m',hm,σ3,H3,I3,w3⟩
  | cont=>
   obtain ⟨σ3,H3,I3,n3⟩:=q3
   obtain ⟨m',hm,w3⟩:=hN σ3 H3 n3
   exact ⟨m',hm,σ3,H3,I3,w3⟩
  | brk=>exact q3
  | ret v=>exact q3
 | false=>
  rw [if_neg Bool.false_ne_true]
  exact wpAny_execs_nil ⟨σ1,H2,I2,q2⟩
end
structure It where
 go:Nat→Hp→Prop
 yld:Nat→Hp→V→Hp→Prop
 stop:Nat→Hp→Prop
noncomputable def Cu (X:Cx) (pins:List (Addr × Obj)) (H:Hp) (b:Addr):Prop:=
 H b=none∧b ≠ X.env.locals∧b ∉ X.fs∧(b ∈ X.ex∨X.s₀.heap.objs.size ≤ b)∧(∀ x c,X.env.cells.lookup x=some c→c ≠ b)∧∀ p ∈ X.pn ++ pins,p.1 ≠ b
theorem Inv.fpOk {X:Cx} {pins:List (Addr × Obj)} {σ:St} {H H':Hp} {s:Shared} {b:Addr} (I:Inv X pins σ H s) (hb:s.heap.objs.size ≤ b) (hn:H' b=none):Cu X pins H' b:=by
 refine ⟨hn,Nat.ne_of_gt (Nat.lt_of_lt_of_le I.lt hb),I.nofs hb,.inr (Nat.le_trans I.sz hb),fun x c e z=>?_,fun p hp z=>?_⟩
 ·obtain ⟨v,q⟩:=I.cell x c e
  exact absurd (Nat.lt_of_lt_of_le q.lt (by rw [z];exact hb)) (Nat.lt_irrefl _)
 ·exact absurd (Nat.lt_of_lt_of_le (Heap.lt_size (I.pin p hp).1) (by rw [z];exact hb)) (Nat.lt_irrefl _)
structure rH (P:Program) (w:World) (K:PySem.W.Frag) (tg:Expr) (J:It) (fp:List Addr) (it:Addr) (tn:Nat→Heap→Prop):Prop where
 mem:it ∈ fp
 obj:∀ i h,tn i h→∀ b ∈ fp,∃ o,h.get? b=some o∧∀ v,o.data ≠ .cell v
 keep:∀ i h h',tn i h→(∀ b ∈ fp,∀ o,h.get? b=some o→h'.get? b=some o)→tn i h'
 item:∀ (X:Cx),X.prog=P→X.w=w→X.K=K→X.calm=true→∀ (i:Nat) (pins:List (Addr × Obj)) (s:Shared) (σ:St) (H:Hp) (E:Value→Shared→Prop),Inv X pins σ H s→(∀ b ∈ fp,Cu X pins H b)→tn i s.heap→J.go i H →
  wpAny (model P w) X.A (pyNext (.ref it)) (fun r s1=>∃ u,r=some u ∧
   wpAny (model P w) X.A (letOwnedTupleGo tg (.ref it) u) (fun _ s2=>∃ x H',Inv X pins σ H' s2∧yd x u∧J.yld i H x H'∧tn (i + 1) s2.heap∧∀ b ∈ fp,H' b=none) E s1) E s
 done:∀ (X:Cx),X.prog=P→X.w=w→X.K=K→X.calm=true→∀ (i:Nat) (pins:List (Addr × Obj)) (s:Shared) (σ:St) (H:Hp) (E:Value→Shared→Prop),Inv X pins σ H s→(∀ b ∈ fp,Cu X pins H b)→tn i s.heap→J.stop i H →
  wpAny (model P w) X.A (pyNext (.ref it)) (fun r s1=>r=none∧Inv X pins σ H s1) E s
 self:∀ (A:Around) (i:Nat) (s:Shared) (Q:Value→Shared→Prop) (E:Value→Shared→Prop),tn i s.heap→Q (.ref it) s→wpAny (model P w) A (pyIter (.ref it)) Q E s
noncomputable abbrev TI:=St→Hp→(It→Hp→Prop)→Prop
noncomputable def PIE (X:Cx) (pins:List (Addr × Obj)) (σ:St) (tg:Expr) (R:It→Hp→Prop) (itv:Value) (s2:Shared):Prop:=
 ∃ (it:Addr) (fp:List Addr) (tn:Nat→Heap→Prop) (J:It) (H':Hp),itv=.ref it∧Inv X pins σ H' s2∧rH X.prog X.w X.K tg J fp it tn∧tn 0 s2.heap∧(∀ b ∈ fp,Cu X pins H' b)∧R J H'
noncomputable def PI (X:Cx) (tg iter:Expr) (wi:TI):Prop:=
 ∀ (pins:List (Addr × Obj)) (s:Shared) (σ:St) (H:Hp) (R:It→Hp→Prop),Inv X pins σ H s→wi σ H R →
  wpAny (model X.prog X.w) X.A (eval iter X.env) (fun v s1=>wpAny (model X.prog X.w) X.A (pyIter v) (PIE X pins σ tg R) X.xe s1) X.xe s
theorem GC {M:Model} {A:Around} {E:Value→Shared→Prop} {s:Shared} {tg:Expr} {it:Addr} {u:Value} {o:Obj} {n:String} {vs:Array Value} {Q:Unit→Shared→Prop} (ho:s.heap.get? it=some o) (hc:o.cls=.type n) (hd:o.data=.fields vs)
    (hn:["enumerate","zip","dict_itemiterator","dict_reverseitemiterator","odict_iterator","itertools.zip_longest","itertools.pairwise"].contains n=false) (hQ:Q () s):wpAny M A (letOwnedTupleGo tg (.ref it) u) Q E s:=by
  unfold letOwnedTupleGo
  cases tg <;> first
    | exact wpAny_pure hQ
    | (cases u <;> first
        | exact wpAny_pure hQ
        | (refine wpAny_bind (wpAny_load ho ?_)
           rw [hc,hd]
           show wpAny M A (if (["enumerate","zip","dict_itemiterator","dict_reverseitemiterator","odict_iterator","itertools.zip_longest","itertools.pairwise"].contains n && vs[0]? == some (rawInt _))=true then _ else _) Q E s
           rw [if_neg (by intro h;rw [hn,Bool.false_and] at h;cases h)]
           exact wpAny_pure hQ))
noncomputable def Itl (K:PySem.W.Frag) (a:Addr):It:=
 ⟨fun i H=>∃ xs x,SqL K H a xs∧xs[i]? = some x,fun i H x H'=>H'=H∧∀ xs,SqL K H a xs→xs[i]? = some x,fun i H=>∃ xs,SqL K H a xs∧xs.length ≤ i⟩
noncomputable def Itt (K:PySem.W.Frag) (a:Addr):It:=
 ⟨fun i H=>∃ xs x,SqT K H a xs∧xs[i]? = some x,fun i H x H'=>H'=H∧∀ xs,SqT K H a xs→xs[i]? = some x,fun i H=>∃ xs,SqT K H a xs∧xs.length ≤ i⟩
noncomputable def Itr (lo:Int) (n:Nat):It:=⟨fun i _=>i < n,fun i H x H'=>H'=H∧x=.int (lo + i),fun i _=>n ≤ i⟩
theorem vB {P:Program} {w:World} {K:PySem.W.Frag} {tg:Expr} (a it:Addr):rH P w K tg (Itl K a) [it] it (fun i h=>h.IsListIter it a i) where
 mem:=by simp
 obj:=fun i h st b hb=>by
  have e:b=it:=by simpa using hb
  subst e
  obtain ⟨o,e,c,d⟩:=st
  exact ⟨o,e,fun v z=>by rw [d] at z;cases z⟩
 keep:=fun i h h' st k=>st.at fun o e=>k it (by simp) o e
 item:=by
  intro X hP hw hK hc i pins s σ H E I hf st hg
  subst hP hw hK
  obtain ⟨xs,x,hq,hx⟩:=hg
  obtain ⟨its,rv,p,hz⟩:=I.list hq
  obtain ⟨u,hu,ru⟩:=rv.get hx
  obtain ⟨f0,f1,f2,f3,f4,f5⟩:=hf it (by simp)
  refine wpAny_pyNext_list_item st p.isList (x:=u) (by simpa using hu) fun h' st' sb=>?_
  have I1:Inv X pins σ H { s with heap:=h' }:=I.turned (t':=s.toks) (fun b o hb e=>(sb.2 b hb).trans e) f0 f1 f3 f4 f5
  obtain ⟨o,e,c,d⟩:=id st'
  exact ⟨u,rfl,GC (s:={ s with heap:=h' }) e c d (by decide) ⟨x,H,I1,ru,⟨rfl,fun ys hy=>by rw [I.list_inj hy hq];exact hx⟩,st',fun b hb=>(hf b hb).1⟩⟩
 done:=by
  intro X hP hw hK hc i pins s σ H E I hf st hg
  subst hP hw hK
  obtain ⟨xs,hq,hx⟩:=hg
  obtain ⟨its,rv,p,hz⟩:=I.list hq
  obtain ⟨f0,f1,f2,f3,f4,f5⟩:=hf it (by simp)
  have hl:=rv.length
  exact wpAny_pyNext_list_end (I.ok.hd hc) st p.isList (by simp;omega) fun h' eb=>⟨rfl,I.turned (t':=s.toks) (fun b o hb e=>eb b o hb e) f0 f1 f3 f4 f5⟩
 self:=fun _ _ _ _ _ st h=>wpAny_pyIter_listiter st h
theorem Az {P:Program} {w:World} {K:PySem.W.Frag} {tg:Expr} (a it:Addr):rH P w K tg (Itt K a) [it] it (fun i h=>h.IsTupleIter it a i) where
 mem:=by simp
 obj:=fun i h st b hb=>by
  have e:b=it:=by simpa using hb
  subst e
  obtain ⟨o,e,c,d⟩:=st
  exact ⟨o,e,fun v z=>by rw [d] at z;cases z⟩
 keep:=fun i h h' st k=>st.at fun o e=>k it (by simp) o e
 item:=by
  intro X hP hw hK hc i pins s σ H E I hf st hg
  subst hP hw hK
  obtain ⟨xs,x,hq,hx⟩:=hg
  obtain ⟨its,rv,p,hz⟩:=I.tuple hq
  obtain ⟨u,hu,ru⟩:=rv.get hx
  obtain ⟨f0,f1,f2,f3,f4,f5⟩:=hf it (by simp)
  refine wpAny_pyNext_tuple_item st (show s.heap.IsTuple a its.toArray from p) (x:=u) (by simpa using hu) fun h' st' sb=>?_
  have I1:Inv X pins σ H { s with heap:=h' }:=I.turned (t':=s.toks) (fun b o hb e=>(sb.2 b hb).trans e) f0 f1 f3 f4 f5
  obtain ⟨o,e,c,d⟩:=id st'
  exact ⟨u,rfl,GC (s:={ s with heap:=h' }) e c d (by decide) ⟨x,H,I1,ru,⟨rfl,fun ys hy=>by rw [I.tuple_inj hy hq];exact hx⟩,st',fun b hb=>(hf b hb).1⟩⟩
 done:=by
  intro X hP hw hK hc i pins s σ H E I hf st hg
  subst hP hw hK
  obtain ⟨xs,hq,hx⟩:=hg
  obtain ⟨its,rv,p,hz⟩:=I.tuple hq
  obtain ⟨f0,f1,f2,f3,f4,f5⟩:=hf it (by simp)
  have hl:=rv.length
  exact wpAny_pyNext_tuple_end (I.ok.hd hc) st (show s.heap.IsTuple a its.toArray from p) (by simp;omega) fun h' eb=>⟨rfl,I.turned (t':=s.toks) (fun b o hb e=>eb b o hb e) f0 f1 f3 f4 f5⟩
 self:=fun _ _ _ _ _ st h=>wpAny_pyIter_tupleiter st h
theorem Py {P:Program} {w:World} {K:PySem.W.Frag} {tg:Expr} (it:Addr) (lo:Int) (n:Nat):rH P w K tg (Itr lo n) [it] it (fun i h=>IsRangeIter h it (lo + (i:Nat) * 1) ((n:Int) - (i:Nat)) 1) where
 mem:=by simp
 obj:=fun i h st b hb=>by
  have e:b=it:=by simpa using hb
  subst e
  exact ⟨_,st,fun v z=>by
   have z':Data.fields _=Data.cell v:=z
   cases z'⟩
 keep:=fun i h h' st k=>k it (by simp) _ st
 item:=by
  intro X hP hw hK hc i pins s σ H E I hf st hg
  subst hP hw hK
  obtain ⟨f0,f1,f2,f3,f4,f5⟩:=hf it (by simp)
  have W:=Walks.range (prog:=X.prog) (w:=X.w) (I.ok.hd hc) it lo 1 n
  refine W.item i s _ _ hg st fun v h' tk hv st' kk=>?_
  obtain ⟨t,rfl⟩:=hv
  have I1:Inv X pins σ H { s with heap:=h',toks:=tk }:=I.turned (fun b o hb e=>kk b o (by simpa using hb) e) f0 f1 f3 f4 f5
  refine ⟨_,rfl,GC (s:={ s with heap:=h',toks:=tk }) (n := "range_iterator") st' rfl rfl (by decide) ⟨.int (lo + i),H,I1,⟨t,?_⟩,⟨rfl,rfl⟩,st',fun b hb=>(hf b hb).1⟩⟩
  rw [Int.mul_one]
 done:=by
  intro X hP hw hK hc i pins s σ H E I hf st hg
  subst hP hw hK
  obtain ⟨f0,f1,f2,f3,f4,f5⟩:=hf it (by simp)
  exact wpAny_pyNext_range_end (I.ok.hd hc) st (by have:n ≤ i:=hg;omega) fun h' eb=>⟨rfl,I.turned (t':=s.toks) (fun b o hb e=>eb b o hb e) f0 f1 f3 f4 f5⟩
 self:=fun _ _ _ _ _ st h=>wpAny_pyIter_rangeiter st h
end L2
namespace L2
open PySem PySem.Spec PyProof.Rows
section
variable {X:Cx} {tg:Expr}
noncomputable def QM (K:PySem.W.Frag) (tl:TE):TI:=fun σ H R=>tl σ H fun x H1=>∃ a,x=.ref a∧(∃ xs,SqL K H1 a xs)∧R (Itl K a) H1
noncomputable def rO (K:PySem.W.Frag) (tl:TE):TI:=fun σ H R=>tl σ H fun x H1=>∃ a,x=.ref a∧(∃ xs,SqT K H1 a xs)∧R (Itt K a) H1
theorem Ec {l:Expr} {tl:TE} (hl:PE X l tl):PI X tg l (QM X.K tl):=by
 intro pins s σ H R I h
 refine thn (hl pins s σ H _ I h) fun v s1 hZ1=>?_
 obtain ⟨x,H1,I1,r1,q1⟩:=hZ1
 obtain ⟨a,e,⟨xs,hq⟩,q⟩:=q1
 subst e
 cases r1
 obtain ⟨its,rv,p,hz⟩:=I1.list hq
 refine wpAny_pyIter_list p.isList ?_
 refine ⟨s1.heap.objs.size,[s1.heap.objs.size],_,_,H1,rfl,I1.kept (t':=s1.toks) fun b o e=>Heap.get?_push_of_some _ e,vB a _,⟨_,Heap.get?_push_size _ rfl,rfl,rfl⟩,fun b hb=>?_,q⟩
 have e:b=s1.heap.objs.size:=by simpa using hb
 subst e
 exact I1.fpOk (Nat.le_refl _) (I1.hok.fresh (Nat.le_refl _))
theorem AK {l:Expr} {tl:TE} (hl:PE X l tl):PI X tg l (rO X.K tl):=by
 intro pins s σ H R I h
 refine thn (hl pins s σ H _ I h) fun v s1 hZ1=>?_
 obtain ⟨x,H1,I1,r1,q1⟩:=hZ1
 obtain ⟨a,e,⟨xs,hq⟩,q⟩:=q1
 subst e
 cases r1
 obtain ⟨its,rv,p,hz⟩:=I1.tuple hq
 refine wpAny_pyIter_tuple (show s1.heap.IsTuple a its.toArray from p) ?_
 refine ⟨s1.heap.objs.size,[s1.heap.objs.size],_,_,H1,rfl,I1.kept (t':=s1.toks) fun b o e=>Heap.get?_push_of_some _ e,Az a _,⟨_,Heap.get?_push_size _ rfl,rfl,rfl⟩,fun b hb=>?_,q⟩
 have e:b=s1.heap.objs.size:=by simpa using hb
 subst e
 exact I1.fpOk (Nat.le_refl _) (I1.hok.fresh (Nat.le_refl _))
theorem EF {pins:List (Addr × Obj)} {σ:St} {H:Hp} {s:Shared} {R:It→Hp→Prop} {E:Value→Shared→Prop} {lo hi:Int} {t u v:Tok} {tk:Nat} (I:Inv X pins σ H s) (h1:-(2 ^ 62) ≤ lo) (h2:lo < 2 ^ 62) (h3:-(2 ^ 62) ≤ hi) (h4:hi < 2 ^ 62)
  (q:R (Itr lo (hi - lo).toNat) H):wpAny (model X.prog X.w) X.A (pyIter (.ref s.heap.objs.size)) (PIE X pins σ tg R) E { s with heap:=s.heap.push { cls:=.type "range",data:=.fields #[.int lo t,.int hi u,.int 1 v] },toks:=tk }:=by
 refine wpAny_pyIter_range (IsRange.new ..) (small_one h1 h2 h3 h4) ?_
 have I1:Inv X pins σ H { s with heap:=s.heap.push { cls:=.type "range",data:=.fields #[.int lo t,.int hi u,.int 1 v] },toks:=tk }:=I.kept fun b o e=>Heap.get?_push_of_some _ e
 refine ⟨(s.heap.push { cls:=.type "range",data:=.fields #[.int lo t,.int hi u,.int 1 v] }).objs.size,[(s.heap.push { cls:=.type "range",data:=.fields #[.int lo t,.int hi u,.int 1 v] }).objs.size],_,_,H,rfl,
  I1.kept (t':=tk) fun b o e=>Heap.get?_push_of_some _ e,Py _ lo (hi - lo).toNat,?_,fun b hb=>?_,q⟩
 ·have e1:lo + ((0:Nat):Int) * 1=lo:=by simp
  have e2:(((hi - lo).toNat:Nat):Int) - ((0:Nat):Int)=Builtin.Range.rangeSize lo hi 1:=by rw [rangeSize_one];split <;> omega
  show IsRangeIter _ _ (lo + ((0:Nat):Int) * 1) ((((hi - lo).toNat:Nat):Int) - ((0:Nat):Int)) 1
  rw [e1,e2]
  exact Heap.get?_push_size _ rfl
 ·have e:b=(s.heap.push { cls:=.type "range",data:=.fields #[.int lo t,.int hi u,.int 1 v] }).objs.size:=by simpa using hb
  subst e
  exact I1.fpOk (Nat.le_refl _) (I1.hok.fresh (Nat.le_refl _))
noncomputable def EM (ta:TA):TI:=fun σ H R=>ta σ H fun vs H1=>∃ j:Int,vs=[.int j]∧-(2 ^ 62) ≤ j∧j < 2 ^ 62∧R (Itr 0 j.toNat) H1
noncomputable def AN (ta:TA):TI:=fun σ H R=>ta σ H fun vs H1=>∃ i j:Int,vs=[.int i,.int j]∧(-(2 ^ 62) ≤ i∧i < 2 ^ 62∧-(2 ^ 62) ≤ j∧j < 2 ^ 62)∧R (Itr i (j - i).toNat) H1
theorem Xf {a:Expr} {ta:TA} {p pos:Pos} (hg:Gl X "range") (hm:X.mg "range"=none) (ha:PA X [a] ta) (hs:starEach [a] X.env=[(false,eval a X.env)]:=by rfl):PI X tg (.Call (.Name "range" p) [a] [] pos) (EM ta):=by
 intro pins s σ H R I h
 refine Call_ (vm I hg hm boot_range (PyProof.Rows.callWith_type1 (thn (ha pos pins s σ H _ I h) fun us s1 hZ1=>?_) hs rfl))
 obtain ⟨vs,H1,I1,r1,q1⟩:=hZ1
 obtain ⟨j,e,q1,q2,q⟩:=q1
 subst e
 cases r1 with
 | cons r rr=>
  cases rr
  obtain ⟨t,rfl⟩:=r
  exact call_range_1 (EF I1 (by omega) (by omega) q1 q2 (by simpa using q))
noncomputable def MO (wi:TI) (g:TG) (tb:TS):TS:=fun D σ H=>wi σ H fun J H1=>∃ W:Nat→Nat→St→Hp→Prop,(∃ m,W 0 m σ H1)∧∀ i m σ H,W i m σ H →
 (J.stop i H∧D.nx σ H)∨(J.go i H∧∃ N:St→Hp→Prop,(∀ σ' H',N σ' H'→∃ m',m' < m∧W (i + 1) m' σ' H')∧∀ x H',J.yld i H x H'→g x σ H' fun σ2 H2=>tb { D with nx:=N,ct:=N,bk:=D.nx } σ2 H2)
noncomputable def Fv (fp:List Addr) (h:Heap):List (Addr × Obj):=fp.filterMap fun b=>(h.get? b).map fun o=>(b,o)
theorem ak {fp:List Addr} {h:Heap} {b:Addr} {o:Obj} (hb:b ∈ fp) (e:h.get? b=some o):(b,o) ∈ Fv fp h:=List.mem_filterMap.mpr ⟨b,hb,by rw [e];rfl⟩
theorem bC {fp:List Addr} {h:Heap} {p:Addr × Obj} (hp:p ∈ Fv fp h):p.1 ∈ fp∧h.get? p.1=some p.2:=by
 obtain ⟨b,hb,e⟩:=List.mem_filterMap.mp hp
 cases q:h.get? b with
 | none=>rw [q] at e;cases e
 | some o=>
  rw [q] at e
  have e':(b,o)=p:=Option.some.inj e
  subst e'
  exact ⟨hb,q⟩
theorem Inv.pinned {pins:List (Addr × Obj)} {σ:St} {H:Hp} {s:Shared} {fp:List Addr} (I:Inv X pins σ H s) (hf:∀ b ∈ fp,Cu X pins H b) (ho:∀ b ∈ fp,∃ o,s.heap.get? b=some o∧∀ v,o.data ≠ .cell v):Inv X (pins ++ Fv fp s.heap) σ H s:=
 I.pins_of fun p hp=>(List.mem_append.mp hp).elim (fun z=>I.pin p (List.mem_append_right _ z)) fun z=>by
  obtain ⟨hb,e⟩:=bC z
  obtain ⟨f0,f1,f2,_⟩:=hf p.1 hb
  obtain ⟨o,e',d⟩:=ho p.1 hb
  rw [e] at e';cases e'
  exact ⟨e,f0,f1,f2,d⟩
theorem Inv.unpinned {pins pl:List (Addr × Obj)} {σ:St} {H:Hp} {s:Shared} (I:Inv X (pins ++ pl) σ H s):Inv X pins σ H s:=I.pins_of fun p hp=>I.pin p (List.mem_append_right _ (List.mem_append_left _ hp))
theorem Vd {iter:Expr} {body:List Stmt} {wi:TI} {g:TG} {tb:TS} {pos:Pos} (hp:PassesOwn (model X.prog X.w) X.A X.env X.xe) (hc:X.calm=true) (hi:PI X tg iter wi) (hg:PG X tg g) (hb:PSs X body tb)
  (hs:∀ x,foldedSetIterable iter X.env x=pure x:=by intro _;rfl):PS X (.For tg iter body [] pos) (MO wi g tb):=by
 intro pins s σ H D I h
 refine wpAny_For (thn (hi pins s σ H _ I h) fun v s1 h1=>thn h1 fun itv s2 h2=>?_) hs
 obtain ⟨it,fp,tn,J,H2,e,I2,T,st2,f2,W,⟨m0,w0⟩,turn⟩:=h2
 subst e
 -- what stays true of the iterator's objects through the loop
 have stat:∀ {H':Hp},(∀ b ∈ fp,H' b=none)→∀ b ∈ fp,Cu X pins H' b:=fun hn b hb=>⟨hn b hb,(f2 b hb).2⟩
 refine codeAny_forLoop_any (fun n s'=>∃ i σ' H',Inv X pins σ' H' s'∧tn i s'.heap∧(∀ b ∈ fp,H' b=none)∧W i n σ' H') ?_ m0 ⟨0,σ,H2,I2,st2,fun b hb=>(f2 b hb).1,w0⟩
 rintro n s3 ⟨i,σ3,H3,I3,st3,fr3,w3⟩
 rcases turn i n σ3 H3 w3 with ⟨stop,qn⟩ | ⟨go,N,hN,step⟩
 ·refine wpAny_passesOwn hp (thn (T.done X rfl rfl rfl hc i pins s3 σ3 H3 X.xe I3 (stat fr3) st3 stop) fun r s4 hZ1=>?_)
  obtain ⟨hr,I4⟩:=hZ1
  subst hr
  exact wpAny_execs_nil ⟨σ3,H3,I4,qn⟩
 ·refine wpAny_passesOwn hp (thn (T.item X rfl rfl rfl hc i pins s3 σ3 H3 X.xe I3 (stat fr3) st3 go) fun r s4 hZ1=>?_)
  obtain ⟨u,hr,h4⟩:=hZ1
  subst hr
  refine wpAny_passesOwn hp (thn h4 fun _ s5 hZ1=>?_)
  obtain ⟨x,H5,I5,r5,y5,st5,fr5⟩:=hZ1
  have I5':=I5.pinned (stat fr5) (T.obj _ _ st5)
  refine wpAny_passesOwn hp (thn (hg _ s5 σ3 H5 x u _ I5' r5 (step x H5 y5)) fun _ s6 hZ1=>?_)
  obtain ⟨σ6,H6,I6,q6⟩:=hZ1
  refine wpAny_passesOwn hp (thn (hb _ s6 σ6 H6 _ I6 q6) fun f s7 q7=>?_)
  have again:∀ {σ7:St} {H7:Hp},Inv X (pins ++ Fv fp s5.heap) σ7 H7 s7→N σ7 H7→∃ m,m < n∧∃ i σ' H',Inv X pins σ' H' s7∧tn i s7.heap∧(∀ b ∈ fp,H' b=none)∧W i m σ' H':=fun {σ7 H7} I7 n7=>by
   obtain ⟨m',hm,w7⟩:=hN σ7 H7 n7
   refine ⟨m',hm,i + 1,σ7,H7,I7.unpinned,T.keep _ _ _ st5 fun b hb o e=>(I7.pin (b,o) (List.mem_append_right _ (List.mem_append_right _ (ak hb e)))).1,fun b hb=>?_,w7⟩
   obtain ⟨o,e,d⟩:=T.obj _ _ st5 b hb
   exact (I7.pin (b,o) (List.mem_append_right _ (List.mem_append_right _ (ak hb e)))).2.1
  cases f with
  | next=>obtain ⟨σ7,H7,I7,n7⟩:=q7;exact again I7 n7
  | cont=>obtain ⟨σ7,H7,I7,n7⟩:=q7;exact again I7 n7
  | brk=>obtain ⟨σ7,H7,I7,q7⟩:=q7;exact ⟨σ7,H7,I7.unpinned,q7⟩
  | ret v=>obtain ⟨x7,σ7,H7,I7,r7,q7⟩:=q7;exact ⟨x7,σ7,H7,I7.unpinned,r7,q7⟩
end
theorem NF {K:PySem.W.Frag} {a:Addr} {xs:List V} {g:TG} {tb:TS} {D:jg} {σ:St} {H:Hp} (Pv:Nat→St→Hp→Prop) (h0:Pv 0 σ H) (hl:∀ i σ H,i ≤ xs.length→Pv i σ H→SqL K H a xs)
  (hs:∀ i x σ H,xs[i]? = some x→Pv i σ H→g x σ H fun σ2 H2=>tb { D with nx:=Pv (i + 1),ct:=Pv (i + 1),bk:=D.nx } σ2 H2) (hd:∀ σ H,Pv xs.length σ H→D.nx σ H) :
  ∃ W:Nat→Nat→St→Hp→Prop,(∃ m,W 0 m σ H)∧∀ i m σ H,W i m σ H →
   ((Itl K a).stop i H∧D.nx σ H)∨((Itl K a).go i H∧∃ N:St→Hp→Prop,(∀ σ' H',N σ' H'→∃ m',m' < m∧W (i + 1) m' σ' H')∧∀ x H',(Itl K a).yld i H x H'→g x σ H' fun σ2 H2=>tb { D with nx:=N,ct:=N,bk:=D.nx } σ2 H2):=by
 refine ⟨fun i m σ H=>m=xs.length - i∧i ≤ xs.length∧Pv i σ H,⟨xs.length,by simp,Nat.zero_le _,h0⟩,?_⟩
 rintro i m σ H ⟨rfl,hi,p⟩
 have q:=hl i σ H hi p
 by_cases hlt:i < xs.length
 ·refine .inr ⟨⟨xs,xs[i],q,by simp [hlt]⟩,Pv (i + 1),fun σ' H' p'=>⟨xs.length - (i + 1),by omega,rfl,hlt,p'⟩,fun x H' y=>?_⟩
  obtain ⟨e,y⟩:=y
  subst e
  exact hs i x σ _ (y xs q) p
 ·have e:i=xs.length:=by omega
  subst e
  exact .inl ⟨⟨xs,q,Nat.le_refl _⟩,hd σ H p⟩
theorem iC {lo:Int} {n:Nat} {g:TG} {tb:TS} {D:jg} {σ:St} {H:Hp} (Pv:Nat→St→Hp→Prop) (h0:Pv 0 σ H)
  (hs:∀ i σ H,i < n→Pv i σ H→g (.int (lo + i)) σ H fun σ2 H2=>tb { D with nx:=Pv (i + 1),ct:=Pv (i + 1),bk:=D.nx } σ2 H2) (hd:∀ σ H,Pv n σ H→D.nx σ H) :
  ∃ W:Nat→Nat→St→Hp→Prop,(∃ m,W 0 m σ H)∧∀ i m σ H,W i m σ H →
   ((Itr lo n).stop i H∧D.nx σ H)∨((Itr lo n).go i H∧∃ N:St→Hp→Prop,(∀ σ' H',N σ' H'→∃ m',m' < m∧W (i + 1) m' σ' H')∧∀ x H',(Itr lo n).yld i H x H'→g x σ H' fun σ2 H2=>tb { D with nx:=N,ct:=N,bk:=D.nx } σ2 H2):=by
 refine ⟨fun i m σ H=>m=n - i∧i ≤ n∧Pv i σ H,⟨n,by simp,Nat.zero_le _,h0⟩,?_⟩
 rintro i m σ H ⟨rfl,hi,p⟩
 by_cases hlt:i < n
 ·refine .inr ⟨hlt,Pv (i + 1),fun σ' H' p'=>⟨n - (i + 1),by omega,rfl,hlt,p'⟩,fun x H' y=>?_⟩
  obtain ⟨e,y⟩:=y
  subst e y
  exact hs i σ _ hlt p
 ·have e:i=n:=by omega
  subst e
  exact .inl ⟨Nat.le_refl _,hd σ H p⟩
end L2
namespace L2
open PySem PySem.Spec PyProof.Rows
noncomputable abbrev R2:=V→V→Hp→VK→Prop
noncomputable def OpR (X:Cx) (f:Value→Value→Sem Value) (r:R2):Prop:=
 ∀ (pins:List (Addr × Obj)) (s:Shared) (σ:St) (H:Hp) (x y:V) (v u:Value) (Q:VK),Inv X pins σ H s→yd x v→yd y u→r x y H Q →
  wpAny (model X.prog X.w) X.A (f v u) (EP X pins σ Q) X.xe s
noncomputable def UnR (X:Cx) (f:Value→Sem Value) (r:V→Hp→VK→Prop):Prop:=
 ∀ (pins:List (Addr × Obj)) (s:Shared) (σ:St) (H:Hp) (x:V) (v:Value) (Q:VK),Inv X pins σ H s→yd x v→r x H Q →
  wpAny (model X.prog X.w) X.A (f v) (EP X pins σ Q) X.xe s
noncomputable def Nm (X:Cx) (f:Value) (r:List V→Hp→VK→Prop):Prop:=
 ∀ (pins:List (Addr × Obj)) (s:Shared) (σ:St) (H:Hp) (xs:List V) (us:List Value) (Q:VK),Inv X pins σ H s→Wc xs us→r xs H Q →
  wpAny (model X.prog X.w) X.A (call f us) (EP X pins σ Q) X.xe s
noncomputable def wP (X:Cx) (r:V→Hp→(Bool→Hp→Prop)→Prop):Prop:=
 ∀ (pins:List (Addr × Obj)) (s:Shared) (σ:St) (H:Hp) (x:V) (v:Value) (Q:Bool→Hp→Prop),Inv X pins σ H s→yd x v→r x H Q →
  wpAny (model X.prog X.w) X.A (truthy v) (TP X pins σ Q) X.xe s
noncomputable def tOp (r:R2) (ta tb:TE):TE:=fun σ H Q=>ta σ H fun x H1=>tb σ H1 fun y H2=>r x y H2 Q
noncomputable def tUn (r:V→Hp→VK→Prop) (ta:TE):TE:=fun σ H Q=>ta σ H fun x H1=>r x H1 Q
noncomputable def rI (C:Int→Int→Prop) (g:Int→Int→V):R2:=fun x y H Q=>∃ i j,x=.int i∧y=.int j∧C i j∧Q (g i j) H
noncomputable def rI0 (g:Int→Int→V):R2:=fun x y H Q=>∃ i j,x=.int i∧y=.int j∧Q (g i j) H
noncomputable def rU (g:Int→V):V→Hp→VK→Prop:=fun x H Q=>∃ i,x=.int i∧Q (g i) H
section
variable {X:Cx} {a b c:Expr} {ta tb tc:TE} {pos:Pos}
theorem qN (ha:PE X a ta) (hb:PE X b tb) {pins:List (Addr × Obj)} {s:Shared} {σ:St} {H:Hp} {R:V→V→Hp→Prop} (I:Inv X pins σ H s)
  (h:ta σ H fun x H1=>tb σ H1 fun y H2=>R x y H2) {Q:Value→Shared→Prop} {f:Value→Value→Sem Value}
  (hf:∀ v u s2 x y H2,Inv X pins σ H2 s2→yd x v→yd y u→R x y H2→wpAny (model X.prog X.w) X.A (f v u) Q X.xe s2) :
  wpAny (model X.prog X.w) X.A (eval a X.env) (fun v s₁=>wpAny (model X.prog X.w) X.A (eval b X.env) (fun u s₂=>wpAny (model X.prog X.w) X.A (f v u) Q X.xe s₂) X.xe s₁) X.xe s:=by
 refine thn (ha pins s σ H _ I h) fun v s1 hZ1=>?_
 obtain ⟨x,H1,I1,r1,q1⟩:=hZ1
 refine thn (hb pins s1 σ H1 _ I1 q1) fun u s2 hZ1=>?_
 obtain ⟨y,H2,I2,r2,q2⟩:=hZ1
 exact hf v u s2 x y H2 I2 r1 r2 q2
theorem Ib {op:Operator} {r:R2} (ho:OpR X (binaryOp op) r) (ha:PE X a ta) (hb:PE X b tb):PE X (.BinOp a op b pos) (tOp r ta tb):=by
 intro pins s σ H Q I h
 exact wpAny_BinOp (qN ha hb I h fun v u s2 x y H2 I2 rx ry q=>ho pins s2 σ H2 x y v u Q I2 rx ry q)
theorem iM {op:UnaryOp} {r:V→Hp→VK→Prop} (ho:UnR X (unaryOp op) r) (ha:PE X a ta):PE X (.UnaryOp op a pos) (tUn r ta):=by
 intro pins s σ H Q I h
 exact UnaryOp_ (thn (ha pins s σ H _ I h) fun v s1 ⟨x,H1,I1,r1,q1⟩=>ho pins s1 σ H1 x v Q I1 r1 q1)
theorem opI {f:Value→Value→Sem Value} {C:Int→Int→Prop} {g:Int→Int→Int}
  (rule:∀ (i j:Int) (t u:Tok) (s:Shared) (Q:Value→Shared→Prop) (E:Value→Shared→Prop),C i j→Q (.int (g i j) s.toks) { s with toks:=s.toks + 1 }→wpAny (model X.prog X.w) X.A (f (.int i t) (.int j u)) Q E s) :
  OpR X f (rI C fun i j=>.int (g i j)):=by
 intro pins s σ H x y v u Q I rx ry h
 obtain ⟨i,j,rfl,rfl,hc,q⟩:=h
 obtain ⟨t,rfl⟩:=rx
 obtain ⟨t',rfl⟩:=ry
 exact rule i j t t' s _ _ hc ⟨.int (g i j),H,I.tok _,⟨_,rfl⟩,q⟩
theorem SO {f:Value→Value→Sem Value} {g:Int→Int→Int}
  (rule:∀ (i j:Int) (t u:Tok) (s:Shared) (Q:Value→Shared→Prop) (E:Value→Shared→Prop),Q (.int (g i j) s.toks) { s with toks:=s.toks + 1 }→wpAny (model X.prog X.w) X.A (f (.int i t) (.int j u)) Q E s) :
  OpR X f (rI0 fun i j=>.int (g i j)):=by
 intro pins s σ H x y v u Q I rx ry h
 obtain ⟨i,j,rfl,rfl,q⟩:=h
 obtain ⟨t,rfl⟩:=rx
 obtain ⟨t',rfl⟩:=ry
 exact rule i j t t' s _ _ ⟨.int (g i j),H,I.tok _,⟨_,rfl⟩,q⟩
theorem jN {f:Value→Value→Sem Value} {g:Int→Int→Bool}
  (rule:∀ (i j:Int) (t u:Tok) (s:Shared) (Q:Value→Shared→Prop) (E:Value→Shared→Prop),Q (.bool (g i j)) s→wpAny (model X.prog X.w) X.A (f (.int i t) (.int j u)) Q E s) :
  OpR X f (rI0 fun i j=>.bl (g i j)):=by
 intro pins s σ H x y v u Q I rx ry h
 obtain ⟨i,j,rfl,rfl,q⟩:=h
 obtain ⟨t,rfl⟩:=rx
 obtain ⟨t',rfl⟩:=ry
 exact rule i j t t' s _ _ ⟨.bl (g i j),H,I,rfl,q⟩
noncomputable def fP (i j:Int):Prop:=0 < j∧j < 1073741824
noncomputable def kP (i j:Int):Prop:=0 ≤ j∧j ≤ 1000000∧i.natAbs < 2 ^ 64
noncomputable def FG (i j:Int):Prop:=(-(2 ^ 64) < i∧i < 2 ^ 64)∨(-(2 ^ 64) < j∧j < 2 ^ 64)
theorem FG.ok {i j:Int} (h:FG i j):IntMulOk i j:=by
 rcases h with ⟨h1,h2⟩ | ⟨h1,h2⟩
 ·exact .of_left (intBits_le_64 h1 h2)
 ·exact .of_right (intBits_le_64 h1 h2)
theorem xc:OpR X (binaryOp .Add) (rI0 fun i j=>.int (i + j)):=SO fun _ _ _ _ _ _ _ q=>add_int q
theorem Gg:OpR X (binaryOp .Sub) (rI0 fun i j=>.int (i - j)):=SO fun _ _ _ _ _ _ _ q=>sub_int q
theorem sv:OpR X (binaryOp .Mult) (rI FG fun i j=>.int (i * j)):=opI fun _ _ _ _ _ _ _ hc q=>mul_int q hc.ok
theorem RH:OpR X (binaryOp .FloorDiv) (rI fP fun i j=>.int (i / j)):=opI fun i j _ _ _ _ _ hc q=>by
 have h1:(0:Int) < j:=hc.1
 have h2:j < 1073741824:=hc.2
 exact floordiv_int (by omega) (by rw [Int.fdiv_eq_ediv_of_nonneg i (by omega)];exact q) (.inl (PyProof.noPylong_small (by omega)))
theorem Le:OpR X (binaryOp .Mod) (rI (fun _ j=>0 < j) fun i j=>.int (i % j)):=opI fun i j _ _ _ _ _ hc q=>by
 have h1:(0:Int) < j:=hc
 exact mod_int' (by omega) (by rw [Int.fmod_eq_emod_of_nonneg i (by omega)];exact q)
theorem ML:OpR X (binaryOp .Pow) (rI kP fun i j=>.int (i ^ j.toNat)):=opI fun _ _ _ _ _ _ _ hc q=>pow_int_small hc.1 hc.2.1 hc.2.2 q
theorem unI {f:Value→Sem Value} {g:Int→Int}
  (rule:∀ (i:Int) (t:Tok) (s:Shared) (Q:Value→Shared→Prop) (E:Value→Shared→Prop),Q (.int (g i) s.toks) { s with toks:=s.toks + 1 }→wpAny (model X.prog X.w) X.A (f (.int i t)) Q E s) :
  UnR X f (rU fun i=>.int (g i)):=by
 intro pins s σ H x v Q I rx h
 obtain ⟨i,rfl,q⟩:=h
 obtain ⟨t,rfl⟩:=rx
 exact rule i t s _ _ ⟨.int (g i),H,I.tok _,⟨_,rfl⟩,q⟩
theorem iH:UnR X (unaryOp .USub) (rU fun i=>.int (-i)):=unI fun _ _ _ _ _ q=>neg_int q
end
noncomputable def ZK:V→V→Bool
 | .non,.non=>true | .non,.int _=>true | .int _,.non=>true | .non,.bl _=>true | .bl _,.non=>true | .non,.str _=>true | .str _,.non=>true
 | .int _,.int _=>true | .bl _,.bl _=>true | .str _,.str _=>true | .byt _,.byt _=>true
 | .int _,.str _=>true | .str _,.int _=>true | .bl _,.str _=>true | .str _,.bl _=>true
 | _,_=>false
noncomputable def rEq:R2:=fun x y H Q=>ZK x y=true∧Q (.bl (decide (x=y))) H
noncomputable def rNe:R2:=fun x y H Q=>ZK x y=true∧Q (.bl (!decide (x=y))) H
theorem gA {i j:Int}:decide (V.int i=V.int j)=(i == j):=by
 rw [Bool.eq_iff_iff]
 simp
theorem QG {i j:Bool}:decide (V.bl i=V.bl j)=(i == j):=by
 rw [Bool.eq_iff_iff]
 simp
theorem uC {i j:Str}:decide (V.str i=V.str j)=(i == j):=by
 rw [Bool.eq_iff_iff]
 simp
theorem iB {i j:Array UInt8}:decide (V.byt i=V.byt j)=(i.toList == j.toList):=by
 rw [Bool.eq_iff_iff]
 cases i
 cases j
 simp
section
variable {X:Cx} {a b c:Expr} {ta tb tc:TE} {pos:Pos}
theorem ad {pins:List (Addr × Obj)} {σ:St} {H:Hp} {s:Shared} {Q:VK} {k k':Bool} (I:Inv X pins σ H s) (q:Q (.bl k) H) (e:k=k'):EP X pins σ Q (.bool k') s:=by
 subst e
 exact ⟨.bl k,H,I,rfl,q⟩
theorem Dj:OpR X (compareOp .Eq) rEq:=by
 intro pins s σ H x y v u Q I rx ry h
 obtain ⟨hs,q⟩:=h
 cases x with
 | non=>
  cases rx
  cases y with
  | non=>cases ry;exact PySem.EqNone.eq_none_none (ad I q (by simp))
  | bl j=>cases ry;exact PySem.EqNone.eq_none_bool (ad I q (by simp))
  | int j=>obtain ⟨t',rfl⟩:=ry;exact PySem.EqNone.eq_none_int (ad I q (by simp))
  | str j=>obtain ⟨t',rfl⟩:=ry;exact PySem.EqNone.eq_none_str (ad I q (by simp))
  | _=>exact absurd (show false=true from hs) Bool.false_ne_true
 | bl i=>
  cases rx
  cases y with
  | non=>cases ry;exact PySem.EqNone.eq_bool_none (ad I q (by simp))
  | bl j=>cases ry;exact eq_bool (ad I q QG)
  | str j=>obtain ⟨t',rfl⟩:=ry;exact PySem.EqMixed.eq_bool_str (ad I q (by simp))
  | _=>exact absurd (show false=true from hs) Bool.false_ne_true
 | int i=>
  obtain ⟨t,rfl⟩:=rx
  cases y with
  | non=>cases ry;exact PySem.EqNone.eq_int_none (ad I q (by simp))
  | int j=>obtain ⟨t',rfl⟩:=ry;exact eq_int (ad I q gA)
  | str j=>obtain ⟨t',rfl⟩:=ry;exact PySem.EqMixed.eq_int_str (ad I q (by simp))
  | _=>exact absurd (show false=true from hs) Bool.false_ne_true
 | str i=>
  obtain ⟨t,rfl⟩:=rx
  cases y with
  | non=>cases ry;exact PySem.EqNone.eq_str_none (ad I q (by simp))
  | bl j=>cases ry;exact PySem.EqMixed.eq_str_bool (ad I q (by simp))
  | int j=>obtain ⟨t',rfl⟩:=ry;exact PySem.EqMixed.eq_str_int (ad I q (by simp))
  | str j=>obtain ⟨t',rfl⟩:=ry;exact eq_str (ad I q uC)
  | _=>exact absurd (show false=true from hs) Bool.false_ne_true
 | byt i=>
  obtain ⟨t,rfl⟩:=rx
  cases y with
  | byt j=>obtain ⟨t',rfl⟩:=ry;exact PySem.W.eq_bytes (ad I q iB)
  | _=>exact absurd (show false=true from hs) Bool.false_ne_true
 | _=>cases y <;> exact absurd (show false=true from hs) Bool.false_ne_true
theorem xw:OpR X (compareOp .NotEq) rNe:=by
 intro pins s σ H x y v u Q I rx ry h
 obtain ⟨hs,q⟩:=h
 cases x with
 | non=>
  cases rx
  cases y with
  | non=>cases ry;exact PySem.EqNone.ne_none_none (ad I q (by simp))
  | bl j=>cases ry;exact PySem.EqNone.ne_none_bool (ad I q (by simp))
  | int j=>obtain ⟨t',rfl⟩:=ry;exact PySem.EqNone.ne_none_int (ad I q (by simp))
  | str j=>obtain ⟨t',rfl⟩:=ry;exact PySem.EqNone.ne_none_str (ad I q (by simp))
  | _=>exact absurd (show false=true from hs) Bool.false_ne_true
 | bl i=>
  cases rx
  cases y with
  | non=>cases ry;exact PySem.EqNone.ne_bool_none (ad I q (by simp))
  | bl j=>cases ry;exact ne_bool (ad I q (congrArg not QG))
  | str j=>obtain ⟨t',rfl⟩:=ry;exact PySem.EqMixed.ne_bool_str (ad I q (by simp))
  | _=>exact absurd (show false=true from hs) Bool.false_ne_true
 | int i=>
  obtain ⟨t,rfl⟩:=rx
  cases y with
  | non=>cases ry;exact PySem.EqNone.ne_int_none (ad I q (by simp))
  | int j=>obtain ⟨t',rfl⟩:=ry;exact ne_int (ad I q (congrArg not gA))
  | str j=>obtain ⟨t',rfl⟩:=ry;exact PySem.EqMixed.ne_int_str (ad I q (by simp))
  | _=>exact absurd (show false=true from hs) Bool.false_ne_true
 | str i=>
  obtain ⟨t,rfl⟩:=rx
  cases y with
  | non=>cases ry;exact PySem.EqNone.ne_str_none (ad I q (by simp))
  | bl j=>cases ry;exact PySem.EqMixed.ne_str_bool (ad I q (by simp))
  | int j=>obtain ⟨t',rfl⟩:=ry;exact PySem.EqMixed.ne_str_int (ad I q (by simp))
  | str j=>obtain ⟨t',rfl⟩:=ry;exact ne_str (ad I q (congrArg not uC))
  | _=>exact absurd (show false=true from hs) Bool.false_ne_true
 | byt i=>
  obtain ⟨t,rfl⟩:=rx
  cases y with
  | byt j=>obtain ⟨t',rfl⟩:=ry;exact PySem.W.ne_bytes (ad I q (congrArg not iB))
  | _=>exact absurd (show false=true from hs) Bool.false_ne_true
 | _=>cases y <;> exact absurd (show false=true from hs) Bool.false_ne_true
theorem ft:OpR X (compareOp .Lt) (rI0 fun i j=>.bl (decide (i < j))):=jN fun _ _ _ _ _ _ _ q=>lt_int q
theorem yN:OpR X (compareOp .LtE) (rI0 fun i j=>.bl (decide (i ≤ j))):=jN fun _ _ _ _ _ _ _ q=>le_int q
theorem vF:OpR X (compareOp .Gt) (rI0 fun i j=>.bl (decide (j < i))):=jN fun _ _ _ _ _ _ _ q=>gt_int q
theorem aO:OpR X (compareOp .GtE) (rI0 fun i j=>.bl (decide (j ≤ i))):=jN fun _ _ _ _ _ _ _ q=>ge_int q
theorem JA:OpR X (compareOp .In) (fun x y H Q=>∃ i j,x=.str i∧y=.str j∧Q (.bl (!(Builtin.Str.occurrences j i 0 j.length 1).isEmpty)) H):=by
 intro pins s σ H x y v u Q I rx ry h
 obtain ⟨i,j,rfl,rfl,q⟩:=h
 obtain ⟨t,rfl⟩:=rx
 obtain ⟨t',rfl⟩:=ry
 exact in_str (ad I q rfl)
theorem wJ:OpR X (compareOp .IsNot) (fun x y H Q=>y=.non∧Q (.bl (!decide (x=.non))) H):=by
 intro pins s σ H x y v u Q I rx ry h
 obtain ⟨rfl,q⟩:=h
 cases ry
 refine isnot_none_gen (ad I q ?_)
 cases x <;> first
  | (cases rx;rfl)
  | (obtain ⟨t,rfl⟩:=rx;rfl)
theorem dc (b:Expr) {op:CmpOp} (h:op ≠ .In:=by decide) (h2:op ≠ .NotIn:=by decide):behindInMarks op b=false:=by
 have e1:(op == CmpOp.In)=false:=by cases op <;> first | rfl | exact absurd rfl h
 have e2:(op == CmpOp.NotIn)=false:=by cases op <;> first | rfl | exact absurd rfl h2
 cases b <;> simp [behindInMarks,e1,e2]
theorem wf {op:CmpOp} {r:R2} (ho:OpR X (compareOp op) r) (ha:PE X a ta) (hb:PE X b tb) (hm:behindInMarks op b=false):PE X (.Compare a [op] [b] pos) (tOp r ta tb):=by
 intro pins s σ H Q I h
 exact wpAny_Compare1 (qN ha hb I h fun v u s2 x y H2 I2 rx ry q=>ho pins s2 σ H2 x y v u Q I2 rx ry q) hm
noncomputable def bM (t:TE):TT:=fun σ H Q=>t σ H fun x H'=>∃ k,x=.bl k∧Q k H'
theorem Yb {op:CmpOp} {r:R2} (ho:OpR X (compareOp op) r) (ha:PE X a ta) (hb:PE X b tb) (hm:behindInMarks op b=false):PT X (.Compare a [op] [b] pos) (bM (tOp r ta tb)):=by
 intro pins s σ H Q I h
 refine wpAny_isTrue_Compare1 (thn (ha pins s σ H _ I h) fun v s1 ⟨x,H1,I1,r1,q1⟩=>thn (hb pins s1 σ H1 _ I1 q1) fun u s2 ⟨y,H2,I2,r2,q2⟩=>
  thn (ho pins s2 σ H2 x y v u _ I2 r1 r2 q2) fun c s3 ⟨z,H3,I3,r3,k,e,q3⟩=>?_) hm
 subst e
 cases r3
 exact wpAny_truthy_bool ⟨H3,I3,q3⟩
noncomputable def TL (r r':R2) (ta tb tc:TE):TE:=fun σ H Q=>ta σ H fun x H1=>tb σ H1 fun y H2=>r x y H2 fun z H3=>∃ k,z=.bl k ∧
 (if k=true then tc σ H3 fun w' H4=>r' y w' H4 Q else Q (.bl false) H3)
noncomputable def DO (K:PySem.W.Frag) (x:V) (H:Hp) (k:Bool):Prop:=
 match x with
 | .non=>k=false
 | .bl b=>k=b
 | .int i=>k=(i != 0)
 | .str y=>y.length ≤ sizeLine∧k=((y.length:Int) != 0)
 | .byt y=>y.size ≤ sizeLine∧k=((y.size:Int) != 0)
 | .ref p=>(∃ xs,SqL K H p xs∧k = !xs.isEmpty)∨(∃ xs,SqT K H p xs∧k = !xs.isEmpty)∨∃ kvs,H p=some (.dK kvs)∧k = !kvs.isEmpty
 | _=>False
theorem Vz {κ:Type} {kvs:List (κ × V)} {vs:List (κ × Value)} (r:KV kvs vs):(!vs.isEmpty) = !kvs.isEmpty:=by
 cases r <;> rfl
theorem Rr {xs:List V} {its:List Value} (r:Wc xs its):(!its.toArray.isEmpty) = !xs.isEmpty:=by
 cases r <;> simp
theorem Up:(sizeLine:Nat) < 2 ^ 63:=by rw [sizeLine_eq];decide
theorem dL:wP X (fun x H Q=>∃ k,DO X.K x H k∧Q k H):=by
 intro pins s σ H x v Q I rx h
 obtain ⟨k,e,q⟩:=h
 have hl:=Up
 have hs:sizeLine=16777216:=sizeLine_eq
 cases x with
 | non=>
  cases rx
  have e':k=false:=e
  subst e'
  exact truthy_none ⟨H,I,q⟩
 | bl b=>
  cases rx
  have e':k=b:=e
  subst e'
  exact wpAny_truthy_bool ⟨H,I,q⟩
 | int i=>
  obtain ⟨t,rfl⟩:=rx
  have e':k=(i != 0):=e
  subst e'
  exact PySem.P.truthy_int ⟨H,I,q⟩
 | str y=>
  obtain ⟨t,rfl⟩:=rx
  obtain ⟨hy,e'⟩:y.length ≤ sizeLine∧k=((y.length:Int) != 0):=e
  subst e'
  exact PySem.P.truthy_str (by omega) ⟨H,I.tok _,q⟩
 | byt y=>
  obtain ⟨t,rfl⟩:=rx
  obtain ⟨hy,e'⟩:y.size ≤ sizeLine∧k=((y.size:Int) != 0):=e
  subst e'
  exact PySem.W.truthy_bytes (by omega) ⟨H,I.tok _,q⟩
 | ref p=>
  cases rx
  have e':(∃ xs,SqL X.K H p xs∧k = !xs.isEmpty)∨(∃ xs,SqT X.K H p xs∧k = !xs.isEmpty)∨∃ kvs,H p=some (.dK kvs)∧k = !kvs.isEmpty:=e
  rcases e' with ⟨xs,hx,e'⟩ | ⟨xs,hx,e'⟩ | ⟨kvs,hx,e'⟩
  ·subst e'
   obtain ⟨its,r,pl,hz⟩:=I.list hx
   have hlen:=r.length
   exact wpAny_truthy_list pl.isList (by simp only [List.size_toArray];omega) ⟨H,I.tok _,by rw [Rr r];exact q⟩
  ·subst e'
   obtain ⟨its,r,pl,hz⟩:=I.tuple hx
   have hlen:=r.length
   exact truthy_tuple pl (by simp only [List.size_toArray];omega) ⟨H,I.tok _,by rw [Rr r];exact q⟩
  ·subst e'
   obtain ⟨hz,hS,vs,r,m⟩:kvs.length ≤ sizeLine∧(p == sysModules)=false∧∃ vs,KV kvs vs∧s.heap.DictOf (Wd X.prog X.w) p vs:=I.hok p _ hx
   have hlen:kvs.length=vs.length:=Paired.length r
   exact wpAny_truthy_dict hS m (by omega) ⟨H,I.tok _,by rw [Vz r];exact q⟩
 | _=>exact (show False from e).elim
theorem Ms (ha:PE X a ta) (he:∀ whole,isTrue a X.env whole=(do let v ← whole;standAt a.pos;holding [v] (truthy v))) :
  PT X a (fun σ H Q=>ta σ H fun x H'=>∃ k,DO X.K x H' k∧Q k H'):=by
 intro pins s σ H Q I h
 exact isTrue_plain (thn (ha pins s σ H _ I h) fun v s1 ⟨x,H1,I1,r1,q1⟩=>dL pins s1 σ H1 x v Q I1 r1 q1) (he _)
theorem jf:OpR X (binaryOp .Add) (fun x y H Q=>∃ i j,x=.str i∧y=.str j∧i.length + j.length ≤ sizeLine∧Q (.str (i ++ j)) H):=by
 intro pins s σ H x y v u Q I rx ry h
 obtain ⟨i,j,rfl,rfl,hz,q⟩:=h
 obtain ⟨t,rfl⟩:=rx
 obtain ⟨t',rfl⟩:=ry
 exact add_str (fun t' tk=>⟨.str (i ++ j),H,I.tok _,⟨_,rfl⟩,q⟩) hz
theorem zo {x:V} {us:List Value} (r:Wc [x] us):∃ u,us=[u]∧yd x u:=by
 cases r with
 | cons r1 r2=>cases r2;exact ⟨_,rfl,r1⟩
theorem ZJ {x y:V} {us:List Value} (r:Wc [x,y] us):∃ u w',us=[u,w']∧yd x u∧yd y w':=by
 cases r with
 | cons r1 r2=>
  cases r2 with
  | cons r3 r4=>cases r4;exact ⟨_,_,rfl,r1,r3⟩
theorem kD (hc:X.calm=true):Nm X (.builtin "max") (fun xs H Q=>∃ i j,xs=[.int i,.int j]∧Q (.int (if j > i then j else i)) H):=by
 intro pins s σ H xs us Q I r h
 obtain ⟨i,j,rfl,q⟩:=h
 obtain ⟨u,w',rfl,⟨t,rfl⟩,⟨t',rfl⟩⟩:=ZJ r
 refine max_two_ints (I.ok.hd hc) fun h' tk k=>⟨_,H,I.kept k,?_,q⟩
 by_cases hj:j > i
 ·rw [if_pos hj,if_pos hj];exact ⟨_,rfl⟩
 ·rw [if_neg hj,if_neg hj];exact ⟨_,rfl⟩
theorem Gj:Nm X (.type "str") (fun xs H Q=>∃ i,xs=[.int i]∧i.natAbs.log2 < 1920∧Q (.str (toString i)) H):=by
 intro pins s σ H xs us Q I r h
 obtain ⟨i,rfl,hz,q⟩:=h
 obtain ⟨u,rfl,t,rfl⟩:=zo r
 exact PySem.P.str_of_int hz ⟨.str _,H,I.tok _,⟨_,rfl⟩,q⟩
end
end L2
namespace L2
open PySem PySem.Spec PyProof.Rows
structure II (h:Heap) (x dx C:Addr) (mA:Str→Option Value):Prop where
 obj:h.get? x=some (PySem.W.instObj C dx)
 ns:h.Ns1 dx mA
 ne:dx ≠ x
theorem yp {h:Heap} {dx:Addr} {mA:Str→Option Value} (n:h.Ns1 dx mA):∃ od,h.get? dx=some od∧∀ name,PySem.W.lookIn name od=some (mA name):=by
 obtain ⟨o,es,ep,ho,hd,hk,_,hm⟩:=n
 refine ⟨o,ho,fun name=>?_⟩
 have e:=hm name
 unfold nsFind findBy at e
 rw [← Array.find?_toList] at e
 unfold PySem.W.lookIn
 rw [hd]
 dsimp only
 split
 ·rename_i y q
  rw [q] at e
  exact congrArg some e
 ·rename_i q
  rw [q] at e
  have a:es.toList.any (·.refKey)=false:=by
   rw [List.any_eq_false]
   intro y hy
   obtain ⟨z,t,hkey⟩:=hk y (Array.mem_toList_iff.mp hy)
   simp [DictEntry.refKey,hkey]
  have a':¬ es.toList.any (·.refKey)=true:=by rw [a];exact Bool.false_ne_true
  rw [if_neg a']
  exact congrArg some e
theorem II.look {h:Heap} {x dx C:Addr} {mA:Str→Option Value} (I:II h x dx C mA):∃ od,PySem.W.InstAt h x (PySem.W.instObj C dx) C (some od)∧∀ name,PySem.W.lookIn name od=some (mA name):=
 let ⟨od,ho,hl⟩:=yp I.ns
 ⟨od,⟨I.obj,rfl,rfl,ho⟩,hl⟩
section
variable {prog:Program} {w:World} {A:Around} {E:Value→Shared→Prop} {s:Shared} {K:PySem.W.Frag} {x dx C f:Addr} {mA:Str→Option Value} {name:Str} {v:Value}
theorem CJ {expr:Bool} {Q:Value→Shared→Prop} (X:K.In s.heap) (I:II s.heap x dx C mA) (hg:PySem.W.plainGet K C name=true) (hh:PySem.W.hasDictIn K C=true)
  (ha:PySem.W.findIn K (.ref C) name=some none) (hv:mA name=some v) (hv':PySem.W.handedIn v=true) (h:Q v { s with toks:=s.toks + 1 }) :
  wpAny (model prog w) A (getAttr (.ref x) name expr) Q E s:=by
 obtain ⟨od,J,hl⟩:=I.look
 exact PySem.W.get_value X J (PySem.W.plainGet_of hg).1 (PySem.W.findObj_own hh ha rfl (by rw [hl,hv])) hv' h
theorem bE {pl:Sem Bool} {Q:Value × List Value→Shared→Prop} (X:K.In s.heap) (I:II s.heap x dx C mA) (hg:PySem.W.plainGet K C name=true)
  (hf:PySem.W.findIn K (.ref C) name=some (some (.ref f))) (ht:PySem.W.isFn K (.ref f)=true) (hv:mA name=none) (h:Q (.ref f,[.ref x]) s) :
  wpAny (model prog w) A (getMethod (.ref x) name pl) Q E s:=by
 obtain ⟨od,J,hl⟩:=I.look
 exact PySem.W.method_fn X J (PySem.W.plainGet_of hg).1 (PySem.W.plainGet_of hg).2 hf (beq_iff_eq.mp ht) (by show (PySem.W.lookIn name od).map (·.isSome)=some false;rw [hl,hv];rfl) h
theorem NI {ns:List Str} {Q:Unit→Shared→Prop} (X:K.In s.heap) (I:II s.heap x dx C mA)
  (hs:PySem.W.findIn K (.ref C) "__setattr__"=some (some (.builtin "object.__setattr__"))) (hp:PySem.W.plainOver K C=true) (ht:PySem.W.takerIn K C name=some none) (hh:PySem.W.hasDictIn K C=true)
  (hw:PySem.Within mA ns) (hsz:ns.length ≤ sizeLine)
  (h:∀ h',II h' x dx C (fun y=>if y=name then some v else mA y)→Heap.SameBut dx s.heap h'→Q () { s with heap:=h',toks:=s.toks + 2 }) :
  wpAny (model prog w) A (setAttr (.ref x) name v) Q E s:=by
 obtain ⟨od,J,hl⟩:=I.look
 refine PySem.W.set_plain X J hs (PySem.W.osa_open (s:={ s with toks:=s.toks + 1 }) (r:=none) X J hp ht fun b=>?_)
 obtain ⟨cd,hc,hd'⟩:=PySem.W.any_some hh
 have hx:s.heap.get? x=some ⟨.ref C,some dx,.plain,#[]⟩:=I.obj
 refine wpAny_bind (wpAny_pure (wpAny_bind (wpAny_bind (wpAny_loadPart hx (wpAny_bind (PySem.W.Looks.here (s:={ s with toks:=s.toks + 1 }) (PySem.W.looks_clsIn X hc) ?_))))))
 rw [hd']
 refine wpAny_pure (a:=some dx) (wpAny_bind (wpAny_pure (wpAny_bind ?_)))
 refine wpAny_nsSet1 (s:={ s with toks:=s.toks + 1 }) I.ns fun h' hn2 hs2=>?_
 obtain ⟨oD,esD,epD,hoD,hdD,hcD⟩:=hn2.count (PySem.Within.cons name v hw)
 refine wpAny_bind (wpAny_lookBehind hoD (by rw [hdD];exact pastItsLine_dict (Nat.le_trans hcD (by rw [List.length_cons];omega))) ?_)
 exact wpAny_pure (h _ ⟨(hs2.2 _ (Ne.symm I.ne)).trans I.obj,hn2,I.ne⟩ hs2)
theorem hG {R:Result→Shared→Prop} {vs:List Value} {kw:List (Str × Value)} (X:K.In s.heap) (hm:PySem.W.makesIn K C=true)
  (hi:PySem.W.findIn K (.ref C) "__init__"=some (some (.ref f))) (hf:PySem.W.typeIn K (.ref f)=some (.type "function"))
  (h:codeAny (model prog w) (A.under (.builtin "type.__call__" ⟨.ref C :: vs,kw⟩)) (.call (.ref f) ⟨.ref (s.heap.objs.size + 1) :: vs,kw⟩) (PySem.W.InitBack (s.heap.objs.size + 1) R)
   { s with heap:=(s.heap.push PySem.W.emptyDict).push (PySem.W.instObj C s.heap.objs.size) }) :
  codeAny (model prog w) A (.call (.ref C) ⟨vs,kw⟩) R s:=by
 obtain ⟨hh,g,d,t,os⟩:=s
 exact PySem.W.make_core (PySem.W.makes_of X hm) (PySem.W.looks_findIn X hi) (fun self=>PySem.W.bind_fn X self hf) (.inl rfl) h
end
noncomputable def Ag (f:Str) (v:V):List (Str × V)→List (Str × V)
 | []=>[(f,v)]
 | (g,x) :: r=>if g=f then (g,v) :: r else (g,x) :: Ag f v r
theorem Zk (f g:Str) (v:V):∀ fs:List (Str × V),(Ag f v fs).lookup g=if g=f then some v else fs.lookup g
 | []=>by
  show List.lookup g [(f,v)]=_
  by_cases h:g=f
  ·have hb:(g == f)=true:=beq_iff_eq.mpr h
   simp only [List.lookup,hb,if_pos h]
  ·have hb:(g == f)=false:=beq_eq_false_iff_ne.mpr h
   simp only [List.lookup,hb,if_neg h]
 | (k,x) :: r=>by
  have ih:=Zk f g v r
  rw [show Ag f v ((k,x) :: r)=(if k=f then (k,v) :: r else (k,x) :: Ag f v r) from rfl]
  by_cases hk:k=f
  ·rw [if_pos hk]
   by_cases h:g=k
   ·have hb:(g == k)=true:=beq_iff_eq.mpr h
    simp only [List.lookup,hb,if_pos (h.trans hk)]
   ·have hb:(g == k)=false:=beq_eq_false_iff_ne.mpr h
    simp only [List.lookup,hb,if_neg (fun e:g=f=>h (e.trans hk.symm))]
  ·rw [if_neg hk]
   by_cases h:g=k
   ·have hb:(g == k)=true:=beq_iff_eq.mpr h
    simp only [List.lookup,hb,if_neg (fun e:g=f=>hk (h.symm.trans e))]
   ·have hb:(g == k)=false:=beq_eq_false_iff_ne.mpr h
    simp only [List.lookup,hb]
    exact ih
theorem xj (f:Str) (v:V):∀ fs:List (Str × V),f ∈ (Ag f v fs).map (·.1)∧∀ g,g ∈ fs.map (·.1)→g ∈ (Ag f v fs).map (·.1)
 | []=>⟨by simp [Ag],fun g h=>by simp at h⟩
 | (k,x) :: r=>by
  obtain ⟨i1,i2⟩:=xj f v r
  rw [show Ag f v ((k,x) :: r)=(if k=f then (k,v) :: r else (k,x) :: Ag f v r) from rfl]
  by_cases hk:k=f
  ·rw [if_pos hk]
   subst hk
   exact ⟨by simp,fun g h=>by simpa using h⟩
  ·rw [if_neg hk]
   refine ⟨?_,fun g h=>?_⟩
   ·rw [List.map_cons]
    exact List.mem_cons_of_mem _ i1
   ·rw [List.map_cons] at h ⊢
    rcases List.mem_cons.mp h with e | e
    ·exact List.mem_cons.mpr (.inl e)
    ·exact List.mem_cons_of_mem _ (i2 g e)
theorem Wk (f:Str) (v:V):∀ fs:List (Str × V),(Ag f v fs).length ≤ fs.length + 1
 | []=>by simp [Ag]
 | (k,x) :: r=>by
  have ih:=Wk f v r
  rw [show Ag f v ((k,x) :: r)=(if k=f then (k,v) :: r else (k,x) :: Ag f v r) from rfl]
  by_cases hk:k=f
  ·rw [if_pos hk,List.length_cons,List.length_cons];omega
  ·rw [if_neg hk,List.length_cons,List.length_cons];omega
theorem yq.some_of {v:V} {o:Option Value} (r:yq (some v) o):∃ u,o=some u∧yd v u:=by
 cases o with
 | none=>exact (show False from r).elim
 | some u=>exact ⟨u,rfl,r⟩
theorem yq.none_of {o:Option Value} (r:yq none o):o=none:=by
 cases o with
 | none=>rfl
 | some u=>exact (show False from r).elim
theorem qu {v:V} {u:Value} (r:yd v u):PySem.W.handedIn u=true:=by
 cases v with
 | non=>cases (show u=Value.none from r);rfl
 | bl b=>cases (show u=Value.bool b from r);rfl
 | int i=>obtain ⟨t,e⟩:=(show ∃ t,u=Value.int i t from r);cases e;rfl
 | str x=>obtain ⟨t,e⟩:=(show ∃ t,u=Value.str x t from r);cases e;rfl
 | byt b=>obtain ⟨t,e⟩:=(show ∃ t,u=Value.bytes b t from r);cases e;rfl
 | flt b=>obtain ⟨t,e⟩:=(show ∃ t,u=Value.float b t from r);cases e;rfl
 | ref a=>cases (show u=Value.ref a from r);rfl
 | ty n=>cases (show u=Value.type n from r);rfl
section
variable {P:Program} {w:World} {H H':Hp} {h h':Heap} {a C dx:Addr} {fs fs':List (Str × V)}
theorem Ls (hok:HOk P w H h) (e:H a=some (.ins C dx fs)):∃ mA,II h a dx C mA∧(∀ f,yq (fs.lookup f) (mA f))∧PySem.Within mA (fs.map (·.1))∧fs.length ≤ 1000∧H dx=some (.own a):=by
 obtain ⟨d,z,ne,ob,mA,n,r,q⟩:=(show kd P w H h a (.ins C dx fs) from hok a _ e)
 exact ⟨mA,⟨ob,n,ne⟩,r,q,z,d⟩
end
structure Cls (K:PySem.W.Frag) (C:Addr):Prop where
 pg:PySem.W.plainGet K C Str.empty=true
 hd:PySem.W.hasDictIn K C=true
 po:PySem.W.plainOver K C=true
 sa:PySem.W.findIn K (.ref C) "__setattr__"=some (some (.builtin "object.__setattr__"))
theorem Cls.get {K:PySem.W.Frag} {C:Addr} (c:Cls K C) (f:Str):PySem.W.plainGet K C f=true:=c.pg
noncomputable def Bb (K:PySem.W.Frag) (C:Addr) (f:Str):Prop:=PySem.W.findIn K (.ref C) f=some none
theorem Bb.taker {K:PySem.W.Frag} {C:Addr} {f:Str} (n:Bb K C f):PySem.W.takerIn K C f=some none:=by
 unfold PySem.W.takerIn
 rw [show PySem.W.findIn K (.ref C) f=some none from n]
 rfl
structure Con (K:PySem.W.Frag) (C:Addr) (f:Str) (v:V) (u:Value):Prop where
 at_:PySem.W.findIn K (.ref C) f=some (some u)
 rel:yd v u
 get:PySem.W.specialIn K u "__get__"=some none
 cp:PySem.W.copiedNames.contains f=false
structure ls (K:PySem.W.Frag) (C:Addr) (m:Str) (f:Addr):Prop where
 at_:PySem.W.findIn K (.ref C) m=some (some (.ref f))
 fn:PySem.W.isFn K (.ref f)=true
 kp:PySem.W.keepIn K (.ref f)=true
section
variable {X:Cx} {pins:List (Addr × Obj)} {σ:St} {H:Hp} {s:Shared} {a C dx:Addr} {fs:List (Str × V)} {f:Str} {v:V} {A:Around} {E:Value→Shared→Prop}
theorem js {b:Bool} {Q:Value→Shared→Prop} (I:Inv X pins σ H s) (e:H a=some (.ins C dx fs)) (c:Cls X.K C) (n:Bb X.K C f) (l:fs.lookup f=some v)
  (h:∀ u s',Inv X pins σ H s'→yd v u→Q u s'):wpAny (model X.prog X.w) A (getAttr (.ref a) f b) Q E s:=by
 obtain ⟨mA,O,r,_,_,_⟩:=Ls I.hok e
 obtain ⟨u,hu,ru⟩:=yq.some_of (v:=v) (o:=mA f) (by rw [← l];exact r f)
 exact CJ I.kIn O (c.get f) c.hd n hu (qu ru) (h u _ (I.tok _) ru)
theorem Gm {m:Str} {g:Addr} {pl:Sem Bool} {Q:Value × List Value→Shared→Prop} (I:Inv X pins σ H s) (e:H a=some (.ins C dx fs)) (c:Cls X.K C) (k:ls X.K C m g) (l:fs.lookup m=none)
  (h:Q (.ref g,[.ref a]) s):wpAny (model X.prog X.w) A (getMethod (.ref a) m pl) Q E s:=by
 obtain ⟨mA,O,r,_,_,_⟩:=Ls I.hok e
 have hn:mA m=none:=yq.none_of (by rw [← l];exact r m)
 exact bE I.kIn O (c.get m) k.at_ k.fn hn h
theorem Ir {y:V} {u:Value} {Q:Unit→Shared→Prop} (I:Inv X pins σ H s) (e:H a=some (.ins C dx fs)) (c:Cls X.K C) (n:Bb X.K C f) (hl:fs.length < 1000) (ry:yd y u)
  (h:∀ s',Inv X pins σ (upd H a (.ins C dx (Ag f y fs))) s'→Q () s'):wpAny (model X.prog X.w) A (setAttr (.ref a) f u) Q E s:=by
 obtain ⟨mA,O,r,wi,_,ho⟩:=Ls I.hok e
 have hz:(fs.map (·.1)).length ≤ sizeLine:=by rw [List.length_map,sizeLine_eq];omega
 refine NI I.kIn O c.sa c.po n.taker c.hd wi hz fun h' O' sb=>h _ ?_
 have hd:∃ o,h'.get? dx=some o:=let ⟨o,_,_,e',_⟩:=O'.ns;⟨o,e'⟩
 refine I.write (x:=a) (e:=dx) (by rw [e];exact True.intro) (.inr ho) (fun b q hb z=>(sb.2 b hb).trans z) hd ?_
 refine ⟨by rw [lb O.ne];exact ho,?_,O.ne,O'.obj,_,O'.ns,fun g=>?_,fun g hg=>?_⟩
 ·have:=Wk f y fs;omega
 ·show yq ((Ag f y fs).lookup g) (if g=f then some u else mA g)
  rw [Zk]
  by_cases q:g=f
  ·rw [if_pos q,if_pos q];exact ry
  ·rw [if_neg q,if_neg q];exact r g
 ·by_cases q:g=f
  ·rw [q];exact (xj f y fs).1
  ·refine (xj f y fs).2 g (wi g fun z=>hg ?_)
   show (if g=f then some u else mA g)=none
   rw [if_neg q];exact z
theorem Inv.made (I:Inv X pins σ H s):Inv X pins σ (upd (upd H s.heap.objs.size (.own (s.heap.objs.size + 1))) (s.heap.objs.size + 1) (.ins C s.heap.objs.size []))
  { s with heap:=(s.heap.push PySem.W.emptyDict).push (PySem.W.instObj C s.heap.objs.size) }:=by
 have e1:(s.heap.push PySem.W.emptyDict).get? s.heap.objs.size=some PySem.W.emptyDict:=Heap.get?_push_size s.heap rfl
 have e2:((s.heap.push PySem.W.emptyDict).push (PySem.W.instObj C s.heap.objs.size)).get? (s.heap.objs.size + 1)=some (PySem.W.instObj C s.heap.objs.size):=by
  have:=Heap.get?_push_size (s.heap.push PySem.W.emptyDict) (o:=PySem.W.instObj C s.heap.objs.size) rfl
  rwa [Heap.size_push] at this
 have e3:(s.heap.push PySem.W.emptyDict).Ns s.heap.objs.size (fun _=>none):=⟨PySem.W.emptyDict,#[],_,e1,rfl,(fun e he=>absurd he (by simp)),fun _=>rfl⟩
 have I1:=I.laid (a:=s.heap.objs.size) (o:=.own (s.heap.objs.size + 1)) (h':=s.heap.push PySem.W.emptyDict) (t':=s.toks) (fun b u q=>Heap.get?_push_of_some _ q) (Nat.le_refl _) ⟨_,e1⟩
 refine I1.laid (a:=s.heap.objs.size + 1) (o:=.ins C s.heap.objs.size []) (t':=s.toks) (fun b u q=>Heap.get?_push_of_some _ q) (Nat.le_of_eq (Heap.size_push _ _)) ?_
 have ne:s.heap.objs.size ≠ s.heap.objs.size + 1:=Nat.ne_of_lt (Nat.lt_succ_self _)
 refine ⟨by rw [lb ne,cb],Nat.zero_le _,ne,e2,fun _=>none,(Heap.Ns1.of_empty e3).at fun o q=>Heap.get?_push_of_some _ q,fun _=>True.intro,fun y hy=>absurd rfl hy⟩
theorem rA {prog:Program} {w:World} {env:Env} {e:Expr} {f:Str} {pos:Pos} {s:Shared} {Q:Value→Shared→Prop} (hb:attributeBase e f env (eval e env)=eval e env)
  (h:wpAny (model prog w) A (eval e env) (fun o s₁=>wpAny (model prog w) A (getAttr o f true) Q E s₁) E s):wpAny (model prog w) A (eval (.Attribute e f pos) env) Q E s:=
 Attribute_any_ h (by rw [arm_eval_Attribute,hb])
end
noncomputable def CN (K:PySem.W.Frag) (ta:TE) (f:Str):TE:=fun σ H Q=>ta σ H fun x H1=>∃ a C dx fs v,x=.ref a∧H1 a=some (.ins C dx fs)∧Cls K C∧Bb K C f∧fs.lookup f=some v∧Q v H1
noncomputable def vP (K:PySem.W.Frag) (ta:TE) (f:Str):TE:=fun σ H Q=>ta σ H fun x H1=>∃ a C dx fs v u,x=.ref a∧H1 a=some (.ins C dx fs)∧Cls K C∧Con K C f v u∧fs.lookup f=none∧Q v H1
noncomputable def uO (K:PySem.W.Frag) (ta tv:TE) (f:Str):TS:=fun D σ H=>tv σ H fun y H1=>ta σ H1 fun x H2=>∃ a C dx fs,x=.ref a∧H2 a=some (.ins C dx fs)∧Cls K C∧Bb K C f∧fs.length < 1000 ∧
 D.nx σ (upd H2 a (.ins C dx (Ag f y fs)))
noncomputable def KO (X:Cx) (op:Operator) (rd:V→V→Hp→VK→Prop):Prop:=
 ∀ (pins:List (Addr × Obj)) (s:Shared) (σ:St) (H:Hp) (x y:V) (u v:Value) (Q:VK),Inv X pins σ H s→yd x u→yd y v→rd x y H Q→wpAny (model X.prog X.w) X.A (inplaceOp op u v) (EP X pins σ Q) X.xe s
noncomputable def wB (K:PySem.W.Frag) (ta tv:TE) (rd:V→V→Hp→VK→Prop) (f:Str):TS:=fun D σ H=>ta σ H fun x H1=>∃ a C dx fs v,x=.ref a∧H1 a=some (.ins C dx fs)∧Cls K C∧Bb K C f∧fs.lookup f=some v ∧
 tv σ H1 fun y H2=>rd v y H2 fun z H3=>∃ dx' fs',H3 a=some (.ins C dx' fs')∧fs'.length < 1000∧D.nx σ (upd H3 a (.ins C dx' (Ag f z fs')))
section
variable {X:Cx} {o e value:Expr} {f:Str} {pos pos' tpos:Pos} {ta tv:TE}
theorem bc (he:PE X e ta) (hb:attributeBase e f X.env (eval e X.env)=eval e X.env):PE X (.Attribute e f pos) (CN X.K ta f):=by
 intro pins s σ H Q I h
 refine rA hb (thn (he pins s σ H _ I h) fun u s1 hZ1=>?_)
 obtain ⟨x,H1,I1,rx,a,C,dx,fs,v,ex,ea,c,n,l,q⟩:=hZ1
 subst ex
 obtain rfl:u=Value.ref a:=rx
 exact js I1 ea c n l fun u' s2 I2 ru=>⟨v,H1,I2,ru,q⟩
theorem df (ha:PE X o ta) (hv:PE X value tv) (hs:swapsWith value (some (.Attribute o f pos')) pos.line X.env=pure false):PS X (.Assign [.Attribute o f pos'] value pos) (uO X.K ta tv f):=by
 intro pins s σ H D I h
 refine plainObj_wpAny_Assign_Attribute (thn (hv pins s σ H _ I h) fun u s1 ⟨y,H1,I1,ry,q⟩=>thn (ha pins s1 σ H1 _ I1 q) fun ov s2 hZ1=>?_) hs
 obtain ⟨x,H2,I2,rx,a,C,dx,fs,ex,ea,c,n,l,q2⟩:=hZ1
 subst ex
 obtain rfl:ov=Value.ref a:=rx
 exact Ir I2 ea c n l ry fun s3 I3=>⟨σ,_,I3,q2⟩
theorem rC {op:Operator} {rd:V→V→Hp→VK→Prop} (ha:PE X o ta) (hv:PE X value tv) (hop:KO X op rd):PS X (.AugAssign (.Attribute o f tpos) op value pos) (wB X.K ta tv rd f):=by
 intro pins s σ H D I h
 refine wpAny_AugAssign_AttributeAny (thn (ha pins s σ H _ I h) fun ov s1 hZ1=>?_)
 obtain ⟨x,H1,I1,rx,a,C,dx,fs,v,ex,ea,c,n,l,q⟩:=hZ1
 subst ex
 obtain rfl:ov=Value.ref a:=rx
 refine js I1 ea c n l fun u s2 I2 ru=>thn (hv pins s2 σ H1 _ I2 q) fun w3 s3 ⟨y,H2,I3,ry,q3⟩=>thn (hop pins s3 σ H2 v y u w3 _ I3 ru ry q3) fun w4 s4 hZ1=>?_
 obtain ⟨z,H3,I4,rz,dx',fs',ea',l',q4⟩:=hZ1
 exact Ir I4 ea' c n l' rz fun s5 I5=>⟨σ,_,I5,q4⟩
noncomputable def IO:V→V→Hp→VK→Prop:=fun x y H Q=>∃ i j,x=.int i∧y=.int j∧Q (.int (i + j)) H
noncomputable def nP:V→V→Hp→VK→Prop:=fun x y H Q=>∃ i j,x=.int i∧y=.int j∧Q (.int (i - j)) H
theorem WL:KO X .Add IO:=by
 rintro pins s σ H x y u v Q I rx ry ⟨i,j,rfl,rfl,q⟩
 obtain ⟨t,rfl⟩:=(show ∃ t,u=Value.int i t from rx)
 obtain ⟨t',rfl⟩:=(show ∃ t',v=Value.int j t' from ry)
 exact PyProof.Rows.iadd_int ⟨.int (i + j),H,I.tok _,⟨_,rfl⟩,q⟩
end
section
variable {X:Cx} {pins:List (Addr × Obj)} {σ:St} {H:Hp} {s:Shared} {A:Around} {E:Value→Shared→Prop} {Q:Value→Shared→Prop} {c:Value} {b:Bool}
inductive Kx (K:PySem.W.Frag) (H:Hp):V→Value→Prop where
 | non:Kx K H .non (.type "NoneType")
 | bl (x:Bool):Kx K H (.bl x) (.type "bool")
 | int (i:Int):Kx K H (.int i) (.type "int")
 | str (x:Str):Kx K H (.str x) (.type "str")
 | flt (x:UInt64):Kx K H (.flt x) (.type "float")
 | lst {a:Addr} {xs:List V} (e:H a=some (.lst xs)):Kx K H (.ref a) (.type "list")
 | frz {a:Addr} {o:Obj} {xs:List V} (e:H a=some (.frz o (.lst xs))):Kx K H (.ref a) (.type "list")
 | tup {a:Addr} {xs:List V} (e:H a=some (.tup xs)):Kx K H (.ref a) (.type "tuple")
 | dK {a:Addr} {kvs:List (Key × V)} (e:H a=some (.dK kvs)):Kx K H (.ref a) (.type "dict")
 | dT {a:Addr} {kvs:List (List Key × V)} (e:H a=some (.dT kvs)):Kx K H (.ref a) (.type "dict")
 | ins {a C dx:Addr} {fs:List (Str × V)} (e:H a=some (.ins C dx fs)) (cl:Cls K C) (ha:PySem.W.findIn K (.ref C) "__class__"=some (some (.builtin "object.__class__")))
   (hn:PySem.W.specialIn K (.builtin "object.__class__") "__get__"=some (some (.builtin "getset_descriptor.__get__"))) (htk:PySem.W.takesIn K (.builtin "object.__class__")=some true)
   (hm:PySem.W.mroIn K C (.type "object")=some true):Kx K H (.ref a) (.ref C)
theorem pC {x:V} {u t:Value} (I:Inv X pins σ H s) (rx:yd x u) (ty:Kx X.K H x t) (e:PySem.W.kitOne X.K t c=some b) (h:∀ tk,Q (.bool b) { s with toks:=tk }) :
  wpAny (model X.prog X.w) A (call (.builtin "isinstance") [u,c]) Q E s:=by
 cases ty with
 | non=>cases (show u=Value.none from rx);exact PySem.W.kia_one PySem.W.kitx_none I.kIn True.intro e (fun z=>nomatch z) h
 | bl y=>cases (show u=Value.bool y from rx);exact PySem.W.kia_one PySem.W.kitx_bool I.kIn True.intro e (fun z=>nomatch z) h
 | int i=>obtain ⟨t,q⟩:=(show ∃ t,u=Value.int i t from rx);cases q;exact PySem.W.kia_one PySem.W.kitx_int I.kIn True.intro e (fun z=>nomatch z) h
 | str y=>obtain ⟨t,q⟩:=(show ∃ t,u=Value.str y t from rx);cases q;exact PySem.W.kia_one PySem.W.kitx_str I.kIn True.intro e (fun z=>nomatch z) h
 | flt y=>obtain ⟨t,q⟩:=(show ∃ t,u=Value.float y t from rx);cases q;exact PySem.W.kia_one PySem.W.kitx_float I.kIn True.intro e (fun z=>nomatch z) h
 | @lst a xs ea=>
  cases (show u=Value.ref a from rx)
  obtain ⟨_,_,n,_,h1⟩:=(show kd X.prog X.w H s.heap a (.lst xs) from I.hok a _ ea)
  exact PySem.W.kia_one PySem.W.kitx_list I.kIn ⟨_,h1,rfl⟩ e (fun z=>nomatch z) h
 | @frz a ob xs ea=>
  cases (show u=Value.ref a from rx)
  obtain ⟨_,_,_,n,_,h1⟩:=(show kd X.prog X.w H s.heap a (.frz ob (.lst xs)) from I.hok a _ ea)
  exact PySem.W.kia_one PySem.W.kitx_list I.kIn ⟨_,h1,rfl⟩ e (fun z=>nomatch z) h
 | @tup a xs ea=>
  cases (show u=Value.ref a from rx)
  obtain ⟨_,_,_,p⟩:=(show kd X.prog X.w H s.heap a (.tup xs) from I.hok a _ ea)
  obtain ⟨o,h1,h2,_⟩:=p
  exact PySem.W.kia_one PySem.W.kitx_tuple I.kIn ⟨o,h1,h2⟩ e (fun z=>nomatch z) h
 | @dK a kvs ea=>
  cases (show u=Value.ref a from rx)
  obtain ⟨_,_,vs,_,p⟩:=(show kd X.prog X.w H s.heap a (.dK kvs) from I.hok a _ ea)
  obtain ⟨o,es,ep,h1,h2,_⟩:=p
  exact PySem.W.kia_one PySem.W.kitx_dict I.kIn ⟨o,h1,h2.1⟩ e (fun z=>nomatch z) h
 | @dT a kvs ea=>
  cases (show u=Value.ref a from rx)
  obtain ⟨_,_,xs,_,o,es,ep,h1,h2,_⟩:=(show kd X.prog X.w H s.heap a (.dT kvs) from I.hok a _ ea)
  exact PySem.W.kia_one PySem.W.kitx_dict I.kIn ⟨o,h1,h2.1⟩ e (fun z=>nomatch z) h
 | @ins a C dx fs ea cl ha hn htk hm=>
  cases (show u=Value.ref a from rx)
  obtain ⟨mA,O,_⟩:=Ls I.hok ea
  obtain ⟨od,J,_⟩:=O.look
  exact PySem.W.kia_one (PySem.W.kitx_own (cl.get _) cl.hd ha hn htk hm) I.kIn J e (fun z=>nomatch z) h
end
end L2
namespace L2
open PySem PySem.Spec PyProof.Rows
structure ci (k:Nat) (A:Around):Prop where
 hd:A.handled=none
 dp:A.depth + 3 * k + 5 < recursionLimit
 un:A.units + 16 * k + 200 < cLine
theorem ci.mono {j k:Nat} {A:Around} (r:ci k A) (h:j ≤ k):ci j A:=⟨r.hd,by have:=r.dp;omega,by have:=r.un;omega⟩
theorem ci.deeper {k:Nat} {A:Around} (r:ci (k + 1) A) (env:Env):ci k (A.deeper env):=
 ⟨r.hd,by have:=r.dp;show A.depth + 1 + 3 * k + 5 < _;omega,by have:=r.un;show A.units + 3 + 16 * k + 200 < _;omega⟩
theorem ci.in1 {k:Nat} {A:Around} (r:ci (k + 1) A):ci k A.in1:=
 ⟨r.hd,by have:=r.dp;show A.depth + 3 * k + 5 < _;omega,by have:=r.un;show A.units + 1 + 16 * k + 200 < _;omega⟩
theorem vz {A:Around} {C:Addr} {us:List Value} {kw:List (Str × Value)}:(A.under (.builtin "type.__call__" ⟨.ref C :: us,kw⟩)).depth=A.depth + 1:=by
 first | rfl | simp [Around.under,Code.weight,Code.isCreation,Code.isGuard,Code.isCaller,Code.frames,Code.isFrame,guardIds]
theorem kz {A:Around} {C:Addr} {us:List Value} {kw:List (Str × Value)}:(A.under (.builtin "type.__call__" ⟨.ref C :: us,kw⟩)).units=A.units + 1:=by
 first | rfl | simp [Around.under,Code.cUnits,Code.frames,Code.isFrame]
theorem ci.make {k:Nat} {A:Around} (r:ci (k + 1) A) (C:Addr) (us:List Value) (kw:List (Str × Value)):ci k (A.under (.builtin "type.__call__" ⟨.ref C :: us,kw⟩)):=
 ⟨r.hd,by have:=r.dp;rw [vz];omega,by have:=r.un;rw [kz];omega⟩
theorem ci.depth {k:Nat} {A:Around} (r:ci k A):A.depth < recursionLimit:=by have:=r.dp;omega
theorem ci.units {k:Nat} {A:Around} (r:ci k A):A.units + 64 < cLine:=by have:=r.un;omega
noncomputable def cN:TA:=fun _ H Q=>Q [] H
noncomputable def KL (ta:TE) (tr:TA):TA:=fun σ H Q=>ta σ H fun x H1=>tr σ H1 fun xs H2=>Q (x :: xs) H2
section
variable {X:Cx} {e:Expr} {es:List Expr} {te:TE} {t:TA} {pos:Pos}
theorem fb:PA X [] cN:=fun _ _ _ _ H Q I h=>Calls.spliced_nil ⟨[],H,I,.nil,h⟩
theorem bb (ha:PE X e te) (hr:PA X es t) (hs:starEach (e :: es) X.env=(false,eval e X.env) :: starEach es X.env:=by rfl):PA X (e :: es) (KL te t):=by
 intro pos pins s σ H Q I h
 rw [hs]
 show wpAny _ _ (spliced ((false,eval e X.env) :: backTo pos (starEach es X.env))) _ _ s
 refine Calls.spliced_cons (thn (ha pins s σ H _ I h) fun u s1 hZ1=>?_)
 obtain ⟨x,H1,I1,r1,q1⟩:=hZ1
 exact thn (hr pos pins s1 σ H1 _ I1 q1) fun us s2 ⟨xs,H2,I2,r2,q2⟩=>⟨x :: xs,H2,I2,.cons r1 r2,q2⟩
noncomputable def sO (t:TA):TE:=fun σ H Q=>t σ H fun xs H1=>xs.length ≤ sizeLine∧∀ p,H1 p=none→Q (.ref p) (upd H1 p (.tup xs))
noncomputable def qO (t:TA):TE:=fun σ H Q=>t σ H fun xs H1=>xs.length ≤ sizeLine∧∀ p,H1 p=none→Q (.ref p) (upd H1 p (.lst xs))
theorem aj {x1} (h:PA X es t):PE X (.Tuple es x1 pos) (sO t):=by
 intro pins s σ H Q I hq
 refine wpAny_Tuple_spliced (thn (h pos pins s σ H _ I hq) fun us s1 ⟨xs,H1,I1,r,z,q⟩=>⟨by rw [← r.length];exact z,?_⟩)
 have hf:H1 s1.heap.objs.size=none:=I1.hok.fresh (Nat.le_refl _)
 refine ⟨.ref s1.heap.objs.size,upd H1 s1.heap.objs.size (.tup xs),I1.laid (t':=s1.toks) (fun b u e=>Heap.get?_push_of_some _ e) (Nat.le_refl _) ?_,rfl,q _ hf⟩
 exact ⟨z,us,r,⟨_,Heap.get?_push_size _ rfl,rfl,_,rfl⟩⟩
theorem Rf (h:PA X es t):PE X (.List es pos) (qO t):=by
 intro pins s σ H Q I hq
 refine wpAny_List_spliced (thn (h pos pins s σ H _ I hq) fun us s1 ⟨xs,H1,I1,r,z,q⟩=>⟨by rw [← r.length];exact z,?_⟩)
 have hf:H1 s1.heap.objs.size=none:=I1.hok.fresh (Nat.le_refl _)
 refine ⟨.ref s1.heap.objs.size,upd H1 s1.heap.objs.size (.lst xs),I1.laid (t':=s1.toks) (fun b u e=>Heap.get?_push_of_some _ e) (Nat.le_refl _) ?_,rfl,q _ hf⟩
 exact ⟨z,us,0,r,Heap.get?_push_size _ rfl⟩
end
noncomputable abbrev Sp:=List V→Hp→VK→XK→Prop
noncomputable abbrev CXT:=List Env→Hp→Shared→XK→Value→Shared→Prop
structure jC (P:Program) (w:World) (K:PySem.W.Frag) (mg:Str→Option Value) (base:Heap) (A:Around) (outer:List Env) (s:Shared) (H:Hp):Prop where
 frames:A.frames=some outer
 mod:Mod K mg base
 bs:∀ b o,base.get? b=some o→s.heap.get? b=some o∧H b=none
 bsz:base.objs.size ≤ s.heap.objs.size
 funs:s.heap.FunFrames base outer
 frf:∀ b ∈ frs outer,H b=none
 hok:HOk P w H s.heap
 bare:AllBare s.gens
noncomputable def CE (outer:List Env) (P:Program) (w:World) (H:Hp) (s:Shared) (Q:VK) (u:Value) (s':Shared):Prop:=
 ∃ v H',s'.os=s.os∧AllBare s'.gens∧Un (frs outer) [] H H' s.heap s'.heap∧HOk P w H' s'.heap∧yd v u∧Q v H'
noncomputable def CR (CX:CXT) (outer:List Env) (P:Program) (w:World) (H:Hp) (s:Shared) (Q:VK) (E:XK) (r:Result) (s':Shared):Prop:=
 match r with
 | .ok (.ret u)=>CE outer P w H s Q u s'
 | .ok _=>False
 | .error e=>CX outer H s E e s'
structure Fb (P:Program) (w:World) (K:PySem.W.Frag) (mg:Str→Option Value) (base:Heap) (CX:CXT) (k:Nat) (f:Addr) (fd:FuncData) (ps:List Str) (sp:Sp):Prop where
 len:∀ vs H Q E,sp vs H Q E→vs.length=ps.length
 run:∀ (A:Around) (outer:List Env) (s:Shared) (H:Hp) (args:Args) (us:List Value) (vs:List V) (Q:VK) (E:XK),ci k A→jC P w K mg base A outer s H→BindsTo s fd args (ps.zip us)→Wc vs us→sp vs H Q E →
  codeAny (model P w) A (.call (.ref f) args) (CR CX outer P w H s Q E) s
theorem Fb.mono {P:Program} {w:World} {K:PySem.W.Frag} {mg:Str→Option Value} {base:Heap} {CX:CXT} {j k:Nat} {f:Addr} {fd:FuncData} {ps:List Str} {sp:Sp} (F:Fb P w K mg base CX j f fd ps sp) (h:j ≤ k) :
  Fb P w K mg base CX k f fd ps sp:=⟨F.len,fun A outer s H args us vs Q E hr=>F.run A outer s H args us vs Q E (hr.mono h)⟩
theorem Fb.imp {P:Program} {w:World} {K:PySem.W.Frag} {mg:Str→Option Value} {base:Heap} {CX:CXT} {k:Nat} {f:Addr} {fd:FuncData} {ps:List Str} {sp sp':Sp} (F:Fb P w K mg base CX k f fd ps sp)
  (h:∀ vs H Q E,sp' vs H Q E→sp vs H Q E):Fb P w K mg base CX k f fd ps sp':=
 ⟨fun vs H Q E q=>F.len vs H Q E (h _ _ _ _ q),fun A outer s H args us vs Q E hr he hb hv hs=>F.run A outer s H args us vs Q E hr he hb hv (h _ _ _ _ hs)⟩
theorem jC.make {P:Program} {w:World} {K:PySem.W.Frag} {mg:Str→Option Value} {base:Heap} {A:Around} {outer:List Env} {s:Shared} {H:Hp} (e:jC P w K mg base A outer s H) (C:Addr) (us:List Value) (kw:List (Str × Value)) :
  jC P w K mg base (A.under (.builtin "type.__call__" ⟨.ref C :: us,kw⟩)) outer s H:=⟨by first | exact e.frames | (simpa [Around.under,Code.envs,Code.isFrame,pushEnvs] using e.frames),e.mod,e.bs,e.bsz,e.funs,e.frf,e.hok,e.bare⟩
theorem jC.in1 {P:Program} {w:World} {K:PySem.W.Frag} {mg:Str→Option Value} {base:Heap} {A:Around} {outer:List Env} {s:Shared} {H:Hp} (e:jC P w K mg base A outer s H) :
  jC P w K mg base A.in1 outer s H:=⟨e.frames,e.mod,e.bs,e.bsz,e.funs,e.frf,e.hok,e.bare⟩
section
variable {X:Cx} {pins:List (Addr × Obj)} {σ:St} {H:Hp} {s s':Shared}
theorem Inv.env0 (I:Inv X pins σ H s):jC X.prog X.w X.K X.mg X.base X.A X.stack s H:=
 ⟨I.ok.frames,I.ok.mod,I.bs,Nat.le_trans I.ok.bsz I.sz,I.stack,I.stkFree,I.hok,I.bare⟩
theorem Inv.after {Q:VK} {u:Value} (I:Inv X pins σ H s) (h:CE X.stack X.prog X.w H s Q u s'):EP X pins σ Q u s':=by
 obtain ⟨v,H',os,bare,un,hok,r,q⟩:=h
 obtain ⟨hh,g,d,t,os'⟩:=s'
 obtain rfl:os'=s.os:=os
 exact ⟨v,H',I.call (h':=hh) (g':=g) (d':=d) (t':=t) (ch:=[]) un hok bare (fun b z=>absurd z (by simp)),r,q⟩
end
noncomputable def QJ (sp:Sp) (dvs:List V) (E:XK) (t:TA):TE:=fun σ H Q=>t σ H fun vs H1=>sp (vs ++ dvs) H1 Q E
noncomputable def nI (C:Addr) (m:Str) (sp:Sp) (dvs:List V) (E:XK) (ta:TE) (t:TA):TE:=fun σ H Q=>ta σ H fun x H1=>∃ a dx fs,x=.ref a∧H1 a=some (.ins C dx fs)∧fs.lookup m=none ∧
 t σ H1 fun vs H2=>sp (x :: (vs ++ dvs)) H2 Q E
noncomputable def yL (C:Addr) (sp:Sp) (dvs:List V) (E:XK) (t:TA):TE:=fun σ H Q=>t σ H fun vs H1=>∀ x dx,H1 x=none→H1 dx=none→dx ≠ x →
 sp (.ref x :: (vs ++ dvs)) (upd (upd H1 dx (.own x)) x (.ins C dx [])) (fun v H2=>v=.non∧Q (.ref x) H2) E
noncomputable def Rb (K:PySem.W.Frag) (fd:FuncData) (ps:List Str) (ds:List Value):Prop:=
 ∀ (s:Shared) (us:List Value),K.In s.heap→(us ++ ds).length=ps.length→BindsTo s fd ⟨us,[]⟩ (ps.zip (us ++ ds))
theorem Rb.all {K:PySem.W.Frag} {fd:FuncData} {ps:List Str} (h:∀ us:List Value,us.length=ps.length→bindArgs fd ⟨us,[]⟩=pure (ps.zip us)):Rb K fd ps []:=fun s us _ hl=>by
 rw [List.append_nil] at hl ⊢
 exact .of_eq (h us hl)
noncomputable def Jk (CX:CXT) (X:Cx) (E:XK):Prop:=∀ (pins:List (Addr × Obj)) (σ:St) (H:Hp) (s:Shared) (e:Value) (s':Shared),Inv X pins σ H s→CX X.stack H s E e s'→X.xe e s'
section
variable {X:Cx} {CX:CXT} {k:Nat} {f C:Addr} {fd:FuncData} {ps:List Str} {sp:Sp} {dvs:List V} {ds:List Value} {E:XK} {x m:Str} {p pos apos:Pos} {e o:Expr} {es:List Expr} {ta:TE} {t:TA}
theorem Uu {pins:List (Addr × Obj)} {σ:St} {H:Hp} {s:Shared} {Q:VK} {us:List Value} {vs:List V} (F:Fb X.prog X.w X.K X.mg X.base CX k f fd ps sp) (hr:ci k X.A) (hb:Rb X.K fd ps ds) (hd:Wc dvs ds) (hx:Jk CX X E)
  (I:Inv X pins σ H s) (r:Wc vs us) (h:sp (vs ++ dvs) H Q E):wpAny (model X.prog X.w) X.A (call (.ref f) us) (EP X pins σ Q) X.xe s:=by
 have r2:Wc (vs ++ dvs) (us ++ ds):=r.append hd
 have hl:(us ++ ds).length=ps.length:=by rw [← r2.length];exact F.len _ _ _ _ h
 refine wpAny_call (codeAny_mono (F.run X.A X.stack s H ⟨us,[]⟩ (us ++ ds) (vs ++ dvs) Q E hr I.env0 (hb s us I.kIn hl) r2 h) fun r s' hq=>?_)
 cases r with
 | error e=>exact hx pins σ H s e s' I hq
 | ok fl=>
  cases fl with
  | ret u=>exact I.after hq
  | next=>exact False.elim hq
  | brk=>exact False.elim hq
  | cont=>exact False.elim hq
theorem xb (F:Fb X.prog X.w X.K X.mg X.base CX k f fd ps sp) (hr:ci k X.A) (hg:Gl X x) (hm:X.mg x=some (.ref f)) (hk:PySem.W.keepIn X.K (.ref f)=true) (hb:Rb X.K fd ps ds) (hd:Wc dvs ds) (hx:Jk CX X E)
  (ha:PA X (e :: es) t) (hdb:(x == ("__debug__" : Str))=false:=by decide) (he:starEach (e :: es) X.env=(false,eval e X.env) :: starEach es X.env:=by rfl) (hpl:(backTo pos (starEach es X.env)).any (·.1)=false:=by rfl) :
  PE X (.Call (.Name x p) (e :: es) [] pos) (QJ sp dvs E t):=by
 intro pins s σ H Q I h
 refine wpAny_Call_Name_kw (bj I hg hm ?_ hdb)
 refine PySem.W.callWith_K (h₀:=X.base) I.ok.mod.kin hk (thn (ha pos pins s σ H _ I h) fun us s1 ⟨vs,H1,I1,r,q⟩=>⟨I1.kIn,?_⟩) he hpl
 exact Uu F hr hb hd hx I1 r q
theorem Ld {pl:Sem Bool} (he:PE X o ta) (c:Cls X.K C) (hm:ls X.K C m f) (F:Fb X.prog X.w X.K X.mg X.base CX k f fd ps sp) (hr:ci k X.A) (hb:Rb X.K fd ps ds) (hd:Wc dvs ds) (hx:Jk CX X E) (ha:PA X (e :: es) t)
  (hst:starEach (e :: es) X.env=(false,eval e X.env) :: starEach es X.env:=by rfl) (hpl:(backTo pos (starEach es X.env)).any (·.1)=false:=by rfl)
  (ht:eval (.Call (.Attribute o m apos) (e :: es) [] pos) X.env=(do
   let ov ← eval o X.env
   standAt apos.atName
   let (f,first) ← holding [ov] (getMethod ov m pl)
   callWith pos f first (backTo pos (starEach (e :: es) X.env)) (backToKw pos (keywordEach [] X.env))):=by rfl) :
  PE X (.Call (.Attribute o m apos) (e :: es) [] pos) (nI C m sp dvs E ta t):=by
 intro pins s σ H Q I h
 refine PySem.W.methodCall_KW (pl:=pl) (thn (he pins s σ H _ I h) fun u s1 hZ1=>?_) ht
 obtain ⟨x,H1,I1,rx,a,dx,fs,ex,ea,l,q⟩:=hZ1
 subst ex
 obtain rfl:u=Value.ref a:=rx
 refine Gm I1 ea c hm l ?_
 refine PySem.W.callWith_K (first:=[.ref a]) (h₀:=X.base) I.ok.mod.kin hm.kp (thn (ha pos pins s1 σ H1 _ I1 q) fun us s2 ⟨vs,H2,I2,r,q2⟩=>⟨I2.kIn,?_⟩) hst hpl
 exact Uu (us:=.ref a :: us) (vs:=.ref a :: vs) F hr hb hd hx I2 (.cons rfl r) q2
theorem se {pl:Sem Bool} (he:PE X o ta) (c:Cls X.K C) (hm:ls X.K C m f) (F:Fb X.prog X.w X.K X.mg X.base CX k f fd ps sp) (hr:ci k X.A) (hb:Rb X.K fd ps ds) (hd:Wc dvs ds) (hx:Jk CX X E)
  (ht:eval (.Call (.Attribute o m apos) [] [] pos) X.env=(do
   let ov ← eval o X.env
   standAt apos.atName
   let (f,first) ← holding [ov] (getMethod ov m pl)
   callWith pos f first (backTo pos (starEach [] X.env)) (backToKw pos (keywordEach [] X.env))):=by rfl) :
  PE X (.Call (.Attribute o m apos) [] [] pos) (nI C m sp dvs E ta cN):=by
 intro pins s σ H Q I h
 refine PySem.W.methodCall_KW (pl:=pl) (thn (he pins s σ H _ I h) fun u s1 hZ1=>?_) ht
 obtain ⟨x,H1,I1,rx,a,dx,fs,ex,ea,l,q⟩:=hZ1
 subst ex
 obtain rfl:u=Value.ref a:=rx
 refine Gm I1 ea c hm l ?_
 exact PySem.W.callWith_K0 (first:=[.ref a]) I1.kIn hm.kp (Uu (us:=[.ref a]) (vs:=[.ref a]) F hr hb hd hx I1 (.cons rfl .nil) q)
structure Mk (K:PySem.W.Frag) (C f:Addr):Prop where
 makes:PySem.W.makesIn K C=true
 init:PySem.W.findIn K (.ref C) "__init__"=some (some (.ref f))
 fn:PySem.W.isFn K (.ref f)=true
 kp:PySem.W.keepIn K (.ref C)=true
theorem uF {pins:List (Addr × Obj)} {σ:St} {H:Hp} {s:Shared} {Q:VK} {us:List Value} {vs:List V} (M:Mk X.K C f) (F:Fb X.prog X.w X.K X.mg X.base CX k f fd ps sp) (hr:ci (k + 1) X.A) (hb:Rb X.K fd ps ds) (hd:Wc dvs ds)
  (hx:Jk CX X E) (I:Inv X pins σ H s) (r:Wc vs us)
  (h:∀ x dx,H x=none→H dx=none→dx ≠ x→sp (.ref x :: (vs ++ dvs)) (upd (upd H dx (.own x)) x (.ins C dx [])) (fun v H2=>v=.non∧Q (.ref x) H2) E) :
  wpAny (model X.prog X.w) X.A (call (.ref C) us) (EP X pins σ Q) X.xe s:=by
 have hq:=h (s.heap.objs.size + 1) s.heap.objs.size (I.hok.fresh (Nat.le_succ _)) (I.hok.fresh (Nat.le_refl _)) (Nat.ne_of_lt (Nat.lt_succ_self _))
 have I2:=Inv.made (C:=C) I
 have r2:Wc (V.ref (s.heap.objs.size + 1) :: (vs ++ dvs)) (Value.ref (s.heap.objs.size + 1) :: (us ++ ds)):=.cons rfl (r.append hd)
 have hl:(Value.ref (s.heap.objs.size + 1) :: us ++ ds).length=ps.length:=by
  have e:=r2.length
  rw [F.len _ _ _ _ hq] at e
  exact e.symm
 refine wpAny_call (hG (f:=f) I.kIn M.makes M.init (beq_iff_eq.mp M.fn) (codeAny_mono (F.run _ X.stack _ _ ⟨Value.ref (s.heap.objs.size + 1) :: us,[]⟩ (Value.ref (s.heap.objs.size + 1) :: (us ++ ds)) _ _ E (hr.make C us [])
  (I2.env0.make C us []) (hb _ (Value.ref (s.heap.objs.size + 1) :: us) I2.kIn hl) r2 hq) fun r s' hq'=>?_))
 cases r with
 | error e=>exact hx pins σ _ _ e s' I2 hq'
 | ok fl=>
  cases fl with
  | ret u=>
   obtain ⟨v,H',I3,rv,ev,q3⟩:=I2.after hq'
   subst ev
   exact ⟨rv,⟨V.ref (s.heap.objs.size + 1),H',I3,rfl,q3⟩⟩
  | next=>exact False.elim hq'
  | brk=>exact False.elim hq'
  | cont=>exact False.elim hq'
theorem jn (M:Mk X.K C f) (F:Fb X.prog X.w X.K X.mg X.base CX k f fd ps sp) (hr:ci (k + 1) X.A) (hg:Gl X x) (hm:X.mg x=some (.ref C)) (hb:Rb X.K fd ps ds) (hd:Wc dvs ds) (hx:Jk CX X E)
  (ha:PA X (e :: es) t) (hdb:(x == ("__debug__" : Str))=false:=by decide) (he:starEach (e :: es) X.env=(false,eval e X.env) :: starEach es X.env:=by rfl) (hpl:(backTo pos (starEach es X.env)).any (·.1)=false:=by rfl) :
  PE X (.Call (.Name x p) (e :: es) [] pos) (yL C sp dvs E t):=by
 intro pins s σ H Q I h
 refine wpAny_Call_Name_kw (bj I hg hm ?_ hdb)
 refine PySem.W.callWith_K (h₀:=X.base) I.ok.mod.kin M.kp (thn (ha pos pins s σ H _ I h) fun us s1 ⟨vs,H1,I1,r,q⟩=>⟨I1.kIn,?_⟩) he hpl
 exact uF M F hr hb hd hx I1 r q
end
section
variable {X:Cx} {CX:CXT} {k:Nat} {f C:Addr} {fd:FuncData} {ps ks:List Str} {sp:Sp} {E:XK} {x m:Str} {p pos apos kpos:Pos} {e o:Expr} {es:List Expr} {kws:List Keyword} {te ta:TE} {t tk:TA} {nm:Option Str}
structure tO (K:PySem.W.Frag) (fd:FuncData) (ps ks:List Str) (g:List Value→List Value→List Value) (gV:List V→List V→List V):Prop where
 to:∀ (s:Shared) (us ws:List Value),K.In s.heap→(g us ws).length=ps.length→BindsTo s fd ⟨us,ks.zip ws⟩ (ps.zip (g us ws))
 rel:∀ {vs:List V} {us:List Value} {zs:List V} {ws:List Value},Wc vs us→Wc zs ws→Wc (gV vs zs) (g us ws)
noncomputable def wL (sp:Sp) (gV:List V→List V→List V) (E:XK) (t tk:TA):TE:=fun σ H Q=>t σ H fun vs H1=>tk σ H1 fun zs H2=>sp (gV vs zs) H2 Q E
variable {g:List Value→List Value→List Value} {gV:List V→List V→List V}
end
structure rb (N P:List Str) (sc:Scope):Prop where
 kind:sc.kind=.function
 co:sc.isCoroutine=false
 gen:sc.isGenerator=false
 nd:N.Nodup
 pre:N.take P.length=P
 par:∀ x ∈ P,sc.names.lookup x=some .local∨sc.names.lookup x=some .cell
 nofree:∀ y ∈ sc.names,y.2 ≠ .free
theorem Gv {kindOf:Str→Option NameKind} {x:Str}:∀ {binds:List (Str × Value)} {m:Str→Option Value},(∀ v,(x,v) ∉ binds)→bindL kindOf binds m x=m x
 | [],_,_=>rfl
 | (n,v) :: r,m,h=>by
  unfold bindL
  rw [Gv fun w hw=>h w (List.mem_cons_of_mem _ hw)]
  split
  ·have:x ≠ n:=by rintro rfl;exact h v List.mem_cons_self
   simp [this]
  ·rfl
theorem Zu {kindOf:Str→Option NameKind} {x:Str}:∀ {binds:List (Str × Value)} {m:Str→Option Value},(∀ v,(x,v) ∉ binds)→bindC kindOf binds m x=m x
 | [],_,_=>rfl
 | (n,v) :: r,m,h=>by
  unfold bindC
  rw [Zu fun w hw=>h w (List.mem_cons_of_mem _ hw)]
  split
  ·rfl
  ·have:x ≠ n:=by rintro rfl;exact h v List.mem_cons_self
   simp [this]
theorem xu {kindOf:Str→Option NameKind} {x:Str} {v:Value}:∀ {P:List Str} {vs:List Value} {i:Nat} {m:Str→Option Value},P.Nodup→P[i]? = some x→vs[i]? = some v→kindOf x=some .local →
  bindL kindOf (P.zip vs) m x=some v
 | [],_,_,_,_,h,_,_=>by simp at h
 | _ :: _,[],_,_,_,_,h,_=>by simp at h
 | p :: P,w :: vs,0,m,nd,h1,h2,hk=>by
  simp at h1 h2;subst h1;subst h2
  show bindL kindOf ((p,w) :: P.zip vs) m p=_
  unfold bindL
  rw [Gv fun v hv=>(List.nodup_cons.mp nd).1 (List.of_mem_zip hv).1,if_pos hk]
  simp
 | p :: P,w :: vs,i + 1,m,nd,h1,h2,hk=>by
  show bindL kindOf ((p,w) :: P.zip vs) m x=_
  unfold bindL
  exact xu (i:=i) (List.nodup_cons.mp nd).2 (by simpa using h1) (by simpa using h2) hk
theorem yu {kindOf:Str→Option NameKind} {x:Str} {v:Value}:∀ {P:List Str} {vs:List Value} {i:Nat} {m:Str→Option Value},P.Nodup→P[i]? = some x→vs[i]? = some v→kindOf x ≠ some .local →
  bindC kindOf (P.zip vs) m x=some v
 | [],_,_,_,_,h,_,_=>by simp at h
 | _ :: _,[],_,_,_,_,h,_=>by simp at h
 | p :: P,w :: vs,0,m,nd,h1,h2,hk=>by
  simp at h1 h2;subst h1;subst h2
  show bindC kindOf ((p,w) :: P.zip vs) m p=_
  unfold bindC
  rw [Zu fun v hv=>(List.nodup_cons.mp nd).1 (List.of_mem_zip hv).1,if_neg hk]
  simp
 | p :: P,w :: vs,i + 1,m,nd,h1,h2,hk=>by
  show bindC kindOf ((p,w) :: P.zip vs) m x=_
  unfold bindC
  exact yu (i:=i) (List.nodup_cons.mp nd).2 (by simpa using h1) (by simpa using h2) hk
noncomputable def start (N:List Str) (vs:List V):St:=vs.map some ++ List.replicate (N.length - vs.length) none
noncomputable def AB (CX:CXT) (P:Program) (w:World) (K:PySem.W.Frag) (mg:Str→Option Value) (base:Heap) (N:List Str) (qual:Str) (scope:Scope) (f:Addr) (cd:Value) (A:Around) (outer:List Env) (s:Shared) (H:Hp) (E:XK):Cx where
 prog:=P
 w:=w
 K:=K
 mg:=mg
 base:=base
 A:=A.deeper (envOfC qual scope s.heap.objs.size f cd)
 N:=N
 s₀:=s
 H₀:=H
 env:=envOfC qual scope s.heap.objs.size f cd
 outer:=outer
 stack:=envOfC qual scope s.heap.objs.size f cd :: outer
 ex:=[]
 calm:=true
 fn:=fun _=>true
 pn:=[]
 xe:=fun e s'=>wpAny (model P w) (A.deeper (envOfC qual scope s.heap.objs.size f cd)) (leaving (envOfC qual scope s.heap.objs.size f cd) e) (fun _ s''=>CX outer H s E e s'') (fun e' s''=>CX outer H s E e' s'') s'
theorem Qx {sc:Scope} {n:Nat} {x:Str} (h:sc.names.lookup x=some .cell):∃ c,(cellsFrom n sc.names []).lookup x=some c:=by
 have q:=PySem.W.cellsFrom_some sc.names n [] (.inl h)
 exact Option.isSome_iff_exists.mp q
theorem ZA {CX:CXT} {P:Program} {w:World} {K:PySem.W.Frag} {mg:Str→Option Value} {base:Heap} {N ps:List Str} {qual:Str} {scope:Scope} {f:Addr} {cd:Value} {A:Around} {outer:List Env} {s s1:Shared} {H:Hp} {E:XK} {us:List Value} {vs:List V}
  (S:rb N ps scope) (hd:A.handled=none) (e0:jC P w K mg base A outer s H) (hl:vs.length=ps.length) (r:Wc vs us)
  (x:InCallC s s.heap.objs.size (bindL (envOfC qual scope s.heap.objs.size f cd).kindOf (ps.zip us) fun _=>none) (cellsFrom (s.heap.objs.size + 1) scope.names []) (bindC (envOfC qual scope s.heap.objs.size f cd).kindOf (ps.zip us) fun _=>none) s1) :
  Inv (AB CX P w K mg base N qual scope f cd A outer s H E) [] (start N vs) H s1:=by
 have hpl:ps.length ≤ N.length:=by have:=congrArg List.length S.pre;rw [List.length_take] at this;omega
 obtain ⟨h1,tk,rfl,hk⟩:=x.done
 have noA:∀ b:Addr,b ∉ (AB CX P w K mg base N qual scope f cd A outer s H E).ex:=fun b z=>absurd (show b ∈ ([]:List Addr) from z) (by simp)
 refine ⟨⟨e0.mod,S.kind,rfl,rfl,Nat.le_refl _,fun y z c h1 h2=>?_,fun y hy=>?_,fun y c _ h=>?_,fun _=>hd,Around.frames_deeper e0.frames,.inr ⟨rfl,rfl⟩,fun b z=>absurd z (noA b),e0.bs,e0.bsz,fun b _ _=>noA b,fun b z=>absurd z (noA b),e0.funs,e0.frf⟩,
  rfl,e0.bare,Un.kept hk,⟨_,x.toInCall.ns,fun i y v h1 h2 h3=>?_⟩,fun y c h=>⟨_,x.cell y c h⟩,e0.hok.fresh (Nat.le_refl _),fun y c h=>?_,fun p hp=>absurd (show p ∈ ([]:List (Addr × Obj)) from hp) (by simp),e0.hok.kept hk,?_⟩
 ·exact name_of_addr x.apart (PySem.mem_of_lookup h1) (PySem.mem_of_lookup h2)
 ·have hy:scope.names.lookup y=some .cell∨scope.names.lookup y=some .free:=hy
  rcases hy with hy | hy
  ·exact Qx hy
  ·exact absurd rfl (S.nofree _ (PySem.mem_of_lookup hy))
 ·exact Nat.le_of_lt (x.above y c (PySem.mem_of_lookup h))
 ·have hi:i < vs.length:=by
   unfold start at h2
   by_cases hi:i < vs.length
   ·exact hi
   ·rw [List.getElem?_append_right (by simpa using hi)] at h2
    rw [List.getElem?_replicate] at h2
    split at h2 <;> cases h2
  have ha:vs[i]? = some v:=by
   unfold start at h2
   rw [List.getElem?_append_left (by simpa using hi),List.getElem?_map] at h2
   cases e:vs[i]? with
   | none=>rw [e] at h2;cases h2
   | some a=>rw [e] at h2;cases h2;rfl
  obtain ⟨u,hu,rv⟩:=r.get ha
  have hp:ps[i]? = some y:=by
   rw [← S.pre,List.getElem?_take_of_lt (by omega)];exact h1
  have ndP:ps.Nodup:=by rw [← S.pre];exact S.nd.sublist (List.take_sublist _ _)
  refine ⟨u,rv,?_⟩
  rcases S.par y (List.mem_of_getElem? hp) with k | k
  ·exact .inl ⟨k,xu ndP hp hu k⟩
  ·obtain ⟨c,e⟩:=Qx (n:=s.heap.objs.size + 1) k
   refine .inr ⟨.inl k,c,e,?_⟩
   have q:=x.cell y c e
   rw [yu ndP hp hu (by show scope.names.lookup y ≠ _;rw [k];decide)] at q
   exact q
 ·exact e0.hok.fresh (Nat.le_of_lt (x.above y c (PySem.mem_of_lookup h)))
 ·unfold start
  show _=N.length
  rw [List.length_append,List.length_map,List.length_replicate]
  omega
theorem mL {CX:CXT} {P:Program} {w:World} {K:PySem.W.Frag} {mg:Str→Option Value} {base:Heap} {k:Nat} {f:Addr} {name qual:Str} {params:Arguments} {body:List Stmt} {scope:Scope} {dV kV doc pm cdv ct oc:Value} {an od:Option Addr}
  {osl:Array (Option Value)} {N ps:List Str} {sp:Sp} (lk:K.lookup f=some ⟨oc,od,.func (PySem.W.fnOf name qual params body scope dV kV doc pm an cdv ct),osl⟩) (hcd:PySem.W.codeIn K cdv qual=true) (S:rb N ps scope)
  (len:∀ vs H Q E,sp vs H Q E→vs.length=ps.length)
  (hbody:∀ (A:Around) (outer:List Env) (s:Shared) (H:Hp) (vs:List V) (Q:VK) (E:XK),ci k (A.deeper (envOfC qual scope s.heap.objs.size f cdv))→sp vs H Q E →
   ∃ t,PSs (AB CX P w K mg base N qual scope f cdv A outer s H E) body t∧t { nx:=fun _ H'=>Q .non H',rt:=Q } (start N vs) H) :
  Fb P w K mg base CX (k + 1) f (PySem.W.fnOf name qual params body scope dV kV doc pm an cdv ct) ps sp:=by
 refine ⟨len,fun A outer s H args us vs Q E hr e0 hb r hsp=>?_⟩
 have hl:=len _ _ _ _ hsp
 have KX:K.In s.heap:=e0.mod.kin.keeps fun b o e=>(e0.bs b o e).1
 have lim:s.heap.NoLimit:=e0.mod.nolimit.keeps fun b o e=>(e0.bs b o e).1
 have hkind:∀ y ∈ ps.zip us,scope.names.lookup y.1=some .local∨(scope.names.lookup y.1=some .cell∧((cellsFrom (s.heap.objs.size + 1) scope.names []).lookup y.1).isSome=true):=fun ⟨n,v⟩ hy=>by
  rcases S.par n (List.of_mem_zip hy).1 with q | q
  ·exact .inl q
  ·exact .inr ⟨q,PySem.W.cellsFrom_some _ _ _ (.inl q)⟩
 refine codeAny_call_function hr.depth (KX _ _ lk) rfl S.co S.gen rfl (PySem.W.codeRec_of KX hcd) (hb _ _ _ _ ?_)
 refine wpAny_newFunctionEnv_cells S.kind hkind fun env he s1 x=>?_
 subst he
 refine ⟨lim.keeps x.toInCall.keep,codeAny_func ?_⟩
 obtain ⟨t,ht,hq⟩:=hbody A outer s H vs Q E (hr.deeper _) hsp
 have I:Inv (AB CX P w K mg base N qual scope f cdv A outer s H E) [] (start N vs) H s1:=ZA S hr.hd e0 hl r x
 refine wpAny_mono (ht [] s1 (start N vs) H _ I hq) (fun fl s' hs=>?_) fun e s' hs=>hs
 have fin:∀ {σ':St} {H':Hp} {v:V} {u:Value},Inv (AB CX P w K mg base N qual scope f cdv A outer s H E) [] σ' H' s'→yd v u→Q v H'→CE outer P w H s Q u s':=
  fun {σ' H' v u} J rv q=>⟨v,H',J.os,J.bare,J.base,J.hok,rv,q⟩
 cases fl with
 | ret u=>
  obtain ⟨v,σ',H',J,rv,q⟩:=hs
  exact fin J rv q
 | next=>
  obtain ⟨σ',H',J,q⟩:=hs
  exact fin (v:=V.non) (u:=Value.none) J rfl q
 | brk=>
  obtain ⟨_,_,_,q⟩:=hs
  exact False.elim q
 | cont=>
  obtain ⟨_,_,_,q⟩:=hs
  exact False.elim q
end L2
namespace L2
open PySem PySem.Spec PyProof.Rows
section
variable {X:Cx} {x:Str} {p pos:Pos} {e:Expr} {es:List Expr} {t:TA} {id T:String} {r:List V→Hp→VK→Prop}
noncomputable def tCB (r:List V→Hp→VK→Prop) (t:TA):TE:=fun σ H Q=>t σ H fun vs H1=>r vs H1 Q
theorem Od (hc:Nm X (.builtin id) r) (hg:Gl X x) (hm:X.mg x=none) (hv:bootBuiltins x=some (.builtin id)) (ha:PA X (e :: es) t) (hn:x ≠ "__name__" := by decide) (hdb:(x == ("__debug__" : Str))=false:=by decide)
  (he:starEach (e :: es) X.env=(false,eval e X.env) :: starEach es X.env:=by rfl) (hpl:(backTo pos (starEach es X.env)).any (·.1)=false:=by rfl):PE X (.Call (.Name x p) (e :: es) [] pos) (tCB r t):=by
 intro pins s σ H Q I h
 refine wpAny_Call_Name_kw (vm I hg hm hv ?_ hn hdb)
 exact PyProof.Rows.callWith_builtin1 (thn (ha pos pins s σ H _ I h) fun us s1 ⟨vs,H1,I1,r1,q1⟩=>hc pins s1 σ H1 vs us Q I1 r1 q1) he hpl
theorem Dg (hc:Nm X (.type T) r) (hg:Gl X x) (hm:X.mg x=none) (hv:bootBuiltins x=some (.type T)) (ha:PA X (e :: es) t) (hn:x ≠ "__name__" := by decide) (hdb:(x == ("__debug__" : Str))=false:=by decide)
  (he:starEach (e :: es) X.env=(false,eval e X.env) :: starEach es X.env:=by rfl) (hpl:(backTo pos (starEach es X.env)).any (·.1)=false:=by rfl):PE X (.Call (.Name x p) (e :: es) [] pos) (tCB r t):=by
 intro pins s σ H Q I h
 refine wpAny_Call_Name_kw (vm I hg hm hv ?_ hn hdb)
 exact PyProof.Rows.callWith_type1 (thn (ha pos pins s σ H _ I h) fun us s1 ⟨vs,H1,I1,r1,q1⟩=>hc pins s1 σ H1 vs us Q I1 r1 q1) he hpl
end
end L2
namespace HT
open PySem PyProof.Rows
noncomputable def lexLt:List Int→List Int→Bool
 | [],[]=>false
 | [],_ :: _=>true
 | _ :: _,[]=>false
 | x :: xs,y :: ys=>if x=y then lexLt xs ys else decide (x < y)
section
open PySem.SeqAt
open PySem.AutoSeq1 (wpAny_loadPart')
open PySem.MeetsSeq PySem.MeetsSeq2 PySem.MeetsSeq3
end
section
variable {prog:Program} {w:World} {A:Around} {E:Value→Shared→Prop} {s:Shared}
theorem cat_tup {t b:Addr} {vs ws:List Value} {Q:Value→Shared→Prop} (ht:IsTup s.heap t vs.toArray) (hb:IsTup s.heap b ws.toArray) (hv:vs ≠ [])
  (h1:ws=[]→Q (.ref t) s) (h2:ws ≠ []→Q (.ref s.heap.objs.size) { s with heap:=s.heap.push { cls:=.type "tuple",data:=.seq (vs ++ ws).toArray } })
  (hsz:vs.length + ws.length ≤ sizeLine):wpAny (model prog w) A (binaryOp .Add (.ref t) (.ref b)) Q E s:=by
 obtain ⟨⟨cls,dd,data,sl⟩,ho,hc,n,hd⟩:=id ht
 obtain ⟨⟨cls2,dd2,data2,sl2⟩,ho2,hc2,n2,hd2⟩:=id hb
 simp only at hc hd hc2 hd2
 subst hc hd hc2 hd2
 have e:vs.toArray ++ ws.toArray=(vs ++ ws).toArray:=by simp
 by_cases hw:ws=[]
 ·exact concat_meets ⟨_,ho,rfl⟩ ⟨_,ho2,rfl⟩ noFill_tuple_add seq_tuple_add PySem.F.slot_tuple_add PySem.F.entry_tuple_add (PySem.F.args_tuple_add_2 _ _)
   (tuple_addW1 t b vs.toArray ws.toArray n n2 dd dd2 sl sl2 (by simpa using hv) (by simp [hw])) ⟨ho,ho2,h1 hw⟩
 ·refine concat_meets ⟨_,ho,rfl⟩ ⟨_,ho2,rfl⟩ noFill_tuple_add seq_tuple_add PySem.F.slot_tuple_add PySem.F.entry_tuple_add (PySem.F.args_tuple_add_2 _ _)
   (tuple_addW2 t b vs.toArray ws.toArray n n2 dd dd2 sl sl2 (by simpa using hv) (by simpa using hw) (by rw [List.size_toArray,List.size_toArray];exact hsz)) ⟨ho,ho2,?_⟩
  rw [e]
  exact h2 hw
noncomputable def sIx (n d:Nat):Option Int→Nat
 | none=>d
 | some v=>if v < 0 then (v + (n:Int)).toNat else min v.toNat n
theorem FL (n d:Nat) (hd:d ≤ n) (o:Option Int):sIx n d o ≤ n:=by
 cases o with
 | none=>exact hd
 | some v=>
  show (if v < 0 then (v + (n:Int)).toNat else min v.toNat n) ≤ n
  by_cases hv:v < 0
  ·rw [if_pos hv];omega
  ·rw [if_neg hv];exact Nat.min_le_right _ _
theorem zA (v:Int) (n d:Nat):(if v < 0 then max (v + (n:Int)) 0 else min v (n:Int))=((sIx n d (some v):Nat):Int):=by
 show (if v < 0 then max (v + (n:Int)) 0 else min v (n:Int))=(((if v < 0 then (v + (n:Int)).toNat else min v.toNat n):Nat):Int)
 by_cases hv:v < 0
 ·simp only [if_pos hv];omega
 ·simp only [if_neg hv];omega
theorem cz (lo hi:Option Int) (n:Nat):Builtin.Slice.sliceAdjust lo hi 1 (n:Int)=(((sIx n 0 lo:Nat):Int),((sIx n n hi:Nat):Int)):=by
 have h1:¬ ((1:Int) < 0):=by omega
 unfold Builtin.Slice.sliceAdjust
 simp only [h1,if_false]
 refine Prod.ext ?_ ?_
 ·cases lo with
  | none=>rfl
  | some v=>exact zA v n 0
 ·cases hi with
  | none=>rfl
  | some v=>exact zA v n n
theorem Hz (i j:Nat):Builtin.Slice.slicePlaces (i:Int) (j:Int) 1=j - i:=by
 unfold Builtin.Slice.slicePlaces
 have h1:(1:Int) > 0:=by omega
 simp only [h1,if_true,Int.ediv_one]
 split <;> omega
theorem Nr {v:Value} {o:Option Int} {Q:Option Int→Shared→Prop} (p:IsPart v o) (h:Q o s):wpAny (model prog w) A (Builtin.Slice.slicePartIndex v) Q E s:=by
 cases p with
 | none=>exact slicePart_none h
 | int i t=>exact slicePart_int h
theorem ko {sl:Addr} {vl vu:Value} {lo hi:Option Int} {n:Nat} {Q:Int × Int × Nat→Shared→Prop} (hs:s.heap.IsSliceOf sl vl vu .none) (pl:IsPart vl lo) (pu:IsPart vu hi)
  (h:Q (((sIx n 0 lo:Nat):Int),1,sIx n n hi - sIx n 0 lo) s):wpAny (model prog w) A (Builtin.Slice.sliceApplied (.ref sl) (pure (n:Int))) Q E s:=by
 obtain ⟨os,hos,hcs,hds⟩:=id hs
 unfold Builtin.Slice.sliceApplied Builtin.Slice.sliceFields
 refine wpAny_bind (wpAny_bind (wpAny_field hos hds (x:=vl) rfl (wpAny_bind (wpAny_field hos hds (x:=vu) rfl (wpAny_bind (wpAny_field hos hds (x:=.none) rfl (wpAny_pure ?_)))))))
 refine wpAny_bind (slicePart_none ?_)
 show wpAny _ _ (if ((1:Int) == 0)=true then _ else _) _ _ s
 rw [if_neg (by decide)]
 refine wpAny_bind (Nr pl (wpAny_bind (Nr pu (wpAny_bind (wpAny_pure ?_)))))
 show wpAny _ _ (match Builtin.Slice.sliceAdjust lo hi 1 (n:Int) with | (lo,hi)=>pure (lo,(1:Int),Builtin.Slice.slicePlaces lo hi 1)) _ _ s
 rw [cz lo hi n]
 show wpAny _ _ (pure (((sIx n 0 lo:Nat):Int),(1:Int),Builtin.Slice.slicePlaces ((sIx n 0 lo:Nat):Int) ((sIx n n hi:Nat):Int) 1)) _ _ s
 rw [Hz]
 exact wpAny_pure h
theorem fF (xs:Array Value) (i k:Nat):((List.range k).filterMap fun (m:Nat)=>xs[((i:Int) + (m:Int) * 1).toNat]?).toArray=((xs.toList.drop i).take k).toArray:=by
 have e:(fun (m:Nat)=>xs[((i:Int) + (m:Int) * 1).toNat]?)=fun m=>xs[i + m]?:=by
  funext m
  have:((i:Int) + (m:Int) * 1).toNat=i + m:=by omega
  rw [this]
 rw [e]
 have:=pick_run xs i k
 rw [List.filterMap_map] at this
 have e2:((fun x=>xs[x]?) ∘ fun x=>i + x)=fun m=>xs[i + m]?:=rfl
 rw [e2] at this
 rw [this]
theorem getItem_tuple_cut {t sl:Addr} {items:Array Value} {vl vu:Value} {lo hi:Option Int} {Q:Value→Shared→Prop} (ht:IsTup s.heap t items) (hs:s.heap.IsSliceOf sl vl vu .none) (pl:IsPart vl lo) (pu:IsPart vu hi)
  (hw:¬ (sIx items.size 0 lo=0∧sIx items.size items.size hi=items.size))
  (h:Q (.ref s.heap.objs.size) { s with heap:=s.heap.push { cls:=.type "tuple",data:=.seq ((items.toList.drop (sIx items.size 0 lo)).take (sIx items.size items.size hi - sIx items.size 0 lo)).toArray } })
  (hsz:items.size ≤ sizeLine):wpAny (model prog w) A (getItem (.ref t) (.ref sl)) Q E s:=by
 have htake:sizeOk (.seq ((items.toList.drop (sIx items.size 0 lo)).take (sIx items.size items.size hi - sIx items.size 0 lo)).toArray):=by
  show ((items.toList.drop (sIx items.size 0 lo)).take (sIx items.size items.size hi - sIx items.size 0 lo)).toArray.size ≤ sizeLine
  rw [List.size_toArray,List.length_take,List.length_drop,Array.length_toList]
  omega
 have hj:sIx items.size items.size hi ≤ items.size:=FL _ _ (Nat.le_refl _) hi
 obtain ⟨os,hos,hcs,hds⟩:=id hs
 have hTs:s.TypeIs (.ref sl) "slice" := ⟨os,hos,hcs⟩
 unfold getItem
 try with_reducible refine wpAny_holding ?_
 first | refine wpAny_bind (wpAny_pure ?_) | skip
 refine wpAny_bind (wpAny_sequenceKey ht.typeIs (by decide) ?_)
 refine wpAny_bind (wpAny_callSpecial?_slot (name:=Str.ofString "__getitem__") ht.typeIs PyProof.Rows.slot_tuple_getitem
  (wpAny_call_entry PyProof.Rows.slot_tuple_getitem ht.typeIs entry_tuple_getitem ?_ (args_tuple_getitem _ _)))
 show wpAny _ _ (Builtin.Tuple.tupleItemsOf (.ref t) >>= _) _ _ s
 refine wpAny_bind (tupleItemsOf_ ht ?_)
 refine wpAny_bind (wpAny_typeOf hTs ?_)
 rw [if_pos (by decide)]
 refine wpAny_bind (ko hs pl pu ?_)
 have hno:¬ ((((sIx items.size 0 lo:Nat):Int) == 0 && (1:Int) == 1 && (sIx items.size items.size hi - sIx items.size 0 lo) == items.size)=true):=by
  intro q
  rw [Bool.and_eq_true,Bool.and_eq_true] at q
  have q1:((sIx items.size 0 lo:Nat):Int)=0:=eq_of_beq q.1.1
  have q2:sIx items.size items.size hi - sIx items.size 0 lo=items.size:=eq_of_beq q.2
  exact hw ⟨by omega,by omega⟩
 show wpAny _ _ (if (((sIx items.size 0 lo:Nat):Int) == 0 && (1:Int) == 1 && (sIx items.size items.size hi - sIx items.size 0 lo) == items.size)=true then _ else _) _ _ s
 rw [if_neg hno,fF]
 first
  | exact wpAny_bind (m:=Builtin.Tuple.tupleExact _) (wpAny_newObj_type (wpAny_pure ⟨_,rfl,wpAny_pure h⟩) htake)
  | exact wpAny_bind (m:=Builtin.Tuple.tupleExact _) (wpAny_newObj_type (wpAny_bind (wpAny_pure (wpAny_pure ⟨_,rfl,wpAny_pure h⟩))) htake)
  | exact wpAny_bind (wpAny_bind (m:=Builtin.Tuple.tupleExact _) (wpAny_newObj_type (wpAny_pure (wpAny_pure ⟨_,rfl,wpAny_pure h⟩)) htake))
  | exact wpAny_bind (wpAny_bind (m:=Builtin.Tuple.tupleExact _) (wpAny_newObj_type (wpAny_pure ⟨_,rfl,wpAny_pure h⟩) htake))
end
end HT
namespace L2
open PySem PySem.Spec PyProof.Rows
noncomputable abbrev TO:=St→Hp→(Option Int→Hp→Prop)→Prop
noncomputable def PO (X:Cx) (e:Option Expr) (t:TO):Prop:=
 ∀ (pins:List (Addr × Obj)) (s:Shared) (σ:St) (H:Hp) (Q:Option Int→Hp→Prop),Inv X pins σ H s→t σ H Q →
  wpAny (model X.prog X.w) X.A (evalPart e X.env) (fun u s'=>∃ o H',Inv X pins σ H' s'∧IsPart u o∧Q o H') X.xe s
noncomputable def jB:TO:=fun _ H Q=>Q none H
noncomputable def rM (t:TE):TO:=fun σ H Q=>t σ H fun x H1=>∃ i,x=.int i∧Q (some i) H1
section
variable {X:Cx} {e:Expr} {te:TE} {lo hi:Option Expr} {tl th:TO} {pos p2:Pos}
theorem ut:PO X none jB:=by
 intro pins s σ H Q I h
 rw [evalPart_none]
 exact wpAny_pure ⟨none,H,I,.none,h⟩
theorem et (h:PE X e te):PO X (some e) (rM te):=by
 intro pins s σ H Q I hw
 rw [evalPart_some]
 refine thn (h pins s σ H _ I hw) fun u s1 hZ1=>?_
 obtain ⟨x,H1,I1,r1,q1⟩:=hZ1
 obtain ⟨i,rfl,q⟩:=q1
 obtain ⟨t,rfl⟩:=r1
 exact ⟨some i,H1,I1,.int i t,q⟩
noncomputable def SlR (X:Cx) (r:V→Option Int→Option Int→Hp→VK→Prop):Prop:=
 ∀ (pins:List (Addr × Obj)) (s:Shared) (σ:St) (H:Hp) (x:V) (v vl vu:Value) (lo hi:Option Int) (sl:Addr) (Q:VK),Inv X pins σ H s→yd x v→s.heap.IsSliceOf sl vl vu .none→IsPart vl lo→IsPart vu hi→r x lo hi H Q →
  ∃ T id,typeLookup (.type T) "__getitem__"=pure (some (.builtin id))∧s.TypeIs v T∧wpAny (model X.prog X.w) X.A (getItem v (.ref sl)) (EP X pins σ Q) X.xe s
noncomputable def tSl (r:V→Option Int→Option Int→Hp→VK→Prop) (te:TE) (tl th:TO):TE:=fun σ H Q=>te σ H fun x H1=>tl σ H1 fun l H2=>th σ H2 fun u H3=>r x l u H3 Q
theorem Ho {r:V→Option Int→Option Int→Hp→VK→Prop} (hr:SlR X r) (he:PE X e te) (hl:PO X lo tl) (hu:PO X hi th):PE X (.Subscript e (.Slice lo hi none p2) pos) (tSl r te tl th):=by
 intro pins s σ H Q I h
 refine Subscript_ (thn (he pins s σ H _ I h) fun v s1 hZ1=>?_)
 obtain ⟨x,H1,I1,r1,q1⟩:=hZ1
 refine wpAny_Slice (thn (hl pins s1 σ H1 _ I1 q1) fun vl s2 ⟨l,H2,I2,pl,q2⟩=>thn (hu pins s2 σ H2 _ I2 q2) fun vu s3 hZ1=>?_)
 obtain ⟨u,H3,I3,pu,q3⟩:=hZ1
 rw [evalPart_none]
 refine wpAny_pure ?_
 have I4:Inv X pins σ H3 { s3 with heap:=s3.heap.push { cls:=.type "slice",data:=.fields #[vl,vu,.none] } }:=I3.kept (t':=s3.toks) fun b ob q=>Heap.get?_push_of_some _ q
 obtain ⟨T,id,hT,ht,hg⟩:=hr pins { s3 with heap:=s3.heap.push { cls:=.type "slice",data:=.fields #[vl,vu,.none] } } σ H3 x v vl vu l u s3.heap.objs.size Q I4 r1 (Heap.IsSliceOf.new ..) pl pu q3
 show wpAny (model X.prog X.w) X.A (subscriptTail e (.Slice lo hi none p2) v (.ref s3.heap.objs.size)) (EP X pins σ Q) X.xe { s3 with heap:=s3.heap.push { cls:=.type "slice",data:=.fields #[vl,vu,.none] } }
 exact tail_any (ops:=[.ref s3.heap.objs.size,v]) ht hT hg (by with_unfolding_all rfl)
noncomputable def qD (xs:List V) (lo hi:Option Int):List V:=(xs.drop (HT.sIx xs.length 0 lo)).take (HT.sIx xs.length xs.length hi - HT.sIx xs.length 0 lo)
theorem Lp (xs:List V) (lo hi:Option Int):(qD xs lo hi).length ≤ xs.length:=by
 unfold qD
 rw [List.length_take,List.length_drop]
 omega
noncomputable def GO (K:PySem.W.Frag):V→Option Int→Option Int→Hp→VK→Prop:=fun x lo hi H Q=>∃ a xs,x=.ref a∧SqT K H a xs ∧
 ¬ (HT.sIx xs.length 0 lo=0∧HT.sIx xs.length xs.length hi=xs.length)∧∀ p,H p=none→Q (.ref p) (upd H p (.tup (qD xs lo hi)))
theorem tM:SlR X (GO X.K):=by
 intro pins s σ H x v vl vu lo hi sl Q I rx hs pl pu h
 obtain ⟨a,xs,rfl,hx,hw,q⟩:=h
 cases rx
 obtain ⟨its,r,ht,hz⟩:=I.tuple hx
 have hlen:its.toArray.size=xs.length:=by rw [List.size_toArray];exact r.length.symm
 refine ⟨"tuple",_,PyProof.Rows.slot_tuple_getitem.lookup,ht.typeIs,?_⟩
 refine HT.getItem_tuple_cut ht hs pl pu (by rw [hlen];exact hw) ?_ (by rw [hlen];exact hz)
 rw [hlen]
 refine ⟨.ref s.heap.objs.size,_,I.laid (t':=s.toks) (o:=.tup (qD xs lo hi)) (fun b ob q=>Heap.get?_push_of_some _ q) (Nat.le_refl _) ?_,rfl,q _ (I.hok.fresh (Nat.le_refl _))⟩
 exact ⟨Nat.le_trans (Lp xs lo hi) hz,_,(r.drop (HT.sIx xs.length 0 lo)).take (HT.sIx xs.length xs.length hi - HT.sIx xs.length 0 lo),IsTup.new _ _⟩
noncomputable def eP (K:PySem.W.Frag):R2:=fun x y H Q=>∃ a b ns ms,x=.ref a∧y=.ref b∧SqT K H a (ns.map V.int)∧SqT K H b (ms.map V.int)∧Q (.bl (HT.lexLt ns ms)) H
noncomputable def LK (K:PySem.W.Frag):R2:=fun x y H Q=>∃ a b xs ys,x=.ref a∧y=.ref b∧SqT K H a xs∧SqT K H b ys∧xs ≠ []∧xs.length + ys.length ≤ sizeLine ∧
 (ys=[]→Q (.ref a) H)∧(ys ≠ []→∀ p,H p=none→Q (.ref p) (upd H p (.tup (xs ++ ys))))
theorem Wc.nil_iff {xs:List V} {us:List Value} (r:Wc xs us):us=[]↔xs=[]:=by
 cases r with
 | nil=>simp
 | cons _ _=>simp
theorem BB:OpR X (binaryOp .Add) (LK X.K):=by
 intro pins s σ H x y v u Q I rx ry h
 obtain ⟨a,b,xs,ys,rfl,rfl,ha,hb,hx,hz,q1,q2⟩:=h
 cases rx
 cases ry
 obtain ⟨its,r1,p1,_⟩:=I.tuple ha
 obtain ⟨its2,r2,p2,_⟩:=I.tuple hb
 refine HT.cat_tup p1 p2 (fun z=>hx (r1.nil_iff.mp z)) (fun z=>⟨.ref a,H,I,rfl,q1 (r2.nil_iff.mp z)⟩) (fun z=>?_) (by rw [← r1.length,← r2.length];exact hz)
 refine ⟨.ref s.heap.objs.size,_,I.laid (t':=s.toks) (o:=.tup (xs ++ ys)) (fun b ob q=>Heap.get?_push_of_some _ q) (Nat.le_refl _) ?_,rfl,q2 (fun w=>z (r2.nil_iff.mpr w)) _ (I.hok.fresh (Nat.le_refl _))⟩
 exact ⟨by rw [List.length_append];exact hz,_,r1.append r2,IsTup.new _ _⟩
end
end L2
namespace L2
open PySem PySem.Spec PyProof.Rows
noncomputable def ixN (n:Nat) (i:Int):Option Nat:=if 0 ≤ i then (if i < n then some i.toNat else none) else if -(n:Int) ≤ i then some (i + n).toNat else none
noncomputable def atI {α:Type} (xs:List α) (i:Int):Option α:=(ixN xs.length i).bind fun j=>xs[j]?
theorem dB {n:Nat} {i:Int} {j:Nat} (h:ixN n i=some j):seqIndex? i n=some j∧j < n∧-(n:Int) ≤ i∧i < n:=by
 unfold ixN at h
 by_cases h0:0 ≤ i
 ·rw [if_pos h0] at h
  by_cases h1:i < n
  ·rw [if_pos h1] at h
   have e:i.toNat=j:=Option.some.inj h
   exact ⟨by rw [seqIndex_of h0 h1,e],by omega,by omega,h1⟩
  ·rw [if_neg h1] at h;cases h
 ·rw [if_neg h0] at h
  by_cases h1:-(n:Int) ≤ i
  ·rw [if_pos h1] at h
   have e:(i + n).toNat=j:=Option.some.inj h
   exact ⟨by rw [seqIndex_neg (by omega) h1,e],by omega,h1,by omega⟩
  ·rw [if_neg h1] at h;cases h
theorem Nw {α:Type} {xs:List α} {i:Int} {v:α} (h:atI xs i=some v):∃ j,seqIndex? i xs.length=some j∧xs[j]? = some v∧j < xs.length∧-(xs.length:Int) ≤ i∧i < xs.length:=by
 unfold atI at h
 cases e:ixN xs.length i with
 | none=>rw [e] at h;cases h
 | some j=>
  rw [e] at h
  obtain ⟨h1,h2,h3,h4⟩:=dB e
  exact ⟨j,h1,h,h2,h3,h4⟩
theorem Jb {α:Type} {xs:List α} {j:Nat} {v:α} (h:xs[j]? = some v):atI xs (j:Int)=some v:=by
 have hj:j < xs.length:=(List.getElem?_eq_some_iff.mp h).1
 have e:ixN xs.length (j:Int)=some j:=by
  unfold ixN
  rw [if_pos (by omega),if_pos (by omega)];simp
 unfold atI;rw [e];exact h
noncomputable def sJ (b:Expr):Prop:=∀ o i,subscripted b false o i=operate [o,i] (getItem o i)
noncomputable def IxR (X:Cx) (r:R2):Prop:=
 ∀ (value slice:Expr) (pins:List (Addr × Obj)) (s:Shared) (σ:St) (H:Hp) (x y:V) (v u:Value) (Q:VK),Inv X pins σ H s→yd x v→yd y u→r x y H Q →
  subscripted slice false v u=operate [v,u] (getItem v u)→wpAny (model X.prog X.w) X.A (subscriptTail value slice v u) (EP X pins σ Q) X.xe s
noncomputable def MtR (X:Cx) (id:String) (r:V→List V→Hp→VK→Prop):Prop:=
 ∀ (pins:List (Addr × Obj)) (s:Shared) (σ:St) (H:Hp) (x:V) (xs:List V) (v:Value) (us:List Value) (Q:VK),Inv X pins σ H s→yd x v→Wc xs us→r x xs H Q →
  wpAny (model X.prog X.w) X.A (call (.builtin id) (v :: us)) (EP X pins σ Q) X.xe s
section
variable {X:Cx} {a b:Expr} {ta tb:TE} {pos:Pos}
theorem zc {r:R2} (hr:IxR X r) (ha:PE X a ta) (hb:PE X b tb) (hs:sJ b):PE X (.Subscript a b pos) (tOp r ta tb):=by
 intro pins s σ H Q I h
 exact Subscript_ (qN ha hb I h fun v u s2 x y H2 I2 rx ry q=>hr a b pins s2 σ H2 x y v u Q I2 rx ry q (hs _ _))
noncomputable def fN (K:PySem.W.Frag):R2:=fun x y H Q=>∃ p xs i v,x=.ref p∧y=.int i∧SqL K H p xs∧atI xs i=some v∧Q v H
noncomputable def gN (K:PySem.W.Frag):R2:=fun x y H Q=>∃ p xs i v,x=.ref p∧y=.int i∧SqT K H p xs∧atI xs i=some v∧Q v H
noncomputable def nN:R2:=fun x y H Q=>∃ z i c,x=.str z∧y=.int i∧z.length ≤ sizeLine∧atI z.cps.toList i=some c∧Q (.str ⟨#[c]⟩) H
theorem Yd:IxR X (fN X.K):=by
 intro value slice pins s σ H x y v u Q I rx ry h hs
 obtain ⟨p,xs,i,z,rfl,rfl,hq,he,q⟩:=h
 cases rx
 obtain ⟨t,rfl⟩:=ry
 obtain ⟨its,r,pl,hz⟩:=I.list hq
 obtain ⟨j,h1,h2,h3,h4,h5⟩:=Nw he
 obtain ⟨w,ew,rw'⟩:=r.get h2
 have hl:=r.length
 have hn:=Up
 have fin:EP X pins σ Q w s:=⟨z,H,I,rw',q⟩
 by_cases h0:0 ≤ i
 ·have hj:i.toNat=j:=by
   rw [seqIndex_of h0 h5] at h1
   exact Option.some.inj h1
  exact item_listR pl.isList h0 (by omega) (by rw [hj];simpa using ew) fin hs
 ·have hj:(i + (its.toArray.size:Int)).toNat=j:=by
   rw [seqIndex_neg (by omega) h4] at h1
   rw [List.size_toArray,← hl]
   exact Option.some.inj h1
  exact subscriptTail_builtinR (x:=w) pl.isList.typeIs slot_list_getitem.lookup
   (wpAny_getItem_list_neg (Q:=fun r s'=>r=w∧EP X pins σ Q r s') pl.isList (by omega) (by rw [List.size_toArray] <;> omega) (by omega) (by rw [hj];simpa using ew) ⟨rfl,fin⟩) hs
theorem Lc:IxR X (gN X.K):=by
 intro value slice pins s σ H x y v u Q I rx ry h hs
 obtain ⟨p,xs,i,z,rfl,rfl,hq,he,q⟩:=h
 cases rx
 obtain ⟨t,rfl⟩:=ry
 obtain ⟨its,r,pl,hz⟩:=I.tuple hq
 obtain ⟨j,h1,h2,h3,h4,h5⟩:=Nw he
 obtain ⟨w,ew,rw'⟩:=r.get h2
 have hl:=r.length
 have hn:=Up
 have fin:EP X pins σ Q w s:=⟨z,H,I,rw',q⟩
 exact subscriptTail_builtinR (x:=w) pl.typeIs slot_tuple_getitem.lookup
  (getItem_tuple (j:=j) (Q:=fun r s'=>r=w∧EP X pins σ Q r s') pl (by omega) (by omega) (by rw [List.size_toArray,← hl];exact h1) (by simpa using ew) ⟨rfl,fin⟩) hs
theorem bH:IxR X nN:=by
 intro value slice pins s σ H x y v u Q I rx ry h hs
 obtain ⟨z,i,c,rfl,rfl,hz,he,q⟩:=h
 obtain ⟨t,rfl⟩:=rx
 obtain ⟨t',rfl⟩:=ry
 obtain ⟨j,h1,h2,h3,h4,h5⟩:=Nw he
 have hl:z.cps.toList.length=z.length:=by simp [Str.length]
 rw [hl] at h1 h4 h5
 have hn:=Up
 exact tail_any (typeIs_str s z t) slot_str_getitem.lookup (getItem_str (c:=c) (by
  have e1:decide (i < -(2 ^ 63:Int))=false:=decide_eq_false (by omega)
  have e2:decide (i ≥ 2 ^ 63)=false:=decide_eq_false (by omega)
  rw [e1,e2,Bool.or_false]) (by rw [h1];simpa using h2) ⟨.str ⟨#[c]⟩,H,I.tok _,⟨_,rfl⟩,q⟩) hs
noncomputable def rIx (K:PySem.W.Frag):R2:=fun x y H Q=>fN K x y H Q∨gN K x y H Q∨nN x y H Q
theorem Iz (its:List Value) (n j:Nat) (u:Value):Obj.mapSeq (·.setIfInBounds j u) { cls:=.type "list",data:=.seq its.toArray n } = { cls:=.type "list",data:=.seq (its.set j u).toArray n }:=by
 simp [Obj.mapSeq]
theorem Inv.lst {pins:List (Addr × Obj)} {σ:St} {H:Hp} {s:Shared} {p:Addr} {xs:List V} (I:Inv X pins σ H s) (h:H p=some (.lst xs)) :
  ∃ (its:List Value) (n:Nat),Wc xs its∧s.heap.get? p=some { cls:=.type "list",data:=.seq its.toArray n }∧xs.length ≤ sizeLine:=by
 obtain ⟨z,its,n,r,e⟩:=I.hok p _ h
 exact ⟨its,n,r,e,z⟩
theorem Inv.lstUpd {pins:List (Addr × Obj)} {σ:St} {H:Hp} {s:Shared} {p:Addr} {xs ys:List V} {its its':List Value} {n n':Nat} {f:Obj→Obj} (I:Inv X pins σ H s) (h:H p=some (.lst xs))
  (ho:s.heap.get? p=some { cls:=.type "list",data:=.seq its.toArray n }) (hf:f { cls:=.type "list",data:=.seq its.toArray n } = { cls:=.type "list",data:=.seq its'.toArray n' }) (r:Wc ys its') (hz:ys.length ≤ sizeLine) (t:Nat) :
  Inv X pins σ (upd H p (.lst ys)) { s with heap:=s.heap.update p f,toks:=t }:=by
 have e:(s.heap.update p f).get? p=some { cls:=.type "list",data:=.seq its'.toArray n' }:=by
  rw [Heap.get?_update_self f ho (by rw [hf] <;> rfl),hf]
 refine I.write (x:=p) (e:=p) (by rw [h];trivial) (.inl rfl) (fun b u hb q=>(Heap.get?_update_other _ _ (Ne.symm hb)).trans q) ⟨_,e⟩ ?_
 exact ⟨hz,its',n',r,e⟩
noncomputable def rL:V→V→V→Hp→(Hp→Prop)→Prop:=fun o i v H Q=>∃ p xs k j,o=.ref p∧i=.int k∧H p=some (.lst xs)∧ixN xs.length k=some j∧Q (upd H p (.lst (xs.set j v)))
theorem Go:UO X rL:=by
 intro pins s σ H o i v ov iv u Q I ro ri rv h
 obtain ⟨p,xs,k,j,rfl,rfl,hp,hj,q⟩:=h
 cases ro
 obtain ⟨t,rfl⟩:=ri
 obtain ⟨its,n,r,ho,hz⟩:=I.lst hp
 obtain ⟨h1,h2,h3,h4⟩:=dB hj
 have hl:=r.length
 have hn:=Up
 have I':Inv X pins σ (upd H p (.lst (xs.set j v))) { s with heap:=s.heap.update p (Obj.mapSeq (·.setIfInBounds j u)) }:=
  I.lstUpd hp ho (Iz its n j u) (r.set rv j) (by rw [List.length_set];exact hz) s.toks
 by_cases h0:0 ≤ k
 ·have hk:k.toNat=j:=by
   rw [seqIndex_of h0 h4] at h1
   exact Option.some.inj h1
  exact PySem.W.ki_setAt ho h0 (by omega) (by rw [List.size_toArray,← hl];exact h4) (by rw [hk];exact ⟨_,I',q⟩)
 ·have hk:(k + (its.toArray.size:Int)).toNat=j:=by
   rw [seqIndex_neg (by omega) h3] at h1
   rw [List.size_toArray,← hl]
   exact Option.some.inj h1
  exact PySem.W.ki_setBack ho (by omega) (by rw [List.size_toArray,← hl];exact h3) (by omega) (by rw [hk];exact ⟨_,I',q⟩)
theorem Iu (lo hi:Option Int) (n:Nat):(sliceBounds lo hi none n).1=((HT.sIx n 0 lo:Nat):Int)∧(sliceBounds lo hi none n).2.1=((HT.sIx n n hi:Nat):Int)∧(sliceBounds lo hi none n).2.2=1:=by
 refine ⟨?_,?_,rfl⟩
 ·cases lo with
  | none=>simp [sliceBounds,HT.sIx]
  | some i=>
   simp only [sliceBounds,HT.sIx,Option.getD_none,show (1:Int) > 0 by decide,if_true]
   by_cases h:i < 0
   ·simp only [h,if_true] <;> omega
   ·simp only [h,if_false] <;> omega
 ·cases hi with
  | none=>simp [sliceBounds,HT.sIx]
  | some i=>
   simp only [sliceBounds,HT.sIx,Option.getD_none,show (1:Int) > 0 by decide,if_true]
   by_cases h:i < 0
   ·simp only [h,if_true] <;> omega
   ·simp only [h,if_false] <;> omega
theorem Rt (its:List Value) (lo hi:Option Int):slicePick its.toArray lo hi none=((its.drop (HT.sIx its.length 0 lo)).take (HT.sIx its.length its.length hi - HT.sIx its.length 0 lo)).toArray:=by
 obtain ⟨h1,h2,h3⟩:=Iu lo hi its.toArray.size
 unfold slicePick
 rw [h1,h2,h3]
 simp only [sliceRange_one,pick_run,List.size_toArray] <;> rfl
noncomputable def FO (K:PySem.W.Frag):V→Option Int→Option Int→Hp→VK→Prop:=fun x lo hi H Q=>∃ a xs,x=.ref a∧SqL K H a xs∧∀ p,H p=none→Q (.ref p) (upd H p (.lst (qD xs lo hi)))
theorem LJ:SlR X (FO X.K):=by
 intro pins s σ H x v vl vu lo hi sl Q I rx hs pl pu h
 obtain ⟨a,xs,rfl,hx,q⟩:=h
 cases rx
 obtain ⟨its,r,ht,hz⟩:=I.list hx
 have hlen:=r.length
 refine ⟨"list",_,slot_list_getitem.lookup,ht.isList.typeIs,?_⟩
 refine wpAny_getItem_list_slice ht.isList hs pl pu .none (by simp) ?_ (by rw [List.size_toArray] <;> omega)
 rw [Rt,← hlen]
 refine ⟨.ref s.heap.objs.size,_,I.laid (t':=s.toks) (o:=.lst (qD xs lo hi)) (fun b ob q=>Heap.get?_push_of_some _ q) (Nat.le_refl _) ?_,rfl,q _ (I.hok.fresh (Nat.le_refl _))⟩
 exact ⟨Nat.le_trans (Lp xs lo hi) hz,_,0,(r.drop (HT.sIx xs.length 0 lo)).take (HT.sIx xs.length xs.length hi - HT.sIx xs.length 0 lo),Heap.get?_push_size _ rfl⟩
noncomputable def cj:V→Bool
 | .non=>true
 | .bl _=>true
 | .int _=>true
 | .str _=>true
 | _=>false
noncomputable def eqV:V→V→Bool
 | .non,.non=>true
 | .bl a,.bl b=>a == b
 | .bl a,.int b=>(if a then 1 else 0) == b
 | .int a,.bl b=>a == (if b then 1 else 0)
 | .int a,.int b=>a == b
 | .str a,.str b=>a == b
 | _,_=>false
theorem nH {A:Around} {s:Shared} {y x:V} {u v:Value} (ry:yd y u) (rx:yd x v) (fy:cj y=true) (fx:cj x=true):SeqAt.EqAt A s u v (eqV y x):=by
 cases y with
 | non=>
  cases ry
  cases x with
  | non=>cases rx;exact SeqAt.EqAt.same _
  | bl b=>cases rx;exact SeqAt.EqAt.none_bool b
  | int b=>obtain ⟨t,rfl⟩:=rx;exact SeqAt.EqAt.none_int b t
  | str b=>obtain ⟨t,rfl⟩:=rx;exact SeqAt.EqAt.none_str b t
  | _=>exact absurd (show false=true from fx) Bool.false_ne_true
 | bl a=>
  cases ry
  cases x with
  | non=>cases rx;exact SeqAt.EqAt.bool_none a
  | bl b=>cases rx;exact SeqAt.EqAt.bool_bool a b
  | int b=>obtain ⟨t,rfl⟩:=rx;exact SeqAt.EqAt.bool_int a b t
  | str b=>obtain ⟨t,rfl⟩:=rx;exact SeqAt.EqAt.bool_str a b t
  | _=>exact absurd (show false=true from fx) Bool.false_ne_true
 | int a=>
  obtain ⟨t',rfl⟩:=ry
  cases x with
  | non=>cases rx;exact SeqAt.EqAt.int_none a t'
  | bl b=>cases rx;exact SeqAt.EqAt.int_bool a t' b
  | int b=>obtain ⟨t,rfl⟩:=rx;exact SeqAt.EqAt.int_int a t' b t
  | str b=>obtain ⟨t,rfl⟩:=rx;exact SeqAt.EqAt.int_str a t' b t
  | _=>exact absurd (show false=true from fx) Bool.false_ne_true
 | str a=>
  obtain ⟨t',rfl⟩:=ry
  cases x with
  | non=>cases rx;exact SeqAt.EqAt.str_none a t'
  | bl b=>cases rx;exact SeqAt.EqAt.str_bool a t' b
  | int b=>obtain ⟨t,rfl⟩:=rx;exact SeqAt.EqAt.str_int a t' b t
  | str b=>obtain ⟨t,rfl⟩:=rx;exact SeqAt.EqAt.str_str a t' b t
  | _=>exact absurd (show false=true from fx) Bool.false_ne_true
 | _=>exact absurd (show false=true from fy) Bool.false_ne_true
noncomputable def eqU (x:V) (u:Value):Bool:=match u with
 | .none=>eqV .non x
 | .bool b=>eqV (.bl b) x
 | .int i _=>eqV (.int i) x
 | .str z _=>eqV (.str z) x
 | _=>false
theorem BG {x y:V} {u:Value} (r:yd y u) (f:cj y=true):eqU x u=eqV y x:=by
 cases y with
 | non=>cases r;rfl
 | bl b=>cases r;rfl
 | int i=>obtain ⟨t,rfl⟩:=r;rfl
 | str z=>obtain ⟨t,rfl⟩:=r;rfl
 | _=>exact absurd (show false=true from f) Bool.false_ne_true
theorem wp {x:V}:∀ {xs:List V} {us:List Value},Wc xs us→xs.all cj=true→us.any (eqU x)=xs.any fun y=>eqV y x
 | _,_,.nil,_=>rfl
 | y :: xs,u :: us,.cons r t,f=>by
  rw [List.all_cons,Bool.and_eq_true] at f
  rw [List.any_cons,List.any_cons,BG r f.1,wp t f.2]
theorem Ll {A:Around} {s:Shared} {x:V} {v:Value} (rx:yd x v) (fx:cj x=true):∀ {xs:List V} {us:List Value},Wc xs us→xs.all cj=true→∀ u ∈ us,SeqAt.EqAt A s u v (eqU x u)
 | _,_,.nil,_=>fun u hu=>by cases hu
 | y :: xs,u :: us,.cons r t,f=>fun u' hu=>by
  rw [List.all_cons,Bool.and_eq_true] at f
  rcases List.mem_cons.mp hu with rfl | hu
  ·rw [BG r f.1];exact nH r rx f.1 fx
  ·exact Ll rx fx t f.2 u' hu
noncomputable def inV (x:V) (xs:List V):Bool:=xs.any fun y=>eqV y x
noncomputable def rIn (K:PySem.W.Frag) (neg:Bool):R2:=fun x y H Q=>∃ p xs,y=.ref p∧(SqL K H p xs∨SqT K H p xs)∧cj x=true∧xs.all cj=true∧Q (.bl (if neg then !inV x xs else inV x xs)) H
theorem mj:OpR X (compareOp .In) (rIn X.K false):=by
 intro pins s σ H x y v u Q I rx ry h
 obtain ⟨p,xs,rfl,hq,fx,fs,q⟩:=h
 cases ry
 rcases hq with hq | hq
 ·obtain ⟨its,r,pl,hz⟩:=I.list hq
  refine SeqAt.in_listAt (eqU x) pl.isList (fun w hw=>Ll rx fx r fs w (by simpa using hw)) ⟨.bl _,H,I,rfl,?_⟩
  rw [show its.toArray.any (eqU x)=its.any (eqU x) by simp,wp r fs]
  exact q
 ·obtain ⟨its,r,pl,hz⟩:=I.tuple hq
  refine SeqAt.in_tupleAt (eqU x) pl (fun w hw=>Ll rx fx r fs w (by simpa using hw)) ⟨.bl _,H,I,rfl,?_⟩
  rw [show its.toArray.any (eqU x)=its.any (eqU x) by simp,wp r fs]
  exact q
theorem Bu:OpR X (compareOp .NotIn) (rIn X.K true):=by
 intro pins s σ H x y v u Q I rx ry h
 obtain ⟨p,xs,rfl,hq,fx,fs,q⟩:=h
 cases ry
 rcases hq with hq | hq
 ·obtain ⟨its,r,pl,hz⟩:=I.list hq
  refine SeqAt.notIn_listAt (eqU x) pl.isList (fun w hw=>Ll rx fx r fs w (by simpa using hw)) ⟨.bl _,H,I,rfl,?_⟩
  rw [show its.toArray.any (eqU x)=its.any (eqU x) by simp,wp r fs]
  exact q
 ·obtain ⟨its,r,pl,hz⟩:=I.tuple hq
  refine SeqAt.notIn_tupleAt (eqU x) pl (fun w hw=>Ll rx fx r fs w (by simpa using hw)) ⟨.bl _,H,I,rfl,?_⟩
  rw [show its.toArray.any (eqU x)=its.any (eqU x) by simp,wp r fs]
  exact q
theorem Pc:Nm X (.builtin "len") (fun xs H Q=>∃ p ys,xs=[.ref p]∧(SqL X.K H p ys∨SqT X.K H p ys)∧Q (.int ys.length) H):=by
 intro pins s σ H xs us Q I r h
 obtain ⟨p,ys,rfl,hq,q⟩:=h
 obtain ⟨u,rfl,rx⟩:=zo r
 cases rx
 have hn:=Up
 rcases hq with hq | hq
 ·obtain ⟨its,r',pl,hz⟩:=I.list hq
  have hlen:=r'.length
  exact Calls.call_len_list pl.isList (by simp only [List.size_toArray] <;> omega) ⟨.int ys.length,H,I.tok _,⟨s.toks + 1,by rw [List.size_toArray,hlen]⟩,q⟩
 ·obtain ⟨its,r',pl,hz⟩:=I.tuple hq
  have hlen:=r'.length
  exact len_tuple pl (by simp only [List.size_toArray] <;> omega) ⟨.int ys.length,H,I.tok _,⟨s.toks + 1,by rw [List.size_toArray,hlen]⟩,q⟩
theorem vv:Nm X (.builtin "len") (fun xs H Q=>∃ z,xs=[.str z]∧z.length ≤ sizeLine∧Q (.int z.length) H):=by
 intro pins s σ H xs us Q I r h
 obtain ⟨z,rfl,hz,q⟩:=h
 obtain ⟨u,rfl,t,rfl⟩:=zo r
 have hn:=Up
 exact len_str (by omega) ⟨.int z.length,H,I.tok _,⟨_,rfl⟩,q⟩
theorem wv:Nm X (.type "list") (fun xs H Q=>∃ p ys,xs=[.ref p]∧(SqL X.K H p ys∨SqT X.K H p ys)∧∀ l,H l=none→Q (.ref l) (upd H l (.lst ys))):=by
 intro pins s σ H xs us Q I r h
 obtain ⟨p,ys,rfl,hq,q⟩:=h
 obtain ⟨u,rfl,rx⟩:=zo r
 cases rx
 have fin:∀ (its:List Value),Wc ys its→ys.length ≤ sizeLine→∀ (h':Heap) (c':Nat),(∀ b o',s.heap.get? b=some o'→h'.get? b=some o') →
   h'.get? s.heap.objs.size=some { cls:=.type "list",dict:=none,data:=.seq its.toArray c',slots:=#[] }→EP X pins σ Q (.ref s.heap.objs.size) { s with heap:=h' }:=fun its r' hz h' c' kp e=>
  ⟨.ref s.heap.objs.size,_,I.laid (t':=s.toks) kp (Nat.le_refl _) (show kd X.prog X.w _ h' _ (.lst ys) from ⟨hz,its,c',r',e⟩),rfl,q _ (I.hok.fresh (Nat.le_refl _))⟩
 rcases hq with hq | hq
 ·obtain ⟨its,r',pl,hz⟩:=I.list hq
  have hlen:=r'.length
  obtain ⟨o,ho,hc,n,hd⟩:=pl.isList
  exact call_list_seq p (.inl rfl) ho hc hd (fun h' c' kp e=>fin its r' hz h' c' kp e) (by simp only [List.size_toArray] <;> omega)
 ·obtain ⟨its,r',pl,hz⟩:=I.tuple hq
  have hlen:=r'.length
  obtain ⟨o,ho,hc,n,hd⟩:=pl
  exact call_list_seq p (.inr rfl) ho hc hd (fun h' c' kp e=>fin its r' hz h' c' kp e) (by simp only [List.size_toArray] <;> omega)
noncomputable def tyV (K:PySem.W.Frag) (T:String) (x:V) (H:Hp):Prop:=match x with
 | .str _=>T = "str"
 | .int _=>T = "int"
 | .ref p=>(T = "list" ∧ ∃ xs,SqL K H p xs)∨(T = "tuple" ∧ ∃ o,K.lookup p=some o∧o.cls=.type "tuple" ∧ o.dict=none) ∨
   (T = "dict" ∧ ((∃ kvs,H p=some (.dK kvs))∨∃ kvs,H p=some (.dT kvs)))∨(T = "set" ∧ ∃ S n,H p=some (.set S n))
 | _=>False
theorem rG {pins:List (Addr × Obj)} {σ:St} {H:Hp} {s:Shared} {T:String} {x:V} {v:Value} (I:Inv X pins σ H s) (r:yd x v) (ty:tyV X.K T x H) :
  s.TypeIs v T∧∀ a,v=.ref a→∃ ob,s.heap.get? a=some ob∧ob.dict=none:=by
 cases x with
 | str z=>
  obtain ⟨t,rfl⟩:=r
  cases (show T = "str" from ty)
  exact ⟨typeIs_str s z t,fun _ e=>nomatch e⟩
 | int i=>
  obtain ⟨t,rfl⟩:=r
  cases (show T = "int" from ty)
  exact ⟨typeIs_int s i t,fun _ e=>nomatch e⟩
 | ref p=>
  cases r
  rcases ty with ⟨rfl,xs,hq⟩ | ⟨rfl,o,hk,hc,hd⟩ | ⟨rfl,hk⟩ | ⟨rfl,S,n,hk⟩
  ·obtain ⟨its,_,pl,_⟩:=I.list hq
   refine ⟨pl.isList.typeIs,fun a e=>?_⟩
   cases e
   obtain ⟨o,n,e,c,hd,_⟩:=pl
   exact ⟨o,e,hd⟩
  ·refine ⟨⟨o,I.kIn p o hk,hc⟩,fun a e=>?_⟩
   cases e
   exact ⟨o,I.kIn _ o hk,hd⟩
  ·have z:∃ o,s.heap.get? p=some o∧o.ExactDict:=by
    rcases hk with ⟨kvs,hk⟩ | ⟨kvs,hk⟩
    ·obtain ⟨_,_,_,_,o,_,_,e,ex,_⟩:=I.hok p _ hk
     exact ⟨o,e,ex⟩
    ·obtain ⟨_,_,_,_,o,_,_,e,ex,_⟩:=I.hok p _ hk
     exact ⟨o,e,ex⟩
   obtain ⟨o,e,ex⟩:=z
   refine ⟨⟨o,e,ex.1⟩,fun a e2=>?_⟩
   cases e2
   exact ⟨o,e,ex.2.1⟩
  ·obtain ⟨o,_,_,_,e,ex,_⟩:=I.hok p _ hk
   refine ⟨⟨o,e,ex.1⟩,fun a e2=>?_⟩
   cases e2
   exact ⟨o,e,ex.2.1⟩
 | _=>exact False.elim ty
noncomputable def vO (K:PySem.W.Frag) (T:String) (r:V→List V→Hp→VK→Prop) (to:TE):TE:=fun σ H Q=>to σ H fun x H1=>tyV K T x H1∧r x [] H1 Q
noncomputable def tBM (K:PySem.W.Frag) (T:String) (r:V→List V→Hp→VK→Prop) (to:TE) (t:TA):TE:=fun σ H Q=>to σ H fun x H1=>tyV K T x H1∧t σ H1 fun xs H2=>r x xs H2 Q
variable {o e:Expr} {es:List Expr} {to:TE} {t:TA} {name:Str} {apos cpos:Pos} {T id:String} {r:V→List V→Hp→VK→Prop}
theorem CG (pa:PlainAttrs T) (slot:Slot T name id) (hty:typeOf (.builtin id)=pure (.type "method_descriptor")) (hm:MtR X id r) (ho:PE X o to)
  (hbase:attributeBase o name X.env (eval o X.env)=eval o X.env:=by rfl) (hline:(apos.endLine == cpos.line)=true:=by rfl):PE X (.Call (.Attribute o name apos) [] [] cpos) (vO X.K T r to):=by
 intro pins s σ H Q I h
 refine wpAny_Call_method0_late hbase hline (thn (ho pins s σ H _ I h) fun v s1 hZ1=>?_)
 obtain ⟨x,H1,I1,r1,ty,q1⟩:=hZ1
 obtain ⟨h1,h2⟩:=rG I1 r1 ty
 exact ⟨T,id,pa,slot,hty,h1,h2,Calls.callWith_builtin rfl (PySem.evalArgs_none (hm pins s1 σ H1 x [] v [] Q I1 r1 .nil q1))⟩
theorem Kl (pa:PlainAttrs T) (slot:Slot T name id) (hty:typeOf (.builtin id)=pure (.type "method_descriptor")) (hm:MtR X id r) (ho:PE X o to) (ha:PA X (e :: es) t)
  (hbase:attributeBase o name X.env (eval o X.env)=eval o X.env:=by rfl)
  (hfew:((backTo cpos (starEach (e :: es) X.env)).all (fun x=>!x.1) && (backToKw cpos (keywordEach [] X.env)).all (fun x=>x.1.isSome)
   && decide ((e :: es).length + ([]:List Keyword).length + (if ([]:List Keyword).isEmpty then 0 else 1) < 30))=true:=by rfl)
  (hline:(apos.endLine == cpos.line)=true:=by rfl) (hs:starEach (e :: es) X.env=(false,eval e X.env) :: starEach es X.env:=by rfl) (hplain:(backTo cpos (starEach es X.env)).any (·.1)=false:=by rfl) :
  PE X (.Call (.Attribute o name apos) (e :: es) [] cpos) (tBM X.K T r to t):=by
 intro pins s σ H Q I h
 refine wpAny_Call_method_late hbase hfew hline rfl (thn (ho pins s σ H _ I h) fun v s1 hZ1=>?_)
 obtain ⟨x,H1,I1,r1,ty,q1⟩:=hZ1
 obtain ⟨h1,h2⟩:=rG I1 r1 ty
 refine ⟨T,id,pa,slot,hty,h1,h2,?_⟩
 have hA:=ha cpos pins s1 σ H1 _ I1 q1
 rw [hs] at hA ⊢
 refine Calls.callWith_builtin (by show (false || (backTo cpos (starEach es X.env)).any (·.1))=false;rw [hplain] <;> rfl) (Calls.evalArgs_plain ?_)
 exact thn hA fun us s2 ⟨vs,H2,I2,r2,q2⟩=>hm pins s2 σ H2 x vs v us Q I2 r1 r2 q2
end
end L2
namespace L2
open PySem PySem.Spec PyProof.Rows
noncomputable def MtM (X:Cx) (id:String) (r:V→List V→Hp→VK→Prop):Prop:=
 ∀ (pins:List (Addr × Obj)) (s:Shared) (σ:St) (H:Hp) (x:V) (xs:List V) (v:Value) (us:List Value) (Q:VK),Inv X pins σ H s→yd x v→Wc xs us→r x xs H Q →
  wpAny (model X.prog X.w) X.A (call (.builtin id) (v :: us)) (EP X pins σ Q) X.xe s
theorem Wc.one:∀ {x:V} {us:List Value},Wc [x] us→∃ u,us=[u]∧yd x u
 | _,_,.cons r .nil=>⟨_,rfl,r⟩
theorem Wc.two:∀ {x y:V} {us:List Value},Wc [x,y] us→∃ u v,us=[u,v]∧yd x u∧yd y v
 | _,_,_,.cons r (.cons q .nil)=>⟨_,_,rfl,r,q⟩
theorem Wc.zero:∀ {us:List Value},Wc [] us→us=[]
 | _,.nil=>rfl
theorem Wc.dropLast {xs:List V} {us:List Value} (h:Wc xs us):Wc xs.dropLast us.dropLast:=by
 induction h with
 | nil=>exact .nil
 | cons r t ih=>
  cases t with
  | nil=>exact .nil
  | cons q t'=>exact .cons r ih
theorem Wc.eraseIdx:∀ {xs:List V} {us:List Value} (i:Nat),Wc xs us→Wc (xs.eraseIdx i) (us.eraseIdx i)
 | _,_,_,.nil=>.nil
 | _,_,0,.cons _ t=>t
 | _,_,i + 1,.cons r t=>.cons r (Wc.eraseIdx i t)
theorem Wc.reverse {xs:List V} {us:List Value} (h:Wc xs us):Wc xs.reverse us.reverse:=by
 induction h with
 | nil=>exact .nil
 | cons r t ih=>rw [List.reverse_cons,List.reverse_cons];exact Wc.append ih (.cons r .nil)
section
variable {X:Cx} {pins:List (Addr × Obj)} {σ:St} {H:Hp} {s:Shared} {l b:Addr} {xs ys zs:List V}
theorem Inv.lset {its its':List Value} {n:Nat} {f:Array Value→Array Value} {t':Nat} (I:Inv X pins σ H s) (hH:H l=some (.lst xs))
  (e:s.heap.get? l=some { cls:=.type "list",data:=.seq its.toArray n }) (hf:f its.toArray=its'.toArray) (hv:Wc ys its') (hz:ys.length ≤ sizeLine) :
  Inv X pins σ (upd H l (.lst ys)) { s with heap:=s.heap.update l (Obj.mapSeq f),toks:=t' }:=by
 have q:=PySem.IsL.update e f
 rw [hf] at q
 refine I.write (x:=l) (e:=l) (by rw [hH];exact trivial) (.inl rfl) (fun b' u hb hu=>(Heap.get?_update_other s.heap (Obj.mapSeq f) (Ne.symm hb)).trans hu) ⟨_,q⟩ ?_
 exact ⟨hz,its',_,hv,q⟩
theorem Inv.fresh (I:Inv X pins σ H s):H s.heap.objs.size=none:=I.hok.fresh (Nat.le_refl _)
theorem Inv.lstM (I:Inv X pins σ H s) (hH:H l=some (.lst xs)):xs.length ≤ sizeLine∧∃ (its:List Value) (n:Nat),Wc xs its∧xs.length=its.length∧s.heap.get? l=some { cls:=.type "list",data:=.seq its.toArray n }:=by
 obtain ⟨z,its,n,r,e⟩:=I.hok l _ hH
 exact ⟨z,its,n,r,r.length,e⟩
end
section
variable {X:Cx}
noncomputable def rB:V→List V→Hp→VK→Prop:=fun x vs H Q=>∃ l xs y,x=.ref l∧vs=[y]∧H l=some (.lst xs)∧xs.length < sizeLine∧Q .non (upd H l (.lst (xs ++ [y])))
theorem Qf:MtM X "list.append" rB:=by
 intro pins s σ H x vs v us Q I rx rv h
 obtain ⟨l,xs,y,rfl,rfl,hH,hz,q⟩:=h
 cases rx
 obtain ⟨u,rfl,ru⟩:=rv.one
 obtain ⟨z,its,n,r,hl,e⟩:=I.lstM hH
 refine call_meets F.slot_list_append ⟨_,e,rfl⟩ F.entry_list_append (F.args_list_append_2 _ _) (PySem.list_append l its.toArray n u (by rw [List.size_toArray];omega)) ⟨e,?_⟩
 refine ⟨.non,_,I.lset (its':=its ++ [u]) hH e (by simp) (r.append (.cons ru .nil)) ?_,rfl,q⟩
 rw [List.length_append,List.length_singleton]
 omega
noncomputable def ZH:V→List V→Hp→VK→Prop:=fun x vs H Q=>∃ l b xs zs,x=.ref l∧vs=[.ref b]∧H l=some (.lst xs)∧H b=some (.lst zs)∧xs.length + zs.length ≤ sizeLine∧Q .non (upd H l (.lst (xs ++ zs)))
noncomputable def aP:V→List V→Hp→VK→Prop:=fun x vs H Q=>∃ l xs y,x=.ref l∧vs=[]∧H l=some (.lst xs)∧xs[xs.length - 1]? = some y∧Q y (upd H l (.lst xs.dropLast))
noncomputable def zM:V→List V→Hp→VK→Prop:=fun x vs H Q=>∃ l xs i k y,x=.ref l∧vs=[.int i]∧H l=some (.lst xs)∧-(2 ^ 63) ≤ i∧i < 2 ^ 63∧seqIndex? i xs.length=some k∧xs[k]? = some y∧Q y (upd H l (.lst (xs.eraseIdx k)))
noncomputable def TF:V→List V→Hp→VK→Prop:=fun x vs H Q=>∃ l xs,x=.ref l∧vs=[]∧H l=some (.lst xs)∧Q .non (upd H l (.lst xs.reverse))
noncomputable def PM:V→List V→Hp→VK→Prop:=fun x vs H Q=>∃ l xs,x=.ref l∧vs=[]∧H l=some (.lst xs)∧Q .non (upd H l (.lst []))
noncomputable def mP:R2:=fun x y H Q=>∃ l b xs zs,x=.ref l∧y=.ref b∧H l=some (.lst xs)∧H b=some (.lst zs)∧xs.length + zs.length ≤ sizeLine∧∀ p,H p=none→Q (.ref p) (upd H p (.lst (xs ++ zs)))
noncomputable def jP:R2:=fun x y H Q=>∃ l k xs,x=.ref l∧y=.int k∧H l=some (.lst xs)∧-(2 ^ 63) ≤ k∧k < 2 ^ 63∧xs.length * k.toNat ≤ sizeLine ∧
 ∀ p,H p=none→Q (.ref p) (upd H p (.lst (List.replicate k.toNat xs).flatten))
end
section
variable {prog:Program} {w:World} {A:Around} {E:Value→Shared→Prop} {s:Shared}
end
section
variable {X:Cx}
end
end L2
namespace L2
open PySem PySem.Spec PyProof.Rows
section
variable {κ:Type} [DecidableEq κ]
noncomputable def Wj (kvs:List (κ × V)) (k:κ):Option V:=(kvs.find? fun kv=>decide (kv.1=k)).map (·.2)
noncomputable def zq (kvs:List (κ × V)) (k:κ) (v:V):List (κ × V):=
 if (kvs.any fun kv=>decide (kv.1=k))=true then kvs.map (fun kv=>if kv.1=k then (kv.1,v) else kv) else kvs ++ [(k,v)]
noncomputable def Cv (kvs:List (κ × V)) (k:κ):List (κ × V):=kvs.filter fun kv=>decide (kv.1 ≠ k)
theorem At {p:κ × V} {r:List (κ × V)} {k:κ} (e:p.1=k):Wj (p :: r) k=some p.2:=by simp [Wj,List.find?_cons,e]
theorem Qt {p:κ × V} {r:List (κ × V)} {k:κ} (e:¬ p.1=k):Wj (p :: r) k=Wj r k:=by simp [Wj,List.find?_cons,e]
theorem Ix (k:κ):∀ kvs:List (κ × V),(kvs.any fun kv=>decide (kv.1=k))=(Wj kvs k).isSome
 | []=>rfl
 | p :: r=>by
  rw [List.any_cons]
  by_cases e:p.1=k
  ·simp only [At e,decide_eq_true e,Bool.true_or,Option.isSome_some]
  ·rw [Qt e,decide_eq_false e,Bool.false_or];exact Ix k r
theorem Wp (kvs:List (κ × V)) (k:κ) (v:V):(zq kvs k v).length ≤ kvs.length + 1:=by
 unfold zq
 split
 ·rw [List.length_map];omega
 ·rw [List.length_append,List.length_cons,List.length_nil];omega
theorem yq.isSome_eq {o:Option V} {u:Option Value} (r:yq o u):o.isSome=u.isSome:=by
 cases o with
 | none=>cases u with
  | none=>rfl
  | some _=>exact (show False from r).elim
 | some _=>cases u with
  | none=>exact (show False from r).elim
  | some _=>rfl
theorem yq.getD {o:Option V} {u:Option Value} {d:V} {d':Value} (r:yq o u) (rd:yd d d'):yd (o.getD d) (u.getD d'):=by
 cases o with
 | none=>cases u with
  | none=>exact rd
  | some _=>exact (show False from r).elim
 | some _=>cases u with
  | none=>exact (show False from r).elim
  | some _=>exact r
theorem KV.val {kvs:List (κ × V)} {vs:List (κ × Value)} (r:KV kvs vs) (k:κ):yq (Wj kvs k) (valueAt vs k):=by
 unfold KV at r
 induction r with
 | nil=>exact True.intro
 | @cons p q ps qs h t ih=>
  obtain ⟨h1,h2⟩:=h
  by_cases e:p.1=k
  ·have e':q.1=k:=h1.symm.trans e
   have b:valueAt (q :: qs) k=some q.2:=by simp [valueAt,List.find?_cons,e']
   rw [At e,b];exact h2
  ·have e':¬ q.1=k:=fun z=>e (h1.trans z)
   have b:valueAt (q :: qs) k=valueAt qs k:=by simp [valueAt,List.find?_cons,e']
   rw [Qt e,b];exact ih
theorem KV.any {kvs:List (κ × V)} {vs:List (κ × Value)} (r:KV kvs vs) (k:κ):(kvs.any fun kv=>decide (kv.1=k))=vs.any fun kv=>decide (kv.1=k):=by
 unfold KV at r
 induction r with
 | nil=>rfl
 | cons h t ih=>rw [List.any_cons,List.any_cons,ih,h.1]
theorem KV.repl {kvs:List (κ × V)} {vs:List (κ × Value)} (r:KV kvs vs) (k:κ) {y:V} {u:Value} (ry:yd y u) :
  KV (kvs.map fun kv=>if kv.1=k then (kv.1,y) else kv) (vs.map fun kv=>if kv.1=k then (kv.1,u) else kv):=by
 unfold KV at r ⊢
 induction r with
 | nil=>exact .nil
 | @cons p q ps qs h t ih=>
  rw [List.map_cons,List.map_cons]
  refine .cons ?_ ih
  obtain ⟨h1,h2⟩:=h
  by_cases e:p.1=k
  ·rw [if_pos e,if_pos (h1.symm.trans e)];exact ⟨h1,ry⟩
  ·rw [if_neg e,if_neg (fun z=>e (h1.trans z))];exact ⟨h1,h2⟩
theorem KV.put {kvs:List (κ × V)} {vs:List (κ × Value)} (r:KV kvs vs) (k:κ) {y:V} {u:Value} (ry:yd y u):KV (zq kvs k y) (stored vs k u):=by
 unfold zq stored
 rw [r.any k]
 by_cases e:(vs.any fun kv=>decide (kv.1=k))=true
 ·rw [if_pos e,if_pos e];exact r.repl k ry
 ·rw [if_neg e,if_neg e];exact Paired.snoc r ⟨rfl,ry⟩
theorem KV.drop {kvs:List (κ × V)} {vs:List (κ × Value)} (r:KV kvs vs) (k:κ):KV (Cv kvs k) (without vs k):=by
 unfold KV at r ⊢
 unfold Cv without
 induction r with
 | nil=>exact .nil
 | @cons p q ps qs h t ih=>
  obtain ⟨h1,h2⟩:=h
  rw [List.filter_cons,List.filter_cons]
  by_cases e:p.1=k
  ·have a:¬ decide (p.1 ≠ k)=true:=by simp [e]
   have b:¬ decide (q.1 ≠ k)=true:=by simp [h1.symm.trans e]
   rw [if_neg a,if_neg b];exact ih
  ·have e':¬ q.1=k:=fun z=>e (h1.trans z)
   have a:decide (p.1 ≠ k)=true:=by simp [e]
   have b:decide (q.1 ≠ k)=true:=by simp [e']
   rw [if_pos a,if_pos b];exact .cons ⟨h1,h2⟩ ih
theorem KV.keys {kvs:List (κ × V)} {vs:List (κ × Value)} (r:KV kvs vs):kvs.map (·.1)=vs.map (·.1):=by
 unfold KV at r
 induction r with
 | nil=>rfl
 | cons h t ih=>rw [List.map_cons,List.map_cons,ih,h.1]
theorem KV.length {kvs:List (κ × V)} {vs:List (κ × Value)} (r:KV kvs vs):kvs.length=vs.length:=Paired.length r
end
theorem yE {P:Program} {w:World} {k:Key} {u:Value} (r:yd (kV k) u):(Wd P w).is k u=true:=by
 cases k with
 | inl i=>obtain ⟨t,e⟩:=(show ∃ t,u=Value.int i t from r);subst e;exact uw P w i t
 | inr x=>obtain ⟨t,e⟩:=(show ∃ t,u=Value.str x t from r);subst e;exact Gw P w x t
theorem Nu {P:Program} {w:World}:∀ {ks:List Key} {us:List Value},Wc (ks.map kV) us→ItemsAre (Wd P w) ks us
 | [],_,r=>by rw [List.map_nil] at r;cases r;exact .nil
 | k :: ks,_,r=>by
  rw [List.map_cons] at r
  cases r with
  | cons h t=>exact .cons (yE h) (Nu t)
noncomputable abbrev KT (H:Hp):List (List Key × V)→List (List Key × Addr × Value)→Prop:=Paired fun p q=>p.1=q.1∧H q.2.1=some (.tup (p.1.map kV))∧yd p.2 q.2.2
theorem KT.val {H:Hp} {kvs:List (List Key × V)} {xs:List (List Key × Addr × Value)} (r:KT H kvs xs) (k:List Key):yq (Wj kvs k) ((atKey xs k).map (·.2)):=by
 induction r with
 | nil=>exact True.intro
 | @cons p q ps qs h t ih=>
  obtain ⟨h1,_,h2⟩:=h
  by_cases e:p.1=k
  ·have e':q.1=k:=h1.symm.trans e
   have b:atKey (q :: qs) k=some q.2:=by simp [atKey,List.find?_cons,e']
   rw [At e,b];exact h2
  ·have e':¬ q.1=k:=fun z=>e (h1.trans z)
   have b:atKey (q :: qs) k=atKey qs k:=by simp [atKey,List.find?_cons,e']
   rw [Qt e,b];exact ih
theorem KT.repl {H:Hp} {kvs:List (List Key × V)} {xs:List (List Key × Addr × Value)} (r:KT H kvs xs) (k:List Key) {y:V} {u:Value} (ry:yd y u) :
  KT H (kvs.map fun kv=>if kv.1=k then (kv.1,y) else kv) (xs.map (putAt k u)):=by
 induction r with
 | nil=>exact .nil
 | @cons p q ps qs h t ih=>
  rw [List.map_cons,List.map_cons]
  refine .cons ?_ ih
  obtain ⟨h1,h2,h3⟩:=h
  unfold putAt
  by_cases e:p.1=k
  ·rw [if_pos e,if_pos (h1.symm.trans e)];exact ⟨h1,h2,ry⟩
  ·rw [if_neg e,if_neg (fun z=>e (h1.trans z))];exact ⟨h1,h2,h3⟩
theorem KT.put {H:Hp} {kvs:List (List Key × V)} {xs:List (List Key × Addr × Value)} (r:KT H kvs xs) (k:List Key) {b:Addr} {y:V} {u:Value} (hb:H b=some (.tup (k.map kV))) (ry:yd y u) :
  KT H (zq kvs k y) (storedH xs k b u):=by
 have e:(kvs.any fun kv=>decide (kv.1=k))=(atKey xs k).isSome:=by
  rw [Ix,(r.val k).isSome_eq,Option.isSome_map]
 unfold zq storedH
 rw [e]
 by_cases q:(atKey xs k).isSome=true
 ·rw [if_pos q,if_pos q];exact r.repl k ry
 ·rw [if_neg q,if_neg q];exact Paired.snoc r ⟨rfl,hb,ry⟩
theorem KT.keeps {H H':Hp} {kvs:List (List Key × V)} {xs:List (List Key × Addr × Value)} (r:KT H kvs xs) (ht:∀ b ys,H b=some (.tup ys)→H' b=some (.tup ys)):KT H' kvs xs:=
 Paired.mapP r fun _ _ z=>⟨z.1,ht _ _ z.2.1,z.2.2⟩
section
variable {P:Program} {w:World} {H:Hp} {h:Heap} {a:Addr}
theorem iL {u:HO} (ok:HOk P w H h) (e:Rd H a u):kd P w H h a u:=e.ok ok
theorem CF {kvs:List (Key × V)} (ok:HOk P w H h) (e:Rd H a (.dK kvs)):kvs.length ≤ sizeLine∧(a == sysModules)=false∧∃ vs,KV kvs vs∧h.DictOf (Wd P w) a vs:=
 show kd P w H h a (.dK kvs) from iL ok e
theorem jD {kvs:List (Key × V)} (ok:HOk P w H h) (e:H a=some (.dK kvs)):kvs.length ≤ sizeLine∧(a == sysModules)=false∧∃ vs,KV kvs vs∧h.DictOf (Wd P w) a vs:=CF ok (.inl e)
theorem Ky {ks:List Key} (ok:HOk P w H h) (e:H a=some (.tup (ks.map kV))):(tupleKind (Wd P w)).is h ks a:=by
 obtain ⟨_,its,r,o,h1,h2,n,h3⟩:=(show kd P w H h a (.tup (ks.map kV)) from ok a _ e)
 exact ⟨o,its.toArray,n,h1,h2,h3,by simpa using Nu r⟩
theorem rE {kvs:List (List Key × V)} (ok:HOk P w H h) (e:Rd H a (.dT kvs)):kvs.length ≤ sizeLine∧(a == sysModules)=false ∧
  ∃ xs,KT H kvs xs∧h.DictOfH (tupleKind (Wd P w)) a xs:=by
 obtain ⟨z,y,xs,r,o,es,ep,h1,h2,h3,h4,h5⟩:=(show kd P w H h a (.dT kvs) from iL ok e)
 refine ⟨z,y,xs,r,o,es,ep,h1,h2,h3,h4,fun x hx=>?_,h5⟩
 have all:∀ {l:List (List Key × V)} {m:List (List Key × Addr × Value)},KT H l m→∀ x ∈ m,(tupleKind (Wd P w)).is h x.1 x.2.1:=by
  intro l m q
  induction q with
  | nil=>intro x hx;exact nomatch hx
  | @cons p q ps qs hq t ih=>
   intro x hx
   rcases List.mem_cons.mp hx with e | hx
   ·subst e
    exact Ky ok (by rw [← hq.1];exact hq.2.1)
   ·exact ih x hx
 exact all r x hx
theorem wN {kvs:List (List Key × V)} (ok:HOk P w H h) (e:H a=some (.dT kvs)):kvs.length ≤ sizeLine∧(a == sysModules)=false ∧
  ∃ xs,KT H kvs xs∧h.DictOfH (tupleKind (Wd P w)) a xs:=rE ok (.inl e)
end
noncomputable def nk (H:Hp) (a:Addr) (y:V) (r:Option V):Prop:=
 (∃ kvs k,Rd H a (.dK kvs)∧y=kV k∧r=Wj kvs k)∨∃ kvs k b,Rd H a (.dT kvs)∧y=.ref b∧H b=some (.tup (k.map kV))∧r=Wj kvs k
noncomputable def ww (H:Hp) (a:Addr) (y v:V) (H':Hp):Prop:=
 (∃ kvs k,H a=some (.dK kvs)∧y=kV k∧kvs.length < sizeLine∧H'=upd H a (.dK (zq kvs k v))) ∨
 ∃ kvs k b,H a=some (.dT kvs)∧y=.ref b∧H b=some (.tup (k.map kV))∧kvs.length < sizeLine∧H'=upd H a (.dT (zq kvs k v))
theorem nk.k {H:Hp} {a:Addr} {kvs:List (Key × V)} {k:Key} (e:H a=some (.dK kvs)):nk H a (kV k) (Wj kvs k):=.inl ⟨kvs,k,.inl e,rfl,rfl⟩
theorem nk.t {H:Hp} {a b:Addr} {kvs:List (List Key × V)} {k:List Key} (e:H a=some (.dT kvs)) (eb:H b=some (.tup (k.map kV))):nk H a (.ref b) (Wj kvs k):=.inr ⟨kvs,k,b,.inl e,rfl,eb,rfl⟩
theorem ww.k {H:Hp} {a:Addr} {kvs:List (Key × V)} {k:Key} {v:V} (e:H a=some (.dK kvs)) (hl:kvs.length < sizeLine):ww H a (kV k) v (upd H a (.dK (zq kvs k v))):=.inl ⟨kvs,k,e,rfl,hl,rfl⟩
theorem ww.t {H:Hp} {a b:Addr} {kvs:List (List Key × V)} {k:List Key} {v:V} (e:H a=some (.dT kvs)) (eb:H b=some (.tup (k.map kV))) (hl:kvs.length < sizeLine) :
  ww H a (.ref b) v (upd H a (.dT (zq kvs k v))):=.inr ⟨kvs,k,b,e,rfl,eb,hl,rfl⟩
section
variable {X:Cx} {pins:List (Addr × Obj)} {σ:St} {H:Hp} {s:Shared} {a:Addr} {y v:V} {u r:Value} {o:Option V} {A:Around} {E:Value→Shared→Prop}
theorem Inv.big (I:Inv X pins σ H s):sysModules < s.heap.objs.size:=by
 have h:mainGlobals < s.heap.objs.size:=(I.mod.glob.keeps I.bk).lt
 exact Nat.lt_trans (by decide) h
theorem WB {Q:Value→Shared→Prop} (hu:A.units + 1 < cLine) (I:Inv X pins σ H s) (g:nk H a y (some v)) (ry:yd y u) (h:∀ w' s',Inv X pins σ H s'→yd v w'→Q w' s') :
  wpAny (model X.prog X.w) A (getItem (.ref a) u) Q E s:=by
 rcases g with ⟨kvs,k,e,ey,l⟩ | ⟨kvs,k,b,e,ey,eb,l⟩
 ·subst ey
  obtain ⟨z,hd,vs,rel,dd⟩:=CF I.hok e
  obtain ⟨w',hw,rw'⟩:=yq.some_of (v:=v) (o:=valueAt vs k) (by rw [l];exact rel.val k)
  exact wpAny_getItem_of (yE ry) dd.mapOf hw (h w' _ (I.tok _) rw')
 ·subst ey
  cases (show u=Value.ref b from ry)
  obtain ⟨z,hd,xs,rel,dd⟩:=rE I.hok e
  obtain ⟨w',hw,rw'⟩:=yq.some_of (v:=v) (o:=(atKey xs k).map (·.2)) (by rw [l];exact rel.val k)
  obtain ⟨p,hp,hp2⟩:=Option.map_eq_some_iff.mp hw
  refine wpAny_getItem_heap (tupleKind_room_in1 hu) (Ky I.hok eb) dd hp ?_
  rw [hp2]
  exact h w' _ (I.tok _) rw'
theorem OH {Q:Value→Shared→Prop} (hu:A.units + 1 < cLine) (I:Inv X pins σ H s) (g:nk H a y o) (ry:yd y u) (h:∀ s',Inv X pins σ H s'→Q (.bool (!o.isSome)) s') :
  wpAny (model X.prog X.w) A (compareOp .NotIn u (.ref a)) Q E s:=by
 rcases g with ⟨kvs,k,e,ey,l⟩ | ⟨kvs,k,b,e,ey,eb,l⟩
 ·subst ey
  obtain ⟨z,hd,vs,rel,dd⟩:=CF I.hok e
  refine wpAny_notIn_of (yE ry) hd dd.mapOf ?_
  rw [← (rel.val k).isSome_eq,← l]
  exact h _ (I.tok _)
 ·subst ey
  cases (show u=Value.ref b from ry)
  obtain ⟨z,hd,xs,rel,dd⟩:=rE I.hok e
  refine wpAny_notIn_heap (tupleKind_room_in1 hu) (Ky I.hok eb) hd dd ?_
  have q:=(rel.val k).isSome_eq
  rw [Option.isSome_map] at q
  rw [← q,← l]
  exact h _ (I.tok _)
theorem rD {h':Heap} {t':Nat} {ob:HO} (I:Inv X pins σ H s) (mu:Mut (H a)) (hs:Heap.SameBut a s.heap h') (he:∃ q,h'.get? a=some q) (new:kd X.prog X.w (upd H a ob) h' a ob) :
  Inv X pins σ (upd H a ob) { s with heap:=h',toks:=t' }:=
 I.write (x:=a) (e:=a) mu (.inl rfl) (fun b q hb z=>(hs.2 b hb).trans z) he new
theorem CM {P:Program} {w:World} {H':Hp} {h':Heap} {kvs:List (Key × V)} {vs:List (Key × Value)} (z:kvs.length ≤ sizeLine) (hd:(a == sysModules)=false) (rel:KV kvs vs) (dd:h'.DictOf (Wd P w) a vs) :
  kd P w H' h' a (.dK kvs):=⟨z,hd,vs,rel,dd⟩
theorem JC {H':Hp} {Q:Unit→Shared→Prop} (hu:A.units + 1 < cLine) (I:Inv X pins σ H s) (g:ww H a y v H') (ry:yd y u) (rv:yd v r) (h:∀ s',Inv X pins σ H' s'→Q () s') :
  wpAny (model X.prog X.w) A (setItem (.ref a) u r) Q E s:=by
 rcases g with ⟨kvs,k,e,ey,l,eH⟩ | ⟨kvs,k,b,e,ey,eb,l,eH⟩
 ·subst ey eH
  obtain ⟨z,hd,vs,rel,dd⟩:=jD I.hok e
  have hz:vs.length ≤ sizeLine:=by rw [← rel.length];exact z
  have hl:(zq kvs k v).length ≤ sizeLine:=by have:=Wp kvs k v;omega
  refine wpAny_setItem_pairs (hsz:=hz) (yE ry) dd fun h' dd' hs=>h _ ?_
  have he:∃ q,h'.get? a=some q:=let ⟨q,_,_,hq,_⟩:=dd';⟨q,hq⟩
  exact rD I (by rw [e];exact True.intro) hs he (CM hl hd (rel.put k rv) dd')
 ·subst ey eH
  cases (show u=Value.ref b from ry)
  obtain ⟨z,hd,xs,rel,dd⟩:=wN I.hok e
  have hz:xs.length ≤ sizeLine:=by rw [← Paired.length rel];exact z
  have hl:(zq kvs k v).length ≤ sizeLine:=by have:=Wp kvs k v;omega
  refine wpAny_setItem_heap (hsz:=hz) (tupleKind_room_in1 hu) (Ky I.hok eb) dd fun h' dd' hs=>h _ ?_
  obtain ⟨q,es,ep,hq,h2,h3,h4,_,h5⟩:=dd'
  refine rD I (by rw [e];exact True.intro) hs ⟨q,hq⟩ ⟨hl,hd,_,(rel.put k eb rv).keeps fun c ys ec=>?_,q,es,ep,hq,h2,h3,h4,h5⟩
  rw [lb (Me ec e (fun z=>nomatch z))]
  exact ec
end
section
variable {X:Cx} {pins:List (Addr × Obj)} {σ:St} {H:Hp} {s:Shared} {a:Addr} {kvs:List (Key × V)} {k:Key} {u:Value} {A:Around} {E:Value→Shared→Prop}
end
noncomputable def BO (i:Expr):Prop:=∀ ov iv,subscripted i false ov iv=operate [ov,iv] (getItem ov iv)
theorem XJ {prog:Program} {w:World} {A:Around} {E:Value→Shared→Prop} {s:Shared} {env:Env} {value slice:Expr} {pos:Pos} {T id:String} {Q:Value→Shared→Prop}
  (hl:typeLookup (.type T) "__getitem__"=pure (some (.builtin id))) (hs:BO slice)
  (h:wpAny (model prog w) A (eval value env) (fun o s₁=>wpAny (model prog w) A (eval slice env) (fun i s₂=>s₂.TypeIs o T∧wpAny (model prog w) A (getItem o i) Q E s₂) E s₁) E s) :
  wpAny (model prog w) A (eval (.Subscript value slice pos) env) Q E s:=by
 refine Subscript_ (wpAny_mono h (fun o s₁ h₁=>wpAny_mono h₁ (fun i s₂ h₂=>?_) fun _ _ x=>x) fun _ _ x=>x)
 obtain ⟨hT,h₂⟩:=h₂
 unfold subscriptTail
 refine wpAny_bind ?_
 rw [getitemInPython_of_ne hT.not_modules]
 refine wpAny_bind (wpAny_specialOf hT hl ?_)
 have fin:wpAny (model prog w) A (subscripted slice false o i) (fun r s₃=>wpAny (model prog w) A (letTemporaryGo value o r >>= fun _=>pure r) Q E s₃) E s₂:=by
  rw [hs o i]
  exact wpAny_operating (wpAny_mono h₂ (fun r s₃ h₃=>wpAny_bind (wpAny_letTemporaryGo (wpAny_pure h₃))) fun _ _ x=>x)
 first
  | exact wpAny_pure (wpAny_bind fin)
  | exact wpAny_bind (wpAny_pure (wpAny_bind fin))
  | exact wpAny_bind fin
theorem jw {X:Cx} {pins:List (Addr × Obj)} {σ:St} {H:Hp} {s:Shared} {a:Addr} {y:V} {o:Option V} (I:Inv X pins σ H s) (g:nk H a y o):s.TypeIs (.ref a) "dict" := by
 rcases g with ⟨kvs,k,e,_,_⟩ | ⟨kvs,k,b,e,_,_,_⟩
 ·obtain ⟨_,_,vs,_,dd⟩:=CF I.hok e
  exact dd.typeIs
 ·obtain ⟨_,_,xs,_,dd⟩:=rE I.hok e
  exact dd.typeIs
noncomputable def JK (td ty:TE):TE:=fun σ H Q=>td σ H fun x H1=>ty σ H1 fun y H2=>∃ a v,x=.ref a∧nk H2 a y (some v)∧Q v H2
noncomputable def lP (ty td:TE):TE:=fun σ H Q=>ty σ H fun y H1=>td σ H1 fun x H2=>∃ a o,x=.ref a∧nk H2 a y o∧Q (.bl o.isSome) H2
noncomputable def QC (ty td:TE):TE:=fun σ H Q=>ty σ H fun y H1=>td σ H1 fun x H2=>∃ a o,x=.ref a∧nk H2 a y o∧Q (.bl (!o.isSome)) H2
noncomputable def GK (td ty tv:TE):TS:=fun D σ H=>tv σ H fun v H1=>td σ H1 fun x H2=>ty σ H2 fun y H3=>∃ a H4,x=.ref a∧ww H3 a y v H4∧D.nx σ H4
noncomputable def PN (td ty tv:TE) (rd:V→V→Hp→VK→Prop):TS:=fun D σ H=>td σ H fun x H1=>ty σ H1 fun y H2=>∃ a v,x=.ref a∧nk H2 a y (some v) ∧
 tv σ H2 fun y2 H3=>rd v y2 H3 fun z H4=>∃ H5,ww H4 a y z H5∧D.nx σ H5
noncomputable def XN (td ty:TE):TS:=fun D σ H=>td σ H fun x H1=>ty σ H1 fun y H2=>∃ a kvs k,x=.ref a∧H2 a=some (.dK kvs)∧y=kV k∧(Wj kvs k).isSome=true∧D.nx σ (upd H2 a (.dK (Cv kvs k)))
section
variable {X:Cx} {o i e value:Expr} {pos pos' tpos:Pos} {td ty tv:TE}
theorem Dm (hu:X.A.units + 1 < cLine) (ho:PE X o td) (hi:PE X i ty) (hs:BO i):PE X (.Subscript o i pos) (JK td ty):=by
 intro pins s σ H Q I h
 refine XJ PySem.F.slot_dict_getitem.lookup hs (thn (ho pins s σ H _ I h) fun u s1 ⟨x,H1,I1,rx,q1⟩=>thn (hi pins s1 σ H1 _ I1 q1) fun iv s2 hZ1=>?_)
 obtain ⟨y,H2,I2,ry,a,v,ex,g,q2⟩:=hZ1
 subst ex
 obtain rfl:u=Value.ref a:=rx
 exact ⟨jw I2 g,WB hu I2 g ry fun w' s3 I3 rw'=>⟨v,H2,I3,rw',q2⟩⟩
theorem Vu (hu:X.A.units + 1 < cLine) (hi:PE X i ty) (ho:PE X o td):PC X .NotIn i o (QC ty td):=by
 intro pins s σ H Q I h
 refine thn (hi pins s σ H _ I h) fun iv s1 ⟨y,H1,I1,ry,q1⟩=>thn (ho pins s1 σ H1 _ I1 q1) fun u s2 hZ1=>?_
 obtain ⟨x,H2,I2,rx,a,ov,ex,g,q2⟩:=hZ1
 subst ex
 obtain rfl:u=Value.ref a:=rx
 exact OH hu I2 g ry fun s3 I3=>⟨.bl (!ov.isSome),H2,I3,rfl,q2⟩
theorem Dn (hu:X.A.units + 1 < cLine) (ho:PE X o td) (hi:PE X i ty) (hv:PE X value tv) (hs:swapsWith value (some (.Subscript o i pos')) pos.line X.env=pure false) :
  PS X (.Assign [.Subscript o i pos'] value pos) (GK td ty tv):=by
 intro pins s σ H D I h
 refine wpAny_Assign_Subscript (thn (hv pins s σ H _ I h) fun r s1 ⟨v,H1,I1,rv,q1⟩=>thn (ho pins s1 σ H1 _ I1 q1) fun u s2 ⟨x,H2,I2,rx,q2⟩=>thn (hi pins s2 σ H2 _ I2 q2) fun iv s3 hZ1=>?_) hs
 obtain ⟨y,H3,I3,ry,a,H4,ex,g,q3⟩:=hZ1
 subst ex
 obtain rfl:u=Value.ref a:=rx
 exact JC hu I3 g ry rv fun s4 I4=>⟨σ,H4,I4,q3⟩
end
theorem iE {P:Program} {w:World} {H:Hp} (h:Heap) (hb:sysModules < h.objs.size):kd P w H (h.push { cls:=.type "dict",data:=.dict #[] }) h.objs.size (.dK []):=
 ⟨Nat.zero_le _,beq_eq_false_iff_ne.mpr (Ne.symm (Nat.ne_of_lt hb)),[],.nil,Heap.DictOf.new h⟩
noncomputable def AG:TE:=fun _ H Q=>∀ p,H p=none→Q (.ref p) (upd H p (.dK []))
noncomputable def lM:TE:=fun _ H Q=>∀ p,H p=none→Q (.ref p) (upd H p (.dT []))
section
variable {X:Cx} {pos:Pos}
theorem Zl:PE X (.Dict [] [] pos) AG:=fun pins s σ H Q I h=>
 wpAny_Dict_empty ⟨.ref s.heap.objs.size,_,I.laid (a:=s.heap.objs.size) (o:=.dK []) (t':=s.toks) (fun _ _ q=>Heap.get?_push_of_some _ q) (Nat.le_refl _) (iE s.heap I.big),rfl,h _ (I.hok.fresh (Nat.le_refl _))⟩
end
noncomputable def MC:List (TE × TE)→St→Hp→(List (V × V)→Hp→Prop)→Prop
 | [],_,H,Q=>Q [] H
 | (tk,tv) :: r,σ,H,Q=>tk σ H fun x H1=>tv σ H1 fun y H2=>MC r σ H2 fun ps H3=>Q ((x,y) :: ps) H3
noncomputable def kH (kvs more:List (Key × V)):List (Key × V):=more.foldl (fun acc kv=>zq acc kv.1 kv.2) kvs
noncomputable def UN (trs:List (TE × TE)):TE:=fun σ H Q=>∀ p,H p=none→MC trs σ (upd H p (.dK [])) fun ps H2=>H2 p=some (.dK [])∧∃ kvs:List (Key × V),ps=kvs.map (fun kv=>(kV kv.1,kv.2))∧kvs.length ≤ 15∧Q (.ref p) (upd H2 p (.dK (kH [] kvs)))
structure M1 (X:Cx) (o:Expr) (m:Str) (apos:Pos) (e:Expr) (cpos:Pos):Prop where
 base:attributeBase o m X.env (eval o X.env)=eval o X.env
 few:((backTo cpos (starEach [e] X.env)).all (fun x=>!x.1) && (backToKw cpos (keywordEach [] X.env)).all (fun x=>x.1.isSome)
  && decide (([e]:List Expr).length + ([]:List Keyword).length + (if ([]:List Keyword).isEmpty then 0 else 1) < 30))=true
 line:(apos.endLine == cpos.line)=true
 trees:backTo cpos (starEach [e] X.env)=[(false,eval e X.env)]
structure M2 (X:Cx) (o:Expr) (m:Str) (apos:Pos) (e f:Expr) (cpos:Pos):Prop where
 base:attributeBase o m X.env (eval o X.env)=eval o X.env
 few:((backTo cpos (starEach [e,f] X.env)).all (fun x=>!x.1) && (backToKw cpos (keywordEach [] X.env)).all (fun x=>x.1.isSome)
  && decide (([e,f]:List Expr).length + ([]:List Keyword).length + (if ([]:List Keyword).isEmpty then 0 else 1) < 30))=true
 line:(apos.endLine == cpos.line)=true
 trees:backTo cpos (starEach [e,f] X.env)=[(false,eval e X.env),(false,eval f X.env)]
noncomputable def IsD (H:Hp) (a:Addr):Prop:=(∃ kvs,Rd H a (.dK kvs))∨∃ kvs,Rd H a (.dT kvs)
section
variable {X:Cx} {pins:List (Addr × Obj)} {σ:St} {H:Hp} {s:Shared} {a:Addr} {y d:V} {u r:Value} {o:Option V} {A:Around} {E:Value→Shared→Prop}
end
noncomputable def RM (td ty:TE):TE:=fun σ H Q=>td σ H fun x H1=>∃ a,x=.ref a∧IsD H1 a∧ty σ H1 fun y H2=>∃ o,nk H2 a y o∧Q (o.getD .non) H2
noncomputable def DM (td ty tx:TE):TE:=fun σ H Q=>td σ H fun x H1=>∃ a,x=.ref a∧IsD H1 a∧ty σ H1 fun y H2=>tx σ H2 fun z H3=>∃ o,nk H3 a y o∧Q (o.getD z) H3
noncomputable def sL (td ty:TE):TE:=fun σ H Q=>td σ H fun x H1=>∃ a,x=.ref a∧IsD H1 a∧ty σ H1 fun y H2=>∃ kvs k v,H2 a=some (.dK kvs)∧y=kV k∧Wj kvs k=some v∧Q v (upd H2 a (.dK (Cv kvs k)))
noncomputable def NM (td ty tx:TE):TE:=fun σ H Q=>td σ H fun x H1=>∃ a,x=.ref a∧IsD H1 a∧ty σ H1 fun y H2=>tx σ H2 fun z H3=>∃ kvs k,H3 a=some (.dK kvs)∧y=kV k ∧
 (∀ v,Wj kvs k=some v→Q v (upd H3 a (.dK (Cv kvs k))))∧(Wj kvs k=none→Q z H3)
section
variable {X:Cx} {o e f:Expr} {apos cpos:Pos} {td ty tx:TE}
end
section
variable {X:Cx} {pins:List (Addr × Obj)} {σ:St} {H:Hp} {s:Shared} {a:Addr} {kvs:List (Key × V)} {A:Around} {E:Value→Shared→Prop}
end
section
variable {X:Cx} {pins:List (Addr × Obj)} {σ:St} {H:Hp} {s:Shared} {a:Addr} {y:V} {u:Value} {A:Around} {E:Value→Shared→Prop}
end
end L2
namespace Att
open PySem PySem.W PySem.Calls PyProof.Rows
theorem Uo {P:Params} {h:Heap}:∀ (ns:List Int) (vs:List Value),WellAll P h vs (ns.map WData.int)→IntsAre vs ns:=by
 intro ns
 induction ns with
 | nil=>
  intro vs w
  rw [List.map_nil] at w
  cases w
  exact .nil
 | cons n ns ih=>
  intro vs w
  rw [List.map_cons] at w
  cases w with
  | cons a b=>
   cases a
   exact .cons _ _ (ih _ b)
theorem nD {l:OpenLaw} {n:Nat} (hn:l.most=some n) {P:Params} {h:Heap} {args:List WData} {vals:List Value}
  (hpre:l.row.toRowW.claim.pre args=true) (hwl:WellAll P h vals args) :
  ∃ a vs ns,vals=[Value.ref a]∧args=[WData.list (ns.map WData.int)]∧h.get? a=some { cls:=.type "list",data:=.seq vs.toArray }∧IntsAre vs ns∧ns.length ≤ n:=by
 have hsh:WShape.hasAll [] args [.list .int]=true:=(pre_splitW hpre).1
 have hc:l.pre.holds [] { args:=args }=true:=(pre_splitW hpre).2
 obtain ⟨d,r,rfl,h1,h2⟩:=hasAllW_cons hsh
 obtain rfl:=hasAllW_nil h2
 obtain ⟨xs,rfl,h3⟩:=hasW_list h1
 obtain ⟨ns,rfl⟩:=items_int h3
 have hlen:ns.length ≤ n:=by
  unfold OpenLaw.pre at hc
  have h4:(WTm.not (.lt (.lit (.int (n:Int))) (.len (.arg 0)))).holds [] { args:=[.list (ns.map .int)] }=true:=by
   have h4:=(holds_andW hc).1
   rw [hn] at h4
   exact h4
  have h5:=condW_of h4 (w_not (w_lt w_lit (w_len_list (w_arg rfl))))
  rw [List.length_map] at h5
  refine Nat.le_of_not_lt fun q=>?_
  have q':(n:Int) < ((ns.length:Nat):Int):=by omega
  first
   | (rw [decide_eq_true q'] at h5;exact absurd h5 (by decide))
   | (simp at h5;omega)
 cases hwl with
 | cons w1 w2=>
  cases w2
  cases w1 with
  | list ho hall=>exact ⟨_,_,ns,rfl,rfl,ho,Uo ns _ hall,hlen⟩
theorem HA (l:OpenLaw) (args:List WData):l.row.toRowW.claim.post args (.bool true) args=true:=
 postW_of (r:=l.row.toRowW) (X:=(true == true))
  (show WShape.has [] (.bool true) .bool=true by first | rfl | decide | simp [WShape.has,WShape.arms,WShape.armsAll])
  (show (WTm.eq .res (.lit (.bool true))).value [] { args:=args,res:=some (.bool true),after:=args }=some (.bool (true == true)) from w_eq_bool (w_res rfl) w_lit) rfl
theorem attach_call {l:OpenLaw} {n:Nat} {q:Program} {loose:List Str} {XP:(Str→Option Value)→Heap→Prop} {YP:World→Heap→Prop} {d:DefRec}
  (hn:l.most=some n) (hdf:d.params.defaults=[])
  (call:∀ (w:World) (s₀ s₁:Shared) (mg mb:Str→Option Value) (fa:Addr) (o:Obj) (pm cd doc:Value) (a:Addr) (vs:List Value) (ns:List Int),
   Ground q loose [] XP w s₀ mg mb s₁.heap→YP w s₁.heap →
   s₁.heap.get? fa=some o→o.data=.func (docDef d.name d.params d.body d.scope pm cd doc)→s₁.heap.CodeRec cd d.name→mg d.name=some (.ref fa) →
   s₁.heap.get? a=some { cls:=.type "list",data:=.seq vs.toArray }→IntsAre vs ns→ns.length ≤ n→s₁.gens=#[] →
   codeAny (model l.prog w) callerA (.call (.ref fa) ⟨[.ref a],[]⟩) (fun r s'=>r=.ok (.ret (.bool true))∧OldK s₁.heap s'.heap∧s'.os=s₁.os∧AllBare s'.gens) s₁) :
  WalkO q loose XP YP l.row.toRowW d [] (fun f vs=>PySem.call f vs):=by
 intro w s₀ s₁ mg mb G Y fa o pm cd doc dV kV ho hd hcd hD hmg hg args vals as hpre hlay hrd hwl hlo
 obtain rfl:dV=.none:=Dflts.none hD hdf
 obtain rfl:kV=.none:=Dflts.noKw hD
 obtain ⟨a,vs,ns,rfl,rfl,hobj,hints,hlen⟩:=nD hn hpre hwl
 refine enter_call (codeAny_mono (call w s₀ s₁ mg mb fa o pm cd doc a vs ns G Y ho (fd_plain hd) hcd hmg hobj hints hlen hg) fun r s' hq=>?_)
 obtain ⟨rfl,h2,h3,h4⟩:=hq
 exact ⟨.inl ⟨.bool true,.bool true,[],rfl,fun _=>rfl,.bool true,HA l _,fun _=>⟨List.Pairwise.nil,fun _ hm=>(nomatch hm)⟩⟩,h2,h3,h4⟩
section
variable {prog:Program} {w:World} {A:Around} {E:Value→Shared→Prop} {s:Shared} {K:Frag}
end
end Att
namespace L2
open PySem PySem.Spec PyProof.Rows
theorem Tu:∀ {vs:List Value} {ns:List Int},IntsAre vs ns→Wc (ns.map V.int) vs
 | _,_,.nil=>.nil
 | _,_,.cons n t h=>.cons ⟨t,rfl⟩ (Tu h)
noncomputable def jL (H:Hp):Prop:=∀ b,H b=none∨∃ o xs,H b=some (.frz o (.lst xs))
theorem gF {P:Program} {w:World} {K:PySem.W.Frag} {mg mb:Str→Option Value} {CX:CXT} {k:Nat} {fa a:Addr} {fd:FuncData} {x:Str} {sp:Sp} {s₁:Shared} {vs:List Value} {ns:List Int}
  (KX:K.In s₁.heap) (hns:s₁.heap.Ns mainGlobals mg) (hb:s₁.heap.Ns builtinsNs mb) (hbb:∀ x:Str,x ≠ "__name__" → mb x=bootBuiltins x) (hlim:s₁.heap.NoLimit) (hg:s₁.gens=#[])
  (ha:s₁.heap.get? a=some { cls:=.type "list",data:=.seq vs.toArray }) (hi:IntsAre vs ns) (hl:ns.length ≤ sizeLine) (hr:ci k callerA)
  (F:∀ base:Heap,K.In base→base.Ns mainGlobals mg→Fb P w K mg base CX k fa fd [x] sp) (hbind:∀ (s:Shared) (u:Value),BindsTo s fd ⟨[u],[]⟩ [(x,u)])
  (hsp:∀ H:Hp,jL H→SqL K H a (ns.map V.int)→sp [.ref a] H (fun v _=>v=.bl true) fun _ _ _=>False)
  (hCX:∀ H e s',CX [] H s₁ (fun _ _ _=>False) e s'→False) :
  codeAny (model P w) callerA (.call (.ref fa) ⟨[.ref a],[]⟩) (fun r s'=>r=.ok (.ret (.bool true))∧OldK s₁.heap s'.heap∧s'.os=s₁.os∧AllBare s'.gens) s₁:=by
 have rv:=Tu hi
 have lenV:=hi.length
 -- from an abstract heap in which nothing but the script may be tracked
 have core:∀ H:Hp,jL H→SqL K H a (ns.map V.int)→HOk P w H s₁.heap→(∀ b,H b ≠ none→b=a)→(H a ≠ none→K.lookup a=none) →
   codeAny (model P w) callerA (.call (.ref fa) ⟨[.ref a],[]⟩) (fun r s'=>r=.ok (.ret (.bool true))∧OldK s₁.heap s'.heap∧s'.os=s₁.os∧AllBare s'.gens) s₁:=by
  intro H hO hS hok hA hK
  have base_of:∀ {b:Addr} {o:Obj},s₁.heap.get? b=some o→H b=none→(UF s₁.heap H).get? b=some o:=fun e n=>GE e n
  have noA:∀ {b:Addr} {o:Obj} {es:Array DictEntry} {ep:Nat},s₁.heap.get? b=some o→o.data=.dict es ep→H b=none:=fun {b o es ep} e d=>by
   cases q:H b with
   | none=>rfl
   | some u=>
    have e':b=a:=hA b (by rw [q];simp)
    subst e'
    rw [ha] at e;cases e
    have d':Data.seq vs.toArray _=Data.dict es ep:=d
    cases d'
  have nsK:∀ {b:Addr} {m:Str→Option Value},s₁.heap.Ns b m→(UF s₁.heap H).Ns b m:=fun {b m} ⟨o,es,ep,e,d,r⟩=>⟨o,es,ep,base_of e (noA e d),d,r⟩
  have hKb:K.In (UF s₁.heap H):=fun b o e=>base_of (KX b o e) (by
   cases q:H b with
   | none=>rfl
   | some u=>
    have e':b=a:=hA b (by rw [q];simp)
    subst e'
    rw [hK (by rw [q];simp)] at e;cases e)
  have hM:Mod K mg (UF s₁.heap H):=⟨hKb,nsK hns,⟨mb,nsK hb,hbb⟩,let ⟨mc,h1,h2⟩:=hlim;⟨mc,nsK h1,h2⟩⟩
  have e0:jC P w K mg (UF s₁.heap H) callerA [] s₁ H:=⟨rfl,hM,fun b o e=>GJ e,Nat.le_of_eq (oB _ _),trivial,fun b hb=>absurd (show b ∈ ([]:List Addr) from hb) (by simp),hok,.of_eq hg⟩
  refine codeAny_mono ((F _ hKb (nsK hns)).run callerA [] s₁ H ⟨[.ref a],[]⟩ [.ref a] [.ref a] _ _ hr e0 (hbind s₁ (.ref a)) (.cons rfl .nil) (hsp H hO hS)) fun r s' h=>?_
  cases r with
  | error e=>exact (hCX H e s' h).elim
  | ok fl=>
   cases fl with
   | next=>exact False.elim h
   | brk=>exact False.elim h
   | cont=>exact False.elim h
   | ret u=>
    obtain ⟨v,H',os,bare,un,hok',r',q⟩:=h
    have q':v=.bl true:=q
    subst q'
    obtain rfl:u=Value.bool true:=r'
    refine ⟨rfl,OldK.of_keep fun b o e=>?_,os,bare⟩
    cases q:H b with
    | none=>exact un.keep b o e q (by intro z;exact absurd (show b ∈ ([]:List Addr) from z) (by simp)) (by simp)
    | some u=>
     rcases hO b with z | ⟨ob,xs,z⟩
     ·rw [q] at z;cases z
     ·have z2:=un.frzs b ob _ z
      obtain ⟨e1,_⟩:=hok b _ z
      obtain ⟨e2,_⟩:=hok' b _ z2
      rw [e] at e1;cases e1
      exact e2
 cases hk:K.lookup a with
 | some o=>
  -- the script is one of the module's own objects
  have e:=KX a o hk
  rw [ha] at e
  cases e
  refine core (fun _=>none) (fun _=>.inl rfl) (.inr ⟨_,vs.toArray,_,hk,rfl,rfl,rfl,by rw [List.size_toArray,lenV];exact hl,by simpa using rv⟩) (fun b u z=>by have z':(none:Option HO)=some u:=z;cases z') (fun b z=>absurd rfl z) fun z=>absurd rfl z
 | none=>
  refine core (fun b=>if b=a then some (.frz { cls:=.type "list",data:=.seq vs.toArray } (.lst (ns.map V.int))) else none) (fun b=>?_) (.inl (.inr ⟨{ cls:=.type "list",data:=.seq vs.toArray },if_pos rfl⟩)) (fun b u z=>?_) (fun b z=>?_) fun _=>hk
  ·by_cases hb:b=a
   ·exact .inr ⟨_,_,if_pos hb⟩
   ·exact .inl (if_neg hb)
  ·by_cases hb:b=a
   ·have z':=(if_pos hb).symm.trans z
    cases z'
    subst hb
    exact ⟨ha,by rw [List.length_map];exact hl,vs,_,rv,ha⟩
   ·have z':=(if_neg hb).symm.trans z
    cases z'
  ·by_cases hb:b=a
   ·exact hb
   ·exact absurd (if_neg hb) z
end L2
namespace L2
open PySem PySem.Spec PyProof.Rows
noncomputable abbrev KOf {K:PySem.W.Frag} {h:Heap} (_:K.In h):PySem.W.Frag:=K
theorem pK {l:PySem.W.OpenLaw} {n k:Nat} {q:Program} {loose:List Str} {XP:(Str→Option Value)→Heap→Prop} {YP:World→Heap→Prop} {d:DefRec} {K:Params→PySem.W.Frag} {CX:World→CXT} {sp:World→Sp} {x:Str}
  (hn:l.most=some n) (hn2:n ≤ sizeLine) (hdf:d.params.defaults=[]) (hr:ci k callerA)
  (hY:∀ (w:World) (h:Heap),YP w h→(K w.params).In h)
  (F:∀ (w:World) (mg:Str→Option Value) (fa:Addr) (h:Heap),(K w.params).In h→h.Ns mainGlobals mg→mg d.name=some (.ref fa) →
   ∃ fd:FuncData,(∀ (s:Shared) (u:Value),BindsTo s fd ⟨[u],[]⟩ [(x,u)]) ∧
    ∀ base:Heap,(K w.params).In base→base.Ns mainGlobals mg→Fb l.prog w (K w.params) mg base (CX w) k fa fd [x] (sp w))
  (hsp:∀ (w:World) (H:Hp) (a:Addr) (ns:List Int),ns.length ≤ n→jL H→SqL (K w.params) H a (ns.map V.int)→sp w [.ref a] H (fun v _=>v=.bl true) fun _ _ _=>False)
  (hCX:∀ (w:World) (H:Hp) (s:Shared) (e:Value) (s':Shared),CX w [] H s (fun _ _ _=>False) e s'→False) :
  PySem.W.WalkO q loose XP YP l.row.toRowW d [] (fun f vs=>PySem.call f vs):=by
 refine Att.attach_call hn hdf fun w s₀ s₁ mg mb fa o pm cd doc a vs ns G Y ho hd hcd hmg hobj hints hlen hg=>?_
 have KX:=hY w _ Y
 obtain ⟨fd,hb,hF⟩:=F w mg fa _ KX G.T.g hmg
 exact gF KX G.T.g G.T.b G.T.builtins G.T.nolimit hg hobj hints (Nat.le_trans hlen hn2) hr hF hb (fun H hO hS=>hsp w H a ns hlen hO hS) fun H e s'=>hCX w H s₁ e s'
theorem bG {l:PySem.W.OpenLaw} {n k:Nat} {q:Program} {loose:List Str} {XP:(Str→Option Value)→Heap→Prop} {YP:World→Heap→Prop} {d:DefRec} {K:Params→PySem.W.Frag} {CX:CXT} {sp:PySem.W.Frag→Sp} {x:Str}
  (hn:l.most=some n) (hn2:n ≤ sizeLine) (hdf:d.params.defaults=[]) (hr:ci k callerA)
  (hY:∀ (w:World) (h:Heap),YP w h→(K w.params).In h)
  (F:∀ (w:World) (mg:Str→Option Value) (fa:Addr) (h:Heap),(K w.params).In h→h.Ns mainGlobals mg→mg d.name=some (.ref fa) →
   ∃ fd:FuncData,(∀ (s:Shared) (u:Value),BindsTo s fd ⟨[u],[]⟩ [(x,u)]) ∧
    ∀ base:Heap,(K w.params).In base→base.Ns mainGlobals mg→Fb l.prog w (K w.params) mg base CX k fa fd [x] (sp (K w.params)))
  (hsp:∀ (K:PySem.W.Frag) (H:Hp) (a:Addr) (ns:List Int),ns.length ≤ n→jL H→SqL K H a (ns.map V.int)→sp K [.ref a] H (fun v _=>v=.bl true) fun _ _ _=>False)
  (hCX:∀ (H:Hp) (s:Shared) (e:Value) (s':Shared),CX [] H s (fun _ _ _=>False) e s'→False) :
  PySem.W.WalkO q loose XP YP l.row.toRowW d [] (fun f vs=>PySem.call f vs):=
 pK (K:=K) (CX:=fun _=>CX) (sp:=fun w=>sp (K w.params)) hn hn2 hdf hr hY F (fun w H a ns h1 h2 h3=>hsp (K w.params) H a ns h1 h2 h3) fun _ H s e s'=>hCX H s e s'
end L2
namespace L2
open PySem PySem.Spec PyProof.Rows
noncomputable def Ic (s:Stmt) (j:Nat):Stmt:=match s with
 | .ClassDef _ _ _ body _ _ _ _ _ _ _=>body.getD j (.Pass ⟨0,0,0,0⟩)
 | _=>.Pass ⟨0,0,0,0⟩
noncomputable def cu (s:Stmt):Arguments:=match s with
 | .FunctionDef _ a _ _ _ _ _ _ _ _=>a
 | _=>{ posonlyargs:=[],args:=[],vararg:=none,kwonlyargs:=[],kw_defaults:=[],kwarg:=none,defaults:=[] }
noncomputable def zn (s:Stmt):List Stmt:=match s with
 | .FunctionDef _ _ b _ _ _ _ _ _ _=>b
 | _=>[]
noncomputable def ib (s:Stmt):Scope:=match s with
 | .FunctionDef _ _ _ _ _ _ sc _ _ _=>sc
 | _=>{ kind:=.function,names:=[],isGenerator:=false,isCoroutine:=false }
noncomputable abbrev CX0:CXT:=fun _ _ _ _ _ _=>False
noncomputable abbrev E0:XK:=fun _ _ _=>False
theorem Cb {X:Cx}:Jk CX0 X E0:=fun _ _ _ _ _ _ _ h=>h.elim
structure Fun (K:PySem.W.Frag) (x qual:Str) (st:Stmt) (f:Addr) (fd:FuncData):Prop where
 ex:∃ (oc:Value) (od:Option Addr) (kV doc pm:Value) (an:Option Addr) (cdv ct:Value) (osl:Array (Option Value)),
  fd=PySem.W.fnOf x qual (cu st) (zn st) (ib st) .none kV doc pm an cdv ct∧K.lookup f=some ⟨oc,od,.func fd,osl⟩∧PySem.W.codeIn K cdv qual=true
 kp:PySem.W.keepIn K (.ref f)=true
section
variable {P:Program} {w:World} {K:PySem.W.Frag} {mg:Str→Option Value} {base:Heap}
theorem Fun.ok {x qual:Str} {st:Stmt} {f:Addr} {fd:FuncData} {N ps:List Str} {k:Nat} {sp:Sp} (F:Fun K x qual st f fd) (S:rb N ps (ib st)) (len:∀ vs H Q E,sp vs H Q E→vs.length=ps.length)
  (hbody:∀ (cdv:Value) (A:Around) (outer:List Env) (s:Shared) (H:Hp) (vs:List V) (Q:VK) (E:XK),ci k (A.deeper (envOfC qual (ib st) s.heap.objs.size f cdv))→sp vs H Q E →
   ∃ t,PSs (AB CX0 P w K mg base N qual (ib st) f cdv A outer s H E).nox (zn st) t∧t { nx:=fun _ H'=>Q .non H',rt:=Q } (start N vs) H):Fb P w K mg base CX0 (k + 1) f fd ps sp:=by
 obtain ⟨oc,od,kV,doc,pm,an,cdv,ct,osl,rfl,lk,hcd⟩:=F.ex
 refine mL lk hcd S len fun A outer s H vs Q E hr hsp=>?_
 obtain ⟨t,h,q⟩:=hbody cdv A outer s H vs Q E hr hsp
 exact ⟨t,h.nox,q⟩
theorem Fun.binds {x qual:Str} {st:Stmt} {f:Addr} {fd:FuncData} {ps:List Str} (F:Fun K x qual st f fd)
  (h:∀ (kV doc pm:Value) (an:Option Addr) (cdv ct:Value) (us:List Value),us.length=ps.length→bindArgs (PySem.W.fnOf x qual (cu st) (zn st) (ib st) .none kV doc pm an cdv ct) ⟨us,[]⟩=pure (ps.zip us)):Rb K fd ps []:=by
 obtain ⟨oc,od,kV,doc,pm,an,cdv,ct,osl,rfl,lk,hcd⟩:=F.ex
 exact .all (h kV doc pm an cdv ct)
theorem EK {x qual:Str} {st:Stmt} {f:Addr} {oc:Value} {od an:Option Addr} {osl:Array (Option Value)} {kV doc pm cdv ct:Value} (l:K.lookup f=some ⟨oc,od,.func (PySem.W.fnOf x qual (cu st) (zn st) (ib st) .none kV doc pm an cdv ct),osl⟩)
  (c:PySem.W.codeIn K cdv qual=true) (k:PySem.W.keepIn K (.ref f)=true):Fun K x qual st f (PySem.W.fnOf x qual (cu st) (zn st) (ib st) .none kV doc pm an cdv ct):=⟨⟨oc,od,kV,doc,pm,an,cdv,ct,osl,rfl,l,c⟩,k⟩
end
theorem Eu {A:Around} {k:Nat} (hr:ci k A):A.units + 1 < cLine:=Nat.lt_of_le_of_lt (Nat.add_le_add_left (by decide:1 ≤ 64) _) hr.units
section
variable {X:Cx}
theorem pv (i:Nat) {x:Str} {pos:Pos} (hN:X.N[i]? = some x:=by rfl) (hv:Vis X.env.scope x:=by first | exact Or.inl rfl | exact Or.inr (Or.inl rfl) | exact Or.inr (Or.inr rfl)) (hd:(x == ("__debug__" : Str))=false:=by decide)
  (hcd:(x == ("__classdict__" : Str))=false:=by decide):PE X (.Name x pos) (eO i):=VL hN hv hd hcd
end
noncomputable def Kb (H H':Hp):Prop:=∀ b o,H b=some o→H' b=some o
theorem Kb.refl (H:Hp):Kb H H:=fun _ _ h=>h
theorem Kb.trans {H H1 H2:Hp} (a:Kb H H1) (b:Kb H1 H2):Kb H H2:=fun c o h=>b c o (a c o h)
theorem Kb.free {H H':Hp} (e:Kb H H') {l:Addr} (h:H' l=Option.none):H l=Option.none:=by
 cases q:H l with
 | none=>rfl
 | some o=>
  rw [e l o q] at h
  cases h
theorem Kb.seq {K:PySem.W.Frag} {H H':Hp} {a:Addr} {xs:List V} (e:Kb H H') (h:SqL K H a xs):SqL K H' a xs:=by
 rcases h with (h | ⟨o,h⟩) | h
 ·exact .inl (.inl (e _ _ h))
 ·exact .inl (.inr ⟨o,e _ _ h⟩)
 ·exact .inr h
section
variable {κ:Type} [DecidableEq κ]
end
end L2
set_option maxHeartbeats 4000000
namespace L2
open PySem PySem.Spec PyProof.Rows
noncomputable def gu (cells:List (Str × Addr)):List (Str × NameKind)→List (Str × Addr)→List (Str × Addr)
 | [],acc=>acc
 | (n,k) :: r,acc=>if k == .free then (match cells.lookup n with | some c=>gu cells r ((n,c) :: acc) | none=>gu cells r acc) else gu cells r acc
theorem Vw {env:Env}:∀ (names:List (Str × NameKind)) (acc:List (Str × Addr)),(∀ y ∈ names,y.2=.free→∃ c,env.cells.lookup y.1=some c) →
  (forIn names acc (fun (x:Str × NameKind) (cs:List (Str × Addr))=>(if (x.2 == .free)=true then do let a ← cellOf env x.1;pure (ForInStep.yield ((x.1,a) :: cs)) else pure (ForInStep.yield cs):Sem (ForInStep (List (Str × Addr))))))=pure (gu env.cells names acc)
 | [],acc,_=>rfl
 | (n,k) :: r,acc,h=>by
  have hr:∀ y ∈ r,y.2=.free→∃ c,env.cells.lookup y.1=some c:=fun y hy=>h y (List.mem_cons_of_mem _ hy)
  rw [List.forIn_cons]
  by_cases hk:(k == NameKind.free)=true
  ·have e:k=.free:=by simpa using hk
   obtain ⟨c,hc⟩:=h (n,k) List.mem_cons_self e
   have hc':env.cells.lookup n=some c:=hc
   simp only [gu,hk,if_true,hc',cellOf]
   exact Vw r _ hr
  ·simp only [gu,hk]
   exact Vw r _ hr
theorem fD {scope:Scope} {env:Env} (h:∀ y ∈ scope.names,y.2=.free→∃ c,env.cells.lookup y.1=some c):closureFor scope env=pure (gu env.cells scope.names []):=by
 unfold closureFor
 exact congrArg (fun t=>t >>= pure) (Vw scope.names [] h)
theorem Jo {cells:List (Str × Addr)}:∀ (names:List (Str × NameKind)) (acc:List (Str × Addr)) {x:Str} {c:Addr},(gu cells names acc).lookup x=some c→acc.lookup x=some c∨cells.lookup x=some c
 | [],acc,x,c,h=>.inl h
 | (n,k) :: r,acc,x,c,h=>by
  unfold gu at h
  split at h
  ·cases q:cells.lookup n with
   | none=>rw [q] at h;exact Jo r acc h
   | some d=>
    rw [q] at h
    rcases Jo r _ h with z | z
    ·rw [List.lookup_cons] at z
     by_cases hx:(x == n)=true
     ·rw [hx] at z
      have e:x=n:=by simpa using hx
      subst e
      right;rw [q];exact z
     ·have hx':(x == n)=false:=by simpa using hx
      rw [hx'] at z;exact .inl z
    ·exact .inr z
  ·exact Jo r acc h
theorem jm {cells:List (Str × Addr)}:∀ (names:List (Str × NameKind)) (acc:List (Str × Addr)) {x:Str} {c:Addr},acc.lookup x=some c→cells.lookup x=some c→(gu cells names acc).lookup x=some c
 | [],acc,x,c,h,_=>h
 | (n,k) :: r,acc,x,c,h,hc=>by
  unfold gu
  split
  ·cases q:cells.lookup n with
   | none=>exact jm r acc h hc
   | some d=>
    refine jm r _ ?_ hc
    rw [List.lookup_cons]
    by_cases hx:(x == n)=true
    ·have e:x=n:=by simpa using hx
     subst e
     rw [hx];rw [q] at hc;exact hc
    ·have hx':(x == n)=false:=by simpa using hx
     rw [hx'];exact h
  ·exact jm r acc h hc
theorem Nl {cells:List (Str × Addr)}:∀ (names:List (Str × NameKind)) (acc:List (Str × Addr)) {x:Str} {c:Addr},(x,NameKind.free) ∈ names→cells.lookup x=some c→(gu cells names acc).lookup x=some c
 | [],_,_,_,h,_=>nomatch h
 | (n,k) :: r,acc,x,c,h,hc=>by
  rcases List.mem_cons.mp h with e | h
  ·cases e
   unfold gu
   rw [if_pos (by decide),hc]
   refine jm r _ ?_ hc
   rw [List.lookup_cons];simp
  ·unfold gu
   split
   ·cases q:cells.lookup n with
    | none=>exact Nl r acc h hc
    | some d=>exact Nl r _ h hc
   ·exact Nl r acc h hc
theorem Im {α:Type}:∀ {l:List (Str × α)} {x:Str} {a:α},l.lookup x=some a→(x,a) ∈ l
 | [],_,_,h=>by simp at h
 | (n,b) :: r,x,a,h=>by
  rw [List.lookup_cons] at h
  by_cases hx:(x == n)=true
  ·have e:x=n:=by simpa using hx
   subst e
   rw [hx] at h
   have e2:b=a:=Option.some.inj h
   subst e2
   exact List.mem_cons_self
  ·have hx':(x == n)=false:=by simpa using hx
   rw [hx'] at h
   exact List.mem_cons_of_mem _ (Im h)
theorem Ow {env:Env} {scope:Scope} {x:Str} {k:NameKind} (h:(relabel scope env).names.lookup x=some k) (hk:k=.cell∨k=.free) (hc:∀ y ∈ scope.names,y.2 ≠ .cell):(x,NameKind.free) ∈ scope.names:=by
 have h1:=Im h
 obtain ⟨⟨n,j⟩,hm,e⟩:=List.mem_map.mp h1
 have e':(if (j == NameKind.free && env.scope.kind == .function && env.kindOf n == some .cell)=true then (n,NameKind.cell) else (n,j))=(x,k):=e
 split at e'
 ·rename_i hcond
  have e1:n=x:=(Prod.mk.inj e').1
  subst e1
  have hj:j=.free:=by
   simp only [Bool.and_eq_true] at hcond
   simpa using hcond.1.1
  subst hj
  exact hm
 ·have e1:n=x:=(Prod.mk.inj e').1
  have e2:j=k:=(Prod.mk.inj e').2
  subst e1;subst e2
  rcases hk with z | z
  ·exact absurd z (hc _ hm)
  ·subst z;exact hm
theorem Vk {env:Env} {scope:Scope} {x:Str} (h:scope.names.lookup x=some .free):(relabel scope env).names.lookup x=some .cell∨(relabel scope env).names.lookup x=some .free:=by
 have all:∀ (names:List (Str × NameKind)),names.lookup x=some .free →
   (names.map fun (n,k)=>if (k == NameKind.free && env.scope.kind == .function && env.kindOf n == some .cell) then (n,NameKind.cell) else (n,k)).lookup x=some .cell ∨
   (names.map fun (n,k)=>if (k == NameKind.free && env.scope.kind == .function && env.kindOf n == some .cell) then (n,NameKind.cell) else (n,k)).lookup x=some .free:=by
  intro names
  induction names with
  | nil=>intro h;simp at h
  | cons p r ih=>
   obtain ⟨n,k⟩:=p
   intro h
   rw [List.map_cons]
   by_cases hx:(x == n)=true
   ·simp only [List.lookup_cons,hx] at h
    have hk:k=.free:=Option.some.inj h
    subst hk
    by_cases hc:(NameKind.free == NameKind.free && env.scope.kind == .function && env.kindOf n == some .cell)=true
    ·left;simp only [if_pos hc,List.lookup_cons,hx]
    ·right;simp only [if_neg hc,List.lookup_cons,hx]
   ·have hx':(x == n)=false:=by simpa using hx
    simp only [List.lookup_cons,hx'] at h
    by_cases hc:(k == NameKind.free && env.scope.kind == .function && env.kindOf n == some .cell)=true
    ·simp only [if_pos hc,List.lookup_cons,hx'];exact ih h
    ·simp only [if_neg hc,List.lookup_cons,hx'];exact ih h
 exact all scope.names h
noncomputable abbrev Cx.block (X:Cx) (scope:Scope) (C:Addr) (N:List Str) (s:Shared) (H:Hp) (fp:List Addr):Cx where
 prog:=X.prog
 w:=X.w
 K:=X.K
 mg:=X.mg
 base:=X.base
 A:=X.A
 N:=N
 s₀:=s
 H₀:=H
 env:=compEnvC scope (gu X.env.cells scope.names []) C X.env
 outer:=X.stack
 stack:=X.stack
 ex:=fp
 fn:=fun _=>false
 calm:=X.calm
 pn:=[]
 xe:=fun _ _=>False
structure Kn (env:Env) (scope:Scope):Prop where
 kind:scope.kind=.function
 nocell:∀ y ∈ scope.names,y.2 ≠ .cell
 fr:∀ y ∈ scope.names,y.2=.free→env.kindOf y.1=some .cell∨env.kindOf y.1=some .free
 loc:∀ x ∈ scope.names,x.2=.local→scope.names.lookup x.1=some .local
noncomputable def blk (sel:List (Option Nat)) (σ:St):St:=sel.map fun o=>o.bind fun j=>(σ[j]?).join
noncomputable def yA (M:List Str) (scope:Scope) (N:List Str) (sel:List (Option Nat)):Prop:=
 sel.length=N.length∧∀ (i j:Nat) (x:Str),sel[i]? = some (some j)→N[i]? = some x→M[j]? = some x∧scope.names.lookup x=some .free
section
variable {X:Cx} {pins:List (Addr × Obj)} {σ:St} {H:Hp} {s:Shared} {scope:Scope} {fp:List Addr} {C:Addr} {N:List Str}
theorem Kn.cells (S:Kn X.env scope) (ok:X.Ok):∀ y ∈ scope.names,y.2=.free→∃ c,X.env.cells.lookup y.1=some c:=fun y hy e=>ok.has y.1 (S.fr y hy e)
theorem Yr {x:Str} {c:Addr} (h:(gu X.env.cells scope.names []).lookup x=some c):X.env.cells.lookup x=some c:=by
 rcases Jo _ _ h with z | z
 ·simp at z
 ·exact z
theorem qy (I:Inv X pins σ H s) (S:Kn X.env scope) (hf:∀ b ∈ fp,Cu X pins H b) (hs:∀ b ∈ fp,b < s.heap.objs.size) (hC:s.heap.objs.size ≤ C):(X.block scope C N s H fp).Ok where
 mod:=I.ok.mod
 kind:=S.kind
 glob:=I.ok.glob
 blt:=I.ok.blt
 above:=hC
 inj:=fun x y c h1 h2=>I.ok.inj x y c (Yr h1) (Yr h2)
 has:=fun x h=>by
  have hk:∃ k,(relabel scope X.env).names.lookup x=some k∧(k=.cell∨k=.free):=by
   rcases h with h | h
   ·exact ⟨_,h,.inl rfl⟩
   ·exact ⟨_,h,.inr rfl⟩
  obtain ⟨k,h1,h2⟩:=hk
  have hm:=Ow h1 h2 S.nocell
  obtain ⟨c,hc⟩:=S.cells I.ok _ hm rfl
  exact ⟨c,Nl _ _ hm hc⟩
 cab:=fun _ _ h _=>nomatch h
 hd:=I.ok.hd
 frames:=I.ok.frames
 stk:=.inl rfl
 exf:=fun b hb=>⟨Nat.ne_of_lt (Nat.lt_of_lt_of_le (hs b hb) hC),fun x c e=>(hf b hb).2.2.2.2.1 x c (Yr e)⟩
 bs:=I.bs
 bsz:=Nat.le_trans I.ok.bsz I.sz
 noex:=fun b o e hb=>by
  rcases (hf b hb).2.2.2.1 with z | z
  ·exact I.ok.noex b o e z
  ·exact absurd (Nat.lt_of_lt_of_le (Nat.lt_of_lt_of_le (Heap.lt_size e) I.ok.bsz) z) (Nat.lt_irrefl _)
 exfs:=fun b hb hz=>by
  rcases List.mem_cons.mp (I.stkSub b hz) with z | z
  ·exact (hf b hb).2.1 z
  ·exact (hf b hb).2.2.1 z
 funs:=I.stack
 frf:=I.stkFree
theorem vC {h':Heap} {t':Nat} {m:Str→Option Value} {sel:List (Option Nat)} (I:Inv X pins σ H s) (S:Kn X.env scope) (hf:∀ b ∈ fp,Cu X pins H b) (hs:∀ b ∈ fp,b < s.heap.objs.size) (hC:s.heap.objs.size ≤ C)
  (k:∀ b o,s.heap.get? b=some o→h'.get? b=some o) (hn:h'.Ns C m) (hsel:yA X.N scope N sel):Inv (X.block scope C N s H fp) [] (blk sel σ) H { s with heap:=h',toks:=t' } where
 ok:=qy I S hf hs hC
 os:=rfl
 bare:=I.bare
 base:=Un.kept k
 loc:=by
  refine ⟨m,hn,fun i x v e1 e2 e3=>?_⟩
  obtain ⟨m0,hn0,hl⟩:=I.loc
  obtain ⟨j,ej,eσ⟩:∃ j,sel[i]? = some (some j)∧σ[j]? = some (some v):=by
   unfold blk at e2
   rw [List.getElem?_map] at e2
   cases q:sel[i]? with
   | none=>rw [q] at e2;cases e2
   | some o=>
    rw [q] at e2
    cases o with
    | none=>cases e2
    | some j=>
     refine ⟨j,rfl,?_⟩
     have e2':(σ[j]?).join=some v:=Option.some.inj e2
     cases r:σ[j]? with
     | none=>rw [r] at e2';cases e2'
     | some z=>rw [r] at e2';exact congrArg some e2'
  obtain ⟨eN,hfr⟩:=hsel.2 i j x ej e1
  have hm:=Im hfr
  have hk:=S.fr _ hm rfl
  have hv:Vis X.env.scope x:=hk.elim (fun z=>.inr (.inl z)) fun z=>.inr (.inr z)
  obtain ⟨u,r,l⟩:=hl j x v eN eσ hv
  refine ⟨u,r,?_⟩
  rcases l with ⟨hloc,_⟩ | ⟨_,c,hc,hcell⟩
  ·rcases hk with z | z <;> (have z':X.env.kindOf x=_:=z;rw [hloc] at z';cases z')
  ·refine .inr ⟨?_,c,Nl _ _ hm hc,?_⟩
   ·exact Vk hfr
   ·obtain ⟨o,ho,hd⟩:=hcell
    exact ⟨o,k _ _ ho,hd⟩
 cell:=fun x c e=>by
  obtain ⟨v,o,ho,hd⟩:=I.cell x c (Yr e)
  exact ⟨v,o,k _ _ ho,hd⟩
 free:=I.hok.fresh hC
 freeC:=fun x c e=>I.freeC x c (Yr e)
 pin:=fun p hp=>nomatch hp
 hok:=I.hok.kept k
 len:=by unfold blk;rw [List.length_map];exact hsel.1
theorem Inv.adopt {a:Addr} {o:HO} (I:Inv X pins σ H s) (fo:Cu X pins H a) (new:kd X.prog X.w (upd H a o) s.heap a o):Inv X pins σ (upd H a o) s:=by
 obtain ⟨hn,hL,hfs,hex,hcl,hpn⟩:=fo
 refine I.step (g':=s.gens) (d':=s.drawn) (t':=s.toks) (h':=s.heap) (ch:=[a]) (fun b hb=>?_) (fun b o _ _ _ e _=>e) (fun b o _ _ _ e _=>⟨o.slots,e⟩) (fun b o hb e n=>?_) (fun b o _ e=>⟨o,e⟩)
  (fun b xs e=>?_) (fun b o u e=>?_) (fun b ps e=>⟨#[],?_⟩) (fun m hm=>hm) (fun b u e=>?_) I.bare
 ·have e:b=a:=by simpa using hb
  subst e
  exact ⟨hex,hL,hcl,hpn⟩
 ·rw [lb (fun z=>hb (by simp [z]))];exact n
 ·rw [lb (qb e hn)];exact e
 ·rw [lb (qb e hn)];exact e
 ·rw [lb (qb e hn),e];simp
 ·by_cases hb:b=a
  ·subst hb;rw [cb] at e;cases e;exact new
  ·rw [lb hb] at e
   exact (I.hok b u e).stay (fun c v _ q=>q) (fun c q=>by rw [lb (qb q hn)];exact q) fun c xs q=>by rw [lb (qb q hn)];exact q
end
theorem ik {prog:Program} {w:World} {A:Around} {R:Result→Shared→Prop} {s:Shared} {elt target iter:Expr} {ifs:List Expr} {scope:Scope} {pos:Pos} {it acc:Value} {env:Env} (I:Nat→Shared→Prop)
  (turn:∀ n s,I n s→wpAny (model prog w) A (pyNext it) (fun r s₁=>match r with
   | none=>R (.ok .next) s₁
   | some v=>wpAny (model prog w) A (letOwnedTupleGo target it v) (fun _ s₀=>wpAny (model prog w) A (assign target env v) (fun _ s₂=>
     wpAny (model prog w) A (forIn ifs true fun c r=>if r=true then do let ok ← isTrue c env (eval c env);pure (ForInStep.yield ok) else pure (ForInStep.yield r)) (fun ok s₃=>
      if ok=true then wpAny (model prog w) A (eval elt env) (fun x s₄=>
       wpAny (model prog w) A (call (.builtin "list.append") [acc,x]) (fun _ s₅=>∃ m,m < n∧I m s₅) (fun _ _=>False) s₄) (fun _ _=>False) s₃
      else ∃ m,m < n∧I m s₃) (fun _ _=>False) s₂) (fun _ _=>False) s₀) (fun _ _=>False) s₁) (fun _ _=>False) s)
  (n:Nat) (h:I n s) :
  codeAny (model prog w) A (.compLoop (.ListComp elt [⟨target,iter,ifs,0⟩] scope pos) 0 it acc env) R s:=by
 refine codeAny_loop rfl I (fun n s hI=>?_) n h
 show wpAny _ A ((compTurn (.ListComp elt [⟨target,iter,ifs,0⟩] scope pos) 0 it acc env).onRaise (fun x=>do noteFrame x env;theTreesLotGoes x)) _ _ s
 refine wpAny_noted (wpAny_noRaise ?_)
 rw [compTurn_list]
 refine wpAny_bind (wpAny_standAt (wpAny_bind (wpAny_mono (turn n s hI) (fun r s₁ h₁=>?_) fun _ _ h'=>h')))
 cases r with
 | none=>exact wpAny_pure h₁
 | some v=>
  refine wpAny_bind (wpAny_mono h₁ (fun _ s₀ h₀=>?_) fun _ _ h'=>h')
  refine wpAny_bind (wpAny_mono h₀ (fun _ s₂ h₂=>wpAny_bind (wpAny_mono h₂ (fun ok s₃ h₃=>?_) fun _ _ h'=>h')) fun _ _ h'=>h')
  cases ok with
  | false=>exact wpAny_pure ⟨rfl,h₃⟩
  | true=>
   exact wpAny_bind (wpAny_bind (wpAny_mono h₃ (fun x s₄ h₄=>wpAny_bind (wpAny_mono h₄ (fun _ s₅ h₅=>wpAny_pure (wpAny_pure ⟨rfl,h₅⟩)) fun _ _ h'=>h')) fun _ _ h'=>h'))
noncomputable def PTs (X:Cx) (ifs:List Expr) (t:TT):Prop:=
 ∀ (pins:List (Addr × Obj)) (s:Shared) (σ:St) (H:Hp) (Q:Bool→Hp→Prop),Inv X pins σ H s→t σ H Q →
  wpAny (model X.prog X.w) X.A (forIn ifs true fun c r=>if r=true then do let ok ← isTrue c X.env (eval c X.env);pure (ForInStep.yield ok) else pure (ForInStep.yield r)) (TP X pins σ Q) X.xe s
noncomputable def ix:TT:=fun _ H Q=>Q true H
theorem ff {X:Cx}:PTs X [] ix:=fun _ _ _ H _ I h=>wpAny_tests_nil ⟨H,I,h⟩
theorem eu {X:Cx} {c:Expr} {t:TT} (h:PT X c t):PTs X [c] t:=fun pins s σ H Q I q=>wpAny_tests_one (h pins s σ H Q I q)
noncomputable def Sub (σ σ':St):Prop:=σ'.length=σ.length∧∀ (i:Nat) (v:V),σ[i]? = some (some v)→σ'[i]? = some (some v)
theorem Sub.refl (σ:St):Sub σ σ:=⟨rfl,fun _ _ h=>h⟩
theorem Sub.set {σ σ':St} {i:Nat} {x:Option V} (h:Sub σ σ') (e:σ[i]? = some none):Sub σ (σ'.set i x):=by
 refine ⟨by rw [List.length_set];exact h.1,fun j v q=>?_⟩
 have hj:i ≠ j:=fun z=>by subst z;rw [e] at q;cases q
 rw [List.getElem?_set_ne hj]
 exact h.2 j v q
noncomputable def Iv (J:It) (g:TG) (tc:TT) (te:TE) (σb:St) (Q:VK) (W:Nat→Nat→List V→Hp→Prop):Prop:=∀ i m ys H,W i m ys H →
 (J.stop i H∧∀ p,H p=none→Q (.ref p) (upd H p (.lst ys))) ∨
 (J.go i H∧ys.length < sizeLine∧∀ x H',J.yld i H x H'→g x σb H' fun σ2 H2=>Sub σb σ2∧tc σ2 H2 fun c H3=>if c=true then te σ2 H3 fun y H4=>∃ m',m' < m∧W (i + 1) m' (ys ++ [y]) H4 else ∃ m',m' < m∧W (i + 1) m' ys H3)
noncomputable def FJ (wi:TI) (g:TG) (tc:TT) (te:TE) (sel:List (Option Nat)):TE:=fun σ H Q=>wi σ H fun J H1=>∃ W:Nat→Nat→List V→Hp→Prop,(∃ m,W 0 m [] H1)∧Iv J g tc te (blk sel σ) Q W
section
variable {X:Cx} {elt tg iter:Expr} {ifs:List Expr} {scope:Scope} {pos:Pos} {wi:TI} {g:TG} {tc:TT} {te:TE} {N:List Str} {sel:List (Option Nat)}
structure Blk (X:Cx) (scope:Scope) (N:List Str) (tg elt:Expr) (ifs:List Expr) (g:TG) (tc:TT) (te:TE):Prop where
 tgt:∀ C s H fp,PG (X.block scope C N s H fp) tg g
 tests:∀ C s H fp,PTs (X.block scope C N s H fp) ifs tc
 elem:∀ C s H fp,PE (X.block scope C N s H fp) elt te
theorem Blk.of {X:Cx} {scope:Scope} {N:List Str} {tg elt:Expr} {ifs:List Expr} {g:TG} {tc:TT} {te:TE} (h1:∀ C s H fp,PG (X.block scope C N s H fp) tg g)
  (h2:∀ C s H fp,∃ t,PTs (X.block scope C N s H fp) ifs t∧t=tc) (h3:∀ C s H fp,∃ t,PE (X.block scope C N s H fp) elt t∧t=te):Blk X scope N tg elt ifs g tc te:=
 ⟨h1,fun C s H fp=>by obtain ⟨t,h,rfl⟩:=h2 C s H fp;exact h,fun C s H fp=>by obtain ⟨t,h,rfl⟩:=h3 C s H fp;exact h⟩
theorem ou {pins:List (Addr × Obj)} {s₂:Shared} {σ:St} {H₂:Hp} {Q:VK} {it:Addr} {fp:List Addr} {tn:Nat→Heap→Prop} {J:It} {W:Nat→Nat→List V→Hp→Prop} {E:Value→Shared→Prop} {RR:Value→Addr→Result→Shared→Prop}
  (hc:X.calm=true) (S:Kn X.env scope) (hsel:yA X.N scope N sel) (B:Blk X scope N tg elt ifs g tc te) (I2:Inv X pins σ H₂ s₂) (T:rH X.prog X.w X.K tg J fp it tn) (st2:tn 0 s₂.heap) (f2:∀ b ∈ fp,Cu X pins H₂ b)
  (w0:∃ m,W 0 m [] H₂) (hW:Iv J g tc te (blk sel σ) Q W)
  (fin:∀ D C ys H' s',Inv X pins σ (upd H' D (.lst ys)) s'→(∃ m,s'.heap.Ns C m)→Cu X pins (upd H' D (.lst ys)) C→Q (.ref D) (upd H' D (.lst ys))→RR (.ref D) C (.ok .next) s') :
  wpAny (model X.prog X.w) X.A (newList []) (fun acc s₃=>wpAny (model X.prog X.w) X.A (newFunctionEnv scope X.env.globals (gu X.env.cells scope.names []) [] X.env.qual none .none (some X.env)) (fun cenv s₄=>
   codeAny (model X.prog X.w) X.A (.compStart (.ListComp elt [⟨tg,iter,ifs,0⟩] scope pos) 0 (.ref it) acc { cenv with scope:=relabel scope X.env }) (RR acc cenv.locals) s₄) E s₃) E s₂:=by
 refine wpAny_newObj_type (wpAny_newFunctionEnv S.nocell (by intro y hy;simp at hy) (fun h₁ hns₁ hsb₁=>?_) S.kind)
 dsimp only at hns₁ hsb₁ ⊢
 generalize hH2:s₂.heap.push { cls:=.type "list",dict:=none,data:=.seq ([]:List Value).toArray }=H2 at hns₁ hsb₁ ⊢
 have hC:H2.objs.size=s₂.heap.objs.size + 1:=by rw [← hH2,Heap.size_push]
 have hDC:s₂.heap.objs.size ≠ H2.objs.size:=by rw [hC];exact Nat.ne_of_lt (Nat.lt_succ_self _)
 have hCle:s₂.heap.objs.size ≤ H2.objs.size:=by rw [hC];exact Nat.le_succ _
 have below:∀ b,b < s₂.heap.objs.size→b ≠ H2.objs.size∧b ≠ s₂.heap.objs.size:=fun b hb=>⟨by rw [hC];exact Nat.ne_of_lt (Nat.lt_succ_of_lt hb),Nat.ne_of_lt hb⟩
 have old:∀ b o,s₂.heap.get? b=some o→h₁.get? b=some o:=fun b o e=>hsb₁.extBut b o (below b (Heap.lt_size e)).1 (Heap.get?_push_of_some _ (hH2 ▸ Heap.get?_push_of_some _ e))
 have hacc:h₁.get? s₂.heap.objs.size=some { cls:=.type "list",data:=.seq ([]:List Value).toArray }:=hsb₁.extBut _ _ hDC (Heap.get?_push_of_some _ (hH2 ▸ Heap.get?_push_size _ rfl))
 have fps:∀ b ∈ fp,b < s₂.heap.objs.size:=fun b hb=>by
  obtain ⟨o,e,_⟩:=T.obj _ _ st2 b hb
  exact Heap.lt_size e
 generalize hCe:H2.objs.size=C at *
 generalize hDe:s₂.heap.objs.size=D at *
 have st1:tn 0 h₁:=T.keep _ _ _ st2 fun b _ o e=>old b o e
 have IB0:Inv (X.block scope C N s₂ H₂ fp) [] (blk sel σ) H₂ { s₂ with heap:=h₁,toks:=s₂.toks + ([]:List (Str × Value)).length }:=
  vC I2 S f2 (fun b hb=>by rw [hDe];exact fps b hb) (by rw [hDe];exact hCle) old hns₁ hsel
 have hDfs:D ∉ (X.block scope C N s₂ H₂ fp).fs:=fun z=>by
  have z':=I2.stkSub D z
  rcases List.mem_cons.mp z' with e | e
  ·exact absurd I2.lt (by rw [← e,hDe];exact Nat.lt_irrefl _)
  ·exact I2.nofs (by rw [hDe];exact Nat.le_refl _) e
 have loop:∀ s₃:Shared,s₃ = { s₂ with heap:=h₁,toks:=s₂.toks + ([]:List (Str × Value)).length } →
   codeAny (model X.prog X.w) X.A (.compLoop (.ListComp elt [⟨tg,iter,ifs,0⟩] scope pos) 0 (.ref it) (.ref D) (compEnvC scope (gu X.env.cells scope.names []) C X.env)) (RR (.ref D) C) s₃:=by
  rintro s₃ rfl
  obtain ⟨m0,w0⟩:=w0
  refine ik (fun k s'=>∃ i ys us n H',Inv (X.block scope C N s₂ H₂ fp) [(D,{ cls:=.type "list",data:=.seq us n })] (blk sel σ) H' s'∧(∃ vs:List Value,us=vs.toArray∧Wc ys vs)∧ys.length ≤ sizeLine∧tn i s'.heap∧(∀ b ∈ fp,H' b=none)∧W i k ys H') ?_ m0
   ⟨0,[],_,0,H₂,IB0.pins_of fun p hp=>?_,⟨[],rfl,.nil⟩,Nat.zero_le _,st1,fun b hb=>(f2 b hb).1,w0⟩
  ·rintro k s' ⟨i,ys,us,n,H',IB,⟨vs,rfl,rv⟩,hyz,st,fr,w⟩
   have fpB:∀ {pl:List (Addr × Obj)} {H'':Hp},(∀ p ∈ pl,p.1=D)→(∀ b ∈ fp,H'' b=none)→∀ b ∈ fp,Cu (X.block scope C N s₂ H₂ fp) pl H'' b:=fun {pl H''} hp hn b hb=>
    ⟨hn b hb,(below b (fps b hb)).1,(qy (N:=N) (C:=C) I2 S f2 (fun b hb=>by rw [hDe];exact fps b hb) (by rw [hDe];exact hCle)).exfs b hb,.inl hb,fun x c e=>(f2 b hb).2.2.2.2.1 x c (Yr e),fun p hpp z=>by
     have hpp':p ∈ pl:=by simpa using hpp
     exact (below b (fps b hb)).2 (by rw [← z];exact hp p hpp')⟩
   have hD1:∀ p ∈ [((D,{ cls:=.type "list",data:=.seq vs.toArray n }):Addr × Obj)],p.1=D:=fun p hp=>by
    have e:p=(D,{ cls:=.type "list",data:=.seq vs.toArray n }):=by simpa using hp
    rw [e]
   rcases hW i k ys H' w with ⟨stop,qn⟩ | ⟨go,hlen,step⟩
   ·refine thn (T.done (X.block scope C N s₂ H₂ fp) rfl rfl rfl hc i _ s' _ H' _ IB (fpB hD1 fr) st stop) fun r s4 hZ1=>?_
    obtain ⟨hr,I4⟩:=hZ1
    subst hr
    -- the block is left
    have pD:=I4.pin (D,{ cls:=.type "list",data:=.seq vs.toArray n }) (by simp)
    have hDn:H' D=none:=pD.2.1
    have IX:Inv X pins σ H' s4:=I2.call' (ch:=fp) I4.os I4.base I4.hok I4.bare fun b hb=>⟨(f2 b hb).2.2.2.1,(f2 b hb).2.1,(f2 b hb).2.2.2.2.1,(f2 b hb).2.2.2.2.2⟩
    have foD:Cu X pins H' D:=I2.fpOk (by rw [hDe];exact Nat.le_refl _) hDn
    have IA:Inv X pins σ (upd H' D (.lst ys)) s4:=IX.adopt foD ⟨hyz,vs,n,rv,pD.1⟩
    obtain ⟨mC,hnC,_⟩:=I4.loc
    refine fin D C ys H' s4 IA ⟨mC,hnC⟩ (I2.fpOk (by rw [hDe];exact hCle) ?_) (qn D hDn)
    rw [lb (Ne.symm hDC)]
    exact I4.free
   ·refine thn (T.item (X.block scope C N s₂ H₂ fp) rfl rfl rfl hc i _ s' _ H' _ IB (fpB hD1 fr) st go) fun r s4 hZ1=>?_
    obtain ⟨u,hr,h4⟩:=hZ1
    subst hr
    refine thn h4 fun _ s5 hZ1=>?_
    obtain ⟨x,H5,I5,r5,y5,st5,fr5⟩:=hZ1
    have I5':=I5.pinned (fpB hD1 fr5) (T.obj _ _ st5)
    refine thn (B.tgt C s₂ H₂ fp _ s5 _ H5 x u _ I5' r5 (step x H5 y5)) fun _ s6 hZ1=>?_
    obtain ⟨σ6,H6,I6,sb,q6⟩:=hZ1
    refine thn (B.tests C s₂ H₂ fp _ s6 σ6 H6 _ I6 q6) fun c s7 hZ1=>?_
    obtain ⟨H7,I7,q7⟩:=hZ1
    have again:∀ {σ8:St} {H8:Hp} {s8:Shared},Inv (X.block scope C N s₂ H₂ fp) ([(D,{ cls:=.type "list",data:=.seq vs.toArray n })] ++ Fv fp s5.heap) σ8 H8 s8→tn (i + 1) s8.heap∧(∀ b ∈ fp,H8 b=none):=fun {σ8 H8 s8} I8=>by
     refine ⟨T.keep _ _ _ st5 fun b hb o e=>(I8.pin (b,o) (List.mem_append_right _ (List.mem_append_right _ (ak hb e)))).1,fun b hb=>?_⟩
     obtain ⟨o,e,d⟩:=T.obj _ _ st5 b hb
     exact (I8.pin (b,o) (List.mem_append_right _ (List.mem_append_right _ (ak hb e)))).2.1
    have back:∀ {H8:Hp} {s8:Shared} {pl:List (Addr × Obj)},Inv (X.block scope C N s₂ H₂ fp) pl σ6 H8 s8→Inv (X.block scope C N s₂ H₂ fp) pl (blk sel σ) H8 s8:=fun {H8 s8 pl} I8=>I8.weak sb.1.symm sb.2
    cases c with
    | false=>
     obtain ⟨m',hm,w'⟩:=q7
     obtain ⟨t1,t2⟩:=again I7
     exact ⟨m',hm,i + 1,ys,_,n,H7,back I7.unpinned,⟨vs,rfl,rv⟩,hyz,t1,t2,w'⟩
    | true=>
     refine thn (B.elem C s₂ H₂ fp _ s7 σ6 H7 _ I7 q7) fun v s8 hZ1=>?_
     obtain ⟨y,H8,I8,r8,m',hm,w'⟩:=hZ1
     obtain ⟨t1,t2⟩:=again I8
     have pD:=I8.pin (D,{ cls:=.type "list",data:=.seq vs.toArray n }) (by simp)
     refine append_at (hsz:=by have:=rv.length;rw [List.size_toArray];omega) pD.1 fun h9 hs9 hD9=>?_
     have IB':Inv (X.block scope C N s₂ H₂ fp) [] (blk sel σ) H8 s8:=(back I8).pins_of fun p hp=>nomatch hp
     have foD:Cu (X.block scope C N s₂ H₂ fp) [] H8 D:=⟨pD.2.1,hDC,hDfs,.inr (by show s₂.heap.objs.size ≤ D;rw [hDe];exact Nat.le_refl _),(fun x c e z=>by
      obtain ⟨cv,o,ho,hd⟩:=I8.cell x c e
      rw [z,pD.1] at ho
      cases ho
      cases hd),(fun p hp=>nomatch hp)⟩
     have I9:Inv (X.block scope C N s₂ H₂ fp) [] (blk sel σ) H8 { s8 with heap:=h9 }:=IB'.turned (t':=s8.toks) (it:=D) (fun b o hb e=>(hs9.2 b hb).trans e) foD.1 foD.2.1 foD.2.2.2.1 foD.2.2.2.2.1 foD.2.2.2.2.2
     refine ⟨m',hm,i + 1,ys ++ [y],vs.toArray.push v,n + 1,H8,I9.pins_of fun p hp=>?_,⟨vs ++ [v],by simp,Paired.snoc rv r8⟩,by rw [List.length_append,List.length_singleton];omega,T.keep _ _ _ t1 fun b hb o e=>(hs9.2 b (below b (fps b hb)).2).trans e,t2,w'⟩
     have e:p=(D,{ cls:=.type "list",data:=.seq (vs.toArray.push v) (n + 1) }):=by simpa using hp
     subst e
     exact ⟨hD9,pD.2.1,hDC,hDfs,fun v z=>by cases z⟩
  ·have e:p=(D,{ cls:=.type "list",data:=.seq ([]:List Value).toArray }):=by simpa using hp
   subst e
   exact ⟨hacc,I2.hok.fresh (by rw [hDe];exact Nat.le_refl _),hDC,hDfs,fun v z=>by cases z⟩
 exact codeAny_compStart_list (loop _ rfl) (T.self _ 0 _ _ _ st1 (loop _ rfl))
theorem eg (hc:X.calm=true) (hi:PI X tg iter wi) (S:Kn X.env scope) (hsel:yA X.N scope N sel) (B:Blk X scope N tg elt ifs g tc te)
  (hs:∀ x,foldedSetIterable iter X.env x=pure x:=by intro _;rfl):PE X (.ListComp elt [⟨tg,iter,ifs,0⟩] scope pos) (FJ wi g tc te sel):=by
 intro pins s σ H Q I h
 rw [eval_ListComp]
 refine wpAny_comprehension_free (use:=none) rfl hs (fD (S.cells I.ok)) S.kind S.loc ?_
 refine thn (hi pins s σ H _ I h) fun v s1 h1=>thn h1 fun itv s2 h2=>?_
 obtain ⟨it,fp,tn,J,H2,e,I2,T,st2,f2,W,w0,hW⟩:=h2
 subst e
 refine ou (RR:=fun acc C=>compPost (model X.prog X.w) X.A X.xe none (EP X pins σ Q) acc C) hc S hsel B I2 T st2 f2 w0 hW fun D C ys H' s' I' ⟨m,hm⟩ fo q=>?_
 exact ⟨m,hm,fun h' hsb=>⟨.ref D,_,I'.turned (t':=s'.toks) (it:=C) (fun b o hb e=>(hsb.2 b hb).trans e) fo.1 fo.2.1 fo.2.2.2.1 fo.2.2.2.2.1 fo.2.2.2.2.2,rfl,q⟩⟩
theorem Yh {i:Nat} {y:Str} {py spos:Pos} (hN:X.N.Nodup) (hi:X.N[i]? = some y) (hx:Loc X.env.scope y) (hc:X.calm=true) (hit:PI X tg iter wi) (S:Kn X.env scope) (hsel:yA X.N scope N sel) (B:Blk X scope N tg elt ifs g tc te)
  (hsw:swapsWith (.ListComp elt [⟨tg,iter,ifs,0⟩] scope pos) (some (.Name y py)) spos.line X.env=pure true) (hf:X.fn y=true∨X.env.scope.names.lookup y=some .local:=by first | exact .inl rfl | exact .inr rfl | assumption)
  (hs:∀ x,foldedSetIterable iter X.env x=pure x:=by intro _;rfl):PS X (.Assign [.Name y py] (.ListComp elt [⟨tg,iter,ifs,0⟩] scope pos) spos) (kN (FJ wi g tc te sel) (Su i)):=by
 intro pins s σ H D I h
 rw [exec_Assign_Name_used _ _ _ _ hsw]
 refine wpAny_bind (wpAny_standAt (wpAny_bind ?_))
 show wpAny _ X.A (do let _ ← comprehension (.ListComp elt [⟨tg,iter,ifs,0⟩] scope pos) scope X.env _ (newList []) false (eval iter X.env) (some (assign (.Name y py) X.env))) _ _ s
 refine wpAny_bind (wpAny_mono (wpAny_comprehension_free (use:=some (assign (.Name y py) X.env)) (Q:=fun _ s'=>SP X pins D .next s') rfl hs (fD (S.cells I.ok)) S.kind S.loc ?_) (fun _ s' hq=>wpAny_pure (wpAny_pure hq)) fun _ _ e=>e)
 refine thn (hit pins s σ H _ I h) fun v s1 h1=>thn h1 fun itv s2 h2=>?_
 obtain ⟨it,fp,tn,J,H2,e,I2,T,st2,f2,W,w0,hW⟩:=h2
 subst e
 refine ou (RR:=fun acc C=>compPost (model X.prog X.w) X.A X.xe (some (assign (.Name y py) X.env)) (fun _ s'=>SP X pins D .next s') acc C) hc S hsel B I2 T st2 f2 w0 hW fun Da C ys H' s' I' ⟨m,hm⟩ fo q=>?_
 show wpAny _ X.A (assign (.Name y py) X.env (.ref Da)) _ _ _
 refine wpAny_assign_Name (Av I' hN hi hx (show yd (.ref Da) (.ref Da) from rfl) (fun s3 I3 hZ1=>?_) hf)
 obtain ⟨a,hsb,ha⟩:=hZ1
 have hCa:C ≠ a:=by
  rcases ha with z | z
  ·rw [z];exact fo.2.1
  ·exact fun w=>fo.2.2.2.2.1 y a z w.symm
 refine ⟨m,hm.sameBut hsb hCa,fun h' hsb'=>⟨_,_,I3.turned (t':=s3.toks) (it:=C) (fun b o hb e=>(hsb'.2 b hb).trans e) fo.1 fo.2.1 fo.2.2.2.1 fo.2.2.2.2.1 fo.2.2.2.2.2,q⟩⟩
end
noncomputable def zg (Pv:Nat→List V→Hp→Prop) (g:TG) (tc:TT) (te:TE) (σb:St) (i:Nat) (x:V) (ys:List V) (H:Hp):Prop:=
 ∀ N:List V→Hp→Prop,(∀ ys' H',Pv (i + 1) ys' H'→N ys' H')→g x σb H fun σ2 H2=>Sub σb σ2∧tc σ2 H2 fun c H3=>if c=true then te σ2 H3 fun y H4=>N (ys ++ [y]) H4 else N ys H3
theorem zC {K:PySem.W.Frag} {a:Addr} {xs:List V} {g:TG} {tc:TT} {te:TE} {σb:St} {Q:VK} {H:Hp} (Pv:Nat→List V→Hp→Prop) (hz:xs.length ≤ sizeLine) (h0:Pv 0 [] H) (hl:∀ i ys H,i ≤ xs.length→Pv i ys H→SqL K H a xs∧ys.length ≤ i)
  (hs:∀ i x ys H,xs[i]? = some x→Pv i ys H→zg Pv g tc te σb i x ys H) (hd:∀ ys H,Pv xs.length ys H→∀ p,H p=none→Q (.ref p) (upd H p (.lst ys))) :
  ∃ W:Nat→Nat→List V→Hp→Prop,(∃ m,W 0 m [] H)∧Iv (Itl K a) g tc te σb Q W:=by
 refine ⟨fun i m ys H=>m=xs.length - i∧i ≤ xs.length∧Pv i ys H,⟨xs.length,by simp,Nat.zero_le _,h0⟩,?_⟩
 rintro i m ys H ⟨rfl,hi,p⟩
 have q:=(hl i ys H hi p).1
 have hyl:=(hl i ys H hi p).2
 by_cases hlt:i < xs.length
 ·refine .inr ⟨⟨xs,xs[i],q,by simp [hlt]⟩,by omega,fun x H' y=>?_⟩
  obtain ⟨e,y⟩:=y
  subst e
  exact hs i x ys _ (y xs q) p (fun ys' H'=>∃ m',m' < xs.length - i∧m'=xs.length - (i + 1)∧i + 1 ≤ xs.length∧Pv (i + 1) ys' H') fun ys' H' r=>⟨xs.length - (i + 1),by omega,rfl,hlt,r⟩
 ·have e:i=xs.length:=by omega
  subst e
  exact .inl ⟨⟨xs,q,Nat.le_refl _⟩,hd ys H p⟩
theorem jE {K:PySem.W.Frag} {a:Addr} {xs:List V} {g:TG} {tc:TT} {te:TE} {σb:St} {Q:VK} {H:Hp} (Pv:Nat→List V→Hp→Prop) (hz:xs.length ≤ sizeLine) (h0:Pv 0 [] H) (hl:∀ i ys H,i ≤ xs.length→Pv i ys H→SqT K H a xs∧ys.length ≤ i)
  (hs:∀ i x ys H,xs[i]? = some x→Pv i ys H→zg Pv g tc te σb i x ys H) (hd:∀ ys H,Pv xs.length ys H→∀ p,H p=none→Q (.ref p) (upd H p (.lst ys))) :
  ∃ W:Nat→Nat→List V→Hp→Prop,(∃ m,W 0 m [] H)∧Iv (Itt K a) g tc te σb Q W:=by
 refine ⟨fun i m ys H=>m=xs.length - i∧i ≤ xs.length∧Pv i ys H,⟨xs.length,by simp,Nat.zero_le _,h0⟩,?_⟩
 rintro i m ys H ⟨rfl,hi,p⟩
 have q:=(hl i ys H hi p).1
 have hyl:=(hl i ys H hi p).2
 by_cases hlt:i < xs.length
 ·refine .inr ⟨⟨xs,xs[i],q,by simp [hlt]⟩,by omega,fun x H' y=>?_⟩
  obtain ⟨e,y⟩:=y
  subst e
  exact hs i x ys _ (y xs q) p (fun ys' H'=>∃ m',m' < xs.length - i∧m'=xs.length - (i + 1)∧i + 1 ≤ xs.length∧Pv (i + 1) ys' H') fun ys' H' r=>⟨xs.length - (i + 1),by omega,rfl,hlt,r⟩
 ·have e:i=xs.length:=by omega
  subst e
  exact .inl ⟨⟨xs,q,Nat.le_refl _⟩,hd ys H p⟩
theorem Gz {lo:Int} {n:Nat} {g:TG} {tc:TT} {te:TE} {σb:St} {Q:VK} {H:Hp} (Pv:Nat→List V→Hp→Prop) (hz:n ≤ sizeLine) (h0:Pv 0 [] H) (hl:∀ i ys H,i ≤ n→Pv i ys H→ys.length ≤ i)
  (hs:∀ i ys H,i < n→Pv i ys H→zg Pv g tc te σb i (.int (lo + i)) ys H) (hd:∀ ys H,Pv n ys H→∀ p,H p=none→Q (.ref p) (upd H p (.lst ys))) :
  ∃ W:Nat→Nat→List V→Hp→Prop,(∃ m,W 0 m [] H)∧Iv (Itr lo n) g tc te σb Q W:=by
 refine ⟨fun i m ys H=>m=n - i∧i ≤ n∧Pv i ys H,⟨n,by simp,Nat.zero_le _,h0⟩,?_⟩
 rintro i m ys H ⟨rfl,hi,p⟩
 have hyl:=hl i ys H hi p
 by_cases hlt:i < n
 ·refine .inr ⟨hlt,by omega,fun x H' y=>?_⟩
  obtain ⟨e,y⟩:=y
  subst e y
  exact hs i ys _ hlt p (fun ys' H'=>∃ m',m' < n - i∧m'=n - (i + 1)∧i + 1 ≤ n∧Pv (i + 1) ys' H') fun ys' H' r=>⟨n - (i + 1),by omega,rfl,hlt,r⟩
 ·have e:i=n:=by omega
  subst e
  exact .inl ⟨Nat.le_refl _,hd ys H p⟩
end L2
namespace L2
open PySem PySem.Spec PyProof.Rows
noncomputable def Its (xs:List V):It:=⟨fun i _=>i < xs.length,fun i H x H'=>H'=H∧xs[i]? = some x,fun i _=>xs.length ≤ i⟩
theorem Fs {P:Program} {w:World} {K:PySem.W.Frag} {tg:Expr} {it:Addr} {xs:List V} {PV:Nat→Value→Prop} {St:Nat→Heap→Prop} (hW:∀ A:Around,A.handled=none→Walks P w A it [it] [it] xs.length PV St)
  (hP:∀ i v,PV i v→∃ x,xs[i]? = some x∧yd x v)
  (hgo:∀ i h,St i h→∃ o n vs,h.get? it=some o∧o.cls=.type n∧o.data=.fields vs∧["enumerate","zip","dict_itemiterator","dict_reverseitemiterator","odict_iterator","itertools.zip_longest","itertools.pairwise"].contains n=false)
  (hfr:∀ i h h',St i h→(∀ o,h.get? it=some o→h'.get? it=some o)→St i h')
  (hself:∀ (A:Around) (i:Nat) (s:Shared) (Q:Value→Shared→Prop) (E:Value→Shared→Prop),St i s.heap→Q (.ref it) s→wpAny (model P w) A (pyIter (.ref it)) Q E s) :
  rH P w K tg (Its xs) [it] it (fun i h=>i ≤ xs.length∧St i h) where
 mem:=by simp
 obj:=fun i h st b hb=>by
  have e:b=it:=by simpa using hb
  subst e
  obtain ⟨o,n,vs,e,_,d,_⟩:=hgo i h st.2
  exact ⟨o,e,fun v z=>by rw [d] at z;cases z⟩
 keep:=fun i h h' st k=>⟨st.1,hfr i h h' st.2 fun o e=>k it (by simp) o e⟩
 item:=by
  intro X hP' hw hK hc i pins s σ H E I hf st hg
  subst hP' hw hK
  obtain ⟨f0,f1,f2,f3,f4,f5⟩:=hf it (by simp)
  refine (hW X.A (I.ok.hd hc)).item i s _ _ hg st.2 fun v h' tk hv st' kk=>?_
  obtain ⟨x,hx,rx⟩:=hP i v hv
  have I1:Inv X pins σ H { s with heap:=h',toks:=tk }:=I.turned (fun b o hb e=>kk b o (by simpa using hb) e) f0 f1 f3 f4 f5
  obtain ⟨o,n,vs,e,c,d,nm⟩:=hgo _ _ st'
  exact ⟨v,rfl,GC (s:={ s with heap:=h',toks:=tk }) e c d nm ⟨x,H,I1,rx,⟨rfl,hx⟩,⟨hg,st'⟩,fun b hb=>(hf b hb).1⟩⟩
 done:=by
  intro X hP' hw hK hc i pins s σ H E I hf st hg
  subst hP' hw hK
  obtain ⟨f0,f1,f2,f3,f4,f5⟩:=hf it (by simp)
  have e:i=xs.length:=Nat.le_antisymm st.1 hg
  subst e
  exact (hW X.A (I.ok.hd hc)).done s _ _ st.2 fun h' tk kk=>⟨rfl,I.turned (fun b o hb e=>kk b o (by simpa using hb) e) f0 f1 f3 f4 f5⟩
 self:=fun A i s Q E st h=>hself A i s Q E st.2 h
noncomputable def cM (c:Nat):Str:=⟨#[c]⟩
noncomputable def Vi (x:Str):List V:=x.cps.toList.map fun c=>V.str (cM c)
theorem xm (x:Str):(Vi x).length=x.cps.size:=by unfold Vi;simp
theorem CC {x:Str} {i c:Nat} (h:x.cps[i]? = some c):(Vi x)[i]? = some (.str (cM c)):=by
 unfold Vi
 rw [List.getElem?_map,Array.getElem?_toList,h]
 rfl
theorem Gs {x:Str} {i:Nat} {v:Value} (h:SignAt x i v):∃ y,(Vi x)[i]? = some y∧yd y v:=by
 obtain ⟨c,u,hc,rfl⟩:=h
 exact ⟨.str (cM c),CC hc,u,rfl⟩
section
variable {X:Cx} {tg:Expr}
noncomputable def oO (tl:TE):TI:=fun σ H R=>tl σ H fun x H1=>∃ z,x=.str z∧R (Its (Vi z)) H1
theorem TK {l:Expr} {tl:TE} (hl:PE X l tl):PI X tg l (oO tl):=by
 intro pins s σ H R I h
 refine thn (hl pins s σ H _ I h) fun v s1 hZ1=>?_
 obtain ⟨x,H1,I1,r1,q1⟩:=hZ1
 obtain ⟨z,e,q⟩:=q1
 subst e
 obtain ⟨t,rfl⟩:=r1
 have fo:∀ b ∈ [s1.heap.objs.size],Cu X pins H1 b:=fun b hb=>by
  have e:b=s1.heap.objs.size:=by simpa using hb
  subst e
  exact I1.fpOk (Nat.le_refl _) (I1.hok.fresh (Nat.le_refl _))
 have hz:=xm z
 cases ha:z.cps.all (· < 128) with
 | false=>
  refine wpAny_pyIter_wide ha ⟨s1.heap.objs.size,[s1.heap.objs.size],fun i h=>i ≤ (Vi z).length∧h.IsStrIter s1.heap.objs.size "str_iterator" z t i,_,H1,rfl,I1.kept (t':=s1.toks) fun b o e=>Heap.get?_push_of_some _ e,
   Fs (fun A hA=>by rw [hz];exact Walks.strWide hA _ z t) (fun i v=>Gs) (fun i h ⟨o,e,c,d⟩=>⟨o,_,_,e,c,d,by decide⟩) (fun i h h' ⟨o,e,r⟩ k=>⟨o,k o e,r⟩) (fun A i s Q E st q=>wpAny_pyIter_striter_wide st q),
   ⟨Nat.zero_le _,_,Heap.get?_push_size _ rfl,rfl,rfl⟩,fo,q⟩
 | true=>
  refine wpAny_pyIter_ascii ha ⟨s1.heap.objs.size,[s1.heap.objs.size],fun i h=>i ≤ (Vi z).length∧h.IsStrIter s1.heap.objs.size "str_ascii_iterator" z t i,_,H1,rfl,I1.kept (t':=s1.toks) fun b o e=>Heap.get?_push_of_some _ e,
   Fs (fun A hA=>by rw [hz];exact Walks.strAscii hA _ z t) (fun i v=>Gs) (fun i h ⟨o,e,c,d⟩=>⟨o,_,_,e,c,d,by decide⟩) (fun i h h' ⟨o,e,r⟩ k=>⟨o,k o e,r⟩) (fun A i s Q E st q=>wpAny_pyIter_striter_ascii st q),
   ⟨Nat.zero_le _,_,Heap.get?_push_size _ rfl,rfl,rfl⟩,fo,q⟩
end
theorem sK {xs:List V} {g:TG} {tb:TS} {D:jg} {σ:St} {H:Hp} (Pv:Nat→St→Hp→Prop) (h0:Pv 0 σ H)
  (hs:∀ i x σ H,xs[i]? = some x→Pv i σ H→g x σ H fun σ2 H2=>tb { D with nx:=Pv (i + 1),ct:=Pv (i + 1),bk:=D.nx } σ2 H2) (hd:∀ σ H,Pv xs.length σ H→D.nx σ H) :
  ∃ W:Nat→Nat→St→Hp→Prop,(∃ m,W 0 m σ H)∧∀ i m σ H,W i m σ H →
   ((Its xs).stop i H∧D.nx σ H)∨((Its xs).go i H∧∃ N:St→Hp→Prop,(∀ σ' H',N σ' H'→∃ m',m' < m∧W (i + 1) m' σ' H')∧∀ x H',(Its xs).yld i H x H'→g x σ H' fun σ2 H2=>tb { D with nx:=N,ct:=N,bk:=D.nx } σ2 H2):=by
 refine ⟨fun i m σ H=>m=xs.length - i∧i ≤ xs.length∧Pv i σ H,⟨xs.length,by simp,Nat.zero_le _,h0⟩,?_⟩
 rintro i m σ H ⟨rfl,hi,p⟩
 by_cases hlt:i < xs.length
 ·refine .inr ⟨hlt,Pv (i + 1),fun σ' H' p'=>⟨xs.length - (i + 1),by omega,rfl,hlt,p'⟩,fun x H' y=>?_⟩
  obtain ⟨e,y⟩:=y
  subst e
  exact hs i x σ _ y p
 ·have e:i=xs.length:=by omega
  subst e
  exact .inl ⟨Nat.le_refl _,hd σ H p⟩
theorem sE {xs:List V} {g:TG} {tc:TT} {te:TE} {σb:St} {Q:VK} {H:Hp} (Pv:Nat→List V→Hp→Prop) (hz:xs.length ≤ sizeLine) (h0:Pv 0 [] H) (hl:∀ i ys H,i ≤ xs.length→Pv i ys H→ys.length ≤ i)
  (hs:∀ i x ys H,xs[i]? = some x→Pv i ys H→zg Pv g tc te σb i x ys H) (hd:∀ ys H,Pv xs.length ys H→∀ p,H p=none→Q (.ref p) (upd H p (.lst ys))) :
  ∃ W:Nat→Nat→List V→Hp→Prop,(∃ m,W 0 m [] H)∧Iv (Its xs) g tc te σb Q W:=by
 refine ⟨fun i m ys H=>m=xs.length - i∧i ≤ xs.length∧Pv i ys H,⟨xs.length,by simp,Nat.zero_le _,h0⟩,?_⟩
 rintro i m ys H ⟨rfl,hi,p⟩
 have hyl:=hl i ys H hi p
 by_cases hlt:i < xs.length
 ·refine .inr ⟨hlt,by omega,fun x H' y=>?_⟩
  obtain ⟨e,y⟩:=y
  subst e
  exact hs i x ys _ y p (fun ys' H'=>∃ m',m' < xs.length - i∧m'=xs.length - (i + 1)∧i + 1 ≤ xs.length∧Pv (i + 1) ys' H') fun ys' H' r=>⟨xs.length - (i + 1),by omega,rfl,hlt,r⟩
 ·have e:i=xs.length:=by omega
  subst e
  exact .inl ⟨Nat.le_refl _,hd ys H p⟩
section
variable {X:Cx}
noncomputable def EO:V→Option Int→Option Int→Hp→VK→Prop:=fun x lo hi H Q=>∃ z,x=.str z∧z.length ≤ sizeLine∧Q (.str (Txt.slice z lo hi)) H
theorem sH:SlR X EO:=by
 intro pins s σ H x v vl vu lo hi sl Q I rx hs pl pu h
 obtain ⟨z,rfl,hz,q⟩:=h
 obtain ⟨t,rfl⟩:=rx
 refine ⟨"str",_,F.slot_str_getitem.lookup,typeIs_str s z t,?_⟩
 have fin:∀ t' k,EP X pins σ Q (.str (Txt.slice z lo hi) t') { s with toks:=k }:=fun t' k=>⟨.str _,H,I.tok _,⟨_,rfl⟩,q⟩
 cases pl with
 | none=>
  cases pu with
  | none=>exact wpAny_getItem_str_slice (l:=none) (u:=none) (st:=none) hs rfl (post_val_or_str ⟨Nat.le_trans (Txt.slice_le z _ _) hz,fin⟩)
  | int j uj=>exact wpAny_getItem_str_slice (l:=none) (u:=some (j,uj)) (st:=none) hs rfl (post_val_or_str ⟨Nat.le_trans (Txt.slice_le z _ _) hz,fin⟩)
 | int i ui=>
  cases pu with
  | none=>exact wpAny_getItem_str_slice (l:=some (i,ui)) (u:=none) (st:=none) hs rfl (post_val_or_str ⟨Nat.le_trans (Txt.slice_le z _ _) hz,fin⟩)
  | int j uj=>exact wpAny_getItem_str_slice (l:=some (i,ui)) (u:=some (j,uj)) (st:=none) hs rfl (post_val_or_str ⟨Nat.le_trans (Txt.slice_le z _ _) hz,fin⟩)
noncomputable def Eb (ys:List Str):List V:=ys.map V.str
theorem Vr:∀ {ys:List Str} {us:List Value},Wc (Eb ys) us→StrsAre us ys:=by
 intro ys
 induction ys with
 | nil=>intro us r;cases r;exact .nil
 | cons y ys ih=>
  intro us r
  cases r with
  | cons r1 r2=>
   obtain ⟨t,rfl⟩:=r1
   exact .cons y t (ih r2)
theorem Uv:∀ (l:List (Str × Tok)),Wc (Eb (l.map (·.1))) (strValues l)
 | []=>.nil
 | (x,t) :: r=>.cons ⟨t,rfl⟩ (Uv r)
noncomputable def jM (K:PySem.W.Frag):V→List V→Hp→VK→Prop:=fun x vs H Q=>∃ sep p ys,x=.str sep∧vs=[.ref p]∧SqL K H p (Eb ys)∧(ys.map (·.length)).sum + ys.length * sep.length ≤ 16777216∧Q (.str (Txt.join sep ys)) H
theorem lA:MtR X "str.join" (jM X.K):=by
 intro pins s σ H x xs v us Q I rx rv h
 obtain ⟨sep,p,ys,rfl,rfl,hq,hz,q⟩:=h
 obtain ⟨t,rfl⟩:=rx
 obtain ⟨u,rfl,ru⟩:=zo rv
 cases ru
 obtain ⟨its,r,pl,_⟩:=I.list hq
 exact join_list pl.isList (by simpa using Vr r) hz fun t' k=>⟨.str _,H,I.tok _,⟨_,rfl⟩,q⟩
end
theorem Ty {prog:Program} {w:World} {A:Around} {E:Value→Shared→Prop} {s:Shared} {x y:Str} {t u:Tok} {Q:Value→Shared→Prop} (hy:(y.length == 0)=false)
  (h:∀ l k,l.map (·.1)=Txt.split x y→Q (.ref s.heap.objs.size) { s with heap:=s.heap.push { cls:=.type "list",data:=.seq (strValues l).toArray },toks:=k }) (hsz:x.length + 2 ≤ sizeLine) :
  wpAny (model prog w) A (call (.builtin "str.split") [.str x t,.str y u]) Q E s:=by
 have hn:(Builtin.Str.partsBetween x (Builtin.Str.occurrences x y 0 x.length (x.length + 1)) y.length).length ≤ sizeLine:=by
  have e1:=StrLaws.occ_length_le x y 0 x.length (x.length + 1)
  rw [length_partsBetween];omega
 cases h1:(decide (x.length < y.length) || decide (Builtin.Str.strKind x < Builtin.Str.strKind y))
 ·cases hf:(Builtin.Str.occurrences x y 0 x.length (x.length + 1)).isEmpty
  ·refine call_meets F.slot_str_split (typeIs_str _ _ _) F.entry_str_split (F.args_str_split_2 _ _) (meets_str_split_sep x y t u h1 hy hf (by omega) hn) ?_
   show wants Q E _ { s with toks:=_,heap:=s.heap.push { cls:=.type "list",data:=.seq (strsFrom s.toks (Builtin.Str.partsBetween x (Builtin.Str.occurrences x y 0 x.length (x.length + 1)) y.length)).toArray } }
   rw [strsFrom_eq]
   exact h (numbered s.toks _) _ ((numbered_texts _ _).trans ((if_neg (ne_true_of_eq_false h1)).trans (if_neg (ne_true_of_eq_false hf))).symm)
  ·exact call_meets F.slot_str_split (typeIs_str _ _ _) F.entry_str_split (F.args_str_split_2 _ _) (meets_str_split_not_found x y t u h1 hy hf)
    (h [(x,t)] s.toks ((if_neg (ne_true_of_eq_false h1)).trans (if_pos hf)).symm)
 ·exact call_meets F.slot_str_split (typeIs_str _ _ _) F.entry_str_split (F.args_str_split_2 _ _) (meets_str_split_cannot_occur x y t u h1)
   (h [(x,t)] s.toks (if_pos h1).symm)
section
variable {X:Cx}
noncomputable def NG:V→List V→Hp→VK→Prop:=fun x vs H Q=>∃ z y,x=.str z∧vs=[.str y]∧y.length ≠ 0∧z.length + 2 ≤ sizeLine∧(Txt.split z y).length ≤ sizeLine∧∀ p,H p=none→Q (.ref p) (upd H p (.lst (Eb (Txt.split z y))))
theorem Iy:MtR X "str.split" NG:=by
 intro pins s σ H x xs v us Q I rx rv h
 obtain ⟨z,y,rfl,rfl,hy,hz,hn,q⟩:=h
 obtain ⟨t,rfl⟩:=rx
 obtain ⟨u,rfl,ru⟩:=zo rv
 obtain ⟨tu,rfl⟩:=ru
 refine Ty (by simpa using hy) (fun l k hl=>?_) hz
 refine ⟨.ref s.heap.objs.size,_,I.laid (t':=k) (o:=.lst (Eb (Txt.split z y))) (fun b o e=>Heap.get?_push_of_some _ e) (Nat.le_refl _) ⟨by unfold Eb;rw [List.length_map];exact hn,strValues l,0,by rw [← hl];exact Uv l,Heap.get?_push_size _ rfl⟩,rfl,q _ (I.hok.fresh (Nat.le_refl _))⟩
noncomputable def EJ:V→List V→Hp→VK→Prop:=fun x vs H Q=>∃ z y i rest,x=.str z∧vs=[.str y]∧Builtin.Str.occurrences z y 0 z.length 1=i :: rest∧Q (.int (i:Nat)) H
theorem qC:Nm X (.type "int") (fun xs H Q=>∃ z n,xs=[.str z]∧intText? z=some n∧z.length ≤ 640∧Q (.int n) H):=by
 intro pins s σ H xs us Q I r h
 obtain ⟨z,n,rfl,hn,hz,q⟩:=h
 obtain ⟨u,rfl,t,rfl⟩:=zo r
 exact PySem.W.KIN.call_text hn hz ⟨.int n,H,I.tok _,⟨_,rfl⟩,q⟩
theorem Dv:∀ {bs:List Bool} {us:List Value},Wc (bs.map V.bl) us→us=bs.map Value.bool
 | [],_,.nil=>rfl
 | b :: bs,_,.cons r t=>by
  have e:_=Value.bool b:=r
  rw [e,Dv t];rfl
theorem Lw {A:Around} (bs:List Bool):TruthOf X.prog X.w A (fun i v=>(bs.map Value.bool).toArray[i]? = some v) (fun i=>bs.getD i true):=by
 intro i v s Q E hP hQ
 have e:(bs.map Value.bool)[i]? = some v:=by simpa using hP
 rw [List.getElem?_map] at e
 cases q:bs[i]? with
 | none=>rw [q] at e;cases e
 | some b=>
  rw [q] at e
  have e':Value.bool b=v:=Option.some.inj e
  subst e'
  refine wpAny_truthy_bool ?_
  have:bs.getD i true=b:=by simp [List.getD,q]
  have hQ':Q (bs.getD i true) s:=hQ
  rw [this] at hQ'
  exact hQ'
theorem BC (bs:List Bool):(List.range bs.length).all (fun i=>bs.getD i true)=bs.all id:=by
 rw [Bool.eq_iff_iff]
 simp only [List.all_eq_true,List.mem_range,id]
 constructor
 ·intro h b hb
  obtain ⟨i,hi,e⟩:=List.mem_iff_getElem.mp hb
  have:=h i hi
  simp [List.getD,hi,e] at this
  exact this
 ·intro h i hi
  simp [List.getD,hi]
  exact h _ (List.getElem_mem hi)
theorem ZD (hc:X.calm=true):Nm X (.builtin "all") (fun xs H Q=>∃ (p:Addr) (bs:List Bool),xs=[.ref p]∧SqL X.K H p (bs.map V.bl)∧Q (.bl (bs.all id)) H):=by
 intro pins s σ H xs us Q I r h
 obtain ⟨p,bs,rfl,hq,q⟩:=h
 obtain ⟨u,rfl,ru⟩:=zo r
 cases ru
 obtain ⟨its,rv,pl,_⟩:=I.list hq
 have e:=Dv rv
 subst e
 refine call_all_walk (wpAny_pyIter_list pl.isList ?_)
 have hne:p ≠ s.heap.objs.size:=Nat.ne_of_lt (by obtain ⟨o,_,ho,_⟩:=pl;exact Heap.lt_size ho)
 refine ⟨s.heap.objs.size,_,_,_,_,_,fun i=>bs.getD i true,rfl,Walks.list (show X.A.in1.handled=none from I.ok.hd hc) _ p hne (bs.map Value.bool).toArray,⟨⟨_,Heap.get?_push_size _ rfl,rfl,rfl⟩,pl.isList.at fun o e=>Heap.get?_push_of_some _ e⟩,Lw bs,fun h' tk kk=>?_⟩
 refine ⟨.bl (bs.all id),H,I.kept fun b o e=>kk b o (by simpa using Nat.ne_of_lt (Heap.lt_size e)) (Heap.get?_push_of_some _ e),?_,q⟩
 show Value.bool _=Value.bool _
 rw [show (bs.map Value.bool).toArray.size=bs.length by simp,BC]
theorem mF:Nm X (.builtin "isinstance") (fun xs H Q=>∃ x T t b,xs=[x,.ty T]∧Kx X.K H x t∧PySem.W.kitOne X.K t (.type T)=some b∧Q (.bl b) H):=by
 intro pins s σ H xs us Q I r h
 obtain ⟨x,T,t,b,rfl,ty,e,q⟩:=h
 obtain ⟨u,u2,rfl,rx,r2⟩:=ZJ r
 cases r2
 exact pC I rx ty e fun tk=>⟨.bl b,H,I.tok _,rfl,q⟩
end
end L2
namespace L2
open PySem PySem.Spec PyProof.Rows
theorem ug {X:Cx} {N:List Str} (h:N.Nodup) (e:X.N=N):X.N.Nodup:=e ▸ h
noncomputable def CA (sc scope:Scope):Bool:=
 (scope.kind == .function) && scope.names.all (fun y=>y.2 != .cell) && scope.names.all (fun y=>y.2 != .free || sc.names.lookup y.1 == some .cell || sc.names.lookup y.1 == some .free) &&
  scope.names.all (fun y=>y.2 != .local || scope.names.lookup y.1 == some .local)
theorem Nc {env:Env} {sc scope:Scope} (he:env.scope=sc) (h:CA sc scope=true):Kn env scope:=by
 subst he
 unfold CA at h
 simp only [Bool.and_eq_true,List.all_eq_true] at h
 obtain ⟨⟨⟨h1,h2⟩,h3⟩,h4⟩:=h
 refine ⟨by simpa using h1,fun y hy e=>?_,fun y hy e=>?_,fun y hy e=>?_⟩
 ·have:=h2 y hy
  rw [e] at this
  exact absurd this (by decide)
 ·have:=h3 y hy
  rw [e] at this
  simp only [Bool.or_eq_true] at this
  rcases this with (z | z) | z
  ·exact absurd z (by decide)
  ·exact .inl (show env.scope.names.lookup y.1=some .cell by simpa using z)
  ·exact .inr (show env.scope.names.lookup y.1=some .free by simpa using z)
 ·have:=h4 y hy
  rw [e] at this
  simp only [Bool.or_eq_true] at this
  rcases this with z | z
  ·exact absurd z (by decide)
  ·simpa using z
noncomputable def wO (M:List Str) (scope:Scope) (N:List Str) (sel:List (Option Nat)):Bool:=
 sel.length == N.length && (sel.zip N).all fun p=>match p.1 with | none=>true | some j=>M[j]? == some p.2 && scope.names.lookup p.2 == some .free
theorem Jd {M:List Str} {scope:Scope} {N:List Str} {sel:List (Option Nat)} (h:wO M scope N sel=true):yA M scope N sel:=by
 unfold wO at h
 simp only [Bool.and_eq_true,List.all_eq_true] at h
 refine ⟨by simpa using h.1,fun i j x e1 e2=>?_⟩
 have hm:(some j,x) ∈ sel.zip N:=by
  rw [List.mem_iff_getElem?]
  exact ⟨i,by rw [List.getElem?_zip_eq_some];exact ⟨e1,e2⟩⟩
 have:=h.2 _ hm
 simp only [Bool.and_eq_true] at this
 exact ⟨by simpa using this.1,by simpa using this.2⟩
noncomputable def noT:HO→Bool
 | .dT _=>false
 | .frz _ u=>noT u
 | _=>true
noncomputable def NoT (H:Hp):Prop:=∀ b o,H b=some o→noT o=true
theorem kd.back {P:Program} {w:World} {H H':Hp} {h h':Heap} {a:Addr}:∀ (o:HO),noT o=true→kd P w H' h' a o→kd P w H h a o→kd P w H h' a o
 | .lst _,_,x,_=>x
 | .tup _,_,x,_=>x
 | .dK _,_,x,_=>x
 | .dT _,e,_,_=>absurd e (by unfold noT;decide)
 | .set _ _,_,x,_=>x
 | .ins _ _ _,_,x,y=>⟨y.1,x.2⟩
 | .own _,_,x,_=>x
 | .xd _,_,x,_=>x
 | .met _ _,_,x,_=>x
 | .rng _ _,_,x,_=>x
 | .frz ob u,e,x,y=>⟨x.1,kd.back u (by unfold noT at e;exact e) x.2 y.2⟩
 | .tbl _,_,x,_=>x
 | .ext _,_,x,_=>x
section
variable {P:Program} {w:World} {K:PySem.W.Frag} {mg:Str→Option Value} {base:Heap}
theorem Fb.forget {k:Nat} {f:Addr} {fd:FuncData} {ps:List Str} {sp sp':Sp} (F:Fb P w K mg base CX0 k f fd ps sp)
  (h:∀ vs H Q E,sp' vs H Q E→NoT H∧sp vs H (fun v H'=>Kb H H'∧Q v H) E):Fb P w K mg base CX0 k f fd ps sp':=by
 refine ⟨fun vs H Q E q=>F.len vs H _ E (h vs H Q E q).2,fun A outer s H args us vs Q E hr he hb hv hs=>?_⟩
 obtain ⟨nt,q⟩:=h vs H Q E hs
 refine codeAny_mono (F.run A outer s H args us vs _ E hr he hb hv q) fun r s' hq=>?_
 cases r with
 | error e=>exact hq
 | ok fl=>
  cases fl with
  | next=>exact hq
  | brk=>exact hq
  | cont=>exact hq
  | ret u=>
   obtain ⟨v,H',os,bare,un,hok,rv,sm,q'⟩:=hq
   exact ⟨v,H,os,bare,⟨un.keep,un.slot,fun _ _ _ n _=>n,un.there,fun _ _ z=>z,fun _ _ _ z=>z,fun _ ps z=>⟨#[],by rw [z];simp⟩⟩,fun a o e=>(hok a o (sm a o e)).back o (nt a o e) (he.hok a o e),rv,q'⟩
end
theorem jb {H:Hp} {p:Addr} {o:HO} (h:H p=none):Kb H (upd H p o):=fun b u q=>by rw [lb (qb q h)];exact q
theorem Kb.updN {H H1:Hp} {p:Addr} {o:HO} (s:Kb H H1) (h:H p=none):Kb H (upd H1 p o):=fun b u q=>by rw [lb (qb q h)];exact s b u q
structure Sc (K:PySem.W.Frag) (a:Addr) (ns:List Int) (H:Hp):Prop where
 sq:(∃ o,H a=some (.frz o (.lst (ns.map V.int))))∨∃ (o:Obj) (its:Array Value) (n:Nat),K.lookup a=some o∧o.cls=.type "list" ∧ o.dict=none∧o.data=.seq its n∧its.size ≤ sizeLine∧Wc (ns.map V.int) its.toList
 nt:NoT H
section
variable {K:PySem.W.Frag} {a p:Addr} {ns:List Int} {H H':Hp} {o:HO}
theorem Sc.seq (s:Sc K a ns H):SqL K H a (ns.map V.int):=by
 rcases s.sq with ⟨o,h⟩ | h
 ·exact .inl (.inr ⟨o,h⟩)
 ·exact .inr h
theorem Sc.new (s:Sc K a ns H) (hp:H p=none) (ho:noT o=true:=by rfl):Sc K a ns (upd H p o):=by
 refine ⟨?_,fun b u e=>?_⟩
 ·rcases s.sq with ⟨ob,h⟩ | h
  ·exact .inl ⟨ob,by rw [lb (qb h hp)];exact h⟩
  ·exact .inr h
 ·by_cases hb:b=p
  ·subst hb;rw [cb] at e;cases e;exact ho
  ·rw [lb hb] at e;exact s.nt b u e
theorem Sc.set {u:HO} (s:Sc K a ns H) (hp:H p=some u) (hu:∀ ob z,u ≠ .frz ob z) (ho:noT o=true:=by rfl):Sc K a ns (upd H p o):=by
 refine ⟨?_,fun b x e=>?_⟩
 ·rcases s.sq with ⟨ob,h⟩ | h
  ·refine .inl ⟨ob,?_⟩
   have hne:a ≠ p:=fun z=>by subst z;rw [hp] at h;exact hu _ _ (Option.some.inj h)
   rw [lb hne];exact h
  ·exact .inr h
 ·by_cases hb:b=p
  ·subst hb;rw [cb] at e;cases e;exact ho
  ·rw [lb hb] at e;exact s.nt b x e
theorem Sc.of_only (hO:jL H) (hS:SqL K H a (ns.map V.int)):Sc K a ns H:=by
 refine ⟨?_,fun b u e=>?_⟩
 ·rcases hS with (h | ⟨o,h⟩) | h
  ·rcases hO a with z | ⟨ob,xs,z⟩
   ·rw [h] at z;cases z
   ·rw [h] at z;cases z
  ·exact .inl ⟨o,h⟩
  ·exact .inr h
 ·rcases hO b with z | ⟨ob,xs,z⟩
  ·rw [e] at z;cases z
  ·rw [e] at z;cases z;rfl
end
noncomputable def IL (K:PySem.W.Frag):Sp:=fun vs H Q _=>∃ (a:Addr) (ns:List Int),vs=[.ref a]∧Sc K a ns H∧ns.length ≤ 63∧∀ H',Q (.bl true) H'
theorem vd:bootBuiltins "len"=some (.builtin "len"):=PySem.boot_len
theorem Vy:bootBuiltins "all"=some (.builtin "all"):=by decide +kernel
theorem Pr:bootBuiltins "max"=some (.builtin "max"):=by decide +kernel
theorem Mm:bootBuiltins "isinstance"=some (.builtin "isinstance"):=by decide +kernel
theorem iz:bootBuiltins "int"=some (.type "int"):=by decide +kernel
theorem wn:bootBuiltins "str"=some (.type "str"):=by decide +kernel
theorem Ji:bootBuiltins "list"=some (.type "list"):=by decide +kernel
theorem vx:bootBuiltins "dict"=some (.type "dict"):=by decide +kernel
theorem BK {K:PySem.W.Frag} {T:String}:PySem.W.kitOne K (.type T) (.type T)=some true:=by
 unfold PySem.W.kitOne
 rw [if_pos (by simp)]
theorem Rd.same {H H':Hp} {a:Addr} {o:HO} (h:Rd H a o) (s:Kb H H'):Rd H' a o:=by
 rcases h with h | ⟨ob,h⟩
 ·exact .inl (s _ _ h)
 ·exact .inr ⟨ob,s _ _ h⟩
theorem SqL.same {K:PySem.W.Frag} {H H':Hp} {a:Addr} {xs:List V} (h:SqL K H a xs) (s:Kb H H'):SqL K H' a xs:=by
 rcases h with h | h
 ·exact .inl (h.same s)
 ·exact .inr h
theorem SqT.same {K:PySem.W.Frag} {H H':Hp} {a:Addr} {xs:List V} (h:SqT K H a xs) (s:Kb H H'):SqT K H' a xs:=by
 rcases h with h | h
 ·exact .inl (h.same s)
 ·exact .inr h
theorem NoT.upd {H:Hp} {p:Addr} {o:HO} (h:NoT H) (ho:noT o=true:=by rfl):NoT (upd H p o):=fun b u e=>by
 by_cases hb:b=p
 ·subst hb;rw [cb] at e;cases e;exact ho
 ·rw [lb hb] at e;exact h b u e
theorem Sc.same {K:PySem.W.Frag} {a:Addr} {ns:List Int} {H H':Hp} (s:Sc K a ns H) (sm:Kb H H') (nt:NoT H'):Sc K a ns H':=by
 refine ⟨?_,nt⟩
 rcases s.sq with ⟨o,h⟩ | h
 ·exact .inl ⟨o,sm _ _ h⟩
 ·exact .inr h
end L2
namespace L2
open PySem PySem.Spec PyProof.Rows
structure zO (K:PySem.W.Frag) (C:Addr) (m:Str) (f:Addr):Prop where
 rd:PySem.W.readsIn K C (.type "type")=true
 fd:PySem.W.findCls K (.ref C) (.type "type") m=some (.val (.ref f))
 ga:PySem.W.specialIn K (.ref C) "__getattribute__"=some (some (.builtin "type.__getattribute__"))
 kp:PySem.W.keepIn K (.ref f)=true
structure qE (P:Program) (w:World) (K:PySem.W.Frag) (mg:Str→Option Value) (base:Heap) (CX:CXT) (k:Nat) (OK:Addr→Prop) (m:Str) (ps:List Str) (SPV:Addr→Sp):Prop where
 ok:∀ C,OK C→∃ f fd,Cls K C∧ls K C m f∧Fb P w K mg base CX k f fd ps (SPV C)∧Rb K fd ps []
noncomputable def CH (OK:Addr→Prop) (m:Str) (SPV:Addr→Sp) (E:XK) (ta:TE) (t:TA):TE:=fun σ H Q=>ta σ H fun x H1=>∃ a C dx fs,x=.ref a∧H1 a=some (.ins C dx fs)∧OK C∧fs.lookup m=none ∧
 t σ H1 fun vs H2=>SPV C (x :: vs) H2 Q E
section
variable {X:Cx} {CX:CXT} {k:Nat} {f C:Addr} {fd:FuncData} {ps:List Str} {sp:Sp} {dvs:List V} {ds:List Value} {E:XK} {x m:Str} {p pos apos:Pos} {e o:Expr} {es:List Expr} {ta:TE} {t:TA}
theorem Xt {pl:Sem Bool} (hg:Gl X x) (hm:X.mg x=some (.ref C)) (c:zO X.K C m f) (F:Fb X.prog X.w X.K X.mg X.base CX k f fd ps sp) (hr:ci k X.A) (hb:Rb X.K fd ps ds) (hd:Wc dvs ds) (hx:Jk CX X E) (ha:PA X (e :: es) t)
  (hdb:(x == ("__debug__" : Str))=false:=by decide) (hst:starEach (e :: es) X.env=(false,eval e X.env) :: starEach es X.env:=by rfl) (hpl:(backTo pos (starEach es X.env)).any (·.1)=false:=by rfl)
  (ht:eval (.Call (.Attribute (.Name x p) m apos) (e :: es) [] pos) X.env=(do
   let ov ← eval (.Name x p) X.env
   standAt apos.atName
   let (f,first) ← holding [ov] (getMethod ov m pl)
   callWith pos f first (backTo pos (starEach (e :: es) X.env)) (backToKw pos (keywordEach [] X.env))):=by rfl) :
  PE X (.Call (.Attribute (.Name x p) m apos) (e :: es) [] pos) (QJ sp dvs E t):=by
 intro pins s σ H Q I h
 refine PySem.W.methodCall_KW (pl:=pl) (bj I hg hm ?_ hdb) ht
 refine PySem.W.method_cls I.kIn c.ga (PySem.W.cls_value I.kIn c.rd c.fd rfl ?_)
 have I1:=I.tok (s.toks + 1)
 refine PySem.W.callWith_K (first:=[]) (h₀:=X.base) I.ok.mod.kin c.kp (thn (ha pos pins _ σ H _ I1 h) fun us s2 ⟨vs,H2,I2,r,q2⟩=>⟨I2.kIn,?_⟩) hst hpl
 exact Uu F hr hb hd hx I2 r q2
variable {OK:Addr→Prop} {SPV:Addr→Sp}
theorem im {pl:Sem Bool} (he:PE X o ta) (V:qE X.prog X.w X.K X.mg X.base CX k OK m ps SPV) (hr:ci k X.A) (hx:Jk CX X E)
  (ht:eval (.Call (.Attribute o m apos) [] [] pos) X.env=(do
   let ov ← eval o X.env
   standAt apos.atName
   let (f,first) ← holding [ov] (getMethod ov m pl)
   callWith pos f first (backTo pos (starEach [] X.env)) (backToKw pos (keywordEach [] X.env))):=by rfl) :
  PE X (.Call (.Attribute o m apos) [] [] pos) (CH OK m SPV E ta cN):=by
 intro pins s σ H Q I h
 refine PySem.W.methodCall_KW (pl:=pl) (thn (he pins s σ H _ I h) fun u s1 hZ1=>?_) ht
 obtain ⟨x,H1,I1,rx,a,C,dx,fs,ex,ea,ok,l,q⟩:=hZ1
 subst ex
 obtain rfl:u=Value.ref a:=rx
 obtain ⟨f,fd,c,hm,F,hb⟩:=V.ok C ok
 refine Gm I1 ea c hm l ?_
 exact PySem.W.callWith_K0 (first:=[.ref a]) I1.kIn hm.kp (Uu (us:=[.ref a]) (vs:=[.ref a]) (dvs:=[]) F hr hb .nil hx I1 (.cons rfl .nil) q)
end
noncomputable abbrev SVs:=List (Str × V)
noncomputable def zL (kvs:SVs) (ty:TE):TE:=fun σ H Q=>ty σ H fun y H1=>∃ x v,y=.str x∧kvs.lookup x=some v∧Q v H1
section
variable {X:Cx} {x:Str} {p pos:Pos} {i:Expr} {ty:TE} {u:Value} {kvs:List (Str × V)}
end
noncomputable def Wi (K:PySem.W.Frag) (H:Hp) (a:Addr) (f:Str) (v:V):Prop:=∃ C dx fs,H a=some (.ins C dx fs)∧Cls K C∧Bb K C f∧fs.lookup f=some v
theorem Tc {f:Str} {v:V}:∀ {fs:List (Str × V)} (ks:List Str),fs.map (·.1)=ks→ks.contains f=false→Ag f v fs=fs ++ [(f,v)]
 | [],_,_,_=>rfl
 | (g,y) :: r,ks,e,h=>by
  cases e
  rw [List.map_cons,List.contains_cons] at h
  have h1:=(Bool.or_eq_false_iff.mp h)
  have hne:¬ g=f:=fun z=>by
   have:=h1.1
   rw [z] at this
   simp at this
  show (if g=f then _ else _)=_
  rw [if_neg hne,Tc _ rfl h1.2]
  rfl
theorem Bm {f:Str} {v:V} {fs:List (Str × V)} {n:Nat} (h:fs.length < n):(Ag f v fs).length < n + 1:=Nat.lt_of_le_of_lt (Wk f v fs) (by omega)
theorem Zd {f:Str} {v:V}:∀ {fs:List (Str × V)} (ks:List Str) (i:Nat),fs.map (·.1)=ks→ks.findIdx? (· == f)=some i→fs[i]? = some (f,v)→fs.lookup f=some v
 | [],_,_,_,_,h=>by simp at h
 | (g,y) :: r,ks,i,e,h,hv=>by
  cases e
  rw [List.map_cons,List.findIdx?_cons] at h
  rw [List.lookup]
  by_cases e:g=f
  ·subst e
   rw [beq_self_eq_true,if_pos rfl] at h
   cases h
   have:(g,y)=(g,v):=by simpa using hv
   cases this
   rw [beq_self_eq_true]
  ·rw [beq_eq_false_iff_ne.mpr e,if_neg (by decide)] at h
   obtain ⟨j,hj,rfl⟩:=Option.map_eq_some_iff.mp h
   rw [beq_eq_false_iff_ne.mpr (fun z=>e z.symm)]
   exact Zd _ j rfl hj (by simpa using hv)
theorem Ul {f:Str}:∀ {fs:List (Str × V)} (ks:List Str),fs.map (·.1)=ks→ks.contains f=false→fs.lookup f=none
 | [],_,_,_=>rfl
 | (g,y) :: r,ks,e,h=>by
  cases e
  rw [List.map_cons,List.contains_cons] at h
  have h1:=(Bool.or_eq_false_iff.mp h)
  rw [List.lookup,h1.1]
  exact Ul _ rfl h1.2
end L2
namespace L2
open PySem PySem.Spec PyProof.Rows
theorem Inv.turnedL {X:Cx} {pins:List (Addr × Obj)} {σ:St} {H:Hp} {s:Shared} {h':Heap} {t':Nat} {fp:List Addr} (I:Inv X pins σ H s) (k:∀ b o,b ∉ fp→s.heap.get? b=some o→h'.get? b=some o)
  (hf:∀ b ∈ fp,Cu X pins H b):Inv X pins σ H { s with heap:=h',toks:=t' }:=by
 have nit:∀ b u,H b=some u→b ∉ fp:=fun b u e z=>by rw [(hf b z).1] at e;cases e
 refine I.step (g':=s.gens) (d':=s.drawn) (ch:=fp) (fun b hb=>?_) (fun b o _ _ hc e _=>k b o hc e) (fun b o _ _ hc e _=>⟨o.slots,k b o hc e⟩) (fun _ _ _ _ n=>n)
  (fun b o hc e=>⟨o,k b o hc e⟩) (fun _ _ e=>e) (fun _ _ _ e=>e) (fun b ps e=>⟨#[],by rw [e];simp⟩) (fun m hm=>?_) (fun b u e=>?_) I.bare
 ·obtain ⟨f0,f1,f2,f3,f4,f5⟩:=hf b hb
  exact ⟨f3,f1,f4,f5⟩
 ·obtain ⟨o,es,ep,ho,r⟩:=hm
  exact ⟨o,es,ep,k _ o (fun z=>(hf _ z).2.1 rfl) ho,r⟩
 ·refine (I.hok b u e).stay (fun c v hc q=>k c v ?_ q) (fun _ q=>q) fun _ _ q=>q
  rcases hc with z | z
  ·rw [z];exact nit b u e
  ·exact nit c _ z
noncomputable def Ite (K:PySem.W.Frag) (a:Addr):It:=
 ⟨fun i H=>∃ xs x,SqL K H a xs∧xs[i]? = some x,fun i H v H'=>∃ p y,H p=none∧v=.ref p∧(∀ xs,SqL K H a xs→xs[i]? = some y)∧H'=upd H p (.tup [.int i,y]),fun i H=>∃ xs,SqL K H a xs∧xs.length ≤ i⟩
theorem NA {P:Program} {w:World} {K:PySem.W.Frag} {es:List Expr} {k} {pos:Pos} (a e it:Addr) (hne:e ≠ it) :
  rH P w K (.Tuple es k pos) (Ite K a) [e,it] e (fun i h=>∃ old,IsEnum h e it ((i:Nat):Int) old∧h.IsListIter it a i) where
 mem:=by simp
 obj:=fun i h ⟨old,he,hi⟩ b hb=>by
  simp only [List.mem_cons,List.not_mem_nil,or_false] at hb
  rcases hb with rfl | rfl
  ·exact ⟨_,he,fun v z=>by
    have z':Data.fields _=Data.cell v:=z
    cases z'⟩
  ·obtain ⟨o,q,c,d⟩:=hi
   exact ⟨o,q,fun v z=>by rw [d] at z;cases z⟩
 keep:=fun i h h' ⟨old,he,hi⟩ k=>⟨old,k e (by simp) _ he,hi.at fun o q=>k it (by simp) o q⟩
 item:=by
  intro X hP hw hK hc i pins s σ H E I hf ⟨old,he,hi⟩ hg
  subst hP hw hK
  obtain ⟨xs,x,hq,hx⟩:=hg
  obtain ⟨its,rv,p,hz⟩:=I.list hq
  obtain ⟨u,hu,ru⟩:=rv.get hx
  refine wpAny_pyNext_enum_item he hi p.isList (x:=u) (by simpa using hu) hne fun h1 he1 hi1 ht1 hz1 hk1=>⟨_,rfl,?_⟩
  refine wpAny_letOwnedTupleGo_enum he1 fun h2 he2 hs2=>?_
  replace hs2:Heap.SameBut e h1 h2:=hs2
  have hel:e < s.heap.objs.size:=Heap.lt_size he
  have hk:∀ b o,b ∉ [e,it]→s.heap.get? b=some o→h2.get? b=some o:=fun b o hb q=>by
   simp only [List.mem_cons,List.not_mem_nil,or_false,not_or] at hb
   exact hs2.extBut _ _ hb.1 (hk1 b o hb.1 hb.2 q)
  have I1:Inv X pins σ H { s with heap:=h2,toks:=s.toks + 1 }:=I.turnedL hk hf
  have fo:Cu X pins H s.heap.objs.size:=I.fpOk (Nat.le_refl _) (I.hok.fresh (Nat.le_refl _))
  have ht2:h2.get? s.heap.objs.size=some { cls:=.type "tuple",data:=.seq #[.int i s.toks,u] }:=(hs2.2 _ (Nat.ne_of_gt hel)).trans ht1
  have I2:=I1.adopt (o:=.tup [.int i,x]) fo ⟨by show 2 ≤ sizeLine;decide,[.int i s.toks,u],.cons ⟨_,rfl⟩ (.cons ru .nil),⟨_,ht2,rfl,_,rfl⟩⟩
  refine ⟨.ref s.heap.objs.size,_,I2,rfl,⟨_,x,fo.1,rfl,fun ys hy=>by rw [I.list_inj hy hq];exact hx,rfl⟩,⟨u,?_,?_⟩,fun b hb=>?_⟩
  ·have e1:((i + 1:Nat):Int)=(i:Int) + 1:=by omega
   rw [e1];exact he2
  ·exact hi1.extBut hs2.extBut (Ne.symm hne)
  ·have hlt:b < s.heap.objs.size:=by
    simp only [List.mem_cons,List.not_mem_nil,or_false] at hb
    rcases hb with rfl | rfl
    ·exact hel
    ·obtain ⟨o,q,_⟩:=hi
     exact Heap.lt_size q
   rw [lb (Nat.ne_of_lt hlt)];exact (hf b hb).1
 done:=by
  intro X hP hw hK hc i pins s σ H E I hf ⟨old,he,hi⟩ hg
  subst hP hw hK
  obtain ⟨xs,hq,hx⟩:=hg
  obtain ⟨its,rv,p,hz⟩:=I.list hq
  have hl:=rv.length
  exact wpAny_pyNext_enum_end (I.ok.hd hc) he hi p.isList (by simp;omega) fun h' eb=>⟨rfl,I.turnedL (t':=s.toks) (fun b o hb q=>eb b o (fun z=>hb (by simp [z])) q) hf⟩
 self:=fun _ _ _ _ _ ⟨_,he,_⟩ h=>wpAny_pyIter_enum he h
theorem lr:bootBuiltins "enumerate"=some (.type "enumerate"):=by decide +kernel
theorem dt:bootBuiltins "reversed"=some (.type "reversed"):=by decide +kernel
noncomputable def Itz (K:PySem.W.Frag) (a b:Addr):It:=
  ⟨fun i H=>∃ xs ys x y,SqL K H a xs∧SqL K H b ys∧xs[i]? = some x∧ys[i]? = some y,
   fun i H v H'=>∃ p x y,H p=none∧v=.ref p∧(∀ xs,SqL K H a xs→xs[i]? = some x)∧(∀ ys,SqL K H b ys→ys[i]? = some y)∧H'=upd H p (.tup [x,y]),
   fun i H=>∃ xs ys,SqL K H a xs∧SqL K H b ys∧(xs.length ≤ i∨ys.length ≤ i)⟩
noncomputable def Itv (K:PySem.W.Frag) (a:Addr) (n:Nat):It:=
 ⟨fun i H=>i < n∧∃ xs,SqL K H a xs∧xs.length=n,fun i H x H'=>H'=H∧∀ xs,SqL K H a xs→xs[n - 1 - i]? = some x,fun i _=>n ≤ i⟩
section
variable {X:Cx}
noncomputable def BL (K:PySem.W.Frag) (ta:TA):TI:=fun σ H R=>ta σ H fun vs H1=>∃ a,vs=[.ref a]∧(∃ xs,SqL K H1 a xs)∧R (Ite K a) H1
theorem jp {es:List Expr} {k} {tpos:Pos} {a:Expr} {ta:TA} {p pos:Pos} (hg:Gl X "enumerate") (hm:X.mg "enumerate"=none) (ha:PA X [a] ta) (hs:starEach [a] X.env=[(false,eval a X.env)]:=by rfl) :
  PI X (.Tuple es k tpos) (.Call (.Name "enumerate" p) [a] [] pos) (BL X.K ta):=by
 intro pins s σ H R I h
 refine Call_ (vm I hg hm lr (PyProof.Rows.callWith_type1 (thn (ha pos pins s σ H _ I h) fun us s1 hZ1=>?_) hs rfl))
 obtain ⟨vs,H1,I1,r1,q1⟩:=hZ1
 obtain ⟨a,e,⟨xs,hq⟩,q⟩:=q1
 subst e
 cases r1 with
 | cons r rr=>
  cases rr
  cases r
  obtain ⟨its,rv,pl,hz⟩:=I1.list hq
  refine call_enumerate_list pl.isList fun h' hE hI hsz hk=>wpAny_pyIter_enum hE ?_
  refine ⟨s1.heap.objs.size + 1,[s1.heap.objs.size + 1,s1.heap.objs.size],_,_,H1,rfl,I1.kept (t':=s1.toks) hk,NA a _ _ (Nat.succ_ne_self _),⟨_,hE,hI⟩,fun b hb=>?_,q⟩
  have hb':s1.heap.objs.size ≤ b:=by
   simp only [List.mem_cons,List.not_mem_nil,or_false] at hb
   rcases hb with rfl | rfl
   ·exact Nat.le_succ _
   ·exact Nat.le_refl _
  exact I1.fpOk hb' (I1.hok.fresh hb')
noncomputable def oP (K:PySem.W.Frag) (ta:TA):TI:=fun σ H R=>ta σ H fun vs H1=>∃ a b,vs=[.ref a,.ref b]∧(∃ xs,SqL K H1 a xs)∧(∃ ys,SqL K H1 b ys)∧R (Itz K a b) H1
noncomputable def gP (K:PySem.W.Frag) (ta:TA):TI:=fun σ H R=>ta σ H fun vs H1=>∃ a xs,vs=[.ref a]∧SqL K H1 a xs∧R (Itv K a xs.length) H1
end
theorem ef {X:Cx} {es:List Expr} {k:Nat} {pos:Pos} {t:TGs} {n:Nat} {K:PySem.W.Frag} (hK:X.K=K) (hc:X.calm=true) (h:PGs X es t)
  (hn:(assignEach es X.env).length=n:=by rfl) (hst:(assignEach es X.env).findIdx? (·.1)=none:=by rfl):PG X (.Tuple es k pos) (gL K n t):=by
 subst hK
 exact YM hc h hn hst
section
variable {X:Cx}
noncomputable def lJ:V→List V→Hp→VK→Prop:=fun x vs H Q=>∃ l xs i y,x=.ref l∧vs=[.int i,y]∧H l=some (.lst xs)∧0 ≤ i∧i < 2 ^ 62∧i ≤ (xs.length:Int)∧xs.length < sizeLine∧Q .non (upd H l (.lst (xs.take i.toNat ++ y :: xs.drop i.toNat)))
theorem Qu {P:Nat→Value→Prop} {f:Nat→V} (hP:∀ i v,P i v→yd (f i) v):∀ (l:List Value) (k:Nat),(∀ j v,l[j]? = some v→P (k + j) v)→Wc ((List.range l.length).map fun i=>f (k + i)) l
 | [],_,_=>.nil
 | v :: r,k,h=>by
  rw [List.length_cons,List.range_succ_eq_map,List.map_cons,List.map_map]
  refine .cons (hP _ _ (h 0 v rfl)) ?_
  have:=Qu hP r (k + 1) fun j w hj=>by
   have:=h (j + 1) w (by simpa using hj)
   rwa [show k + 1 + j=k + (j + 1) by omega]
  have e:(fun i=>f (k + 1 + i))=((fun i=>f (k + i)) ∘ Nat.succ):=funext fun i=>by
   show f (k + 1 + i)=f (k + (i + 1))
   rw [show k + 1 + i=k + (i + 1) by omega]
  rwa [e] at this
theorem Em {P:Nat→Value→Prop} {f:Nat→V} (hP:∀ i v,P i v→yd (f i) v) {acc:Array Value} {n:Nat} (h:ItemsOf P acc n):Wc ((List.range n).map f) acc.toList:=by
 have:=Qu hP acc.toList 0 fun j v hj=>by
  rw [Nat.zero_add]
  exact h.2 j v (by rw [← Array.getElem?_toList];exact hj)
 rw [show acc.toList.length=n by rw [Array.length_toList];exact h.1] at this
 simpa using this
end
end L2
namespace L2
open PySem PySem.Spec PyProof.Rows
inductive EqH (K:PySem.W.Frag) (H:Hp):Nat→V→V→Bool→Prop
 | flat {k:Nat} {x y:V} (hx:cj x=true) (hy:cj y=true):EqH K H k x y (eqV x y)
 | lst {k:Nat} {p q:Addr} {xs ys:List V} {e:Nat→Bool} (hp:SqL K H p xs) (hq:SqL K H q ys) (hl:xs.length=ys.length) (he:∀ (j:Nat) (x y:V),xs[j]? = some x→ys[j]? = some y→EqH K H k x y (e j)):EqH K H (k + 1) (.ref p) (.ref q) ((List.range xs.length).all e)
 | lstN {k:Nat} {p q:Addr} {xs ys:List V} (hp:SqL K H p xs) (hq:SqL K H q ys) (hl:xs.length ≠ ys.length):EqH K H (k + 1) (.ref p) (.ref q) false
 | tup {k:Nat} {p q:Addr} {xs ys:List V} {e:Nat→Bool} (hp:SqT K H p xs) (hq:SqT K H q ys) (he:∀ (j:Nat) (x y:V),xs[j]? = some x→ys[j]? = some y→EqH K H k x y (e j)):EqH K H (k + 1) (.ref p) (.ref q) ((List.range (min xs.length ys.length)).all e && xs.length == ys.length)
theorem wE {x:V} (h:cj x=true):eqV x x=true:=by
 cases x <;> first | rfl | (simp [eqV];done) | cases h
theorem Ur {n:Nat} {e:Nat→Bool} (h:∀ j,j < n→e j=true):(List.range n).all e=true:=by
 rw [List.all_eq_true]
 exact fun j hj=>h j (List.mem_range.mp hj)
section
variable {X:Cx} {pins:List (Addr × Obj)} {σ:St} {H:Hp} {s:Shared}
theorem EqH.self (I:Inv X pins σ H s) {k:Nat} {x y:V} {b:Bool} (h:EqH X.K H k x y b) (e:x=y):b=true:=by
 induction h with
 | flat hx hy=>subst e;exact wE hx
 | @lst k p q xs ys f hp hq hl he ih=>
  injection e with e
  subst e
  have:=I.list_inj hp hq
  subst this
  refine Ur fun j hj=>?_
  exact ih j xs[j] xs[j] (List.getElem?_eq_getElem hj) (List.getElem?_eq_getElem hj) rfl
 | lstN hp hq hl=>
  injection e with e
  subst e
  have:=I.list_inj hp hq
  subst this
  exact absurd rfl hl
 | @tup k p q xs ys f hp hq he ih=>
  injection e with e
  subst e
  have:=I.tuple_inj hp hq
  subst this
  rw [Bool.and_eq_true]
  refine ⟨Ur fun j hj=>?_,by simp⟩
  have hj':j < xs.length:=by omega
  exact ih j xs[j] xs[j] (List.getElem?_eq_getElem hj') (List.getElem?_eq_getElem hj') rfl
theorem tm (A:Around):A.in1.units=A.units + 1:=rfl
theorem eE (I:Inv X pins σ H s) {k:Nat} {x y:V} {b:Bool} (h:EqH X.K H k x y b):∀ (A:Around) (v u:Value),A.units + k < cLine→yd x v→yd y u →
  SeqAt.EqAt A s v u b∧(∀ p q,x=.ref p→y=.ref q→SeqAt.RcAt A s v u b):=by
 induction h with
 | flat hx hy=>
  intro A v u hu rx ry
  refine ⟨nH rx ry hx hy,fun p q e _=>?_⟩
  subst e
  cases hx
 | @lst k p q xs ys f hp hq hl he ih=>
  intro A v u hu rx ry
  cases rx
  cases ry
  obtain ⟨its,r,pl,hz⟩:=I.list hp
  obtain ⟨jts,r',pl',hz'⟩:=I.list hq
  have l1:=r.length
  have l2:=r'.length
  have rc:SeqAt.RcAt A s (.ref p) (.ref q) ((List.range xs.length).all f):=by
   have:=SeqAt.RcAt.lists (A:=A) (e:=f) pl.isList pl'.isList (by simp only [List.size_toArray];omega) (by omega) fun j h1 h2=>by
    simp only [List.size_toArray] at h1 h2
    have hj:j < xs.length:=by omega
    have hj':j < ys.length:=by omega
    obtain ⟨a,ha,ra⟩:=r.get (List.getElem?_eq_getElem hj)
    obtain ⟨c,hc,rc⟩:=r'.get (List.getElem?_eq_getElem hj')
    have ea:its.toArray[j]=a:=by
     have:=List.getElem?_eq_getElem h1
     rw [ha] at this
     simpa using (Option.some.inj this).symm
    have ec:jts.toArray[j]=c:=by
     have:=List.getElem?_eq_getElem h2
     rw [hc] at this
     simpa using (Option.some.inj this).symm
    rw [ea,ec]
    exact (ih j _ _ (List.getElem?_eq_getElem hj) (List.getElem?_eq_getElem hj') A.in1 a c (by rw [tm];omega) ra rc).1
   rwa [List.size_toArray,← l1] at this
  refine ⟨?_,fun _ _ _ _=>rc⟩
  by_cases hne:p=q
  ·have hb:=(EqH.lst hp hq hl he).self I (congrArg V.ref hne)
   rw [hb,hne]
   exact SeqAt.EqAt.same _
  ·exact SeqAt.EqAt.of_refs hne rc
 | @lstN k p q xs ys hp hq hl=>
  intro A v u hu rx ry
  cases rx
  cases ry
  obtain ⟨its,r,pl,hz⟩:=I.list hp
  obtain ⟨jts,r',pl',hz'⟩:=I.list hq
  have l1:=r.length
  have l2:=r'.length
  have rc:SeqAt.RcAt A s (.ref p) (.ref q) false:=SeqAt.RcAt.lists_lengths pl.isList pl'.isList (by simp only [List.size_toArray,bne_iff_ne,ne_eq];omega) (by omega)
  refine ⟨SeqAt.EqAt.of_refs (fun e=>hl ?_) rc,fun _ _ _ _=>rc⟩
  subst e
  rw [I.list_inj hp hq]
 | @tup k p q xs ys f hp hq he ih=>
  intro A v u hu rx ry
  cases rx
  cases ry
  obtain ⟨its,r,pl,hz⟩:=I.tuple hp
  obtain ⟨jts,r',pl',hz'⟩:=I.tuple hq
  have l1:=r.length
  have l2:=r'.length
  have rc:SeqAt.RcAt A s (.ref p) (.ref q) ((List.range (min xs.length ys.length)).all f && xs.length == ys.length):=by
   have:=SeqAt.RcAt.tuples (A:=A) (e:=f) pl pl' (by omega) fun j h1 h2=>by
    simp only [List.size_toArray] at h1 h2
    have hj:j < xs.length:=by omega
    have hj':j < ys.length:=by omega
    obtain ⟨a,ha,ra⟩:=r.get (List.getElem?_eq_getElem hj)
    obtain ⟨c,hc,rc⟩:=r'.get (List.getElem?_eq_getElem hj')
    have ea:its.toArray[j]=a:=by
     have:=List.getElem?_eq_getElem h1
     rw [ha] at this
     simpa using (Option.some.inj this).symm
    have ec:jts.toArray[j]=c:=by
     have:=List.getElem?_eq_getElem h2
     rw [hc] at this
     simpa using (Option.some.inj this).symm
    rw [ea,ec]
    exact (ih j _ _ (List.getElem?_eq_getElem hj) (List.getElem?_eq_getElem hj') A.in1 a c (by rw [tm];omega) ra rc).1
   rwa [List.size_toArray,List.size_toArray,← l1,← l2] at this
  refine ⟨?_,fun _ _ _ _=>rc⟩
  by_cases hne:p=q
  ·have hb:=(EqH.tup hp hq he).self I (congrArg V.ref hne)
   rw [hb,hne]
   exact SeqAt.EqAt.same _
  ·exact SeqAt.EqAt.of_refs hne rc
end
section
variable {X:Cx} {pins:List (Addr × Obj)} {σ:St} {H:Hp} {s:Shared}
theorem iu (I:Inv X pins σ H s) {k:Nat} {A:Around} {xs ys:List V} {its jts:List Value} {f:Nat→Bool} (hu:A.units + k < cLine) (r:Wc xs its) (r':Wc ys jts)
  (he:∀ (j:Nat) (x y:V),xs[j]? = some x→ys[j]? = some y→EqH X.K H k x y (f j)):∀ j (h1:j < its.toArray.size) (h2:j < jts.toArray.size),SeqAt.EqAt A s its.toArray[j] jts.toArray[j] (f j):=fun j h1 h2=>by
 simp only [List.size_toArray] at h1 h2
 have l1:=r.length
 have l2:=r'.length
 have hj:j < xs.length:=by omega
 have hj':j < ys.length:=by omega
 obtain ⟨a,ha,ra⟩:=r.get (List.getElem?_eq_getElem hj)
 obtain ⟨c,hc,rc⟩:=r'.get (List.getElem?_eq_getElem hj')
 have ea:its.toArray[j]=a:=by
  have:=List.getElem?_eq_getElem h1
  rw [ha] at this
  simpa using (Option.some.inj this).symm
 have ec:jts.toArray[j]=c:=by
  have:=List.getElem?_eq_getElem h2
  rw [hc] at this
  simpa using (Option.some.inj this).symm
 rw [ea,ec]
 exact (eE I (he j _ _ (List.getElem?_eq_getElem hj) (List.getElem?_eq_getElem hj')) A a c hu ra rc).1
theorem qM (I:Inv X pins σ H s) {k:Nat} {p q:Addr} {b:Bool} (h:EqH X.K H k (.ref p) (.ref q) b) (A:Around) (hu:A.units + k < cLine):SeqAt.RcNeAt A s (.ref p) (.ref q) (!b):=by
 cases h with
 | flat hx hy=>cases hx
 | @lst k _ _ xs ys f hp hq hl he=>
  obtain ⟨its,r,pl,hz⟩:=I.list hp
  obtain ⟨jts,r',pl',hz'⟩:=I.list hq
  have l1:=r.length
  have l2:=r'.length
  have:=SeqAt.RcNeAt.lists (A:=A) (e:=f) pl.isList pl'.isList (by simp only [List.size_toArray];omega) (by omega) (iu I (A:=A.in1) (k:=k) (by rw [tm];omega) r r' he)
  rwa [List.size_toArray,← l1] at this
 | @lstN k _ _ xs ys hp hq hl=>
  obtain ⟨its,r,pl,hz⟩:=I.list hp
  obtain ⟨jts,r',pl',hz'⟩:=I.list hq
  have l1:=r.length
  have l2:=r'.length
  exact SeqAt.RcNeAt.lists_lengths pl.isList pl'.isList (by simp only [List.size_toArray,bne_iff_ne,ne_eq];omega) (by omega)
 | @tup k _ _ xs ys f hp hq he=>
  obtain ⟨its,r,pl,hz⟩:=I.tuple hp
  obtain ⟨jts,r',pl',hz'⟩:=I.tuple hq
  have l1:=r.length
  have l2:=r'.length
  have:=SeqAt.RcNeAt.tuples (A:=A) (e:=f) pl pl' (by omega) (iu I (A:=A.in1) (k:=k) (by rw [tm];omega) r r' he)
  rwa [List.size_toArray,List.size_toArray,← l1,← l2] at this
end
section
variable {X:Cx}
noncomputable def pO (K:PySem.W.Frag):R2:=fun x y H Q=>∃ p q b,x=.ref p∧y=.ref q∧EqH K H 8 (.ref p) (.ref q) b∧Q (.bl (!b)) H
theorem zH (hU:X.A.units + 64 < cLine):OpR X (compareOp .NotEq) (pO X.K):=by
 intro pins s σ H x y v u Q I rx ry h
 obtain ⟨p,q,b,rfl,rfl,hE,q'⟩:=h
 cases rx
 cases ry
 exact qM I hE X.A (by omega) _ _ _ _ ⟨.bl (!b),H,I,rfl,q'⟩
noncomputable def YO (K:PySem.W.Frag):R2:=fun x y H Q=>∃ p q b,x=.ref p∧y=.ref q∧EqH K H 8 (.ref p) (.ref q) b∧Q (.bl b) H
end
theorem EqH.mono {K:PySem.W.Frag} {H:Hp} {j k:Nat} {x y:V} {b:Bool} (h:EqH K H j x y b):j ≤ k→EqH K H k x y b:=by
 induction h generalizing k with
 | flat hx hy=>exact fun _=>.flat hx hy
 | lst hp hq hl he ih=>
  intro hk
  obtain ⟨m,rfl⟩:∃ m,k=m + 1:=⟨k - 1,by omega⟩
  exact .lst hp hq hl fun j x y h1 h2=>ih j x y h1 h2 (by omega)
 | lstN hp hq hl=>
  intro hk
  obtain ⟨m,rfl⟩:∃ m,k=m + 1:=⟨k - 1,by omega⟩
  exact .lstN hp hq hl
 | tup hp hq he ih=>
  intro hk
  obtain ⟨m,rfl⟩:∃ m,k=m + 1:=⟨k - 1,by omega⟩
  exact .tup hp hq fun j x y h1 h2=>ih j x y h1 h2 (by omega)
noncomputable def zN:V→V→Bool
 | .int _,.int _=>true
 | .str _,.str _=>true
 | .bl _,.bl _=>true
 | .non,.non=>true
 | _,_=>false
theorem yw {x y:V} (h:zN x y=true):cj x=true∧cj y=true∧eqV x y=decide (x=y):=by
 cases x <;> cases y <;> first | (exfalso;simp [zN] at h;done) | (refine ⟨rfl,rfl,?_⟩;rfl) | (refine ⟨rfl,rfl,?_⟩;rw [Bool.eq_iff_iff];simp [eqV];done)
theorem EqH.flats {K:PySem.W.Frag} {H:Hp} {k:Nat} {p q:Addr} {xs ys:List V} (hp:SqL K H p xs) (hq:SqL K H q ys) (h:∀ x ∈ xs,∀ y ∈ ys,zN x y=true):EqH K H (k + 1) (.ref p) (.ref q) (decide (xs=ys)):=by
 by_cases hl:xs.length=ys.length
 ·have hd:decide (xs=ys)=(List.range xs.length).all fun j=>eqV (xs.getD j .non) (ys.getD j .non):=by
   rw [Bool.eq_iff_iff,decide_eq_true_eq,List.all_eq_true]
   constructor
   ·rintro rfl j hj
    have hj':=List.mem_range.mp hj
    have hm:xs.getD j .non ∈ xs:=by rw [List.getD_eq_getElem?_getD,List.getElem?_eq_getElem hj'];exact List.getElem_mem hj'
    rw [(yw (h _ hm _ hm)).2.2,decide_eq_true rfl]
   ·intro z
    refine List.ext_getElem hl fun j h1 h2=>?_
    have:=z j (List.mem_range.mpr h1)
    rw [List.getD_eq_getElem?_getD,List.getD_eq_getElem?_getD,List.getElem?_eq_getElem h1,List.getElem?_eq_getElem h2] at this
    have w:eqV xs[j] ys[j]=true:=this
    rw [(yw (h _ (List.getElem_mem h1) _ (List.getElem_mem h2))).2.2,decide_eq_true_eq] at w
    exact w
  rw [hd]
  refine .lst hp hq hl fun j x y h1 h2=>?_
  have e:=yw (h x (List.mem_of_getElem? h1) y (List.mem_of_getElem? h2))
  rw [List.getD_eq_getElem?_getD,List.getD_eq_getElem?_getD,h1,h2]
  exact .flat e.1 e.2.1
 ·rw [decide_eq_false (fun z=>hl (by rw [z]))]
  exact .lstN hp hq hl
end L2
namespace L2
open PySem PySem.Spec PyProof.Rows PySem.Builtin PySem.Builtin.ObjectAttr
theorem tH {H:Hp} {a:Addr} {o:HO} (h:H a=some o):upd H a o=H:=by
 funext b
 unfold upd
 by_cases e:b=a
 ·rw [if_pos e,e,h]
 ·rw [if_neg e]
noncomputable abbrev bmV:List Value:=[.type "ValueError",.type "Exception",.type "BaseException",.type "object"]
noncomputable def Cs (K:PySem.W.Frag) (C fI:Addr):Bool:=
 match K.lookup C with
 | some ⟨.type "type",_,.cls cd,sl⟩=>
  match cd.mro,sl.toList with
  | .ref D :: tl,[_,_,_,_,some (.builtin n),_]=>
   (D == C) && (n == "ValueError.__new__") && (cd.hasDel == false) && (cd.hasDict == true) && PySem.W.tailIn K bmV tl && PySem.W.nsOkIn K cd.ns && (PySem.W.nsIn K cd.ns "__init__" == some (some (.ref fI)))
  | _,_=>false
 | _=>false
theorem DI {K:PySem.W.Frag} {h:Heap} {N:Addr} {mN:Str→Option Value} {x:Str} {v:Value} (KX:K.In h) (G:h.Ns N mN) (e:PySem.W.nsIn K N x=some (some v)):mN x=some v:=by
 obtain ⟨ob,rows,ep,e1,e2,_,look⟩:=G
 unfold PySem.W.nsIn at e
 split at e
 ·rename_i ho
  have z:=KX _ _ ho
  rw [e1] at z
  cases z
  cases e2
  split at e
  ·rename_i en he
   cases e
   rw [← look]
   unfold nsFind findBy
   rw [← Array.find?_toList,he];rfl
  ·split at e <;> cases e
 ·cases e
theorem jt {K:PySem.W.Frag} {h:Heap} {C fI:Addr} (KX:K.In h) (e:Cs K C fI=true) :
  ∃ tl N nm q bs sn sub ab co dd k0 k1 k2 k3 k5 mN,h.get? C=some (excClassObj nm q C N bs tl true sn sub ab co dd k0 k1 k2 k3 k5 "ValueError.__new__")∧h.Ns N mN∧mN "__init__"=some (.ref fI)∧OwnTail h bmV tl:=by
 unfold Cs at e
 split at e
 ·rename_i dd cd sl ho
  split at e
  ·rename_i D tl k0 k1 k2 k3 n k5 hm hs
   simp only [Bool.and_eq_true,beq_iff_eq] at e
   obtain ⟨⟨⟨⟨⟨⟨e1,e2⟩,e3⟩,e4⟩,e5⟩,e6⟩,e7⟩:=e
   obtain ⟨nm,bs,mro,ns,qn,hd,sn,sub,ab,co,del⟩:=cd
   simp only at hm e3 e4 e6 e7
   subst hm e1 e2 e3 e4
   obtain ⟨l⟩:=sl
   simp only at hs
   subst hs
   have G:h.Ns ns (h.nsMap ns):=.of_isNs (PySem.W.isNs_of_in KX e6)
   exact ⟨tl,ns,nm,qn,bs,sn,sub,ab,co,dd,k0,k1,k2,k3,k5,h.nsMap ns,KX _ _ ho,G,DI KX G e7,PySem.W.tail_of_in KX e5⟩
  ·cases e
 ·cases e
section
variable {P:Program} {w:World} {A:Around} {h:Heap} {g:Array GenState} {d:Drawn} {t:Nat} {os:OsState} {K:PySem.W.Frag} {C fI:Addr} {R:Result→Shared→Prop}
theorem lB {us:List Value} (KX:K.In h) (e:Cs K C fI=true) (hf:PySem.W.typeIn K (.ref fI)=some (.type "function")) (hz:us.length ≤ sizeLine)
  (hq:∀ h' x,h.objs.size ≤ x→Heap.MadeExcOf h h' x (.ref C) us→codeAny (model P w) (A.under (.builtin "type.__call__" ⟨.ref C :: us,[]⟩)) (.call (.ref fI) ⟨.ref x :: us,[]⟩) (PySem.W.InitBack x R) ⟨h',g,d,t,os⟩) :
  codeAny (model P w) A (.call (.ref C) ⟨us,[]⟩) R ⟨h,g,d,t,os⟩:=by
 obtain ⟨tl,N,nm,q,bs,sn,sub,ab,co,dd,k0,k1,k2,k3,k5,mN,hC,hN,hi,T⟩:=jt KX e
 have F:=PySem.F.excBase_ValueError
 have f1:=tc_lookup
 have f2:=tc_bind (.ref C)
 have ty:(⟨h,g,d,t,os⟩:Shared).TypeIs (.ref C) "type" := ⟨_,hC,rfl⟩
 refine codeAny_of_tree ?_
 show wpAny _ _ (callAny (.ref C) _) _ _ _
 repeat (any_goals (first | assumption | with_reducible refine wpAny_loadPart_at hC ?_ | wp_step))
 refine ⟨rfl,?_⟩
 refine codeAny_call_builtin_at (Code.quiet_builtin _ (by decide +kernel)) entry_typeCall (wpAny_check_type_call_sub hC ?_)
 repeat (first | with_reducible refine wpAny_loadPart_at hC ?_ | with_reducible refine wpAny_madeBy_exc hC ?_ | wp_step)
 refine codeAny_call_builtin_code (Code.quiet_builtin _ F.quiet) (wpAny_check_new_subT F T hC ?_)
 refine codeAny_exc_new_subT (rest:=us) F T hC ?_ hz
 show wpAny _ _ _ _ _ _
 generalize hh:(h.push { cls:=.type "tuple",data:=.seq us.toArray }).push { cls:=.ref C,data:=.fields #[.ref h.objs.size,.none,.none,.none,.bool false,.none] }=h2
 have k:∀ b o,h.get? b=some o→h2.get? b=some o:=fun b o z=>by rw [← hh];exact Heap.get?_push_of_some _ (Heap.get?_push_of_some _ z)
 have hx:h2.get? (h.objs.size + 1)=some { cls:=.ref C,data:=.fields #[.ref h.objs.size,.none,.none,.none,.bool false,.none] }:=by rw [← hh];heap_get
 have ht:h2.get? h.objs.size=some { cls:=.type "tuple",data:=.seq us.toArray }:=by rw [← hh];exact Heap.get?_push_of_some _ (Heap.get?_push_at rfl rfl)
 have M:Heap.MadeExcOf h h2 (h.objs.size + 1) (.ref C) us:=⟨k,Heap.get?_none_of_le (Nat.le_succ _),h.objs.size,hx,Heap.get?_none_of_le (Nat.le_refl _),ht⟩
 have cC:(Value.ref C :: tl).contains (.ref C)=true:=by simp
 unfold isInstance
 repeat (first | with_reducible refine wpAny_loadPart_at hx ?_ | wp_step)
 refine wpAny_isSubtype_exc (k _ _ hC) ?_
 rw [cC]
 repeat wp_step
 show wpAny _ _ (typeLookup (.ref C) _) _ _ _
 refine wpAny_typeLookup_tail (k _ _ hC) (hN.keeps k) (T.keeps k) F.mroIs F.init.lookup ?_
 rw [hi]
 refine wpAny_holding (wpAny_bind ((PySem.W.bind_fn (KX.keeps k) _ hf).here (wpAny_bind (wpAny_call ?_))))
 refine codeAny_mono (hq h2 _ (Nat.le_succ _) M) fun r s' z=>?_
 rcases r with e | (v | _ | _ | _) <;> first | exact z | exact z.elim | skip
 obtain ⟨rfl,z⟩:=z
 exact wpAny_pure (wpAny_pure z)
end
noncomputable def KA:List Value→Bool
 | .ref _ :: r=>KA r
 | l=>l == bmV
theorem zj (self:Value):refuseLoop self "__setattr__" bmV=pure ():=by kernel_rfl
theorem Hn (self:Value):∀ {l:List Value},KA l=true→refuseLoop self "__setattr__" l=pure ()
 | .ref c :: r,e=>by rw [refuseLoop_ref];exact Hn self (l:=r) e
 | [],e=>by cases e
 | .type n :: r,e=>by rw [show Value.type n :: r=bmV from beq_iff_eq.mp e];exact zj self
 | .none :: r,e=>by rw [show Value.none :: r=bmV from beq_iff_eq.mp e];exact zj self
 | .bool b :: r,e=>by rw [show Value.bool b :: r=bmV from beq_iff_eq.mp e];exact zj self
 | .int b c :: r,e=>by rw [show Value.int b c :: r=bmV from beq_iff_eq.mp e];exact zj self
 | .str b c :: r,e=>by rw [show Value.str b c :: r=bmV from beq_iff_eq.mp e];exact zj self
 | .bytes b c :: r,e=>by rw [show Value.bytes b c :: r=bmV from beq_iff_eq.mp e];exact zj self
 | .float b c :: r,e=>by rw [show Value.float b c :: r=bmV from beq_iff_eq.mp e];exact zj self
 | .builtin b :: r,e=>by rw [show Value.builtin b :: r=bmV from beq_iff_eq.mp e];exact zj self
theorem vp (T:String) (h:bmV.contains (.type T)=true):∀ {l:List Value},KA l=true→l.contains (.type T)=true
 | .ref c :: r,e=>by rw [List.contains_cons,vp T h (l:=r) e,Bool.or_true]
 | [],e=>by cases e
 | .type n :: r,e=>by rw [show Value.type n :: r=bmV from beq_iff_eq.mp e];exact h
 | .none :: r,e=>by rw [show Value.none :: r=bmV from beq_iff_eq.mp e];exact h
 | .bool b :: r,e=>by rw [show Value.bool b :: r=bmV from beq_iff_eq.mp e];exact h
 | .int b c :: r,e=>by rw [show Value.int b c :: r=bmV from beq_iff_eq.mp e];exact h
 | .str b c :: r,e=>by rw [show Value.str b c :: r=bmV from beq_iff_eq.mp e];exact h
 | .bytes b c :: r,e=>by rw [show Value.bytes b c :: r=bmV from beq_iff_eq.mp e];exact h
 | .float b c :: r,e=>by rw [show Value.float b c :: r=bmV from beq_iff_eq.mp e];exact h
 | .builtin b :: r,e=>by rw [show Value.builtin b :: r=bmV from beq_iff_eq.mp e];exact h
structure Ar (K:PySem.W.Frag) (C:Addr):Prop where
 hd:PySem.W.hasDictIn K C=true
 ov:((PySem.W.clsIn K C).any fun cd=>KA cd.mro)=true
 sa:PySem.W.findIn K (.ref C) "__setattr__"=some (some (.builtin "object.__setattr__"))
 ga:PySem.W.findIn K (.ref C) "__getattribute__"=some (some (.builtin "BaseException.__getattribute__"))
 gt:PySem.W.findIn K (.ref C) "__getattr__"=some none
 ex:∃ fI,Cs K C fI=true
noncomputable def XF (x C:Addr) (od:Option Addr):Heap→Prop:=fun h=>∃ vs sl,h.get? x=some ⟨.ref C,od,.fields vs,sl⟩∧1 < vs.size∧vs[1]? = some .none
noncomputable def XD (dx:Addr) (fs:List (Str × V)):Heap→Prop:=fun h=>∃ mA,h.Ns1 dx mA∧(∀ f,yq (fs.lookup f) (mA f))∧PySem.Within mA (fs.map (·.1))
theorem XF.at {x C:Addr} {od:Option Addr} {h h':Heap} (z:XF x C od h) (k:∀ o,h.get? x=some o→h'.get? x=some o):XF x C od h':=let ⟨vs,sl,e,r⟩:=z;⟨vs,sl,k _ e,r⟩
theorem XD.at {dx:Addr} {fs:List (Str × V)} {h h':Heap} (z:XD dx fs h) (k:∀ o,h.get? dx=some o→h'.get? dx=some o):XD dx fs h':=let ⟨mA,e,r⟩:=z;⟨mA,e.at k,r⟩
theorem XF.ok {P:Program} {w:World} {H:Hp} {h:Heap} {x C:Addr} {od:Option Addr} (z:XF x C od h):kd P w H h x (.ext (XF x C od)):=by
 obtain ⟨vs,sl,e,r⟩:=id z
 exact ⟨z,⟨_,e⟩,fun h1 h2 q k=>q.at k⟩
theorem XD.ok {P:Program} {w:World} {H:Hp} {h:Heap} {dx:Addr} {fs:List (Str × V)} (z:XD dx fs h):kd P w H h dx (.ext (XD dx fs)):=by
 obtain ⟨mA,⟨o,es,ep,e,_⟩,_⟩:=id z
 exact ⟨z,⟨_,e⟩,fun h1 h2 q k=>q.at k⟩
section
variable {prog:Program} {w:World} {A:Around} {E:Value→Shared→Prop} {K:PySem.W.Frag} {C x:Addr} {s:Shared} {R:Result→Shared→Prop}
theorem NO {ox:Obj} {od:Option Obj} {name:Str} {tk:Tok} {v:Value} (KX:K.In s.heap) (J:PySem.W.InstAt s.heap x ox C od) (c:Ar K C) (ht:Bb K C name)
  (h:wpAny (model prog w) A.in1 (storeInOwnDict (.ref x) (.ref C) (.str name tk) name v false)
   (fun fin s'=>match fin with | .done f=>R (.ok f) s' | .again c'=>c'.quiet=true∧codeAny (model prog w) A c' R s') (fun e s'=>R (.error e) s') s) :
  codeAny (model prog w) A (.call (.builtin "object.__setattr__") ⟨[.ref x,.str name tk,v],[]⟩) R s:=by
 have G:=PySem.F.store_object
 obtain ⟨cd,hc,ho⟩:=PySem.W.any_some c.ov
 have ne:cd.mro.isEmpty=false:=by
  cases q:cd.mro with
  | nil=>rw [q] at ho;cases ho
  | cons _ _=>rfl
 have sub:PySem.W.Looks (model prog w) s.heap (isInstance (.ref x) (.type "object")) true:=
  J.type.andThen (PySem.W.looks_mroIn KX (by unfold PySem.W.mroIn;rw [hc,Option.bind_some,if_neg (by rw [ne];decide),vp "object" (by decide) ho]))
 refine codeAny_call_builtin G.slot.plain G.entry (@PySem.W.check_slot (model prog w) _ _ s "object.__setattr__" "object" "__setattr__" (.ref x) [.str name tk,v] [] _ G.kind G.split sub (G.args (.ref x) (.str name tk) v) ?_)
 have hm:PySem.W.Looks (model prog w) s.heap (mroOf (.ref C)) cd.mro:=(PySem.W.looks_clsIn KX hc).andThen .now
 rw [PySem.W.osa_eq,refuse_eq]
 refine wpAny_bind (wpAny_bind (J.type.here (wpAny_bind (hm.here ?_))))
 rw [Hn _ ho]
 exact wpAny_pure (wpAny_bind (J.type.here (wpAny_bind ((PySem.W.looks_findIn KX ht).here (wpAny_bind (wpAny_pure h))))))
end
section
variable {X:Cx} {pins:List (Addr × Obj)} {σ:St} {H:Hp} {s:Shared} {x C dx:Addr} {fs:List (Str × V)} {f:Str} {y:V} {u:Value} {A:Around} {E:Value→Shared→Prop} {Q:Unit→Shared→Prop}
theorem zF (I:Inv X pins σ H s) (e:H x=some (.ext (XF x C none))) (c:Ar X.K C) (n:Bb X.K C f) (ry:yd y u)
  (h:∀ dx s',H dx=none→dx ≠ x→Inv X pins σ (upd (upd H x (.ext (XF x C (some dx)))) dx (.ext (XD dx [(f,y)]))) s'→Q () s'):wpAny (model X.prog X.w) A (setAttr (.ref x) f u) Q E s:=by
 obtain ⟨vs,sl,hx,z1,z2⟩:=(show kd X.prog X.w H s.heap x (.ext (XF x C none)) from I.hok _ _ e).1
 have J:PySem.W.InstAt s.heap x ⟨.ref C,none,.fields vs,sl⟩ C none:=⟨hx,rfl,rfl,True.intro⟩
 refine PySem.W.set_plain I.kIn J c.sa (NO (s:={ s with toks:=s.toks + 1 }) I.kIn J c n ?_)
 obtain ⟨cd,hc,hd'⟩:=PySem.W.any_some c.hd
 refine wpAny_bind (wpAny_pure (wpAny_bind (wpAny_bind (wpAny_loadPart hx (wpAny_bind (PySem.W.Looks.here (s:={ s with toks:=s.toks + 1 }) (PySem.W.looks_clsIn I.kIn hc) ?_))))))
 rw [hd']
 show wpAny _ _ (alloc PySem.W.emptyDict >>= fun d=>(update x fun o=>{ o with dict:=some d }) >>= fun _=>dictMade (.ref C) x d) _ _ _
 refine wpAny_bind (wpAny_alloc (wpAny_bind ?_))
 have hx1:(s.heap.push PySem.W.emptyDict).get? x=some ⟨.ref C,none,.fields vs,sl⟩:=Heap.get?_push_of_some _ hx
 have lx:x < s.heap.objs.size:=Heap.lt_size hx
 refine wpAny_update hx1 (wpAny_pure ?_)
 have e1:(s.heap.push PySem.W.emptyDict).get? s.heap.objs.size=some PySem.W.emptyDict:=Heap.get?_push_size s.heap rfl
 have e3:(s.heap.push PySem.W.emptyDict).Ns s.heap.objs.size (fun _=>none):=⟨PySem.W.emptyDict,#[],_,e1,rfl,(fun e he=>absurd he (by simp)),fun _=>rfl⟩
 generalize hg2:(s.heap.push PySem.W.emptyDict).update x (fun o=>{ o with dict:=some s.heap.objs.size })=h2
 have nx:s.heap.objs.size ≠ x:=Nat.ne_of_gt lx
 have k2:∀ b,b ≠ x→h2.get? b=(s.heap.push PySem.W.emptyDict).get? b:=fun b hb=>by rw [← hg2];exact Heap.get?_update_other _ _ (Ne.symm hb)
 have x2:h2.get? x=some ⟨.ref C,some s.heap.objs.size,.fields vs,sl⟩:=by rw [← hg2];exact Heap.get?_update_self _ hx1 rfl
 have n2:h2.Ns1 s.heap.objs.size (fun _=>none):=(Heap.Ns1.of_empty e3).at fun o q=>(k2 _ nx).trans q
 refine wpAny_bind (wpAny_pure (wpAny_bind ?_))
 refine wpAny_nsSet1 (s:={ s with heap:=h2,toks:=s.toks + 1 }) n2 fun h3 n3 s3=>?_
 have wi:PySem.Within (fun a=>if a=f then some u else none) [f]:=PySem.Within.cons f u (fun a ha=>absurd rfl ha)
 obtain ⟨oD,esD,epD,hoD,hdD,hcD⟩:=n3.count wi
 refine wpAny_bind (wpAny_lookBehind hoD (by rw [hdD];exact pastItsLine_dict (Nat.le_trans hcD (by rw [sizeLine_eq];show 1 ≤ _;decide))) ?_)
 refine wpAny_pure (h s.heap.objs.size _ (I.hok.fresh (Nat.le_refl _)) nx ?_)
 have k3:∀ b o,b ≠ x→s.heap.get? b=some o→h3.get? b=some o:=fun b o hb q=>
  (s3.2 b (fun z=>by rw [z] at q;exact absurd (Heap.lt_size q) (Nat.lt_irrefl _))).trans ((k2 b hb).trans (Heap.get?_push_of_some _ q))
 have x3:h3.get? x=some ⟨.ref C,some s.heap.objs.size,.fields vs,sl⟩:=(s3.2 x (Ne.symm nx)).trans x2
 generalize hgA:s.heap.update x (fun o=>{ o with dict:=some s.heap.objs.size })=hA
 have kA:∀ b,b ≠ x→hA.get? b=s.heap.get? b:=fun b hb=>by rw [← hgA];exact Heap.get?_update_other _ _ (Ne.symm hb)
 have xA:hA.get? x=some ⟨.ref C,some s.heap.objs.size,.fields vs,sl⟩:=by rw [← hgA];exact Heap.get?_update_self _ hx rfl
 have szA:hA.objs.size=s.heap.objs.size:=by rw [← hgA];exact Heap.size_update _ _ _
 have IA:=I.write (x:=x) (e:=x) (o:=.ext (XF x C (some s.heap.objs.size))) (h':=hA) (t':=s.toks) (by rw [e];exact True.intro) (.inl rfl) (fun b o hb q=>(kA b hb).trans q) ⟨_,xA⟩ (XF.ok ⟨vs,sl,xA,z1,z2⟩)
 refine IA.laid (a:=s.heap.objs.size) (h':=h3) (fun b o q=>?_) (Nat.le_of_eq szA) (XD.ok ⟨_,n3,fun g=>?_,wi⟩)
 ·by_cases hb:b=x
  ·subst hb;rw [xA] at q;rw [x3,← q]
  ·rw [kA b hb] at q;exact k3 b o hb q
 ·show yq (List.lookup g [(f,y)]) (if g=f then some u else none)
  by_cases hq:g=f
  ·rw [if_pos hq,hq,List.lookup_cons_self];exact ry
  ·rw [if_neg hq,List.lookup_cons,beq_false_of_ne hq];exact True.intro
theorem GB (I:Inv X pins σ H s) (e:H x=some (.ext (XF x C (some dx)))) (ed:H dx=some (.ext (XD dx fs))) (c:Ar X.K C) (n:Bb X.K C f) (hl:fs.length < 1000) (ry:yd y u)
  (h:∀ s',Inv X pins σ (upd H dx (.ext (XD dx (Ag f y fs)))) s'→Q () s'):wpAny (model X.prog X.w) A (setAttr (.ref x) f u) Q E s:=by
 obtain ⟨vs,sl,hx,z1,z2⟩:=(show kd X.prog X.w H s.heap x (.ext (XF x C (some dx))) from I.hok _ _ e).1
 obtain ⟨mA,n1,r,wi⟩:=(show kd X.prog X.w H s.heap dx (.ext (XD dx fs)) from I.hok _ _ ed).1
 obtain ⟨od,ho,hlk⟩:=yp n1
 have J:PySem.W.InstAt s.heap x ⟨.ref C,some dx,.fields vs,sl⟩ C (some od):=⟨hx,rfl,rfl,ho⟩
 refine PySem.W.set_plain I.kIn J c.sa (NO (s:={ s with toks:=s.toks + 1 }) I.kIn J c n ?_)
 obtain ⟨cd,hc,hd'⟩:=PySem.W.any_some c.hd
 refine wpAny_bind (wpAny_pure (wpAny_bind (wpAny_bind (wpAny_loadPart hx (wpAny_bind (PySem.W.Looks.here (s:={ s with toks:=s.toks + 1 }) (PySem.W.looks_clsIn I.kIn hc) ?_))))))
 rw [hd']
 refine wpAny_pure (a:=some dx) (wpAny_bind (wpAny_pure (wpAny_bind ?_)))
 refine wpAny_nsSet1 (s:={ s with toks:=s.toks + 1 }) n1 fun h3 n3 s3=>?_
 obtain ⟨oD,esD,epD,hoD,hdD,hcD⟩:=n3.count (PySem.Within.cons f u wi)
 refine wpAny_bind (wpAny_lookBehind hoD (by rw [hdD];exact pastItsLine_dict (Nat.le_trans hcD (by rw [List.length_cons,List.length_map,sizeLine_eq];omega))) ?_)
 refine wpAny_pure (h _ ?_)
 refine I.write (x:=dx) (e:=dx) (by rw [ed];exact True.intro) (.inl rfl) (fun b o hb q=>(s3.2 b hb).trans q) ⟨_,hoD⟩ (XD.ok ⟨_,n3,fun g=>?_,fun g hg=>?_⟩)
 ·show yq ((Ag f y fs).lookup g) (if g=f then some u else mA g)
  rw [Zk]
  by_cases q:g=f
  ·rw [if_pos q,if_pos q];exact ry
  ·rw [if_neg q,if_neg q];exact r g
 ·by_cases q:g=f
  ·rw [q];exact (xj f y fs).1
  ·refine (xj f y fs).2 g (wi g fun z=>hg ?_)
   show (if g=f then some u else mA g)=none
   rw [if_neg q];exact z
noncomputable def XA (x C:Addr) (od:Option Addr):Heap→Prop:=fun h=>∃ vs sl,h.get? x=some ⟨.ref C,od,.fields vs,sl⟩
theorem XA.at {x C:Addr} {od:Option Addr} {h h':Heap} (z:XA x C od h) (k:∀ o,h.get? x=some o→h'.get? x=some o):XA x C od h':=let ⟨vs,sl,e⟩:=z;⟨vs,sl,k _ e⟩
theorem XA.ok {P:Program} {w:World} {H:Hp} {h:Heap} {x C:Addr} {od:Option Addr} (z:XA x C od h):kd P w H h x (.ext (XA x C od)):=by
 obtain ⟨vs,sl,e⟩:=id z
 exact ⟨z,⟨_,e⟩,fun h1 h2 q k=>q.at k⟩
theorem sP {b:Bool} {Q:Value→Shared→Prop} (I:Inv X pins σ H s) (e:H x=some (.ext (XA x C (some dx)))) (ed:H dx=some (.ext (XD dx fs))) (c:Ar X.K C) (n:Bb X.K C f) (l:fs.lookup f=some y)
  (h:∀ u s',Inv X pins σ H s'→yd y u→Q u s'):wpAny (model X.prog X.w) A (getAttr (.ref x) f b) Q E s:=by
 obtain ⟨vs,sl,hx⟩:=(show kd X.prog X.w H s.heap x (.ext (XA x C (some dx))) from I.hok _ _ e).1
 obtain ⟨mA,n1,r,wi⟩:=(show kd X.prog X.w H s.heap dx (.ext (XD dx fs)) from I.hok _ _ ed).1
 obtain ⟨od,ho,hlk⟩:=yp n1
 obtain ⟨u,hu,ru⟩:=yq.some_of (v:=y) (o:=mA f) (by rw [← l];exact r f)
 have J:PySem.W.InstAt s.heap x ⟨.ref C,some dx,.fields vs,sl⟩ C (some od):=⟨hx,rfl,rfl,ho⟩
 have fin:=h u _ (I.tok (s.toks + 1)) ru
 have KX:=I.kIn
 clear h
 obtain ⟨cd,hc,hd'⟩:=PySem.W.any_some c.hd
 obtain ⟨cd',hc',hov⟩:=PySem.W.any_some c.ov
 rw [hc] at hc'
 cases hc'
 have hh:=qu ru
 obtain ⟨hp,g,d,t,os⟩:=s
 have L0:=J.type (M:=model X.prog X.w)
 have L1:=PySem.W.looks_findIn (M:=model X.prog X.w) KX c.ga
 have L2:=PySem.W.looks_findIn (M:=model X.prog X.w) KX c.gt
 have L3:=PySem.W.looks_findIn (M:=model X.prog X.w) KX n
 have L4:=PySem.W.looks_own (M:=model X.prog X.w) (name:=f) (r:=some u) KX J hc (by unfold PySem.W.ownOf;rw [if_pos hd'];show PySem.W.lookIn f od=_;rw [hlk,hu])
 have FB:=PySem.F.excAttr_ValueError
 have f3:=FB.ga.bind (.ref x)
 have hx0:(b && onTheHeap (Value.builtin "BaseException.__getattribute__"))=false:=by cases b <;> rfl
 have hx2:(Value.builtin "BaseException.__getattribute__" == Value.builtin "object.__getattribute__")=false:=by decide +kernel
 have hx1:(onTheHeap (Value.ref C) && Value.builtin "BaseException.__getattribute__" == Value.builtin "object.__getattribute__")=false:=by rw [hx2];rfl
 unfold getAttr getAttrBy
 refine wpAny_bind (wpAny_mkText (wpAny_holding (wpAny_bind (L0.at (wpAny_bind (L1.at ?_))))))
 dsimp only
 rw [if_neg (by rw [hx1];decide)]
 unfold getAttrByItsOwn
 repeat (any_goals (first | assumption | with_reducible refine PySem.W.Looks.at (by assumption) ?_ | wp_step))
 have ne:cd.mro.isEmpty=false:=by
  cases q:cd.mro with
  | nil=>rw [q] at hov;cases hov
  | cons _ _=>rfl
 have sub:PySem.W.Looks (model X.prog X.w) hp (isInstance (.ref x) (.type "BaseException")) true:=
  L0.andThen (PySem.W.looks_mroIn KX (by unfold PySem.W.mroIn;rw [hc,Option.bind_some,if_neg (by rw [ne];decide),vp "BaseException" (by decide) hov]))
 refine codeAny_call_builtin FB.ga.plain PySem.F.entry_bexc_ga (@PySem.W.check_slot (model X.prog X.w) _ _ ⟨hp,g,d,t + 1,os⟩ "BaseException.__getattribute__" "BaseException" "__getattribute__" (.ref x) [.str f t] [] _ (by decide +kernel) (by decide +kernel) sub (PySem.F.args_bexc_ga (.ref x) (.str f t)) ?_)
 unfold Builtin.«object.__getattribute__»
 repeat (any_goals (first | assumption | with_reducible refine PySem.W.Looks.at (by assumption) ?_ | wp_step))
 show wpAny _ _ (handedOut u) _ _ _
 rw [PySem.W.handedOut_of hh]
 exact wpAny_pure fin
end
noncomputable abbrev TJ:=St→Hp→(Hp→Prop)→Prop
noncomputable def PJ (X:Cx) (es:List Expr) (n:Nat) (t:TJ):Prop:=
 ∀ (pins:List (Addr × Obj)) (s:Shared) (σ:St) (H:Hp) (Q:Hp→Prop) (acc:Str) (R:Str→Shared→Prop),Inv X pins σ H s→acc.length + n ≤ sizeLine→t σ H Q →
  (∀ out H' s',Inv X pins σ H' s'→out.length ≤ sizeLine→Q H'→R out s')→Joins (model X.prog X.w) X.A X.xe (evalEach es X.env) acc R s
noncomputable def tJ0:TJ:=fun _ H Q=>Q H
noncomputable def tJI (te:TE) (t:TJ):TJ:=fun σ H Q=>te σ H fun v H1=>∃ i,v=.int i∧i.natAbs.log2 < 1920∧t σ H1 Q
noncomputable def tJS (te:TE) (t:TJ):TJ:=fun σ H Q=>te σ H fun v H1=>∃ x,v=.str x∧x.length ≤ 1000∧t σ H1 Q
noncomputable def tJR (te:TE) (t:TJ):TJ:=fun σ H Q=>te σ H fun v H1=>∃ x,v=.str x∧x.length ≤ 1000∧(∀ c ∈ x.cps.toList,c < 16 ^ 8)∧t σ H1 Q
noncomputable def mD (t:TJ):TE:=fun σ H Q=>t σ H fun H1=>∀ y:Str,Q (.str y) H1
section
variable {X:Cx} {e:Expr} {es:List Expr} {n:Nat} {t:TJ} {te:TE} {pos:Pos}
theorem Nx:PJ X [] 0 tJ0:=fun pins s σ H Q acc R I hl q h=>h acc H s I hl q
theorem gh {c:Str} {k:Nat} (h:PJ X es n t):PJ X (.Constant (.str c) k pos :: es) (n + c.length) t:=fun pins s σ H Q acc R I hl q hR=>by
 show wpAny _ _ _ _ _ _
 refine Calls.Constant_str ⟨c,_,rfl,by rw [strLen_append];omega,h pins _ σ H Q _ R (I.tok _) (by rw [strLen_append];omega) q hR⟩
theorem cH (he:PE X e te) (h:PJ X es n t):PJ X (.FormattedValue e (-1) none pos :: es) (n + 2000) (tJI te t):=fun pins s σ H Q acc R I hl q hR=>by
 show wpAny _ _ _ _ _ _
 refine wpAny_FormattedValue_plain (thn (he pins s σ H _ I q) fun u s1 hZ1=>?_)
 obtain ⟨v,H1,I1,r,i,ev,hi,q1⟩:=hZ1
 subst ev
 obtain ⟨tk,rfl⟩:=(show ∃ tk,u=Value.int i tk from r)
 have hz:=int_text_fits hi
 have hz2:(Str.ofString (toString i)).length ≤ 2000:=by
  have e:=int_text_length_le (k:=1920) (by decide) hi
  rw [PySem.ofString_length];omega
 refine wpAny_formatField_int hi ⟨_,_,rfl,by rw [strLen_append];omega,h pins _ σ H1 Q _ R (I1.tok _) (by rw [strLen_append];omega) q1 hR⟩
theorem pq (he:PE X e te) (h:PJ X es n t):PJ X (.FormattedValue e 114 none pos :: es) (n + 11000) (tJR te t):=fun pins s σ H Q acc R I hl q hR=>by
 show wpAny _ _ _ _ _ _
 refine wpAny_FormattedValue_repr (thn (he pins s σ H _ I q) fun u s1 hZ1=>?_)
 obtain ⟨v,H1,I1,r,x,ev,hx,hc,q1⟩:=hZ1
 subst ev
 obtain ⟨tk,rfl⟩:=(show ∃ tk,u=Value.str x tk from r)
 have hz:=PySem.StrLaws.reprText_len x hc
 refine wpAny_pyReprObj_str ?_ (by rw [sizeLine_eq];omega)
 exact formatField_str (fun t' tk'=>⟨_,_,rfl,by rw [strLen_append];omega,h pins _ σ H1 Q _ R ((I1.tok _).tok _) (by rw [strLen_append];omega) q1 hR⟩) (by rw [sizeLine_eq];omega)
theorem Ol {e2:Expr} (h:PJ X (e :: e2 :: es) n t) (hn:n ≤ sizeLine):PE X (.JoinedStr (e :: e2 :: es) pos) (mD t):=by
 intro pins s σ H Q I q
 refine wpAny_JoinedStr (h pins s σ H _ _ _ I (by show 0 + n ≤ _;omega) q fun out H' s' I' hl q'=>⟨hl,?_⟩)
 exact ⟨.str out,H',I'.tok _,⟨_,rfl⟩,q' out⟩
end
structure JO (K:PySem.W.Frag) (L:Addr) (m:Str):Prop where
 rd:PySem.W.readsIn K L (.type "type")=true
 fd:PySem.W.findCls K (.ref L) (.type "type") m=some (.val (.builtin "ValueError.__init__"))
 ga:PySem.W.specialIn K (.ref L) "__getattribute__"=some (some (.builtin "type.__getattribute__"))
noncomputable def KG (K:PySem.W.Frag) (t:TA):TE:=fun σ H Q=>t σ H fun vs H1=>∃ x C od v,vs=[.ref x,v]∧H1 x=some (.ext (XF x C od))∧Ar K C∧Q .non H1
section
variable {X:Cx} {L:Addr} {x:Str} {p pos apos:Pos} {e:Expr} {es:List Expr} {t:TA}
theorem AC {pins:List (Addr × Obj)} {σ:St} {H:Hp} {s:Shared} {a C:Addr} {od:Option Addr} {u:Value} {A:Around} {E:Value→Shared→Prop} {Q:Value→Shared→Prop} (I:Inv X pins σ H s) (ea:H a=some (.ext (XF a C od))) (c:Ar X.K C)
  (h:∀ s',Inv X pins σ H s'→Q .none s'):wpAny (model X.prog X.w) A (call (.builtin "ValueError.__init__") [.ref a,u]) Q E s:=by
 obtain ⟨vs,sl,hx,z1,z2⟩:=(show kd X.prog X.w H s.heap a (.ext (XF a C od)) from I.hok _ _ ea).1
 obtain ⟨fI,hfI⟩:=c.ex
 obtain ⟨tl,N,nm,q,bs,sn,sub,ab,co,dd,k0,k1,k2,k3,k5,mN,hC,hN,hi,T⟩:=jt I.kIn hfI
 have F:=PySem.F.excBase_ValueError
 obtain ⟨v0,h0⟩:∃ v0,vs[0]? = some v0:=⟨vs[0]'(by omega),Array.getElem?_eq_getElem (by omega)⟩
 obtain ⟨hh,g,d,tt,os⟩:=s
 refine wpAny_call (codeAny_call_builtin F.init.plain F.initEntry (wpAny_check_init_subT F T hC hx rfl ?_))
 show wpAny _ _ (newTuple [u] >>= fun tp=>(do
  let old ← field (.ref a) 0
  setField (.ref a) 0 tp
  if let .ref _:=old then letGo [old] []) >>= fun _=>ret .none) _ _ _
 have hx1:(hh.push { cls:=.type "tuple",data:=.seq [u].toArray }).get? a=some ⟨.ref C,od,.fields vs,sl⟩:=Heap.get?_push_of_some _ hx
 refine wpAny_bind (wpAny_newTuple (wpAny_bind (wpAny_bind (wpAny_field hx1 rfl h0 (wpAny_bind (wpAny_setField hx1 rfl (by omega) ?_))))))
 have x2:=Heap.get?_update_self (h:=hh.push { cls:=.type "tuple",data:=.seq [u].toArray }) (Obj.mapFields (·.setIfInBounds 0 (.ref hh.objs.size))) hx1 rfl
 have fin:∀ s',s'=(⟨(hh.push { cls:=.type "tuple",data:=.seq [u].toArray }).update a (Obj.mapFields (·.setIfInBounds 0 (.ref hh.objs.size))),g,d,tt,os⟩:Shared)→Q .none s':=by
  rintro s' rfl
  refine h _ ?_
  have I1:Inv X pins σ H ⟨hh.push { cls:=.type "tuple",data:=.seq [u].toArray },g,d,tt,os⟩:=I.kept (t':=tt) fun b o q=>Heap.get?_push_of_some _ q
  have:=I1.write (x:=a) (e:=a) (o:=.ext (XF a C od)) (h':=(hh.push { cls:=.type "tuple",data:=.seq [u].toArray }).update a (Obj.mapFields (·.setIfInBounds 0 (.ref hh.objs.size)))) (t':=tt) (by rw [ea];exact True.intro) (.inl rfl)
   (fun b o hb q=>(Heap.get?_update_other _ _ (Ne.symm hb)).trans q) ⟨_,x2⟩ (XF.ok ⟨vs.setIfInBounds 0 (.ref hh.objs.size),sl,x2,by simpa using z1,by rw [Array.getElem?_setIfInBounds_ne (by decide)];exact z2⟩)
  rwa [tH ea] at this
 cases v0 with
 | ref b=>exact wpAny_bind (wpAny_holding (wpAny_point (wpAny_pure (wpAny_pure (fin _ rfl)))))
 | _=>exact wpAny_pure (wpAny_pure (fin _ rfl))
theorem Po {pl:Sem Bool} {m:Str} (hg:Gl X x) (hm:X.mg x=some (.ref L)) (c:JO X.K L m) (ha:PA X (e :: es) t)
  (hdb:(x == ("__debug__" : Str))=false:=by decide) (hst:starEach (e :: es) X.env=(false,eval e X.env) :: starEach es X.env:=by rfl) (hpl:(backTo pos (starEach es X.env)).any (·.1)=false:=by rfl)
  (ht:eval (.Call (.Attribute (.Name x p) m apos) (e :: es) [] pos) X.env=(do
   let ov ← eval (.Name x p) X.env
   standAt apos.atName
   let (f,first) ← holding [ov] (getMethod ov m pl)
   callWith pos f first (backTo pos (starEach (e :: es) X.env)) (backToKw pos (keywordEach [] X.env))):=by rfl) :
  PE X (.Call (.Attribute (.Name x p) m apos) (e :: es) [] pos) (KG X.K t):=by
 intro pins s σ H Q I h
 refine PySem.W.methodCall_KW (pl:=pl) (bj I hg hm ?_ hdb) ht
 refine PySem.W.method_cls I.kIn c.ga (PySem.W.cls_value I.kIn c.rd c.fd rfl ?_)
 refine PyProof.Rows.callWith_builtin1 (thn (ha pos pins _ σ H _ (I.tok (s.toks + 1)) h) fun us s2 hZ1=>?_) hst hpl
 obtain ⟨vs,H2,I2,r,a,C,od,v,ev,ea,cc,q⟩:=hZ1
 subst ev
 obtain ⟨u1,u2,rfl,r1,r2⟩:=ZJ r
 obtain rfl:u1=Value.ref a:=r1
 exact AC I2 ea cc fun s3 I3=>⟨.non,H2,I3,rfl,q⟩
end
structure MkX (K:PySem.W.Frag) (C fI:Addr):Prop where
 e:Cs K C fI=true
 fn:PySem.W.typeIn K (.ref fI)=some (.type "function")
 kp:PySem.W.keepIn K (.ref C)=true
noncomputable def ZG (C:Addr) (sp:Sp) (t:TA):TE:=fun σ H Q=>t σ H fun vs H1=>vs.length ≤ sizeLine∧∀ x,H1 x=none→sp (.ref x :: vs) (upd H1 x (.ext (XF x C none))) (fun v H2=>v=.non∧Q (.ref x) H2) (fun _ _ _=>False)
noncomputable def pG (K:PySem.W.Frag) (ta tv:TE) (f:Str):TS:=fun D σ H=>tv σ H fun y H1=>ta σ H1 fun x H2=>∃ a C,x=.ref a∧H2 a=some (.ext (XF a C none))∧Ar K C∧Bb K C f ∧
 ∀ dx,H2 dx=none→dx ≠ a→D.nx σ (upd (upd H2 a (.ext (XF a C (some dx)))) dx (.ext (XD dx [(f,y)])))
noncomputable def VG (K:PySem.W.Frag) (ta tv:TE) (f:Str):TS:=fun D σ H=>tv σ H fun y H1=>ta σ H1 fun x H2=>∃ a C dx fs,x=.ref a∧H2 a=some (.ext (XF a C (some dx)))∧H2 dx=some (.ext (XD dx fs))∧Ar K C∧Bb K C f∧fs.length < 1000 ∧
 D.nx σ (upd H2 dx (.ext (XD dx (Ag f y fs))))
noncomputable def tL (K:PySem.W.Frag) (ta:TE) (f:Str):TE:=fun σ H Q=>ta σ H fun x H1=>∃ a C dx fs v,x=.ref a∧H1 a=some (.ext (XA a C (some dx)))∧H1 dx=some (.ext (XD dx fs))∧Ar K C∧Bb K C f∧fs.lookup f=some v∧Q v H1
section
variable {X:Cx} {k:Nat} {f C:Addr} {fd:FuncData} {ps:List Str} {sp:Sp} {x g:Str} {p pos pos' apos:Pos} {e o value:Expr} {es:List Expr} {ta tv:TE} {t:TA}
theorem ZB {pins:List (Addr × Obj)} {σ:St} {H:Hp} {s:Shared} {Q:VK} {us:List Value} {vs:List V} (M:MkX X.K C f) (F:Fb X.prog X.w X.K X.mg X.base (fun _ _ _ _ _ _=>False) k f fd ps sp) (hr:ci (k + 1) X.A) (hb:Rb X.K fd ps [])
  (I:Inv X pins σ H s) (r:Wc vs us) (hz:vs.length ≤ sizeLine) (h:∀ x,H x=none→sp (.ref x :: vs) (upd H x (.ext (XF x C none))) (fun v H2=>v=.non∧Q (.ref x) H2) (fun _ _ _=>False)) :
  wpAny (model X.prog X.w) X.A (call (.ref C) us) (EP X pins σ Q) X.xe s:=by
 obtain ⟨hh,g,d,tt,os⟩:=s
 refine wpAny_call (lB (fI:=f) I.kIn M.e M.fn (by rw [← r.length];exact hz) fun h' x hx Mx=>?_)
 obtain ⟨tp,ox,_,_⟩:=Mx.there
 have I2:=I.laid (a:=x) (o:=.ext (XF x C none)) (h':=h') (t':=tt) Mx.keeps hx (XF.ok ⟨_,_,ox,Nat.lt_of_lt_of_eq (show 1 < 6 by decide) rfl,rfl⟩)
 have hq:=h x (I.hok.fresh hx)
 have r2:Wc (V.ref x :: vs) (Value.ref x :: us):=.cons rfl r
 have hl:((Value.ref x :: us) ++ []).length=ps.length:=by
  rw [List.append_nil,← r2.length]
  exact F.len _ _ _ _ hq
 have hb2:=hb ⟨h',g,d,tt,os⟩ (Value.ref x :: us) I2.kIn hl
 rw [List.append_nil] at hb2
 refine codeAny_mono (F.run _ X.stack _ _ ⟨Value.ref x :: us,[]⟩ (Value.ref x :: us) _ _ _ (hr.make C us []) (I2.env0.make C us []) hb2 r2 hq) fun r s' hq'=>?_
 rcases r with e | (u | _ | _ | _) <;> first | exact False.elim hq' | skip
 obtain ⟨v,H',I3,rv,ev,q3⟩:=I2.after hq'
 subst ev
 exact ⟨rv,⟨V.ref x,H',I3,rfl,q3⟩⟩
theorem Fo (M:MkX X.K C f) (F:Fb X.prog X.w X.K X.mg X.base (fun _ _ _ _ _ _=>False) k f fd ps sp) (hr:ci (k + 1) X.A) (hg:Gl X x) (hm:X.mg x=some (.ref C)) (hb:Rb X.K fd ps [])
  (ha:PA X (e :: es) t) (hdb:(x == ("__debug__" : Str))=false:=by decide) (he:starEach (e :: es) X.env=(false,eval e X.env) :: starEach es X.env:=by rfl) (hpl:(backTo pos (starEach es X.env)).any (·.1)=false:=by rfl) :
  PE X (.Call (.Name x p) (e :: es) [] pos) (ZG C sp t):=by
 intro pins s σ H Q I h
 refine wpAny_Call_Name_kw (bj I hg hm ?_ hdb)
 exact PySem.W.callWith_K (h₀:=X.base) I.ok.mod.kin M.kp (thn (ha pos pins s σ H _ I h) fun us s1 ⟨vs,H1,I1,r,hz,q⟩=>⟨I1.kIn,ZB M F hr hb I1 r hz q⟩) he hpl
theorem Do (ha:PE X o ta) (hv:PE X value tv) (hs:swapsWith value (some (.Attribute o g pos')) pos.line X.env=pure false):PS X (.Assign [.Attribute o g pos'] value pos) (pG X.K ta tv g):=by
 intro pins s σ H D I h
 refine plainObj_wpAny_Assign_Attribute (thn (hv pins s σ H _ I h) fun u s1 ⟨y,H1,I1,ry,q⟩=>thn (ha pins s1 σ H1 _ I1 q) fun ov s2 hZ1=>?_) hs
 obtain ⟨x,H2,I2,rx,a,C,ex,ea,c,n,q2⟩:=hZ1
 subst ex
 obtain rfl:ov=Value.ref a:=rx
 exact zF I2 ea c n ry fun dx s3 hd hne I3=>⟨σ,_,I3,q2 dx hd hne⟩
theorem xt (ha:PE X o ta) (hv:PE X value tv) (hs:swapsWith value (some (.Attribute o g pos')) pos.line X.env=pure false):PS X (.Assign [.Attribute o g pos'] value pos) (VG X.K ta tv g):=by
 intro pins s σ H D I h
 refine plainObj_wpAny_Assign_Attribute (thn (hv pins s σ H _ I h) fun u s1 ⟨y,H1,I1,ry,q⟩=>thn (ha pins s1 σ H1 _ I1 q) fun ov s2 hZ1=>?_) hs
 obtain ⟨x,H2,I2,rx,a,C,dx,fs,ex,ea,ed,c,n,hl,q2⟩:=hZ1
 subst ex
 obtain rfl:ov=Value.ref a:=rx
 exact GB I2 ea ed c n hl ry fun s3 I3=>⟨σ,_,I3,q2⟩
theorem nK (he:PE X e ta) (hb:attributeBase e g X.env (eval e X.env)=eval e X.env):PE X (.Attribute e g pos) (tL X.K ta g):=by
 intro pins s σ H Q I h
 refine rA hb (thn (he pins s σ H _ I h) fun u s1 hZ1=>?_)
 obtain ⟨x,H1,I1,rx,a,C,dx,fs,v,ex,ea,ed,c,n,l,q⟩:=hZ1
 subst ex
 obtain rfl:u=Value.ref a:=rx
 exact sP I1 ea ed c n l fun u s2 I2 ru=>⟨v,H1,I2,ru,q⟩
end
end L2
namespace L2
open PySem PySem.Spec PyProof.Rows PySem.Builtin PySem.Builtin.ObjectAttr
noncomputable def FlA (x C:Addr) (od:Option Addr) (T:Addr) (fl:Value) (h:Heap):Prop:=
 T ≠ x∧∃ vs sl oT ts,h.get? x=some ⟨.ref C,od,.fields vs,sl⟩∧vs[1]? = some (.ref T)∧h.get? T=some oT∧oT.data=.fields ts∧ts[3]? = some fl
theorem FlA.xa {x C T:Addr} {od:Option Addr} {fl:Value} {h:Heap} (z:FlA x C od T fl h):XA x C od h:=let ⟨_,vs,sl,_,_,e,_⟩:=z;⟨vs,sl,e⟩
structure Kp (fs:List Addr) (x:Addr) (To:Option Addr) (h h':Heap):Prop where
 keep:∀ b o,h.get? b=some o→b ∉ fs→b ≠ x→some b ≠ To→h'.get? b=some o
 slot:∀ b o,h.get? b=some o→b ∈ fs→∃ sl,h'.get? b=some { o with slots:=sl }
 there:∀ b o,h.get? b=some o→∃ o',h'.get? b=some o'
section
variable {M:Model} {A:Around} {E:Value→Shared→Prop} {s:Shared}
theorem nofr {base h:Heap} {l:List Env} {b:Addr} {o:Obj} {vs:Array Value} (hl:h.FunFrames base l) (e:h.get? b=some o) (d:o.data=.fields vs):b ∉ frs l:=fun hm=>by
 obtain ⟨_,o',e',nf⟩:=hl.mem hm
 rw [e] at e'
 cases e'
 exact nf vs d
theorem mE {env env':Env} {L:Addr} (hf:env.frame=some L) (hf':env'.frame=some L):PySem.frameOf env'=PySem.frameOf env:=by
 unfold PySem.frameOf
 rw [hf',hf]
theorem RG {base:Heap} {env env':Env} {outer:List Env} {L x C:Addr} {od:Option Addr} {vs:Array Value} {sl:Array (Option Value)} {head:Value} {hn:Bool} {Q:Unit→Shared→Prop}
  (hfr:A.frames=some (env :: outer)) (hl:s.heap.FunFrames base (env :: outer)) (hf:env.frame=some L) (hf':env'.frame=some L) (he:s.heap.get? x=some ⟨.ref C,od,.fields vs,sl⟩) (hz:1 < vs.size)
  (h:∀ h' T,Kp (frs (env :: outer)) x none s.heap h'→s.heap.objs.size ≤ T→FlA x C od T (rawInt L) h'→Q () { s with heap:=h' }) :
  wpAny M A (do let a ← PySem.frameOf env';let pl ← entryPlaceOf L hn;let b ← EntryCells.newEntry head a .none (rawInt L) .none pl;setField (.ref x) 1 b) Q E s:=by
 have nx:x ∉ frs (env :: outer):=nofr hl he rfl
 rw [mE hf hf']
 refine wpAny_bind (wpAny_frameOf_fun hfr hl hf fun h1 S=>wpAny_bind (wpAny_entryPlaceOf fun pl hp=>?_))
 unfold EntryCells.newEntry newFields
 refine wpAny_bind (wpAny_newObj_type ?_ (hp.sizeOk5 _ _ _ _ _))
 have e1:h1.get? x=some ⟨.ref C,od,.fields vs,sl⟩:=(S.2.1 x nx).trans he
 obtain ⟨ts,hts,h3⟩:∃ ts:Array Value,([head,.ref L,.none,rawInt L,.none] ++ (if pl.isEmpty then List.replicate 6 Value.none else pl)).toArray=ts∧ts[3]? = some (rawInt L):=⟨_,rfl,by simp⟩
 rw [hts]
 have e2:=Heap.get?_push_of_some (h:=h1) { cls:=.type "traceback",dict:=none,data:=.fields ts } e1
 have ne:h1.objs.size ≠ x:=Nat.ne_of_gt (Heap.lt_size e1)
 have sz:h1.objs.size=s.heap.objs.size:=S.1
 refine wpAny_setField e2 rfl hz (h _ h1.objs.size ⟨fun b o q n1 n2 _=>?_,fun b o q n1=>?_,fun b o q=>?_⟩ (Nat.le_of_eq sz.symm) ⟨ne,vs.setIfInBounds 1 (.ref h1.objs.size),sl,{ cls:=.type "traceback",dict:=none,data:=.fields ts },ts,Heap.get?_update_self _ e2 rfl,by simp [hz],?_,rfl,h3⟩)
 ·rw [Heap.get?_update_other _ _ (Ne.symm n2)]
  exact Heap.get?_push_of_some _ ((S.2.1 b n1).trans q)
 ·obtain ⟨sl',e3⟩:=S.2.2 b o q
  have nb:x ≠ b:=fun z=>nx (by rw [z];exact n1)
  exact ⟨sl',(Heap.get?_update_other _ _ nb).trans (Heap.get?_push_of_some _ e3)⟩
 ·by_cases hb:b=x
  ·rw [hb];exact ⟨_,Heap.get?_update_self _ e2 rfl⟩
  ·obtain ⟨sl',e3⟩:=S.2.2 b o q
   exact ⟨_,by rw [Heap.get?_update_other _ _ (Ne.symm hb)];exact Heap.get?_push_of_some _ e3⟩
 ·exact (Heap.get?_update_other _ _ (Ne.symm ne)).trans (Heap.get?_push_size h1 rfl)
theorem az {base:Heap} {env env':Env} {outer:List Env} {L x C:Addr} {od:Option Addr} {vs:Array Value} {sl:Array (Option Value)} {Q:Unit→Shared→Prop}
  (hfr:A.frames=some (env :: outer)) (hl:s.heap.FunFrames base (env :: outer)) (hf:env.frame=some L) (hf':env'.frame=some L) (he:s.heap.get? x=some ⟨.ref C,od,.fields vs,sl⟩) (h1:vs[1]? = some .none)
  (h:∀ h' T,Kp (frs (env :: outer)) x none s.heap h'→s.heap.objs.size ≤ T→FlA x C od T (rawInt L) h'→Q () { s with heap:=h' }) :
  wpAny M A (noteFrame (.ref x) env') Q E s:=by
 unfold noteFrame
 simp only [hf']
 refine wpAny_bind (wpAny_field he rfl h1 ?_)
 rw [if_neg (by decide)]
 exact RG hfr hl hf hf' he (Array.getElem?_eq_some_iff.mp h1).1 h
theorem QA {base:Heap} {env env':Env} {outer:List Env} {L x C T:Addr} {od:Option Addr} {fl:Value} {Q:Unit→Shared→Prop}
  (hfr:A.frames=some (env :: outer)) (hl:s.heap.FunFrames base (env :: outer)) (hf:env.frame=some L) (hf':env'.frame=some L) (z:FlA x C od T fl s.heap) (hne:¬ (fl == rawInt L)=true)
  (h:∀ h' T',Kp (frs (env :: outer)) x (some T) s.heap h'→s.heap.objs.size ≤ T'→FlA x C od T' (rawInt L) h'→Q () { s with heap:=h' }) :
  wpAny M A (noteFrame (.ref x) env') Q E s:=by
 obtain ⟨ne,vs,sl,oT,ts,he,h1,hT,hd,h3⟩:=z
 unfold noteFrame
 simp only [hf']
 refine wpAny_bind (wpAny_field he rfl h1 ?_)
 rw [if_pos (show (Value.ref T != Value.none)=true from by simp)]
 refine wpAny_bind (wpAny_field hT hd h3 ?_)
 rw [if_neg hne]
 refine wpAny_bind (wpAny_setField hT hd (Array.getElem?_eq_some_iff.mp h3).1 ?_)
 have nT:T ∉ frs (env :: outer):=nofr hl hT hd
 have oth:∀ b,b ≠ T→(s.heap.update T (Obj.mapFields (·.setIfInBounds 3 Value.none))).get? b=s.heap.get? b:=fun b hb=>Heap.get?_update_other _ _ (Ne.symm hb)
 have tT:∃ o',(s.heap.update T (Obj.mapFields (·.setIfInBounds 3 Value.none))).get? T=some o':=⟨_,Heap.get?_update_self _ hT (Obj.isFreed_of_fields (Obj.data_mapFields hd _))⟩
 have hl2:(s.heap.update T (Obj.mapFields (·.setIfInBounds 3 Value.none))).FunFrames base (env :: outer):=hl.of_keeps fun b o e nf=>⟨o,(oth b fun q=>by rw [q,hT] at e;cases e;exact nf ts hd).trans e,rfl⟩
 refine RG (s:={ s with heap:=s.heap.update T (Obj.mapFields (·.setIfInBounds 3 Value.none)) }) hfr hl2 hf hf' ((oth x (Ne.symm ne)).trans he) (Array.getElem?_eq_some_iff.mp h1).1 fun h' T' k w f=>h h' T' ⟨fun b o q n1 n2 n3=>?_,fun b o q n1=>?_,fun b o q=>?_⟩ ?_ f
 ·exact k.keep b o ((oth b fun y=>n3 (by rw [y])).trans q) n1 n2 (fun y=>by cases y)
 ·exact k.slot b o ((oth b fun y=>nT (y ▸ n1)).trans q) n1
 ·by_cases hb:b=T
  ·subst hb
   obtain ⟨o',e'⟩:=tT
   exact k.there _ _ e'
  ·exact k.there b o ((oth b hb).trans q)
 ·exact Nat.le_trans (Nat.le_of_eq (Heap.size_update _ _ _).symm) w
theorem flight {x C T:Addr} {od:Option Addr} {fl:Value} {fs:List Addr} {Q:Unit→Shared→Prop} (o:Option Addr) (z:FlA x C od T fl s.heap) (nT:T ∉ fs)
  (h:∀ h',Kp fs x (some T) s.heap h'→FlA x C od T (o.elim .none fun f=>rawInt f) h'→Q () { s with heap:=h' }):wpAny M A (setFlight (.ref x) o) Q E s:=by
 obtain ⟨ne,vs,sl,oT,ts,he,h1,hT,hd,h3⟩:=z
 have z3:3 < ts.size:=(Array.getElem?_eq_some_iff.mp h3).1
 have oth:∀ b,b ≠ T→(s.heap.update T (Obj.mapFields (·.setIfInBounds 3 (o.elim Value.none fun f=>rawInt f)))).get? b=s.heap.get? b:=fun b hb=>Heap.get?_update_other _ _ (Ne.symm hb)
 have tT:=Heap.get?_update_self (Obj.mapFields (·.setIfInBounds 3 (o.elim Value.none fun f=>rawInt f))) hT (Obj.isFreed_of_fields (Obj.data_mapFields hd _))
 unfold setFlight
 refine wpAny_bind (wpAny_field he rfl h1 ?_)
 rw [if_pos (show (Value.ref T != Value.none)=true from by simp)]
 refine wpAny_setField hT hd z3 (h _ ⟨fun b o q _ _ n3=>(oth b fun y=>n3 (by rw [y])).trans q,fun b o q n1=>⟨o.slots,(oth b fun y=>nT (y ▸ n1)).trans q⟩,fun b o q=>?_⟩
  ⟨ne,vs,sl,_,_,(oth x (Ne.symm ne)).trans he,h1,tT,Obj.data_mapFields hd _,by simp [z3]⟩)
 by_cases hb:b=T
 ·subst hb;exact ⟨_,tT⟩
 ·exact ⟨o,(oth b hb).trans q⟩
end
section
variable {P:Program} {w:World} {H:Hp} {h h':Heap} {fs:List Addr} {x C T:Addr} {od:Option Addr} {fl:Value} {To:Option Addr} {o:HO}
theorem Kp.hok (k:Kp fs x To h h') (ok:HOk P w H h) (hfs:∀ b ∈ fs,H b=none) (hT:∀ t,To=some t→H t=none) (mu:Mut (H x)) (new:XA x C od h'):HOk P w (upd H x (.ext (XA x C od))) h':=fun b u q=>by
 have nown:∀ c y,H c=some (.own y)→c ≠ x:=fun c y r z=>by subst z;rw [r] at mu;exact mu
 have ntup:∀ c xs,H c=some (.tup xs)→c ≠ x:=fun c xs r z=>by subst z;rw [r] at mu;exact mu
 have kk:∀ c v,c ≠ x→H c ≠ none→h.get? c=some v→h'.get? c=some v:=fun c v n1 n2 r=>k.keep c v r (fun z=>n2 (hfs c z)) n1 fun z=>n2 (hT c z.symm)
 by_cases hb:b=x
 ·subst hb;rw [cb] at q;cases q;exact new.ok
 ·rw [lb hb] at q
  refine (ok b u q).stay (fun c v hc r=>?_) (fun c r=>by rw [lb (nown c b r)];exact r) fun c xs r=>by rw [lb (ntup c xs r)];exact r
  rcases hc with rfl | hc
  ·exact kk c v hb (by rw [q];exact fun z=>by cases z) r
  ·exact kk c v (nown c b hc) (by rw [hc];exact fun z=>by cases z) r
theorem Kp.un (k:Kp fs x To h h') (hT:∀ t,To=some t→H t=none) (mu:Mut (H x)):Un fs To.toList H (upd H x o) h h':=by
 have hx:∀ b,H b=none→b ≠ x:=fun b n z=>by subst z;rw [n] at mu;exact mu
 have hm:∀ b u,H b=some u→¬ Mut (some u)→b ≠ x:=fun b u q nm z=>by subst z;rw [q] at mu;exact nm mu
 refine ⟨fun b u q n n1 n2=>k.keep b u q n1 (hx b n) fun z=>n2 (by rw [← z];simp),fun b u q n n1 n2=>k.slot b u q n1,fun b u q n _=>by rw [lb (hx b n)];exact n,fun b u q _=>k.there b u q,
  fun b xs q=>by rw [lb (hm b _ q fun z=>z)];exact q,fun b u xs q=>by rw [lb (hm b _ q fun z=>z)];exact q,fun b ps q=>⟨#[],by rw [lb (hm b _ q fun z=>z),q];simp⟩⟩
end
noncomputable def CX1 (P:Program) (w:World):CXT:=fun outer H s E e s'=>
 ∃ x C od H' T,e=.ref x∧s'.os=s.os∧AllBare s'.gens∧Un (frs outer) [] H H' s.heap s'.heap∧HOk P w H' s'.heap∧H' x=some (.ext (XA x C od))∧s.heap.objs.size ≤ T∧H' T=none∧FlA x C od T .none s'.heap∧E (.ref C) od H'
noncomputable def LB (X:Cx) (E:St→XK):Prop:=∀ (pins:List (Addr × Obj)) (σ:St) (H:Hp) (s:Shared) (x C:Addr) (od:Option Addr),Inv X pins σ H s→H x=some (.ext (XF x C od))→E σ (.ref C) od (upd H x (.ext (XA x C od)))→X.xe (.ref x) s
noncomputable def fw (CX:CXT) (X:Cx) (E:St→XK):Prop:=∀ (pins:List (Addr × Obj)) (σ:St) (H:Hp) (s:Shared) (e:Value) (s':Shared),Inv X pins σ H s→CX X.stack H s (E σ) e s'→X.xe e s'
structure Fr1 (X:Cx):Prop where
 st:X.stack=X.env :: X.outer
 fr:X.env.frame=some X.env.locals
noncomputable def AM (X:Cx) (pins:List (Addr × Obj)) (T:Addr):Prop:=(T ∈ X.ex∨X.s₀.heap.objs.size ≤ T)∧T ≠ X.env.locals∧(∀ x c,X.env.cells.lookup x=some c→c ≠ T)∧∀ p ∈ X.pn ++ pins,p.1 ≠ T
noncomputable def bA (X:Cx) (pins:List (Addr × Obj)) (E:St→XK) (fl:Value) (e:Value) (s':Shared):Prop:=
 ∃ σ' H' x C od T,e=.ref x∧Inv X pins σ' H' s'∧H' x=some (.ext (XA x C od))∧H' T=none∧AM X pins T∧FlA x C od T fl s'.heap∧E σ' (.ref C) od H'
noncomputable def xeR (X:Cx) (pins:List (Addr × Obj)) (E:St→XK) (e:Value) (s':Shared):Prop:=
 ∃ σ' H' x C od,e=.ref x∧Inv X pins σ' H' s'∧H' x=some (.ext (XF x C od))∧E σ' (.ref C) od (upd H' x (.ext (XA x C od)))
noncomputable def xeT (X:Cx) (pins:List (Addr × Obj)) (E:St→XK) (e:Value) (s':Shared):Prop:=xeR X pins E e s'∨∃ fl,bA X pins E fl e s'
noncomputable def xeA (X:Cx) (E:St→XK) (e:Value) (s':Shared):Prop:=∃ pins,xeT X pins E e s'
section
variable {X:Cx} {pins:List (Addr × Obj)} {σ:St} {H:Hp} {s:Shared} {T x C:Addr} {od:Option Addr} {E:St→XK} {M:Model} {A:Around} {E':Value→Shared→Prop} {Q:Unit→Shared→Prop} {e fl:Value} {h':Heap}
theorem lN (I:Inv X pins σ H s) (hT:s.heap.objs.size ≤ T):AM X pins T:=by
 have lt:∀ {b:Addr} {o:Obj},s.heap.get? b=some o→b ≠ T:=fun q z=>by
  subst z
  exact absurd (Nat.lt_of_lt_of_le (Heap.lt_size q) hT) (Nat.lt_irrefl _)
 refine ⟨.inr (Nat.le_trans I.sz hT),fun z=>?_,fun x c e=>?_,fun p hp=>lt (I.pin p hp).1⟩
 ·obtain ⟨m,⟨o,es,ep,ho,_⟩,_⟩:=I.loc
  exact lt ho z.symm
 ·obtain ⟨v,o,ho,_⟩:=I.cell x c e
  exact lt ho
theorem YJ (I:Inv X pins σ H s) (k:Kp (frs X.stack) x (some T) s.heap h') (ex:H x=some (.ext (XA x C od))) (eT:H T=none) (nT:AM X pins T) (xa:XA x C od h'):Inv X pins σ H { s with heap:=h' }:=by
 have mu:Mut (H x):=by rw [ex];exact True.intro
 have z:∀ t,some T=some t→H t=none:=fun t z=>by cases z;exact eT
 have u1:=k.un (H:=H) (o:=.ext (XA x C od)) z mu
 have k1:=k.hok I.hok I.stkFree z mu xa
 rw [tH ex] at u1 k1
 exact I.call' (s':={ s with heap:=h' }) (ch:=[T]) rfl u1 k1 I.bare fun b hb=>by
  obtain rfl:b=T:=by simpa using hb
  exact nT
theorem yH (F:Fr1 X) (I:Inv X pins σ H s) (k:Kp (frs (X.env :: X.outer)) x (some T) s.heap h') (ex:H x=some (.ext (XA x C od))) (eT:H T=none) (nT:AM X pins T) (xa:XA x C od h'):Inv X pins σ H { s with heap:=h' }:=
 YJ I (by rw [F.st];exact k) ex eT nT xa
theorem bA.note (F:Fr1 X) (q:bA X pins E fl e s) (hne:¬ (fl == rawInt X.env.locals)=true) (h:∀ s',bA X pins E (rawInt X.env.locals) e s'→Q () s'):wpAny M X.A (noteFrame e X.env) Q E' s:=by
 obtain ⟨σ,H,x,C,od,T,rfl,I,ex,eT,nT,f,w⟩:=q
 have fs:s.heap.FunFrames X.base (X.env :: X.outer):=by rw [← F.st];exact I.stack
 exact QA (by rw [← F.st];exact I.ok.frames) fs F.fr F.fr f hne fun h' T' k w' f'=>h _ ⟨σ,H,x,C,od,T',rfl,yH F I k ex eT nT f'.xa,ex,I.hok.fresh w',lN I w',f',w⟩
theorem bA.noted (F:Fr1 X) (q:bA X pins E (rawInt X.env.locals) e s) (h:Q () s):wpAny M X.A (noteFrame e X.env) Q E' s:=by
 obtain ⟨σ,H,x,C,od,T,rfl,I,ex,eT,nT,⟨ne,vs,sl,oT,ts,he,h1,hT,hd,h3⟩,w⟩:=q
 unfold noteFrame
 simp only [F.fr]
 refine wpAny_bind (wpAny_field he rfl h1 ?_)
 rw [if_pos (show (Value.ref T != Value.none)=true from by simp)]
 refine wpAny_bind (wpAny_field hT hd h3 ?_)
 rw [if_pos (show (rawInt X.env.locals == rawInt X.env.locals)=true from by simp)]
 exact wpAny_pure h
theorem xeR.note (F:Fr1 X) (q:xeR X pins E e s) (h:∀ s',bA X pins E (rawInt X.env.locals) e s'→Q () s'):wpAny M X.A (noteFrame e X.env) Q E' s:=by
 obtain ⟨σ,H,x,C,od,rfl,I,ex,w⟩:=q
 have fs:s.heap.FunFrames X.base (X.env :: X.outer):=by rw [← F.st];exact I.stack
 obtain ⟨vs,sl,hx,z1,z2⟩:=(show kd X.prog X.w H s.heap x (.ext (XF x C od)) from I.hok _ _ ex).1
 have mu:Mut (H x):=by rw [ex];exact True.intro
 refine az (by rw [← F.st];exact I.ok.frames) fs F.fr F.fr hx z2 fun h' T k w' f=>h _ ?_
 have z:∀ t,none=some t→H t=none:=fun t z=>by cases z
 have u1:=k.un (H:=H) (o:=.ext (XA x C od)) z mu
 have k1:=k.hok I.hok (by rw [← F.st];exact I.stkFree) z mu f.xa
 rw [← F.st] at u1
 have I2:=I.call' (s':={ s with heap:=h' }) (ch:=[]) rfl u1 k1 I.bare fun b hb=>absurd hb (by simp)
 exact ⟨σ,_,x,C,od,T,rfl,I2,cb,by rw [lb f.1];exact I.hok.fresh w',lN I w',f,w⟩
theorem xeT.note (F:Fr1 X) (q:xeT X pins E e s) (h:∀ s',bA X pins E (rawInt X.env.locals) e s'→Q () s'):wpAny M X.A (noteFrame e X.env) Q E' s:=by
 rcases q with q | ⟨fl,q⟩
 ·exact q.note F h
 ·by_cases c:(fl == rawInt X.env.locals)=true
  ·rw [beq_iff_eq] at c
   subst c
   exact q.noted F (h _ q)
  ·exact q.note F c h
theorem bA.flight (F:Fr1 X) (o:Option Addr) (q:bA X pins E fl e s) (h:∀ s',bA X pins E (o.elim .none fun f=>rawInt f) e s'→Q () s'):wpAny M A (setFlight e o) Q E' s:=by
 obtain ⟨σ,H,x,C,od,T,rfl,I,ex,eT,nT,f,w⟩:=q
 have fs:s.heap.FunFrames X.base (X.env :: X.outer):=by rw [← F.st];exact I.stack
 have nf:T ∉ frs (X.env :: X.outer):=by
  obtain ⟨_,_,_,oT,ts,_,_,e,d,_⟩:=id f
  exact nofr fs e d
 exact L2.flight o f nf fun h' k f'=>h _ ⟨σ,H,x,C,od,T,rfl,yH F I k ex eT nT f'.xa,ex,eT,nT,f',w⟩
theorem xeT.leave (F:Fr1 X) (q:xeT X pins E e s) (h:∀ s',bA X pins E .none e s'→Q () s'):wpAny M X.A (leaving X.env e) Q E' s:=by
 unfold leaving
 exact wpAny_bind (q.note F fun s' q'=>q'.flight F none h)
theorem Sw (F:Fr1 X):PassesOwn M X.A X.env (xeT X pins E):=fun e s' q=>by
 refine q.note F fun s2 q2=>?_
 show wpAny _ _ _ _ _ _
 obtain ⟨σ,H,x,C,od,T,rfl,I,ex,eT,nT,⟨ne,vs,sl,oT,ts,he,h1,hT,hd,h3⟩,w⟩:=id q2
 refine wpAny_bind (wpAny_field he rfl h1 ?_)
 rw [if_neg (show ¬ (Value.ref T == Value.none)=true from by simp)]
 rw [F.fr]
 exact q2.flight F _ fun s3 q3=>.inr ⟨_,q3⟩
theorem Ie (F:Fr1 X):PassesOwn M X.A X.env (xeA X E):=fun e s' ⟨pins,q⟩=>by
 have z:=Sw (M:=M) F e s' q
 refine wpAny_mono z (fun _ s2 q2=>?_) fun e2 s2 q2=>?_
 all_goals exact wpAny_mono q2 (fun _ s3 q3=>⟨pins,q3⟩) fun e3 s3 q3=>⟨pins,q3⟩
theorem xJ:LB (X.wish (xeA X E)) E:=fun pins σ H s x C od I ex q=>⟨pins,.inl ⟨σ,H,x,C,od,rfl,I.unwish,ex,q⟩⟩
theorem KJ {E0:XK} {s':Shared} (I:Inv X pins σ H s) (hq:CX1 X.prog X.w X.stack H s E0 e s') (h:∀ C od H',E0 C od H'→E σ C od H'):xeT X pins E e s':=by
 obtain ⟨x,C,od,H2,T,rfl,os,bare,un,hok,ex,hT,eT,fl,q⟩:=hq
 exact .inr ⟨_,σ,H2,x,C,od,T,rfl,I.call' os un hok bare (fun b z=>absurd z (by simp)),ex,eT,lN I hT,fl,h _ _ _ q⟩
end
theorem Qm {X:Cx} {E:XK}:Jk (CX1 X.prog X.w) (X.wish (xeA X fun _=>E)) E:=fun pins σ H s e s' I hq=>⟨pins,KJ I.unwish hq fun _ _ _ z=>z⟩
theorem Ft {X:Cx} {E:XK}:LB (X.wish (xeA X fun _=>E)) (fun _=>E):=xJ
section
variable {P:Program} {w:World} {K:PySem.W.Frag} {mg:Str→Option Value} {base:Heap} {N:List Str} {qual:Str} {scope:Scope} {f:Addr} {cd:Value} {A:Around} {outer:List Env} {s:Shared} {H:Hp} {E:XK}
theorem IH {e:Value} {s':Shared} (q:xeA (AB (CX1 P w) P w K mg base N qual scope f cd A outer s H E) (fun _=>E) e s'):(AB (CX1 P w) P w K mg base N qual scope f cd A outer s H E).xe e s':=by
 obtain ⟨pins,q⟩:=q
 refine q.leave ⟨rfl,rfl⟩ fun s2 q2=>?_
 obtain ⟨σ,H2,x,C,od,T,rfl,I,ex,eT,nT,fl,q⟩:=q2
 refine ⟨x,C,od,H2,T,rfl,I.os,I.bare,I.base,I.hok,ex,?_,eT,fl,q⟩
 rcases nT.1 with z | z
 ·exact absurd z (by show T ∉ ([]:List Addr);simp)
 ·exact z
end
noncomputable def sG (sp:Sp) (dvs:List V) (E:St→XK) (t:TA):TE:=fun σ H Q=>t σ H fun vs H1=>sp (vs ++ dvs) H1 Q (E σ)
noncomputable def SL (C:Addr) (m:Str) (sp:Sp) (dvs:List V) (E:St→XK) (ta:TE) (t:TA):TE:=fun σ H Q=>ta σ H fun x H1=>∃ a dx fs,x=.ref a∧H1 a=some (.ins C dx fs)∧fs.lookup m=none ∧
 t σ H1 fun vs H2=>sp (x :: (vs ++ dvs)) H2 Q (E σ)
section
variable {X:Cx} {CX:CXT} {k:Nat} {f C:Addr} {fd:FuncData} {ps:List Str} {sp:Sp} {dvs:List V} {ds:List Value} {E:St→XK} {x m:Str} {p pos apos:Pos} {e o:Expr} {es:List Expr} {ta:TE} {t:TA}
theorem yJ {pins:List (Addr × Obj)} {σ:St} {H:Hp} {s:Shared} {Q:VK} {us:List Value} {vs:List V} (F:Fb X.prog X.w X.K X.mg X.base CX k f fd ps sp) (hr:ci k X.A) (hb:Rb X.K fd ps ds) (hd:Wc dvs ds) (hx:fw CX X E)
  (I:Inv X pins σ H s) (r:Wc vs us) (h:sp (vs ++ dvs) H Q (E σ)):wpAny (model X.prog X.w) X.A (call (.ref f) us) (EP X pins σ Q) X.xe s:=by
 have r2:Wc (vs ++ dvs) (us ++ ds):=r.append hd
 have hl:(us ++ ds).length=ps.length:=by rw [← r2.length];exact F.len _ _ _ _ h
 refine wpAny_call (codeAny_mono (F.run X.A X.stack s H ⟨us,[]⟩ (us ++ ds) (vs ++ dvs) Q (E σ) hr I.env0 (hb s us I.kIn hl) r2 h) fun r s' hq=>?_)
 rcases r with e | (u | _ | _ | _)
 ·exact hx pins σ H s e s' I hq
 all_goals first | exact I.after hq | exact False.elim hq
theorem DF (F:Fb X.prog X.w X.K X.mg X.base CX k f fd ps sp) (hr:ci k X.A) (hg:Gl X x) (hm:X.mg x=some (.ref f)) (hk:PySem.W.keepIn X.K (.ref f)=true) (hb:Rb X.K fd ps ds) (hd:Wc dvs ds) (hx:fw CX X E)
  (ha:PA X (e :: es) t) (hdb:(x == ("__debug__" : Str))=false:=by decide) (he:starEach (e :: es) X.env=(false,eval e X.env) :: starEach es X.env:=by rfl) (hpl:(backTo pos (starEach es X.env)).any (·.1)=false:=by rfl) :
  PE X (.Call (.Name x p) (e :: es) [] pos) (sG sp dvs E t):=by
 intro pins s σ H Q I h
 refine wpAny_Call_Name_kw (bj I hg hm ?_ hdb)
 exact PySem.W.callWith_K (h₀:=X.base) I.ok.mod.kin hk (thn (ha pos pins s σ H _ I h) fun us s1 ⟨vs,H1,I1,r,q⟩=>⟨I1.kIn,yJ F hr hb hd hx I1 r q⟩) he hpl
end
noncomputable abbrev Cx.tr (X:Cx) (pn:List (Addr × Obj)) (E:Value→Shared→Prop):Cx:={ X with pn:=X.pn ++ pn,xe:=E }
noncomputable abbrev Cx.hn (X:Cx) (e:Value):Cx:={ X with A:=X.A.mark (some e),calm:=false,xe:=fun _ _=>False }
section
variable {X:Cx} {pins pins':List (Addr × Obj)} {σ:St} {H:Hp} {s:Shared} {E:Value→Shared→Prop} {e:Value}
theorem Cx.Ok.tr (ok:X.Ok) (pn:List (Addr × Obj)) (E:Value→Shared→Prop):(X.tr pn E).Ok:=
 ⟨ok.mod,ok.kind,ok.glob,ok.blt,ok.above,ok.inj,ok.has,ok.cab,ok.hd,ok.frames,ok.stk,ok.exf,ok.bs,ok.bsz,ok.noex,ok.exfs,ok.funs,ok.frf⟩
theorem Cx.Ok.untr {pn:List (Addr × Obj)} (ok:(X.tr pn E).Ok):X.Ok:=
 ⟨ok.mod,ok.kind,ok.glob,ok.blt,ok.above,ok.inj,ok.has,ok.cab,ok.hd,ok.frames,ok.stk,ok.exf,ok.bs,ok.bsz,ok.noex,ok.exfs,ok.funs,ok.frf⟩
theorem Cx.Ok.hn (ok:X.Ok) (e:Value):(X.hn e).Ok:=
 ⟨ok.mod,ok.kind,ok.glob,ok.blt,ok.above,ok.inj,ok.has,ok.cab,(fun z=>Bool.noConfusion z),ok.frames,ok.stk,ok.exf,ok.bs,ok.bsz,ok.noex,ok.exfs,ok.funs,ok.frf⟩
theorem Inv.tr (I:Inv X pins σ H s) (E:Value→Shared→Prop):Inv (X.tr pins E) [] σ H s:=⟨I.ok.tr pins E,I.os,I.bare,I.base,I.loc,I.cell,I.free,I.freeC,fun p hp=>I.pin p (by simpa using hp),I.hok,I.len⟩
theorem Inv.untr (I:Inv (X.tr pins E) pins' σ H s):Inv X pins σ H s:=⟨I.ok.untr,I.os,I.bare,I.base,I.loc,I.cell,I.free,I.freeC,fun p hp=>I.pin p (List.mem_append_left _ hp),I.hok,I.len⟩
theorem Inv.hn (I:Inv X pins σ H s) (e:Value):Inv (X.hn e) pins σ H s:=⟨I.ok.hn e,I.os,I.bare,I.base,I.loc,I.cell,I.free,I.freeC,I.pin,I.hok,I.len⟩
theorem Inv.unhn (ok:X.Ok) (I:Inv (X.hn e) pins σ H s):Inv X pins σ H s:=⟨ok,I.os,I.bare,I.base,I.loc,I.cell,I.free,I.freeC,I.pin,I.hok,I.len⟩
theorem SP.untr {D:jg} {f:Flow} {s':Shared} (h:SP (X.tr pins E) pins' D f s'):SP X pins D f s':=by
 cases f with
 | next=>obtain ⟨σ',H',I,q⟩:=h;exact ⟨σ',H',I.untr,q⟩
 | brk=>obtain ⟨σ',H',I,q⟩:=h;exact ⟨σ',H',I.untr,q⟩
 | cont=>obtain ⟨σ',H',I,q⟩:=h;exact ⟨σ',H',I.untr,q⟩
 | ret u=>obtain ⟨v,σ',H',I,r,q⟩:=h;exact ⟨v,σ',H',I.untr,r,q⟩
end
theorem cJ {X:Cx} {pins:List (Addr × Obj)} {E:St→XK}:fw (CX1 X.prog X.w) (X.tr pins (xeT X pins E)) E:=by
 intro pins' σ H s e s' I hq
 obtain ⟨x,C,od,H2,T,rfl,os,bare,un,hok,ex,hT,eT,fl,q⟩:=hq
 have I2:=I.call' os un hok bare (fun b z=>absurd z (by simp))
 exact .inr ⟨_,σ,H2,x,C,od,T,rfl,I2.untr,ex,eT,lN I.untr hT,fl,q⟩
theorem rm {X:Cx} {pins:List (Addr × Obj)} {σ:St} {H:Hp} {s:Shared} {i:Nat} {n:Str} {pos:Pos} {A:Around} {E:Value→Shared→Prop} {Q:Unit→Shared→Prop} (I:Inv X pins σ H s) (hN:X.N.Nodup) (hi:X.N[i]? = some n)
  (hl:X.env.scope.names.lookup n=some .local) (h:∀ s',Inv X pins (σ.set i none) H s'→Q () s'):wpAny (model X.prog X.w) A (do bindName X.env n .none;unbindBehindTheSuite X.env n pos) Q E s:=by
 have hiσ:i < σ.length:=by rw [I.len];exact (List.getElem?_eq_some_iff.mp hi).1
 refine wpAny_bind (wpAny_bindName (Oo I hN hi (.inl hl) (v:=.non) (u:=.none) rfl (fun s1 I1=>?_) (.inr hl)))
 obtain ⟨m,hn,hlk⟩:=I1.loc
 have hk:X.env.kindOf n=some .local:=hl
 obtain ⟨u,ru,lk⟩:=hlk i n .non hi (List.getElem?_set_self hiσ) (.inl hl)
 have hmn:(m n).isSome=true:=by
  rcases lk with ⟨_,e⟩ | ⟨k,_⟩
  ·rw [e];rfl
  ·rcases k with k | k <;> (rw [hk] at k;cases k)
 have hp:(X.env.scope.kind == .class || (X.env.scope.kind == .module && X.env.locals != X.env.globals))=false:=by rw [I.ok.kind];rfl
 unfold unbindBehindTheSuite
 refine wpAny_onRaise ?_
 unfold unbindName
 refine wpAny_bind (wpAny_point (wpAny_bind ?_))
 unfold deleteName
 simp only [hk,hp]
 rw [if_neg (by decide)]
 refine wpAny_bind (wpAny_nsDel_keeps hn fun h2 v2 hn2 hs=>?_)
 rw [hmn]
 refine wpAny_pure (wpAny_point (h _ ?_))
 have neL:∀ b o,X.s₀.heap.get? b=some o→b ≠ X.env.locals:=fun b o e=>Nat.ne_of_lt (Nat.lt_of_lt_of_le (Heap.lt_size e) I1.ok.above)
 refine ⟨I1.ok,I1.os,I1.bare,⟨fun b o e n' hb hx=>(hs.2 b (neL b o e)).trans (I1.base.keep b o e n' hb hx),fun b o e n' hb hx=>?_,I1.base.free,fun b o e hx=>?_,I1.base.tups,I1.base.frzs,I1.base.tbls⟩,⟨_,hn2,fun j y v e1 e2 e3=>?_⟩,fun y c e=>?_,I1.free,I1.freeC,fun p hp=>?_,fun b u' e=>?_,by simpa using I.len⟩
 ·obtain ⟨sl,e1⟩:=I1.base.slot b o e n' hb hx
  exact ⟨sl,(hs.2 b (neL b o e)).trans e1⟩
 ·obtain ⟨o',e1⟩:=I1.base.there b o e hx
  exact ⟨o',(hs.2 b (neL b o e)).trans e1⟩
 ·by_cases hj:j=i
  ·subst hj
   rw [List.getElem?_set_self hiσ] at e2
   cases e2
  ·rw [List.getElem?_set_ne (Ne.symm hj)] at e2
   obtain ⟨u',r',q⟩:=hlk j y v e1 (by rw [List.getElem?_set_ne (Ne.symm hj)];exact e2) e3
   refine ⟨u',r',?_⟩
   rcases q with ⟨k,e⟩ | ⟨k,c,e,z⟩
   ·refine .inl ⟨k,?_⟩
    have:y ≠ n:=fun e=>hj (Et hN e1 (e ▸ hi))
    simp [this,e]
   ·exact .inr ⟨k,c,e,z.sameBut hs (I1.cne y c e)⟩
 ·obtain ⟨w',z⟩:=I1.cell y c e
  exact ⟨w',z.sameBut hs (I1.cne y c e)⟩
 ·obtain ⟨e,n',ne,nf,d⟩:=I1.pin p hp
  exact ⟨(hs.2 p.1 ne).trans e,n',ne,nf,d⟩
 ·have nL:∀ c,H c ≠ none→c ≠ X.env.locals:=fun c q z=>q (by rw [z];exact I1.free)
  refine (I1.hok b u' e).stay (fun c v hc q=>(hs.2 c (nL c ?_)).trans q) (fun _ q=>q) fun _ _ q=>q
  rcases hc with rfl | hc
  ·rw [e];exact fun z=>by cases z
  ·rw [hc];exact fun z=>by cases z
noncomputable def jg.gone (D:jg) (i:Nat):jg:={ nx:=fun σ H=>D.nx (σ.set i none) H,rt:=D.rt,bk:=fun σ H=>D.bk (σ.set i none) H,ct:=fun σ H=>D.ct (σ.set i none) H }
noncomputable def WN (K:PySem.W.Frag) (c:Addr) (i:Nat) (th:TS) (D:jg):St→XK:=fun σ C od H=>∃ C',C=.ref C'∧PySem.W.exmOne K C (.ref c)=some true∧∀ x,H x=some (.ext (XA x C' od))→th (D.gone i) (σ.set i (some (.ref x))) H
noncomputable def rN (K:PySem.W.Frag) (c:Addr) (i:Nat) (tb:(St→XK)→TS) (th:TS):TS:=fun D σ H=>tb (WN K c i th D) D σ H
section
variable {X:Cx} {body suite:List Stmt} {b0:Stmt} {x n:Str} {c:Addr} {i:Nat} {tb:(St→XK)→TS} {th:TS} {xp hp pos:Pos}
theorem FK (hb:∀ pins E,PSs (X.tr pins (xeT X pins E)) body (tb E)) (hg:Gl X x) (hm:X.mg x=some (.ref c)) (hh:∀ e,PSs (X.hn e) (b0 :: suite) th) (hN:X.N.Nodup) (hi:X.N[i]? = some n)
  (hl:X.env.scope.names.lookup n=some .local) (F:Fr1 X:=by exact ⟨rfl,rfl⟩) (hdb:(x == ("__debug__" : Str))=false:=by decide) :
  PS X (.Try body [.ExceptHandler (some (.Name x xp)) (some n) (b0 :: suite) hp] [] [] pos) (rN X.K c i tb th):=by
 intro pins s σ H D I h
 refine wpAny_Try_except (wpAny_mono (hb pins _ [] s σ H D (I.tr _) h) (fun f s1 q=>?_) fun e s1 q=>?_)
 ·have q':=q.untr
  cases f with
  | next=>exact wpAny_execs_nil q'
  | brk=>exact q'
  | cont=>exact q'
  | ret u=>exact q'
 ·refine q.note F fun s2 q2=>q2.flight F none fun s3 q3=>?_
  obtain ⟨σ1,H1,a,C,od,T,rfl,I2,ea,eT,nT,fl,C',eC,em,w⟩:=id q3
  cases eC
  refine wpAny_handleBy_cons (codeAny_handlers_test (bj (I2.hn (.ref a)) hg hm ?_ hdb)) (fun z=>by cases z)
  have LT:PySem.W.Looks (model X.prog X.w) s3.heap (typeOf (.ref a)) (.ref C):=by
   obtain ⟨vs,sl,e⟩:=fl.xa
   exact (PySem.W.Looks.ld e).andThen .now
  refine (PySem.W.exm_one I2.kIn LT em).here ?_
  rw [if_pos rfl]
  refine codeAny_handlers_suite_as (q3.flight F none fun s4 q4=>?_)
  ·obtain ⟨σ1,H1,a',C,od,T,ea',I3,ea,eT,nT,fl,C',eC,em,w⟩:=q4
   cases eC
   cases ea'
   refine Oo (X:=X.hn (.ref a)) (I3.hn (.ref a)) hN hi (.inl hl) (v:=.ref a) (u:=.ref a) rfl (fun s5 I4=>?_) (.inr hl)
   refine wpAny_mono (hh (.ref a) pins s5 _ H1 (D.gone i) I4 (w a ea)) (fun f s5 q5=>?_) fun _ _ z=>False.elim z
   cases f with
   | next=>obtain ⟨σ',H',J,q⟩:=q5;exact rm (J.unhn I.ok) hN hi hl fun s6 I6=>⟨_,_,I6,q⟩
   | brk=>obtain ⟨σ',H',J,q⟩:=q5;exact rm (J.unhn I.ok) hN hi hl fun s6 I6=>⟨_,_,I6,q⟩
   | cont=>obtain ⟨σ',H',J,q⟩:=q5;exact rm (J.unhn I.ok) hN hi hl fun s6 I6=>⟨_,_,I6,q⟩
   | ret u=>obtain ⟨v,σ',H',J,r,q⟩:=q5;exact rm (J.unhn I.ok) hN hi hl fun s6 I6=>⟨v,_,_,I6,r,q⟩
end
theorem FH {X:Cx} {body suite:List Stmt} {b0:Stmt} {x n:Str} {c:Addr} {i:Nat} {tb:(St→XK)→TS} {th:TS} {xp hp pos:Pos} (hb:∀ pins E,∃ t,PSs (X.tr pins (xeT X pins E)) body t∧t=tb E) (hg:Gl X x) (hm:X.mg x=some (.ref c))
  (hh:∀ e,∃ t,PSs (X.hn e) (b0 :: suite) t∧t=th) (hN:X.N.Nodup) (hi:X.N[i]? = some n) (hl:X.env.scope.names.lookup n=some .local) (F:Fr1 X:=by exact ⟨rfl,rfl⟩)
  (hdb:(x == ("__debug__" : Str))=false:=by decide):PS X (.Try body [.ExceptHandler (some (.Name x xp)) (some n) (b0 :: suite) hp] [] [] pos) (rN X.K c i tb th):=
 FK (fun pins E=>by obtain ⟨t,h,rfl⟩:=hb pins E;exact h) hg hm (fun e=>by obtain ⟨t,h,rfl⟩:=hh e;exact h) hN hi hl F hdb
theorem CI (K:PySem.W.Frag) (c:Addr) (i:Nat) (tb:(St→XK)→TS) (th:TS) (D:jg) (σ:St) (H:Hp):rN K c i tb th D σ H=tb (WN K c i th D) D σ H:=rfl
theorem XI (K:PySem.W.Frag) (c:Addr) (i:Nat) (th:TS) (D:jg) (σ:St) (C:Value) (od:Option Addr) (H:Hp) :
  WN K c i th D σ C od H = ∃ C',C=.ref C'∧PySem.W.exmOne K C (.ref c)=some true∧∀ x,H x=some (.ext (XA x C' od))→th (D.gone i) (σ.set i (some (.ref x))) H:=rfl
theorem SJ (D:jg) (i:Nat) (σ:St) (H:Hp):(D.gone i).nx σ H=D.nx (σ.set i none) H:=rfl
theorem mK (D:jg) (i:Nat) (v:V) (H:Hp):(D.gone i).rt v H=D.rt v H:=rfl
theorem OwnTail.has {h:Heap} {bm tl:List Value} {v:Value} (T:OwnTail h bm tl) (e:bm.contains v=true):tl.contains v=true:=by
 induction T with
 | base=>exact e
 | own _ _ _ _ ih=>rw [List.contains_cons,ih,Bool.or_true]
noncomputable def jH (K:PySem.W.Frag) (E:St→XK) (te:TE):TS:=fun D σ H=>te σ H fun v H1=>∃ x C od,v=.ref x∧H1 x=some (.ext (XF x C od))∧Ar K C∧E σ (.ref C) od (upd H1 x (.ext (XA x C od)))
theorem Lz {M:Model} {A:Around} {E:Value→Shared→Prop} {s:Shared} {env:Env} {x:Sem Value} {Q:Flow→Shared→Prop} (hh:A.handled=none)
  (h:wpAny M A x (fun v s1=>∃ e C od vs sl nm q N bs bm hdct sn sub ab col dd k0 k1 k2 k3 k5 newId,v=.ref e∧bm.contains (.type "BaseException")=true ∧
   s1.heap.get? C=some (excClassObj nm q C N bs bm hdct sn sub ab col dd k0 k1 k2 k3 k5 newId)∧s1.heap.get? e=some ⟨.ref C,od,.fields vs,sl⟩∧vs[1]? = some .none∧E (.ref e) s1) E s) :
  wpAny M A (raiseStmt env (some x) none) Q E s:=by
 unfold raiseStmt
 refine wpAny_bind (wpAny_mono h (fun v s1 h1=>?_) fun _ _ x=>x)
 obtain ⟨e,C,od,vs,sl,nm,q,N,bs,bm,hdct,sn,sub,ab,col,dd,k0,k1,k2,k3,k5,newId,rfl,hb,hC,he,h1,hE⟩:=h1
 have hcB:(Value.ref C :: bm).contains (.type "BaseException")=true:=by rw [List.contains_cons,hb,Bool.or_true]
 obtain ⟨hp,g,d,tk,os⟩:=s1
 repeat (first | with_reducible refine wpAny_loadPart_at he ?_ | with_reducible refine wpAny_loadPart_at hC ?_ | (with_reducible refine wpAny_isSubtype_exc hC ?_;rw [hcB]) | (with_reducible refine wpAny_field he rfl h1 ?_) | wp_step)
 exact wpAny_raiseNew_none hh hE
section
variable {X:Cx} {e:Expr} {te:TE} {pos:Pos} {E:St→XK}
theorem Ko (he:PE X e te) (hT:LB X E) (hc:X.calm=true:=by rfl):PS X (.Raise (some e) none pos) (jH X.K E te):=by
 intro pins s σ H D I h
 rw [arm_exec_Raise]
 refine wpAny_bind (wpAny_standAt (Lz (I.ok.hd hc) ?_))
 refine wpAny_bind (thn (he pins s σ H _ I h) fun u s1 ⟨v,H1,I1,r,x,C,od,ev,ex,c,q⟩=>wpAny_bind (wpAny_standAt (wpAny_pure ?_)))
 subst ev
 obtain rfl:u=Value.ref x:=r
 obtain ⟨vs,sl,hx,z1,z2⟩:=(show kd X.prog X.w H1 s1.heap x (.ext (XF x C od)) from I1.hok _ _ ex).1
 obtain ⟨fI,hfI⟩:=c.ex
 obtain ⟨tl,N,nm,q',bs,sn,sub,ab,co,dd,k0,k1,k2,k3,k5,mN,hC,hN,hi,T⟩:=jt I1.kIn hfI
 exact ⟨x,C,od,vs,sl,nm,q',N,bs,tl,true,sn,sub,ab,co,dd,k0,k1,k2,k3,k5,_,rfl,L2.OwnTail.has T (by decide),hC,hx,z2,hT pins σ H1 s1 x C od I1 ex q⟩
theorem PS.nox {X:Cx} {st:Stmt} {t:TS} (h:PS X.nox st t):PS X st t:=fun pins s σ H D I hw=>
 wpAny_mono (h pins s σ H D (I.wish _) hw) (fun _ _ q=>q.unwish) fun _ _ z=>False.elim z
end
theorem Fun.okX {P:Program} {w:World} {K:PySem.W.Frag} {mg:Str→Option Value} {base:Heap} {x qual:Str} {st:Stmt} {f:Addr} {fd:FuncData} {N ps:List Str} {k:Nat} {sp:Sp} (F:Fun K x qual st f fd) (S:rb N ps (ib st))
  (len:∀ vs H Q E,sp vs H Q E→vs.length=ps.length)
  (hbody:∀ (cdv:Value) (A:Around) (outer:List Env) (s:Shared) (H:Hp) (vs:List V) (Q:VK) (E:XK),ci k (A.deeper (envOfC qual (ib st) s.heap.objs.size f cdv))→sp vs H Q E →
   ∃ t,PSs ((AB (CX1 P w) P w K mg base N qual (ib st) f cdv A outer s H E).wish (xeA (AB (CX1 P w) P w K mg base N qual (ib st) f cdv A outer s H E) fun _=>E)) (zn st) t∧t { nx:=fun _ H'=>Q .non H',rt:=Q } (start N vs) H):Fb P w K mg base (CX1 P w) (k + 1) f fd ps sp:=by
 obtain ⟨oc,od,kV,doc,pm,an,cdv,ct,osl,rfl,lk,hcd⟩:=F.ex
 refine mL lk hcd S len fun A outer s H vs Q E hr hsp=>?_
 obtain ⟨t,h,q⟩:=hbody cdv A outer s H vs Q E hr hsp
 exact ⟨t,fun pins s1 σ H1 D I hw=>wpAny_mono (h pins s1 σ H1 D (I.wish _) hw) (fun _ _ q=>q.unwish) fun _ _ z=>IH z,q⟩
noncomputable def xeB (B:Cx) (E:XK) (e:Value) (s':Shared):Prop:=
 ∃ pins fl σ' H' x C od T,e=.ref x∧Inv B pins σ' H' s'∧H' x=some (.ext (XA x C od))∧H' T=none∧AM B pins T∧B.s₀.heap.objs.size ≤ T∧FlA x C od T fl s'.heap∧E (.ref C) od H'
structure CO (X:Cx) (scope:Scope) (N:List Str) (tg elt:Expr) (ifs:List Expr) (g:TG) (tc:TT) (te:XK→TE):Prop where
 tgt:∀ E C s H fp,PG ((X.block scope C N s H fp).wish (xeB (X.block scope C N s H fp) E)) tg g
 tests:∀ E C s H fp,PTs ((X.block scope C N s H fp).wish (xeB (X.block scope C N s H fp) E)) ifs tc
 elem:∀ E C s H fp,PE ((X.block scope C N s H fp).wish (xeB (X.block scope C N s H fp) E)) elt (te E)
theorem CO.of {X:Cx} {scope:Scope} {N:List Str} {tg elt:Expr} {ifs:List Expr} {g:TG} {tc:TT} {te:XK→TE} (h1:∀ E C s H fp,PG ((X.block scope C N s H fp).wish (xeB (X.block scope C N s H fp) E)) tg g)
  (h2:∀ E C s H fp,∃ t,PTs ((X.block scope C N s H fp).wish (xeB (X.block scope C N s H fp) E)) ifs t∧t=tc) (h3:∀ E C s H fp,∃ t,PE ((X.block scope C N s H fp).wish (xeB (X.block scope C N s H fp) E)) elt t∧t=te E):CO X scope N tg elt ifs g tc te:=
 ⟨h1,fun E C s H fp=>by obtain ⟨t,h,rfl⟩:=h2 E C s H fp;exact h,fun E C s H fp=>by obtain ⟨t,h,e⟩:=h3 E C s H fp;rw [← e];exact h⟩
noncomputable def DL (J:It) (g:TG) (tc:TT) (te:TE) (σb:St) (Q:VK) (H:Hp):Prop:=∃ W:Nat→Nat→List V→Hp→Prop,(∃ m,W 0 m [] H)∧Iv J g tc te σb Q W
noncomputable def aN (wi:TI) (g:TG) (tc:TT) (te:XK→TE) (sel:List (Option Nat)) (E:St→XK):TE:=fun σ H Q=>wi σ H fun J H1=>DL J g tc (te (E σ)) (blk sel σ) Q H1
section
variable {X:Cx} {elt tg iter:Expr} {ifs:List Expr} {scope:Scope} {pos:Pos} {wi:TI} {g:TG} {tc:TT} {te:XK→TE} {N:List Str} {sel:List (Option Nat)}
theorem FlA.but {x C T c:Addr} {od:Option Addr} {fl:Value} {h h':Heap} (z:FlA x C od T fl h) (n1:x ≠ c) (n2:T ≠ c) (k:∀ b,b ≠ c→h'.get? b=h.get? b):FlA x C od T fl h':=by
 obtain ⟨ne,vs,sl,oT,ts,he,h1,hT,hd,h3⟩:=z
 exact ⟨ne,vs,sl,oT,ts,(k _ n1).trans he,h1,(k _ n2).trans hT,hd,h3⟩
end
structure nO (K:PySem.W.Frag) (C:Addr):Prop where
 cl:Cls K C
 ha:PySem.W.findIn K (.ref C) "__class__"=some (some (.builtin "object.__class__"))
 hn:PySem.W.specialIn K (.builtin "object.__class__") "__get__"=some (some (.builtin "getset_descriptor.__get__"))
 htk:PySem.W.takesIn K (.builtin "object.__class__")=some true
 hm:PySem.W.mroIn K C (.type "object")=some true
theorem nO.ty {K:PySem.W.Frag} {H:Hp} {C a dx:Addr} {fs:List (Str × V)} (c:nO K C) (e:H a=some (.ins C dx fs)):Kx K H (.ref a) (.ref C):=.ins e c.cl c.ha c.hn c.htk c.hm
end L2
namespace L2
open PySem PySem.Spec PyProof.Rows
noncomputable def Itd (hi:Int) (n:Nat):It:=⟨fun i _=>i < n,fun i H x H'=>H'=H∧x=.int (hi - i),fun i _=>n ≤ i⟩
theorem xB {P:Program} {w:World} {K:PySem.W.Frag} {tg:Expr} (it:Addr) (hi:Int) (n:Nat):rH P w K tg (Itd hi n) [it] it (fun i h=>IsRangeIter h it (hi + (i:Nat) * (-1)) ((n:Int) - (i:Nat)) (-1)) where
 mem:=by simp
 obj:=fun i h st b hb=>by
  have e:b=it:=by simpa using hb
  subst e
  exact ⟨_,st,fun v z=>by
   have z':Data.fields _=Data.cell v:=z
   cases z'⟩
 keep:=fun i h h' st k=>k it (by simp) _ st
 item:=by
  intro X hP hw hK hc i pins s σ H E I hf st hg
  subst hP hw hK
  obtain ⟨f0,f1,f2,f3,f4,f5⟩:=hf it (by simp)
  have W:=Walks.range (prog:=X.prog) (w:=X.w) (I.ok.hd hc) it hi (-1) n
  refine W.item i s _ _ hg st fun v h' tk hv st' kk=>?_
  obtain ⟨t,rfl⟩:=hv
  have I1:Inv X pins σ H { s with heap:=h',toks:=tk }:=I.turned (fun b o hb e=>kk b o (by simpa using hb) e) f0 f1 f3 f4 f5
  refine ⟨_,rfl,GC (s:={ s with heap:=h',toks:=tk }) (n := "range_iterator") st' rfl rfl (by decide) ⟨.int (hi - i),H,I1,⟨t,?_⟩,⟨rfl,rfl⟩,st',fun b hb=>(hf b hb).1⟩⟩
  congr 1
  omega
 done:=by
  intro X hP hw hK hc i pins s σ H E I hf st hg
  subst hP hw hK
  obtain ⟨f0,f1,f2,f3,f4,f5⟩:=hf it (by simp)
  exact wpAny_pyNext_range_end (I.ok.hd hc) st (by have:n ≤ i:=hg;omega) fun h' eb=>⟨rfl,I.turned (t':=s.toks) (fun b o hb e=>eb b o hb e) f0 f1 f3 f4 f5⟩
 self:=fun _ _ _ _ _ st h=>wpAny_pyIter_rangeiter st h
theorem Lk (a b:Int):Builtin.Range.rangeSize a b (-1)=if b < a then a - b else 0:=by
 unfold Builtin.Range.rangeSize
 rw [if_neg (show ¬ (-1:Int) > 0 by decide),show (- -1:Int)=1 by decide,Int.ediv_one]
 show (if b < a then a - b - 1 + 1 else 0)=_
 split <;> omega
theorem Xz {a b:Int} (ha:-(2 ^ 62) ≤ a) (ha':a < 2 ^ 62) (hb:-(2 ^ 62) ≤ b) (hb':b < 2 ^ 62):Builtin.Range.small a b (-1)=true:=by
 unfold Builtin.Range.small
 rw [Lk]
 simp only [Builtin.Range.rangeFitsLong,Bool.and_eq_true,Bool.or_eq_true,decide_eq_true_eq,beq_iff_eq,show ¬ (-1:Int) > 0 by decide,if_false]
 split <;> omega
section
variable {X:Cx} {tg:Expr}
noncomputable def KM (ta:TA):TI:=fun σ H R=>ta σ H fun vs H1=>∃ i j:Int,vs=[.int i,.int j,.int (-1)]∧(-1073741824 ≤ i∧i < 1073741824∧-1073741824 ≤ j∧j < 1073741824)∧R (Itd i (i - j).toNat) H1
theorem bD {a b c:Expr} {ta:TA} {p pos:Pos} (hg:Gl X "range") (hm:X.mg "range"=none) (ha:PA X [a,b,c] ta) (hs:starEach [a,b,c] X.env=[(false,eval a X.env),(false,eval b X.env),(false,eval c X.env)]:=by rfl) (hs2:starEach [b,c] X.env=[(false,eval b X.env),(false,eval c X.env)]:=by rfl) :
  PI X tg (.Call (.Name "range" p) [a,b,c] [] pos) (KM ta):=by
 intro pins s σ H R I h
 refine Call_ (vm I hg hm boot_range (PyProof.Rows.callWith_type1 (thn (ha pos pins s σ H _ I h) fun us s1 hZ1=>?_) (by rw [hs,hs2]) (by rw [hs2];rfl)))
 obtain ⟨vs,H1,I1,r1,q1⟩:=hZ1
 obtain ⟨i,j,e,⟨q1,q2,q3,q4⟩,q⟩:=q1
 subst e
 cases r1 with
 | cons r rr=>
  cases rr with
  | cons r' rr=>
   cases rr with
   | cons r'' rr=>
    cases rr
    obtain ⟨t,rfl⟩:=r
    obtain ⟨t',rfl⟩:=r'
    obtain ⟨t'',rfl⟩:=r''
    refine call_range_3 (by decide) ?_ (Or.inl (PyProof.noPylong_small (by omega)))
    refine wpAny_pyIter_range (IsRange.new ..) (Xz (by omega) (by omega) (by omega) (by omega)) ?_
    have I2:Inv X pins σ H1 { s1 with heap:=s1.heap.push { cls:=.type "range",data:=.fields #[.int i t,.int j t',.int (-1) t''] },toks:=s1.toks }:=I1.kept fun b o e=>Heap.get?_push_of_some _ e
    refine ⟨(s1.heap.push { cls:=.type "range",data:=.fields #[.int i t,.int j t',.int (-1) t''] }).objs.size,[(s1.heap.push { cls:=.type "range",data:=.fields #[.int i t,.int j t',.int (-1) t''] }).objs.size],_,_,H1,rfl,
     I2.kept (t':=s1.toks) fun b o e=>Heap.get?_push_of_some _ e,xB _ i (i - j).toNat,?_,fun b hb=>?_,q⟩
    ·have e1:i + ((0:Nat):Int) * (-1)=i:=by simp
     have e2:(((i - j).toNat:Nat):Int) - ((0:Nat):Int)=Builtin.Range.rangeSize i j (-1):=by rw [Lk];split <;> omega
     show IsRangeIter _ _ (i + ((0:Nat):Int) * (-1)) ((((i - j).toNat:Nat):Int) - ((0:Nat):Int)) (-1)
     rw [e1,e2]
     exact Heap.get?_push_size _ rfl
    ·have e:b=(s1.heap.push { cls:=.type "range",data:=.fields #[.int i t,.int j t',.int (-1) t''] }).objs.size:=by simpa using hb
     subst e
     exact I2.fpOk (Nat.le_refl _) (I2.hok.fresh (Nat.le_refl _))
end
theorem Rz:typeLookup (.type "list_reverseiterator") "__len__"=pure none:=by rw [typeLookup_type,builtinLookup_eq_fast];kernel_rfl
theorem Ku:typeLookup (.type "list_reverseiterator") "__length_hint__"=pure (some (.builtin "list_reverseiterator.__length_hint__")):=by rw [typeLookup_type,builtinLookup_eq_fast];kernel_rfl
section
variable {prog:Program} {w:World} {A:Around} {E:Value→Shared→Prop} {s:Shared} {it l:Addr} {items:Array Value}
theorem AE (hT:s.TypeIs (.ref it) "list_reverseiterator") {Q:Bool→Shared→Prop} (h:Q false s):wpAny (model prog w) A (Builtin.List.listLengthHint (.ref it)) Q E s:=by
 unfold Builtin.List.listLengthHint
 refine wpAny_bind (wpAny_specialOf hT Rz ?_)
 show wpAny _ A (specialOf (Value.ref it) (Str.ofString "__length_hint__") >>= _) _ _ _
 refine wpAny_bind (wpAny_specialOf hT Ku ?_)
 generalize hid:("list_reverseiterator.__length_hint__" : String)=id0
 wp_delta
 rw [show splitId id0=some ("list_reverseiterator","__length_hint__") from by subst hid;decide +kernel]
 subst hid
 refine wpAny_bind (wpAny_isInstance (T := "list_reverseiterator") (b:=true) hT (by rw [isSubtype_type];kernel_rfl) ?_)
 refine wpAny_ite_split (fun hab=>absurd hab (by decide)) (fun _=>?_)
 refine wpAny_ite_split (fun _=>?_) (fun hab=>absurd (by decide +kernel) hab)
 refine wpAny_ite_split (fun hab=>absurd hab (by decide +kernel)) (fun _=>?_)
 exact wpAny_pure h
noncomputable abbrev kM (items:Array Value):Nat→Value→Prop:=fun i v=>items[items.size - 1 - i]? = some v
theorem Dz {R:Result→Shared→Prop} (hh:A.handled=none) (hit:s.heap.IsRevIter it l ((items.size:Int) - 1 - ((0:Nat):Int))) (hl:s.heap.IsList l items) (hne:l ≠ it) (S:Addr) (hSi:S ≠ it) (hSl:S ≠ l) (res:Value) (c₀:Nat)
  (hS:s.heap.get? S=some { cls:=.type "list",data:=.seq #[] c₀ }) (hn:items.size ≤ sizeLine)
  (hR:∀ h' tk acc c,(∀ b o,b ≠ S→b ≠ it→s.heap.get? b=some o→h'.get? b=some o)→h'.get? S=some { cls:=.type "list",dict:=none,data:=.seq acc c,slots:=#[] }→ItemsOf (kM items) acc items.size→R (.ok (.ret res)) { s with heap:=h',toks:=tk }) :
  wpAny (model prog w) A.in1 (Builtin.List.listExtendWith (.ref S) (.ref it) res)
   (fun fin s'=>match fin with | .done f=>R (.ok f) s' | .again c'=>c'.quiet=true∧codeAny (model prog w) A c' R s') (fun e s'=>R (.error e) s') s:=by
 unfold Builtin.List.listExtendWith
 refine wpAny_bind (wpAny_typeOf hit.typeIs ?_)
 have h1:Builtin.List.listSameRef (.ref S) (.ref it)=false:=by simp [Builtin.List.listSameRef,hSi]
 have h2:(Value.type "list_reverseiterator" == Value.type "list")=false:=by decide
 have h3:(Value.type "list_reverseiterator" == Value.type "tuple")=false:=by decide
 simp only [h1,h2,h3,Bool.or_false,Bool.false_eq_true,if_false]
 refine wpAny_bind (wpAny_pyIter_revIter hit ?_)
 refine wpAny_bind (wpAny_holding (AE hit.typeIs ?_))
 refine wpAny_ite_split (fun hab=>absurd hab (by decide +kernel)) (fun _=>?_)
 have W:=Walks.listRev (prog:=prog) (w:=w) (A:=A.in1) hh it l hne items
 have hSf:S ∉ [it,l]:=by simp only [List.mem_cons,List.not_mem_nil,or_false,not_or];exact ⟨hSi,hSl⟩
 refine wpAny_pure ⟨plainId_quiet PySem.F.plain_extend_loop _,codeAny_extend_loopS W.toS hn S hSf res items.size 0 s #[] c₀ rfl (Nat.zero_le _) ⟨Nat.zero_le _,hit,hl⟩ hS (ItemsOf.nil _) fun s' acc c hm hS' hacc=>?_⟩
 rw [Moved.eq_with hm]
 refine hR s'.heap s'.toks acc c (fun b o hb hi e=>hm.heap b o (fun hmem=>?_) e) hS' hacc
 rcases List.mem_cons.mp hmem with e' | hmem
 ·exact hb e'
 ·exact hi (List.mem_singleton.mp hmem)
theorem Ws {Q:Value→Shared→Prop} (hh:A.handled=none) (hit:s.heap.IsRevIter it l ((items.size:Int) - 1 - ((0:Nat):Int))) (hl:s.heap.IsList l items) (hne:l ≠ it) (hn:items.size ≤ sizeLine)
  (hQ:∀ h' tk acc c,(∀ b o,b ≠ it→s.heap.get? b=some o→h'.get? b=some o)→h'.get? s.heap.objs.size=some { cls:=.type "list",dict:=none,data:=.seq acc c,slots:=#[] }→ItemsOf (kM items) acc items.size→Q (.ref s.heap.objs.size) { s with heap:=h',toks:=tk }) :
  wpAny (model prog w) A (call (.type "list") [.ref it]) Q E s:=by
 have li:it < s.heap.objs.size:=by obtain ⟨_,e,_⟩:=hit;exact Heap.lt_size e
 have ll:l < s.heap.objs.size:=by obtain ⟨_,e,_⟩:=hl;exact Heap.lt_size e
 refine callType_codes (Q₁:=fun obj s₁=>obj=.ref s.heap.objs.size∧s₁ = { s with heap:=s.heap.push { cls:=.type "list",data:=.seq #[] } }) PySem.F.called_list (PySem.F.typeCall_list_1 _) PySem.F.entry_list_init
  (code_list_new _ ⟨rfl,rfl⟩) fun obj s₁ h₁=>?_
 obtain ⟨rfl,rfl⟩:=h₁
 have hS:(s.heap.push { cls:=.type "list",data:=.seq #[] }).get? s.heap.objs.size=some { cls:=.type "list",data:=.seq #[] }:=Heap.get?_push_size _ rfl
 refine ⟨⟨_,hS,rfl⟩,PySem.F.args_list_init_2 _ _,?_⟩
 show wpAny _ _ (do let old ← Builtin.List.listItems (.ref s.heap.objs.size);Builtin.List.listUpdate (.ref s.heap.objs.size) (fun _=>#[]);letGo old.toList.reverse;Builtin.List.listExtendWith (.ref s.heap.objs.size) (.ref it) .none) _ _ _
 refine wpAny_bind ?_
 unfold Builtin.List.listItems
 refine wpAny_bind (wpAny_seqItems hS rfl (wpAny_pure ?_))
 show wpAny _ _ (updateSeq s.heap.objs.size (fun _=>#[]) >>= fun _=>letGo (#[]:Array Value).toList.reverse >>= fun _=>Builtin.List.listExtendWith (.ref s.heap.objs.size) (.ref it) .none) _ _ _
 refine wpAny_bind (wpAny_updateSeq hS rfl ?_)
 have hS₂:=Heap.get?_update_self (Obj.mapSeq (fun _=>(#[]:Array Value))) hS rfl
 have oth:∀ b o,s.heap.get? b=some o→((s.heap.push { cls:=.type "list",data:=.seq #[] }).update s.heap.objs.size (Obj.mapSeq (fun _=>(#[]:Array Value)))).get? b=some o:=
  fun b o e=>(Heap.get?_update_other _ _ (Ne.symm (Nat.ne_of_lt (Heap.lt_size e)))).trans (Heap.get?_push_of_some _ e)
 refine wpAny_bind (wpAny_letGo ?_)
 refine Dz (A:=A.in1) hh (hit.at fun o e=>oth _ o e) (hl.at fun o e=>oth _ o e) hne _ (Ne.symm (Nat.ne_of_lt li)) (Ne.symm (Nat.ne_of_lt ll)) .none _ hS₂ hn fun h' tk acc c hk hS' hacc=>?_
 exact ⟨rfl,hQ h' tk acc c (fun b o hb e=>hk b o (Nat.ne_of_lt (Heap.lt_size e)) hb (oth b o e)) hS' hacc⟩
end
section
variable {X:Cx}
noncomputable def Px (K:PySem.W.Frag) (ta:TA):TE:=fun σ H Q=>ta σ H fun vs H1=>∃ a xs,vs=[.ref a]∧SqL K H1 a xs∧∀ l,H1 l=none→Q (.ref l) (upd H1 l (.lst xs.reverse))
theorem Jm {a:Expr} {ta:TA} {p q pos pos':Pos} (hc:X.calm=true) (hg:Gl X "list") (hm:X.mg "list"=none) (hg':Gl X "reversed") (hm':X.mg "reversed"=none) (ha:PA X [a] ta) (hs:starEach [a] X.env=[(false,eval a X.env)]:=by rfl)
  (hs2:starEach [Expr.Call (.Name "reversed" q) [a] [] pos'] X.env=(false,eval (Expr.Call (.Name "reversed" q) [a] [] pos') X.env) :: starEach [] X.env:=by rfl) :
  PE X (.Call (.Name "list" p) [.Call (.Name "reversed" q) [a] [] pos'] [] pos) (Px X.K ta):=by
 intro pins s σ H Q I h
 refine wpAny_Call_Name_kw (vm I hg hm Ji ?_)
 refine PyProof.Rows.callWith_type1 ?_ hs2 rfl
 rw [hs2]
 show wpAny _ _ (spliced ((false,eval (Expr.Call (.Name "reversed" q) [a] [] pos') X.env) :: [])) _ _ s
 refine Calls.spliced_cons ?_
 refine Call_ (vm I hg' hm' dt (PyProof.Rows.callWith_type1 (thn (ha pos' pins s σ H _ I h) fun us s1 hZ1=>?_) hs rfl))
 obtain ⟨vs,H1,I1,r1,q1⟩:=hZ1
 obtain ⟨a,xs,e,hq,q⟩:=q1
 subst e
 cases r1 with
 | cons r rr=>
  cases rr
  cases r
  obtain ⟨its,rv,pl,hz⟩:=I1.list hq
  have hl:=rv.length
  have hlt:a < s1.heap.objs.size:=by obtain ⟨_,e,_⟩:=pl.isList;exact Heap.lt_size e
  refine call_reversed_list pl.isList ?_
  refine Calls.spliced_nil ?_
  have hit:(s1.heap.push (revObj a ((its.toArray.size:Int) - 1))).IsRevIter s1.heap.objs.size a ((its.toArray.size:Int) - 1 - ((0:Nat):Int)):=by
   refine ⟨_,Heap.get?_push_size _ rfl,rfl,?_⟩
   simp only [revObj]
   simp
  have kp:∀ b o,s1.heap.get? b=some o→(s1.heap.push (revObj a ((its.toArray.size:Int) - 1))).get? b=some o:=fun b o e=>Heap.get?_push_of_some _ e
  refine Ws (I1.ok.hd hc) hit (pl.isList.at fun o e=>kp _ o e) (Nat.ne_of_lt hlt) (by rw [List.size_toArray];omega) fun h' tk acc c hk e' hacc=>?_
  refine ⟨.ref _,_,I1.laid (o:=.lst xs.reverse) (t':=tk) (fun b u e=>hk b u (Nat.ne_of_lt (Heap.lt_size e)) (kp b u e)) (by rw [Heap.size_push];exact Nat.le_succ _) ⟨by rw [List.length_reverse];omega,acc.toList,c,?_,e'⟩,rfl,q _ (I1.hok.fresh (by rw [Heap.size_push];exact Nat.le_succ _))⟩
  have hv:=Em (f:=fun i=>xs.getD (xs.length - 1 - i) .non) (fun i v hv=>by
   have hv':its.toArray[its.toArray.size - 1 - i]? = some v:=hv
   rw [List.size_toArray,← hl,List.getElem?_toArray] at hv'
   have hj:=(List.getElem?_eq_some_iff.mp hv').1
   have hx:xs[xs.length - 1 - i]? = some xs[xs.length - 1 - i]:=List.getElem?_eq_getElem (by omega)
   obtain ⟨w,hw,rw'⟩:=rv.get hx
   rw [hv'] at hw
   cases hw
   rw [List.getD_eq_getElem?_getD,hx]
   exact rw') hacc
  have er:(List.range its.toArray.size).map (fun i=>xs.getD (xs.length - 1 - i) .non)=xs.reverse:=by
   rw [List.size_toArray,← hl]
   refine List.ext_getElem (by simp) fun i h1 h2=>?_
   rw [List.getElem_map,List.getElem_range,List.getElem_reverse,List.getD_eq_getElem?_getD,List.getElem?_eq_getElem (by simp at h2;omega)];rfl
  rw [er] at hv
  exact hv
end
section
variable {prog:Program} {w:World} {A:Around} {R:Result→Shared→Prop} {I:Addr} {fp wr:List Addr} {n:Nat} {P:Nat→Value→Prop} {St:Nat→Heap→Prop}
noncomputable def gM (P:Nat→Value→Prop) (bt:Nat→Nat→Bool) (j:Nat) (acc:Array Value):Prop:=(j=0∧acc=#[])∨∃ vb i,j=i + 1∧acc=#[vb,vb]∧P (argBest bt i) vb
theorem dD (W:Walks prog w A.in1 I fp wr n P St) (bt:Nat→Nat→Bool) (hcmp:CmpOf prog w A.in1 .Lt P bt) (S:Addr) (hSf:S ∉ fp) (dv:Value) (kn:Str) :
  ∀ (k j:Nat) (s:Shared) (acc:Array Value) (c:Nat),n - j=k→j ≤ n→St j s.heap→gM P bt j acc →
  s.heap.get? S=some { cls:=.type "list",dict:=none,data:=.seq acc c,slots:=#[] } →
  (∀ v h' tk,(n=0∧v=dv)∨(0 < n∧P (argBest bt (n - 1)) v)→(∀ b o,b ∉ wr→b ≠ S→s.heap.get? b=some o→h'.get? b=some o)→R (.ok (.ret v)) { s with heap:=h',toks:=tk }) →
  codeAny (model prog w) A (.builtin "min.loop" ⟨[.ref I,.none,.ref S],[(kn,dv)]⟩) R s:=by
 have hSw:S ∉ wr:=fun h=>hSf (W.sub _ h)
 have hname:(toString "min" ++ toString ".loop" : String) = "min.loop" := by decide
 intro k
 induction k with
 | zero=>
  intro j s acc c hk hj hst hB hS hR
  have hin:j=n:=by omega
  refine codeAny_builtin PySem.F.entry_min_loop ?_
  rw [Around.under_plainId PySem.F.plain_min_loop _]
  show wpAny _ A.in1 (seqItems? (.ref S) >>= _) _ _ s
  refine wpAny_bind (wpAny_seqItems hS rfl ?_)
  show wpAny _ A.in1 (tryCatch (pyNext (.ref I)) _ >>= _) _ _ s
  refine wpAny_bind (wpAny_tryCatch (W.done s _ _ (hin ▸ hst) fun h' tk hk'=>?_))
  have hS':=hk' S _ hSw hS
  rcases hB with ⟨h0,rfl⟩ | ⟨vb,i,hi,rfl,hP⟩
  ·show wpAny _ A.in1 (rule _ >>= _) _ _ _
   refine wpAny_bind (wpAny_rule (wpAny_pure ?_))
   exact hR dv h' tk (.inl ⟨by omega,rfl⟩) fun b o hbw hbS e=>hk' b o hbw e
  ·show wpAny _ A.in1 (updateSeq S (fun _=>#[]) >>= _) _ _ _
   refine wpAny_bind ?_
   refine wpAny_updateSeq hS' rfl (wpAny_bind (wpAny_letGo (wpAny_pure ?_)))
   refine hR vb _ tk (.inr ⟨by omega,by rw [show n - 1=i by omega];exact hP⟩) fun b o hbw hbS e=>(Heap.get?_update_other _ _ (Ne.symm hbS)).trans (hk' b o hbw e)
 | succ k ih=>
  intro j s acc c hk hj hst hB hS hR
  have hlt:j < n:=by omega
  refine codeAny_builtin PySem.F.entry_min_loop ?_
  rw [Around.under_plainId PySem.F.plain_min_loop _]
  show wpAny _ A.in1 (seqItems? (.ref S) >>= _) _ _ s
  refine wpAny_bind (wpAny_seqItems hS rfl ?_)
  show wpAny _ A.in1 (tryCatch (pyNext (.ref I)) _ >>= _) _ _ s
  refine wpAny_bind (wpAny_tryCatch (W.item j s _ _ hlt hst fun v h' tk hP hst' hk'=>?_))
  have hS':=hk' S _ hSw hS
  have put:∀ h'':Heap,h''=h'.update S (Obj.mapSeq (fun _=>#[v,v]))→St (j + 1) h'':=fun h'' e=>by
   subst e
   exact W.frame _ _ _ hst' fun b hbf o e=>(Heap.get?_update_other _ _ (fun h:S=b=>hSf (by rw [h];exact hbf))).trans e
  rcases hB with ⟨h0,rfl⟩ | ⟨vb,i,hi,rfl,hPb⟩
  ·show wpAny _ A.in1 (updateSeq S (fun _=>#[v,v]) >>= _) _ _ _
   refine wpAny_bind ?_
   refine wpAny_updateSeq hS' rfl ?_
   rw [hname]
   refine wpAny_pure ⟨plainId_quiet PySem.F.plain_min_loop _,ih (j + 1) _ #[v,v] _ (by omega) hlt (put _ rfl) (.inr ⟨v,j,rfl,rfl,by subst h0;exact hP⟩) (Heap.get?_update_self _ hS' rfl) fun v' h'' tk'' hP' hk''=>?_⟩
   exact hR v' h'' tk'' hP' fun b o hbw hbS e=>hk'' b o hbw hbS ((Heap.get?_update_other _ _ (Ne.symm hbS)).trans (hk' b o hbw e))
  ·subst hi
   show wpAny _ A.in1 (tryCatch (holding [v,v] (richCompare .Lt v vb >>= _)) _ >>= _) _ _ _
   refine wpAny_bind (wpAny_tryCatch (wpAny_holding (wpAny_bind (hcmp (i + 1) (argBest bt i) v vb _ _ _ hP hPb ?_))))
   refine wpAny_bind (wpAny_holding (wpAny_truthy_bool ?_))
   refine wpAny_bind (wpAny_letGo (wpAny_pure ?_))
   cases hb:bt (i + 1) (argBest bt i) with
   | true=>
    simp only [if_true]
    refine wpAny_bind ?_
    refine wpAny_updateSeq hS' rfl (wpAny_bind (wpAny_letGo ?_))
    rw [hname]
    refine wpAny_pure ⟨plainId_quiet PySem.F.plain_min_loop _,ih (i + 1 + 1) _ #[v,v] _ (by omega) hlt (put _ rfl) (.inr ⟨v,i + 1,rfl,rfl,by simp only [argBest,hb,if_true];exact hP⟩) (Heap.get?_update_self _ hS' rfl) fun v' h'' tk'' hP' hk''=>?_⟩
    exact hR v' h'' tk'' hP' fun b o hbw hbS e=>hk'' b o hbw hbS ((Heap.get?_update_other _ _ (Ne.symm hbS)).trans (hk' b o hbw e))
   | false=>
    simp only [Bool.false_eq_true,if_false]
    refine wpAny_bind (wpAny_letGo ?_)
    rw [hname]
    refine wpAny_pure ⟨plainId_quiet PySem.F.plain_min_loop _,ih (i + 1 + 1) _ #[vb,vb] c (by omega) hlt hst' (.inr ⟨vb,i + 1,rfl,rfl,by simp only [argBest,hb,Bool.false_eq_true,if_false];exact hPb⟩) hS' fun v' h'' tk'' hP' hk''=>?_⟩
    exact hR v' h'' tk'' hP' fun b o hbw hbS e=>hk'' b o hbw hbS (hk' b o hbw e)
end
section
variable {prog:Program} {w:World} {A:Around} {E:Value→Shared→Prop} {s:Shared}
theorem LA (a d:Value):argsOk "min" ⟨[a],[(Str.ofString "default",d)]⟩:=by unfold argsOk;kernel_rfl
theorem lD {l:Addr} {its:Array Value} {dv:Value} {Q:Value→Shared→Prop} (hh:A.handled=none) (hl:s.heap.IsList l its) (ks:List Int) (hk:its.size=ks.length) (hv:∀ (i:Nat) (v:Value),its[i]? = some v→∃ t,v=Value.int (ks.getD i 0) t)
  (hQ:∀ v h' tk,(ks=[]∧v=dv)∨(∃ m t,ks.min? = some m∧v=.int m t)→(∀ b o,s.heap.get? b=some o→h'.get? b=some o)→Q v { s with heap:=h',toks:=tk }) :
  wpAny (model prog w) A (call (.builtin "min") [.ref l] [(Str.ofString "default",dv)]) Q E s:=by
 have hname:(toString "min" ++ toString ".loop" : String) = "min.loop" := by decide
 have hlt:l < s.heap.objs.size:=by obtain ⟨_,e,_⟩:=hl;exact Heap.lt_size e
 refine wpAny_call (codeAny_call_builtin PySem.F.plain_min PySem.F.entry_min ?_)
 simp only [checkBuiltinCall,PySem.F.kind_min]
 have key:wpAny (model prog w) A.in1 (Builtin.«min» ⟨[.ref l],[(Str.ofString "default",dv)]⟩) (fun fin s'=>match fin with
   | .done f=>(match (Except.ok f:Result) with | .ok (.ret v)=>Q v s' | .ok _=>False | .error e=>E e s')
   | .again c'=>c'.quiet=true∧codeAny (model prog w) A c' (fun r s'=>match r with | .ok (.ret v)=>Q v s' | .ok _=>False | .error e=>E e s') s') E s:=by
  show wpAny _ A.in1 (Builtin.Builtins.bindParams "min" ["key","default"] 0 ⟨[],[(Str.ofString "default",dv)]⟩ >>= _) _ _ s
  refine wpAny_bind (wpAny_of_eq (show Builtin.Builtins.bindParams "min" ["key","default"] 0 ⟨[],[(Str.ofString "default",dv)]⟩=pure [none,some dv] from rfl) ?_)
  refine wpAny_bind (wpAny_pure ?_)
  refine wpAny_bind (wpAny_pyIter_list hl ?_)
  refine wpAny_bind (wpAny_newObj_type ?_)
  rw [hname]
  have W:=Walks.list (prog:=prog) (w:=w) (A:=A.in1) hh s.heap.objs.size l (Nat.ne_of_lt hlt) its
  have hz1:(s.heap.push { cls:=.type "list_iterator",data:=.fields #[.ref l,.int 0 0] }).objs.size=s.heap.objs.size + 1:=Heap.size_push ..
  refine wpAny_pure ⟨plainId_quiet PySem.F.plain_min_loop _,dD W _ (CmpOf.ints_lt (fun i=>ks.getD i 0) fun i v h=>hv i v h) _ ?_ dv _ its.size 0 _ #[] _ rfl (Nat.zero_le _) ?_ (.inl ⟨rfl,rfl⟩) (Heap.get?_push_size _ rfl) fun v h' tk hP hk'=>?_⟩
  ·show (s.heap.push _).objs.size ∉ _
   rw [hz1]
   simp only [List.mem_cons,List.not_mem_nil,or_false,not_or]
   exact ⟨Nat.succ_ne_self _,Ne.symm (Nat.ne_of_lt (Nat.lt_succ_of_lt hlt))⟩
  ·exact W.frame 0 (s.heap.push { cls:=.type "list_iterator",data:=.fields #[.ref l,.int 0 0] }) _ ⟨⟨_,Heap.get?_push_size _ rfl,rfl,rfl⟩,hl.push _⟩ fun b _ o e=>Heap.get?_push_of_some _ e
  ·refine hQ v h' tk ?_ fun b o e=>hk' b o (fun hm=>?_) ?_ (Heap.get?_push_of_some _ (Heap.get?_push_of_some _ e))
   ·rcases hP with ⟨h0,h1⟩ | ⟨h0,h1⟩
    ·exact .inl ⟨List.length_eq_zero_iff.mp (by omega),h1⟩
    ·obtain ⟨t,e⟩:=hv _ v h1
     have hb:=argBest_lt (fun i=>ks.getD i 0) (its.size - 1)
     refine .inr ⟨_,t,?_,e⟩
     rw [List.min?_eq_some_iff]
     have hi:argBest (fun i j=>decide (ks.getD i 0 < ks.getD j 0)) (its.size - 1) < ks.length:=by omega
     refine ⟨?_,fun b hb'=>?_⟩
     ·rw [List.getD_eq_getElem?_getD,List.getElem?_eq_getElem hi]
      exact List.getElem_mem hi
     ·obtain ⟨j,hj,rfl⟩:=List.getElem_of_mem hb'
      have:=hb.2 j (by omega)
      rw [List.getD_eq_getElem?_getD (i:=j),List.getElem?_eq_getElem hj] at this
      exact this
   ·rw [List.mem_singleton.mp hm] at e
    exact absurd (Heap.lt_size e) (Nat.lt_irrefl _)
   ·rw [hz1]
    exact Nat.ne_of_lt (Nat.lt_succ_of_lt (Heap.lt_size e))
 cases hsig:Manifest.signature? "min" with
 | none=>exact wpAny_pure key
 | some sig=>
  have ha:=LA (.ref l) dv
  have ha':Bind.checkArgs "min" sig ⟨[.ref l],[(Str.ofString "default",dv)]⟩=pure ():=by simpa only [argsOk,hsig] using ha
  simp only [ha']
  exact wpAny_pure key
end
section
variable {X:Cx}
noncomputable def uL (K:PySem.W.Frag) (ta:TA) (td:TE):TE:=fun σ H Q=>ta σ H fun vs H1=>td σ H1 fun y H2=>∃ l ks,vs=[.ref l]∧SqL K H2 l (List.map V.int ks)∧Q (match ks.min? with | some m=>.int m | none=>y) H2
theorem eJ {a d:Expr} {ta:TA} {td:TE} {p kp pos:Pos} (hc:X.calm=true) (hg:Gl X "min") (hm:X.mg "min"=none) (ha:PA X [a] ta) (hd:PE X d td)
  (he:∀ pos,backTo pos (starEach [a] X.env)=(false,eval a X.env) :: backTo pos (starEach [] X.env):=by intro _;rfl) (hpl:∀ pos,(backTo pos (starEach [a] X.env)).any (·.1)=false:=by intro _;rfl) :
  PE X (.Call (.Name "min" p) [a] [⟨some "default",d,kp⟩] pos) (uL X.K ta td):=by
 intro pins s σ H Q I h
 refine wpAny_Call_Name_kw (vm I hg hm (show bootBuiltins "min"=some (.builtin "min") by decide +kernel) ?_)
 refine callWith_kw (id := "min") (thn (ha pos pins s σ H _ I h) fun us s1 hZ1=>?_) (he:=he pos) (hplain:=hpl pos)
 obtain ⟨vs,H1,I1,r1,q1⟩:=hZ1
 refine kws_cons (thn (hd pins s1 σ H1 _ I1 q1) fun v s2 ⟨y,H2,I2,r2,q2⟩=>kws_nil ?_)
 obtain ⟨l,ks,rfl,hq,q⟩:=q2
 cases r1 with
 | cons r rr=>
  cases rr
  cases r
  obtain ⟨its,rv,pl,hz⟩:=I2.list hq
  have hl:=rv.length
  rw [List.length_map] at hl
  refine lD (I2.ok.hd hc) pl.isList ks (by rw [List.size_toArray];omega) (fun i v hv=>?_) fun v' h' tk hv' hk=>⟨_,H2,I2.kept hk,?_,q⟩
  ·rw [List.getElem?_toArray] at hv
   have hi:i < ks.length:=by have:=(List.getElem?_eq_some_iff.mp hv).1;omega
   obtain ⟨w,hw,rw'⟩:=rv.get (show (ks.map V.int)[i]? = some (.int ks[i]) by rw [List.getElem?_map,List.getElem?_eq_getElem hi];rfl)
   rw [hv] at hw
   cases hw
   rw [List.getD_eq_getElem?_getD,List.getElem?_eq_getElem hi]
   exact rw'
  ·rcases hv' with ⟨rfl,rfl⟩ | ⟨m,t,hm,rfl⟩
   ·exact r2
   ·rw [hm];exact ⟨t,rfl⟩
end
end L2
namespace L2
open PySem PySem.Spec PyProof.Rows
structure xP (K:PySem.W.Frag) (C:Addr):Prop where
 x:Ar K C
 ha:PySem.W.findIn K (.ref C) "__class__"=some (some (.builtin "object.__class__"))
 hn:PySem.W.specialIn K (.builtin "object.__class__") "__get__"=some (some (.builtin "getset_descriptor.__get__"))
 htk:PySem.W.takesIn K (.builtin "object.__class__")=some true
 hm:PySem.W.mroIn K C (.type "object")=some true
section
variable {prog:Program} {w:World} {A:Around} {E:Value→Shared→Prop} {s:Shared} {K:PySem.W.Frag} {x C:Addr} {od:Obj} {dx:Addr} {vs:Array Value} {sl:Array (Option Value)}
end
noncomputable def XO (K:PySem.W.Frag) (neg:Bool):R2:=fun x y H Q=>∃ p qs f,y=.ref p∧SqL K H p (List.map V.ref qs)∧(∀ q ∈ qs,EqH K H 8 (.ref q) x (f q))∧Q (.bl (if neg then !(qs.any f) else qs.any f)) H
section
variable {X:Cx}
end
theorem Fb.quiet {P:Program} {w:World} {K:PySem.W.Frag} {mg:Str→Option Value} {base:Heap} {k:Nat} {f:Addr} {fd:FuncData} {ps:List Str} {sp sp':Sp} (F:Fb P w K mg base (CX1 P w) k f fd ps sp)
  (h:∀ vs H Q E,sp' vs H Q E→sp vs H Q (fun _ _ _=>False)):Fb P w K mg base CX0 k f fd ps sp':=by
 refine ⟨fun vs H Q E q=>F.len vs H _ _ (h vs H Q E q),fun A outer s H args us vs Q E hr he hb hv hs=>?_⟩
 refine codeAny_mono (F.run A outer s H args us vs Q _ hr he hb hv (h vs H Q E hs)) fun r s' hq=>?_
 cases r with
 | error e=>
  obtain ⟨x,C,od,H',T,_,_,_,_,_,_,_,_,_,z⟩:=hq
  exact z.elim
 | ok fl=>cases fl <;> exact hq
end L2
namespace L2
open PySem PySem.Spec PyProof.Rows
structure Hm (k:Nat) (A:Around):Prop where
 dp:A.depth + 3 * k + 5 < recursionLimit
 un:A.units + 16 * k + 200 < cLine
theorem ci.h {k:Nat} {A:Around} (r:ci k A):Hm k A:=⟨r.dp,r.un⟩
theorem Hm.mono {j k:Nat} {A:Around} (r:Hm k A) (h:j ≤ k):Hm j A:=⟨by have:=r.dp;omega,by have:=r.un;omega⟩
theorem Hm.deeper {k:Nat} {A:Around} (r:Hm (k + 1) A) (env:Env):Hm k (A.deeper env):=
 ⟨by have:=r.dp;show A.depth + 1 + 3 * k + 5 < _;omega,by have:=r.un;show A.units + 3 + 16 * k + 200 < _;omega⟩
theorem Hm.depth {k:Nat} {A:Around} (r:Hm k A):A.depth < recursionLimit:=by have:=r.dp;omega
theorem Hm.units {k:Nat} {A:Around} (r:Hm k A):A.units + 64 < cLine:=by have:=r.un;omega
theorem ci.hn {k:Nat} {X:Cx} {e:Value} (r:ci k X.A):Hm k (X.hn e).A:=⟨r.dp,r.un⟩
structure mJ (P:Program) (w:World) (K:PySem.W.Frag) (mg:Str→Option Value) (base:Heap) (CX:CXT) (k:Nat) (f:Addr) (fd:FuncData) (ps:List Str) (sp:Sp):Prop where
 len:∀ vs H Q E,sp vs H Q E→vs.length=ps.length
 run:∀ (A:Around) (outer:List Env) (s:Shared) (H:Hp) (args:Args) (us:List Value) (vs:List V) (Q:VK) (E:XK),Hm k A→jC P w K mg base A outer s H→BindsTo s fd args (ps.zip us)→Wc vs us→sp vs H Q E →
  codeAny (model P w) A (.call (.ref f) args) (CR CX outer P w H s Q E) s
theorem mJ.mono {P:Program} {w:World} {K:PySem.W.Frag} {mg:Str→Option Value} {base:Heap} {CX:CXT} {j k:Nat} {f:Addr} {fd:FuncData} {ps:List Str} {sp:Sp} (F:mJ P w K mg base CX j f fd ps sp) (h:j ≤ k) :
  mJ P w K mg base CX k f fd ps sp:=⟨F.len,fun A outer s H args us vs Q E hr=>F.run A outer s H args us vs Q E (hr.mono h)⟩
section
variable {X:Cx} {CX:CXT} {k:Nat} {f C:Addr} {fd:FuncData} {ps:List Str} {sp:Sp} {dvs:List V} {ds:List Value} {E:XK} {x m:Str} {p pos apos:Pos} {e o:Expr} {es:List Expr} {ta:TE} {t:TA}
end
noncomputable def IN (CX:CXT) (P:Program) (w:World) (K:PySem.W.Frag) (mg:Str→Option Value) (base:Heap) (N:List Str) (qual:Str) (scope:Scope) (f:Addr) (cd:Value) (A:Around) (outer:List Env) (s:Shared) (H:Hp) (E:XK):Cx where
 prog:=P
 w:=w
 K:=K
 mg:=mg
 base:=base
 A:=A.deeper (envOfC qual scope s.heap.objs.size f cd)
 N:=N
 s₀:=s
 H₀:=H
 env:=envOfC qual scope s.heap.objs.size f cd
 outer:=outer
 stack:=envOfC qual scope s.heap.objs.size f cd :: outer
 ex:=[]
 calm:=false
 fn:=fun _=>true
 pn:=[]
 xe:=fun e s'=>wpAny (model P w) (A.deeper (envOfC qual scope s.heap.objs.size f cd)) (leaving (envOfC qual scope s.heap.objs.size f cd) e) (fun _ s''=>CX outer H s E e s'') (fun e' s''=>CX outer H s E e' s'') s'
section
variable {P:Program} {w:World} {K:PySem.W.Frag} {mg:Str→Option Value} {base:Heap}
end
end L2
namespace L2
open PySem PySem.Spec PyProof.Rows
section
variable {X:Cx}
end
end L2
namespace L2
open PySem PySem.Spec PyProof.Rows
section
variable {α:Type} {M:List α→Prop}
theorem us1 (h:∀ a,M [a]):∀ us:List α,us.length=1→M us | [a],_=>h a
theorem us2 (h:∀ a b,M [a,b]):∀ us:List α,us.length=2→M us | [a,b],_=>h a b
theorem us3 (h:∀ a b c,M [a,b,c]):∀ us:List α,us.length=3→M us | [a,b,c],_=>h a b c
theorem us4 (h:∀ a b c d,M [a,b,c,d]):∀ us:List α,us.length=4→M us | [a,b,c,d],_=>h a b c d
theorem us5 (h:∀ a b c d e,M [a,b,c,d,e]):∀ us:List α,us.length=5→M us | [a,b,c,d,e],_=>h a b c d e
theorem us7 (h:∀ a b c d e f g,M [a,b,c,d,e,f,g]):∀ us:List α,us.length=7→M us | [a,b,c,d,e,f,g],_=>h a b c d e f g
theorem us8 (h:∀ a b c d e f g i,M [a,b,c,d,e,f,g,i]):∀ us:List α,us.length=8→M us | [a,b,c,d,e,f,g,i],_=>h a b c d e f g i
end
structure XB (K:PySem.W.Frag) (C:Addr):Prop where
 hd:PySem.W.hasDictIn K C=true
 ov:((PySem.W.clsIn K C).any fun cd=>KA cd.mro)=true
 sa:PySem.W.findIn K (.ref C) "__setattr__"=some (some (.builtin "object.__setattr__"))
 ga:PySem.W.findIn K (.ref C) "__getattribute__"=some (some (.builtin "BaseException.__getattribute__"))
 gt:PySem.W.findIn K (.ref C) "__getattr__"=some none
theorem Ct {K:PySem.W.Frag} {C f:Addr} (b:XB K C) (m:MkX K C f):Ar K C:=⟨b.hd,b.ov,b.sa,b.ga,b.gt,_,m.e⟩
structure IB (K:PySem.W.Frag) (C:Addr):Prop where
 ha:PySem.W.findIn K (.ref C) "__class__"=some (some (.builtin "object.__class__"))
 hn:PySem.W.specialIn K (.builtin "object.__class__") "__get__"=some (some (.builtin "getset_descriptor.__get__"))
 htk:PySem.W.takesIn K (.builtin "object.__class__")=some true
 hm:PySem.W.mroIn K C (.type "object")=some true
theorem WM {K:PySem.W.Frag} {C f:Addr} (i:PySem.W.isFn K (.ref f)=true) (e:Cs K C f=true) (k:PySem.W.keepIn K (.ref C)=true):MkX K C f:=⟨e,beq_iff_eq.mp i,k⟩
end L2
namespace L2
open PySem PySem.Spec PyProof.Rows
theorem bz {ks:List Int}:∀ {its:List Value},Wc (ks.map V.int) its→∃ xs:List (Int × Tok),its=xs.map (fun p=>Value.int p.1 p.2)∧xs.map (·.1)=ks:=by
 induction ks with
 | nil=>intro its r;cases r;exact ⟨[],rfl,rfl⟩
 | cons k ks ih=>
  intro its r
  cases r with
  | cons h t=>
   obtain ⟨xs,e1,e2⟩:=ih t
   obtain ⟨tk,rfl⟩:=(show ∃ t,_=Value.int k t from h)
   exact ⟨(k,tk) :: xs,by rw [List.map_cons,← e1],by rw [List.map_cons,e2]⟩
section
variable {X:Cx}
theorem UB (hc:X.calm=true):Nm X (.builtin "max") (fun xs H Q=>∃ l ks m,xs=[.ref l]∧SqL X.K H l (List.map V.int ks)∧(m ∈ ks∧∀ k ∈ ks,k ≤ m)∧Q (.int m) H):=by
 intro pins s σ H xs us Q I r h
 obtain ⟨l,ks,m,rfl,hq,hm,q⟩:=h
 obtain ⟨u,rfl,ru⟩:=zo r
 cases ru
 obtain ⟨its,rv,pl,hz⟩:=I.list hq
 obtain ⟨xs,e1,e2⟩:=bz rv
 have hil:its.toArray=intItems xs.toArray:=by rw [e1];unfold intItems;simp
 have hls:s.heap.IsList l (intItems xs.toArray):=by rw [← hil];exact pl.isList
 have hxl:xs.length=ks.length:=by rw [← e2,List.length_map]
 have hne:0 < xs.toArray.size:=by
  rw [List.size_toArray,hxl]
  exact List.length_pos_of_mem hm.1
 refine max_intList (I.ok.hd hc) hls hne fun v h' tk hv hk=>⟨.int m,H,I.kept hk,?_,q⟩
 obtain ⟨tv,rfl⟩:=intItems_at hv
 refine ⟨tv,?_⟩
 have hb:=argBest_gt (numAt xs.toArray) (xs.toArray.size - 1)
 generalize argBest (fun i j=>decide (numAt xs.toArray i > numAt xs.toArray j)) (xs.toArray.size - 1)=j at hb ⊢
 have hn:∀ i,i < ks.length→ks[i]? = some (numAt xs.toArray i):=fun i hi=>by
  rw [numAt_eq,List.getD_eq_getElem?_getD]
  show ks[i]? = some (((xs.map (·.1))[i]?).getD 0)
  rw [e2,List.getElem?_eq_getElem hi];rfl
 rw [List.size_toArray] at hb hne
 have h1:=hm.2 _ (List.mem_of_getElem? (hn j (by omega)))
 obtain ⟨i,hi⟩:=List.getElem?_of_mem hm.1
 have hil:i < ks.length:=(List.getElem?_eq_some_iff.mp hi).1
 have h2:=hb.2 i (by omega)
 have h3:m=numAt xs.toArray i:=Option.some.inj (hi.symm.trans (hn i hil))
 rw [show numAt xs.toArray j=m by omega]
noncomputable def JI (K:PySem.W.Frag):V→List V→Hp→VK→Prop:=fun x vs H Q=>∃ l ks k,x=.ref l∧vs=[.int k]∧SqL K H l (List.map V.int ks)∧k ∈ ks∧ks.length ≤ 1000∧Q (.int (ks.idxOf k:Nat)) H
end
end L2
namespace L2
open PySem PySem.Spec PyProof.Rows
noncomputable def Zz (p d:Addr):Heap→Prop:=fun h=>PySem.W.KdlKeysView h p d
noncomputable def Yz (p d:Addr):Heap→Prop:=fun h=>h.IsValuesView p d
theorem Zz.ok {P:Program} {w:World} {H:Hp} {h:Heap} {p d:Addr} (z:Zz p d h):kd P w H h p (.ext (Zz p d)):=
 ⟨z,let ⟨o,ho,_⟩:=z;⟨o,ho⟩,fun _ _ z1 k=>let ⟨o,ho,x⟩:=z1;⟨o,k o ho,x⟩⟩
theorem Yz.ok {P:Program} {w:World} {H:Hp} {h:Heap} {p d:Addr} (z:Yz p d h):kd P w H h p (.ext (Yz p d)):=
 ⟨z,let ⟨o,ho,_⟩:=z;⟨o,ho⟩,fun _ _ z1 k=>let ⟨o,ho,x⟩:=z1;⟨o,k o ho,x⟩⟩
theorem YN {P:Program} {w:World} {k:Key} {u:Value} (h:(Wd P w).is k u=true):yd (kV k) u:=by
 rcases Md h with ⟨i,t,rfl,rfl⟩ | ⟨x,t,rfl,rfl⟩
 ·exact ⟨t,rfl⟩
 ·exact ⟨t,rfl⟩
theorem gn {α β:Type} {F:α→β→Prop}:∀ {l₁:List α} {l₂:List β},Paired F l₁ l₂→∀ {i:Nat} {b:β},l₂[i]? = some b→∃ a,l₁[i]? = some a∧F a b
 | [],[],_,i,b,h=>by simp at h
 | a :: l₁,c :: l₂,r,i,b,h=>by
  cases r with
  | cons f r=>
   cases i with
   | zero=>exact ⟨a,rfl,by rw [show b=c by simpa using h.symm];exact f⟩
   | succ i=>
    rw [List.getElem?_cons_succ] at h ⊢
    exact gn r h
section
variable {X:Cx}
noncomputable def Vs:V→List V→Hp→VK→Prop:=fun x vs H Q=>∃ d kvs,x=.ref d∧vs=[]∧H d=some (.dK kvs)∧∀ p,H p=none→Q (.ref p) (upd H p (.ext (Zz p d)))
noncomputable def nM:V→List V→Hp→VK→Prop:=fun x vs H Q=>∃ d kvs,x=.ref d∧vs=[]∧H d=some (.dK kvs)∧∀ p,H p=none→Q (.ref p) (upd H p (.ext (Yz p d)))
theorem LI:MtR X "dict.keys" Vs:=by
 intro pins s σ H x xs v us Q I rx rv h
 obtain ⟨d,kvs,rfl,rfl,e,q⟩:=h
 cases (show v=Value.ref d from rx)
 cases rv
 obtain ⟨z,hd,vs,rel,dd⟩:=jD I.hok e
 refine call_meetsIn PySem.F.slot_dict_keys dd.typeIs PySem.F.entry_dict_keys (PySem.F.args_dict_keys_1 _) (PySem.W.kdl_meets_keys (Wd X.prog X.w) d hd) ⟨⟨_,dd⟩,?_⟩
 exact ⟨.ref _,_,I.laid (o:=.ext (Zz _ d)) (t':=s.toks) (fun b u e=>Heap.get?_push_of_some _ e) (Nat.le_refl _) (Zz.ok ⟨_,Heap.get?_push_size _ rfl,rfl,rfl⟩),rfl,q _ (I.hok.fresh (Nat.le_refl _))⟩
theorem HH:MtR X "dict.values" nM:=by
 intro pins s σ H x xs v us Q I rx rv h
 obtain ⟨d,kvs,rfl,rfl,e,q⟩:=h
 cases (show v=Value.ref d from rx)
 cases rv
 obtain ⟨z,hd,vs,rel,dd⟩:=jD I.hok e
 refine call_meetsIn PySem.F.slot_dict_values dd.typeIs PySem.F.entry_dict_values (PySem.F.args_dict_values_1 _) (meets_dict_values (Wd X.prog X.w) d hd) ⟨⟨_,dd⟩,?_⟩
 exact ⟨.ref _,_,I.laid (o:=.ext (Yz _ d)) (t':=s.toks) (fun b u e=>Heap.get?_push_of_some _ e) (Nat.le_refl _) (Yz.ok ⟨_,Heap.get?_push_size _ rfl,rfl,rfl⟩),rfl,q _ (I.hok.fresh (Nat.le_refl _))⟩
theorem Oz (hc:X.calm=true):Nm X (.type "list") (fun xs H Q=>∃ p d kvs,xs=[.ref p]∧H p=some (.ext (Zz p d))∧H d=some (.dK kvs)∧∀ l,H l=none→Q (.ref l) (upd H l (.lst (kvs.map fun q=>kV q.1)))):=by
 intro pins s σ H xs us Q I r h
 obtain ⟨p,d,kvs,rfl,ep,ed,q⟩:=h
 obtain ⟨u,rfl,ru⟩:=zo r
 cases ru
 obtain ⟨z,hd,vs,rel,dd⟩:=jD I.hok ed
 have hv:Zz p d s.heap:=(show kd X.prog X.w H s.heap p (.ext (Zz p d)) from I.hok _ _ ep).1
 obtain ⟨epn,da⟩:=dd.dictAt
 have hlen:=rel.length
 refine PySem.W.kdl_call (PySem.W.kdl_keys (knd:=Wd X.prog X.w) (kvs:=vs) (ep:=epn)) (I.ok.hd hc) ⟨hv,da⟩ (by omega) fun h' tk acc c hk hS hacc=>?_
 refine ⟨.ref _,_,I.laid (o:=.lst (kvs.map fun q=>kV q.1)) (t':=tk) hk (Nat.le_refl _) ⟨by rw [List.length_map];exact z,acc.toList,c,?_,hS⟩,rfl,q _ (I.hok.fresh (Nat.le_refl _))⟩
 have hv:=Em (f:=fun i=>((kvs[i]?).map fun q=>kV q.1).getD .non) (fun i v hv=>by
  obtain ⟨k,x,e1,e2⟩:=hv
  obtain ⟨a,e3,e4,_⟩:=gn rel e1
  rw [e3]
  show yd (kV a.1) v
  rw [e4]
  exact YN e2) hacc
 have er:(List.range vs.length).map (fun i=>((kvs[i]?).map fun q=>kV q.1).getD .non)=kvs.map fun q=>kV q.1:=by
  rw [← hlen]
  refine List.ext_getElem (by simp) fun i h1 h2=>?_
  rw [List.getElem_map,List.getElem_range,List.getElem_map,List.getElem?_eq_getElem (by simpa using h2)];rfl
 rw [er] at hv
 exact hv
theorem zz (hc:X.calm=true):Nm X (.type "list") (fun xs H Q=>∃ p d kvs,xs=[.ref p]∧H p=some (.ext (Yz p d))∧H d=some (.dK kvs)∧∀ l,H l=none→Q (.ref l) (upd H l (.lst (kvs.map fun q=>q.2)))):=by
 intro pins s σ H xs us Q I r h
 obtain ⟨p,d,kvs,rfl,ep,ed,q⟩:=h
 obtain ⟨u,rfl,ru⟩:=zo r
 cases ru
 obtain ⟨z,hd,vs,rel,dd⟩:=jD I.hok ed
 have hv:Yz p d s.heap:=(show kd X.prog X.w H s.heap p (.ext (Yz p d)) from I.hok _ _ ep).1
 obtain ⟨epn,da⟩:=dd.dictAt
 have hlen:=rel.length
 refine PySem.W.kdl_call (PySem.W.kdl_values (knd:=Wd X.prog X.w) (kvs:=vs) (ep:=epn)) (I.ok.hd hc) ⟨hv,da⟩ (by omega) fun h' tk acc c hk hS hacc=>?_
 refine ⟨.ref _,_,I.laid (o:=.lst (kvs.map fun q=>q.2)) (t':=tk) hk (Nat.le_refl _) ⟨by rw [List.length_map];exact z,acc.toList,c,?_,hS⟩,rfl,q _ (I.hok.fresh (Nat.le_refl _))⟩
 have hv:=Em (f:=fun i=>((kvs[i]?).map fun q=>q.2).getD .non) (fun i v hv=>by
  obtain ⟨k,e1⟩:=hv
  obtain ⟨a,e3,_,e4⟩:=gn rel e1
  rw [e3]
  exact e4) hacc
 have er:(List.range vs.length).map (fun i=>((kvs[i]?).map fun q=>q.2).getD .non)=kvs.map fun q=>q.2:=by
  rw [← hlen]
  refine List.ext_getElem (by simp) fun i h1 h2=>?_
  rw [List.getElem_map,List.getElem_range,List.getElem_map,List.getElem?_eq_getElem (by simpa using h2)];rfl
 rw [er] at hv
 exact hv
noncomputable def mB (K:PySem.W.Frag):V→List V→Hp→VK→Prop:=fun x vs H Q=>∃ l ys k j,x=.ref l∧vs=[.str k]∧SqL K H l (Eb ys)∧ys[j]? = some k∧(∀ m,m < j→ys[m]? ≠ some k)∧ys.length ≤ 1000∧Q (.int (j:Nat)) H
theorem vn (k:Str):∀ {vs:List Value} {ns:List Str},StrsAre vs ns→∀ (j:Nat) (h1:j < vs.length) (h2:j < ns.length),isStrOf k vs[j]=(ns[j] == k)
 | _,_,.cons n t _,0,_,_=>rfl
 | _,_,.cons n t r,j + 1,h1,h2=>vn k r j (Nat.lt_of_succ_lt_succ h1) (Nat.lt_of_succ_lt_succ h2)
theorem rp:∀ {vs:List Value} {ns:List Str},StrsAre vs ns→vs.length=ns.length
 | _,_,.nil=>rfl
 | _,_,.cons _ _ r=>congrArg (· + 1) (rp r)
theorem Lv:MtR X "list.index" (mB X.K):=by
 intro pins s σ H x xs v us Q I rx rv h
 obtain ⟨l,ks,k,j,rfl,rfl,hq,hk,hno,hl,q⟩:=h
 cases (show v=Value.ref l from rx)
 obtain ⟨u,rfl,ru⟩:=zo rv
 obtain ⟨tu,rfl⟩:=(show ∃ t,u=Value.str k t from ru)
 obtain ⟨its,ri,pl,hz⟩:=I.list hq
 have hi:=Vr ri
 have hlen:=rp hi
 have hj:j < ks.length:=(List.getElem?_eq_some_iff.mp hk).1
 obtain ⟨⟨cls,dd,data,sl⟩,ho,hc,n,hd⟩:=id pl.isList
 simp only at hc hd
 subst hc hd
 refine call_meets PySem.F.slot_list_index ⟨_,ho,rfl⟩ PySem.F.entry_list_index (PySem.F.args_list_index_2 _ _)
  (PySem.SeqAt.list_indexAt l its.toArray n dd sl (.str k tu) (isStrOf k) j (by simpa [hlen] using hj) (by omega) ?_ ?_) ⟨ho,fun y hy=>(eq_isStrOf k tu hi y (by simpa using hy)).at _ _,.int _,H,I.tok _,⟨_,rfl⟩,q⟩
 ·show isStrOf k its[j]=true
  rw [vn k hi _ (by omega) hj]
  simpa using (List.getElem?_eq_some_iff.mp hk).2
 ·intro m hm hlt
  show isStrOf k its[m]=false
  rw [vn k hi m (by simpa using hm) (by omega)]
  have:=hno m hlt
  rw [List.getElem?_eq_getElem (by omega)] at this
  simpa using this
end
end L2
namespace L2
open PySem PySem.Spec PyProof.Rows
theorem tI (i:Nat) (σ:St) (H:Hp) (Q:VK):eO i σ H Q=(∃ v,σ[i]? = some (some v)∧Q v H):=rfl
theorem EN (v:V) (x_0:St) (H:Hp) (Q:VK):tC v x_0 H Q=(Q v H):=rfl
theorem bJ (ta tb:TE) (σ:St) (H:Hp) (Q:VK):ZO ta tb σ H Q=(t2I ta tb (fun i j H2=>Q (.int (i + j)) H2) σ H):=rfl
theorem jK (ta tb:TE) (σ:St) (H:Hp) (Q:VK):bP ta tb σ H Q=(t2I ta tb (fun i j H2=>Q (.int (i - j)) H2) σ H):=rfl
theorem gK (ta tb:TE) (σ:St) (H:Hp) (Q:VK):pP ta tb σ H Q=(t2I ta tb (fun i j H2=>(-(2 ^ 64) < i∧i < 2 ^ 64)∧Q (.int (i * j)) H2) σ H):=rfl
theorem qI (p:Int→Int→Bool) (ta tb:TE) (σ:St) (H:Hp) (Q:VK):dP p ta tb σ H Q=(t2I ta tb (fun i j H2=>Q (.bl (p i j)) H2) σ H):=rfl
theorem TH (ta:TE) (σ:St) (H:Hp) (Q:VK):WO ta σ H Q=(ta σ H fun x H1=>Q (.bl (decide (x=.non))) H1):=rfl
theorem dE (ta:TE) (σ:St) (H:Hp) (Q:VK):uN ta σ H Q=(ta σ H fun x H1=>Q (.bl (!decide (x=.non))) H1):=rfl
theorem DN (t:TE) (σ:St) (H:Hp) (Q:(Bool→Hp→Prop)):tB t σ H Q=(t σ H fun x H1=>∃ c,x=.bl c∧Q c H1):=rfl
theorem oK (t u:TT) (σ:St) (H:Hp) (Q:(Bool→Hp→Prop)):QO t u σ H Q=(t σ H fun c H1=>if c=true then u σ H1 Q else Q false H1):=rfl
theorem RK (t u:TT) (σ:St) (H:Hp) (Q:(Bool→Hp→Prop)):tOr t u σ H Q=(t σ H fun c H1=>if c=true then Q true H1 else u σ H1 Q):=rfl
theorem vJ (t:TT) (σ:St) (H:Hp) (Q:(Bool→Hp→Prop)):AO t σ H Q=(t σ H fun c H1=>Q (!c) H1):=rfl
theorem qF (ta tb:TE) (σ:St) (H:Hp) (Q:VK):wM ta tb σ H Q=(ta σ H fun x H1=>∃ c,x=.bl c∧if c=true then tb σ H1 Q else Q (.bl false) H1):=rfl
theorem BI (ta tb:TE) (σ:St) (H:Hp) (Q:VK):yO ta tb σ H Q=(ta σ H fun x H1=>∃ c,x=.bl c∧if c=true then Q (.bl true) H1 else tb σ H1 Q):=rfl
theorem uE (ta:TE) (σ:St) (H:Hp) (Q:VK):BN ta σ H Q=(ta σ H fun x H1=>∃ c,x=.bl c∧Q (.bl (!c)) H1):=rfl
theorem JM (t:TT) (ta tb:TE) (σ:St) (H:Hp) (Q:VK):tIf t ta tb σ H Q=(t σ H fun c H1=>if c=true then ta σ H1 Q else tb σ H1 Q):=rfl
theorem zy (D:jg) (σ:St) (H:Hp):HM  D σ H=(D.nx σ H):=rfl
theorem Lb (t u:TS) (D:jg) (σ:St) (H:Hp):mO t u D σ H=(t { D with nx:=u D } σ H):=rfl
theorem YC (D:jg) (σ:St) (H:Hp):HL  D σ H=(D.bk σ H):=rfl
theorem JE (D:jg) (σ:St) (H:Hp):ZN  D σ H=(D.ct σ H):=rfl
theorem aG (te:TE) (D:jg) (σ:St) (H:Hp):vM te D σ H=(te σ H fun _ H1=>D.nx σ H1):=rfl
theorem oI (te:TE) (D:jg) (σ:St) (H:Hp):VN te D σ H=(te σ H D.rt):=rfl
theorem RF (D:jg) (x_1:St) (H:Hp):fO  D x_1 H=(D.rt .non H):=rfl
theorem fB (x_0:jg) (x_1:St) (x_2:Hp):OG  x_0 x_1 x_2=(False):=rfl
theorem qg (i:Nat) (v:V) (σ:St) (H:Hp) (Q:(St→Hp→Prop)):Su i v σ H Q=(Q (σ.set i (some v)) H):=rfl
theorem bI (vs:List V) (σ:St) (H:Hp) (Q:(St→Hp→Prop)):dN  vs σ H Q=(vs=[]∧Q σ H):=rfl
theorem tF (t:TG) (u:TGs) (vs:List V) (σ:St) (H:Hp) (Q:(St→Hp→Prop)):Yy t u vs σ H Q=(∃ v r,vs=v :: r∧t v σ H fun σ' H'=>u r σ' H' Q):=rfl
theorem fK (K:PySem.W.Frag) (n:Nat) (t:TGs) (v:V) (σ:St) (H:Hp) (Q:(St→Hp→Prop)):gL K n t v σ H Q=(∃ a xs,v=.ref a∧SqT K H a xs∧xs.length=n∧t xs σ H Q):=rfl
theorem SH (to ti:TE) (t:zK) (v:V) (σ:St) (H:Hp) (Q:(St→Hp→Prop)):VO to ti t v σ H Q=(to σ H fun o H1=>ti σ H1 fun i H2=>t o i v H2 fun H3=>Q σ H3):=rfl
theorem iI (te:TE) (g:TG) (D:jg) (σ:St) (H:Hp):kN te g D σ H=(te σ H fun x H1=>g x σ H1 D.nx):=rfl
theorem UI (i j:Nat) (ta:TA) (D:jg) (σ:St) (H:Hp):iP i j ta D σ H=(ta σ H fun vs H1=>∃ v w,vs=[v,w]∧D.nx ((σ.set i (some v)).set j (some w)) H1):=rfl
theorem tK (i:Nat) (te:TE) (ti:TIp) (D:jg) (σ:St) (H:Hp):cP i te ti D σ H=(∃ x,σ[i]? = some (some x)∧te σ H fun y H1=>ti x y H1 fun z H2=>D.nx (σ.set i (some z)) H2):=rfl
theorem HE (to ti te:TE) (tget:V→V→Hp→VK→Prop) (tip:TIp) (tset:zK) (D:jg) (σ:St) (H:Hp):LN to ti te tget tip tset D σ H=(to σ H fun o H1=>ti σ H1 fun i H2=>tget o i H2 fun x H3=>te σ H3 fun y H4=>tip x y H4 fun z H5=>tset o i z H5 fun H6=>D.nx σ H6):=rfl
theorem FE (K:PySem.W.Frag) (tl:TE) (σ:St) (H:Hp) (R:(It→Hp→Prop)):QM K tl σ H R=(tl σ H fun x H1=>∃ a,x=.ref a∧(∃ xs,SqL K H1 a xs)∧R (Itl K a) H1):=rfl
theorem wI (K:PySem.W.Frag) (tl:TE) (σ:St) (H:Hp) (R:(It→Hp→Prop)):rO K tl σ H R=(tl σ H fun x H1=>∃ a,x=.ref a∧(∃ xs,SqT K H1 a xs)∧R (Itt K a) H1):=rfl
theorem KK (r:R2) (ta tb:TE) (σ:St) (H:Hp) (Q:VK):tOp r ta tb σ H Q=(ta σ H fun x H1=>tb σ H1 fun y H2=>r x y H2 Q):=rfl
theorem eL (r:V→Hp→VK→Prop) (ta:TE) (σ:St) (H:Hp) (Q:VK):tUn r ta σ H Q=(ta σ H fun x H1=>r x H1 Q):=rfl
theorem QN (C:Int→Int→Prop) (g:Int→Int→V) (x:V) (y:V) (H:Hp) (Q:VK):rI C g x y H Q=(∃ i j,x=.int i∧y=.int j∧C i j∧Q (g i j) H):=rfl
theorem LM (g:Int→Int→V) (x:V) (y:V) (H:Hp) (Q:VK):rI0 g x y H Q=(∃ i j,x=.int i∧y=.int j∧Q (g i j) H):=rfl
theorem GN (g:Int→V) (x:V) (H:Hp) (Q:VK):rU g x H Q=(∃ i,x=.int i∧Q (g i) H):=rfl
theorem BM (x:V) (y:V) (H:Hp) (Q:VK):rEq  x y H Q=(ZK x y=true∧Q (.bl (decide (x=y))) H):=rfl
theorem MM (x:V) (y:V) (H:Hp) (Q:VK):rNe  x y H Q=(ZK x y=true∧Q (.bl (!decide (x=y))) H):=rfl
theorem FF (t:TE) (σ:St) (H:Hp) (Q:(Bool→Hp→Prop)):bM t σ H Q=(t σ H fun x H'=>∃ k,x=.bl k∧Q k H'):=rfl
theorem fC (r r':R2) (ta tb tc:TE) (σ:St) (H:Hp) (Q:VK):TL r r' ta tb tc σ H Q=(ta σ H fun x H1=>tb σ H1 fun y H2=>r x y H2 fun z H3=>∃ k,z=.bl k ∧
 (if k=true then tc σ H3 fun w' H4=>r' y w' H4 Q else Q (.bl false) H3)):=rfl
theorem SI (K:PySem.W.Frag) (ta:TE) (f:Str) (σ:St) (H:Hp) (Q:VK):vP K ta f σ H Q=(ta σ H fun x H1=>∃ a C dx fs v u,x=.ref a∧H1 a=some (.ins C dx fs)∧Cls K C∧Con K C f v u∧fs.lookup f=none∧Q v H1):=rfl
theorem PH (K:PySem.W.Frag) (ta tv:TE) (f:Str) (D:jg) (σ:St) (H:Hp):uO K ta tv f D σ H=(tv σ H fun y H1=>ta σ H1 fun x H2=>∃ a C dx fs,x=.ref a∧H2 a=some (.ins C dx fs)∧Cls K C∧Bb K C f∧fs.length < 1000 ∧
 D.nx σ (upd H2 a (.ins C dx (Ag f y fs)))):=rfl
theorem Sy (K:PySem.W.Frag) (ta tv:TE) (rd:V→V→Hp→VK→Prop) (f:Str) (D:jg) (σ:St) (H:Hp):wB K ta tv rd f D σ H=(ta σ H fun x H1=>∃ a C dx fs v,x=.ref a∧H1 a=some (.ins C dx fs)∧Cls K C∧Bb K C f∧fs.lookup f=some v ∧
 tv σ H1 fun y H2=>rd v y H2 fun z H3=>∃ dx' fs',H3 a=some (.ins C dx' fs')∧fs'.length < 1000∧D.nx σ (upd H3 a (.ins C dx' (Ag f z fs')))):=rfl
theorem eI (x:V) (y:V) (H:Hp) (Q:VK):IO  x y H Q=(∃ i j,x=.int i∧y=.int j∧Q (.int (i + j)) H):=rfl
theorem kI (x:V) (y:V) (H:Hp) (Q:VK):nP  x y H Q=(∃ i j,x=.int i∧y=.int j∧Q (.int (i - j)) H):=rfl
theorem IJ (x_0:St) (H:Hp) (Q:(List V→Hp→Prop)):cN  x_0 H Q=(Q [] H):=rfl
theorem VE (ta:TE) (tr:TA) (σ:St) (H:Hp) (Q:(List V→Hp→Prop)):KL ta tr σ H Q=(ta σ H fun x H1=>tr σ H1 fun xs H2=>Q (x :: xs) H2):=rfl
theorem NJ (t:TA) (σ:St) (H:Hp) (Q:VK):sO t σ H Q=(t σ H fun xs H1=>xs.length ≤ sizeLine∧∀ p,H1 p=none→Q (.ref p) (upd H1 p (.tup xs))):=rfl
theorem MI (t:TA) (σ:St) (H:Hp) (Q:VK):qO t σ H Q=(t σ H fun xs H1=>xs.length ≤ sizeLine∧∀ p,H1 p=none→Q (.ref p) (upd H1 p (.lst xs))):=rfl
theorem SE (sp:Sp) (dvs:List V) (E:XK) (t:TA) (σ:St) (H:Hp) (Q:VK):QJ sp dvs E t σ H Q=(t σ H fun vs H1=>sp (vs ++ dvs) H1 Q E):=rfl
theorem AF (C:Addr) (m:Str) (sp:Sp) (dvs:List V) (E:XK) (ta:TE) (t:TA) (σ:St) (H:Hp) (Q:VK):nI C m sp dvs E ta t σ H Q=(ta σ H fun x H1=>∃ a dx fs,x=.ref a∧H1 a=some (.ins C dx fs)∧fs.lookup m=none ∧
 t σ H1 fun vs H2=>sp (x :: (vs ++ dvs)) H2 Q E):=rfl
theorem QF (C:Addr) (sp:Sp) (dvs:List V) (E:XK) (t:TA) (σ:St) (H:Hp) (Q:VK):yL C sp dvs E t σ H Q=(t σ H fun vs H1=>∀ x dx,H1 x=none→H1 dx=none→dx ≠ x →
 sp (.ref x :: (vs ++ dvs)) (upd (upd H1 dx (.own x)) x (.ins C dx [])) (fun v H2=>v=.non∧Q (.ref x) H2) E):=rfl
theorem MB (sp:Sp) (gV:List V→List V→List V) (E:XK) (t tk:TA) (σ:St) (H:Hp) (Q:VK):wL sp gV E t tk σ H Q=(t σ H fun vs H1=>tk σ H1 fun zs H2=>sp (gV vs zs) H2 Q E):=rfl
theorem GM (r:List V→Hp→VK→Prop) (t:TA) (σ:St) (H:Hp) (Q:VK):tCB r t σ H Q=(t σ H fun vs H1=>r vs H1 Q):=rfl
theorem Cz (x_0:St) (H:Hp) (Q:(Option Int→Hp→Prop)):jB  x_0 H Q=(Q none H):=rfl
theorem WE (t:TE) (σ:St) (H:Hp) (Q:(Option Int→Hp→Prop)):rM t σ H Q=(t σ H fun x H1=>∃ i,x=.int i∧Q (some i) H1):=rfl
theorem TM (r:V→Option Int→Option Int→Hp→VK→Prop) (te:TE) (tl th:TO) (σ:St) (H:Hp) (Q:VK):tSl r te tl th σ H Q=(te σ H fun x H1=>tl σ H1 fun l H2=>th σ H2 fun u H3=>r x l u H3 Q):=rfl
theorem WJ (K:PySem.W.Frag) (x:V) (lo:Option Int) (hi:Option Int) (H:Hp) (Q:VK):GO K x lo hi H Q=(∃ a xs,x=.ref a∧SqT K H a xs ∧
 ¬ (HT.sIx xs.length 0 lo=0∧HT.sIx xs.length xs.length hi=xs.length)∧∀ p,H p=none→Q (.ref p) (upd H p (.tup (qD xs lo hi)))):=rfl
theorem VI (K:PySem.W.Frag) (x:V) (y:V) (H:Hp) (Q:VK):eP K x y H Q=(∃ a b ns ms,x=.ref a∧y=.ref b∧SqT K H a (ns.map V.int)∧SqT K H b (ms.map V.int)∧Q (.bl (HT.lexLt ns ms)) H):=rfl
theorem KF (K:PySem.W.Frag) (x:V) (y:V) (H:Hp) (Q:VK):LK K x y H Q=(∃ a b xs ys,x=.ref a∧y=.ref b∧SqT K H a xs∧SqT K H b ys∧xs ≠ []∧xs.length + ys.length ≤ sizeLine ∧
 (ys=[]→Q (.ref a) H)∧(ys ≠ []→∀ p,H p=none→Q (.ref p) (upd H p (.tup (xs ++ ys))))):=rfl
theorem JH (K:PySem.W.Frag) (x:V) (y:V) (H:Hp) (Q:VK):fN K x y H Q=(∃ p xs i v,x=.ref p∧y=.int i∧SqL K H p xs∧atI xs i=some v∧Q v H):=rfl
theorem fJ (K:PySem.W.Frag) (x:V) (y:V) (H:Hp) (Q:VK):gN K x y H Q=(∃ p xs i v,x=.ref p∧y=.int i∧SqT K H p xs∧atI xs i=some v∧Q v H):=rfl
theorem qK (x:V) (y:V) (H:Hp) (Q:VK):nN  x y H Q=(∃ z i c,x=.str z∧y=.int i∧z.length ≤ sizeLine∧atI z.cps.toList i=some c∧Q (.str ⟨#[c]⟩) H):=rfl
theorem IM (K:PySem.W.Frag) (x:V) (y:V) (H:Hp) (Q:VK):rIx K x y H Q=(fN K x y H Q∨gN K x y H Q∨nN x y H Q):=rfl
theorem nF (o:V) (i:V) (v:V) (H:Hp) (Q:(Hp→Prop)):rL  o i v H Q=(∃ p xs k j,o=.ref p∧i=.int k∧H p=some (.lst xs)∧ixN xs.length k=some j∧Q (upd H p (.lst (xs.set j v)))):=rfl
theorem zJ (K:PySem.W.Frag) (x:V) (lo:Option Int) (hi:Option Int) (H:Hp) (Q:VK):FO K x lo hi H Q=(∃ a xs,x=.ref a∧SqL K H a xs∧∀ p,H p=none→Q (.ref p) (upd H p (.lst (qD xs lo hi)))):=rfl
theorem OM (K:PySem.W.Frag) (neg:Bool) (x:V) (y:V) (H:Hp) (Q:VK):rIn K neg x y H Q=(∃ p xs,y=.ref p∧(SqL K H p xs∨SqT K H p xs)∧cj x=true∧xs.all cj=true∧Q (.bl (if neg then !inV x xs else inV x xs)) H):=rfl
theorem gJ (K:PySem.W.Frag) (T:String) (r:V→List V→Hp→VK→Prop) (to:TE) (σ:St) (H:Hp) (Q:VK):vO K T r to σ H Q=(to σ H fun x H1=>tyV K T x H1∧r x [] H1 Q):=rfl
theorem CL (K:PySem.W.Frag) (T:String) (r:V→List V→Hp→VK→Prop) (to:TE) (t:TA) (σ:St) (H:Hp) (Q:VK):tBM K T r to t σ H Q=(to σ H fun x H1=>tyV K T x H1∧t σ H1 fun xs H2=>r x xs H2 Q):=rfl
theorem Bz (x:V) (vs:List V) (H:Hp) (Q:VK):rB  x vs H Q=(∃ l xs y,x=.ref l∧vs=[y]∧H l=some (.lst xs)∧xs.length < sizeLine∧Q .non (upd H l (.lst (xs ++ [y])))):=rfl
theorem Sz (x:V) (vs:List V) (H:Hp) (Q:VK):ZH  x vs H Q=(∃ l b xs zs,x=.ref l∧vs=[.ref b]∧H l=some (.lst xs)∧H b=some (.lst zs)∧xs.length + zs.length ≤ sizeLine∧Q .non (upd H l (.lst (xs ++ zs)))):=rfl
theorem RJ (x:V) (vs:List V) (H:Hp) (Q:VK):aP  x vs H Q=(∃ l xs y,x=.ref l∧vs=[]∧H l=some (.lst xs)∧xs[xs.length - 1]? = some y∧Q y (upd H l (.lst xs.dropLast))):=rfl
theorem XC (x:V) (vs:List V) (H:Hp) (Q:VK):zM  x vs H Q=(∃ l xs i k y,x=.ref l∧vs=[.int i]∧H l=some (.lst xs)∧-(2 ^ 63) ≤ i∧i < 2 ^ 63∧seqIndex? i xs.length=some k∧xs[k]? = some y∧Q y (upd H l (.lst (xs.eraseIdx k)))):=rfl
theorem cx (x:V) (vs:List V) (H:Hp) (Q:VK):TF  x vs H Q=(∃ l xs,x=.ref l∧vs=[]∧H l=some (.lst xs)∧Q .non (upd H l (.lst xs.reverse))):=rfl
theorem tD (x:V) (vs:List V) (H:Hp) (Q:VK):PM  x vs H Q=(∃ l xs,x=.ref l∧vs=[]∧H l=some (.lst xs)∧Q .non (upd H l (.lst []))):=rfl
theorem OI (x:V) (y:V) (H:Hp) (Q:VK):mP  x y H Q=(∃ l b xs zs,x=.ref l∧y=.ref b∧H l=some (.lst xs)∧H b=some (.lst zs)∧xs.length + zs.length ≤ sizeLine∧∀ p,H p=none→Q (.ref p) (upd H p (.lst (xs ++ zs)))):=rfl
theorem XH (x:V) (y:V) (H:Hp) (Q:VK):jP  x y H Q=(∃ l k xs,x=.ref l∧y=.int k∧H l=some (.lst xs)∧-(2 ^ 63) ≤ k∧k < 2 ^ 63∧xs.length * k.toNat ≤ sizeLine ∧
 ∀ p,H p=none→Q (.ref p) (upd H p (.lst (List.replicate k.toNat xs).flatten))):=rfl
theorem OF (td ty:TE) (σ:St) (H:Hp) (Q:VK):JK td ty σ H Q=(td σ H fun x H1=>ty σ H1 fun y H2=>∃ a v,x=.ref a∧nk H2 a y (some v)∧Q v H2):=rfl
theorem VH (ty td:TE) (σ:St) (H:Hp) (Q:VK):lP ty td σ H Q=(ty σ H fun y H1=>td σ H1 fun x H2=>∃ a o,x=.ref a∧nk H2 a y o∧Q (.bl o.isSome) H2):=rfl
theorem Tz (ty td:TE) (σ:St) (H:Hp) (Q:VK):QC ty td σ H Q=(ty σ H fun y H1=>td σ H1 fun x H2=>∃ a o,x=.ref a∧nk H2 a y o∧Q (.bl (!o.isSome)) H2):=rfl
theorem QE (td ty tv:TE) (D:jg) (σ:St) (H:Hp):GK td ty tv D σ H=(tv σ H fun v H1=>td σ H1 fun x H2=>ty σ H2 fun y H3=>∃ a H4,x=.ref a∧ww H3 a y v H4∧D.nx σ H4):=rfl
theorem lF (td ty tv:TE) (rd:V→V→Hp→VK→Prop) (D:jg) (σ:St) (H:Hp):PN td ty tv rd D σ H=(td σ H fun x H1=>ty σ H1 fun y H2=>∃ a v,x=.ref a∧nk H2 a y (some v) ∧
 tv σ H2 fun y2 H3=>rd v y2 H3 fun z H4=>∃ H5,ww H4 a y z H5∧D.nx σ H5):=rfl
theorem tE (td ty:TE) (D:jg) (σ:St) (H:Hp):XN td ty D σ H=(td σ H fun x H1=>ty σ H1 fun y H2=>∃ a kvs k,x=.ref a∧H2 a=some (.dK kvs)∧y=kV k∧(Wj kvs k).isSome=true∧D.nx σ (upd H2 a (.dK (Cv kvs k)))):=rfl
theorem jA (x_0:St) (H:Hp) (Q:VK):AG  x_0 H Q=(∀ p,H p=none→Q (.ref p) (upd H p (.dK []))):=rfl
theorem WA (x_0:St) (H:Hp) (Q:VK):lM  x_0 H Q=(∀ p,H p=none→Q (.ref p) (upd H p (.dT []))):=rfl
theorem VD (trs:List (TE × TE)) (σ:St) (H:Hp) (Q:VK):UN trs σ H Q=(∀ p,H p=none→MC trs σ (upd H p (.dK [])) fun ps H2=>H2 p=some (.dK [])∧∃ kvs:List (Key × V),ps=kvs.map (fun kv=>(kV kv.1,kv.2))∧kvs.length ≤ 15∧Q (.ref p) (upd H2 p (.dK (kH [] kvs)))):=rfl
theorem sB (td ty:TE) (σ:St) (H:Hp) (Q:VK):RM td ty σ H Q=(td σ H fun x H1=>∃ a,x=.ref a∧IsD H1 a∧ty σ H1 fun y H2=>∃ o,nk H2 a y o∧Q (o.getD .non) H2):=rfl
theorem yC (td ty tx:TE) (σ:St) (H:Hp) (Q:VK):DM td ty tx σ H Q=(td σ H fun x H1=>∃ a,x=.ref a∧IsD H1 a∧ty σ H1 fun y H2=>tx σ H2 fun z H3=>∃ o,nk H3 a y o∧Q (o.getD z) H3):=rfl
theorem gC (td ty:TE) (σ:St) (H:Hp) (Q:VK):sL td ty σ H Q=(td σ H fun x H1=>∃ a,x=.ref a∧IsD H1 a∧ty σ H1 fun y H2=>∃ kvs k v,H2 a=some (.dK kvs)∧y=kV k∧Wj kvs k=some v∧Q v (upd H2 a (.dK (Cv kvs k)))):=rfl
theorem aC (td ty tx:TE) (σ:St) (H:Hp) (Q:VK):NM td ty tx σ H Q=(td σ H fun x H1=>∃ a,x=.ref a∧IsD H1 a∧ty σ H1 fun y H2=>tx σ H2 fun z H3=>∃ kvs k,H3 a=some (.dK kvs)∧y=kV k ∧
 (∀ v,Wj kvs k=some v→Q v (upd H3 a (.dK (Cv kvs k))))∧(Wj kvs k=none→Q z H3)):=rfl
theorem LE (x_0:St) (H:Hp) (Q:(Bool→Hp→Prop)):ix  x_0 H Q=(Q true H):=rfl
theorem FI (tl:TE) (σ:St) (H:Hp) (R:(It→Hp→Prop)):oO tl σ H R=(tl σ H fun x H1=>∃ z,x=.str z∧R (Its (Vi z)) H1):=rfl
theorem UH (x:V) (lo:Option Int) (hi:Option Int) (H:Hp) (Q:VK):EO  x lo hi H Q=(∃ z,x=.str z∧z.length ≤ sizeLine∧Q (.str (Txt.slice z lo hi)) H):=rfl
theorem eG (K:PySem.W.Frag) (x:V) (vs:List V) (H:Hp) (Q:VK):jM K x vs H Q=(∃ sep p ys,x=.str sep∧vs=[.ref p]∧SqL K H p (Eb ys)∧(ys.map (·.length)).sum + ys.length * sep.length ≤ 16777216∧Q (.str (Txt.join sep ys)) H):=rfl
theorem VA (x:V) (vs:List V) (H:Hp) (Q:VK):NG  x vs H Q=(∃ z y,x=.str z∧vs=[.str y]∧y.length ≠ 0∧z.length + 2 ≤ sizeLine∧(Txt.split z y).length ≤ sizeLine∧∀ p,H p=none→Q (.ref p) (upd H p (.lst (Eb (Txt.split z y))))):=rfl
theorem Wz (x:V) (vs:List V) (H:Hp) (Q:VK):EJ  x vs H Q=(∃ z y i rest,x=.str z∧vs=[.str y]∧Builtin.Str.occurrences z y 0 z.length 1=i :: rest∧Q (.int (i:Nat)) H):=rfl
theorem yB (OK:Addr→Prop) (m:Str) (SPV:Addr→Sp) (E:XK) (ta:TE) (t:TA) (σ:St) (H:Hp) (Q:VK):CH OK m SPV E ta t σ H Q=(ta σ H fun x H1=>∃ a C dx fs,x=.ref a∧H1 a=some (.ins C dx fs)∧OK C∧fs.lookup m=none ∧
 t σ H1 fun vs H2=>SPV C (x :: vs) H2 Q E):=rfl
theorem TB (kvs:SVs) (ty:TE) (σ:St) (H:Hp) (Q:VK):zL kvs ty σ H Q=(ty σ H fun y H1=>∃ x v,y=.str x∧kvs.lookup x=some v∧Q v H1):=rfl
theorem nE (K:PySem.W.Frag) (ta:TA) (σ:St) (H:Hp) (R:(It→Hp→Prop)):BL K ta σ H R=(ta σ H fun vs H1=>∃ a,vs=[.ref a]∧(∃ xs,SqL K H1 a xs)∧R (Ite K a) H1):=rfl
theorem EI (K:PySem.W.Frag) (ta:TA) (σ:St) (H:Hp) (R:(It→Hp→Prop)):oP K ta σ H R=(ta σ H fun vs H1=>∃ a b,vs=[.ref a,.ref b]∧(∃ xs,SqL K H1 a xs)∧(∃ ys,SqL K H1 b ys)∧R (Itz K a b) H1):=rfl
theorem jI (K:PySem.W.Frag) (ta:TA) (σ:St) (H:Hp) (R:(It→Hp→Prop)):gP K ta σ H R=(ta σ H fun vs H1=>∃ a xs,vs=[.ref a]∧SqL K H1 a xs∧R (Itv K a xs.length) H1):=rfl
theorem gz (x:V) (vs:List V) (H:Hp) (Q:VK):lJ  x vs H Q=(∃ l xs i y,x=.ref l∧vs=[.int i,y]∧H l=some (.lst xs)∧0 ≤ i∧i < 2 ^ 62∧i ≤ (xs.length:Int)∧xs.length < sizeLine∧Q .non (upd H l (.lst (xs.take i.toNat ++ y :: xs.drop i.toNat)))):=rfl
theorem JJ (K:PySem.W.Frag) (x:V) (y:V) (H:Hp) (Q:VK):pO K x y H Q=(∃ p q b,x=.ref p∧y=.ref q∧EqH K H 8 (.ref p) (.ref q) b∧Q (.bl (!b)) H):=rfl
theorem dJ (K:PySem.W.Frag) (x:V) (y:V) (H:Hp) (Q:VK):YO K x y H Q=(∃ p q b,x=.ref p∧y=.ref q∧EqH K H 8 (.ref p) (.ref q) b∧Q (.bl b) H):=rfl
theorem AL (x_0:St) (H:Hp) (Q:(Hp→Prop)):tJ0  x_0 H Q=(Q H):=rfl
theorem uM (te:TE) (t:TJ) (σ:St) (H:Hp) (Q:(Hp→Prop)):tJI te t σ H Q=(te σ H fun v H1=>∃ i,v=.int i∧i.natAbs.log2 < 1920∧t σ H1 Q):=rfl
theorem QK (te:TE) (t:TJ) (σ:St) (H:Hp) (Q:(Hp→Prop)):tJS te t σ H Q=(te σ H fun v H1=>∃ x,v=.str x∧x.length ≤ 1000∧t σ H1 Q):=rfl
theorem oM (te:TE) (t:TJ) (σ:St) (H:Hp) (Q:(Hp→Prop)):tJR te t σ H Q=(te σ H fun v H1=>∃ x,v=.str x∧x.length ≤ 1000∧(∀ c ∈ x.cps.toList,c < 16 ^ 8)∧t σ H1 Q):=rfl
theorem oz (t:TJ) (σ:St) (H:Hp) (Q:VK):mD t σ H Q=(t σ H fun H1=>∀ y:Str,Q (.str y) H1):=rfl
theorem qA (K:PySem.W.Frag) (t:TA) (σ:St) (H:Hp) (Q:VK):KG K t σ H Q=(t σ H fun vs H1=>∃ x C od v,vs=[.ref x,v]∧H1 x=some (.ext (XF x C od))∧Ar K C∧Q .non H1):=rfl
theorem MA (C:Addr) (sp:Sp) (t:TA) (σ:St) (H:Hp) (Q:VK):ZG C sp t σ H Q=(t σ H fun vs H1=>vs.length ≤ sizeLine∧∀ x,H1 x=none→sp (.ref x :: vs) (upd H1 x (.ext (XF x C none))) (fun v H2=>v=.non∧Q (.ref x) H2) (fun _ _ _=>False)):=rfl
theorem NC (K:PySem.W.Frag) (ta tv:TE) (f:Str) (D:jg) (σ:St) (H:Hp):pG K ta tv f D σ H=(tv σ H fun y H1=>ta σ H1 fun x H2=>∃ a C,x=.ref a∧H2 a=some (.ext (XF a C none))∧Ar K C∧Bb K C f ∧
 ∀ dx,H2 dx=none→dx ≠ a→D.nx σ (upd (upd H2 a (.ext (XF a C (some dx)))) dx (.ext (XD dx [(f,y)])))):=rfl
theorem kB (K:PySem.W.Frag) (ta tv:TE) (f:Str) (D:jg) (σ:St) (H:Hp):VG K ta tv f D σ H=(tv σ H fun y H1=>ta σ H1 fun x H2=>∃ a C dx fs,x=.ref a∧H2 a=some (.ext (XF a C (some dx)))∧H2 dx=some (.ext (XD dx fs))∧Ar K C∧Bb K C f∧fs.length < 1000 ∧
 D.nx σ (upd H2 dx (.ext (XD dx (Ag f y fs))))):=rfl
theorem rF (K:PySem.W.Frag) (ta:TE) (f:Str) (σ:St) (H:Hp) (Q:VK):tL K ta f σ H Q=(ta σ H fun x H1=>∃ a C dx fs v,x=.ref a∧H1 a=some (.ext (XA a C (some dx)))∧H1 dx=some (.ext (XD dx fs))∧Ar K C∧Bb K C f∧fs.lookup f=some v∧Q v H1):=rfl
theorem AA (sp:Sp) (dvs:List V) (E:St→XK) (t:TA) (σ:St) (H:Hp) (Q:VK):sG sp dvs E t σ H Q=(t σ H fun vs H1=>sp (vs ++ dvs) H1 Q (E σ)):=rfl
theorem qB (C:Addr) (m:Str) (sp:Sp) (dvs:List V) (E:St→XK) (ta:TE) (t:TA) (σ:St) (H:Hp) (Q:VK):SL C m sp dvs E ta t σ H Q=(ta σ H fun x H1=>∃ a dx fs,x=.ref a∧H1 a=some (.ins C dx fs)∧fs.lookup m=none ∧
 t σ H1 fun vs H2=>sp (x :: (vs ++ dvs)) H2 Q (E σ)):=rfl
theorem uA (K:PySem.W.Frag) (E:St→XK) (te:TE) (D:jg) (σ:St) (H:Hp):jH K E te D σ H=(te σ H fun v H1=>∃ x C od,v=.ref x∧H1 x=some (.ext (XF x C od))∧Ar K C∧E σ (.ref C) od (upd H1 x (.ext (XA x C od)))):=rfl
theorem kF (ta:TA) (σ:St) (H:Hp) (R:(It→Hp→Prop)):KM ta σ H R=(ta σ H fun vs H1=>∃ i j:Int,vs=[.int i,.int j,.int (-1)]∧(-1073741824 ≤ i∧i < 1073741824∧-1073741824 ≤ j∧j < 1073741824)∧R (Itd i (i - j).toNat) H1):=rfl
theorem jx (K:PySem.W.Frag) (ta:TA) (σ:St) (H:Hp) (Q:VK):Px K ta σ H Q=(ta σ H fun vs H1=>∃ a xs,vs=[.ref a]∧SqL K H1 a xs∧∀ l,H1 l=none→Q (.ref l) (upd H1 l (.lst xs.reverse))):=rfl
theorem vE (K:PySem.W.Frag) (ta:TA) (td:TE) (σ:St) (H:Hp) (Q:VK):uL K ta td σ H Q=(ta σ H fun vs H1=>td σ H1 fun y H2=>∃ l ks,vs=[.ref l]∧SqL K H2 l (List.map V.int ks)∧Q (match ks.min? with | some m=>.int m | none=>y) H2):=rfl
theorem VJ (K:PySem.W.Frag) (neg:Bool) (x:V) (y:V) (H:Hp) (Q:VK):XO K neg x y H Q=(∃ p qs f,y=.ref p∧SqL K H p (List.map V.ref qs)∧(∀ q ∈ qs,EqH K H 8 (.ref q) x (f q))∧Q (.bl (if neg then !(qs.any f) else qs.any f)) H):=rfl
theorem ez (K:PySem.W.Frag) (x:V) (vs:List V) (H:Hp) (Q:VK):JI K x vs H Q=(∃ l ks k,x=.ref l∧vs=[.int k]∧SqL K H l (List.map V.int ks)∧k ∈ ks∧ks.length ≤ 1000∧Q (.int (ks.idxOf k:Nat)) H):=rfl
theorem GF (x:V) (vs:List V) (H:Hp) (Q:VK):Vs  x vs H Q=(∃ d kvs,x=.ref d∧vs=[]∧H d=some (.dK kvs)∧∀ p,H p=none→Q (.ref p) (upd H p (.ext (Zz p d)))):=rfl
theorem eF (x:V) (vs:List V) (H:Hp) (Q:VK):nM  x vs H Q=(∃ d kvs,x=.ref d∧vs=[]∧H d=some (.dK kvs)∧∀ p,H p=none→Q (.ref p) (upd H p (.ext (Yz p d)))):=rfl
theorem uz (K:PySem.W.Frag) (x:V) (vs:List V) (H:Hp) (Q:VK):mB K x vs H Q=(∃ l ys k j,x=.ref l∧vs=[.str k]∧SqL K H l (Eb ys)∧ys[j]? = some k∧(∀ m,m < j→ys[m]? ≠ some k)∧ys.length ≤ 1000∧Q (.int (j:Nat)) H):=rfl
noncomputable def Vh (J:It) (g:TG) (tb:TS) (D:jg) (σ:St) (H:Hp):Prop:=∃ W:Nat→Nat→St→Hp→Prop,(∃ m,W 0 m σ H)∧∀ i m σ H,W i m σ H →
 (J.stop i H∧D.nx σ H)∨(J.go i H∧∃ N:St→Hp→Prop,(∀ σ' H',N σ' H'→∃ m',m' < m∧W (i + 1) m' σ' H')∧∀ x H',J.yld i H x H'→g x σ H' fun σ2 H2=>tb { D with nx:=N,ct:=N,bk:=D.nx } σ2 H2)
theorem eK (wi:TI) (g:TG) (tb:TS) (D:jg) (σ:St) (H:Hp):MO wi g tb D σ H=wi σ H fun J H1=>Vh J g tb D σ H1:=rfl
noncomputable def Dd (J:It) (g:TG) (tc:TT) (te:TE) (σb:St) (Q:VK) (H:Hp):Prop:=∃ W:Nat→Nat→List V→Hp→Prop,(∃ m,W 0 m [] H)∧Iv J g tc te σb Q W
theorem rJ (K:PySem.W.Frag) (ta:TE) (f:Str) (σ:St) (H:Hp) (Q:VK):CN K ta f σ H Q=(ta σ H fun x H1=>∃ a v,x=.ref a∧Wi K H1 a f v∧Q v H1):=by
 unfold CN Wi
 congr 1
 funext x H1
 apply propext
 constructor
 ·rintro ⟨a,C,dx,fs,v,h1,h2,h3,h4,h5,h6⟩;exact ⟨a,v,h1,⟨C,dx,fs,h2,h3,h4,h5⟩,h6⟩
 ·rintro ⟨a,v,h1,⟨C,dx,fs,h2,h3,h4,h5⟩,h6⟩;exact ⟨a,C,dx,fs,v,h1,h2,h3,h4,h5,h6⟩
theorem iA (wi:TI) (g:TG) (tc:TT) (te:XK→TE) (sel:List (Option Nat)) (E:St→XK) (σ:St) (H:Hp) (Q:VK):aN wi g tc te sel E σ H Q=wi σ H fun J H1=>Dd J g tc (te (E σ)) (blk sel σ) Q H1:=rfl
theorem lE (wi:TI) (g:TG) (tc:TT) (te:TE) (sel:List (Option Nat)) (σ:St) (H:Hp) (Q:VK):FJ wi g tc te sel σ H Q=wi σ H fun J H1=>Dd J g tc te (blk sel σ) Q H1:=rfl
theorem pE (ta:TA) (σ:St) (H:Hp) (R:It→Hp→Prop):EM ta σ H R=(ta σ H fun vs H1=>∃ j:Int,vs=[.int j]∧-4611686018427387904 ≤ j∧j < 4611686018427387904∧R (Itr 0 j.toNat) H1):=rfl
theorem cG (ta:TA) (σ:St) (H:Hp) (R:It→Hp→Prop):AN ta σ H R=(ta σ H fun vs H1=>∃ i j:Int,vs=[.int i,.int j]∧(-4611686018427387904 ≤ i∧i < 4611686018427387904∧-4611686018427387904 ≤ j∧j < 4611686018427387904)∧R (Itr i (j - i).toNat) H1):=rfl
theorem RI (sel:List (Option Nat)) (σ:St):blk sel σ=sel.map fun o=>o.bind fun j=>(σ[j]?).join:=rfl
theorem Bc {c:TT} {t u:TS} {D:jg} {σ:St} {H:Hp} (b:Bool) (hc:∀ Q:Bool→Hp→Prop,Q b H→c σ H Q) (h1:b=true→t D σ H) (h2:b=false→u D σ H):HN c t u D σ H:=by
 refine hc _ ?_
 cases b with
 | true=>exact h1 rfl
 | false=>exact h2 rfl
theorem rg {c:TT} {t u:TS} {D:jg} {σ:St} {H:Hp} (R:Bool→Hp→Prop) (hc:∀ Q:Bool→Hp→Prop,(∀ b H',R b H'→Q b H')→c σ H Q) (h1:∀ H',R true H'→t D σ H') (h2:∀ H',R false H'→u D σ H'):HN c t u D σ H:=by
 refine hc _ fun b H' r=>?_
 cases b with
 | true=>exact h1 H' r
 | false=>exact h2 H' r
theorem qc {t:TS} {D:jg} {σ:St} {H:Hp} (R:St→Hp→Prop) (h:∀ D':jg,(∀ σ H,R σ H→D'.nx σ H)→D'.rt=D.rt→D'.bk=D.bk→D'.ct=D.ct→t D' σ H) (hR:∀ σ H,R σ H→D.nx σ H):t D σ H:=h D hR rfl rfl rfl
theorem lI {te:TE} {D:jg} {σ:St} {H:Hp} (v:V) (hc:∀ Q:VK,Q v H→te σ H Q) (h:D.rt v H):VN te D σ H:=hc _ h
theorem Jj (x y:Str):(x ++ y).length=x.length + y.length:=by
 show (x.cps ++ y.cps).size=_
 rw [Array.size_append];rfl
theorem Vh.range {lo:Int} {n:Nat} {g:TG} {tb:TS} {D:jg} {σ:St} {H:Hp} (Pv:Nat→St→Hp→Prop) (h0:Pv 0 σ H)
  (hs:∀ i σ H,i < n→Pv i σ H→g (.int (lo + i)) σ H fun σ2 H2=>tb { D with nx:=Pv (i + 1),ct:=Pv (i + 1),bk:=D.nx } σ2 H2) (hd:∀ σ H,Pv n σ H→D.nx σ H):Vh (Itr lo n) g tb D σ H:=iC Pv h0 hs hd
theorem Vh.list {K:PySem.W.Frag} {a:Addr} {xs:List V} {g:TG} {tb:TS} {D:jg} {σ:St} {H:Hp} (Pv:Nat→St→Hp→Prop) (h0:Pv 0 σ H) (hl:∀ i σ H,i ≤ xs.length→Pv i σ H→SqL K H a xs)
  (hs:∀ i x σ H,xs[i]? = some x→Pv i σ H→g x σ H fun σ2 H2=>tb { D with nx:=Pv (i + 1),ct:=Pv (i + 1),bk:=D.nx } σ2 H2) (hd:∀ σ H,Pv xs.length σ H→D.nx σ H):Vh (Itl K a) g tb D σ H:=NF Pv h0 hl hs hd
theorem Vh.its {xs:List V} {g:TG} {tb:TS} {D:jg} {σ:St} {H:Hp} (Pv:Nat→St→Hp→Prop) (h0:Pv 0 σ H)
  (hs:∀ i x σ H,xs[i]? = some x→Pv i σ H→g x σ H fun σ2 H2=>tb { D with nx:=Pv (i + 1),ct:=Pv (i + 1),bk:=D.nx } σ2 H2) (hd:∀ σ H,Pv xs.length σ H→D.nx σ H):Vh (Its xs) g tb D σ H:=sK Pv h0 hs hd
theorem Dd.list {K:PySem.W.Frag} {a:Addr} {xs:List V} {g:TG} {tc:TT} {te:TE} {σb:St} {Q:VK} {H:Hp} (Pv:Nat→List V→Hp→Prop) (hz:xs.length ≤ sizeLine) (h0:Pv 0 [] H) (hl:∀ i ys H,i ≤ xs.length→Pv i ys H→SqL K H a xs∧ys.length ≤ i)
  (hs:∀ i x ys H,xs[i]? = some x→Pv i ys H→zg Pv g tc te σb i x ys H) (hd:∀ ys H,Pv xs.length ys H→∀ p,H p=none→Q (.ref p) (upd H p (.lst ys))):Dd (Itl K a) g tc te σb Q H:=zC Pv hz h0 hl hs hd
theorem Dd.its {xs:List V} {g:TG} {tc:TT} {te:TE} {σb:St} {Q:VK} {H:Hp} (Pv:Nat→List V→Hp→Prop) (hz:xs.length ≤ sizeLine) (h0:Pv 0 [] H) (hl:∀ i ys H,i ≤ xs.length→Pv i ys H→ys.length ≤ i)
  (hs:∀ i x ys H,xs[i]? = some x→Pv i ys H→zg Pv g tc te σb i x ys H) (hd:∀ ys H,Pv xs.length ys H→∀ p,H p=none→Q (.ref p) (upd H p (.lst ys))):Dd (Its xs) g tc te σb Q H:=sE Pv hz h0 hl hs hd
theorem Dd.range {lo:Int} {n:Nat} {g:TG} {tc:TT} {te:TE} {σb:St} {Q:VK} {H:Hp} (Pv:Nat→List V→Hp→Prop) (hz:n ≤ sizeLine) (h0:Pv 0 [] H) (hl:∀ i ys H,i ≤ n→Pv i ys H→ys.length ≤ i)
  (hs:∀ i ys H,i < n→Pv i ys H→zg Pv g tc te σb i (.int (lo + i)) ys H) (hd:∀ ys H,Pv n ys H→∀ p,H p=none→Q (.ref p) (upd H p (.lst ys))):Dd (Itr lo n) g tc te σb Q H:=Gz Pv hz h0 hl hs hd
theorem Us {α β:Type} {xs:List α} {i:Nat} {x:α} (f:α→β) (h:xs[i]? = some x):(xs.take (i + 1)).map f=(xs.take i).map f ++ [f x]:=by
 rw [List.take_add_one,h,List.map_append];rfl
theorem Dd.its_map {xs:List V} {g:TG} {te:TE} {σb:St} {Q:VK} {H:Hp} (f:V→V) (hz:xs.length ≤ sizeLine) (hs:∀ (i:Nat) (x:V) (N:V→Hp→Prop),xs[i]? = some x→N (f x) H→g x σb H fun σ2 H2=>Sub σb σ2∧te σ2 H2 N)
  (hd:∀ p,H p=none→Q (.ref p) (upd H p (.lst (xs.map f)))):Dd (Its xs) g ix te σb Q H:=by
 refine Dd.its (fun i ys H'=>H'=H∧ys=(xs.take i).map f) hz ⟨rfl,rfl⟩ (fun i ys H' hi ⟨_,e⟩=>?_) (fun i x ys H' hx ⟨e1,e2⟩ N hN=>?_) (fun ys H' ⟨e1,e2⟩ p hp=>?_)
 ·rw [e,List.length_map,List.length_take];omega
 ·subst e1
  exact hs i x (fun y H4=>N (ys ++ [y]) H4) hx (hN _ _ ⟨rfl,by rw [e2,Us f hx]⟩)
 ·subst e1
  rw [e2,List.take_length]
  exact hd p hp
theorem Dd.range_map {lo:Int} {n:Nat} {g:TG} {te:TE} {σb:St} {Q:VK} {H:Hp} (f:Nat→V) (hz:n ≤ sizeLine) (hs:∀ (i:Nat) (N:V→Hp→Prop),i < n→N (f i) H→g (.int (lo + i)) σb H fun σ2 H2=>Sub σb σ2∧te σ2 H2 N)
  (hd:∀ p,H p=none→Q (.ref p) (upd H p (.lst ((List.range n).map f)))):Dd (Itr lo n) g ix te σb Q H:=by
 refine Dd.range (fun i ys H'=>H'=H∧ys=(List.range i).map f) hz ⟨rfl,rfl⟩ (fun i ys H' hi ⟨_,e⟩=>?_) (fun i ys H' hi ⟨e1,e2⟩ N hN=>?_) (fun ys H' ⟨e1,e2⟩ p hp=>?_)
 ·rw [e,List.length_map,List.length_range];exact Nat.le_refl _
 ·subst e1
  exact hs i (fun y H4=>N (ys ++ [y]) H4) hi (hN _ _ ⟨rfl,by rw [e2,List.range_succ,List.map_append];rfl⟩)
 ·subst e1
  rw [e2]
  exact hd p hp
theorem Dd.list_mk {K:PySem.W.Frag} {a:Addr} {xs:List V} {g:TG} {te:TE} {σb:St} {Q:VK} {H:Hp} (f:V→HO) (hl:SqL K H a xs) (hz:xs.length ≤ sizeLine) (hn:∀ x,noT (f x)=true)
  (hs:∀ (i:Nat) (x:V) (H1:Hp) (N:V→Hp→Prop),xs[i]? = some x→Kb H H1→(NoT H→NoT H1)→(∀ q,H1 q=none→N (.ref q) (upd H1 q (f x)))→g x σb H1 fun σ2 H2=>Sub σb σ2∧te σ2 H2 N)
  (hd:∀ (qs:List Addr) (H1:Hp),Kb H H1→(NoT H→NoT H1)→qs.length=xs.length→(∀ (j:Nat) (q:Addr) (x:V),qs[j]? = some q→xs[j]? = some x→H1 q=some (f x)∧H q=none)→∀ p,H1 p=none→Q (.ref p) (upd H1 p (.lst (qs.map V.ref)))):Dd (Itl K a) g ix te σb Q H:=by
 refine Dd.list (fun i ys H'=>∃ qs:List Addr,ys=qs.map V.ref∧qs.length=i∧Kb H H'∧(NoT H→NoT H')∧∀ (j:Nat) (q:Addr) (x:V),qs[j]? = some q→xs[j]? = some x→H' q=some (f x)∧H q=none) hz
  ⟨[],rfl,rfl,Kb.refl H,id,fun j q x h _=>by simp at h⟩ ?_ ?_ ?_
 ·rintro i ys H' hi ⟨qs,e,e2,sm,_,_⟩
  exact ⟨hl.same sm,by rw [e,List.length_map];omega⟩
 ·rintro i x ys H' hx ⟨qs,e1,e2,sm,nt,al⟩ N hN
  refine hs i x H' (fun y H4=>N (ys ++ [y]) H4) hx sm nt fun q hq=>hN _ _ ⟨qs ++ [q],by rw [e1,List.map_append];rfl,by rw [List.length_append,e2];rfl,sm.updN (sm.free hq),fun n=>(nt n).upd (hn x),fun j q' x' h1 h2=>?_⟩
  by_cases hj:j < qs.length
  ·rw [List.getElem?_append_left hj] at h1
   obtain ⟨z1,z2⟩:=al j q' x' h1 h2
   exact ⟨by rw [lb (qb z1 hq)];exact z1,z2⟩
  ·rw [List.getElem?_append_right (by omega)] at h1
   have hj0:j - qs.length=0:=by
    cases hh:j - qs.length with
    | zero=>rfl
    | succ n=>rw [hh] at h1;simp at h1
   rw [hj0] at h1
   have e3:q=q':=by simpa using h1
   subst e3
   have e4:j=i:=by omega
   subst e4
   rw [hx] at h2
   cases h2
   exact ⟨cb,sm.free hq⟩
 ·rintro ys H' ⟨qs,e1,e2,sm,nt,al⟩ p hp
  subst e1
  exact hd qs H' sm nt e2 al p hp
theorem Vh.of {J:It} {n:Nat} {g:TG} {tb:TS} {D:jg} {σ:St} {H:Hp} (Pv:Nat→St→Hp→Prop) (h0:Pv 0 σ H) (hgo:∀ i σ H,i < n→Pv i σ H→J.go i H) (hst:∀ σ H,Pv n σ H→J.stop n H)
  (hs:∀ i σ H x H',i < n→Pv i σ H→J.yld i H x H'→g x σ H' fun σ2 H2=>tb { D with nx:=Pv (i + 1),ct:=Pv (i + 1),bk:=D.nx } σ2 H2) (hd:∀ σ H,Pv n σ H→D.nx σ H):Vh J g tb D σ H:=by
 refine ⟨fun i m σ H=>m=n - i∧i ≤ n∧Pv i σ H,⟨n,by simp,Nat.zero_le _,h0⟩,?_⟩
 rintro i m σ H ⟨rfl,hi,p⟩
 by_cases hlt:i < n
 ·exact .inr ⟨hgo i σ H hlt p,Pv (i + 1),fun σ' H' p'=>⟨n - (i + 1),by omega,rfl,hlt,p'⟩,fun x H' y=>hs i σ H x H' hlt p y⟩
 ·have e:i=n:=by omega
  subst e
  exact .inl ⟨hst σ H p,hd σ H p⟩
theorem Dd.of {J:It} {n:Nat} {g:TG} {tc:TT} {te:TE} {σb:St} {Q:VK} {H:Hp} (Pv:Nat→List V→Hp→Prop) (hz:n ≤ sizeLine) (h0:Pv 0 [] H) (hgo:∀ i ys H,i < n→Pv i ys H→J.go i H) (hst:∀ ys H,Pv n ys H→J.stop n H) (hl:∀ i ys H,i < n→Pv i ys H→ys.length ≤ i)
  (hs:∀ i ys H x H',i < n→Pv i ys H→J.yld i H x H'→zg Pv g tc te σb i x ys H') (hd:∀ ys H,Pv n ys H→∀ p,H p=none→Q (.ref p) (upd H p (.lst ys))):Dd J g tc te σb Q H:=by
 refine ⟨fun i m ys H=>m=n - i∧i ≤ n∧Pv i ys H,⟨n,by simp,Nat.zero_le _,h0⟩,?_⟩
 rintro i m ys H ⟨rfl,hi,p⟩
 by_cases hlt:i < n
 ·have hyl:=hl i ys H hlt p
  refine .inr ⟨hgo i ys H hlt p,by omega,fun x H' y=>?_⟩
  exact hs i ys H x H' hlt p y (fun ys' H'=>∃ m',m' < n - i∧m'=n - (i + 1)∧i + 1 ≤ n∧Pv (i + 1) ys' H') fun ys' H' r=>⟨n - (i + 1),by omega,rfl,hlt,r⟩
 ·have e:i=n:=by omega
  subst e
  exact .inl ⟨hst ys H p,hd ys H p⟩
section
variable {K:PySem.W.Frag} {a b:Addr} {xs ys:List V} {g:TG} {tb:TS} {D:jg} {σ σb:St} {H:Hp} {tc:TT} {te:TE} {Q:VK}
theorem Vh.enum (Pv:Nat→St→Hp→Prop) (h0:Pv 0 σ H) (hl:∀ i σ H,i ≤ xs.length→Pv i σ H→SqL K H a xs)
  (hs:∀ i x σ H p,xs[i]? = some x→Pv i σ H→H p=none→g (.ref p) σ (upd H p (.tup [.int i,x])) fun σ2 H2=>tb { D with nx:=Pv (i + 1),ct:=Pv (i + 1),bk:=D.nx } σ2 H2) (hd:∀ σ H,Pv xs.length σ H→D.nx σ H):Vh (Ite K a) g tb D σ H:=by
 refine Vh.of (n:=xs.length) Pv h0 (fun i σ H hi p=>⟨xs,xs[i],hl i σ H (Nat.le_of_lt hi) p,by simp [hi]⟩) (fun σ H p=>⟨xs,hl _ σ H (Nat.le_refl _) p,Nat.le_refl _⟩) (fun i σ H v H' hi p y=>?_) hd
 obtain ⟨q,x,hq,rfl,hx,rfl⟩:=y
 exact hs i x σ H q (hx xs (hl i σ H (Nat.le_of_lt hi) p)) p hq
theorem Vh.zip (Pv:Nat→St→Hp→Prop) (h0:Pv 0 σ H) (hl:∀ i σ H,i ≤ xs.length→Pv i σ H→SqL K H a xs∧SqL K H b ys) (n:Nat) (hn:n=min xs.length ys.length)
  (hs:∀ i x y σ H p,xs[i]? = some x→ys[i]? = some y→Pv i σ H→H p=none→g (.ref p) σ (upd H p (.tup [x,y])) fun σ2 H2=>tb { D with nx:=Pv (i + 1),ct:=Pv (i + 1),bk:=D.nx } σ2 H2) (hd:∀ σ H,Pv n σ H→D.nx σ H):Vh (Itz K a b) g tb D σ H:=by
 subst hn
 refine Vh.of (n:=min xs.length ys.length) Pv h0 (fun i σ H hi p=>?_) (fun σ H p=>?_) (fun i σ H v H' hi p y=>?_) hd
 ·obtain ⟨z1,z2⟩:=hl i σ H (by omega) p
  exact ⟨xs,ys,xs[i],ys[i],z1,z2,by rw [List.getElem?_eq_getElem (by omega)],by rw [List.getElem?_eq_getElem (by omega)]⟩
 ·obtain ⟨z1,z2⟩:=hl _ σ H (by omega) p
  exact ⟨xs,ys,z1,z2,by omega⟩
 ·obtain ⟨q,x,y,hq,rfl,hx,hy,rfl⟩:=y
  obtain ⟨z1,z2⟩:=hl i σ H (by omega) p
  exact hs i x y σ H q (hx xs z1) (hy ys z2) p hq
theorem Dd.enum (Pv:Nat→List V→Hp→Prop) (hz:xs.length ≤ sizeLine) (h0:Pv 0 [] H) (hl:∀ i ys H,i ≤ xs.length→Pv i ys H→SqL K H a xs∧ys.length ≤ i)
  (hs:∀ i x ys H p,xs[i]? = some x→Pv i ys H→H p=none→zg Pv g tc te σb i (.ref p) ys (upd H p (.tup [.int i,x]))) (hd:∀ ys H,Pv xs.length ys H→∀ p,H p=none→Q (.ref p) (upd H p (.lst ys))):Dd (Ite K a) g tc te σb Q H:=by
 refine Dd.of (n:=xs.length) Pv hz h0 (fun i ys H hi p=>⟨xs,xs[i],(hl i ys H (Nat.le_of_lt hi) p).1,by simp [hi]⟩) (fun ys H p=>⟨xs,(hl _ ys H (Nat.le_refl _) p).1,Nat.le_refl _⟩) (fun i ys H hi p=>(hl i ys H (Nat.le_of_lt hi) p).2) (fun i zs H v H' hi p y=>?_) hd
 obtain ⟨q,x,hq,rfl,hx,rfl⟩:=y
 exact hs i x zs H q (hx xs (hl i zs H (Nat.le_of_lt hi) p).1) p hq
theorem fG {i j:Nat} {p:Addr} {x y:V} {R:St→Hp→Prop} (h:SqT K H p [x,y]) (q:R ((σ.set i (some x)).set j (some y)) H):gL K 2 (Yy (Su i) (Yy (Su j) dN)) (.ref p) σ H R:=
 ⟨p,_,rfl,h,rfl,x,_,rfl,y,_,rfl,rfl,q⟩
theorem Bj {i j:Nat} {p:Addr} {x y:V} {R:St→Hp→Prop} (q:R ((σ.set i (some x)).set j (some y)) (upd H p (.tup [x,y]))):gL K 2 (Yy (Su i) (Yy (Su j) dN)) (.ref p) σ (upd H p (.tup [x,y])) R:=
 fG (.inl (.inl cb)) q
end
theorem Sub.name2 {r:St} {v w:Option V}:Sub (none :: none :: r) (v :: w :: r):=by
 refine ⟨rfl,fun i u h=>?_⟩
 match i with
 | 0=>cases h
 | 1=>cases h
 | i + 2=>exact h
theorem Sub.name3 {r:St} {v w z:Option V}:Sub (none :: none :: none :: r) (v :: w :: z :: r):=by
 refine ⟨rfl,fun i u h=>?_⟩
 match i with
 | 0=>cases h
 | 1=>cases h
 | 2=>cases h
 | i + 3=>exact h
theorem Dd.list_zs {K:PySem.W.Frag} {a:Addr} {xs zs:List V} {g:TG} {te:TE} {σb:St} {Q:VK} {H:Hp} (hl:SqL K H a xs) (hz:xs.length ≤ sizeLine) (he:zs.length=xs.length)
  (hs:∀ (i:Nat) (x z:V) (N:V→Hp→Prop),xs[i]? = some x→zs[i]? = some z→N z H→g x σb H fun σ2 H2=>Sub σb σ2∧te σ2 H2 N) (hd:∀ p,H p=none→Q (.ref p) (upd H p (.lst zs))):Dd (Itl K a) g ix te σb Q H:=by
 refine Dd.list (fun i ys H'=>H'=H∧ys=zs.take i) hz ⟨rfl,rfl⟩ (fun i ys H' hi ⟨e0,e⟩=>?_) (fun i x ys H' hx ⟨e1,e2⟩ N hN=>?_) (fun ys H' ⟨e1,e2⟩ p hp=>?_)
 ·subst e0
  exact ⟨hl,by rw [e,List.length_take];omega⟩
 ·subst e1
  have hi:i < zs.length:=by rw [he];exact (List.getElem?_eq_some_iff.mp hx).1
  have hz':zs[i]? = some zs[i]:=List.getElem?_eq_getElem hi
  exact hs i x zs[i] (fun y H4=>N (ys ++ [y]) H4) hx hz' (hN _ _ ⟨rfl,by rw [e2,List.take_add_one,hz'];rfl⟩)
 ·subst e1
  rw [e2,← he,List.take_length]
  exact hd p hp
theorem Dd.tup_zs {K:PySem.W.Frag} {a:Addr} {xs zs:List V} {g:TG} {te:TE} {σb:St} {Q:VK} {H:Hp} (hl:SqT K H a xs) (hz:xs.length ≤ sizeLine) (he:zs.length=xs.length)
  (hs:∀ (i:Nat) (x z:V) (N:V→Hp→Prop),xs[i]? = some x→zs[i]? = some z→N z H→g x σb H fun σ2 H2=>Sub σb σ2∧te σ2 H2 N) (hd:∀ p,H p=none→Q (.ref p) (upd H p (.lst zs))):Dd (Itt K a) g ix te σb Q H:=by
 refine jE (xs:=xs) (fun i ys H'=>H'=H∧ys=zs.take i) hz ⟨rfl,rfl⟩ (fun i ys H' hi ⟨e0,e⟩=>?_) (fun i x ys H' hx ⟨e1,e2⟩ N hN=>?_) (fun ys H' ⟨e1,e2⟩ p hp=>?_)
 ·subst e0
  exact ⟨hl,by rw [e,List.length_take];omega⟩
 ·subst e1
  have hi:i < zs.length:=by rw [he];exact (List.getElem?_eq_some_iff.mp hx).1
  have hz':zs[i]? = some zs[i]:=List.getElem?_eq_getElem hi
  exact hs i x zs[i] (fun y H4=>N (ys ++ [y]) H4) hx hz' (hN _ _ ⟨rfl,by rw [e2,List.take_add_one,hz'];rfl⟩)
 ·subst e1
  rw [e2,← he,List.take_length]
  exact hd p hp
theorem YA {c:TT} {tb:TS} {D:jg} {σ:St} {H:Hp} (Pv:St→Hp→Prop) (μ:St→Hp→Nat) (h0:Pv σ H)
  (hs:∀ σ H,Pv σ H→∃ b:Bool,(∀ Q:Bool→Hp→Prop,Q b H→c σ H Q)∧(b=true→tb { D with nx:=fun σ' H'=>Pv σ' H'∧μ σ' H' < μ σ H,ct:=fun σ' H'=>Pv σ' H'∧μ σ' H' < μ σ H,bk:=D.nx } σ H)∧(b=false→D.nx σ H)):nG c tb D σ H:=by
 refine ⟨fun m σ H=>m=μ σ H∧Pv σ H,⟨_,rfl,h0⟩,?_⟩
 rintro m σ H ⟨rfl,p⟩
 obtain ⟨b,hc,h1,h2⟩:=hs σ H p
 refine hc _ ?_
 cases b with
 | true=>exact ⟨_,fun σ' H' ⟨p',l⟩=>⟨_,l,rfl,p'⟩,h1 rfl⟩
 | false=>exact h2 rfl
theorem Sub.name {r:St} {v:Option V}:Sub (none :: r) (v :: r):=by
 refine ⟨rfl,fun i w h=>?_⟩
 cases i with
 | zero=>cases h
 | succ i=>exact h
end L2
local macro_rules | `(tactic| walk_at "RD")=>`(tactic| ((try dsimp only [L2.AB,L2.IN,L2.Cx.nox,L2.Cx.wish,L2.Cx.block,L2.Cx.tr,L2.Cx.hn]);(try simp only [L2.tI,L2.EN,L2.bJ,L2.jK,L2.gK,L2.qI,L2.TH,L2.dE,L2.DN,L2.oK,L2.RK,L2.vJ,L2.qF,L2.BI,L2.uE,L2.JM,L2.zy,L2.Lb,L2.YC,L2.JE,L2.aG,L2.oI,L2.RF,L2.fB,L2.qg,L2.bI,L2.tF,L2.fK,L2.SH,L2.iI,L2.UI,L2.tK,L2.HE,L2.FE,L2.wI,L2.KK,L2.eL,L2.QN,L2.LM,L2.GN,L2.BM,L2.MM,L2.FF,L2.fC,L2.SI,L2.PH,L2.Sy,L2.eI,L2.kI,L2.IJ,L2.VE,L2.NJ,L2.MI,L2.SE,L2.AF,L2.QF,L2.MB,L2.GM,L2.Cz,L2.WE,L2.TM,L2.WJ,L2.VI,L2.KF,L2.JH,L2.fJ,L2.qK,L2.IM,L2.nF,L2.zJ,L2.OM,L2.gJ,L2.CL,L2.Bz,L2.Sz,L2.RJ,L2.XC,L2.cx,L2.tD,L2.OI,L2.XH,L2.OF,L2.VH,L2.Tz,L2.QE,L2.lF,L2.tE,L2.jA,L2.WA,L2.VD,L2.sB,L2.yC,L2.gC,L2.aC,L2.LE,L2.FI,L2.UH,L2.eG,L2.VA,L2.Wz,L2.yB,L2.TB,L2.nE,L2.EI,L2.jI,L2.gz,L2.JJ,L2.dJ,L2.AL,L2.uM,L2.QK,L2.oM,L2.oz,L2.qA,L2.MA,L2.NC,L2.kB,L2.rF,L2.AA,L2.qB,L2.uA,L2.kF,L2.jx,L2.vE,L2.VJ,L2.ez,L2.GF,L2.eF,L2.uz,L2.eK,L2.lE,L2.pE,L2.cG,L2.rJ,L2.CI,L2.XI,L2.iA,L2.SJ,L2.mK,L2.start,L2.RI,List.map_cons,List.map_nil,Option.bind_none,Option.bind_some,Option.join_some,Option.join_none,List.length_cons,List.length_nil,Nat.reduceAdd,Nat.reduceSub,Nat.zero_add,List.replicate,List.cons_append,List.nil_append,List.append_nil,List.set_cons_zero,List.set_cons_succ,List.getElem?_cons_zero,List.getElem?_cons_succ,Option.some.injEq,L2.V.int.injEq,L2.V.bl.injEq,L2.V.str.injEq,L2.V.ref.injEq,L2.V.ty.injEq,exists_eq_left',exists_eq_left,exists_and_left,List.cons.injEq,and_true,true_and,and_assoc,Int.zero_add,reduceCtorEq,false_and,exists_false,and_false,ite_true,ite_false,if_true,if_false,Bool.false_eq_true,L2.ZK,L2.tyV,false_or,or_false,Bool.not_true,Bool.not_false,decide_true,decide_false])))
local macro_rules | `(tactic| walk_at "F")=>`(tactic| exact ⟨rfl,rfl,rfl,by decide +kernel,rfl,by decide +kernel,by decide +kernel⟩)
namespace My
open PySem L2
noncomputable def top (i:Nat):Stmt:=PySem.Challenge.pw_lampway_k16_colours_shown.main.body.getD i (.Pass ⟨0,0,0,0⟩)
noncomputable abbrev vy:Stmt:=top 2
theorem aD:rb ["plan","name","turn"] ["plan","name","turn"] (ib vy):=(by walk_at "F")
noncomputable abbrev yv:Stmt:=top 3
theorem Zm:rb ["plan","turn","shown","name"] ["plan","turn"] (ib yv):=(by walk_at "F")
noncomputable abbrev tw:Stmt:=top 16
theorem ZF:rb ["text"] ["text"] (ib tw):=(by walk_at "F")
noncomputable abbrev Lj:Stmt:=top 17
theorem Pt:rb ["word","signs","most"] ["word","signs","most"] (ib Lj):=(by walk_at "F")
noncomputable abbrev Gp:Stmt:=top 18
theorem bv:rb ["word","most_figures"] ["word","most_figures"] (ib Gp):=(by walk_at "F")
noncomputable abbrev su:Stmt:=top 19
theorem Bs:rb ["word","low","high","number"] ["word","low","high"] (ib su):=(by walk_at "F")
noncomputable abbrev ju:Stmt:=top 20
theorem tz:rb ["word"] ["word"] (ib ju):=(by walk_at "F")
noncomputable abbrev iq:Stmt:=top 23
theorem nz:rb ["text"] ["text"] (ib iq):=(by walk_at "F")
noncomputable abbrev So:Stmt:=top 37
theorem Yn:rb ["reader","places"] ["reader"] (ib So):=(by walk_at "F")
noncomputable abbrev Ig:Stmt:=top 38
theorem Li:rb ["reader","ways","name"] ["reader","ways"] (ib Ig):=(by walk_at "F")
noncomputable abbrev Sr:Stmt:=top 39
theorem px:rb ["reader","places","start"] ["reader","places","start"] (ib Sr):=(by walk_at "F")
noncomputable abbrev Kr:Stmt:=top 40
theorem Hw:rb ["sort","name","start","end","off","near","least"] ["sort","name","start","end","off","near","least"] (ib Kr):=(by walk_at "F")
noncomputable abbrev Jr:Stmt:=top 41
theorem pe:rb ["reader","places","ways","sort","name","start","end","off","near","least"] ["reader","places","ways"] (ib Jr):=(by walk_at "F")
noncomputable abbrev rj:Stmt:=top 42
theorem ce:rb ["text","rows","places","ways","reader"] ["text"] (ib rj):=(by walk_at "F")
noncomputable abbrev Sx:Stmt:=top 44
theorem Ou:rb ["places","way","place","steps"] ["places","way","place"] (ib Sx):=(by walk_at "F")
noncomputable abbrev Wn:Stmt:=top 45
theorem qt:rb ["places","way","second"] ["places","way","second"] (ib Wn):=(by walk_at "F")
noncomputable abbrev AH:Stmt:=top 46
theorem Jw:rb ["crossing","one","other","way","second"] ["crossing","one","other"] (ib AH):=(by walk_at "F")
noncomputable abbrev pL:Stmt:=top 47
theorem DA:rb ["crossing","one","other","way","second"] ["crossing","one","other"] (ib pL):=(by walk_at "F")
noncomputable abbrev rk:Stmt:=top 49
theorem Qd:rb ["marks","size","steps","untils","place"] ["marks"] (ib rk):=(by walk_at "F")
noncomputable abbrev vk:Stmt:=top 50
theorem Wo:rb ["marks"] ["marks"] (ib vk):=(by walk_at "F")
noncomputable abbrev Um:Stmt:=top 53
theorem qx:rb ["spans","name"] ["spans","name"] (ib Um):=(by walk_at "F")
noncomputable abbrev Yi:Stmt:=top 54
theorem Ve:rb ["size","spans","name","marks","begin","turns","step"] ["size","spans","name"] (ib Yi):=(by walk_at "F")
noncomputable abbrev EC:Stmt:=top 55
theorem zl:rb ["way","size","spans","shown","begin","turns","step"] ["way","size","spans"] (ib EC):=(by walk_at "F")
noncomputable abbrev xk:Stmt:=top 56
theorem Zi:rb ["crossing","spans","name"] ["crossing","spans"] (ib xk):=(by walk_at "F")
noncomputable abbrev Fd:Stmt:=top 57
theorem Cc:rb ["size","spans","place","name","begin","turns","others"] ["size","spans","place"] (ib Fd):=(by walk_at "F")
noncomputable abbrev sk:Stmt:=top 58
theorem Oc:rb ["crossing","size","spans","place","span","name","begin","turns","way","needed"] ["crossing","size","spans"] (ib sk):=(by walk_at "F")
noncomputable abbrev Ph:Stmt:=top 59
theorem je:rb ["crossing","one","other","since_one","since_other","between","turn","steps"] ["crossing","one","other","since_one","since_other"] (ib Ph):=(by walk_at "F")
noncomputable abbrev Rk:Stmt:=top 60
theorem re:rb ["crossing","size","spans","since","name","one","other"] ["crossing","size","spans"] (ib Rk):=(by walk_at "F")
noncomputable abbrev Uk:Stmt:=top 61
theorem Of:rb ["crossing","size","rows","spans","name","begin","turns"] ["crossing","size","rows"] (ib Uk):=(by walk_at "F")
noncomputable abbrev gp:Stmt:=top 63
theorem ij:rb ["_law_script","_law_k","_law_many","_law_cell","_law_seed"] ["_law_script","_law_k","_law_many"] (ib gp):=(by walk_at "F")
noncomputable abbrev Zp:Stmt:=top 64
theorem Id:rb ["_law_script","_law_places","_law_ways_here","_law_k","_law_sort","_law_start","_law_end","_law_name","_law_numbers"] ["_law_script"] (ib Zp):=(by walk_at "F")
noncomputable abbrev Yk:Stmt:=top 65
theorem vj:rb ["_law_places","_law_ways_here","_law_rows","_law_way"] ["_law_places","_law_ways_here"] (ib Yk):=(by walk_at "F")
noncomputable abbrev Yo:Stmt:=top 66
theorem Yf:rb ["_law_places","_law_one","_law_other","_law_inside","_law_place"] ["_law_places","_law_one","_law_other"] (ib Yo):=(by walk_at "F")
noncomputable abbrev ki:Stmt:=top 67
theorem ie:rb ["_law_places","_law_ways_here","_law_groups_here","_law_way","_law_put","_law_group"] ["_law_places","_law_ways_here"] (ib ki):=(by walk_at "F")
noncomputable abbrev Ug:Stmt:=top 68
theorem Mc:rb ["_law_script","_law_places","_law_ways_here","_law_spans_here","_law_at","_law_group","_law_length","_law_way","_law_late","_law_turns","_law_shift"] ["_law_script","_law_places","_law_ways_here"] (ib Ug):=(by walk_at "F")
noncomputable abbrev Rn:Stmt:=top 69
theorem vg:rb ["_law_way","_law_span","_law_size","_law_turn","_law_ready","_law_fade","_law_since"] ["_law_way","_law_span","_law_size","_law_turn"] (ib Rn):=(by walk_at "F")
noncomputable abbrev pk:Stmt:=top 70
theorem Ue:rb ["_law_plan","_law_told","e"] ["_law_plan"] (ib pk):=(by walk_at "F")
noncomputable abbrev cE:Stmt:=top 71
theorem Pf:rb ["_law_script","_law_made","_law_ways_here","_law_crossing","_law_round_of","_law_size","_law_plan","_law_names","_law_far","_law_k","_law_turn","_law_due","_law_way","_law_span","_law_shown_here","_law_at"] ["_law_script"] (ib cE):=(by walk_at "F")
noncomputable abbrev Zn:Stmt:=Ic (top 7) 0
theorem Pm:rb ["self","name"] ["self","name"] (ib Zn):=(by walk_at "F")
noncomputable abbrev Mn:Stmt:=Ic (top 8) 0
theorem Bn:rb ["self","way"] ["self","way"] (ib Mn):=(by walk_at "F")
noncomputable abbrev En:Stmt:=Ic (top 9) 0
theorem An:rb ["self","way","at"] ["self","way","at"] (ib En):=(by walk_at "F")
noncomputable abbrev Nn:Stmt:=Ic (top 10) 0
theorem Om:rb ["self","way","other","at"] ["self","way","other","at"] (ib Nn):=(by walk_at "F")
noncomputable abbrev Ki:Stmt:=Ic (top 22) 0
theorem gj:rb ["self","row","told"] ["self","row","told"] (ib Ki):=(by walk_at "F")
noncomputable abbrev ai:Stmt:=Ic (top 22) 1
theorem ym:rb ["self"] ["self"] (ib ai):=(by walk_at "F")
noncomputable abbrev ig:Stmt:=Ic (top 22) 2
theorem dj:rb ["self"] ["self"] (ib ig):=(by walk_at "F")
noncomputable abbrev Rl:Stmt:=Ic (top 22) 3
noncomputable abbrev Ui:Stmt:=Ic (top 22) 4
theorem Cn:rb ["self","good"] ["self","good"] (ib Ui):=(by walk_at "F")
noncomputable abbrev xh:Stmt:=Ic (top 22) 5
theorem Kg:rb ["self","choices","found"] ["self","choices"] (ib xh):=(by walk_at "F")
noncomputable abbrev Rg:Stmt:=Ic (top 22) 6
theorem lg:rb ["self","low","high","found"] ["self","low","high"] (ib Rg):=(by walk_at "F")
noncomputable abbrev Yg:Stmt:=Ic (top 22) 7
theorem Tk:rb ["self"] ["self"] (ib Yg):=(by walk_at "F")
noncomputable abbrev Xr:Stmt:=Ic (top 25) 0
theorem cq:rb ["self","kind","name","start","end","off","near","least"] ["self","kind","name","start","end","off","near","least"] (ib Xr):=(by walk_at "F")
noncomputable abbrev mm:Stmt:=Ic (top 26) 0
theorem Yl:rb ["self","name","start","end","off","near","least"] ["self","name","start","end","off","near","least"] (ib mm):=(by walk_at "F")
noncomputable abbrev zk:Stmt:=Ic (top 26) 1
theorem Op:rb ["self"] ["self"] (ib zk):=(by walk_at "F")
noncomputable abbrev Ql:Stmt:=Ic (top 26) 2
theorem Pq:rb ["self"] ["self"] (ib Ql):=(by walk_at "F")
noncomputable abbrev uk:Stmt:=Ic (top 27) 0
theorem ol:rb ["self","name","start","end","off","near","least"] ["self","name","start","end","off","near","least"] (ib uk):=(by walk_at "F")
noncomputable abbrev Mj:Stmt:=Ic (top 27) 1
theorem oo:rb ["self"] ["self"] (ib Mj):=(by walk_at "F")
noncomputable abbrev Nk:Stmt:=Ic (top 27) 2
theorem Np:rb ["self"] ["self"] (ib Nk):=(by walk_at "F")
noncomputable abbrev Qk:Stmt:=Ic (top 28) 0
theorem ul:rb ["self","name","start","end","off","near","least"] ["self","name","start","end","off","near","least"] (ib Qk):=(by walk_at "F")
noncomputable abbrev lj:Stmt:=Ic (top 28) 1
theorem uo:rb ["self"] ["self"] (ib lj):=(by walk_at "F")
noncomputable abbrev Dk:Stmt:=Ic (top 28) 2
theorem Yp:rb ["self"] ["self"] (ib Dk):=(by walk_at "F")
noncomputable abbrev Ej:Stmt:=Ic (top 36) 0
theorem ze:rb ["self","places","ways","number","way"] ["self","places","ways"] (ib Ej):=(by walk_at "F")
noncomputable abbrev fg:Stmt:=Ic (top 36) 1
theorem Cm:rb ["self"] ["self"] (ib fg):=(by walk_at "F")
noncomputable abbrev Qh:Stmt:=Ic (top 36) 2
theorem ah:rb ["self","name"] ["self","name"] (ib Qh):=(by walk_at "F")
noncomputable abbrev Sh:Stmt:=Ic (top 36) 3
theorem mh:rb ["self","name"] ["self","name"] (ib Sh):=(by walk_at "F")
noncomputable abbrev zp:Stmt:=Ic (top 52) 0
theorem Mi:rb ["self","crossing","size","spans","name"] ["self","crossing","size","spans"] (ib zp):=(by walk_at "F")
set_option genInjectivity false in
set_option genInjectivity false in
structure Adr where
 {vi um Ht Zf yi Pl qm dm Bi Re Zj Xj Yj Qe Lo rh xy pF Be zf sf Vf By Df Cd xf ve yf Sg rf zi gi di xg qh fh Ef AI Tf bg Sf cg de kc Xc Ze Uc Qc gc Rc uf Pe Nf og De We Cf Ee bf Ff me yc Kc Ob Eg zb Ml Zc vc wc Pb ke qf Xd Ud Kd qd:Addr}
 {ji gm Ts ag ni Wl Tl Hl Hi Se Qj Vj Oj af Qo nh jy aF Ce Hf pf Wf Yx Kf Ed Jf ye Af Lg gf xi Di mi ng bh eh Mf BF jh Vg dh yh Fe Gc Pd Dl wd Bd Jc Gd Cg wg Ch Ii Gf Fg Gh Bf Jg Hh Ye Vc gd Ub Ai:FuncData}
 {Tv Kk nu Bk Fn Ek bp Br Il up:Value}
structure Txt (w:World) (K:PySem.W.Frag) (mg:Str→Option Value) (t:Adr):Prop where
 Bt:mg "colour"=some (.ref t.vi)
 El:Fun K "colour" "colour" vy t.vi t.ji
 Ov:mg "colours"=some (.ref t.um)
 cm:Fun K "colours" "colours" yv t.um t.gm
 QI:mg "words"=some (.ref t.Ht)
 Aw:Fun K "words" "words" tw t.Ht t.Ts
 ao:mg "is_made_of"=some (.ref t.Zf)
 oh:Fun K "is_made_of" "is_made_of" Lj t.Zf t.ag
 Kw:mg "is_number"=some (.ref t.yi)
 Xk:Fun K "is_number" "is_number" Gp t.yi t.ni
 sA:mg "figured"=some (.ref t.Pl)
 Mp:Fun K "figured" "figured" su t.Pl t.Wl
 QB:mg "is_name"=some (.ref t.qm)
 Xo:Fun K "is_name" "is_name" ju t.qm t.Tl
 UA:mg "readers"=some (.ref t.dm)
 Ip:Fun K "readers" "readers" iq t.dm t.Hl
 vw:mg "read_ring"=some (.ref t.Bi)
 el:Fun K "read_ring" "read_ring" So t.Bi t.Hi
 Ap:mg "read_new_name"=some (.ref t.Re)
 Pg:Fun K "read_new_name" "read_new_name" Ig t.Re t.Se
 Nz:mg "read_end"=some (.ref t.Zj)
 yn:Fun K "read_end" "read_end" Sr t.Zj t.Qj
 Wy:mg "made_way"=some (.ref t.Xj)
 Wm:Fun K "made_way" "made_way" Kr t.Xj t.Vj
 mz:mg "read_way"=some (.ref t.Yj)
 Tm:Fun K "read_way" "read_way" Jr t.Yj t.Oj
 qp:mg "read_crossing"=some (.ref t.Qe)
 Og:Fun K "read_crossing" "read_crossing" rj t.Qe t.af
 Dx:mg "in_bow"=some (.ref t.Lo)
 Co:Fun K "in_bow" "in_bow" Sx t.Lo t.Qo
 Fu:mg "bows_cross"=some (.ref t.rh)
 jj:Fun K "bows_cross" "bows_cross" Wn t.rh t.nh
 mM:mg "meet"=some (.ref t.xy)
 YB:Fun K "meet" "meet" AH t.xy t.jy
 gO:mg "gap"=some (.ref t.pF)
 oJ:Fun K "gap" "gap" pL t.pF t.aF
 yk:mg "until_marked"=some (.ref t.Be)
 Lf:Fun K "until_marked" "until_marked" rk t.Be t.Ce
 mr:mg "since_marked"=some (.ref t.zf)
 Lh:Fun K "since_marked" "since_marked" vk t.zf t.Hf
 Pj:mg "spans_of"=some (.ref t.sf)
 Bg:Fun K "spans_of" "spans_of" Um t.sf t.pf
 Tn:mg "free_marks"=some (.ref t.Vf)
 lh:Fun K "free_marks" "free_marks" Yi t.Vf t.Wf
 SK:mg "lamp"=some (.ref t.By)
 JB:Fun K "lamp" "lamp" EC t.By t.Yx
 Oq:mg "refuse_never"=some (.ref t.Df)
 Dh:Fun K "refuse_never" "refuse_never" xk t.Df t.Kf
 kj:mg "turns_to_next_begin"=some (.ref t.Cd)
 qe:Fun K "turns_to_next_begin" "turns_to_next_begin" Fd t.Cd t.Ed
 Tq:mg "refuse_short"=some (.ref t.xf)
 Ah:Fun K "refuse_short" "refuse_short" sk t.xf t.Jf
 bn:mg "refuse_clash_of"=some (.ref t.ve)
 mf:Fun K "refuse_clash_of" "refuse_clash_of" Ph t.ve t.ye
 Kq:mg "refuse_clash"=some (.ref t.yf)
 Fh:Fun K "refuse_clash" "refuse_clash" Rk t.yf t.Af
 ux:mg "made_plan"=some (.ref t.Sg)
 yl:Fun K "made_plan" "made_plan" Uk t.Sg t.Lg
 Vb:mg "_law_draw"=some (.ref t.rf)
 Nb:Fun K "_law_draw" "_law_draw" gp t.rf t.gf
 ax:mg "_law_ways"=some (.ref t.zi)
 ml:Fun K "_law_ways" "_law_ways" Zp t.zi t.xi
 Cw:mg "_law_text"=some (.ref t.gi)
 xl:Fun K "_law_text" "_law_text" Yk t.gi t.Di
 xx:mg "_law_meet"=some (.ref t.di)
 Al:Fun K "_law_meet" "_law_meet" Yo t.di t.mi
 Ys:mg "_law_groups"=some (.ref t.xg)
 oi:Fun K "_law_groups" "_law_groups" ki t.xg t.ng
 av:mg "_law_spans"=some (.ref t.qh)
 tj:Fun K "_law_spans" "_law_spans" Ug t.qh t.bh
 Rv:mg "_law_shown"=some (.ref t.fh)
 Kj:Fun K "_law_shown" "_law_shown" Rn t.fh t.eh
 Aq:mg "_law_refused"=some (.ref t.Ef)
 Jh:Fun K "_law_refused" "_law_refused" pk t.Ef t.Mf
 RN:mg "law"=some (.ref t.AI)
 ON:Fun K "law" "law" cE t.AI t.BF
 pB:mg "NoWay"=some (.ref t.Xd)
 gH:PySem.W.findIn K (.ref t.Xd) "__init__"=some (some (.ref t.Tf))
 Pn:Fun K "__init__" "NoWay.__init__" Zn t.Tf t.jh
 dI:mg "Never"=some (.ref t.Ud)
 dH:PySem.W.findIn K (.ref t.Ud) "__init__"=some (some (.ref t.bg))
 Ln:Fun K "__init__" "Never.__init__" Mn t.bg t.Vg
 pJ:mg "Short"=some (.ref t.Kd)
 JG:PySem.W.findIn K (.ref t.Kd) "__init__"=some (some (.ref t.Sf))
 Sn:Fun K "__init__" "Short.__init__" En t.Sf t.dh
 cI:mg "Clash"=some (.ref t.qd)
 xH:PySem.W.findIn K (.ref t.qd) "__init__"=some (some (.ref t.cg))
 Qn:Fun K "__init__" "Clash.__init__" Nn t.cg t.yh
 Yw:mg "RowReader"=some (.ref t.zb)
 aA:PySem.W.findIn K (.ref t.zb) "__init__"=some (some (.ref t.de))
 Ri:Fun K "__init__" "RowReader.__init__" Ki t.de t.Fe
 Ez:PySem.W.findIn K (.ref t.zb) "ahead"=some (some (.ref t.kc))
 Xh:Fun K "ahead" "RowReader.ahead" ai t.kc t.Gc
 Xv:PySem.W.findIn K (.ref t.zb) "has_more"=some (some (.ref t.Xc))
 kg:Fun K "has_more" "RowReader.has_more" ig t.Xc t.Pd
 Fy:PySem.W.findIn K (.ref t.zb) "refuse"=some (some (.ref t.Ze))
 Lx:Fun K "refuse" "RowReader.refuse" Rl t.Ze t.Dl
 dA:PySem.W.findIn K (.ref t.zb) "take"=some (some (.ref t.Uc))
 Ni:Fun K "take" "RowReader.take" Ui t.Uc t.wd
 iy:PySem.W.findIn K (.ref t.zb) "one_of"=some (some (.ref t.Qc))
 Zg:Fun K "one_of" "RowReader.one_of" xh t.Qc t.Bd
 Fw:PySem.W.findIn K (.ref t.zb) "figures"=some (some (.ref t.gc))
 Tg:Fun K "figures" "RowReader.figures" Rg t.gc t.Jc
 Jy:PySem.W.findIn K (.ref t.zb) "finish"=some (some (.ref t.Rc))
 vh:Fun K "finish" "RowReader.finish" Yg t.Rc t.Gd
 rK:mg "Way"=some (.ref t.Ml)
 yK:PySem.W.findIn K (.ref t.Ml) "__init__"=some (some (.ref t.uf))
 As:Fun K "__init__" "Way.__init__" Xr t.uf t.Cg
 jF:mg "CarWay"=some (.ref t.Zc)
 SF:PySem.W.findIn K (.ref t.Zc) "__init__"=some (some (.ref t.Pe))
 om:Fun K "__init__" "CarWay.__init__" mm t.Pe t.wg
 LD:PySem.W.findIn K (.ref t.Zc) "ready"=some (some (.ref t.Nf))
 Pk:Fun K "ready" "CarWay.ready" zk t.Nf t.Ch
 IF:PySem.W.findIn K (.ref t.Zc) "fade"=some (some (.ref t.og))
 Cl:Fun K "fade" "CarWay.fade" Ql t.og t.Ii
 LC:mg "FootWay"=some (.ref t.vc)
 GD:PySem.W.findIn K (.ref t.vc) "__init__"=some (some (.ref t.De))
 Sk:Fun K "__init__" "FootWay.__init__" uk t.De t.Gf
 kC:PySem.W.findIn K (.ref t.vc) "ready"=some (some (.ref t.We))
 Aj:Fun K "ready" "FootWay.ready" Mj t.We t.Fg
 FD:PySem.W.findIn K (.ref t.vc) "fade"=some (some (.ref t.Cf))
 Gk:Fun K "fade" "FootWay.fade" Nk t.Cf t.Gh
 VB:mg "TramWay"=some (.ref t.wc)
 ID:PySem.W.findIn K (.ref t.wc) "__init__"=some (some (.ref t.Ee))
 Hk:Fun K "__init__" "TramWay.__init__" Qk t.Ee t.Bf
 cD:PySem.W.findIn K (.ref t.wc) "ready"=some (some (.ref t.bf))
 nj:Fun K "ready" "TramWay.ready" lj t.bf t.Jg
 AD:PySem.W.findIn K (.ref t.wc) "fade"=some (some (.ref t.Ff))
 qk:Fun K "fade" "TramWay.fade" Dk t.Ff t.Hh
 lz:mg "Crossing"=some (.ref t.Pb)
 RC:PySem.W.findIn K (.ref t.Pb) "__init__"=some (some (.ref t.me))
 sj:Fun K "__init__" "Crossing.__init__" Ej t.me t.Ye
 cA:PySem.W.findIn K (.ref t.Pb) "names"=some (some (.ref t.yc))
 Si:Fun K "names" "Crossing.names" fg t.yc t.Vc
 Qz:PySem.W.findIn K (.ref t.Pb) "number"=some (some (.ref t.Kc))
 tf:Fun K "number" "Crossing.number" Qh t.Kc t.gd
 Kz:PySem.W.findIn K (.ref t.Pb) "called"=some (some (.ref t.Ob))
 lf:Fun K "called" "Crossing.called" Sh t.Ob t.Ub
 XL:mg "Plan"=some (.ref t.ke)
 qJ:PySem.W.findIn K (.ref t.ke) "__init__"=some (some (.ref t.Eg))
 Ep:Fun K "__init__" "Plan.__init__" zp t.Eg t.Ai
 yb:Cls K t.zb
 zw:Mk K t.zb t.de
 we:ls K t.zb "ahead" t.kc
 gk:ls K t.zb "has_more" t.Xc
 Ax:ls K t.zb "refuse" t.Ze
 gg:ls K t.zb "take" t.Uc
 Xg:ls K t.zb "one_of" t.Qc
 Dc:ls K t.zb "figures" t.gc
 ph:ls K t.zb "finish" t.Rc
 mo:Bb K t.zb "row"
 Th:Bb K t.zb "told"
 Xe:Bb K t.zb "place"
 OO:Cls K t.Ml
 tJ:Bb K t.Ml "kind"
 aK:Bb K t.Ml "name"
 YG:Bb K t.Ml "start"
 xK:Bb K t.Ml "end"
 wK:Bb K t.Ml "off"
 aI:Bb K t.Ml "near"
 wH:Bb K t.Ml "least"
 gq:Cls K t.Zc
 gE:Mk K t.Zc t.Pe
 Mq:ls K t.Zc "ready" t.Nf
 wt:ls K t.Zc "fade" t.og
 Jq:Bb K t.Zc "kind"
 Xq:Bb K t.Zc "name"
 nq:Bb K t.Zc "start"
 Ks:Bb K t.Zc "end"
 bu:Bb K t.Zc "off"
 Bq:Bb K t.Zc "near"
 kq:Bb K t.Zc "least"
 Ym:Cls K t.vc
 FC:Mk K t.vc t.De
 Bp:ls K t.vc "ready" t.We
 Qq:ls K t.vc "fade" t.Cf
 ip:Bb K t.vc "kind"
 Fp:Bb K t.vc "name"
 jo:Bb K t.vc "start"
 Iq:Bb K t.vc "end"
 sr:Bb K t.vc "off"
 pp:Bb K t.vc "near"
 Ao:Bb K t.vc "least"
 Km:Cls K t.wc
 nB:Mk K t.wc t.Ee
 jq:ls K t.wc "ready" t.bf
 Nq:ls K t.wc "fade" t.Ff
 Qp:Bb K t.wc "kind"
 Cp:Bb K t.wc "name"
 qo:Bb K t.wc "start"
 Wq:Bb K t.wc "end"
 Yq:Bb K t.wc "off"
 Zo:Bb K t.wc "near"
 io:Bb K t.wc "least"
 Gb:Cls K t.Pb
 Fz:Mk K t.Pb t.me
 zd:ls K t.Pb "names" t.yc
 Mh:ls K t.Pb "number" t.Kc
 jc:ls K t.Pb "called" t.Ob
 kh:Bb K t.Pb "places"
 Oi:Bb K t.Pb "ways"
 Hg:Bb K t.Pb "numbers"
 Ei:Cls K t.ke
 cL:Mk K t.ke t.Eg
 Ti:Bb K t.ke "crossing"
 Jn:Bb K t.ke "size"
 Ot:Bb K t.ke "spans"
 am:Bb K t.ke "lamps"
 Ik:Bb K t.ke "untils"
 ii:mg "LampError"=some (.ref t.qf)
 Ci:JO K t.qf "__init__"
 oE:XB K t.Xd
 Fx:MkX K t.Xd t.Tf
 km:Bb K t.Xd "name"
 Ay:PySem.W.exmOne K (.ref t.Xd) (.ref t.qf)=some true
 gr:PySem.W.exmOne K (.ref t.Xd) (.ref t.Xd)=some true
 CD:PySem.W.exmOne K (.ref t.Xd) (.ref t.Ud)=some false
 QD:PySem.W.exmOne K (.ref t.Xd) (.ref t.Kd)=some false
 HD:PySem.W.exmOne K (.ref t.Xd) (.ref t.qd)=some false
 LF:XB K t.Ud
 Gx:MkX K t.Ud t.bg
 fv:Bb K t.Ud "way"
 Vx:PySem.W.exmOne K (.ref t.Ud) (.ref t.qf)=some true
 PD:PySem.W.exmOne K (.ref t.Ud) (.ref t.Xd)=some false
 wD:PySem.W.exmOne K (.ref t.Ud) (.ref t.Ud)=some true
 zD:PySem.W.exmOne K (.ref t.Ud) (.ref t.Kd)=some false
 ED:PySem.W.exmOne K (.ref t.Ud) (.ref t.qd)=some false
 YF:XB K t.Kd
 Dy:MkX K t.Kd t.Sf
 lu:Bb K t.Kd "way"
 Xw:Bb K t.Kd "at"
 my:PySem.W.exmOne K (.ref t.Kd) (.ref t.qf)=some true
 JD:PySem.W.exmOne K (.ref t.Kd) (.ref t.Xd)=some false
 OD:PySem.W.exmOne K (.ref t.Kd) (.ref t.Ud)=some false
 UD:PySem.W.exmOne K (.ref t.Kd) (.ref t.Kd)=some true
 xD:PySem.W.exmOne K (.ref t.Kd) (.ref t.qd)=some false
 DE:XB K t.qd
 ny:MkX K t.qd t.cg
 wu:Bb K t.qd "way"
 Uq:Bb K t.qd "other"
 Ww:Bb K t.qd "at"
 zx:PySem.W.exmOne K (.ref t.qd) (.ref t.qf)=some true
 BD:PySem.W.exmOne K (.ref t.qd) (.ref t.Xd)=some false
 TD:PySem.W.exmOne K (.ref t.qd) (.ref t.Ud)=some false
 yD:PySem.W.exmOne K (.ref t.qd) (.ref t.Kd)=some false
 ND:PySem.W.exmOne K (.ref t.qd) (.ref t.qd)=some true
 OE:t.Ml ≠ t.Zc
 DD:t.Ml ≠ t.vc
 KD:t.Ml ≠ t.wc
 Oh:t.Zc ≠ t.vc
 Rh:t.Zc ≠ t.wc
 zh:t.vc ≠ t.wc
 rn:zO K t.Ml "__init__" t.uf
 UC:mg "FIGURES"=some t.Tv
 HB:yd (.str (Str.ofString "0123456789")) t.Tv
 kr:mg "LEAST_PLACES"=some t.Kk
 xr:yd (.int 2) t.Kk
 fA:mg "LETTERS"=some t.nu
 aB:yd (.str (Str.ofString "abcdefghijklmnopqrstuvwxyz")) t.nu
 cr:mg "MOST_FIGURES"=some t.Bk
 Sq:yd (.int 3) t.Bk
 zu:mg "MOST_LEAST"=some t.Fn
 mv:yd (.int 60) t.Fn
 Dq:mg "MOST_LETTERS"=some t.Ek
 ur:yd (.int 8) t.Ek
 aw:mg "MOST_NEAR"=some t.bp
 Pw:yd (.int 30) t.bp
 wz:mg "MOST_OFF"=some t.Br
 dz:yd (.int 30) t.Br
 au:mg "MOST_PLACES"=some t.Il
 zt:yd (.int 99) t.Il
 nw:mg "MOST_WAYS"=some t.up
 Mw:yd (.int 12) t.up
 NN:mg "all"=none
 YL:mg "dict"=none
 Mg:mg "enumerate"=none
 xN:mg "int"=none
 Mu:mg "isinstance"=none
 wo:mg "len"=none
 Er:mg "list"=none
 aM:mg "max"=none
 vN:mg "min"=none
 Gi:mg "range"=none
 Fm:mg "reversed"=none
 yI:mg "str"=none
 xL:∀ (s:Shared) (u:Value),BindsTo s t.BF ⟨[u],[]⟩ [("_law_script",u)]
section
variable {w:World} {K:PySem.W.Frag} {mg:Str→Option Value} {t:Adr} (T:Txt w K mg t)
include T
theorem Txt.Os:Rb K t.ji ["plan","name","turn"] []:=T.El.binds fun _ _ _ _ _ _=>us3 fun _ _ _=>rfl
theorem Txt.Kv:Rb K t.gm ["plan","turn"] []:=T.cm.binds fun _ _ _ _ _ _=>us2 fun _ _=>rfl
theorem Txt.iJ:Rb K t.Ts ["text"] []:=T.Aw.binds fun _ _ _ _ _ _=>us1 fun _=>rfl
theorem Txt.Xn:Rb K t.ag ["word","signs","most"] []:=T.oh.binds fun _ _ _ _ _ _=>us3 fun _ _ _=>rfl
theorem Txt.Iw:Rb K t.ni ["word","most_figures"] []:=T.Xk.binds fun _ _ _ _ _ _=>us2 fun _ _=>rfl
theorem Txt.cB:Rb K t.Wl ["word","low","high"] []:=T.Mp.binds fun _ _ _ _ _ _=>us3 fun _ _ _=>rfl
theorem Txt.SC:Rb K t.Tl ["word"] []:=T.Xo.binds fun _ _ _ _ _ _=>us1 fun _=>rfl
theorem Txt.bB:Rb K t.Hl ["text"] []:=T.Ip.binds fun _ _ _ _ _ _=>us1 fun _=>rfl
theorem Txt.bw:Rb K t.Hi ["reader"] []:=T.el.binds fun _ _ _ _ _ _=>us1 fun _=>rfl
theorem Txt.xq:Rb K t.Se ["reader","ways"] []:=T.Pg.binds fun _ _ _ _ _ _=>us2 fun _ _=>rfl
theorem Txt.Mz:Rb K t.Qj ["reader","places","start"] []:=T.yn.binds fun _ _ _ _ _ _=>us3 fun _ _ _=>rfl
theorem Txt.Jz:Rb K t.Vj ["sort","name","start","end","off","near","least"] []:=T.Wm.binds fun _ _ _ _ _ _=>us7 fun _ _ _ _ _ _ _=>rfl
theorem Txt.fz:Rb K t.Oj ["reader","places","ways"] []:=T.Tm.binds fun _ _ _ _ _ _=>us3 fun _ _ _=>rfl
theorem Txt.Rp:Rb K t.af ["text"] []:=T.Og.binds fun _ _ _ _ _ _=>us1 fun _=>rfl
theorem Txt.Ly:Rb K t.Qo ["places","way","place"] []:=T.Co.binds fun _ _ _ _ _ _=>us3 fun _ _ _=>rfl
theorem Txt.jv:Rb K t.nh ["places","way","second"] []:=T.jj.binds fun _ _ _ _ _ _=>us3 fun _ _ _=>rfl
theorem Txt.RL:Rb K t.jy ["crossing","one","other"] []:=T.YB.binds fun _ _ _ _ _ _=>us3 fun _ _ _=>rfl
theorem Txt.cO:Rb K t.aF ["crossing","one","other"] []:=T.oJ.binds fun _ _ _ _ _ _=>us3 fun _ _ _=>rfl
theorem Txt.Fk:Rb K t.Ce ["marks"] []:=T.Lf.binds fun _ _ _ _ _ _=>us1 fun _=>rfl
theorem Txt.jr:Rb K t.Hf ["marks"] []:=T.Lh.binds fun _ _ _ _ _ _=>us1 fun _=>rfl
theorem Txt.ck:Rb K t.pf ["spans","name"] []:=T.Bg.binds fun _ _ _ _ _ _=>us2 fun _ _=>rfl
theorem Txt.Gn:Rb K t.Wf ["size","spans","name"] []:=T.lh.binds fun _ _ _ _ _ _=>us3 fun _ _ _=>rfl
theorem Txt.pM:Rb K t.Yx ["way","size","spans"] []:=T.JB.binds fun _ _ _ _ _ _=>us3 fun _ _ _=>rfl
theorem Txt.br:Rb K t.Kf ["crossing","spans"] []:=T.Dh.binds fun _ _ _ _ _ _=>us2 fun _ _=>rfl
theorem Txt.fj:Rb K t.Ed ["size","spans","place"] []:=T.qe.binds fun _ _ _ _ _ _=>us3 fun _ _ _=>rfl
theorem Txt.Gq:Rb K t.Jf ["crossing","size","spans"] []:=T.Ah.binds fun _ _ _ _ _ _=>us3 fun _ _ _=>rfl
theorem Txt.Xm:Rb K t.ye ["crossing","one","other","since_one","since_other"] []:=T.mf.binds fun _ _ _ _ _ _=>us5 fun _ _ _ _ _=>rfl
theorem Txt.Hq:Rb K t.Af ["crossing","size","spans"] []:=T.Fh.binds fun _ _ _ _ _ _=>us3 fun _ _ _=>rfl
theorem Txt.yx:Rb K t.Lg ["crossing","size","rows"] []:=T.yl.binds fun _ _ _ _ _ _=>us3 fun _ _ _=>rfl
theorem Txt.Xb:Rb K t.gf ["_law_script","_law_k","_law_many"] []:=T.Nb.binds fun _ _ _ _ _ _=>us3 fun _ _ _=>rfl
theorem Txt.ow:Rb K t.xi ["_law_script"] []:=T.ml.binds fun _ _ _ _ _ _=>us1 fun _=>rfl
theorem Txt.Uw:Rb K t.Di ["_law_places","_law_ways_here"] []:=T.xl.binds fun _ _ _ _ _ _=>us2 fun _ _=>rfl
theorem Txt.Rw:Rb K t.mi ["_law_places","_law_one","_law_other"] []:=T.Al.binds fun _ _ _ _ _ _=>us3 fun _ _ _=>rfl
theorem Txt.ot:Rb K t.ng ["_law_places","_law_ways_here"] []:=T.oi.binds fun _ _ _ _ _ _=>us2 fun _ _=>rfl
theorem Txt.Wu:Rb K t.bh ["_law_script","_law_places","_law_ways_here"] []:=T.tj.binds fun _ _ _ _ _ _=>us3 fun _ _ _=>rfl
theorem Txt.Ju:Rb K t.eh ["_law_way","_law_span","_law_size","_law_turn"] []:=T.Kj.binds fun _ _ _ _ _ _=>us4 fun _ _ _ _=>rfl
theorem Txt.ar:Rb K t.Mf ["_law_plan"] []:=T.Jh.binds fun _ _ _ _ _ _=>us1 fun _=>rfl
theorem Txt.Du:Rb K t.jh ["self","name"] []:=T.Pn.binds fun _ _ _ _ _ _=>us2 fun _ _=>rfl
theorem Txt.Mv:Rb K t.Vg ["self","way"] []:=T.Ln.binds fun _ _ _ _ _ _=>us2 fun _ _=>rfl
theorem Txt.Xu:Rb K t.dh ["self","way","at"] []:=T.Sn.binds fun _ _ _ _ _ _=>us3 fun _ _ _=>rfl
theorem Txt.Au:Rb K t.yh ["self","way","other","at"] []:=T.Qn.binds fun _ _ _ _ _ _=>us4 fun _ _ _ _=>rfl
theorem Txt.bo:Rb K t.Fe ["self","row","told"] []:=T.Ri.binds fun _ _ _ _ _ _=>us3 fun _ _ _=>rfl
theorem Txt.ue:Rb K t.Gc ["self"] []:=T.Xh.binds fun _ _ _ _ _ _=>us1 fun _=>rfl
theorem Txt.jk:Rb K t.Pd ["self"] []:=T.kg.binds fun _ _ _ _ _ _=>us1 fun _=>rfl
theorem Txt.dg:Rb K t.wd ["self","good"] []:=T.Ni.binds fun _ _ _ _ _ _=>us2 fun _ _=>rfl
theorem Txt.Wg:Rb K t.Bd ["self","choices"] []:=T.Zg.binds fun _ _ _ _ _ _=>us2 fun _ _=>rfl
theorem Txt.Fc:Rb K t.Jc ["self","low","high"] []:=T.Tg.binds fun _ _ _ _ _ _=>us3 fun _ _ _=>rfl
theorem Txt.uh:Rb K t.Gd ["self"] []:=T.vh.binds fun _ _ _ _ _ _=>us1 fun _=>rfl
theorem Txt.mn:Rb K t.Cg ["self","kind","name","start","end","off","near","least"] []:=T.As.binds fun _ _ _ _ _ _=>us8 fun _ _ _ _ _ _ _ _=>rfl
theorem Txt.yt:Rb K t.wg ["self","name","start","end","off","near","least"] []:=T.om.binds fun _ _ _ _ _ _=>us7 fun _ _ _ _ _ _ _=>rfl
theorem Txt.Vq:Rb K t.Ch ["self"] []:=T.Pk.binds fun _ _ _ _ _ _=>us1 fun _=>rfl
theorem Txt.Nt:Rb K t.Ii ["self"] []:=T.Cl.binds fun _ _ _ _ _ _=>us1 fun _=>rfl
theorem Txt.Lq:Rb K t.Gf ["self","name","start","end","off","near","least"] []:=T.Sk.binds fun _ _ _ _ _ _=>us7 fun _ _ _ _ _ _ _=>rfl
theorem Txt.tq:Rb K t.Fg ["self"] []:=T.Aj.binds fun _ _ _ _ _ _=>us1 fun _=>rfl
theorem Txt.dr:Rb K t.Gh ["self"] []:=T.Gk.binds fun _ _ _ _ _ _=>us1 fun _=>rfl
theorem Txt.Zq:Rb K t.Bf ["self","name","start","end","off","near","least"] []:=T.Hk.binds fun _ _ _ _ _ _=>us7 fun _ _ _ _ _ _ _=>rfl
theorem Txt.Dp:Rb K t.Jg ["self"] []:=T.nj.binds fun _ _ _ _ _ _=>us1 fun _=>rfl
theorem Txt.ir:Rb K t.Hh ["self"] []:=T.qk.binds fun _ _ _ _ _ _=>us1 fun _=>rfl
theorem Txt.Tp:Rb K t.Ye ["self","places","ways"] []:=T.sj.binds fun _ _ _ _ _ _=>us3 fun _ _ _=>rfl
theorem Txt.Ad:Rb K t.Vc ["self"] []:=T.Si.binds fun _ _ _ _ _ _=>us1 fun _=>rfl
theorem Txt.Zh:Rb K t.gd ["self","name"] []:=T.tf.binds fun _ _ _ _ _ _=>us2 fun _ _=>rfl
theorem Txt.lc:Rb K t.Ub ["self","name"] []:=T.lf.binds fun _ _ _ _ _ _=>us2 fun _ _=>rfl
theorem Txt.lw:Rb K t.Ai ["self","crossing","size","spans"] []:=T.Ep.binds fun _ _ _ _ _ _=>us4 fun _ _ _ _=>rfl
theorem Txt.Dt:Ar K t.Xd:=Ct T.oE T.Fx
theorem Txt.Tw:Ar K t.Ud:=Ct T.LF T.Gx
theorem Txt.Zt:Ar K t.Kd:=Ct T.YF T.Dy
theorem Txt.Jp:Ar K t.qd:=Ct T.DE T.ny
end
noncomputable def Kh (ns:List Int) (k m:Int):Int:=
 ((((if 0 < (ns.length:Int) then ns.getD (k % (ns.length:Int)).toNat 0 else 0) % 1000003 + 31 * k * k + 1) * 48271 % 999983 * 7919) % 524287) % m
theorem Ge (ns:List Int) (k:Int) {m:Int} (h:0 < m):0 ≤ Kh ns k m:=Int.emod_nonneg _ (by omega)
theorem He (ns:List Int) (k:Int) {m:Int} (h:0 < m):Kh ns k m < m:=Int.emod_lt_of_pos _ h
noncomputable def Td (K:PySem.W.Frag) (a:Addr) (ns:List Int):Sp:=fun vs H Q _=>∃ k m,vs=[.ref a,.int k,.int m]∧Sc K a ns H∧(0 ≤ k∧k < 1000000)∧0 < m∧Q (.int (Kh ns k m)) H
section
variable {P:Program} {w:World} {K:PySem.W.Frag} {mg:Str→Option Value} {base:Heap} {t:Adr}
theorem Qw (T:Txt w K mg t) (a:Addr) (ns:List Int) (h63:ns.length ≤ 63):Fb P w K mg base CX0 1 t.rf t.gf ["_law_script","_law_k","_law_many"] (Td K a ns):=by
 refine T.Nb.ok ij (fun vs H Q E h=>?_) (fun cdv A outer s H vs Q E hr h=>?_)
 ·obtain ⟨k,m,rfl,_⟩:=h;rfl
 obtain ⟨k,m,rfl,S,⟨h0,h1⟩,hm,q⟩:=h
 refine ⟨_,(db (Ab (i:=3) ij.nd rfl (Or.inl rfl) (Ey (Yb vF (Od Pc rfl T.wo vd (bb (pv 0) fb)) pb (dc _)) (zc Yd (pv 0) (Ib Le (pv 1) (Od Pc rfl T.wo vd (bb (pv 0) fb))) (fun _ _=>rfl)) pb))
   (db (Ab (i:=4) ij.nd rfl (Or.inl rfl) (Ib xc (Ib xc (Ib Le (pv 3) pb) (Ib sv (Ib sv pb (pv 1)) (pv 1))) pb))
   (gb (Db (Ib Le (Ib Le (Ib sv (Ib Le (Ib sv (pv 4) pb) pb) pb) pb) (pv 2)))))),?_⟩
 (walk_at "RD")
 refine ⟨_,.inl S.seq,?_⟩
 rw [List.length_map]
 have hkk:(0:Int) ≤ k * k∧k * k < 1000000 * 1000000:=⟨Int.mul_nonneg h0 h0,Int.mul_lt_mul' (by omega) h1 h0 (by decide)⟩
 have fin:∀ i:Int,(0:Int) < 1000003∧FG 31 k∧FG (31 * k) k∧FG (i % 1000003 + 31 * k * k + 1) 48271∧(0:Int) < 999983∧FG ((i % 1000003 + 31 * k * k + 1) * 48271 % 999983) 7919∧(0:Int) < 524287∧0 < m:=by
  intro i
  refine ⟨by decide,.inl (by decide),.inr (by omega),.inr (by decide),by decide,.inr (by decide),by decide,hm⟩
 by_cases c:(0:Int) < (ns.length:Int)
 ·rw [if_pos (decide_eq_true c)]
  have hk:0 ≤ k % (ns.length:Int)∧k % (ns.length:Int) < (ns.length:Int):=⟨Int.emod_nonneg _ (by omega),Int.emod_lt_of_pos _ c⟩
  refine ⟨_,.inl S.seq,by rw [List.length_map];exact c,_,S.seq,?_⟩
  rw [List.length_map]
  have hj:(k % (ns.length:Int)).toNat < ns.length:=by omega
  refine ⟨.int ns[(k % (ns.length:Int)).toNat],?_,_,rfl,?_⟩
  ·have e:=Jb (xs:=ns.map V.int) (j:=(k % (ns.length:Int)).toNat) (v:=.int ns[(k % (ns.length:Int)).toNat]) (by rw [List.getElem?_map,List.getElem?_eq_getElem hj] <;> rfl)
   rwa [Int.toNat_of_nonneg hk.1] at e
  ·obtain ⟨f1,f2,f3,f4,f5,f6,f7,f8⟩:=fin ns[(k % (ns.length:Int)).toNat]
   refine ⟨f1,f2,f3,f4,f5,f6,f7,f8,?_⟩
   have e:Kh ns k m=(((ns[(k % (ns.length:Int)).toNat] % 1000003 + 31 * k * k + 1) * 48271 % 999983 * 7919) % 524287) % m:=by
    unfold Kh
    rw [if_pos c,List.getD_eq_getElem?_getD,List.getElem?_eq_getElem hj]
    rfl
   rw [← e];exact q
 ·rw [if_neg (by simpa using c)]
  obtain ⟨f1,f2,f3,f4,f5,f6,f7,f8⟩:=fin 0
  refine ⟨f1,f2,f3,f4,f5,f6,f7,f8,?_⟩
  have e:Kh ns k m=(((0 % 1000003 + 31 * k * k + 1) * 48271 % 999983 * 7919) % 524287) % m:=by
   unfold Kh
   rw [if_neg c]
  rw [← e];exact q
end
theorem iN {w:Str}:w=Str.ofString "" ↔ w.length=0:=by
 constructor
 ·rintro rfl;decide +kernel
 ·intro h
  have e:w.cps=#[]:=Array.eq_empty_of_size_eq_zero h
  have e2:(Str.ofString "").cps=#[]:=by decide +kernel
  cases w
  cases h2:Str.ofString ""
  rw [h2] at e2
  simp only at e e2
  rw [e,e2]
noncomputable def inL (sg:Str) (c:Nat):Bool:=!(Builtin.Str.occurrences sg (cM c) 0 sg.length 1).isEmpty
theorem kx (sg:Str) (c:Nat):inL sg c=decide (c ∈ sg.cps.toList):=StrLaws.found_one sg c
noncomputable def made (w sg:Str) (m:Int):Bool:=if w=Str.ofString "" then false else if m < (w.length:Int) then false else w.cps.toList.all (inL sg)
noncomputable def aq:Sp:=fun vs H Q _=>∃ w sg m,vs=[.str w,.str sg,.int m]∧w.length ≤ 1000∧NoT H∧Q (.bl (made w sg m)) H
noncomputable def XE:Sp:=fun vs H Q _=>∃ w sg m,vs=[.str w,.str sg,.int m]∧w.length ≤ 1000∧∀ H',Kb H H'→Q (.bl (made w sg m)) H'
section
variable {P:Program} {w:World} {K:PySem.W.Frag} {mg:Str→Option Value} {base:Heap} {t:Adr}
theorem OC (T:Txt w K mg t):Fb P w K mg base CX0 1 t.Zf t.ag ["word","signs","most"] aq:=by
 refine Fb.forget (sp:=XE) ?_ fun vs H Q E h=>?_
 ·refine T.oh.ok Pt (fun vs H Q E h=>?_) (fun cdv A outer s H vs Q E hr h=>?_)
  ·obtain ⟨w,sg,m,rfl,_⟩:=h;rfl
  obtain ⟨w,sg,m,rfl,hz,q⟩:=h
  have hz':w.length ≤ sizeLine:=Nat.le_trans hz (by decide)
  refine ⟨_,(db (Ae (PW.pt (pw (Yb Dj (pv 0) ac (dc _)) (Is (Yb vF (Od vv rfl T.wo vd (bb (pv 0) fb)) (pv 2) (dc _))))) (gb (Db xo)) Zb)
   (gb (Db (Od (ZD rfl) rfl T.NN Vy (bb (eg rfl (TK (pv 0)) (Nc (sc:=ib Lj) rfl (by decide +kernel)) (N:=["sign","signs"]) (sel:=[none,some 1]) (Jd (M:=["word","signs","most"]) (by decide +kernel)) (Blk.of (fun _ _ _ _=>(wb (i:=0) (ug (N:=["sign","signs"]) (by decide +kernel) rfl) rfl (Or.inl rfl))) (fun _ _ _ _=>⟨_,ff,by first | rfl | (dsimp only [Cx.block];done) | (dsimp only [Cx.block];exact rfl)⟩) (fun _ _ _ _=>⟨_,(wf JA (pv 0) (pv 1) (by with_unfolding_all rfl)),by first | rfl | (dsimp only [Cx.block];done) | (dsimp only [Cx.block];exact rfl)⟩))) fb))))),?_⟩
  (walk_at "RD")
  refine Bc (decide (w=Str.ofString "") || decide (m < (w.length:Int))) (fun Q hQ=>?_) (fun hb=>?_) (fun hb=>?_)
  ·(walk_at "RD")
   by_cases c:w=Str.ofString ""
   ·rw [if_pos (decide_eq_true c)]
    rw [decide_eq_true c,Bool.true_or] at hQ
    exact hQ
   ·rw [if_neg (by simpa using c)]
    rw [decide_eq_false c,Bool.false_or] at hQ
    exact ⟨hz',hQ⟩
  ·(walk_at "RD")
   have e:made w sg m=false:=by
    unfold made
    simp only [Bool.or_eq_true,decide_eq_true_eq] at hb
    by_cases c:w=Str.ofString ""
    ·rw [if_pos c]
    ·rw [if_neg c,if_pos (hb.resolve_left c)]
   have:=q H (Kb.refl H)
   rw [e] at this
   exact this
  ·(walk_at "RD")
   have e:made w sg m=w.cps.toList.all (inL sg):=by
    unfold made
    simp only [Bool.or_eq_false_iff,decide_eq_false_iff_not] at hb
    rw [if_neg hb.1,if_neg hb.2]
   refine Dd.its_map (fun x=>match x with | .str y=>.bl (!(Builtin.Str.occurrences sg y 0 sg.length 1).isEmpty) | _=>.non) (by rw [xm];exact hz') (fun i x N hx hN=>?_) (fun p hp=>?_)
   ·unfold Vi at hx
    rw [List.getElem?_map] at hx
    cases hc:w.cps.toList[i]? with
    | none=>rw [hc] at hx;cases hx
    | some c=>
     rw [hc] at hx
     have hx':V.str (cM c)=x:=Option.some.inj hx
     subst hx'
     (walk_at "RD")
     exact ⟨Sub.name,hN⟩
   ·refine ⟨p,rfl,w.cps.toList.map (inL sg),SqL.of ?_,?_⟩
    ·rw [cb]
     unfold Vi
     rw [List.map_map,List.map_map]
     rfl
    ·have:=q (upd H p (.lst (List.map (fun x=>match x with | .str y=>.bl (!(Builtin.Str.occurrences sg y 0 sg.length 1).isEmpty) | _=>.non) (Vi w)))) (jb hp)
     rw [e] at this
     rw [List.all_map]
     exact this
 ·obtain ⟨w,sg,m,e,hz,nt,q⟩:=h
  exact ⟨nt,w,sg,m,e,hz,fun H' sm=>⟨sm,q⟩⟩
end
noncomputable abbrev jJ:Str:=Str.ofString "0123456789"
noncomputable def vo (c:Nat):Bool:=decide (48 ≤ c∧c ≤ 57)
theorem eD:jJ.cps.toList=[48,49,50,51,52,53,54,55,56,57]:=by decide +kernel
theorem ME (c:Nat):inL jJ c=vo c:=by
 rw [kx,eD]
 unfold vo
 rw [Bool.eq_iff_iff]
 simp only [decide_eq_true_eq,List.mem_cons,List.not_mem_nil,or_false]
 omega
noncomputable abbrev cs (w:Str):List Nat:=w.cps.toList
theorem SA (w:Str):(cs w).length=w.length:=by simp [cs,Str.length]
noncomputable def okB (w:Str):Bool:=decide (1 ≤ (cs w).length) && decide ((cs w).length ≤ 3) && (cs w).all vo && (decide ((cs w).length ≤ 1) || decide ((cs w).headD 0 ≠ 48))
noncomputable abbrev val (w:Str):Int:=((NumText.digitsVal (cs w):Nat):Int)
noncomputable def MD (w:Str) (lo hi:Int):V:=if okB w && !(decide (val w < lo) || decide (hi < val w)) then .int (val w) else .non
theorem xC {w:Str} {c:Nat}:w=⟨#[c]⟩↔cs w=[c]:=by
 constructor
 ·rintro rfl;rfl
 ·intro h
  cases w with
  | mk a=>
   have e:a=#[c]:=Array.toList_inj.mp h
   rw [e]
theorem Yv:Str.ofString "0"=⟨#[48]⟩:=by decide +kernel
theorem Yu (w:Str):made w jJ 3=(decide (1 ≤ (cs w).length) && decide ((cs w).length ≤ 3) && (cs w).all vo):=by
 unfold made
 have e:(inL jJ)=vo:=funext ME
 rw [e]
 by_cases h1:w=Str.ofString ""
 ·have h2:=iN.mp h1
  rw [if_pos h1,SA,h2];rfl
 ·have h2:¬ w.length=0:=fun z=>h1 (iN.mpr z)
  rw [if_neg h1,SA]
  by_cases h3:(3:Int) < (w.length:Int)
  ·rw [if_pos h3,decide_eq_false (show ¬ w.length ≤ 3 by omega),Bool.and_false,Bool.false_and]
  ·rw [if_neg h3,decide_eq_true (show 1 ≤ w.length by omega),decide_eq_true (show w.length ≤ 3 by omega)];rfl
theorem du {l:List Nat} (h:l.all vo=true):NumText.AllDigits l:=fun c hc=>by
 have:=List.all_eq_true.mp h c hc
 simpa [vo] using this
theorem yM {w:Str} (h:okB w=true):(1 ≤ (cs w).length∧(cs w).length ≤ 3)∧(cs w).all vo=true:=by
 unfold okB at h
 simp only [Bool.and_eq_true,decide_eq_true_eq] at h
 exact h.1
noncomputable def RA:Sp:=fun vs H Q _=>∃ w,vs=[.str w,.int 3]∧w.length ≤ 1000∧NoT H∧Q (.bl (okB w)) H
noncomputable def HG:Sp:=fun vs H Q _=>∃ w lo hi,vs=[.str w,.int lo,.int hi]∧w.length ≤ 1000∧NoT H∧Q (MD w lo hi) H
section
variable {P:Program} {w:World} {K:PySem.W.Frag} {mg:Str→Option Value} {base:Heap} {t:Adr}
theorem ZM (T:Txt w K mg t):Fb P w K mg base CX0 2 t.yi t.ni ["word","most_figures"] RA:=by
 have G_is_made_of:Fb P w K mg base CX0 1 t.Zf t.ag ["word","signs","most"] aq:=OC T
 refine T.Xk.ok bv (fun vs H Q E h=>?_) (fun cdv A outer s H vs Q E hr h=>?_)
 ·obtain ⟨w,rfl,_⟩:=h;rfl
 obtain ⟨w,rfl,hz,nt,q⟩:=h
 have hz':w.length ≤ sizeLine:=Nat.le_trans hz (by decide)
 refine ⟨_,(db (Ae (wm (Ck (xb G_is_made_of hr rfl T.ao T.oh.kp T.Xn .nil Cb (bb (pv 0) (bb (Bh rfl T.UC T.HB) (bb (pv 1) fb)))))) (gb (Db xo)) Zb)
   (gb (Db (IK (wf Dj (pv 0) ac (dc _)) (Hy (wf xw (zc bH (pv 0) pb (fun _ _=>rfl)) ac (dc _))))))),?_⟩
 refine Bc (!made w jJ 3) (fun Q hQ=>?_) (fun hb=>?_) (fun hb=>?_)
 ·(walk_at "RD"; repeat (simp only [aq];walk_at "RD"))
  exact ⟨hz,nt,hQ⟩
 ·(walk_at "RD")
  have e:okB w=false:=by
   have hb':made w jJ 3=false:=by simpa using hb
   rw [Yu] at hb'
   unfold okB
   rw [hb'];rfl
  rw [e] at q
  exact q
 ·have hb':made w jJ 3=true:=by simpa using hb
  rw [Yu] at hb'
  rw [zy]
  dsimp only
  refine lI (.bl (okB w)) (fun Q hQ=>?_) ?_
  case refine_2=>exact q
  (walk_at "RD")
  have hb2:(1 ≤ (cs w).length∧(cs w).length ≤ 3)∧(cs w).all vo=true:=by
   simpa only [Bool.and_eq_true,decide_eq_true_eq] using hb'
  obtain ⟨c,r,hcr⟩:∃ c r,cs w=c :: r:=by
   cases h:cs w with
   | nil=>rw [h] at hb2;exact absurd hb2.1.1 (by decide)
   | cons c r=>exact ⟨c,r,rfl⟩
  have ok:okB w=(decide ((cs w).length ≤ 1) || decide ((cs w).headD 0 ≠ 48)):=by
   unfold okB
   rw [hb',Bool.true_and]
  by_cases c0:w=Str.ofString "0"
  ·rw [if_pos (decide_eq_true c0)]
   have e:cs w=[48]:=by rw [c0,Yv]
   rw [ok,e] at hQ
   exact hQ
  ·rw [if_neg (by simpa using c0)]
   refine ⟨hz',c,?_,?_⟩
   ·have:=Jb (xs:=cs w) (j:=0) (v:=c) (by rw [hcr];rfl)
    exact this
   ·have e2:decide ((⟨#[c]⟩:Str)=Str.ofString "0")=decide (c=48):=by
     rw [Yv]
     by_cases h48:c=48
     ·rw [h48];simp
     ·rw [decide_eq_false h48,decide_eq_false]
      intro z
      have z2:=xC.mp z
      exact h48 (List.cons.inj z2).1
    rw [e2]
    have e3:okB w = !decide (c=48):=by
     rw [ok,hcr]
     show (decide ((c :: r).length ≤ 1) || decide (c ≠ 48))=_
     by_cases h48:c=48
     ·have hr:r ≠ []:=fun z=>c0 (by rw [Yv];exact xC.mpr (by rw [hcr,z,h48]))
      have:¬ (c :: r).length ≤ 1:=by
       cases r with
       | nil=>exact absurd rfl hr
       | cons d r=>simp
      rw [decide_eq_false this,h48];rfl
     ·rw [decide_eq_true h48,Bool.or_true,decide_eq_false h48];rfl
    rw [← e3]
    exact hQ
theorem SM (T:Txt w K mg t):Fb P w K mg base CX0 3 t.Pl t.Wl ["word","low","high"] HG:=by
 have G_is_number:Fb P w K mg base CX0 2 t.yi t.ni ["word","most_figures"] RA:=ZM T
 refine T.Mp.ok Bs (fun vs H Q E h=>?_) (fun cdv A outer s H vs Q E hr h=>?_)
 ·obtain ⟨w,lo,hi,rfl,_⟩:=h;rfl
 obtain ⟨w,lo,hi,rfl,hz,nt,q⟩:=h
 refine ⟨_,(db (Ae (wm (Ck (xb G_is_number hr rfl T.Kw T.Xk.kp T.Iw .nil Cb (bb (pv 0) (bb (Bh rfl T.cr T.Sq) fb))))) (gb (Db ly)) Zb)
   (db (Ab (i:=3) Bs.nd rfl (Or.inl rfl) (Dg qC rfl T.xN iz (bb (pv 0) fb)))
   (db (Ae (PW.pt (pw (Yb ft (pv 3) (pv 1) (dc _)) (Is (Yb vF (pv 3) (pv 2) (dc _))))) (gb (Db ly)) Zb)
   (gb (Db (pv 3)))))),?_⟩
 refine Bc (!okB w) (fun Q hQ=>?_) (fun hb=>?_) (fun hb=>?_)
 ·(walk_at "RD"; repeat (simp only [RA];walk_at "RD"))
  exact ⟨hz,nt,hQ⟩
 ·(walk_at "RD")
  have hb':okB w=false:=by simpa using hb
  have e:MD w lo hi=.non:=by unfold MD;rw [hb'];rfl
  rw [e] at q;exact q
 ·have hb':okB w=true:=by simpa using hb
  have h3:(1 ≤ (cs w).length∧(cs w).length ≤ 3)∧(cs w).all vo=true:=by
   have:=hb'
   unfold okB at this
   simp only [Bool.and_eq_true,decide_eq_true_eq] at this
   exact this.1
  have hl:=SA w
  have hi':intText? w=some (val w):=intText_digits (du h3.2) (fun z=>by have z':cs w=[]:=z;rw [z'] at h3;exact absurd h3.1.1 (by decide)) (by omega)
  (walk_at "RD")
  refine ⟨val w,hi',by omega,?_⟩
  refine Bc (decide (val w < lo) || decide (hi < val w)) (fun Q hQ=>?_) (fun hc=>?_) (fun hc=>?_)
  ·(walk_at "RD")
   by_cases c:val w < lo
   ·rw [if_pos (decide_eq_true c)]
    rw [decide_eq_true c,Bool.true_or] at hQ
    exact hQ
   ·rw [if_neg (by simpa using c)]
    rw [decide_eq_false c,Bool.false_or] at hQ
    exact hQ
  ·(walk_at "RD")
   have e:MD w lo hi=.non:=by unfold MD;rw [hb',hc];rfl
   rw [e] at q;exact q
  ·(walk_at "RD")
   have e:MD w lo hi=.int (val w):=by unfold MD;rw [hb',hc];rfl
   rw [e] at q;exact q
end
theorem bq {n:Nat} (h:n < 1000):n.log2 < 1920:=by
 by_cases h0:n=0
 ·subst h0;decide
 ·rw [Nat.log2_lt h0]
  exact Nat.lt_of_lt_of_le h (Nat.le_trans (show 1000 ≤ 2 ^ 10 by decide) (Nat.pow_le_pow_right (by decide) (by decide)))
theorem PF:∀ n,n < 1000→(Nat.toDigits 10 n).length ≤ 3:=by decide +kernel
theorem xI {n:Int} (h0:0 ≤ n) (h1:n ≤ 999):(Str.ofString (toString n)).length ≤ 3:=by
 have e:=PySem.W.KIN.signs_num n.toNat
 rw [Int.toNat_of_nonneg h0] at e
 have l:(Str.ofString (toString n)).length=(Str.ofString (toString n)).cps.toList.length:=by simp [Str.length]
 rw [l,e,List.length_map]
 exact PF _ (by omega)
noncomputable abbrev Eh:Str:=Str.ofString "abcdefghijklmnopqrstuvwxyz"
noncomputable def nC:Sp:=fun vs H Q _=>∃ w,vs=[.str w]∧w.length ≤ 1000∧NoT H∧Q (.bl (made w Eh 8)) H
section
variable {P:Program} {w:World} {K:PySem.W.Frag} {mg:Str→Option Value} {base:Heap} {t:Adr}
theorem MH (T:Txt w K mg t):Fb P w K mg base CX0 2 t.qm t.Tl ["word"] nC:=by
 have G_is_made_of:Fb P w K mg base CX0 1 t.Zf t.ag ["word","signs","most"] aq:=OC T
 refine T.Xo.ok tz (fun vs H Q E h=>?_) (fun cdv A outer s H vs Q E hr h=>?_)
 ·obtain ⟨w,rfl,_⟩:=h;rfl
 obtain ⟨w,rfl,hz,nt,q⟩:=h
 refine ⟨_,(gb (Db (xb G_is_made_of hr rfl T.ao T.oh.kp T.Xn .nil Cb (bb (pv 0) (bb (Bh rfl T.fA T.aB) (bb (Bh rfl T.Dq T.ur) fb)))))),?_⟩
 (walk_at "RD"; repeat (simp only [aq];walk_at "RD"))
 exact ⟨hz,nt,q⟩
end
noncomputable abbrev nl:Str:=Str.ofString "\n"
noncomputable abbrev bk:Str:=Str.ofString " "
theorem iO:nl=⟨#[10]⟩:=by decide +kernel
theorem zI:bk=⟨#[32]⟩:=by decide +kernel
noncomputable def Pi (x:Str):List (List Str):=(Txt.split x nl).map fun r=>Txt.split r bk
theorem ss:∀ {ys:List Str} {y:Str},y ∈ ys→y.length ≤ (ys.map (·.length)).sum
 | [],_,h=>nomatch h
 | a :: r,y,h=>by
  rw [List.map_cons,List.sum_cons]
  rcases List.mem_cons.mp h with rfl | h
  ·omega
  ·have:=ss h;omega
theorem hJ {x y r:Str} (hy:1 ≤ y.length) (h:r ∈ Txt.split x y):r.length ≤ x.length + 1:=by
 have h1:=PyProof.Rows.split_weight x y hy
 have h2:=ss h
 omega
theorem lp {x y:Str} (hy:1 ≤ y.length):(Txt.split x y).length ≤ x.length + 1:=by
 have h1:=PyProof.Rows.split_weight x y hy
 omega
theorem ZE (x y:Str):Txt.split x y ≠ []:=by
 unfold Txt.split
 split
 ·simp
 ·split
  ·simp
  ·rw [StrLaws.partsBetween_eq]
   obtain ⟨p,r,e⟩:=StrLaws.partsFrom_ne x y.length 0 (Builtin.Str.occurrences x y 0 x.length (x.length + 1))
   rw [e];simp
noncomputable def LL (H0 H:Hp) (p:Addr) (rows:List (List Str)):Prop:=∃ qs:List Addr,H p=some (.lst (qs.map V.ref))∧H0 p=none∧p ∉ qs∧qs.length=rows.length∧∀ (i:Nat) (q:Addr) (r:List Str),qs[i]? = some q→rows[i]? = some r→H q=some (.lst (Eb r))∧H0 q=none
noncomputable def Ox:Sp:=fun vs H Q _=>∃ x,vs=[.str x]∧x.length ≤ 20000∧NoT H∧∀ p H',Kb H H'→NoT H'→LL H H' p (Pi x)→Q (.ref p) H'
theorem Rx:nl.length=1:=by decide +kernel
theorem uv:bk.length=1:=by decide +kernel
section
variable {P:Program} {w:World} {K:PySem.W.Frag} {mg:Str→Option Value} {base:Heap} {t:Adr}
theorem IE (T:Txt w K mg t):Fb P w K mg base CX0 1 t.Ht t.Ts ["text"] Ox:=by
 refine T.Aw.ok ZF (fun vs H Q E h=>?_) (fun cdv A outer s H vs Q E hr h=>?_)
 ·obtain ⟨x,rfl,_⟩:=h;rfl
 obtain ⟨x,rfl,hz,nt,q⟩:=h
 have hzz:∀ n:Nat,n ≤ 40000→n ≤ sizeLine:=fun n h=>Nat.le_trans h (by decide)
 refine ⟨_,(gb (Db (eg rfl (Ec (Kl PySem.F.plainAttrs_str PySem.F.slot_str_split PySem.F.type_str_split Iy (pv 0) (bb ac fb))) (Nc (sc:=ib tw) rfl (by decide +kernel)) (N:=["row"]) (sel:=[none]) (Jd (M:=["text"]) (by decide +kernel)) (Blk.of (fun _ _ _ _=>(wb (i:=0) (ug (N:=["row"]) (by decide +kernel) rfl) rfl (Or.inl rfl))) (fun _ _ _ _=>⟨_,ff,by first | rfl | (dsimp only [Cx.block];done) | (dsimp only [Cx.block];exact rfl)⟩) (fun _ _ _ _=>⟨_,(Kl PySem.F.plainAttrs_str PySem.F.slot_str_split PySem.F.type_str_split Iy (pv 0) (bb ac fb)),by first | rfl | (dsimp only [Cx.block];done) | (dsimp only [Cx.block];exact rfl)⟩))))),?_⟩
 (walk_at "RD")
 have hy:1 ≤ nl.length:=by rw [Rx];exact Nat.le_refl _
 have hy2:1 ≤ bk.length:=by rw [uv];exact Nat.le_refl _
 have hs:=lp (x:=x) hy
 have hs':(Eb (Txt.split x nl)).length ≤ sizeLine:=by unfold Eb;rw [List.length_map];exact hzz _ (by omega)
 refine ⟨by rw [Rx];decide,hzz _ (by omega),hzz _ (show (Txt.split x nl).length ≤ 40000 by omega),fun p hp=>⟨⟨_,SqL.of cb⟩,?_⟩⟩
 refine Dd.list_mk (xs:=Eb (Txt.split x nl)) (fun v=>match v with | .str r=>.lst (Eb (Txt.split r bk)) | _=>.lst []) (SqL.of cb) hs' (fun v=>by cases v <;> rfl) (fun i v H1 N hx sm nt1 hN=>?_) (fun qs H1 sm nt1 hl al p2 hp2=>?_)
 ·unfold Eb at hx
  rw [List.getElem?_map] at hx
  cases hr:(Txt.split x nl)[i]? with
  | none=>rw [hr] at hx;cases hx
  | some r=>
   rw [hr] at hx
   have e:=Option.some.inj hx
   subst e
   have hm:=hJ hy (List.mem_of_getElem? hr)
   have hs2:=lp (x:=r) hy2
   (walk_at "RD")
   exact ⟨Sub.name,by rw [uv];decide,hzz _ (by omega),hzz _ (show (Txt.split r bk).length ≤ 40000 by omega),hN⟩
 ·have sm0:Kb H H1:=(jb hp).trans sm
  refine q _ _ (sm0.updN (sm0.free hp2)) ((nt1 (nt.upd)).upd) ⟨qs,cb,sm0.free hp2,fun hm=>?_,?_,fun i q' r h1 h2=>?_⟩
  ·obtain ⟨j,hj,e⟩:=List.getElem_of_mem hm
   have hj2:j < (Eb (Txt.split x nl)).length:=by omega
   have:=al j p2 _ (by rw [List.getElem?_eq_getElem hj,e]) (List.getElem?_eq_getElem hj2)
   rw [hp2] at this
   cases this.1
  ·rw [hl];unfold Pi Eb;rw [List.length_map,List.length_map]
  ·unfold Pi at h2
   rw [List.getElem?_map] at h2
   cases hr:(Txt.split x nl)[i]? with
   | none=>rw [hr] at h2;cases h2
   | some r0=>
    rw [hr] at h2
    have e:=Option.some.inj h2
    subst e
    have z:=al i q' (.str r0) h1 (by unfold Eb;rw [List.getElem?_map,hr];rfl)
    refine ⟨by rw [lb (qb z.1 hp2)];exact z.1,?_⟩
    have:=z.2
    by_cases hq:q'=p
    ·rw [hq];exact hp
    ·rwa [lb hq] at this
end
end My
namespace My
open PySem L2
structure WD where
 k:Nat
 name:Str
 start:Int
 fin:Int
 off:Int
 near:Int
 least:Int
noncomputable def Nd:Nat→Str
 | 0=>Str.ofString "car"
 | 1=>Str.ofString "foot"
 | _=>Str.ofString "tram"
noncomputable def Adr.cw (t:Adr):Nat→Addr
 | 0=>t.Zc
 | 1=>t.vc
 | _=>t.wc
noncomputable def so (d:WD):List (Str × V):=[(Str.ofString "kind",.str (Nd d.k)),(Str.ofString "name",.str d.name),(Str.ofString "start",.int d.start),(Str.ofString "end",.int d.fin),(Str.ofString "off",.int d.off),(Str.ofString "near",.int d.near),(Str.ofString "least",.int d.least)]
noncomputable abbrev yr:List Str:=[Str.ofString "kind",Str.ofString "name",Str.ofString "start",Str.ofString "end",Str.ofString "off",Str.ofString "near",Str.ofString "least"]
theorem Gr (d:WD):(so d).map (·.1)=yr:=rfl
noncomputable def oe (t:Adr) (H:Hp) (p:Addr) (d:WD):Prop:=d.k < 3∧∃ dx,H p=some (.ins (t.cw d.k) dx (so d))
theorem oe.same {t:Adr} {H H':Hp} {p:Addr} {d:WD} (h:oe t H p d) (s:Kb H H'):oe t H' p d:=⟨h.1,h.2.imp fun dx e=>s _ _ e⟩
noncomputable def isW (t:Adr) (C:Addr):Prop:=∃ k,k < 3∧C=t.cw k
noncomputable def nc (d:WD):Int:=match d.k with | 0=>1 | 1=>0 | _=>2
noncomputable def ae (d:WD):Int:=match d.k with | 0=>2 | 1=>d.off | _=>1
section
variable {w:World} {K:PySem.W.Frag} {mg:Str→Option Value} {t:Adr}
theorem Txt.clw (T:Txt w K mg t):∀ k,Cls K (t.cw k)
 | 0=>T.gq
 | 1=>T.Ym
 | _ + 2=>T.Km
theorem Txt.naw (T:Txt w K mg t) {f:Str} (hf:f ∈ yr):∀ k,Bb K (t.cw k) f:=by
 intro k
 simp only [yr,List.mem_cons,List.not_mem_nil,or_false] at hf
 rcases hf with rfl | rfl | rfl | rfl | rfl | rfl | rfl
 ·match k with
  | 0=>exact T.Jq
  | 1=>exact T.ip
  | _ + 2=>exact T.Qp
 ·match k with
  | 0=>exact T.Xq
  | 1=>exact T.Fp
  | _ + 2=>exact T.Cp
 ·match k with
  | 0=>exact T.nq
  | 1=>exact T.jo
  | _ + 2=>exact T.qo
 ·match k with
  | 0=>exact T.Ks
  | 1=>exact T.Iq
  | _ + 2=>exact T.Wq
 ·match k with
  | 0=>exact T.bu
  | 1=>exact T.sr
  | _ + 2=>exact T.Yq
 ·match k with
  | 0=>exact T.Bq
  | 1=>exact T.pp
  | _ + 2=>exact T.Zo
 ·match k with
  | 0=>exact T.kq
  | 1=>exact T.Ao
  | _ + 2=>exact T.io
theorem Txt.cw_inj (T:Txt w K mg t) {j k:Nat} (hj:j < 3) (hk:k < 3) (e:t.cw j=t.cw k):j=k:=by
 match j,k,hj,hk with
 | 0,0,_,_=>rfl
 | 0,1,_,_=>exact absurd e T.Oh
 | 0,2,_,_=>exact absurd e T.Rh
 | 1,0,_,_=>exact absurd e.symm T.Oh
 | 1,1,_,_=>rfl
 | 1,2,_,_=>exact absurd e T.zh
 | 2,0,_,_=>exact absurd e.symm T.Rh
 | 2,1,_,_=>exact absurd e.symm T.zh
 | 2,2,_,_=>rfl
 | j + 3,_,h,_=>omega
 | _,k + 3,_,h=>omega
theorem oe.fld (T:Txt w K mg t) {H:Hp} {p:Addr} {d:WD} (h:oe t H p d) {f:Str} {v:V} (i:Nat) (hi:yr.findIdx? (· == f)=some i) (hv:(so d)[i]? = some (f,v)):Wi K H p f v:=by
 obtain ⟨_,dx,e⟩:=h
 have hm:f ∈ yr:=by
  obtain ⟨hlt,h1,_⟩:=List.findIdx?_eq_some_iff_getElem.mp hi
  have:yr[i]=f:=by simpa using h1
  rw [← this];exact List.getElem_mem hlt
 exact ⟨_,dx,_,e,T.clw _,T.naw hm _,Zd yr i (Gr d) hi hv⟩
theorem oe.f_name (T:Txt w K mg t) {H:Hp} {p:Addr} {d:WD} (h:oe t H p d):Wi K H p (Str.ofString "name") (.str d.name):=h.fld T 1 (by decide +kernel) rfl
theorem oe.f_start (T:Txt w K mg t) {H:Hp} {p:Addr} {d:WD} (h:oe t H p d):Wi K H p (Str.ofString "start") (.int d.start):=h.fld T 2 (by decide +kernel) rfl
theorem oe.f_end (T:Txt w K mg t) {H:Hp} {p:Addr} {d:WD} (h:oe t H p d):Wi K H p (Str.ofString "end") (.int d.fin):=h.fld T 3 (by decide +kernel) rfl
theorem oe.f_off (T:Txt w K mg t) {H:Hp} {p:Addr} {d:WD} (h:oe t H p d):Wi K H p (Str.ofString "off") (.int d.off):=h.fld T 4 (by decide +kernel) rfl
theorem oe.f_near (T:Txt w K mg t) {H:Hp} {p:Addr} {d:WD} (h:oe t H p d):Wi K H p (Str.ofString "near") (.int d.near):=h.fld T 5 (by decide +kernel) rfl
theorem oe.f_least (T:Txt w K mg t) {H:Hp} {p:Addr} {d:WD} (h:oe t H p d):Wi K H p (Str.ofString "least") (.int d.least):=h.fld T 6 (by decide +kernel) rfl
end
noncomputable def Xs (t:Adr):Sp:=fun vs H Q _=>∃ (p dx:Addr) (d:WD),vs=[.ref p,.str (Nd d.k),.str d.name,.int d.start,.int d.fin,.int d.off,.int d.near,.int d.least]∧d.k < 3∧H p=some (.ins (t.cw d.k) dx [])∧Q .non (upd H p (.ins (t.cw d.k) dx (so d)))
noncomputable def Tj (t:Adr) (k:Nat):Sp:=fun vs H Q _=>∃ (p dx:Addr) (d:WD),vs=[.ref p,.str d.name,.int d.start,.int d.fin,.int d.off,.int d.near,.int d.least]∧d.k=k∧H p=some (.ins (t.cw d.k) dx [])∧Q .non (upd H p (.ins (t.cw d.k) dx (so d)))
section
variable {P:Program} {w:World} {K:PySem.W.Frag} {mg:Str→Option Value} {base:Heap} {t:Adr}
theorem mx (T:Txt w K mg t):Fb P w K mg base CX0 1 t.uf t.Cg ["self","kind","name","start","end","off","near","least"] (Xs t):=by
 refine T.As.ok cq (fun vs H Q E h=>?_) (fun cdv A outer s H vs Q E hr h=>?_)
 ·obtain ⟨p,dx,d,rfl,_⟩:=h;rfl
 obtain ⟨p,dx,d,rfl,hk,hp,q⟩:=h
 refine ⟨_,(db (df (pv 0) (pv 1) rfl)
   (db (df (pv 0) (pv 2) rfl)
   (db (df (pv 0) (pv 3) rfl)
   (db (df (pv 0) (pv 4) rfl)
   (db (df (pv 0) (pv 5) rfl)
   (db (df (pv 0) (pv 6) rfl)
   (gb (df (pv 0) (pv 7) rfl)))))))),?_⟩
 (walk_at "RD")
 have na:∀ {f:Str},f ∈ yr→Bb K (t.cw d.k) f:=fun hf=>T.naw hf d.k
 refine ⟨_,_,_,hp,T.clw _,na (by decide +kernel),by decide,?_⟩
 refine ⟨_,_,_,cb,T.clw _,na (by decide +kernel),Bm (n:=999) (by decide),?_⟩
 refine ⟨_,_,_,cb,T.clw _,na (by decide +kernel),Bm (n:=999) (Bm (n:=998) (by decide)),?_⟩
 refine ⟨_,_,_,cb,T.clw _,na (by decide +kernel),Bm (n:=999) (Bm (n:=998) (Bm (n:=997) (by decide))),?_⟩
 refine ⟨_,_,_,cb,T.clw _,na (by decide +kernel),Bm (n:=999) (Bm (n:=998) (Bm (n:=997) (Bm (n:=996) (by decide)))),?_⟩
 refine ⟨_,_,_,cb,T.clw _,na (by decide +kernel),Bm (n:=999) (Bm (n:=998) (Bm (n:=997) (Bm (n:=996) (Bm (n:=995) (by decide))))),?_⟩
 refine ⟨_,_,_,cb,T.clw _,na (by decide +kernel),Bm (n:=999) (Bm (n:=998) (Bm (n:=997) (Bm (n:=996) (Bm (n:=995) (Bm (n:=994) (by decide)))))),?_⟩
 simp only [Cj]
 rw [show Ag (Str.ofString "kind") (V.str (Nd d.k)) ([]:List (Str × V))=[(Str.ofString "kind",V.str (Nd d.k))] from Tc [] rfl (by decide +kernel),
  show Ag (Str.ofString "name") (V.str d.name) ([(Str.ofString "kind",V.str (Nd d.k))]:List (Str × V))=[(Str.ofString "kind",V.str (Nd d.k)),(Str.ofString "name",V.str d.name)] from Tc [Str.ofString "kind"] rfl (by decide +kernel),
  show Ag (Str.ofString "start") (V.int d.start) ([(Str.ofString "kind",V.str (Nd d.k)),(Str.ofString "name",V.str d.name)]:List (Str × V))=[(Str.ofString "kind",V.str (Nd d.k)),(Str.ofString "name",V.str d.name),(Str.ofString "start",V.int d.start)] from Tc [Str.ofString "kind",Str.ofString "name"] rfl (by decide +kernel),
  show Ag (Str.ofString "end") (V.int d.fin) ([(Str.ofString "kind",V.str (Nd d.k)),(Str.ofString "name",V.str d.name),(Str.ofString "start",V.int d.start)]:List (Str × V))=[(Str.ofString "kind",V.str (Nd d.k)),(Str.ofString "name",V.str d.name),(Str.ofString "start",V.int d.start),(Str.ofString "end",V.int d.fin)] from Tc [Str.ofString "kind",Str.ofString "name",Str.ofString "start"] rfl (by decide +kernel),
  show Ag (Str.ofString "off") (V.int d.off) ([(Str.ofString "kind",V.str (Nd d.k)),(Str.ofString "name",V.str d.name),(Str.ofString "start",V.int d.start),(Str.ofString "end",V.int d.fin)]:List (Str × V))=[(Str.ofString "kind",V.str (Nd d.k)),(Str.ofString "name",V.str d.name),(Str.ofString "start",V.int d.start),(Str.ofString "end",V.int d.fin),(Str.ofString "off",V.int d.off)] from Tc [Str.ofString "kind",Str.ofString "name",Str.ofString "start",Str.ofString "end"] rfl (by decide +kernel),
  show Ag (Str.ofString "near") (V.int d.near) ([(Str.ofString "kind",V.str (Nd d.k)),(Str.ofString "name",V.str d.name),(Str.ofString "start",V.int d.start),(Str.ofString "end",V.int d.fin),(Str.ofString "off",V.int d.off)]:List (Str × V))=[(Str.ofString "kind",V.str (Nd d.k)),(Str.ofString "name",V.str d.name),(Str.ofString "start",V.int d.start),(Str.ofString "end",V.int d.fin),(Str.ofString "off",V.int d.off),(Str.ofString "near",V.int d.near)] from Tc [Str.ofString "kind",Str.ofString "name",Str.ofString "start",Str.ofString "end",Str.ofString "off"] rfl (by decide +kernel),
  show Ag (Str.ofString "least") (V.int d.least) ([(Str.ofString "kind",V.str (Nd d.k)),(Str.ofString "name",V.str d.name),(Str.ofString "start",V.int d.start),(Str.ofString "end",V.int d.fin),(Str.ofString "off",V.int d.off),(Str.ofString "near",V.int d.near)]:List (Str × V))=[(Str.ofString "kind",V.str (Nd d.k)),(Str.ofString "name",V.str d.name),(Str.ofString "start",V.int d.start),(Str.ofString "end",V.int d.fin),(Str.ofString "off",V.int d.off),(Str.ofString "near",V.int d.near),(Str.ofString "least",V.int d.least)] from Tc [Str.ofString "kind",Str.ofString "name",Str.ofString "start",Str.ofString "end",Str.ofString "off",Str.ofString "near"] rfl (by decide +kernel)]
 exact q
theorem uJ (T:Txt w K mg t):Fb P w K mg base CX0 2 t.Pe t.wg ["self","name","start","end","off","near","least"] (Tj t 0):=by
 have G_Way_init:Fb P w K mg base CX0 1 t.uf t.Cg ["self","kind","name","start","end","off","near","least"] (Xs t):=mx T
 refine T.om.ok Yl (fun vs H Q E h=>?_) (fun cdv A outer s H vs Q E hr h=>?_)
 ·obtain ⟨p,dx,d,rfl,_⟩:=h;rfl
 obtain ⟨p,dx,d,rfl,hk,hp,q⟩:=h
 refine ⟨_,(gb (Ac (Xt rfl T.rK T.rn G_Way_init hr T.mn .nil Cb (bb (pv 0) (bb ac (bb (pv 1) (bb (pv 2) (bb (pv 3) (bb (pv 4) (bb (pv 5) (bb (pv 6) fb))))))))))),?_⟩
 (walk_at "RD")
 exact ⟨p,dx,d,by rw [hk];rfl,by omega,hp,q⟩
theorem NE (T:Txt w K mg t):Fb P w K mg base CX0 2 t.De t.Gf ["self","name","start","end","off","near","least"] (Tj t 1):=by
 have G_Way_init:Fb P w K mg base CX0 1 t.uf t.Cg ["self","kind","name","start","end","off","near","least"] (Xs t):=mx T
 refine T.Sk.ok ol (fun vs H Q E h=>?_) (fun cdv A outer s H vs Q E hr h=>?_)
 ·obtain ⟨p,dx,d,rfl,_⟩:=h;rfl
 obtain ⟨p,dx,d,rfl,hk,hp,q⟩:=h
 refine ⟨_,(gb (Ac (Xt rfl T.rK T.rn G_Way_init hr T.mn .nil Cb (bb (pv 0) (bb ac (bb (pv 1) (bb (pv 2) (bb (pv 3) (bb (pv 4) (bb (pv 5) (bb (pv 6) fb))))))))))),?_⟩
 (walk_at "RD")
 exact ⟨p,dx,d,by rw [hk];rfl,by omega,hp,q⟩
theorem YD (T:Txt w K mg t):Fb P w K mg base CX0 2 t.Ee t.Bf ["self","name","start","end","off","near","least"] (Tj t 2):=by
 have G_Way_init:Fb P w K mg base CX0 1 t.uf t.Cg ["self","kind","name","start","end","off","near","least"] (Xs t):=mx T
 refine T.Hk.ok ul (fun vs H Q E h=>?_) (fun cdv A outer s H vs Q E hr h=>?_)
 ·obtain ⟨p,dx,d,rfl,_⟩:=h;rfl
 obtain ⟨p,dx,d,rfl,hk,hp,q⟩:=h
 refine ⟨_,(gb (Ac (Xt rfl T.rK T.rn G_Way_init hr T.mn .nil Cb (bb (pv 0) (bb ac (bb (pv 1) (bb (pv 2) (bb (pv 3) (bb (pv 4) (bb (pv 5) (bb (pv 6) fb))))))))))),?_⟩
 (walk_at "RD")
 exact ⟨p,dx,d,by rw [hk];rfl,by omega,hp,q⟩
end
noncomputable def Uh (t:Adr) (C:Addr):Sp:=fun vs H Q _=>∃ p d,vs=[.ref p]∧oe t H p d∧C=t.cw d.k∧Q (.int (nc d)) H
noncomputable def Nj (t:Adr) (C:Addr):Sp:=fun vs H Q _=>∃ p d,vs=[.ref p]∧oe t H p d∧C=t.cw d.k∧Q (.int (ae d)) H
section
variable {P:Program} {w:World} {K:PySem.W.Frag} {mg:Str→Option Value} {base:Heap} {t:Adr}
theorem rq (T:Txt w K mg t):Fb P w K mg base CX0 1 t.Nf t.Ch ["self"] (Uh t (t.cw 0)):=by
 refine T.Pk.ok Op (fun vs H Q E h=>?_) (fun cdv A outer s H vs Q E hr h=>?_)
 ·obtain ⟨p,d,rfl,_⟩:=h;rfl
 obtain ⟨p,d,rfl,W,hC,q⟩:=h
 have hk:=(T.cw_inj (by decide) W.1 hC).symm
 refine ⟨_,(gb (Db pb)),?_⟩
 rw [show nc d=1 by unfold nc;simp only [hk]] at q
 (walk_at "RD")
 exact q
theorem Bo (T:Txt w K mg t):Fb P w K mg base CX0 1 t.We t.Fg ["self"] (Uh t (t.cw 1)):=by
 refine T.Aj.ok oo (fun vs H Q E h=>?_) (fun cdv A outer s H vs Q E hr h=>?_)
 ·obtain ⟨p,d,rfl,_⟩:=h;rfl
 obtain ⟨p,d,rfl,W,hC,q⟩:=h
 have hk:=(T.cw_inj (by decide) W.1 hC).symm
 refine ⟨_,(gb (Db pb)),?_⟩
 rw [show nc d=0 by unfold nc;simp only [hk]] at q
 (walk_at "RD")
 exact q
theorem yo (T:Txt w K mg t):Fb P w K mg base CX0 1 t.bf t.Jg ["self"] (Uh t (t.cw 2)):=by
 refine T.nj.ok uo (fun vs H Q E h=>?_) (fun cdv A outer s H vs Q E hr h=>?_)
 ·obtain ⟨p,d,rfl,_⟩:=h;rfl
 obtain ⟨p,d,rfl,W,hC,q⟩:=h
 have hk:=(T.cw_inj (by decide) W.1 hC).symm
 refine ⟨_,(gb (Db pb)),?_⟩
 rw [show nc d=2 by unfold nc;simp only [hk]] at q
 (walk_at "RD")
 exact q
theorem OB (T:Txt w K mg t):qE P w K mg base CX0 1 (isW t) "ready" ["self"] (Uh t):=by
 refine ⟨fun C hC=>?_⟩
 obtain ⟨k,hk,rfl⟩:=hC
 match k,hk with
 | 0,_=>exact ⟨_,_,T.gq,T.Mq,rq T,T.Vq⟩
 | 1,_=>exact ⟨_,_,T.Ym,T.Bp,Bo T,T.tq⟩
 | 2,_=>exact ⟨_,_,T.Km,T.jq,yo T,T.Dp⟩
theorem zr (T:Txt w K mg t):Fb P w K mg base CX0 1 t.og t.Ii ["self"] (Nj t (t.cw 0)):=by
 refine T.Cl.ok Pq (fun vs H Q E h=>?_) (fun cdv A outer s H vs Q E hr h=>?_)
 ·obtain ⟨p,d,rfl,_⟩:=h;rfl
 obtain ⟨p,d,rfl,W,hC,q⟩:=h
 have hk:=(T.cw_inj (by decide) W.1 hC).symm
 refine ⟨_,(gb (Db pb)),?_⟩
 rw [show ae d=2 by unfold ae;simp only [hk]] at q
 (walk_at "RD")
 exact q
theorem Vp (T:Txt w K mg t):Fb P w K mg base CX0 1 t.Cf t.Gh ["self"] (Nj t (t.cw 1)):=by
 refine T.Gk.ok Np (fun vs H Q E h=>?_) (fun cdv A outer s H vs Q E hr h=>?_)
 ·obtain ⟨p,d,rfl,_⟩:=h;rfl
 obtain ⟨p,d,rfl,W,hC,q⟩:=h
 have hk:=(T.cw_inj (by decide) W.1 hC).symm
 refine ⟨_,(gb (Db (bc (pv 0) rfl))),?_⟩
 rw [show ae d=d.off by unfold ae;simp only [hk]] at q
 (walk_at "RD")
 exact ⟨_,W.f_off T,q⟩
theorem Xp (T:Txt w K mg t):Fb P w K mg base CX0 1 t.Ff t.Hh ["self"] (Nj t (t.cw 2)):=by
 refine T.qk.ok Yp (fun vs H Q E h=>?_) (fun cdv A outer s H vs Q E hr h=>?_)
 ·obtain ⟨p,d,rfl,_⟩:=h;rfl
 obtain ⟨p,d,rfl,W,hC,q⟩:=h
 have hk:=(T.cw_inj (by decide) W.1 hC).symm
 refine ⟨_,(gb (Db pb)),?_⟩
 rw [show ae d=1 by unfold ae;simp only [hk]] at q
 (walk_at "RD")
 exact q
theorem aH (T:Txt w K mg t):qE P w K mg base CX0 1 (isW t) "fade" ["self"] (Nj t):=by
 refine ⟨fun C hC=>?_⟩
 obtain ⟨k,hk,rfl⟩:=hC
 match k,hk with
 | 0,_=>exact ⟨_,_,T.gq,T.wt,zr T,T.Nt⟩
 | 1,_=>exact ⟨_,_,T.Ym,T.Qq,Vp T,T.dr⟩
 | 2,_=>exact ⟨_,_,T.Km,T.Nq,Xp T,T.ir⟩
end
noncomputable def jl (c:Nat):List (List Nat)→List Nat
 | []=>[]
 | [a]=>a
 | a :: b :: r=>a ++ c :: jl c (b :: r)
theorem VC {c:Nat}:∀ {a b X Y:List Nat},c ∉ a→c ∉ b→a ++ c :: X=b ++ c :: Y→a=b∧X=Y
 | [],[],X,Y,_,_,h=>⟨rfl,(List.cons.inj h).2⟩
 | [],d :: b,X,Y,_,hb,h=>absurd (List.cons.inj h).1 (fun z=>hb (by simp [← z]))
 | d :: a,[],X,Y,ha,_,h=>absurd (List.cons.inj h).1 (fun z=>ha (by simp [z]))
 | d :: a,e :: b,X,Y,ha,hb,h=>by
  obtain ⟨h1,h2⟩:=List.cons.inj h
  obtain ⟨e1,e2⟩:=VC (fun z=>ha (List.mem_cons_of_mem _ z)) (fun z=>hb (List.mem_cons_of_mem _ z)) h2
  exact ⟨by rw [h1,e1],e2⟩
theorem uH {c:Nat}:∀ {ps qs:List (List Nat)},(∀ p ∈ ps,c ∉ p)→(∀ q ∈ qs,c ∉ q)→ps ≠ []→qs ≠ []→jl c ps=jl c qs→ps=qs
 | [a],[b],_,_,_,_,h=>by rw [show a=b from h]
 | [a],b :: b' :: r,ha,_,_,_,h=>absurd (show c ∈ a by rw [show a=b ++ c :: jl c (b' :: r) from h];simp) (ha a (by simp))
 | a :: a' :: r,[b],_,hb,_,_,h=>absurd (show c ∈ b by rw [show b=a ++ c :: jl c (a' :: r) from h.symm];simp) (hb b (by simp))
 | a :: a' :: r,b :: b' :: s,ha,hb,_,_,h=>by
  obtain ⟨e1,e2⟩:=VC (ha a (by simp)) (hb b (by simp)) (show a ++ c :: jl c (a' :: r)=b ++ c :: jl c (b' :: s) from h)
  rw [e1,uH (fun p hp=>ha p (List.mem_cons_of_mem _ hp)) (fun q hq=>hb q (List.mem_cons_of_mem _ hq)) (by simp) (by simp) e2]
 | [],_,_,_,h,_,_=>absurd rfl h
 | _ :: _,[],_,_,_,h,_=>absurd rfl h
theorem UG {c d:Nat}:∀ {ps:List (List Nat)},d ∈ jl c ps→d=c∨∃ p ∈ ps,d ∈ p
 | [],h=>nomatch h
 | [a],h=>.inr ⟨a,by simp,h⟩
 | a :: b :: r,h=>by
  rcases List.mem_append.mp (show d ∈ a ++ c :: jl c (b :: r) from h) with h | h
  ·exact .inr ⟨a,by simp,h⟩
  ·rcases List.mem_cons.mp h with h | h
   ·exact .inl h
   ·rcases UG h with h | ⟨p,hp,h⟩
    ·exact .inl h
    ·exact .inr ⟨p,List.mem_cons_of_mem _ hp,h⟩
theorem Rm (c:Nat):∀ ys:List Str,(Str.join ⟨#[c]⟩ ys).cps.toList=jl c (ys.map (·.cps.toList))
 | []=>rfl
 | [a]=>rfl
 | a :: b :: r=>by
  show (a ++ ⟨#[c]⟩ ++ Str.join ⟨#[c]⟩ (b :: r)).cps.toList=_
  rw [Str.cps_append,Array.toList_append,Str.cps_append,Array.toList_append,Rm c (b :: r)]
  simp [jl]
theorem Dw {x y:Str} (h:x.cps.toList=y.cps.toList):x=y:=by
 cases x;cases y
 exact congrArg Str.mk (Array.toList_inj.mp h)
theorem Zr {c:Nat} {ys:List Str} (hn:ys ≠ []) (hf:∀ y ∈ ys,c ∉ y.cps.toList):Txt.split (Str.join ⟨#[c]⟩ ys) ⟨#[c]⟩=ys:=by
 have e:=congrArg (·.cps.toList) (StrLaws.join_split (Str.join ⟨#[c]⟩ ys) ⟨#[c]⟩)
 simp only [Rm] at e
 have e2:=uH (c:=c) (ps:=(Txt.split (Str.join ⟨#[c]⟩ ys) ⟨#[c]⟩).map (·.cps.toList)) (qs:=ys.map (·.cps.toList)) (fun p hp=>by
  obtain ⟨y,hy,rfl⟩:=List.mem_map.mp hp
  exact StrLaws.split_free _ c y hy) (fun p hp=>by
  obtain ⟨y,hy,rfl⟩:=List.mem_map.mp hp
  exact hf y hy) (by simp [ZE]) (by simpa using hn) e
 exact (List.map_inj_right fun x y h=>Dw h).mp e2
noncomputable abbrev num (v:Int):Str:=Str.ofString (toString v)
theorem cK:∀ n,n < 1000→(decide (1 ≤ ((Nat.toDigits 10 n).map Char.toNat).length) && decide (((Nat.toDigits 10 n).map Char.toNat).length ≤ 3) && ((Nat.toDigits 10 n).map Char.toNat).all vo && (decide (((Nat.toDigits 10 n).map Char.toNat).length ≤ 1) || decide (((Nat.toDigits 10 n).map Char.toNat).headD 0 ≠ 48)) &&
  decide (NumText.digitsVal ((Nat.toDigits 10 n).map Char.toNat)=n))=true:=by decide +kernel
theorem ay {v:Int} (h0:0 ≤ v) (h1:v < 1000):okB (num v)=true∧val (num v)=v:=by
 have e:=PySem.W.KIN.signs_num v.toNat
 rw [Int.toNat_of_nonneg h0] at e
 have a:=cK v.toNat (by omega)
 rw [← e,Bool.and_eq_true,decide_eq_true_eq] at a
 exact ⟨a.1,by show ((NumText.digitsVal (cs (num v)):Nat):Int)=v;rw [a.2];omega⟩
theorem Vm {v lo hi:Int} (h0:0 ≤ v) (h1:v < 1000) (hl:lo ≤ v) (hh:v ≤ hi):MD (num v) lo hi=.int v:=by
 obtain ⟨a,b⟩:=ay h0 h1
 unfold MD
 rw [a,b,decide_eq_false (by omega:¬ v < lo),decide_eq_false (by omega:¬ hi < v)];rfl
theorem GI {u v:Int} (h0:0 ≤ u) (h1:u < 1000) (h2:0 ≤ v) (h3:v < 1000) (e:num u=num v):u=v:=by
 rw [← (ay h0 h1).2,e,(ay h2 h3).2]
theorem Tx {v:Int} (h0:0 ≤ v) (h1:v < 1000):∀ c ∈ (num v).cps.toList,48 ≤ c∧c ≤ 57:=fun c hc=>by
 have:=List.all_eq_true.mp (yM (ay h0 h1).1).2 c hc
 simpa [vo] using this
theorem zG:Eh.cps.toList=[97,98,99,100,101,102,103,104,105,106,107,108,109,110,111,112,113,114,115,116,117,118,119,120,121,122]:=by decide +kernel
theorem EL:∀ c ∈ Eh.cps.toList,97 ≤ c∧c ≤ 122:=by decide +kernel
theorem CK:∀ k,k < 26→97 + k ∈ Eh.cps.toList:=by decide +kernel
theorem Uf {x:Str} (h:made x Eh 8=true):(1 ≤ x.length∧x.length ≤ 8)∧∀ c ∈ x.cps.toList,97 ≤ c∧c ≤ 122:=by
 unfold made at h
 split at h
 ·cases h
 ·rename_i h1
  split at h
  ·cases h
  ·rename_i h2
   have h3:¬ x.length=0:=fun z=>h1 (iN.mpr z)
   refine ⟨by omega,fun c hc=>?_⟩
   have:=List.all_eq_true.mp h c hc
   rw [kx] at this
   exact EL c (of_decide_eq_true this)
theorem Ru {x:Str} (h0:1 ≤ x.length) (h1:x.length ≤ 8) (h:∀ c ∈ x.cps.toList,97 ≤ c∧c ≤ 122):made x Eh 8=true:=by
 unfold made
 rw [if_neg (fun z=>by have:=iN.mp z;omega),if_neg (by omega)]
 refine List.all_eq_true.mpr fun c hc=>?_
 have:=h c hc
 rw [kx]
 have e:=CK (c - 97) (by omega)
 rw [show 97 + (c - 97)=c by omega] at e
 exact decide_eq_true e
structure WOk (n:Int) (d:WD):Prop where
 k:d.k < 3
 nm:made d.name Eh 8=true
 st:0 ≤ d.start∧d.start < n
 fi:0 ≤ d.fin∧d.fin < n
 ne:d.start ≠ d.fin
 of:0 ≤ d.off∧d.off ≤ 30
 nr:0 ≤ d.near∧d.near ≤ 30
 le:1 ≤ d.least∧d.least ≤ 60
structure COk (n:Int) (ds:List WD):Prop where
 nn:2 ≤ n∧n ≤ 99
 ln:1 ≤ ds.length∧ds.length ≤ 12
 al:∀ d ∈ ds,WOk n d
 nd:(ds.map (·.name)).Nodup
noncomputable def Fj (d:WD):List Str:=[Nd d.k,d.name,num d.start,num d.fin,num d.off,num d.near,num d.least]
noncomputable def Ih (n:Int) (ds:List WD):List (List Str):=[Str.ofString "ring",num n] :: ds.map Fj
noncomputable def Zs (n:Int) (ds:List WD):Str:=Str.join nl ((Ih n ds).map (Str.join bk))
noncomputable def bx (x:Str):Prop:=x.length ≤ 8∧(32:Nat) ∉ x.cps.toList∧(10:Nat) ∉ x.cps.toList
theorem Lr (k:Nat):bx (Nd k):=by
 match k with
 | 0=>exact ⟨by decide +kernel,by decide +kernel,by decide +kernel⟩
 | 1=>exact ⟨by decide +kernel,by decide +kernel,by decide +kernel⟩
 | _ + 2=>exact ⟨show (Str.ofString "tram").length ≤ 8 by decide +kernel,show (32:Nat) ∉ (Str.ofString "tram").cps.toList by decide +kernel,show (10:Nat) ∉ (Str.ofString "tram").cps.toList by decide +kernel⟩
theorem fe {v:Int} (h0:0 ≤ v) (h1:v < 1000):bx (num v):=
 ⟨Nat.le_trans (xI h0 (by omega)) (by decide),fun z=>by have:=Tx h0 h1 _ z;omega,fun z=>by have:=Tx h0 h1 _ z;omega⟩
theorem Es {x:Str} (h:made x Eh 8=true):bx x:=
 ⟨(Uf h).1.2,fun z=>by have:=(Uf h).2 _ z;omega,fun z=>by have:=(Uf h).2 _ z;omega⟩
theorem WOk.plain {n:Int} {d:WD} (h:WOk n d) (hn:n ≤ 99):∀ x ∈ Fj d,bx x:=fun x hx=>by
 have h1:=h.st;have h2:=h.fi;have h3:=h.of;have h4:=h.nr;have h5:=h.le
 simp only [Fj,List.mem_cons,List.not_mem_nil,or_false] at hx
 rcases hx with rfl | rfl | rfl | rfl | rfl | rfl | rfl
 ·exact Lr _
 ·exact Es h.nm
 ·exact fe (by omega) (by omega)
 ·exact fe (by omega) (by omega)
 ·exact fe (by omega) (by omega)
 ·exact fe (by omega) (by omega)
 ·exact fe (by omega) (by omega)
theorem COk.plain {n:Int} {ds:List WD} (h:COk n ds):∀ r ∈ Ih n ds,∀ x ∈ r,bx x:=fun r hr x hx=>by
 have hn:=h.nn
 rcases List.mem_cons.mp hr with rfl | hr
 ·simp only [List.mem_cons,List.not_mem_nil,or_false] at hx
  rcases hx with rfl | rfl
  ·exact ⟨by decide +kernel,by decide +kernel,by decide +kernel⟩
  ·exact fe (by omega) (by omega)
 ·obtain ⟨d,hd,rfl⟩:=List.mem_map.mp hr
  exact (h.al d hd).plain hn.2 x hx
theorem sC {rs:List (List Str)} (h0:rs ≠ []) (h1:∀ r ∈ rs,r ≠ []) (h2:∀ r ∈ rs,∀ x ∈ r,bx x):Pi (Str.join nl (rs.map (Str.join bk)))=rs:=by
 unfold Pi
 rw [iO,zI]
 rw [Zr (by simpa using h0) (fun y hy=>by
  obtain ⟨r,hr,rfl⟩:=List.mem_map.mp hy
  rw [Rm]
  intro z
  rcases UG z with z | ⟨p,hp,z⟩
  ·cases z
  ·obtain ⟨x,hx,rfl⟩:=List.mem_map.mp hp
   exact (h2 r hr x hx).2.2 z)]
 rw [List.map_map]
 have:∀ r ∈ rs,((fun r=>Txt.split r ⟨#[32]⟩) ∘ Str.join ⟨#[32]⟩) r=r:=fun r hr=>Zr (h1 r hr) fun x hx=>(h2 r hr x hx).2.1
 exact (List.map_congr_left this).trans (List.map_id rs)
theorem Uz {n:Int} {ds:List WD} (h:COk n ds):Pi (Zs n ds)=Ih n ds:=sC (by simp [Ih]) (fun r hr=>by
 rcases List.mem_cons.mp hr with rfl | hr
 ·simp
 ·obtain ⟨d,hd,rfl⟩:=List.mem_map.mp hr
  simp [Fj]) h.plain
theorem wq (sep:Str) (B:Nat):∀ ys:List Str,(∀ y ∈ ys,y.length ≤ B)→(Str.join sep ys).length ≤ ys.length * (B + sep.length)
 | [],_=>by show (Str.empty).length ≤ _;exact Nat.zero_le _
 | [a],h=>by
  have:=h a (by simp)
  show a.length ≤ _
  simp only [List.length_cons,List.length_nil];omega
 | a :: b :: r,h=>by
  have h1:=h a (by simp)
  have h2:=wq sep B (b :: r) fun y hy=>h y (List.mem_cons_of_mem _ hy)
  show (a ++ sep ++ Str.join sep (b :: r)).length ≤ _
  rw [Jj,Jj,List.length_cons,Nat.succ_mul]
  omega
theorem IC {n:Int} {ds:List WD} (h:COk n ds):(Zs n ds).length ≤ 1000:=by
 have h1:∀ y ∈ (Ih n ds).map (Str.join bk),y.length ≤ 63:=fun y hy=>by
  obtain ⟨r,hr,rfl⟩:=List.mem_map.mp hy
  have:=wq bk 8 r fun x hx=>(h.plain r hr x hx).1
  rw [uv] at this
  have hl:r.length ≤ 7:=by
   rcases List.mem_cons.mp hr with rfl | hr
   ·simp
   ·obtain ⟨d,hd,rfl⟩:=List.mem_map.mp hr
    simp [Fj]
  omega
 have h2:=wq nl 63 _ h1
 rw [Rx] at h2
 have h3:((Ih n ds).map (Str.join bk)).length ≤ 13:=by
  have:=h.ln
  simp [Ih];omega
 unfold Zs
 omega
end My
namespace My
open PySem L2
noncomputable abbrev Vs:List Str:=[Str.ofString "row",Str.ofString "told",Str.ofString "place"]
noncomputable def rdF (row:Int) (ta:Addr) (pl:Int):List (Str × V):=[(Str.ofString "row",.int row),(Str.ofString "told",.ref ta),(Str.ofString "place",.int pl)]
theorem Xl (row:Int) (ta:Addr) (pl:Int):(rdF row ta pl).map (·.1)=Vs:=rfl
theorem LH (row:Int) (ta:Addr) (pl v:Int):Ag (Str.ofString "place") (.int v) (rdF row ta pl)=rdF row ta v:=by
 unfold rdF
 simp only [Ag]
 rw [if_neg (by decide +kernel),if_neg (by decide +kernel)];rfl
noncomputable def Qg (t:Adr) (H:Hp) (p:Addr) (row:Int) (ws:List Str) (pl:Nat):Prop:=
 (ws.length ≤ 1000∧∀ x ∈ ws,x.length ≤ 1000)∧∃ dx ta,H p=some (.ins t.zb dx (rdF row ta pl))∧H ta=some (.lst (Eb ws))
noncomputable def jd (p:Addr) (H H':Hp):Prop:=∀ b u,b ≠ p→H b=some u→H' b=some u
theorem jd.trans {p:Addr} {H H1 H2:Hp} (a:jd p H H1) (b:jd p H1 H2):jd p H H2:=fun c u n e=>b c u n (a c u n e)
theorem jd.of {p:Addr} {H H1:Hp} (a:Kb H H1):jd p H H1:=fun c u _ e=>a c u e
theorem jd.put {p:Addr} {H:Hp} {o:HO}:jd p H (upd H p o):=fun c u n e=>by rw [lb n];exact e
theorem bi (ws:List Str):(Eb ws).length=ws.length:=by unfold Eb;rw [List.length_map]
theorem bF {ws:List Str} {i:Nat} {x:Str} (h:ws[i]? = some x):(Eb ws)[i]? = some (.str x):=by unfold Eb;rw [List.getElem?_map,h];rfl
theorem Cr (ws:List Str):(Eb ws).all cj=true:=by unfold Eb;simp [cj]
theorem Ex (x:Str) (xs:List Str):inV (.str x) (Eb xs)=decide (x ∈ xs):=by
 unfold inV Eb
 rw [List.any_map,Bool.eq_iff_iff]
 simp only [List.any_eq_true,Function.comp,eqV,beq_iff_eq,decide_eq_true_eq]
 constructor
 ·rintro ⟨y,hy,rfl⟩;exact hy
 ·intro h;exact ⟨x,h,rfl⟩
section
variable {w:World} {K:PySem.W.Frag} {mg:Str→Option Value} {t:Adr} {H H':Hp} {p:Addr} {row:Int} {ws:List Str} {pl:Nat}
theorem Qg.same (h:Qg t H p row ws pl) (s:Kb H H'):Qg t H' p row ws pl:=by
 obtain ⟨hz,dx,ta,e1,e2⟩:=h
 exact ⟨hz,dx,ta,s _ _ e1,s _ _ e2⟩
theorem Qg.sameX {q:Addr} (h:Qg t H p row ws pl) (s:jd q H H') (n:p ≠ q) (k:∃ C dx fs,H q=some (.ins C dx fs)):Qg t H' p row ws pl:=by
 obtain ⟨hz,dx,ta,e1,e2⟩:=h
 obtain ⟨C,dq,fs,e3⟩:=k
 exact ⟨hz,dx,ta,s _ _ n e1,s _ _ (Me e2 e3 (by intro z;cases z)) e2⟩
theorem Qg.ins (h:Qg t H p row ws pl):∃ C dx fs,H p=some (.ins C dx fs):=by
 obtain ⟨hz,dx,ta,e1,e2⟩:=h
 exact ⟨_,_,_,e1⟩
theorem Qg.no {m:Str} (row:Int) (ta:Addr) (pl:Int) (h:Vs.contains m=false):(rdF row ta pl).lookup m=none:=Ul Vs (Xl ..) h
theorem Tt (T:Txt w K mg t) {dx ta:Addr} {pl:Int} (e:H p=some (.ins t.zb dx (rdF row ta pl))):Wi K H p (Str.ofString "place") (.int pl):=
 ⟨_,dx,_,e,T.yb,T.Xe,Zd Vs 2 (Xl ..) (by decide +kernel) rfl⟩
theorem sw (T:Txt w K mg t) {dx ta:Addr} {pl:Int} (e:H p=some (.ins t.zb dx (rdF row ta pl))):Wi K H p (Str.ofString "told") (.ref ta):=
 ⟨_,dx,_,e,T.yb,T.Th,Zd Vs 1 (Xl ..) (by decide +kernel) rfl⟩
end
noncomputable def yG (t:Adr):Sp:=fun vs H Q _=>∃ (p dx ta:Addr) (row:Int),vs=[.ref p,.int row,.ref ta]∧H p=some (.ins t.zb dx [])∧Q .non (upd H p (.ins t.zb dx (rdF row ta 0)))
noncomputable def Fl (t:Adr):Sp:=fun vs H Q _=>∃ p row ws pl,vs=[.ref p]∧Qg t H p row ws pl∧pl ≤ ws.length∧Q (.str (ws.getD pl (Str.ofString ""))) H
noncomputable def OA (t:Adr):Sp:=fun vs H Q _=>∃ p row ws pl,vs=[.ref p]∧Qg t H p row ws pl∧Q (.bl (decide (pl < ws.length))) H
noncomputable def bO (t:Adr) (H:Hp) (p:Addr) (row:Int) (ws:List Str) (pl:Nat) (R:Hp→Prop):Prop:=∀ H',jd p H H'→(NoT H→NoT H')→Qg t H' p row ws pl→R H'
noncomputable def Mt (t:Adr):Sp:=fun vs H Q _=>∃ p row ws pl,vs=[.ref p,.bl true]∧Qg t H p row ws pl∧bO t H p row ws (pl + 1) (Q .non)
noncomputable def Ps (K:PySem.W.Frag) (t:Adr):Sp:=fun vs H Q _=>∃ p row ws pl x c xs,vs=[.ref p,.ref c]∧Qg t H p row ws pl∧ws[pl]? = some x∧SqL K H c (Eb xs)∧x ∈ xs∧bO t H p row ws (pl + 1) (Q (.str x))
noncomputable def Wt (t:Adr):Sp:=fun vs H Q _=>∃ p row ws pl x lo hi v,vs=[.ref p,.int lo,.int hi]∧Qg t H p row ws pl∧ws[pl]? = some x∧MD x lo hi=.int v∧NoT H∧bO t H p row ws (pl + 1) (Q (.int v))
noncomputable def pA (t:Adr):Sp:=fun vs H Q _=>∃ p row ws pl,vs=[.ref p]∧Qg t H p row ws pl∧pl=ws.length∧Q .non H
section
variable {P:Program} {w:World} {K:PySem.W.Frag} {mg:Str→Option Value} {base:Heap} {t:Adr}
theorem eM (T:Txt w K mg t):Fb P w K mg base CX0 1 t.de t.Fe ["self","row","told"] (yG t):=by
 refine T.Ri.ok gj (fun vs H Q E h=>?_) (fun cdv A outer s H vs Q E hr h=>?_)
 ·obtain ⟨p,dx,ta,row,rfl,_⟩:=h;rfl
 obtain ⟨p,dx,ta,row,rfl,hp,q⟩:=h
 refine ⟨_,(db (df (pv 0) (pv 1) rfl)
   (db (df (pv 0) (pv 2) rfl)
   (gb (df (pv 0) pb rfl)))),?_⟩
 (walk_at "RD")
 refine ⟨_,_,_,hp,T.yb,T.mo,by decide,?_⟩
 refine ⟨_,_,_,cb,T.yb,T.Th,Bm (n:=999) (by decide),?_⟩
 refine ⟨_,_,_,cb,T.yb,T.Xe,Bm (n:=999) (Bm (n:=998) (by decide)),?_⟩
 simp only [Cj]
 rw [show Ag (Str.ofString "row") (V.int row) ([]:List (Str × V))=[(Str.ofString "row",V.int row)] from Tc [] rfl (by decide +kernel),
  show Ag (Str.ofString "told") (V.ref ta) ([(Str.ofString "row",V.int row)]:List (Str × V))=[(Str.ofString "row",V.int row),(Str.ofString "told",V.ref ta)] from Tc [Str.ofString "row"] rfl (by decide +kernel),
  show Ag (Str.ofString "place") (V.int 0) ([(Str.ofString "row",V.int row),(Str.ofString "told",V.ref ta)]:List (Str × V))=[(Str.ofString "row",V.int row),(Str.ofString "told",V.ref ta),(Str.ofString "place",V.int 0)] from Tc [Str.ofString "row",Str.ofString "told"] rfl (by decide +kernel)]
 exact q
theorem Eo (T:Txt w K mg t):Fb P w K mg base CX0 1 t.kc t.Gc ["self"] (Fl t):=by
 refine T.Xh.ok ym (fun vs H Q E h=>?_) (fun cdv A outer s H vs Q E hr h=>?_)
 ·obtain ⟨p,row,ws,pl,rfl,_⟩:=h;rfl
 obtain ⟨p,row,ws,pl,rfl,⟨hz,dx,ta,e1,e2⟩,hle,q⟩:=h
 refine ⟨_,(db (Ae (Yb Dj (bc (pv 0) rfl) (Od Pc rfl T.wo vd (bb (bc (pv 0) rfl) fb)) (dc _)) (gb (Db ac)) Zb)
   (gb (Db (zc Yd (bc (pv 0) rfl) (bc (pv 0) rfl) (fun _ _=>rfl))))),?_⟩
 (walk_at "RD")
 refine Bc (decide ((pl:Int)=(ws.length:Int))) (fun Q hQ=>?_) (fun c=>?_) (fun c=>?_)
 ·(walk_at "RD")
  refine ⟨_,Tt T e1,_,sw T e1,_,rfl,_,.inl (SqL.of e2),rfl,?_⟩
  rw [bi]
  (walk_at "RD")
  exact hQ
 ·(walk_at "RD")
  have c':pl=ws.length:=by have:=of_decide_eq_true c;omega
  rw [show ws.getD pl (Str.ofString "")=Str.ofString "" by rw [List.getD_eq_getElem?_getD,List.getElem?_eq_none (by omega)];rfl] at q
  exact q
 ·(walk_at "RD")
  have c':pl < ws.length:=by have:=of_decide_eq_false c;omega
  have hx:ws[pl]? = some ws[pl]:=List.getElem?_eq_getElem c'
  rw [List.getD_eq_getElem?_getD,hx] at q
  exact ⟨_,sw T e1,_,Tt T e1,_,rfl,_,_,rfl,SqL.of e2,_,Jb (bF hx),q⟩
theorem vI (T:Txt w K mg t):Fb P w K mg base CX0 1 t.Xc t.Pd ["self"] (OA t):=by
 refine T.kg.ok dj (fun vs H Q E h=>?_) (fun cdv A outer s H vs Q E hr h=>?_)
 ·obtain ⟨p,row,ws,pl,rfl,_⟩:=h;rfl
 obtain ⟨p,row,ws,pl,rfl,⟨hz,dx,ta,e1,e2⟩,q⟩:=h
 refine ⟨_,(gb (Db (wf ft (bc (pv 0) rfl) (Od Pc rfl T.wo vd (bb (bc (pv 0) rfl) fb)) (dc _)))),?_⟩
 (walk_at "RD")
 have e:decide (pl < ws.length)=decide ((pl:Int) < (ws.length:Int)):=by rw [Bool.eq_iff_iff];simp
 rw [e] at q
 refine ⟨_,Tt T e1,_,sw T e1,_,rfl,_,.inl (SqL.of e2),?_⟩
 rw [bi]
 exact ⟨_,rfl,q⟩
theorem mw (T:Txt w K mg t):Fb P w K mg base CX0 1 t.Uc t.wd ["self","good"] (Mt t):=by
 refine T.Ni.ok Cn (fun vs H Q E h=>?_) (fun cdv A outer s H vs Q E hr h=>?_)
 ·obtain ⟨p,row,ws,pl,rfl,_⟩:=h;rfl
 obtain ⟨p,row,ws,pl,rfl,⟨hz,dx,ta,e1,e2⟩,q⟩:=h
 refine ⟨_,(db (Ae (wm (Ck (pv 1))) (gb Sj) Zb)
   (gb (rC (pv 0) pb WL))),?_⟩
 (walk_at "RD")
 refine Bc false (fun Q hQ=>?_) (fun hc=>nomatch hc) (fun _=>?_)
 ·(walk_at "RD")
  exact hQ
 ·(walk_at "RD")
  refine ⟨_,_,_,e1,T.yb,T.Xe,_,Zd Vs 2 (Xl ..) (by decide +kernel) rfl,_,rfl,_,_,e1,by rw [← List.length_map (f:=(·.1)),Xl];decide,?_⟩
  rw [LH]
  exact q _ jd.put (fun n=>n.upd) ⟨hz,dx,ta,cb,by rw [lb (Me e2 e1 (by intro z;cases z))];exact e2⟩
theorem dy (T:Txt w K mg t):Fb P w K mg base CX0 2 t.Qc t.Bd ["self","choices"] (Ps K t):=by
 have G_RowReader_ahead:Fb P w K mg base CX0 1 t.kc t.Gc ["self"] (Fl t):=Eo T
 have G_RowReader_take:Fb P w K mg base CX0 1 t.Uc t.wd ["self","good"] (Mt t):=mw T
 refine T.Zg.ok Kg (fun vs H Q E h=>?_) (fun cdv A outer s H vs Q E hr h=>?_)
 ·obtain ⟨p,row,ws,pl,x,c,xs,rfl,_⟩:=h;rfl
 obtain ⟨p,row,ws,pl,x,c,xs,rfl,R,hx,hc,hm,q⟩:=h
 refine ⟨_,(db (Ab (i:=2) Kg.nd rfl (Or.inl rfl) (se (pv 0) T.yb T.we G_RowReader_ahead hr T.ue .nil Cb))
   (db (Ac (Ld (pv 0) T.yb T.gg G_RowReader_take hr T.dg .nil Cb (bb (wf mj (pv 2) (pv 1) (by with_unfolding_all rfl)) fb)))
   (gb (Db (pv 2))))),?_⟩
 have hlt:pl < ws.length:=(List.getElem?_eq_some_iff.mp hx).1
 have hg:ws.getD pl (Str.ofString "")=x:=by rw [List.getD_eq_getElem?_getD,hx];rfl
 obtain ⟨_,dx,ta,e1,e2⟩:=id R
 (walk_at "RD")
 refine ⟨_,_,e1,Qg.no _ _ _ (by decide +kernel),⟨p,row,ws,pl,rfl,R,by omega,?_⟩⟩
 rw [hg]
 (walk_at "RD")
 refine ⟨_,_,e1,Qg.no _ _ _ (by decide +kernel),_,.inl hc,rfl,Cr xs,?_⟩
 rw [Ex,decide_eq_true hm]
 refine ⟨p,row,ws,pl,rfl,R,fun H' s1 s2 s3=>?_⟩
 (walk_at "RD")
 exact q H' s1 s2 s3
theorem Bw (T:Txt w K mg t):Fb P w K mg base CX0 4 t.gc t.Jc ["self","low","high"] (Wt t):=by
 have G_RowReader_ahead:Fb P w K mg base CX0 3 t.kc t.Gc ["self"] (Fl t):=(Eo T).mono (by decide)
 have G_RowReader_take:Fb P w K mg base CX0 3 t.Uc t.wd ["self","good"] (Mt t):=(mw T).mono (by decide)
 have G_figured:Fb P w K mg base CX0 3 t.Pl t.Wl ["word","low","high"] HG:=SM T
 refine T.Tg.ok lg (fun vs H Q E h=>?_) (fun cdv A outer s H vs Q E hr h=>?_)
 ·obtain ⟨p,row,ws,pl,x,lo,hi,v,rfl,_⟩:=h;rfl
 obtain ⟨p,row,ws,pl,x,lo,hi,v,rfl,R,hx,hv,nt,q⟩:=h
 refine ⟨_,(db (Ab (i:=3) lg.nd rfl (Or.inl rfl) (xb G_figured hr rfl T.sA T.Mp.kp T.cB .nil Cb (bb (se (pv 0) T.yb T.we G_RowReader_ahead hr T.ue .nil Cb) (bb (pv 1) (bb (pv 2) fb)))))
   (db (Ac (Ld (pv 0) T.yb T.gg G_RowReader_take hr T.dg .nil Cb (bb (wf wJ (pv 3) ly (dc _)) fb)))
   (gb (Db (pv 3))))),?_⟩
 have hlt:pl < ws.length:=(List.getElem?_eq_some_iff.mp hx).1
 have hg:ws.getD pl (Str.ofString "")=x:=by rw [List.getD_eq_getElem?_getD,hx];rfl
 obtain ⟨hz,dx,ta,e1,e2⟩:=id R
 (walk_at "RD")
 refine ⟨_,_,e1,Qg.no _ _ _ (by decide +kernel),⟨p,row,ws,pl,rfl,R,by omega,?_⟩⟩
 rw [hg]
 (walk_at "RD")
 refine ⟨x,lo,hi,rfl,hz.2 x (List.mem_of_getElem? hx),nt,?_⟩
 rw [hv]
 (walk_at "RD")
 refine ⟨_,_,e1,Qg.no _ _ _ (by decide +kernel),?_⟩
 refine ⟨p,row,ws,pl,rfl,R,fun H' s1 s2 s3=>?_⟩
 (walk_at "RD")
 exact q H' s1 s2 s3
theorem EG (T:Txt w K mg t):Fb P w K mg base CX0 2 t.Rc t.Gd ["self"] (pA t):=by
 have G_RowReader_has_more:Fb P w K mg base CX0 1 t.Xc t.Pd ["self"] (OA t):=vI T
 refine T.vh.ok Tk (fun vs H Q E h=>?_) (fun cdv A outer s H vs Q E hr h=>?_)
 ·obtain ⟨p,row,ws,pl,rfl,_⟩:=h;rfl
 obtain ⟨p,row,ws,pl,rfl,R,hl,q⟩:=h
 obtain ⟨hz,dx,ta,e1,e2⟩:=id R
 refine ⟨_,(gb (Ae (Ck (se (pv 0) T.yb T.gk G_RowReader_has_more hr T.jk .nil Cb)) (gb Sj) Zb)),?_⟩
 (walk_at "RD")
 refine Bc false (fun Q hQ=>?_) (fun hc=>nomatch hc) (fun _=>?_)
 ·(walk_at "RD")
  refine ⟨_,_,e1,Qg.no _ _ _ (by decide +kernel),⟨p,row,ws,pl,rfl,R,?_⟩⟩
  rw [decide_eq_false (by omega)]
  exact ⟨_,rfl,hQ⟩
 ·(walk_at "RD")
  exact q
end
end My
namespace My
open PySem L2
theorem Mb {α β:Type} {f:α→β} {l:List α} {i:Nat} {y:β} (h:(l.map f)[i]? = some y):∃ x,l[i]? = some x∧y=f x:=by
 rw [List.getElem?_map] at h
 cases e:l[i]? with
 | none=>rw [e] at h;cases h
 | some x=>rw [e] at h;exact ⟨x,rfl,(Option.some.inj h).symm⟩
noncomputable def kO (t:Adr) (H0 H:Hp) (p:Addr) (rows:List (List Str)):Prop:=∃ qs:List Addr,H p=some (.lst (qs.map V.ref))∧H0 p=none∧qs.length=rows.length∧∀ (i:Nat) (q:Addr) (r:List Str),qs[i]? = some q→rows[i]? = some r→Qg t H q i r 0∧H0 q=none
noncomputable def Wr (t:Adr):Sp:=fun vs H Q _=>∃ x,vs=[.str x]∧x.length ≤ 20000∧(∀ r ∈ Pi x,r.length ≤ 1000∧∀ y ∈ r,y.length ≤ 1000)∧NoT H∧∀ p H',Kb H H'→NoT H'→kO t H H' p (Pi x)→Q (.ref p) H'
section
variable {P:Program} {w:World} {K:PySem.W.Frag} {mg:Str→Option Value} {base:Heap} {t:Adr}
theorem Uy (T:Txt w K mg t):Fb P w K mg base CX0 3 t.dm t.Hl ["text"] (Wr t):=by
 have G_words:Fb P w K mg base CX0 2 t.Ht t.Ts ["text"] Ox:=(IE T).mono (by decide)
 have G_RowReader_init:Fb P w K mg base CX0 1 t.de t.Fe ["self","row","told"] (yG t):=eM T
 refine T.Ip.ok nz (fun vs H Q E h=>?_) (fun cdv A outer s H vs Q E hr h=>?_)
 ·obtain ⟨x,rfl,_⟩:=h;rfl
 obtain ⟨x,rfl,hz,hrow,nt,q⟩:=h
 refine ⟨_,(gb (Db (eg rfl (jp rfl T.Mg (bb (xb G_words hr rfl T.QI T.Aw.kp T.iJ .nil Cb (bb (pv 0) fb)) fb)) (Nc (sc:=ib iq) rfl (by decide +kernel)) (N:=["row","told"]) (sel:=[none,none]) (Jd (M:=["text"]) (by decide +kernel)) (Blk.of (fun _ _ _ _=>(ef (K:=K) (n:=2) rfl rfl (Qb (wb (i:=0) (ug (N:=["row","told"]) (by decide +kernel) rfl) rfl (Or.inl rfl) (.inr rfl)) (Qb (wb (i:=1) (ug (N:=["row","told"]) (by decide +kernel) rfl) rfl (Or.inl rfl) (.inr rfl)) vf)))) (fun _ _ _ _=>⟨_,ff,by first | rfl | (dsimp only [Cx.block];done) | (dsimp only [Cx.block];exact rfl)⟩) (fun _ _ _ _=>⟨_,(jn T.zw G_RowReader_init hr rfl T.Yw T.bo .nil Cb (bb (pv 0) (bb (pv 1) fb))),by first | rfl | (dsimp only [Cx.block];done) | (dsimp only [Cx.block];exact rfl)⟩))))),?_⟩
 (walk_at "RD")
 refine ⟨x,rfl,hz,nt,fun p H1 sm1 nt1 ⟨ps,hp,hp0,hpn,hpl,hpa⟩=>?_⟩
 (walk_at "RD")
 refine ⟨⟨_,SqL.of hp⟩,?_⟩
 have hlen:ps.length ≤ sizeLine:=by
  rw [hpl]
  unfold Pi
  rw [List.length_map]
  have:=lp (x:=x) (y:=nl) (by rw [Rx];exact Nat.le_refl _)
  exact Nat.le_trans (show _ ≤ 40000 by omega) (by decide)
 refine Dd.enum (xs:=ps.map V.ref) (fun i ys H2=>Kb H1 H2∧NoT H2∧∃ qs:List Addr,ys=qs.map V.ref∧qs.length=i∧∀ (j:Nat) (q:Addr) (r:List Str),qs[j]? = some q→(Pi x)[j]? = some r→Qg t H2 q j r 0∧H1 q=none)
  (by rw [List.length_map];exact hlen) ⟨Kb.refl H1,nt1,[],rfl,rfl,fun j q r h _=>by simp at h⟩ ?_ ?_ ?_
 ·rintro i ys H2 hi ⟨s2,n2,qs,rfl,hq,_⟩
  exact ⟨SqL.of (s2 _ _ hp),by rw [List.length_map];omega⟩
 ·rintro i v ys H2 p2 hv ⟨s2,n2,qs,rfl,hq,al⟩ hp2 N hN
  rw [List.getElem?_map] at hv
  cases hpi:ps[i]? with
  | none=>rw [hpi] at hv;cases hv
  | some pi=>
   rw [hpi] at hv
   have e:=(Option.some.inj hv).symm
   subst e
   refine Bj ?_
   (walk_at "RD")
   refine ⟨Sub.name2,fun a dx ha hd hne=>?_⟩
   refine ⟨a,dx,pi,i,rfl,cb,rfl,?_⟩
   rw [Cj]
   have s3:Kb H2 (upd (upd (upd H2 p2 (.tup [.int i,.ref pi])) dx (.own a)) a (.ins t.zb dx (rdF i pi 0))):=by
    have s':Kb H2 (upd H2 p2 (.tup [.int i,.ref pi])):=jb hp2
    exact ((Kb.trans s' (jb hd)).updN (s'.free ha))
   obtain ⟨r,hr⟩:∃ r,(Pi x)[i]? = some r:=⟨(Pi x)[i]'(by rw [← hpl];exact (List.getElem?_eq_some_iff.mp hpi).1),List.getElem?_eq_getElem _⟩
   have ha2:H2 a=none:=(jb hp2).free ha
   refine hN _ _ ⟨s2.trans s3,((n2.upd).upd).upd,qs ++ [a],by rw [List.map_append];rfl,by rw [List.length_append,hq];rfl,fun j q' r' h1 h2=>?_⟩
   by_cases hj:j < qs.length
   ·rw [List.getElem?_append_left hj] at h1
    obtain ⟨z1,z2⟩:=al j q' r' h1 h2
    exact ⟨z1.same s3,z2⟩
   ·rw [List.getElem?_append_right (by omega)] at h1
    have hj0:j - qs.length=0:=by
     cases hh:j - qs.length with
     | zero=>rfl
     | succ n=>rw [hh] at h1;simp at h1
    rw [hj0] at h1
    have e3:a=q':=by simpa using h1
    subst e3
    have e4:j=i:=by omega
    subst e4
    rw [hr] at h2
    cases h2
    refine ⟨⟨hrow r (List.mem_of_getElem? hr),dx,pi,cb,?_⟩,s2.free ha2⟩
    exact s3 _ _ (s2 _ _ (hpa j pi r hpi hr).1)
 ·rintro ys H2 ⟨s2,n2,qs,rfl,hq,al⟩ p2 hp2
  refine q p2 _ ((sm1.trans s2).updN ((sm1.trans s2).free hp2)) (n2.upd) ⟨qs,cb,(sm1.trans s2).free hp2,by rw [hq,List.length_map,hpl],fun i q' r h1 h2=>?_⟩
  obtain ⟨z1,z2⟩:=al i q' r h1 h2
  exact ⟨z1.same (jb hp2),sm1.free z2⟩
end
noncomputable def tP (q:Addr) (H:Hp) (R:Hp→Prop):Prop:=∀ H',jd q H H'→NoT H'→R H'
noncomputable def HC (t:Adr):Sp:=fun vs H Q _=>∃ q row n,vs=[.ref q]∧Qg t H q row [Str.ofString "ring",num n] 0∧(2 ≤ n∧n ≤ 99)∧NoT H∧tP q H (Q (.int n))
noncomputable def pj (t:Adr) (H:Hp) (wl:Addr) (ds:List WD):Prop:=∃ as:List Addr,H wl=some (.lst (as.map V.ref))∧as.length=ds.length∧∀ (i:Nat) (a:Addr) (d:WD),as[i]? = some a→ds[i]? = some d→oe t H a d
noncomputable def Dr (t:Adr):Sp:=fun vs H Q _=>∃ q row ws pl wl ds x,vs=[.ref q,.ref wl]∧Qg t H q row ws pl∧ws[pl]? = some x∧made x Eh 8=true∧pj t H wl ds∧ds.length ≤ 12∧(∀ d ∈ ds,d.name ≠ x)∧NoT H ∧
 ∀ H',jd q H H'→NoT H'→Qg t H' q row ws (pl + 1)→Q (.str x) H'
noncomputable def oH (t:Adr):Sp:=fun vs H Q _=>∃ q row ws pl n st fi,vs=[.ref q,.int n,.int st]∧Qg t H q row ws pl∧ws[pl]? = some (num fi)∧(0 ≤ st∧st < n)∧(0 ≤ fi∧fi < n)∧st ≠ fi∧n ≤ 99∧NoT H ∧
 ∀ H',jd q H H'→NoT H'→Qg t H' q row ws (pl + 1)→Q (.int fi) H'
noncomputable def gy (t:Adr):Sp:=fun vs H Q _=>∃ d:WD,vs=[.str (Nd d.k),.str d.name,.int d.start,.int d.fin,.int d.off,.int d.near,.int d.least]∧d.k < 3∧∀ x H',Kb H H'→(NoT H→NoT H')→oe t H' x d→H x=none→Q (.ref x) H'
noncomputable def qH (t:Adr):Sp:=fun vs H Q _=>∃ q row n wl ds d,vs=[.ref q,.int n,.ref wl]∧Qg t H q row (Fj d) 0∧WOk n d∧(2 ≤ n∧n ≤ 99)∧pj t H wl ds∧ds.length ≤ 12∧(∀ e ∈ ds,e.name ≠ d.name)∧NoT H ∧
 ∀ x H',jd q H H'→NoT H'→oe t H' x d→H x=none→Q (.ref x) H'
theorem pj.sameX {t:Adr} {H H':Hp} {q wl:Addr} {ds:List WD} {row:Int} {ws:List Str} {pl:Nat} (h:pj t H wl ds) (s:jd q H H') (r:Qg t H q row ws pl):pj t H' wl ds:=by
 obtain ⟨as,e1,e2,al⟩:=h
 obtain ⟨hz,dx,ta,e3,e4⟩:=r
 refine ⟨as,s _ _ (Me e1 e3 (by intro z;cases z)) e1,e2,fun i a d h1 h2=>?_⟩
 obtain ⟨hk,dx',e5⟩:=al i a d h1 h2
 refine ⟨hk,dx',s _ _ (fun z=>?_) e5⟩
 subst z
 rw [e5] at e3
 have e6:=Option.some.inj e3
 injection e6 with _ _ e8
 have e9:(7:Nat)=3:=congrArg List.length e8
 omega
theorem pj.same {t:Adr} {H H':Hp} {wl:Addr} {ds:List WD} (h:pj t H wl ds) (s:Kb H H'):pj t H' wl ds:=by
 obtain ⟨as,e1,e2,al⟩:=h
 exact ⟨as,s _ _ e1,e2,fun i a d h1 h2=>(al i a d h1 h2).same s⟩
section
variable {P:Program} {w:World} {K:PySem.W.Frag} {mg:Str→Option Value} {base:Heap} {t:Adr}
theorem MJ (T:Txt w K mg t):Fb P w K mg base CX0 5 t.Bi t.Hi ["reader"] (HC t):=by
 have G_RowReader_one_of:Fb P w K mg base CX0 4 t.Qc t.Bd ["self","choices"] (Ps K t):=(dy T).mono (by decide)
 have G_RowReader_figures:Fb P w K mg base CX0 4 t.gc t.Jc ["self","low","high"] (Wt t):=Bw T
 have G_RowReader_finish:Fb P w K mg base CX0 4 t.Rc t.Gd ["self"] (pA t):=(EG T).mono (by decide)
 refine T.el.ok Yn (fun vs H Q E h=>?_) (fun cdv A outer s H vs Q E hr h=>?_)
 ·obtain ⟨q,row,n,rfl,_⟩:=h;rfl
 obtain ⟨q,row,n,rfl,R,hn,nt,qq⟩:=h
 refine ⟨_,(db (Ac (Ld (pv 0) T.yb T.Xg G_RowReader_one_of hr T.Wg .nil Cb (bb (Rf (bb ac fb)) fb)))
   (db (Ab (i:=1) Yn.nd rfl (Or.inl rfl) (Ld (pv 0) T.yb T.Dc G_RowReader_figures hr T.Fc .nil Cb (bb (Bh rfl T.kr T.xr) (bb (Bh rfl T.au T.zt) fb))))
   (db (Ac (se (pv 0) T.yb T.ph G_RowReader_finish hr T.uh .nil Cb))
   (gb (Db (pv 1)))))),?_⟩
 obtain ⟨_,dx,ta,e1,e2⟩:=id R
 (walk_at "RD")
 refine ⟨_,_,e1,Qg.no _ _ _ (by decide +kernel),by decide,fun p hp=>?_⟩
 have s0:Kb H (upd H p (.lst [V.str (Str.ofString "ring")])):=jb hp
 refine ⟨q,row,_,0,Str.ofString "ring",p,[Str.ofString "ring"],rfl,R.same s0,rfl,SqL.of cb,by simp,fun H1 s1 n1 R1=>?_⟩
 obtain ⟨_,dx1,ta1,f1,f2⟩:=id R1
 (walk_at "RD")
 refine ⟨_,_,f1,Qg.no _ _ _ (by decide +kernel),?_⟩
 have nt1:=n1 nt.upd
 refine ⟨q,row,_,1,num n,2,99,n,rfl,R1,rfl,Vm (by omega) (by omega) hn.1 hn.2,nt1,fun H2 s2 n2 R2=>?_⟩
 obtain ⟨_,dx2,ta2,g1,g2⟩:=id R2
 (walk_at "RD")
 refine ⟨_,_,g1,Qg.no _ _ _ (by decide +kernel),?_⟩
 refine ⟨q,row,_,2,rfl,R2,rfl,?_⟩
 (walk_at "RD")
 exact qq H2 (((jd.of s0).trans s1).trans s2) (n2 nt1)
theorem pz (T:Txt w K mg t):Fb P w K mg base CX0 3 t.Re t.Se ["reader","ways"] (Dr t):=by
 have G_RowReader_ahead:Fb P w K mg base CX0 2 t.kc t.Gc ["self"] (Fl t):=(Eo T).mono (by decide)
 have G_RowReader_take:Fb P w K mg base CX0 2 t.Uc t.wd ["self","good"] (Mt t):=(mw T).mono (by decide)
 have G_is_name:Fb P w K mg base CX0 2 t.qm t.Tl ["word"] nC:=MH T
 refine T.Pg.ok Li (fun vs H Q E h=>?_) (fun cdv A outer s H vs Q E hr h=>?_)
 ·obtain ⟨q,row,ws,pl,wl,ds,x,rfl,_⟩:=h;rfl
 obtain ⟨q,row,ws,pl,wl,ds,x,rfl,R,hx,hm,hW,hdl,hnew,nt,qq⟩:=h
 refine ⟨_,(db (Ab (i:=2) Li.nd rfl (Or.inl rfl) (se (pv 0) T.yb T.we G_RowReader_ahead hr T.ue .nil Cb))
   (db (Ac (Ld (pv 0) T.yb T.gg G_RowReader_take hr T.dg .nil Cb (bb (LG (xb G_is_name hr rfl T.QB T.Xo.kp T.SC .nil Cb (bb (pv 2) fb)) (Hy (wf Bu (pv 2) (eg rfl (Ec (pv 1)) (Nc (sc:=ib Ig) rfl (by decide +kernel)) (N:=["way"]) (sel:=[none]) (Jd (M:=["reader","ways","name"]) (by decide +kernel)) (Blk.of (fun _ _ _ _=>(wb (i:=0) (ug (N:=["way"]) (by decide +kernel) rfl) rfl (Or.inl rfl))) (fun _ _ _ _=>⟨_,ff,by first | rfl | (dsimp only [Cx.block];done) | (dsimp only [Cx.block];exact rfl)⟩) (fun _ _ _ _=>⟨_,(bc (pv 0) rfl),by first | rfl | (dsimp only [Cx.block];done) | (dsimp only [Cx.block];exact rfl)⟩))) (by with_unfolding_all rfl)))) fb)))
   (gb (Db (pv 2))))),?_⟩
 have hlt:pl < ws.length:=(List.getElem?_eq_some_iff.mp hx).1
 have hg:ws.getD pl (Str.ofString "")=x:=by rw [List.getD_eq_getElem?_getD,hx];rfl
 obtain ⟨hz,dx,ta,e1,e2⟩:=id R
 (walk_at "RD")
 refine ⟨_,_,e1,Qg.no _ _ _ (by decide +kernel),⟨q,row,ws,pl,rfl,R,by omega,?_⟩⟩
 rw [hg]
 (walk_at "RD")
 refine ⟨_,_,e1,Qg.no _ _ _ (by decide +kernel),?_⟩
 refine ⟨x,rfl,hz.2 x (List.mem_of_getElem? hx),nt,?_⟩
 rw [hm]
 (walk_at "RD")
 obtain ⟨as,w1,w2,al⟩:=hW
 refine ⟨⟨_,SqL.of w1⟩,?_⟩
 have hle:(as.map V.ref).length ≤ sizeLine:=by rw [List.length_map,w2];exact Nat.le_trans hdl (by decide)
 refine Dd.list_zs (xs:=as.map V.ref) (zs:=ds.map fun d=>V.str d.name) (SqL.of w1) hle (by rw [List.length_map,List.length_map,w2]) (fun i v z N hv hz' hN=>?_) (fun p hp=>?_)
 ·obtain ⟨a,ha,rfl⟩:=Mb hv
  obtain ⟨d,hd,rfl⟩:=Mb hz'
  (walk_at "RD")
  exact ⟨Sub.name,_,(al i a d ha hd).f_name T,hN⟩
 ·(walk_at "RD")
  have e0:(ds.map fun d=>V.str d.name)=Eb (ds.map (·.name)):=by unfold Eb;rw [List.map_map];rfl
  rw [e0]
  refine ⟨_,.inl (SqL.of cb),rfl,Cr _,?_⟩
  rw [Ex,decide_eq_false (fun z=>by
   obtain ⟨d,hd,e⟩:=List.mem_map.mp z
   exact hnew d hd e)]
  have s0:Kb H (upd H p (.lst (Eb (ds.map (·.name))))):=jb hp
  exact ⟨q,row,ws,pl,rfl,R.same s0,fun H' s1 n1 R1=>qq H' ((jd.of s0).trans s1) (n1 nt.upd) R1⟩
theorem PL (T:Txt w K mg t):Fb P w K mg base CX0 5 t.Zj t.Qj ["reader","places","start"] (oH t):=by
 have G_RowReader_ahead:Fb P w K mg base CX0 4 t.kc t.Gc ["self"] (Fl t):=(Eo T).mono (by decide)
 have G_RowReader_figures:Fb P w K mg base CX0 4 t.gc t.Jc ["self","low","high"] (Wt t):=Bw T
 refine T.yn.ok px (fun vs H Q E h=>?_) (fun cdv A outer s H vs Q E hr h=>?_)
 ·obtain ⟨q,row,ws,pl,n,st,fi,rfl,_⟩:=h;rfl
 obtain ⟨q,row,ws,pl,n,st,fi,rfl,R,hx,hst,hfi,hne,hn,nt,qq⟩:=h
 refine ⟨_,(db (Ae (Yb Dj (se (pv 0) T.yb T.we G_RowReader_ahead hr T.ue .nil Cb) (Dg Gj rfl T.yI wn (bb (pv 2) fb)) (dc _)) (gb Sj) Zb)
   (gb (Db (Ld (pv 0) T.yb T.Dc G_RowReader_figures hr T.Fc .nil Cb (bb pb (bb (Ib Gg (pv 1) pb) fb)))))),?_⟩
 have hlt:pl < ws.length:=(List.getElem?_eq_some_iff.mp hx).1
 have hg:ws.getD pl (Str.ofString "")=num fi:=by rw [List.getD_eq_getElem?_getD,hx];rfl
 obtain ⟨hz,dx,ta,e1,e2⟩:=id R
 (walk_at "RD")
 refine Bc false (fun Q hQ=>?_) (fun hc=>nomatch hc) (fun _=>?_)
 ·(walk_at "RD")
  refine ⟨_,_,e1,Qg.no _ _ _ (by decide +kernel),⟨q,row,ws,pl,rfl,R,by omega,?_⟩⟩
  rw [hg]
  (walk_at "RD")
  refine ⟨bq (by omega),?_⟩
  rw [decide_eq_false (fun z=>hne (GI (by omega) (by omega) (by omega) (by omega) z).symm)]
  exact hQ
 ·(walk_at "RD")
  refine ⟨_,_,e1,Qg.no _ _ _ (by decide +kernel),⟨q,row,ws,pl,num fi,0,n - 1,fi,rfl,R,hx,Vm (by omega) (by omega) (by omega) (by omega),nt,fun H1 s1 n1 R1=>?_⟩⟩
  exact qq H1 s1 (n1 nt) R1
theorem PK {t:Adr} {H:Hp} {x dx:Addr} {d:WD} (hx:H x=none) (hd:H dx=none) (hk:d.k < 3) :
  Kb H (upd (upd (upd H dx (.own x)) x (.ins (t.cw d.k) dx [])) x (.ins (t.cw d.k) dx (so d)))∧(NoT H→NoT (upd (upd (upd H dx (.own x)) x (.ins (t.cw d.k) dx [])) x (.ins (t.cw d.k) dx (so d)))) ∧
   oe t (upd (upd (upd H dx (.own x)) x (.ins (t.cw d.k) dx [])) x (.ins (t.cw d.k) dx (so d))) x d:=
 ⟨(((Kb.refl H).updN hd).updN hx).updN hx,fun n=>((n.upd).upd).upd,hk,dx,cb⟩
theorem MF (T:Txt w K mg t):Fb P w K mg base CX0 4 t.Xj t.Vj ["sort","name","start","end","off","near","least"] (gy t):=by
 have G_CarWay_init:Fb P w K mg base CX0 2 t.Pe t.wg ["self","name","start","end","off","near","least"] (Tj t 0):=uJ T
 have G_FootWay_init:Fb P w K mg base CX0 2 t.De t.Gf ["self","name","start","end","off","near","least"] (Tj t 1):=NE T
 have G_TramWay_init:Fb P w K mg base CX0 2 t.Ee t.Bf ["self","name","start","end","off","near","least"] (Tj t 2):=YD T
 refine T.Wm.ok Hw (fun vs H Q E h=>?_) (fun cdv A outer s H vs Q E hr h=>?_)
 ·obtain ⟨d,rfl,_⟩:=h;rfl
 obtain ⟨d,rfl,hk,q⟩:=h
 refine ⟨_,(db (Ae (Yb Dj (pv 0) ac (dc _)) (gb (Db (jn T.gE G_CarWay_init hr rfl T.jF T.yt .nil Cb (bb (pv 1) (bb (pv 2) (bb (pv 3) (bb (pv 4) (bb (pv 5) (bb (pv 6) fb))))))))) Zb)
   (db (Ae (Yb Dj (pv 0) ac (dc _)) (gb (Db (jn T.FC G_FootWay_init hr rfl T.LC T.Lq .nil Cb (bb (pv 1) (bb (pv 2) (bb (pv 3) (bb (pv 4) (bb (pv 5) (bb (pv 6) fb))))))))) Zb)
   (gb (Db (jn T.nB G_TramWay_init hr rfl T.VB T.Zq .nil Cb (bb (pv 1) (bb (pv 2) (bb (pv 3) (bb (pv 4) (bb (pv 5) (bb (pv 6) fb))))))))))),?_⟩
 have fin:∀ (x dx:Addr),H x=none→H dx=none→Q (.ref x) (upd (upd (upd H dx (.own x)) x (.ins (t.cw d.k) dx [])) x (.ins (t.cw d.k) dx (so d))):=fun x dx hx hd=>by
  obtain ⟨m1,m2,m3⟩:=PK (t:=t) (d:=d) hx hd hk
  exact q x _ m1 m2 m3 hx
 obtain ⟨k,name,start,fi,off,near,least⟩:=d
 match k,hk with
 | 0,_=>
  (walk_at "RD"; repeat (simp only [Nd];walk_at "RD"))
  refine Bc true (fun Q hQ=>?_) (fun _=>?_) (fun hc=>nomatch hc)
  ·(walk_at "RD")
   exact hQ
  ·(walk_at "RD")
   exact fun x dx hx hd hne=>⟨x,dx,⟨0,name,start,fi,off,near,least⟩,rfl,rfl,cb,rfl,fin x dx hx hd⟩
 | 1,_=>
  (walk_at "RD"; repeat (simp only [Nd];walk_at "RD"))
  refine Bc false (fun Q hQ=>?_) (fun hc=>nomatch hc) (fun _=>?_)
  ·(walk_at "RD")
   rw [decide_eq_false (by decide +kernel)]
   exact hQ
  ·(walk_at "RD")
   refine Bc true (fun Q hQ=>?_) (fun _=>?_) (fun hc=>nomatch hc)
   ·(walk_at "RD")
    exact hQ
   ·(walk_at "RD")
    exact fun x dx hx hd hne=>⟨x,dx,⟨1,name,start,fi,off,near,least⟩,rfl,rfl,cb,rfl,fin x dx hx hd⟩
 | 2,_=>
  (walk_at "RD"; repeat (simp only [Nd];walk_at "RD"))
  refine Bc false (fun Q hQ=>?_) (fun hc=>nomatch hc) (fun _=>?_)
  ·(walk_at "RD")
   rw [decide_eq_false (by decide +kernel)]
   exact hQ
  ·(walk_at "RD")
   refine Bc false (fun Q hQ=>?_) (fun hc=>nomatch hc) (fun _=>?_)
   ·(walk_at "RD")
    rw [decide_eq_false (by decide +kernel)]
    exact hQ
   ·(walk_at "RD")
    exact fun x dx hx hd hne=>⟨x,dx,⟨2,name,start,fi,off,near,least⟩,rfl,rfl,cb,rfl,fin x dx hx hd⟩
theorem VM (T:Txt w K mg t):Fb P w K mg base CX0 6 t.Yj t.Oj ["reader","places","ways"] (qH t):=by
 have G_RowReader_one_of:Fb P w K mg base CX0 5 t.Qc t.Bd ["self","choices"] (Ps K t):=(dy T).mono (by decide)
 have G_RowReader_figures:Fb P w K mg base CX0 5 t.gc t.Jc ["self","low","high"] (Wt t):=(Bw T).mono (by decide)
 have G_RowReader_finish:Fb P w K mg base CX0 5 t.Rc t.Gd ["self"] (pA t):=(EG T).mono (by decide)
 have G_read_new_name:Fb P w K mg base CX0 5 t.Re t.Se ["reader","ways"] (Dr t):=(pz T).mono (by decide)
 have G_read_end:Fb P w K mg base CX0 5 t.Zj t.Qj ["reader","places","start"] (oH t):=PL T
 have G_made_way:Fb P w K mg base CX0 5 t.Xj t.Vj ["sort","name","start","end","off","near","least"] (gy t):=(MF T).mono (by decide)
 refine T.Tm.ok pe (fun vs H Q E h=>?_) (fun cdv A outer s H vs Q E hr h=>?_)
 ·obtain ⟨q,row,n,wl,ds,d,rfl,_⟩:=h;rfl
 obtain ⟨q,row,n,wl,ds,d,rfl,R,hd,hn,hW,hdl,hnew,nt,qq⟩:=h
 refine ⟨_,(db (Ab (i:=3) pe.nd rfl (Or.inl rfl) (Ld (pv 0) T.yb T.Xg G_RowReader_one_of hr T.Wg .nil Cb (bb (Rf (bb ac (bb ac (bb ac fb)))) fb)))
   (db (Ab (i:=4) pe.nd rfl (Or.inl rfl) (xb G_read_new_name hr rfl T.Ap T.Pg.kp T.xq .nil Cb (bb (pv 0) (bb (pv 2) fb))))
   (db (Ab (i:=5) pe.nd rfl (Or.inl rfl) (Ld (pv 0) T.yb T.Dc G_RowReader_figures hr T.Fc .nil Cb (bb pb (bb (Ib Gg (pv 1) pb) fb))))
   (db (Ab (i:=6) pe.nd rfl (Or.inl rfl) (xb G_read_end hr rfl T.Nz T.yn.kp T.Mz .nil Cb (bb (pv 0) (bb (pv 1) (bb (pv 5) fb)))))
   (db (Ab (i:=7) pe.nd rfl (Or.inl rfl) (Ld (pv 0) T.yb T.Dc G_RowReader_figures hr T.Fc .nil Cb (bb pb (bb (Bh rfl T.wz T.dz) fb))))
   (db (Ab (i:=8) pe.nd rfl (Or.inl rfl) (Ld (pv 0) T.yb T.Dc G_RowReader_figures hr T.Fc .nil Cb (bb pb (bb (Bh rfl T.aw T.Pw) fb))))
   (db (Ab (i:=9) pe.nd rfl (Or.inl rfl) (Ld (pv 0) T.yb T.Dc G_RowReader_figures hr T.Fc .nil Cb (bb pb (bb (Bh rfl T.zu T.mv) fb))))
   (db (Ac (se (pv 0) T.yb T.ph G_RowReader_finish hr T.uh .nil Cb))
   (gb (Db (xb G_made_way hr rfl T.Wy T.Wm.kp T.Jz .nil Cb (bb (pv 3) (bb (pv 4) (bb (pv 5) (bb (pv 6) (bb (pv 7) (bb (pv 8) (bb (pv 9) fb)))))))))))))))))),?_⟩
 have b1:=hd.st;have b2:=hd.fi;have b3:=hd.of;have b4:=hd.nr;have b5:=hd.le
 obtain ⟨_,dx,ta,e1,e2⟩:=id R
 (walk_at "RD")
 refine ⟨_,_,e1,Qg.no _ _ _ (by decide +kernel),by decide,fun p hp=>?_⟩
 have s0:Kb H (upd H p (.lst [V.str (Str.ofString "car"),V.str (Str.ofString "foot"),V.str (Str.ofString "tram")])):=jb hp
 have hin:Nd d.k ∈ [Str.ofString "car",Str.ofString "foot",Str.ofString "tram"]:=by
  have:=hd.k
  match d.k,this with
  | 0,_=>simp [Nd]
  | 1,_=>simp [Nd]
  | 2,_=>simp [Nd]
 refine ⟨q,row,_,0,Nd d.k,p,[Str.ofString "car",Str.ofString "foot",Str.ofString "tram"],rfl,R.same s0,rfl,SqL.of cb,hin,fun H1 s1 n1 R1=>?_⟩
 have x1:jd q H H1:=(jd.of s0).trans s1
 have m1:=n1 nt.upd
 (walk_at "RD")
 refine ⟨q,row,_,1,wl,ds,d.name,rfl,R1,rfl,hd.nm,hW.sameX x1 R,hdl,hnew,m1,fun H2 s2 m2 R2=>?_⟩
 obtain ⟨_,dx2,ta2,f2,g2⟩:=id R2
 have x2:=x1.trans s2
 (walk_at "RD")
 refine ⟨_,_,f2,Qg.no _ _ _ (by decide +kernel),⟨q,row,_,2,num d.start,0,n - 1,d.start,rfl,R2,rfl,Vm (by omega) (by omega) (by omega) (by omega),m2,fun H3 s3 n3 R3=>?_⟩⟩
 have x3:=x2.trans s3
 have m3:=n3 m2
 (walk_at "RD")
 refine ⟨q,row,_,3,n,d.start,d.fin,rfl,R3,rfl,b1,b2,hd.ne,hn.2,m3,fun H4 s4 m4 R4=>?_⟩
 obtain ⟨_,dx4,ta4,f4,g4⟩:=id R4
 have x4:=x3.trans s4
 (walk_at "RD")
 refine ⟨_,_,f4,Qg.no _ _ _ (by decide +kernel),⟨q,row,_,4,num d.off,0,30,d.off,rfl,R4,rfl,Vm (by omega) (by omega) (by omega) (by omega),m4,fun H5 s5 n5 R5=>?_⟩⟩
 obtain ⟨_,dx5,ta5,f5,g5⟩:=id R5
 have x5:=x4.trans s5
 have m5:=n5 m4
 (walk_at "RD")
 refine ⟨_,_,f5,Qg.no _ _ _ (by decide +kernel),⟨q,row,_,5,num d.near,0,30,d.near,rfl,R5,rfl,Vm (by omega) (by omega) (by omega) (by omega),m5,fun H6 s6 n6 R6=>?_⟩⟩
 obtain ⟨_,dx6,ta6,f6,g6⟩:=id R6
 have x6:=x5.trans s6
 have m6:=n6 m5
 (walk_at "RD")
 refine ⟨_,_,f6,Qg.no _ _ _ (by decide +kernel),⟨q,row,_,6,num d.least,1,60,d.least,rfl,R6,rfl,Vm (by omega) (by omega) (by omega) (by omega),m6,fun H7 s7 n7 R7=>?_⟩⟩
 obtain ⟨_,dx7,ta7,f7,g7⟩:=id R7
 have x7:=x6.trans s7
 have m7:=n7 m6
 (walk_at "RD")
 refine ⟨_,_,f7,Qg.no _ _ _ (by decide +kernel),⟨q,row,_,7,rfl,R7,rfl,?_⟩⟩
 (walk_at "RD")
 refine ⟨d,rfl,hd.k,fun x H8 s8 n8 w8 hx8=>?_⟩
 refine qq x H8 (x7.trans (jd.of s8)) (n8 m7) w8 ?_
 cases hH:H x with
 | none=>rfl
 | some u=>
  by_cases hxq:x=q
  ·subst hxq;rw [f7] at hx8;cases hx8
  ·rw [x7 x u hxq hH] at hx8;cases hx8
end
end My
namespace My
open PySem L2
noncomputable abbrev Xy:List Str:=[Str.ofString "places",Str.ofString "ways",Str.ofString "numbers"]
noncomputable def cF (n:Int) (wl nd:Addr):List (Str × V):=[(Str.ofString "places",.int n),(Str.ofString "ways",.ref wl),(Str.ofString "numbers",.ref nd)]
theorem Kt (n:Int) (wl nd:Addr):(cF n wl nd).map (·.1)=Xy:=rfl
noncomputable def nm (ds:List WD) (i:Nat):Str:=((ds[i]?).map (·.name)).getD (Str.ofString "")
noncomputable def Wv (ds:List WD) (i:Nat):List (Key × V):=(List.range i).map fun j=>(Sum.inr (nm ds j),V.int j)
theorem Fq {ds:List WD} {i:Nat} {d:WD} (h:ds[i]? = some d):nm ds i=d.name:=by unfold nm;rw [h];rfl
theorem oy {ds:List WD} (h:(ds.map (·.name)).Nodup) {i j:Nat} (hi:i < ds.length) (hj:j < ds.length) (e:nm ds i=nm ds j):i=j:=by
 rw [Fq (List.getElem?_eq_getElem hi),Fq (List.getElem?_eq_getElem hj)] at e
 have:=(List.getElem_inj (xs:=ds.map (·.name)) (i:=i) (j:=j) (h₀:=by rw [List.length_map];exact hi) (h₁:=by rw [List.length_map];exact hj) h).mp (by rw [List.getElem_map,List.getElem_map];exact e)
 exact this
theorem Zx {ds:List WD} (h:(ds.map (·.name)).Nodup) {i:Nat}:∀ {n:Nat},i < n→n ≤ ds.length→Wj (Wv ds n) (Sum.inr (nm ds i))=some (.int i):=by
 intro n
 induction n with
 | zero=>intro hi _;omega
 | succ n ih=>
  intro hi hn
  unfold Wv Wj
  rw [List.range_succ,List.map_append,List.find?_append]
  by_cases c:i < n
  ·have:=ih c (by omega)
   unfold Wv Wj at this
   cases e:List.find? (fun kv=>decide (kv.fst=Sum.inr (nm ds i))) (List.map (fun j=>((Sum.inr (nm ds j):Key),V.int j)) (List.range n)) with
   | none=>rw [e] at this;cases this
   | some p=>rw [e] at this;exact this
  ·have e:i=n:=by omega
   subst e
   have no:List.find? (fun kv=>decide (kv.fst=Sum.inr (nm ds i))) (List.map (fun j=>((Sum.inr (nm ds j):Key),V.int j)) (List.range i))=none:=by
    rw [List.find?_eq_none]
    intro p hp
    obtain ⟨j,hj,rfl⟩:=List.mem_map.mp hp
    have hj':=List.mem_range.mp hj
    simp only [decide_eq_true_eq]
    intro z
    have:=oy h (by omega) (by omega) (Sum.inr.inj z)
    omega
   rw [no]
   simp
theorem OJ {ds:List WD} {x:Str} (h:∀ d ∈ ds,d.name ≠ x):∀ {n:Nat},n ≤ ds.length→Wj (Wv ds n) (Sum.inr x)=none:=by
 intro n hn
 unfold Wj Wv
 rw [List.find?_eq_none.mpr]
 ·rfl
 intro p hp
 obtain ⟨j,hj,rfl⟩:=List.mem_map.mp hp
 have hj':=List.mem_range.mp hj
 simp only [decide_eq_true_eq]
 intro z
 have hjl:j < ds.length:=by omega
 have e:=Sum.inr.inj z
 rw [Fq (List.getElem?_eq_getElem hjl)] at e
 exact h _ (List.getElem_mem hjl) e
theorem dF {ds:List WD} (h:(ds.map (·.name)).Nodup) {n:Nat} (hn:n < ds.length):zq (Wv ds n) (Sum.inr (nm ds n)) (.int n)=Wv ds (n + 1):=by
 unfold zq
 have no:((Wv ds n).any fun kv=>decide (kv.1=Sum.inr (nm ds n)))=false:=by
  rw [List.any_eq_false]
  intro p hp
  obtain ⟨j,hj,rfl⟩:=List.mem_map.mp hp
  have hj':=List.mem_range.mp hj
  simp only [decide_eq_true_eq]
  intro z
  have:=oy h (by omega) hn (Sum.inr.inj z)
  omega
 rw [no]
 unfold Wv
 rw [List.range_succ,List.map_append]
 rfl
theorem Je {H H1 H2:Hp} {q:Addr} (a:Kb H H1) (b:jd q H1 H2) (n:H q=none):Kb H H2:=fun c u e=>b c u (qb e n) (a c u e)
theorem XM {t:Adr} {H:Hp} {p q:Addr} {i j:Int} {ws vs:List Str} {k l:Nat} (a:Qg t H p i ws k) (b:Qg t H q j vs l) (n:i ≠ j):p ≠ q:=fun z=>by
 subst z
 obtain ⟨_,dx,ta,e1,_⟩:=a
 obtain ⟨_,dx',ta',e2,_⟩:=b
 rw [e1] at e2
 have e3:=Option.some.inj e2
 injection e3 with _ _ e4
 unfold rdF at e4
 injection e4 with e5 _
 injection e5 with _ e6
 injection e6 with e7
 exact n e7
theorem EA {t:Adr} {H:Hp} {p q:Addr} {d:WD} {j:Int} {vs:List Str} {l:Nat} (a:oe t H p d) (b:Qg t H q j vs l):p ≠ q:=fun z=>by
 subst z
 obtain ⟨_,dx,e1⟩:=a
 obtain ⟨_,dx',ta',e2,_⟩:=b
 rw [e1] at e2
 have e3:=Option.some.inj e2
 injection e3 with _ _ e4
 exact absurd (congrArg List.length e4) (by show ¬ (7:Nat)=3;decide)
noncomputable def Yc (t:Adr) (H:Hp) (c:Addr) (n:Int) (ds:List WD):Prop:=
 ((ds.map (·.name)).Nodup∧ds.length ≤ 12)∧∃ dx wl nd,H c=some (.ins t.Pb dx (cF n wl nd))∧pj t H wl ds∧H nd=some (.dK (Wv ds ds.length))
theorem Yc.same {t:Adr} {H H':Hp} {c:Addr} {n:Int} {ds:List WD} (h:Yc t H c n ds) (s:Kb H H'):Yc t H' c n ds:=by
 obtain ⟨h0,dx,wl,nd,e1,e2,e3⟩:=h
 exact ⟨h0,dx,wl,nd,s _ _ e1,e2.same s,s _ _ e3⟩
theorem Vv {m:Str} (n:Int) (wl nd:Addr) (h:Xy.contains m=false):(cF n wl nd).lookup m=none:=Ul Xy (Kt ..) h
section
variable {w:World} {K:PySem.W.Frag} {mg:Str→Option Value} {t:Adr} {H:Hp} {c dx wl nd:Addr} {n:Int}
theorem fE (T:Txt w K mg t) (e:H c=some (.ins t.Pb dx (cF n wl nd))):Wi K H c (Str.ofString "places") (.int n):=⟨_,dx,_,e,T.Gb,T.kh,Zd Xy 0 (Kt ..) (by decide +kernel) rfl⟩
theorem RB (T:Txt w K mg t) (e:H c=some (.ins t.Pb dx (cF n wl nd))):Wi K H c (Str.ofString "ways") (.ref wl):=⟨_,dx,_,e,T.Gb,T.Oi,Zd Xy 1 (Kt ..) (by decide +kernel) rfl⟩
theorem Wh (T:Txt w K mg t) (e:H c=some (.ins t.Pb dx (cF n wl nd))):Wi K H c (Str.ofString "numbers") (.ref nd):=⟨_,dx,_,e,T.Gb,T.Hg,Zd Xy 2 (Kt ..) (by decide +kernel) rfl⟩
end
noncomputable def DG (t:Adr):Sp:=fun vs H Q _=>∃ c dx n wl ds,vs=[.ref c,.int n,.ref wl]∧H c=some (.ins t.Pb dx [])∧pj t H wl ds∧(ds.map (·.name)).Nodup∧ds.length ≤ 12∧NoT H ∧
 ∀ H',jd c H H'→NoT H'→Yc t H' c n ds→Q .non H'
noncomputable def vL (t:Adr):Sp:=fun vs H Q _=>∃ n ds,vs=[.str (Zs n ds)]∧COk n ds∧NoT H∧∀ c H',Kb H H'→NoT H'→Yc t H' c n ds→Q (.ref c) H'
noncomputable def Jl (t:Adr):Sp:=fun vs H Q _=>∃ c n ds,vs=[.ref c]∧Yc t H c n ds∧∀ p,H p=none→Q (.ref p) (upd H p (.lst (Eb (ds.map (·.name)))))
noncomputable def uu (t:Adr):Sp:=fun vs H Q _=>∃ c n ds,∃ i:Nat,∃ d,vs=[.ref c,.str d.name]∧Yc t H c n ds∧ds[i]? = some d∧Q (.int (i:Nat)) H
noncomputable def Nh (t:Adr):Sp:=fun vs H Q _=>∃ c n ds,∃ i:Nat,∃ d,vs=[.ref c,.str d.name]∧Yc t H c n ds∧ds[i]? = some d∧∀ a,oe t H a d→Q (.ref a) H
section
variable {P:Program} {w:World} {K:PySem.W.Frag} {mg:Str→Option Value} {base:Heap} {t:Adr}
theorem UL (T:Txt w K mg t):Fb P w K mg base CX0 1 t.me t.Ye ["self","places","ways"] (DG t):=by
 refine T.sj.ok ze (fun vs H Q E h=>?_) (fun cdv A outer s H vs Q E hr h=>?_)
 ·obtain ⟨c,dx,n,wl,ds,rfl,_⟩:=h;rfl
 obtain ⟨c,dx,n,wl,ds,rfl,hc,hW,hnd,hdl,nt,q⟩:=h
 have hu:=Eu hr
 refine ⟨_,(db (df (pv 0) (pv 1) rfl)
   (db (df (pv 0) (pv 2) rfl)
   (db (df (pv 0) Zl rfl)
   (gb (Vd PassesOwn.never rfl (jp rfl T.Mg (bb (pv 2) fb)) (ef (K:=K) (n:=2) rfl rfl (Qb (wb (i:=3) ze.nd rfl (Or.inl rfl) (.inl rfl)) (Qb (wb (i:=4) ze.nd rfl (Or.inl rfl) (.inl rfl)) vf))) (gb (Dn hu (bc (pv 0) rfl) (bc (pv 4) rfl) (pv 3) rfl))))))),?_⟩
 (walk_at "RD")
 refine ⟨_,_,_,hc,T.Gb,T.kh,by decide,?_⟩
 refine ⟨_,_,_,cb,T.Gb,T.Oi,Bm (n:=999) (by decide),fun nd hn=>?_⟩
 simp only [Cj] at hn ⊢
 rw [show Ag (Str.ofString "places") (V.int n) ([]:List (Str × V))=[(Str.ofString "places",V.int n)] from rfl,show Ag (Str.ofString "ways") (V.ref wl) [(Str.ofString "places",V.int n)]=[(Str.ofString "places",V.int n),(Str.ofString "ways",V.ref wl)] from Tc [Str.ofString "places"] rfl (by decide +kernel)] at hn ⊢
 have hnc:c ≠ nd:=fun z=>by subst z;rw [cb] at hn;cases hn
 refine ⟨t.Pb,dx,[(Str.ofString "places",V.int n),(Str.ofString "ways",V.ref wl)],by rw [lb hnc];exact cb,T.Gb,T.Hg,show (2:Nat) < 1000 by decide,?_⟩
 rw [show Ag (Str.ofString "numbers") (V.ref nd) [(Str.ofString "places",V.int n),(Str.ofString "ways",V.ref wl)]=cF n wl nd from Tc [Str.ofString "places",Str.ofString "ways"] rfl (by decide +kernel)]
 obtain ⟨as,w1,w2,al⟩:=hW
 have hHn:H nd=none:=by rw [lb (Ne.symm hnc)] at hn;exact hn
 have sx:jd c H (upd (upd (upd H c (.ins t.Pb dx [(Str.ofString "places",V.int n),(Str.ofString "ways",V.ref wl)])) nd (.dK [])) c (.ins t.Pb dx (cF n wl nd))):=fun b u hb e=>by
  rw [lb hb,lb (qb e hHn),lb hb];exact e
 have hwc:wl ≠ c:=Me w1 hc (by intro z;cases z)
 refine ⟨⟨_,SqL.of (sx _ _ hwc w1)⟩,?_⟩
 refine Vh.enum (xs:=as.map V.ref) (fun i σ H'=>(∃ x y,σ=[some (V.ref c),some (V.int n),some (V.ref wl),x,y])∧H' c=some (.ins t.Pb dx (cF n wl nd))∧H' nd=some (.dK (Wv ds i))∧jd c H H'∧NoT H') ?_ ?_ ?_ ?_
 ·exact ⟨⟨_,_,rfl⟩,cb,by rw [lb (Ne.symm hnc),cb];rfl,sx,((nt.upd).upd).upd⟩
 ·rintro i σ H' hi ⟨_,_,_,sx',_⟩
  exact SqL.of (sx' _ _ hwc w1)
 ·rintro i v σ H' p hv ⟨⟨x,y,rfl⟩,h1,h2,sx',nt'⟩ hp
  obtain ⟨a,ha,rfl⟩:=Mb hv
  obtain ⟨hi,_⟩:=List.getElem?_eq_some_iff.mp ha
  have hid:i < ds.length:=by omega
  have hd:ds[i]? = some ds[i]:=List.getElem?_eq_getElem hid
  have Wa:oe t H a ds[i]:=al i a _ ha hd
  have hac:a ≠ c:=by
   obtain ⟨_,dx',e⟩:=Wa
   intro z
   subst z
   rw [hc] at e
   have e2:=Option.some.inj e
   injection e2 with _ _ e3
   exact absurd (congrArg List.length e3) (by show ¬ (0:Nat)=7;decide)
  have Wa':oe t H' a ds[i]:=⟨Wa.1,Wa.2.imp fun dx' e=>sx' _ _ hac e⟩
  have sp:Kb H' (upd H' p (.tup [.int i,.ref a])):=jb hp
  refine Bj ?_
  (walk_at "RD")
  refine ⟨_,Wh T (sp _ _ h1),_,(Wa'.same sp).f_name T,_,rfl,_,ww.k (k:=Sum.inr ds[i].name) (sp _ _ h2) (Nat.lt_of_le_of_lt (show (Wv ds i).length ≤ 12 by unfold Wv;rw [List.length_map,List.length_range];omega) (by decide)),?_⟩
  rw [← Fq hd,dF hnd hid]
  refine ⟨⟨_,rfl⟩,?_,cb,fun b u hb e=>?_,(nt'.upd).upd⟩
  ·rw [lb hnc];exact sp _ _ h1
  ·rw [lb (qb e hHn)];exact sp _ _ (sx' b u hb e)
 ·rintro σ H' ⟨⟨x,y,rfl⟩,h1,h2,sx',nt'⟩
  (walk_at "RD")
  rw [List.length_map,w2] at h2
  refine q H' sx' nt' ⟨⟨hnd,hdl⟩,dx,wl,nd,h1,⟨as,sx' _ _ hwc w1,w2,fun i a d h3 h4=>?_⟩,h2⟩
  have Wa:=al i a d h3 h4
  have hac:a ≠ c:=by
   obtain ⟨_,dx',e⟩:=Wa
   intro z
   subst z
   rw [hc] at e
   have e2:=Option.some.inj e
   injection e2 with _ _ e3
   exact absurd (congrArg List.length e3) (by show ¬ (0:Nat)=7;decide)
  exact ⟨Wa.1,Wa.2.imp fun dx' e=>sx' _ _ hac e⟩
theorem BA (T:Txt w K mg t):Fb P w K mg base CX0 1 t.Kc t.gd ["self","name"] (uu t):=by
 refine T.tf.ok ah (fun vs H Q E h=>?_) (fun cdv A outer s H vs Q E hr h=>?_)
 ·obtain ⟨c,n,ds,i,d,rfl,_⟩:=h;rfl
 obtain ⟨c,n,ds,i,d,rfl,⟨⟨hnd,hdl⟩,dx,wl,nd,e1,e2,e3⟩,hd,q⟩:=h
 have hu:=Eu hr
 have hv:Wj (Wv ds ds.length) (Sum.inr d.name)=some (.int i):=by
  rw [← Fq hd]
  exact Zx hnd (List.getElem?_eq_some_iff.mp hd).1 (Nat.le_refl _)
 have hg:nk H nd (.str d.name) (some (.int i)):=by rw [← hv];exact nk.k (k:=Sum.inr d.name) e3
 refine ⟨_,(db (Ae (GG (Vu hu (pv 1) (bc (pv 0) rfl))) (gb Sj) Zb)
   (gb (Db (Dm hu (bc (pv 0) rfl) (pv 1) (fun _ _=>rfl))))),?_⟩
 (walk_at "RD")
 refine Bc false (fun Q hQ=>?_) (fun hc=>nomatch hc) (fun _=>?_)
 ·(walk_at "RD")
  refine ⟨_,Wh T e1,_,rfl,_,hg,?_⟩
  exact hQ
 ·(walk_at "RD")
  exact ⟨_,Wh T e1,_,rfl,_,hg,q⟩
theorem Hj (T:Txt w K mg t):Fb P w K mg base CX0 2 t.Ob t.Ub ["self","name"] (Nh t):=by
 have G_Crossing_number:Fb P w K mg base CX0 1 t.Kc t.gd ["self","name"] (uu t):=BA T
 refine T.lf.ok mh (fun vs H Q E h=>?_) (fun cdv A outer s H vs Q E hr h=>?_)
 ·obtain ⟨c,n,ds,i,d,rfl,_⟩:=h;rfl
 obtain ⟨c,n,ds,i,d,rfl,C,hd,q⟩:=h
 obtain ⟨⟨hnd,hdl⟩,dx,wl,nd,e1,⟨as,w1,w2,al⟩,e3⟩:=id C
 refine ⟨_,(gb (Db (zc Yd (bc (pv 0) rfl) (Ld (pv 0) T.Gb T.Mh G_Crossing_number hr T.Zh .nil Cb (bb (pv 1) fb)) (fun _ _=>rfl)))),?_⟩
 (walk_at "RD")
 refine ⟨_,RB T e1,_,_,e1,Vv _ _ _ (by decide +kernel),⟨c,n,ds,i,d,rfl,C,hd,?_⟩⟩
 have hi:i < as.length:=by rw [w2];exact (List.getElem?_eq_some_iff.mp hd).1
 have ha:as[i]? = some as[i]:=List.getElem?_eq_getElem hi
 (walk_at "RD")
 refine ⟨_,SqL.of w1,_,Jb (show (as.map V.ref)[i]? = some (V.ref as[i]) by rw [List.getElem?_map,ha];rfl),?_⟩
 exact q as[i] (al i _ d ha hd)
theorem TN (T:Txt w K mg t):Fb P w K mg base CX0 7 t.Qe t.af ["text"] (vL t):=by
 have G_readers:Fb P w K mg base CX0 6 t.dm t.Hl ["text"] (Wr t):=(Uy T).mono (by decide)
 have G_read_ring:Fb P w K mg base CX0 6 t.Bi t.Hi ["reader"] (HC t):=(MJ T).mono (by decide)
 have G_read_way:Fb P w K mg base CX0 6 t.Yj t.Oj ["reader","places","ways"] (qH t):=VM T
 have G_Crossing_init:Fb P w K mg base CX0 5 t.me t.Ye ["self","places","ways"] (DG t):=(UL T).mono (by decide)
 refine T.Og.ok ce (fun vs H Q E h=>?_) (fun cdv A outer s H vs Q E hr h=>?_)
 ·obtain ⟨n,ds,rfl,_⟩:=h;rfl
 obtain ⟨n,ds,rfl,hC,nt,qq⟩:=h
 refine ⟨_,(db (Ab (i:=1) ce.nd rfl (Or.inl rfl) (xb G_readers hr rfl T.UA T.Ip.kp T.bB .nil Cb (bb (pv 0) fb)))
   (db (Ab (i:=2) ce.nd rfl (Or.inl rfl) (xb G_read_ring hr rfl T.vw T.el.kp T.bw .nil Cb (bb (zc Yd (pv 1) pb (fun _ _=>rfl)) fb)))
   (db (Ab (i:=3) ce.nd rfl (Or.inl rfl) (Rf fb))
   (db (Vd PassesOwn.never rfl (Ec (Ho LJ (pv 1) (et pb) ut)) (wb (i:=4) ce.nd rfl (Or.inl rfl)) (db (Ae (Yb Dj (Od Pc rfl T.wo vd (bb (pv 3) fb)) (Bh rfl T.nw T.Mw) (dc _)) (gb Sj) Zb)
   (gb (Ac (Kl PySem.F.plainAttrs_list PySem.F.slot_list_append PySem.F.type_list_append Qf (pv 3) (bb (xb G_read_way hr rfl T.mz T.Tm.kp T.fz .nil Cb (bb (pv 4) (bb (pv 2) (bb (pv 3) fb)))) fb))))))
   (db (Ae (wm (Ms (pv 3) (fun _=>rfl))) (gb Sj) Zb)
   (gb (Db (jn T.Fz G_Crossing_init hr rfl T.lz T.Tp .nil Cb (bb (pv 2) (bb (pv 3) fb)))))))))),?_⟩
 have hrow:=Uz hC
 have hlen:=IC hC
 have hnn:=hC.nn
 have hln:=hC.ln
 (walk_at "RD")
 refine ⟨Zs n ds,rfl,by omega,?_,nt,fun p H1 sm1 nt1 R=>?_⟩
 ·rw [hrow]
  intro r hr
  refine ⟨?_,fun x hx=>Nat.le_trans (hC.plain r hr x hx).1 (by decide)⟩
  rcases List.mem_cons.mp hr with rfl | hr
  ·show (2:Nat) ≤ 1000;decide
  ·obtain ⟨d,hd,rfl⟩:=List.mem_map.mp hr
   show (7:Nat) ≤ 1000;decide
 rw [hrow] at R
 obtain ⟨qs,hp,hp0,hql,hqa⟩:=R
 have hql':qs.length=ds.length + 1:=by rw [hql];simp [Ih]
 obtain ⟨q0,qr,rfl⟩:∃ q0 qr,qs=q0 :: qr:=by
  cases qs with
  | nil=>simp at hql'
  | cons a b=>exact ⟨a,b,rfl⟩
 obtain ⟨R0,hq0⟩:=hqa 0 q0 _ rfl rfl
 (walk_at "RD")
 refine ⟨_,SqL.of hp,_,Jb (j:=0) rfl,⟨q0,_,n,rfl,R0,hnn,nt1,fun H2 s2 nt2=>⟨Nat.zero_le _,fun wl hwl=>?_⟩⟩⟩
 obtain ⟨C0,dq0,fq0,hins⟩:=R0.ins
 have hpq:p ≠ q0:=Me hp hins (by intro z;cases z)
 have hp2:H2 p=some (.lst ((q0 :: qr).map V.ref)):=s2 _ _ hpq hp
 have swl:Kb H2 (upd H2 wl (.lst [])):=jb hwl
 have hcut:qD ((q0 :: qr).map V.ref) (some 1) none=qr.map V.ref:=by
  unfold qD
  simp [HT.sIx]
  exact List.take_of_length_le (by rw [List.length_map];exact Nat.le_refl _)
 refine ⟨_,SqL.of (swl _ _ hp2),fun pc hpc=>?_⟩
 rw [hcut]
 have hpw:pc ≠ wl:=fun z=>by subst z;rw [cb] at hpc;cases hpc
 have spc:Kb (upd H2 wl (.lst [])) (upd (upd H2 wl (.lst [])) pc (.lst (qr.map V.ref))):=jb hpc
 refine ⟨⟨_,SqL.of cb⟩,?_⟩
 have sH2:Kb H H2:=Je sm1 s2 hq0
 have hqrl:qr.length=ds.length:=by simpa using hql'
 refine Vh.list (xs:=qr.map V.ref) (fun i σ H'=>(∃ x,σ=[some (V.str (Zs n ds)),some (V.ref p),some (V.int n),some (V.ref wl),x])∧NoT H'∧Kb H H'∧H' pc=some (.lst (qr.map V.ref))∧H wl=none∧pj t H' wl (ds.take i) ∧
  ∀ (j:Nat) (q:Addr) (d:WD),i ≤ j→qr[j]? = some q→ds[j]? = some d→Qg t H' q ((j + 1:Nat):Int) (Fj d) 0∧H q=none) ?_ ?_ ?_ ?_
 ·refine ⟨⟨_,rfl⟩,(nt2.upd).upd,(sH2.trans swl).trans spc,cb,sH2.free hwl,⟨[],spc _ _ cb,rfl,fun j a d h=>by simp at h⟩,fun j q d _ h1 h2=>?_⟩
  have hr:(Ih n ds)[j + 1]? = some (Fj d):=by
   unfold Ih
   rw [List.getElem?_cons_succ,List.getElem?_map,h2];rfl
  obtain ⟨Rj,hqj⟩:=hqa (j + 1) q _ (by rw [List.getElem?_cons_succ];exact h1) hr
  refine ⟨((Rj.sameX s2 (XM Rj R0 (by omega)) R0.ins).same swl).same spc,hqj⟩
 ·rintro i σ H' hi ⟨_,_,_,h,_⟩
  exact SqL.of h
 ·rintro i v σ H' hv ⟨⟨x,rfl⟩,nt',sm',hpc',hwl0,W,Rs⟩
  obtain ⟨q,hq,rfl⟩:=Mb hv
  obtain ⟨hi,_⟩:=List.getElem?_eq_some_iff.mp hq
  have hid:i < ds.length:=by omega
  have hd:ds[i]? = some ds[i]:=List.getElem?_eq_getElem hid
  obtain ⟨Rq,hqn⟩:=Rs i q _ (Nat.le_refl _) hq hd
  have htl:(ds.take i).length=i:=by rw [List.length_take];omega
  obtain ⟨as,w1,w2,al⟩:=id W
  (walk_at "RD")
  refine Bc false (fun Q hQ=>?_) (fun hc=>nomatch hc) (fun _=>?_)
  ·(walk_at "RD")
   refine ⟨_,.inl (SqL.of w1),?_⟩
   rw [List.length_map,w2,htl]
   rw [decide_eq_false (by omega)] <;> exact hQ
  ·(walk_at "RD")
   refine ⟨.inl ⟨_,SqL.of w1⟩,?_⟩
   refine ⟨q,_,n,wl,ds.take i,ds[i],rfl,Rq,hC.al _ (List.getElem_mem hid),hnn,W,by omega,fun e he z=>?_,nt',fun y H3 s3 nt3 w3 hy3=>?_⟩
   ·obtain ⟨j,hj,rfl⟩:=List.getElem_of_mem he
    rw [List.getElem_take] at z
    have hj':j < i:=by omega
    have:=oy hC.nd (i:=j) (j:=i) (by omega) hid (by rw [Fq (List.getElem?_eq_getElem (by omega)),Fq hd];exact z)
    omega
   ·(walk_at "RD")
    obtain ⟨Cq,dq,fq,hqi⟩:=Rq.ins
    have hwq:wl ≠ q:=Me w1 hqi (by intro z;cases z)
    have hw3:H3 wl=some (.lst (as.map V.ref)):=s3 _ _ hwq w1
    have hsm3:Kb H H3:=Je sm' s3 hqn
    refine ⟨_,hw3,Nat.lt_of_le_of_lt (show (as.map V.ref).length ≤ 12 by rw [List.length_map];omega) (by decide),?_⟩
    have hyw:y ≠ wl:=fun z=>by
     subst z
     rw [w1] at hy3;cases hy3
    refine ⟨⟨_,rfl⟩,nt3.upd,fun b u e=>?_,?_,hwl0,⟨as ++ [y],by rw [cb,List.map_append];rfl,?_,fun j a d h1 h2=>?_⟩,fun j q' d hj h1 h2=>?_⟩
    ·rw [lb (qb e hwl0)];exact hsm3 _ _ e
    ·rw [lb hpw]
     exact s3 _ _ (Me hpc' hqi (by intro z;cases z)) hpc'
    ·rw [List.length_append,w2,htl,List.length_take];show i + 1=_;omega
    ·by_cases hj:j < as.length
     ·rw [List.getElem?_append_left hj] at h1
      have h2':(ds.take i)[j]? = some d:=by
       rw [List.getElem?_take_of_lt (by omega)]
       rw [List.getElem?_take_of_lt (by omega)] at h2
       exact h2
      obtain ⟨hk,dx',e⟩:=al j a d h1 h2'
      have haq:a ≠ q:=EA ⟨hk,dx',e⟩ Rq
      have haw:a ≠ wl:=Me e w1 (by intro z;cases z)
      exact ⟨hk,dx',by rw [lb haw];exact s3 _ _ haq e⟩
     ·rw [List.getElem?_append_right (by omega)] at h1
      have hj0:j - as.length=0:=by
       cases hh:j - as.length with
       | zero=>rfl
       | succ m=>rw [hh] at h1;simp at h1
      rw [hj0] at h1
      have e3:y=a:=by simpa using h1
      subst e3
      have e4:j=i:=by omega
      subst e4
      rw [List.getElem?_take_of_lt (by omega),hd] at h2
      cases h2
      exact ⟨w3.1,w3.2.imp fun dx' e=>by rw [lb hyw];exact e⟩
    ·obtain ⟨Rj,hqj⟩:=Rs j q' d (by omega) h1 h2
     have R3:=Rj.sameX s3 (XM Rj Rq (by omega)) Rq.ins
     refine ⟨?_,hqj⟩
     obtain ⟨hz,dx',ta,e1,e2⟩:=R3
     refine ⟨hz,dx',ta,by rw [lb (Me e1 hw3 (by intro z;cases z))];exact e1,?_⟩
     rw [lb (fun z=>by
      subst z
      rw [hw3] at e2
      have e5:=Option.some.inj e2
      injection e5 with e6
      cases as with
      | nil=>exact absurd (congrArg List.length e6) (by show ¬ (0:Nat)=7;decide)
      | cons a r=>injection e6 with e7 _;cases e7)]
     exact e2
 ·rintro σ H' ⟨⟨x,rfl⟩,nt',sm',hpc',hwl0,W,Rs⟩
  rw [List.length_map,hqrl,List.take_length] at W
  obtain ⟨as,w1,w2,al⟩:=id W
  (walk_at "RD")
  refine Bc false (fun Q hQ=>?_) (fun hc=>nomatch hc) (fun _=>?_)
  ·(walk_at "RD")
   refine ⟨true,.inl ⟨_,SqL.of w1,?_⟩,hQ⟩
   cases as with
   | nil=>simp at w2;omega
   | cons a r=>rfl
  ·(walk_at "RD")
   intro c dx hc hdx hne
   have sc:Kb H' (upd (upd H' dx (.own c)) c (.ins t.Pb dx [])):=((Kb.refl H').updN hdx).updN hc
   refine ⟨c,dx,n,wl,ds,rfl,cb,W.same sc,hC.nd,hln.2,(nt'.upd).upd,fun H5 s5 nt5 C5=>⟨rfl,?_⟩⟩
   exact qq c H5 (Je (sm'.trans sc) s5 (sm'.free hc)) nt5 C5
end
section
variable {P:Program} {w:World} {K:PySem.W.Frag} {mg:Str→Option Value} {base:Heap} {t:Adr}
theorem Io (T:Txt w K mg t):Fb P w K mg base CX0 1 t.yc t.Vc ["self"] (Jl t):=by
 refine T.Si.ok Cm (fun vs H Q E h=>?_) (fun cdv A outer s H vs Q E hr h=>?_)
 ·obtain ⟨c,n,ds,rfl,_⟩:=h;rfl
 obtain ⟨c,n,ds,rfl,⟨⟨hnd,hdl⟩,dx,wl,nd,e1,⟨as,w1,w2,al⟩,e3⟩,q⟩:=h
 refine ⟨_,(gb (Db (eg rfl (Ec (bc (pv 0) rfl)) (Nc (sc:=ib fg) rfl (by decide +kernel)) (N:=["way"]) (sel:=[none]) (Jd (M:=["self"]) (by decide +kernel)) (Blk.of (fun _ _ _ _=>(wb (i:=0) (ug (N:=["way"]) (by decide +kernel) rfl) rfl (Or.inl rfl))) (fun _ _ _ _=>⟨_,ff,by first | rfl | (dsimp only [Cx.block];done) | (dsimp only [Cx.block];exact rfl)⟩) (fun _ _ _ _=>⟨_,(bc (pv 0) rfl),by first | rfl | (dsimp only [Cx.block];done) | (dsimp only [Cx.block];exact rfl)⟩))))),?_⟩
 (walk_at "RD")
 refine ⟨_,RB T e1,_,rfl,⟨_,SqL.of w1⟩,?_⟩
 refine Dd.list_zs (xs:=as.map V.ref) (zs:=Eb (ds.map (·.name))) (SqL.of w1) (by rw [List.length_map,w2];exact Nat.le_trans hdl (by decide)) (by rw [bi,List.length_map,List.length_map,w2]) (fun i v z N hv hz' hN=>?_) (fun p hp=>q p hp)
 obtain ⟨a,ha,rfl⟩:=Mb hv
 obtain ⟨x,hx,rfl⟩:=Mb hz'
 obtain ⟨d,hd,rfl⟩:=Mb hx
 (walk_at "RD")
 exact ⟨Sub.name,_,(al i a d ha hd).f_name T,hN⟩
end
end My
namespace My
open PySem L2
noncomputable def kt (x:Str):Prop:=x.length ≤ 1000∧∀ c ∈ x.cps.toList,c < 16 ^ 8
noncomputable def uq (ds:List WD) (x:Str):Prop:=∀ d ∈ ds,d.name ≠ x
noncomputable def Ew (t:Adr) (x:Str) (H:Hp) (E:XK):Prop:=∀ dx H',Kb H H'→(NoT H→NoT H')→H' dx=some (.ext (XD dx [(Str.ofString "name",.str x)]))→E (.ref t.Xd) (some dx) H'
noncomputable def fH (t:Adr):Sp:=fun vs H Q _=>∃ x n,vs=[.ref x,.str n]∧kt n∧H x=some (.ext (XF x t.Xd none)) ∧
 ∀ dx,H dx=none→dx ≠ x→Q .non (upd (upd H x (.ext (XF x t.Xd (some dx)))) dx (.ext (XD dx [(Str.ofString "name",.str n)])))
noncomputable def Mr (t:Adr):Sp:=fun vs H Q E=>∃ c n ds x,vs=[.ref c,.str x]∧Yc t H c n ds∧kt x∧((∃ i:Nat,∃ d,ds[i]? = some d∧x=d.name∧Q (.int (i:Nat)) H)∨(uq ds x∧Ew t x H E))
noncomputable def Js (t:Adr):Sp:=fun vs H Q E=>∃ c n ds x,vs=[.ref c,.str x]∧Yc t H c n ds∧kt x∧((∃ i:Nat,∃ d,ds[i]? = some d∧x=d.name∧∀ a,oe t H a d→Q (.ref a) H)∨(uq ds x∧Ew t x H E))
section
variable {P:Program} {w:World} {K:PySem.W.Frag} {mg:Str→Option Value} {base:Heap} {t:Adr}
theorem sM (T:Txt w K mg t):Fb P w K mg base CX0 1 t.Tf t.jh ["self","name"] (fH t):=by
 refine T.Pn.ok Pm (fun vs H Q E h=>?_) (fun cdv A outer s H vs Q E hr h=>?_)
 ·obtain ⟨x,n,rfl,_⟩:=h;rfl
 obtain ⟨x,n,rfl,hn,hx,q⟩:=h
 refine ⟨_,(db (Ac (Po rfl T.ii T.Ci (bb (pv 0) (bb (Ol (gh (pq (pv 1) Nx)) (by rw [sizeLine_eq];decide)) fb))))
   (gb (Do (pv 0) (pv 1) rfl))),?_⟩
 (walk_at "RD")
 refine ⟨hn.1,hn.2,fun y=>⟨_,_,hx,T.Dt,?_⟩⟩
 exact ⟨_,hx,T.Dt,T.km,q⟩
theorem Ry (T:Txt w K mg t):Fb P w K mg base (CX1 P w) 3 t.Kc t.gd ["self","name"] (Mr t):=by
 have G_NoWay_init:Fb P w K mg base CX0 1 t.Tf t.jh ["self","name"] (fH t):=sM T
 refine T.tf.okX ah (fun vs H Q E h=>?_) (fun cdv A outer s H vs Q E hr h=>?_)
 ·obtain ⟨c,n,ds,x,rfl,_⟩:=h;rfl
 obtain ⟨c,n,ds,x,rfl,⟨⟨hnd,hdl⟩,dx,wl,nd,e1,e2,e3⟩,hsm,hq⟩:=h
 have hu:=Eu hr
 refine ⟨_,(db (Ae (GG (Vu hu (pv 1) (bc (pv 0) rfl))) (gb (Ko (Fo T.Fx G_NoWay_init hr rfl T.pB T.Du (bb (pv 1) fb)) Ft)) Zb)
   (gb (Db (Dm hu (bc (pv 0) rfl) (pv 1) (fun _ _=>rfl))))),?_⟩
 rcases hq with ⟨i,d,hd,rfl,q⟩ | ⟨hs,q⟩
 ·have hv:Wj (Wv ds ds.length) (Sum.inr d.name)=some (.int i):=by
   rw [← Fq hd]
   exact Zx hnd (List.getElem?_eq_some_iff.mp hd).1 (Nat.le_refl _)
  have hg:nk H nd (.str d.name) (some (.int i)):=by rw [← hv];exact nk.k (k:=Sum.inr d.name) e3
  (walk_at "RD")
  refine Bc false (fun Q hQ=>?_) (fun hc=>nomatch hc) (fun _=>?_)
  ·(walk_at "RD")
   refine ⟨_,Wh T e1,_,rfl,_,hg,?_⟩
   exact hQ
  ·(walk_at "RD")
   exact ⟨_,Wh T e1,_,rfl,_,hg,q⟩
 ·have hv:Wj (Wv ds ds.length) (Sum.inr x)=none:=OJ hs (Nat.le_refl _)
  have hg:nk H nd (.str x) none:=by rw [← hv];exact nk.k (k:=Sum.inr x) e3
  (walk_at "RD")
  refine Bc true (fun Q hQ=>?_) (fun _=>?_) (fun hc=>nomatch hc)
  ·(walk_at "RD")
   refine ⟨_,Wh T e1,_,rfl,_,hg,?_⟩
   exact hQ
  ·(walk_at "RD")
   refine ⟨Nat.le_trans (show 1 ≤ 1000 by decide) (by decide),fun a ha=>⟨a,x,rfl,hsm,cb,fun d hd hne=>?_⟩⟩
   have hd0:H d=none:=by rw [lb hne] at hd;exact hd
   refine ⟨rfl,t.Xd,some d,by rw [lb (Ne.symm hne),cb],T.Dt,q d _ (fun b u e=>?_) (fun nt=>(((nt.upd).upd).upd).upd) (by rw [lb hne,cb])⟩
   rw [lb (qb e ha),lb (qb e hd0),lb (qb e ha),lb (qb e ha)]
   exact e
theorem jz (T:Txt w K mg t):Fb P w K mg base (CX1 P w) 4 t.Ob t.Ub ["self","name"] (Js t):=by
 have GX_Crossing_number:Fb P w K mg base (CX1 P w) 3 t.Kc t.gd ["self","name"] (Mr t):=Ry T
 refine T.lf.okX mh (fun vs H Q E h=>?_) (fun cdv A outer s H vs Q E hr h=>?_)
 ·obtain ⟨c,n,ds,x,rfl,_⟩:=h;rfl
 obtain ⟨c,n,ds,x,rfl,C,hsm,hq⟩:=h
 obtain ⟨⟨hnd,hdl⟩,dx,wl,nd,e1,⟨as,w1,w2,al⟩,e3⟩:=id C
 refine ⟨_,(gb (Db (zc Yd (bc (pv 0) rfl) (Ld (pv 0) T.Gb T.Mh GX_Crossing_number hr T.Zh .nil Qm (bb (pv 1) fb)) (fun _ _=>rfl)))),?_⟩
 (walk_at "RD")
 refine ⟨_,RB T e1,_,_,e1,Vv _ _ _ (by decide +kernel),⟨c,n,ds,x,rfl,C,hsm,?_⟩⟩
 rcases hq with ⟨i,d,hd,ex,q⟩ | ⟨hs,q⟩
 ·refine .inl ⟨i,d,hd,ex,?_⟩
  have hi:i < as.length:=by rw [w2];exact (List.getElem?_eq_some_iff.mp hd).1
  have ha:as[i]? = some as[i]:=List.getElem?_eq_getElem hi
  (walk_at "RD")
  refine ⟨_,SqL.of w1,_,Jb (show (as.map V.ref)[i]? = some (V.ref as[i]) by rw [List.getElem?_map,ha];rfl),?_⟩
  exact q as[i] (al i _ d ha hd)
 ·exact .inr ⟨hs,q⟩
end
theorem vG {n s j:Int} (h0:0 ≤ s) (h1:s < n) (h2:0 ≤ j) (h3:j < n):(s + j) % n=if s + j < n then s + j else s + j - n:=by
 split
 ·rename_i h;exact Int.emod_eq_of_lt (by omega) h
 ·rename_i h
  have e:s + j=(s + j - n) + n:=by omega
  rw [e,Int.add_emod_right]
  have:s + j - n + n - n=s + j - n:=by omega
  rw [this]
  exact Int.emod_eq_of_lt (by omega) (by omega)
theorem vq {n s p:Int} (h0:0 ≤ s) (h1:s < n) (h2:0 ≤ p) (h3:p < n):(p - s) % n=if s ≤ p then p - s else p - s + n:=by
 split
 ·rename_i h;exact Int.emod_eq_of_lt (by omega) (by omega)
 ·rename_i h
  have e:(p - s) % n=(p - s + n) % n:=(Int.add_emod_right ..).symm
  rw [e]
  exact Int.emod_eq_of_lt (by omega) (by omega)
theorem xv {n s p j:Int} (h0:0 ≤ s) (h1:s < n) (h2:0 ≤ p) (h3:p < n) (h4:0 ≤ j) (h5:j < n):(s + j) % n=p↔(p - s) % n=j:=by
 rw [vG h0 h1 h4 h5,vq h0 h1 h2 h3]
 constructor <;> intro h <;> split at h <;> split <;> omega
noncomputable def ind (n s p i:Int):Int:=if 0 < (p - s) % n∧(p - s) % n ≤ i then 1 else 0
theorem Gy {n s p i:Int} (h0:0 ≤ s) (h1:s < n) (h2:0 ≤ p) (h3:p < n) (h4:0 ≤ i) (h5:i + 1 < n):ind n s p (i + 1)=ind n s p i + (if (s + (i + 1)) % n=p then 1 else 0):=by
 have k:=xv (j:=i + 1) h0 h1 h2 h3 (by omega) h5
 unfold ind
 by_cases c:(s + (i + 1)) % n=p
 ·have e:=k.mp c
  rw [if_pos c,e,if_pos (by omega),if_neg (by omega)];rfl
 ·have e:¬ (p - s) % n=i + 1:=fun z=>c (k.mpr z)
  rw [if_neg c]
  by_cases d:0 < (p - s) % n∧(p - s) % n ≤ i
  ·rw [if_pos d,if_pos (by omega)];rfl
  ·rw [if_neg d,if_neg (by omega)];rfl
noncomputable def fm (n s f p:Int):Bool:=decide (0 < (p - s) % n) && decide ((p - s) % n < (f - s) % n)
noncomputable def Gu (n s f s2 f2:Int):Bool:=decide (f=f2) || (if (s2=s∨s2=f)∨(f2=s∨f2=f) then false else (fm n s f s2 != fm n s f f2))
theorem oF {n s f s2 f2:Int} (hs:0 ≤ s∧s < n) (hf:0 ≤ f∧f < n) (hs2:0 ≤ s2∧s2 < n) (hf2:0 ≤ f2∧f2 < n) (h1:f ≠ f2) (h2:¬ ((s=s2∨s=f2)∨f=s2)) :
  decide (ind n s s2 ((f - s) % n) + ind n s f2 ((f - s) % n)=1)=Gu n s f s2 f2:=by
 have k1:=(xv (n:=n) (s:=s) (p:=f) (j:=(s2 - s) % n) hs.1 hs.2 hf.1 hf.2 (Int.emod_nonneg _ (by omega)) (Int.emod_lt_of_pos _ (by omega)))
 have e1:=(xv (n:=n) (s:=s) (p:=s2) (j:=(s2 - s) % n) hs.1 hs.2 hs2.1 hs2.2 (Int.emod_nonneg _ (by omega)) (Int.emod_lt_of_pos _ (by omega))).mpr rfl
 have k2:=(xv (n:=n) (s:=s) (p:=f) (j:=(f2 - s) % n) hs.1 hs.2 hf.1 hf.2 (Int.emod_nonneg _ (by omega)) (Int.emod_lt_of_pos _ (by omega)))
 have e2:=(xv (n:=n) (s:=s) (p:=f2) (j:=(f2 - s) % n) hs.1 hs.2 hf2.1 hf2.2 (Int.emod_nonneg _ (by omega)) (Int.emod_lt_of_pos _ (by omega))).mpr rfl
 rw [e1] at k1
 rw [e2] at k2
 have n1:(f - s) % n ≠ (s2 - s) % n:=fun z=>h2 (.inr ((k1.mpr z).symm))
 have n2:(f - s) % n ≠ (f2 - s) % n:=fun z=>h1 ((k2.mpr z).symm)
 unfold Gu fm ind
 have hno:¬ ((s2=s∨s2=f)∨(f2=s∨f2=f)):=by omega
 rw [decide_eq_false h1,Bool.false_or,if_neg hno]
 generalize (f - s) % n=L at *
 generalize (s2 - s) % n=A at *
 generalize (f2 - s) % n=B at *
 by_cases a:0 < A∧A ≤ L
 ·by_cases b:0 < B∧B ≤ L
  ·rw [if_pos a,if_pos b,decide_eq_true a.1,decide_eq_true b.1,decide_eq_true (show A < L by omega),decide_eq_true (show B < L by omega)];decide
  ·rw [if_pos a,if_neg b,decide_eq_true a.1,decide_eq_true (show A < L by omega)]
   by_cases b':0 < B
   ·rw [decide_eq_true b',decide_eq_false (show ¬ B < L by omega)];decide
   ·rw [decide_eq_false b',Bool.false_and];decide
 ·by_cases b:0 < B∧B ≤ L
  ·rw [if_neg a,if_pos b,decide_eq_true b.1,decide_eq_true (show B < L by omega)]
   by_cases a':0 < A
   ·rw [decide_eq_true a',decide_eq_false (show ¬ A < L by omega)];decide
   ·rw [decide_eq_false a',Bool.false_and];decide
  ·rw [if_neg a,if_neg b]
   have x:(decide (0 < A) && decide (A < L))=false:=by
    rw [Bool.and_eq_false_iff];simp only [decide_eq_false_iff_not];omega
   have y:(decide (0 < B) && decide (B < L))=false:=by
    rw [Bool.and_eq_false_iff];simp only [decide_eq_false_iff_not];omega
   rw [x,y];decide
theorem KI {X Y X' Y':Prop} [Decidable X] [Decidable Y] [Decidable X'] [Decidable Y'] (h:(X↔Y)↔(X'↔Y')):(decide X != decide Y)=(decide X' != decide Y'):=by
 by_cases a:X <;> by_cases b:Y <;> by_cases c:X' <;> by_cases d:Y' <;> simp_all
theorem qz {n s f s2 f2:Int} (hs:0 ≤ s∧s < n) (hf:0 ≤ f∧f < n) (hs2:0 ≤ s2∧s2 < n) (hf2:0 ≤ f2∧f2 < n) (hne:s ≠ f) (hne2:s2 ≠ f2):Gu n s f s2 f2=Gu n s2 f2 s f:=by
 unfold Gu
 by_cases e:f=f2
 ·rw [decide_eq_true e,decide_eq_true e.symm];rfl
 ·rw [decide_eq_false e,decide_eq_false (Ne.symm e)]
  by_cases c:(s2=s∨s2=f)∨(f2=s∨f2=f)
  ·have c':(s=s2∨s=f2)∨(f=s2∨f=f2):=by omega
   rw [if_pos c,if_pos c']
  ·have c':¬ ((s=s2∨s=f2)∨(f=s2∨f=f2)):=by omega
   rw [if_neg c,if_neg c']
   unfold fm
   rw [vq hs.1 hs.2 hs2.1 hs2.2,vq hs.1 hs.2 hf2.1 hf2.2,vq hs.1 hs.2 hf.1 hf.2,vq hs2.1 hs2.2 hs.1 hs.2,vq hs2.1 hs2.2 hf.1 hf.2,vq hs2.1 hs2.2 hf2.1 hf2.2]
   rw [← Bool.decide_and,← Bool.decide_and,← Bool.decide_and,← Bool.decide_and,Bool.false_or,Bool.false_or]
   refine KI ?_
   split <;> split <;> split <;> split <;> split <;> split <;> omega
noncomputable abbrev mt (n:Int) (d e:WD):Bool:=Gu n d.start d.fin e.start e.fin
noncomputable def mG (t:Adr):Sp:=fun vs H Q _=>∃ a d n p,vs=[.int n,.ref a,.int p]∧oe t H a d∧0 < n∧Q (.bl (fm n d.start d.fin p)) H
noncomputable def OL (n:Int) (d e:WD):Bool:=if (e.start=d.start∨e.start=d.fin)∨(e.fin=d.start∨e.fin=d.fin) then false else (fm n d.start d.fin e.start != fm n d.start d.fin e.fin)
noncomputable def SB (t:Adr):Sp:=fun vs H Q _=>∃ a b d e n,vs=[.int n,.ref a,.ref b]∧oe t H a d∧oe t H b e∧0 < n∧NoT H∧Q (.bl (OL n d e)) H
noncomputable def EE (t:Adr):Sp:=fun vs H Q _=>∃ a b d e n,vs=[.int n,.ref a,.ref b]∧oe t H a d∧oe t H b e∧0 < n∧∀ H',Kb H H'→Q (.bl (OL n d e)) H'
noncomputable def uD (t:Adr):Sp:=fun vs H Q _=>∃ c n ds,∃ i j:Nat,∃ d e,vs=[.ref c,.str d.name,.str e.name]∧Yc t H c n ds∧0 < n∧ds[i]? = some d∧ds[j]? = some e∧NoT H∧Q (.bl (mt n d e)) H
section
variable {P:Program} {w:World} {K:PySem.W.Frag} {mg:Str→Option Value} {base:Heap} {t:Adr}
theorem qL (T:Txt w K mg t):Fb P w K mg base CX0 1 t.Lo t.Qo ["places","way","place"] (mG t):=by
 refine T.Co.ok Ou (fun vs H Q E h=>?_) (fun cdv A outer s H vs Q E hr h=>?_)
 ·obtain ⟨a,d,n,p,rfl,_⟩:=h;rfl
 obtain ⟨a,d,n,p,rfl,W,hn,q⟩:=h
 refine ⟨_,(db (Ab (i:=3) Ou.nd rfl (Or.inl rfl) (Ib Le (Ib Gg (pv 2) (bc (pv 1) rfl)) (pv 0)))
   (gb (Db (LG (wf ft pb (pv 3) (dc _)) (Hy (wf ft (pv 3) (Ib Le (Ib Gg (bc (pv 1) rfl) (bc (pv 1) rfl)) (pv 0)) (dc _))))))),?_⟩
 (walk_at "RD")
 refine ⟨_,W.f_start T,_,rfl,hn,?_⟩
 unfold fm at q
 by_cases c:0 < (p - d.start) % n
 ·rw [if_pos (decide_eq_true c)]
  rw [decide_eq_true c,Bool.true_and] at q
  exact ⟨_,W.f_end T,_,W.f_start T,_,rfl,_,rfl,hn,q⟩
 ·rw [if_neg (by simpa using c)]
  rw [decide_eq_false c,Bool.false_and] at q
  exact q
theorem oN (x a b:Int):inV (.int x) [.int a,.int b]=decide (x=a∨x=b):=by
 unfold inV
 simp only [List.any_cons,List.any_nil,eqV,Bool.or_false]
 rw [Bool.eq_iff_iff]
 simp only [Bool.or_eq_true,beq_iff_eq,decide_eq_true_eq]
 omega
theorem gI (T:Txt w K mg t):Fb P w K mg base CX0 2 t.rh t.nh ["places","way","second"] (SB t):=by
 refine Fb.forget (sp:=EE t) ?_ fun vs H Q E h=>?_
 ·have G_in_bow:Fb P w K mg base CX0 1 t.Lo t.Qo ["places","way","place"] (mG t):=qL T
  refine T.jj.ok qt (fun vs H Q E h=>?_) (fun cdv A outer s H vs Q E hr h=>?_)
  ·obtain ⟨a,b,d,e,n,rfl,_⟩:=h;rfl
  obtain ⟨a,b,d,e,n,rfl,Wa,Wb,hn,q⟩:=h
  refine ⟨_,(db (Ae (PW.pt (pw (Yb mj (bc (pv 2) rfl) (Rf (bb (bc (pv 1) rfl) (bb (bc (pv 1) rfl) fb))) (by with_unfolding_all rfl)) (Is (Yb mj (bc (pv 2) rfl) (Rf (bb (bc (pv 1) rfl) (bb (bc (pv 1) rfl) fb))) (by with_unfolding_all rfl))))) (gb (Db xo)) Zb)
   (gb (Db (wf xw (xb G_in_bow hr rfl T.Dx T.Co.kp T.Ly .nil Cb (bb (pv 0) (bb (pv 1) (bb (bc (pv 2) rfl) fb)))) (xb G_in_bow hr rfl T.Dx T.Co.kp T.Ly .nil Cb (bb (pv 0) (bb (pv 1) (bb (bc (pv 2) rfl) fb)))) (dc _))))),?_⟩
  (walk_at "RD")
  refine rg (fun b H'=>Kb H H'∧b=decide ((e.start=d.start∨e.start=d.fin)∨(e.fin=d.start∨e.fin=d.fin))) (fun Q hQ=>?_) (fun H' ⟨sm,hb⟩=>?_) (fun H' ⟨sm,hb⟩=>?_)
  ·(walk_at "RD")
   refine ⟨_,Wb.f_start T,_,Wa.f_start T,_,Wa.f_end T,by decide,fun p hp=>⟨_,.inl (SqL.of cb),rfl,rfl,?_⟩⟩
   have s1:Kb H (upd H p (.lst [.int d.start,.int d.fin])):=jb hp
   rw [oN]
   by_cases c1:e.start=d.start∨e.start=d.fin
   ·rw [if_pos (decide_eq_true c1)]
    exact hQ _ _ ⟨s1,(decide_eq_true (.inl c1)).symm⟩
   ·rw [if_neg (by simpa using c1)]
    refine ⟨_,(Wb.same s1).f_end T,_,(Wa.same s1).f_start T,_,(Wa.same s1).f_end T,by decide,fun p2 hp2=>⟨_,.inl (SqL.of cb),rfl,rfl,?_⟩⟩
    rw [oN]
    refine hQ _ _ ⟨s1.trans (jb hp2),?_⟩
    rw [Bool.eq_iff_iff,decide_eq_true_eq,decide_eq_true_eq]
    exact ⟨.inr,fun z=>z.resolve_left c1⟩
  ·(walk_at "RD")
   have hb':=of_decide_eq_true hb.symm
   have:=q H' sm
   unfold OL at this
   rw [if_pos hb'] at this
   exact this
  ·(walk_at "RD")
   have hb':=of_decide_eq_false hb.symm
   refine ⟨_,(Wb.same sm).f_start T,⟨a,d,n,_,rfl,Wa.same sm,hn,?_⟩⟩
   refine ⟨_,(Wb.same sm).f_end T,⟨a,d,n,_,rfl,Wa.same sm,hn,?_⟩⟩
   refine ⟨rfl,?_⟩
   have:=q H' sm
   unfold OL at this
   rw [if_neg hb'] at this
   rw [show (!decide (V.bl (fm n d.start d.fin e.start)=V.bl (fm n d.start d.fin e.fin)))=(fm n d.start d.fin e.start != fm n d.start d.fin e.fin) by
    cases fm n d.start d.fin e.start <;> cases fm n d.start d.fin e.fin <;> rfl]
   exact this
 ·obtain ⟨a,b,d,e,n,h1,h2,h3,h4,nt,q⟩:=h
  exact ⟨nt,a,b,d,e,n,h1,h2,h3,h4,fun H' sm=>⟨sm,q⟩⟩
theorem tN (n:Int) (d e:WD):mt n d e=(decide (d.fin=e.fin) || OL n d e):=rfl
theorem uI (T:Txt w K mg t):Fb P w K mg base CX0 3 t.xy t.jy ["crossing","one","other"] (uD t):=by
 have G_Crossing_called:Fb P w K mg base CX0 2 t.Ob t.Ub ["self","name"] (Nh t):=Hj T
 have G_bows_cross:Fb P w K mg base CX0 2 t.rh t.nh ["places","way","second"] (SB t):=gI T
 refine T.YB.ok Jw (fun vs H Q E h=>?_) (fun cdv A outer s H vs Q E hr h=>?_)
 ·obtain ⟨c,n,ds,i,j,d,e,rfl,_⟩:=h;rfl
 obtain ⟨c,n,ds,i,j,d,e,rfl,C,hn,hd,he,nt,q⟩:=h
 obtain ⟨_,dx,wl,nd,e1,e2,e3⟩:=id C
 refine ⟨_,(db (Ab (i:=3) Jw.nd rfl (Or.inl rfl) (Ld (pv 0) T.Gb T.jc G_Crossing_called hr T.lc .nil Cb (bb (pv 1) fb)))
   (db (Ab (i:=4) Jw.nd rfl (Or.inl rfl) (Ld (pv 0) T.Gb T.jc G_Crossing_called hr T.lc .nil Cb (bb (pv 2) fb)))
   (gb (Db (IK (wf Dj (bc (pv 3) rfl) (bc (pv 4) rfl) (dc _)) (Hy (xb G_bows_cross hr rfl T.Fu T.jj.kp T.jv .nil Cb (bb (bc (pv 0) rfl) (bb (pv 3) (bb (pv 4) fb)))))))))),?_⟩
 rw [tN] at q
 (walk_at "RD")
 refine ⟨_,_,e1,Vv _ _ _ (by decide +kernel),⟨c,n,ds,i,d,rfl,C,hd,fun a Wa=>?_⟩⟩
 (walk_at "RD")
 refine ⟨_,_,e1,Vv _ _ _ (by decide +kernel),⟨c,n,ds,j,e,rfl,C,he,fun b Wb=>?_⟩⟩
 (walk_at "RD")
 refine ⟨_,Wa.f_end T,_,Wb.f_end T,rfl,?_⟩
 (walk_at "RD")
 by_cases c1:d.fin=e.fin
 ·rw [if_pos (decide_eq_true c1)]
  rw [decide_eq_true c1,Bool.true_or] at q
  exact q
 ·rw [if_neg (by simpa using c1)]
  rw [decide_eq_false c1,Bool.false_or] at q
  exact ⟨_,fE T e1,⟨a,b,d,e,n,rfl,Wa,Wb,hn,nt,q⟩⟩
end
noncomputable def xG (t:Adr):Sp:=fun vs H Q _=>∃ c n ds,∃ i j:Nat,∃ d e,vs=[.ref c,.str d.name,.str e.name]∧Yc t H c n ds∧ds[i]? = some d∧ds[j]? = some e∧Q (.int (if d.off - e.near > 0 then d.off - e.near else 0)) H
section
variable {P:Program} {w:World} {K:PySem.W.Frag} {mg:Str→Option Value} {base:Heap} {t:Adr}
theorem xM (T:Txt w K mg t):Fb P w K mg base CX0 3 t.pF t.aF ["crossing","one","other"] (xG t):=by
 have G_Crossing_called:Fb P w K mg base CX0 2 t.Ob t.Ub ["self","name"] (Nh t):=Hj T
 refine T.oJ.ok DA (fun vs H Q E h=>?_) (fun cdv A outer s H vs Q E hr h=>?_)
 ·obtain ⟨c,n,ds,i,j,d,e,rfl,_⟩:=h;rfl
 obtain ⟨c,n,ds,i,j,d,e,rfl,C,hd,he,q⟩:=h
 obtain ⟨_,dx,wl,nd,e1,e2,e3⟩:=id C
 refine ⟨_,(db (Ab (i:=3) DA.nd rfl (Or.inl rfl) (Ld (pv 0) T.Gb T.jc G_Crossing_called hr T.lc .nil Cb (bb (pv 1) fb)))
   (db (Ab (i:=4) DA.nd rfl (Or.inl rfl) (Ld (pv 0) T.Gb T.jc G_Crossing_called hr T.lc .nil Cb (bb (pv 2) fb)))
   (gb (Db (Od (kD rfl) rfl T.aM Pr (bb pb (bb (Ib Gg (bc (pv 3) rfl) (bc (pv 4) rfl)) fb))))))),?_⟩
 (walk_at "RD")
 refine ⟨_,_,e1,Vv _ _ _ (by decide +kernel),⟨c,n,ds,i,d,rfl,C,hd,fun a Wa=>?_⟩⟩
 (walk_at "RD")
 refine ⟨_,_,e1,Vv _ _ _ (by decide +kernel),⟨c,n,ds,j,e,rfl,C,he,fun b Wb=>?_⟩⟩
 (walk_at "RD")
 refine ⟨_,Wa.f_off T,_,Wb.f_near T,?_⟩
 (walk_at "RD")
 exact q
end
end My
namespace My
open PySem L2
structure SD where
 name:Str
 b:Int
 n:Int
noncomputable def sdO (d:SD):HO:=.tup [.str d.name,.int d.b,.int d.n]
noncomputable def prO (p:Int × Int):HO:=.tup [.int p.1,.int p.2]
noncomputable def ofN (x:Str) (sp:List SD):List (Int × Int):=(sp.filter fun d=>decide (d.name=x)).map fun d=>(d.b,d.n)
noncomputable def LQ (H:Hp) (qs:List Addr) (os:List HO):Prop:=qs.length=os.length∧∀ (i:Nat) (q:Addr) (o:HO),qs[i]? = some q→os[i]? = some o→H q=some o
noncomputable def LO (H:Hp) (p:Addr) (os:List HO):Prop:=∃ qs:List Addr,H p=some (.lst (qs.map V.ref))∧LQ H qs os
theorem LQ.same {H H':Hp} {qs:List Addr} {os:List HO} (h:LQ H qs os) (s:Kb H H'):LQ H' qs os:=⟨h.1,fun i q o h1 h2=>s _ _ (h.2 i q o h1 h2)⟩
theorem LO.same {H H':Hp} {p:Addr} {os:List HO} (h:LO H p os) (s:Kb H H'):LO H' p os:=by
 obtain ⟨qs,e,q⟩:=h
 exact ⟨qs,s _ _ e,q.same s⟩
theorem LQ.nil (H:Hp):LQ H [] []:=⟨rfl,fun i q o h _=>by simp at h⟩
theorem LQ.app {H:Hp} {qs qs':List Addr} {os os':List HO} (h:LQ H qs os) (h':LQ H qs' os'):LQ H (qs ++ qs') (os ++ os'):=by
 refine ⟨by rw [List.length_append,List.length_append,h.1,h'.1],fun i q r h1 h2=>?_⟩
 rw [List.getElem?_append] at h1 h2
 rw [h.1] at h1
 by_cases c:i < os.length
 ·rw [if_pos c] at h1 h2;exact h.2 i q r h1 h2
 ·rw [if_neg c] at h1 h2;exact h'.2 _ q r h1 h2
theorem LQ.one {H:Hp} {p:Addr} {o:HO} (e:H p=some o):LQ H [p] [o]:=⟨rfl,fun i q r' h1 h2=>by
 match i,h1,h2 with
 | 0,h1,h2=>cases h1;cases h2;exact e
 | i + 1,h1,_=>simp at h1⟩
theorem LQ.at {H:Hp} {qs:List Addr} {os:List HO} (h:LQ H qs os) {i:Nat} {q:Addr} (hq:qs[i]? = some q):∃ o,os[i]? = some o∧H q=some o:=by
 have hi:i < os.length:=by rw [← h.1];exact (List.getElem?_eq_some_iff.mp hq).1
 exact ⟨_,List.getElem?_eq_getElem hi,h.2 i q _ hq (List.getElem?_eq_getElem hi)⟩
theorem wF (x:Str) (sp:List SD) (d:SD):ofN x (sp ++ [d])=ofN x sp ++ if d.name=x then [(d.b,d.n)] else []:=by
 unfold ofN
 rw [List.filter_append,List.map_append]
 congr 1
 by_cases c:d.name=x
 ·rw [if_pos c,List.filter_cons_of_pos (by simpa using c)];rfl
 ·rw [if_neg c,List.filter_cons_of_neg (by simpa using c)];rfl
theorem uB (x:Str) (sp:List SD):(ofN x sp).length ≤ sp.length:=by
 unfold ofN
 rw [List.length_map]
 exact List.length_filter_le _ _
theorem ge {α:Type} {xs:List α} {i:Nat} {x:α} (h:xs[i]? = some x):xs.take (i + 1)=xs.take i ++ [x]:=by
 rw [List.take_add_one,h];rfl
noncomputable def lG {α:Type} (z:Int) (v:α) (l:List α) (i:Int):List α:=l.set (i % z).toNat v
noncomputable def cy {α:Type} (z:Int) (v:α) (b:Int):Nat→List α→List α
 | 0,l=>l
 | k + 1,l=>lG z v (cy z v b k l) (b + k)
noncomputable def Ut {α:Type} (z:Int) (v:α) (b:Int):Nat→List α→List α
 | 0,l=>l
 | k + 1,l=>lG z v (Ut z v b k l) (b - 1 - k)
theorem Cy {α:Type} (z:Int) (v:α) (l:List α) (i:Int):(lG z v l i).length=l.length:=by unfold lG;rw [List.length_set]
theorem yg {α:Type} (z:Int) (v:α) (b:Int) (k:Nat) (l:List α):(cy z v b k l).length=l.length:=by
 induction k with
 | zero=>rfl
 | succ k ih=>unfold cy;rw [Cy,ih]
theorem Ng {α:Type} (z:Int) (v:α) (b:Int) (k:Nat) (l:List α):(Ut z v b k l).length=l.length:=by
 induction k with
 | zero=>rfl
 | succ k ih=>unfold Ut;rw [Cy,ih]
noncomputable def fmF (z:Nat) (ps:List (Int × Int)):List Bool:=ps.foldl (fun l p=>cy z true p.1 p.2.toNat l) (List.replicate z false)
noncomputable def CB (z rd fd:Nat) (l:List Str) (p:Int × Int):List Str:=cy z (Str.ofString "fade") (p.1 + p.2) fd (cy z (Str.ofString "free") p.1 p.2.toNat (Ut z (Str.ofString "ready") p.1 rd l))
noncomputable def si (z rd fd:Nat) (ps:List (Int × Int)):List Str:=ps.foldl (CB z rd fd) (List.replicate z (Str.ofString "stop"))
theorem WH {z:Nat} {ps:List (Int × Int)} {i:Nat} {p:Int × Int} (h:ps[i]? = some p):fmF z (ps.take (i + 1))=cy z true p.1 p.2.toNat (fmF z (ps.take i)):=by
 unfold fmF;rw [ge h,List.foldl_append];rfl
theorem lC {z rd fd:Nat} {ps:List (Int × Int)} {i:Nat} {p:Int × Int} (h:ps[i]? = some p):si z rd fd (ps.take (i + 1))=CB z rd fd (si z rd fd (ps.take i)) p:=by
 unfold si;rw [ge h,List.foldl_append];rfl
theorem xn (z:Nat) (ps:List (Int × Int)):(fmF z ps).length=z:=by
 unfold fmF
 suffices h:∀ l:List Bool,l.length=z→(ps.foldl (fun l p=>cy z true p.1 p.2.toNat l) l).length=z from h _ (List.length_replicate ..)
 induction ps with
 | nil=>exact fun l h=>h
 | cons p ps ih=>exact fun l h=>ih _ (by rw [yg];exact h)
theorem Bl (z rd fd:Nat) (ps:List (Int × Int)):(si z rd fd ps).length=z:=by
 unfold si
 suffices h:∀ l:List Str,l.length=z→(ps.foldl (CB z rd fd) l).length=z from h _ (List.length_replicate ..)
 induction ps with
 | nil=>exact fun l h=>h
 | cons p ps ih=>exact fun l h=>ih _ (by unfold CB;rw [yg,yg,Ng];exact h)
noncomputable def uK (z:Int) (sp:List SD):Prop:=sp.length ≤ 100∧∀ d ∈ sp,0 ≤ d.b∧d.b < 1000∧0 ≤ d.n∧d.n < 1000
theorem Zw {x:Str} {sp:List SD} {p:Int × Int} (h:p ∈ ofN x sp):∃ d ∈ sp,d.name=x∧p=(d.b,d.n):=by
 unfold ofN at h
 obtain ⟨d,hd,rfl⟩:=List.mem_map.mp h
 have:=List.mem_filter.mp hd
 exact ⟨d,this.1,by simpa using this.2,rfl⟩
theorem fM {m:Nat} (h:0 < m) (i:Int):ixN m (i % (m:Int))=some (i % (m:Int)).toNat:=by
 have h1:=Int.emod_nonneg i (show (m:Int) ≠ 0 by omega)
 have h2:=Int.emod_lt_of_pos i (show 0 < (m:Int) by omega)
 unfold ixN
 rw [if_pos h1,if_pos h2]
theorem uy {α β:Type} (f:α→β) {l:List α} {z:Nat} (h:l.length=z) (hz:0 < z) (i:Int):ixN (l.map f).length (i % (z:Int))=some (i % (z:Int)).toNat:=by
 rw [List.length_map,h];exact fM hz i
theorem gv (d:WD):0 ≤ nc d∧nc d ≤ 2:=by
 unfold nc;split <;> omega
theorem xE {d:WD} (h:0 ≤ d.off∧d.off ≤ 1000):0 ≤ ae d∧ae d ≤ 1000:=by
 unfold ae;split <;> omega
theorem pN {d:WD} {m:Str} (h:yr.contains m=false):(so d).lookup m=none:=Ul yr (Gr _) h
noncomputable def cf (l:List Bool):List V:=l.map V.bl
theorem Mo {α β:Type} (f:α→β) (z:Int) (v:α) (l:List α) (i:Int):(l.map f).set (i % z).toNat (f v)=(lG z v l i).map f:=by
 unfold lG;rw [List.map_set]
noncomputable def Vo:Sp:=fun vs H Q _=>∃ p x sp,vs=[.ref p,.str x]∧LO H p (List.map sdO sp)∧sp.length ≤ 100∧∀ r H',Kb H H'→(NoT H→NoT H')→LO H' r ((ofN x sp).map prO)→Q (.ref r) H'
noncomputable def ZI:Sp:=fun vs H Q _=>∃ (z:Nat) (p:Addr) (x:Str) (sp:List SD),vs=[.int z,.ref p,.str x]∧(0 < z∧z ≤ 1000)∧LO H p (List.map sdO sp)∧uK z sp∧∀ r H',Kb H H'→(NoT H→NoT H')→H r=none→H' r=some (.lst (cf (fmF z (ofN x sp))))→Q (.ref r) H'
noncomputable def ZC (t:Adr):Sp:=fun vs H Q _=>∃ (a:Addr) (d:WD) (z:Nat) (p:Addr) (sp:List SD),vs=[.ref a,.int z,.ref p]∧(0 < z∧z ≤ 1000)∧oe t H a d∧LO H p (List.map sdO sp)∧uK z sp∧(0 ≤ d.off∧d.off ≤ 1000)∧∀ r H',Kb H H'→(NoT H→NoT H')→H r=none→H' r=some (.lst (Eb (si z (nc d).toNat (ae d).toNat (ofN d.name sp))))→Q (.ref r) H'
noncomputable def Oe (m:List Bool):Nat→Int
 | 0=>0
 | k + 1=>if m[(2 * m.length - 1 - k) % m.length]? = some true then 0 else Oe m k + 1
noncomputable def zm (m:List Bool):List Int:=(List.range m.length).map fun t=>Oe m (2 * m.length - t)
noncomputable def Ds (m:List Bool) (k:Nat):List Int:=(List.range k).map fun j=>Oe m (m.length + j + 1)
theorem Pz (m:List Bool):(Ds m m.length).reverse=zm m:=by
 unfold Ds zm
 refine List.ext_getElem (by simp) (fun i h1 h2=>?_)
 simp at h1
 simp
 congr 1
 omega
noncomputable def Tr (m:List Bool):List Int:=(zm m.reverse).reverse
noncomputable def Jt:Sp:=fun vs H Q _=>∃ (p:Addr) (m:List Bool),vs=[.ref p]∧H p=some (.lst (cf m))∧(0 < m.length∧m.length ≤ 1000)∧∀ r H',Kb H H'→(NoT H→NoT H')→H r=none→H' r=some (.lst ((zm m).map V.int))→Q (.ref r) H'
noncomputable def Xx:Sp:=fun vs H Q _=>∃ (p:Addr) (m:List Bool),vs=[.ref p]∧H p=some (.lst (cf m))∧(0 < m.length∧m.length ≤ 1000)∧∀ r H',Kb H H'→(NoT H→NoT H')→H r=none→H' r=some (.lst ((Tr m).map V.int))→Q (.ref r) H'
section
variable {P:Program} {w:World} {K:PySem.W.Frag} {mg:Str→Option Value} {base:Heap} {t:Adr}
theorem vt (T:Txt w K mg t):Fb P w K mg base CX0 1 t.sf t.pf ["spans","name"] Vo:=by
 refine T.Bg.ok qx (fun vs H Q E h=>?_) (fun cdv A outer s H vs Q E hr h=>?_)
 ·obtain ⟨p,x,sp,rfl,_⟩:=h;rfl
 obtain ⟨p,x,sp,rfl,⟨qs,l1,lq⟩,hl,q⟩:=h
 refine ⟨_,(gb (Db (eg rfl (Ec (pv 0)) (Nc (sc:=ib Um) rfl (by decide +kernel)) (N:=["called","begin","turns","name"]) (sel:=[none,none,none,some 1]) (Jd (M:=["spans","name"]) (by decide +kernel)) (Blk.of (fun _ _ _ _=>(ef (K:=K) (n:=3) rfl rfl (Qb (wb (i:=0) (ug (N:=["called","begin","turns","name"]) (by decide +kernel) rfl) rfl (Or.inl rfl) (.inr rfl)) (Qb (wb (i:=1) (ug (N:=["called","begin","turns","name"]) (by decide +kernel) rfl) rfl (Or.inl rfl) (.inr rfl)) (Qb (wb (i:=2) (ug (N:=["called","begin","turns","name"]) (by decide +kernel) rfl) rfl (Or.inl rfl) (.inr rfl)) vf))))) (fun _ _ _ _=>⟨_,(eu (Yb Dj (pv 0) (pv 3) (dc _))),by first | rfl | (dsimp only [Cx.block];done) | (dsimp only [Cx.block];exact rfl)⟩) (fun _ _ _ _=>⟨_,(aj (bb (pv 1) (bb (pv 2) fb))),by first | rfl | (dsimp only [Cx.block];done) | (dsimp only [Cx.block];exact rfl)⟩))))),?_⟩
 (walk_at "RD")
 have hql:qs.length=sp.length:=by rw [lq.1,List.length_map]
 refine ⟨⟨_,SqL.of l1⟩,?_⟩
 refine Dd.list (xs:=qs.map V.ref) (fun i ys H'=>∃ os:List Addr,ys=os.map V.ref∧LQ H' os ((ofN x (sp.take i)).map prO)∧Kb H H'∧(NoT H→NoT H')) (Nat.le_trans (show (qs.map V.ref).length ≤ 100 by rw [List.length_map];omega) (by decide)) ⟨[],rfl,LQ.nil _,Kb.refl _,id⟩ ?_ ?_ ?_
 ·rintro i ys H' hi ⟨os,rfl,r,sm,_⟩
  refine ⟨(SqL.of l1).same sm,?_⟩
  rw [List.length_map,r.1,List.length_map]
  exact Nat.le_trans (uB _ _) (by rw [List.length_take];omega)
 ·rintro i v ys H' hv ⟨os,rfl,r,sm,nt⟩ N hN
  obtain ⟨qi,hqi,rfl⟩:=Mb hv
  obtain ⟨o,ho,e⟩:=lq.at hqi
  obtain ⟨d,hd,rfl⟩:=Mb ho
  have e':=sm _ _ e
  (walk_at "RD")
  refine ⟨_,SqT.of e',rfl,_,_,rfl,_,_,rfl,_,_,rfl,rfl,Sub.name3,rfl,?_⟩
  dsimp only at hN
  rw [ge hd,wF,List.map_append] at hN
  by_cases c:d.name=x
  ·rw [if_pos c] at hN
   rw [if_pos (by rw [c];exact decide_eq_true rfl)]
   refine ⟨by decide,fun p1 hp1=>hN _ _ ⟨os ++ [p1],by rw [List.map_append];rfl,(r.same (jb hp1)).app (LQ.one cb),sm.trans (jb hp1),fun n=>(nt n).upd⟩⟩
  ·rw [if_neg c] at hN
   rw [if_neg (by rw [decide_eq_true_eq];intro z;exact c (V.str.inj z))]
   exact hN _ _ ⟨os,rfl,by rw [List.map_nil,List.append_nil];exact r,sm,nt⟩
 ·rintro ys H' ⟨os,rfl,r,sm,nt⟩ p1 hp1
  rw [List.take_of_length_le (by rw [List.length_map];omega)] at r
  exact q _ _ (sm.trans (jb hp1)) (fun n=>(nt n).upd) ⟨os,cb,r.same (jb hp1)⟩
theorem ZL (T:Txt w K mg t):Fb P w K mg base CX0 2 t.Vf t.Wf ["size","spans","name"] ZI:=by
 have G_spans_of:Fb P w K mg base CX0 1 t.sf t.pf ["spans","name"] Vo:=vt T
 refine T.lh.ok Ve (fun vs H Q E h=>?_) (fun cdv A outer s H vs Q E hr h=>?_)
 ·obtain ⟨z,p,x,sp,rfl,_⟩:=h;rfl
 obtain ⟨z,p,x,sp,rfl,hz,L,hs,q⟩:=h
 refine ⟨_,(db (Yh (i:=3) Ve.nd rfl (Or.inl rfl) rfl (Xf rfl T.Gi (bb (pv 0) fb)) (Nc (sc:=ib Yi) rfl (by decide +kernel)) (N:=["turn"]) (sel:=[none]) (Jd (M:=["size","spans","name","marks","begin","turns","step"]) (by decide +kernel)) (Blk.of (fun _ _ _ _=>(wb (i:=0) (ug (N:=["turn"]) (by decide +kernel) rfl) rfl (Or.inl rfl))) (fun _ _ _ _=>⟨_,ff,by first | rfl | (dsimp only [Cx.block];done) | (dsimp only [Cx.block];exact rfl)⟩) (fun _ _ _ _=>⟨_,xo,by first | rfl | (dsimp only [Cx.block];done) | (dsimp only [Cx.block];exact rfl)⟩)) rfl)
   (db (Vd PassesOwn.never rfl (Ec (xb G_spans_of hr rfl T.Pj T.Bg.kp T.ck .nil Cb (bb (pv 1) (bb (pv 2) fb)))) (ef (K:=K) (n:=2) rfl rfl (Qb (wb (i:=4) Ve.nd rfl (Or.inl rfl) (.inl rfl)) (Qb (wb (i:=5) Ve.nd rfl (Or.inl rfl) (.inl rfl)) vf))) (gb (Vd PassesOwn.never rfl (Xf rfl T.Gi (bb (pv 5) fb)) (wb (i:=6) Ve.nd rfl (Or.inl rfl)) (gb (Hr xo (Jx (pv 3) (Ib Le (Ib xc (pv 4) (pv 6)) (pv 0)) Go))))))
   (gb (Db (pv 3))))),?_⟩
 (walk_at "RD")
 obtain ⟨hz0,hz1⟩:=hz
 obtain ⟨hs1,hs2⟩:=hs
 refine ⟨by omega,by omega,?_⟩
 refine Dd.range_map (fun _=>V.bl false) (Nat.le_trans (show (z:Int).toNat ≤ 1000 by omega) (by decide)) (fun i N hi hN=>?_) (fun mk hmk=>?_)
 ·(walk_at "RD")
  exact ⟨Sub.name,hN⟩
 rw [show (List.range (z:Int).toNat).map (fun _=>V.bl false)=cf (fmF z []) by
  unfold cf fmF;rw [List.foldl_nil,List.map_replicate];exact List.ext_getElem (by simp) (by simp)]
 refine ⟨p,x,sp,rfl,L.same (jb hmk),hs1,fun r H1 s1 nt1 L1=>⟨r,rfl,?_⟩⟩
 obtain ⟨qs,l1,lq⟩:=L1
 refine ⟨⟨_,SqL.of l1⟩,?_⟩
 have hmk1:H1 mk=some (.lst (cf (fmF z []))):=s1 _ _ cb
 have hrm:r ≠ mk:=fun e=>by
  subst e
  rw [l1] at hmk1
  injection hmk1 with e1
  injection e1 with e2
  have e3:=congrArg List.length e2
  cases qs with
  | nil=>simp [cf,xn] at e3;omega
  | cons a qs=>
   have:(cf (fmF z []))[0]? = some (V.ref a):=by rw [← e2];rfl
   unfold cf at this
   rw [List.getElem?_map] at this
   cases hh:(fmF z [])[0]? with
   | none=>rw [hh] at this;cases this
   | some b=>rw [hh] at this;cases this
 refine Vh.list (xs:=qs.map V.ref) (fun i σ H'=>(∃ a b c,σ=[some (V.int z),some (V.ref p),some (V.str x),some (V.ref mk),a,b,c])∧jd mk H1 H'∧(NoT H→NoT H')∧H' mk=some (.lst (cf (fmF z ((ofN x sp).take i))))) ?_ ?_ ?_ ?_
 ·exact ⟨⟨_,_,_,rfl⟩,fun b u _ e=>e,fun n=>nt1 n.upd,hmk1⟩
 ·rintro i σ H' hi ⟨_,sx,_,_⟩
  exact SqL.of (sx _ _ hrm l1)
 ·rintro i v σ H' hv ⟨⟨a,b,c,rfl⟩,sx,nt',hm⟩
  obtain ⟨qi,hqi,rfl⟩:=Mb hv
  obtain ⟨o,ho,e⟩:=lq.at hqi
  obtain ⟨d,hd,rfl⟩:=Mb ho
  obtain ⟨sd,hsd,hsn,rfl⟩:=Zw (List.mem_of_getElem? hd)
  have hb:=hs2 sd hsd
  have e':=sx _ _ (Me e hmk1 (by intro z;cases z)) e
  (walk_at "RD")
  refine ⟨_,SqT.of e',rfl,_,_,rfl,_,_,rfl,rfl,_,rfl,(by dsimp only;omega),(by dsimp only;omega),?_⟩
  rw [WH hd]
  refine Vh.range (fun k σ H'=>(∃ c,σ=[some (V.int z),some (V.ref p),some (V.str x),some (V.ref mk),some (V.int sd.b),some (V.int sd.n),c])∧jd mk H1 H'∧(NoT H→NoT H')∧H' mk=some (.lst (cf (cy z true sd.b k (fmF z ((ofN x sp).take i)))))) ?_ ?_ ?_
  ·exact ⟨⟨_,rfl⟩,sx,nt',hm⟩
  ·rintro k σ H2 hk ⟨⟨c,rfl⟩,sx2,nt2,hm2⟩
   (walk_at "RD")
   refine ⟨by omega,_,hm2,_,uy V.bl (by rw [yg,xn]) hz0 _,⟨_,rfl⟩,fun b u hb e=>by rw [lb hb];exact sx2 _ _ hb e,fun n=>(nt2 n).upd,?_⟩
   rw [cb]
   unfold cf
   rw [Mo V.bl]
   rfl
  ·rintro σ H2 ⟨⟨c,rfl⟩,sx2,nt2,hm2⟩
   exact ⟨⟨_,_,_,rfl⟩,sx2,nt2,hm2⟩
 ·rintro σ H' ⟨⟨a,b,c,rfl⟩,sx,nt',hm⟩
  (walk_at "RD")
  rw [List.take_of_length_le (by rw [List.length_map,lq.1,List.length_map];exact Nat.le_refl _)] at hm
  exact q _ _ (Je ((jb hmk).trans s1) sx hmk) nt' hmk hm
theorem GH (T:Txt w K mg t):Fb P w K mg base CX0 2 t.By t.Yx ["way","size","spans"] (ZC t):=by
 have G_spans_of:Fb P w K mg base CX0 1 t.sf t.pf ["spans","name"] Vo:=vt T
 have V_Way_ready:qE P w K mg base CX0 1 (isW t) "ready" ["self"] (Uh t):=OB T
 have V_Way_fade:qE P w K mg base CX0 1 (isW t) "fade" ["self"] (Nj t):=aH T
 refine T.JB.ok zl (fun vs H Q E h=>?_) (fun cdv A outer s H vs Q E hr h=>?_)
 ·obtain ⟨a,d,z,p,sp,rfl,_⟩:=h;rfl
 obtain ⟨a,d,z,p,sp,rfl,⟨hz0,hz1⟩,W,L,⟨hs1,hs2⟩,hoff,q⟩:=h
 refine ⟨_,(db (Yh (i:=3) zl.nd rfl (Or.inl rfl) rfl (Xf rfl T.Gi (bb (pv 1) fb)) (Nc (sc:=ib EC) rfl (by decide +kernel)) (N:=["turn"]) (sel:=[none]) (Jd (M:=["way","size","spans","shown","begin","turns","step"]) (by decide +kernel)) (Blk.of (fun _ _ _ _=>(wb (i:=0) (ug (N:=["turn"]) (by decide +kernel) rfl) rfl (Or.inl rfl))) (fun _ _ _ _=>⟨_,ff,by first | rfl | (dsimp only [Cx.block];done) | (dsimp only [Cx.block];exact rfl)⟩) (fun _ _ _ _=>⟨_,ac,by first | rfl | (dsimp only [Cx.block];done) | (dsimp only [Cx.block];exact rfl)⟩)) rfl)
   (db (Vd PassesOwn.never rfl (Ec (xb G_spans_of hr rfl T.Pj T.Bg.kp T.ck .nil Cb (bb (pv 2) (bb (bc (pv 0) rfl) fb)))) (ef (K:=K) (n:=2) rfl rfl (Qb (wb (i:=4) zl.nd rfl (Or.inl rfl) (.inl rfl)) (Qb (wb (i:=5) zl.nd rfl (Or.inl rfl) (.inl rfl)) vf))) (db (Vd PassesOwn.never rfl (Xf rfl T.Gi (bb (im (pv 0) V_Way_ready hr Cb) fb)) (wb (i:=6) zl.nd rfl (Or.inl rfl)) (gb (Hr ac (Jx (pv 3) (Ib Le (Ib Gg (Ib Gg (pv 4) pb) (pv 6)) (pv 1)) Go))))
   (db (Vd PassesOwn.never rfl (Xf rfl T.Gi (bb (pv 5) fb)) (wb (i:=6) zl.nd rfl (Or.inl rfl)) (gb (Hr ac (Jx (pv 3) (Ib Le (Ib xc (pv 4) (pv 6)) (pv 1)) Go))))
   (gb (Vd PassesOwn.never rfl (Xf rfl T.Gi (bb (im (pv 0) V_Way_fade hr Cb) fb)) (wb (i:=6) zl.nd rfl (Or.inl rfl)) (gb (Hr ac (Jx (pv 3) (Ib Le (Ib xc (Ib xc (pv 4) (pv 5)) (pv 6)) (pv 1)) Go))))))))
   (gb (Db (pv 3))))),?_⟩
 (walk_at "RD")
 refine ⟨by omega,by omega,?_⟩
 refine Dd.range_map (fun _=>V.str (Str.ofString "stop")) (Nat.le_trans (show (z:Int).toNat ≤ 1000 by omega) (by decide)) (fun i N hi hN=>?_) (fun mk hmk=>?_)
 ·(walk_at "RD")
  exact ⟨Sub.name,hN⟩
 rw [show (List.range (z:Int).toNat).map (fun _=>V.str (Str.ofString "stop"))=Eb (si z (nc d).toNat (ae d).toNat []) by
  unfold Eb si;rw [List.foldl_nil,List.map_replicate];exact List.ext_getElem (by simp) (by simp)]
 have hrd:=gv d
 have hfd:=xE hoff
 obtain ⟨dk,dx,hway⟩:=id W
 have w0:∀ {H':Hp},jd mk (upd H mk (.lst (Eb (si z (nc d).toNat (ae d).toNat [])))) H'→H' a=some (.ins (t.cw d.k) dx (so d)):=fun sx=>sx _ _ (qb hway hmk) ((jb hmk) _ _ hway)
 refine ⟨_,(W.same (jb hmk)).f_name T,p,d.name,sp,rfl,L.same (jb hmk),hs1,fun r H1 s1 nt1 L1=>⟨r,rfl,?_⟩⟩
 obtain ⟨qs,l1,lq⟩:=L1
 refine ⟨⟨_,SqL.of l1⟩,?_⟩
 have hmk1:H1 mk=some (.lst (Eb (si z (nc d).toNat (ae d).toNat []))):=s1 _ _ cb
 have hrm:r ≠ mk:=fun e=>by
  subst e
  rw [l1] at hmk1
  injection hmk1 with e1
  injection e1 with e2
  have e3:=congrArg List.length e2
  cases qs with
  | nil=>simp [Eb,Bl] at e3;omega
  | cons a qs=>
   have:(Eb (si z (nc d).toNat (ae d).toNat []))[0]? = some (V.ref a):=by rw [← e2];rfl
   unfold Eb at this
   rw [List.getElem?_map] at this
   cases hh:(si z (nc d).toNat (ae d).toNat [])[0]? with
   | none=>rw [hh] at this;cases this
   | some b=>rw [hh] at this;cases this
 have wx:∀ {H':Hp},jd mk H1 H'→oe t H' a d:=fun sx=>⟨dk,dx,sx _ _ (qb hway hmk) (s1 _ _ ((jb hmk) _ _ hway))⟩
 refine Vh.list (xs:=qs.map V.ref) (fun i σ H'=>(∃ a1 b c,σ=[some (V.ref a),some (V.int z),some (V.ref p),some (V.ref mk),a1,b,c])∧jd mk H1 H'∧(NoT H→NoT H')∧H' mk=some (.lst (Eb (si z (nc d).toNat (ae d).toNat ((ofN d.name sp).take i))))) ?_ ?_ ?_ ?_
 ·exact ⟨⟨_,_,_,rfl⟩,fun b u _ e=>e,fun n=>nt1 n.upd,hmk1⟩
 ·rintro i σ H' hi ⟨_,sx,_,_⟩
  exact SqL.of (sx _ _ hrm l1)
 ·rintro i v σ H' hv ⟨⟨a1,b,c,rfl⟩,sx,nt',hm⟩
  obtain ⟨qi,hqi,rfl⟩:=Mb hv
  obtain ⟨o,ho,e⟩:=lq.at hqi
  obtain ⟨dd,hd,rfl⟩:=Mb ho
  obtain ⟨sd,hsd,hsn,rfl⟩:=Zw (List.mem_of_getElem? hd)
  have hb:=hs2 sd hsd
  have e':=sx _ _ (Me e hmk1 (by intro z;cases z)) e
  have W1:=wx sx
  obtain ⟨_,dx1,hw1⟩:=id W1
  (walk_at "RD")
  refine ⟨_,SqT.of e',rfl,_,_,rfl,_,_,rfl,rfl,_,_,_,hw1,⟨_,dk,rfl⟩,pN (by decide +kernel),_,d,rfl,W1,rfl,_,rfl,by omega,by omega,?_⟩
  rw [lC hd]
  refine Vh.range (fun k σ H'=>(∃ c,σ=[some (V.ref a),some (V.int z),some (V.ref p),some (V.ref mk),some (V.int sd.b),some (V.int sd.n),c])∧jd mk H1 H'∧(NoT H→NoT H')∧H' mk=some (.lst (Eb (Ut z (Str.ofString "ready") sd.b k (si z (nc d).toNat (ae d).toNat ((ofN d.name sp).take i)))))) ?_ ?_ ?_
  ·exact ⟨⟨_,rfl⟩,sx,nt',hm⟩
  ·rintro k σ H2 hk ⟨⟨c,rfl⟩,sx2,nt2,hm2⟩
   (walk_at "RD")
   refine ⟨by omega,_,hm2,_,uy V.str (by rw [Ng,Bl]) hz0 _,⟨_,rfl⟩,fun b u hb e=>by rw [lb hb];exact sx2 _ _ hb e,fun n=>(nt2 n).upd,?_⟩
   rw [cb]
   unfold Eb
   rw [Mo V.str]
   rfl
  rintro σ H2 ⟨⟨c,rfl⟩,sx2,nt2,hm2⟩
  (walk_at "RD")
  refine ⟨by omega,by omega,?_⟩
  refine Vh.range (fun k σ H'=>(∃ c,σ=[some (V.ref a),some (V.int z),some (V.ref p),some (V.ref mk),some (V.int sd.b),some (V.int sd.n),c])∧jd mk H1 H'∧(NoT H→NoT H')∧H' mk=some (.lst (Eb (cy z (Str.ofString "free") sd.b k (Ut z (Str.ofString "ready") sd.b (nc d).toNat (si z (nc d).toNat (ae d).toNat ((ofN d.name sp).take i))))))) ?_ ?_ ?_
  ·exact ⟨⟨_,rfl⟩,sx2,nt2,hm2⟩
  ·rintro k σ H2 hk ⟨⟨c,rfl⟩,sx2,nt2,hm2⟩
   (walk_at "RD")
   refine ⟨by omega,_,hm2,_,uy V.str (by rw [yg,Ng,Bl]) hz0 _,⟨_,rfl⟩,fun b u hb e=>by rw [lb hb];exact sx2 _ _ hb e,fun n=>(nt2 n).upd,?_⟩
   rw [cb]
   unfold Eb
   rw [Mo V.str]
   rfl
  rintro σ H3 ⟨⟨c,rfl⟩,sx3,nt3,hm3⟩
  have W3:=wx sx3
  obtain ⟨_,dx3,hw3⟩:=id W3
  (walk_at "RD")
  refine ⟨_,_,_,hw3,⟨_,dk,rfl⟩,pN (by decide +kernel),_,d,rfl,W3,rfl,_,rfl,by omega,by omega,?_⟩
  refine Vh.range (fun k σ H'=>(∃ c,σ=[some (V.ref a),some (V.int z),some (V.ref p),some (V.ref mk),some (V.int sd.b),some (V.int sd.n),c])∧jd mk H1 H'∧(NoT H→NoT H')∧H' mk=some (.lst (Eb (cy z (Str.ofString "fade") (sd.b + sd.n) k (cy z (Str.ofString "free") sd.b sd.n.toNat (Ut z (Str.ofString "ready") sd.b (nc d).toNat (si z (nc d).toNat (ae d).toNat ((ofN d.name sp).take i)))))))) ?_ ?_ ?_
  ·exact ⟨⟨_,rfl⟩,sx3,nt3,hm3⟩
  ·rintro k σ H2 hk ⟨⟨c,rfl⟩,sx2,nt2,hm2⟩
   (walk_at "RD")
   refine ⟨by omega,_,hm2,_,uy V.str (by rw [yg,yg,Ng,Bl]) hz0 _,⟨_,rfl⟩,fun b u hb e=>by rw [lb hb];exact sx2 _ _ hb e,fun n=>(nt2 n).upd,?_⟩
   rw [cb]
   unfold Eb
   rw [Mo V.str]
   rfl
  ·rintro σ H2 ⟨⟨c,rfl⟩,sx2,nt2,hm2⟩
   exact ⟨⟨_,_,_,rfl⟩,sx2,nt2,hm2⟩
 ·rintro σ H' ⟨⟨a1,b,c,rfl⟩,sx,nt',hm⟩
  (walk_at "RD")
  rw [List.take_of_length_le (by rw [List.length_map,lq.1,List.length_map];exact Nat.le_refl _)] at hm
  exact q _ _ (Je ((jb hmk).trans s1) sx hmk) nt' hmk hm
theorem Ux (T:Txt w K mg t):Fb P w K mg base CX0 1 t.Be t.Ce ["marks"] Jt:=by
 refine T.Lf.ok Qd (fun vs H Q E h=>?_) (fun cdv A outer s H vs Q E hr h=>?_)
 ·obtain ⟨p,m,rfl,_⟩:=h;rfl
 obtain ⟨p,m,rfl,hm,hl,q⟩:=h
 refine ⟨_,(db (Ab (i:=1) Qd.nd rfl (Or.inl rfl) (Od Pc rfl T.wo vd (bb (pv 0) fb)))
   (db (Ab (i:=2) Qd.nd rfl (Or.inl rfl) pb)
   (db (Ab (i:=3) Qd.nd rfl (Or.inl rfl) (Rf fb))
   (db (Vd PassesOwn.never rfl (bD rfl T.Gi (bb (Ib Gg (Ib sv pb (pv 1)) pb) (bb (iM iH pb) (bb (iM iH pb) fb)))) (wb (i:=4) Qd.nd rfl (Or.inl rfl)) (db (Ab (i:=2) Qd.nd rfl (Or.inl rfl) (Ey (Ck (zc Yd (pv 0) (Ib Le (pv 4) (pv 1)) (fun _ _=>rfl))) pb (Ib xc (pv 2) pb)))
   (gb (Ae (Yb ft (pv 4) (pv 1) (dc _)) (gb (Ac (Kl PySem.F.plainAttrs_list PySem.F.slot_list_append PySem.F.type_list_append Qf (pv 3) (bb (pv 2) fb)))) Zb))))
   (gb (Db (Jm rfl rfl T.Er rfl T.Fm (bb (pv 3) fb)))))))),?_⟩
 (walk_at "RD")
 refine ⟨_,.inl (SqL.of hm),Nat.zero_le _,fun u hu=>?_⟩
 have hbl:(cf m).length=m.length:=by unfold cf;rw [List.length_map]
 rw [hbl]
 refine ⟨by unfold FG;omega,by omega,by omega,by omega,by omega,?_⟩
 have hun:p ≠ u:=qb hm hu
 refine Vh.of (n:=2 * m.length) (fun k σ H'=>(∃ x,σ=[some (V.ref p),some (V.int m.length),some (V.int (Oe m k)),some (V.ref u),x])∧jd u H H'∧(NoT H→NoT H')∧H' u=some (.lst ((Ds m (k - m.length)).map V.int))) ?_ (fun i σ H' hi _=>?_) (fun σ H' _=>?_) ?_ ?_
 ·exact ⟨⟨_,rfl⟩,fun b o hb e=>by rw [lb hb];exact e,fun n=>n.upd,by rw [cb,Nat.zero_sub];rfl⟩
 ·show i < _;omega
 ·show _ ≤ 2 * m.length;omega
 ·rintro k σ H'' v H' hk ⟨⟨x,rfl⟩,sx,nt',hu'⟩ ⟨rfl,rfl⟩
  have hjn:(2 * m.length - 1 - k) % m.length < m.length:=Nat.mod_lt _ hl.1
  have hmj:m[(2 * m.length - 1 - k) % m.length]? = some m[(2 * m.length - 1 - k) % m.length]:=List.getElem?_eq_getElem hjn
  have hj:((2 * m.length - 1 - k:Int)) % (m.length:Int)=(((2 * m.length - 1 - k) % m.length:Nat):Int):=by
   rw [Int.natCast_emod];congr 1;omega
  have hat:atI (cf m) ((2 * m.length - 1 - k:Int) % (m.length:Int))=some (V.bl m[(2 * m.length - 1 - k) % m.length]):=by
   rw [hj];exact Jb (by unfold cf;rw [List.getElem?_map,hmj];rfl)
  have hst:Oe m (k + 1)=if m[(2 * m.length - 1 - k) % m.length]=true then 0 else Oe m k + 1:=by
   show (if m[(2 * m.length - 1 - k) % m.length]? = some true then 0 else Oe m k + 1)=_
   rw [hmj]
   simp
  simp only [qg,Lb,List.set_cons_succ,List.set_cons_zero]
  refine qc (fun σ H4=>H4=H'∧σ=[some (V.ref p),some (V.int m.length),some (V.int (Oe m (k + 1))),some (V.ref u),some (V.int (2 * m.length - 1 - k))]) (fun D' hD _ _ _=>?_) ?_
  ·(walk_at "RD")
   refine ⟨by omega,_,SqL.of (sx _ _ hun hm),_,hat,_,rfl,?_⟩
   rw [hst] at hD
   by_cases c:m[(2 * m.length - 1 - k) % m.length]=true
   ·rw [if_pos c] at hD ⊢
    exact hD _ _ ⟨rfl,rfl⟩
   ·rw [if_neg c] at hD ⊢
    exact hD _ _ ⟨rfl,rfl⟩
  rintro σ H4 ⟨rfl,rfl⟩
  dsimp only
  refine Bc (decide ((2 * m.length - 1 - k:Int) < m.length)) (fun Q hQ=>?_) (fun hc=>?_) (fun hc=>?_)
  ·(walk_at "RD")
   exact hQ
  ·(walk_at "RD")
   have hc':=of_decide_eq_true hc
   refine ⟨.inl ⟨_,SqL.of hu'⟩,_,hu',Nat.lt_of_le_of_lt (show ((Ds m (k - m.length)).map V.int).length ≤ 1000 by unfold Ds;simp;omega) (by decide),⟨_,rfl⟩,fun b o hb e=>by rw [lb hb];exact sx _ _ hb e,fun n=>(nt' n).upd,?_⟩
   rw [cb,show k + 1 - m.length=k - m.length + 1 by omega]
   unfold Ds
   rw [List.range_succ,List.map_append,List.map_append]
   simp only [List.map_cons,List.map_nil]
   rw [show m.length + (k - m.length) + 1=k + 1 by omega]
  ·(walk_at "RD")
   have hc':=of_decide_eq_false hc
   refine ⟨⟨_,rfl⟩,sx,nt',?_⟩
   rw [hu',show k - m.length=0 by omega,show k + 1 - m.length=0 by omega]
 ·rintro σ H' ⟨⟨x,rfl⟩,sx,nt',hu'⟩
  (walk_at "RD")
  refine ⟨_,SqL.of hu',fun l hl'=>?_⟩
  have hlu:l ≠ u:=fun z=>by subst z;rw [hu'] at hl';cases hl'
  refine q _ _ ((Je (Kb.refl H) sx hu).trans (jb hl')) (fun n=>(nt' n).upd) ((Je (Kb.refl H) sx hu).free hl') ?_
  rw [cb,show 2 * m.length - m.length=m.length by omega,← List.map_reverse,Pz]
theorem sF (T:Txt w K mg t):Fb P w K mg base CX0 2 t.zf t.Hf ["marks"] Xx:=by
 have G_until_marked:Fb P w K mg base CX0 1 t.Be t.Ce ["marks"] Jt:=Ux T
 refine T.Lh.ok Wo (fun vs H Q E h=>?_) (fun cdv A outer s H vs Q E hr h=>?_)
 ·obtain ⟨p,m,rfl,_⟩:=h;rfl
 obtain ⟨p,m,rfl,hm,hl,q⟩:=h
 refine ⟨_,(gb (Db (Jm rfl rfl T.Er rfl T.Fm (bb (xb G_until_marked hr rfl T.yk T.Lf.kp T.Fk .nil Cb (bb (Jm rfl rfl T.Er rfl T.Fm (bb (pv 0) fb)) fb)) fb)))),?_⟩
 (walk_at "RD")
 refine ⟨_,SqL.of hm,fun l1 h1=>?_⟩
 refine ⟨l1,m.reverse,rfl,by rw [cb,cf,cf,List.map_reverse],by rw [List.length_reverse];exact hl,fun r H1 s1 nt1 hr1 hu=>⟨r,rfl,_,SqL.of hu,fun l2 h2=>?_⟩⟩
 refine q _ _ (((jb h1).trans s1).trans (jb h2)) (fun n=>(nt1 n.upd).upd) (((jb h1).trans s1).free h2) ?_
 rw [cb,← List.map_reverse]
 rfl
end
end My
namespace My
open PySem L2
theorem KB {i:Int} (h:i.natAbs < 100000):i.natAbs.log2 < 1920:=by
 by_cases h0:i.natAbs=0
 ·rw [h0];decide
 ·exact (Nat.log2_lt h0).mpr (Nat.lt_trans h (by decide))
theorem Te {α:Type} {l:List α} {a x:α} {i:Nat} (h:(l ++ [a])[i]? = some x):(i < l.length∧l[i]? = some x)∨(i=l.length∧x=a):=by
 by_cases hi:i < l.length
 ·rw [List.getElem?_append_left hi] at h
  exact .inl ⟨hi,h⟩
 ·rw [List.getElem?_append_right (by omega)] at h
  have h0:i - l.length=0:=by
   cases hh:i - l.length with
   | zero=>rfl
   | succ m=>rw [hh] at h;simp at h
  rw [h0] at h
  exact .inr ⟨by omega,(by simpa using h:a=x).symm⟩
noncomputable def DJ (x:Str):Prop:=x.length ≤ 1000∧∀ c ∈ x.cps.toList,c < 16 ^ 8
noncomputable def RD (C:Addr) (fs:List (Str × V)) (H:Hp) (E:XK):Prop:=∀ dx H',Kb H H'→(NoT H→NoT H')→H' dx=some (.ext (XD dx fs))→E (.ref C) (some dx) H'
theorem RD.step {C:Addr} {fs:List (Str × V)} {H H1:Hp} {E:XK} (h:RD C fs H E) (s:Kb H H1) (n:NoT H→NoT H1):RD C fs H1 E:=fun dx H' s' n' e=>h dx H' (s.trans s') (fun z=>n' (n z)) e
noncomputable def DOk (ds:List WD):Prop:=∀ d ∈ ds,DJ d.name∧0 ≤ d.off∧d.off ≤ 1000
noncomputable def Xi (ds:List WD) (sp:List SD):Option Str:=(ds.map (·.name)).find? fun x=>(ofN x sp).isEmpty
noncomputable def kG (t:Adr):Sp:=fun vs H Q _=>∃ x n,vs=[.ref x,.str n]∧DJ n∧H x=some (.ext (XF x t.Ud none)) ∧
 ∀ dx,H dx=none→dx ≠ x→Q .non (upd (upd H x (.ext (XF x t.Ud (some dx)))) dx (.ext (XD dx [(Str.ofString "way",.str n)])))
noncomputable def IG (t:Adr):Sp:=fun vs H Q _=>∃ x n i,vs=[.ref x,.str n,.int i]∧DJ n∧i.natAbs.log2 < 1920∧H x=some (.ext (XF x t.Kd none)) ∧
 ∀ dx,H dx=none→dx ≠ x→Q .non (upd (upd H x (.ext (XF x t.Kd (some dx)))) dx (.ext (XD dx [(Str.ofString "way",.str n),(Str.ofString "at",.int i)])))
noncomputable def qG (t:Adr):Sp:=fun vs H Q _=>∃ x n m i,vs=[.ref x,.str n,.str m,.int i]∧DJ n∧DJ m∧i.natAbs.log2 < 1920∧H x=some (.ext (XF x t.qd none)) ∧
 ∀ dx,H dx=none→dx ≠ x→Q .non (upd (upd H x (.ext (XF x t.qd (some dx)))) dx (.ext (XD dx [(Str.ofString "way",.str n),(Str.ofString "other",.str m),(Str.ofString "at",.int i)])))
noncomputable def Pu (t:Adr):Sp:=fun vs H Q E=>∃ c n ds p sp,vs=[.ref c,.ref p]∧Yc t H c n ds∧DOk ds∧LO H p (List.map sdO sp)∧sp.length ≤ 100 ∧
 match Xi ds sp with
 | none=>∀ H',Kb H H'→(NoT H→NoT H')→Q .non H'
 | some x=>RD t.Ud [(Str.ofString "way",.str x)] H E
noncomputable def Zy (z:Int) (sp:List SD) (k:Nat) (d:SD):Int:=(((ofN d.name (sp.eraseIdx k)).map fun p=>(p.1 - d.b) % z).min?).getD z
noncomputable def nA:Sp:=fun vs H Q E=>∃ (z:Int) (p:Addr) (sp:List SD) (k:Nat) (d:SD),vs=[.int z,.ref p,.int k]∧0 < z∧LO H p (List.map sdO sp)∧sp.length ≤ 100∧sp[k]? = some d∧∀ H',Kb H H'→(NoT H→NoT H')→Q (.int (Zy z sp k d)) H'
theorem yz {α:Type} (l:List α) (x:α) (k:Nat):(l ++ [x]).eraseIdx k=if k=l.length then l.eraseIdx k else l.eraseIdx k ++ [x]:=by
 by_cases h:k < l.length
 ·rw [if_neg (by omega),List.eraseIdx_append_of_lt_length h]
 ·rw [List.eraseIdx_append_of_length_le (by omega),List.eraseIdx_of_length_le (l:=l) (by omega)]
  by_cases h2:k=l.length
  ·rw [if_pos h2,h2,Nat.sub_self];simp
  ·rw [if_neg h2,List.eraseIdx_of_length_le (by simp;omega)]
noncomputable def wOf (ds:List WD) (x:Str):Option WD:=ds.find? fun d=>decide (d.name=x)
noncomputable def Hs (ds:List WD) (z:Int) (sp:List SD) (k:Nat) (s:SD):Bool:=(wOf ds s.name).any fun d=>decide (s.n < d.least) || decide (Zy z sp k s < s.n + ae d + nc d)
noncomputable def Ij (ds:List WD) (z:Int) (sp:List SD):Option (SD × Nat):=sp.zipIdx.find? fun e=>Hs ds z sp e.2 e.1
noncomputable def Hu (t:Adr):Sp:=fun vs H Q E=>∃ (c:Addr) (n:Int) (ds:List WD) (z:Int) (p:Addr) (sp:List SD),vs=[.ref c,.int z,.ref p]∧Yc t H c n ds∧DOk ds∧(0 < z∧z ≤ 1000)∧LO H p (List.map sdO sp)∧uK z sp∧(∀ s ∈ sp,∃ d,wOf ds s.name=some d) ∧
 match Ij ds z sp with
 | none=>∀ H',Kb H H'→(NoT H→NoT H')→Q .non H'
 | some e=>RD t.Kd [(Str.ofString "way",.str e.1.name),(Str.ofString "at",.int e.1.b)] H E
theorem Hv {P:Program} {w:World} {K:PySem.W.Frag} {mg:Str→Option Value} {base:Heap} {CX:CXT} {j k:Nat} {OK:Addr→Prop} {m:Str} {ps:List Str} {SPV:Addr→Sp} (V:qE P w K mg base CX j OK m ps SPV) (h:j ≤ k):qE P w K mg base CX k OK m ps SPV:=⟨fun C hC=>by
 obtain ⟨f,fd,h1,h2,h3,h4⟩:=V.ok C hC
 exact ⟨f,fd,h1,h2,h3.mono h,h4⟩⟩
theorem MG {ds:List WD} {x:Str} {d:WD} (h:wOf ds x=some d):d.name=x∧∃ i:Nat,ds[i]? = some d:=by
 unfold wOf at h
 refine ⟨by simpa using List.find?_some h,?_⟩
 obtain ⟨i,hi,e⟩:=List.getElem_of_mem (List.mem_of_find?_eq_some h)
 exact ⟨i,by rw [List.getElem?_eq_getElem hi,e]⟩
noncomputable def Bv (d1 d2:WD):Int:=if d1.off - d2.near > 0 then d1.off - d2.near else 0
noncomputable def Sl (g:Int) (m1 m2:List Int):Option ((Int × Int) × Nat):=(m1.zip m2).zipIdx.find? fun e=>decide (e.1.2=0) && decide (e.1.1 ≤ g)
noncomputable def lH (t:Adr):Sp:=fun vs H Q E=>∃ (c:Addr) (n:Int) (ds:List WD) (d1 d2:WD) (p1 p2:Addr) (m1 m2:List Int),vs=[.ref c,.str d1.name,.str d2.name,.ref p1,.ref p2]∧Yc t H c n ds∧DOk ds∧d1 ∈ ds∧d2 ∈ ds∧H p1=some (.lst (m1.map V.int))∧H p2=some (.lst (m2.map V.int))∧m1.length=m2.length∧m1.length ≤ 1000 ∧
 match Sl (Bv d1 d2) m1 m2 with
 | none=>∀ H',Kb H H'→(NoT H→NoT H')→Q .non H'
 | some e=>RD t.qd [(Str.ofString "way",.str d1.name),(Str.ofString "other",.str d2.name),(Str.ofString "at",.int e.2)] H E
noncomputable def Qi (z:Nat) (sp:List SD) (x:Str):List Int:=Tr (fmF z (ofN x sp))
noncomputable def Vn (n:Int) (z:Nat) (sp:List SD) (d1 d2:WD):Option Nat:=if d1.name ≠ d2.name∧mt n d1 d2=true then (Sl (Bv d1 d2) (Qi z sp d1.name) (Qi z sp d2.name)).map (·.2) else none
noncomputable def Qr (n:Int) (z:Nat) (sp:List SD) (d1:WD) (ds:List WD):Option (WD × WD × Nat):=ds.findSome? fun d2=>(Vn n z sp d1 d2).map fun i=>(d1,d2,i)
noncomputable def Ak (n:Int) (z:Nat) (sp:List SD) (ds:List WD):Option (WD × WD × Nat):=ds.findSome? fun d1=>Qr n z sp d1 ds
noncomputable def Nv (t:Adr):Sp:=fun vs H Q E=>∃ (c:Addr) (n:Int) (ds:List WD) (z:Nat) (p:Addr) (sp:List SD),vs=[.ref c,.int z,.ref p]∧Yc t H c n ds∧0 < n∧DOk ds∧(0 < z∧z ≤ 1000)∧LO H p (List.map sdO sp)∧uK z sp∧NoT H ∧
 match Ak n z sp ds with
 | none=>∀ H',Kb H H'→NoT H'→Q .non H'
 | some e=>RD t.qd [(Str.ofString "way",.str e.1.name),(Str.ofString "other",.str e.2.1.name),(Str.ofString "at",.int e.2.2)] H E
theorem Lm (m:List Bool):(zm m).length=m.length:=by unfold zm;simp
theorem Uj (z:Nat) (sp:List SD) (x:Str):(Qi z sp x).length=z:=by
 unfold Qi Tr
 rw [List.length_reverse,Lm,List.length_reverse,xn]
noncomputable def nkv (ds:List WD) (rs:List Addr):List (Key × V):=(ds.zip rs).map fun e=>(Sum.inr e.1.name,V.ref e.2)
noncomputable def NK (H:Hp) (p:Addr) (ds:List WD) (f:WD→HO) (n:Nat):Prop:=∃ rs:List Addr,rs.length=n∧H p=some (.dK (nkv ds rs))∧∀ (i:Nat) (r:Addr) (d:WD),rs[i]? = some r→ds[i]? = some d→H r=some (f d)
theorem YI {ds:List WD} (h:(ds.map (·.name)).Nodup) {i j:Nat} {d e:WD} (hi:ds[i]? = some d) (hj:ds[j]? = some e) (z:d.name=e.name):i=j:=
 oy h (List.getElem?_eq_some_iff.mp hi).1 (List.getElem?_eq_some_iff.mp hj).1 (by rw [Fq hi,Fq hj];exact z)
theorem gw {ds:List WD} {rs:List Addr} (h:(ds.map (·.name)).Nodup) {i:Nat} {d:WD} {r:Addr} (hd:ds[i]? = some d) (hr:rs[i]? = some r):Wj (nkv ds rs) (Sum.inr d.name)=some (.ref r):=by
 obtain ⟨h1,e1⟩:=List.getElem?_eq_some_iff.mp hd
 obtain ⟨h2,e2⟩:=List.getElem?_eq_some_iff.mp hr
 unfold Wj
 have hf:List.find? (fun kv=>decide (kv.1=(Sum.inr d.name:Key))) (nkv ds rs)=some (Sum.inr d.name,.ref r):=by
  rw [List.find?_eq_some_iff_getElem]
  refine ⟨by simp,i,by unfold nkv;simp;omega,by unfold nkv;simp [e1,e2],fun j hj=>?_⟩
  unfold nkv
  simp
  intro z
  have:=YI h (List.getElem?_eq_getElem (show j < ds.length by omega)) hd z
  omega
 rw [hf];rfl
theorem qw {ds:List WD} {rs:List Addr} (h:(ds.map (·.name)).Nodup) {d:WD} {r:Addr} (hd:ds[rs.length]? = some d):zq (nkv ds rs) (Sum.inr d.name) (.ref r)=nkv ds (rs ++ [r]):=by
 obtain ⟨h1,e1⟩:=List.getElem?_eq_some_iff.mp hd
 unfold zq
 have no:((nkv ds rs).any fun kv=>decide (kv.1=Sum.inr d.name))=false:=by
  rw [List.any_eq_false]
  intro p hp
  unfold nkv at hp
  obtain ⟨e,he,rfl⟩:=List.mem_map.mp hp
  obtain ⟨j,hj,hje⟩:=List.getElem_of_mem he
  simp only [decide_eq_true_eq]
  intro z
  have z:=Sum.inr.inj z
  rw [← hje] at z
  simp at hj z
  have:=YI h (List.getElem?_eq_getElem (show j < ds.length by omega)) hd z
  omega
 rw [no,if_neg (by decide)]
 unfold nkv
 refine List.ext_getElem (by simp;omega) (fun i h3 h4=>?_)
 simp at h3 h4
 by_cases c:i < rs.length
 ·simp [List.getElem_append,c,show i < ds.length by omega]
  rw [dif_pos (by omega)]
 ·have:i=rs.length:=by omega
  subst this
  simp [List.getElem_append,Nat.le_of_lt h1,e1]
section
variable {P:Program} {w:World} {K:PySem.W.Frag} {mg:Str→Option Value} {base:Heap} {t:Adr}
theorem UM (T:Txt w K mg t):Fb P w K mg base CX0 1 t.bg t.Vg ["self","way"] (kG t):=by
 refine T.Ln.ok Bn (fun vs H Q E h=>?_) (fun cdv A outer s H vs Q E hr h=>?_)
 ·obtain ⟨x,n,rfl,_⟩:=h;rfl
 obtain ⟨x,n,rfl,hn,hx,q⟩:=h
 refine ⟨_,(db (Ac (Po rfl T.ii T.Ci (bb (pv 0) (bb (Ol (gh (pq (pv 1) (gh Nx))) (by rw [sizeLine_eq];decide)) fb))))
   (gb (Do (pv 0) (pv 1) rfl))),?_⟩
 (walk_at "RD")
 refine ⟨hn.1,hn.2,fun y=>⟨_,_,hx,T.Tw,?_⟩⟩
 exact ⟨_,hx,T.Tw,T.fv,q⟩
theorem fL (T:Txt w K mg t):Fb P w K mg base CX0 1 t.Sf t.dh ["self","way","at"] (IG t):=by
 refine T.Sn.ok An (fun vs H Q E h=>?_) (fun cdv A outer s H vs Q E hr h=>?_)
 ·obtain ⟨x,n,i,rfl,_⟩:=h;rfl
 obtain ⟨x,n,i,rfl,hn,hi,hx,q⟩:=h
 refine ⟨_,(db (Ac (Po rfl T.ii T.Ci (bb (pv 0) (bb (Ol (gh (pq (pv 1) (gh (cH (pv 2) Nx)))) (by rw [sizeLine_eq];decide)) fb))))
   (db (Do (pv 0) (pv 1) rfl)
   (gb (xt (pv 0) (pv 2) rfl)))),?_⟩
 (walk_at "RD")
 refine ⟨hn.1,hn.2,hi,fun y=>⟨_,_,hx,T.Zt,?_⟩⟩
 refine ⟨_,hx,T.Zt,T.lu,fun dx hd hne=>?_⟩
 refine ⟨_,dx,by rw [lb (Ne.symm hne),cb],_,cb,T.Zt,T.Xw,show 1 < 1000 by decide,?_⟩
 rw [Cj,show Ag (Str.ofString "at") (V.int i) ([(Str.ofString "way",V.str n)]:List (Str × V))=[(Str.ofString "way",V.str n),(Str.ofString "at",V.int i)] from Tc [Str.ofString "way"] rfl (by decide +kernel)]
 exact q dx hd hne
theorem JL (T:Txt w K mg t):Fb P w K mg base CX0 1 t.cg t.yh ["self","way","other","at"] (qG t):=by
 refine T.Qn.ok Om (fun vs H Q E h=>?_) (fun cdv A outer s H vs Q E hr h=>?_)
 ·obtain ⟨x,n,m,i,rfl,_⟩:=h;rfl
 obtain ⟨x,n,m,i,rfl,hn,hm,hi,hx,q⟩:=h
 refine ⟨_,(db (Ac (Po rfl T.ii T.Ci (bb (pv 0) (bb (Ol (gh (pq (pv 1) (gh (pq (pv 2) (gh (cH (pv 3) Nx)))))) (by rw [sizeLine_eq];decide)) fb))))
   (db (Do (pv 0) (pv 1) rfl)
   (db (xt (pv 0) (pv 2) rfl)
   (gb (xt (pv 0) (pv 3) rfl))))),?_⟩
 (walk_at "RD")
 refine ⟨hn.1,hn.2,hm.1,hm.2,hi,fun y=>⟨_,_,hx,T.Jp,?_⟩⟩
 refine ⟨_,hx,T.Jp,T.wu,fun dx hd hne=>?_⟩
 refine ⟨_,dx,by rw [lb (Ne.symm hne),cb],_,cb,T.Jp,T.Uq,show 1 < 1000 by decide,?_⟩
 rw [Cj,show Ag (Str.ofString "other") (V.str m) ([(Str.ofString "way",V.str n)]:List (Str × V))=[(Str.ofString "way",V.str n),(Str.ofString "other",V.str m)] from Tc [Str.ofString "way"] rfl (by decide +kernel)]
 refine ⟨_,dx,by rw [lb (Ne.symm hne),cb],_,cb,T.Jp,T.Ww,show 2 < 1000 by decide,?_⟩
 rw [Cj,show Ag (Str.ofString "at") (V.int i) ([(Str.ofString "way",V.str n),(Str.ofString "other",V.str m)]:List (Str × V))=[(Str.ofString "way",V.str n),(Str.ofString "other",V.str m),(Str.ofString "at",V.int i)] from Tc [Str.ofString "way",Str.ofString "other"] rfl (by decide +kernel)]
 exact q dx hd hne
theorem eB (T:Txt w K mg t):Fb P w K mg base (CX1 P w) 3 t.Df t.Kf ["crossing","spans"] (Pu t):=by
 have G_Never_init:Fb P w K mg base CX0 1 t.bg t.Vg ["self","way"] (kG t):=UM T
 have G_spans_of:Fb P w K mg base CX0 2 t.sf t.pf ["spans","name"] Vo:=(vt T).mono (by decide)
 have G_Crossing_names:Fb P w K mg base CX0 2 t.yc t.Vc ["self"] (Jl t):=(Io T).mono (by decide)
 refine T.Dh.okX Zi (fun vs H Q E h=>?_) (fun cdv A outer s H vs Q E hr h=>?_)
 ·obtain ⟨c,n,ds,p,sp,rfl,_⟩:=h;rfl
 obtain ⟨c,n,ds,p,sp,rfl,C,hD,L,hs,q⟩:=h
 refine ⟨_,(gb (Vd (Ie ⟨rfl,rfl⟩) rfl (Ec (se (pv 0) T.Gb T.zd G_Crossing_names hr T.Ad .nil Cb)) (wb (i:=2) Zi.nd rfl (Or.inl rfl)) (gb (Ae (wm (Ms (xb G_spans_of hr rfl T.Pj T.Bg.kp T.ck .nil Cb (bb (pv 1) (bb (pv 2) fb))) (fun _=>rfl))) (gb (Ko (Fo T.Gx G_Never_init hr rfl T.dI T.Mv (bb (pv 2) fb)) Ft)) Zb)))),?_⟩
 (walk_at "RD")
 obtain ⟨_,dx,wl,nd,e1,_,_⟩:=id C
 refine ⟨_,_,e1,Vv _ _ _ (by decide +kernel),c,n,ds,rfl,C,fun pn hpn=>⟨pn,rfl,⟨_,SqL.of cb⟩,?_⟩⟩
 refine Vh.list (xs:=Eb (ds.map (·.name))) (fun i σ H'=>(∃ y,σ=[some (V.ref c),some (V.ref p),y])∧Kb (upd H pn (.lst (Eb (ds.map (·.name))))) H'∧(NoT H→NoT H')∧Xi ds sp=((ds.map (·.name)).drop i).find? fun x=>(ofN x sp).isEmpty) ?_ ?_ ?_ ?_
 ·exact ⟨⟨_,rfl⟩,Kb.refl _,fun n=>n.upd,rfl⟩
 ·rintro i σ H' hi ⟨_,sm,_,_⟩
  exact SqL.of (sm _ _ cb)
 ·rintro i v σ H' hv ⟨⟨y,rfl⟩,sm,nt,hf⟩
  obtain ⟨x,hx,rfl⟩:=Mb hv
  have smH:Kb H H':=(jb hpn).trans sm
  obtain ⟨hi,hxi⟩:=List.getElem?_eq_some_iff.mp hx
  rw [List.drop_eq_getElem_cons hi,hxi,List.find?_cons] at hf
  (walk_at "RD")
  refine rg (fun b H2=>b=(ofN x sp).isEmpty∧Kb H' H2∧(NoT H'→NoT H2)) (fun Q hQ=>?_) (fun H2 r=>?_) (fun H2 r=>?_)
  ·(walk_at "RD")
   refine ⟨p,x,sp,rfl,L.same smH,hs,fun r H2 s2 n2 ⟨qs,l1,l2⟩=>⟨!(ofN x sp).isEmpty,.inl ⟨_,SqL.of l1,?_⟩,?_⟩⟩
   ·have hl:=l2.1
    cases qs with
    | nil=>cases h:ofN x sp with
     | nil=>rfl
     | cons a r=>rw [h] at hl;simp at hl
    | cons a r=>cases h:ofN x sp with
     | nil=>rw [h] at hl;simp at hl
     | cons a r=>rfl
   ·rw [Bool.not_not]
    exact hQ _ _ ⟨rfl,s2,n2⟩
  ·obtain ⟨r1,r2,r3⟩:=r
   rw [← r1] at hf
   have hf:Xi ds sp=some x:=hf
   rw [hf] at q
   (walk_at "RD")
   have hn:DJ x:=by
    obtain ⟨d,hd,rfl⟩:=Mb hx
    exact (hD d (List.mem_of_getElem? hd)).1
   refine ⟨by decide,fun a ha=>⟨a,x,rfl,hn,cb,fun d hd hne=>?_⟩⟩
   have hd0:H2 d=none:=by rw [lb hne] at hd;exact hd
   refine ⟨rfl,t.Ud,some d,by rw [lb (Ne.symm hne),cb],T.Tw,q d _ (fun b u e=>?_) (fun n=>((((r3 (nt n)).upd).upd).upd).upd) (by rw [lb hne,cb])⟩
   have e':=r2 _ _ (smH _ _ e)
   rw [lb (qb e' ha),lb (qb e' hd0),lb (qb e' ha),lb (qb e' ha)]
   exact e'
  ·obtain ⟨r1,r2,r3⟩:=r
   rw [← r1] at hf
   (walk_at "RD")
   exact ⟨⟨_,rfl⟩,sm.trans r2,fun n=>r3 (nt n),hf⟩
 ·rintro σ H' ⟨⟨y,rfl⟩,sm,nt,hf⟩
  rw [List.drop_of_length_le (by unfold Eb;simp)] at hf
  have hf:Xi ds sp=none:=hf
  rw [hf] at q
  exact q _ ((jb hpn).trans sm) nt
theorem UJ (T:Txt w K mg t):Fb P w K mg base CX0 2 t.Cd t.Ed ["size","spans","place"] nA:=by
 have G_spans_of:Fb P w K mg base CX0 1 t.sf t.pf ["spans","name"] Vo:=vt T
 refine T.qe.ok Cc (fun vs H Q E h=>?_) (fun cdv A outer s H vs Q E hr h=>?_)
 ·obtain ⟨z,p,sp,k,d,rfl,_⟩:=h;rfl
 obtain ⟨z,p,sp,k,d,rfl,hz,⟨qs,l1,lq⟩,hs,hk,q⟩:=h
 refine ⟨_,(db (Hr (zc Yd (pv 1) (pv 2) (fun _ _=>rfl)) (ef (K:=K) (n:=3) rfl rfl (Qb (wb (i:=3) Cc.nd rfl (Or.inl rfl) (.inl rfl)) (Qb (wb (i:=4) Cc.nd rfl (Or.inr rfl) (.inl rfl)) (Qb (wb (i:=5) Cc.nd rfl (Or.inl rfl) (.inl rfl)) vf)))))
   (db (Yh (i:=6) Cc.nd rfl (Or.inl rfl) rfl (jp rfl T.Mg (bb (pv 1) fb)) (Nc (sc:=ib Fd) rfl (by decide +kernel)) (N:=["at","span","place"]) (sel:=[none,none,some 2]) (Jd (M:=["size","spans","place","name","begin","turns","others"]) (by decide +kernel)) (Blk.of (fun _ _ _ _=>(ef (K:=K) (n:=2) rfl rfl (Qb (wb (i:=0) (ug (N:=["at","span","place"]) (by decide +kernel) rfl) rfl (Or.inl rfl) (.inr rfl)) (Qb (wb (i:=1) (ug (N:=["at","span","place"]) (by decide +kernel) rfl) rfl (Or.inl rfl) (.inr rfl)) vf)))) (fun _ _ _ _=>⟨_,(eu (Yb xw (pv 0) (pv 2) (dc _))),by first | rfl | (dsimp only [Cx.block];done) | (dsimp only [Cx.block];exact rfl)⟩) (fun _ _ _ _=>⟨_,(pv 1),by first | rfl | (dsimp only [Cx.block];done) | (dsimp only [Cx.block];exact rfl)⟩)) rfl)
   (gb (Db (eJ rfl rfl T.vN (bb (eg rfl (Ec (xb G_spans_of hr rfl T.Pj T.Bg.kp T.ck .nil Cb (bb (pv 6) (bb (pv 3) fb)))) (Nc (sc:=ib Fd) rfl (by decide +kernel)) (N:=["later","many","begin","size"]) (sel:=[none,none,some 4,some 0]) (Jd (M:=["size","spans","place","name","begin","turns","others"]) (by decide +kernel)) (Blk.of (fun _ _ _ _=>(ef (K:=K) (n:=2) rfl rfl (Qb (wb (i:=0) (ug (N:=["later","many","begin","size"]) (by decide +kernel) rfl) rfl (Or.inl rfl) (.inr rfl)) (Qb (wb (i:=1) (ug (N:=["later","many","begin","size"]) (by decide +kernel) rfl) rfl (Or.inl rfl) (.inr rfl)) vf)))) (fun _ _ _ _=>⟨_,ff,by first | rfl | (dsimp only [Cx.block];done) | (dsimp only [Cx.block];exact rfl)⟩) (fun _ _ _ _=>⟨_,(Ib Le (Ib Gg (pv 0) (pv 2)) (pv 3)),by first | rfl | (dsimp only [Cx.block];done) | (dsimp only [Cx.block];exact rfl)⟩))) fb) (pv 0)))))),?_⟩
 (walk_at "RD")
 have hql:qs.length=sp.length:=by rw [lq.1,List.length_map]
 obtain ⟨hkl,hkd⟩:=List.getElem?_eq_some_iff.mp hk
 have hqk:qs[k]? = some qs[k]:=List.getElem?_eq_getElem (by omega)
 have ek:H qs[k]=some (sdO d):=lq.2 k _ _ hqk (by rw [List.getElem?_map,hk];rfl)
 refine ⟨_,SqL.of l1,_,Jb (by rw [List.getElem?_map,hqk];rfl),_,rfl,_,SqT.of ek,rfl,_,_,rfl,_,_,rfl,_,_,rfl,rfl,⟨_,SqL.of l1⟩,?_⟩
 refine Dd.enum (xs:=qs.map V.ref) (fun i ys H'=>∃ os:List Addr,ys=os.map V.ref∧LQ H' os (((sp.take i).eraseIdx k).map sdO)∧Kb H H'∧(NoT H→NoT H')) (Nat.le_trans (show (qs.map V.ref).length ≤ 100 by rw [List.length_map];omega) (by decide)) ⟨[],rfl,by rw [List.take_zero];exact LQ.nil _,Kb.refl _,id⟩ ?_ ?_ ?_
 ·rintro i ys H' hi ⟨os,rfl,r,sm,_⟩
  refine ⟨(SqL.of l1).same sm,?_⟩
  rw [List.length_map,r.1,List.length_map]
  exact Nat.le_trans (List.length_eraseIdx_le ..) (by rw [List.length_take];omega)
 ·rintro i v ys H' p1 hv ⟨os,rfl,r,sm,nt⟩ hp1 N hN
  obtain ⟨qi,hqi,rfl⟩:=Mb hv
  obtain ⟨o,ho,e⟩:=lq.at hqi
  obtain ⟨d',hd',rfl⟩:=Mb ho
  have e':=sm _ _ e
  have s1:Kb H' (upd H' p1 (.tup [.int i,.ref qi])):=jb hp1
  refine Bj ?_
  dsimp only at hN
  have hil:(sp.take i).length=i:=by
   have:=(List.getElem?_eq_some_iff.mp hd').1
   rw [List.length_take];omega
  rw [ge hd',yz,hil] at hN
  (walk_at "RD")
  refine ⟨Sub.name2,?_⟩
  by_cases c:k=i
  ·rw [if_pos c] at hN
   rw [if_neg (by subst c;simp)]
   exact hN _ _ ⟨os,rfl,r.same s1,sm.trans s1,fun n=>(nt n).upd⟩
  ·rw [if_neg c] at hN
   rw [if_pos (by simp;omega)]
   refine hN _ _ ⟨os ++ [qi],by rw [List.map_append];rfl,?_,sm.trans s1,fun n=>(nt n).upd⟩
   rw [List.map_append]
   exact (r.same s1).app (LQ.one (s1 _ _ e'))
 ·rintro ys H' ⟨os,rfl,r,sm,nt⟩ p1 hp1
  rw [List.take_of_length_le (by rw [List.length_map];omega)] at r
  (walk_at "RD")
  have s1:Kb H' (upd H' p1 (.lst (os.map V.ref))):=jb hp1
  refine ⟨p1,d.name,sp.eraseIdx k,rfl,⟨os,cb,r.same s1⟩,Nat.le_trans (List.length_eraseIdx_le ..) hs,fun r2 H2 s2 n2 ⟨qs2,m1,m2⟩=>⟨r2,rfl,⟨_,SqL.of m1⟩,?_⟩⟩
  have hln:(ofN d.name (sp.eraseIdx k)).length ≤ 100:=Nat.le_trans (uB _ _) (Nat.le_trans (List.length_eraseIdx_le ..) hs)
  have hml:qs2.length=(ofN d.name (sp.eraseIdx k)).length:=by rw [m2.1,List.length_map]
  refine Dd.list_zs (zs:=((ofN d.name (sp.eraseIdx k)).map fun p=>(p.1 - d.b) % z).map V.int) (SqL.of m1) (Nat.le_trans (show (qs2.map V.ref).length ≤ 100 by rw [List.length_map];omega) (by decide)) (by simp [hml]) (fun i v z' N hv hz' hN=>?_) (fun l hl=>?_)
  ·obtain ⟨qi,hqi,rfl⟩:=Mb hv
   obtain ⟨o,ho,e⟩:=m2.at hqi
   obtain ⟨pr,hpr,rfl⟩:=Mb ho
   obtain ⟨y,hy,rfl⟩:=Mb hz'
   obtain ⟨pr',hpr',rfl⟩:=Mb hy
   rw [hpr] at hpr'
   cases hpr'
   (walk_at "RD")
   exact ⟨_,SqT.of e,rfl,_,_,rfl,_,_,rfl,rfl,Sub.name2,_,rfl,hz,hN⟩
  ·(walk_at "RD")
   refine ⟨_,SqL.of cb,?_⟩
   have:=q (upd H2 l (.lst (((ofN d.name (sp.eraseIdx k)).map fun p=>(p.1 - d.b) % z).map V.int))) (((sm.trans s1).trans s2).trans (jb hl)) (fun n=>(n2 (nt n).upd).upd)
   unfold Zy at this
   cases hm:((ofN d.name (sp.eraseIdx k)).map fun p=>(p.1 - d.b) % z).min? with
   | none=>rw [hm] at this;exact this
   | some m=>rw [hm] at this;exact this
theorem zB (T:Txt w K mg t):Fb P w K mg base (CX1 P w) 4 t.xf t.Jf ["crossing","size","spans"] (Hu t):=by
 have G_Short_init:Fb P w K mg base CX0 2 t.Sf t.dh ["self","way","at"] (IG t):=(fL T).mono (by decide)
 have G_turns_to_next_begin:Fb P w K mg base CX0 3 t.Cd t.Ed ["size","spans","place"] nA:=(UJ T).mono (by decide)
 have G_Crossing_called:Fb P w K mg base CX0 3 t.Ob t.Ub ["self","name"] (Nh t):=(Hj T).mono (by decide)
 have V_Way_ready:qE P w K mg base CX0 3 (isW t) "ready" ["self"] (Uh t):=Hv (OB T) (by decide)
 have V_Way_fade:qE P w K mg base CX0 3 (isW t) "fade" ["self"] (Nj t):=Hv (aH T) (by decide)
 refine T.Ah.okX Oc (fun vs H Q E h=>?_) (fun cdv A outer s H vs Q E hr h=>?_)
 ·obtain ⟨c,n,ds,z,p,sp,rfl,_⟩:=h;rfl
 obtain ⟨c,n,ds,z,p,sp,rfl,C,hD,hz,⟨qs,l1,lq⟩,hs,hk,q⟩:=h
 refine ⟨_,(gb (Vd (Ie ⟨rfl,rfl⟩) rfl (jp rfl T.Mg (bb (pv 2) fb)) (ef (K:=K) (n:=2) rfl rfl (Qb (wb (i:=3) Oc.nd rfl (Or.inl rfl) (.inl rfl)) (Qb (wb (i:=4) Oc.nd rfl (Or.inl rfl) (.inl rfl)) vf))) (db (Hr (pv 4) (ef (K:=K) (n:=3) rfl rfl (Qb (wb (i:=5) Oc.nd rfl (Or.inl rfl) (.inl rfl)) (Qb (wb (i:=6) Oc.nd rfl (Or.inl rfl) (.inl rfl)) (Qb (wb (i:=7) Oc.nd rfl (Or.inl rfl) (.inl rfl)) vf)))))
   (db (Ab (i:=8) Oc.nd rfl (Or.inl rfl) (Ld (pv 0) T.Gb T.jc G_Crossing_called hr T.lc .nil Cb (bb (pv 5) fb)))
   (db (Ab (i:=9) Oc.nd rfl (Or.inl rfl) (Ib xc (Ib xc (pv 7) (im (pv 8) V_Way_fade hr Cb)) (im (pv 8) V_Way_ready hr Cb)))
   (gb (Ae (PW.pt (pw (Yb ft (pv 7) (bc (pv 8) rfl) (dc _)) (Is (Yb ft (xb G_turns_to_next_begin hr rfl T.kj T.qe.kp T.fj .nil Cb (bb (pv 1) (bb (pv 2) (bb (pv 3) fb)))) (pv 9) (dc _))))) (gb (Ko (Fo T.Dy G_Short_init hr rfl T.pJ T.Xu (bb (pv 5) (bb (pv 6) fb))) Ft)) Zb))))))),?_⟩
 (walk_at "RD")
 have hql:qs.length=sp.length:=by rw [lq.1,List.length_map]
 refine ⟨⟨_,SqL.of l1⟩,?_⟩
 refine Vh.enum (xs:=qs.map V.ref) (fun i σ H'=>(∃ a b c1 d e f g,σ=[some (V.ref c),some (V.int z),some (V.ref p),a,b,c1,d,e,f,g])∧Kb H H'∧(NoT H→NoT H')∧Ij ds z sp=(sp.zipIdx.drop i).find? fun e=>Hs ds z sp e.2 e.1) ?_ ?_ ?_ ?_
 ·exact ⟨⟨_,_,_,_,_,_,_,rfl⟩,Kb.refl _,id,rfl⟩
 ·rintro i σ H' hi ⟨_,sm,_,_⟩
  exact SqL.of (sm _ _ l1)
 ·rintro i v σ H0 p1 hv ⟨⟨a1,a2,a3,a4,a5,a6,a7,rfl⟩,sm,nt,hf⟩ hp1
  obtain ⟨qi,hqi,rfl⟩:=Mb hv
  obtain ⟨o,ho,e⟩:=lq.at hqi
  obtain ⟨sd,hsd,rfl⟩:=Mb ho
  obtain ⟨hi,hxi⟩:=List.getElem?_eq_some_iff.mp hsd
  rw [List.drop_eq_getElem_cons (by simpa using hi),List.find?_cons] at hf
  simp only [List.getElem_zipIdx,Nat.zero_add,hxi] at hf
  have s1:Kb H0 (upd H0 p1 (.tup [.int i,.ref qi])):=jb hp1
  refine Bj ?_
  have nt1:NoT H→NoT (upd H0 p1 (.tup [.int i,.ref qi])):=fun n=>(nt n).upd
  generalize upd H0 p1 (.tup [.int i,.ref qi])=H' at s1 nt1 ⊢
  have smH:Kb H H':=sm.trans s1
  obtain ⟨d,hd⟩:=hk sd (List.mem_of_getElem? hsd)
  obtain ⟨hdn,j,hj⟩:=MG hd
  have C':=C.same smH
  obtain ⟨_,dx,wl,nd,e1,_,_⟩:=id C'
  have hDd:=hD d (List.mem_of_getElem? hj)
  have hB:Hs ds z sp i sd=(decide (sd.n < d.least) || decide (Zy z sp i sd < sd.n + ae d + nc d)):=by
   unfold Hs;rw [hd];rfl
  (walk_at "RD")
  refine ⟨_,SqT.of (smH _ _ e),rfl,_,_,rfl,_,_,rfl,_,_,rfl,rfl,_,_,e1,Vv _ _ _ (by decide +kernel),c,n,ds,j,d,by rw [hdn],C',hj,fun a W=>?_⟩
  obtain ⟨dk,dxa,ha⟩:=id W
  refine ⟨a,rfl,_,_,_,ha,⟨_,dk,rfl⟩,pN (by decide +kernel),a,d,rfl,W,rfl,_,rfl,_,rfl,a,rfl,_,_,_,ha,⟨_,dk,rfl⟩,pN (by decide +kernel),a,d,rfl,W,rfl,_,rfl,?_⟩
  refine rg (fun b H2=>b=Hs ds z sp i sd∧Kb H' H2∧(NoT H'→NoT H2)) (fun Q hQ=>?_) (fun H2 r=>?_) (fun H2 r=>?_)
  ·rw [hB] at hQ
   (walk_at "RD")
   refine ⟨_,W.f_least T,_,rfl,?_⟩
   by_cases c1:sd.n < d.least
   ·rw [decide_eq_true c1] at hQ
    rw [if_pos (decide_eq_true c1)]
    exact hQ _ _ ⟨rfl,Kb.refl _,id⟩
   ·rw [decide_eq_false c1,Bool.false_or] at hQ
    rw [if_neg (by simpa using c1)]
    exact ⟨z,p,sp,i,sd,rfl,hz.1,⟨qs,smH _ _ l1,lq.same smH⟩,hs.1,hsd,fun H2 s2 n2=>⟨_,rfl,hQ _ _ ⟨rfl,s2,n2⟩⟩⟩
  ·obtain ⟨r1,r2,r3⟩:=r
   rw [← r1] at hf
   have hf:Ij ds z sp=some (sd,i):=hf
   rw [hf] at q
   (walk_at "RD")
   have hn:DJ sd.name:=by rw [← hdn];exact hDd.1
   have hsb:=hs.2 sd (List.mem_of_getElem? hsd)
   refine ⟨by decide,fun a ha=>⟨a,sd.name,sd.b,rfl,hn,KB (by omega),cb,fun d hd hne=>?_⟩⟩
   have hd0:H2 d=none:=by rw [lb hne] at hd;exact hd
   refine ⟨rfl,t.Kd,some d,by rw [lb (Ne.symm hne),cb],T.Zt,q d _ (fun b u e=>?_) (fun n=>((((r3 (nt1 n)).upd).upd).upd).upd) (by rw [lb hne,cb])⟩
   have e':=r2 _ _ (smH _ _ e)
   rw [lb (qb e' ha),lb (qb e' hd0),lb (qb e' ha),lb (qb e' ha)]
   exact e'
  ·obtain ⟨r1,r2,r3⟩:=r
   rw [← r1] at hf
   exact ⟨⟨_,_,_,_,_,_,_,rfl⟩,smH.trans r2,fun n=>r3 (nt1 n),hf⟩
 ·rintro σ H' ⟨_,sm,nt,hf⟩
  rw [List.drop_of_length_le (by simp [hql])] at hf
  have hf:Ij ds z sp=none:=hf
  rw [hf] at q
  exact q _ sm nt
theorem WK (T:Txt w K mg t):Fb P w K mg base (CX1 P w) 4 t.ve t.ye ["crossing","one","other","since_one","since_other"] (lH t):=by
 have G_Clash_init:Fb P w K mg base CX0 2 t.cg t.yh ["self","way","other","at"] (qG t):=(JL T).mono (by decide)
 have G_gap:Fb P w K mg base CX0 3 t.pF t.aF ["crossing","one","other"] (xG t):=xM T
 refine T.mf.okX je (fun vs H Q E h=>?_) (fun cdv A outer s H vs Q E hr h=>?_)
 ·obtain ⟨c,n,ds,d1,d2,p1,p2,m1,m2,rfl,_⟩:=h;rfl
 obtain ⟨c,n,ds,d1,d2,p1,p2,m1,m2,rfl,C,hD,h1,h2,L1,L2,hl,hm,q⟩:=h
 refine ⟨_,(db (Ab (i:=5) je.nd rfl (Or.inl rfl) (xb G_gap hr rfl T.gO T.oJ.kp T.cO .nil Cb (bb (pv 0) (bb (pv 1) (bb (pv 2) fb)))))
   (gb (Vd (Ie ⟨rfl,rfl⟩) rfl (jp rfl T.Mg (bb (pv 3) fb)) (ef (K:=K) (n:=2) rfl rfl (Qb (wb (i:=6) je.nd rfl (Or.inl rfl) (.inl rfl)) (Qb (wb (i:=7) je.nd rfl (Or.inl rfl) (.inl rfl)) vf))) (gb (Ae (PW.pt (Wx (Yb Dj (zc Yd (pv 4) (pv 6) (fun _ _=>rfl)) pb (dc _)) (Yt (Yb yN (pv 7) (pv 5) (dc _))))) (gb (Ko (Fo T.ny G_Clash_init hr rfl T.cI T.Au (bb (pv 1) (bb (pv 2) (bb (pv 6) fb)))) Ft)) Zb))))),?_⟩
 (walk_at "RD")
 obtain ⟨j1,hj1,ej1⟩:=List.getElem_of_mem h1
 obtain ⟨j2,hj2,ej2⟩:=List.getElem_of_mem h2
 refine ⟨c,n,ds,j1,j2,d1,d2,rfl,C,by rw [List.getElem?_eq_getElem hj1,ej1],by rw [List.getElem?_eq_getElem hj2,ej2],⟨_,SqL.of L1⟩,?_⟩
 rw [show (if d1.off - d2.near > 0 then d1.off - d2.near else 0)=Bv d1 d2 from rfl]
 refine Vh.enum (xs:=m1.map V.int) (fun i σ H'=>(∃ a b,σ=[some (V.ref c),some (V.str d1.name),some (V.str d2.name),some (V.ref p1),some (V.ref p2),some (V.int (Bv d1 d2)),a,b])∧Kb H H'∧(NoT H→NoT H')∧Sl (Bv d1 d2) m1 m2=((m1.zip m2).zipIdx.drop i).find? fun e=>decide (e.1.2=0) && decide (e.1.1 ≤ Bv d1 d2)) ?_ ?_ ?_ ?_
 ·exact ⟨⟨_,_,rfl⟩,Kb.refl _,id,rfl⟩
 ·rintro i σ H' hi ⟨_,sm,_,_⟩
  exact SqL.of (sm _ _ L1)
 ·rintro i v σ H0 p3 hv ⟨⟨a1,a2,rfl⟩,sm,nt,hf⟩ hp3
  obtain ⟨x1,hx1,rfl⟩:=Mb hv
  obtain ⟨hi,ex1⟩:=List.getElem?_eq_some_iff.mp hx1
  have hi2:i < m2.length:=by omega
  have hx2:m2[i]? = some m2[i]:=List.getElem?_eq_getElem hi2
  rw [List.drop_eq_getElem_cons (by simp;omega),List.find?_cons] at hf
  simp only [List.getElem_zipIdx,List.getElem_zip,Nat.zero_add,ex1] at hf
  have s1:Kb H0 (upd H0 p3 (.tup [.int i,.int x1])):=jb hp3
  refine Bj ?_
  have nt1:NoT H→NoT (upd H0 p3 (.tup [.int i,.int x1])):=fun n=>(nt n).upd
  generalize upd H0 p3 (.tup [.int i,.int x1])=H' at s1 nt1 ⊢
  have smH:Kb H H':=sm.trans s1
  (walk_at "RD")
  refine Bc (decide (m2[i]=0) && decide (x1 ≤ Bv d1 d2)) (fun Q hQ=>?_) (fun c1=>?_) (fun c1=>?_)
  ·(walk_at "RD")
   refine ⟨_,SqL.of (smH _ _ L2),_,Jb (by rw [List.getElem?_map,hx2];rfl),rfl,?_⟩
   by_cases c0:m2[i]=0
   ·rw [decide_eq_true c0,Bool.true_and] at hQ
    rw [if_pos (by rw [c0];exact decide_eq_true rfl)]
    exact hQ
   ·rw [decide_eq_false c0,Bool.false_and] at hQ
    rw [if_neg (by rw [decide_eq_true_eq];exact fun e=>c0 (V.int.inj e))]
    exact hQ
  ·rw [c1] at hf
   have hf:Sl (Bv d1 d2) m1 m2=some ((x1,m2[i]),i):=hf
   rw [hf] at q
   (walk_at "RD")
   refine ⟨by decide,fun a ha=>⟨a,d1.name,d2.name,i,rfl,(hD _ h1).1,(hD _ h2).1,KB (by omega),cb,fun d hd hne=>?_⟩⟩
   have hd0:H' d=none:=by rw [lb hne] at hd;exact hd
   refine ⟨rfl,t.qd,some d,by rw [lb (Ne.symm hne),cb],T.Jp,q d _ (fun b u e=>?_) (fun n=>((((nt1 n).upd).upd).upd).upd) (by rw [lb hne,cb])⟩
   have e':=smH _ _ e
   rw [lb (qb e' ha),lb (qb e' hd0),lb (qb e' ha),lb (qb e' ha)]
   exact e'
  ·rw [c1] at hf
   exact ⟨⟨_,_,rfl⟩,smH,nt1,hf⟩
 ·rintro σ H' ⟨_,sm,nt,hf⟩
  rw [List.drop_of_length_le (by simp;omega)] at hf
  have hf:Sl (Bv d1 d2) m1 m2=none:=hf
  rw [hf] at q
  exact q _ sm nt
theorem wA (T:Txt w K mg t):Fb P w K mg base (CX1 P w) 5 t.yf t.Af ["crossing","size","spans"] (Nv t):=by
 have G_since_marked:Fb P w K mg base CX0 4 t.zf t.Hf ["marks"] Xx:=(sF T).mono (by decide)
 have G_free_marks:Fb P w K mg base CX0 4 t.Vf t.Wf ["size","spans","name"] ZI:=(ZL T).mono (by decide)
 have G_Crossing_names:Fb P w K mg base CX0 4 t.yc t.Vc ["self"] (Jl t):=(Io T).mono (by decide)
 have G_meet:Fb P w K mg base CX0 4 t.xy t.jy ["crossing","one","other"] (uD t):=(uI T).mono (by decide)
 have GX_refuse_clash_of:Fb P w K mg base (CX1 P w) 4 t.ve t.ye ["crossing","one","other","since_one","since_other"] (lH t):=WK T
 refine T.Fh.okX re (fun vs H Q E h=>?_) (fun cdv A outer s H vs Q E hr h=>?_)
 ·obtain ⟨c,n,ds,z,p,sp,rfl,_⟩:=h;rfl
 obtain ⟨c,n,ds,z,p,sp,rfl,C,hn,hD,hz,L,hs,nt0,q⟩:=h
 have hu:=Eu hr
 refine ⟨_,(db (Ab (i:=3) re.nd rfl (Or.inl rfl) Zl)
   (db (Vd (Ie ⟨rfl,rfl⟩) rfl (Ec (se (pv 0) T.Gb T.zd G_Crossing_names hr T.Ad .nil Cb)) (wb (i:=4) re.nd rfl (Or.inl rfl)) (gb (Dn hu (pv 3) (pv 4) (xb G_since_marked hr rfl T.mr T.Lh.kp T.jr .nil Cb (bb (xb G_free_marks hr rfl T.Tn T.lh.kp T.Gn .nil Cb (bb (pv 1) (bb (pv 2) (bb (pv 4) fb)))) fb)) rfl)))
   (gb (Vd (Ie ⟨rfl,rfl⟩) rfl (Ec (se (pv 0) T.Gb T.zd G_Crossing_names hr T.Ad .nil Cb)) (wb (i:=5) re.nd rfl (Or.inl rfl)) (gb (Vd (Ie ⟨rfl,rfl⟩) rfl (Ec (se (pv 0) T.Gb T.zd G_Crossing_names hr T.Ad .nil Cb)) (wb (i:=6) re.nd rfl (Or.inl rfl)) (gb (Ae (PW.pt (Wx (Yb xw (pv 5) (pv 6) (dc _)) (Yt (Ck (xb G_meet hr rfl T.mM T.YB.kp T.RL .nil Cb (bb (pv 0) (bb (pv 5) (bb (pv 6) fb)))))))) (gb (Ac (xb GX_refuse_clash_of hr rfl T.bn T.mf.kp T.Xm .nil Qm (bb (pv 0) (bb (pv 5) (bb (pv 6) (bb (Dm hu (pv 3) (pv 5) (fun _ _=>rfl)) (bb (Dm hu (pv 3) (pv 6) (fun _ _=>rfl)) fb)))))))) Zb)))))))),?_⟩
 (walk_at "RD")
 intro pd hpd
 obtain ⟨⟨hnd,hdl⟩,dx,wl,nd,e1,_,_⟩:=id C
 have s0:Kb H (upd H pd (.dK [])):=jb hpd
 refine ⟨_,_,s0 _ _ e1,Vv _ _ _ (by decide +kernel),c,n,ds,rfl,C.same s0,fun pn hpn=>⟨pn,rfl,⟨_,SqL.of cb⟩,?_⟩⟩
 have hpp:pn ≠ pd:=fun e=>by subst e;rw [cb] at hpn;cases hpn
 refine Vh.list (xs:=Eb (ds.map (·.name))) (fun i σ H'=>(∃ y,σ=[some (V.ref c),some (V.int z),some (V.ref p),some (V.ref pd),y,none,none])∧Kb H H'∧NoT H'∧H' pn=some (.lst (Eb (ds.map (·.name))))∧NK H' pd ds (fun d=>.lst ((Qi z sp d.name).map V.int)) i) ?_ ?_ ?_ ?_
 ·exact ⟨⟨_,rfl⟩,s0.trans (jb hpn),(nt0.upd).upd,cb,[],rfl,by rw [lb (Ne.symm hpp),cb];simp [nkv],fun i r d h=>by simp at h⟩
 ·rintro i σ H' hi ⟨_,_,_,h,_⟩
  exact SqL.of h
 ·rintro i v σ H' hv ⟨⟨y,rfl⟩,sm,nt,hpn',rs,hrl,hpd',hrs⟩
  obtain ⟨x,hx,rfl⟩:=Mb hv
  obtain ⟨d,hd,rfl⟩:=Mb hx
  (walk_at "RD")
  refine ⟨z,p,d.name,sp,rfl,hz,L.same sm,hs,fun r1 H1 s1 n1 hr1 h1=>⟨r1,_,rfl,h1,by rw [xn];exact hz,fun r2 H2 s2 n2 hr2 h2=>?_⟩⟩
  have s12:=s1.trans s2
  have hp2:=s12 _ _ hpd'
  refine ⟨_,ww.k (k:=Sum.inr d.name) hp2 (Nat.lt_of_le_of_lt (show (nkv ds rs).length ≤ 12 by unfold nkv;rw [List.length_map,List.length_zip];omega) (by decide)),?_⟩
  have hdi:ds[rs.length]? = some d:=by rw [hrl];exact hd
  rw [qw hnd hdi]
  have hne:∀ {b:Addr} {ys:List V},H2 b=some (.lst ys)→b ≠ pd:=fun e=>Me e hp2 (by intro z;cases z)
  refine ⟨⟨_,rfl⟩,fun b u e=>?_,(n2 (n1 nt)).upd,?_,rs ++ [r2],by rw [List.length_append,hrl];rfl,cb,fun j r e hj he=>?_⟩
  ·rw [lb (qb e hpd)];exact s12 _ _ (sm _ _ e)
  ·rw [lb hpp];exact s12 _ _ hpn'
  ·rcases Te hj with ⟨_,z2⟩ | ⟨z1,rfl⟩
   ·have:=s12 _ _ (hrs j r e z2 he)
    rw [lb (hne this)];exact this
   ·rw [z1] at he
    rw [hdi] at he
    cases he
    rw [lb (hne h2)];exact h2
 rintro σ H1 ⟨⟨y,rfl⟩,sm1,nt1,hpn1,N1⟩
 have hsl:(Eb (ds.map (·.name))).length=ds.length:=by unfold Eb;simp
 rw [hsl] at N1
 obtain ⟨rs,hrl,hpd1,hrs⟩:=N1
 have C1:=C.same sm1
 (walk_at "RD")
 refine ⟨_,_,sm1 _ _ e1,Vv _ _ _ (by decide +kernel),c,n,ds,rfl,C1,fun p2 hp2=>⟨p2,rfl,⟨_,SqL.of cb⟩,?_⟩⟩
 refine Vh.list (xs:=Eb (ds.map (·.name))) (fun i σ H'=>(∃ y u v,σ=[some (V.ref c),some (V.int z),some (V.ref p),some (V.ref pd),y,u,v])∧Kb H1 H'∧NoT H'∧H' p2=some (.lst (Eb (ds.map (·.name))))∧Ak n z sp ds=(ds.drop i).findSome? fun d1=>Qr n z sp d1 ds) ?_ ?_ ?_ ?_
 ·exact ⟨⟨_,_,_,rfl⟩,jb hp2,nt1.upd,cb,rfl⟩
 ·rintro i σ H' hi ⟨_,_,_,h,_⟩
  exact SqL.of h
 ·rintro i v σ H2 hv ⟨⟨y,u,v',rfl⟩,sm2,nt2,hpn2,hA⟩
  obtain ⟨x,hx,rfl⟩:=Mb hv
  obtain ⟨d1,hd1,rfl⟩:=Mb hx
  obtain ⟨hi,hxi⟩:=List.getElem?_eq_some_iff.mp hd1
  rw [List.drop_eq_getElem_cons hi,hxi,List.findSome?_cons] at hA
  have C2:=C1.same sm2
  (walk_at "RD")
  refine ⟨_,_,sm2 _ _ (sm1 _ _ e1),Vv _ _ _ (by decide +kernel),c,n,ds,rfl,C2,fun p3 hp3=>⟨p3,rfl,⟨_,SqL.of cb⟩,?_⟩⟩
  refine Vh.list (xs:=Eb (ds.map (·.name))) (fun j σ H'=>(∃ y v,σ=[some (V.ref c),some (V.int z),some (V.ref p),some (V.ref pd),y,some (V.str d1.name),v])∧Kb H2 H'∧NoT H'∧H' p3=some (.lst (Eb (ds.map (·.name))))∧Qr n z sp d1 ds=(ds.drop j).findSome? fun d2=>(Vn n z sp d1 d2).map fun i=>(d1,d2,i)) ?_ ?_ ?_ ?_
  ·exact ⟨⟨_,_,rfl⟩,jb hp3,nt2.upd,cb,rfl⟩
  ·rintro i σ H' hi ⟨_,_,_,h,_⟩
   exact SqL.of h
  ·rintro j v σ H3 hv ⟨⟨y,v',rfl⟩,sm3,nt3,hpn3,hB⟩
   obtain ⟨x,hx,rfl⟩:=Mb hv
   obtain ⟨d2,hd2,rfl⟩:=Mb hx
   obtain ⟨hj,hxj⟩:=List.getElem?_eq_some_iff.mp hd2
   rw [List.drop_eq_getElem_cons hj,hxj,List.findSome?_cons] at hB
   have C3:=C2.same sm3
   have sm13:=sm2.trans sm3
   (walk_at "RD")
   refine Bc (decide (d1.name ≠ d2.name) && mt n d1 d2) (fun Q hQ=>?_) (fun c1=>?_) (fun c1=>?_)
   ·(walk_at "RD")
    by_cases c0:d1.name=d2.name
    ·rw [decide_eq_false (fun z=>z c0),Bool.false_and] at hQ
     rw [if_neg (by simp [c0])]
     exact hQ
    ·rw [decide_eq_true c0,Bool.true_and] at hQ
     rw [if_pos (by simp [c0])]
     exact ⟨c,n,ds,i,j,d1,d2,rfl,C3,hn,hd1,hd2,nt3,_,rfl,hQ⟩
   ·rw [Bool.and_eq_true] at c1
    have c2:Vn n z sp d1 d2=(Sl (Bv d1 d2) (Qi z sp d1.name) (Qi z sp d2.name)).map (·.2):=by
     unfold Vn;rw [if_pos ⟨of_decide_eq_true c1.1,c1.2⟩]
    rw [c2] at hB
    have hr1:rs[i]? = some rs[i]:=List.getElem?_eq_getElem (by omega)
    have hr2:rs[j]? = some rs[j]:=List.getElem?_eq_getElem (by omega)
    have g1:nk H3 pd (.str d1.name) (some (.ref rs[i])):=by rw [← gw hnd hd1 hr1];exact nk.k (k:=Sum.inr d1.name) (sm13 _ _ hpd1)
    have g2:nk H3 pd (.str d2.name) (some (.ref rs[j])):=by rw [← gw hnd hd2 hr2];exact nk.k (k:=Sum.inr d2.name) (sm13 _ _ hpd1)
    (walk_at "RD")
    refine ⟨_,g1,_,g2,c,n,ds,d1,d2,_,_,_,_,rfl,C3,hD,List.mem_of_getElem? hd1,List.mem_of_getElem? hd2,sm13 _ _ (hrs i _ _ hr1 hd1),sm13 _ _ (hrs j _ _ hr2 hd2),by rw [Uj,Uj],by rw [Uj];exact hz.2,?_⟩
    cases hc:Sl (Bv d1 d2) (Qi z sp d1.name) (Qi z sp d2.name) with
    | none=>
     rw [hc] at hB
     exact fun H4 s4 n4=>⟨(by first | exact ⟨_,_,rfl⟩ | exact ⟨_,rfl⟩ | simp),sm3.trans s4,n4 nt3,s4 _ _ hpn3,hB⟩
    | some e=>
     rw [hc] at hB
     have hB:Qr n z sp d1 ds=some (d1,d2,e.2):=hB
     rw [hB] at hA
     have hA:Ak n z sp ds=some (d1,d2,e.2):=hA
     rw [hA] at q
     exact q.step (sm1.trans sm13) fun _=>nt3
   ·have c2:Vn n z sp d1 d2=none:=by
     unfold Vn
     rw [if_neg]
     rintro ⟨z1,z2⟩
     rw [decide_eq_true z1,z2] at c1
     cases c1
    rw [c2] at hB
    exact ⟨⟨_,_,rfl⟩,sm3,nt3,hpn3,hB⟩
  ·rintro σ H' ⟨⟨y,v',rfl⟩,sm3,nt3,_,hB⟩
   rw [hsl,List.drop_of_length_le (Nat.le_refl _)] at hB
   have hB:Qr n z sp d1 ds=none:=hB
   rw [hB] at hA
   exact ⟨⟨_,_,_,rfl⟩,sm2.trans sm3,nt3,sm3 _ _ hpn2,hA⟩
 ·rintro σ H' ⟨_,sm,nt,_,hA⟩
  rw [hsl,List.drop_of_length_le (Nat.le_refl _)] at hA
  have hA:Ak n z sp ds=none:=hA
  rw [hA] at q
  exact q _ (sm1.trans sm) nt
end
end My
namespace My
open PySem L2
noncomputable abbrev vA:List Str:=[Str.ofString "crossing",Str.ofString "size",Str.ofString "spans",Str.ofString "lamps",Str.ofString "untils"]
noncomputable def plF (c:Addr) (z:Int) (p lm un:Addr):List (Str × V):=[(Str.ofString "crossing",.ref c),(Str.ofString "size",.int z),(Str.ofString "spans",.ref p),(Str.ofString "lamps",.ref lm),(Str.ofString "untils",.ref un)]
theorem Ro (c:Addr) (z:Int) (p lm un:Addr):(plF c z p lm un).map (·.1)=vA:=rfl
noncomputable def Vt (z:Nat) (sp:List SD) (d:WD):List Str:=si z (nc d).toNat (ae d).toNat (ofN d.name sp)
noncomputable def mH (z:Nat) (sp:List SD) (x:Str):List Int:=zm (fmF z (ofN x sp))
structure yj (t:Adr) (H:Hp) (a c:Addr) (n:Int) (ds:List WD) (z:Nat) (sp:List SD):Prop where
 at_:∃ dx p lm un,H a=some (.ins t.ke dx (plF c z p lm un))∧Yc t H c n ds∧LO H p (List.map sdO sp)∧NK H lm ds (fun d=>.lst (Eb (Vt z sp d))) ds.length∧NK H un ds (fun d=>.lst ((mH z sp d.name).map V.int)) ds.length
noncomputable def tG (t:Adr):Sp:=fun vs H Q _=>∃ (a dx c:Addr) (n:Int) (ds:List WD) (z:Nat) (p:Addr) (sp:List SD),vs=[.ref a,.ref c,.int z,.ref p]∧H a=some (.ins t.ke dx [])∧Yc t H c n ds∧DOk ds∧(0 < z∧z ≤ 1000)∧LO H p (List.map sdO sp)∧uK z sp∧NoT H ∧
 ∀ H',jd a H H'→NoT H'→yj t H' a c n ds z sp→Q .non H'
noncomputable def FN (t:Adr) (c:Addr) (n:Int) (ds:List WD) (z:Nat) (sp:List SD) (H:Hp) (Q:VK) (E:XK):Prop:=
 (Xi ds sp=none→Ij ds z sp=none→Ak n z sp ds=none→∀ a H',Kb H H'→NoT H'→yj t H' a c n ds z sp→Q (.ref a) H') ∧
 (∀ x,Xi ds sp=some x→RD t.Ud [(Str.ofString "way",.str x)] H E) ∧
 (∀ e,Xi ds sp=none→Ij ds z sp=some e→RD t.Kd [(Str.ofString "way",.str e.1.name),(Str.ofString "at",.int e.1.b)] H E) ∧
 (∀ e,Xi ds sp=none→Ij ds z sp=none→Ak n z sp ds=some e→RD t.qd [(Str.ofString "way",.str e.1.name),(Str.ofString "other",.str e.2.1.name),(Str.ofString "at",.int e.2.2)] H E)
noncomputable def BE (t:Adr):Sp:=fun vs H Q E=>∃ (c:Addr) (n:Int) (ds:List WD) (z:Nat) (p:Addr) (sp:List SD),vs=[.ref c,.int z,.ref p]∧Yc t H c n ds∧0 < n∧DOk ds∧(0 < z∧z ≤ 1000)∧LO H p (List.map sdO sp)∧uK z sp∧(∀ s ∈ sp,∃ d,wOf ds s.name=some d)∧NoT H ∧
 FN t c n ds z sp H Q E
section
variable {w:World} {K:PySem.W.Frag} {mg:Str→Option Value} {t:Adr} {H:Hp} {a c dx p lm un:Addr} {z:Int}
theorem Bx (T:Txt w K mg t) (e:H a=some (.ins t.ke dx (plF c z p lm un))):Wi K H a (Str.ofString "lamps") (.ref lm):=⟨_,dx,_,e,T.Ei,T.am,Zd vA 3 (Ro ..) (by decide +kernel) rfl⟩
theorem WC (T:Txt w K mg t) (e:H a=some (.ins t.ke dx (plF c z p lm un))):Wi K H a (Str.ofString "untils") (.ref un):=⟨_,dx,_,e,T.Ei,T.Ik,Zd vA 4 (Ro ..) (by decide +kernel) rfl⟩
end
theorem EB {H:Hp} {a b C C' dx dx':Addr} {fs:List (Str × V)} (ha:H a=some (.ins C dx [])) (hb:H b=some (.ins C' dx' fs)) (hf:fs ≠ []):b ≠ a:=fun z=>by
 subst z
 rw [hb] at ha
 have e:=Option.some.inj ha
 injection e with _ _ e3
 exact hf e3
theorem Yc.sameX {t:Adr} {H H':Hp} {a c C dx:Addr} {n:Int} {ds:List WD} (h:Yc t H c n ds) (s:jd a H H') (ha:H a=some (.ins C dx [])):Yc t H' c n ds:=by
 obtain ⟨h0,dx',wl,nd,e1,⟨as,w1,w2,al⟩,e3⟩:=h
 refine ⟨h0,dx',wl,nd,s _ _ (EB ha e1 (by unfold cF;simp)) e1,⟨as,s _ _ (Me w1 ha (by intro z;cases z)) w1,w2,fun i b d hb hd=>?_⟩,s _ _ (Me e3 ha (by intro z;cases z)) e3⟩
 obtain ⟨k,dxb,eb⟩:=al i b d hb hd
 exact ⟨k,dxb,s _ _ (EB ha eb (by unfold so;simp)) eb⟩
theorem LO.sameX {H H':Hp} {a p C dx:Addr} {sp:List SD} (h:LO H p (List.map sdO sp)) (s:jd a H H') (ha:H a=some (.ins C dx [])):LO H' p (List.map sdO sp):=by
 obtain ⟨qs,l1,l2⟩:=h
 refine ⟨qs,s _ _ (Me l1 ha (by intro z;cases z)) l1,l2.1,fun i q o hq ho=>?_⟩
 have e:=l2.2 i q o hq ho
 refine s _ _ (Me e ha ?_) e
 obtain ⟨d,_,rfl⟩:=Mb ho
 intro z;cases z
section
variable {P:Program} {w:World} {K:PySem.W.Frag} {mg:Str→Option Value} {base:Heap} {t:Adr}
theorem YK (T:Txt w K mg t):Fb P w K mg base CX0 4 t.Eg t.Ai ["self","crossing","size","spans"] (tG t):=by
 have G_lamp:Fb P w K mg base CX0 3 t.By t.Yx ["way","size","spans"] (ZC t):=(GH T).mono (by decide)
 have G_until_marked:Fb P w K mg base CX0 3 t.Be t.Ce ["marks"] Jt:=(Ux T).mono (by decide)
 have G_free_marks:Fb P w K mg base CX0 3 t.Vf t.Wf ["size","spans","name"] ZI:=(ZL T).mono (by decide)
 have G_Crossing_names:Fb P w K mg base CX0 3 t.yc t.Vc ["self"] (Jl t):=(Io T).mono (by decide)
 have G_Crossing_called:Fb P w K mg base CX0 3 t.Ob t.Ub ["self","name"] (Nh t):=(Hj T).mono (by decide)
 refine T.Ep.ok Mi (fun vs H Q E h=>?_) (fun cdv A outer s H vs Q E hr h=>?_)
 ·obtain ⟨a,dx,c,n,ds,z,p,sp,rfl,_⟩:=h;rfl
 obtain ⟨a,dx,c,n,ds,z,p,sp,rfl,ha,C,hD,hz,L,hs,nt0,q⟩:=h
 have hu:=Eu hr
 refine ⟨_,(db (df (pv 0) (pv 1) rfl)
   (db (df (pv 0) (pv 2) rfl)
   (db (df (pv 0) (pv 3) rfl)
   (db (df (pv 0) Zl rfl)
   (db (df (pv 0) Zl rfl)
   (gb (Vd PassesOwn.never rfl (Ec (se (pv 1) T.Gb T.zd G_Crossing_names hr T.Ad .nil Cb)) (wb (i:=4) Mi.nd rfl (Or.inl rfl)) (db (Dn hu (bc (pv 0) rfl) (pv 4) (xb G_lamp hr rfl T.SK T.JB.kp T.pM .nil Cb (bb (Ld (pv 1) T.Gb T.jc G_Crossing_called hr T.lc .nil Cb (bb (pv 4) fb)) (bb (pv 2) (bb (pv 3) fb)))) rfl)
   (gb (Dn hu (bc (pv 0) rfl) (pv 4) (xb G_until_marked hr rfl T.yk T.Lf.kp T.Fk .nil Cb (bb (xb G_free_marks hr rfl T.Tn T.lh.kp T.Gn .nil Cb (bb (pv 2) (bb (pv 3) (bb (pv 4) fb)))) fb)) rfl)))))))))),?_⟩
 (walk_at "RD")
 refine ⟨_,_,_,ha,T.Ei,T.Ti,by decide,?_⟩
 refine ⟨_,_,_,cb,T.Ei,T.Jn,Bm (n:=999) (by decide),?_⟩
 refine ⟨_,_,_,cb,T.Ei,T.Ot,Bm (n:=999) (Bm (n:=998) (by decide)),fun lm hlm=>?_⟩
 simp only [Cj] at hlm ⊢
 rw [show Ag (Str.ofString "crossing") (V.ref c) ([]:List (Str × V))=[(Str.ofString "crossing",V.ref c)] from rfl,show Ag (Str.ofString "size") (V.int z) [(Str.ofString "crossing",V.ref c)]=[(Str.ofString "crossing",V.ref c),(Str.ofString "size",V.int z)] from Tc [Str.ofString "crossing"] rfl (by decide +kernel),show Ag (Str.ofString "spans") (V.ref p) [(Str.ofString "crossing",V.ref c),(Str.ofString "size",V.int z)]=[(Str.ofString "crossing",V.ref c),(Str.ofString "size",V.int z),(Str.ofString "spans",V.ref p)] from Tc [Str.ofString "crossing",Str.ofString "size"] rfl (by decide +kernel)] at hlm ⊢
 have hla:a ≠ lm:=fun z=>by subst z;rw [cb] at hlm;cases hlm
 have hHl:H lm=none:=by rw [lb (Ne.symm hla)] at hlm;exact hlm
 refine ⟨t.ke,dx,[(Str.ofString "crossing",V.ref c),(Str.ofString "size",V.int z),(Str.ofString "spans",V.ref p)],by rw [lb hla];exact cb,T.Ei,T.am,show (3:Nat) < 1000 by decide,fun un hun=>?_⟩
 rw [show Ag (Str.ofString "lamps") (V.ref lm) [(Str.ofString "crossing",V.ref c),(Str.ofString "size",V.int z),(Str.ofString "spans",V.ref p)]=[(Str.ofString "crossing",V.ref c),(Str.ofString "size",V.int z),(Str.ofString "spans",V.ref p),(Str.ofString "lamps",V.ref lm)] from Tc [Str.ofString "crossing",Str.ofString "size",Str.ofString "spans"] rfl (by decide +kernel)] at hun ⊢
 have hua:a ≠ un:=fun z=>by subst z;rw [cb] at hun;cases hun
 have hul:un ≠ lm:=fun z=>by subst z;rw [lb (Ne.symm hua),cb] at hun;cases hun
 have hHu:H un=none:=by rw [lb (Ne.symm hua),lb hul,lb (Ne.symm hua)] at hun;exact hun
 refine ⟨t.ke,dx,[(Str.ofString "crossing",V.ref c),(Str.ofString "size",V.int z),(Str.ofString "spans",V.ref p),(Str.ofString "lamps",V.ref lm)],by rw [lb hua];exact cb,T.Ei,T.Ik,show (4:Nat) < 1000 by decide,?_⟩
 rw [show Ag (Str.ofString "untils") (V.ref un) [(Str.ofString "crossing",V.ref c),(Str.ofString "size",V.int z),(Str.ofString "spans",V.ref p),(Str.ofString "lamps",V.ref lm)]=plF c z p lm un from Tc [Str.ofString "crossing",Str.ofString "size",Str.ofString "spans",Str.ofString "lamps"] rfl (by decide +kernel)]
 have hf:∃ H5:Hp,H5=upd (upd (upd (upd (upd H a (.ins t.ke dx [(Str.ofString "crossing",V.ref c),(Str.ofString "size",V.int z),(Str.ofString "spans",V.ref p)])) lm (.dK [])) a (.ins t.ke dx [(Str.ofString "crossing",V.ref c),(Str.ofString "size",V.int z),(Str.ofString "spans",V.ref p),(Str.ofString "lamps",V.ref lm)])) un (.dK [])) a (.ins t.ke dx (plF c z p lm un)):=⟨_,rfl⟩
 obtain ⟨H5,h5⟩:=hf
 rw [← h5]
 have g1:H5 a=some (.ins t.ke dx (plF c z p lm un)):=by rw [h5,cb]
 have g2:H5 lm=some (.dK []):=by rw [h5,lb (Ne.symm hla),lb (Ne.symm hul),lb (Ne.symm hla),cb]
 have g3:H5 un=some (.dK []):=by rw [h5,lb (Ne.symm hua),cb]
 have g4:jd a H H5:=fun b u hb e=>by rw [h5,lb hb,lb (qb e hHu),lb hb,lb (qb e hHl),lb hb];exact e
 have g5:NoT H5:=by rw [h5];exact ((((nt0.upd).upd).upd).upd).upd
 clear h5
 have C5:=C.sameX g4 ha
 obtain ⟨⟨hnd,hdl⟩,dxc,wl,nd,e1,_,_⟩:=id C5
 refine ⟨_,_,e1,Vv _ _ _ (by decide +kernel),c,n,ds,rfl,C5,fun pn hpn=>⟨pn,rfl,⟨_,SqL.of cb⟩,?_⟩⟩
 refine Vh.list (xs:=Eb (ds.map (·.name))) (fun i σ H'=>(∃ y,σ=[some (V.ref a),some (V.ref c),some (V.int z),some (V.ref p),y])∧jd a H H'∧NoT H'∧H' a=some (.ins t.ke dx (plF c z p lm un))∧H' pn=some (.lst (Eb (ds.map (·.name))))∧NK H' lm ds (fun d=>.lst (Eb (Vt z sp d))) i∧NK H' un ds (fun d=>.lst ((mH z sp d.name).map V.int)) i) ?_ ?_ ?_ ?_
 ·have sn:=jb (o:=.lst (Eb (ds.map (·.name)))) hpn
  exact ⟨⟨_,rfl⟩,g4.trans (jd.of sn),g5.upd,sn _ _ g1,cb,⟨[],rfl,by rw [sn _ _ g2];simp [nkv],fun i r d h=>by simp at h⟩,⟨[],rfl,by rw [sn _ _ g3];simp [nkv],fun i r d h=>by simp at h⟩⟩
 ·rintro i σ H' hi ⟨_,_,_,_,h,_⟩
  exact SqL.of h
 ·rintro i v σ H' hv ⟨⟨y,rfl⟩,sx,nt,ha',hpn',⟨rl,hrl,hlm',hrs⟩,⟨ru,hru,hun',hus⟩⟩
  obtain ⟨x,hx,rfl⟩:=Mb hv
  obtain ⟨d,hd,rfl⟩:=Mb hx
  have C':=C.sameX sx ha
  have L':=L.sameX sx ha
  obtain ⟨_,dxc',wl',nd',e1',_,_⟩:=id C'
  (walk_at "RD")
  refine ⟨_,_,e1',Vv _ _ _ (by decide +kernel),c,n,ds,i,d,rfl,C',hd,fun wa W=>?_⟩
  have hdi:ds[rl.length]? = some d:=by rw [hrl];exact hd
  have hdj:ds[ru.length]? = some d:=by rw [hru];exact hd
  refine ⟨wa,d,z,p,sp,rfl,hz,W,L',hs,(hD d (List.mem_of_getElem? hd)).2,fun r1 H1 s1 n1 hr1 h1=>⟨_,Bx T (s1 _ _ ha'),lm,rfl,_,ww.k (k:=Sum.inr d.name) (s1 _ _ hlm') (Nat.lt_of_le_of_lt (show (nkv ds rl).length ≤ 12 by unfold nkv;rw [List.length_map,List.length_zip];omega) (by decide)),?_⟩⟩
  rw [qw hnd hdi]
  have kl:∀ {b:Addr} {u:HO},H' b=some u→b ≠ lm→upd H1 lm (.dK (nkv ds (rl ++ [r1]))) b=some u:=fun e h=>by rw [lb h];exact s1 _ _ e
  have k1:jd a H (upd H1 lm (.dK (nkv ds (rl ++ [r1])))):=fun b u hb e=>kl (sx b u hb e) (qb e hHl)
  refine ⟨z,p,d.name,sp,rfl,hz,L.sameX k1 ha,hs,fun r3 H3 s3 n3 hr3 h3=>⟨r3,_,rfl,h3,by rw [xn];exact hz,fun r4 H4 s4 n4 hr4 h4=>?_⟩⟩
  have s34:=s3.trans s4
  have un2:H4 un=some (.dK (nkv ds ru)):=s34 _ _ (kl hun' hul)
  have a2:H4 a=some (.ins t.ke dx (plF c z p lm un)):=s34 _ _ (kl ha' hla)
  refine ⟨_,WC T a2,un,rfl,_,ww.k (k:=Sum.inr d.name) un2 (Nat.lt_of_le_of_lt (show (nkv ds ru).length ≤ 12 by unfold nkv;rw [List.length_map,List.length_zip];omega) (by decide)),?_⟩
  rw [qw hnd hdj]
  have ku:∀ {b:Addr} {u:HO},upd H1 lm (.dK (nkv ds (rl ++ [r1]))) b=some u→b ≠ un→upd H4 un (.dK (nkv ds (ru ++ [r4]))) b=some u:=fun e h=>by rw [lb h];exact s34 _ _ e
  have nel:∀ {b:Addr} {ys:List V},H' b=some (.lst ys)→b ≠ lm:=fun e=>Me e hlm' (by intro z;cases z)
  have neu:∀ {b:Addr} {ys:List V},H' b=some (.lst ys)→b ≠ un:=fun e=>Me e hun' (by intro z;cases z)
  have r1l:r1 ≠ lm:=Me h1 (s1 _ _ hlm') (by intro z;cases z)
  have r1u:r1 ≠ un:=Me h1 (s1 _ _ hun') (by intro z;cases z)
  have r4u:r4 ≠ un:=Me h4 un2 (by intro z;cases z)
  refine ⟨⟨_,rfl⟩,fun b u hb e=>ku (k1 b u hb e) (qb e hHu),(n4 (n3 (n1 nt).upd)).upd,ku (kl ha' hla) hua,ku (kl hpn' (nel hpn')) (neu hpn'),⟨rl ++ [r1],by rw [List.length_append,hrl];rfl,ku cb (Ne.symm hul),fun j r e hj he=>?_⟩,⟨ru ++ [r4],by rw [List.length_append,hru];rfl,cb,fun j r e hj he=>?_⟩⟩
  ·rcases Te hj with ⟨_,z2⟩ | ⟨z1,rfl⟩
   ·have:=hrs j r e z2 he
    exact ku (kl this (nel this)) (neu this)
   ·rw [z1,hdi] at he
    cases he
    exact ku (by rw [lb r1l];exact h1) r1u
  ·rcases Te hj with ⟨_,z2⟩ | ⟨z1,rfl⟩
   ·have:=hus j r e z2 he
    exact ku (kl this (nel this)) (neu this)
   ·rw [z1,hdj] at he
    cases he
    rw [lb r4u];exact h4
 ·rintro σ H' ⟨_,sx,nt,ha',_,N1,N2⟩
  have hsl:(Eb (ds.map (·.name))).length=ds.length:=by unfold Eb;simp
  rw [hsl] at N1 N2
  exact q _ sx nt ⟨dx,p,lm,un,ha',C.sameX sx ha,L.sameX sx ha,N1,N2⟩
theorem iF (T:Txt w K mg t):Fb P w K mg base (CX1 P w) 6 t.Sg t.Lg ["crossing","size","rows"] (BE t):=by
 have G_Crossing_called:Fb P w K mg base CX0 5 t.Ob t.Ub ["self","name"] (Nh t):=(Hj T).mono (by decide)
 have G_Plan_init:Fb P w K mg base CX0 4 t.Eg t.Ai ["self","crossing","size","spans"] (tG t):=YK T
 have GX_refuse_never:Fb P w K mg base (CX1 P w) 5 t.Df t.Kf ["crossing","spans"] (Pu t):=(eB T).mono (by decide)
 have GX_refuse_short:Fb P w K mg base (CX1 P w) 5 t.xf t.Jf ["crossing","size","spans"] (Hu t):=(zB T).mono (by decide)
 have GX_refuse_clash:Fb P w K mg base (CX1 P w) 5 t.yf t.Af ["crossing","size","spans"] (Nv t):=wA T
 refine T.yl.okX Of (fun vs H Q E h=>?_) (fun cdv A outer s H vs Q E hr h=>?_)
 ·obtain ⟨c,n,ds,z,p,sp,rfl,_⟩:=h;rfl
 obtain ⟨c,n,ds,z,p,sp,rfl,C,hn,hD,hz,L,hs,hw,nt0,q1,q2,q3,q4⟩:=h
 refine ⟨_,(db (Yh (i:=3) Of.nd rfl (Or.inl rfl) rfl (Ec (pv 2)) (Nc (sc:=ib Uk) rfl (by decide +kernel)) (N:=["name","begin","turns"]) (sel:=[none,none,none]) (Jd (M:=["crossing","size","rows","spans","name","begin","turns"]) (by decide +kernel)) (Blk.of (fun _ _ _ _=>(ef (K:=K) (n:=3) rfl rfl (Qb (wb (i:=0) (ug (N:=["name","begin","turns"]) (by decide +kernel) rfl) rfl (Or.inl rfl) (.inr rfl)) (Qb (wb (i:=1) (ug (N:=["name","begin","turns"]) (by decide +kernel) rfl) rfl (Or.inl rfl) (.inr rfl)) (Qb (wb (i:=2) (ug (N:=["name","begin","turns"]) (by decide +kernel) rfl) rfl (Or.inl rfl) (.inr rfl)) vf))))) (fun _ _ _ _=>⟨_,ff,by first | rfl | (dsimp only [Cx.block];done) | (dsimp only [Cx.block];exact rfl)⟩) (fun _ _ _ _=>⟨_,(aj (bb (pv 0) (bb (pv 1) (bb (pv 2) fb)))),by first | rfl | (dsimp only [Cx.block];done) | (dsimp only [Cx.block];exact rfl)⟩)) rfl)
   (db (Vd (Ie ⟨rfl,rfl⟩) rfl (Ec (pv 3)) (ef (K:=K) (n:=3) rfl rfl (Qb (wb (i:=4) Of.nd rfl (Or.inl rfl) (.inl rfl)) (Qb (wb (i:=5) Of.nd rfl (Or.inl rfl) (.inl rfl)) (Qb (wb (i:=6) Of.nd rfl (Or.inl rfl) (.inl rfl)) vf)))) (gb (Ac (Ld (pv 0) T.Gb T.jc G_Crossing_called hr T.lc .nil Cb (bb (pv 4) fb)))))
   (db (Ac (xb GX_refuse_never hr rfl T.Oq T.Dh.kp T.br .nil Qm (bb (pv 0) (bb (pv 3) fb))))
   (db (Ac (xb GX_refuse_short hr rfl T.Tq T.Ah.kp T.Gq .nil Qm (bb (pv 0) (bb (pv 1) (bb (pv 3) fb)))))
   (db (Ac (xb GX_refuse_clash hr rfl T.Kq T.Fh.kp T.Hq .nil Qm (bb (pv 0) (bb (pv 1) (bb (pv 3) fb)))))
   (gb (Db (jn T.cL G_Plan_init hr rfl T.XL T.lw .nil Cb (bb (pv 0) (bb (pv 1) (bb (pv 3) fb))))))))))),?_⟩
 (walk_at "RD")
 obtain ⟨qs,l1,lq⟩:=L
 have hql:qs.length=sp.length:=by rw [lq.1,List.length_map]
 have hs1:=hs.1
 refine ⟨⟨_,SqL.of l1⟩,?_⟩
 refine Dd.list (xs:=qs.map V.ref) (fun i ys H'=>∃ os:List Addr,ys=os.map V.ref∧LQ H' os ((sp.take i).map sdO)∧Kb H H'∧NoT H') (Nat.le_trans (show (qs.map V.ref).length ≤ 100 by rw [List.length_map];omega) (by decide)) ⟨[],rfl,by rw [List.take_zero];exact LQ.nil _,Kb.refl _,nt0⟩ ?_ ?_ ?_
 ·rintro i ys H' hi ⟨os,rfl,r,sm,_⟩
  refine ⟨(SqL.of l1).same sm,?_⟩
  rw [List.length_map,r.1,List.length_map,List.length_take];omega
 ·rintro i v ys H' hv ⟨os,rfl,r,sm,nt⟩ N hN
  obtain ⟨qi,hqi,rfl⟩:=Mb hv
  obtain ⟨o,ho,e⟩:=lq.at hqi
  obtain ⟨d,hd,rfl⟩:=Mb ho
  have e':=sm _ _ e
  dsimp only at hN
  rw [ge hd,List.map_append] at hN
  (walk_at "RD")
  refine ⟨_,SqT.of e',rfl,_,_,rfl,_,_,rfl,_,_,rfl,rfl,Sub.name3,by decide,fun p1 hp1=>?_⟩
  exact hN _ _ ⟨os ++ [p1],by rw [List.map_append];rfl,(r.same (jb hp1)).app (LQ.one cb),sm.trans (jb hp1),nt.upd⟩
 rintro ys H1 ⟨os,rfl,r,sm1,nt1⟩ p1 hp1
 rw [List.take_of_length_le (by rw [List.length_map];omega)] at r
 have s2:Kb H1 (upd H1 p1 (.lst (os.map V.ref))):=jb hp1
 have nt2:NoT (upd H1 p1 (.lst (os.map V.ref))):=nt1.upd
 have L2:LO (upd H1 p1 (.lst (os.map V.ref))) p1 (List.map sdO sp):=⟨os,cb,r.same s2⟩
 have sm2:=sm1.trans s2
 generalize upd H1 p1 (.lst (os.map V.ref))=H2 at s2 nt2 L2 sm2 ⊢
 have C2:=C.same sm2
 obtain ⟨_,dxc,wl,nd,e1,_,_⟩:=id C2
 obtain ⟨qs2,m1,mq⟩:=id L2
 have hql2:qs2.length=sp.length:=by rw [mq.1,List.length_map]
 (walk_at "RD")
 refine ⟨⟨_,SqL.of m1⟩,?_⟩
 refine Vh.list (xs:=qs2.map V.ref) (fun i σ H'=>(∃ x y z',σ=[some (V.ref c),some (V.int z),some (V.ref p),some (V.ref p1),x,y,z'])∧H'=H2) ?_ ?_ ?_ ?_
 ·exact ⟨⟨_,_,_,rfl⟩,rfl⟩
 ·rintro i σ H' hi ⟨_,rfl⟩
  exact SqL.of m1
 ·rintro i v σ H' hv ⟨⟨x,y,z',rfl⟩,rfl⟩
  obtain ⟨qi,hqi,rfl⟩:=Mb hv
  obtain ⟨o,ho,e⟩:=mq.at hqi
  obtain ⟨sd,hsd,rfl⟩:=Mb ho
  obtain ⟨d,hd⟩:=hw sd (List.mem_of_getElem? hsd)
  obtain ⟨hdn,j,hj⟩:=MG hd
  (walk_at "RD")
  exact ⟨_,SqT.of e,rfl,_,_,rfl,_,_,rfl,_,_,rfl,rfl,_,_,e1,Vv _ _ _ (by decide +kernel),c,n,ds,j,d,by rw [hdn],C2,hj,fun a W=>⟨(by first | exact ⟨_,_,_,rfl⟩ | exact ⟨_,_,rfl⟩ | exact ⟨_,rfl⟩ | simp),rfl⟩⟩
 rintro σ H' ⟨⟨x,y,z',rfl⟩,rfl⟩
 (walk_at "RD")
 refine ⟨c,n,ds,p1,sp,rfl,C2,hD,L2,hs1,?_⟩
 cases hN:Xi ds sp with
 | some x=>exact (q2 x hN).step sm2 fun _=>nt2
 | none=>
 intro H3 s3 n3
 have nt3:=n3 nt2
 have C3:=C2.same s3
 have L3:=L2.same s3
 (walk_at "RD")
 refine ⟨c,n,ds,z,p1,sp,rfl,C3,hD,⟨by omega,by omega⟩,L3,hs,hw,?_⟩
 cases hS:Ij ds z sp with
 | some e=>exact (q3 e hN hS).step (sm2.trans s3) fun _=>nt3
 | none=>
 intro H4 s4 n4
 have nt4:=n4 nt3
 have C4:=C3.same s4
 have L4:=L3.same s4
 (walk_at "RD")
 refine ⟨c,n,ds,z,p1,sp,rfl,C4,hn,hD,hz,L4,hs,nt4,?_⟩
 cases hC:Ak n z sp ds with
 | some e=>exact (q4 e hN hS hC).step ((sm2.trans s3).trans s4) fun _=>nt4
 | none=>
 intro H5 s5 nt5
 have C5:=C4.same s5
 have L5:=L4.same s5
 (walk_at "RD")
 intro a dx ha hdx hne
 have sc:Kb H5 (upd (upd H5 dx (.own a)) a (.ins t.ke dx [])):=((Kb.refl H5).updN hdx).updN ha
 refine ⟨a,dx,c,n,ds,z,p1,sp,rfl,cb,C5.same sc,hD,hz,L5.same sc,hs,(nt5.upd).upd,fun H6 s6 nt6 PA=>⟨rfl,?_⟩⟩
 have sm5:=((sm2.trans s3).trans s4).trans s5
 exact q1 hN hS hC a H6 (Je (sm5.trans sc) s6 (sm5.free ha)) nt6 PA
end
end My
namespace My
open PySem L2
theorem No {α:Type} (z:Nat) (v:α) (b:Int) (hz:0 < z) (l:List α) (hl:l.length=z):∀ (k:Nat) (i:Nat),i < z→(cy z v b k l)[i]? = if ∃ j,j < k∧(b + (j:Int)) % (z:Int)=(i:Int) then some v else l[i]?
 | 0,i,hi=>by rw [if_neg (fun ⟨j,hj,_⟩=>by omega)];rfl
 | k + 1,i,hi=>by
  have ih:=No z v b hz l hl k i hi
  have h0:=Int.emod_nonneg (b + (k:Int)) (show (z:Int) ≠ 0 by omega)
  have h1:=Int.emod_lt_of_pos (b + (k:Int)) (show 0 < (z:Int) by omega)
  unfold cy lG
  by_cases c:(b + (k:Int)) % (z:Int)=(i:Int)
  ·rw [show ((b + (k:Int)) % (z:Int)).toNat=i by omega,List.getElem?_set_self (by rw [yg,hl];exact hi),if_pos ⟨k,by omega,c⟩]
  ·rw [List.getElem?_set_ne (by omega),ih]
   by_cases e:∃ j,j < k∧(b + (j:Int)) % (z:Int)=(i:Int)
   ·obtain ⟨j,hj,ej⟩:=e
    rw [if_pos ⟨j,hj,ej⟩,if_pos ⟨j,by omega,ej⟩]
   ·rw [if_neg e,if_neg]
    rintro ⟨j,hj,ej⟩
    by_cases hjk:j=k
    ·subst hjk;exact c ej
    ·exact e ⟨j,by omega,ej⟩
theorem Qs {z b i:Int} {n:Int} (hz:0 < z) (hi:0 ≤ i∧i < z) (hn:0 ≤ n∧n ≤ z):(∃ j:Nat,j < n.toNat∧(b + (j:Int)) % z=i)↔(i - b) % z < n:=by
 have h0:=Int.emod_nonneg (i - b) (show z ≠ 0 by omega)
 have h1:=Int.emod_lt_of_pos (i - b) hz
 constructor
 ·rintro ⟨j,hj,e⟩
  have:(i - b) % z=j:=by
   rw [← e,Int.emod_sub_emod,show b + (j:Int) - b=j by omega]
   exact Int.emod_eq_of_lt (by omega) (by omega)
  omega
 ·intro h
  refine ⟨((i - b) % z).toNat,by omega,?_⟩
  rw [Int.toNat_of_nonneg h0,Int.add_emod_emod,show b + (i - b)=i by omega]
  exact Int.emod_eq_of_lt hi.1 hi.2
theorem oG {z:Nat} (hz:0 < z) {b n:Int} (hn:0 ≤ n∧n ≤ z) {i:Nat} (hi:i < z):(fmF z [(b,n)])[i]? = some (decide (((i:Int) - b) % (z:Int) < n)):=by
 unfold fmF
 rw [List.foldl_cons,List.foldl_nil,No z true b hz _ (List.length_replicate ..) _ _ hi]
 have:=Qs (z:=z) (b:=b) (i:=i) (n:=n) (by omega) ⟨by omega,by omega⟩ hn
 by_cases c:((i:Int) - b) % (z:Int) < n
 ·rw [if_pos (this.mpr c),decide_eq_true c]
 ·rw [if_neg (fun e=>c (this.mp e)),decide_eq_false c,List.getElem?_replicate,if_pos hi]
theorem Fi (m:List Bool):∀ k,0 ≤ Oe m k
 | 0=>by show (0:Int) ≤ 0;decide
 | k + 1=>by
  have:=Fi m k
  unfold Oe
  split <;> omega
theorem zv (m:List Bool) (g:Int) (hg:0 ≤ g):∀ k:Nat,Oe m k ≤ g↔(∃ j:Nat,(j:Int) ≤ g∧j < k∧m[(2 * m.length - 1 - (k - 1 - j)) % m.length]? = some true)∨(k:Int) ≤ g
 | 0=>by
  constructor
  ·intro _;exact .inr (by omega)
  ·intro _;exact hg
 | k + 1=>by
  by_cases c:m[(2 * m.length - 1 - k) % m.length]? = some true
  ·have e:Oe m (k + 1)=0:=by unfold Oe;rw [if_pos c]
   rw [e]
   exact ⟨fun _=>.inl ⟨0,by omega,by omega,by rw [show k + 1 - 1 - 0=k by omega];exact c⟩,fun _=>hg⟩
  ·have e:Oe m (k + 1)=Oe m k + 1:=by
    show (if m[(2 * m.length - 1 - k) % m.length]? = some true then 0 else Oe m k + 1)=_
    rw [if_neg c]
   rw [e]
   by_cases hg1:1 ≤ g
   ·have ih:=zv m (g - 1) (by omega) k
    constructor
    ·intro h
     rcases ih.mp (by omega) with ⟨j,h1,h2,h3⟩ | h
     ·exact .inl ⟨j + 1,by omega,by omega,by rw [show k + 1 - 1 - (j + 1)=k - 1 - j by omega];exact h3⟩
     ·exact .inr (by omega)
    ·rintro (⟨j,h1,h2,h3⟩ | h)
     ·by_cases hj:j=0
      ·subst hj
       rw [show k + 1 - 1 - 0=k by omega] at h3
       exact absurd h3 c
      ·have:=ih.mpr (.inl ⟨j - 1,by omega,by omega,by rw [show k - 1 - (j - 1)=k + 1 - 1 - j by omega];exact h3⟩)
       omega
     ·have:=ih.mpr (.inr (by omega))
      omega
   ·have:=Fi m k
    constructor
    ·intro h;omega
    ·rintro (⟨j,h1,h2,h3⟩ | h)
     ·have hj:j=0:=by omega
      subst hj
      rw [show k + 1 - 1 - 0=k by omega] at h3
      exact absurd h3 c
     ·omega
theorem RE {m:List Bool} {t:Nat} (ht:t < m.length):(zm m)[t]? = some (Oe m (2 * m.length - t)):=by
 unfold zm
 rw [List.getElem?_map,List.getElem?_range ht];rfl
theorem yF {m:List Bool} (hm:∃ i,i < m.length∧m[i]? = some true) {t:Nat} (ht:t < m.length) (g:Int) (hg:0 ≤ g):Oe m (2 * m.length - t) ≤ g↔∃ j:Nat,(j:Int) ≤ g∧m[(t + j) % m.length]? = some true:=by
 have pos:∀ j,j < 2 * m.length - t→(2 * m.length - 1 - (2 * m.length - t - 1 - j))=t + j:=fun j hj=>by omega
 rw [zv m g hg]
 constructor
 ·rintro (⟨j,h1,h2,h3⟩ | h)
  ·rw [pos j h2] at h3
   exact ⟨j,h1,h3⟩
  ·obtain ⟨i,hi,e⟩:=hm
   refine ⟨(i + m.length - t) % m.length,?_,?_⟩
   ·have:=Nat.mod_lt (i + m.length - t) (show 0 < m.length by omega)
    omega
   ·rw [Nat.add_mod_mod,show t + (i + m.length - t)=i + m.length by omega,Nat.add_mod_right,Nat.mod_eq_of_lt hi]
    exact e
 ·rintro ⟨j,h1,h2⟩
  have hj:=Nat.mod_lt j (show 0 < m.length by omega)
  have hle:=Nat.mod_le j m.length
  refine .inl ⟨j % m.length,by omega,by omega,?_⟩
  rw [pos _ (by omega),Nat.add_mod_mod]
  exact h2
theorem bK {m:List Bool} (hm:∃ i,i < m.length∧m[i]? = some true):∃ i,i < m.reverse.length∧m.reverse[i]? = some true:=by
 obtain ⟨i,hi,e⟩:=hm
 refine ⟨m.length - 1 - i,by rw [List.length_reverse];omega,?_⟩
 rw [List.getElem?_reverse (by omega),show m.length - 1 - (m.length - 1 - i)=i by omega]
 exact e
theorem gG {m:List Bool} {t:Nat} (ht:t < m.length):∃ v,(Tr m)[t]? = some v∧0 ≤ v∧((∃ i,i < m.length∧m[i]? = some true)→∀ g:Int,0 ≤ g→(v ≤ g↔∃ j:Nat,(j:Int) ≤ g∧m[(((t:Int) - (j:Int)) % (m.length:Int)).toNat]? = some true)):=by
 have hr:m.reverse.length=m.length:=List.length_reverse
 have h1:m.length - 1 - t < m.reverse.length:=by omega
 refine ⟨Oe m.reverse (2 * m.reverse.length - (m.length - 1 - t)),?_,Fi _ _,fun hm g hg=>?_⟩
 ·unfold Tr
  rw [List.getElem?_reverse (by rw [Lm];omega),Lm,hr]
  have:=RE h1
  rw [hr] at this
  exact this
 ·rw [yF (bK hm) h1 g hg]
  have key:∀ j:Nat,m.reverse[(m.length - 1 - t + j) % m.reverse.length]? = m[(((t:Int) - (j:Int)) % (m.length:Int)).toNat]?:=fun j=>by
   rw [hr]
   have hlt:=Nat.mod_lt (m.length - 1 - t + j) (show 0 < m.length by omega)
   rw [List.getElem?_reverse (by omega)]
   congr 1
   have h0:=Int.emod_nonneg ((t:Int) - (j:Int)) (show (m.length:Int) ≠ 0 by omega)
   have e:((t:Int) - (j:Int)) % (m.length:Int)=((m.length - 1 - (m.length - 1 - t + j) % m.length:Nat):Int):=by
    have d:=Nat.div_add_mod (m.length - 1 - t + j) m.length
    generalize (m.length - 1 - t + j) / m.length=q at d
    generalize (m.length - 1 - t + j) % m.length=r at d hlt ⊢
    have e2:(t:Int) - (j:Int)=((m.length - 1 - r:Nat):Int) + (m.length:Int) * (-(q:Int)):=by
     have d':(m.length:Int) * (q:Int) + (r:Int)=((m.length - 1 - t + j:Nat):Int):=by rw [← d];push_cast;rfl
     rw [Int.mul_neg]
     omega
    rw [e2,Int.add_mul_emod_self_left]
    exact Int.emod_eq_of_lt (by omega) (by omega)
   omega
  constructor
  ·rintro ⟨j,h2,h3⟩
   exact ⟨j,h2,by rw [← key j];exact h3⟩
  ·rintro ⟨j,h2,h3⟩
   exact ⟨j,h2,by rw [key j];exact h3⟩
theorem Lu {z:Nat} (hz:0 < z) {b n:Int} (hn:1 ≤ n∧n ≤ z) {t:Nat} (ht:t < z):∃ v,(Tr (fmF z [(b,n)]))[t]? = some v∧0 ≤ v∧∀ g:Int,0 ≤ g→(v ≤ g↔∃ j:Nat,(j:Int) ≤ g∧((t:Int) - (j:Int) - b) % (z:Int) < n):=by
 have hl:(fmF z [(b,n)]).length=z:=xn _ _
 obtain ⟨v,h1,h2,h3⟩:=gG (m:=fmF z [(b,n)]) (t:=t) (by rw [hl];exact ht)
 refine ⟨v,h1,h2,fun g hg=>?_⟩
 have hb0:=Int.emod_nonneg b (show (z:Int) ≠ 0 by omega)
 have hb1:=Int.emod_lt_of_pos b (show 0 < (z:Int) by omega)
 have hm:∃ i,i < (fmF z [(b,n)]).length∧(fmF z [(b,n)])[i]? = some true:=by
  refine ⟨(b % (z:Int)).toNat,by rw [hl];omega,?_⟩
  rw [oG hz ⟨by omega,hn.2⟩ (by omega),Int.toNat_of_nonneg hb0,decide_eq_true]
  rw [Int.emod_sub_emod,Int.sub_self,Int.zero_emod]
  omega
 rw [h3 hm g hg,hl]
 have key:∀ j:Nat,(fmF z [(b,n)])[(((t:Int) - (j:Int)) % (z:Int)).toNat]? = some (decide (((t:Int) - (j:Int) - b) % (z:Int) < n)):=fun j=>by
  have c0:=Int.emod_nonneg ((t:Int) - (j:Int)) (show (z:Int) ≠ 0 by omega)
  have c1:=Int.emod_lt_of_pos ((t:Int) - (j:Int)) (show 0 < (z:Int) by omega)
  rw [oG hz ⟨by omega,hn.2⟩ (by omega),Int.toNat_of_nonneg c0,Int.emod_sub_emod]
 constructor
 ·rintro ⟨j,g1,g2⟩
  rw [key j] at g2
  exact ⟨j,g1,of_decide_eq_true (Option.some.inj g2)⟩
 ·rintro ⟨j,g1,g2⟩
  exact ⟨j,g1,by rw [key j,decide_eq_true g2]⟩
end My
namespace My
open PySem L2
theorem Qv {α:Type} (z:Nat) (v:α) (b:Int) (hz:0 < z) (l:List α) (hl:l.length=z):∀ (k:Nat) (i:Nat),i < z→(Ut z v b k l)[i]? = if ∃ j,j < k∧(b - 1 - (j:Int)) % (z:Int)=(i:Int) then some v else l[i]?
 | 0,i,hi=>by rw [if_neg (fun ⟨j,hj,_⟩=>by omega)];rfl
 | k + 1,i,hi=>by
  have ih:=Qv z v b hz l hl k i hi
  have h0:=Int.emod_nonneg (b - 1 - (k:Int)) (show (z:Int) ≠ 0 by omega)
  have h1:=Int.emod_lt_of_pos (b - 1 - (k:Int)) (show 0 < (z:Int) by omega)
  unfold Ut lG
  by_cases c:(b - 1 - (k:Int)) % (z:Int)=(i:Int)
  ·rw [show ((b - 1 - (k:Int)) % (z:Int)).toNat=i by omega,List.getElem?_set_self (by rw [Ng,hl];exact hi),if_pos ⟨k,by omega,c⟩]
  ·rw [List.getElem?_set_ne (by omega),ih]
   by_cases e:∃ j,j < k∧(b - 1 - (j:Int)) % (z:Int)=(i:Int)
   ·obtain ⟨j,hj,ej⟩:=e
    rw [if_pos ⟨j,hj,ej⟩,if_pos ⟨j,by omega,ej⟩]
   ·rw [if_neg e,if_neg]
    rintro ⟨j,hj,ej⟩
    by_cases hjk:j=k
    ·subst hjk;exact c ej
    ·exact e ⟨j,by omega,ej⟩
theorem UE {z b i:Int} {n:Int} (hz:0 < z) (hi:0 ≤ i∧i < z) (hn:0 ≤ n∧n ≤ z):(∃ j:Nat,j < n.toNat∧(b - 1 - (j:Int)) % z=i)↔z - n ≤ (i - b) % z:=by
 have h0:=Int.emod_nonneg (i - b) (show z ≠ 0 by omega)
 have h1:=Int.emod_lt_of_pos (i - b) hz
 constructor
 ·rintro ⟨j,hj,e⟩
  have:(i - b) % z=z - 1 - j:=by
   rw [← e,Int.emod_sub_emod,show b - 1 - (j:Int) - b=(z - 1 - j) + z * (-1) by omega,Int.add_mul_emod_self_left]
   exact Int.emod_eq_of_lt (by omega) (by omega)
  omega
 ·intro h
  refine ⟨(z - 1 - (i - b) % z).toNat,by omega,?_⟩
  rw [Int.toNat_of_nonneg (by omega),show b - 1 - (z - 1 - (i - b) % z)=(b + (i - b) % z) + z * (-1) by omega,Int.add_mul_emod_self_left,Int.add_emod_emod,show b + (i - b)=i by omega]
  exact Int.emod_eq_of_lt hi.1 hi.2
noncomputable def Vl (z rd fd b n t:Int):Str:=if (t - b) % z < n then Str.ofString "free" else if (t - b) % z < n + fd then Str.ofString "fade" else if z - rd ≤ (t - b) % z then Str.ofString "ready" else Str.ofString "stop"
theorem VF {z:Nat} (hz:0 < z) {rd fd:Nat} {b n:Int} (hn:0 ≤ n∧n + fd + rd ≤ z) {i:Nat} (hi:i < z):(si z rd fd [(b,n)])[i]? = some (Vl z rd fd b n i):=by
 unfold si CB
 rw [List.foldl_cons,List.foldl_nil]
 have s0:=Int.emod_nonneg ((i:Int) - b) (show (z:Int) ≠ 0 by omega)
 have s1:=Int.emod_lt_of_pos ((i:Int) - b) (show 0 < (z:Int) by omega)
 rw [No z _ _ hz _ (by rw [yg,Ng,List.length_replicate]) _ _ hi,No z _ _ hz _ (by rw [Ng,List.length_replicate]) _ _ hi,Qv z _ _ hz _ (List.length_replicate ..) _ _ hi]
 have m1:=Qs (z:=z) (b:=b + n) (i:=i) (n:=fd) (by omega) ⟨by omega,by omega⟩ ⟨by omega,by omega⟩
 have m2:=Qs (z:=z) (b:=b) (i:=i) (n:=n) (by omega) ⟨by omega,by omega⟩ ⟨by omega,by omega⟩
 have m3:=UE (z:=z) (b:=b) (i:=i) (n:=rd) (by omega) ⟨by omega,by omega⟩ ⟨by omega,by omega⟩
 rw [Int.toNat_natCast] at m1 m3
 have f1:((i:Int) - (b + n)) % (z:Int) < fd↔n ≤ ((i:Int) - b) % (z:Int)∧((i:Int) - b) % (z:Int) < n + fd:=by
  have e:((i:Int) - (b + n)) % (z:Int)=(((i:Int) - b) % (z:Int) - n) % (z:Int):=by
   rw [Int.emod_sub_emod,show (i:Int) - (b + n)=(i:Int) - b - n by omega]
  rw [e]
  by_cases c:n ≤ ((i:Int) - b) % (z:Int)
  ·rw [Int.emod_eq_of_lt (by omega) (by omega)];omega
  ·rw [show ((i:Int) - b) % (z:Int) - n=(((i:Int) - b) % (z:Int) - n + z) + (z:Int) * (-1) by omega,Int.add_mul_emod_self_left,Int.emod_eq_of_lt (by omega) (by omega)]
   omega
 unfold Vl
 by_cases c1:((i:Int) - b) % (z:Int) < n
 ·rw [if_neg (fun h=>by have:=f1.mp (m1.mp h);omega),if_pos (m2.mpr c1),if_pos c1]
 ·by_cases c2:((i:Int) - b) % (z:Int) < n + fd
  ·rw [if_pos (m1.mpr (f1.mpr ⟨by omega,c2⟩)),if_neg c1,if_pos c2]
  ·rw [if_neg (fun h=>by have:=f1.mp (m1.mp h);omega),if_neg (fun h=>c1 (m2.mp h)),if_neg c1,if_neg c2]
   by_cases c3:(z:Int) - rd ≤ ((i:Int) - b) % (z:Int)
   ·rw [if_pos (m3.mpr c3),if_pos c3]
   ·rw [if_neg (fun h=>c3 (m3.mp h)),if_neg c3,List.getElem?_replicate,if_pos hi]
theorem xz (z rd fd b n t:Int):Vl z rd fd b n (t % z)=Vl z rd fd b n t:=by
 unfold Vl
 rw [Int.emod_sub_emod]
noncomputable def lK (s1 s2:SD):Prop:=s1.b + s1.n + 11 ≤ s2.b∨s2.b + s2.n + 11 ≤ s1.b
theorem sN {z:Int} {s1 s2:SD} (h1:0 ≤ s1.b∧1 ≤ s1.n∧s1.b + s1.n + 11 ≤ z) (h2:0 ≤ s2.b∧1 ≤ s2.n∧s2.b + s2.n + 11 ≤ z) (ha:lK s1 s2) {sh t j:Int} (hj:0 ≤ j∧j ≤ 8) (c2:(t - (s2.b + sh) % z) % z < s2.n) (c1:(t - j - (s1.b + sh) % z) % z < s1.n):False:=by
 have hz:0 < z:=by omega
 rw [Int.sub_emod_emod] at c1 c2
 have a0:=Int.emod_nonneg (t - (s2.b + sh)) (show z ≠ 0 by omega)
 have b0:=Int.emod_nonneg (t - j - (s1.b + sh)) (show z ≠ 0 by omega)
 have a1:=Int.emod_add_mul_ediv (t - (s2.b + sh)) z
 have b1:=Int.emod_add_mul_ediv (t - j - (s1.b + sh)) z
 generalize (t - (s2.b + sh)) % z=u at a0 a1 c2
 generalize (t - j - (s1.b + sh)) % z=v at b0 b1 c1
 generalize (t - (s2.b + sh)) / z=p at a1
 generalize (t - j - (s1.b + sh)) / z=q at b1
 have key:z * (p - q)=(s1.b + v) - (s2.b + u) + j:=by rw [Int.mul_sub];omega
 generalize p - q=r at key
 unfold lK at ha
 by_cases r1:1 ≤ r
 ·have:=Int.mul_le_mul_of_nonneg_left r1 (show 0 ≤ z by omega)
  omega
 ·by_cases r2:r ≤ -1
  ·have:=Int.mul_le_mul_of_nonneg_left r2 (show 0 ≤ z by omega)
   omega
  ·have:r=0:=by omega
   subst this
   rw [Int.mul_zero] at key
   omega
theorem iw {n:Int} {z:Nat} (hz:0 < z) {ds:List WD} {sp:List SD} (h1:∀ d ∈ ds,∃ s:SD,ofN d.name sp=[(s.b,s.n)]∧1 ≤ s.n∧s.n ≤ z∧∀ e ∈ ds,d.name ≠ e.name→mt n d e=true→∀ s':SD,ofN e.name sp=[(s'.b,s'.n)]→∀ (t j:Nat),t < z→(j:Int) ≤ Bv d e→((t:Int) - s'.b) % z < s'.n→((t:Int) - j - s.b) % z < s.n→False):Ak n z sp ds=none:=by
 unfold Ak
 refine List.findSome?_eq_none_iff.mpr fun d hd=>?_
 unfold Qr
 refine List.findSome?_eq_none_iff.mpr fun e he=>?_
 suffices h:Vn n z sp d e=none by rw [h];rfl
 unfold Vn
 split
 ·rename_i hc
  obtain ⟨s,e1,g1,g2,al⟩:=h1 d hd
  obtain ⟨s',e2,g3,g4,_⟩:=h1 e he
  suffices h:Sl (Bv d e) (Qi z sp d.name) (Qi z sp e.name)=none by rw [h];rfl
  unfold Sl
  refine List.find?_eq_none.mpr fun x hx=>?_
  obtain ⟨⟨x1,x2⟩,t⟩:=x
  have h3:=List.mem_zipIdx_iff_getElem?.mp hx
  rw [List.getElem?_zip_eq_some] at h3
  dsimp only at h3 ⊢
  rw [Bool.and_eq_true,decide_eq_true_eq,decide_eq_true_eq]
  rintro ⟨z2,z1⟩
  have ht:t < z:=by
   have:=(List.getElem?_eq_some_iff.mp h3.1).1
   rwa [Uj] at this
  unfold Qi at h3
  rw [e1,e2] at h3
  have hg:0 ≤ Bv d e:=by unfold Bv;split <;> omega
  obtain ⟨v1,k1,_,q1⟩:=Lu (z:=z) hz (b:=s.b) (n:=s.n) ⟨g1,g2⟩ ht
  obtain ⟨v2,k2,_,q2⟩:=Lu (z:=z) hz (b:=s'.b) (n:=s'.n) ⟨g3,g4⟩ ht
  rw [h3.1] at k1
  rw [h3.2] at k2
  cases k1
  cases k2
  obtain ⟨j,hj,hb⟩:=(q1 _ hg).mp z1
  obtain ⟨j',hj',hb'⟩:=(q2 0 (by omega)).mp (by omega)
  have:j'=0:=by omega
  subst this
  exact al e he hc.1 hc.2 s' e2 t j ht hj (by simpa using hb') hb
 ·rfl
theorem vD {z:Int} {ds:List WD} {sp:List SD} (hu:∀ (i j:Nat) (s e:SD),sp[i]? = some s→sp[j]? = some e→s.name=e.name→i=j) (h:∀ s ∈ sp,∃ d,wOf ds s.name=some d∧d.least ≤ s.n∧s.n + ae d + nc d ≤ z):Ij ds z sp=none:=by
 unfold Ij
 refine List.find?_eq_none.mpr fun e he=>?_
 obtain ⟨s,k⟩:=e
 have hk:sp[k]? = some s:=by simpa using List.mem_zipIdx_iff_getElem?.mp he
 obtain ⟨d,hw,hl,hr⟩:=h s (List.mem_of_getElem? hk)
 intro c
 unfold Hs at c
 dsimp only at c
 rw [hw] at c
 have c:(decide (s.n < d.least) || decide (Zy z sp k s < s.n + ae d + nc d))=true:=c
 rw [decide_eq_false (show ¬ s.n < d.least by omega),Bool.false_or,decide_eq_true_eq] at c
 have hn:ofN s.name (sp.eraseIdx k)=[]:=by
  cases e:ofN s.name (sp.eraseIdx k) with
  | nil=>rfl
  | cons p ps=>
   have hp:p ∈ ofN s.name (sp.eraseIdx k):=by rw [e];exact List.mem_cons_self ..
   obtain ⟨x,hx,en,_⟩:=Zw hp
   obtain ⟨j,hj,ej⟩:=List.mem_eraseIdx_iff_getElem?.mp hx
   exact absurd (hu j k x s ej hk en) hj
 unfold Zy at c
 rw [hn] at c
 have c:z < s.n + ae d + nc d:=c
 omega
theorem GA {sp:List SD} (hu:∀ (i j:Nat) (s e:SD),sp[i]? = some s→sp[j]? = some e→s.name=e.name→i=j) {i:Nat} {s:SD} (hs:sp[i]? = some s):ofN s.name sp=[(s.b,s.n)]:=by
 have:∀ (l:List SD) (i:Nat),(∀ (a b:Nat) (s e:SD),l[a]? = some s→l[b]? = some e→s.name=e.name→a=b)→l[i]? = some s→l.filter (fun d=>decide (d.name=s.name))=[s]:=fun l=>by
  induction l with
  | nil=>intro i _ h;simp at h
  | cons x l ih=>
   intro i hu h
   match i,h with
   | 0,h=>
    cases (show x=s by simpa using h)
    rw [List.filter_cons_of_pos (by simp),List.filter_eq_nil_iff.mpr]
    intro e he z
    obtain ⟨j,hj⟩:=List.getElem?_of_mem he
    have:=hu (j + 1) 0 e s (by rw [List.getElem?_cons_succ];exact hj) rfl (of_decide_eq_true z)
    omega
   | i + 1,h=>
    rw [List.getElem?_cons_succ] at h
    rw [List.filter_cons_of_neg]
    ·exact ih i (fun a b s e ha hb en=>by have:=hu (a + 1) (b + 1) s e (by rw [List.getElem?_cons_succ];exact ha) (by rw [List.getElem?_cons_succ];exact hb) en;omega) h
    ·intro z
     have:=hu 0 (i + 1) x s rfl (by rw [List.getElem?_cons_succ];exact h) (of_decide_eq_true z)
     omega
 unfold ofN
 rw [this sp i hu hs];rfl
noncomputable def On (n:Int) (d:WD):List (List WD)→List (List WD)
 | []=>[[d]]
 | g :: gs=>if g.any (fun e=>mt n e d) then g :: On n d gs else (g ++ [d]) :: gs
noncomputable def ic (n:Int) (ds:List WD):List (List WD):=ds.foldl (fun gs d=>On n d gs) []
theorem Sv (n:Int) (d:WD):∀ gs,(On n d gs).flatten.Perm (gs.flatten ++ [d])
 | []=>by simp [On]
 | g :: gs=>by
  unfold On
  split
  ·rw [List.flatten_cons,List.flatten_cons,List.append_assoc]
   exact (Sv n d gs).append_left g
  ·rw [List.flatten_cons,List.flatten_cons,List.append_assoc,List.append_assoc]
   exact List.perm_append_comm.append_left g
noncomputable def vK (n:Int) (g:List WD):Prop:=g.Pairwise fun e d=>mt n e d=false
theorem lv {n:Int} {d:WD}:∀ {gs:List (List WD)},(∀ g ∈ gs,vK n g)→∀ g ∈ On n d gs,vK n g
 | [],_,g,hg=>by
  rw [show g=[d] by simpa [On] using hg]
  exact List.pairwise_singleton ..
 | g0 :: gs,h,g,hg=>by
  unfold On at hg
  split at hg
  ·rcases List.mem_cons.mp hg with rfl | hg
   ·exact h _ (List.mem_cons_self ..)
   ·exact lv (fun x hx=>h x (List.mem_cons_of_mem _ hx)) g hg
  ·rename_i hc
   rcases List.mem_cons.mp hg with rfl | hg
   ·refine List.pairwise_append.mpr ⟨h _ (List.mem_cons_self ..),List.pairwise_singleton ..,fun e he x hx=>?_⟩
    rw [List.mem_singleton.mp hx]
    cases c:mt n e d with
    | false=>rfl
    | true=>exact absurd (List.any_eq_true.mpr ⟨e,he,c⟩) hc
   ·exact h g (List.mem_cons_of_mem _ hg)
theorem DC {n:Int} {d:WD}:∀ {gs:List (List WD)},(∀ g ∈ gs,g ≠ [])→∀ g ∈ On n d gs,g ≠ []
 | [],_,g,hg=>by
  rw [show g=[d] by simpa [On] using hg]
  exact List.cons_ne_nil _ _
 | g0 :: gs,h,g,hg=>by
  unfold On at hg
  split at hg
  ·rcases List.mem_cons.mp hg with rfl | hg
   ·exact h _ (List.mem_cons_self ..)
   ·exact DC (fun x hx=>h x (List.mem_cons_of_mem _ hx)) g hg
  ·rcases List.mem_cons.mp hg with rfl | hg
   ·simp
   ·exact h g (List.mem_cons_of_mem _ hg)
theorem gx (n:Int) (ds:List WD) (d:WD):ic n (ds ++ [d])=On n d (ic n ds):=by
 unfold ic
 rw [List.foldl_append];rfl
theorem Zv (n:Int) (ds:List WD):∀ g ∈ ic n ds,vK n g:=by
 unfold ic
 suffices h:∀ gs,(∀ g ∈ gs,vK n g)→∀ g ∈ ds.foldl (fun gs d=>On n d gs) gs,vK n g from h [] (by simp)
 induction ds with
 | nil=>exact fun gs h=>h
 | cons d ds ih=>exact fun gs h=>ih _ (lv h)
theorem Jv (n:Int) (ds:List WD):∀ g ∈ ic n ds,g ≠ []:=by
 unfold ic
 suffices h:∀ gs,(∀ g ∈ gs,g ≠ [])→∀ g ∈ ds.foldl (fun gs d=>On n d gs) gs,g ≠ [] from h [] (by simp)
 induction ds with
 | nil=>exact fun gs h=>h
 | cons d ds ih=>exact fun gs h=>ih _ (DC h)
theorem kf (n:Int) (ds:List WD):(ic n ds).flatten.Perm ds:=by
 unfold ic
 suffices h:∀ gs,(ds.foldl (fun gs d=>On n d gs) gs).flatten.Perm (gs.flatten ++ ds) from h []
 induction ds with
 | nil=>intro gs;simp
 | cons d ds ih=>
  intro gs
  refine (ih (On n d gs)).trans ?_
  have:=(Sv n d gs).append_right ds
  rwa [List.append_assoc] at this
structure Win (gs:List (List WD)) (z:Int) (sp:List SD):Prop where
 z0:0 ≤ z
 nm:sp.map (·.name)=gs.flatten.map (·.name)
 bd:∀ (i:Nat) (d:WD) (s:SD),gs.flatten[i]? = some d→sp[i]? = some s→0 ≤ s.b∧d.least ≤ s.n∧s.b + s.n + 11 ≤ z
 two:∀ (i j:Nat) (s1 s2:SD) (d1 d2:WD),sp[i]? = some s1→sp[j]? = some s2→gs.flatten[i]? = some d1→gs.flatten[j]? = some d2→lK s1 s2∨∃ g ∈ gs,d1 ∈ g∧d2 ∈ g
theorem Win.nil:Win [] 0 []:=⟨Int.le_refl _,rfl,fun i d s h=>by simp at h,fun i j s1 s2 d1 d2 h=>by simp at h⟩
theorem Win.len {gs:List (List WD)} {z:Int} {sp:List SD} (h:Win gs z sp):sp.length=gs.flatten.length:=by
 have:=congrArg List.length h.nm
 rwa [List.length_map,List.length_map] at this
theorem Win.grp {gs:List (List WD)} {z:Int} {sp:List SD} (h:Win gs z sp) {g:List WD} {sp':List SD} {len more:Int} (hl:0 ≤ len) (hm:11 ≤ more) (hn:sp'.length=g.length)
  (al:∀ (i:Nat) (d:WD) (s:SD),g[i]? = some d→sp'[i]? = some s→s.name=d.name∧z ≤ s.b∧d.least ≤ s.n∧s.b + s.n ≤ z + len):Win (gs ++ [g]) (z + len + more) (sp ++ sp'):=by
 have hfl:(gs ++ [g]).flatten=gs.flatten ++ g:=by simp
 have hlen:=h.len
 have z0:=h.z0
 have at1:∀ {i:Nat} {d:WD} {s:SD},(gs.flatten ++ g)[i]? = some d→(sp ++ sp')[i]? = some s→(gs.flatten[i]? = some d∧sp[i]? = some s)∨∃ j,g[j]? = some d∧sp'[j]? = some s:=fun {i d s} h1 h2=>by
  by_cases c:i < sp.length
  ·rw [List.getElem?_append_left (by omega)] at h1
   rw [List.getElem?_append_left c] at h2
   exact .inl ⟨h1,h2⟩
  ·rw [List.getElem?_append_right (by omega)] at h1
   rw [List.getElem?_append_right (by omega),hlen] at h2
   exact .inr ⟨_,h1,h2⟩
 refine ⟨by omega,?_,fun i d s h1 h2=>?_,fun i j s1 s2 d1 d2 h1 h2 h3 h4=>?_⟩
 ·rw [hfl,List.map_append,List.map_append,h.nm]
  congr 1
  refine List.ext_getElem? fun i=>?_
  rw [List.getElem?_map,List.getElem?_map]
  by_cases c:i < g.length
  ·have a1:g[i]? = some g[i]:=List.getElem?_eq_getElem c
   have a2:sp'[i]? = some (sp'[i]'(by omega)):=List.getElem?_eq_getElem (by omega)
   rw [a1,a2]
   exact congrArg some (al i _ _ a1 a2).1
  ·rw [List.getElem?_eq_none (by omega),List.getElem?_eq_none (by omega)];rfl
 ·rw [hfl] at h1
  rcases at1 h1 h2 with ⟨k1,k2⟩ | ⟨j,k1,k2⟩
  ·have:=h.bd i d s k1 k2
   exact ⟨this.1,this.2.1,by omega⟩
  ·have:=al j d s k1 k2
   exact ⟨by omega,this.2.2.1,by omega⟩
 ·rw [hfl] at h3 h4
  rcases at1 h3 h1 with ⟨k1,k2⟩ | ⟨a,k1,k2⟩
  ·rcases at1 h4 h2 with ⟨k3,k4⟩ | ⟨b,k3,k4⟩
   ·rcases h.two i j s1 s2 d1 d2 k2 k4 k1 k3 with x | ⟨x,hx,y⟩
    ·exact .inl x
    ·exact .inr ⟨x,List.mem_append_left _ hx,y⟩
   ·have u1:=h.bd i d1 s1 k1 k2
    have u2:=al b d2 s2 k3 k4
    exact .inl (.inl (by omega))
  ·rcases at1 h4 h2 with ⟨k3,k4⟩ | ⟨b,k3,k4⟩
   ·have u1:=h.bd j d2 s2 k3 k4
    have u2:=al a d1 s1 k1 k2
    exact .inl (.inr (by omega))
   ·exact .inr ⟨g,List.mem_append_right _ (List.mem_singleton.mpr rfl),List.mem_of_getElem? k1,List.mem_of_getElem? k3⟩
noncomputable def Ke (z sh:Int) (s:SD):SD:=⟨s.name,(s.b + sh) % z,s.n⟩
structure xO (n:Int) (ds:List WD):Prop where
 nd:(ds.map (·.name)).Nodup
 al:∀ d ∈ ds,(0 ≤ d.off∧d.off ≤ 8)∧0 ≤ d.near∧1 ≤ d.least
 sy:∀ d ∈ ds,∀ e ∈ ds,mt n d e=mt n e d
theorem BH {xs:List Str} (h:xs.Nodup) {i j:Nat} {x:Str} (hi:xs[i]? = some x) (hj:xs[j]? = some x):i=j:=by
 obtain ⟨i1,e1⟩:=List.getElem?_eq_some_iff.mp hi
 obtain ⟨j1,e2⟩:=List.getElem?_eq_some_iff.mp hj
 exact (List.getElem_inj h).mp (e1.trans e2.symm)
theorem KC {d:WD} (h:0 ≤ d.off∧d.off ≤ 8):0 ≤ ae d∧ae d + nc d ≤ 8:=by
 unfold ae nc
 split <;> omega
theorem WF {n:Int} {g:List WD} (h:vK n g) {d e:WD} (hd:d ∈ g) (he:e ∈ g) (hne:d ≠ e):mt n d e=false∨mt n e d=false:=by
 obtain ⟨i,hi,rfl⟩:=List.getElem_of_mem hd
 obtain ⟨j,hj,rfl⟩:=List.getElem_of_mem he
 have hp:=List.pairwise_iff_getElem.mp h
 by_cases c:i < j
 ·exact .inl (hp i j hi hj c)
 ·by_cases c2:j < i
  ·exact .inr (hp j i hj hi c2)
  ·have:i=j:=by omega
   subst this
   exact absurd rfl hne
structure QL (n:Int) (z:Nat) (ds:List WD) (sp:List SD):Prop where
 one:∀ d ∈ ds,∃ s ∈ sp,s.name=d.name∧ofN d.name sp=[(s.b,s.n)]∧(0 ≤ s.b∧s.b < z)∧1 ≤ s.n∧s.n + 11 ≤ z
 nv:Xi ds sp=none
 sh:Ij ds z sp=none
 cl:Ak n z sp ds=none
 len:sp.length=ds.length
 kn:∀ s ∈ sp,(∃ d ∈ ds,s.name=d.name∧wOf ds s.name=some d)∧(0 ≤ s.b∧s.b < z)∧1 ≤ s.n∧s.n + 11 ≤ z
 hu:∀ (i j:Nat) (s e:SD),sp[i]? = some s→sp[j]? = some e→s.name=e.name→i=j
theorem dM {n:Int} {z:Nat} (hz:0 < z) {ds:List WD} {sp:List SD} (D:xO n ds) (W:Win (ic n ds) z sp) (sh:Int):QL n z ds (sp.map (Ke z sh)):=by
 have P:=kf n ds
 have ndf:((ic n ds).flatten.map (·.name)).Nodup:=(P.map _).nodup_iff.mpr D.nd
 have nds:(sp.map (·.name)).Nodup:=by rw [W.nm];exact ndf
 have hlen:sp.length=ds.length:=by rw [W.len];exact P.length_eq
 have get:∀ {i:Nat} {s:SD},(sp.map (Ke z sh))[i]? = some s→∃ s0,sp[i]? = some s0∧s=Ke z sh s0:=fun {i s} h=>by
  rw [List.getElem?_map] at h
  cases e:sp[i]? with
  | none=>rw [e] at h;cases h
  | some s0=>rw [e] at h;exact ⟨s0,rfl,(Option.some.inj h).symm⟩
 have hu0:∀ (i j:Nat) (s e:SD),sp[i]? = some s→sp[j]? = some e→s.name=e.name→i=j:=fun i j s e h1 h2 en=>
  BH nds (x:=s.name) (by rw [List.getElem?_map,h1];rfl) (by rw [List.getElem?_map,h2,en];rfl)
 have hu:∀ (i j:Nat) (s e:SD),(sp.map (Ke z sh))[i]? = some s→(sp.map (Ke z sh))[j]? = some e→s.name=e.name→i=j:=fun i j s e h1 h2 en=>by
  obtain ⟨s0,a1,rfl⟩:=get h1
  obtain ⟨e0,a2,rfl⟩:=get h2
  exact hu0 i j s0 e0 a1 a2 en
 -- a way's place among the spans
 have of:∀ d ∈ ds,∃ (i:Nat) (s:SD),(ic n ds).flatten[i]? = some d∧sp[i]? = some s∧s.name=d.name∧0 ≤ s.b∧d.least ≤ s.n∧s.b + s.n + 11 ≤ z:=fun d hd=>by
  obtain ⟨i,hi⟩:=List.getElem?_of_mem (P.mem_iff.mpr hd)
  have il:i < sp.length:=by rw [W.len];exact (List.getElem?_eq_some_iff.mp hi).1
  have hs:sp[i]? = some sp[i]:=List.getElem?_eq_getElem il
  have b:=W.bd i d _ hi hs
  have en:=congrArg (fun l=>l[i]?) W.nm
  rw [List.getElem?_map,List.getElem?_map,hi,hs] at en
  exact ⟨i,_,hi,hs,Option.some.inj en,b.1,b.2.1,b.2.2⟩
 have back:∀ (i:Nat) (s:SD),sp[i]? = some s→∃ d ∈ ds,(ic n ds).flatten[i]? = some d∧s.name=d.name∧0 ≤ s.b∧d.least ≤ s.n∧s.b + s.n + 11 ≤ z:=fun i s hs=>by
  have il:i < (ic n ds).flatten.length:=by rw [← W.len];exact (List.getElem?_eq_some_iff.mp hs).1
  have hi:(ic n ds).flatten[i]? = some (ic n ds).flatten[i]:=List.getElem?_eq_getElem il
  have b:=W.bd i _ s hi hs
  have en:=congrArg (fun l=>l[i]?) W.nm
  rw [List.getElem?_map,List.getElem?_map,hi,hs] at en
  exact ⟨_,P.mem_iff.mp (List.mem_of_getElem? hi),hi,Option.some.inj en,b.1,b.2.1,b.2.2⟩
 have wof:∀ d ∈ ds,wOf ds d.name=some d:=fun d hd=>by
  unfold wOf
  cases e:ds.find? fun x=>decide (x.name=d.name) with
  | none=>
   have:=List.find?_eq_none.mp e d hd
   simp at this
  | some x=>
   have h1:x.name=d.name:=by simpa using List.find?_some e
   obtain ⟨j,hj⟩:=List.getElem?_of_mem (List.mem_of_find?_eq_some e)
   obtain ⟨i,hi⟩:=List.getElem?_of_mem hd
   have:j=i:=BH D.nd (x:=d.name) (by rw [List.getElem?_map,hj,← h1];rfl) (by rw [List.getElem?_map,hi];rfl)
   subst this
   exact hj.symm.trans hi
 have one:∀ d ∈ ds,∃ s ∈ sp.map (Ke z sh),s.name=d.name∧ofN d.name (sp.map (Ke z sh))=[(s.b,s.n)]∧(0 ≤ s.b∧s.b < z)∧1 ≤ s.n∧s.n + 11 ≤ z:=fun d hd=>by
  obtain ⟨i,s,_,hs,en,b0,b1,b2⟩:=of d hd
  have hs':(sp.map (Ke z sh))[i]? = some (Ke z sh s):=by rw [List.getElem?_map,hs];rfl
  have l1:=(D.al d hd).2.2
  refine ⟨_,List.mem_of_getElem? hs',en,?_,⟨Int.emod_nonneg _ (by omega),Int.emod_lt_of_pos _ (by omega)⟩,by show 1 ≤ s.n;omega,by show s.n + 11 ≤ _;omega⟩
  rw [← en]
  exact GA hu hs'
 have kn:∀ s ∈ sp.map (Ke z sh),(∃ d ∈ ds,s.name=d.name∧wOf ds s.name=some d)∧(0 ≤ s.b∧s.b < z)∧1 ≤ s.n∧s.n + 11 ≤ z:=fun s hs=>by
  obtain ⟨i,hi⟩:=List.getElem?_of_mem hs
  obtain ⟨s0,a1,rfl⟩:=get hi
  obtain ⟨d,hd,_,en,b0,b1,b2⟩:=back i s0 a1
  have l1:=(D.al d hd).2.2
  exact ⟨⟨d,hd,en,by rw [show (Ke z sh s0).name=d.name from en];exact wof d hd⟩,⟨Int.emod_nonneg _ (by omega),Int.emod_lt_of_pos _ (by omega)⟩,by show 1 ≤ s0.n;omega,by show s0.n + 11 ≤ _;omega⟩
 refine ⟨one,?_,?_,?_,by rw [List.length_map];exact hlen,kn,hu⟩
 ·unfold Xi
  refine List.find?_eq_none.mpr fun x hx=>?_
  obtain ⟨d,hd,rfl⟩:=List.mem_map.mp hx
  obtain ⟨s,_,_,e,_⟩:=one d hd
  rw [e]
  exact Bool.false_ne_true
 ·refine vD hu fun s hs=>?_
  obtain ⟨i,hi⟩:=List.getElem?_of_mem hs
  obtain ⟨s0,a1,rfl⟩:=get hi
  obtain ⟨d,hd,_,en,b0,b1,b2⟩:=back i s0 a1
  have f:=KC (D.al d hd).1
  exact ⟨d,by rw [show (Ke z sh s0).name=d.name from en];exact wof d hd,b1,by show s0.n + _ + _ ≤ _;omega⟩
 ·refine iw hz fun d hd=>?_
  obtain ⟨i,s,fi,hs,en,b0,b1,b2⟩:=of d hd
  have hs':(sp.map (Ke z sh))[i]? = some (Ke z sh s):=by rw [List.getElem?_map,hs];rfl
  have l1:=(D.al d hd).2.2
  refine ⟨Ke z sh s,by rw [← en];exact GA hu hs',by show 1 ≤ s.n;omega,by show s.n ≤ _;omega,fun e he hne hm s' hs2 t j ht hj c2 c1=>?_⟩
  obtain ⟨k,u,fk,hk,ek,u0,u1,u2⟩:=of e he
  have hk':(sp.map (Ke z sh))[k]? = some (Ke z sh u):=by rw [List.getElem?_map,hk];rfl
  have l2:=(D.al e he).2.2
  have eo:=GA hu hk'
  rw [show (Ke z sh u).name=e.name from ek,hs2] at eo
  have eo:=(List.cons.inj eo).1
  have eb:s'.b=(u.b + sh) % z:=congrArg Prod.fst eo
  have en2:s'.n=u.n:=congrArg Prod.snd eo
  have hg:Bv d e ≤ 8:=by
   have:=(D.al d hd).1;have:=(D.al e he).2.1
   unfold Bv;split <;> omega
  rcases W.two i k s u d e hs hk fi fk with ap | ⟨g,hg',g1,g2⟩
  ·rw [eb,en2] at c2
   exact sN ⟨b0,by omega,b2⟩ ⟨u0,by omega,u2⟩ ap (sh:=sh) (t:=t) (j:=j) ⟨by omega,by omega⟩ c2 c1
  ·have:=WF (Zv n ds g hg') g1 g2 (fun z=>hne (by rw [z]))
   rcases this with x | x
   ·rw [x] at hm;cases hm
   ·rw [D.sy d hd e he,x] at hm;cases hm
theorem Ss:∀ {gs:List (List WD)},(∀ g ∈ gs,g ≠ [])→gs.length ≤ gs.flatten.length
 | [],_=>Nat.le_refl _
 | g :: gs,h=>by
  have h1:=Ss (gs:=gs) fun x hx=>h x (List.mem_cons_of_mem _ hx)
  have h2:=List.length_pos_iff.mpr (h g (by simp))
  rw [List.flatten_cons,List.length_append,List.length_cons]
  omega
end My
namespace My
open PySem L2
noncomputable abbrev Am (d:WD):List V:=[.str (Nd d.k),.str d.name,.int d.start,.int d.fin,.int d.off,.int d.near,.int d.least]
noncomputable def LW (H:Hp) (wl:Addr) (ds:List WD):Prop:=∃ qs:List Addr,H wl=some (.lst (qs.map V.ref))∧qs.length=ds.length∧∀ (i:Nat) (q:Addr) (d:WD),qs[i]? = some q→ds[i]? = some d→H q=some (.tup (Am d))
theorem LW.same {H H':Hp} {wl:Addr} {ds:List WD} (h:LW H wl ds) (s:Kb H H'):LW H' wl ds:=by
 obtain ⟨qs,e1,e2,al⟩:=h
 exact ⟨qs,s _ _ e1,e2,fun i q d h1 h2=>s _ _ (al i q d h1 h2)⟩
theorem LW.snoc {H:Hp} {wl p:Addr} {ds:List WD} {d:WD} {qs:List Addr} (l1:H wl=some (.lst (qs.map V.ref))) (l2:qs.length=ds.length)
  (al:∀ (i:Nat) (q:Addr) (d:WD),qs[i]? = some q→ds[i]? = some d→H q=some (.tup (Am d))) (hp:H p=none) :
  LW (upd (upd H p (.tup (Am d))) wl (.lst (qs.map V.ref ++ [.ref p]))) wl (ds ++ [d]):=by
 have hpw:p ≠ wl:=(qb l1 hp).symm
 refine ⟨qs ++ [p],by rw [cb,List.map_append];rfl,by rw [List.length_append,List.length_append,l2];rfl,fun i q e h1 h2=>?_⟩
 rcases Te h1 with ⟨z1,z2⟩ | ⟨z1,rfl⟩
 ·rcases Te h2 with ⟨y1,y2⟩ | ⟨y1,_⟩
  ·have:=al i q e z2 y2
   rw [lb (Me this l1 (by intro z;cases z)),lb (qb this hp)]
   exact this
  ·omega
 ·rcases Te h2 with ⟨y1,y2⟩ | ⟨y1,rfl⟩
  ·omega
  ·rw [lb hpw,cb]
theorem kE:∀ j,j < 5→(Txt.slice (Str.ofString "lane") none (some (j:Nat))).cps.toList=[108,97,110,101].take j:=by decide +kernel
theorem HI:∀ j,j < 4→(Txt.slice (Str.ofString "way") none (some (j:Nat))).cps.toList=[119,97,121].take j:=by decide +kernel
noncomputable def nJ (k:Nat):Nat:=[100,98,99,97].getD k 97
theorem mI (k:Nat):97 ≤ nJ k∧nJ k ≤ 122:=by
 match k with
 | 0=>decide
 | 1=>decide
 | 2=>decide
 | 3=>decide
 | k + 4=>exact ⟨by show 97 ≤ 97;decide,by show 97 ≤ 122;decide⟩
theorem jG:∀ k,k < 4→∀ j,j < 4→nJ k=nJ j→k=j:=by decide
noncomputable def nm6 (u v k:Nat):Str:=Txt.slice (Str.ofString "lane") none (some (u:Nat)) ++ ⟨#[nJ k]⟩ ++ Txt.slice (Str.ofString "way") none (some (v:Nat))
theorem gD {u v k:Nat} (hu:u < 5) (hv:v < 4):(nm6 u v k).cps.toList=[108,97,110,101].take u ++ [nJ k] ++ [119,97,121].take v:=by
 unfold nm6
 rw [Str.cps_append,Array.toList_append,Str.cps_append,Array.toList_append,kE u hu,HI v hv]
theorem Ny {u v k:Nat} (hu:u < 5) (hv:v < 4):made (nm6 u v k) Eh 8=true:=by
 have e:=gD (k:=k) hu hv
 have hl:(nm6 u v k).length=(nm6 u v k).cps.toList.length:=by simp [Str.length]
 refine Ru ?_ ?_ ?_
 ·rw [hl,e,List.length_append,List.length_append,List.length_singleton];omega
 ·rw [hl,e,List.length_append,List.length_append,List.length_take,List.length_take];simp only [List.length_cons,List.length_nil];omega
 ·intro c hc
  rw [e] at hc
  rcases List.mem_append.mp hc with hc | hc
  ·rcases List.mem_append.mp hc with hc | hc
   ·have:=List.mem_of_mem_take hc
    simp only [List.mem_cons,List.not_mem_nil,or_false] at this
    omega
   ·simp only [List.mem_cons,List.not_mem_nil,or_false] at hc
    have:=mI k
    omega
  ·have:=List.mem_of_mem_take hc
   simp only [List.mem_cons,List.not_mem_nil,or_false] at this
   omega
theorem sI {u v k k':Nat} (hu:u < 5) (hv:v < 4) (hk:k < 4) (hk':k' < 4) (e:nm6 u v k=nm6 u v k'):k=k':=by
 have:=congrArg (fun x:Str=>x.cps.toList) e
 simp only [gD hu hv] at this
 rw [List.append_left_inj,List.append_right_inj] at this
 exact jG k hk k' hk' (List.cons.inj this).1
theorem kL {n s j:Int} (h0:0 ≤ s) (h1:s < n) (h2:0 ≤ j) (h3:j < n - 1):s ≠ (s + 1 + j) % n:=by
 rw [Int.add_assoc,vG h0 h1 (by omega) (by omega)]
 split <;> omega
theorem kK:∀ k,k < 4→atI (Str.ofString "dbca").cps.toList ((k:Nat):Int)=some (nJ k):=by decide +kernel
theorem QH {i:Int} (h0:0 ≤ i) (h1:i < 3):atI [V.str (Str.ofString "car"),V.str (Str.ofString "foot"),V.str (Str.ofString "tram")] i=some (.str (Nd i.toNat)):=by
 have:i=0∨i=1∨i=2:=by omega
 rcases this with rfl | rfl | rfl
 ·exact Jb (j:=0) rfl
 ·exact Jb (j:=1) rfl
 ·exact Jb (j:=2) rfl
structure fu (n:Int) (ds:List WD):Prop where
 ln:ds.length ≤ 4
 al:∀ d ∈ ds,WOk n d∧d.off ≤ 8∧d.least ≤ 4
 nm:∃ u v,u < 5∧v < 4∧∀ (i:Nat) (d:WD),ds[i]? = some d→d.name=nm6 u v i
theorem fu.nd {n:Int} {ds:List WD} (h:fu n ds):(ds.map (·.name)).Nodup:=by
 obtain ⟨u,v,hu,hv,al⟩:=h.nm
 refine List.pairwise_iff_getElem.mpr fun i j hi hj hij e=>?_
 rw [List.length_map] at hi hj
 rw [List.getElem_map,List.getElem_map,al i _ (List.getElem?_eq_getElem hi),al j _ (List.getElem?_eq_getElem hj)] at e
 have:=sI hu hv (by have:=h.ln;omega) (by have:=h.ln;omega) e
 omega
theorem fu.cok {n:Int} {ds:List WD} (h:fu n ds) (hn:2 ≤ n∧n ≤ 99) (hl:1 ≤ ds.length∧ds.length ≤ 12):COk n ds:=⟨hn,hl,fun d hd=>(h.al d hd).1,h.nd⟩
noncomputable def UK (K:PySem.W.Frag) (a:Addr) (ns:List Int):Sp:=fun vs H Q _=>vs=[.ref a]∧Sc K a ns H ∧
 ∀ tp wl n ds H',Kb H H'→Sc K a ns H'→H' tp=some (.tup [.int n,.ref wl])→LW H' wl ds→fu n ds→(4 ≤ n∧n ≤ 12)→(1 ≤ ds.length∧ds.length ≤ 4)→Q (.ref tp) H'
section
variable {P:Program} {w:World} {K:PySem.W.Frag} {mg:Str→Option Value} {base:Heap} {t:Adr}
theorem JN (T:Txt w K mg t) (a:Addr) (ns:List Int) (h63:ns.length ≤ 63):Fb P w K mg base CX0 2 t.zi t.xi ["_law_script"] (UK K a ns):=by
 have G__law_draw:Fb P w K mg base CX0 1 t.rf t.gf ["_law_script","_law_k","_law_many"] (Td K a ns):=Qw T a ns h63
 refine T.ml.ok Id (fun vs H Q E h=>?_) (fun cdv A outer s H vs Q E hr h=>?_)
 ·obtain ⟨rfl,_⟩:=h;rfl
 obtain ⟨rfl,S,q⟩:=h
 refine ⟨_,(db (Ab (i:=1) Id.nd rfl (Or.inl rfl) (Ib xc pb (xb G__law_draw hr rfl T.Vb T.Nb.kp T.Xb .nil Cb (bb (pv 0) (bb pb (bb pb fb))))))
   (db (Ab (i:=2) Id.nd rfl (Or.inl rfl) (Rf fb))
   (db (Vd PassesOwn.never rfl (Xf rfl T.Gi (bb (Ib xc pb (xb G__law_draw hr rfl T.Vb T.Nb.kp T.Xb .nil Cb (bb (pv 0) (bb pb (bb pb fb))))) fb)) (wb (i:=3) Id.nd rfl (Or.inl rfl)) (db (Ab (i:=4) Id.nd rfl (Or.inl rfl) (zc Yd (Rf (bb ac (bb ac (bb ac fb)))) (xb G__law_draw hr rfl T.Vb T.Nb.kp T.Xb .nil Cb (bb (pv 0) (bb (Ib xc pb (pv 3)) (bb pb fb)))) (fun _ _=>rfl)))
   (db (Ab (i:=5) Id.nd rfl (Or.inl rfl) (xb G__law_draw hr rfl T.Vb T.Nb.kp T.Xb .nil Cb (bb (pv 0) (bb (Ib xc pb (pv 3)) (bb (pv 1) fb)))))
   (db (Ab (i:=6) Id.nd rfl (Or.inl rfl) (Ib Le (Ib xc (Ib xc (pv 5) pb) (xb G__law_draw hr rfl T.Vb T.Nb.kp T.Xb .nil Cb (bb (pv 0) (bb (Ib xc pb (pv 3)) (bb (Ib Gg (pv 1) pb) fb))))) (pv 1)))
   (db (Ab (i:=7) Id.nd rfl (Or.inl rfl) (Ib jf (Ib jf (Ho sH ac ut (et (xb G__law_draw hr rfl T.Vb T.Nb.kp T.Xb .nil Cb (bb (pv 0) (bb pb (bb pb fb)))))) (zc bH ac (pv 3) (fun _ _=>rfl))) (Ho sH ac ut (et (xb G__law_draw hr rfl T.Vb T.Nb.kp T.Xb .nil Cb (bb (pv 0) (bb pb (bb pb fb))))))))
   (db (Ab (i:=8) Id.nd rfl (Or.inl rfl) (aj (bb (pv 5) (bb (pv 6) (bb (xb G__law_draw hr rfl T.Vb T.Nb.kp T.Xb .nil Cb (bb (pv 0) (bb (Ib xc pb (pv 3)) (bb pb fb)))) (bb (xb G__law_draw hr rfl T.Vb T.Nb.kp T.Xb .nil Cb (bb (pv 0) (bb (Ib xc pb (pv 3)) (bb pb fb)))) fb))))))
   (gb (Ac (Kl PySem.F.plainAttrs_list PySem.F.slot_list_append PySem.F.type_list_append Qf (pv 2) (bb (Ib BB (Ib BB (aj (bb (pv 4) (bb (pv 7) fb))) (pv 8)) (aj (bb (Ib xc pb (xb G__law_draw hr rfl T.Vb T.Nb.kp T.Xb .nil Cb (bb (pv 0) (bb (Ib xc pb (pv 3)) (bb pb fb))))) fb))) fb))))))))))
   (gb (Db (aj (bb (pv 1) (bb (pv 2) fb)))))))),?_⟩
 have hbig:∀ k:Nat,k ≤ 1000→k ≤ sizeLine:=fun k h=>Nat.le_trans h (by decide)
 have d1:=Ge ns 1 (m:=9) (by decide)
 have d2:=He ns 1 (m:=9) (by decide)
 have d3:=Ge ns 4 (m:=4) (by decide)
 have d4:=He ns 4 (m:=4) (by decide)
 have u1:=Ge ns 80 (m:=5) (by decide)
 have u2:=He ns 80 (m:=5) (by decide)
 have v1:=Ge ns 81 (m:=4) (by decide)
 have v2:=He ns 81 (m:=4) (by decide)
 obtain ⟨u,hu⟩:∃ u:Nat,Kh ns 80 5=(u:Nat):=⟨(Kh ns 80 5).toNat,by omega⟩
 obtain ⟨v,hv⟩:∃ v:Nat,Kh ns 81 4=(v:Nat):=⟨(Kh ns 81 4).toNat,by omega⟩
 simp only [Lb]
 refine qc (fun σ' H'=>H'=H∧σ'=[some (.ref a),some (.int (4 + Kh ns 1 9)),none,none,none,none,none,none,none]) (fun D hD _ _ _=>?_) ?_
 ·(walk_at "RD"; repeat (simp only [Td];walk_at "RD"))
  exact ⟨S,by omega,by omega,by decide,hD _ _ ⟨rfl,rfl⟩⟩
 rintro σ1 H3 ⟨rfl,rfl⟩
 generalize hnn:4 + Kh ns 1 9=n
 have hn:4 ≤ n∧n ≤ 12:=by omega
 simp only [Lb]
 refine qc (fun σ' H'=>∃ wl,H3 wl=none∧H'=upd H3 wl (.lst [])∧σ'=[some (.ref a),some (.int n),some (.ref wl),none,none,none,none,none,none]) (fun D hD _ _ _=>?_) ?_
 ·(walk_at "RD")
  exact ⟨Nat.zero_le _,fun wl hwl=>hD _ _ ⟨wl,hwl,rfl,rfl⟩⟩
 rintro σ1 H4 ⟨wl,hwl,rfl,rfl⟩
 have S1:=S.new (o:=.lst []) hwl
 have s1:Kb H3 (upd H3 wl (.lst [])):=jb hwl
 have w1:(upd H3 wl (.lst [])) wl=some (.lst []):=cb
 generalize upd H3 wl (.lst [])=H4 at S1 s1 w1 ⊢
 (walk_at "RD"; repeat (simp only [Td];walk_at "RD"))
 refine ⟨S1,by omega,by omega,by decide,by omega,by omega,?_⟩
 generalize hmm:(1 + Kh ns 4 4).toNat=m
 refine Vh.range (fun i σ H'=>Sc K a ns H'∧Kb H3 H'∧(∃ ds,LW H' wl ds∧(∀ d ∈ ds,WOk n d∧d.off ≤ 8∧d.least ≤ 4)∧(∀ (j:Nat) (d:WD),ds[j]? = some d→d.name=nm6 u v j)∧ds.length=i)∧∃ x1 x2 x3 x4 x5 x6,σ=[some (.ref a),some (.int n),some (.ref wl),x1,x2,x3,x4,x5,x6]) ?_ ?_ ?_
 ·exact ⟨S1,s1,⟨[],⟨[],w1,rfl,fun i q d h=>by simp at h⟩,fun d h=>by simp at h,fun j d h=>by simp at h,rfl⟩,none,none,none,none,none,none,rfl⟩
 ·rintro i σ H' hi ⟨S2,s2,⟨ds,L,dw,dn,hdl⟩,x1,x2,x3,x4,x5,x6,rfl⟩
  have hi4:i < 4:=by omega
  have g1:=Ge ns (40 + (i:Int)) (m:=n) (by omega)
  have g2:=He ns (40 + (i:Int)) (m:=n) (by omega)
  have g3:=Ge ns (60 + (i:Int)) (m:=n - 1) (by omega)
  have g4:=He ns (60 + (i:Int)) (m:=n - 1) (by omega)
  have g5:=Ge ns (20 + (i:Int)) (m:=3) (by decide)
  have g6:=He ns (20 + (i:Int)) (m:=3) (by decide)
  have g7:=Ge ns (100 + (i:Int)) (m:=9) (by omega)
  have g8:=He ns (100 + (i:Int)) (m:=9) (by omega)
  have g9:=Ge ns (120 + (i:Int)) (m:=9) (by decide)
  have g10:=He ns (120 + (i:Int)) (m:=9) (by decide)
  have g11:=Ge ns (140 + (i:Int)) (m:=4) (by decide)
  have g12:=He ns (140 + (i:Int)) (m:=4) (by decide)
  generalize hst:Kh ns (40 + (i:Int)) n=st at g1 g2
  generalize hfi:(st + 1 + Kh ns (60 + (i:Int)) (n - 1)) % n=fi
  have hfb:(0 ≤ fi∧fi < n)∧st ≠ fi:=by
   subst hfi
   exact ⟨⟨Int.emod_nonneg _ (by omega),Int.emod_lt_of_pos _ (by omega)⟩,kL g1 g2 g3 g4⟩
  simp only [qg,Lb,List.set_cons_succ,List.set_cons_zero,Int.zero_add]
  refine qc (fun σ' H2=>Kb H' H2∧Sc K a ns H2∧∃ k:Nat,k < 3∧σ'=[some (.ref a),some (.int n),some (.ref wl),some (.int (i:Nat)),some (.str (Nd k)),x3,x4,x5,x6]) (fun D hD _ _ _=>?_) ?_
  ·(walk_at "RD"; repeat (simp only [Td];walk_at "RD"))
   refine ⟨by decide,fun p1 hp1=>⟨S2.new hp1,by omega,by omega,by decide,?_⟩⟩
   exact ⟨_,SqL.of cb,_,QH g5 g6,hD _ _ ⟨jb hp1,S2.new hp1,_,by omega,rfl⟩⟩
  rintro σ2 H7 ⟨s5,S5,k',hk',rfl⟩
  simp only [Lb]
  refine qc (fun σ' H2=>H2=H7∧σ'=[some (.ref a),some (.int n),some (.ref wl),some (.int (i:Nat)),some (.str (Nd k')),some (.int st),x4,x5,x6]) (fun D hD _ _ _=>?_) ?_
  ·(walk_at "RD"; repeat (simp only [Td];walk_at "RD"))
   rw [hst]
   exact ⟨S5,by omega,by omega,by omega,hD _ _ ⟨rfl,rfl⟩⟩
  rintro σ2 H8 ⟨rfl,rfl⟩
  simp only [Lb]
  refine qc (fun σ' H2=>H2=H8∧σ'=[some (.ref a),some (.int n),some (.ref wl),some (.int (i:Nat)),some (.str (Nd k')),some (.int st),some (.int fi),x5,x6]) (fun D hD _ _ _=>?_) ?_
  ·(walk_at "RD"; repeat (simp only [Td];walk_at "RD"))
   rw [hfi]
   exact ⟨S5,by omega,by omega,by omega,by omega,hD _ _ ⟨rfl,rfl⟩⟩
  rintro σ2 H9 ⟨rfl,rfl⟩
  simp only [Lb]
  refine qc (fun σ' H2=>H2=H9∧σ'=[some (.ref a),some (.int n),some (.ref wl),some (.int (i:Nat)),some (.str (Nd k')),some (.int st),some (.int fi),some (.str (nm6 u v i)),x6]) (fun D hD _ _ _=>?_) ?_
  ·(walk_at "RD"; repeat (simp only [Td];walk_at "RD"))
   rw [hu,hv]
   have hnl:(nm6 u v i).length ≤ 8:=((Uf (Ny (k:=i) (by omega) (by omega))).1).2
   unfold nm6 at hnl
   rw [Jj,Jj] at hnl
   refine ⟨S5,by omega,by omega,by decide,by decide +kernel,by decide +kernel,_,kK i hi4,hbig _ (by omega),S5,by omega,by omega,by decide,by decide +kernel,hbig _ (by rw [Jj];omega),hD _ _ ⟨rfl,rfl⟩⟩
  rintro σ2 H10 ⟨rfl,rfl⟩
  simp only [Lb]
  refine qc (fun σ' H2=>Kb H10 H2∧Sc K a ns H2∧∃ np,H2 np=some (.tup [.int st,.int fi,.int (Kh ns (100 + (i:Int)) 9),.int (Kh ns (120 + (i:Int)) 9)])∧σ'=[some (.ref a),some (.int n),some (.ref wl),some (.int (i:Nat)),some (.str (Nd k')),some (.int st),some (.int fi),some (.str (nm6 u v i)),some (.ref np)]) (fun D hD _ _ _=>?_) ?_
  ·(walk_at "RD"; repeat (simp only [Td];walk_at "RD"))
   exact ⟨S5,by omega,by omega,by decide,S5,by omega,by omega,by decide,by decide,fun np hnp=>hD _ _ ⟨jb hnp,S5.new hnp,np,cb,rfl⟩⟩
  rintro σ2 H11 ⟨s11,S11,np,hnp,rfl⟩
  obtain ⟨qs,l1,l2,al⟩:=(L.same s5).same s11
  have hwok:WOk n ⟨k',nm6 u v i,st,fi,Kh ns (100 + (i:Int)) 9,Kh ns (120 + (i:Int)) 9,1 + Kh ns (140 + (i:Int)) 4⟩:=
   ⟨hk',Ny (by omega) (by omega),⟨g1,g2⟩,hfb.1,hfb.2,⟨g7,by show Kh ns (100 + (i:Int)) 9 ≤ 30;omega⟩,⟨g9,by show Kh ns (120 + (i:Int)) 9 ≤ 30;omega⟩,⟨by show 1 ≤ 1 + Kh ns (140 + (i:Int)) 4;omega,by show 1 + Kh ns (140 + (i:Int)) 4 ≤ 60;omega⟩⟩
  (walk_at "RD"; repeat (simp only [Td];walk_at "RD"))
  refine ⟨.inl ⟨_,SqL.of l1⟩,by decide,fun p1 hp1=>?_⟩
  obtain ⟨Ha,ea⟩:∃ Hx:Hp,Hx=upd H11 p1 (.tup [.str (Nd k'),.str (nm6 u v i)]):=⟨_,rfl⟩
  rw [← ea]
  have sa:Kb H11 Ha:=by rw [ea];exact jb hp1
  have Sa:Sc K a ns Ha:=by rw [ea];exact S11.new hp1
  have ua:Ha p1=some (.tup [.str (Nd k'),.str (nm6 u v i)]):=by rw [ea];exact cb
  clear ea
  refine ⟨_,SqT.of ua,_,SqT.of (sa _ _ hnp),by simp,by show 2 + 4 ≤ sizeLine;decide,(fun z=>by cases z),fun _ p2 hp2=>?_⟩
  obtain ⟨Hb,eb⟩:∃ Hx:Hp,Hx=upd Ha p2 (.tup ([V.str (Nd k'),.str (nm6 u v i)] ++ [.int st,.int fi,.int (Kh ns (100 + (i:Int)) 9),.int (Kh ns (120 + (i:Int)) 9)])):=⟨_,rfl⟩
  rw [← eb]
  have sb:Kb Ha Hb:=by rw [eb];exact jb hp2
  have Sb:Sc K a ns Hb:=by rw [eb];exact Sa.new hp2
  have ub:Hb p2=some (.tup ([V.str (Nd k'),.str (nm6 u v i)] ++ [.int st,.int fi,.int (Kh ns (100 + (i:Int)) 9),.int (Kh ns (120 + (i:Int)) 9)])):=by rw [eb];exact cb
  clear eb
  refine ⟨Sb,by omega,by omega,by decide,by decide,fun p3 hp3=>?_⟩
  obtain ⟨Hc,ec⟩:∃ Hx:Hp,Hx=upd Hb p3 (.tup [.int (1 + Kh ns (140 + (i:Int)) 4)]):=⟨_,rfl⟩
  rw [← ec]
  have sc:Kb Hb Hc:=by rw [ec];exact jb hp3
  have Sc':Sc K a ns Hc:=by rw [ec];exact Sb.new hp3
  have uc:Hc p3=some (.tup [.int (1 + Kh ns (140 + (i:Int)) 4)]):=by rw [ec];exact cb
  clear ec
  refine ⟨_,SqT.of (sc _ _ ub),_,SqT.of uc,by simp,by show 6 + 1 ≤ sizeLine;decide,(fun z=>by cases z),fun _ p4 hp4=>?_⟩
  have sac:=(sa.trans sb).trans sc
  have l1c:=sac _ _ l1
  have alc:∀ (i:Nat) (q:Addr) (d:WD),qs[i]? = some q→ds[i]? = some d→Hc q=some (.tup (Am d)):=fun i q d x y=>sac _ _ (al i q d x y)
  have hwp:wl ≠ p4:=qb l1c hp4
  have L':=LW.snoc (d:=⟨k',nm6 u v i,st,fi,Kh ns (100 + (i:Int)) 9,Kh ns (120 + (i:Int)) 9,1 + Kh ns (140 + (i:Int)) 4⟩) l1c l2 alc hp4
  refine ⟨_,by rw [lb hwp];exact l1c,Nat.lt_of_le_of_lt (show (qs.map V.ref).length ≤ 12 by rw [List.length_map];omega) (by decide),?_,?_,⟨_,L',fun d hd=>?_,fun j d hd=>?_,by rw [List.length_append,hdl];rfl⟩,by repeat (first | exact ⟨_,rfl⟩ | refine ⟨⟨_,rfl⟩,?_⟩)⟩
  ·exact (Sc'.new hp4).set (by rw [lb hwp];exact l1c) (fun ob z e=>by cases e)
  ·exact (((((s2.trans s5).trans s11).trans sac).trans (jb hp4)).updN hwl)
  ·rcases List.mem_append.mp hd with z | z
   ·exact dw d z
   ·rw [List.mem_singleton.mp z]
    exact ⟨hwok,by show Kh ns (100 + (i:Int)) 9 ≤ 8;omega,by show 1 + Kh ns (140 + (i:Int)) 4 ≤ 4;omega⟩
  ·rcases Te hd with ⟨_,z⟩ | ⟨z1,rfl⟩
   ·exact dn j d z
   ·rw [z1,hdl]
 ·rintro σ H' ⟨S2,s2,⟨ds,L,dw,dn,hdl⟩,x1,x2,x3,x4,x5,x6,rfl⟩
  (walk_at "RD")
  refine ⟨by decide,fun tp htp=>?_⟩
  exact q tp wl n ds _ (s2.trans (jb htp)) (S2.new htp) cb (L.same (jb htp)) ⟨by omega,dw,u,v,by omega,by omega,dn⟩ hn (by omega)
end
end My
namespace My
open PySem L2
theorem bL (d:WD):((((Nd d.k ++ Str.ofString " ") ++ d.name) ++ Str.ofString " ") ++ Txt.join (Str.ofString " ") [num d.start,num d.fin,num d.off,num d.near,num d.least])=Str.join bk (Fj d):=by
 apply Dw
 have e5:(Str.ofString " ").cps.toList=[32]:=by decide +kernel
 rw [show Txt.join (Str.ofString " ") [num d.start,num d.fin,num d.off,num d.near,num d.least]=Str.join bk [num d.start,num d.fin,num d.off,num d.near,num d.least] from StrLaws.glued_eq_join _ _]
 rw [Str.cps_append,Array.toList_append,zI,Rm,Rm]
 unfold Fj
 simp only [Str.cps_append,Array.toList_append,List.map_cons,List.map_nil,jl,e5,List.append_assoc,List.cons_append,List.nil_append]
theorem KH (n:Int):Str.ofString "ring " ++ num n=Str.join bk [Str.ofString "ring",num n]:=by
 apply Dw
 have e1:(Str.ofString "ring ").cps.toList=[114,105,110,103,32]:=by decide +kernel
 have e2:(Str.ofString "ring").cps.toList=[114,105,110,103]:=by decide +kernel
 rw [zI,Rm]
 simp only [Str.cps_append,Array.toList_append,List.map_cons,List.map_nil,jl,e1,e2,List.cons_append,List.nil_append]
theorem XG {B:Nat}:∀ {ys:List Str},(∀ y ∈ ys,y.length ≤ B)→(ys.map (·.length)).sum ≤ ys.length * B
 | [],_=>by simp
 | a :: r,h=>by
  have h1:=h a (by simp)
  have h2:=XG (B:=B) (ys:=r) fun y hy=>h y (List.mem_cons_of_mem _ hy)
  rw [List.map_cons,List.sum_cons,List.length_cons,Nat.succ_mul];omega
theorem pI {n:Int} {ds:List WD} (h:COk n ds):∀ y ∈ (Ih n ds).map (Str.join bk),y.length ≤ 63:=fun y hy=>by
 obtain ⟨r,hr,rfl⟩:=List.mem_map.mp hy
 have:=wq bk 8 r fun x hx=>(h.plain r hr x hx).1
 rw [uv] at this
 have hl:r.length ≤ 7:=by
  rcases List.mem_cons.mp hr with rfl | hr
  ·simp
  ·obtain ⟨d,hd,rfl⟩:=List.mem_map.mp hr
   simp [Fj]
 omega
noncomputable def yy (K:PySem.W.Frag):Sp:=fun vs H Q _=>∃ n wl ds,vs=[.int n,.ref wl]∧LW H wl ds∧fu n ds∧(2 ≤ n∧n ≤ 99)∧(1 ≤ ds.length∧ds.length ≤ 12)∧NoT H∧Q (.str (Zs n ds)) H
noncomputable def PB (K:PySem.W.Frag):Sp:=fun vs H Q _=>∃ n wl ds,vs=[.int n,.ref wl]∧LW H wl ds∧fu n ds∧(2 ≤ n∧n ≤ 99)∧(1 ≤ ds.length∧ds.length ≤ 12)∧∀ H',Kb H H'→Q (.str (Zs n ds)) H'
section
variable {P:Program} {w:World} {K:PySem.W.Frag} {mg:Str→Option Value} {base:Heap} {t:Adr}
theorem xF (T:Txt w K mg t):Fb P w K mg base CX0 1 t.gi t.Di ["_law_places","_law_ways_here"] (yy K):=by
 refine Fb.forget (sp:=PB K) ?_ fun vs H Q E h=>?_
 ·refine T.xl.ok vj (fun vs H Q E h=>?_) (fun cdv A outer s H vs Q E hr h=>?_)
  ·obtain ⟨n,wl,ds,rfl,_⟩:=h;rfl
  obtain ⟨n,wl,ds,rfl,L,D,hn,hl,q⟩:=h
  refine ⟨_,(db (Ab (i:=2) vj.nd rfl (Or.inl rfl) (Rf (bb (Ib jf ac (Dg Gj rfl T.yI wn (bb (pv 0) fb))) fb)))
   (db (Vd PassesOwn.never rfl (Ec (pv 1)) (wb (i:=3) vj.nd rfl (Or.inl rfl)) (gb (Ac (Kl PySem.F.plainAttrs_list PySem.F.slot_list_append PySem.F.type_list_append Qf (pv 2) (bb (Ib jf (Ib jf (Ib jf (Ib jf (zc Lc (pv 3) pb (fun _ _=>rfl)) ac) (zc Lc (pv 3) pb (fun _ _=>rfl))) ac) (Kl PySem.F.plainAttrs_str PySem.F.slot_str_join PySem.F.type_str_join lA ac (bb (eg rfl (AK (Ho tM (pv 3) (et pb) ut)) (Nc (sc:=ib Yk) rfl (by decide +kernel)) (N:=["_law_number"]) (sel:=[none]) (Jd (M:=["_law_places","_law_ways_here","_law_rows","_law_way"]) (by decide +kernel)) (Blk.of (fun _ _ _ _=>(wb (i:=0) (ug (N:=["_law_number"]) (by decide +kernel) rfl) rfl (Or.inl rfl))) (fun _ _ _ _=>⟨_,ff,by first | rfl | (dsimp only [Cx.block];done) | (dsimp only [Cx.block];exact rfl)⟩) (fun _ _ _ _=>⟨_,(Dg Gj rfl T.yI wn (bb (pv 0) fb)),by first | rfl | (dsimp only [Cx.block];done) | (dsimp only [Cx.block];exact rfl)⟩))) fb))) fb)))))
   (gb (Db (Kl PySem.F.plainAttrs_str PySem.F.slot_str_join PySem.F.type_str_join lA ac (bb (pv 2) fb)))))),?_⟩
  have hC:=D.cok hn hl
  obtain ⟨qs,l1,l2,al⟩:=L
  have hlen:∀ x:Str,bx x→x.length ≤ 8:=fun x h=>h.1
  have hbig:∀ k:Nat,k ≤ 1000→k ≤ sizeLine:=fun k h=>Nat.le_trans h (by decide)
  have hr5:(Str.ofString "ring ").length=5:=by decide +kernel
  have hb1:(Str.ofString " ").length=1:=by decide +kernel
  (walk_at "RD")
  have hn8:(Str.ofString (toString n)).length ≤ 8:=(fe (v:=n) (by omega) (by omega)).1
  refine ⟨bq (by omega),hbig _ (by rw [hr5];omega),by decide,fun rl hrl'=>?_⟩
  rw [KH]
  have s0:Kb H (upd H rl (.lst [V.str (Str.join bk [Str.ofString "ring",num n])])):=jb hrl'
  refine ⟨⟨_,SqL.of (s0 _ _ l1)⟩,?_⟩
  refine Vh.list (xs:=qs.map V.ref) (fun i σ H'=>Kb H H'∧H' rl=some (.lst (Eb ((Ih n (ds.take i)).map (Str.join bk))))∧∃ x,σ=[some (.int n),some (.ref wl),some (.ref rl),x]) ?_ ?_ ?_ ?_
  ·exact ⟨s0,cb,none,rfl⟩
  ·rintro i σ H' hi ⟨sm,_,_⟩
   exact SqL.of (sm _ _ l1)
  ·rintro i v σ H' hv ⟨sm,hr,x,rfl⟩
   obtain ⟨q',hq,rfl⟩:=Mb hv
   have hid:i < ds.length:=by rw [← l2];exact (List.getElem?_eq_some_iff.mp hq).1
   have hd:ds[i]? = some ds[i]:=List.getElem?_eq_getElem hid
   have hT:SqT K H' q' (Am ds[i]):=SqT.of (sm _ _ (al i q' _ hq hd))
   have hw:=(D.al _ (List.mem_of_getElem? hd)).1
   have b1:=hw.st;have b2:=hw.fi;have b3:=hw.of;have b4:=hw.nr;have b5:=hw.le
   have z1:=hlen _ (Lr ds[i].k)
   have z2:=hlen _ (Es hw.nm)
   have z3:(num ds[i].start).length ≤ 8:=hlen _ (fe (v:=ds[i].start) (by omega) (by omega))
   have z4:(num ds[i].fin).length ≤ 8:=hlen _ (fe (v:=ds[i].fin) (by omega) (by omega))
   have z5:(num ds[i].off).length ≤ 8:=hlen _ (fe (v:=ds[i].off) (by omega) (by omega))
   have z7:(num ds[i].least).length ≤ 8:=hlen _ (fe (v:=ds[i].least) (by omega) (by omega))
   have z6:(num ds[i].near).length ≤ 8:=hlen _ (fe (v:=ds[i].near) (by omega) (by omega))
   (walk_at "RD")
   refine ⟨.inl ⟨_,SqL.of hr⟩,?_⟩
   have at0:atI (Am ds[i]) 0=some (.str (Nd ds[i].k)):=Jb (j:=0) rfl
   have at1:atI (Am ds[i]) 1=some (.str ds[i].name):=Jb (j:=1) rfl
   refine ⟨_,hT,_,at0,_,rfl,hbig _ (by omega),_,hT,_,at1,_,rfl,hbig _ (by rw [Jj];omega),hbig _ (by simp only [Jj];omega),?_⟩
   have hcut:qD (Am ds[i]) (some 2) none=[.int ds[i].start,.int ds[i].fin,.int ds[i].off,.int ds[i].near,.int ds[i].least]:=rfl
   refine ⟨_,hT,?_,fun p hp=>⟨⟨_,SqT.of cb⟩,?_⟩⟩
   ·show ¬ (HT.sIx 7 0 (some 2)=0∧HT.sIx 7 7 none=7)
    decide
   rw [hcut]
   have hjn:(Txt.join (Str.ofString " ") [num ds[i].start,num ds[i].fin,num ds[i].off,num ds[i].near,num ds[i].least]).length ≤ 50:=by
    rw [show Txt.join (Str.ofString " ") [num ds[i].start,num ds[i].fin,num ds[i].off,num ds[i].near,num ds[i].least]=Str.join bk [num ds[i].start,num ds[i].fin,num ds[i].off,num ds[i].near,num ds[i].least] from StrLaws.glued_eq_join _ _]
    have:=wq bk 8 [num ds[i].start,num ds[i].fin,num ds[i].off,num ds[i].near,num ds[i].least] (fun y hy=>by
     simp only [List.mem_cons,List.not_mem_nil,or_false] at hy
     rcases hy with rfl | rfl | rfl | rfl | rfl <;> assumption)
    rw [uv] at this
    simp only [List.length_cons,List.length_nil] at this
    omega
   refine Dd.tup_zs (xs:=[.int ds[i].start,.int ds[i].fin,.int ds[i].off,.int ds[i].near,.int ds[i].least]) (zs:=Eb [num ds[i].start,num ds[i].fin,num ds[i].off,num ds[i].near,num ds[i].least]) (SqT.of cb) (hbig _ (show 5 ≤ 1000 by decide)) rfl (fun j v z N hv hz hN=>?_) (fun p2 hp2=>?_)
   ·have key:∃ a:Int,v=.int a∧z=.str (num a)∧0 ≤ a∧a < 100:=by
     match j,hv,hz with
     | 0,hv,hz=>cases hv;cases hz;exact ⟨_,rfl,rfl,b1.1,by omega⟩
     | 1,hv,hz=>cases hv;cases hz;exact ⟨_,rfl,rfl,b2.1,by omega⟩
     | 2,hv,hz=>cases hv;cases hz;exact ⟨_,rfl,rfl,b3.1,by omega⟩
     | 3,hv,hz=>cases hv;cases hz;exact ⟨_,rfl,rfl,b4.1,by omega⟩
     | 4,hv,hz=>cases hv;cases hz;exact ⟨_,rfl,rfl,by omega,by omega⟩
     | k + 5,hv,hz=>simp at hv
    obtain ⟨a,rfl,rfl,ha0,ha1⟩:=key
    (walk_at "RD")
    exact ⟨Sub.name,bq (by omega),hN⟩
   ·(walk_at "RD")
    have hrp2:rl ≠ p2:=by
     rintro rfl
     rw [lb (qb hr hp)] at hp2
     rw [hp2] at hr;cases hr
    have hrl:(upd (upd H' p (.tup [.int ds[i].start,.int ds[i].fin,.int ds[i].off,.int ds[i].near,.int ds[i].least])) p2 (.lst (Eb [num ds[i].start,num ds[i].fin,num ds[i].off,num ds[i].near,num ds[i].least]))) rl=some (.lst (Eb ((Ih n (ds.take i)).map (Str.join bk)))):=by
     rw [lb hrp2,lb (qb hr hp)];exact hr
    have sm2:Kb H' (upd (upd H' p (.tup [.int ds[i].start,.int ds[i].fin,.int ds[i].off,.int ds[i].near,.int ds[i].least])) p2 (.lst (Eb [num ds[i].start,num ds[i].fin,num ds[i].off,num ds[i].near,num ds[i].least]))):=(jb hp).trans (jb hp2)
    have hsq:=SqL.of (K:=K) (H:=upd (upd H' p (.tup [.int ds[i].start,.int ds[i].fin,.int ds[i].off,.int ds[i].near,.int ds[i].least])) p2 (.lst (Eb [num ds[i].start,num ds[i].fin,num ds[i].off,num ds[i].near,num ds[i].least]))) (a:=p2) cb
    generalize upd (upd H' p (.tup [.int ds[i].start,.int ds[i].fin,.int ds[i].off,.int ds[i].near,.int ds[i].least])) p2 (.lst (Eb [num ds[i].start,num ds[i].fin,num ds[i].off,num ds[i].near,num ds[i].least]))=H2 at hrl sm2 hsq ⊢
    refine ⟨_,hsq,?_,hbig _ (by simp only [Jj];omega),_,hrl,?_,?_,?_,_,rfl⟩
    ·simp only [List.map_cons,List.map_nil,List.sum_cons,List.sum_nil,List.length_cons,List.length_nil]
     omega
    ·rw [bi,List.length_map]
     exact Nat.lt_of_le_of_lt (show (Ih n (ds.take i)).length ≤ 13 by unfold Ih;rw [List.length_cons,List.length_map,List.length_take];omega) (by decide)
    ·exact fun b u e=>by rw [lb (qb e hrl')];exact sm2 _ _ (sm _ _ e)
    ·rw [cb,bL ds[i]]
     congr 2
     unfold Ih Eb
     simp
     rw [List.take_add_one,List.getElem?_map,hd];rfl
  ·rintro σ H' ⟨sm,hr,x,rfl⟩
   (walk_at "RD")
   rw [List.length_map,l2,List.take_length] at hr
   refine ⟨_,SqL.of hr,?_,?_⟩
   ·have h63:∀ y ∈ (Ih n ds).map (Str.join bk),y.length ≤ 63:=pI hC
    have h13:((Ih n ds).map (Str.join bk)).length ≤ 13:=by
     unfold Ih
     rw [List.length_map,List.length_cons,List.length_map];omega
    have:=XG h63
    rw [show (Str.ofString "\n").length=1 by decide +kernel]
    omega
   ·have:=q H' sm
    unfold Zs at this
    rw [show Txt.join (Str.ofString "\n") ((Ih n ds).map (Str.join bk))=Str.join nl ((Ih n ds).map (Str.join bk)) from StrLaws.glued_eq_join _ _]
    exact this
 ·obtain ⟨n,wl,ds,h1,h2,h3,h4,h5,nt,q⟩:=h
  exact ⟨nt,n,wl,ds,h1,h2,h3,h4,h5,fun H' sm=>⟨sm,q⟩⟩
end
section
variable {P:Program} {w:World} {K:PySem.W.Frag} {mg:Str→Option Value} {base:Heap} {t:Adr}
noncomputable def Oy (K:PySem.W.Frag):Sp:=fun vs H Q _=>∃ n a b d e,vs=[.int n,.ref a,.ref b]∧SqT K H a (Am d)∧SqT K H b (Am e)∧WOk n d∧WOk n e∧NoT H∧Q (.bl (mt n d e)) H
noncomputable def FA (K:PySem.W.Frag):Sp:=fun vs H Q _=>∃ n a b d e,vs=[.int n,.ref a,.ref b]∧SqT K H a (Am d)∧SqT K H b (Am e)∧WOk n d∧WOk n e∧∀ H',Kb H H'→Q (.bl (mt n d e)) H'
theorem dG (T:Txt w K mg t):Fb P w K mg base CX0 1 t.di t.mi ["_law_places","_law_one","_law_other"] (Oy K):=by
 refine Fb.forget (sp:=FA K) ?_ fun vs H Q E h=>?_
 ·refine T.Al.ok Yf (fun vs H Q E h=>?_) (fun cdv A outer s H vs Q E hr h=>?_)
  ·obtain ⟨n,a,b,d,e,rfl,_⟩:=h;rfl
  obtain ⟨n,a,b,d,e,rfl,Ta,Tb,hd,he,q⟩:=h
  refine ⟨_,(db (Ae (Yb Dj (zc Lc (pv 1) pb (fun _ _=>rfl)) (zc Lc (pv 2) pb (fun _ _=>rfl)) (dc _)) (gb (Db xo)) Zb)
   (db (Ae (PW.pt (pw (Yb mj (zc Lc (pv 1) pb (fun _ _=>rfl)) (aj (bb (zc Lc (pv 2) pb (fun _ _=>rfl)) (bb (zc Lc (pv 2) pb (fun _ _=>rfl)) fb))) (by with_unfolding_all rfl)) (Is (Yb Dj (zc Lc (pv 1) pb (fun _ _=>rfl)) (zc Lc (pv 2) pb (fun _ _=>rfl)) (dc _))))) (gb (Db xo)) Zb)
   (db (Ab (i:=3) Yf.nd rfl (Or.inl rfl) pb)
   (db (Ab (i:=4) Yf.nd rfl (Or.inl rfl) (zc Lc (pv 1) pb (fun _ _=>rfl)))
   (db (JF PassesOwn.never (Yb xw (pv 4) (zc Lc (pv 1) pb (fun _ _=>rfl)) (dc _)) (db (Ab (i:=4) Yf.nd rfl (Or.inl rfl) (Ib Le (Ib xc (pv 4) pb) (pv 0)))
   (gb (Ae (Yb mj (pv 4) (aj (bb (zc Lc (pv 2) pb (fun _ _=>rfl)) (bb (zc Lc (pv 2) pb (fun _ _=>rfl)) fb))) (by with_unfolding_all rfl)) (gb (Ab (i:=3) Yf.nd rfl (Or.inl rfl) (Ib xc (pv 3) pb))) Zb))))
   (gb (Db (wf Dj (pv 3) pb (dc _))))))))),?_⟩
  have a2:atI (Am d) 2=some (.int d.start):=Jb (j:=2) rfl
  have a3:atI (Am d) 3=some (.int d.fin):=Jb (j:=3) rfl
  have b2:atI (Am e) 2=some (.int e.start):=Jb (j:=2) rfl
  have b3:atI (Am e) 3=some (.int e.fin):=Jb (j:=3) rfl
  have f1:=hd.st;have f2:=hd.fi;have f3:=he.st;have f4:=he.fi
  refine Bc (decide (d.fin=e.fin)) (fun Q hQ=>?_) (fun c=>?_) (fun c=>?_)
  ·(walk_at "RD")
   refine ⟨_,Ta,_,a3,_,Tb,_,b3,rfl,?_⟩
   (walk_at "RD")
   exact hQ
  ·(walk_at "RD")
   have:=q H (Kb.refl H)
   unfold mt Gu at this
   rw [c,Bool.true_or] at this
   exact this
  ·have c':=of_decide_eq_false c
   (walk_at "RD")
   refine rg (fun b H'=>Kb H H'∧b=decide ((d.start=e.start∨d.start=e.fin)∨d.fin=e.start)) (fun Q hQ=>?_) (fun H' ⟨sm,hb⟩=>?_) (fun H' ⟨sm,hb⟩=>?_)
   ·(walk_at "RD")
    refine ⟨_,Ta,_,a2,_,Tb,_,b2,_,Tb,_,b3,by decide,fun p hp=>⟨_,.inr (SqT.of cb),rfl,rfl,?_⟩⟩
    have s1:Kb H (upd H p (.tup [.int e.start,.int e.fin])):=jb hp
    rw [oN]
    by_cases c1:d.start=e.start∨d.start=e.fin
    ·rw [if_pos (decide_eq_true c1)]
     exact hQ _ _ ⟨s1,(decide_eq_true (.inl c1)).symm⟩
    ·rw [if_neg (by simpa using c1)]
     refine ⟨_,Ta.same s1,_,a3,_,Tb.same s1,_,b2,rfl,?_⟩
     refine hQ _ _ ⟨s1,?_⟩
     (walk_at "RD")
     rw [Bool.eq_iff_iff,decide_eq_true_eq,decide_eq_true_eq]
     exact ⟨.inr,fun z=>z.resolve_left c1⟩
   ·(walk_at "RD")
    have hb':=of_decide_eq_true hb.symm
    have:=q H' sm
    unfold mt Gu at this
    rw [c,Bool.false_or,if_pos (by omega)] at this
    exact this
   ·(walk_at "RD")
    have hb':=of_decide_eq_false hb.symm
    refine ⟨_,Ta.same sm,_,a2,?_⟩
    have hL0:0 ≤ (d.fin - d.start) % n:=Int.emod_nonneg _ (by omega)
    have hL1:(d.fin - d.start) % n < n:=Int.emod_lt_of_pos _ (by omega)
    refine YA (fun σ H2=>Kb H H2∧∃ i:Nat,(i:Int) ≤ (d.fin - d.start) % n∧σ=[some (.int n),some (.ref a),some (.ref b),some (.int (ind n d.start e.start i + ind n d.start e.fin i)),some (.int ((d.start + i) % n))])
     (fun σ _=>match σ with | [_,_,_,_,some (.int p)]=>((d.fin - d.start) % n - (p - d.start) % n).toNat | _=>0) ?_ ?_
    ·refine ⟨sm,0,hL0,?_⟩
     have i0:∀ p,ind n d.start p ((0:Nat):Int)=0:=fun p=>by unfold ind;rw [if_neg (by omega)]
     rw [i0,i0,show (d.start + ((0:Nat):Int)) % n=d.start by rw [show d.start + ((0:Nat):Int)=d.start by omega];exact Int.emod_eq_of_lt f1.1 f1.2];rfl
    ·rintro σ H2 ⟨sm2,i,hi,rfl⟩
     have hdn:((d.start + i) % n - d.start) % n=i:=(xv (n:=n) (s:=d.start) (p:=(d.start + i) % n) (j:=i) f1.1 f1.2 (Int.emod_nonneg _ (by omega)) (Int.emod_lt_of_pos _ (by omega)) (by omega) (by omega)).mp rfl
     refine ⟨!decide ((d.start + i) % n=d.fin),fun Q hQ=>?_,fun c2=>?_,fun c2=>?_⟩
     ·(walk_at "RD")
      refine ⟨_,Ta.same sm2,_,a3,rfl,?_⟩
      (walk_at "RD")
      exact hQ
     ·have c3:¬ (d.start + i) % n=d.fin:=by simpa using c2
      have hlt:(i:Int) < (d.fin - d.start) % n:=by
       have:(i:Int) ≠ (d.fin - d.start) % n:=fun z=>c3 ((xv f1.1 f1.2 f2.1 f2.2 (by omega) (by omega)).mpr z.symm)
       omega
      have e1:((d.start + i) % n + 1) % n=(d.start + ((i + 1:Nat):Int)) % n:=by
       rw [Int.add_emod,Int.emod_emod_of_dvd _ (Int.dvd_refl n),← Int.add_emod]
       congr 1;omega
      have hdn':((d.start + ((i + 1:Nat):Int)) % n - d.start) % n=((i + 1:Nat):Int):=(xv (n:=n) (s:=d.start) (p:=(d.start + ((i + 1:Nat):Int)) % n) (j:=((i + 1:Nat):Int)) f1.1 f1.2 (Int.emod_nonneg _ (by omega)) (Int.emod_lt_of_pos _ (by omega)) (by omega) (by omega)).mp rfl
      have k1:=Gy (n:=n) (s:=d.start) (p:=e.start) (i:=i) f1.1 f1.2 f3.1 f3.2 (by omega) (by omega)
      have k2:=Gy (n:=n) (s:=d.start) (p:=e.fin) (i:=i) f1.1 f1.2 f4.1 f4.2 (by omega) (by omega)
      have hne:e.start ≠ e.fin:=he.ne
      have ei:((i + 1:Nat):Int)=(i:Int) + 1:=by omega
      (walk_at "RD")
      refine ⟨by omega,?_⟩
      rw [e1]
      refine rg (fun b H3=>Kb H H3∧b=decide ((d.start + ((i + 1:Nat):Int)) % n=e.start∨(d.start + ((i + 1:Nat):Int)) % n=e.fin)) (fun Q hQ=>?_) (fun H3 ⟨sm3,h3⟩=>?_) (fun H3 ⟨sm3,h3⟩=>?_)
      ·(walk_at "RD")
       refine ⟨_,Tb.same sm2,_,b2,_,Tb.same sm2,_,b3,by decide,fun p hp=>⟨_,.inr (SqT.of cb),rfl,rfl,?_⟩⟩
       rw [oN]
       exact hQ _ _ ⟨sm2.trans (jb hp),rfl⟩
      ·have h3':=of_decide_eq_true h3.symm
       rw [ei] at h3'
       (walk_at "RD")
       refine ⟨sm3,⟨i + 1,by omega,?_,rfl⟩,?_⟩
       ·rw [ei,k1,k2]
        rcases h3' with z | z
        ·rw [if_pos z,if_neg (fun y=>hne (by rw [← z,← y]))];omega
        ·rw [if_pos z,if_neg (fun y=>hne (by rw [← z,← y]))];omega
       ·rw [hdn,hdn'];omega
      ·have h3':=of_decide_eq_false h3.symm
       rw [ei] at h3'
       (walk_at "RD")
       refine ⟨sm3,⟨i + 1,by omega,?_,rfl⟩,?_⟩
       ·rw [ei,k1,k2,if_neg (fun z=>h3' (.inl z)),if_neg (fun z=>h3' (.inr z))];omega
       ·rw [hdn,hdn'];omega
     ·have c3:(d.start + i) % n=d.fin:=by simpa using c2
      have hL:(d.fin - d.start) % n=i:=by rw [← c3];exact hdn
      have:=oF f1 f2 f3 f4 c' hb'
      rw [hL] at this
      (walk_at "RD")
      rw [this]
      exact q H2 sm2
 ·obtain ⟨n,a,b,d,e,h1,h2,h3,h4,h5,nt,q⟩:=h
  exact ⟨nt,n,a,b,d,e,h1,h2,h3,h4,h5,fun H' sm=>⟨sm,q⟩⟩
end
end My
namespace My
open PySem L2
structure LGq (H0 H:Hp) (gl:Addr) (qs:List Addr) (gs:List (List WD)):Prop where
 h1:H gl=some (.lst (qs.map V.ref))
 h2:qs.length=gs.length
 h3:qs.Nodup
 h4:gl ∉ qs
 h5:∀ (i:Nat) (q:Addr) (g:List WD),qs[i]? = some q→gs[i]? = some g→LW H q g
 h6:∀ q ∈ qs,H0 q=none
theorem LGq.same {H0 H H':Hp} {gl:Addr} {qs:List Addr} {gs:List (List WD)} (h:LGq H0 H gl qs gs) (s:Kb H H'):LGq H0 H' gl qs gs:=
 ⟨s _ _ h.h1,h.h2,h.h3,h.h4,fun i q g a b=>(h.h5 i q g a b).same s,h.h6⟩
theorem LGq.sameX {H0 H H':Hp} {gl sl:Addr} {qs:List Addr} {gs:List (List WD)} {xs ys:List V} (h:LGq H0 H gl qs gs) (s:jd sl H H') (h0:H0 sl=some (.lst xs)) (hg:H0 gl=none) (hs:H sl=some (.lst ys)):LGq H0 H' gl qs gs:=by
 refine ⟨s _ _ (fun z=>by rw [z,h0] at hg;cases hg) h.h1,h.h2,h.h3,h.h4,fun i q g a b=>?_,h.h6⟩
 obtain ⟨ws,e1,e2,e3⟩:=h.h5 i q g a b
 have hq:q ≠ sl:=fun z=>by
  have:=h.h6 q (List.mem_of_getElem? a)
  rw [z,h0] at this
  cases this
 refine ⟨ws,s _ _ hq e1,e2,fun k r d x y=>?_⟩
 have e:=e3 k r d x y
 exact s _ _ (Me e hs (by intro z;cases z)) e
theorem LW.put {H:Hp} {p q:Addr} {ds:List WD} {xs ys:List V} (h:LW H q ds) (hp:H p=some (.lst xs)) (hne:q ≠ p):LW (upd H p (.lst ys)) q ds:=by
 obtain ⟨qs,h1,h2,h3⟩:=h
 refine ⟨qs,by rw [lb hne];exact h1,h2,fun i r d a b=>?_⟩
 have e:=h3 i r d a b
 rw [lb (Me e hp (by intro z;cases z))]
 exact e
theorem LGq.put {H0 H:Hp} {gl q w:Addr} {gs:List (List WD)} {j:Nat} {g:List WD} {d:WD} {qs ws:List Addr} (h:LGq H0 H gl qs gs)
  (hq:qs[j]? = some q) (hg:gs[j]? = some g) (hl:H q=some (.lst (ws.map V.ref))) (hwl:ws.length=g.length) (hws:∀ (i:Nat) (r:Addr) (d:WD),ws[i]? = some r→g[i]? = some d→H r=some (.tup (Am d))) (hw:H w=some (.tup (Am d))) :
  LGq H0 (upd H q (.lst (ws.map V.ref ++ [.ref w]))) gl qs (gs.set j (g ++ [d])):=by
 obtain ⟨h1,h2,h3,h4,h5,h6⟩:=h
 have hqg:gl ≠ q:=fun z=>h4 (by rw [z];exact List.mem_of_getElem? hq)
 refine ⟨by rw [lb hqg];exact h1,by rw [List.length_set];exact h2,h3,h4,fun i r g' a b=>?_,h6⟩
 by_cases c:i=j
 ·subst c
  rw [hq] at a
  cases a
  rw [List.getElem?_set_self (List.getElem?_eq_some_iff.mp hg).1] at b
  cases b
  refine ⟨ws ++ [w],by rw [cb,List.map_append];rfl,by rw [List.length_append,List.length_append,hwl];rfl,fun i r e a b=>?_⟩
  have key:H r=some (.tup (Am e)):=by
   rcases Te a with ⟨_,z2⟩ | ⟨z1,rfl⟩
   ·rcases Te b with ⟨_,y2⟩ | ⟨y1,_⟩
    ·exact hws i r e z2 y2
    ·omega
   ·rcases Te b with ⟨y1,_⟩ | ⟨_,rfl⟩
    ·omega
    ·exact hw
  rw [lb (Me key hl (by intro z;cases z))]
  exact key
 ·rw [List.getElem?_set_ne (fun e=>c e.symm)] at b
  have hne:r ≠ q:=fun e=>by
   subst e
   obtain ⟨a1,b1⟩:=List.getElem?_eq_some_iff.mp a
   obtain ⟨a2,b2⟩:=List.getElem?_eq_some_iff.mp hq
   exact c ((List.getElem_inj h3).mp (b1.trans b2.symm))
  exact (h5 i r g' a b).put hl hne
theorem NB {n:Int} {d:WD}:∀ {gs:List (List WD)} {j:Nat} {g:List WD},gs[j]? = some g→(∀ g' ∈ gs.take j,g'.any (fun e=>mt n e d)=true)→g.any (fun e=>mt n e d)=false→On n d gs=gs.set j (g ++ [d])
 | [],j,g,h,_,_=>by simp at h
 | g0 :: gs,0,g,h,_,hf=>by
  cases (show g0=g by simpa using h)
  unfold On
  rw [hf]
  rfl
 | g0 :: gs,j + 1,g,h,ht,hf=>by
  rw [List.getElem?_cons_succ] at h
  unfold On
  rw [ht g0 (by simp)]
  show g0 :: On n d gs=_
  rw [NB h (fun g' hg'=>ht g' (by rw [List.take_succ_cons];exact List.mem_cons_of_mem _ hg')) hf]
  rfl
theorem ky {n:Int} {d:WD}:∀ {gs:List (List WD)},(∀ g' ∈ gs,g'.any (fun e=>mt n e d)=true)→On n d gs=gs ++ [[d]]
 | [],_=>rfl
 | g0 :: gs,h=>by
  unfold On
  rw [h g0 (by simp)]
  show g0 :: On n d gs=_
  rw [ky fun g' hg'=>h g' (List.mem_cons_of_mem _ hg')]
  rfl
noncomputable def Ev (K:PySem.W.Frag):Sp:=fun vs H Q _=>∃ (n:Int) (wl:Addr) (ds:List WD),vs=[.int n,.ref wl]∧LW H wl ds∧(∀ d ∈ ds,WOk n d)∧ds.length ≤ 9∧NoT H∧∀ gl qs H',Kb H H'→NoT H'→H gl=none→LGq H H' gl qs (ic n ds)→Q (.ref gl) H'
theorem LGq.new {H0 H:Hp} {gl p w:Addr} {gs:List (List WD)} {d:WD} {qs:List Addr} (h:LGq H0 H gl qs gs) (h0:Kb H0 H) (hp:H p=none) (hw:H w=some (.tup (Am d))) :
  LGq H0 (upd (upd H p (.lst [.ref w])) gl (.lst (qs.map V.ref ++ [.ref p]))) gl (qs ++ [p]) (gs ++ [[d]]):=by
 have hgp:gl ≠ p:=qb h.h1 hp
 have hnp:p ∉ qs:=fun z=>by
  obtain ⟨i,hi⟩:=List.getElem?_of_mem z
  have il:i < gs.length:=by rw [← h.h2];exact (List.getElem?_eq_some_iff.mp hi).1
  obtain ⟨ws,e,_⟩:=h.h5 i p _ hi (List.getElem?_eq_getElem il)
  rw [hp] at e
  cases e
 refine ⟨by rw [cb,List.map_append];rfl,by rw [List.length_append,List.length_append,h.h2];rfl,?_,?_,fun i q g a b=>?_,fun q hq=>?_⟩
 ·refine List.nodup_append.mpr ⟨h.h3,by simp,fun x hx y hy e=>?_⟩
  rw [List.mem_singleton.mp hy] at e
  rw [e] at hx
  exact hnp hx
 ·intro z
  rcases List.mem_append.mp z with z | z
  ·exact h.h4 z
  ·exact hgp (List.mem_singleton.mp z)
 ·rcases Te a with ⟨z1,z2⟩ | ⟨z1,rfl⟩
  ·rcases Te b with ⟨_,y2⟩ | ⟨y1,_⟩
   ·have L:=h.h5 i q g z2 y2
    have hqg:q ≠ gl:=fun z=>h.h4 (by rw [← z];exact List.mem_of_getElem? z2)
    exact (L.same (jb hp)).put (by rw [lb hgp];exact h.h1) hqg
   ·have:=h.h2;omega
  ·rcases Te b with ⟨y1,_⟩ | ⟨_,rfl⟩
   ·have:=h.h2;omega
   ·refine ⟨[w],by rw [lb hgp.symm,cb];rfl,rfl,fun k r e x y=>?_⟩
    have hk:k=0:=by have:=(List.getElem?_eq_some_iff.mp x).1;simp at this;exact this
    subst hk
    cases x
    cases y
    rw [lb (Me hw h.h1 (by intro z;cases z)),lb (qb hw hp)]
    exact hw
 ·rcases List.mem_append.mp hq with z | z
  ·exact h.h6 q z
  ·rw [List.mem_singleton.mp z];exact h0.free hp
section
variable {P:Program} {w:World} {K:PySem.W.Frag} {mg:Str→Option Value} {base:Heap} {t:Adr}
theorem eA (T:Txt w K mg t):Fb P w K mg base CX0 2 t.xg t.ng ["_law_places","_law_ways_here"] (Ev K):=by
 have G__law_meet:Fb P w K mg base CX0 1 t.di t.mi ["_law_places","_law_one","_law_other"] (Oy K):=dG T
 refine T.oi.ok ie (fun vs H Q E h=>?_) (fun cdv A outer s H vs Q E hr h=>?_)
 ·obtain ⟨n,wl,ds,rfl,_⟩:=h;rfl
 obtain ⟨n,wl,ds,rfl,L,hw,hdl,nt,q⟩:=h
 obtain ⟨ql,l1,l2,lal⟩:=id L
 refine ⟨_,(db (Ab (i:=2) ie.nd rfl (Or.inl rfl) (Rf fb))
   (db (Vd PassesOwn.never rfl (Ec (pv 1)) (wb (i:=3) ie.nd rfl (Or.inr rfl)) (db (Ab (i:=4) ie.nd rfl (Or.inl rfl) xo)
   (db (Vd PassesOwn.never rfl (Ec (pv 2)) (wb (i:=5) ie.nd rfl (Or.inl rfl)) (gb (Ae (PW.pt (Wx (wm (Ck (pv 4))) (Yt (wm (Ms (eg rfl (Ec (pv 5)) (Nc (sc:=ib ki) rfl (by decide +kernel)) (N:=["_law_one","_law_places","_law_way"]) (sel:=[none,some 0,some 3]) (Jd (M:=["_law_places","_law_ways_here","_law_groups_here","_law_way","_law_put","_law_group"]) (by decide +kernel)) (Blk.of (fun _ _ _ _=>(wb (i:=0) (ug (N:=["_law_one","_law_places","_law_way"]) (by decide +kernel) rfl) rfl (Or.inl rfl))) (fun _ _ _ _=>⟨_,(eu (Ck (xb G__law_meet hr rfl T.xx T.Al.kp T.Rw .nil Cb (bb (pv 1) (bb (pv 0) (bb (pv 2) fb)))))),by first | rfl | (dsimp only [Cx.block];done) | (dsimp only [Cx.block];exact rfl)⟩) (fun _ _ _ _=>⟨_,(pv 0),by first | rfl | (dsimp only [Cx.block];done) | (dsimp only [Cx.block];exact rfl)⟩))) (fun _=>rfl)))))) (db (Ac (Kl PySem.F.plainAttrs_list PySem.F.slot_list_append PySem.F.type_list_append Qf (pv 5) (bb (pv 3) fb)))
   (gb (Ab (i:=4) ie.nd rfl (Or.inl rfl) xo))) Zb)))
   (gb (Ae (wm (Ck (pv 4))) (gb (Ac (Kl PySem.F.plainAttrs_list PySem.F.slot_list_append PySem.F.type_list_append Qf (pv 2) (bb (Rf (bb (pv 3) fb)) fb)))) Zb)))))
   (gb (Db (pv 2))))),?_⟩
 simp only [Lb]
 refine qc (fun σ' H'=>Kb H H'∧NoT H'∧∃ gl,H gl=none∧H' gl=some (.lst [])∧σ'=[some (.int n),some (.ref wl),some (.ref gl),none,none,none]) (fun D hD _ _ _=>?_) ?_
 ·(walk_at "RD")
  exact ⟨Nat.zero_le _,fun gl hgl=>hD _ _ ⟨jb hgl,nt.upd,gl,hgl,cb,rfl⟩⟩
 rintro σ1 H1 ⟨s1,n1,gl,hgl,w1,rfl⟩
 (walk_at "RD")
 refine ⟨⟨_,SqL.of (s1 _ _ l1)⟩,?_⟩
 refine Vh.list (xs:=ql.map V.ref) (fun i σ H'=>Kb H H'∧NoT H'∧(∃ qs,LGq H H' gl qs (ic n (ds.take i)))∧∃ x1 x2 x3,σ=[some (.int n),some (.ref wl),some (.ref gl),x1,x2,x3]) ?_ ?_ ?_ ?_
 ·exact ⟨s1,n1,⟨[],w1,rfl,List.nodup_nil,by simp,fun i q g h=>by simp at h,fun q h=>by simp at h⟩,_,_,_,rfl⟩
 ·rintro i σ H' hi ⟨sm,_⟩
  exact SqL.of (sm _ _ l1)
 ·rintro i v σ H' hv ⟨s2,n2,⟨qs,G⟩,x1,x2,x3,rfl⟩
  obtain ⟨wi,hwi,rfl⟩:=Mb hv
  have hid:i < ds.length:=by rw [← l2];exact (List.getElem?_eq_some_iff.mp hwi).1
  have hd:ds[i]? = some ds[i]:=List.getElem?_eq_getElem hid
  have ht0:=lal i wi _ hwi hd
  have hwd:=hw _ (List.mem_of_getElem? hd)
  have enx:ic n (ds.take (i + 1))=On n ds[i] (ic n (ds.take i)):=by rw [ge hd,gx]
  have hmem:∀ g ∈ ic n (ds.take i),∀ e ∈ g,WOk n e:=fun g hg e he=>by
   have:=(kf n (ds.take i)).mem_iff.mp (List.mem_flatten.mpr ⟨g,hg,he⟩)
   exact hw e (List.mem_of_mem_take this)
  have hgl9:∀ g ∈ ic n (ds.take i),g.length ≤ 9:=fun g hg=>by
   have h1:=(kf n (ds.take i)).length_eq
   have h2:=(List.sublist_flatten_of_mem hg).length_le
   rw [List.length_take] at h1
   omega
  have hgsl:(ic n (ds.take i)).length ≤ 9:=by
   have h1:=(kf n (ds.take i)).length_eq
   have h2:=Ss (Jv n (ds.take i))
   rw [List.length_take] at h1
   omega
  generalize ic n (ds.take i)=gs at G enx hmem hgl9 hgsl
  simp only [qg,Lb,List.set_cons_succ,List.set_cons_zero]
  refine qc (fun σ' H2=>H2=H'∧σ'=[some (.int n),some (.ref wl),some (.ref gl),some (.ref wi),some (.bl false),x3]) (fun D hD _ _ _=>?_) ?_
  ·(walk_at "RD")
   exact hD _ _ ⟨rfl,rfl⟩
  rintro σ3 H3 ⟨rfl,rfl⟩
  simp only [Lb]
  refine qc (fun σ' H4=>Kb H H4∧NoT H4∧∃ (p:Bool) (x3:Option V),(p=false→LGq H H4 gl qs gs∧∀ g' ∈ gs,g'.any (fun e=>mt n e ds[i])=true)∧(p=true→LGq H H4 gl qs (On n ds[i] gs))∧σ'=[some (.int n),some (.ref wl),some (.ref gl),some (.ref wi),some (.bl p),x3]) (fun D hD _ _ _=>?_) ?_
  ·(walk_at "RD")
   refine ⟨⟨_,SqL.of G.h1⟩,?_⟩
   refine Vh.list (xs:=qs.map V.ref) (fun j σ H4=>Kb H H4∧NoT H4∧∃ (p:Bool) (x3:Option V),(p=false→LGq H H4 gl qs gs∧∀ g' ∈ gs.take j,g'.any (fun e=>mt n e ds[i])=true)∧(p=true→LGq H H4 gl qs (On n ds[i] gs))∧σ=[some (.int n),some (.ref wl),some (.ref gl),some (.ref wi),some (.bl p),x3]) ?_ ?_ ?_ ?_
   ·exact ⟨s2,n2,false,_,fun _=>⟨G,fun g' h=>by simp at h⟩,(fun z=>nomatch z),rfl⟩
   ·rintro j σ H4 hj ⟨s4,n4,p,x3,hp0,hp1,rfl⟩
    cases p with
    | false=>exact SqL.of (hp0 rfl).1.h1
    | true=>exact SqL.of (hp1 rfl).h1
   ·rintro j v σ H4 hv ⟨s4,n4,p,x3,hp0,hp1,rfl⟩
    obtain ⟨qj,hqj,rfl⟩:=Mb hv
    have hjg:j < gs.length:=by rw [← G.h2];exact (List.getElem?_eq_some_iff.mp hqj).1
    have hgj:gs[j]? = some gs[j]:=List.getElem?_eq_getElem hjg
    have ht4:=s4 _ _ ht0
    simp only [qg,Lb,List.set_cons_succ,List.set_cons_zero]
    refine rg (fun b H5=>Kb H4 H5∧NoT H5∧(b=true→p=false∧gs[j].any (fun e=>mt n e ds[i])=false)∧(b=false→p=true∨gs[j].any (fun e=>mt n e ds[i])=true)) (fun Q hQ=>?_) (fun H5 r=>?_) (fun H5 r=>?_)
    ·(walk_at "RD")
     cases p with
     | true=>
      rw [if_neg (by decide)]
      exact hQ _ _ ⟨Kb.refl _,n4,(fun z=>nomatch z),fun _=>.inl rfl⟩
     | false=>
      rw [if_pos (show (!false)=true from rfl)]
      obtain ⟨G4,hall⟩:=hp0 rfl
      obtain ⟨ws,w2,w3,w4⟩:=G4.h5 j qj _ hqj hgj
      have hgm:=List.mem_of_getElem? hgj
      refine ⟨⟨_,SqL.of w2⟩,?_⟩
      refine Dd.list (xs:=ws.map V.ref) (fun k ys H5=>H5=H4∧ys.length ≤ k∧(ys.isEmpty = !((gs[j].take k).any (fun e=>mt n e ds[i])))) (Nat.le_trans (show (ws.map V.ref).length ≤ 9 by rw [List.length_map,w3];exact hgl9 _ hgm) (by decide)) ⟨rfl,Nat.le_refl _,by rw [List.take_zero];rfl⟩ (fun k ys H5 hk h=>by obtain ⟨rfl,hl,_⟩:=h;exact ⟨SqL.of w2,hl⟩) ?_ ?_
      ·rintro k x ys H5 hx ⟨rfl,hl,hiff⟩ N hN
       obtain ⟨wk,hwk,rfl⟩:=Mb hx
       have hkg:k < gs[j].length:=by rw [← w3];exact (List.getElem?_eq_some_iff.mp hwk).1
       have hek:gs[j][k]? = some gs[j][k]:=List.getElem?_eq_getElem hkg
       have htk:(gs[j].take (k + 1)).any (fun e=>mt n e ds[i])=((gs[j].take k).any (fun e=>mt n e ds[i]) || mt n gs[j][k] ds[i]):=by
        rw [ge hek,List.any_append]
        simp
       (walk_at "RD")
       refine ⟨Sub.name,n,wk,wi,gs[j][k],ds[i],rfl,SqT.of (w4 k wk _ hwk hek),SqT.of ht4,hmem _ hgm _ (List.mem_of_getElem? hek),hwd,n4,_,rfl,?_⟩
       cases hb:mt n gs[j][k] ds[i] with
       | true=>
        rw [if_pos rfl]
        exact hN _ _ ⟨rfl,by rw [List.length_append,List.length_singleton];omega,by rw [htk,hb,Bool.or_true];simp⟩
       | false=>
        rw [if_neg (by decide)]
        exact hN _ _ ⟨rfl,by omega,by rw [htk,hb,Bool.or_false];exact hiff⟩
      ·rintro ys H5 ⟨rfl,hl,hiff⟩ p2 hp2
       rw [List.length_map,w3,List.take_length] at hiff
       refine ⟨!ys.isEmpty,.inl ⟨ys,SqL.of cb,rfl⟩,hQ _ _ ⟨jb hp2,n4.upd,fun z=>⟨rfl,?_⟩,fun z=>.inr ?_⟩⟩
       ·rw [hiff] at z
        simpa using z
       ·rw [hiff] at z
        simpa using z
    ·obtain ⟨s5,n5,r,_⟩:=r
     obtain ⟨rfl,hany⟩:=r rfl
     obtain ⟨G4,hall⟩:=hp0 rfl
     have G5:=G4.same s5
     obtain ⟨ws,w2,w3,w4⟩:=G5.h5 j qj _ hqj hgj
     have hput:=NB (n:=n) (d:=ds[i]) hgj hall hany
     (walk_at "RD")
     refine ⟨.inl ⟨_,SqL.of w2⟩,_,w2,Nat.lt_of_le_of_lt (show (ws.map V.ref).length ≤ 9 by rw [List.length_map,w3];exact hgl9 _ (List.mem_of_getElem? hgj)) (by decide),(s4.trans s5).updN (G4.h6 qj (List.mem_of_getElem? hqj)),n5.upd,true,(fun z=>nomatch z),fun _=>?_,rfl,_,rfl⟩
     rw [hput]
     exact G5.put hqj hgj w2 w3 w4 (s5 _ _ ht4)
    ·obtain ⟨s5,n5,_,r⟩:=r
     have r:=r rfl
     (walk_at "RD")
     refine ⟨s4.trans s5,n5,p,fun z=>?_,fun z=>(hp1 z).same s5,rfl,_,rfl⟩
     obtain ⟨G4,hall⟩:=hp0 z
     refine ⟨G4.same s5,fun g' hg'=>?_⟩
     rw [ge hgj] at hg'
     rcases List.mem_append.mp hg' with hg' | hg'
     ·exact hall g' hg'
     ·rw [List.mem_singleton.mp hg']
      rcases r with r | r
      ·rw [z] at r;cases r
      ·exact r
   ·rintro σ H4 ⟨s4,n4,p,x3,hp0,hp1,rfl⟩
    refine hD _ _ ⟨s4,n4,p,x3,fun z=>?_,hp1,rfl⟩
    obtain ⟨a1,a2⟩:=hp0 z
    rw [List.length_map,G.h2,List.take_length] at a2
    exact ⟨a1,a2⟩
  rintro σ4 H4 ⟨s4,n4,p,x3,hp0,hp1,rfl⟩
  dsimp only
  refine Bc (!p) (fun Q hQ=>?_) (fun cc=>?_) (fun cc=>?_)
  ·(walk_at "RD")
   exact hQ
  ·have hp:p=false:=by simpa using cc
   subst hp
   obtain ⟨G4,hall⟩:=hp0 rfl
   have ht4:=s4 _ _ ht0
   rw [ky hall] at enx
   (walk_at "RD")
   refine ⟨.inl ⟨_,SqL.of G4.h1⟩,by decide,fun p2 hp2=>?_⟩
   have hwp:gl ≠ p2:=qb G4.h1 hp2
   refine ⟨_,by rw [lb hwp];exact G4.h1,Nat.lt_of_le_of_lt (show (qs.map V.ref).length ≤ 9 by rw [List.length_map,G4.h2];exact hgsl) (by decide),(s4.trans (jb hp2)).updN hgl,(n4.upd).upd,⟨qs ++ [p2],?_⟩,_,rfl⟩
   rw [enx]
   exact G4.new s4 hp2 ht4
  ·have hp:p=true:=by simpa using cc
   subst hp
   have G4:=hp1 rfl
   (walk_at "RD")
   exact ⟨s4,n4,⟨qs,by rw [enx];exact G4⟩,_,rfl⟩
 ·rintro σ H' ⟨s2,n2,⟨qs,G⟩,x1,x2,x3,rfl⟩
  (walk_at "RD")
  rw [List.length_map,l2,List.take_length] at G
  exact q gl qs H' s2 n2 hgl G
end
end My
namespace My
open PySem L2
theorem LO.snoc {H:Hp} {wl p:Addr} {os:List HO} {o:HO} {qs:List Addr} (l1:H wl=some (.lst (qs.map V.ref))) (lq:LQ H qs os) (hp:H p=none) (ho:∀ xs,o ≠ .lst xs) (hos:∀ u ∈ os,∀ xs,u ≠ .lst xs) :
  LO (upd (upd H p o) wl (.lst (qs.map V.ref ++ [.ref p]))) wl (os ++ [o]):=by
 have hpw:p ≠ wl:=(qb l1 hp).symm
 refine ⟨qs ++ [p],by rw [cb,List.map_append];rfl,LQ.app ⟨lq.1,fun i q u hq hu=>?_⟩ (LQ.one (by rw [lb hpw,cb]))⟩
 have e:=lq.2 i q u hq hu
 rw [lb (Me e l1 (hos u (List.mem_of_getElem? hu) _)),lb (qb e hp)]
 exact e
theorem RO (s:SD):atI [V.str s.name,.int s.b,.int s.n] 0=some (.str s.name):=Jb (j:=0) rfl
theorem lO (s:SD):atI [V.str s.name,.int s.b,.int s.n] 1=some (.int s.b):=Jb (j:=1) rfl
theorem dO (s:SD):atI [V.str s.name,.int s.b,.int s.n] 2=some (.int s.n):=Jb (j:=2) rfl
theorem MN {sp:List SD}:∀ u ∈ List.map sdO sp,∀ xs,u ≠ .lst xs:=fun u hu xs z=>by
 obtain ⟨s,_,rfl⟩:=List.mem_map.mp hu
 cases z
theorem YH (d:WD):atI (Am d) 1=some (.str d.name):=Jb (j:=1) rfl
theorem zE (d:WD):atI (Am d) 6=some (.int d.least):=Jb (j:=6) rfl
theorem EH:∀ {l:List Int},l ≠ []→∃ m,m ∈ l∧∀ k ∈ l,k ≤ m
 | [],h=>absurd rfl h
 | [x],_=>⟨x,by simp,fun k hk=>by rw [List.mem_singleton.mp hk];exact Int.le_refl _⟩
 | x :: y :: r,_=>by
  obtain ⟨m,hm,al⟩:=EH (l:=y :: r) (by simp)
  by_cases c:x ≤ m
  ·refine ⟨m,List.mem_cons_of_mem _ hm,fun k hk=>?_⟩
   rcases List.mem_cons.mp hk with rfl | hk
   ·exact c
   ·exact al k hk
  ·refine ⟨x,by simp,fun k hk=>?_⟩
   rcases List.mem_cons.mp hk with rfl | hk
   ·exact Int.le_refl _
   ·exact Int.le_trans (al k hk) (by omega)
noncomputable def qv (K:PySem.W.Frag) (a:Addr) (ns:List Int):Sp:=fun vs H Q _=>∃ (n:Int) (wl:Addr) (ds:List WD),vs=[.ref a,.int n,.ref wl]∧Sc K a ns H∧LW H wl ds∧fu n ds∧(1 ≤ ds.length∧ds.length ≤ 4) ∧
 ∀ (tp rl:Addr) (z:Nat) (sp:List SD) (sh:Int) (H':Hp),Kb H H'→Sc K a ns H'→H' tp=some (.tup [.int z,.ref rl])→LO H' rl (List.map sdO (sp.map (Ke z sh)))→Win (ic n ds) z sp→(11 ≤ z∧z ≤ 84)→Q (.ref tp) H'
section
variable {P:Program} {w:World} {K:PySem.W.Frag} {mg:Str→Option Value} {base:Heap} {t:Adr}
theorem iD (T:Txt w K mg t) (a:Addr) (ns:List Int) (h63:ns.length ≤ 63):Fb P w K mg base CX0 3 t.qh t.bh ["_law_script","_law_places","_law_ways_here"] (qv K a ns):=by
 have G__law_draw:Fb P w K mg base CX0 2 t.rf t.gf ["_law_script","_law_k","_law_many"] (Td K a ns):=(Qw T a ns h63).mono (by decide)
 have G__law_groups:Fb P w K mg base CX0 2 t.xg t.ng ["_law_places","_law_ways_here"] (Ev K):=eA T
 refine T.tj.ok Mc (fun vs H Q E h=>?_) (fun cdv A outer s H vs Q E hr h=>?_)
 ·obtain ⟨n,wl,ds,rfl,_⟩:=h;rfl
 obtain ⟨n,wl,ds,rfl,S,L,D,hdl,q⟩:=h
 refine ⟨_,(db (Ab (i:=3) Mc.nd rfl (Or.inl rfl) (Rf fb))
   (db (Ab (i:=4) Mc.nd rfl (Or.inr rfl) pb)
   (db (Vd PassesOwn.never rfl (Ec (xb G__law_groups hr rfl T.Ys T.oi.kp T.ot .nil Cb (bb (pv 1) (bb (pv 2) fb)))) (wb (i:=5) Mc.nd rfl (Or.inl rfl)) (db (Ab (i:=6) Mc.nd rfl (Or.inl rfl) (Ib xc (Od (UB rfl) rfl T.aM Pr (bb (eg rfl (Ec (pv 5)) (Nc (sc:=ib Ug) rfl (by decide +kernel)) (N:=["_law_way"]) (sel:=[none]) (Jd (M:=["_law_script","_law_places","_law_ways_here","_law_spans_here","_law_at","_law_group","_law_length","_law_way","_law_late","_law_turns","_law_shift"]) (by decide +kernel)) (Blk.of (fun _ _ _ _=>(wb (i:=0) (ug (N:=["_law_way"]) (by decide +kernel) rfl) rfl (Or.inl rfl))) (fun _ _ _ _=>⟨_,ff,by first | rfl | (dsimp only [Cx.block];done) | (dsimp only [Cx.block];exact rfl)⟩) (fun _ _ _ _=>⟨_,(zc Lc (pv 0) pb (fun _ _=>rfl)),by first | rfl | (dsimp only [Cx.block];done) | (dsimp only [Cx.block];exact rfl)⟩))) fb)) (xb G__law_draw hr rfl T.Vb T.Nb.kp T.Xb .nil Cb (bb (pv 0) (bb (Ib xc pb (pv 4)) (bb pb fb))))))
   (db (Vd PassesOwn.never rfl (Ec (pv 5)) (wb (i:=7) Mc.nd rfl (Or.inl rfl)) (db (Ab (i:=8) Mc.nd rfl (Or.inl rfl) (xb G__law_draw hr rfl T.Vb T.Nb.kp T.Xb .nil Cb (bb (pv 0) (bb (Ib xc pb (Od Pc rfl T.wo vd (bb (pv 3) fb))) (bb (Ib xc (Ib Gg (pv 6) (zc Lc (pv 7) pb (fun _ _=>rfl))) pb) fb)))))
   (db (Ab (i:=9) Mc.nd rfl (Or.inl rfl) (Ib xc (zc Lc (pv 7) pb (fun _ _=>rfl)) (xb G__law_draw hr rfl T.Vb T.Nb.kp T.Xb .nil Cb (bb (pv 0) (bb (Ib xc pb (Od Pc rfl T.wo vd (bb (pv 3) fb))) (bb (Ib xc (Ib Gg (Ib Gg (pv 6) (zc Lc (pv 7) pb (fun _ _=>rfl))) (pv 8)) pb) fb))))))
   (gb (Ac (Kl PySem.F.plainAttrs_list PySem.F.slot_list_append PySem.F.type_list_append Qf (pv 3) (bb (aj (bb (zc Lc (pv 7) pb (fun _ _=>rfl)) (bb (Ib xc (pv 4) (pv 8)) (bb (pv 9) fb)))) fb)))))))
   (gb (Ab (i:=4) Mc.nd rfl (Or.inr rfl) (Ib xc (Ib xc (Ib xc (pv 4) (pv 6)) pb) (xb G__law_draw hr rfl T.Vb T.Nb.kp T.Xb .nil Cb (bb (pv 0) (bb (Ib xc pb (pv 4)) (bb pb fb))))))))))
   (db (Ab (i:=10) Mc.nd rfl (Or.inr rfl) (xb G__law_draw hr rfl T.Vb T.Nb.kp T.Xb .nil Cb (bb (pv 0) (bb pb (bb (pv 4) fb)))))
   (gb (Db (aj (bb (pv 4) (bb (eg rfl (Ec (pv 3)) (Nc (sc:=ib Ug) rfl (by decide +kernel)) (N:=["_law_span","_law_shift","_law_at"]) (sel:=[none,some 10,some 4]) (Jd (M:=["_law_script","_law_places","_law_ways_here","_law_spans_here","_law_at","_law_group","_law_length","_law_way","_law_late","_law_turns","_law_shift"]) (by decide +kernel)) (Blk.of (fun _ _ _ _=>(wb (i:=0) (ug (N:=["_law_span","_law_shift","_law_at"]) (by decide +kernel) rfl) rfl (Or.inl rfl))) (fun _ _ _ _=>⟨_,ff,by first | rfl | (dsimp only [Cx.block];done) | (dsimp only [Cx.block];exact rfl)⟩) (fun _ _ _ _=>⟨_,(aj (bb (zc Lc (pv 0) pb (fun _ _=>rfl)) (bb (Ib Le (Ib xc (zc Lc (pv 0) pb (fun _ _=>rfl)) (pv 1)) (pv 2)) (bb (zc Lc (pv 0) pb (fun _ _=>rfl)) fb)))),by first | rfl | (dsimp only [Cx.block];done) | (dsimp only [Cx.block];exact rfl)⟩))) fb))))))))),?_⟩
 simp only [Lb]
 refine qc (fun σ' H'=>Kb H H'∧Sc K a ns H'∧∃ sl,H sl=none∧H' sl=some (.lst [])∧σ'=[some (.ref a),some (.int n),some (.ref wl),some (.ref sl),none,none,none,none,none,none,none]) (fun D hD _ _ _=>?_) ?_
 ·(walk_at "RD")
  exact ⟨Nat.zero_le _,fun sl hsl=>hD _ _ ⟨jb hsl,S.new hsl,sl,hsl,cb,rfl⟩⟩
 rintro σ1 H1 ⟨s1,S1,sl,hsl,w1,rfl⟩
 simp only [Lb]
 refine qc (fun σ' H'=>H'=H1∧σ'=[some (.ref a),some (.int n),some (.ref wl),some (.ref sl),some (.int 0),none,none,none,none,none,none]) (fun D hD _ _ _=>?_) ?_
 ·(walk_at "RD")
  exact hD _ _ ⟨rfl,rfl⟩
 rintro σ2 H2 ⟨rfl,rfl⟩
 have gne:=Jv n ds
 have gfl:=kf n ds
 have gl4:(ic n ds).length ≤ 4:=by have:=Ss gne;have:=gfl.length_eq;omega
 have gl1:1 ≤ (ic n ds).length:=by
  cases e:ic n ds with
  | nil=>rw [e] at gfl;have:=gfl.length_eq;simp at this;omega
  | cons x y=>simp
 have gok:∀ g ∈ ic n ds,∀ d ∈ g,WOk n d∧d.off ≤ 8∧d.least ≤ 4:=fun g hg d hd=>D.al d (gfl.mem_iff.mp (List.mem_flatten.mpr ⟨g,hg,hd⟩))
 have gsz:∀ g ∈ ic n ds,g.length ≤ 4:=fun g hg=>by
  have h1:=(List.sublist_flatten_of_mem hg).length_le
  have:=gfl.length_eq
  omega
 generalize hgs:ic n ds=gs at gne gl4 gl1 gok gsz
 simp only [Lb]
 refine qc (fun σ' H'=>Kb H H'∧Sc K a ns H'∧(∃ (z:Nat) (sp:List SD),LO H' sl (List.map sdO sp)∧Win gs z sp∧(11 ≤ z∧z ≤ 84)∧∃ x5 x6 x7 x8 x9,σ'=[some (.ref a),some (.int n),some (.ref wl),some (.ref sl),some (.int z),x5,x6,x7,x8,x9,none])) (fun D' hD _ _ _=>?_) ?_
 ·(walk_at "RD")
  refine ⟨n,wl,ds,rfl,L.same s1,fun d hd=>(D.al d hd).1,by omega,S1.nt,fun gl qs H3 s3 n3 hgl G=>?_⟩
  rw [hgs] at G
  have S3:=S1.same s3 n3
  refine ⟨gl,rfl,⟨_,SqL.of G.h1⟩,?_⟩
  refine Vh.list (xs:=qs.map V.ref) (fun i σ H'=>jd sl H3 H'∧Kb H H'∧Sc K a ns H'∧(∃ (z:Nat) (sp:List SD),LO H' sl (List.map sdO sp)∧Win (gs.take i) z sp∧(11 * i ≤ z∧z ≤ 21 * i)∧∃ x5 x6 x7 x8 x9,σ=[some (.ref a),some (.int n),some (.ref wl),some (.ref sl),some (.int z),x5,x6,x7,x8,x9,none])) ?_ ?_ ?_ ?_
  ·refine ⟨fun b u _ e=>e,s1.trans s3,S3,0,[],⟨[],s3 _ _ w1,LQ.nil _⟩,by rw [List.take_zero];exact Win.nil,by omega,_,_,_,_,_,rfl⟩
  ·rintro i σ H' hi ⟨sx,_⟩
   exact SqL.of (G.sameX sx w1 hgl (s3 _ _ w1)).h1
  ·rintro i v σ H' hv ⟨sx,sm,S4,z,sp,L4,W4,hz,x5,x6,x7,x8,x9,rfl⟩
   obtain ⟨qi,hqi,rfl⟩:=Mb hv
   have hig:i < gs.length:=by rw [← G.h2];exact (List.getElem?_eq_some_iff.mp hqi).1
   have hgi:gs[i]? = some gs[i]:=List.getElem?_eq_getElem hig
   obtain ⟨ws,v10,v2,v30⟩:=G.h5 i qi _ hqi hgi
   have hqs:qi ≠ sl:=fun z'=>by
    have:=G.h6 qi (List.mem_of_getElem? hqi)
    rw [z',w1] at this
    cases this
   have v1:=sx _ _ hqs v10
   have keep:∀ {H6:Hp},jd sl H3 H6→∀ (k:Nat) (r:Addr) (d:WD),ws[k]? = some r→gs[i][k]? = some d→H6 r=some (.tup (Am d)):=fun sx6 k r d x y=>sx6 _ _ (Me (v30 k r d x y) (s3 _ _ w1) (by intro z;cases z)) (v30 k r d x y)
   have v3:=keep sx
   have hgm:=List.mem_of_getElem? hgi
   have hg4:=gsz _ hgm
   have hsp4:sp.length ≤ 4:=by
    have h1:=W4.len
    have h2:(gs.take i ++ gs.drop i).flatten.length=(gs.take i).flatten.length + (gs.drop i).flatten.length:=by rw [List.flatten_append,List.length_append]
    rw [List.take_append_drop] at h2
    have h3:=gfl.length_eq
    rw [hgs] at h3
    omega
   obtain ⟨m,hm,hmax⟩:=EH (l:=gs[i].map (·.least)) (fun z=>gne _ hgm (List.map_eq_nil_iff.mp z))
   have hm14:1 ≤ m∧m ≤ 4:=by
    obtain ⟨d,hd,rfl⟩:=List.mem_map.mp hm
    have:=gok _ hgm d hd
    exact ⟨this.1.le.1,this.2.2⟩
   have d1:=Ge ns (170 + (z:Int)) (m:=4) (by decide)
   have d2:=He ns (170 + (z:Int)) (m:=4) (by decide)
   have d3:=Ge ns (260 + (z:Int)) (m:=4) (by decide)
   have d4:=He ns (260 + (z:Int)) (m:=4) (by decide)
   simp only [qg,Lb,List.set_cons_succ,List.set_cons_zero]
   refine qc (fun σ' H5=>Kb H' H5∧Sc K a ns H5∧∃ len:Int,(m ≤ len∧len ≤ m + 3)∧σ'=[some (.ref a),some (.int n),some (.ref wl),some (.ref sl),some (.int z),some (.ref qi),some (.int len),x7,x8,x9,none]) (fun D' hD _ _ _=>?_) ?_
   ·(walk_at "RD")
    refine ⟨⟨_,SqL.of v1⟩,?_⟩
    refine Dd.list_zs (xs:=ws.map V.ref) (zs:=(gs[i].map (·.least)).map V.int) (SqL.of v1) (Nat.le_trans (show (ws.map V.ref).length ≤ 4 by rw [List.length_map,v2];exact hg4) (by decide)) (by rw [List.length_map,List.length_map,List.length_map,v2]) (fun j x y N hx hy hN=>?_) (fun p2 hp2=>?_)
    ·obtain ⟨wj,hwj,rfl⟩:=Mb hx
     obtain ⟨y',hy',rfl⟩:=Mb hy
     obtain ⟨d,hd,rfl⟩:=Mb hy'
     have ht:=v3 j wj d hwj hd
     (walk_at "RD")
     exact ⟨Sub.name,_,SqT.of ht,_,zE _,hN⟩
    ·(walk_at "RD"; repeat (simp only [Td];walk_at "RD"))
     exact ⟨_,SqL.of cb,m,hm,hmax,S4.new hp2,by omega,by omega,by decide,hD _ _ ⟨jb hp2,S4.new hp2,_,⟨by omega,by omega⟩,rfl⟩⟩
   rintro σ5 H5 ⟨s5,S5,len,hlen,rfl⟩
   have sx5:jd sl H3 H5:=fun b u hb e=>s5 _ _ (sx b u hb e)
   simp only [Lb]
   refine qc (fun σ' H6=>jd sl H3 H6∧Kb H H6∧Sc K a ns H6∧∃ sp':List SD,LO H6 sl (List.map sdO (sp ++ sp'))∧sp'.length=gs[i].length∧(∀ (j:Nat) (d:WD) (s:SD),gs[i][j]? = some d→sp'[j]? = some s→s.name=d.name∧(z:Int) ≤ s.b∧d.least ≤ s.n∧s.b + s.n ≤ (z:Int) + len)∧∃ x7 x8 x9,σ'=[some (.ref a),some (.int n),some (.ref wl),some (.ref sl),some (.int z),some (.ref qi),some (.int len),x7,x8,x9,none]) (fun D' hD _ _ _=>?_) ?_
   ·(walk_at "RD")
    refine ⟨⟨_,SqL.of (s5 _ _ v1)⟩,?_⟩
    refine Vh.list (xs:=ws.map V.ref) (fun j σ H6=>jd sl H3 H6∧Kb H H6∧Sc K a ns H6∧∃ sp':List SD,LO H6 sl (List.map sdO (sp ++ sp'))∧sp'.length=j∧(∀ (j:Nat) (d:WD) (s:SD),gs[i][j]? = some d→sp'[j]? = some s→s.name=d.name∧(z:Int) ≤ s.b∧d.least ≤ s.n∧s.b + s.n ≤ (z:Int) + len)∧∃ x7 x8 x9,σ=[some (.ref a),some (.int n),some (.ref wl),some (.ref sl),some (.int z),some (.ref qi),some (.int len),x7,x8,x9,none]) ?_ ?_ ?_ ?_
    ·exact ⟨sx5,sm.trans s5,S5,[],by rw [List.append_nil];exact L4.same s5,rfl,fun j d s _ h=>by simp at h,_,_,_,rfl⟩
    ·rintro j σ H6 hj ⟨sx6,_⟩
     exact SqL.of (sx6 _ _ hqs v10)
    ·rintro j v σ H6 hv ⟨sx6,sm6,S6,sp',L6,hsl',al6,x7,x8,x9,rfl⟩
     obtain ⟨wj,hwj,rfl⟩:=Mb hv
     have hjg:j < gs[i].length:=by rw [← v2];exact (List.getElem?_eq_some_iff.mp hwj).1
     have hdj:gs[i][j]? = some gs[i][j]:=List.getElem?_eq_getElem hjg
     have hdm:=List.mem_of_getElem? hdj
     have hdo:=gok _ hgm _ hdm
     have hlm:gs[i][j].least ≤ m:=hmax _ (List.mem_map.mpr ⟨_,hdm,rfl⟩)
     have hl1:=hdo.1.le.1
     have ht6:H6 wj=some (.tup (Am gs[i][j])):=keep sx6 j wj _ hwj hdj
     obtain ⟨os,y1,y2⟩:=L6
     have hosl:os.length=sp.length + j:=by rw [y2.1,List.length_map,List.length_append,hsl']
     have e1:=Ge ns (200 + (os.length:Int)) (m:=len - gs[i][j].least + 1) (by omega)
     have e2:=He ns (200 + (os.length:Int)) (m:=len - gs[i][j].least + 1) (by omega)
     simp only [qg,Lb,List.set_cons_succ,List.set_cons_zero]
     refine qc (fun σ' H7=>H7=H6∧∃ late:Int,(0 ≤ late∧late ≤ len - gs[i][j].least)∧σ'=[some (.ref a),some (.int n),some (.ref wl),some (.ref sl),some (.int z),some (.ref qi),some (.int len),some (.ref wj),some (.int late),x9,none]) (fun D' hD _ _ _=>?_) ?_
     ·(walk_at "RD"; repeat (simp only [Td];walk_at "RD"))
      refine ⟨_,.inl (SqL.of y1),?_⟩
      rw [List.length_map]
      exact ⟨_,SqT.of ht6,_,zE _,_,rfl,S6,by omega,by omega,by omega,hD _ _ ⟨rfl,_,⟨e1,by omega⟩,rfl⟩⟩
     rintro σ7 H7 ⟨rfl,late,hlate,rfl⟩
     have e3:=Ge ns (230 + (os.length:Int)) (m:=len - gs[i][j].least - late + 1) (by omega)
     have e4:=He ns (230 + (os.length:Int)) (m:=len - gs[i][j].least - late + 1) (by omega)
     simp only [Lb]
     refine qc (fun σ' H8=>H8=H7∧∃ tu:Int,(gs[i][j].least ≤ tu∧late + tu ≤ len)∧σ'=[some (.ref a),some (.int n),some (.ref wl),some (.ref sl),some (.int z),some (.ref qi),some (.int len),some (.ref wj),some (.int late),some (.int tu),none]) (fun D' hD _ _ _=>?_) ?_
     ·(walk_at "RD"; repeat (simp only [Td];walk_at "RD"))
      refine ⟨_,SqT.of ht6,_,zE _,_,.inl (SqL.of y1),?_⟩
      rw [List.length_map]
      exact ⟨_,SqT.of ht6,_,zE _,_,rfl,S6,by omega,by omega,by omega,_,rfl,hD _ _ ⟨rfl,_,⟨by omega,by omega⟩,rfl⟩⟩
     rintro σ8 H8 ⟨rfl,tu,htu,rfl⟩
     (walk_at "RD")
     refine ⟨.inl ⟨_,SqL.of y1⟩,_,SqT.of ht6,_,YH _,by decide,fun p2 hp2=>?_⟩
     have hwp:sl ≠ p2:=qb y1 hp2
     have L':=LO.snoc (o:=sdO ⟨gs[i][j].name,(z:Int) + late,tu⟩) y1 y2 hp2 (fun xs z=>by cases z) MN
     refine ⟨_,by rw [lb hwp];exact y1,Nat.lt_of_le_of_lt (show (os.map V.ref).length ≤ 12 by rw [List.length_map];omega) (by decide),fun b u hb e=>?_,(sm6.trans (jb hp2)).updN hsl,(S6.new hp2).set (by rw [lb hwp];exact y1) (fun ob z e=>by cases e),sp' ++ [⟨gs[i][j].name,(z:Int) + late,tu⟩],by rw [← List.append_assoc,List.map_append];exact L',by rw [List.length_append,hsl'];rfl,fun j' d s hd hs=>?_,by repeat (first | exact ⟨_,rfl⟩ | refine ⟨⟨_,rfl⟩,?_⟩)⟩
     ·rw [lb hb]
      exact (jb hp2) _ _ (sx6 b u hb e)
     ·rcases Te hs with ⟨_,z'⟩ | ⟨z1,rfl⟩
      ·exact al6 j' d s hd z'
      ·rw [z1,hsl',hdj] at hd
       cases hd
       exact ⟨rfl,by show (z:Int) ≤ (z:Int) + late;omega,htu.1,by show (z:Int) + late + tu ≤ (z:Int) + len;omega⟩
    ·rintro σ H6 ⟨sx6,sm6,S6,sp',L6,hsl',al6,x7,x8,x9,rfl⟩
     rw [List.length_map,v2] at hsl'
     exact hD _ _ ⟨sx6,sm6,S6,sp',L6,hsl',al6,_,_,_,rfl⟩
   rintro σ6 H6 ⟨sx6,sm6,S6,sp',L6,hsl',al6,x7,x8,x9,rfl⟩
   have W6:=W4.grp (g:=gs[i]) (sp':=sp') (len:=len) (more:=11 + Kh ns (260 + (z:Int)) 4) (by omega) (by omega) hsl' al6
   obtain ⟨z',hz'⟩:∃ z':Nat,(z:Int) + len + 11 + Kh ns (260 + (z:Int)) 4=(z':Nat):=⟨((z:Int) + len + 11 + Kh ns (260 + (z:Int)) 4).toNat,by omega⟩
   (walk_at "RD"; repeat (simp only [Td];walk_at "RD"))
   refine ⟨S6,by omega,by omega,by decide,sx6,sm6,S6,z',sp ++ sp',L6,?_,by omega,by omega,hz',by repeat (first | exact ⟨_,rfl⟩ | refine ⟨⟨_,rfl⟩,?_⟩)⟩
   rw [ge hgi,← hz']
   rw [← Int.add_assoc] at W6
   exact W6
  ·rintro σ H' ⟨_,sm,S4,z,sp,L4,W4,hz,x5,x6,x7,x8,x9,rfl⟩
   rw [List.length_map,G.h2,List.take_length] at W4
   rw [List.length_map,G.h2] at hz
   exact hD _ _ ⟨sm,S4,z,sp,L4,W4,by omega,x5,x6,x7,x8,x9,rfl⟩
 rintro σ3 H3 ⟨s3,S3,z,sp,L3,W3,hz,x5,x6,x7,x8,x9,rfl⟩
 rw [← hgs] at W3
 simp only [Lb]
 refine qc (fun σ' H'=>H'=H3∧∃ sh:Int,σ'=[some (.ref a),some (.int n),some (.ref wl),some (.ref sl),some (.int z),x5,x6,x7,x8,x9,some (.int sh)]) (fun D hD _ _ _=>?_) ?_
 ·(walk_at "RD"; repeat (simp only [Td];walk_at "RD"))
  exact ⟨S3,by omega,by omega,by omega,hD _ _ ⟨rfl,_,rfl⟩⟩
 rintro σ4 H4 ⟨rfl,sh,rfl⟩
 obtain ⟨os,l3,lq⟩:=L3
 have hol:os.length=sp.length:=by rw [lq.1,List.length_map]
 have hsl4:sp.length ≤ 4:=by have:=W3.len;have:=(kf n ds).length_eq;omega
 (walk_at "RD")
 refine ⟨⟨_,SqL.of l3⟩,?_⟩
 refine Dd.list (xs:=os.map V.ref) (fun i ys H'=>∃ os2:List Addr,ys=os2.map V.ref∧LQ H' os2 (((sp.take i).map (Ke z sh)).map sdO)∧Kb H4 H'∧Sc K a ns H') (Nat.le_trans (show (os.map V.ref).length ≤ 4 by rw [List.length_map];omega) (by decide)) ⟨[],rfl,by rw [List.take_zero];exact LQ.nil _,Kb.refl _,S3⟩ ?_ ?_ ?_
 ·rintro i ys H' hi ⟨os2,rfl,r,sm,_⟩
  exact ⟨(SqL.of l3).same sm,by rw [List.length_map,r.1,List.length_map,List.length_map,List.length_take];omega⟩
 ·rintro i v ys H' hv ⟨os2,rfl,r,sm,Sm⟩ N hN
  obtain ⟨qi,hqi,rfl⟩:=Mb hv
  obtain ⟨o,ho,e⟩:=lq.at hqi
  obtain ⟨d,hd,rfl⟩:=Mb ho
  have e':H' qi=some (.tup [.str d.name,.int d.b,.int d.n]):=sm _ _ e
  dsimp only at hN
  rw [ge hd,List.map_append,List.map_append] at hN
  (walk_at "RD")
  exact ⟨Sub.name,_,SqT.of e',_,RO _,_,SqT.of e',_,lO _,_,rfl,by omega,_,SqT.of e',_,dO _,by decide,fun p1 hp1=>hN _ _ ⟨os2 ++ [p1],by rw [List.map_append];rfl,(r.same (jb hp1)).app (LQ.one cb),sm.trans (jb hp1),Sm.new hp1⟩⟩
 ·rintro ys H' ⟨os2,rfl,r,sm,Sm⟩ p1 hp1
  rw [List.length_map,hol,List.take_length] at r
  refine ⟨by decide,fun tp htp=>?_⟩
  exact q tp p1 z sp sh _ (s3.trans (sm.trans ((jb hp1).trans (jb htp)))) ((Sm.new hp1).new htp) cb ⟨os2,(jb htp) _ _ cb,(r.same (jb hp1)).same (jb htp)⟩ W3 hz
end
end My
namespace My
open PySem L2
noncomputable def ckv (ds:List WD) (f:WD→Str):List (Key × V):=ds.map fun d=>(Sum.inr d.name,V.str (f d))
theorem aE (ds:List WD) (f:WD→Str):List.map (fun q=>kV q.fst) (ckv ds f)=Eb (ds.map (·.name)):=by
 unfold ckv Eb
 rw [List.map_map,List.map_map]
 rfl
theorem YE (ds:List WD) (f:WD→Str):List.map (fun q=>q.snd) (ckv ds f)=Eb (ds.map f):=by
 unfold ckv Eb
 rw [List.map_map,List.map_map]
 rfl
theorem WI {ds:List WD} {f:WD→Str} (h:(ds.map (·.name)).Nodup) {i:Nat} {d:WD} (hd:ds[i]? = some d):zq (ckv (ds.take i) f) (Sum.inr d.name) (.str (f d))=ckv (ds.take (i + 1)) f:=by
 unfold zq
 have no:((ckv (ds.take i) f).any fun kv=>decide (kv.1=Sum.inr d.name))=false:=by
  rw [List.any_eq_false]
  intro p hp
  unfold ckv at hp
  obtain ⟨e,he,rfl⟩:=List.mem_map.mp hp
  obtain ⟨j,hj⟩:=List.getElem?_of_mem he
  have hjl:=(List.getElem?_eq_some_iff.mp hj).1
  rw [List.length_take] at hjl
  rw [List.getElem?_take_of_lt (by omega)] at hj
  simp only [decide_eq_true_eq]
  intro z
  have:=YI h hj hd (Sum.inr.inj z)
  omega
 rw [if_neg (by rw [no];exact Bool.false_ne_true),ge hd]
 unfold ckv
 rw [List.map_append];rfl
theorem AJ {ds:List WD} {f:WD→Str} (h:(ds.map (·.name)).Nodup) {i:Nat} {d:WD} (hd:ds[i]? = some d):Wj (ckv ds f) (Sum.inr d.name)=some (.str (f d)):=by
 have:∀ (l:List WD),(l.map (·.name)).Nodup→d ∈ l→Wj (ckv l f) (Sum.inr d.name)=some (.str (f d)):=fun l=>by
  induction l with
  | nil=>intro _ h;cases h
  | cons x l ih=>
   intro hn hm
   by_cases c:x.name=d.name
   ·have:x=d:=by
     rcases List.mem_cons.mp hm with e | e
     ·exact e.symm
     ·exact absurd (List.mem_map.mpr ⟨d,e,c.symm⟩) (List.nodup_cons.mp hn).1
    subst this
    simp [Wj,ckv]
   ·have hm':d ∈ l:=by
     rcases List.mem_cons.mp hm with e | e
     ·exact absurd (by rw [e]) c
     ·exact e
    have:=ih (List.nodup_cons.mp hn).2 hm'
    simp only [Wj,ckv,List.map_cons,List.find?_cons] at this ⊢
    simp [c] at this ⊢
    exact this
 exact this ds h (List.mem_of_getElem? hd)
theorem GL (d:WD):atI (Am d) 0=some (.str (Nd d.k)):=Jb (j:=0) rfl
theorem SN (d:WD):atI (Am d) 4=some (.int d.off):=Jb (j:=4) rfl
noncomputable def bN:List Str:=[Str.ofString "car",Str.ofString "foot",Str.ofString "tram"]
theorem pH:∀ k,k < 3→bN[k]? = some (Nd k)
 | 0,_=>rfl
 | 1,_=>rfl
 | 2,_=>rfl
theorem DH:∀ k,k < 3→∀ m,m < k→bN[m]? ≠ some (Nd k):=by decide +kernel
theorem KN {d:WD} (hk:d.k < 3):atI [V.int 1,.int 0,.int 2] ((d.k:Nat):Int)=some (.int (nc d)):=by
 unfold nc
 generalize d.k=k at hk ⊢
 match k,hk with
 | 0,_=>exact Jb (j:=0) rfl
 | 1,_=>exact Jb (j:=1) rfl
 | 2,_=>exact Jb (j:=2) rfl
theorem jO {d:WD} (hk:d.k < 3):atI [V.int 2,.int d.off,.int 1] ((d.k:Nat):Int)=some (.int (ae d)):=by
 unfold ae
 generalize d.k=k at hk ⊢
 match k,hk with
 | 0,_=>exact Jb (j:=0) rfl
 | 1,_=>exact Jb (j:=1) rfl
 | 2,_=>exact Jb (j:=2) rfl
noncomputable def WG (t:Adr):Sp:=fun vs H Q E=>∃ (pl c:Addr) (n:Int) (ds:List WD) (z:Nat) (sp:List SD) (x:Str) (turn:Int),vs=[.ref pl,.str x,.int turn]∧yj t H pl c n ds z sp∧0 < z∧kt x ∧
 ((∃ (i:Nat) (d:WD) (v:Str),ds[i]? = some d∧x=d.name∧(Vt z sp d)[(turn % (z:Int)).toNat]? = some v∧Q (.str v) H)∨(uq ds x∧Ew t x H E))
noncomputable def DB (t:Adr):Sp:=fun vs H Q _=>∃ (pl c:Addr) (n:Int) (ds:List WD) (z:Nat) (sp:List SD) (i:Nat) (d:WD) (v:Str) (turn:Int),vs=[.ref pl,.str d.name,.int turn]∧yj t H pl c n ds z sp∧0 < z∧kt d.name∧ds[i]? = some d∧(Vt z sp d)[(turn % (z:Int)).toNat]? = some v∧Q (.str v) H
noncomputable def oC (t:Adr):Sp:=fun vs H Q _=>∃ (pl c:Addr) (n:Int) (ds:List WD) (z:Nat) (sp:List SD) (f:WD→Str) (turn:Int),vs=[.ref pl,.int turn]∧yj t H pl c n ds z sp∧0 < z∧(∀ d ∈ ds,kt d.name∧(Vt z sp d)[(turn % (z:Int)).toNat]? = some (f d))∧NoT H ∧
 ∀ p H',Kb H H'→NoT H'→H p=none→H' p=some (.dK (ckv ds f))→Q (.ref p) H'
noncomputable def wy (K:PySem.W.Frag):Sp:=fun vs H Q _=>∃ (wa sa:Addr) (d:WD) (s:SD) (z:Nat) (turn:Int),vs=[.ref wa,.ref sa,.int z,.int turn]∧H wa=some (.tup (Am d))∧H sa=some (.tup [.str s.name,.int s.b,.int s.n])∧d.k < 3∧0 < z∧NoT H∧Q (.str (Vl z (nc d) (ae d) s.b s.n turn)) H
noncomputable def wC (K:PySem.W.Frag):Sp:=fun vs H Q _=>∃ (wa sa:Addr) (d:WD) (s:SD) (z:Nat) (turn:Int),vs=[.ref wa,.ref sa,.int z,.int turn]∧H wa=some (.tup (Am d))∧H sa=some (.tup [.str s.name,.int s.b,.int s.n])∧d.k < 3∧0 < z∧∀ H',Kb H H'→Q (.str (Vl z (nc d) (ae d) s.b s.n turn)) H'
noncomputable def gB (t:Adr):Sp:=fun vs H Q _=>∃ (pl c:Addr) (n:Int) (ds:List WD) (z:Nat) (sp:List SD),vs=[.ref pl]∧yj t H pl c n ds z sp∧0 < z∧uq ds (Str.ofString "zebra")∧∀ H',Kb H H'→Q (.bl true) H'
theorem dC:kt (Str.ofString "zebra"):=⟨by decide +kernel,by decide +kernel⟩
theorem yj.same {t:Adr} {H H':Hp} {a c:Addr} {n:Int} {ds:List WD} {z:Nat} {sp:List SD} (h:yj t H a c n ds z sp) (s:Kb H H'):yj t H' a c n ds z sp:=by
 obtain ⟨dx,p,lm,un,h1,h2,h3,⟨r1,a1,b1,c1⟩,⟨r2,a2,b2,c2⟩⟩:=h.at_
 exact ⟨dx,p,lm,un,s _ _ h1,h2.same s,h3.same s,⟨r1,a1,s _ _ b1,fun i r d x y=>s _ _ (c1 i r d x y)⟩,⟨r2,a2,s _ _ b2,fun i r d x y=>s _ _ (c2 i r d x y)⟩⟩
section
variable {w:World} {K:PySem.W.Frag} {mg:Str→Option Value} {t:Adr} {H:Hp} {a c dx p lm un:Addr} {z:Int}
theorem Pp (T:Txt w K mg t) (e:H a=some (.ins t.ke dx (plF c z p lm un))):Wi K H a (Str.ofString "crossing") (.ref c):=⟨_,dx,_,e,T.Ei,T.Ti,Zd vA 0 (Ro ..) (by decide +kernel) rfl⟩
theorem HJ (T:Txt w K mg t) (e:H a=some (.ins t.ke dx (plF c z p lm un))):Wi K H a (Str.ofString "size") (.int z):=⟨_,dx,_,e,T.Ei,T.Jn,Zd vA 1 (Ro ..) (by decide +kernel) rfl⟩
end
theorem NK.get {H:Hp} {p:Addr} {ds:List WD} {f:WD→HO} (h:NK H p ds f ds.length) (nd:(ds.map (·.name)).Nodup) {i:Nat} {d:WD} (hd:ds[i]? = some d):∃ r,nk H p (.str d.name) (some (.ref r))∧H r=some (f d):=by
 obtain ⟨rs,hl,hp,al⟩:=h
 have hi:i < rs.length:=by rw [hl];exact (List.getElem?_eq_some_iff.mp hd).1
 have hr:rs[i]? = some rs[i]:=List.getElem?_eq_getElem hi
 refine ⟨rs[i],?_,al i _ d hr hd⟩
 have:=nk.k (k:=Sum.inr d.name) hp
 rw [gw nd hd hr] at this
 exact this
section
variable {P:Program} {w:World} {K:PySem.W.Frag} {mg:Str→Option Value} {base:Heap} {t:Adr}
theorem wG (T:Txt w K mg t):Fb P w K mg base (CX1 P w) 5 t.vi t.ji ["plan","name","turn"] (WG t):=by
 have GX_Crossing_called:Fb P w K mg base (CX1 P w) 4 t.Ob t.Ub ["self","name"] (Js t):=jz T
 refine T.El.okX aD (fun vs H Q E h=>?_) (fun cdv A outer s H vs Q E hr h=>?_)
 ·obtain ⟨pl,c,n,ds,z,sp,x,turn,rfl,_⟩:=h;rfl
 obtain ⟨pl,c,n,ds,z,sp,x,turn,rfl,PA,hz,sm,hq⟩:=h
 obtain ⟨dx,p,lm,un,hpl,C,_,NL,_⟩:=PA.at_
 obtain ⟨⟨hnd,_⟩,dxc,wl,nd,e1,_,_⟩:=id C
 have hu:=Eu hr
 refine ⟨_,(db (Ac (Ld (bc (pv 0) rfl) T.Gb T.jc GX_Crossing_called hr T.lc .nil Qm (bb (pv 1) fb)))
   (gb (Db (zc Yd (Dm hu (bc (pv 0) rfl) (pv 1) (fun _ _=>rfl)) (Ib Le (pv 2) (bc (pv 0) rfl)) (fun _ _=>rfl))))),?_⟩
 (walk_at "RD")
 refine ⟨_,Pp T hpl,_,rfl,_,_,e1,Vv _ _ _ (by decide +kernel),c,n,ds,x,rfl,C,sm,?_⟩
 rcases hq with ⟨i,d,v,hd,rfl,hv,q⟩ | ⟨hs,q⟩
 ·refine .inl ⟨i,d,hd,rfl,fun a W=>?_⟩
  obtain ⟨r,hg,hr'⟩:=NL.get hnd hd
  have h0:=Int.emod_nonneg turn (show (z:Int) ≠ 0 by omega)
  (walk_at "RD")
  refine ⟨_,Bx T hpl,_,rfl,_,hg,_,HJ T hpl,_,rfl,by omega,_,rfl,_,SqL.of hr',.str v,?_,q⟩
  have e:=Jb (xs:=Eb (Vt z sp d)) (j:=(turn % (z:Int)).toNat) (v:=.str v) (by unfold Eb;rw [List.getElem?_map,hv];rfl)
  rwa [Int.toNat_of_nonneg h0] at e
 ·exact .inr ⟨hs,q⟩
theorem uG (T:Txt w K mg t):Fb P w K mg base CX0 5 t.vi t.ji ["plan","name","turn"] (DB t):=by
 refine (wG T).quiet fun vs H Q E h=>?_
 obtain ⟨pl,c,n,ds,z,sp,i,d,v,turn,rfl,PA,hz,sm,hd,hv,q⟩:=h
 exact ⟨pl,c,n,ds,z,sp,d.name,turn,rfl,PA,hz,sm,.inl ⟨i,d,v,hd,rfl,hv,q⟩⟩
theorem kJ (T:Txt w K mg t):Fb P w K mg base CX0 6 t.um t.gm ["plan","turn"] (oC t):=by
 have G_colour:Fb P w K mg base CX0 5 t.vi t.ji ["plan","name","turn"] (DB t):=uG T
 have G_Crossing_names:Fb P w K mg base CX0 5 t.yc t.Vc ["self"] (Jl t):=(Io T).mono (by decide)
 refine T.cm.ok Zm (fun vs H Q E h=>?_) (fun cdv A outer s H vs Q E hr h=>?_)
 ·obtain ⟨pl,c,n,ds,z,sp,f,turn,rfl,_⟩:=h;rfl
 obtain ⟨pl,c,n,ds,z,sp,f,turn,rfl,PA,hz,hf,nt,q⟩:=h
 obtain ⟨dx,p,lm,un,hpl,C,_,_,_⟩:=PA.at_
 obtain ⟨⟨hnd,hdl⟩,dxc,wl,nd,e1,_,_⟩:=id C
 have hu:=Eu hr
 refine ⟨_,(db (Ab (i:=2) Zm.nd rfl (Or.inl rfl) Zl)
   (db (Vd PassesOwn.never rfl (Ec (se (bc (pv 0) rfl) T.Gb T.zd G_Crossing_names hr T.Ad .nil Cb)) (wb (i:=3) Zm.nd rfl (Or.inl rfl)) (gb (Dn hu (pv 2) (pv 3) (xb G_colour hr rfl T.Bt T.El.kp T.Os .nil Cb (bb (pv 0) (bb (pv 3) (bb (pv 1) fb)))) rfl)))
   (gb (Db (pv 2))))),?_⟩
 simp only [Lb]
 refine qc (fun σ' H'=>Kb H H'∧NoT H'∧∃ dp,H dp=none∧H' dp=some (.dK [])∧σ'=[some (.ref pl),some (.int turn),some (.ref dp),none]) (fun D hD _ _ _=>?_) ?_
 ·(walk_at "RD")
  exact fun dp hdp=>hD _ _ ⟨jb hdp,nt.upd,dp,hdp,cb,rfl⟩
 rintro σ1 H1 ⟨s1,n1,dp,hdp,w1,rfl⟩
 (walk_at "RD")
 refine ⟨_,Pp T (s1 _ _ hpl),_,rfl,_,_,s1 _ _ e1,Vv _ _ _ (by decide +kernel),c,n,ds,rfl,C.same s1,fun pn hpn=>⟨pn,rfl,⟨_,SqL.of cb⟩,?_⟩⟩
 refine Vh.list (xs:=Eb (ds.map (·.name))) (fun i σ H'=>Kb H H'∧NoT H'∧H' pn=some (.lst (Eb (ds.map (·.name))))∧H' dp=some (.dK (ckv (ds.take i) f))∧∃ y,σ=[some (.ref pl),some (.int turn),some (.ref dp),y]) ?_ ?_ ?_ ?_
 ·exact ⟨s1.trans (jb hpn),n1.upd,cb,(jb hpn) _ _ w1,_,rfl⟩
 ·rintro i σ H' hi ⟨_,_,h,_⟩
  exact SqL.of h
 ·rintro i v σ H' hv ⟨s2,n2,hpn',hdp',y,rfl⟩
  obtain ⟨x,hx,rfl⟩:=Mb hv
  obtain ⟨d,hd,rfl⟩:=Mb hx
  have hfd:=hf d (List.mem_of_getElem? hd)
  have hlen:(ckv (ds.take i) f).length ≤ 12:=by unfold ckv;rw [List.length_map,List.length_take];omega
  (walk_at "RD")
  refine ⟨pl,c,n,ds,z,sp,i,d,f d,turn,rfl,PA.same s2,hz,hfd.1,hd,hfd.2,_,ww.k (k:=Sum.inr d.name) hdp' (Nat.lt_of_le_of_lt hlen (by decide)),s2.updN hdp,n2.upd,?_,?_,_,rfl⟩
  ·rw [lb (Me hpn' hdp' (by intro z;cases z))]
   exact hpn'
  ·rw [cb,WI hnd hd]
 ·rintro σ H' ⟨s2,n2,hpn',hdp',y,rfl⟩
  have hsl:(Eb (ds.map (·.name))).length=ds.length:=by unfold Eb;simp
  rw [hsl,List.take_length] at hdp'
  (walk_at "RD")
  exact q dp H' s2 n2 hdp hdp'
theorem iG (T:Txt w K mg t):Fb P w K mg base CX0 1 t.fh t.eh ["_law_way","_law_span","_law_size","_law_turn"] (wy K):=by
 refine Fb.forget (sp:=wC K) ?_ fun vs H Q E h=>?_
 ·refine T.Kj.ok vg (fun vs H Q E h=>?_) (fun cdv A outer s H vs Q E hr h=>?_)
  ·obtain ⟨wa,sa,d,sd,z,turn,rfl,_⟩:=h;rfl
  obtain ⟨wa,sa,d,sd,z,turn,rfl,hwa,hsa,hk,hz,q⟩:=h
  refine ⟨_,(db (Ab (i:=4) vg.nd rfl (Or.inl rfl) (zc Yd (Rf (bb pb (bb pb (bb pb fb)))) (Kl PySem.F.plainAttrs_list PySem.F.slot_list_index PySem.F.type_list_index Lv (Rf (bb ac (bb ac (bb ac fb)))) (bb (zc Lc (pv 0) pb (fun _ _=>rfl)) fb)) (fun _ _=>rfl)))
   (db (Ab (i:=5) vg.nd rfl (Or.inl rfl) (zc Yd (Rf (bb pb (bb (zc Lc (pv 0) pb (fun _ _=>rfl)) (bb pb fb)))) (Kl PySem.F.plainAttrs_list PySem.F.slot_list_index PySem.F.type_list_index Lv (Rf (bb ac (bb ac (bb ac fb)))) (bb (zc Lc (pv 0) pb (fun _ _=>rfl)) fb)) (fun _ _=>rfl)))
   (db (Ab (i:=6) vg.nd rfl (Or.inl rfl) (Ib Le (Ib Gg (pv 3) (zc Lc (pv 1) pb (fun _ _=>rfl))) (pv 2)))
   (db (Ae (Yb ft (pv 6) (zc Lc (pv 1) pb (fun _ _=>rfl)) (dc _)) (gb (Db ac)) Zb)
   (db (Ae (Yb ft (pv 6) (Ib xc (zc Lc (pv 1) pb (fun _ _=>rfl)) (pv 5)) (dc _)) (gb (Db ac)) Zb)
   (db (Ae (Yb aO (pv 6) (Ib Gg (pv 2) (pv 4)) (dc _)) (gb (Db ac)) Zb)
   (gb (Db ac)))))))),?_⟩
  simp only [Lb]
  refine qc (fun σ' H'=>Kb H H'∧σ'=[some (.ref wa),some (.ref sa),some (.int z),some (.int turn),some (.int (nc d)),none,none]) (fun D hD _ _ _=>?_) ?_
  ·(walk_at "RD")
   refine ⟨by decide,fun p hp=>?_⟩
   obtain ⟨Ha,ea⟩:∃ Hx:Hp,Hx=upd H p (.lst [.int 1,.int 0,.int 2]):=⟨_,rfl⟩
   rw [← ea]
   have sa:Kb H Ha:=by rw [ea];exact jb hp
   have ua:Ha p=some (.lst [.int 1,.int 0,.int 2]):=by rw [ea];exact cb
   clear ea
   refine ⟨by decide,fun p1 hp1=>?_⟩
   obtain ⟨Hb,eb⟩:∃ Hx:Hp,Hx=upd Ha p1 (.lst [.str (Str.ofString "car"),.str (Str.ofString "foot"),.str (Str.ofString "tram")]):=⟨_,rfl⟩
   rw [← eb]
   have sb:Kb Ha Hb:=by rw [eb];exact jb hp1
   have ub:Hb p1=some (.lst [.str (Str.ofString "car"),.str (Str.ofString "foot"),.str (Str.ofString "tram")]):=by rw [eb];exact cb
   clear eb
   exact ⟨.inl ⟨_,SqL.of ub⟩,_,SqT.of (sb _ _ (sa _ _ hwa)),_,GL _,bN,_,rfl,SqL.of ub,d.k,pH d.k hk,DH d.k hk,by decide,_,SqL.of (sb _ _ ua),_,KN hk,hD _ _ ⟨sa.trans sb,rfl⟩⟩
  rintro σ1 H1 ⟨s1,rfl⟩
  simp only [Lb]
  refine qc (fun σ' H'=>Kb H H'∧σ'=[some (.ref wa),some (.ref sa),some (.int z),some (.int turn),some (.int (nc d)),some (.int (ae d)),none]) (fun D hD _ _ _=>?_) ?_
  ·(walk_at "RD")
   refine ⟨_,SqT.of (s1 _ _ hwa),_,SN _,by decide,fun p hp=>?_⟩
   obtain ⟨Ha,ea⟩:∃ Hx:Hp,Hx=upd H1 p (.lst [.int 2,.int d.off,.int 1]):=⟨_,rfl⟩
   rw [← ea]
   have sa:Kb H1 Ha:=by rw [ea];exact jb hp
   have ua:Ha p=some (.lst [.int 2,.int d.off,.int 1]):=by rw [ea];exact cb
   clear ea
   refine ⟨by decide,fun p1 hp1=>?_⟩
   obtain ⟨Hb,eb⟩:∃ Hx:Hp,Hx=upd Ha p1 (.lst [.str (Str.ofString "car"),.str (Str.ofString "foot"),.str (Str.ofString "tram")]):=⟨_,rfl⟩
   rw [← eb]
   have sb:Kb Ha Hb:=by rw [eb];exact jb hp1
   have ub:Hb p1=some (.lst [.str (Str.ofString "car"),.str (Str.ofString "foot"),.str (Str.ofString "tram")]):=by rw [eb];exact cb
   clear eb
   exact ⟨.inl ⟨_,SqL.of ub⟩,_,SqT.of (sb _ _ (sa _ _ (s1 _ _ hwa))),_,GL _,bN,_,rfl,SqL.of ub,d.k,pH d.k hk,DH d.k hk,by decide,_,SqL.of (sb _ _ ua),_,jO hk,hD _ _ ⟨(s1.trans sa).trans sb,rfl⟩⟩
  rintro σ2 H2 ⟨s2,rfl⟩
  have hsa2:=s2 _ _ hsa
  simp only [Lb]
  refine qc (fun σ' H'=>H'=H2∧σ'=[some (.ref wa),some (.ref sa),some (.int z),some (.int turn),some (.int (nc d)),some (.int (ae d)),some (.int ((turn - sd.b) % (z:Int)))]) (fun D hD _ _ _=>?_) ?_
  ·(walk_at "RD")
   exact ⟨_,SqT.of hsa2,_,lO _,_,rfl,by omega,hD _ _ ⟨rfl,rfl⟩⟩
  rintro σ3 H3 ⟨rfl,rfl⟩
  unfold Vl at q
  simp only [Lb]
  refine Bc (decide ((turn - sd.b) % (z:Int) < sd.n)) (fun Q hQ=>?_) (fun c=>?_) (fun c=>?_)
  ·(walk_at "RD")
   exact ⟨_,SqT.of hsa2,_,dO _,_,rfl,hQ⟩
  ·have c:=of_decide_eq_true c
   rw [if_pos c] at q
   (walk_at "RD")
   exact q _ s2
  have c:=of_decide_eq_false c
  rw [if_neg c] at q
  (walk_at "RD")
  refine Bc (decide ((turn - sd.b) % (z:Int) < sd.n + ae d)) (fun Q hQ=>?_) (fun c=>?_) (fun c=>?_)
  ·(walk_at "RD")
   exact ⟨_,SqT.of hsa2,_,dO _,_,rfl,hQ⟩
  ·have c:=of_decide_eq_true c
   rw [if_pos c] at q
   (walk_at "RD")
   exact q _ s2
  have c:=of_decide_eq_false c
  rw [if_neg c] at q
  (walk_at "RD")
  refine Bc (decide ((z:Int) - nc d ≤ (turn - sd.b) % (z:Int))) (fun Q hQ=>?_) (fun c=>?_) (fun c=>?_)
  ·(walk_at "RD")
   exact hQ
  ·have c:=of_decide_eq_true c
   rw [if_pos c] at q
   (walk_at "RD")
   exact q _ s2
  have c:=of_decide_eq_false c
  rw [if_neg c] at q
  (walk_at "RD")
  exact q _ s2
 ·obtain ⟨wa,sa,d,sd,z,turn,h1,h2,h3,h4,h5,nt,q⟩:=h
  exact ⟨nt,wa,sa,d,sd,z,turn,h1,h2,h3,h4,h5,fun H' sm=>⟨sm,q⟩⟩
theorem BJ (T:Txt w K mg t):Fb P w K mg base CX0 6 t.Ef t.Mf ["_law_plan"] (gB t):=by
 have GX_colour:Fb P w K mg base (CX1 P w) 5 t.vi t.ji ["plan","name","turn"] (WG t):=wG T
 refine T.Jh.ok Ue (fun vs H Q E h=>?_) (fun cdv A outer s H vs Q E hr h=>?_)
 ·obtain ⟨pl,c,n,ds,z,sp,rfl,_⟩:=h;rfl
 obtain ⟨pl,c,n,ds,z,sp,rfl,PA,hz,hs,q⟩:=h
 refine ⟨_,(db (Ab (i:=1) Ue.nd rfl (Or.inl rfl) ly)
   (db (FH (i:=2) (fun _ _=>⟨_,(gb (Ac (DF GX_colour hr rfl T.Bt T.El.kp T.Os .nil cJ (bb (pv 0) (bb ac (bb pb fb)))))),by first | rfl | (dsimp only [Cx.tr,Cx.hn];done) | (dsimp only [Cx.tr,Cx.hn];exact rfl)⟩) rfl T.pB (fun _=>⟨_,(gb (Ab (i:=1) Ue.nd rfl (Or.inl rfl) (nK (pv 2) rfl))),by first | rfl | (dsimp only [Cx.tr,Cx.hn];done) | (dsimp only [Cx.tr,Cx.hn];exact rfl)⟩) Ue.nd rfl rfl)
   (gb (Db (wf Dj (pv 1) ac (dc _)))))),?_⟩
 (walk_at "RD")
 refine ⟨pl,c,n,ds,z,sp,_,3,rfl,PA,by omega,dC,.inr ⟨hs,fun dx H' sm _ hd=>?_⟩⟩
 (walk_at "RD")
 refine ⟨_,rfl,T.gr,fun e he=>?_⟩
 (walk_at "RD")
 refine ⟨_,_,he,_,hd,T.Dt,T.km,_,rfl,rfl,?_⟩
 rw [decide_eq_true rfl]
 exact q H' sm
end
end My
namespace My
open PySem L2
theorem fu.ok16 {n:Int} {ds:List WD} (D:fu n ds):xO n ds:=by
 refine ⟨D.nd,fun d hd=>?_,fun d hd e he=>?_⟩
 ·have h:=D.al d hd
  exact ⟨⟨h.1.of.1,h.2.1⟩,h.1.nr.1,h.1.le.1⟩
 ·have h:=(D.al d hd).1
  have g:=(D.al e he).1
  exact qz h.st h.fi g.st g.fi h.ne g.ne
theorem fu.small {n:Int} {ds:List WD} (D:fu n ds) {d:WD} (hd:d ∈ ds):kt d.name:=by
 obtain ⟨h1,h2⟩:=Uf (D.al d hd).1.nm
 exact ⟨Nat.le_trans h1.2 (by decide),fun c hc=>by have:=h2 c hc;omega⟩
theorem fu.dok {n:Int} {ds:List WD} (D:fu n ds):DOk ds:=fun d hd=>⟨D.small hd,(D.al d hd).1.of.1,by have:=(D.al d hd).2.1;omega⟩
theorem iK:∀ u,u < 5→∀ v,v < 4→∀ k,k < 4→nm6 u v k ≠ Str.ofString "zebra" := by decide +kernel
theorem fu.strange {n:Int} {ds:List WD} (D:fu n ds):uq ds (Str.ofString "zebra"):=fun d hd=>by
 obtain ⟨u,v,hu,hv,al⟩:=D.nm
 obtain ⟨i,hi⟩:=List.getElem?_of_mem hd
 have hil:=(List.getElem?_eq_some_iff.mp hi).1
 rw [al i d hi]
 exact iK u hu v hv i (by have:=D.ln;omega)
noncomputable def spb (sp:List SD) (d:WD):SD:=(sp.find? fun s=>decide (s.name=d.name)).getD ⟨d.name,0,1⟩
noncomputable def fc (z:Nat) (sp:List SD) (turn:Int) (d:WD):Str:=Vl z (nc d) (ae d) (spb sp d).b (spb sp d).n turn
theorem vH {n:Int} {z:Nat} {ds:List WD} {sp:List SD} (P:QL n z ds sp) {d:WD} (hd:d ∈ ds):∃ k:Nat,sp[k]? = some (spb sp d)∧(spb sp d).name=d.name∧ofN d.name sp=[((spb sp d).b,(spb sp d).n)]∧1 ≤ (spb sp d).n∧(spb sp d).n + 11 ≤ z∧∀ (j:Nat) (s:SD),sp[j]? = some s→s.name=d.name→j=k:=by
 obtain ⟨s,hs,en,ho,hb,h1,h2⟩:=P.one d hd
 obtain ⟨k,hk⟩:=List.getElem?_of_mem hs
 have e:spb sp d=s:=by
  unfold spb
  cases e:sp.find? fun s=>decide (s.name=d.name) with
  | none=>
   have:=List.find?_eq_none.mp e s hs
   simp [en] at this
  | some x=>
   have hx:x.name=d.name:=by simpa using List.find?_some e
   obtain ⟨j,hj⟩:=List.getElem?_of_mem (List.mem_of_find?_eq_some e)
   have:=P.hu j k x s hj hk (hx.trans en.symm)
   subst this
   rw [hj] at hk
   exact Option.some.inj hk
 rw [e]
 exact ⟨k,hk,en,ho,h1,h2,fun j s' hj hn=>P.hu j k s' s hj hk (hn.trans en.symm)⟩
theorem TC {n:Int} {z:Nat} (hz:0 < z) {ds:List WD} (D:fu n ds) {sp:List SD} (P:QL n z ds sp) {d:WD} (hd:d ∈ ds) (turn:Int):(Vt z sp d)[(turn % (z:Int)).toNat]? = some (fc z sp turn d):=by
 obtain ⟨k,_,_,ho,h1,h2,_⟩:=vH P hd
 have f:=KC (d:=d) ⟨(D.al d hd).1.of.1,(D.al d hd).2.1⟩
 have r:=gv d
 have t0:=Int.emod_nonneg turn (show (z:Int) ≠ 0 by omega)
 have t1:=Int.emod_lt_of_pos turn (show 0 < (z:Int) by omega)
 unfold Vt
 rw [ho,VF hz (rd:=(nc d).toNat) (fd:=(ae d).toNat) (b:=(spb sp d).b) (n:=(spb sp d).n) ⟨by omega,by omega⟩ (i:=(turn % (z:Int)).toNat) (by omega)]
 rw [Int.toNat_of_nonneg t0,Int.toNat_of_nonneg r.1,Int.toNat_of_nonneg f.1,xz]
 rfl
noncomputable def SG (t:Adr):Sp:=fun vs H Q _=>∃ (c:Addr) (n:Int) (ds:List WD) (z:Nat) (p:Addr) (sp:List SD),vs=[.ref c,.int z,.ref p]∧Yc t H c n ds∧0 < n∧DOk ds∧(0 < z∧z ≤ 84)∧ds.length ≤ 4∧LO H p (List.map sdO sp)∧QL n z ds sp∧NoT H∧∀ a H',Kb H H'→NoT H'→yj t H' a c n ds z sp→Q (.ref a) H'
section
variable {P:Program} {w:World} {K:PySem.W.Frag} {mg:Str→Option Value} {base:Heap} {t:Adr}
theorem aL (T:Txt w K mg t):Fb P w K mg base CX0 6 t.Sg t.Lg ["crossing","size","rows"] (SG t):=by
 refine (iF T).quiet fun vs H Q E h=>?_
 obtain ⟨c,n,ds,z,p,sp,rfl,C,hn,hD,hz,hl,L,R,nt,q⟩:=h
 refine ⟨c,n,ds,z,p,sp,rfl,C,hn,hD,⟨by omega,by omega⟩,L,⟨by rw [R.len];omega,fun s hs=>?_⟩,fun s hs=>?_,nt,fun _ _ _=>q,fun x hx=>?_,fun e _ he=>?_,fun e _ _ he=>?_⟩
 ·have:=R.kn s hs
  exact ⟨by omega,by omega,by omega,by omega⟩
 ·obtain ⟨⟨d,_,_,hw⟩,_⟩:=R.kn s hs
  exact ⟨d,hw⟩
 ·rw [R.nv] at hx;cases hx
 ·rw [R.sh] at he;cases he
 ·rw [R.cl] at he;cases he
theorem FM (T:Txt w K mg t):Fb P w K mg base CX0 8 t.AI t.BF ["_law_script"] (IL K):=by
 refine T.ON.ok Pf (fun vs H Q E h=>?_) (fun cdv A outer s H vs Q E hr h=>?_)
 ·obtain ⟨a,ns,rfl,_⟩:=h;rfl
 obtain ⟨a,ns,rfl,S0,h63,q⟩:=h
 have G__law_draw:Fb P w K mg base CX0 7 t.rf t.gf ["_law_script","_law_k","_law_many"] (Td K a ns):=(Qw T a ns h63).mono (by decide)
 have G__law_ways:Fb P w K mg base CX0 7 t.zi t.xi ["_law_script"] (UK K a ns):=(JN T a ns h63).mono (by decide)
 have G__law_text:Fb P w K mg base CX0 7 t.gi t.Di ["_law_places","_law_ways_here"] (yy K):=(xF T).mono (by decide)
 have G__law_spans:Fb P w K mg base CX0 7 t.qh t.bh ["_law_script","_law_places","_law_ways_here"] (qv K a ns):=(iD T a ns h63).mono (by decide)
 have G__law_shown:Fb P w K mg base CX0 7 t.fh t.eh ["_law_way","_law_span","_law_size","_law_turn"] (wy K):=(iG T).mono (by decide)
 have G__law_refused:Fb P w K mg base CX0 7 t.Ef t.Mf ["_law_plan"] (gB t):=(BJ T).mono (by decide)
 have G_read_crossing:Fb P w K mg base CX0 7 t.Qe t.af ["text"] (vL t):=TN T
 have G_made_plan:Fb P w K mg base CX0 7 t.Sg t.Lg ["crossing","size","rows"] (SG t):=(aL T).mono (by decide)
 have G_colour:Fb P w K mg base CX0 7 t.vi t.ji ["plan","name","turn"] (DB t):=(uG T).mono (by decide)
 have G_colours:Fb P w K mg base CX0 7 t.um t.gm ["plan","turn"] (oC t):=(kJ T).mono (by decide)
 have hU:=hr.units
 have hu:=Eu hr
 refine ⟨_,(db (Ab (i:=1) Pf.nd rfl (Or.inl rfl) (xb G__law_ways hr rfl T.ax T.ml.kp T.ow .nil Cb (bb (pv 0) fb)))
   (db (Ab (i:=2) Pf.nd rfl (Or.inl rfl) (zc Lc (pv 1) pb (fun _ _=>rfl)))
   (db (Ab (i:=3) Pf.nd rfl (Or.inl rfl) (xb G_read_crossing hr rfl T.qp T.Og.kp T.Rp .nil Cb (bb (xb G__law_text hr rfl T.Cw T.xl.kp T.Uw .nil Cb (bb (zc Lc (pv 1) pb (fun _ _=>rfl)) (bb (pv 2) fb))) fb)))
   (db (Ab (i:=4) Pf.nd rfl (Or.inl rfl) (xb G__law_spans hr rfl T.av T.tj.kp T.Wu .nil Cb (bb (pv 0) (bb (zc Lc (pv 1) pb (fun _ _=>rfl)) (bb (pv 2) fb)))))
   (db (Ab (i:=5) Pf.nd rfl (Or.inl rfl) (zc Lc (pv 4) pb (fun _ _=>rfl)))
   (db (Ab (i:=6) Pf.nd rfl (Or.inl rfl) (xb G_made_plan hr rfl T.ux T.yl.kp T.yx .nil Cb (bb (pv 3) (bb (pv 5) (bb (Dg wv rfl T.Er Ji (bb (zc Lc (pv 4) pb (fun _ _=>rfl)) fb)) fb)))))
   (db (Yh (i:=7) Pf.nd rfl (Or.inl rfl) rfl (Ec (pv 2)) (Nc (sc:=ib cE) rfl (by decide +kernel)) (N:=["_law_way"]) (sel:=[none]) (Jd (M:=["_law_script","_law_made","_law_ways_here","_law_crossing","_law_round_of","_law_size","_law_plan","_law_names","_law_far","_law_k","_law_turn","_law_due","_law_way","_law_span","_law_shown_here","_law_at"]) (by decide +kernel)) (Blk.of (fun _ _ _ _=>(wb (i:=0) (ug (N:=["_law_way"]) (by decide +kernel) rfl) rfl (Or.inl rfl))) (fun _ _ _ _=>⟨_,ff,by first | rfl | (dsimp only [Cx.block];done) | (dsimp only [Cx.block];exact rfl)⟩) (fun _ _ _ _=>⟨_,(zc Lc (pv 0) pb (fun _ _=>rfl)),by first | rfl | (dsimp only [Cx.block];done) | (dsimp only [Cx.block];exact rfl)⟩)) rfl)
   (db (Ab (i:=8) Pf.nd rfl (Or.inl rfl) (xb G__law_draw hr rfl T.Vb T.Nb.kp T.Xb .nil Cb (bb (pv 0) (bb pb (bb pb fb)))))
   (db (Ae (PW.pt (Wx (Yb Dj (pv 8) pb (dc _)) (Yt (Yb vF (Od Pc rfl T.wo vd (bb (pv 0) fb)) pb (dc _))))) (gb (Ab (i:=8) Pf.nd rfl (Or.inl rfl) (Ib Le (zc Yd (pv 0) (Ib RH (Od Pc rfl T.wo vd (bb (pv 0) fb)) pb) (fun _ _=>rfl)) (Ib ML pb pb)))) Zb)
   (db (Vd PassesOwn.never rfl (Xf rfl T.Gi (bb (pv 5) fb)) (wb (i:=9) Pf.nd rfl (Or.inl rfl)) (db (Ab (i:=10) Pf.nd rfl (Or.inl rfl) (Ib xc (pv 8) (pv 9)))
   (db (Ab (i:=11) Pf.nd rfl (Or.inl rfl) (Rf fb))
   (db (Vd PassesOwn.never rfl (Ec (pv 2)) (wb (i:=12) Pf.nd rfl (Or.inr rfl)) (db (Ab (i:=13) Pf.nd rfl (Or.inl rfl) (zc Yd (eg rfl (Ec (zc Lc (pv 4) pb (fun _ _=>rfl))) (Nc (sc:=ib cE) rfl (by decide +kernel)) (N:=["_law_one","_law_way"]) (sel:=[none,some 12]) (Jd (M:=["_law_script","_law_made","_law_ways_here","_law_crossing","_law_round_of","_law_size","_law_plan","_law_names","_law_far","_law_k","_law_turn","_law_due","_law_way","_law_span","_law_shown_here","_law_at"]) (by decide +kernel)) (Blk.of (fun _ _ _ _=>(wb (i:=0) (ug (N:=["_law_one","_law_way"]) (by decide +kernel) rfl) rfl (Or.inl rfl))) (fun _ _ _ _=>⟨_,(eu (Yb Dj (zc Lc (pv 0) pb (fun _ _=>rfl)) (zc Lc (pv 1) pb (fun _ _=>rfl)) (dc _))),by first | rfl | (dsimp only [Cx.block];done) | (dsimp only [Cx.block];exact rfl)⟩) (fun _ _ _ _=>⟨_,(pv 0),by first | rfl | (dsimp only [Cx.block];done) | (dsimp only [Cx.block];exact rfl)⟩))) pb (fun _ _=>rfl)))
   (gb (Ac (Kl PySem.F.plainAttrs_list PySem.F.slot_list_append PySem.F.type_list_append Qf (pv 11) (bb (xb G__law_shown hr rfl T.Rv T.Kj.kp T.Ju .nil Cb (bb (pv 12) (bb (pv 13) (bb (pv 5) (bb (pv 10) fb))))) fb))))))
   (db (Ae (Yb Dj (Ib Le (pv 9) pb) (xb G__law_draw hr rfl T.Vb T.Nb.kp T.Xb .nil Cb (bb (pv 0) (bb pb (bb pb fb)))) (dc _)) (db (Ab (i:=14) Pf.nd rfl (Or.inl rfl) (xb G_colours hr rfl T.Ov T.cm.kp T.Kv .nil Cb (bb (pv 6) (bb (pv 10) fb))))
   (db (Ae (PW.pt (pw (wm (Ck (Od mF rfl T.Mu Mm (bb (pv 14) (bb (NH (v:=.ty "dict") rfl T.YL vx rfl) fb))))) (pw (Yb (zH hU) (Dg (Oz rfl) rfl T.Er Ji (bb (CG PySem.F.plainAttrs_dict PySem.F.slot_dict_keys PySem.F.type_dict_keys LI (pv 14)) fb)) (pv 7) (dc _)) (Is (Yb (zH hU) (Dg (zz rfl) rfl T.Er Ji (bb (CG PySem.F.plainAttrs_dict PySem.F.slot_dict_values PySem.F.type_dict_values HH (pv 14)) fb)) (pv 11) (dc _)))))) (gb (Db xo)) Zb)
   (db (Dn hu (pv 14) (zc Yd (pv 7) pb (fun _ _=>rfl)) ac rfl)
   (gb (Ae (Yb xw (Dm hu (xb G_colours hr rfl T.Ov T.cm.kp T.Kv .nil Cb (bb (pv 6) (bb (pv 10) fb))) (zc Yd (pv 7) pb (fun _ _=>rfl)) (fun _ _=>rfl)) (zc Yd (pv 11) pb (fun _ _=>rfl)) (dc _)) (gb (Db xo)) Zb))))) Zb)
   (db (Ab (i:=15) Pf.nd rfl (Or.inl rfl) (xb G__law_draw hr rfl T.Vb T.Nb.kp T.Xb .nil Cb (bb (pv 0) (bb (Ib xc pb (pv 9)) (bb (Od Pc rfl T.wo vd (bb (pv 7) fb)) fb)))))
   (gb (Ae (Yb xw (xb G_colour hr rfl T.Bt T.El.kp T.Os .nil Cb (bb (pv 6) (bb (zc Yd (pv 7) (pv 15) (fun _ _=>rfl)) (bb (pv 10) fb)))) (zc Yd (pv 11) (pv 15) (fun _ _=>rfl)) (dc _)) (gb (Db xo)) Zb))))))))
   (gb (Db (xb G__law_refused hr rfl T.Aq T.Jh.kp T.ar .nil Cb (bb (pv 6) fb)))))))))))))),?_⟩
 have hbig:∀ k:Nat,k ≤ 1000→k ≤ sizeLine:=fun k h=>Nat.le_trans h (by decide)
 simp only [Lb]
 refine qc (fun σ' H'=>Sc K a ns H'∧∃ md wl n ds,H' md=some (.tup [.int n,.ref wl])∧LW H' wl ds∧fu n ds∧(4 ≤ n∧n ≤ 12)∧(1 ≤ ds.length∧ds.length ≤ 4)∧σ'=[some (.ref a),some (.ref md),none,none,none,none,none,none,none,none,none,none,none,none,none,none]) (fun D' hD _ _ _=>?_) ?_
 ·(walk_at "RD")
  exact ⟨rfl,S0,fun tp wl n ds H' s1 S1 h1 L D hn hl=>hD _ _ ⟨S1,tp,wl,n,ds,h1,L,D,hn,hl,rfl⟩⟩
 rintro σ1 H1 ⟨S1,md,wl,n,ds,hmd,L1,D,hn,hl,rfl⟩
 simp only [Lb]
 refine qc (fun σ' H'=>H'=H1∧σ'=[some (.ref a),some (.ref md),some (.ref wl),none,none,none,none,none,none,none,none,none,none,none,none,none]) (fun D' hD _ _ _=>?_) ?_
 ·(walk_at "RD")
  exact ⟨_,SqT.of hmd,_,Jb (j:=1) rfl,hD _ _ ⟨rfl,rfl⟩⟩
 rintro σ2 H2 ⟨rfl,rfl⟩
 simp only [Lb]
 refine qc (fun σ' H'=>Kb H2 H'∧Sc K a ns H'∧∃ c,Yc t H' c n ds∧σ'=[some (.ref a),some (.ref md),some (.ref wl),some (.ref c),none,none,none,none,none,none,none,none,none,none,none,none]) (fun D' hD _ _ _=>?_) ?_
 ·(walk_at "RD")
  exact ⟨_,SqT.of hmd,_,Jb (j:=0) rfl,n,wl,ds,rfl,L1,D,⟨by omega,by omega⟩,⟨hl.1,by omega⟩,S1.nt,n,ds,rfl,D.cok ⟨by omega,by omega⟩ ⟨hl.1,by omega⟩,S1.nt,fun c H' s1 n1 C=>hD _ _ ⟨s1,S1.same s1 n1,c,C,rfl⟩⟩
 rintro σ3 H3 ⟨s3,S3,c,C3,rfl⟩
 simp only [Lb]
 refine qc (fun σ' H'=>Kb H3 H'∧Sc K a ns H'∧∃ (ro rl:Addr) (z:Nat) (sp:List SD),H' ro=some (.tup [.int z,.ref rl])∧LO H' rl (List.map sdO sp)∧QL n z ds sp∧(11 ≤ z∧z ≤ 84)∧σ'=[some (.ref a),some (.ref md),some (.ref wl),some (.ref c),some (.ref ro),none,none,none,none,none,none,none,none,none,none,none]) (fun D' hD _ _ _=>?_) ?_
 ·(walk_at "RD")
  exact ⟨_,SqT.of (s3 _ _ hmd),_,Jb (j:=0) rfl,n,wl,ds,rfl,S3,L1.same s3,D,hl,fun tp rl z sp sh H' s4 S4 h1 L4 W4 hz=>hD _ _ ⟨s4,S4,tp,rl,z,_,h1,L4,dM (by omega) D.ok16 W4 sh,hz,rfl⟩⟩
 rintro σ4 H4 ⟨s4,S4,ro,rl,z,sp,hro,L4,R,hz,rfl⟩
 simp only [Lb]
 refine qc (fun σ' H'=>H'=H4∧σ'=[some (.ref a),some (.ref md),some (.ref wl),some (.ref c),some (.ref ro),some (.int z),none,none,none,none,none,none,none,none,none,none]) (fun D' hD _ _ _=>?_) ?_
 ·(walk_at "RD")
  exact ⟨_,SqT.of hro,_,Jb (j:=0) rfl,hD _ _ ⟨rfl,rfl⟩⟩
 rintro σ5 H5 ⟨rfl,rfl⟩
 simp only [Lb]
 refine qc (fun σ' H'=>Kb H5 H'∧Sc K a ns H'∧∃ pl,yj t H' pl c n ds z sp∧σ'=[some (.ref a),some (.ref md),some (.ref wl),some (.ref c),some (.ref ro),some (.int z),some (.ref pl),none,none,none,none,none,none,none,none,none]) (fun D' hD _ _ _=>?_) ?_
 ·obtain ⟨os,l1,lq⟩:=id L4
  (walk_at "RD")
  refine ⟨_,SqT.of hro,_,Jb (j:=1) rfl,rl,rfl,_,.inl (SqL.of l1),fun p1 hp1=>?_⟩
  have sa:Kb H5 (upd H5 p1 (.lst (os.map V.ref))):=jb hp1
  exact ⟨c,n,ds,z,p1,sp,rfl,(C3.same s4).same sa,by omega,D.dok,⟨by omega,by omega⟩,hl.2,⟨os,cb,lq.same sa⟩,R,(S4.nt).upd,fun pl H' s6 n6 PA=>hD _ _ ⟨sa.trans s6,S4.same (sa.trans s6) n6,pl,PA,rfl⟩⟩
 rintro σ6 H6 ⟨s6,S6,pl,PA,rfl⟩
 have L6:=(L1.same s3).same (s4.trans s6)
 have R6:=L4.same s6
 simp only [Lb]
 refine qc (fun σ' H'=>Kb H6 H'∧Sc K a ns H'∧∃ nm,H' nm=some (.lst (Eb (ds.map (·.name))))∧σ'=[some (.ref a),some (.ref md),some (.ref wl),some (.ref c),some (.ref ro),some (.int z),some (.ref pl),some (.ref nm),none,none,none,none,none,none,none,none]) (fun D' hD _ _ _=>?_) ?_
 ·obtain ⟨qs,l1,l2,al⟩:=id L6
  (walk_at "RD")
  refine ⟨⟨_,SqL.of l1⟩,?_⟩
  refine Dd.list_zs (xs:=qs.map V.ref) (zs:=Eb (ds.map (·.name))) (SqL.of l1) (hbig _ (by rw [List.length_map];omega)) (by unfold Eb;simp [l2]) (fun j x y N hx hy hN=>?_) (fun p2 hp2=>?_)
  ·obtain ⟨wj,hwj,rfl⟩:=Mb hx
   obtain ⟨y',hy',rfl⟩:=Mb hy
   obtain ⟨d,hd,rfl⟩:=Mb hy'
   have ht:=al j wj d hwj hd
   (walk_at "RD")
   exact ⟨Sub.name,_,SqT.of ht,_,YH _,hN⟩
  ·exact hD _ _ ⟨jb hp2,S6.new hp2,p2,cb,rfl⟩
 rintro σ7 H7 ⟨s7,S7,nm,hnm,rfl⟩
 simp only [Lb]
 refine qc (fun σ' H'=>H'=H7∧∃ far:Int,σ'=[some (.ref a),some (.ref md),some (.ref wl),some (.ref c),some (.ref ro),some (.int z),some (.ref pl),some (.ref nm),some (.int far),none,none,none,none,none,none,none]) (fun D' hD _ _ _=>?_) ?_
 ·(walk_at "RD"; repeat (simp only [Td];walk_at "RD"))
  exact ⟨S7,by omega,by omega,by decide,hD _ _ ⟨rfl,_,rfl⟩⟩
 rintro σ8 H8 ⟨rfl,far0,rfl⟩
 simp only [Lb]
 refine qc (fun σ' H'=>H'=H8∧∃ far:Int,σ'=[some (.ref a),some (.ref md),some (.ref wl),some (.ref c),some (.ref ro),some (.int z),some (.ref pl),some (.ref nm),some (.int far),none,none,none,none,none,none,none]) (fun D' hD _ _ _=>?_) ?_
 ·refine rg (fun b H9=>H9=H8∧(b=true→0 < ns.length)) (fun Q hQ=>?_) (fun H9 r=>?_) (fun H9 r=>?_)
  ·(walk_at "RD")
   by_cases c2:far0=2
   ·rw [if_pos (decide_eq_true c2)]
    exact ⟨_,.inl S7.seq,hQ _ _ ⟨rfl,fun h=>by have:=of_decide_eq_true h;rw [List.length_map] at this;omega⟩⟩
   ·rw [if_neg (by simpa using c2)]
    exact hQ _ _ ⟨rfl,fun h=>by cases h⟩
  ·obtain ⟨rfl,r⟩:=r
   have hns:=r rfl
   have hlt:ns.length / 2 < ns.length:=by omega
   have hat:atI (ns.map V.int) ((ns.length:Int) / 2)=some (.int (ns[ns.length / 2]'hlt)):=by
    rw [show ((ns.length:Int) / 2)=((ns.length / 2:Nat):Int) by omega]
    exact Jb (by rw [List.getElem?_map,List.getElem?_eq_getElem hlt];rfl)
   (walk_at "RD")
   refine ⟨_,.inl S7.seq,?_⟩
   rw [List.length_map]
   exact ⟨⟨by decide,by decide⟩,_,S7.seq,_,hat,⟨by decide,by decide,by decide⟩,_,rfl,Int.pow_pos (by decide),hD _ _ ⟨rfl,_,rfl⟩⟩
  ·obtain ⟨rfl,_⟩:=r
   (walk_at "RD")
   exact hD _ _ ⟨rfl,_,rfl⟩
 rintro σ9 H9 ⟨rfl,far,rfl⟩
 have hs7:=s6.trans s7
 simp only [Lb]
 refine qc (fun σ' H'=>Kb H9 H'∧Sc K a ns H'∧∃ x9 x10 x11 x12 x13 x14 x15,σ'=[some (.ref a),some (.ref md),some (.ref wl),some (.ref c),some (.ref ro),some (.int z),some (.ref pl),some (.ref nm),some (.int far),x9,x10,x11,x12,x13,x14,x15]) (fun D' hD _ _ _=>?_) ?_
 ·(walk_at "RD")
  refine ⟨by omega,by omega,?_⟩
  refine Vh.range (fun k σ H'=>Kb H9 H'∧Sc K a ns H'∧∃ x9 x10 x11 x12 x13 x14 x15,σ=[some (.ref a),some (.ref md),some (.ref wl),some (.ref c),some (.ref ro),some (.int z),some (.ref pl),some (.ref nm),some (.int far),x9,x10,x11,x12,x13,x14,x15]) ?_ ?_ ?_
  ·exact ⟨Kb.refl _,S7,_,_,_,_,_,_,_,rfl⟩
  ·rintro k σ H' hk ⟨s10,S10,x9,x10,x11,x12,x13,x14,x15,rfl⟩
   have hk84:k < 84:=by omega
   have PA10:=(PA.same s7).same s10
   have L10:=(L6.same s7).same s10
   have R10:=(R6.same s7).same s10
   have hro10:H' ro=some (.tup [.int z,.ref rl]):=s10 _ _ (s7 _ _ (s6 _ _ hro))
   have hnm10:=s10 _ _ hnm
   simp only [qg,Lb,List.set_cons_succ,List.set_cons_zero,Int.zero_add]
   refine qc (fun σ' H2=>H2=H'∧σ'=[some (.ref a),some (.ref md),some (.ref wl),some (.ref c),some (.ref ro),some (.int z),some (.ref pl),some (.ref nm),some (.int far),some (.int (k:Nat)),some (.int (far + (k:Int))),x11,x12,x13,x14,x15]) (fun D' hD _ _ _=>?_) ?_
   ·(walk_at "RD")
    exact hD _ _ ⟨rfl,rfl⟩
   rintro σ11 H11 ⟨rfl,rfl⟩
   simp only [Lb]
   refine qc (fun σ' H2=>Kb H11 H2∧Sc K a ns H2∧∃ dl,H11 dl=none∧H2 dl=some (.lst [])∧σ'=[some (.ref a),some (.ref md),some (.ref wl),some (.ref c),some (.ref ro),some (.int z),some (.ref pl),some (.ref nm),some (.int far),some (.int (k:Nat)),some (.int (far + (k:Int))),some (.ref dl),x12,x13,x14,x15]) (fun D' hD _ _ _=>?_) ?_
   ·(walk_at "RD")
    exact ⟨Nat.zero_le _,fun dl hdl=>hD _ _ ⟨jb hdl,S10.new hdl,dl,hdl,cb,rfl⟩⟩
   rintro σ12 H12 ⟨s12,S12,dl,hdl,w12,rfl⟩
   simp only [Lb]
   refine qc (fun σ' H2=>Kb H11 H2∧Sc K a ns H2∧H2 dl=some (.lst (Eb (ds.map (fc z sp (far + (k:Int))))))∧∃ x12 x13,σ'=[some (.ref a),some (.ref md),some (.ref wl),some (.ref c),some (.ref ro),some (.int z),some (.ref pl),some (.ref nm),some (.int far),some (.int (k:Nat)),some (.int (far + (k:Int))),some (.ref dl),x12,x13,x14,x15]) (fun D' hD _ _ _=>?_) ?_
   ·obtain ⟨qs,l1,l2,al⟩:=id L10
    obtain ⟨os,o1,oq⟩:=id R10
    have hol:os.length=sp.length:=by rw [oq.1,List.length_map]
    have hspl:sp.length ≤ 4:=by rw [R.len];exact hl.2
    (walk_at "RD")
    refine ⟨⟨_,SqL.of (s12 _ _ l1)⟩,?_⟩
    refine Vh.list (xs:=qs.map V.ref) (fun i σ H2=>Kb H11 H2∧Sc K a ns H2∧H2 dl=some (.lst (Eb ((ds.take i).map (fc z sp (far + (k:Int))))))∧∃ x12 x13,σ=[some (.ref a),some (.ref md),some (.ref wl),some (.ref c),some (.ref ro),some (.int z),some (.ref pl),some (.ref nm),some (.int far),some (.int (k:Nat)),some (.int (far + (k:Int))),some (.ref dl),x12,x13,x14,x15]) ?_ ?_ ?_ ?_
    ·exact ⟨s12,S12,w12,_,_,rfl⟩
    ·rintro i σ H2 hi ⟨sm,_⟩
     exact SqL.of (sm _ _ l1)
    ·rintro i v σ H2 hv ⟨s13,S13,hdl13,x12,x13,rfl⟩
     obtain ⟨wi,hwi,rfl⟩:=Mb hv
     have hid:i < ds.length:=by rw [← l2];exact (List.getElem?_eq_some_iff.mp hwi).1
     have hd:ds[i]? = some ds[i]:=List.getElem?_eq_getElem hid
     have hdm:=List.mem_of_getElem? hd
     have ht:=s13 _ _ (al i wi _ hwi hd)
     obtain ⟨k0,hk0,en0,_,_,_,huq⟩:=vH R hdm
     have hk0l:k0 < os.length:=by rw [hol];exact (List.getElem?_eq_some_iff.mp hk0).1
     have hok:os[k0]? = some os[k0]:=List.getElem?_eq_getElem hk0l
     have hsp0:H11 os[k0]=some (.tup [.str (spb sp ds[i]).name,.int (spb sp ds[i]).b,.int (spb sp ds[i]).n]):=oq.2 k0 _ (sdO (spb sp ds[i])) hok (by rw [List.getElem?_map,hk0];rfl)
     simp only [qg,Lb,List.set_cons_succ,List.set_cons_zero]
     refine qc (fun σ' H3=>Kb H2 H3∧Sc K a ns H3∧σ'=[some (.ref a),some (.ref md),some (.ref wl),some (.ref c),some (.ref ro),some (.int z),some (.ref pl),some (.ref nm),some (.int far),some (.int (k:Nat)),some (.int (far + (k:Int))),some (.ref dl),some (.ref wi),some (.ref os[k0]),x14,x15]) (fun D' hD _ _ _=>?_) ?_
     ·(walk_at "RD")
      refine ⟨_,SqT.of (s13 _ _ hro10),_,Jb (j:=1) rfl,rl,rfl,⟨_,SqL.of (s13 _ _ o1)⟩,?_⟩
      refine Dd.list (xs:=os.map V.ref) (fun j ys H3=>H3=H2∧ys=if k0 < j then [V.ref os[k0]] else []) (hbig _ (by rw [List.length_map];omega)) ⟨rfl,by rw [if_neg (Nat.not_lt_zero _)]⟩ (fun j ys H3 hj h=>?_) ?_ ?_
      ·obtain ⟨rfl,rfl⟩:=h
       refine ⟨SqL.of (s13 _ _ o1),?_⟩
       split
       ·simp;omega
       ·simp
      ·rintro j x ys H3 hx ⟨rfl,rfl⟩ N hN
       obtain ⟨oj,hoj,rfl⟩:=Mb hx
       obtain ⟨o,ho,e⟩:=oq.at hoj
       obtain ⟨sd,hsd,rfl⟩:=Mb ho
       have e':H3 oj=some (.tup [.str sd.name,.int sd.b,.int sd.n]):=s13 _ _ e
       (walk_at "RD")
       refine ⟨Sub.name,_,SqT.of e',_,RO _,_,SqT.of ht,_,YH _,rfl,?_⟩
       by_cases cn:sd.name=ds[i].name
       ·rw [if_pos (by simp [cn])]
        have hjk:=huq j sd hsd cn
        subst hjk
        have ee:os[j]=oj:=by
         rw [List.getElem?_eq_getElem hk0l] at hoj
         exact Option.some.inj hoj
        exact hN _ _ ⟨rfl,by rw [if_neg (Nat.lt_irrefl _),if_pos (Nat.lt_succ_self _),ee];rfl⟩
       ·rw [if_neg (by simp [cn])]
        have hne:j ≠ k0:=fun z'=>by
         subst z'
         rw [hk0] at hsd
         cases hsd
         exact cn en0
        refine hN _ _ ⟨rfl,?_⟩
        by_cases c3:k0 < j
        ·rw [if_pos c3,if_pos (by omega)]
        ·rw [if_neg c3,if_neg (by omega)]
      ·rintro ys H3 ⟨rfl,rfl⟩ p2 hp2
       rw [List.length_map,if_pos hk0l]
       (walk_at "RD")
       exact ⟨_,SqL.of cb,_,Jb (j:=0) rfl,hD _ _ ⟨jb hp2,S13.new hp2,rfl⟩⟩
     rintro σ14 H14 ⟨s14,S14,rfl⟩
     (walk_at "RD")
     refine ⟨.inl ⟨_,SqL.of (s14 _ _ hdl13)⟩,wi,os[k0],ds[i],spb sp ds[i],z,far + (k:Int),rfl,s14 _ _ ht,s14 _ _ (s13 _ _ hsp0),(D.al _ hdm).1.k,by omega,S14.nt,_,s14 _ _ hdl13,Nat.lt_of_le_of_lt (show (Eb ((ds.take i).map (fc z sp (far + (k:Int))))).length ≤ 4 by rw [bi,List.length_map,List.length_take];omega) (by decide),(s13.trans s14).updN hdl,S14.set (s14 _ _ hdl13) (fun ob z e=>by cases e),?_,_,rfl⟩
     rw [cb,ge hd,List.map_append]
     unfold Eb
     rw [List.map_append]
     rfl
    ·rintro σ H2 ⟨s13,S13,hdl13,x12,x13,rfl⟩
     rw [List.length_map,l2,List.take_length] at hdl13
     exact hD _ _ ⟨s13,S13,hdl13,_,_,rfl⟩
   rintro σ13 H13 ⟨s13,S13,hdl13,x12,x13,rfl⟩
   have PA13:=PA10.same s13
   have hnm13:=s13 _ _ hnm10
   have hsh:∀ d ∈ ds,kt d.name∧(Vt z sp d)[((far + (k:Int)) % (z:Int)).toNat]? = some (fc z sp (far + (k:Int)) d):=fun d hd=>⟨D.small hd,TC (by omega) D R hd _⟩
   have hd0:ds[0]? = some ds[0]:=List.getElem?_eq_getElem (by omega)
   have hnd:(ds.map (·.name)).Nodup:=D.nd
   simp only [Lb]
   refine qc (fun σ' H2=>Kb H13 H2∧Sc K a ns H2∧∃ x14,σ'=[some (.ref a),some (.ref md),some (.ref wl),some (.ref c),some (.ref ro),some (.int z),some (.ref pl),some (.ref nm),some (.int far),some (.int (k:Nat)),some (.int (far + (k:Int))),some (.ref dl),x12,x13,x14,x15]) (fun D' hD _ _ _=>?_) ?_
   ·refine Bc (decide ((k:Int) % 8=Kh ns 6 8)) (fun Q hQ=>?_) (fun cc=>?_) (fun cc=>?_)
    ·(walk_at "RD"; repeat (simp only [Td];walk_at "RD"))
     exact ⟨by decide,S13,by omega,by omega,by decide,hQ⟩
    ·simp only [Lb]
     refine qc (fun σ' H2=>Kb H13 H2∧Sc K a ns H2∧∃ sh,H13 sh=none∧H2 sh=some (.dK (ckv ds (fc z sp (far + (k:Int)))))∧σ'=[some (.ref a),some (.ref md),some (.ref wl),some (.ref c),some (.ref ro),some (.int z),some (.ref pl),some (.ref nm),some (.int far),some (.int (k:Nat)),some (.int (far + (k:Int))),some (.ref dl),x12,x13,some (.ref sh),x15]) (fun D'' hD' _ _ _=>?_) ?_
     ·(walk_at "RD")
      exact ⟨pl,c,n,ds,z,sp,fc z sp (far + (k:Int)),far + (k:Int),rfl,PA13,by omega,hsh,S13.nt,fun p H2 s2 n2 hp hp2=>hD' _ _ ⟨s2,S13.same s2 n2,p,hp,hp2,rfl⟩⟩
     rintro σ14 H14 ⟨s14,S14,sh,hsh0,hsh14,rfl⟩
     (walk_at "RD")
     refine rg (fun b H2=>b=false∧Kb H14 H2∧Sc K a ns H2) (fun Q hQ=>?_) (fun H2 r=>?_) (fun H2 r=>?_)
     ·(walk_at "RD")
      refine ⟨_,.dK hsh14,_,BK,?_⟩
      rw [if_neg (by decide)]
      refine ⟨.inr (.inr (.inl (.inl ⟨_,hsh14⟩))),_,hsh14,fun p hp=>?_⟩
      obtain ⟨Ha,ea⟩:∃ Hx:Hp,Hx=upd H14 p (.ext (Zz p sh)):=⟨_,rfl⟩
      rw [← ea]
      have sa:Kb H14 Ha:=by rw [ea];exact jb hp
      have Sa:Sc K a ns Ha:=by rw [ea];exact S14.new hp
      have ua:Ha p=some (.ext (Zz p sh)):=by rw [ea];exact cb
      clear ea
      refine ⟨_,ua,_,sa _ _ hsh14,fun l hl'=>?_⟩
      obtain ⟨Hb,eb⟩:∃ Hx:Hp,Hx=upd Ha l (.lst (List.map (fun q=>kV q.fst) (ckv ds (fc z sp (far + (k:Int)))))):=⟨_,rfl⟩
      rw [← eb]
      have sb:Kb Ha Hb:=by rw [eb];exact jb hl'
      have Sb:Sc K a ns Hb:=by rw [eb];exact Sa.new hl'
      have ub:Hb l=some (.lst (List.map (fun q=>kV q.fst) (ckv ds (fc z sp (far + (k:Int)))))):=by rw [eb];exact cb
      clear eb
      rw [aE] at ub
      have sab:=sa.trans sb
      have e1:=EqH.flats (k:=7) (SqL.of (K:=K) ub) (SqL.of (sab _ _ (s14 _ _ hnm13))) fun x hx y hy=>by
       obtain ⟨x',_,rfl⟩:=List.mem_map.mp hx
       obtain ⟨y',_,rfl⟩:=List.mem_map.mp hy
       rfl
      rw [decide_eq_true rfl] at e1
      refine ⟨true,e1,?_⟩
      rw [if_neg (by decide)]
      refine ⟨.inr (.inr (.inl (.inl ⟨_,sab _ _ hsh14⟩))),_,sab _ _ hsh14,fun p' hp'=>?_⟩
      obtain ⟨Hc,ec⟩:∃ Hx:Hp,Hx=upd Hb p' (.ext (Yz p' sh)):=⟨_,rfl⟩
      rw [← ec]
      have sc:Kb Hb Hc:=by rw [ec];exact jb hp'
      have Sc':Sc K a ns Hc:=by rw [ec];exact Sb.new hp'
      have uc:Hc p'=some (.ext (Yz p' sh)):=by rw [ec];exact cb
      clear ec
      have sac:=sab.trans sc
      refine ⟨_,uc,_,sac _ _ hsh14,fun l' hl''=>?_⟩
      obtain ⟨Hd,ed⟩:∃ Hx:Hp,Hx=upd Hc l' (.lst (List.map (fun q=>q.snd) (ckv ds (fc z sp (far + (k:Int)))))):=⟨_,rfl⟩
      rw [← ed]
      have sd:Kb Hc Hd:=by rw [ed];exact jb hl''
      have Sd:Sc K a ns Hd:=by rw [ed];exact Sc'.new hl''
      have ud:Hd l'=some (.lst (List.map (fun q=>q.snd) (ckv ds (fc z sp (far + (k:Int)))))):=by rw [ed];exact cb
      clear ed
      rw [YE] at ud
      have sad:=sac.trans sd
      have e2:=EqH.flats (k:=7) (SqL.of (K:=K) ud) (SqL.of (sad _ _ (s14 _ _ hdl13))) fun x hx y hy=>by
       obtain ⟨x',_,rfl⟩:=List.mem_map.mp hx
       obtain ⟨y',_,rfl⟩:=List.mem_map.mp hy
       rfl
      rw [decide_eq_true rfl] at e2
      exact ⟨true,e2,hQ _ _ ⟨rfl,sad,Sd⟩⟩
     ·cases r.1
     obtain ⟨_,s15,S15⟩:=r
     have hnm0:atI (Eb (ds.map (·.name))) 0=some (.str ds[0].name):=Jb (j:=0) (by unfold Eb;rw [List.getElem?_map,List.getElem?_map,hd0];rfl)
     have hdu0:atI (Eb (ds.map (fc z sp (far + (k:Int))))) 0=some (.str (fc z sp (far + (k:Int)) ds[0])):=Jb (j:=0) (by unfold Eb;rw [List.getElem?_map,List.getElem?_map,hd0];rfl)
     (walk_at "RD")
     refine ⟨_,SqL.of (s15 _ _ (s14 _ _ hnm13)),_,hnm0,_,ww.k (k:=Sum.inr ds[0].name) (s15 _ _ hsh14) (Nat.lt_of_le_of_lt (show (ckv ds (fc z sp (far + (k:Int)))).length ≤ 4 by unfold ckv;rw [List.length_map];exact hl.2) (by decide)),?_⟩
     have s20:Kb H13 (upd H2 sh (.dK (zq (ckv ds (fc z sp (far + (k:Int)))) (Sum.inr ds[0].name) (.str (Str.ofString "dark"))))):=(s14.trans s15).updN hsh0
     have S20:Sc K a ns (upd H2 sh (.dK (zq (ckv ds (fc z sp (far + (k:Int)))) (Sum.inr ds[0].name) (.str (Str.ofString "dark"))))):=S15.set (s15 _ _ hsh14) (fun ob z e=>by cases e)
     generalize upd H2 sh (.dK (zq (ckv ds (fc z sp (far + (k:Int)))) (Sum.inr ds[0].name) (.str (Str.ofString "dark"))))=H20 at s20 S20 ⊢
     refine rg (fun b H3=>b=false∧Kb H20 H3∧Sc K a ns H3) (fun Q hQ=>?_) (fun H3 r=>?_) (fun H3 r=>?_)
     ·(walk_at "RD")
      refine ⟨pl,c,n,ds,z,sp,fc z sp (far + (k:Int)),far + (k:Int),rfl,PA13.same s20,by omega,hsh,S20.nt,fun p H3 s21 n21 hp hp3=>?_⟩
      have hg:nk H3 p (.str ds[0].name) (some (.str (fc z sp (far + (k:Int)) ds[0]))):=by
       have:=nk.k (k:=Sum.inr ds[0].name) hp3
       rw [AJ hnd hd0] at this
       exact this
      refine ⟨_,SqL.of ((s20.trans s21) _ _ hnm13),_,hnm0,p,rfl,_,hg,_,SqL.of ((s20.trans s21) _ _ hdl13),_,hdu0,rfl,?_⟩
      rw [decide_eq_true rfl]
      exact hQ _ _ ⟨rfl,s21,S20.same s21 n21⟩
     ·cases r.1
     obtain ⟨_,s21,S21⟩:=r
     (walk_at "RD")
     exact hD _ _ ⟨s20.trans s21,S21,_,rfl⟩
    ·(walk_at "RD")
     exact hD _ _ ⟨Kb.refl _,S13,_,rfl⟩
   rintro σ16 H16 ⟨s16,S16,x14,rfl⟩
   have hat0:=Ge ns (300 + (k:Int)) (m:=(ds.length:Int)) (by omega)
   have hat1:=He ns (300 + (k:Int)) (m:=(ds.length:Int)) (by omega)
   simp only [Lb]
   refine qc (fun σ' H2=>H2=H16∧σ'=[some (.ref a),some (.ref md),some (.ref wl),some (.ref c),some (.ref ro),some (.int z),some (.ref pl),some (.ref nm),some (.int far),some (.int (k:Nat)),some (.int (far + (k:Int))),some (.ref dl),x12,x13,x14,some (.int (Kh ns (300 + (k:Int)) (ds.length:Int)))]) (fun D' hD _ _ _=>?_) ?_
   ·(walk_at "RD"; repeat (simp only [Td];walk_at "RD"))
    refine ⟨_,.inl (SqL.of (s16 _ _ hnm13)),?_⟩
    rw [bi,List.length_map]
    exact ⟨S16,by omega,by omega,by omega,hD _ _ ⟨rfl,rfl⟩⟩
   rintro σ17 H17 ⟨rfl,rfl⟩
   obtain ⟨j,hj⟩:∃ j:Nat,Kh ns (300 + (k:Int)) (ds.length:Int)=(j:Nat):=⟨(Kh ns (300 + (k:Int)) (ds.length:Int)).toNat,by omega⟩
   rw [hj]
   have hjl:j < ds.length:=by omega
   have hdj:ds[j]? = some ds[j]:=List.getElem?_eq_getElem hjl
   dsimp only
   refine Bc false (fun Q hQ=>?_) (fun cc=>nomatch cc) (fun _=>?_)
   ·(walk_at "RD")
    refine ⟨_,SqL.of (s16 _ _ hnm13),_,Jb (j:=j) (v:=.str ds[j].name) (by unfold Eb;rw [List.getElem?_map,List.getElem?_map,hdj];rfl),pl,c,n,ds,z,sp,j,ds[j],_,far + (k:Int),rfl,PA13.same s16,by omega,D.small (List.mem_of_getElem? hdj),hdj,TC (by omega) D R (List.mem_of_getElem? hdj) _,_,SqL.of (s16 _ _ hdl13),_,Jb (j:=j) (v:=.str (fc z sp (far + (k:Int)) ds[j])) (by unfold Eb;rw [List.getElem?_map,List.getElem?_map,hdj];rfl),rfl,?_⟩
    rw [decide_eq_true rfl]
    exact hQ
   ·(walk_at "RD")
    exact ⟨((s10.trans s13).trans s16),S16,by repeat (first | exact ⟨_,rfl⟩ | refine ⟨⟨_,rfl⟩,?_⟩)⟩
  ·rintro σ H' ⟨s10,S10,x9,x10,x11,x12,x13,x14,x15,rfl⟩
   exact hD _ _ ⟨s10,S10,_,_,_,_,_,_,_,rfl⟩
 rintro σ10 H10 ⟨s10,S10,x9,x10,x11,x12,x13,x14,x15,rfl⟩
 (walk_at "RD")
 exact ⟨pl,c,n,ds,z,sp,rfl,(PA.same s7).same s10,by omega,D.strange,fun H' _=>q _⟩
end
end My
structure PySem.W.Fast:Prop where(tw13808332819866893245 tw13596932361534804579 tw1111033202473252808 tw16459393698472505214 tw15361289580952773286 tw16093842259139518308 tw16625381760115376396 tw237742030205466879 tw4532959144983187213 tw15369862715893024736 tw11460508143448118085 tw4395052504106136826 tw10270859478277312970 tw14224465142347062961 tw1305578965467160346 tw15651046804658226963 tw6851758657020790895 tw12263762675868047257 tw10992487026463553734 tw1060853100229111295 tw5446364606864477768 tw16875648959581962613 tw1758960244430417935 tw1854198656195954842 tw8880348376397546899 tw15795352230770044538 tw13595625723825700322 tw16782582548760172287 tw12961995279871660760 tw9649053412397315348 tw14070393294022152069 tw12006925684456064514 tw15157767875068719790 tw2114091804618697243 tw4134141651861101351 tw3899627513555267438 tw9858234418095065167 tw9038962549362053017 tw4796390516223962735 tw6262298891477070535 tw10823943133016896452 tw6009647000690609282 tw4098008950413881036 tw175013469536812574 tw12296013531163265583 tw12749511004929610650 tw2781236471404985231 tw13040601803009902078 tw12685626404654827444 tw9305924419707537660 tw360765614202342528 tw14562858684244865890 tw3325815776059980742 tw12552718713416840637 tw4514293349760712852 tw9836412949388931540 tw8403335765806912657 tw3344881473886294756 tw7051977770953993535 tw2776797665802081498 tw10675524226243632890 tw1030944639183605143 tw14364583398399918237 tw4598554841639117690 tw13993116994867454327 tw17148611902336949009 tw13862069380818194228 tw14524137441335502459 tw166006459334192454 tw14435354219423649763 tw6597759274322339738 tw7244721527529995317 tw1324403057389891479 tw14002846421891278090 tw2729331129568261113 tw1512087221066885093 tw6050886479276333148 tw7043674904528938395 tw5791617203102443637 tw6125273836015590383 tw3416149560587973746 tw57668691486602116 tw10842614752453459248 tw4658402172649356704 tw14971388236142986670 tw15389170951789783700 tw4973962955872549594 tw5517119738082105298 tw16279935590565624954 tw8183552784085234840 tw14872920049369018489 tw11280381937570368416 tw8642029342656331657 tw10330209069489863611 tw10336914068194747666 tw17124963262996192247 tw542217087768323375 tw14251756117249223668 tw15172920544348084191 tw15322425678593195714 tw14999692870713697439 tw15047504314641476574 tw3964152164264057415 tw5034042880151353621 tw13417810055190932721 tw9364313687113024886 tw6232896755960151677 tw6011250046808166486 tw13963741039294857027 tw275394397734820238 tw10022316034312636049 tw2830835271353777648 tw3610470148946992699 tw12700475356507931561 tw16169855230299611714 tw11304601550400339706 tw15075697176806522380 tw17764945793379347160 tw6906040664935460066 tw8710434548002132836 tw16881044254168971023 tw8866250865631128077 tw7758039692194014863 tw1001207170388103475 tw11466761001850246830 tw4973588399078019820 tw2764227441075307715 tw9706998901547835742 tw1825406208566985485 tw15347173231513559621 tw1562505174798701796 tw16365570898151531245 tw14715229874725387134 tw2847313460821774870 tw5403811059467935438 tw8887995851432649107 tw104490159595323165 tw8170952398238048796 tw8962449824420747111 tw7118051908990307107 tw12890997926010274375 tw1324867041176535018 tw17827710197964077094 tw13611747337831206724 tw2364353557358288155 tw17446641657584332752 tw5677694453065993881 tw18414190841433738456 tw7451299950386928554 tw9153846692865936779 tw8152264855280908488 tw4479133743173107444 tw9172101256573515431 tw10261133315814345038 tw13460113042558515105 tw11558880482681858694 tw15618094917059138071 tw14722512476561095192 tw1501806481022160893 tw16936498552520152512 tw10580272160835502041 tw15375527563325126574 tw8843640045602255641 tw14130286614592459549 tw6983747651740800346 tw6116925878980106587 tw14750678923925472187 tw10692321114862607581 tw5906994790471297427 tw2007621824392636948 tw13744932897304570814 tw2312415310830191208 tw5819033054275583834 tw13228432024124517638 tw11717180413169005213 tw13589861168876202104 tw7682053101768380615 tw17137539913024474169 tw856669363231669848 tw12351942596247205710 tw15151674475731375905 tw15601945086122475468 tw14214901038821449274 tw16153424475494645744 tw17675544581964313945 tw16467554105513597590 tw7549564216421706545 tw8147985116674045615 tw15014461650264717950 tw10035736304970205943 tw13492966163847899126 tw15083174717895537737 tw15043400984428078244 tw10249036915044446670 tw18355563440624793984 tw9389421178143768813 tw3235552383078062413 tw7702035185454380181 tw15550818591499653208 tw16666650549244022400 tw3900251541670050059 tw15794869304152431401 tw10055275023963221202 tw16320882125028122049 tw881148471743299712 tw13662597640528223269 tw18368335502779029062 tw868370883626921704 tw10984481217646063724 tw9035863920564298683 tw15592614637014037278 tw3994183963057582377 tw11780239498755788191 tw9346119987836156328 tw15020028911295975351 tw4785698836320104066 tw4583429709940104964 tw7390141513411113767 tw307207939344787537 tw17984260511180550002 tw14377290957876937660 tw16622115028286756684 tw8180660070410760401 tw17830879937799607040 tw11150033537054924598 tw10226421810045829482 tw7572959588389284791 tw5363202477055428744 tw8283758172788001845 tw2106687008915402975 tw5443752426127860778 tw8215006702368338141 tw2092508257335171958 tw12466552956194528328 tw2323984239123712102 tw11517900570924722276 tw1370896159310464303 tw13564013149581345226 tw5609245966648484125 tw2528510839948965243 tw9300141022531278589 tw10018204115815501064 tw15271176602218206904 tw12288064702348669012 tw4495679071427271864 tw14611373777192571473 tw13651935943710125217 tw15914886241625868512 tw5564500924346596839 tw2695747709026581554 tw3142682039385811001 tw1035124108205385811 tw13258386394305350282 tw14974940804697536691 tw16366010376742164759 tw13516041710092843433 tw4884476536549466635 tw13411827403348093884 tw9420143296891013335 tw12591419761156908036 tw3052274844902030087 tw4975184234596576986 tw8850000264007190111 tw1600807963790273312 tw12653668661113282325 tw15667449559974567591 tw7030925938293927895 tw14360326535283612510 tw4468916710632943796 tw12291164336386003300 tw1858380542488728177 tw13277819190297744655 tw4979510247068781123 tw6486247460814302004 tw16307140340435968194 tw2582320010070521026 tw4969480102578282985 tw8577834691479106222 tw18297133536797759295 tw17210685282085781294 tw16065726427879851292 tw983978905823807542 tw2103495159645089634 tw4521992223215899556 tw4941792406565195501 tw7979396530426414447 tw2710429511360535242 tw2775982063638026688 tw8592473404708821391 tw11604999401454447748 tw8205955324873219246 tw11510703036087272905 tw10177876220552699001 tw2588584981703026181 tw123095135988018578 tw13854527995388083177 tw312212427903166153 tw18220157769785946687 tw10308604653877468903 tw3735436347057856477 tw11711759454016961065 tw16790174247962281039 tw13797073457308108541 tw1110057048013129597 tw824106657012413902 tw4504556106446848052 tw3454247821557546735 tw5833558008581908211 tw18183210981576301893 tw14971785116036581294 tw12386977315045346065 tw13722840209836273342 tw18244001074412060352 tw7445692728985093070 tw7379705242806618477 tw17856427377313134460 tw5139967171139591525 tw7919386308661386362 tw11880698079452802304 tw11329561305136618017 tw2353768735749998664 tw6524099667646746410 tw11704443688372593145 tw16758602249655408800 tw7687184079164243063 tw14489403383278977275 tw1486447926078720783 tw16298010970144384308 tw16803221104221298029 tw17716672989423905860 tw3287496586557025268 tw15657524382469701025 tw2588847359522696815 tw13965967659932129737 tw16395482068013565155 tw411502672285580688 tw340618332769828974 tw1343677759003806861 tw16182680213399325322 tw5920783197184395208 tw15822339309947290406 tw15228663480655835358 tw8236568979013242967 tw11747590865892491419 tw9362058017960279083 tw343806473281438017 tw9007382819441939950 tw1494989719290658651 tw12578824327629300319 tw9345551321164728898 tw8354187957184626467 tw5269287657272358111 tw5980407179658592974 tw12472816526273700389 tw14512505557488828866 tw13429775825331080496 tw13050338768575322695 tw1620706364616789502 tw4091694584094397533 tw1953224547605721564 tw11883721908750389983 tw7296937369162230907 tw5278761849846941752 tw1818529153347509905 tw16261225977434790232 tw8606504853337037334 tw7867566236752895445 tw8480213089642162872 tw3806839525918281490 tw3678743315975832832 tw12876791420943758955 tw2475544456538302563 tw13600342140010152295 tw11714409492084361349 tw17463058591361109640 tw2502339840414101920 tw10156936695066363527 tw1562120381296089563 tw8928817991921554842 tw11001853225427399215 tw10347339651977716077 tw5294404834003458311 tw8061970252186295012 tw3098745270439611697 tw1184311073831478209 tw11035365068411879664 tw12010042400534172009 tw1066922716502328049 tw6408580360044744650 tw12253523143428893131 tw4275123964764831943 tw150645074846747697 tw15509339389638543004 tw14780842893912443795 tw8547629130632471582 tw15027719776251316539 tw9739426419592797319 tw15836081816782681304 tw4053034231710214780 tw18040393901660620 tw7160682922825063494 tw18211302461440264234 tw5718775837529634942 tw3207280840054390120 tw15197286032668506539 tw16365043663179968610 tw14481019815827883187 tw3531757623893343813 tw9256554750674744356 tw623347620649946200 tw15766418912827919286 tw5739790754291022656 tw6141229450391803503 tw4215386079460317373 tw10956933192786835757 tw17719260639794082015 tw4525260782229076730 tw3758558147739337147 tw15314451418477342688 tw3509296605924121661 tw8006637812104529598 tw14590926774589137250 tw4116678314015889571 tw18151195869368331610 tw16802986858724992200 tw15834857774756874495 tw14245126497866599851 tw18354227482529438076 tw5978890421887254015 tw4632679210876695223 tw17734318780465271065 tw13981024672852660623 tw17499085133805217480 tw12722369626539320069 tw2229895194983027106 tw16220976835342102659 tw15691992856365412010 tw8155602666689112780 tw4091435466177717622 tw1124512238955196430 tw5132247144618649873 tw4537826776406660839 tw18090737024611546497 tw15187132926381884265 tw11686315485721493074 tw4505228049034754758 tw11108892745092927337 tw4888316519043182108 tw9020989257132876092 tw5090569791757460698 tw13694894478950329027 tw611297390821862276 tw12053791479845627356 tw8635715207877348116 tw10718221232860168766 tw15571054225807154320 tw11972067319703277137:True)
open PySem PySem.W PyProof.Rows
set_option maxRecDepth 100000 in
set_option maxHeartbeats 0 in
theorem PySem.Challenge.cw_lampway_k16_colours_shown_holds : PySem.Challenge.rw_lampway_k16_colours_shown.Holds := by
 w_on;o_law;k_head;(case hw=>w_witness2)
 k_fill
 refine L2.bG (l:=PySem.Challenge.rw_lampway_k16_colours_shown) (n:=63) (k:=8) (x := "_law_script") (CX:=L2.CX0) (sp:=L2.IL) rfl (by decide) rfl ⟨rfl,by decide,by decide⟩ (fun w h Y=>PySem.W.kIn_of Y) ?F ?S ?C
 case F=>
  intro w mg fa h KX G hmg
  have T:∃ t,My.Txt w (L2.KOf KX) mg t:=by
   dsimp only [L2.KOf]
   refine' ⟨My.Adr.mk,⟨?maa,?Fab,?mac,?Fad,?mae,?Faf,?mag,?Fah,?mai,?Faj,?mak,?Fal,?mam,?Fan,?mao,?Fap,?maq,?Far,?mas,?Fat,?mau,?Fav,?maw,?Fax,?may,?Faz,?mba,?Fbb,?mbc,?Fbd,?mbe,?Fbf,?mbg,?Fbh,?mbi,?Fbj,?mbk,?Fbl,?mbm,?Fbn,?mbo,?Fbp,?mbq,?Fbr,?mbs,?Fbt,?mbu,?Fbv,?mbw,?Fbx,?mby,?Fbz,?mca,?Fcb,?mcc,?Fcd,?mce,?Fcf,?mcg,?Fch,?mci,?Fcj,?mck,?Fcl,?mcm,?Fcn,?mco,?Fcp,?mcq,?Fcr,?mcs,?Fct,?mcu,?Fcv,?mcw,?Fcx,?mcy,?ecz,?Fda,?mdb,?edc,?Fdd,?mde,?edf,?Fdg,?mdh,?edi,?Fdj,?mdk,?edl,?Fdm,?edn,?Fdo,?edp,?Fdq,?edr,?Fds,?edt,?Fdu,?edv,?Fdw,?edx,?Fdy,?edz,?Fea,?meb,?eec,?Fed,?mee,?eef,?Feg,?eeh,?Fei,?eej,?Fek,?mel,?eem,?Fen,?eeo,?Fep,?eeq,?Fer,?mes,?eet,?Feu,?eev,?Few,?eex,?Fey,?mez,?efa,?Ffb,?efc,?Ffd,?efe,?Fff,?efg,?Ffh,?mfi,?efj,?Ffk,?sfl,?sfm,?sfn,?sfo,?sfp,?sfq,?sfr,?sfs,?sft,?nfu,?nfv,?nfw,?sfx,?nfy,?nfz,?nga,?ngb,?ngc,?ngd,?nge,?sgf,?sgg,?sgh,?sgi,?ngj,?ngk,?ngl,?ngm,?ngn,?ngo,?ngp,?sgq,?sgr,?sgs,?sgt,?ngu,?ngv,?ngw,?ngx,?ngy,?ngz,?nha,?shb,?shc,?shd,?she,?nhf,?nhg,?nhh,?nhi,?nhj,?nhk,?nhl,?shm,?shn,?sho,?shp,?shq,?nhr,?nhs,?nht,?shu,?shv,?nhw,?nhx,?nhy,?nhz,?nia,?mib,?sic,?xid,?Xie,?nif,?rig,?rih,?rii,?rij,?rik,?xil,?Xim,?nin,?rio,?rip,?riq,?rir,?ris,?xit,?Xiu,?niv,?niw,?rix,?riy,?riz,?rja,?rjb,?xjc,?Xjd,?nje,?njf,?njg,?rjh,?rji,?rjj,?rjk,?rjl,?djm,?djn,?djo,?djp,?djq,?djr,?sjs,?mjt,?vju,?mjv,?vjw,?mjx,?vjy,?mjz,?vka,?mkb,?vkc,?mkd,?vke,?mkf,?vkg,?mkh,?vki,?mkj,?vkk,?mkl,?vkm,?bkn,?bko,?bkp,?bkq,?bkr,?bks,?bkt,?bku,?bkv,?bkw,?bkx,?bky,?lkz⟩⟩
   case maa | mac | mae | mag | mai | mak | mam | mao | maq | mas | mau | maw | may | mba | mbc | mbe | mbg | mbi | mbk | mbm | mbo | mbq | mbs | mbu | mbw | mby | mca | mcc | mce | mcg | mci | mck | mcm | mco | mcq | mcs | mcu | mcw | mcy | mdb | mde | mdh | mdk | meb | mee | mel | mes | mez | mfi | mib | mjt | mjv | mjx | mjz | mkb | mkd | mkf | mkh | mkj | mkl=>(try dsimp only);refine' PySem.W.mg_of KX G ?z;case z=>k_is
   case ecz | edc | edf | edi | edl | edn | edp | edr | edt | edv | edx | edz | eec | eef | eeh | eej | eem | eeo | eeq | eet | eev | eex | efa | efc | efe | efg | efj=>(try dsimp only);k_is
   case sfl | sfm | sfn | sfo | sfp | sfq | sfr | sfs | sft | sfx | sgf | sgg | sgh | sgi | sgq | sgr | sgs | sgt | shb | shc | shd | she | shm | shn | sho | shp | shq | shu | shv | sic | sjs=>(try dsimp only);constructor <;> k_is
   case Fab | Fad | Faf | Fah | Faj | Fal | Fan | Fap | Far | Fat | Fav | Fax | Faz | Fbb | Fbd | Fbf | Fbh | Fbj | Fbl | Fbn | Fbp | Fbr | Fbt | Fbv | Fbx | Fbz | Fcb | Fcd | Fcf | Fch | Fcj | Fcl | Fcn | Fcp | Fcr | Fct | Fcv | Fcx | Fda | Fdd | Fdg | Fdj | Fdm | Fdo | Fdq | Fds | Fdu | Fdw | Fdy | Fea | Fed | Feg | Fei | Fek | Fen | Fep | Fer | Feu | Few | Fey | Ffb | Ffd | Fff | Ffh | Ffk=>(try dsimp only);refine' L2.EK ?x ?y ?z;(case x=>k_is);(case y=>k_is);(case z=>k_is)
   case nfu | nfv | nfw | nfy | nfz | nga | ngb | ngc | ngd | nge | ngj | ngk | ngl | ngm | ngn | ngo | ngp | ngu | ngv | ngw | ngx | ngy | ngz | nha | nhf | nhg | nhh | nhi | nhj | nhk | nhl | nhr | nhs | nht | nhw | nhx | nhy | nhz | nia | nif | nin | niv | niw | nje | njf | njg=>(try dsimp only);unfold L2.Bb;k_is
   case rig | rih | rii | rij | rik | rio | rip | riq | rir | ris | rix | riy | riz | rja | rjb | rjh | rji | rjj | rjk | rjl=>(try dsimp only);kernel_rfl
   case xid | xil | xit | xjc=>(try dsimp only);refine' ⟨?_,by kernel_rfl,?_,?_,?_⟩ <;> k_is
   case Xie | Xim | Xiu | Xjd=>(try dsimp only);refine' L2.WM ?x (by kernel_rfl) ?y;(case x=>k_is);(case y=>k_is)
   case djm | djn | djo | djp | djq | djr=>(try dsimp only);decide
   case vju | vjw | vjy | vka | vkc | vke | vkg | vki | vkk | vkm=>(try dsimp only);exact ⟨_,rfl⟩
   case bkn | bko | bkp | bkq | bkr | bks | bkt | bku | bkv | bkw | bkx | bky=>(try dsimp only);refine' PySem.W.mg_none_of KX G ?z;case z=>k_is
   case lkz=>(try dsimp only);exact fun _ _=>.of_eq rfl
  obtain ⟨t,T⟩:=T
  have e0:=hmg.symm.trans T.RN
  cases e0
  exact ⟨t.BF,T.xL,fun base kb nb=>My.FM T⟩
 case S=>exact fun K H a ns hl hO hS=>⟨a,ns,rfl,L2.Sc.of_only hO hS,hl,fun _=>rfl⟩
 case C=>exact fun _ _ _ _ z=>z
