import PyProof.Rows.All
import Wide.All
import OpenK.AllK
import Wide.FinOn
import Lean
import PyProof.EqAt
import PyProof.EqKinds
import PyProof.TupleCall
import KE.KTryMore
import PyProof.NsDelKeeps
import PySem.Challenge.RW_lampway_k30_stages_read
set_option Elab.async false
set_option linter.all false
set_option maxRecDepth 100000
namespace L2
open PySem PySem.Spec PyProof.Rows
noncomputable abbrev Key:=Sum Int Str
noncomputable def gz:Key→Value→Bool
 | .inl k,v=>Value.isInt k v
 | .inr x,v=>Value.isStrOf x v
noncomputable def zM (w:World):Key→Int
 | .inl k=>hashInt k
 | .inr x=>hashStr w x
theorem Ud:∀ {k:Key} {v:Value},gz k v=true→(∃ i t,k=Sum.inl i∧v=Value.int i t)∨(∃ x t,k=Sum.inr x∧v=Value.str x t)
 | .inl i,v,h=>by
  obtain ⟨t,e⟩:=Value.isInt_shape (k:=i) (v:=v) h
  exact .inl ⟨i,t,rfl,e⟩
 | .inr x,v,h=>by
  obtain ⟨t,e⟩:=Value.isStrOf_shape (x:=x) (v:=v) h
  exact .inr ⟨x,t,rfl,e⟩
theorem GC (i:Int) (t:Tok):gz (.inl i) (.int i t)=true:=by simp [gz,Value.isInt]
theorem iB (x:Str) (t:Tok):gz (.inr x) (.str x t)=true:=by simp [gz,Value.isStrOf]
theorem EK (a b:Int):decide ((Sum.inl a:Key)=Sum.inl b)=(a == b):=by
 by_cases e:a=b
 ·subst e;simp
 ·have h:¬ (Sum.inl a:Key)=Sum.inl b:=fun q=>e (Sum.inl.inj q)
  rw [decide_eq_false h]
  exact (beq_eq_false_iff_ne.mpr e).symm
theorem qK (a b:Str):decide ((Sum.inr a:Key)=Sum.inr b)=decide (a=b):=by
 by_cases e:a=b
 ·subst e;simp
 ·have h:¬ (Sum.inr a:Key)=Sum.inr b:=fun q=>e (Sum.inr.inj q)
  rw [decide_eq_false h,decide_eq_false e]
theorem gK (a:Int) (b:Str):decide ((Sum.inl a:Key)=Sum.inr b)=false:=decide_eq_false (fun q=>nomatch q)
theorem AK (a:Str) (b:Int):decide ((Sum.inr a:Key)=Sum.inl b)=false:=decide_eq_false (fun q=>nomatch q)
noncomputable def Te (prog:Program) (w:World):PySem.KeyKind prog w Key where
 is:=gz
 hash:=zM w
 inj:=fun v a b ha hb=>by
  rcases Ud ha with ⟨i,t,rfl,rfl⟩ | ⟨x,t,rfl,rfl⟩
  ·rcases Ud hb with ⟨j,u,rfl,e⟩ | ⟨y,u,rfl,e⟩
   ·injection e with e1 _;rw [e1]
   ·exact nomatch e
  ·rcases Ud hb with ⟨j,u,rfl,e⟩ | ⟨y,u,rfl,e⟩
   ·exact nomatch e
   ·injection e with e1 _;rw [e1]
 byValue:=fun k v h=>by
  rcases Ud h with ⟨i,t,rfl,rfl⟩ | ⟨x,t,rfl,rfl⟩ <;> rfl
 pyHash:=fun hv h=>by
  rcases Ud hv with ⟨i,t,rfl,rfl⟩ | ⟨x,t,rfl,rfl⟩
  ·exact wpAny_pyHash_int h
  ·exact wpAny_pyHash_str h
 eqBool:=fun hu hv h=>by
  rcases Ud hu with ⟨i,t,rfl,rfl⟩ | ⟨x,t,rfl,rfl⟩
  ·rcases Ud hv with ⟨j,u,rfl,rfl⟩ | ⟨y,u,rfl,rfl⟩
   ·rw [EK] at h;exact wpAny_eqBool_int h
   ·rw [gK] at h;exact SeqAt.EqAt.int_str i t y u _ _ _ _ h
  ·rcases Ud hv with ⟨j,u,rfl,rfl⟩ | ⟨y,u,rfl,rfl⟩
   ·rw [AK] at h;exact SeqAt.EqAt.str_int x t j u _ _ _ _ h
   ·rw [qK] at h;exact wpAny_eqBool_str h
 «strs»:=fun k x t v h=>by
  rcases Ud h with ⟨i,u,rfl,e⟩ | ⟨y,u,rfl,e⟩
  ·exact nomatch e
  ·injection e with e1 _
   subst e1
   cases v <;> rfl
theorem Zw (prog:Program) (w:World) (i:Int) (t:Tok):(Te prog w).is (.inl i) (.int i t)=true:=GC i t
theorem zw (prog:Program) (w:World) (x:Str) (t:Tok):(Te prog w).is (.inr x) (.str x t)=true:=iB x t
end L2
namespace L2
open PySem PySem.Spec PyProof.Rows
inductive V where
 | non | bl (b:Bool) | int (i:Int) | str (x:Str) | byt (b:Array UInt8) | flt (b:UInt64) | ref (a:Addr) | ty (n:String)
 deriving DecidableEq
noncomputable def Od:V→Value→Prop
 | .non,u=>u=Value.none
 | .bl b,u=>u=Value.bool b
 | .int i,u=>∃ t,u=Value.int i t
 | .str x,u=>∃ t,u=Value.str x t
 | .byt b,u=>∃ t,u=Value.bytes b t
 | .flt b,u=>∃ t,u=Value.float b t
 | .ref a,u=>u=Value.ref a
 | .ty n,u=>u=Value.type n
noncomputable abbrev Jd:List V→List Value→Prop:=Paired Od
theorem Jd.length {xs:List V} {us:List Value} (r:Jd xs us):xs.length=us.length:=Paired.length r
theorem Jd.get:∀ {xs:List V} {us:List Value} {i:Nat} {x:V},Jd xs us→xs[i]? = some x→∃ u,us[i]? = some u∧Od x u
 | _,_,_,_,.nil,e=>by simp at e
 | _,_,0,_,.cons r _,e=>by simp at e;subst e;exact ⟨_,rfl,r⟩
 | _,_,i + 1,x,.cons _ t,e=>by
  obtain ⟨u,h1,h2⟩:=Jd.get (i:=i) (x:=x) t (by simpa using e)
  exact ⟨u,by simpa using h1,h2⟩
theorem Jd.set {x:V} {u:Value} (r:Od x u):∀ {xs:List V} {us:List Value} (i:Nat),Jd xs us→Jd (xs.set i x) (us.set i u)
 | _,_,_,.nil=>.nil
 | _,_,0,.cons _ t=>.cons r t
 | _,_,i + 1,.cons q t=>.cons q (Jd.set r i t)
theorem Jd.append:∀ {xs ys:List V} {us ws:List Value},Jd xs us→Jd ys ws→Jd (xs ++ ys) (us ++ ws)
 | _,_,_,_,.nil,s=>s
 | _,_,_,_,.cons r t,s=>.cons r (Jd.append t s)
theorem Jd.take:∀ {xs:List V} {us:List Value} (n:Nat),Jd xs us→Jd (xs.take n) (us.take n)
 | _,_,0,_=>.nil
 | _,_,_ + 1,.nil=>.nil
 | _,_,n + 1,.cons r t=>.cons r (Jd.take n t)
theorem Jd.drop:∀ {xs:List V} {us:List Value} (n:Nat),Jd xs us→Jd (xs.drop n) (us.drop n)
 | _,_,0,r=>r
 | _,_,_ + 1,.nil=>.nil
 | _,_,n + 1,.cons _ t=>Jd.drop n t
theorem Jd.none_of:∀ {xs:List V} {us:List Value} {i:Nat},Jd xs us→xs[i]? = none→us[i]? = none:=fun {xs us i} r e=>by
 have h1:=r.length
 have h2:xs.length ≤ i:=List.getElem?_eq_none_iff.mp e
 exact List.getElem?_eq_none_iff.mpr (by omega)
noncomputable def yr:Option V→Option Value→Prop
 | some v,some u=>Od v u
 | none,none=>True
 | _,_=>False
noncomputable def KV {κ:Type}:List (κ × V)→List (κ × Value)→Prop:=Paired fun (p:κ × V) (q:κ × Value)=>p.1=q.1∧Od p.2 q.2
noncomputable def kV:Key→V
 | .inl i=>.int i
 | .inr x=>.str x
inductive HO where
  | lst (xs:List V)
  | tup (xs:List V)
  | dK (kvs:List (Key × V)) | dT (kvs:List (List Key × V))
  | set (S:Int→Bool) (n:Nat)
  | ins (C dx:Addr) (fs:List (Str × V))
  | own (x:Addr)
  | xd (fs:List (Str × V))
  | met (f x:Addr)
  | rng (lo hi:Int)
  | frz (o:Obj) (u:HO)
  | tbl (ps:Array Value)
  | ext (φ:Heap→Prop)
noncomputable abbrev Hp:=Addr→Option HO
noncomputable def upd (H:Hp) (a:Addr) (o:HO):Hp:=fun b=>if b=a then some o else H b
theorem db {H:Hp} {a:Addr} {o:HO}:upd H a o a=some o:=by unfold upd;rw [if_pos rfl]
theorem lb {H:Hp} {a b:Addr} {o:HO} (h:b ≠ a):upd H a o b=H b:=by unfold upd;rw [if_neg h]
theorem Qg {H:Hp} {a:Addr} {o u:HO}:upd (upd H a o) a u=upd H a u:=by
 funext b;unfold upd;split <;> rfl
theorem Xd {H:Hp} {a b:Addr} {o u:HO} (h:H a=some o) (h':H b=some u) (d:o ≠ u):a ≠ b:=by
 intro e;subst e;rw [h] at h';exact d (Option.some.inj h')
theorem vb {H:Hp} {a b:Addr} {o:HO} (h:H a=some o) (h':H b=none):a ≠ b:=by
 intro e;subst e;rw [h] at h';cases h'
section
variable (P:Program) (w:World)
noncomputable def md (H:Hp) (h:Heap) (a:Addr):HO→Prop
 | .lst xs=>xs.length ≤ sizeLine∧∃ (its:List Value) (n:Nat),Jd xs its∧h.get? a=some { cls:=.type "list",data:=.seq its.toArray n }
 | .tup xs=>xs.length ≤ sizeLine∧∃ its:List Value,Jd xs its∧IsTup h a its.toArray
 | .dK kvs=>kvs.length ≤ sizeLine∧(a == sysModules)=false∧∃ vs,KV kvs vs∧h.DictOf (Te P w) a vs
 | .dT kvs=>kvs.length ≤ sizeLine∧(a == sysModules)=false∧∃ xs:List (List Key × Addr × Value),
   Paired (fun (p:List Key × V) (q:List Key × Addr × Value)=>p.1=q.1∧H q.2.1=some (.tup (p.1.map kV))∧Od p.2 q.2.2) kvs xs ∧
   ∃ o es ep,h.get? a=some o∧o.ExactDict∧o.data=.dict es ep∧es.toList=xs.map (entryOfKey (tupleKind (Te P w)))∧(xs.map (·.1)).Nodup
 | .set S n=>h.SetOf (intKind P w) a S n
 | .ins C dx fs=>H dx=some (.own a)∧fs.length ≤ 1000∧dx ≠ a∧h.get? a=some (PySem.W.instObj C dx) ∧
   ∃ mA,h.Ns1 dx mA∧(∀ f,yr (fs.lookup f) (mA f))∧PySem.Within mA (fs.map (·.1))
 | .own _=>∃ o,h.get? a=some o
 | .xd fs=>∃ mA,h.Ns1 a mA∧∀ f,yr (fs.lookup f) (mA f)
 | .rng lo hi=>∃ t u v,h.get? a=some { cls:=.type "range",data:=.fields #[.int lo t,.int hi u,.int 1 v] }
 | .frz o u=>h.get? a=some o∧md H h a u
 | .tbl ps=>h.get? a=some { cls:=.none,data:=.fields ps }
 | .met f x=>h.get? a=some (PySem.W.methodObj (.ref f) (.ref x))
 | .ext φ=>φ h∧(∃ o,h.get? a=some o)∧∀ h1 h2:Heap,φ h1→(∀ o,h1.get? a=some o→h2.get? a=some o)→φ h2
noncomputable def HOk (H:Hp) (h:Heap):Prop:=∀ a o,H a=some o→md P w H h a o
end
section
variable {P:Program} {w:World} {H H':Hp} {h h':Heap} {a:Addr} {o:HO}
theorem md.lt (x:md P w H h a o):a < h.objs.size:=by
 cases o with
 | lst xs=>obtain ⟨_,_,_,_,e⟩:=x;exact Heap.lt_size e
 | tup xs=>obtain ⟨_,_,_,p⟩:=x;exact p.lt
 | dK kvs=>obtain ⟨_,_,_,_,o,_,_,e,_⟩:=x;exact Heap.lt_size e
 | dT kvs=>obtain ⟨_,_,_,_,o,_,_,e,_⟩:=x;exact Heap.lt_size e
 | set S n=>obtain ⟨o,_,_,_,e,_⟩:=x;exact Heap.lt_size e
 | ins C dx fs=>obtain ⟨_,_,_,e,_⟩:=x;exact Heap.lt_size e
 | own y=>obtain ⟨_,e⟩:=x;exact Heap.lt_size e
 | xd fs=>obtain ⟨_,⟨_,_,_,e,_⟩,_⟩:=x;exact Heap.lt_size e
 | rng lo hi=>obtain ⟨_,_,_,e⟩:=x;exact Heap.lt_size e
 | frz ob u=>obtain ⟨e,_⟩:=x;exact Heap.lt_size e
 | tbl ps=>exact Heap.lt_size (show h.get? a=some _ from x)
 | met f y=>exact Heap.lt_size (show h.get? a=some _ from x)
 | ext φ=>obtain ⟨_,⟨_,e⟩,_⟩:=x;exact Heap.lt_size e
theorem Paired.mapP {α β:Type} {F G:α→β→Prop}:∀ {l₁:List α} {l₂:List β},Paired F l₁ l₂→(∀ a b,F a b→G a b)→Paired G l₁ l₂
 | _,_,.nil,_=>.nil
 | _,_,.cons r t,f=>.cons (f _ _ r) (Paired.mapP t f)
theorem md.stay (x:md P w H h a o) (k:∀ b u,(b=a∨H b=some (.own a))→h.get? b=some u→h'.get? b=some u)
  (ho:∀ b,H b=some (.own a)→H' b=some (.own a)) (ht:∀ b xs,H b=some (.tup xs)→H' b=some (.tup xs)):md P w H' h' a o:=by
 induction o with
 | lst xs=>obtain ⟨z,its,n,r,e⟩:=x;exact ⟨z,its,n,r,k _ _ (.inl rfl) e⟩
 | tup xs=>obtain ⟨z,its,r,ob,e,c⟩:=x;exact ⟨z,its,r,ob,k _ _ (.inl rfl) e,c⟩
 | dK kvs=>obtain ⟨z,y,vs,r,ob,es,ep,e,c⟩:=x;exact ⟨z,y,vs,r,ob,es,ep,k _ _ (.inl rfl) e,c⟩
 | dT kvs=>
  obtain ⟨z,y,xs,r,ob,es,ep,e,c⟩:=x
  exact ⟨z,y,xs,Paired.mapP r fun p q z=>⟨z.1,ht _ _ z.2.1,z.2.2⟩,ob,es,ep,k _ _ (.inl rfl) e,c⟩
 | set S n=>obtain ⟨ob,es,ep,t,e,c⟩:=x;exact ⟨ob,es,ep,t,k _ _ (.inl rfl) e,c⟩
 | ins C dx fs=>
  obtain ⟨d,z,ne,e,mA,⟨od,es,ep,e2,c⟩,r⟩:=x
  exact ⟨ho _ d,z,ne,k _ _ (.inl rfl) e,mA,⟨od,es,ep,k _ _ (.inr d) e2,c⟩,r⟩
 | own y=>obtain ⟨ob,e⟩:=x;exact ⟨ob,k _ _ (.inl rfl) e⟩
 | xd fs=>obtain ⟨mA,⟨od,es,ep,e,c⟩,r⟩:=x;exact ⟨mA,⟨od,es,ep,k _ _ (.inl rfl) e,c⟩,r⟩
 | rng lo hi=>obtain ⟨t,u,v,e⟩:=x;exact ⟨t,u,v,k _ _ (.inl rfl) e⟩
 | frz ob u ih=>obtain ⟨e,q⟩:=x;exact ⟨k _ _ (.inl rfl) e,ih q⟩
 | tbl ps=>
  have e:h.get? a=some { cls:=.none,data:=.fields ps }:=x
  show h'.get? a=some { cls:=.none,data:=.fields ps }
  exact k a _ (.inl rfl) e
 | met f y=>
  have e:h.get? a=some (PySem.W.methodObj (.ref f) (.ref y)):=x
  show h'.get? a=some (PySem.W.methodObj (.ref f) (.ref y))
  exact k a _ (.inl rfl) e
 | ext φ=>obtain ⟨p,⟨o,e⟩,st⟩:=x;exact ⟨st _ _ p fun o q=>k _ _ (.inl rfl) q,⟨o,k _ _ (.inl rfl) e⟩,st⟩
theorem HOk.lt (x:HOk P w H h) (e:H a=some o):a < h.objs.size:=(x a o e).lt
theorem HOk.fresh (x:HOk P w H h) (e:h.objs.size ≤ a):H a=none:=by
 cases q:H a with
 | none=>rfl
 | some u=>exact absurd (Nat.lt_of_lt_of_le (x.lt q) e) (Nat.lt_irrefl _)
theorem HOk.kept (x:HOk P w H h) (k:∀ b u,h.get? b=some u→h'.get? b=some u):HOk P w H h':=fun a o e=>
 (x a o e).stay (fun b u _ q=>k b u q) (fun _ q=>q) fun _ _ q=>q
theorem HOk.laid (x:HOk P w H h) (k:∀ b u,h.get? b=some u→h'.get? b=some u) (hp:h.objs.size ≤ a) (new:md P w (upd H a o) h' a o):HOk P w (upd H a o) h':=fun b u e=>by
 have hn:=x.fresh hp
 by_cases hb:b=a
 ·subst hb;rw [db] at e;cases e;exact new
 ·rw [lb hb] at e
  exact (x b u e).stay (fun c v _ q=>k c v q) (fun c q=>by rw [lb (vb q hn)];exact q) fun c xs q=>by rw [lb (vb q hn)];exact q
end
noncomputable def Rd (H:Hp) (a:Addr) (u:HO):Prop:=H a=some u∨∃ o,H a=some (.frz o u)
theorem Rd.of {H:Hp} {a:Addr} {u:HO} (h:H a=some u):Rd H a u:=.inl h
theorem Rd.ok {P:Program} {w:World} {H:Hp} {h:Heap} {a:Addr} {u:HO} (r:Rd H a u) (x:HOk P w H h):md P w H h a u:=by
 rcases r with r | ⟨o,r⟩
 ·exact x a u r
 ·obtain ⟨_,q⟩:=x a _ r
  exact q
noncomputable def Mut:Option HO→Prop
 | some (.lst _)=>True
 | some (.dK _)=>True
 | some (.dT _)=>True
 | some (.set _ _)=>True
 | some (.ins _ _ _)=>True
 | some (.ext _)=>True
 | _=>False
section
variable {P:Program} {w:World} {H:Hp} {h h':Heap} {x e:Addr} {o':HO}
theorem HOk.write (ok:HOk P w H h) (mu:Mut (H x)) (he:e=x∨H e=some (.own x)) (k:∀ b u,b ≠ e→h.get? b=some u→h'.get? b=some u) (heo:∃ u,h'.get? e=some u)
  (new:md P w (upd H x o') h' x o'):HOk P w (upd H x o') h':=fun b u q=>by
 have nown:∀ c y,H c=some (.own y)→c ≠ x:=fun c y r z=>by subst z;rw [r] at mu;exact mu
 have ntup:∀ c xs,H c=some (.tup xs)→c ≠ x:=fun c xs r z=>by subst z;rw [r] at mu;exact mu
 by_cases hb:b=x
 ·subst hb;rw [db] at q;cases q;exact new
 ·rw [lb hb] at q
  by_cases hbe:b=e
  ·have q':H b=some (.own x):=by
    rcases he with z | z
    ·exact absurd (hbe.trans z) hb
    ·rw [hbe];exact z
   rw [q] at q';cases q'
   obtain ⟨v,hv⟩:=heo
   exact ⟨v,by rw [hbe];exact hv⟩
  ·refine (ok b u q).stay (fun c v hc r=>k c v ?_ r) (fun c r=>by rw [lb (nown c b r)];exact r) fun c xs r=>by rw [lb (ntup c xs r)];exact r
   rcases hc with rfl | hc
   ·exact hbe
   ·rintro rfl
    rcases he with z | z
    ·exact nown c b hc z
    ·rw [hc] at z;cases z;exact hb rfl
end
structure Un (fs ex:List Addr) (H H':Hp) (h h':Heap):Prop where
 keep:∀ b o,h.get? b=some o→H b=none→b ∉ fs→b ∉ ex→h'.get? b=some o
 slot:∀ b o,h.get? b=some o→H b=none→b ∈ fs→b ∉ ex→∃ sl,h'.get? b=some { o with slots:=sl }
 free:∀ b o,h.get? b=some o→H b=none→b ∉ ex→H' b=none
 there:∀ b o,h.get? b=some o→b ∉ ex→∃ o',h'.get? b=some o'
 tups:∀ b xs,H b=some (.tup xs)→H' b=some (.tup xs)
 frzs:∀ b o u,H b=some (.frz o u)→H' b=some (.frz o u)
 tbls:∀ b ps,H b=some (.tbl ps)→∃ more,H' b=some (.tbl (ps ++ more))
section
variable {fs fs' ex ex':List Addr} {H H1 H2:Hp} {h h1 h2 h':Heap} {a x e:Addr} {o:HO}
theorem Un.any (u:Un fs ex H H1 h h1) {b:Addr} {ob:Obj} (q:h.get? b=some ob) (n:H b=none) (hx:b ∉ ex):∃ sl,h1.get? b=some { ob with slots:=sl }:=by
 by_cases hb:b ∈ fs
 ·exact u.slot b ob q n hb hx
 ·exact ⟨ob.slots,u.keep b ob q n hb hx⟩
theorem Un.trans (a:Un fs ex H H1 h h1) (b:Un fs ex H1 H2 h1 h2):Un fs ex H H2 h h2 where
 keep:=fun c ob q n hc hx=>b.keep c ob (a.keep c ob q n hc hx) (a.free c ob q n hx) hc hx
 slot:=fun c ob q n hc hx=>by
  obtain ⟨sl,e1⟩:=a.slot c ob q n hc hx
  obtain ⟨sl',e2⟩:=b.slot c _ e1 (a.free c ob q n hx) hc hx
  exact ⟨sl',e2⟩
 free:=fun c ob q n hx=>by
  obtain ⟨o',e1⟩:=a.there c ob q hx
  exact b.free c o' e1 (a.free c ob q n hx) hx
 there:=fun c ob q hx=>by
  obtain ⟨o',e1⟩:=a.there c ob q hx
  exact b.there c o' e1 hx
 tups:=fun c xs q=>b.tups c xs (a.tups c xs q)
 frzs:=fun c ob xs q=>b.frzs c ob xs (a.frzs c ob xs q)
 tbls:=fun c ps q=>by
  obtain ⟨m1,e1⟩:=a.tbls c ps q
  obtain ⟨m2,e2⟩:=b.tbls c _ e1
  exact ⟨m1 ++ m2,by rw [e2,Array.append_assoc]⟩
theorem Un.kept (k:∀ b u,h.get? b=some u→h'.get? b=some u):Un fs ex H H h h':=
 ⟨fun b ob q _ _ _=>k b ob q,fun b ob q _ _ _=>⟨ob.slots,k b ob q⟩,fun _ _ _ n _=>n,fun b ob q _=>⟨ob,k b ob q⟩,fun _ _ q=>q,fun _ _ _ q=>q,fun _ ps q=>⟨#[],by rw [q];simp⟩⟩
theorem Un.refl:Un fs ex H H h h:=Un.kept fun _ _ q=>q
theorem Un.laid (k:∀ b u,h.get? b=some u→h'.get? b=some u) (hp:h.objs.size ≤ a) (hn:H a=none):Un fs ex H (upd H a o) h h' where
 keep:=fun b u q _ _ _=>k b u q
 slot:=fun b u q _ _ _=>⟨u.slots,k b u q⟩
 free:=fun b u q n _=>by rw [lb (Nat.ne_of_lt (Nat.lt_of_lt_of_le (Heap.lt_size q) hp))];exact n
 there:=fun b u q _=>⟨u,k b u q⟩
 tups:=fun b xs q=>by rw [lb (vb q hn)];exact q
 frzs:=fun b u xs q=>by rw [lb (vb q hn)];exact q
 tbls:=fun b ps q=>⟨#[],by rw [lb (vb q hn),q];simp⟩
theorem Un.write (mu:Mut (H x)) (he:e=x∨H e=some (.own x)) (k:∀ b u,b ≠ e→h.get? b=some u→h'.get? b=some u) (heo:∃ u,h'.get? e=some u):Un fs ex H (upd H x o) h h':=by
 have hx:∀ b,H b=none→b ≠ x:=fun b n z=>by subst z;rw [n] at mu;exact mu
 have hb:∀ b,H b=none→b ≠ e:=fun b n z=>by
  subst z
  rcases he with r | r
  ·exact hx b n r
  ·rw [n] at r;cases r
 have hm:∀ b u,H b=some u→¬ Mut (some u)→b ≠ x:=fun b u q nm z=>by subst z;rw [q] at mu;exact nm mu
 refine ⟨fun b u q n _ _=>k b u (hb b n) q,fun b u q n _ _=>⟨u.slots,k b u (hb b n) q⟩,fun b u q n _=>by rw [lb (hx b n)];exact n,fun b u q _=>?_,
  fun b xs q=>by rw [lb (hm b _ q fun z=>z)];exact q,fun b u xs q=>by rw [lb (hm b _ q fun z=>z)];exact q,fun b ps q=>⟨#[],by rw [lb (hm b _ q fun z=>z),q];simp⟩⟩
 by_cases hbe:b=e
 ·subst hbe;exact heo
 ·exact ⟨u,k b u hbe q⟩
theorem Un.mono (u:Un fs ex H H1 h h1) (hs:∀ b ∈ fs,b ∈ fs') (hx:∀ b ∈ ex,b ∈ ex'):Un fs' ex' H H1 h h1:=
 ⟨fun b ob q n hb he=>u.keep b ob q n (fun z=>hb (hs b z)) fun z=>he (hx b z),fun _ _ q n _ he=>u.any q n fun z=>he (hx _ z),fun b ob q n he=>u.free b ob q n fun z=>he (hx b z),fun b ob q he=>u.there b ob q fun z=>he (hx b z),u.tups,u.frzs,u.tbls⟩
end
noncomputable def trk (h:Heap) (H:Hp):List Addr:=(List.range h.objs.size).filter fun a=>(H a).isSome
noncomputable def BE (h:Heap) (H:Hp):Heap:=PySem.W.hideAll h (trk h H)
theorem KC (h:Heap) (H:Hp):(BE h H).objs.size=h.objs.size:=PySem.W.hideAll_size _ _
theorem eF {h:Heap} {H:Hp} {b:Addr} {o:Obj} (e:h.get? b=some o) (n:H b=none):(BE h H).get? b=some o:=
 PySem.W.hideAll_get _ e fun hm=>by
  have q:(H b).isSome=true:=(List.mem_filter.mp hm).2
  rw [n] at q;simp at q
theorem tH {h:Heap} {H:Hp} {b:Addr} {o:Obj} (e:(BE h H).get? b=some o):h.get? b=some o∧H b=none:=by
 have e':h.get? b=some o:=PySem.W.of_hideAll (trk h H) e
 refine ⟨e',?_⟩
 cases q:H b with
 | none=>rfl
 | some x=>
  have hm:b ∈ trk h H:=List.mem_filter.mpr ⟨List.mem_range.mpr (Heap.lt_size e'),by simp [q]⟩
  have z:(BE h H).get? b=none:=PySem.W.hideAll_none (trk h H) hm
  rw [z] at e;cases e
noncomputable def EI (g h:Heap) (L:Addr):List (Addr × Obj):=(List.range h.objs.size).filterMap fun a=>if a=L∨(g.get? a).isSome=true then none else (h.get? a).map fun o=>(a,o)
noncomputable def rest (g h:Heap) (L d:Addr):List (Addr × Obj):=(EI g h L).filter fun p=>decide (p.1 ≠ d)
end L2
namespace L2
open PySem PySem.Spec PyProof.Rows
structure Mod (K:PySem.W.Frag) (mg:Str→Option Value) (base:Heap):Prop where
 kin:K.In base
 glob:base.Ns mainGlobals mg
 blt:∃ mb,base.Ns builtinsNs mb∧∀ x:Str,x ≠ "__name__" → mb x=bootBuiltins x
 nolimit:base.NoLimit
structure Cx where
 prog:Program
 w:World
 K:PySem.W.Frag
 mg:Str→Option Value
 base:Heap
 A:Around
 N:List Str
 s₀:Shared
 H₀:Hp
 env:Env
 outer:List Env
 stack:List Env
 ex:List Addr
 fn:Str→Bool
 calm:Bool
 pn:List (Addr × Obj)
 xe:Value→Shared→Prop
noncomputable def frs (l:List Env):List Addr:=l.filterMap (·.frame)
noncomputable abbrev Cx.fs (X:Cx):List Addr:=frs X.outer
noncomputable def Vis (sc:Scope) (x:Str):Prop:=sc.names.lookup x=some .local∨sc.names.lookup x=some .cell∨sc.names.lookup x=some .free
noncomputable def Loc (sc:Scope) (x:Str):Prop:=sc.names.lookup x=some .local∨sc.names.lookup x=some .cell
noncomputable def uM (env:Env) (h:Heap) (m:Str→Option Value) (x:Str) (u:Value):Prop:=
 (env.kindOf x=some .local∧m x=some u)∨((env.kindOf x=some .cell∨env.kindOf x=some .free)∧∃ c,env.cells.lookup x=some c∧h.IsCell c (some u))
structure Cx.Ok (X:Cx):Prop where
 mod:Mod X.K X.mg X.base
 kind:X.env.scope.kind=.function
 glob:X.env.globals=mainGlobals
 blt:X.env.builtins=builtinsNs
 above:X.s₀.heap.objs.size ≤ X.env.locals
 inj:∀ x y c,X.env.cells.lookup x=some c→X.env.cells.lookup y=some c→x=y
 has:∀ x,(X.env.kindOf x=some .cell∨X.env.kindOf x=some .free)→∃ c,X.env.cells.lookup x=some c
 cab:∀ x c,X.fn x=true→X.env.cells.lookup x=some c→X.s₀.heap.objs.size ≤ c
 hd:X.calm=true→X.A.handled=none
 frames:X.A.frames=some X.stack
 stk:X.stack=X.outer∨(X.stack=X.env :: X.outer∧X.env.frame=some X.env.locals)
 exf:∀ b ∈ X.ex,b ≠ X.env.locals∧∀ x c,X.env.cells.lookup x=some c→c ≠ b
 bs:∀ b o,X.base.get? b=some o→X.s₀.heap.get? b=some o∧X.H₀ b=none
 bsz:X.base.objs.size ≤ X.s₀.heap.objs.size
 noex:∀ b o,X.base.get? b=some o→b ∉ X.ex
 exfs:∀ b ∈ X.ex,b ∉ X.fs
 funs:X.s₀.heap.FunFrames X.base X.outer
 frf:∀ b ∈ X.fs,X.H₀ b=none
structure Inv (X:Cx) (pins:List (Addr × Obj)) (σ:List (Option V)) (H:Hp) (s:Shared):Prop where
 ok:X.Ok
 os:s.os=X.s₀.os
 bare:AllBare s.gens
 base:Un X.fs X.ex X.H₀ H X.s₀.heap s.heap
 loc:∃ m,s.heap.Ns X.env.locals m∧∀ (i:Nat) (x:Str) (v:V),X.N[i]? = some x→σ[i]? = some (some v)→Vis X.env.scope x→∃ u,Od v u∧uM X.env s.heap m x u
 cell:∀ x c,X.env.cells.lookup x=some c→∃ v,s.heap.IsCell c v
 free:H X.env.locals=none
 freeC:∀ x c,X.env.cells.lookup x=some c→H c=none
 pin:∀ p ∈ X.pn ++ pins,s.heap.get? p.1=some p.2∧H p.1=none∧p.1 ≠ X.env.locals∧p.1 ∉ X.fs∧∀ v,p.2.data ≠ .cell v
 hok:HOk X.prog X.w H s.heap
 len:σ.length=X.N.length
section
variable {X:Cx} {pins:List (Addr × Obj)} {σ:List (Option V)} {H H':Hp} {s:Shared} {h':Heap}
theorem Cx.Ok.nofr (ok:X.Ok) {b:Addr} {o:Obj} (e:X.base.get? b=some o):b ∉ X.fs:=fun hb=>by
 have:=(ok.funs.mem hb).1
 rw [e] at this;cases this
theorem Inv.bs (I:Inv X pins σ H s):∀ b o,X.base.get? b=some o→s.heap.get? b=some o∧H b=none:=fun b o e=>
 ⟨I.base.keep b o (I.ok.bs b o e).1 (I.ok.bs b o e).2 (I.ok.nofr e) (I.ok.noex b o e),I.base.free b o (I.ok.bs b o e).1 (I.ok.bs b o e).2 (I.ok.noex b o e)⟩
theorem Inv.bk (I:Inv X pins σ H s):∀ b o,X.base.get? b=some o→s.heap.get? b=some o:=fun b o e=>(I.bs b o e).1
theorem Inv.mod (I:Inv X pins σ H s):Mod X.K X.mg X.base:=I.ok.mod
theorem Inv.kIn (I:Inv X pins σ H s):X.K.In s.heap:=I.ok.mod.kin.keeps I.bk
theorem Inv.nolimit (I:Inv X pins σ H s):s.heap.NoLimit:=I.ok.mod.nolimit.keeps I.bk
theorem Inv.fr (I:Inv X pins σ H s):∃ m,Fr X.base X.env.locals s.heap m:=
 let ⟨m,hn,_⟩:=I.loc
 ⟨m,hn,I.bk,Nat.le_trans I.ok.bsz I.ok.above⟩
theorem Inv.lt (I:Inv X pins σ H s):X.env.locals < s.heap.objs.size:=let ⟨_,hn,_⟩:=I.loc;hn.lt
theorem Inv.sz (I:Inv X pins σ H s):X.s₀.heap.objs.size ≤ s.heap.objs.size:=Nat.le_trans I.ok.above (Nat.le_of_lt I.lt)
theorem Inv.nofs (I:Inv X pins σ H s) {a:Addr} (h:s.heap.objs.size ≤ a):a ∉ X.fs:=fun hb=>by
 obtain ⟨_,o,ho,_⟩:=I.ok.funs.mem hb
 exact absurd (Nat.lt_of_lt_of_le (Heap.lt_size ho) (Nat.le_trans I.sz h)) (Nat.lt_irrefl _)
theorem Inv.cne (I:Inv X pins σ H s):∀ x c,X.env.cells.lookup x=some c→c ≠ X.env.locals:=fun x c e z=>by
 obtain ⟨v,o,ho,hd⟩:=I.cell x c e
 obtain ⟨m,⟨o',es,ep,ho',hd',_⟩,_⟩:=I.loc
 rw [z,ho'] at ho;cases ho;rw [hd'] at hd;cases hd
theorem Inv.funs (I:Inv X pins σ H s):s.heap.FunFrames X.base X.outer:=by
 have all:∀ (l:List Env),(∀ b ∈ frs l,b ∈ X.fs)→X.s₀.heap.FunFrames X.base l→s.heap.FunFrames X.base l:=by
  intro l
  induction l with
  | nil=>intro _ _;trivial
  | cons env r ih=>
   intro hs hl
   obtain ⟨hk,⟨L,o,hf,hn,ho,hd⟩,hr⟩:=hl
   have hL:L ∈ X.fs:=hs L (by unfold frs;rw [List.filterMap_cons,hf];exact List.mem_cons_self)
   obtain ⟨sl,e⟩:=I.base.slot L o ho (I.ok.frf L hL) hL fun z=>I.ok.exfs L z hL
   exact ⟨hk,⟨L,_,hf,hn,e,hd⟩,ih (fun b hb=>hs b (by unfold frs;rw [List.filterMap_cons,hf];exact List.mem_cons_of_mem _ hb)) hr⟩
 exact all X.outer (fun _ hb=>hb) I.ok.funs
theorem Inv.stack (I:Inv X pins σ H s):s.heap.FunFrames X.base X.stack:=by
 rcases I.ok.stk with e | ⟨e,hf⟩
 ·rw [e];exact I.funs
 ·rw [e]
  obtain ⟨m,hn,_⟩:=I.loc
  refine .cons (by rw [I.ok.kind];decide) hf hn ?_ I.funs
  exact Heap.get?_none_of_le (Nat.le_trans I.ok.bsz I.ok.above)
theorem Inv.stkSub (I:Inv X pins σ H s):∀ b ∈ frs X.stack,b ∈ X.env.locals :: X.fs:=fun b hb=>by
 rcases I.ok.stk with e | ⟨e,hf⟩
 ·rw [e] at hb;exact List.mem_cons_of_mem _ hb
 ·rw [e] at hb
  unfold frs at hb
  rw [List.filterMap_cons,hf] at hb
  exact hb
theorem Inv.stkFree (I:Inv X pins σ H s):∀ b ∈ frs X.stack,H b=none:=fun b hb=>by
 rcases List.mem_cons.mp (I.stkSub b hb) with e | hb
 ·rw [e];exact I.free
 ·obtain ⟨_,o,ho,_⟩:=I.ok.funs.mem hb
  exact I.base.free b o ho (I.ok.frf b hb) fun z=>I.ok.exfs b z hb
theorem Inv.step {g':Array GenState} {t':Nat} {d':Drawn} {ch:List Addr} (I:Inv X pins σ H s)
  (hch:∀ b ∈ ch,(b ∈ X.ex∨X.s₀.heap.objs.size ≤ b)∧b ≠ X.env.locals∧(∀ x c,X.env.cells.lookup x=some c→c ≠ b)∧∀ p ∈ X.pn ++ pins,p.1 ≠ b)
  (keep:∀ b o,b ≠ X.env.locals→b ∉ X.fs→b ∉ ch→s.heap.get? b=some o→H b=none→h'.get? b=some o)
  (slot:∀ b o,b ≠ X.env.locals→b ∈ X.fs→b ∉ ch→s.heap.get? b=some o→H b=none→∃ sl,h'.get? b=some { o with slots:=sl }) (free:∀ b o,b ∉ ch→s.heap.get? b=some o→H b=none→H' b=none)
  (there:∀ b o,b ∉ ch→s.heap.get? b=some o→∃ o',h'.get? b=some o')
  (tups:∀ b xs,H b=some (.tup xs)→H' b=some (.tup xs)) (frzs:∀ b o u,H b=some (.frz o u)→H' b=some (.frz o u)) (tbls:∀ b ps,H b=some (.tbl ps)→∃ more,H' b=some (.tbl (ps ++ more)))
  (ns:∀ m,s.heap.Ns X.env.locals m→h'.Ns X.env.locals m) (hok:HOk X.prog X.w H' h') (hg:AllBare g') :
  Inv X pins σ H' { s with heap:=h',gens:=g',drawn:=d',toks:=t' }:=by
 have neL:∀ b o,X.s₀.heap.get? b=some o→b ≠ X.env.locals:=fun b o e=>Nat.ne_of_lt (Nat.lt_of_lt_of_le (Heap.lt_size e) I.ok.above)
 have neC:∀ b o,X.s₀.heap.get? b=some o→b ∉ X.ex→b ∉ ch:=fun b o e hx hb=>by
  rcases (hch b hb).1 with z | z
  ·exact hx z
  ·exact absurd (Nat.lt_of_lt_of_le (Heap.lt_size e) z) (Nat.lt_irrefl _)
 have cellK:∀ x c,X.env.cells.lookup x=some c→∀ v,s.heap.IsCell c v→h'.IsCell c v:=fun x c e v ⟨o,ho,hd⟩=>by
  have nch:c ∉ ch:=fun z=>(hch c z).2.2.1 x c e rfl
  by_cases hc:c ∈ X.fs
  ·obtain ⟨sl,q⟩:=slot c o (I.cne x c e) hc nch ho (I.freeC x c e)
   exact ⟨_,q,hd⟩
  ·exact ⟨o,keep c o (I.cne x c e) hc nch ho (I.freeC x c e),hd⟩
 refine ⟨I.ok,I.os,hg,⟨fun b o e n hb hx=>?_,fun b o e n hb hx=>?_,fun b o e n hx=>?_,fun b o e hx=>?_,fun b xs e=>tups b xs (I.base.tups b xs e),fun b o xs e=>frzs b o xs (I.base.frzs b o xs e),fun b ps e=>?_⟩,?_,fun x c e=>?_,?_,fun x c e=>?_,fun p hp=>?_,hok,I.len⟩
 ·exact keep b o (neL b o e) hb (neC b o e hx) (I.base.keep b o e n hb hx) (I.base.free b o e n hx)
 ·obtain ⟨sl,e1⟩:=I.base.slot b o e n hb hx
  obtain ⟨sl',e2⟩:=slot b _ (neL b o e) hb (neC b o e hx) e1 (I.base.free b o e n hx)
  exact ⟨sl',e2⟩
 ·obtain ⟨o',e1⟩:=I.base.there b o e hx
  exact free b o' (neC b o e hx) e1 (I.base.free b o e n hx)
 ·obtain ⟨o',e1⟩:=I.base.there b o e hx
  exact there b o' (neC b o e hx) e1
 ·obtain ⟨m1,e1⟩:=I.base.tbls b ps e
  obtain ⟨m2,e2⟩:=tbls b _ e1
  exact ⟨m1 ++ m2,by rw [e2,Array.append_assoc]⟩
 ·obtain ⟨m,hn,hl⟩:=I.loc
  refine ⟨m,ns m hn,fun i x v e1 e2 e3=>?_⟩
  obtain ⟨u,r,l⟩:=hl i x v e1 e2 e3
  refine ⟨u,r,?_⟩
  rcases l with l | ⟨k,c,e,z⟩
  ·exact .inl l
  ·exact .inr ⟨k,c,e,cellK x c e _ z⟩
 ·obtain ⟨v,z⟩:=I.cell x c e
  exact ⟨v,cellK x c e v z⟩
 ·obtain ⟨m,⟨o,_,_,ho,_⟩,_⟩:=I.loc
  exact free _ o (fun z=>(hch _ z).2.1 rfl) ho I.free
 ·obtain ⟨v,o,ho,hd⟩:=I.cell x c e
  exact free c o (fun z=>(hch c z).2.2.1 x c e rfl) ho (I.freeC x c e)
 ·obtain ⟨e,n,ne,nf,d⟩:=I.pin p hp
  have nch:p.1 ∉ ch:=fun z=>(hch p.1 z).2.2.2 p hp rfl
  exact ⟨keep p.1 p.2 ne nf nch e n,free p.1 p.2 nch e n,ne,nf,d⟩
theorem Inv.un {t':Nat} (I:Inv X pins σ H s) (u:Un X.fs [] H H' s.heap h') (hok:HOk X.prog X.w H' h'):Inv X pins σ H' { s with heap:=h',toks:=t' }:=by
 obtain ⟨m,⟨o,es,ep,ho,r⟩,_⟩:=id I.loc
 obtain ⟨sl,hL⟩:=u.any ho I.free (by simp)
 exact I.step (g':=s.gens) (d':=s.drawn) (ch:=[]) (fun _ z=>nomatch z) (fun b o _ hb _ e n=>u.keep b o e n hb (by simp)) (fun b o _ hb _ e n=>u.slot b o e n hb (by simp)) (fun b o _ e n=>u.free b o e n (by simp)) (fun b o _ e=>u.there b o e (by simp)) u.tups u.frzs u.tbls (fun m' hm=>by
  obtain ⟨o',es',ep',ho',r'⟩:=hm
  rw [ho] at ho';cases ho'
  exact ⟨_,es',ep',hL,r'⟩) hok I.bare
theorem Inv.call {g':Array GenState} {t':Nat} {d':Drawn} {ch:List Addr} (I:Inv X pins σ H s) (u:Un (frs X.stack) ch H H' s.heap h') (hok:HOk X.prog X.w H' h') (hg:AllBare g')
  (hch:∀ b ∈ ch,(b ∈ X.ex∨X.s₀.heap.objs.size ≤ b)∧b ≠ X.env.locals∧(∀ x c,X.env.cells.lookup x=some c→c ≠ b)∧∀ p ∈ X.pn ++ pins,p.1 ≠ b) :
  Inv X pins σ H' { s with heap:=h',gens:=g',drawn:=d',toks:=t' }:=by
 obtain ⟨m,⟨o,es,ep,ho,r⟩,_⟩:=id I.loc
 obtain ⟨sl,hL⟩:=u.any ho I.free fun z=>(hch _ z).2.1 rfl
 exact I.step (ch:=ch) hch (fun b o hL hb hc e n=>u.keep b o e n (fun z=>(List.mem_cons.mp (I.stkSub b z)).elim hL hb) hc) (fun b o _ _ hc e n=>u.any e n hc) (fun b o hc e n=>u.free b o e n hc) (fun b o hc e=>u.there b o e hc) u.tups u.frzs u.tbls (fun m' hm=>by
  obtain ⟨o',es',ep',ho',r'⟩:=hm
  rw [ho] at ho';cases ho'
  exact ⟨_,es',ep',hL,r'⟩) hok hg
theorem Inv.turned {t':Nat} {it:Addr} (I:Inv X pins σ H s) (k:∀ b o,b ≠ it→s.heap.get? b=some o→h'.get? b=some o) (hn:H it=none) (hL:it ≠ X.env.locals)
  (h1:it ∈ X.ex∨X.s₀.heap.objs.size ≤ it) (h2:∀ x c,X.env.cells.lookup x=some c→c ≠ it) (h3:∀ p ∈ X.pn ++ pins,p.1 ≠ it):Inv X pins σ H { s with heap:=h',toks:=t' }:=by
 have nit:∀ b u,H b=some u→b ≠ it:=fun b u e z=>by rw [z,hn] at e;cases e
 refine I.step (g':=s.gens) (d':=s.drawn) (ch:=[it]) (fun b hb=>?_) (fun b o _ _ hc e _=>k b o (fun z=>hc (by simp [z])) e) (fun b o _ _ hc e _=>⟨o.slots,k b o (fun z=>hc (by simp [z])) e⟩) (fun _ _ _ _ n=>n)
  (fun b o hc e=>⟨o,k b o (fun z=>hc (by simp [z])) e⟩) (fun _ _ e=>e) (fun _ _ _ e=>e) (fun b ps e=>⟨#[],by rw [e];simp⟩) (fun m hm=>?_) (fun b u e=>?_) I.bare
 ·have e:b=it:=by simpa using hb
  subst e
  exact ⟨h1,hL,h2,h3⟩
 ·obtain ⟨o,es,ep,ho,r⟩:=hm
  exact ⟨o,es,ep,k _ o (Ne.symm hL) ho,r⟩
 ·refine (I.hok b u e).stay (fun c v hc q=>k c v ?_ q) (fun _ q=>q) fun _ _ q=>q
  rcases hc with z | z
  ·rw [z];exact nit b u e
  ·exact nit c _ z
theorem Inv.tok (I:Inv X pins σ H s) (t:Nat):Inv X pins σ H { s with toks:=t }:=I.un (h':=s.heap) (t':=t) Un.refl I.hok
theorem Inv.kept {t':Nat} (I:Inv X pins σ H s) (k:∀ b u,s.heap.get? b=some u→h'.get? b=some u):Inv X pins σ H { s with heap:=h',toks:=t' }:=I.un (Un.kept k) (I.hok.kept k)
theorem Inv.laid {a:Addr} {o:HO} {t':Nat} (I:Inv X pins σ H s) (k:∀ b u,s.heap.get? b=some u→h'.get? b=some u) (hp:s.heap.objs.size ≤ a) (new:md X.prog X.w (upd H a o) h' a o) :
  Inv X pins σ (upd H a o) { s with heap:=h',toks:=t' }:=I.un (Un.laid k hp (I.hok.fresh hp)) (I.hok.laid k hp new)
theorem Inv.write {x e:Addr} {o:HO} {t':Nat} (I:Inv X pins σ H s) (mu:Mut (H x)) (he:e=x∨H e=some (.own x)) (k:∀ b u,b ≠ e→s.heap.get? b=some u→h'.get? b=some u) (heo:∃ u,h'.get? e=some u)
  (new:md X.prog X.w (upd H x o) h' x o):Inv X pins σ (upd H x o) { s with heap:=h',toks:=t' }:=I.un (Un.write mu he k heo) (I.hok.write mu he k heo new)
theorem Inv.weak {σ':List (Option V)} (I:Inv X pins σ H s) (hl:σ'.length=σ.length) (w:∀ (i:Nat) v,σ'[i]? = some (some v)→σ[i]? = some (some v)):Inv X pins σ' H s:=
 ⟨I.ok,I.os,I.bare,I.base,let ⟨m,hn,hl'⟩:=I.loc;⟨m,hn,fun i x v e1 e2 e3=>hl' i x v e1 (w i v e2) e3⟩,I.cell,I.free,I.freeC,I.pin,I.hok,hl.trans I.len⟩
theorem Inv.pins_of {pins':List (Addr × Obj)} (I:Inv X pins σ H s) (h:∀ p ∈ pins',s.heap.get? p.1=some p.2∧H p.1=none∧p.1 ≠ X.env.locals∧p.1 ∉ X.fs∧∀ v,p.2.data ≠ .cell v):Inv X pins' σ H s:=
 ⟨I.ok,I.os,I.bare,I.base,I.loc,I.cell,I.free,I.freeC,fun p hp=>(List.mem_append.mp hp).elim (fun z=>I.pin p (List.mem_append_left _ z)) (h p),I.hok,I.len⟩
theorem zy {N:List Str} (hN:N.Nodup) {i j:Nat} {x:Str} (a:N[i]? = some x) (b:N[j]? = some x):i=j:=by
 obtain ⟨h1,e1⟩:=List.getElem?_eq_some_iff.mp a
 obtain ⟨h2,e2⟩:=List.getElem?_eq_some_iff.mp b
 exact (List.getElem_inj hN).mp (e1.trans e2.symm)
theorem Ev {M:Model} {A:Around} {E:Value→Shared→Prop} {i:Nat} {x:Str} {v:V} {u:Value} {Q:Unit→Shared→Prop} (I:Inv X pins σ H s) (hN:X.N.Nodup) (hi:X.N[i]? = some x) (hx:Loc X.env.scope x) (r:Od v u)
  (h:∀ s',Inv X pins (σ.set i (some v)) H s'→(∃ a,Heap.SameBut a s.heap s'.heap∧(a=X.env.locals∨X.env.cells.lookup x=some a))→Q () s') (hf:X.fn x=true∨X.env.scope.names.lookup x=some .local:=by first | exact .inl rfl | exact .inr rfl | assumption):wpAny M A (storeName X.env x u) Q E s:=by
 obtain ⟨m,hn,hl⟩:=id I.loc
 have hcls:(X.env.scope.kind == .class || (X.env.scope.kind == .module && X.env.locals != X.env.globals))=false:=by rw [I.ok.kind];rfl
 have hiσ:i < σ.length:=by rw [I.len];exact (List.getElem?_eq_some_iff.mp hi).1
 have cne:=I.cne
 have tracked:∀ {a:Addr} {h':Heap},(∃ o,s.heap.get? a=some o∧H a=none)→Heap.SameBut a s.heap h'→HOk X.prog X.w H h':=fun {a h'} ha hs b ob e=>by
  obtain ⟨_,_,hfree⟩:=ha
  refine (I.hok b ob e).stay (fun c w' hc q=>(hs.2 c ?_).trans q) (fun _ q=>q) fun _ _ q=>q
  rintro rfl
  rcases hc with rfl | hc
  ·rw [hfree] at e;cases e
  ·rw [hfree] at hc;cases hc
 rcases hx with hk | hk
 ·refine wpAny_storeName_local hk hn (fun h' hn' hs=>?_) hcls
  obtain ⟨oL,_,_,hoL,_⟩:=id hn
  refine h _ ⟨I.ok,I.os,I.bare,⟨fun b o e n hb hx=>?_,fun b o e n hb hx=>?_,I.base.free,fun b o e hx=>?_,I.base.tups,I.base.frzs,I.base.tbls⟩,⟨_,hn',fun j y v' e1 e2 e3=>?_⟩,fun y c e=>?_,I.free,I.freeC,fun p hp=>?_,tracked ⟨oL,hoL,I.free⟩ hs,by simpa using I.len⟩ ⟨_,hs,.inl rfl⟩
  ·exact (hs.2 b (Nat.ne_of_lt (Nat.lt_of_lt_of_le (Heap.lt_size e) I.ok.above))).trans (I.base.keep b o e n hb hx)
  ·obtain ⟨sl,e1⟩:=I.base.slot b o e n hb hx
   exact ⟨sl,(hs.2 b (Nat.ne_of_lt (Nat.lt_of_lt_of_le (Heap.lt_size e) I.ok.above))).trans e1⟩
  ·obtain ⟨o',e1⟩:=I.base.there b o e hx
   exact ⟨o',(hs.2 b (Nat.ne_of_lt (Nat.lt_of_lt_of_le (Heap.lt_size e) I.ok.above))).trans e1⟩
  ·by_cases hj:j=i
   ·subst hj
    rw [hi] at e1;cases e1
    rw [List.getElem?_set_self hiσ] at e2
    cases e2
    exact ⟨u,r,.inl ⟨hk,by simp⟩⟩
   ·rw [List.getElem?_set_ne (Ne.symm hj)] at e2
    obtain ⟨u',r',q⟩:=hl j y v' e1 e2 e3
    refine ⟨u',r',?_⟩
    rcases q with ⟨k,e⟩ | ⟨k,c,e,z⟩
    ·refine .inl ⟨k,?_⟩
     have:y ≠ x:=fun e=>hj (zy hN e1 (e ▸ hi))
     simp [this,e]
    ·exact .inr ⟨k,c,e,z.sameBut hs (cne y c e)⟩
  ·obtain ⟨w',z⟩:=I.cell y c e
   exact ⟨w',z.sameBut hs (cne y c e)⟩
  ·obtain ⟨e,n,ne,nf,d⟩:=I.pin p hp
   exact ⟨(hs.2 p.1 ne).trans e,n,ne,nf,d⟩
 ·have hfn:X.fn x=true:=by
   rcases hf with z | z
   ·exact z
   ·rw [z] at hk;cases hk
  obtain ⟨c,hc⟩:=I.ok.has x (.inl hk)
  obtain ⟨w',z⟩:=I.cell x c hc
  refine wpAny_storeName_cell I.ok.kind hk hc z (fun h' hc' hs=>?_)
  obtain ⟨oc,hoc,hocd⟩:=id z
  refine h { s with heap:=h' } ⟨I.ok,I.os,I.bare,⟨fun b o e n hb hx=>?_,fun b o e n hb hx=>?_,I.base.free,fun b o e hx=>?_,I.base.tups,I.base.frzs,I.base.tbls⟩,⟨m,hn.sameBut hs (Ne.symm (cne x c hc)),fun j y v' e1 e2 e3=>?_⟩,fun y c' e=>?_,I.free,I.freeC,fun p hp=>?_,tracked ⟨oc,hoc,I.freeC x c hc⟩ hs,by simpa using I.len⟩ ⟨c,hs,.inr hc⟩
  ·exact (hs.2 b (Nat.ne_of_lt (Nat.lt_of_lt_of_le (Heap.lt_size e) (I.ok.cab x c hfn hc)))).trans (I.base.keep b o e n hb hx)
  ·obtain ⟨sl,e1⟩:=I.base.slot b o e n hb hx
   exact ⟨sl,(hs.2 b (Nat.ne_of_lt (Nat.lt_of_lt_of_le (Heap.lt_size e) (I.ok.cab x c hfn hc)))).trans e1⟩
  ·obtain ⟨o',e1⟩:=I.base.there b o e hx
   exact ⟨o',(hs.2 b (Nat.ne_of_lt (Nat.lt_of_lt_of_le (Heap.lt_size e) (I.ok.cab x c hfn hc)))).trans e1⟩
  ·by_cases hj:j=i
   ·subst hj
    rw [hi] at e1;cases e1
    rw [List.getElem?_set_self hiσ] at e2
    cases e2
    exact ⟨u,r,.inr ⟨.inl hk,c,hc,hc'⟩⟩
   ·rw [List.getElem?_set_ne (Ne.symm hj)] at e2
    obtain ⟨u',r',q⟩:=hl j y v' e1 e2 e3
    refine ⟨u',r',?_⟩
    rcases q with q | ⟨k,c',e,z'⟩
    ·exact .inl q
    ·refine .inr ⟨k,c',e,z'.sameBut hs ?_⟩
     rintro rfl
     exact hj (zy hN e1 (I.ok.inj _ _ _ e hc ▸ hi))
  ·by_cases hcc:c'=c
   ·subst hcc;exact ⟨_,hc'⟩
   ·obtain ⟨w2,z2⟩:=I.cell y c' e
    exact ⟨w2,z2.sameBut hs hcc⟩
  ·obtain ⟨e,n,ne,nf,d⟩:=I.pin p hp
   refine ⟨(hs.2 p.1 ?_).trans e,n,ne,nf,d⟩
   intro q
   rw [q,hoc] at e
   have q':oc=p.2:=Option.some.inj e
   exact d w' (by rw [← q'];exact hocd)
theorem vy {M:Model} {A:Around} {E:Value→Shared→Prop} {i:Nat} {x:Str} {v:V} {u:Value} {Q:Unit→Shared→Prop} (I:Inv X pins σ H s) (hN:X.N.Nodup) (hi:X.N[i]? = some x) (hx:Loc X.env.scope x) (r:Od v u)
  (h:∀ s',Inv X pins (σ.set i (some v)) H s'→Q () s') (hf:X.fn x=true∨X.env.scope.names.lookup x=some .local:=by first | exact .inl rfl | exact .inr rfl | assumption):wpAny M A (storeName X.env x u) Q E s:=
 Ev I hN hi hx r (fun s' I' _=>h s' I') hf
theorem Inv.call' {s':Shared} {ch:List Addr} (I:Inv X pins σ H s) (ho:s'.os=s.os) (u:Un (frs X.stack) ch H H' s.heap s'.heap) (hok:HOk X.prog X.w H' s'.heap) (hg:AllBare s'.gens)
  (hch:∀ b ∈ ch,(b ∈ X.ex∨X.s₀.heap.objs.size ≤ b)∧b ≠ X.env.locals∧(∀ x c,X.env.cells.lookup x=some c→c ≠ b)∧∀ p ∈ X.pn ++ pins,p.1 ≠ b):Inv X pins σ H' s':=by
 obtain ⟨h',g',d',t',o'⟩:=s'
 have e:o'=s.os:=ho
 subst e
 exact I.call (g':=g') (t':=t') (d':=d') u hok hg hch
end
noncomputable abbrev XK:=Value→Option Addr→Hp→Prop
noncomputable abbrev St:=List (Option V)
noncomputable abbrev VK:=V→Hp→Prop
noncomputable abbrev TE:=St→Hp→VK→Prop
noncomputable abbrev TT:=St→Hp→(Bool→Hp→Prop)→Prop
noncomputable abbrev TA:=St→Hp→(List V→Hp→Prop)→Prop
structure Gi where
 nx:St→Hp→Prop
 rt:VK
 bk:St→Hp→Prop:=fun _ _=>False
 ct:St→Hp→Prop:=fun _ _=>False
noncomputable abbrev TS:=Gi→St→Hp→Prop
noncomputable def EP (X:Cx) (pins:List (Addr × Obj)) (σ:St) (Q:VK) (u:Value) (s':Shared):Prop:=∃ v H',Inv X pins σ H' s'∧Od v u∧Q v H'
noncomputable def TP (X:Cx) (pins:List (Addr × Obj)) (σ:St) (Q:Bool→Hp→Prop) (b:Bool) (s':Shared):Prop:=∃ H',Inv X pins σ H' s'∧Q b H'
noncomputable def AP (X:Cx) (pins:List (Addr × Obj)) (σ:St) (Q:List V→Hp→Prop) (us:List Value) (s':Shared):Prop:=∃ vs H',Inv X pins σ H' s'∧Jd vs us∧Q vs H'
noncomputable def SP (X:Cx) (pins:List (Addr × Obj)) (D:Gi) (f:Flow) (s':Shared):Prop:=
 match f with
 | .next=>∃ σ' H',Inv X pins σ' H' s'∧D.nx σ' H'
 | .brk=>∃ σ' H',Inv X pins σ' H' s'∧D.bk σ' H'
 | .cont=>∃ σ' H',Inv X pins σ' H' s'∧D.ct σ' H'
 | .ret u=>∃ v σ' H',Inv X pins σ' H' s'∧Od v u∧D.rt v H'
noncomputable def PE (X:Cx) (e:Expr) (t:TE):Prop:=
 ∀ (pins:List (Addr × Obj)) (s:Shared) (σ:St) (H:Hp) (Q:VK),Inv X pins σ H s→t σ H Q→wpAny (model X.prog X.w) X.A (eval e X.env) (EP X pins σ Q) X.xe s
noncomputable def PT (X:Cx) (e:Expr) (t:TT):Prop:=
 ∀ (pins:List (Addr × Obj)) (s:Shared) (σ:St) (H:Hp) (Q:Bool→Hp→Prop),Inv X pins σ H s→t σ H Q→wpAny (model X.prog X.w) X.A (isTrue e X.env (eval e X.env)) (TP X pins σ Q) X.xe s
noncomputable def PW (X:Cx) (e:Expr) (t:TT):Prop:=
 ∀ (whole:Sem Value) (pins:List (Addr × Obj)) (s:Shared) (σ:St) (H:Hp) (Q:Bool→Hp→Prop),Inv X pins σ H s→t σ H Q→wpAny (model X.prog X.w) X.A (isTrue e X.env whole) (TP X pins σ Q) X.xe s
theorem PW.pt {X:Cx} {e:Expr} {t:TT} (h:PW X e t):PT X e t:=h _
noncomputable def PA (X:Cx) (es:List Expr) (t:TA):Prop:=
 ∀ (pos:Pos) (pins:List (Addr × Obj)) (s:Shared) (σ:St) (H:Hp) (Q:List V→Hp→Prop),Inv X pins σ H s→t σ H Q→wpAny (model X.prog X.w) X.A (spliced (backTo pos (starEach es X.env))) (AP X pins σ Q) X.xe s
noncomputable def PS (X:Cx) (st:Stmt) (t:TS):Prop:=
 ∀ (pins:List (Addr × Obj)) (s:Shared) (σ:St) (H:Hp) (D:Gi),Inv X pins σ H s→t D σ H→wpAny (model X.prog X.w) X.A (exec st X.env) (SP X pins D) X.xe s
noncomputable def PSs (X:Cx) (st:List Stmt) (t:TS):Prop:=
 ∀ (pins:List (Addr × Obj)) (s:Shared) (σ:St) (H:Hp) (D:Gi),Inv X pins σ H s→t D σ H→wpAny (model X.prog X.w) X.A (execs st X.env) (SP X pins D) X.xe s
theorem thn {α:Type} {t:Sem α} {Q Q':α→Shared→Prop} {M:Model} {A:Around} {E:Value→Shared→Prop} {s:Shared} (h:wpAny M A t Q E s) (hQ:∀ a s,Q a s→Q' a s):wpAny M A t Q' E s:=wpAny_mono h hQ fun _ _ x=>x
end L2
namespace L2
open PySem PySem.Spec PyProof.Rows
section
variable {X:Cx}
noncomputable def jL (i:Nat):TE:=fun σ H Q=>∃ v,σ[i]? = some (some v)∧Q v H
noncomputable def tC (v:V):TE:=fun _ H Q=>Q v H
theorem qJ {i:Nat} {x:Str} {pos:Pos} (hN:X.N[i]? = some x) (hv:Vis X.env.scope x) (hd:(x == ("__debug__" : Str))=false:=by decide) (hcd:(x == ("__classdict__" : Str))=false:=by decide):PE X (.Name x pos) (jL i):=by
 intro pins s σ H Q I h
 obtain ⟨v,e,h⟩:=h
 obtain ⟨m,hn,hl⟩:=I.loc
 obtain ⟨u,r,l⟩:=hl i x v hN e hv
 have fin:EP X pins σ Q u s:=⟨v,H,I,r,h⟩
 rcases l with ⟨hk,hm⟩ | ⟨hk,c,hc,hcell⟩
 ·exact wpAny_Name (wpAny_loadName_local I.ok.kind hk hn hm fin) hd
 ·rcases hk with hk | hk
  ·exact wpAny_Name (wpAny_loadName_cell I.ok.kind hk hc hcell fin) hd
  ·exact wpAny_Name (wpAny_loadName_free I.ok.kind hk hc hcell fin hcd) hd
theorem qb {i j pos}:PE X (.Constant (.int i) j pos) (tC (.int i)):=fun _ _ _ H _ I h=>wpAny_Constant_int ⟨.int i,H,I.tok _,⟨_,rfl⟩,h⟩
theorem Qq {b j pos}:PE X (.Constant (.bool b) j pos) (tC (.bl b)):=fun _ _ _ H _ I h=>Constant_bool ⟨.bl b,H,I,rfl,h⟩
theorem Wy {j pos}:PE X (.Constant .none j pos) (tC .non):=fun _ _ _ H _ I h=>Constant_none ⟨.non,H,I,rfl,h⟩
theorem zc {x j pos}:PE X (.Constant (.str x) j pos) (tC (.str x)):=fun _ _ _ H _ I h=>Calls.Constant_str ⟨.str x,H,I.tok _,⟨_,rfl⟩,h⟩
noncomputable def Gl (X:Cx) (x:Str):Prop:=X.env.kindOf x=some .globalImplicit
theorem mn {E:Value→Shared→Prop} {pins:List (Addr × Obj)} {s:Shared} {σ:St} {H:Hp} {x:Str} {u:Value} {pos:Pos} {Q:Value→Shared→Prop} (I:Inv X pins σ H s) (hg:Gl X x) (hm:X.mg x=some u) (h:Q u s)
  (hd:(x == ("__debug__" : Str))=false:=by decide):wpAny (model X.prog X.w) X.A (eval (.Name x pos) X.env) Q E s:=
 Calls.Name_function_global I.ok.kind hg (Calls.loadGlobal_global (by rw [I.ok.glob];exact I.mod.glob.keeps I.bk) hm h) hd
theorem nw {E:Value→Shared→Prop} {pins:List (Addr × Obj)} {s:Shared} {σ:St} {H:Hp} {x:Str} {u:Value} {pos:Pos} {Q:Value→Shared→Prop} (I:Inv X pins σ H s) (hg:Gl X x) (hm:X.mg x=none) (hv:bootBuiltins x=some u) (h:Q u s)
  (hn:x ≠ "__name__" := by decide) (hd:(x == ("__debug__" : Str))=false:=by decide):wpAny (model X.prog X.w) X.A (eval (.Name x pos) X.env) Q E s:=by
 obtain ⟨mb,h1,h2⟩:=I.mod.blt
 exact Calls.Name_function_global I.ok.kind hg (Calls.loadGlobal_builtin (by rw [I.ok.glob];exact I.mod.glob.keeps I.bk) hm (by rw [I.ok.blt];exact h1.keeps I.bk) ((h2 x hn).trans hv) h) hd
theorem Hf {x:Str} {v:V} {u:Value} {pos:Pos} (hg:Gl X x) (hm:X.mg x=some u) (r:Od v u) (hd:(x == ("__debug__" : Str))=false:=by decide):PE X (.Name x pos) (tC v):=
 fun _ _ _ H _ I h=>mn I hg hm ⟨v,H,I,r,h⟩ hd
theorem kx {x:Str} {v:V} {u:Value} {pos:Pos} (hg:Gl X x) (hm:X.mg x=none) (hv:bootBuiltins x=some u) (r:Od v u) (hn:x ≠ "__name__" := by decide) (hd:(x == ("__debug__" : Str))=false:=by decide):PE X (.Name x pos) (tC v):=
 fun _ _ _ H _ I h=>nw I hg hm hv ⟨v,H,I,r,h⟩ hn hd
variable {a b:Expr} {ta tb:TE} {pos:Pos}
noncomputable def PC (X:Cx) (op:CmpOp) (a b:Expr) (t:TE):Prop:=
 ∀ (pins:List (Addr × Obj)) (s:Shared) (σ:St) (H:Hp) (Q:VK),Inv X pins σ H s→t σ H Q →
  wpAny (model X.prog X.w) X.A (eval a X.env) (fun v s₁=>wpAny (model X.prog X.w) X.A (eval b X.env) (fun u s₂=>wpAny (model X.prog X.w) X.A (compareOp op v u) (EP X pins σ Q) X.xe s₂) X.xe s₁) X.xe s
theorem AE (b:Expr) {op:CmpOp} (h:op ≠ .In) (h2:op ≠ .NotIn):behindInMarks op b=false:=by
 have e1:(op == CmpOp.In)=false:=by cases op <;> first | rfl | exact absurd rfl h
 have e2:(op == CmpOp.NotIn)=false:=by cases op <;> first | rfl | exact absurd rfl h2
 cases b <;> simp [behindInMarks,e1,e2]
noncomputable def tB (t:TE):TT:=fun σ H Q=>t σ H fun x H1=>∃ c,x=.bl c∧Q c H1
theorem BG {op:CmpOp} {t:TE} (h:PC X op a b t) (h1:behindInMarks op b=false:=by first | exact AE _ (by decide) (by decide) | rfl):PT X (.Compare a [op] [b] pos) (tB t):=by
 intro pins s σ H Q I hw
 refine wpAny_isTrue_Compare1 (thn (h pins s σ H _ I hw) fun v s1 h1=>thn h1 fun u s2 h2=>thn h2 fun c s3 hZ1=>?_) h1
 obtain ⟨x,H1,I1,r1,q1⟩:=hZ1
 obtain ⟨d,rfl,q⟩:=q1
 cases r1
 exact wpAny_truthy_bool ⟨H1,I1,q⟩
theorem ni {e:Expr} {t:TE} (h:PE X e t) (he:∀ whole,isTrue e X.env whole=(do let v ← whole;standAt e.pos;holding [v] (truthy v)):=by intro _;rfl):PT X e (tB t):=by
 intro pins s σ H Q I hw
 refine isTrue_plain (thn (h pins s σ H _ I hw) fun v s1 hZ1=>?_) (he _)
 obtain ⟨x,H1,I1,r1,q1⟩:=hZ1
 obtain ⟨d,rfl,q⟩:=q1
 cases r1
 exact wpAny_truthy_bool ⟨H1,I1,q⟩
variable {tA tB':TT} {rest:List Expr}
noncomputable def rM (t u:TT):TT:=fun σ H Q=>t σ H fun c H1=>if c=true then u σ H1 Q else Q false H1
noncomputable def tOr (t u:TT):TT:=fun σ H Q=>t σ H fun c H1=>if c=true then Q true H1 else u σ H1 Q
noncomputable def UL (t:TT):TT:=fun σ H Q=>t σ H fun c H1=>Q (!c) H1
theorem gq (ha:PT X a tA):PW X (.BoolOp .And [a] pos) tA:=by
 intro wh pins s σ H Q I h
 refine isTrue_and (thn (ha pins s σ H Q I h) fun c s1 e=>?_)
 cases c with
 | true=>exact isTrue_and_nil e
 | false=>exact e
theorem Ir (ha:PT X a tA):PW X (.BoolOp .Or [a] pos) tA:=by
 intro wh pins s σ H Q I h
 refine isTrue_or (thn (ha pins s σ H Q I h) fun c s1 e=>?_)
 cases c with
 | false=>exact isTrue_or_nil e
 | true=>exact e
theorem Mu (ha:PT X a tA) (hb:PW X (.BoolOp .And (b :: rest) pos) tB'):PW X (.BoolOp .And (a :: b :: rest) pos) (rM tA tB'):=by
 intro wh pins s σ H Q I h
 refine isTrue_and (thn (ha pins s σ H _ I h) fun c s1 hZ1=>?_)
 obtain ⟨H1,I1,q1⟩:=hZ1
 cases c with
 | true=>exact hb wh pins s1 σ H1 Q I1 q1
 | false=>exact ⟨H1,I1,q1⟩
theorem Gu (ha:PT X a tA) (hb:PW X (.BoolOp .Or (b :: rest) pos) tB'):PW X (.BoolOp .Or (a :: b :: rest) pos) (tOr tA tB'):=by
 intro wh pins s σ H Q I h
 refine isTrue_or (thn (ha pins s σ H _ I h) fun c s1 hZ1=>?_)
 obtain ⟨H1,I1,q1⟩:=hZ1
 cases c with
 | true=>exact ⟨H1,I1,q1⟩
 | false=>exact hb wh pins s1 σ H1 Q I1 q1
theorem Hn (ha:PT X a tA):PT X (.UnaryOp .Not a pos) (UL tA):=by
 intro pins s σ H Q I h
 exact isTrue_not (ha pins s σ H (fun c H1=>Q (!c) H1) I h)
noncomputable def HK (ta tb:TE):TE:=fun σ H Q=>ta σ H fun x H1=>∃ c,x=.bl c∧if c=true then tb σ H1 Q else Q (.bl false) H1
noncomputable def ZL (ta tb:TE):TE:=fun σ H Q=>ta σ H fun x H1=>∃ c,x=.bl c∧if c=true then Q (.bl true) H1 else tb σ H1 Q
noncomputable def PK (ta:TE):TE:=fun σ H Q=>ta σ H fun x H1=>∃ c,x=.bl c∧Q (.bl (!c)) H1
theorem Ru {op} {t:TE} (h:PE X a t):PE X (.BoolOp op [a] pos) t:=fun pins s σ H Q I hw=>BoolOp_one (h pins s σ H Q I hw)
theorem EA (ha:PE X a ta) (hb:PE X (.BoolOp .And (b :: rest) pos) tb):PE X (.BoolOp .And (a :: b :: rest) pos) (HK ta tb):=by
 intro pins s σ H Q I h
 refine BoolOp_and (thn (ha pins s σ H _ I h) fun v s1 hZ1=>?_)
 obtain ⟨x,H1,I1,r1,q1⟩:=hZ1
 obtain ⟨c,rfl,q1⟩:=q1
 cases r1
 refine wpAny_truthy_bool ?_
 cases c with
 | true=>exact hb pins s1 σ H1 Q I1 q1
 | false=>exact ⟨.bl false,H1,I1,rfl,q1⟩
theorem tK (ha:PE X a ta) (hb:PE X (.BoolOp .Or (b :: rest) pos) tb):PE X (.BoolOp .Or (a :: b :: rest) pos) (ZL ta tb):=by
 intro pins s σ H Q I h
 refine BoolOp_or (thn (ha pins s σ H _ I h) fun v s1 hZ1=>?_)
 obtain ⟨x,H1,I1,r1,q1⟩:=hZ1
 obtain ⟨c,rfl,q1⟩:=q1
 cases r1
 refine wpAny_truthy_bool ?_
 cases c with
 | false=>exact hb pins s1 σ H1 Q I1 q1
 | true=>exact ⟨.bl true,H1,I1,rfl,q1⟩
theorem bK (ha:PE X a ta):PE X (.UnaryOp .Not a pos) (PK ta):=by
 intro pins s σ H Q I h
 refine UnaryOp_ (thn (ha pins s σ H _ I h) fun v s1 hZ1=>?_)
 obtain ⟨x,H1,I1,r1,q1⟩:=hZ1
 obtain ⟨c,rfl,q1⟩:=q1
 cases r1
 exact not_of (wpAny_truthy_bool ⟨.bl (!c),H1,I1,rfl,q1⟩)
noncomputable def tIf (t:TT) (ta tb:TE):TE:=fun σ H Q=>t σ H fun c H1=>if c=true then ta σ H1 Q else tb σ H1 Q
theorem Qs {c:Expr} (hc:PT X c tA) (ha:PE X a ta) (hb:PE X b tb):PE X (.IfExp c a b pos) (tIf tA ta tb):=by
 intro pins s σ H Q I h
 refine wpAny_IfExp (thn (hc pins s σ H _ I h) fun d s1 hZ1=>?_)
 obtain ⟨H1,I1,q1⟩:=hZ1
 cases d with
 | true=>exact ha pins s1 σ H1 Q I1 q1
 | false=>exact hb pins s1 σ H1 Q I1 q1
end
end L2
namespace L2
open PySem PySem.Spec PyProof.Rows
noncomputable def SqL (K:PySem.W.Frag) (H:Hp) (a:Addr) (xs:List V):Prop:=
 Rd H a (.lst xs) ∨
  ∃ (o:Obj) (its:Array Value) (n:Nat),K.lookup a=some o∧o.cls=.type "list" ∧ o.dict=none∧o.data=.seq its n∧its.size ≤ sizeLine∧Jd xs its.toList
noncomputable def SqT (K:PySem.W.Frag) (H:Hp) (a:Addr) (xs:List V):Prop:=
 Rd H a (.tup xs) ∨
  ∃ (o:Obj) (its:Array Value) (n:Nat),K.lookup a=some o∧o.cls=.type "tuple" ∧ o.data=.seq its n∧its.size ≤ sizeLine∧Jd xs its.toList
noncomputable def wM:Value→Option V
 | .none=>some .non
 | .bool b=>some (.bl b)
 | .int i _=>some (.int i)
 | .str x _=>some (.str x)
 | .bytes b _=>some (.byt b)
 | .float b _=>some (.flt b)
 | .ref a=>some (.ref a)
 | .type n=>some (.ty n)
 | _=>none
theorem Od.abs {x:V} {u:Value} (r:Od x u):wM u=some x:=by
 cases x with
 | non=>cases r;rfl
 | bl _=>cases r;rfl
 | int _=>obtain ⟨t,rfl⟩:=r;rfl
 | str _=>obtain ⟨t,rfl⟩:=r;rfl
 | byt _=>obtain ⟨t,rfl⟩:=r;rfl
 | flt _=>obtain ⟨t,rfl⟩:=r;rfl
 | ref _=>cases r;rfl
 | ty _=>cases r;rfl
theorem Od.inj {x y:V} {u:Value} (r:Od x u) (q:Od y u):x=y:=Option.some.inj (r.abs.symm.trans q.abs)
theorem Jd.inj:∀ {xs ys:List V} {us:List Value},Jd xs us→Jd ys us→xs=ys
 | _,_,_,.nil,.nil=>rfl
 | _,_,_,.cons r t,.cons r' t'=>by rw [r.inj r',Jd.inj t t']
section
variable {X:Cx} {pins:List (Addr × Obj)} {σ:St} {H:Hp} {s:Shared} {a:Addr} {xs ys:List V}
theorem SqL.of {K:PySem.W.Frag} (h:H a=some (.lst xs)):SqL K H a xs:=.inl (.inl h)
theorem SqT.of {K:PySem.W.Frag} (h:H a=some (.tup xs)):SqT K H a xs:=.inl (.inl h)
theorem Inv.list (I:Inv X pins σ H s) (h:SqL X.K H a xs):∃ its:List Value,Jd xs its∧PlainL s.heap a its.toArray∧xs.length ≤ sizeLine:=by
 rcases h with h | ⟨o,its,n,hk,hc,hd,hs,hz,r⟩
 ·obtain ⟨z,its,n,r,e⟩:=h.ok I.hok
  exact ⟨its,r,⟨_,n,e,rfl,rfl,rfl⟩,z⟩
 ·refine ⟨its.toList,r,⟨o,n,I.kIn a o hk,hc,hd,by simpa using hs⟩,?_⟩
  have e:=r.length
  simp only [Array.length_toList] at e
  omega
theorem Inv.tuple (I:Inv X pins σ H s) (h:SqT X.K H a xs):∃ its:List Value,Jd xs its∧IsTup s.heap a its.toArray∧xs.length ≤ sizeLine:=by
 rcases h with h | ⟨o,its,n,hk,hc,hs,hz,r⟩
 ·obtain ⟨z,its,r,p⟩:=h.ok I.hok
  exact ⟨its,r,p,z⟩
 ·refine ⟨its.toList,r,⟨o,I.kIn a o hk,hc,n,by simpa using hs⟩,?_⟩
  have e:=r.length
  simp only [Array.length_toList] at e
  omega
theorem Inv.list_inj (I:Inv X pins σ H s) (h:SqL X.K H a xs) (h':SqL X.K H a ys):xs=ys:=by
 obtain ⟨its,r,⟨o,n,e,_,_,d⟩,_⟩:=I.list h
 obtain ⟨its',r',⟨o',n',e',_,_,d'⟩,_⟩:=I.list h'
 rw [e] at e';cases e'
 rw [d] at d'
 injection d' with d1 _
 have:its=its':=by simpa using congrArg Array.toList d1
 subst this
 exact r.inj r'
theorem Inv.tuple_inj (I:Inv X pins σ H s) (h:SqT X.K H a xs) (h':SqT X.K H a ys):xs=ys:=by
 obtain ⟨its,r,⟨o,e,_,n,d⟩,_⟩:=I.tuple h
 obtain ⟨its',r',⟨o',e',_,n',d'⟩,_⟩:=I.tuple h'
 rw [e] at e';cases e'
 rw [d] at d'
 injection d' with d1 _
 have:its=its':=by simpa using congrArg Array.toList d1
 subst this
 exact r.inj r'
end
noncomputable abbrev Cx.wish (X:Cx) (E:Value→Shared→Prop):Cx:={ X with xe:=E }
noncomputable abbrev Cx.nox (X:Cx):Cx:=X.wish fun _ _=>False
theorem Cx.Ok.wish {X:Cx} (ok:X.Ok) (E:Value→Shared→Prop):(X.wish E).Ok:=
 ⟨ok.mod,ok.kind,ok.glob,ok.blt,ok.above,ok.inj,ok.has,ok.cab,ok.hd,ok.frames,ok.stk,ok.exf,ok.bs,ok.bsz,ok.noex,ok.exfs,ok.funs,ok.frf⟩
theorem Cx.Ok.unwish {X:Cx} {E:Value→Shared→Prop} (ok:(X.wish E).Ok):X.Ok:=
 ⟨ok.mod,ok.kind,ok.glob,ok.blt,ok.above,ok.inj,ok.has,ok.cab,ok.hd,ok.frames,ok.stk,ok.exf,ok.bs,ok.bsz,ok.noex,ok.exfs,ok.funs,ok.frf⟩
section
variable {X:Cx} {pins:List (Addr × Obj)} {σ:St} {H:Hp} {s:Shared} {E:Value→Shared→Prop}
theorem Inv.wish (I:Inv X pins σ H s) (E:Value→Shared→Prop):Inv (X.wish E) pins σ H s:=⟨I.ok.wish E,I.os,I.bare,I.base,I.loc,I.cell,I.free,I.freeC,I.pin,I.hok,I.len⟩
theorem Inv.unwish (I:Inv (X.wish E) pins σ H s):Inv X pins σ H s:=⟨I.ok.unwish,I.os,I.bare,I.base,I.loc,I.cell,I.free,I.freeC,I.pin,I.hok,I.len⟩
theorem SP.unwish {D:Gi} {f:Flow} {s':Shared} (h:SP (X.wish E) pins D f s'):SP X pins D f s':=by
 cases f with
 | next=>obtain ⟨σ',H',I,q⟩:=h;exact ⟨σ',H',I.unwish,q⟩
 | brk=>obtain ⟨σ',H',I,q⟩:=h;exact ⟨σ',H',I.unwish,q⟩
 | cont=>obtain ⟨σ',H',I,q⟩:=h;exact ⟨σ',H',I.unwish,q⟩
 | ret u=>obtain ⟨v,σ',H',I,r,q⟩:=h;exact ⟨v,σ',H',I.unwish,r,q⟩
theorem PE.nox {e:Expr} {t:TE} (h:PE X.nox e t):PE X e t:=fun pins s σ H Q I hw=>
 wpAny_mono (h pins s σ H Q (I.wish _) hw) (fun _ _ ⟨v,H',I',r,q⟩=>⟨v,H',I'.unwish,r,q⟩) fun _ _ z=>False.elim z
theorem PT.nox {e:Expr} {t:TT} (h:PT X.nox e t):PT X e t:=fun pins s σ H Q I hw=>
 wpAny_mono (h pins s σ H Q (I.wish _) hw) (fun _ _ ⟨H',I',q⟩=>⟨H',I'.unwish,q⟩) fun _ _ z=>False.elim z
theorem PSs.nox {st:List Stmt} {t:TS} (h:PSs X.nox st t):PSs X st t:=fun pins s σ H D I hw=>
 wpAny_mono (h pins s σ H D (I.wish _) hw) (fun _ _ q=>q.unwish) fun _ _ z=>False.elim z
end
section
variable {X:Cx} {st:Stmt} {rest:List Stmt} {t u:TS} {e:Expr} {te:TE} {pos:Pos}
noncomputable def yJ:TS:=fun D σ H=>D.nx σ H
noncomputable def fM (t u:TS):TS:=fun D σ H=>t { D with nx:=u D } σ H
theorem Kc:PSs X [] yJ:=fun _ _ σ H _ I h=>wpAny_execs_nil ⟨σ,H,I,h⟩
theorem fb (h1:PS X st t) (h2:PSs X rest u):PSs X (st :: rest) (fM t u):=by
 intro pins s σ H D I h
 refine wpAny_execs_cons (thn (h1 pins s σ H { D with nx:=u D } I h) fun f s1 q=>?_)
 cases f with
 | next=>
  obtain ⟨σ',H',I',q⟩:=q
  exact h2 pins s1 σ' H' D I' q
 | ret v=>exact q
 | brk=>exact q
 | cont=>exact q
theorem ib (h1:PS X st t):PSs X [st] t:=by
 intro pins s σ H D I h
 refine wpAny_execs_cons (thn (h1 pins s σ H D I h) fun f s1 q=>?_)
 cases f with
 | next=>exact wpAny_execs_nil q
 | ret v=>exact q
 | brk=>exact q
 | cont=>exact q
theorem Inv.quiet {pins:List (Addr × Obj)} {σ:St} {H:Hp} {s:Shared} (I:Inv X pins σ H s):interactive X.env=false:=by simp [interactive,I.ok.kind]
noncomputable def oJ (te:TE):TS:=fun D σ H=>te σ H fun _ H1=>D.nx σ H1
theorem Ub (he:PE X e te) (hs:swapsWith e none pos.line X.env=pure false:=by rfl):PS X (.Expr e pos) (oJ te):=by
 intro pins s σ H D I h
 exact wpAny_Expr_any (thn (he pins s σ H _ I h) fun v s1 ⟨x,H1,I1,r1,q1⟩=>⟨σ,H1,I1,q1⟩) I.quiet hs
noncomputable def GL (te:TE):TS:=fun D σ H=>te σ H D.rt
theorem Lb (he:PE X e te):PS X (.Return (some e) pos) (GL te):=by
 intro pins s σ H D I h
 exact wpAny_Return_some (thn (he pins s σ H _ I h) fun v s1 ⟨x,H1,I1,r1,q1⟩=>⟨x,σ,H1,I1,r1,q1⟩)
noncomputable def zL (c:TT) (t u:TS):TS:=fun D σ H=>c σ H fun b H1=>if b=true then t D σ H1 else u D σ H1
theorem Ie {c:Expr} {a b:List Stmt} {tc:TT} (hc:PT X c tc) (ha:PSs X a t) (hb:PSs X b u):PS X (.If c a b pos) (zL tc t u):=by
 intro pins s σ H D I h
 refine wpAny_If (thn (hc pins s σ H _ I h) fun d s1 hZ1=>?_)
 obtain ⟨H1,I1,q1⟩:=hZ1
 cases d with
 | true=>exact ha pins s1 σ H1 D I1 q1
 | false=>exact hb pins s1 σ H1 D I1 q1
noncomputable def fG:TS:=fun _ _ _=>False
theorem Bk:PS X st fG:=fun _ _ _ _ _ _ h=>h.elim
end
noncomputable abbrev TG:=V→St→Hp→(St→Hp→Prop)→Prop
noncomputable abbrev TGs:=List V→St→Hp→(St→Hp→Prop)→Prop
noncomputable def PG (X:Cx) (target:Expr) (t:TG):Prop:=
 ∀ (pins:List (Addr × Obj)) (s:Shared) (σ:St) (H:Hp) (v:V) (u:Value) (Q:St→Hp→Prop),Inv X pins σ H s→Od v u→t v σ H Q →
  wpAny (model X.prog X.w) X.A (assign target X.env u) (fun _ s'=>∃ σ' H',Inv X pins σ' H' s'∧Q σ' H') X.xe s
noncomputable def PGs (X:Cx) (ts:List Expr) (t:TGs):Prop:=
 ∀ (pins:List (Addr × Obj)) (s:Shared) (σ:St) (H:Hp) (vs:List V) (us:List Value) (Q:St→Hp→Prop),Inv X pins σ H s→Jd vs us→t vs σ H Q →
  wpAny (model X.prog X.w) X.A (assignInOrder ((assignEach ts X.env).map (·.2)) us) (fun _ s'=>∃ σ' H',Inv X pins σ' H' s'∧Q σ' H') X.xe s
section
variable {X:Cx} {pos:Pos}
noncomputable def xu (i:Nat):TG:=fun v σ H Q=>Q (σ.set i (some v)) H
theorem zb {i:Nat} {x:Str} (hN:X.N.Nodup) (hi:X.N[i]? = some x) (hx:Loc X.env.scope x) (hf:X.fn x=true∨X.env.scope.names.lookup x=some .local:=by first | exact .inl rfl | exact .inr rfl | assumption):PG X (.Name x pos) (xu i):=by
 intro pins s σ H v u Q I r h
 exact wpAny_assign_Name (vy I hN hi hx r (fun s' I'=>⟨_,H,I',h⟩) hf)
noncomputable def cL:TGs:=fun vs σ H Q=>vs=[]∧Q σ H
noncomputable def Sz (t:TG) (u:TGs):TGs:=fun vs σ H Q=>∃ v r,vs=v :: r∧t v σ H fun σ' H'=>u r σ' H' Q
theorem vg:PGs X [] cL:=by
 intro pins s σ H vs us Q I r h
 obtain ⟨e,h⟩:=h
 subst e
 cases r
 exact assignInOrder_nil ⟨σ,H,I,h⟩
theorem Sb {e:Expr} {es:List Expr} {t:TG} {u:TGs} (h1:PG X e t) (h2:PGs X es u)
  (hs:(assignEach (e :: es) X.env).map (·.2)=assign e X.env :: (assignEach es X.env).map (·.2):=by rfl):PGs X (e :: es) (Sz t u):=by
 intro pins s σ H vs us Q I r h
 obtain ⟨v,vr,e1,h⟩:=h
 subst e1
 cases r with
 | cons r rr=>
  rw [hs]
  refine assignInOrder_cons (thn (h1 pins s σ H _ _ _ I r h) fun _ s1 hZ1=>?_)
  obtain ⟨σ1,H1,I1,q1⟩:=hZ1
  exact h2 pins s1 σ1 H1 _ _ Q I1 rr q1
noncomputable def QK (K:PySem.W.Frag) (n:Nat) (t:TGs):TG:=fun v σ H Q=>∃ a xs,v=.ref a∧SqT K H a xs∧xs.length=n∧t xs σ H Q
theorem nK {es:List Expr} {k:Nat} {t:TGs} {n:Nat} (hc:X.calm=true) (h:PGs X es t)
  (hn:(assignEach es X.env).length=n:=by rfl) (hst:(assignEach es X.env).findIdx? (·.1)=none:=by rfl):PG X (.Tuple es k pos) (QK X.K n t):=by
 intro pins s σ H v u Q I r hw
 obtain ⟨a,xs,e1,hq,hl,hw⟩:=hw
 subst e1
 cases r
 obtain ⟨its,rv,ht,hz⟩:=I.tuple hq
 refine assign_Tuple_tuple (I.ok.hd hc) ht (by simp [hn,← hl,rv.length]) hst fun h' hx=>?_
 have I1:Inv X pins σ H { s with heap:=h' }:=I.kept (t':=s.toks) fun b o e=>hx b o (Nat.ne_of_lt (Heap.lt_size e)) e
 exact h pins _ σ H xs _ Q I1 (by simpa using rv) hw
noncomputable def eL (te:TE) (g:TG):TS:=fun D σ H=>te σ H fun x H1=>g x σ H1 D.nx
theorem lK {tg e:Expr} {te:TE} {g:TG} (he:PE X e te) (hg:PG X tg g) (hs:swapsWithSole [tg] e pos.line X.env=pure false:=by rfl) (hw:swappedStores [tg] e X.env=pure none:=by rfl)
  (h1:(assignEach [tg] X.env).map (·.2)=[assign tg X.env]:=by rfl):PS X (.Assign [tg] e pos) (eL te g):=by
 intro pins s σ H D I h
 refine wpAny_Assign_stores (thn (he pins s σ H _ I h) fun v s1 hZ1=>?_) hs hw
 obtain ⟨x,H1,I1,r1,q1⟩:=hZ1
 rw [h1]
 exact thn (hg pins s1 σ H1 x v _ I1 r1 q1) fun _ s2 q=>q
theorem Hb {i:Nat} {x:Str} {e:Expr} {te:TE} {pos':Pos} (hN:X.N.Nodup) (hi:X.N[i]? = some x) (hx:Loc X.env.scope x) (he:PE X e te) (hs:swapsWith e (some (.Name x pos')) pos.line X.env=pure false:=by rfl) (hf:X.fn x=true∨X.env.scope.names.lookup x=some .local:=by first | exact .inl rfl | exact .inr rfl | assumption) :
  PS X (.Assign [.Name x pos'] e pos) (eL te (xu i)):=by
 intro pins s σ H D I h
 refine wpAny_Assign_Name (thn (he pins s σ H _ I h) fun v s1 hZ1=>?_) hs
 obtain ⟨y,H1,I1,r1,q1⟩:=hZ1
 exact vy I1 hN hi hx r1 (fun s2 I2=>⟨_,H1,I2,q1⟩) hf
end
section
variable {X:Cx} {pos:Pos}
noncomputable def zG (c:TT) (tb:TS):TS:=fun D σ H=>∃ W:Nat→St→Hp→Prop,(∃ m,W m σ H)∧∀ m σ H,W m σ H →
 c σ H fun b H1=>if b=true then ∃ N:St→Hp→Prop,(∀ σ' H',N σ' H'→∃ m',m' < m∧W m' σ' H')∧tb { D with nx:=N,ct:=N,bk:=D.nx } σ H1 else D.nx σ H1
theorem gE {c:Expr} {body:List Stmt} {tc:TT} {tb:TS} (hp:PassesOwn (model X.prog X.w) X.A X.env X.xe) (hc:PT X c tc) (hb:PSs X body tb):PS X (.While c body [] pos) (zG tc tb):=by
 intro pins s σ H D I h
 obtain ⟨W,⟨m0,w0⟩,turn⟩:=h
 refine wpAny_While (codeAny_whileLoop (fun n s'=>∃ σ' H',Inv X pins σ' H' s'∧W n σ' H') ?_ m0 ⟨σ,H,I,w0⟩)
 rintro n s1 ⟨σ1,H1,I1,w1⟩
 refine wpAny_passesOwn hp (thn (hc pins s1 σ1 H1 _ I1 (turn n σ1 H1 w1)) fun b s2 hZ1=>?_)
 obtain ⟨H2,I2,q2⟩:=hZ1
 cases b with
 | true=>
  obtain ⟨N,hN,q2⟩:=q2
  rw [if_pos rfl]
  refine wpAny_passesOwn hp (thn (hb pins s2 σ1 H2 _ I2 q2) fun f s3 q3=>?_)
  cases f with
  | next=>
   obtain ⟨σ3,H3,I3,n3⟩:=q3
   obtain ⟨m',hm,w3⟩:=hN σ3 H3 n3
   exact ⟨m',hm,σ3,H3,I3,w3⟩
  | cont=>
   obtain ⟨σ3,H3,I3,n3⟩:=q3
   obtain ⟨m',hm,w3⟩:=hN σ3 H3 n3
   exact ⟨m',hm,σ3,H3,I3,w3⟩
  | brk=>exact q3
  | ret v=>exact q3
 | false=>
  rw [if_neg Bool.false_ne_true]
  exact wpAny_execs_nil ⟨σ1,H2,I2,q2⟩
end
structure It where
 go:Nat→Hp→Prop
 yld:Nat→Hp→V→Hp→Prop
 stop:Nat→Hp→Prop
noncomputable def zu (X:Cx) (pins:List (Addr × Obj)) (H:Hp) (b:Addr):Prop:=
 H b=none∧b ≠ X.env.locals∧b ∉ X.fs∧(b ∈ X.ex∨X.s₀.heap.objs.size ≤ b)∧(∀ x c,X.env.cells.lookup x=some c→c ≠ b)∧∀ p ∈ X.pn ++ pins,p.1 ≠ b
theorem Inv.fpOk {X:Cx} {pins:List (Addr × Obj)} {σ:St} {H H':Hp} {s:Shared} {b:Addr} (I:Inv X pins σ H s) (hb:s.heap.objs.size ≤ b) (hn:H' b=none):zu X pins H' b:=by
 refine ⟨hn,Nat.ne_of_gt (Nat.lt_of_lt_of_le I.lt hb),I.nofs hb,.inr (Nat.le_trans I.sz hb),fun x c e z=>?_,fun p hp z=>?_⟩
 ·obtain ⟨v,q⟩:=I.cell x c e
  exact absurd (Nat.lt_of_lt_of_le q.lt (by rw [z];exact hb)) (Nat.lt_irrefl _)
 ·exact absurd (Nat.lt_of_lt_of_le (Heap.lt_size (I.pin p hp).1) (by rw [z];exact hb)) (Nat.lt_irrefl _)
structure qH (P:Program) (w:World) (K:PySem.W.Frag) (tg:Expr) (J:It) (fp:List Addr) (it:Addr) (tn:Nat→Heap→Prop):Prop where
 mem:it ∈ fp
 obj:∀ i h,tn i h→∀ b ∈ fp,∃ o,h.get? b=some o∧∀ v,o.data ≠ .cell v
 keep:∀ i h h',tn i h→(∀ b ∈ fp,∀ o,h.get? b=some o→h'.get? b=some o)→tn i h'
 item:∀ (X:Cx),X.prog=P→X.w=w→X.K=K→X.calm=true→∀ (i:Nat) (pins:List (Addr × Obj)) (s:Shared) (σ:St) (H:Hp) (E:Value→Shared→Prop),Inv X pins σ H s→(∀ b ∈ fp,zu X pins H b)→tn i s.heap→J.go i H →
  wpAny (model P w) X.A (pyNext (.ref it)) (fun r s1=>∃ u,r=some u ∧
   wpAny (model P w) X.A (letOwnedTupleGo tg (.ref it) u) (fun _ s2=>∃ x H',Inv X pins σ H' s2∧Od x u∧J.yld i H x H'∧tn (i + 1) s2.heap∧∀ b ∈ fp,H' b=none) E s1) E s
 done:∀ (X:Cx),X.prog=P→X.w=w→X.K=K→X.calm=true→∀ (i:Nat) (pins:List (Addr × Obj)) (s:Shared) (σ:St) (H:Hp) (E:Value→Shared→Prop),Inv X pins σ H s→(∀ b ∈ fp,zu X pins H b)→tn i s.heap→J.stop i H →
  wpAny (model P w) X.A (pyNext (.ref it)) (fun r s1=>r=none∧Inv X pins σ H s1) E s
 self:∀ (A:Around) (i:Nat) (s:Shared) (Q:Value→Shared→Prop) (E:Value→Shared→Prop),tn i s.heap→Q (.ref it) s→wpAny (model P w) A (pyIter (.ref it)) Q E s
noncomputable abbrev TI:=St→Hp→(It→Hp→Prop)→Prop
noncomputable def PIE (X:Cx) (pins:List (Addr × Obj)) (σ:St) (tg:Expr) (R:It→Hp→Prop) (itv:Value) (s2:Shared):Prop:=
 ∃ (it:Addr) (fp:List Addr) (tn:Nat→Heap→Prop) (J:It) (H':Hp),itv=.ref it∧Inv X pins σ H' s2∧qH X.prog X.w X.K tg J fp it tn∧tn 0 s2.heap∧(∀ b ∈ fp,zu X pins H' b)∧R J H'
noncomputable def PI (X:Cx) (tg iter:Expr) (wi:TI):Prop:=
 ∀ (pins:List (Addr × Obj)) (s:Shared) (σ:St) (H:Hp) (R:It→Hp→Prop),Inv X pins σ H s→wi σ H R →
  wpAny (model X.prog X.w) X.A (eval iter X.env) (fun v s1=>wpAny (model X.prog X.w) X.A (pyIter v) (PIE X pins σ tg R) X.xe s1) X.xe s
theorem dE {M:Model} {A:Around} {E:Value→Shared→Prop} {s:Shared} {tg:Expr} {it:Addr} {u:Value} {o:Obj} {n:String} {vs:Array Value} {Q:Unit→Shared→Prop} (ho:s.heap.get? it=some o) (hc:o.cls=.type n) (hd:o.data=.fields vs)
    (hn:["enumerate","zip","dict_itemiterator","dict_reverseitemiterator","odict_iterator","itertools.zip_longest","itertools.pairwise"].contains n=false) (hQ:Q () s):wpAny M A (letOwnedTupleGo tg (.ref it) u) Q E s:=by
  unfold letOwnedTupleGo
  cases tg <;> first
    | exact wpAny_pure hQ
    | (cases u <;> first
        | exact wpAny_pure hQ
        | (refine wpAny_bind (wpAny_load ho ?_)
           rw [hc,hd]
           show wpAny M A (if (["enumerate","zip","dict_itemiterator","dict_reverseitemiterator","odict_iterator","itertools.zip_longest","itertools.pairwise"].contains n && vs[0]? == some (rawInt _))=true then _ else _) Q E s
           rw [if_neg (by intro h;rw [hn,Bool.false_and] at h;cases h)]
           exact wpAny_pure hQ))
noncomputable def Itl (K:PySem.W.Frag) (a:Addr):It:=
 ⟨fun i H=>∃ xs x,SqL K H a xs∧xs[i]? = some x,fun i H x H'=>H'=H∧∀ xs,SqL K H a xs→xs[i]? = some x,fun i H=>∃ xs,SqL K H a xs∧xs.length ≤ i⟩
noncomputable def Itt (K:PySem.W.Frag) (a:Addr):It:=
 ⟨fun i H=>∃ xs x,SqT K H a xs∧xs[i]? = some x,fun i H x H'=>H'=H∧∀ xs,SqT K H a xs→xs[i]? = some x,fun i H=>∃ xs,SqT K H a xs∧xs.length ≤ i⟩
noncomputable def Itr (lo:Int) (n:Nat):It:=⟨fun i _=>i < n,fun i H x H'=>H'=H∧x=.int (lo + i),fun i _=>n ≤ i⟩
theorem tD {P:Program} {w:World} {K:PySem.W.Frag} {tg:Expr} (a it:Addr):qH P w K tg (Itl K a) [it] it (fun i h=>h.IsListIter it a i) where
 mem:=by simp
 obj:=fun i h st b hb=>by
  have e:b=it:=by simpa using hb
  subst e
  obtain ⟨o,e,c,d⟩:=st
  exact ⟨o,e,fun v z=>by rw [d] at z;cases z⟩
 keep:=fun i h h' st k=>st.at fun o e=>k it (by simp) o e
 item:=by
  intro X hP hw hK hc i pins s σ H E I hf st hg
  subst hP hw hK
  obtain ⟨xs,x,hq,hx⟩:=hg
  obtain ⟨its,rv,p,hz⟩:=I.list hq
  obtain ⟨u,hu,ru⟩:=rv.get hx
  obtain ⟨f0,f1,f2,f3,f4,f5⟩:=hf it (by simp)
  refine wpAny_pyNext_list_item st p.isList (x:=u) (by simpa using hu) fun h' st' sb=>?_
  have I1:Inv X pins σ H { s with heap:=h' }:=I.turned (t':=s.toks) (fun b o hb e=>(sb.2 b hb).trans e) f0 f1 f3 f4 f5
  obtain ⟨o,e,c,d⟩:=id st'
  exact ⟨u,rfl,dE (s:={ s with heap:=h' }) e c d (by decide) ⟨x,H,I1,ru,⟨rfl,fun ys hy=>by rw [I.list_inj hy hq];exact hx⟩,st',fun b hb=>(hf b hb).1⟩⟩
 done:=by
  intro X hP hw hK hc i pins s σ H E I hf st hg
  subst hP hw hK
  obtain ⟨xs,hq,hx⟩:=hg
  obtain ⟨its,rv,p,hz⟩:=I.list hq
  obtain ⟨f0,f1,f2,f3,f4,f5⟩:=hf it (by simp)
  have hl:=rv.length
  exact wpAny_pyNext_list_end (I.ok.hd hc) st p.isList (by simp;omega) fun h' eb=>⟨rfl,I.turned (t':=s.toks) (fun b o hb e=>eb b o hb e) f0 f1 f3 f4 f5⟩
 self:=fun _ _ _ _ _ st h=>wpAny_pyIter_listiter st h
theorem cz {P:Program} {w:World} {K:PySem.W.Frag} {tg:Expr} (a it:Addr):qH P w K tg (Itt K a) [it] it (fun i h=>h.IsTupleIter it a i) where
 mem:=by simp
 obj:=fun i h st b hb=>by
  have e:b=it:=by simpa using hb
  subst e
  obtain ⟨o,e,c,d⟩:=st
  exact ⟨o,e,fun v z=>by rw [d] at z;cases z⟩
 keep:=fun i h h' st k=>st.at fun o e=>k it (by simp) o e
 item:=by
  intro X hP hw hK hc i pins s σ H E I hf st hg
  subst hP hw hK
  obtain ⟨xs,x,hq,hx⟩:=hg
  obtain ⟨its,rv,p,hz⟩:=I.tuple hq
  obtain ⟨u,hu,ru⟩:=rv.get hx
  obtain ⟨f0,f1,f2,f3,f4,f5⟩:=hf it (by simp)
  refine wpAny_pyNext_tuple_item st (show s.heap.IsTuple a its.toArray from p) (x:=u) (by simpa using hu) fun h' st' sb=>?_
  have I1:Inv X pins σ H { s with heap:=h' }:=I.turned (t':=s.toks) (fun b o hb e=>(sb.2 b hb).trans e) f0 f1 f3 f4 f5
  obtain ⟨o,e,c,d⟩:=id st'
  exact ⟨u,rfl,dE (s:={ s with heap:=h' }) e c d (by decide) ⟨x,H,I1,ru,⟨rfl,fun ys hy=>by rw [I.tuple_inj hy hq];exact hx⟩,st',fun b hb=>(hf b hb).1⟩⟩
 done:=by
  intro X hP hw hK hc i pins s σ H E I hf st hg
  subst hP hw hK
  obtain ⟨xs,hq,hx⟩:=hg
  obtain ⟨its,rv,p,hz⟩:=I.tuple hq
  obtain ⟨f0,f1,f2,f3,f4,f5⟩:=hf it (by simp)
  have hl:=rv.length
  exact wpAny_pyNext_tuple_end (I.ok.hd hc) st (show s.heap.IsTuple a its.toArray from p) (by simp;omega) fun h' eb=>⟨rfl,I.turned (t':=s.toks) (fun b o hb e=>eb b o hb e) f0 f1 f3 f4 f5⟩
 self:=fun _ _ _ _ _ st h=>wpAny_pyIter_tupleiter st h
theorem Bz {P:Program} {w:World} {K:PySem.W.Frag} {tg:Expr} (it:Addr) (lo:Int) (n:Nat):qH P w K tg (Itr lo n) [it] it (fun i h=>IsRangeIter h it (lo + (i:Nat) * 1) ((n:Int) - (i:Nat)) 1) where
 mem:=by simp
 obj:=fun i h st b hb=>by
  have e:b=it:=by simpa using hb
  subst e
  exact ⟨_,st,fun v z=>by
   have z':Data.fields _=Data.cell v:=z
   cases z'⟩
 keep:=fun i h h' st k=>k it (by simp) _ st
 item:=by
  intro X hP hw hK hc i pins s σ H E I hf st hg
  subst hP hw hK
  obtain ⟨f0,f1,f2,f3,f4,f5⟩:=hf it (by simp)
  have W:=Walks.range (prog:=X.prog) (w:=X.w) (I.ok.hd hc) it lo 1 n
  refine W.item i s _ _ hg st fun v h' tk hv st' kk=>?_
  obtain ⟨t,rfl⟩:=hv
  have I1:Inv X pins σ H { s with heap:=h',toks:=tk }:=I.turned (fun b o hb e=>kk b o (by simpa using hb) e) f0 f1 f3 f4 f5
  refine ⟨_,rfl,dE (s:={ s with heap:=h',toks:=tk }) (n := "range_iterator") st' rfl rfl (by decide) ⟨.int (lo + i),H,I1,⟨t,?_⟩,⟨rfl,rfl⟩,st',fun b hb=>(hf b hb).1⟩⟩
  rw [Int.mul_one]
 done:=by
  intro X hP hw hK hc i pins s σ H E I hf st hg
  subst hP hw hK
  obtain ⟨f0,f1,f2,f3,f4,f5⟩:=hf it (by simp)
  exact wpAny_pyNext_range_end (I.ok.hd hc) st (by have:n ≤ i:=hg;omega) fun h' eb=>⟨rfl,I.turned (t':=s.toks) (fun b o hb e=>eb b o hb e) f0 f1 f3 f4 f5⟩
 self:=fun _ _ _ _ _ st h=>wpAny_pyIter_rangeiter st h
end L2
namespace L2
open PySem PySem.Spec PyProof.Rows
section
variable {X:Cx} {tg:Expr}
noncomputable def nJ (K:PySem.W.Frag) (tl:TE):TI:=fun σ H R=>tl σ H fun x H1=>∃ a,x=.ref a∧(∃ xs,SqL K H1 a xs)∧R (Itl K a) H1
noncomputable def RL (K:PySem.W.Frag) (tl:TE):TI:=fun σ H R=>tl σ H fun x H1=>∃ a,x=.ref a∧(∃ xs,SqT K H1 a xs)∧R (Itt K a) H1
theorem Lc {l:Expr} {tl:TE} (hl:PE X l tl):PI X tg l (nJ X.K tl):=by
 intro pins s σ H R I h
 refine thn (hl pins s σ H _ I h) fun v s1 hZ1=>?_
 obtain ⟨x,H1,I1,r1,q1⟩:=hZ1
 obtain ⟨a,e,⟨xs,hq⟩,q⟩:=q1
 subst e
 cases r1
 obtain ⟨its,rv,p,hz⟩:=I1.list hq
 refine wpAny_pyIter_list p.isList ?_
 refine ⟨s1.heap.objs.size,[s1.heap.objs.size],_,_,H1,rfl,I1.kept (t':=s1.toks) fun b o e=>Heap.get?_push_of_some _ e,tD a _,⟨_,Heap.get?_push_size _ rfl,rfl,rfl⟩,fun b hb=>?_,q⟩
 have e:b=s1.heap.objs.size:=by simpa using hb
 subst e
 exact I1.fpOk (Nat.le_refl _) (I1.hok.fresh (Nat.le_refl _))
theorem zJ {l:Expr} {tl:TE} (hl:PE X l tl):PI X tg l (RL X.K tl):=by
 intro pins s σ H R I h
 refine thn (hl pins s σ H _ I h) fun v s1 hZ1=>?_
 obtain ⟨x,H1,I1,r1,q1⟩:=hZ1
 obtain ⟨a,e,⟨xs,hq⟩,q⟩:=q1
 subst e
 cases r1
 obtain ⟨its,rv,p,hz⟩:=I1.tuple hq
 refine wpAny_pyIter_tuple (show s1.heap.IsTuple a its.toArray from p) ?_
 refine ⟨s1.heap.objs.size,[s1.heap.objs.size],_,_,H1,rfl,I1.kept (t':=s1.toks) fun b o e=>Heap.get?_push_of_some _ e,cz a _,⟨_,Heap.get?_push_size _ rfl,rfl,rfl⟩,fun b hb=>?_,q⟩
 have e:b=s1.heap.objs.size:=by simpa using hb
 subst e
 exact I1.fpOk (Nat.le_refl _) (I1.hok.fresh (Nat.le_refl _))
theorem QE {pins:List (Addr × Obj)} {σ:St} {H:Hp} {s:Shared} {R:It→Hp→Prop} {E:Value→Shared→Prop} {lo hi:Int} {t u v:Tok} {tk:Nat} (I:Inv X pins σ H s) (h1:-(2 ^ 62) ≤ lo) (h2:lo < 2 ^ 62) (h3:-(2 ^ 62) ≤ hi) (h4:hi < 2 ^ 62)
  (q:R (Itr lo (hi - lo).toNat) H):wpAny (model X.prog X.w) X.A (pyIter (.ref s.heap.objs.size)) (PIE X pins σ tg R) E { s with heap:=s.heap.push { cls:=.type "range",data:=.fields #[.int lo t,.int hi u,.int 1 v] },toks:=tk }:=by
 refine wpAny_pyIter_range (IsRange.new ..) (small_one h1 h2 h3 h4) ?_
 have I1:Inv X pins σ H { s with heap:=s.heap.push { cls:=.type "range",data:=.fields #[.int lo t,.int hi u,.int 1 v] },toks:=tk }:=I.kept fun b o e=>Heap.get?_push_of_some _ e
 refine ⟨(s.heap.push { cls:=.type "range",data:=.fields #[.int lo t,.int hi u,.int 1 v] }).objs.size,[(s.heap.push { cls:=.type "range",data:=.fields #[.int lo t,.int hi u,.int 1 v] }).objs.size],_,_,H,rfl,
  I1.kept (t':=tk) fun b o e=>Heap.get?_push_of_some _ e,Bz _ lo (hi - lo).toNat,?_,fun b hb=>?_,q⟩
 ·have e1:lo + ((0:Nat):Int) * 1=lo:=by simp
  have e2:(((hi - lo).toNat:Nat):Int) - ((0:Nat):Int)=Builtin.Range.rangeSize lo hi 1:=by rw [rangeSize_one];split <;> omega
  show IsRangeIter _ _ (lo + ((0:Nat):Int) * 1) ((((hi - lo).toNat:Nat):Int) - ((0:Nat):Int)) 1
  rw [e1,e2]
  exact Heap.get?_push_size _ rfl
 ·have e:b=(s.heap.push { cls:=.type "range",data:=.fields #[.int lo t,.int hi u,.int 1 v] }).objs.size:=by simpa using hb
  subst e
  exact I1.fpOk (Nat.le_refl _) (I1.hok.fresh (Nat.le_refl _))
noncomputable def fK (ta:TA):TI:=fun σ H R=>ta σ H fun vs H1=>∃ j:Int,vs=[.int j]∧-(2 ^ 62) ≤ j∧j < 2 ^ 62∧R (Itr 0 j.toNat) H1
theorem Me {a:Expr} {ta:TA} {p pos:Pos} (hg:Gl X "range") (hm:X.mg "range"=none) (ha:PA X [a] ta) (hs:starEach [a] X.env=[(false,eval a X.env)]:=by rfl):PI X tg (.Call (.Name "range" p) [a] [] pos) (fK ta):=by
 intro pins s σ H R I h
 refine Call_ (nw I hg hm boot_range (PyProof.Rows.callWith_type1 (thn (ha pos pins s σ H _ I h) fun us s1 hZ1=>?_) hs rfl))
 obtain ⟨vs,H1,I1,r1,q1⟩:=hZ1
 obtain ⟨j,e,q1,q2,q⟩:=q1
 subst e
 cases r1 with
 | cons r rr=>
  cases rr
  obtain ⟨t,rfl⟩:=r
  exact call_range_1 (QE I1 (by omega) (by omega) q1 q2 (by simpa using q))
noncomputable def QL (wi:TI) (g:TG) (tb:TS):TS:=fun D σ H=>wi σ H fun J H1=>∃ W:Nat→Nat→St→Hp→Prop,(∃ m,W 0 m σ H1)∧∀ i m σ H,W i m σ H →
 (J.stop i H∧D.nx σ H)∨(J.go i H∧∃ N:St→Hp→Prop,(∀ σ' H',N σ' H'→∃ m',m' < m∧W (i + 1) m' σ' H')∧∀ x H',J.yld i H x H'→g x σ H' fun σ2 H2=>tb { D with nx:=N,ct:=N,bk:=D.nx } σ2 H2)
noncomputable def Bu (fp:List Addr) (h:Heap):List (Addr × Obj):=fp.filterMap fun b=>(h.get? b).map fun o=>(b,o)
theorem sk {fp:List Addr} {h:Heap} {b:Addr} {o:Obj} (hb:b ∈ fp) (e:h.get? b=some o):(b,o) ∈ Bu fp h:=List.mem_filterMap.mpr ⟨b,hb,by rw [e];rfl⟩
theorem lB {fp:List Addr} {h:Heap} {p:Addr × Obj} (hp:p ∈ Bu fp h):p.1 ∈ fp∧h.get? p.1=some p.2:=by
 obtain ⟨b,hb,e⟩:=List.mem_filterMap.mp hp
 cases q:h.get? b with
 | none=>rw [q] at e;cases e
 | some o=>
  rw [q] at e
  have e':(b,o)=p:=Option.some.inj e
  subst e'
  exact ⟨hb,q⟩
theorem Inv.pinned {pins:List (Addr × Obj)} {σ:St} {H:Hp} {s:Shared} {fp:List Addr} (I:Inv X pins σ H s) (hf:∀ b ∈ fp,zu X pins H b) (ho:∀ b ∈ fp,∃ o,s.heap.get? b=some o∧∀ v,o.data ≠ .cell v):Inv X (pins ++ Bu fp s.heap) σ H s:=
 I.pins_of fun p hp=>(List.mem_append.mp hp).elim (fun z=>I.pin p (List.mem_append_right _ z)) fun z=>by
  obtain ⟨hb,e⟩:=lB z
  obtain ⟨f0,f1,f2,_⟩:=hf p.1 hb
  obtain ⟨o,e',d⟩:=ho p.1 hb
  rw [e] at e';cases e'
  exact ⟨e,f0,f1,f2,d⟩
theorem Inv.unpinned {pins pl:List (Addr × Obj)} {σ:St} {H:Hp} {s:Shared} (I:Inv X (pins ++ pl) σ H s):Inv X pins σ H s:=I.pins_of fun p hp=>I.pin p (List.mem_append_right _ (List.mem_append_left _ hp))
theorem Ge {iter:Expr} {body:List Stmt} {wi:TI} {g:TG} {tb:TS} {pos:Pos} (hp:PassesOwn (model X.prog X.w) X.A X.env X.xe) (hc:X.calm=true) (hi:PI X tg iter wi) (hg:PG X tg g) (hb:PSs X body tb)
  (hs:∀ x,foldedSetIterable iter X.env x=pure x:=by intro _;rfl):PS X (.For tg iter body [] pos) (QL wi g tb):=by
 intro pins s σ H D I h
 refine wpAny_For (thn (hi pins s σ H _ I h) fun v s1 h1=>thn h1 fun itv s2 h2=>?_) hs
 obtain ⟨it,fp,tn,J,H2,e,I2,T,st2,f2,W,⟨m0,w0⟩,turn⟩:=h2
 subst e
 -- what stays true of the iterator's objects through the loop
 have stat:∀ {H':Hp},(∀ b ∈ fp,H' b=none)→∀ b ∈ fp,zu X pins H' b:=fun hn b hb=>⟨hn b hb,(f2 b hb).2⟩
 refine codeAny_forLoop_any (fun n s'=>∃ i σ' H',Inv X pins σ' H' s'∧tn i s'.heap∧(∀ b ∈ fp,H' b=none)∧W i n σ' H') ?_ m0 ⟨0,σ,H2,I2,st2,fun b hb=>(f2 b hb).1,w0⟩
 rintro n s3 ⟨i,σ3,H3,I3,st3,fr3,w3⟩
 rcases turn i n σ3 H3 w3 with ⟨stop,qn⟩ | ⟨go,N,hN,step⟩
 ·refine wpAny_passesOwn hp (thn (T.done X rfl rfl rfl hc i pins s3 σ3 H3 X.xe I3 (stat fr3) st3 stop) fun r s4 hZ1=>?_)
  obtain ⟨hr,I4⟩:=hZ1
  subst hr
  exact wpAny_execs_nil ⟨σ3,H3,I4,qn⟩
 ·refine wpAny_passesOwn hp (thn (T.item X rfl rfl rfl hc i pins s3 σ3 H3 X.xe I3 (stat fr3) st3 go) fun r s4 hZ1=>?_)
  obtain ⟨u,hr,h4⟩:=hZ1
  subst hr
  refine wpAny_passesOwn hp (thn h4 fun _ s5 hZ1=>?_)
  obtain ⟨x,H5,I5,r5,y5,st5,fr5⟩:=hZ1
  have I5':=I5.pinned (stat fr5) (T.obj _ _ st5)
  refine wpAny_passesOwn hp (thn (hg _ s5 σ3 H5 x u _ I5' r5 (step x H5 y5)) fun _ s6 hZ1=>?_)
  obtain ⟨σ6,H6,I6,q6⟩:=hZ1
  refine wpAny_passesOwn hp (thn (hb _ s6 σ6 H6 _ I6 q6) fun f s7 q7=>?_)
  have again:∀ {σ7:St} {H7:Hp},Inv X (pins ++ Bu fp s5.heap) σ7 H7 s7→N σ7 H7→∃ m,m < n∧∃ i σ' H',Inv X pins σ' H' s7∧tn i s7.heap∧(∀ b ∈ fp,H' b=none)∧W i m σ' H':=fun {σ7 H7} I7 n7=>by
   obtain ⟨m',hm,w7⟩:=hN σ7 H7 n7
   refine ⟨m',hm,i + 1,σ7,H7,I7.unpinned,T.keep _ _ _ st5 fun b hb o e=>(I7.pin (b,o) (List.mem_append_right _ (List.mem_append_right _ (sk hb e)))).1,fun b hb=>?_,w7⟩
   obtain ⟨o,e,d⟩:=T.obj _ _ st5 b hb
   exact (I7.pin (b,o) (List.mem_append_right _ (List.mem_append_right _ (sk hb e)))).2.1
  cases f with
  | next=>obtain ⟨σ7,H7,I7,n7⟩:=q7;exact again I7 n7
  | cont=>obtain ⟨σ7,H7,I7,n7⟩:=q7;exact again I7 n7
  | brk=>obtain ⟨σ7,H7,I7,q7⟩:=q7;exact ⟨σ7,H7,I7.unpinned,q7⟩
  | ret v=>obtain ⟨x7,σ7,H7,I7,r7,q7⟩:=q7;exact ⟨x7,σ7,H7,I7.unpinned,r7,q7⟩
end
theorem wE {K:PySem.W.Frag} {a:Addr} {xs:List V} {g:TG} {tb:TS} {D:Gi} {σ:St} {H:Hp} (Pv:Nat→St→Hp→Prop) (h0:Pv 0 σ H) (hl:∀ i σ H,i ≤ xs.length→Pv i σ H→SqL K H a xs)
  (hs:∀ i x σ H,xs[i]? = some x→Pv i σ H→g x σ H fun σ2 H2=>tb { D with nx:=Pv (i + 1),ct:=Pv (i + 1),bk:=D.nx } σ2 H2) (hd:∀ σ H,Pv xs.length σ H→D.nx σ H) :
  ∃ W:Nat→Nat→St→Hp→Prop,(∃ m,W 0 m σ H)∧∀ i m σ H,W i m σ H →
   ((Itl K a).stop i H∧D.nx σ H)∨((Itl K a).go i H∧∃ N:St→Hp→Prop,(∀ σ' H',N σ' H'→∃ m',m' < m∧W (i + 1) m' σ' H')∧∀ x H',(Itl K a).yld i H x H'→g x σ H' fun σ2 H2=>tb { D with nx:=N,ct:=N,bk:=D.nx } σ2 H2):=by
 refine ⟨fun i m σ H=>m=xs.length - i∧i ≤ xs.length∧Pv i σ H,⟨xs.length,by simp,Nat.zero_le _,h0⟩,?_⟩
 rintro i m σ H ⟨rfl,hi,p⟩
 have q:=hl i σ H hi p
 by_cases hlt:i < xs.length
 ·refine .inr ⟨⟨xs,xs[i],q,by simp [hlt]⟩,Pv (i + 1),fun σ' H' p'=>⟨xs.length - (i + 1),by omega,rfl,hlt,p'⟩,fun x H' y=>?_⟩
  obtain ⟨e,y⟩:=y
  subst e
  exact hs i x σ _ (y xs q) p
 ·have e:i=xs.length:=by omega
  subst e
  exact .inl ⟨⟨xs,q,Nat.le_refl _⟩,hd σ H p⟩
theorem aC {lo:Int} {n:Nat} {g:TG} {tb:TS} {D:Gi} {σ:St} {H:Hp} (Pv:Nat→St→Hp→Prop) (h0:Pv 0 σ H)
  (hs:∀ i σ H,i < n→Pv i σ H→g (.int (lo + i)) σ H fun σ2 H2=>tb { D with nx:=Pv (i + 1),ct:=Pv (i + 1),bk:=D.nx } σ2 H2) (hd:∀ σ H,Pv n σ H→D.nx σ H) :
  ∃ W:Nat→Nat→St→Hp→Prop,(∃ m,W 0 m σ H)∧∀ i m σ H,W i m σ H →
   ((Itr lo n).stop i H∧D.nx σ H)∨((Itr lo n).go i H∧∃ N:St→Hp→Prop,(∀ σ' H',N σ' H'→∃ m',m' < m∧W (i + 1) m' σ' H')∧∀ x H',(Itr lo n).yld i H x H'→g x σ H' fun σ2 H2=>tb { D with nx:=N,ct:=N,bk:=D.nx } σ2 H2):=by
 refine ⟨fun i m σ H=>m=n - i∧i ≤ n∧Pv i σ H,⟨n,by simp,Nat.zero_le _,h0⟩,?_⟩
 rintro i m σ H ⟨rfl,hi,p⟩
 by_cases hlt:i < n
 ·refine .inr ⟨hlt,Pv (i + 1),fun σ' H' p'=>⟨n - (i + 1),by omega,rfl,hlt,p'⟩,fun x H' y=>?_⟩
  obtain ⟨e,y⟩:=y
  subst e y
  exact hs i σ _ hlt p
 ·have e:i=n:=by omega
  subst e
  exact .inl ⟨Nat.le_refl _,hd σ H p⟩
end L2
namespace L2
open PySem PySem.Spec PyProof.Rows
noncomputable abbrev R2:=V→V→Hp→VK→Prop
noncomputable def OpR (X:Cx) (f:Value→Value→Sem Value) (r:R2):Prop:=
 ∀ (pins:List (Addr × Obj)) (s:Shared) (σ:St) (H:Hp) (x y:V) (v u:Value) (Q:VK),Inv X pins σ H s→Od x v→Od y u→r x y H Q →
  wpAny (model X.prog X.w) X.A (f v u) (EP X pins σ Q) X.xe s
noncomputable def Ek (X:Cx) (f:Value) (r:List V→Hp→VK→Prop):Prop:=
 ∀ (pins:List (Addr × Obj)) (s:Shared) (σ:St) (H:Hp) (xs:List V) (us:List Value) (Q:VK),Inv X pins σ H s→Jd xs us→r xs H Q →
  wpAny (model X.prog X.w) X.A (call f us) (EP X pins σ Q) X.xe s
noncomputable def xM (X:Cx) (r:V→Hp→(Bool→Hp→Prop)→Prop):Prop:=
 ∀ (pins:List (Addr × Obj)) (s:Shared) (σ:St) (H:Hp) (x:V) (v:Value) (Q:Bool→Hp→Prop),Inv X pins σ H s→Od x v→r x H Q →
  wpAny (model X.prog X.w) X.A (truthy v) (TP X pins σ Q) X.xe s
noncomputable def tOp (r:R2) (ta tb:TE):TE:=fun σ H Q=>ta σ H fun x H1=>tb σ H1 fun y H2=>r x y H2 Q
noncomputable def rI (C:Int→Int→Prop) (g:Int→Int→V):R2:=fun x y H Q=>∃ i j,x=.int i∧y=.int j∧C i j∧Q (g i j) H
noncomputable def rI0 (g:Int→Int→V):R2:=fun x y H Q=>∃ i j,x=.int i∧y=.int j∧Q (g i j) H
section
variable {X:Cx} {a b c:Expr} {ta tb tc:TE} {pos:Pos}
theorem AL (ha:PE X a ta) (hb:PE X b tb) {pins:List (Addr × Obj)} {s:Shared} {σ:St} {H:Hp} {R:V→V→Hp→Prop} (I:Inv X pins σ H s)
  (h:ta σ H fun x H1=>tb σ H1 fun y H2=>R x y H2) {Q:Value→Shared→Prop} {f:Value→Value→Sem Value}
  (hf:∀ v u s2 x y H2,Inv X pins σ H2 s2→Od x v→Od y u→R x y H2→wpAny (model X.prog X.w) X.A (f v u) Q X.xe s2) :
  wpAny (model X.prog X.w) X.A (eval a X.env) (fun v s₁=>wpAny (model X.prog X.w) X.A (eval b X.env) (fun u s₂=>wpAny (model X.prog X.w) X.A (f v u) Q X.xe s₂) X.xe s₁) X.xe s:=by
 refine thn (ha pins s σ H _ I h) fun v s1 hZ1=>?_
 obtain ⟨x,H1,I1,r1,q1⟩:=hZ1
 refine thn (hb pins s1 σ H1 _ I1 q1) fun u s2 hZ1=>?_
 obtain ⟨y,H2,I2,r2,q2⟩:=hZ1
 exact hf v u s2 x y H2 I2 r1 r2 q2
theorem Mb {op:Operator} {r:R2} (ho:OpR X (binaryOp op) r) (ha:PE X a ta) (hb:PE X b tb):PE X (.BinOp a op b pos) (tOp r ta tb):=by
 intro pins s σ H Q I h
 exact wpAny_BinOp (AL ha hb I h fun v u s2 x y H2 I2 rx ry q=>ho pins s2 σ H2 x y v u Q I2 rx ry q)
theorem opI {f:Value→Value→Sem Value} {C:Int→Int→Prop} {g:Int→Int→Int}
  (rule:∀ (i j:Int) (t u:Tok) (s:Shared) (Q:Value→Shared→Prop) (E:Value→Shared→Prop),C i j→Q (.int (g i j) s.toks) { s with toks:=s.toks + 1 }→wpAny (model X.prog X.w) X.A (f (.int i t) (.int j u)) Q E s) :
  OpR X f (rI C fun i j=>.int (g i j)):=by
 intro pins s σ H x y v u Q I rx ry h
 obtain ⟨i,j,rfl,rfl,hc,q⟩:=h
 obtain ⟨t,rfl⟩:=rx
 obtain ⟨t',rfl⟩:=ry
 exact rule i j t t' s _ _ hc ⟨.int (g i j),H,I.tok _,⟨_,rfl⟩,q⟩
theorem KL {f:Value→Value→Sem Value} {g:Int→Int→Int}
  (rule:∀ (i j:Int) (t u:Tok) (s:Shared) (Q:Value→Shared→Prop) (E:Value→Shared→Prop),Q (.int (g i j) s.toks) { s with toks:=s.toks + 1 }→wpAny (model X.prog X.w) X.A (f (.int i t) (.int j u)) Q E s) :
  OpR X f (rI0 fun i j=>.int (g i j)):=by
 intro pins s σ H x y v u Q I rx ry h
 obtain ⟨i,j,rfl,rfl,q⟩:=h
 obtain ⟨t,rfl⟩:=rx
 obtain ⟨t',rfl⟩:=ry
 exact rule i j t t' s _ _ ⟨.int (g i j),H,I.tok _,⟨_,rfl⟩,q⟩
theorem cM {f:Value→Value→Sem Value} {g:Int→Int→Bool}
  (rule:∀ (i j:Int) (t u:Tok) (s:Shared) (Q:Value→Shared→Prop) (E:Value→Shared→Prop),Q (.bool (g i j)) s→wpAny (model X.prog X.w) X.A (f (.int i t) (.int j u)) Q E s) :
  OpR X f (rI0 fun i j=>.bl (g i j)):=by
 intro pins s σ H x y v u Q I rx ry h
 obtain ⟨i,j,rfl,rfl,q⟩:=h
 obtain ⟨t,rfl⟩:=rx
 obtain ⟨t',rfl⟩:=ry
 exact rule i j t t' s _ _ ⟨.bl (g i j),H,I,rfl,q⟩
noncomputable def EB (i j:Int):Prop:=(-(2 ^ 64) < i∧i < 2 ^ 64)∨(-(2 ^ 64) < j∧j < 2 ^ 64)
theorem EB.ok {i j:Int} (h:EB i j):IntMulOk i j:=by
 rcases h with ⟨h1,h2⟩ | ⟨h1,h2⟩
 ·exact .of_left (intBits_le_64 h1 h2)
 ·exact .of_right (intBits_le_64 h1 h2)
theorem Vc:OpR X (binaryOp .Add) (rI0 fun i j=>.int (i + j)):=KL fun _ _ _ _ _ _ _ q=>add_int q
theorem Fm:OpR X (binaryOp .Sub) (rI0 fun i j=>.int (i - j)):=KL fun _ _ _ _ _ _ _ q=>sub_int q
theorem Yg:OpR X (binaryOp .Mult) (rI EB fun i j=>.int (i * j)):=opI fun _ _ _ _ _ _ _ hc q=>mul_int q hc.ok
theorem xf:OpR X (binaryOp .Mod) (rI (fun _ j=>0 < j) fun i j=>.int (i % j)):=opI fun i j _ _ _ _ _ hc q=>by
 have h1:(0:Int) < j:=hc
 exact mod_int' (by omega) (by rw [Int.fmod_eq_emod_of_nonneg i (by omega)];exact q)
end
noncomputable def EJ:V→V→Bool
 | .non,.non=>true | .non,.int _=>true | .int _,.non=>true | .non,.bl _=>true | .bl _,.non=>true | .non,.str _=>true | .str _,.non=>true
 | .int _,.int _=>true | .bl _,.bl _=>true | .str _,.str _=>true | .byt _,.byt _=>true
 | .int _,.str _=>true | .str _,.int _=>true | .bl _,.str _=>true | .str _,.bl _=>true
 | _,_=>false
noncomputable def rEq:R2:=fun x y H Q=>EJ x y=true∧Q (.bl (decide (x=y))) H
noncomputable def rNe:R2:=fun x y H Q=>EJ x y=true∧Q (.bl (!decide (x=y))) H
theorem EC {i j:Int}:decide (V.int i=V.int j)=(i == j):=by
 rw [Bool.eq_iff_iff]
 simp
theorem YG {i j:Bool}:decide (V.bl i=V.bl j)=(i == j):=by
 rw [Bool.eq_iff_iff]
 simp
theorem qD {i j:Str}:decide (V.str i=V.str j)=(i == j):=by
 rw [Bool.eq_iff_iff]
 simp
theorem vD {i j:Array UInt8}:decide (V.byt i=V.byt j)=(i.toList == j.toList):=by
 rw [Bool.eq_iff_iff]
 cases i
 cases j
 simp
section
variable {X:Cx} {a b c:Expr} {ta tb tc:TE} {pos:Pos}
theorem kd {pins:List (Addr × Obj)} {σ:St} {H:Hp} {s:Shared} {Q:VK} {k k':Bool} (I:Inv X pins σ H s) (q:Q (.bl k) H) (e:k=k'):EP X pins σ Q (.bool k') s:=by
 subst e
 exact ⟨.bl k,H,I,rfl,q⟩
theorem xg:OpR X (compareOp .Eq) rEq:=by
 intro pins s σ H x y v u Q I rx ry h
 obtain ⟨hs,q⟩:=h
 cases x with
 | non=>
  cases rx
  cases y with
  | non=>cases ry;exact PySem.EqNone.eq_none_none (kd I q (by simp))
  | bl j=>cases ry;exact PySem.EqNone.eq_none_bool (kd I q (by simp))
  | int j=>obtain ⟨t',rfl⟩:=ry;exact PySem.EqNone.eq_none_int (kd I q (by simp))
  | str j=>obtain ⟨t',rfl⟩:=ry;exact PySem.EqNone.eq_none_str (kd I q (by simp))
  | _=>exact absurd (show false=true from hs) Bool.false_ne_true
 | bl i=>
  cases rx
  cases y with
  | non=>cases ry;exact PySem.EqNone.eq_bool_none (kd I q (by simp))
  | bl j=>cases ry;exact eq_bool (kd I q YG)
  | str j=>obtain ⟨t',rfl⟩:=ry;exact PySem.EqMixed.eq_bool_str (kd I q (by simp))
  | _=>exact absurd (show false=true from hs) Bool.false_ne_true
 | int i=>
  obtain ⟨t,rfl⟩:=rx
  cases y with
  | non=>cases ry;exact PySem.EqNone.eq_int_none (kd I q (by simp))
  | int j=>obtain ⟨t',rfl⟩:=ry;exact eq_int (kd I q EC)
  | str j=>obtain ⟨t',rfl⟩:=ry;exact PySem.EqMixed.eq_int_str (kd I q (by simp))
  | _=>exact absurd (show false=true from hs) Bool.false_ne_true
 | str i=>
  obtain ⟨t,rfl⟩:=rx
  cases y with
  | non=>cases ry;exact PySem.EqNone.eq_str_none (kd I q (by simp))
  | bl j=>cases ry;exact PySem.EqMixed.eq_str_bool (kd I q (by simp))
  | int j=>obtain ⟨t',rfl⟩:=ry;exact PySem.EqMixed.eq_str_int (kd I q (by simp))
  | str j=>obtain ⟨t',rfl⟩:=ry;exact eq_str (kd I q qD)
  | _=>exact absurd (show false=true from hs) Bool.false_ne_true
 | byt i=>
  obtain ⟨t,rfl⟩:=rx
  cases y with
  | byt j=>obtain ⟨t',rfl⟩:=ry;exact PySem.W.eq_bytes (kd I q vD)
  | _=>exact absurd (show false=true from hs) Bool.false_ne_true
 | _=>cases y <;> exact absurd (show false=true from hs) Bool.false_ne_true
theorem tz:OpR X (compareOp .NotEq) rNe:=by
 intro pins s σ H x y v u Q I rx ry h
 obtain ⟨hs,q⟩:=h
 cases x with
 | non=>
  cases rx
  cases y with
  | non=>cases ry;exact PySem.EqNone.ne_none_none (kd I q (by simp))
  | bl j=>cases ry;exact PySem.EqNone.ne_none_bool (kd I q (by simp))
  | int j=>obtain ⟨t',rfl⟩:=ry;exact PySem.EqNone.ne_none_int (kd I q (by simp))
  | str j=>obtain ⟨t',rfl⟩:=ry;exact PySem.EqNone.ne_none_str (kd I q (by simp))
  | _=>exact absurd (show false=true from hs) Bool.false_ne_true
 | bl i=>
  cases rx
  cases y with
  | non=>cases ry;exact PySem.EqNone.ne_bool_none (kd I q (by simp))
  | bl j=>cases ry;exact ne_bool (kd I q (congrArg not YG))
  | str j=>obtain ⟨t',rfl⟩:=ry;exact PySem.EqMixed.ne_bool_str (kd I q (by simp))
  | _=>exact absurd (show false=true from hs) Bool.false_ne_true
 | int i=>
  obtain ⟨t,rfl⟩:=rx
  cases y with
  | non=>cases ry;exact PySem.EqNone.ne_int_none (kd I q (by simp))
  | int j=>obtain ⟨t',rfl⟩:=ry;exact ne_int (kd I q (congrArg not EC))
  | str j=>obtain ⟨t',rfl⟩:=ry;exact PySem.EqMixed.ne_int_str (kd I q (by simp))
  | _=>exact absurd (show false=true from hs) Bool.false_ne_true
 | str i=>
  obtain ⟨t,rfl⟩:=rx
  cases y with
  | non=>cases ry;exact PySem.EqNone.ne_str_none (kd I q (by simp))
  | bl j=>cases ry;exact PySem.EqMixed.ne_str_bool (kd I q (by simp))
  | int j=>obtain ⟨t',rfl⟩:=ry;exact PySem.EqMixed.ne_str_int (kd I q (by simp))
  | str j=>obtain ⟨t',rfl⟩:=ry;exact ne_str (kd I q (congrArg not qD))
  | _=>exact absurd (show false=true from hs) Bool.false_ne_true
 | byt i=>
  obtain ⟨t,rfl⟩:=rx
  cases y with
  | byt j=>obtain ⟨t',rfl⟩:=ry;exact PySem.W.ne_bytes (kd I q (congrArg not vD))
  | _=>exact absurd (show false=true from hs) Bool.false_ne_true
 | _=>cases y <;> exact absurd (show false=true from hs) Bool.false_ne_true
theorem du:OpR X (compareOp .Lt) (rI0 fun i j=>.bl (decide (i < j))):=cM fun _ _ _ _ _ _ _ q=>lt_int q
theorem zx:OpR X (compareOp .Gt) (rI0 fun i j=>.bl (decide (j < i))):=cM fun _ _ _ _ _ _ _ q=>gt_int q
theorem vC:OpR X (compareOp .In) (fun x y H Q=>∃ i j,x=.str i∧y=.str j∧Q (.bl (!(Builtin.Str.occurrences j i 0 j.length 1).isEmpty)) H):=by
 intro pins s σ H x y v u Q I rx ry h
 obtain ⟨i,j,rfl,rfl,q⟩:=h
 obtain ⟨t,rfl⟩:=rx
 obtain ⟨t',rfl⟩:=ry
 exact in_str (kd I q rfl)
theorem xB:OpR X (compareOp .IsNot) (fun x y H Q=>y=.non∧Q (.bl (!decide (x=.non))) H):=by
 intro pins s σ H x y v u Q I rx ry h
 obtain ⟨rfl,q⟩:=h
 cases ry
 refine isnot_none_gen (kd I q ?_)
 cases x <;> first
  | (cases rx;rfl)
  | (obtain ⟨t,rfl⟩:=rx;rfl)
theorem OpR.or {f:Value→Value→Sem Value} {r r':R2} (h:OpR X f r) (h':OpR X f r'):OpR X f (fun x y H Q=>r x y H Q∨r' x y H Q):=by
 intro pins s σ H x y v u Q I rx ry q
 rcases q with q | q
 ·exact h pins s σ H x y v u Q I rx ry q
 ·exact h' pins s σ H x y v u Q I rx ry q
theorem Zb (b:Expr) {op:CmpOp} (h:op ≠ .In:=by decide) (h2:op ≠ .NotIn:=by decide):behindInMarks op b=false:=by
 have e1:(op == CmpOp.In)=false:=by cases op <;> first | rfl | exact absurd rfl h
 have e2:(op == CmpOp.NotIn)=false:=by cases op <;> first | rfl | exact absurd rfl h2
 cases b <;> simp [behindInMarks,e1,e2]
theorem Ld {op:CmpOp} {r:R2} (ho:OpR X (compareOp op) r) (ha:PE X a ta) (hb:PE X b tb) (hm:behindInMarks op b=false):PE X (.Compare a [op] [b] pos) (tOp r ta tb):=by
 intro pins s σ H Q I h
 exact wpAny_Compare1 (AL ha hb I h fun v u s2 x y H2 I2 rx ry q=>ho pins s2 σ H2 x y v u Q I2 rx ry q) hm
noncomputable def ZJ (t:TE):TT:=fun σ H Q=>t σ H fun x H'=>∃ k,x=.bl k∧Q k H'
theorem dc {op:CmpOp} {r:R2} (ho:OpR X (compareOp op) r) (ha:PE X a ta) (hb:PE X b tb) (hm:behindInMarks op b=false):PT X (.Compare a [op] [b] pos) (ZJ (tOp r ta tb)):=by
 intro pins s σ H Q I h
 refine wpAny_isTrue_Compare1 (thn (ha pins s σ H _ I h) fun v s1 ⟨x,H1,I1,r1,q1⟩=>thn (hb pins s1 σ H1 _ I1 q1) fun u s2 ⟨y,H2,I2,r2,q2⟩=>
  thn (ho pins s2 σ H2 x y v u _ I2 r1 r2 q2) fun c s3 ⟨z,H3,I3,r3,k,e,q3⟩=>?_) hm
 subst e
 cases r3
 exact wpAny_truthy_bool ⟨H3,I3,q3⟩
noncomputable def ML (K:PySem.W.Frag) (x:V) (H:Hp) (k:Bool):Prop:=
 match x with
 | .non=>k=false
 | .bl b=>k=b
 | .int i=>k=(i != 0)
 | .str y=>y.length ≤ sizeLine∧k=((y.length:Int) != 0)
 | .byt y=>y.size ≤ sizeLine∧k=((y.size:Int) != 0)
 | .ref p=>(∃ xs,SqL K H p xs∧k = !xs.isEmpty)∨(∃ xs,SqT K H p xs∧k = !xs.isEmpty)∨∃ kvs,H p=some (.dK kvs)∧k = !kvs.isEmpty
 | _=>False
theorem zz {κ:Type} {kvs:List (κ × V)} {vs:List (κ × Value)} (r:KV kvs vs):(!vs.isEmpty) = !kvs.isEmpty:=by
 cases r <;> rfl
theorem Rr {xs:List V} {its:List Value} (r:Jd xs its):(!its.toArray.isEmpty) = !xs.isEmpty:=by
 cases r <;> simp
theorem Es:(sizeLine:Nat) < 2 ^ 63:=by rw [sizeLine_eq];decide
theorem KJ:xM X (fun x H Q=>∃ k,ML X.K x H k∧Q k H):=by
 intro pins s σ H x v Q I rx h
 obtain ⟨k,e,q⟩:=h
 have hl:=Es
 have hs:sizeLine=16777216:=sizeLine_eq
 cases x with
 | non=>
  cases rx
  have e':k=false:=e
  subst e'
  exact truthy_none ⟨H,I,q⟩
 | bl b=>
  cases rx
  have e':k=b:=e
  subst e'
  exact wpAny_truthy_bool ⟨H,I,q⟩
 | int i=>
  obtain ⟨t,rfl⟩:=rx
  have e':k=(i != 0):=e
  subst e'
  exact PySem.P.truthy_int ⟨H,I,q⟩
 | str y=>
  obtain ⟨t,rfl⟩:=rx
  obtain ⟨hy,e'⟩:y.length ≤ sizeLine∧k=((y.length:Int) != 0):=e
  subst e'
  exact PySem.P.truthy_str (by omega) ⟨H,I.tok _,q⟩
 | byt y=>
  obtain ⟨t,rfl⟩:=rx
  obtain ⟨hy,e'⟩:y.size ≤ sizeLine∧k=((y.size:Int) != 0):=e
  subst e'
  exact PySem.W.truthy_bytes (by omega) ⟨H,I.tok _,q⟩
 | ref p=>
  cases rx
  have e':(∃ xs,SqL X.K H p xs∧k = !xs.isEmpty)∨(∃ xs,SqT X.K H p xs∧k = !xs.isEmpty)∨∃ kvs,H p=some (.dK kvs)∧k = !kvs.isEmpty:=e
  rcases e' with ⟨xs,hx,e'⟩ | ⟨xs,hx,e'⟩ | ⟨kvs,hx,e'⟩
  ·subst e'
   obtain ⟨its,r,pl,hz⟩:=I.list hx
   have hlen:=r.length
   exact wpAny_truthy_list pl.isList (by simp only [List.size_toArray];omega) ⟨H,I.tok _,by rw [Rr r];exact q⟩
  ·subst e'
   obtain ⟨its,r,pl,hz⟩:=I.tuple hx
   have hlen:=r.length
   exact truthy_tuple pl (by simp only [List.size_toArray];omega) ⟨H,I.tok _,by rw [Rr r];exact q⟩
  ·subst e'
   obtain ⟨hz,hS,vs,r,m⟩:kvs.length ≤ sizeLine∧(p == sysModules)=false∧∃ vs,KV kvs vs∧s.heap.DictOf (Te X.prog X.w) p vs:=I.hok p _ hx
   have hlen:kvs.length=vs.length:=Paired.length r
   exact wpAny_truthy_dict hS m (by omega) ⟨H,I.tok _,by rw [zz r];exact q⟩
 | _=>exact (show False from e).elim
theorem Tx (ha:PE X a ta) (he:∀ whole,isTrue a X.env whole=(do let v ← whole;standAt a.pos;holding [v] (truthy v))) :
  PT X a (fun σ H Q=>ta σ H fun x H'=>∃ k,ML X.K x H' k∧Q k H'):=by
 intro pins s σ H Q I h
 exact isTrue_plain (thn (ha pins s σ H _ I h) fun v s1 ⟨x,H1,I1,r1,q1⟩=>KJ pins s1 σ H1 x v Q I1 r1 q1) (he _)
theorem ld:OpR X (binaryOp .Add) (fun x y H Q=>∃ i j,x=.str i∧y=.str j∧i.length + j.length ≤ sizeLine∧Q (.str (i ++ j)) H):=by
 intro pins s σ H x y v u Q I rx ry h
 obtain ⟨i,j,rfl,rfl,hz,q⟩:=h
 obtain ⟨t,rfl⟩:=rx
 obtain ⟨t',rfl⟩:=ry
 exact add_str (fun t' tk=>⟨.str (i ++ j),H,I.tok _,⟨_,rfl⟩,q⟩) hz
theorem pq {x:V} {us:List Value} (r:Jd [x] us):∃ u,us=[u]∧Od x u:=by
 cases r with
 | cons r1 r2=>cases r2;exact ⟨_,rfl,r1⟩
theorem AI {x y:V} {us:List Value} (r:Jd [x,y] us):∃ u w',us=[u,w']∧Od x u∧Od y w':=by
 cases r with
 | cons r1 r2=>
  cases r2 with
  | cons r3 r4=>cases r4;exact ⟨_,_,rfl,r1,r3⟩
theorem FC (hc:X.calm=true):Ek X (.builtin "max") (fun xs H Q=>∃ i j,xs=[.int i,.int j]∧Q (.int (if j > i then j else i)) H):=by
 intro pins s σ H xs us Q I r h
 obtain ⟨i,j,rfl,q⟩:=h
 obtain ⟨u,w',rfl,⟨t,rfl⟩,⟨t',rfl⟩⟩:=AI r
 refine max_two_ints (I.ok.hd hc) fun h' tk k=>⟨_,H,I.kept k,?_,q⟩
 by_cases hj:j > i
 ·rw [if_pos hj,if_pos hj];exact ⟨_,rfl⟩
 ·rw [if_neg hj,if_neg hj];exact ⟨_,rfl⟩
theorem Jv:Ek X (.type "int") (fun xs H Q=>(∃ i,xs=[.int i]∧Q (.int i) H)∨∃ k,xs=[.bl k]∧Q (.int (if k then 1 else 0)) H):=by
 intro pins s σ H xs us Q I r h
 rcases h with ⟨i,rfl,q⟩ | ⟨k,rfl,q⟩
 ·obtain ⟨u,rfl,t,rfl⟩:=pq r
  exact call_int_int ⟨.int i,H,I,⟨_,rfl⟩,q⟩
 ·obtain ⟨u,rfl,r1⟩:=pq r
  cases r1
  exact call_int_bool ⟨.int (if k then 1 else 0),H,I.tok _,⟨_,rfl⟩,q⟩
theorem fg:Ek X (.type "str") (fun xs H Q=>∃ i,xs=[.int i]∧i.natAbs.log2 < 1920∧Q (.str (toString i)) H):=by
 intro pins s σ H xs us Q I r h
 obtain ⟨i,rfl,hz,q⟩:=h
 obtain ⟨u,rfl,t,rfl⟩:=pq r
 exact PySem.P.str_of_int hz ⟨.str _,H,I.tok _,⟨_,rfl⟩,q⟩
end
end L2
namespace L2
open PySem PySem.Spec PyProof.Rows
structure wI (h:Heap) (x dx C:Addr) (mA:Str→Option Value):Prop where
 obj:h.get? x=some (PySem.W.instObj C dx)
 ns:h.Ns1 dx mA
 ne:dx ≠ x
theorem fv {h:Heap} {dx:Addr} {mA:Str→Option Value} (n:h.Ns1 dx mA):∃ od,h.get? dx=some od∧∀ name,PySem.W.lookIn name od=some (mA name):=by
 obtain ⟨o,es,ep,ho,hd,hk,_,hm⟩:=n
 refine ⟨o,ho,fun name=>?_⟩
 have e:=hm name
 unfold nsFind findBy at e
 rw [← Array.find?_toList] at e
 unfold PySem.W.lookIn
 rw [hd]
 dsimp only
 split
 ·rename_i y q
  rw [q] at e
  exact congrArg some e
 ·rename_i q
  rw [q] at e
  have a:es.toList.any (·.refKey)=false:=by
   rw [List.any_eq_false]
   intro y hy
   obtain ⟨z,t,hkey⟩:=hk y (Array.mem_toList_iff.mp hy)
   simp [DictEntry.refKey,hkey]
  have a':¬ es.toList.any (·.refKey)=true:=by rw [a];exact Bool.false_ne_true
  rw [if_neg a']
  exact congrArg some e
theorem wI.look {h:Heap} {x dx C:Addr} {mA:Str→Option Value} (I:wI h x dx C mA):∃ od,PySem.W.InstAt h x (PySem.W.instObj C dx) C (some od)∧∀ name,PySem.W.lookIn name od=some (mA name):=
 let ⟨od,ho,hl⟩:=fv I.ns
 ⟨od,⟨I.obj,rfl,rfl,ho⟩,hl⟩
section
variable {prog:Program} {w:World} {A:Around} {E:Value→Shared→Prop} {s:Shared} {K:PySem.W.Frag} {x dx C f:Addr} {mA:Str→Option Value} {name:Str} {v:Value}
theorem EH {expr:Bool} {Q:Value→Shared→Prop} (X:K.In s.heap) (I:wI s.heap x dx C mA) (hg:PySem.W.plainGet K C name=true) (hh:PySem.W.hasDictIn K C=true)
  (ha:PySem.W.findIn K (.ref C) name=some none) (hv:mA name=some v) (hv':PySem.W.handedIn v=true) (h:Q v { s with toks:=s.toks + 1 }) :
  wpAny (model prog w) A (getAttr (.ref x) name expr) Q E s:=by
 obtain ⟨od,J,hl⟩:=I.look
 exact PySem.W.get_value X J (PySem.W.plainGet_of hg).1 (PySem.W.findObj_own hh ha rfl (by rw [hl,hv])) hv' h
theorem kE {pl:Sem Bool} {Q:Value × List Value→Shared→Prop} (X:K.In s.heap) (I:wI s.heap x dx C mA) (hg:PySem.W.plainGet K C name=true)
  (hf:PySem.W.findIn K (.ref C) name=some (some (.ref f))) (ht:PySem.W.isFn K (.ref f)=true) (hv:mA name=none) (h:Q (.ref f,[.ref x]) s) :
  wpAny (model prog w) A (getMethod (.ref x) name pl) Q E s:=by
 obtain ⟨od,J,hl⟩:=I.look
 exact PySem.W.method_fn X J (PySem.W.plainGet_of hg).1 (PySem.W.plainGet_of hg).2 hf (beq_iff_eq.mp ht) (by show (PySem.W.lookIn name od).map (·.isSome)=some false;rw [hl,hv];rfl) h
theorem lH {ns:List Str} {Q:Unit→Shared→Prop} (X:K.In s.heap) (I:wI s.heap x dx C mA)
  (hs:PySem.W.findIn K (.ref C) "__setattr__"=some (some (.builtin "object.__setattr__"))) (hp:PySem.W.plainOver K C=true) (ht:PySem.W.takerIn K C name=some none) (hh:PySem.W.hasDictIn K C=true)
  (hw:PySem.Within mA ns) (hsz:ns.length ≤ sizeLine)
  (h:∀ h',wI h' x dx C (fun y=>if y=name then some v else mA y)→Heap.SameBut dx s.heap h'→Q () { s with heap:=h',toks:=s.toks + 2 }) :
  wpAny (model prog w) A (setAttr (.ref x) name v) Q E s:=by
 obtain ⟨od,J,hl⟩:=I.look
 refine PySem.W.set_plain X J hs (PySem.W.osa_open (s:={ s with toks:=s.toks + 1 }) (r:=none) X J hp ht fun b=>?_)
 obtain ⟨cd,hc,hd'⟩:=PySem.W.any_some hh
 have hx:s.heap.get? x=some ⟨.ref C,some dx,.plain,#[]⟩:=I.obj
 refine wpAny_bind (wpAny_pure (wpAny_bind (wpAny_bind (wpAny_loadPart hx (wpAny_bind (PySem.W.Looks.here (s:={ s with toks:=s.toks + 1 }) (PySem.W.looks_clsIn X hc) ?_))))))
 rw [hd']
 refine wpAny_pure (a:=some dx) (wpAny_bind (wpAny_pure (wpAny_bind ?_)))
 refine wpAny_nsSet1 (s:={ s with toks:=s.toks + 1 }) I.ns fun h' hn2 hs2=>?_
 obtain ⟨oD,esD,epD,hoD,hdD,hcD⟩:=hn2.count (PySem.Within.cons name v hw)
 refine wpAny_bind (wpAny_lookBehind hoD (by rw [hdD];exact pastItsLine_dict (Nat.le_trans hcD (by rw [List.length_cons];omega))) ?_)
 exact wpAny_pure (h _ ⟨(hs2.2 _ (Ne.symm I.ne)).trans I.obj,hn2,I.ne⟩ hs2)
theorem pF {R:Result→Shared→Prop} {vs:List Value} {kw:List (Str × Value)} (X:K.In s.heap) (hm:PySem.W.makesIn K C=true)
  (hi:PySem.W.findIn K (.ref C) "__init__"=some (some (.ref f))) (hf:PySem.W.typeIn K (.ref f)=some (.type "function"))
  (h:codeAny (model prog w) (A.under (.builtin "type.__call__" ⟨.ref C :: vs,kw⟩)) (.call (.ref f) ⟨.ref (s.heap.objs.size + 1) :: vs,kw⟩) (PySem.W.InitBack (s.heap.objs.size + 1) R)
   { s with heap:=(s.heap.push PySem.W.emptyDict).push (PySem.W.instObj C s.heap.objs.size) }) :
  codeAny (model prog w) A (.call (.ref C) ⟨vs,kw⟩) R s:=by
 obtain ⟨hh,g,d,t,os⟩:=s
 exact PySem.W.make_core (PySem.W.makes_of X hm) (PySem.W.looks_findIn X hi) (fun self=>PySem.W.bind_fn X self hf) (.inl rfl) h
end
noncomputable def og (f:Str) (v:V):List (Str × V)→List (Str × V)
 | []=>[(f,v)]
 | (g,x) :: r=>if g=f then (g,v) :: r else (g,x) :: og f v r
theorem zl (f g:Str) (v:V):∀ fs:List (Str × V),(og f v fs).lookup g=if g=f then some v else fs.lookup g
 | []=>by
  show List.lookup g [(f,v)]=_
  by_cases h:g=f
  ·have hb:(g == f)=true:=beq_iff_eq.mpr h
   simp only [List.lookup,hb,if_pos h]
  ·have hb:(g == f)=false:=beq_eq_false_iff_ne.mpr h
   simp only [List.lookup,hb,if_neg h]
 | (k,x) :: r=>by
  have ih:=zl f g v r
  rw [show og f v ((k,x) :: r)=(if k=f then (k,v) :: r else (k,x) :: og f v r) from rfl]
  by_cases hk:k=f
  ·rw [if_pos hk]
   by_cases h:g=k
   ·have hb:(g == k)=true:=beq_iff_eq.mpr h
    simp only [List.lookup,hb,if_pos (h.trans hk)]
   ·have hb:(g == k)=false:=beq_eq_false_iff_ne.mpr h
    simp only [List.lookup,hb,if_neg (fun e:g=f=>h (e.trans hk.symm))]
  ·rw [if_neg hk]
   by_cases h:g=k
   ·have hb:(g == k)=true:=beq_iff_eq.mpr h
    simp only [List.lookup,hb,if_neg (fun e:g=f=>hk (h.symm.trans e))]
   ·have hb:(g == k)=false:=beq_eq_false_iff_ne.mpr h
    simp only [List.lookup,hb]
    exact ih
theorem Xj (f:Str) (v:V):∀ fs:List (Str × V),f ∈ (og f v fs).map (·.1)∧∀ g,g ∈ fs.map (·.1)→g ∈ (og f v fs).map (·.1)
 | []=>⟨by simp [og],fun g h=>by simp at h⟩
 | (k,x) :: r=>by
  obtain ⟨i1,i2⟩:=Xj f v r
  rw [show og f v ((k,x) :: r)=(if k=f then (k,v) :: r else (k,x) :: og f v r) from rfl]
  by_cases hk:k=f
  ·rw [if_pos hk]
   subst hk
   exact ⟨by simp,fun g h=>by simpa using h⟩
  ·rw [if_neg hk]
   refine ⟨?_,fun g h=>?_⟩
   ·rw [List.map_cons]
    exact List.mem_cons_of_mem _ i1
   ·rw [List.map_cons] at h ⊢
    rcases List.mem_cons.mp h with e | e
    ·exact List.mem_cons.mpr (.inl e)
    ·exact List.mem_cons_of_mem _ (i2 g e)
theorem ul (f:Str) (v:V):∀ fs:List (Str × V),(og f v fs).length ≤ fs.length + 1
 | []=>by simp [og]
 | (k,x) :: r=>by
  have ih:=ul f v r
  rw [show og f v ((k,x) :: r)=(if k=f then (k,v) :: r else (k,x) :: og f v r) from rfl]
  by_cases hk:k=f
  ·rw [if_pos hk,List.length_cons,List.length_cons];omega
  ·rw [if_neg hk,List.length_cons,List.length_cons];omega
theorem yr.some_of {v:V} {o:Option Value} (r:yr (some v) o):∃ u,o=some u∧Od v u:=by
 cases o with
 | none=>exact (show False from r).elim
 | some u=>exact ⟨u,rfl,r⟩
theorem yr.none_of {o:Option Value} (r:yr none o):o=none:=by
 cases o with
 | none=>rfl
 | some u=>exact (show False from r).elim
theorem VB {v:V} {u:Value} (r:Od v u):PySem.W.handedIn u=true:=by
 cases v with
 | non=>cases (show u=Value.none from r);rfl
 | bl b=>cases (show u=Value.bool b from r);rfl
 | int i=>obtain ⟨t,e⟩:=(show ∃ t,u=Value.int i t from r);cases e;rfl
 | str x=>obtain ⟨t,e⟩:=(show ∃ t,u=Value.str x t from r);cases e;rfl
 | byt b=>obtain ⟨t,e⟩:=(show ∃ t,u=Value.bytes b t from r);cases e;rfl
 | flt b=>obtain ⟨t,e⟩:=(show ∃ t,u=Value.float b t from r);cases e;rfl
 | ref a=>cases (show u=Value.ref a from r);rfl
 | ty n=>cases (show u=Value.type n from r);rfl
section
variable {P:Program} {w:World} {H H':Hp} {h h':Heap} {a C dx:Addr} {fs fs':List (Str × V)}
theorem Dl (hok:HOk P w H h) (e:H a=some (.ins C dx fs)):∃ mA,wI h a dx C mA∧(∀ f,yr (fs.lookup f) (mA f))∧PySem.Within mA (fs.map (·.1))∧fs.length ≤ 1000∧H dx=some (.own a):=by
 obtain ⟨d,z,ne,ob,mA,n,r,q⟩:=(show md P w H h a (.ins C dx fs) from hok a _ e)
 exact ⟨mA,⟨ob,n,ne⟩,r,q,z,d⟩
end
structure Cls (K:PySem.W.Frag) (C:Addr):Prop where
 pg:PySem.W.plainGet K C Str.empty=true
 hd:PySem.W.hasDictIn K C=true
 po:PySem.W.plainOver K C=true
 sa:PySem.W.findIn K (.ref C) "__setattr__"=some (some (.builtin "object.__setattr__"))
theorem Cls.get {K:PySem.W.Frag} {C:Addr} (c:Cls K C) (f:Str):PySem.W.plainGet K C f=true:=c.pg
noncomputable def Ib (K:PySem.W.Frag) (C:Addr) (f:Str):Prop:=PySem.W.findIn K (.ref C) f=some none
theorem Ib.taker {K:PySem.W.Frag} {C:Addr} {f:Str} (n:Ib K C f):PySem.W.takerIn K C f=some none:=by
 unfold PySem.W.takerIn
 rw [show PySem.W.findIn K (.ref C) f=some none from n]
 rfl
structure Con (K:PySem.W.Frag) (C:Addr) (f:Str) (v:V) (u:Value):Prop where
 at_:PySem.W.findIn K (.ref C) f=some (some u)
 rel:Od v u
 get:PySem.W.specialIn K u "__get__"=some none
 cp:PySem.W.copiedNames.contains f=false
structure Qr (K:PySem.W.Frag) (C:Addr) (m:Str) (f:Addr):Prop where
 at_:PySem.W.findIn K (.ref C) m=some (some (.ref f))
 fn:PySem.W.isFn K (.ref f)=true
 kp:PySem.W.keepIn K (.ref f)=true
section
variable {X:Cx} {pins:List (Addr × Obj)} {σ:St} {H:Hp} {s:Shared} {a C dx:Addr} {fs:List (Str × V)} {f:Str} {v:V} {A:Around} {E:Value→Shared→Prop}
theorem Gs {b:Bool} {Q:Value→Shared→Prop} (I:Inv X pins σ H s) (e:H a=some (.ins C dx fs)) (c:Cls X.K C) (n:Ib X.K C f) (l:fs.lookup f=some v)
  (h:∀ u s',Inv X pins σ H s'→Od v u→Q u s'):wpAny (model X.prog X.w) A (getAttr (.ref a) f b) Q E s:=by
 obtain ⟨mA,O,r,_,_,_⟩:=Dl I.hok e
 obtain ⟨u,hu,ru⟩:=yr.some_of (v:=v) (o:=mA f) (by rw [← l];exact r f)
 exact EH I.kIn O (c.get f) c.hd n hu (VB ru) (h u _ (I.tok _) ru)
theorem Xm {m:Str} {g:Addr} {pl:Sem Bool} {Q:Value × List Value→Shared→Prop} (I:Inv X pins σ H s) (e:H a=some (.ins C dx fs)) (c:Cls X.K C) (k:Qr X.K C m g) (l:fs.lookup m=none)
  (h:Q (.ref g,[.ref a]) s):wpAny (model X.prog X.w) A (getMethod (.ref a) m pl) Q E s:=by
 obtain ⟨mA,O,r,_,_,_⟩:=Dl I.hok e
 have hn:mA m=none:=yr.none_of (by rw [← l];exact r m)
 exact kE I.kIn O (c.get m) k.at_ k.fn hn h
theorem Er {y:V} {u:Value} {Q:Unit→Shared→Prop} (I:Inv X pins σ H s) (e:H a=some (.ins C dx fs)) (c:Cls X.K C) (n:Ib X.K C f) (hl:fs.length < 1000) (ry:Od y u)
  (h:∀ s',Inv X pins σ (upd H a (.ins C dx (og f y fs))) s'→Q () s'):wpAny (model X.prog X.w) A (setAttr (.ref a) f u) Q E s:=by
 obtain ⟨mA,O,r,wi,_,ho⟩:=Dl I.hok e
 have hz:(fs.map (·.1)).length ≤ sizeLine:=by rw [List.length_map,sizeLine_eq];omega
 refine lH I.kIn O c.sa c.po n.taker c.hd wi hz fun h' O' sb=>h _ ?_
 have hd:∃ o,h'.get? dx=some o:=let ⟨o,_,_,e',_⟩:=O'.ns;⟨o,e'⟩
 refine I.write (x:=a) (e:=dx) (by rw [e];exact True.intro) (.inr ho) (fun b q hb z=>(sb.2 b hb).trans z) hd ?_
 refine ⟨by rw [lb O.ne];exact ho,?_,O.ne,O'.obj,_,O'.ns,fun g=>?_,fun g hg=>?_⟩
 ·have:=ul f y fs;omega
 ·show yr ((og f y fs).lookup g) (if g=f then some u else mA g)
  rw [zl]
  by_cases q:g=f
  ·rw [if_pos q,if_pos q];exact ry
  ·rw [if_neg q,if_neg q];exact r g
 ·by_cases q:g=f
  ·rw [q];exact (Xj f y fs).1
  ·refine (Xj f y fs).2 g (wi g fun z=>hg ?_)
   show (if g=f then some u else mA g)=none
   rw [if_neg q];exact z
theorem Inv.made (I:Inv X pins σ H s):Inv X pins σ (upd (upd H s.heap.objs.size (.own (s.heap.objs.size + 1))) (s.heap.objs.size + 1) (.ins C s.heap.objs.size []))
  { s with heap:=(s.heap.push PySem.W.emptyDict).push (PySem.W.instObj C s.heap.objs.size) }:=by
 have e1:(s.heap.push PySem.W.emptyDict).get? s.heap.objs.size=some PySem.W.emptyDict:=Heap.get?_push_size s.heap rfl
 have e2:((s.heap.push PySem.W.emptyDict).push (PySem.W.instObj C s.heap.objs.size)).get? (s.heap.objs.size + 1)=some (PySem.W.instObj C s.heap.objs.size):=by
  have:=Heap.get?_push_size (s.heap.push PySem.W.emptyDict) (o:=PySem.W.instObj C s.heap.objs.size) rfl
  rwa [Heap.size_push] at this
 have e3:(s.heap.push PySem.W.emptyDict).Ns s.heap.objs.size (fun _=>none):=⟨PySem.W.emptyDict,#[],_,e1,rfl,(fun e he=>absurd he (by simp)),fun _=>rfl⟩
 have I1:=I.laid (a:=s.heap.objs.size) (o:=.own (s.heap.objs.size + 1)) (h':=s.heap.push PySem.W.emptyDict) (t':=s.toks) (fun b u q=>Heap.get?_push_of_some _ q) (Nat.le_refl _) ⟨_,e1⟩
 refine I1.laid (a:=s.heap.objs.size + 1) (o:=.ins C s.heap.objs.size []) (t':=s.toks) (fun b u q=>Heap.get?_push_of_some _ q) (Nat.le_of_eq (Heap.size_push _ _)) ?_
 have ne:s.heap.objs.size ≠ s.heap.objs.size + 1:=Nat.ne_of_lt (Nat.lt_succ_self _)
 refine ⟨by rw [lb ne,db],Nat.zero_le _,ne,e2,fun _=>none,(Heap.Ns1.of_empty e3).at fun o q=>Heap.get?_push_of_some _ q,fun _=>True.intro,fun y hy=>absurd rfl hy⟩
theorem VH {prog:Program} {w:World} {env:Env} {e:Expr} {f:Str} {pos:Pos} {s:Shared} {Q:Value→Shared→Prop} (hb:attributeBase e f env (eval e env)=eval e env)
  (h:wpAny (model prog w) A (eval e env) (fun o s₁=>wpAny (model prog w) A (getAttr o f true) Q E s₁) E s):wpAny (model prog w) A (eval (.Attribute e f pos) env) Q E s:=
 Attribute_any_ h (by rw [arm_eval_Attribute,hb])
end
noncomputable def pL (K:PySem.W.Frag) (ta:TE) (f:Str):TE:=fun σ H Q=>ta σ H fun x H1=>∃ a C dx fs v,x=.ref a∧H1 a=some (.ins C dx fs)∧Cls K C∧Ib K C f∧fs.lookup f=some v∧Q v H1
noncomputable def NL (K:PySem.W.Frag) (ta tv:TE) (f:Str):TS:=fun D σ H=>tv σ H fun y H1=>ta σ H1 fun x H2=>∃ a C dx fs,x=.ref a∧H2 a=some (.ins C dx fs)∧Cls K C∧Ib K C f∧fs.length < 1000 ∧
 D.nx σ (upd H2 a (.ins C dx (og f y fs)))
noncomputable def SL (X:Cx) (op:Operator) (rd:V→V→Hp→VK→Prop):Prop:=
 ∀ (pins:List (Addr × Obj)) (s:Shared) (σ:St) (H:Hp) (x y:V) (u v:Value) (Q:VK),Inv X pins σ H s→Od x u→Od y v→rd x y H Q→wpAny (model X.prog X.w) X.A (inplaceOp op u v) (EP X pins σ Q) X.xe s
noncomputable def mB (K:PySem.W.Frag) (ta tv:TE) (rd:V→V→Hp→VK→Prop) (f:Str):TS:=fun D σ H=>ta σ H fun x H1=>∃ a C dx fs v,x=.ref a∧H1 a=some (.ins C dx fs)∧Cls K C∧Ib K C f∧fs.lookup f=some v ∧
 tv σ H1 fun y H2=>rd v y H2 fun z H3=>∃ dx' fs',H3 a=some (.ins C dx' fs')∧fs'.length < 1000∧D.nx σ (upd H3 a (.ins C dx' (og f z fs')))
section
variable {X:Cx} {o e value:Expr} {f:Str} {pos pos' tpos:Pos} {ta tv:TE}
theorem Ac (he:PE X e ta) (hb:attributeBase e f X.env (eval e X.env)=eval e X.env):PE X (.Attribute e f pos) (pL X.K ta f):=by
 intro pins s σ H Q I h
 refine VH hb (thn (he pins s σ H _ I h) fun u s1 hZ1=>?_)
 obtain ⟨x,H1,I1,rx,a,C,dx,fs,v,ex,ea,c,n,l,q⟩:=hZ1
 subst ex
 obtain rfl:u=Value.ref a:=rx
 exact Gs I1 ea c n l fun u' s2 I2 ru=>⟨v,H1,I2,ru,q⟩
theorem Pe (ha:PE X o ta) (hv:PE X value tv) (hs:swapsWith value (some (.Attribute o f pos')) pos.line X.env=pure false):PS X (.Assign [.Attribute o f pos'] value pos) (NL X.K ta tv f):=by
 intro pins s σ H D I h
 refine plainObj_wpAny_Assign_Attribute (thn (hv pins s σ H _ I h) fun u s1 ⟨y,H1,I1,ry,q⟩=>thn (ha pins s1 σ H1 _ I1 q) fun ov s2 hZ1=>?_) hs
 obtain ⟨x,H2,I2,rx,a,C,dx,fs,ex,ea,c,n,l,q2⟩:=hZ1
 subst ex
 obtain rfl:ov=Value.ref a:=rx
 exact Er I2 ea c n l ry fun s3 I3=>⟨σ,_,I3,q2⟩
theorem su {op:Operator} {rd:V→V→Hp→VK→Prop} (ha:PE X o ta) (hv:PE X value tv) (hop:SL X op rd):PS X (.AugAssign (.Attribute o f tpos) op value pos) (mB X.K ta tv rd f):=by
 intro pins s σ H D I h
 refine wpAny_AugAssign_AttributeAny (thn (ha pins s σ H _ I h) fun ov s1 hZ1=>?_)
 obtain ⟨x,H1,I1,rx,a,C,dx,fs,v,ex,ea,c,n,l,q⟩:=hZ1
 subst ex
 obtain rfl:ov=Value.ref a:=rx
 refine Gs I1 ea c n l fun u s2 I2 ru=>thn (hv pins s2 σ H1 _ I2 q) fun w3 s3 ⟨y,H2,I3,ry,q3⟩=>thn (hop pins s3 σ H2 v y u w3 _ I3 ru ry q3) fun w4 s4 hZ1=>?_
 obtain ⟨z,H3,I4,rz,dx',fs',ea',l',q4⟩:=hZ1
 exact Er I4 ea' c n l' rz fun s5 I5=>⟨σ,_,I5,q4⟩
noncomputable def oM:V→V→Hp→VK→Prop:=fun x y H Q=>∃ i j,x=.int i∧y=.int j∧Q (.int (i + j)) H
theorem UG:SL X .Add oM:=by
 rintro pins s σ H x y u v Q I rx ry ⟨i,j,rfl,rfl,q⟩
 obtain ⟨t,rfl⟩:=(show ∃ t,u=Value.int i t from rx)
 obtain ⟨t',rfl⟩:=(show ∃ t',v=Value.int j t' from ry)
 exact PyProof.Rows.iadd_int ⟨.int (i + j),H,I.tok _,⟨_,rfl⟩,q⟩
end
section
variable {X:Cx} {pins:List (Addr × Obj)} {σ:St} {H:Hp} {s:Shared} {A:Around} {E:Value→Shared→Prop} {Q:Value→Shared→Prop} {c:Value} {b:Bool}
inductive Ky (K:PySem.W.Frag) (H:Hp):V→Value→Prop where
 | non:Ky K H .non (.type "NoneType")
 | bl (x:Bool):Ky K H (.bl x) (.type "bool")
 | int (i:Int):Ky K H (.int i) (.type "int")
 | str (x:Str):Ky K H (.str x) (.type "str")
 | flt (x:UInt64):Ky K H (.flt x) (.type "float")
 | lst {a:Addr} {xs:List V} (e:H a=some (.lst xs)):Ky K H (.ref a) (.type "list")
 | frz {a:Addr} {o:Obj} {xs:List V} (e:H a=some (.frz o (.lst xs))):Ky K H (.ref a) (.type "list")
 | tup {a:Addr} {xs:List V} (e:H a=some (.tup xs)):Ky K H (.ref a) (.type "tuple")
 | dK {a:Addr} {kvs:List (Key × V)} (e:H a=some (.dK kvs)):Ky K H (.ref a) (.type "dict")
 | dT {a:Addr} {kvs:List (List Key × V)} (e:H a=some (.dT kvs)):Ky K H (.ref a) (.type "dict")
 | ins {a C dx:Addr} {fs:List (Str × V)} (e:H a=some (.ins C dx fs)) (cl:Cls K C) (ha:PySem.W.findIn K (.ref C) "__class__"=some (some (.builtin "object.__class__")))
   (hn:PySem.W.specialIn K (.builtin "object.__class__") "__get__"=some (some (.builtin "getset_descriptor.__get__"))) (htk:PySem.W.takesIn K (.builtin "object.__class__")=some true)
   (hm:PySem.W.mroIn K C (.type "object")=some true):Ky K H (.ref a) (.ref C)
theorem ZC {x:V} {u t:Value} (I:Inv X pins σ H s) (rx:Od x u) (ty:Ky X.K H x t) (e:PySem.W.kitOne X.K t c=some b) (h:∀ tk,Q (.bool b) { s with toks:=tk }) :
  wpAny (model X.prog X.w) A (call (.builtin "isinstance") [u,c]) Q E s:=by
 cases ty with
 | non=>cases (show u=Value.none from rx);exact PySem.W.kia_one PySem.W.kitx_none I.kIn True.intro e (fun z=>nomatch z) h
 | bl y=>cases (show u=Value.bool y from rx);exact PySem.W.kia_one PySem.W.kitx_bool I.kIn True.intro e (fun z=>nomatch z) h
 | int i=>obtain ⟨t,q⟩:=(show ∃ t,u=Value.int i t from rx);cases q;exact PySem.W.kia_one PySem.W.kitx_int I.kIn True.intro e (fun z=>nomatch z) h
 | str y=>obtain ⟨t,q⟩:=(show ∃ t,u=Value.str y t from rx);cases q;exact PySem.W.kia_one PySem.W.kitx_str I.kIn True.intro e (fun z=>nomatch z) h
 | flt y=>obtain ⟨t,q⟩:=(show ∃ t,u=Value.float y t from rx);cases q;exact PySem.W.kia_one PySem.W.kitx_float I.kIn True.intro e (fun z=>nomatch z) h
 | @lst a xs ea=>
  cases (show u=Value.ref a from rx)
  obtain ⟨_,_,n,_,h1⟩:=(show md X.prog X.w H s.heap a (.lst xs) from I.hok a _ ea)
  exact PySem.W.kia_one PySem.W.kitx_list I.kIn ⟨_,h1,rfl⟩ e (fun z=>nomatch z) h
 | @frz a ob xs ea=>
  cases (show u=Value.ref a from rx)
  obtain ⟨_,_,_,n,_,h1⟩:=(show md X.prog X.w H s.heap a (.frz ob (.lst xs)) from I.hok a _ ea)
  exact PySem.W.kia_one PySem.W.kitx_list I.kIn ⟨_,h1,rfl⟩ e (fun z=>nomatch z) h
 | @tup a xs ea=>
  cases (show u=Value.ref a from rx)
  obtain ⟨_,_,_,p⟩:=(show md X.prog X.w H s.heap a (.tup xs) from I.hok a _ ea)
  obtain ⟨o,h1,h2,_⟩:=p
  exact PySem.W.kia_one PySem.W.kitx_tuple I.kIn ⟨o,h1,h2⟩ e (fun z=>nomatch z) h
 | @dK a kvs ea=>
  cases (show u=Value.ref a from rx)
  obtain ⟨_,_,vs,_,p⟩:=(show md X.prog X.w H s.heap a (.dK kvs) from I.hok a _ ea)
  obtain ⟨o,es,ep,h1,h2,_⟩:=p
  exact PySem.W.kia_one PySem.W.kitx_dict I.kIn ⟨o,h1,h2.1⟩ e (fun z=>nomatch z) h
 | @dT a kvs ea=>
  cases (show u=Value.ref a from rx)
  obtain ⟨_,_,xs,_,o,es,ep,h1,h2,_⟩:=(show md X.prog X.w H s.heap a (.dT kvs) from I.hok a _ ea)
  exact PySem.W.kia_one PySem.W.kitx_dict I.kIn ⟨o,h1,h2.1⟩ e (fun z=>nomatch z) h
 | @ins a C dx fs ea cl ha hn htk hm=>
  cases (show u=Value.ref a from rx)
  obtain ⟨mA,O,_⟩:=Dl I.hok ea
  obtain ⟨od,J,_⟩:=O.look
  exact PySem.W.kia_one (PySem.W.kitx_own (cl.get _) cl.hd ha hn htk hm) I.kIn J e (fun z=>nomatch z) h
end
end L2
namespace L2
open PySem PySem.Spec PyProof.Rows
structure Yi (k:Nat) (A:Around):Prop where
 hd:A.handled=none
 dp:A.depth + 3 * k + 5 < recursionLimit
 un:A.units + 16 * k + 200 < cLine
theorem Yi.mono {j k:Nat} {A:Around} (r:Yi k A) (h:j ≤ k):Yi j A:=⟨r.hd,by have:=r.dp;omega,by have:=r.un;omega⟩
theorem Yi.deeper {k:Nat} {A:Around} (r:Yi (k + 1) A) (env:Env):Yi k (A.deeper env):=
 ⟨r.hd,by have:=r.dp;show A.depth + 1 + 3 * k + 5 < _;omega,by have:=r.un;show A.units + 3 + 16 * k + 200 < _;omega⟩
theorem Yi.in1 {k:Nat} {A:Around} (r:Yi (k + 1) A):Yi k A.in1:=
 ⟨r.hd,by have:=r.dp;show A.depth + 3 * k + 5 < _;omega,by have:=r.un;show A.units + 1 + 16 * k + 200 < _;omega⟩
theorem Ez {A:Around} {C:Addr} {us:List Value} {kw:List (Str × Value)}:(A.under (.builtin "type.__call__" ⟨.ref C :: us,kw⟩)).depth=A.depth + 1:=by
 first | rfl | simp [Around.under,Code.weight,Code.isCreation,Code.isGuard,Code.isCaller,Code.frames,Code.isFrame,guardIds]
theorem jz {A:Around} {C:Addr} {us:List Value} {kw:List (Str × Value)}:(A.under (.builtin "type.__call__" ⟨.ref C :: us,kw⟩)).units=A.units + 1:=by
 first | rfl | simp [Around.under,Code.cUnits,Code.frames,Code.isFrame]
theorem Yi.make {k:Nat} {A:Around} (r:Yi (k + 1) A) (C:Addr) (us:List Value) (kw:List (Str × Value)):Yi k (A.under (.builtin "type.__call__" ⟨.ref C :: us,kw⟩)):=
 ⟨r.hd,by have:=r.dp;rw [Ez];omega,by have:=r.un;rw [jz];omega⟩
theorem Yi.depth {k:Nat} {A:Around} (r:Yi k A):A.depth < recursionLimit:=by have:=r.dp;omega
theorem Yi.units {k:Nat} {A:Around} (r:Yi k A):A.units + 64 < cLine:=by have:=r.un;omega
noncomputable def iL:TA:=fun _ H Q=>Q [] H
noncomputable def MK (ta:TE) (tr:TA):TA:=fun σ H Q=>ta σ H fun x H1=>tr σ H1 fun xs H2=>Q (x :: xs) H2
section
variable {X:Cx} {e:Expr} {es:List Expr} {te:TE} {t:TA} {pos:Pos}
theorem gb:PA X [] iL:=fun _ _ _ _ H Q I h=>Calls.spliced_nil ⟨[],H,I,.nil,h⟩
theorem cb (ha:PE X e te) (hr:PA X es t) (hs:starEach (e :: es) X.env=(false,eval e X.env) :: starEach es X.env:=by rfl):PA X (e :: es) (MK te t):=by
 intro pos pins s σ H Q I h
 rw [hs]
 show wpAny _ _ (spliced ((false,eval e X.env) :: backTo pos (starEach es X.env))) _ _ s
 refine Calls.spliced_cons (thn (ha pins s σ H _ I h) fun u s1 hZ1=>?_)
 obtain ⟨x,H1,I1,r1,q1⟩:=hZ1
 exact thn (hr pos pins s1 σ H1 _ I1 q1) fun us s2 ⟨xs,H2,I2,r2,q2⟩=>⟨x :: xs,H2,I2,.cons r1 r2,q2⟩
noncomputable def XL (t:TA):TE:=fun σ H Q=>t σ H fun xs H1=>xs.length ≤ sizeLine∧∀ p,H1 p=none→Q (.ref p) (upd H1 p (.tup xs))
noncomputable def pM (t:TA):TE:=fun σ H Q=>t σ H fun xs H1=>xs.length ≤ sizeLine∧∀ p,H1 p=none→Q (.ref p) (upd H1 p (.lst xs))
theorem Kv {x1} (h:PA X es t):PE X (.Tuple es x1 pos) (XL t):=by
 intro pins s σ H Q I hq
 refine wpAny_Tuple_spliced (thn (h pos pins s σ H _ I hq) fun us s1 ⟨xs,H1,I1,r,z,q⟩=>⟨by rw [← r.length];exact z,?_⟩)
 have hf:H1 s1.heap.objs.size=none:=I1.hok.fresh (Nat.le_refl _)
 refine ⟨.ref s1.heap.objs.size,upd H1 s1.heap.objs.size (.tup xs),I1.laid (t':=s1.toks) (fun b u e=>Heap.get?_push_of_some _ e) (Nat.le_refl _) ?_,rfl,q _ hf⟩
 exact ⟨z,us,r,⟨_,Heap.get?_push_size _ rfl,rfl,_,rfl⟩⟩
theorem ve (h:PA X es t):PE X (.List es pos) (pM t):=by
 intro pins s σ H Q I hq
 refine wpAny_List_spliced (thn (h pos pins s σ H _ I hq) fun us s1 ⟨xs,H1,I1,r,z,q⟩=>⟨by rw [← r.length];exact z,?_⟩)
 have hf:H1 s1.heap.objs.size=none:=I1.hok.fresh (Nat.le_refl _)
 refine ⟨.ref s1.heap.objs.size,upd H1 s1.heap.objs.size (.lst xs),I1.laid (t':=s1.toks) (fun b u e=>Heap.get?_push_of_some _ e) (Nat.le_refl _) ?_,rfl,q _ hf⟩
 exact ⟨z,us,0,r,Heap.get?_push_size _ rfl⟩
end
noncomputable abbrev Sp:=List V→Hp→VK→XK→Prop
noncomputable abbrev CXT:=List Env→Hp→Shared→XK→Value→Shared→Prop
structure FA (P:Program) (w:World) (K:PySem.W.Frag) (mg:Str→Option Value) (base:Heap) (A:Around) (outer:List Env) (s:Shared) (H:Hp):Prop where
 frames:A.frames=some outer
 mod:Mod K mg base
 bs:∀ b o,base.get? b=some o→s.heap.get? b=some o∧H b=none
 bsz:base.objs.size ≤ s.heap.objs.size
 funs:s.heap.FunFrames base outer
 frf:∀ b ∈ frs outer,H b=none
 hok:HOk P w H s.heap
 bare:AllBare s.gens
noncomputable def CE (outer:List Env) (P:Program) (w:World) (H:Hp) (s:Shared) (Q:VK) (u:Value) (s':Shared):Prop:=
 ∃ v H',s'.os=s.os∧AllBare s'.gens∧Un (frs outer) [] H H' s.heap s'.heap∧HOk P w H' s'.heap∧Od v u∧Q v H'
noncomputable def CR (CX:CXT) (outer:List Env) (P:Program) (w:World) (H:Hp) (s:Shared) (Q:VK) (E:XK) (r:Result) (s':Shared):Prop:=
 match r with
 | .ok (.ret u)=>CE outer P w H s Q u s'
 | .ok _=>False
 | .error e=>CX outer H s E e s'
structure Jb (P:Program) (w:World) (K:PySem.W.Frag) (mg:Str→Option Value) (base:Heap) (CX:CXT) (k:Nat) (f:Addr) (fd:FuncData) (ps:List Str) (sp:Sp):Prop where
 len:∀ vs H Q E,sp vs H Q E→vs.length=ps.length
 run:∀ (A:Around) (outer:List Env) (s:Shared) (H:Hp) (args:Args) (us:List Value) (vs:List V) (Q:VK) (E:XK),Yi k A→FA P w K mg base A outer s H→BindsTo s fd args (ps.zip us)→Jd vs us→sp vs H Q E →
  codeAny (model P w) A (.call (.ref f) args) (CR CX outer P w H s Q E) s
theorem Jb.mono {P:Program} {w:World} {K:PySem.W.Frag} {mg:Str→Option Value} {base:Heap} {CX:CXT} {j k:Nat} {f:Addr} {fd:FuncData} {ps:List Str} {sp:Sp} (F:Jb P w K mg base CX j f fd ps sp) (h:j ≤ k) :
  Jb P w K mg base CX k f fd ps sp:=⟨F.len,fun A outer s H args us vs Q E hr=>F.run A outer s H args us vs Q E (hr.mono h)⟩
theorem Jb.imp {P:Program} {w:World} {K:PySem.W.Frag} {mg:Str→Option Value} {base:Heap} {CX:CXT} {k:Nat} {f:Addr} {fd:FuncData} {ps:List Str} {sp sp':Sp} (F:Jb P w K mg base CX k f fd ps sp)
  (h:∀ vs H Q E,sp' vs H Q E→sp vs H Q E):Jb P w K mg base CX k f fd ps sp':=
 ⟨fun vs H Q E q=>F.len vs H Q E (h _ _ _ _ q),fun A outer s H args us vs Q E hr he hb hv hs=>F.run A outer s H args us vs Q E hr he hb hv (h _ _ _ _ hs)⟩
theorem FA.make {P:Program} {w:World} {K:PySem.W.Frag} {mg:Str→Option Value} {base:Heap} {A:Around} {outer:List Env} {s:Shared} {H:Hp} (e:FA P w K mg base A outer s H) (C:Addr) (us:List Value) (kw:List (Str × Value)) :
  FA P w K mg base (A.under (.builtin "type.__call__" ⟨.ref C :: us,kw⟩)) outer s H:=⟨by first | exact e.frames | (simpa [Around.under,Code.envs,Code.isFrame,pushEnvs] using e.frames),e.mod,e.bs,e.bsz,e.funs,e.frf,e.hok,e.bare⟩
theorem FA.in1 {P:Program} {w:World} {K:PySem.W.Frag} {mg:Str→Option Value} {base:Heap} {A:Around} {outer:List Env} {s:Shared} {H:Hp} (e:FA P w K mg base A outer s H) :
  FA P w K mg base A.in1 outer s H:=⟨e.frames,e.mod,e.bs,e.bsz,e.funs,e.frf,e.hok,e.bare⟩
section
variable {X:Cx} {pins:List (Addr × Obj)} {σ:St} {H:Hp} {s s':Shared}
theorem Inv.env0 (I:Inv X pins σ H s):FA X.prog X.w X.K X.mg X.base X.A X.stack s H:=
 ⟨I.ok.frames,I.ok.mod,I.bs,Nat.le_trans I.ok.bsz I.sz,I.stack,I.stkFree,I.hok,I.bare⟩
theorem Inv.after {Q:VK} {u:Value} (I:Inv X pins σ H s) (h:CE X.stack X.prog X.w H s Q u s'):EP X pins σ Q u s':=by
 obtain ⟨v,H',os,bare,un,hok,r,q⟩:=h
 obtain ⟨hh,g,d,t,os'⟩:=s'
 obtain rfl:os'=s.os:=os
 exact ⟨v,H',I.call (h':=hh) (g':=g) (d':=d) (t':=t) (ch:=[]) un hok bare (fun b z=>absurd z (by simp)),r,q⟩
end
noncomputable def HI (sp:Sp) (dvs:List V) (E:XK) (t:TA):TE:=fun σ H Q=>t σ H fun vs H1=>sp (vs ++ dvs) H1 Q E
noncomputable def dH (C:Addr) (m:Str) (sp:Sp) (dvs:List V) (E:XK) (ta:TE) (t:TA):TE:=fun σ H Q=>ta σ H fun x H1=>∃ a dx fs,x=.ref a∧H1 a=some (.ins C dx fs)∧fs.lookup m=none ∧
 t σ H1 fun vs H2=>sp (x :: (vs ++ dvs)) H2 Q E
noncomputable def IJ (C:Addr) (sp:Sp) (dvs:List V) (E:XK) (t:TA):TE:=fun σ H Q=>t σ H fun vs H1=>∀ x dx,H1 x=none→H1 dx=none→dx ≠ x →
 sp (.ref x :: (vs ++ dvs)) (upd (upd H1 dx (.own x)) x (.ins C dx [])) (fun v H2=>v=.non∧Q (.ref x) H2) E
noncomputable def Yb (K:PySem.W.Frag) (fd:FuncData) (ps:List Str) (ds:List Value):Prop:=
 ∀ (s:Shared) (us:List Value),K.In s.heap→(us ++ ds).length=ps.length→BindsTo s fd ⟨us,[]⟩ (ps.zip (us ++ ds))
theorem Yb.all {K:PySem.W.Frag} {fd:FuncData} {ps:List Str} (h:∀ us:List Value,us.length=ps.length→bindArgs fd ⟨us,[]⟩=pure (ps.zip us)):Yb K fd ps []:=fun s us _ hl=>by
 rw [List.append_nil] at hl ⊢
 exact .of_eq (h us hl)
noncomputable def dl (CX:CXT) (X:Cx) (E:XK):Prop:=∀ (pins:List (Addr × Obj)) (σ:St) (H:Hp) (s:Shared) (e:Value) (s':Shared),Inv X pins σ H s→CX X.stack H s E e s'→X.xe e s'
section
variable {X:Cx} {CX:CXT} {k:Nat} {f C:Addr} {fd:FuncData} {ps:List Str} {sp:Sp} {dvs:List V} {ds:List Value} {E:XK} {x m:Str} {p pos apos:Pos} {e o:Expr} {es:List Expr} {ta:TE} {t:TA}
theorem Uu {pins:List (Addr × Obj)} {σ:St} {H:Hp} {s:Shared} {Q:VK} {us:List Value} {vs:List V} (F:Jb X.prog X.w X.K X.mg X.base CX k f fd ps sp) (hr:Yi k X.A) (hb:Yb X.K fd ps ds) (hd:Jd dvs ds) (hx:dl CX X E)
  (I:Inv X pins σ H s) (r:Jd vs us) (h:sp (vs ++ dvs) H Q E):wpAny (model X.prog X.w) X.A (call (.ref f) us) (EP X pins σ Q) X.xe s:=by
 have r2:Jd (vs ++ dvs) (us ++ ds):=r.append hd
 have hl:(us ++ ds).length=ps.length:=by rw [← r2.length];exact F.len _ _ _ _ h
 refine wpAny_call (codeAny_mono (F.run X.A X.stack s H ⟨us,[]⟩ (us ++ ds) (vs ++ dvs) Q E hr I.env0 (hb s us I.kIn hl) r2 h) fun r s' hq=>?_)
 cases r with
 | error e=>exact hx pins σ H s e s' I hq
 | ok fl=>
  cases fl with
  | ret u=>exact I.after hq
  | next=>exact False.elim hq
  | brk=>exact False.elim hq
  | cont=>exact False.elim hq
theorem xb (F:Jb X.prog X.w X.K X.mg X.base CX k f fd ps sp) (hr:Yi k X.A) (hg:Gl X x) (hm:X.mg x=some (.ref f)) (hk:PySem.W.keepIn X.K (.ref f)=true) (hb:Yb X.K fd ps ds) (hd:Jd dvs ds) (hx:dl CX X E)
  (ha:PA X (e :: es) t) (hdb:(x == ("__debug__" : Str))=false:=by decide) (he:starEach (e :: es) X.env=(false,eval e X.env) :: starEach es X.env:=by rfl) (hpl:(backTo pos (starEach es X.env)).any (·.1)=false:=by rfl) :
  PE X (.Call (.Name x p) (e :: es) [] pos) (HI sp dvs E t):=by
 intro pins s σ H Q I h
 refine wpAny_Call_Name_kw (mn I hg hm ?_ hdb)
 refine PySem.W.callWith_K (h₀:=X.base) I.ok.mod.kin hk (thn (ha pos pins s σ H _ I h) fun us s1 ⟨vs,H1,I1,r,q⟩=>⟨I1.kIn,?_⟩) he hpl
 exact Uu F hr hb hd hx I1 r q
theorem Tc {pl:Sem Bool} (he:PE X o ta) (c:Cls X.K C) (hm:Qr X.K C m f) (F:Jb X.prog X.w X.K X.mg X.base CX k f fd ps sp) (hr:Yi k X.A) (hb:Yb X.K fd ps ds) (hd:Jd dvs ds) (hx:dl CX X E) (ha:PA X (e :: es) t)
  (hst:starEach (e :: es) X.env=(false,eval e X.env) :: starEach es X.env:=by rfl) (hpl:(backTo pos (starEach es X.env)).any (·.1)=false:=by rfl)
  (ht:eval (.Call (.Attribute o m apos) (e :: es) [] pos) X.env=(do
   let ov ← eval o X.env
   standAt apos.atName
   let (f,first) ← holding [ov] (getMethod ov m pl)
   callWith pos f first (backTo pos (starEach (e :: es) X.env)) (backToKw pos (keywordEach [] X.env))):=by rfl) :
  PE X (.Call (.Attribute o m apos) (e :: es) [] pos) (dH C m sp dvs E ta t):=by
 intro pins s σ H Q I h
 refine PySem.W.methodCall_KW (pl:=pl) (thn (he pins s σ H _ I h) fun u s1 hZ1=>?_) ht
 obtain ⟨x,H1,I1,rx,a,dx,fs,ex,ea,l,q⟩:=hZ1
 subst ex
 obtain rfl:u=Value.ref a:=rx
 refine Xm I1 ea c hm l ?_
 refine PySem.W.callWith_K (first:=[.ref a]) (h₀:=X.base) I.ok.mod.kin hm.kp (thn (ha pos pins s1 σ H1 _ I1 q) fun us s2 ⟨vs,H2,I2,r,q2⟩=>⟨I2.kIn,?_⟩) hst hpl
 exact Uu (us:=.ref a :: us) (vs:=.ref a :: vs) F hr hb hd hx I2 (.cons rfl r) q2
theorem Wd {pl:Sem Bool} (he:PE X o ta) (c:Cls X.K C) (hm:Qr X.K C m f) (F:Jb X.prog X.w X.K X.mg X.base CX k f fd ps sp) (hr:Yi k X.A) (hb:Yb X.K fd ps ds) (hd:Jd dvs ds) (hx:dl CX X E)
  (ht:eval (.Call (.Attribute o m apos) [] [] pos) X.env=(do
   let ov ← eval o X.env
   standAt apos.atName
   let (f,first) ← holding [ov] (getMethod ov m pl)
   callWith pos f first (backTo pos (starEach [] X.env)) (backToKw pos (keywordEach [] X.env))):=by rfl) :
  PE X (.Call (.Attribute o m apos) [] [] pos) (dH C m sp dvs E ta iL):=by
 intro pins s σ H Q I h
 refine PySem.W.methodCall_KW (pl:=pl) (thn (he pins s σ H _ I h) fun u s1 hZ1=>?_) ht
 obtain ⟨x,H1,I1,rx,a,dx,fs,ex,ea,l,q⟩:=hZ1
 subst ex
 obtain rfl:u=Value.ref a:=rx
 refine Xm I1 ea c hm l ?_
 exact PySem.W.callWith_K0 (first:=[.ref a]) I1.kIn hm.kp (Uu (us:=[.ref a]) (vs:=[.ref a]) F hr hb hd hx I1 (.cons rfl .nil) q)
structure Mk (K:PySem.W.Frag) (C f:Addr):Prop where
 makes:PySem.W.makesIn K C=true
 init:PySem.W.findIn K (.ref C) "__init__"=some (some (.ref f))
 fn:PySem.W.isFn K (.ref f)=true
 kp:PySem.W.keepIn K (.ref C)=true
theorem VE {pins:List (Addr × Obj)} {σ:St} {H:Hp} {s:Shared} {Q:VK} {us:List Value} {vs:List V} (M:Mk X.K C f) (F:Jb X.prog X.w X.K X.mg X.base CX k f fd ps sp) (hr:Yi (k + 1) X.A) (hb:Yb X.K fd ps ds) (hd:Jd dvs ds)
  (hx:dl CX X E) (I:Inv X pins σ H s) (r:Jd vs us)
  (h:∀ x dx,H x=none→H dx=none→dx ≠ x→sp (.ref x :: (vs ++ dvs)) (upd (upd H dx (.own x)) x (.ins C dx [])) (fun v H2=>v=.non∧Q (.ref x) H2) E) :
  wpAny (model X.prog X.w) X.A (call (.ref C) us) (EP X pins σ Q) X.xe s:=by
 have hq:=h (s.heap.objs.size + 1) s.heap.objs.size (I.hok.fresh (Nat.le_succ _)) (I.hok.fresh (Nat.le_refl _)) (Nat.ne_of_lt (Nat.lt_succ_self _))
 have I2:=Inv.made (C:=C) I
 have r2:Jd (V.ref (s.heap.objs.size + 1) :: (vs ++ dvs)) (Value.ref (s.heap.objs.size + 1) :: (us ++ ds)):=.cons rfl (r.append hd)
 have hl:(Value.ref (s.heap.objs.size + 1) :: us ++ ds).length=ps.length:=by
  have e:=r2.length
  rw [F.len _ _ _ _ hq] at e
  exact e.symm
 refine wpAny_call (pF (f:=f) I.kIn M.makes M.init (beq_iff_eq.mp M.fn) (codeAny_mono (F.run _ X.stack _ _ ⟨Value.ref (s.heap.objs.size + 1) :: us,[]⟩ (Value.ref (s.heap.objs.size + 1) :: (us ++ ds)) _ _ E (hr.make C us [])
  (I2.env0.make C us []) (hb _ (Value.ref (s.heap.objs.size + 1) :: us) I2.kIn hl) r2 hq) fun r s' hq'=>?_))
 cases r with
 | error e=>exact hx pins σ _ _ e s' I2 hq'
 | ok fl=>
  cases fl with
  | ret u=>
   obtain ⟨v,H',I3,rv,ev,q3⟩:=I2.after hq'
   subst ev
   exact ⟨rv,⟨V.ref (s.heap.objs.size + 1),H',I3,rfl,q3⟩⟩
  | next=>exact False.elim hq'
  | brk=>exact False.elim hq'
  | cont=>exact False.elim hq'
theorem bn (M:Mk X.K C f) (F:Jb X.prog X.w X.K X.mg X.base CX k f fd ps sp) (hr:Yi (k + 1) X.A) (hg:Gl X x) (hm:X.mg x=some (.ref C)) (hb:Yb X.K fd ps ds) (hd:Jd dvs ds) (hx:dl CX X E)
  (ha:PA X (e :: es) t) (hdb:(x == ("__debug__" : Str))=false:=by decide) (he:starEach (e :: es) X.env=(false,eval e X.env) :: starEach es X.env:=by rfl) (hpl:(backTo pos (starEach es X.env)).any (·.1)=false:=by rfl) :
  PE X (.Call (.Name x p) (e :: es) [] pos) (IJ C sp dvs E t):=by
 intro pins s σ H Q I h
 refine wpAny_Call_Name_kw (mn I hg hm ?_ hdb)
 refine PySem.W.callWith_K (h₀:=X.base) I.ok.mod.kin M.kp (thn (ha pos pins s σ H _ I h) fun us s1 ⟨vs,H1,I1,r,q⟩=>⟨I1.kIn,?_⟩) he hpl
 exact VE M F hr hb hd hx I1 r q
end
section
variable {X:Cx} {CX:CXT} {k:Nat} {f C:Addr} {fd:FuncData} {ps ks:List Str} {sp:Sp} {E:XK} {x m:Str} {p pos apos kpos:Pos} {e o:Expr} {es:List Expr} {kws:List Keyword} {te ta:TE} {t tk:TA} {nm:Option Str}
structure PL (K:PySem.W.Frag) (fd:FuncData) (ps ks:List Str) (g:List Value→List Value→List Value) (gV:List V→List V→List V):Prop where
 to:∀ (s:Shared) (us ws:List Value),K.In s.heap→(g us ws).length=ps.length→BindsTo s fd ⟨us,ks.zip ws⟩ (ps.zip (g us ws))
 rel:∀ {vs:List V} {us:List Value} {zs:List V} {ws:List Value},Jd vs us→Jd zs ws→Jd (gV vs zs) (g us ws)
variable {g:List Value→List Value→List Value} {gV:List V→List V→List V}
end
structure yb (N P:List Str) (sc:Scope):Prop where
 kind:sc.kind=.function
 co:sc.isCoroutine=false
 gen:sc.isGenerator=false
 nd:N.Nodup
 pre:N.take P.length=P
 par:∀ x ∈ P,sc.names.lookup x=some .local∨sc.names.lookup x=some .cell
 nofree:∀ y ∈ sc.names,y.2 ≠ .free
theorem Ov {kindOf:Str→Option NameKind} {x:Str}:∀ {binds:List (Str × Value)} {m:Str→Option Value},(∀ v,(x,v) ∉ binds)→bindL kindOf binds m x=m x
 | [],_,_=>rfl
 | (n,v) :: r,m,h=>by
  unfold bindL
  rw [Ov fun w hw=>h w (List.mem_cons_of_mem _ hw)]
  split
  ·have:x ≠ n:=by rintro rfl;exact h v List.mem_cons_self
   simp [this]
  ·rfl
theorem qv {kindOf:Str→Option NameKind} {x:Str}:∀ {binds:List (Str × Value)} {m:Str→Option Value},(∀ v,(x,v) ∉ binds)→bindC kindOf binds m x=m x
 | [],_,_=>rfl
 | (n,v) :: r,m,h=>by
  unfold bindC
  rw [qv fun w hw=>h w (List.mem_cons_of_mem _ hw)]
  split
  ·rfl
  ·have:x ≠ n:=by rintro rfl;exact h v List.mem_cons_self
   simp [this]
theorem Mv {kindOf:Str→Option NameKind} {x:Str} {v:Value}:∀ {P:List Str} {vs:List Value} {i:Nat} {m:Str→Option Value},P.Nodup→P[i]? = some x→vs[i]? = some v→kindOf x=some .local →
  bindL kindOf (P.zip vs) m x=some v
 | [],_,_,_,_,h,_,_=>by simp at h
 | _ :: _,[],_,_,_,_,h,_=>by simp at h
 | p :: P,w :: vs,0,m,nd,h1,h2,hk=>by
  simp at h1 h2;subst h1;subst h2
  show bindL kindOf ((p,w) :: P.zip vs) m p=_
  unfold bindL
  rw [Ov fun v hv=>(List.nodup_cons.mp nd).1 (List.of_mem_zip hv).1,if_pos hk]
  simp
 | p :: P,w :: vs,i + 1,m,nd,h1,h2,hk=>by
  show bindL kindOf ((p,w) :: P.zip vs) m x=_
  unfold bindL
  exact Mv (i:=i) (List.nodup_cons.mp nd).2 (by simpa using h1) (by simpa using h2) hk
theorem Cu {kindOf:Str→Option NameKind} {x:Str} {v:Value}:∀ {P:List Str} {vs:List Value} {i:Nat} {m:Str→Option Value},P.Nodup→P[i]? = some x→vs[i]? = some v→kindOf x ≠ some .local →
  bindC kindOf (P.zip vs) m x=some v
 | [],_,_,_,_,h,_,_=>by simp at h
 | _ :: _,[],_,_,_,_,h,_=>by simp at h
 | p :: P,w :: vs,0,m,nd,h1,h2,hk=>by
  simp at h1 h2;subst h1;subst h2
  show bindC kindOf ((p,w) :: P.zip vs) m p=_
  unfold bindC
  rw [qv fun v hv=>(List.nodup_cons.mp nd).1 (List.of_mem_zip hv).1,if_neg hk]
  simp
 | p :: P,w :: vs,i + 1,m,nd,h1,h2,hk=>by
  show bindC kindOf ((p,w) :: P.zip vs) m x=_
  unfold bindC
  exact Cu (i:=i) (List.nodup_cons.mp nd).2 (by simpa using h1) (by simpa using h2) hk
noncomputable def start (N:List Str) (vs:List V):St:=vs.map some ++ List.replicate (N.length - vs.length) none
noncomputable def gD (CX:CXT) (P:Program) (w:World) (K:PySem.W.Frag) (mg:Str→Option Value) (base:Heap) (N:List Str) (qual:Str) (scope:Scope) (f:Addr) (cd:Value) (A:Around) (outer:List Env) (s:Shared) (H:Hp) (E:XK):Cx where
 prog:=P
 w:=w
 K:=K
 mg:=mg
 base:=base
 A:=A.deeper (envOfC qual scope s.heap.objs.size f cd)
 N:=N
 s₀:=s
 H₀:=H
 env:=envOfC qual scope s.heap.objs.size f cd
 outer:=outer
 stack:=envOfC qual scope s.heap.objs.size f cd :: outer
 ex:=[]
 calm:=true
 fn:=fun _=>true
 pn:=[]
 xe:=fun e s'=>wpAny (model P w) (A.deeper (envOfC qual scope s.heap.objs.size f cd)) (leaving (envOfC qual scope s.heap.objs.size f cd) e) (fun _ s''=>CX outer H s E e s'') (fun e' s''=>CX outer H s E e' s'') s'
theorem gy {sc:Scope} {n:Nat} {x:Str} (h:sc.names.lookup x=some .cell):∃ c,(cellsFrom n sc.names []).lookup x=some c:=by
 have q:=PySem.W.cellsFrom_some sc.names n [] (.inl h)
 exact Option.isSome_iff_exists.mp q
theorem fD {CX:CXT} {P:Program} {w:World} {K:PySem.W.Frag} {mg:Str→Option Value} {base:Heap} {N ps:List Str} {qual:Str} {scope:Scope} {f:Addr} {cd:Value} {A:Around} {outer:List Env} {s s1:Shared} {H:Hp} {E:XK} {us:List Value} {vs:List V}
  (S:yb N ps scope) (hd:A.handled=none) (e0:FA P w K mg base A outer s H) (hl:vs.length=ps.length) (r:Jd vs us)
  (x:InCallC s s.heap.objs.size (bindL (envOfC qual scope s.heap.objs.size f cd).kindOf (ps.zip us) fun _=>none) (cellsFrom (s.heap.objs.size + 1) scope.names []) (bindC (envOfC qual scope s.heap.objs.size f cd).kindOf (ps.zip us) fun _=>none) s1) :
  Inv (gD CX P w K mg base N qual scope f cd A outer s H E) [] (start N vs) H s1:=by
 have hpl:ps.length ≤ N.length:=by have:=congrArg List.length S.pre;rw [List.length_take] at this;omega
 obtain ⟨h1,tk,rfl,hk⟩:=x.done
 have noA:∀ b:Addr,b ∉ (gD CX P w K mg base N qual scope f cd A outer s H E).ex:=fun b z=>absurd (show b ∈ ([]:List Addr) from z) (by simp)
 refine ⟨⟨e0.mod,S.kind,rfl,rfl,Nat.le_refl _,fun y z c h1 h2=>?_,fun y hy=>?_,fun y c _ h=>?_,fun _=>hd,Around.frames_deeper e0.frames,.inr ⟨rfl,rfl⟩,fun b z=>absurd z (noA b),e0.bs,e0.bsz,fun b _ _=>noA b,fun b z=>absurd z (noA b),e0.funs,e0.frf⟩,
  rfl,e0.bare,Un.kept hk,⟨_,x.toInCall.ns,fun i y v h1 h2 h3=>?_⟩,fun y c h=>⟨_,x.cell y c h⟩,e0.hok.fresh (Nat.le_refl _),fun y c h=>?_,fun p hp=>absurd (show p ∈ ([]:List (Addr × Obj)) from hp) (by simp),e0.hok.kept hk,?_⟩
 ·exact name_of_addr x.apart (PySem.mem_of_lookup h1) (PySem.mem_of_lookup h2)
 ·have hy:scope.names.lookup y=some .cell∨scope.names.lookup y=some .free:=hy
  rcases hy with hy | hy
  ·exact gy hy
  ·exact absurd rfl (S.nofree _ (PySem.mem_of_lookup hy))
 ·exact Nat.le_of_lt (x.above y c (PySem.mem_of_lookup h))
 ·have hi:i < vs.length:=by
   unfold start at h2
   by_cases hi:i < vs.length
   ·exact hi
   ·rw [List.getElem?_append_right (by simpa using hi)] at h2
    rw [List.getElem?_replicate] at h2
    split at h2 <;> cases h2
  have ha:vs[i]? = some v:=by
   unfold start at h2
   rw [List.getElem?_append_left (by simpa using hi),List.getElem?_map] at h2
   cases e:vs[i]? with
   | none=>rw [e] at h2;cases h2
   | some a=>rw [e] at h2;cases h2;rfl
  obtain ⟨u,hu,rv⟩:=r.get ha
  have hp:ps[i]? = some y:=by
   rw [← S.pre,List.getElem?_take_of_lt (by omega)];exact h1
  have ndP:ps.Nodup:=by rw [← S.pre];exact S.nd.sublist (List.take_sublist _ _)
  refine ⟨u,rv,?_⟩
  rcases S.par y (List.mem_of_getElem? hp) with k | k
  ·exact .inl ⟨k,Mv ndP hp hu k⟩
  ·obtain ⟨c,e⟩:=gy (n:=s.heap.objs.size + 1) k
   refine .inr ⟨.inl k,c,e,?_⟩
   have q:=x.cell y c e
   rw [Cu ndP hp hu (by show scope.names.lookup y ≠ _;rw [k];decide)] at q
   exact q
 ·exact e0.hok.fresh (Nat.le_of_lt (x.above y c (PySem.mem_of_lookup h)))
 ·unfold start
  show _=N.length
  rw [List.length_append,List.length_map,List.length_replicate]
  omega
theorem jK {CX:CXT} {P:Program} {w:World} {K:PySem.W.Frag} {mg:Str→Option Value} {base:Heap} {k:Nat} {f:Addr} {name qual:Str} {params:Arguments} {body:List Stmt} {scope:Scope} {dV kV doc pm cdv ct oc:Value} {an od:Option Addr}
  {osl:Array (Option Value)} {N ps:List Str} {sp:Sp} (lk:K.lookup f=some ⟨oc,od,.func (PySem.W.fnOf name qual params body scope dV kV doc pm an cdv ct),osl⟩) (hcd:PySem.W.codeIn K cdv qual=true) (S:yb N ps scope)
  (len:∀ vs H Q E,sp vs H Q E→vs.length=ps.length)
  (hbody:∀ (A:Around) (outer:List Env) (s:Shared) (H:Hp) (vs:List V) (Q:VK) (E:XK),Yi k (A.deeper (envOfC qual scope s.heap.objs.size f cdv))→sp vs H Q E →
   ∃ t,PSs (gD CX P w K mg base N qual scope f cdv A outer s H E) body t∧t { nx:=fun _ H'=>Q .non H',rt:=Q } (start N vs) H) :
  Jb P w K mg base CX (k + 1) f (PySem.W.fnOf name qual params body scope dV kV doc pm an cdv ct) ps sp:=by
 refine ⟨len,fun A outer s H args us vs Q E hr e0 hb r hsp=>?_⟩
 have hl:=len _ _ _ _ hsp
 have KX:K.In s.heap:=e0.mod.kin.keeps fun b o e=>(e0.bs b o e).1
 have lim:s.heap.NoLimit:=e0.mod.nolimit.keeps fun b o e=>(e0.bs b o e).1
 have hkind:∀ y ∈ ps.zip us,scope.names.lookup y.1=some .local∨(scope.names.lookup y.1=some .cell∧((cellsFrom (s.heap.objs.size + 1) scope.names []).lookup y.1).isSome=true):=fun ⟨n,v⟩ hy=>by
  rcases S.par n (List.of_mem_zip hy).1 with q | q
  ·exact .inl q
  ·exact .inr ⟨q,PySem.W.cellsFrom_some _ _ _ (.inl q)⟩
 refine codeAny_call_function hr.depth (KX _ _ lk) rfl S.co S.gen rfl (PySem.W.codeRec_of KX hcd) (hb _ _ _ _ ?_)
 refine wpAny_newFunctionEnv_cells S.kind hkind fun env he s1 x=>?_
 subst he
 refine ⟨lim.keeps x.toInCall.keep,codeAny_func ?_⟩
 obtain ⟨t,ht,hq⟩:=hbody A outer s H vs Q E (hr.deeper _) hsp
 have I:Inv (gD CX P w K mg base N qual scope f cdv A outer s H E) [] (start N vs) H s1:=fD S hr.hd e0 hl r x
 refine wpAny_mono (ht [] s1 (start N vs) H _ I hq) (fun fl s' hs=>?_) fun e s' hs=>hs
 have fin:∀ {σ':St} {H':Hp} {v:V} {u:Value},Inv (gD CX P w K mg base N qual scope f cdv A outer s H E) [] σ' H' s'→Od v u→Q v H'→CE outer P w H s Q u s':=
  fun {σ' H' v u} J rv q=>⟨v,H',J.os,J.bare,J.base,J.hok,rv,q⟩
 cases fl with
 | ret u=>
  obtain ⟨v,σ',H',J,rv,q⟩:=hs
  exact fin J rv q
 | next=>
  obtain ⟨σ',H',J,q⟩:=hs
  exact fin (v:=V.non) (u:=Value.none) J rfl q
 | brk=>
  obtain ⟨_,_,_,q⟩:=hs
  exact False.elim q
 | cont=>
  obtain ⟨_,_,_,q⟩:=hs
  exact False.elim q
end L2
namespace L2
open PySem PySem.Spec PyProof.Rows
section
variable {X:Cx} {x:Str} {p pos:Pos} {e:Expr} {es:List Expr} {t:TA} {id T:String} {r:List V→Hp→VK→Prop}
noncomputable def tCB (r:List V→Hp→VK→Prop) (t:TA):TE:=fun σ H Q=>t σ H fun vs H1=>r vs H1 Q
theorem yc (hc:Ek X (.builtin id) r) (hg:Gl X x) (hm:X.mg x=none) (hv:bootBuiltins x=some (.builtin id)) (ha:PA X (e :: es) t) (hn:x ≠ "__name__" := by decide) (hdb:(x == ("__debug__" : Str))=false:=by decide)
  (he:starEach (e :: es) X.env=(false,eval e X.env) :: starEach es X.env:=by rfl) (hpl:(backTo pos (starEach es X.env)).any (·.1)=false:=by rfl):PE X (.Call (.Name x p) (e :: es) [] pos) (tCB r t):=by
 intro pins s σ H Q I h
 refine wpAny_Call_Name_kw (nw I hg hm hv ?_ hn hdb)
 exact PyProof.Rows.callWith_builtin1 (thn (ha pos pins s σ H _ I h) fun us s1 ⟨vs,H1,I1,r1,q1⟩=>hc pins s1 σ H1 vs us Q I1 r1 q1) he hpl
theorem bf (hc:Ek X (.type T) r) (hg:Gl X x) (hm:X.mg x=none) (hv:bootBuiltins x=some (.type T)) (ha:PA X (e :: es) t) (hn:x ≠ "__name__" := by decide) (hdb:(x == ("__debug__" : Str))=false:=by decide)
  (he:starEach (e :: es) X.env=(false,eval e X.env) :: starEach es X.env:=by rfl) (hpl:(backTo pos (starEach es X.env)).any (·.1)=false:=by rfl):PE X (.Call (.Name x p) (e :: es) [] pos) (tCB r t):=by
 intro pins s σ H Q I h
 refine wpAny_Call_Name_kw (nw I hg hm hv ?_ hn hdb)
 exact PyProof.Rows.callWith_type1 (thn (ha pos pins s σ H _ I h) fun us s1 ⟨vs,H1,I1,r1,q1⟩=>hc pins s1 σ H1 vs us Q I1 r1 q1) he hpl
end
end L2
namespace HT
open PySem PyProof.Rows
section
open PySem.SeqAt
open PySem.AutoSeq1 (wpAny_loadPart')
open PySem.MeetsSeq PySem.MeetsSeq2 PySem.MeetsSeq3
end
section
variable {prog:Program} {w:World} {A:Around} {E:Value→Shared→Prop} {s:Shared}
noncomputable def sIx (n d:Nat):Option Int→Nat
 | none=>d
 | some v=>if v < 0 then (v + (n:Int)).toNat else min v.toNat n
theorem sIx_none (n d:Nat):sIx n d none=d:=rfl
theorem sIx_nat (n d k:Nat):sIx n d (some (k:Int))=min k n:=by
 show (if (k:Int) < 0 then ((k:Int) + (n:Int)).toNat else min (k:Int).toNat n)=min k n
 rw [if_neg (by omega),Int.toNat_natCast]
theorem kK (n d:Nat) (hd:d ≤ n) (o:Option Int):sIx n d o ≤ n:=by
 cases o with
 | none=>exact hd
 | some v=>
  show (if v < 0 then (v + (n:Int)).toNat else min v.toNat n) ≤ n
  by_cases hv:v < 0
  ·rw [if_pos hv];omega
  ·rw [if_neg hv];exact Nat.min_le_right _ _
theorem AA (v:Int) (n d:Nat):(if v < 0 then max (v + (n:Int)) 0 else min v (n:Int))=((sIx n d (some v):Nat):Int):=by
 show (if v < 0 then max (v + (n:Int)) 0 else min v (n:Int))=(((if v < 0 then (v + (n:Int)).toNat else min v.toNat n):Nat):Int)
 by_cases hv:v < 0
 ·simp only [if_pos hv];omega
 ·simp only [if_neg hv];omega
theorem Nz (lo hi:Option Int) (n:Nat):Builtin.Slice.sliceAdjust lo hi 1 (n:Int)=(((sIx n 0 lo:Nat):Int),((sIx n n hi:Nat):Int)):=by
 have h1:¬ ((1:Int) < 0):=by omega
 unfold Builtin.Slice.sliceAdjust
 simp only [h1,if_false]
 refine Prod.ext ?_ ?_
 ·cases lo with
  | none=>rfl
  | some v=>exact AA v n 0
 ·cases hi with
  | none=>rfl
  | some v=>exact AA v n n
theorem Lz (i j:Nat):Builtin.Slice.slicePlaces (i:Int) (j:Int) 1=j - i:=by
 unfold Builtin.Slice.slicePlaces
 have h1:(1:Int) > 0:=by omega
 simp only [h1,if_true,Int.ediv_one]
 split <;> omega
theorem Ls {v:Value} {o:Option Int} {Q:Option Int→Shared→Prop} (p:IsPart v o) (h:Q o s):wpAny (model prog w) A (Builtin.Slice.slicePartIndex v) Q E s:=by
 cases p with
 | none=>exact slicePart_none h
 | int i t=>exact slicePart_int h
theorem wo {sl:Addr} {vl vu:Value} {lo hi:Option Int} {n:Nat} {Q:Int × Int × Nat→Shared→Prop} (hs:s.heap.IsSliceOf sl vl vu .none) (pl:IsPart vl lo) (pu:IsPart vu hi)
  (h:Q (((sIx n 0 lo:Nat):Int),1,sIx n n hi - sIx n 0 lo) s):wpAny (model prog w) A (Builtin.Slice.sliceApplied (.ref sl) (pure (n:Int))) Q E s:=by
 obtain ⟨os,hos,hcs,hds⟩:=id hs
 unfold Builtin.Slice.sliceApplied Builtin.Slice.sliceFields
 refine wpAny_bind (wpAny_bind (wpAny_field hos hds (x:=vl) rfl (wpAny_bind (wpAny_field hos hds (x:=vu) rfl (wpAny_bind (wpAny_field hos hds (x:=.none) rfl (wpAny_pure ?_)))))))
 refine wpAny_bind (slicePart_none ?_)
 show wpAny _ _ (if ((1:Int) == 0)=true then _ else _) _ _ s
 rw [if_neg (by decide)]
 refine wpAny_bind (Ls pl (wpAny_bind (Ls pu (wpAny_bind (wpAny_pure ?_)))))
 show wpAny _ _ (match Builtin.Slice.sliceAdjust lo hi 1 (n:Int) with | (lo,hi)=>pure (lo,(1:Int),Builtin.Slice.slicePlaces lo hi 1)) _ _ s
 rw [Nz lo hi n]
 show wpAny _ _ (pure (((sIx n 0 lo:Nat):Int),(1:Int),Builtin.Slice.slicePlaces ((sIx n 0 lo:Nat):Int) ((sIx n n hi:Nat):Int) 1)) _ _ s
 rw [Lz]
 exact wpAny_pure h
theorem IF (xs:Array Value) (i k:Nat):((List.range k).filterMap fun (m:Nat)=>xs[((i:Int) + (m:Int) * 1).toNat]?).toArray=((xs.toList.drop i).take k).toArray:=by
 have e:(fun (m:Nat)=>xs[((i:Int) + (m:Int) * 1).toNat]?)=fun m=>xs[i + m]?:=by
  funext m
  have:((i:Int) + (m:Int) * 1).toNat=i + m:=by omega
  rw [this]
 rw [e]
 have:=pick_run xs i k
 rw [List.filterMap_map] at this
 have e2:((fun x=>xs[x]?) ∘ fun x=>i + x)=fun m=>xs[i + m]?:=rfl
 rw [e2] at this
 rw [this]
theorem getItem_tuple_cut {t sl:Addr} {items:Array Value} {vl vu:Value} {lo hi:Option Int} {Q:Value→Shared→Prop} (ht:IsTup s.heap t items) (hs:s.heap.IsSliceOf sl vl vu .none) (pl:IsPart vl lo) (pu:IsPart vu hi)
  (hw:¬ (sIx items.size 0 lo=0∧sIx items.size items.size hi=items.size))
  (h:Q (.ref s.heap.objs.size) { s with heap:=s.heap.push { cls:=.type "tuple",data:=.seq ((items.toList.drop (sIx items.size 0 lo)).take (sIx items.size items.size hi - sIx items.size 0 lo)).toArray } })
  (hsz:items.size ≤ sizeLine):wpAny (model prog w) A (getItem (.ref t) (.ref sl)) Q E s:=by
 have htake:sizeOk (.seq ((items.toList.drop (sIx items.size 0 lo)).take (sIx items.size items.size hi - sIx items.size 0 lo)).toArray):=by
  show ((items.toList.drop (sIx items.size 0 lo)).take (sIx items.size items.size hi - sIx items.size 0 lo)).toArray.size ≤ sizeLine
  rw [List.size_toArray,List.length_take,List.length_drop,Array.length_toList]
  omega
 have hj:sIx items.size items.size hi ≤ items.size:=kK _ _ (Nat.le_refl _) hi
 obtain ⟨os,hos,hcs,hds⟩:=id hs
 have hTs:s.TypeIs (.ref sl) "slice" := ⟨os,hos,hcs⟩
 unfold getItem
 try with_reducible refine wpAny_holding ?_
 first | refine wpAny_bind (wpAny_pure ?_) | skip
 refine wpAny_bind (wpAny_sequenceKey ht.typeIs (by decide) ?_)
 refine wpAny_bind (wpAny_callSpecial?_slot (name:=Str.ofString "__getitem__") ht.typeIs PyProof.Rows.slot_tuple_getitem
  (wpAny_call_entry PyProof.Rows.slot_tuple_getitem ht.typeIs entry_tuple_getitem ?_ (args_tuple_getitem _ _)))
 show wpAny _ _ (Builtin.Tuple.tupleItemsOf (.ref t) >>= _) _ _ s
 refine wpAny_bind (tupleItemsOf_ ht ?_)
 refine wpAny_bind (wpAny_typeOf hTs ?_)
 rw [if_pos (by decide)]
 refine wpAny_bind (wo hs pl pu ?_)
 have hno:¬ ((((sIx items.size 0 lo:Nat):Int) == 0 && (1:Int) == 1 && (sIx items.size items.size hi - sIx items.size 0 lo) == items.size)=true):=by
  intro q
  rw [Bool.and_eq_true,Bool.and_eq_true] at q
  have q1:((sIx items.size 0 lo:Nat):Int)=0:=eq_of_beq q.1.1
  have q2:sIx items.size items.size hi - sIx items.size 0 lo=items.size:=eq_of_beq q.2
  exact hw ⟨by omega,by omega⟩
 show wpAny _ _ (if (((sIx items.size 0 lo:Nat):Int) == 0 && (1:Int) == 1 && (sIx items.size items.size hi - sIx items.size 0 lo) == items.size)=true then _ else _) _ _ s
 rw [if_neg hno,IF]
 first
  | exact wpAny_bind (m:=Builtin.Tuple.tupleExact _) (wpAny_newObj_type (wpAny_pure ⟨_,rfl,wpAny_pure h⟩) htake)
  | exact wpAny_bind (m:=Builtin.Tuple.tupleExact _) (wpAny_newObj_type (wpAny_bind (wpAny_pure (wpAny_pure ⟨_,rfl,wpAny_pure h⟩))) htake)
  | exact wpAny_bind (wpAny_bind (m:=Builtin.Tuple.tupleExact _) (wpAny_newObj_type (wpAny_pure (wpAny_pure ⟨_,rfl,wpAny_pure h⟩)) htake))
  | exact wpAny_bind (wpAny_bind (m:=Builtin.Tuple.tupleExact _) (wpAny_newObj_type (wpAny_pure ⟨_,rfl,wpAny_pure h⟩) htake))
end
end HT
namespace L2
open PySem PySem.Spec PyProof.Rows
noncomputable abbrev TO:=St→Hp→(Option Int→Hp→Prop)→Prop
noncomputable def PO (X:Cx) (e:Option Expr) (t:TO):Prop:=
 ∀ (pins:List (Addr × Obj)) (s:Shared) (σ:St) (H:Hp) (Q:Option Int→Hp→Prop),Inv X pins σ H s→t σ H Q →
  wpAny (model X.prog X.w) X.A (evalPart e X.env) (fun u s'=>∃ o H',Inv X pins σ H' s'∧IsPart u o∧Q o H') X.xe s
noncomputable def cB:TO:=fun _ H Q=>Q none H
noncomputable def cK (t:TE):TO:=fun σ H Q=>t σ H fun x H1=>∃ i,x=.int i∧Q (some i) H1
section
variable {X:Cx} {e:Expr} {te:TE} {lo hi:Option Expr} {tl th:TO} {pos p2:Pos}
theorem jk:PO X none cB:=by
 intro pins s σ H Q I h
 rw [evalPart_none]
 exact wpAny_pure ⟨none,H,I,.none,h⟩
theorem Mj (h:PE X e te):PO X (some e) (cK te):=by
 intro pins s σ H Q I hw
 rw [evalPart_some]
 refine thn (h pins s σ H _ I hw) fun u s1 hZ1=>?_
 obtain ⟨x,H1,I1,r1,q1⟩:=hZ1
 obtain ⟨i,rfl,q⟩:=q1
 obtain ⟨t,rfl⟩:=r1
 exact ⟨some i,H1,I1,.int i t,q⟩
noncomputable def SlR (X:Cx) (r:V→Option Int→Option Int→Hp→VK→Prop):Prop:=
 ∀ (pins:List (Addr × Obj)) (s:Shared) (σ:St) (H:Hp) (x:V) (v vl vu:Value) (lo hi:Option Int) (sl:Addr) (Q:VK),Inv X pins σ H s→Od x v→s.heap.IsSliceOf sl vl vu .none→IsPart vl lo→IsPart vu hi→r x lo hi H Q →
  ∃ T id,typeLookup (.type T) "__getitem__"=pure (some (.builtin id))∧s.TypeIs v T∧wpAny (model X.prog X.w) X.A (getItem v (.ref sl)) (EP X pins σ Q) X.xe s
theorem SlR.or {r r':V→Option Int→Option Int→Hp→VK→Prop} (h:SlR X r) (h':SlR X r'):SlR X (fun x lo hi H Q=>r x lo hi H Q∨r' x lo hi H Q):=by
 intro pins s σ H x v vl vu lo hi sl Q I rx hs pl pu q
 rcases q with q | q
 ·exact h pins s σ H x v vl vu lo hi sl Q I rx hs pl pu q
 ·exact h' pins s σ H x v vl vu lo hi sl Q I rx hs pl pu q
noncomputable def tSl (r:V→Option Int→Option Int→Hp→VK→Prop) (te:TE) (tl th:TO):TE:=fun σ H Q=>te σ H fun x H1=>tl σ H1 fun l H2=>th σ H2 fun u H3=>r x l u H3 Q
theorem gh {r:V→Option Int→Option Int→Hp→VK→Prop} (hr:SlR X r) (he:PE X e te) (hl:PO X lo tl) (hu:PO X hi th):PE X (.Subscript e (.Slice lo hi none p2) pos) (tSl r te tl th):=by
 intro pins s σ H Q I h
 refine Subscript_ (thn (he pins s σ H _ I h) fun v s1 hZ1=>?_)
 obtain ⟨x,H1,I1,r1,q1⟩:=hZ1
 refine wpAny_Slice (thn (hl pins s1 σ H1 _ I1 q1) fun vl s2 ⟨l,H2,I2,pl,q2⟩=>thn (hu pins s2 σ H2 _ I2 q2) fun vu s3 hZ1=>?_)
 obtain ⟨u,H3,I3,pu,q3⟩:=hZ1
 rw [evalPart_none]
 refine wpAny_pure ?_
 have I4:Inv X pins σ H3 { s3 with heap:=s3.heap.push { cls:=.type "slice",data:=.fields #[vl,vu,.none] } }:=I3.kept (t':=s3.toks) fun b ob q=>Heap.get?_push_of_some _ q
 obtain ⟨T,id,hT,ht,hg⟩:=hr pins { s3 with heap:=s3.heap.push { cls:=.type "slice",data:=.fields #[vl,vu,.none] } } σ H3 x v vl vu l u s3.heap.objs.size Q I4 r1 (Heap.IsSliceOf.new ..) pl pu q3
 show wpAny (model X.prog X.w) X.A (subscriptTail e (.Slice lo hi none p2) v (.ref s3.heap.objs.size)) (EP X pins σ Q) X.xe { s3 with heap:=s3.heap.push { cls:=.type "slice",data:=.fields #[vl,vu,.none] } }
 exact tail_any (ops:=[.ref s3.heap.objs.size,v]) ht hT hg (by with_unfolding_all rfl)
noncomputable def Jx (xs:List V) (lo hi:Option Int):List V:=(xs.drop (HT.sIx xs.length 0 lo)).take (HT.sIx xs.length xs.length hi - HT.sIx xs.length 0 lo)
theorem Yp (xs:List V) (lo hi:Option Int):(Jx xs lo hi).length ≤ xs.length:=by
 unfold Jx
 rw [List.length_take,List.length_drop]
 omega
noncomputable def eM (K:PySem.W.Frag):V→Option Int→Option Int→Hp→VK→Prop:=fun x lo hi H Q=>∃ a xs,x=.ref a∧SqT K H a xs ∧
 ¬ (HT.sIx xs.length 0 lo=0∧HT.sIx xs.length xs.length hi=xs.length)∧∀ p,H p=none→Q (.ref p) (upd H p (.tup (Jx xs lo hi)))
theorem wJ:SlR X (eM X.K):=by
 intro pins s σ H x v vl vu lo hi sl Q I rx hs pl pu h
 obtain ⟨a,xs,rfl,hx,hw,q⟩:=h
 cases rx
 obtain ⟨its,r,ht,hz⟩:=I.tuple hx
 have hlen:its.toArray.size=xs.length:=by rw [List.size_toArray];exact r.length.symm
 refine ⟨"tuple",_,PyProof.Rows.slot_tuple_getitem.lookup,ht.typeIs,?_⟩
 refine HT.getItem_tuple_cut ht hs pl pu (by rw [hlen];exact hw) ?_ (by rw [hlen];exact hz)
 rw [hlen]
 refine ⟨.ref s.heap.objs.size,_,I.laid (t':=s.toks) (o:=.tup (Jx xs lo hi)) (fun b ob q=>Heap.get?_push_of_some _ q) (Nat.le_refl _) ?_,rfl,q _ (I.hok.fresh (Nat.le_refl _))⟩
 exact ⟨Nat.le_trans (Yp xs lo hi) hz,_,(r.drop (HT.sIx xs.length 0 lo)).take (HT.sIx xs.length xs.length hi - HT.sIx xs.length 0 lo),IsTup.new _ _⟩
end
end L2
namespace L2
open PySem PySem.Spec PyProof.Rows
noncomputable def ixN (n:Nat) (i:Int):Option Nat:=if 0 ≤ i then (if i < n then some i.toNat else none) else if -(n:Int) ≤ i then some (i + n).toNat else none
noncomputable def atI {α:Type} (xs:List α) (i:Int):Option α:=(ixN xs.length i).bind fun j=>xs[j]?
theorem KI {n:Nat} {i:Int} {j:Nat} (h:ixN n i=some j):seqIndex? i n=some j∧j < n∧-(n:Int) ≤ i∧i < n:=by
 unfold ixN at h
 by_cases h0:0 ≤ i
 ·rw [if_pos h0] at h
  by_cases h1:i < n
  ·rw [if_pos h1] at h
   have e:i.toNat=j:=Option.some.inj h
   exact ⟨by rw [seqIndex_of h0 h1,e],by omega,by omega,h1⟩
  ·rw [if_neg h1] at h;cases h
 ·rw [if_neg h0] at h
  by_cases h1:-(n:Int) ≤ i
  ·rw [if_pos h1] at h
   have e:(i + n).toNat=j:=Option.some.inj h
   exact ⟨by rw [seqIndex_neg (by omega) h1,e],by omega,h1,by omega⟩
  ·rw [if_neg h1] at h;cases h
theorem px {α:Type} {xs:List α} {i:Int} {v:α} (h:atI xs i=some v):∃ j,seqIndex? i xs.length=some j∧xs[j]? = some v∧j < xs.length∧-(xs.length:Int) ≤ i∧i < xs.length:=by
 unfold atI at h
 cases e:ixN xs.length i with
 | none=>rw [e] at h;cases h
 | some j=>
  rw [e] at h
  obtain ⟨h1,h2,h3,h4⟩:=KI e
  exact ⟨j,h1,h,h2,h3,h4⟩
theorem Eb {α:Type} {xs:List α} {j:Nat} {v:α} (h:xs[j]? = some v):atI xs (j:Int)=some v:=by
 have hj:j < xs.length:=(List.getElem?_eq_some_iff.mp h).1
 have e:ixN xs.length (j:Int)=some j:=by
  unfold ixN
  rw [if_pos (by omega),if_pos (by omega)];simp
 unfold atI;rw [e];exact h
noncomputable def rH (b:Expr):Prop:=∀ o i,subscripted b false o i=operate [o,i] (getItem o i)
noncomputable def IxR (X:Cx) (r:R2):Prop:=
 ∀ (value slice:Expr) (pins:List (Addr × Obj)) (s:Shared) (σ:St) (H:Hp) (x y:V) (v u:Value) (Q:VK),Inv X pins σ H s→Od x v→Od y u→r x y H Q →
  subscripted slice false v u=operate [v,u] (getItem v u)→wpAny (model X.prog X.w) X.A (subscriptTail value slice v u) (EP X pins σ Q) X.xe s
noncomputable def MtR (X:Cx) (id:String) (r:V→List V→Hp→VK→Prop):Prop:=
 ∀ (pins:List (Addr × Obj)) (s:Shared) (σ:St) (H:Hp) (x:V) (xs:List V) (v:Value) (us:List Value) (Q:VK),Inv X pins σ H s→Od x v→Jd xs us→r x xs H Q →
  wpAny (model X.prog X.w) X.A (call (.builtin id) (v :: us)) (EP X pins σ Q) X.xe s
section
variable {X:Cx} {a b:Expr} {ta tb:TE} {pos:Pos}
theorem IxR.or {r r':R2} (h:IxR X r) (h':IxR X r'):IxR X (fun x y H Q=>r x y H Q∨r' x y H Q):=by
 intro value slice pins s σ H x y v u Q I rx ry q hs
 rcases q with q | q
 ·exact h value slice pins s σ H x y v u Q I rx ry q hs
 ·exact h' value slice pins s σ H x y v u Q I rx ry q hs
theorem MtR.or {id:String} {r r':V→List V→Hp→VK→Prop} (h:MtR X id r) (h':MtR X id r'):MtR X id (fun x xs H Q=>r x xs H Q∨r' x xs H Q):=by
 intro pins s σ H x xs v us Q I rx rs q
 rcases q with q | q
 ·exact h pins s σ H x xs v us Q I rx rs q
 ·exact h' pins s σ H x xs v us Q I rx rs q
theorem Gc {r:R2} (hr:IxR X r) (ha:PE X a ta) (hb:PE X b tb) (hs:rH b):PE X (.Subscript a b pos) (tOp r ta tb):=by
 intro pins s σ H Q I h
 exact Subscript_ (AL ha hb I h fun v u s2 x y H2 I2 rx ry q=>hr a b pins s2 σ H2 x y v u Q I2 rx ry q (hs _ _))
noncomputable def nM (K:PySem.W.Frag):R2:=fun x y H Q=>∃ p xs i v,x=.ref p∧y=.int i∧SqL K H p xs∧atI xs i=some v∧Q v H
noncomputable def OL (K:PySem.W.Frag):R2:=fun x y H Q=>∃ p xs i v,x=.ref p∧y=.int i∧SqT K H p xs∧atI xs i=some v∧Q v H
noncomputable def kM:R2:=fun x y H Q=>∃ z i c,x=.str z∧y=.int i∧z.length ≤ sizeLine∧atI z.cps.toList i=some c∧Q (.str ⟨#[c]⟩) H
theorem xc:IxR X (nM X.K):=by
 intro value slice pins s σ H x y v u Q I rx ry h hs
 obtain ⟨p,xs,i,z,rfl,rfl,hq,he,q⟩:=h
 cases rx
 obtain ⟨t,rfl⟩:=ry
 obtain ⟨its,r,pl,hz⟩:=I.list hq
 obtain ⟨j,h1,h2,h3,h4,h5⟩:=px he
 obtain ⟨w,ew,rw'⟩:=r.get h2
 have hl:=r.length
 have hn:=Es
 have fin:EP X pins σ Q w s:=⟨z,H,I,rw',q⟩
 by_cases h0:0 ≤ i
 ·have hj:i.toNat=j:=by
   rw [seqIndex_of h0 h5] at h1
   exact Option.some.inj h1
  exact item_listR pl.isList h0 (by omega) (by rw [hj];simpa using ew) fin hs
 ·have hj:(i + (its.toArray.size:Int)).toNat=j:=by
   rw [seqIndex_neg (by omega) h4] at h1
   rw [List.size_toArray,← hl]
   exact Option.some.inj h1
  exact subscriptTail_builtinR (x:=w) pl.isList.typeIs slot_list_getitem.lookup
   (wpAny_getItem_list_neg (Q:=fun r s'=>r=w∧EP X pins σ Q r s') pl.isList (by omega) (by rw [List.size_toArray] <;> omega) (by omega) (by rw [hj];simpa using ew) ⟨rfl,fin⟩) hs
theorem je:IxR X (OL X.K):=by
 intro value slice pins s σ H x y v u Q I rx ry h hs
 obtain ⟨p,xs,i,z,rfl,rfl,hq,he,q⟩:=h
 cases rx
 obtain ⟨t,rfl⟩:=ry
 obtain ⟨its,r,pl,hz⟩:=I.tuple hq
 obtain ⟨j,h1,h2,h3,h4,h5⟩:=px he
 obtain ⟨w,ew,rw'⟩:=r.get h2
 have hl:=r.length
 have hn:=Es
 have fin:EP X pins σ Q w s:=⟨z,H,I,rw',q⟩
 exact subscriptTail_builtinR (x:=w) pl.typeIs slot_tuple_getitem.lookup
  (getItem_tuple (j:=j) (Q:=fun r s'=>r=w∧EP X pins σ Q r s') pl (by omega) (by omega) (by rw [List.size_toArray,← hl];exact h1) (by simpa using ew) ⟨rfl,fin⟩) hs
theorem uD:IxR X kM:=by
 intro value slice pins s σ H x y v u Q I rx ry h hs
 obtain ⟨z,i,c,rfl,rfl,hz,he,q⟩:=h
 obtain ⟨t,rfl⟩:=rx
 obtain ⟨t',rfl⟩:=ry
 obtain ⟨j,h1,h2,h3,h4,h5⟩:=px he
 have hl:z.cps.toList.length=z.length:=by simp [Str.length]
 rw [hl] at h1 h4 h5
 have hn:=Es
 exact tail_any (typeIs_str s z t) slot_str_getitem.lookup (getItem_str (c:=c) (by
  have e1:decide (i < -(2 ^ 63:Int))=false:=decide_eq_false (by omega)
  have e2:decide (i ≥ 2 ^ 63)=false:=decide_eq_false (by omega)
  rw [e1,e2,Bool.or_false]) (by rw [h1];simpa using h2) ⟨.str ⟨#[c]⟩,H,I.tok _,⟨_,rfl⟩,q⟩) hs
theorem Inv.lst {pins:List (Addr × Obj)} {σ:St} {H:Hp} {s:Shared} {p:Addr} {xs:List V} (I:Inv X pins σ H s) (h:H p=some (.lst xs)) :
  ∃ (its:List Value) (n:Nat),Jd xs its∧s.heap.get? p=some { cls:=.type "list",data:=.seq its.toArray n }∧xs.length ≤ sizeLine:=by
 obtain ⟨z,its,n,r,e⟩:=I.hok p _ h
 exact ⟨its,n,r,e,z⟩
theorem dv (lo hi:Option Int) (n:Nat):(sliceBounds lo hi none n).1=((HT.sIx n 0 lo:Nat):Int)∧(sliceBounds lo hi none n).2.1=((HT.sIx n n hi:Nat):Int)∧(sliceBounds lo hi none n).2.2=1:=by
 refine ⟨?_,?_,rfl⟩
 ·cases lo with
  | none=>simp [sliceBounds,HT.sIx]
  | some i=>
   simp only [sliceBounds,HT.sIx,Option.getD_none,show (1:Int) > 0 by decide,if_true]
   by_cases h:i < 0
   ·simp only [h,if_true] <;> omega
   ·simp only [h,if_false] <;> omega
 ·cases hi with
  | none=>simp [sliceBounds,HT.sIx]
  | some i=>
   simp only [sliceBounds,HT.sIx,Option.getD_none,show (1:Int) > 0 by decide,if_true]
   by_cases h:i < 0
   ·simp only [h,if_true] <;> omega
   ·simp only [h,if_false] <;> omega
theorem xt (its:List Value) (lo hi:Option Int):slicePick its.toArray lo hi none=((its.drop (HT.sIx its.length 0 lo)).take (HT.sIx its.length its.length hi - HT.sIx its.length 0 lo)).toArray:=by
 obtain ⟨h1,h2,h3⟩:=dv lo hi its.toArray.size
 unfold slicePick
 rw [h1,h2,h3]
 simp only [sliceRange_one,pick_run,List.size_toArray] <;> rfl
noncomputable def dM (K:PySem.W.Frag):V→Option Int→Option Int→Hp→VK→Prop:=fun x lo hi H Q=>∃ a xs,x=.ref a∧SqL K H a xs∧∀ p,H p=none→Q (.ref p) (upd H p (.lst (Jx xs lo hi)))
theorem Lx:SlR X (dM X.K):=by
 intro pins s σ H x v vl vu lo hi sl Q I rx hs pl pu h
 obtain ⟨a,xs,rfl,hx,q⟩:=h
 cases rx
 obtain ⟨its,r,ht,hz⟩:=I.list hx
 have hlen:=r.length
 refine ⟨"list",_,slot_list_getitem.lookup,ht.isList.typeIs,?_⟩
 refine wpAny_getItem_list_slice ht.isList hs pl pu .none (by simp) ?_ (by rw [List.size_toArray] <;> omega)
 rw [xt,← hlen]
 refine ⟨.ref s.heap.objs.size,_,I.laid (t':=s.toks) (o:=.lst (Jx xs lo hi)) (fun b ob q=>Heap.get?_push_of_some _ q) (Nat.le_refl _) ?_,rfl,q _ (I.hok.fresh (Nat.le_refl _))⟩
 exact ⟨Nat.le_trans (Yp xs lo hi) hz,_,0,(r.drop (HT.sIx xs.length 0 lo)).take (HT.sIx xs.length xs.length hi - HT.sIx xs.length 0 lo),Heap.get?_push_size _ rfl⟩
noncomputable def fk:V→Bool
 | .non=>true
 | .bl _=>true
 | .int _=>true
 | .str _=>true
 | _=>false
noncomputable def eqV:V→V→Bool
 | .non,.non=>true
 | .bl a,.bl b=>a == b
 | .bl a,.int b=>(if a then 1 else 0) == b
 | .int a,.bl b=>a == (if b then 1 else 0)
 | .int a,.int b=>a == b
 | .str a,.str b=>a == b
 | _,_=>false
theorem cG {A:Around} {s:Shared} {y x:V} {u v:Value} (ry:Od y u) (rx:Od x v) (fy:fk y=true) (fx:fk x=true):SeqAt.EqAt A s u v (eqV y x):=by
 cases y with
 | non=>
  cases ry
  cases x with
  | non=>cases rx;exact SeqAt.EqAt.same _
  | bl b=>cases rx;exact SeqAt.EqAt.none_bool b
  | int b=>obtain ⟨t,rfl⟩:=rx;exact SeqAt.EqAt.none_int b t
  | str b=>obtain ⟨t,rfl⟩:=rx;exact SeqAt.EqAt.none_str b t
  | _=>exact absurd (show false=true from fx) Bool.false_ne_true
 | bl a=>
  cases ry
  cases x with
  | non=>cases rx;exact SeqAt.EqAt.bool_none a
  | bl b=>cases rx;exact SeqAt.EqAt.bool_bool a b
  | int b=>obtain ⟨t,rfl⟩:=rx;exact SeqAt.EqAt.bool_int a b t
  | str b=>obtain ⟨t,rfl⟩:=rx;exact SeqAt.EqAt.bool_str a b t
  | _=>exact absurd (show false=true from fx) Bool.false_ne_true
 | int a=>
  obtain ⟨t',rfl⟩:=ry
  cases x with
  | non=>cases rx;exact SeqAt.EqAt.int_none a t'
  | bl b=>cases rx;exact SeqAt.EqAt.int_bool a t' b
  | int b=>obtain ⟨t,rfl⟩:=rx;exact SeqAt.EqAt.int_int a t' b t
  | str b=>obtain ⟨t,rfl⟩:=rx;exact SeqAt.EqAt.int_str a t' b t
  | _=>exact absurd (show false=true from fx) Bool.false_ne_true
 | str a=>
  obtain ⟨t',rfl⟩:=ry
  cases x with
  | non=>cases rx;exact SeqAt.EqAt.str_none a t'
  | bl b=>cases rx;exact SeqAt.EqAt.str_bool a t' b
  | int b=>obtain ⟨t,rfl⟩:=rx;exact SeqAt.EqAt.str_int a t' b t
  | str b=>obtain ⟨t,rfl⟩:=rx;exact SeqAt.EqAt.str_str a t' b t
  | _=>exact absurd (show false=true from fx) Bool.false_ne_true
 | _=>exact absurd (show false=true from fy) Bool.false_ne_true
noncomputable def eqU (x:V) (u:Value):Bool:=match u with
 | .none=>eqV .non x
 | .bool b=>eqV (.bl b) x
 | .int i _=>eqV (.int i) x
 | .str z _=>eqV (.str z) x
 | _=>false
theorem CG {x y:V} {u:Value} (r:Od y u) (f:fk y=true):eqU x u=eqV y x:=by
 cases y with
 | non=>cases r;rfl
 | bl b=>cases r;rfl
 | int i=>obtain ⟨t,rfl⟩:=r;rfl
 | str z=>obtain ⟨t,rfl⟩:=r;rfl
 | _=>exact absurd (show false=true from f) Bool.false_ne_true
theorem nq {x:V}:∀ {xs:List V} {us:List Value},Jd xs us→xs.all fk=true→us.any (eqU x)=xs.any fun y=>eqV y x
 | _,_,.nil,_=>rfl
 | y :: xs,u :: us,.cons r t,f=>by
  rw [List.all_cons,Bool.and_eq_true] at f
  rw [List.any_cons,List.any_cons,CG r f.1,nq t f.2]
theorem dm {A:Around} {s:Shared} {x:V} {v:Value} (rx:Od x v) (fx:fk x=true):∀ {xs:List V} {us:List Value},Jd xs us→xs.all fk=true→∀ u ∈ us,SeqAt.EqAt A s u v (eqU x u)
 | _,_,.nil,_=>fun u hu=>by cases hu
 | y :: xs,u :: us,.cons r t,f=>fun u' hu=>by
  rw [List.all_cons,Bool.and_eq_true] at f
  rcases List.mem_cons.mp hu with rfl | hu
  ·rw [CG r f.1];exact cG r rx f.1 fx
  ·exact dm rx fx t f.2 u' hu
noncomputable def inV (x:V) (xs:List V):Bool:=xs.any fun y=>eqV y x
noncomputable def rIn (K:PySem.W.Frag) (neg:Bool):R2:=fun x y H Q=>∃ p xs,y=.ref p∧(SqL K H p xs∨SqT K H p xs)∧fk x=true∧xs.all fk=true∧Q (.bl (if neg then !inV x xs else inV x xs)) H
theorem im:OpR X (compareOp .In) (rIn X.K false):=by
 intro pins s σ H x y v u Q I rx ry h
 obtain ⟨p,xs,rfl,hq,fx,fs,q⟩:=h
 cases ry
 rcases hq with hq | hq
 ·obtain ⟨its,r,pl,hz⟩:=I.list hq
  refine SeqAt.in_listAt (eqU x) pl.isList (fun w hw=>dm rx fx r fs w (by simpa using hw)) ⟨.bl _,H,I,rfl,?_⟩
  rw [show its.toArray.any (eqU x)=its.any (eqU x) by simp,nq r fs]
  exact q
 ·obtain ⟨its,r,pl,hz⟩:=I.tuple hq
  refine SeqAt.in_tupleAt (eqU x) pl (fun w hw=>dm rx fx r fs w (by simpa using hw)) ⟨.bl _,H,I,rfl,?_⟩
  rw [show its.toArray.any (eqU x)=its.any (eqU x) by simp,nq r fs]
  exact q
theorem zj:OpR X (compareOp .NotIn) (rIn X.K true):=by
 intro pins s σ H x y v u Q I rx ry h
 obtain ⟨p,xs,rfl,hq,fx,fs,q⟩:=h
 cases ry
 rcases hq with hq | hq
 ·obtain ⟨its,r,pl,hz⟩:=I.list hq
  refine SeqAt.notIn_listAt (eqU x) pl.isList (fun w hw=>dm rx fx r fs w (by simpa using hw)) ⟨.bl _,H,I,rfl,?_⟩
  rw [show its.toArray.any (eqU x)=its.any (eqU x) by simp,nq r fs]
  exact q
 ·obtain ⟨its,r,pl,hz⟩:=I.tuple hq
  refine SeqAt.notIn_tupleAt (eqU x) pl (fun w hw=>dm rx fx r fs w (by simpa using hw)) ⟨.bl _,H,I,rfl,?_⟩
  rw [show its.toArray.any (eqU x)=its.any (eqU x) by simp,nq r fs]
  exact q
theorem Ob:Ek X (.builtin "len") (fun xs H Q=>∃ p ys,xs=[.ref p]∧(SqL X.K H p ys∨SqT X.K H p ys)∧Q (.int ys.length) H):=by
 intro pins s σ H xs us Q I r h
 obtain ⟨p,ys,rfl,hq,q⟩:=h
 obtain ⟨u,rfl,rx⟩:=pq r
 cases rx
 have hn:=Es
 rcases hq with hq | hq
 ·obtain ⟨its,r',pl,hz⟩:=I.list hq
  have hlen:=r'.length
  exact Calls.call_len_list pl.isList (by simp only [List.size_toArray] <;> omega) ⟨.int ys.length,H,I.tok _,⟨s.toks + 1,by rw [List.size_toArray,hlen]⟩,q⟩
 ·obtain ⟨its,r',pl,hz⟩:=I.tuple hq
  have hlen:=r'.length
  exact len_tuple pl (by simp only [List.size_toArray] <;> omega) ⟨.int ys.length,H,I.tok _,⟨s.toks + 1,by rw [List.size_toArray,hlen]⟩,q⟩
theorem vv:Ek X (.builtin "len") (fun xs H Q=>∃ z,xs=[.str z]∧z.length ≤ sizeLine∧Q (.int z.length) H):=by
 intro pins s σ H xs us Q I r h
 obtain ⟨z,rfl,hz,q⟩:=h
 obtain ⟨u,rfl,t,rfl⟩:=pq r
 have hn:=Es
 exact len_str (by omega) ⟨.int z.length,H,I.tok _,⟨_,rfl⟩,q⟩
theorem Ek.or {f:Value} {r r':List V→Hp→VK→Prop} (h:Ek X f r) (h':Ek X f r'):Ek X f (fun xs H Q=>r xs H Q∨r' xs H Q):=by
 intro pins s σ H xs us Q I rs q
 rcases q with q | q
 ·exact h pins s σ H xs us Q I rs q
 ·exact h' pins s σ H xs us Q I rs q
theorem Ou:Ek X (.type "list") (fun xs H Q=>∃ p ys,xs=[.ref p]∧(SqL X.K H p ys∨SqT X.K H p ys)∧∀ l,H l=none→Q (.ref l) (upd H l (.lst ys))):=by
 intro pins s σ H xs us Q I r h
 obtain ⟨p,ys,rfl,hq,q⟩:=h
 obtain ⟨u,rfl,rx⟩:=pq r
 cases rx
 have fin:∀ (its:List Value),Jd ys its→ys.length ≤ sizeLine→∀ (h':Heap) (c':Nat),(∀ b o',s.heap.get? b=some o'→h'.get? b=some o') →
   h'.get? s.heap.objs.size=some { cls:=.type "list",dict:=none,data:=.seq its.toArray c',slots:=#[] }→EP X pins σ Q (.ref s.heap.objs.size) { s with heap:=h' }:=fun its r' hz h' c' kp e=>
  ⟨.ref s.heap.objs.size,_,I.laid (t':=s.toks) kp (Nat.le_refl _) (show md X.prog X.w _ h' _ (.lst ys) from ⟨hz,its,c',r',e⟩),rfl,q _ (I.hok.fresh (Nat.le_refl _))⟩
 rcases hq with hq | hq
 ·obtain ⟨its,r',pl,hz⟩:=I.list hq
  have hlen:=r'.length
  obtain ⟨o,ho,hc,n,hd⟩:=pl.isList
  exact call_list_seq p (.inl rfl) ho hc hd (fun h' c' kp e=>fin its r' hz h' c' kp e) (by simp only [List.size_toArray] <;> omega)
 ·obtain ⟨its,r',pl,hz⟩:=I.tuple hq
  have hlen:=r'.length
  obtain ⟨o,ho,hc,n,hd⟩:=pl
  exact call_list_seq p (.inr rfl) ho hc hd (fun h' c' kp e=>fin its r' hz h' c' kp e) (by simp only [List.size_toArray] <;> omega)
noncomputable def tyV (K:PySem.W.Frag) (T:String) (x:V) (H:Hp):Prop:=match x with
 | .str _=>T = "str"
 | .int _=>T = "int"
 | .ref p=>(T = "list" ∧ ∃ xs,SqL K H p xs)∨(T = "tuple" ∧ ∃ o,K.lookup p=some o∧o.cls=.type "tuple" ∧ o.dict=none) ∨
   (T = "dict" ∧ ((∃ kvs,H p=some (.dK kvs))∨∃ kvs,H p=some (.dT kvs)))∨(T = "set" ∧ ∃ S n,H p=some (.set S n))
 | _=>False
theorem oK {pins:List (Addr × Obj)} {σ:St} {H:Hp} {s:Shared} {T:String} {x:V} {v:Value} (I:Inv X pins σ H s) (r:Od x v) (ty:tyV X.K T x H) :
  s.TypeIs v T∧∀ a,v=.ref a→∃ ob,s.heap.get? a=some ob∧ob.dict=none:=by
 cases x with
 | str z=>
  obtain ⟨t,rfl⟩:=r
  cases (show T = "str" from ty)
  exact ⟨typeIs_str s z t,fun _ e=>nomatch e⟩
 | int i=>
  obtain ⟨t,rfl⟩:=r
  cases (show T = "int" from ty)
  exact ⟨typeIs_int s i t,fun _ e=>nomatch e⟩
 | ref p=>
  cases r
  rcases ty with ⟨rfl,xs,hq⟩ | ⟨rfl,o,hk,hc,hd⟩ | ⟨rfl,hk⟩ | ⟨rfl,S,n,hk⟩
  ·obtain ⟨its,_,pl,_⟩:=I.list hq
   refine ⟨pl.isList.typeIs,fun a e=>?_⟩
   cases e
   obtain ⟨o,n,e,c,hd,_⟩:=pl
   exact ⟨o,e,hd⟩
  ·refine ⟨⟨o,I.kIn p o hk,hc⟩,fun a e=>?_⟩
   cases e
   exact ⟨o,I.kIn _ o hk,hd⟩
  ·have z:∃ o,s.heap.get? p=some o∧o.ExactDict:=by
    rcases hk with ⟨kvs,hk⟩ | ⟨kvs,hk⟩
    ·obtain ⟨_,_,_,_,o,_,_,e,ex,_⟩:=I.hok p _ hk
     exact ⟨o,e,ex⟩
    ·obtain ⟨_,_,_,_,o,_,_,e,ex,_⟩:=I.hok p _ hk
     exact ⟨o,e,ex⟩
   obtain ⟨o,e,ex⟩:=z
   refine ⟨⟨o,e,ex.1⟩,fun a e2=>?_⟩
   cases e2
   exact ⟨o,e,ex.2.1⟩
  ·obtain ⟨o,_,_,_,e,ex,_⟩:=I.hok p _ hk
   refine ⟨⟨o,e,ex.1⟩,fun a e2=>?_⟩
   cases e2
   exact ⟨o,e,ex.2.1⟩
 | _=>exact False.elim ty
noncomputable def tBM (K:PySem.W.Frag) (T:String) (r:V→List V→Hp→VK→Prop) (to:TE) (t:TA):TE:=fun σ H Q=>to σ H fun x H1=>tyV K T x H1∧t σ H1 fun xs H2=>r x xs H2 Q
variable {o e:Expr} {es:List Expr} {to:TE} {t:TA} {name:Str} {apos cpos:Pos} {T id:String} {r:V→List V→Hp→VK→Prop}
theorem rg (pa:PlainAttrs T) (slot:Slot T name id) (hty:typeOf (.builtin id)=pure (.type "method_descriptor")) (hm:MtR X id r) (ho:PE X o to) (ha:PA X (e :: es) t)
  (hbase:attributeBase o name X.env (eval o X.env)=eval o X.env:=by rfl)
  (hfew:((backTo cpos (starEach (e :: es) X.env)).all (fun x=>!x.1) && (backToKw cpos (keywordEach [] X.env)).all (fun x=>x.1.isSome)
   && decide ((e :: es).length + ([]:List Keyword).length + (if ([]:List Keyword).isEmpty then 0 else 1) < 30))=true:=by rfl)
  (hline:(apos.endLine == cpos.line)=true:=by rfl) (hs:starEach (e :: es) X.env=(false,eval e X.env) :: starEach es X.env:=by rfl) (hplain:(backTo cpos (starEach es X.env)).any (·.1)=false:=by rfl) :
  PE X (.Call (.Attribute o name apos) (e :: es) [] cpos) (tBM X.K T r to t):=by
 intro pins s σ H Q I h
 refine wpAny_Call_method_late hbase hfew hline rfl (thn (ho pins s σ H _ I h) fun v s1 hZ1=>?_)
 obtain ⟨x,H1,I1,r1,ty,q1⟩:=hZ1
 obtain ⟨h1,h2⟩:=oK I1 r1 ty
 refine ⟨T,id,pa,slot,hty,h1,h2,?_⟩
 have hA:=ha cpos pins s1 σ H1 _ I1 q1
 rw [hs] at hA ⊢
 refine Calls.callWith_builtin (by show (false || (backTo cpos (starEach es X.env)).any (·.1))=false;rw [hplain] <;> rfl) (Calls.evalArgs_plain ?_)
 exact thn hA fun us s2 ⟨vs,H2,I2,r2,q2⟩=>hm pins s2 σ H2 x vs v us Q I2 r1 r2 q2
end
end L2
namespace L2
open PySem PySem.Spec PyProof.Rows
noncomputable def MtM (X:Cx) (id:String) (r:V→List V→Hp→VK→Prop):Prop:=
 ∀ (pins:List (Addr × Obj)) (s:Shared) (σ:St) (H:Hp) (x:V) (xs:List V) (v:Value) (us:List Value) (Q:VK),Inv X pins σ H s→Od x v→Jd xs us→r x xs H Q →
  wpAny (model X.prog X.w) X.A (call (.builtin id) (v :: us)) (EP X pins σ Q) X.xe s
theorem Jd.one:∀ {x:V} {us:List Value},Jd [x] us→∃ u,us=[u]∧Od x u
 | _,_,.cons r .nil=>⟨_,rfl,r⟩
theorem Jd.two:∀ {x y:V} {us:List Value},Jd [x,y] us→∃ u v,us=[u,v]∧Od x u∧Od y v
 | _,_,_,.cons r (.cons q .nil)=>⟨_,_,rfl,r,q⟩
theorem Jd.zero:∀ {us:List Value},Jd [] us→us=[]
 | _,.nil=>rfl
theorem Jd.eraseIdx:∀ {xs:List V} {us:List Value} (i:Nat),Jd xs us→Jd (xs.eraseIdx i) (us.eraseIdx i)
 | _,_,_,.nil=>.nil
 | _,_,0,.cons _ t=>t
 | _,_,i + 1,.cons r t=>.cons r (Jd.eraseIdx i t)
theorem Wv {α:Type}:∀ (l:List α) (i:Nat),(l.eraseIdx i).length ≤ l.length
 | [],_=>Nat.le_refl _
 | _ :: _,0=>Nat.le_succ _
 | _ :: r,i + 1=>Nat.succ_le_succ (Wv r i)
section
variable {X:Cx} {pins:List (Addr × Obj)} {σ:St} {H:Hp} {s:Shared} {l b:Addr} {xs ys zs:List V}
theorem Inv.lset {its its':List Value} {n:Nat} {f:Array Value→Array Value} {t':Nat} (I:Inv X pins σ H s) (hH:H l=some (.lst xs))
  (e:s.heap.get? l=some { cls:=.type "list",data:=.seq its.toArray n }) (hf:f its.toArray=its'.toArray) (hv:Jd ys its') (hz:ys.length ≤ sizeLine) :
  Inv X pins σ (upd H l (.lst ys)) { s with heap:=s.heap.update l (Obj.mapSeq f),toks:=t' }:=by
 have q:=PySem.IsL.update e f
 rw [hf] at q
 refine I.write (x:=l) (e:=l) (by rw [hH];exact trivial) (.inl rfl) (fun b' u hb hu=>(Heap.get?_update_other s.heap (Obj.mapSeq f) (Ne.symm hb)).trans hu) ⟨_,q⟩ ?_
 exact ⟨hz,its',_,hv,q⟩
theorem Inv.fresh (I:Inv X pins σ H s):H s.heap.objs.size=none:=I.hok.fresh (Nat.le_refl _)
theorem Inv.lstM (I:Inv X pins σ H s) (hH:H l=some (.lst xs)):xs.length ≤ sizeLine∧∃ (its:List Value) (n:Nat),Jd xs its∧xs.length=its.length∧s.heap.get? l=some { cls:=.type "list",data:=.seq its.toArray n }:=by
 obtain ⟨z,its,n,r,e⟩:=I.hok l _ hH
 exact ⟨z,its,n,r,r.length,e⟩
theorem pE {n:Nat} (h:n ≤ sizeLine):Builtin.List.listTooLong n=false:=by
 unfold Builtin.List.listTooLong
 exact decide_eq_false (by omega)
end
section
variable {X:Cx}
noncomputable def jB:V→List V→Hp→VK→Prop:=fun x vs H Q=>∃ l xs y,x=.ref l∧vs=[y]∧H l=some (.lst xs)∧xs.length < sizeLine∧Q .non (upd H l (.lst (xs ++ [y])))
theorem ge:MtM X "list.append" jB:=by
 intro pins s σ H x vs v us Q I rx rv h
 obtain ⟨l,xs,y,rfl,rfl,hH,hz,q⟩:=h
 cases rx
 obtain ⟨u,rfl,ru⟩:=rv.one
 obtain ⟨z,its,n,r,hl,e⟩:=I.lstM hH
 refine call_meets F.slot_list_append ⟨_,e,rfl⟩ F.entry_list_append (F.args_list_append_2 _ _) (PySem.list_append l its.toArray n u (by rw [List.size_toArray];omega)) ⟨e,?_⟩
 refine ⟨.non,_,I.lset (its':=its ++ [u]) hH e (by simp) (r.append (.cons ru .nil)) ?_,rfl,q⟩
 rw [List.length_append,List.length_singleton]
 omega
noncomputable def aB:V→List V→Hp→VK→Prop:=fun x vs H Q=>∃ l b xs zs,x=.ref l∧vs=[.ref b]∧H l=some (.lst xs)∧H b=some (.lst zs)∧xs.length + zs.length ≤ sizeLine∧Q .non (upd H l (.lst (xs ++ zs)))
theorem So:MtM X "list.extend" aB:=by
 intro pins s σ H x vs v us Q I rx rv h
 obtain ⟨l,b,xs,zs,rfl,rfl,hH,hB,hz,q⟩:=h
 cases rx
 obtain ⟨u,rfl,ru⟩:=rv.one
 cases ru
 obtain ⟨z,its,n,r,hl,e⟩:=I.lstM hH
 obtain ⟨z2,its2,n2,r2,hl2,e2⟩:=I.lstM hB
 have hsz:its.toArray.size + its2.toArray.size ≤ sizeLine:=by rw [List.size_toArray,List.size_toArray];omega
 have hlong:¬ (!its.toArray.isEmpty && Builtin.List.listTooLong (its.toArray.size + its2.toArray.size))=true:=by
  rw [pE hsz,Bool.and_false]
  exact Bool.false_ne_true
 refine call_meets F.slot_list_extend ⟨_,e,rfl⟩ F.entry_list_extend (F.args_list_extend_2 _ _)
  (AutoSeq1.list_extend_list_list_0 l its.toArray n b its2.toArray n2 hlong (by rw [List.size_toArray];omega) (by omega)) ⟨e,e2,?_⟩
 refine ⟨.non,_,I.lset (its':=its ++ its2) hH e (by simp) (r.append r2) ?_,rfl,q⟩
 rw [List.length_append]
 omega
noncomputable def ZG:V→List V→Hp→VK→Prop:=fun x vs H Q=>∃ l xs i k y,x=.ref l∧vs=[.int i]∧H l=some (.lst xs)∧-(2 ^ 63) ≤ i∧i < 2 ^ 63∧seqIndex? i xs.length=some k∧xs[k]? = some y∧Q y (upd H l (.lst (xs.eraseIdx k)))
theorem zE:MtM X "list.pop" ZG:=by
 intro pins s σ H x vs v us Q I rx rv h
 obtain ⟨l,xs,i,k,y,rfl,rfl,hH,h1,h2,hk,hy,q⟩:=h
 cases rx
 obtain ⟨u,rfl,ru⟩:=rv.one
 obtain ⟨t,rfl⟩:=ru
 obtain ⟨z,its,n,r,hl,e⟩:=I.lstM hH
 obtain ⟨w,hw,rw'⟩:=r.get hy
 refine call_meets F.slot_list_pop ⟨_,e,rfl⟩ F.entry_list_pop (F.args_list_pop_2 _ _)
  (MeetsSeq.list_pop_at l its.toArray n i t k w (fitsIndex_both h1 h2) (by rw [List.size_toArray,← hl];exact hk) (by rw [← Array.getElem?_toList];exact hw) (by rw [List.size_toArray];omega)) ⟨e,?_⟩
 refine ⟨y,_,I.lset (its':=its.eraseIdx k) hH e ?_ (r.eraseIdx k) ?_,rw',q⟩
 ·show its.toArray.eraseIdxIfInBounds k=(its.eraseIdx k).toArray
  rw [List.eraseIdxIfInBounds_toArray]
 ·have:=Wv xs k
  omega
end
section
variable {prog:Program} {w:World} {A:Around} {E:Value→Shared→Prop} {s:Shared}
end
section
variable {X:Cx}
end
end L2
namespace L2
open PySem PySem.Spec PyProof.Rows
section
variable {κ:Type} [DecidableEq κ]
noncomputable def nj (kvs:List (κ × V)) (k:κ):Option V:=(kvs.find? fun kv=>decide (kv.1=k)).map (·.2)
noncomputable def Cn (kvs:List (κ × V)) (k:κ) (v:V):List (κ × V):=
 if (kvs.any fun kv=>decide (kv.1=k))=true then kvs.map (fun kv=>if kv.1=k then (kv.1,v) else kv) else kvs ++ [(k,v)]
noncomputable def sJ (kvs:List (κ × V)) (k:κ):List (κ × V):=kvs.filter fun kv=>decide (kv.1 ≠ k)
theorem pf {p:κ × V} {r:List (κ × V)} {k:κ} (e:p.1=k):nj (p :: r) k=some p.2:=by simp [nj,List.find?_cons,e]
theorem lf {p:κ × V} {r:List (κ × V)} {k:κ} (e:¬ p.1=k):nj (p :: r) k=nj r k:=by simp [nj,List.find?_cons,e]
theorem Io (k:κ):∀ kvs:List (κ × V),(kvs.any fun kv=>decide (kv.1=k))=(nj kvs k).isSome
 | []=>rfl
 | p :: r=>by
  rw [List.any_cons]
  by_cases e:p.1=k
  ·simp only [pf e,decide_eq_true e,Bool.true_or,Option.isSome_some]
  ·rw [lf e,decide_eq_false e,Bool.false_or];exact Io k r
theorem Oy (k j:κ) (y:V):∀ kvs:List (κ × V),nj (kvs.map fun kv=>if kv.1=k then (kv.1,y) else kv) j=(nj kvs j).map fun x=>if j=k then y else x
 | []=>rfl
 | p :: r=>by
  have ih:=Oy k j y r
  rw [List.map_cons]
  by_cases h:p.1=k
  ·rw [if_pos h]
   by_cases e:p.1=j
   ·rw [pf (p:=(p.1,y)) e,pf e,Option.map_some,if_pos (e.symm.trans h)]
   ·rw [lf (p:=(p.1,y)) e,lf e,ih]
  ·rw [if_neg h]
   by_cases e:p.1=j
   ·rw [pf (p:=p) e,pf e,Option.map_some,if_neg (fun z=>h (e.trans z))]
   ·rw [lf (p:=p) e,lf e,ih]
theorem Lv (k j:κ) (y:V):∀ kvs:List (κ × V),nj kvs k=none→nj (kvs ++ [(k,y)]) j=if j=k then some y else nj kvs j
 | [],_=>by
  by_cases e:k=j
  ·rw [if_pos e.symm];exact pf (p:=(k,y)) e
  ·rw [if_neg (fun z=>e z.symm)];exact lf (p:=(k,y)) e
 | p :: r,hn=>by
  rw [List.cons_append]
  have hk:¬ p.1=k:=fun z=>by rw [pf z] at hn;cases hn
  rw [lf hk] at hn
  have ih:=Lv k j y r hn
  by_cases e:p.1=j
  ·rw [pf e,pf e,if_neg (fun z=>hk (e.trans z))]
  ·rw [lf e,lf e,ih]
theorem Ly (kvs:List (κ × V)) (k j:κ) (y:V):nj (Cn kvs k y) j=if j=k then some y else nj kvs j:=by
 unfold Cn
 by_cases a:(kvs.any fun kv=>decide (kv.1=k))=true
 ·rw [if_pos a,Oy]
  rw [Io] at a
  by_cases e:j=k
  ·obtain ⟨x,hx⟩:=Option.isSome_iff_exists.mp a
   rw [if_pos e,e,hx,Option.map_some,if_pos rfl]
  ·rw [if_neg e]
   cases nj kvs j with
   | none=>rfl
   | some x=>rw [Option.map_some,if_neg e]
 ·rw [if_neg a]
  refine Lv k j y kvs ?_
  rw [Io] at a
  cases q:nj kvs k with
  | none=>rfl
  | some x=>rw [q] at a;exact (a rfl).elim
theorem lq (kvs:List (κ × V)) (k:κ) (v:V):(Cn kvs k v).length ≤ kvs.length + 1:=by
 unfold Cn
 split
 ·rw [List.length_map];omega
 ·rw [List.length_append,List.length_cons,List.length_nil];omega
theorem yr.isSome_eq {o:Option V} {u:Option Value} (r:yr o u):o.isSome=u.isSome:=by
 cases o with
 | none=>cases u with
  | none=>rfl
  | some _=>exact (show False from r).elim
 | some _=>cases u with
  | none=>exact (show False from r).elim
  | some _=>rfl
theorem yr.getD {o:Option V} {u:Option Value} {d:V} {d':Value} (r:yr o u) (rd:Od d d'):Od (o.getD d) (u.getD d'):=by
 cases o with
 | none=>cases u with
  | none=>exact rd
  | some _=>exact (show False from r).elim
 | some _=>cases u with
  | none=>exact (show False from r).elim
  | some _=>exact r
theorem KV.val {kvs:List (κ × V)} {vs:List (κ × Value)} (r:KV kvs vs) (k:κ):yr (nj kvs k) (valueAt vs k):=by
 unfold KV at r
 induction r with
 | nil=>exact True.intro
 | @cons p q ps qs h t ih=>
  obtain ⟨h1,h2⟩:=h
  by_cases e:p.1=k
  ·have e':q.1=k:=h1.symm.trans e
   have b:valueAt (q :: qs) k=some q.2:=by simp [valueAt,List.find?_cons,e']
   rw [pf e,b];exact h2
  ·have e':¬ q.1=k:=fun z=>e (h1.trans z)
   have b:valueAt (q :: qs) k=valueAt qs k:=by simp [valueAt,List.find?_cons,e']
   rw [lf e,b];exact ih
theorem KV.any {kvs:List (κ × V)} {vs:List (κ × Value)} (r:KV kvs vs) (k:κ):(kvs.any fun kv=>decide (kv.1=k))=vs.any fun kv=>decide (kv.1=k):=by
 unfold KV at r
 induction r with
 | nil=>rfl
 | cons h t ih=>rw [List.any_cons,List.any_cons,ih,h.1]
theorem KV.repl {kvs:List (κ × V)} {vs:List (κ × Value)} (r:KV kvs vs) (k:κ) {y:V} {u:Value} (ry:Od y u) :
  KV (kvs.map fun kv=>if kv.1=k then (kv.1,y) else kv) (vs.map fun kv=>if kv.1=k then (kv.1,u) else kv):=by
 unfold KV at r ⊢
 induction r with
 | nil=>exact .nil
 | @cons p q ps qs h t ih=>
  rw [List.map_cons,List.map_cons]
  refine .cons ?_ ih
  obtain ⟨h1,h2⟩:=h
  by_cases e:p.1=k
  ·rw [if_pos e,if_pos (h1.symm.trans e)];exact ⟨h1,ry⟩
  ·rw [if_neg e,if_neg (fun z=>e (h1.trans z))];exact ⟨h1,h2⟩
theorem KV.put {kvs:List (κ × V)} {vs:List (κ × Value)} (r:KV kvs vs) (k:κ) {y:V} {u:Value} (ry:Od y u):KV (Cn kvs k y) (stored vs k u):=by
 unfold Cn stored
 rw [r.any k]
 by_cases e:(vs.any fun kv=>decide (kv.1=k))=true
 ·rw [if_pos e,if_pos e];exact r.repl k ry
 ·rw [if_neg e,if_neg e];exact Paired.snoc r ⟨rfl,ry⟩
theorem KV.drop {kvs:List (κ × V)} {vs:List (κ × Value)} (r:KV kvs vs) (k:κ):KV (sJ kvs k) (without vs k):=by
 unfold KV at r ⊢
 unfold sJ without
 induction r with
 | nil=>exact .nil
 | @cons p q ps qs h t ih=>
  obtain ⟨h1,h2⟩:=h
  rw [List.filter_cons,List.filter_cons]
  by_cases e:p.1=k
  ·have a:¬ decide (p.1 ≠ k)=true:=by simp [e]
   have b:¬ decide (q.1 ≠ k)=true:=by simp [h1.symm.trans e]
   rw [if_neg a,if_neg b];exact ih
  ·have e':¬ q.1=k:=fun z=>e (h1.trans z)
   have a:decide (p.1 ≠ k)=true:=by simp [e]
   have b:decide (q.1 ≠ k)=true:=by simp [e']
   rw [if_pos a,if_pos b];exact .cons ⟨h1,h2⟩ ih
theorem KV.length {kvs:List (κ × V)} {vs:List (κ × Value)} (r:KV kvs vs):kvs.length=vs.length:=Paired.length r
end
theorem IE {P:Program} {w:World} {k:Key} {u:Value} (r:Od (kV k) u):(Te P w).is k u=true:=by
 cases k with
 | inl i=>obtain ⟨t,e⟩:=(show ∃ t,u=Value.int i t from r);subst e;exact Zw P w i t
 | inr x=>obtain ⟨t,e⟩:=(show ∃ t,u=Value.str x t from r);subst e;exact zw P w x t
theorem jw {P:Program} {w:World}:∀ {ks:List Key} {us:List Value},Jd (ks.map kV) us→ItemsAre (Te P w) ks us
 | [],_,r=>by rw [List.map_nil] at r;cases r;exact .nil
 | k :: ks,_,r=>by
  rw [List.map_cons] at r
  cases r with
  | cons h t=>exact .cons (IE h) (jw t)
noncomputable abbrev KT (H:Hp):List (List Key × V)→List (List Key × Addr × Value)→Prop:=Paired fun p q=>p.1=q.1∧H q.2.1=some (.tup (p.1.map kV))∧Od p.2 q.2.2
theorem KT.val {H:Hp} {kvs:List (List Key × V)} {xs:List (List Key × Addr × Value)} (r:KT H kvs xs) (k:List Key):yr (nj kvs k) ((atKey xs k).map (·.2)):=by
 induction r with
 | nil=>exact True.intro
 | @cons p q ps qs h t ih=>
  obtain ⟨h1,_,h2⟩:=h
  by_cases e:p.1=k
  ·have e':q.1=k:=h1.symm.trans e
   have b:atKey (q :: qs) k=some q.2:=by simp [atKey,List.find?_cons,e']
   rw [pf e,b];exact h2
  ·have e':¬ q.1=k:=fun z=>e (h1.trans z)
   have b:atKey (q :: qs) k=atKey qs k:=by simp [atKey,List.find?_cons,e']
   rw [lf e,b];exact ih
theorem KT.repl {H:Hp} {kvs:List (List Key × V)} {xs:List (List Key × Addr × Value)} (r:KT H kvs xs) (k:List Key) {y:V} {u:Value} (ry:Od y u) :
  KT H (kvs.map fun kv=>if kv.1=k then (kv.1,y) else kv) (xs.map (putAt k u)):=by
 induction r with
 | nil=>exact .nil
 | @cons p q ps qs h t ih=>
  rw [List.map_cons,List.map_cons]
  refine .cons ?_ ih
  obtain ⟨h1,h2,h3⟩:=h
  unfold putAt
  by_cases e:p.1=k
  ·rw [if_pos e,if_pos (h1.symm.trans e)];exact ⟨h1,h2,ry⟩
  ·rw [if_neg e,if_neg (fun z=>e (h1.trans z))];exact ⟨h1,h2,h3⟩
theorem KT.put {H:Hp} {kvs:List (List Key × V)} {xs:List (List Key × Addr × Value)} (r:KT H kvs xs) (k:List Key) {b:Addr} {y:V} {u:Value} (hb:H b=some (.tup (k.map kV))) (ry:Od y u) :
  KT H (Cn kvs k y) (storedH xs k b u):=by
 have e:(kvs.any fun kv=>decide (kv.1=k))=(atKey xs k).isSome:=by
  rw [Io,(r.val k).isSome_eq,Option.isSome_map]
 unfold Cn storedH
 rw [e]
 by_cases q:(atKey xs k).isSome=true
 ·rw [if_pos q,if_pos q];exact r.repl k ry
 ·rw [if_neg q,if_neg q];exact Paired.snoc r ⟨rfl,hb,ry⟩
theorem KT.keeps {H H':Hp} {kvs:List (List Key × V)} {xs:List (List Key × Addr × Value)} (r:KT H kvs xs) (ht:∀ b ys,H b=some (.tup ys)→H' b=some (.tup ys)):KT H' kvs xs:=
 Paired.mapP r fun _ _ z=>⟨z.1,ht _ _ z.2.1,z.2.2⟩
section
variable {P:Program} {w:World} {H:Hp} {h:Heap} {a:Addr}
theorem GJ {u:HO} (ok:HOk P w H h) (e:Rd H a u):md P w H h a u:=e.ok ok
theorem OF {kvs:List (Key × V)} (ok:HOk P w H h) (e:Rd H a (.dK kvs)):kvs.length ≤ sizeLine∧(a == sysModules)=false∧∃ vs,KV kvs vs∧h.DictOf (Te P w) a vs:=
 show md P w H h a (.dK kvs) from GJ ok e
theorem tL {kvs:List (Key × V)} (ok:HOk P w H h) (e:H a=some (.dK kvs)):kvs.length ≤ sizeLine∧(a == sysModules)=false∧∃ vs,KV kvs vs∧h.DictOf (Te P w) a vs:=OF ok (.inl e)
theorem wy {ks:List Key} (ok:HOk P w H h) (e:H a=some (.tup (ks.map kV))):(tupleKind (Te P w)).is h ks a:=by
 obtain ⟨_,its,r,o,h1,h2,n,h3⟩:=(show md P w H h a (.tup (ks.map kV)) from ok a _ e)
 exact ⟨o,its.toArray,n,h1,h2,h3,by simpa using jw r⟩
theorem xF {kvs:List (List Key × V)} (ok:HOk P w H h) (e:Rd H a (.dT kvs)):kvs.length ≤ sizeLine∧(a == sysModules)=false ∧
  ∃ xs,KT H kvs xs∧h.DictOfH (tupleKind (Te P w)) a xs:=by
 obtain ⟨z,y,xs,r,o,es,ep,h1,h2,h3,h4,h5⟩:=(show md P w H h a (.dT kvs) from GJ ok e)
 refine ⟨z,y,xs,r,o,es,ep,h1,h2,h3,h4,fun x hx=>?_,h5⟩
 have all:∀ {l:List (List Key × V)} {m:List (List Key × Addr × Value)},KT H l m→∀ x ∈ m,(tupleKind (Te P w)).is h x.1 x.2.1:=by
  intro l m q
  induction q with
  | nil=>intro x hx;exact nomatch hx
  | @cons p q ps qs hq t ih=>
   intro x hx
   rcases List.mem_cons.mp hx with e | hx
   ·subst e
    exact wy ok (by rw [← hq.1];exact hq.2.1)
   ·exact ih x hx
 exact all r x hx
theorem DL {kvs:List (List Key × V)} (ok:HOk P w H h) (e:H a=some (.dT kvs)):kvs.length ≤ sizeLine∧(a == sysModules)=false ∧
  ∃ xs,KT H kvs xs∧h.DictOfH (tupleKind (Te P w)) a xs:=xF ok (.inl e)
end
noncomputable def Su (H:Hp) (a:Addr) (y:V) (r:Option V):Prop:=
 (∃ kvs k,Rd H a (.dK kvs)∧y=kV k∧r=nj kvs k)∨∃ kvs k b,Rd H a (.dT kvs)∧y=.ref b∧H b=some (.tup (k.map kV))∧r=nj kvs k
noncomputable def AD (H:Hp) (a:Addr) (y v:V) (H':Hp):Prop:=
 (∃ kvs k,H a=some (.dK kvs)∧y=kV k∧kvs.length < sizeLine∧H'=upd H a (.dK (Cn kvs k v))) ∨
 ∃ kvs k b,H a=some (.dT kvs)∧y=.ref b∧H b=some (.tup (k.map kV))∧kvs.length < sizeLine∧H'=upd H a (.dT (Cn kvs k v))
theorem Su.k {H:Hp} {a:Addr} {kvs:List (Key × V)} {k:Key} (e:H a=some (.dK kvs)):Su H a (kV k) (nj kvs k):=.inl ⟨kvs,k,.inl e,rfl,rfl⟩
theorem Su.t {H:Hp} {a b:Addr} {kvs:List (List Key × V)} {k:List Key} (e:H a=some (.dT kvs)) (eb:H b=some (.tup (k.map kV))):Su H a (.ref b) (nj kvs k):=.inr ⟨kvs,k,b,.inl e,rfl,eb,rfl⟩
theorem AD.k {H:Hp} {a:Addr} {kvs:List (Key × V)} {k:Key} {v:V} (e:H a=some (.dK kvs)) (hl:kvs.length < sizeLine):AD H a (kV k) v (upd H a (.dK (Cn kvs k v))):=.inl ⟨kvs,k,e,rfl,hl,rfl⟩
theorem AD.t {H:Hp} {a b:Addr} {kvs:List (List Key × V)} {k:List Key} {v:V} (e:H a=some (.dT kvs)) (eb:H b=some (.tup (k.map kV))) (hl:kvs.length < sizeLine) :
  AD H a (.ref b) v (upd H a (.dT (Cn kvs k v))):=.inr ⟨kvs,k,b,e,rfl,eb,hl,rfl⟩
section
variable {X:Cx} {pins:List (Addr × Obj)} {σ:St} {H:Hp} {s:Shared} {a:Addr} {y v:V} {u r:Value} {o:Option V} {A:Around} {E:Value→Shared→Prop}
theorem Inv.big (I:Inv X pins σ H s):sysModules < s.heap.objs.size:=by
 have h:mainGlobals < s.heap.objs.size:=(I.mod.glob.keeps I.bk).lt
 exact Nat.lt_trans (by decide) h
theorem UA {Q:Value→Shared→Prop} (hu:A.units + 1 < cLine) (I:Inv X pins σ H s) (g:Su H a y (some v)) (ry:Od y u) (h:∀ w' s',Inv X pins σ H s'→Od v w'→Q w' s') :
  wpAny (model X.prog X.w) A (getItem (.ref a) u) Q E s:=by
 rcases g with ⟨kvs,k,e,ey,l⟩ | ⟨kvs,k,b,e,ey,eb,l⟩
 ·subst ey
  obtain ⟨z,hd,vs,rel,dd⟩:=OF I.hok e
  obtain ⟨w',hw,rw'⟩:=yr.some_of (v:=v) (o:=valueAt vs k) (by rw [l];exact rel.val k)
  exact wpAny_getItem_of (IE ry) dd.mapOf hw (h w' _ (I.tok _) rw')
 ·subst ey
  cases (show u=Value.ref b from ry)
  obtain ⟨z,hd,xs,rel,dd⟩:=xF I.hok e
  obtain ⟨w',hw,rw'⟩:=yr.some_of (v:=v) (o:=(atKey xs k).map (·.2)) (by rw [l];exact rel.val k)
  obtain ⟨p,hp,hp2⟩:=Option.map_eq_some_iff.mp hw
  refine wpAny_getItem_heap (tupleKind_room_in1 hu) (wy I.hok eb) dd hp ?_
  rw [hp2]
  exact h w' _ (I.tok _) rw'
theorem kI {Q:Value→Shared→Prop} (hu:A.units + 1 < cLine) (I:Inv X pins σ H s) (g:Su H a y o) (ry:Od y u) (h:∀ s',Inv X pins σ H s'→Q (.bool (!o.isSome)) s') :
  wpAny (model X.prog X.w) A (compareOp .NotIn u (.ref a)) Q E s:=by
 rcases g with ⟨kvs,k,e,ey,l⟩ | ⟨kvs,k,b,e,ey,eb,l⟩
 ·subst ey
  obtain ⟨z,hd,vs,rel,dd⟩:=OF I.hok e
  refine wpAny_notIn_of (IE ry) hd dd.mapOf ?_
  rw [← (rel.val k).isSome_eq,← l]
  exact h _ (I.tok _)
 ·subst ey
  cases (show u=Value.ref b from ry)
  obtain ⟨z,hd,xs,rel,dd⟩:=xF I.hok e
  refine wpAny_notIn_heap (tupleKind_room_in1 hu) (wy I.hok eb) hd dd ?_
  have q:=(rel.val k).isSome_eq
  rw [Option.isSome_map] at q
  rw [← q,← l]
  exact h _ (I.tok _)
theorem RA {h':Heap} {t':Nat} {ob:HO} (I:Inv X pins σ H s) (mu:Mut (H a)) (hs:Heap.SameBut a s.heap h') (he:∃ q,h'.get? a=some q) (new:md X.prog X.w (upd H a ob) h' a ob) :
  Inv X pins σ (upd H a ob) { s with heap:=h',toks:=t' }:=
 I.write (x:=a) (e:=a) mu (.inl rfl) (fun b q hb z=>(hs.2 b hb).trans z) he new
theorem mJ {P:Program} {w:World} {H':Hp} {h':Heap} {kvs:List (Key × V)} {vs:List (Key × Value)} (z:kvs.length ≤ sizeLine) (hd:(a == sysModules)=false) (rel:KV kvs vs) (dd:h'.DictOf (Te P w) a vs) :
  md P w H' h' a (.dK kvs):=⟨z,hd,vs,rel,dd⟩
theorem Hu {H':Hp} {Q:Unit→Shared→Prop} (hu:A.units + 1 < cLine) (I:Inv X pins σ H s) (g:AD H a y v H') (ry:Od y u) (rv:Od v r) (h:∀ s',Inv X pins σ H' s'→Q () s') :
  wpAny (model X.prog X.w) A (setItem (.ref a) u r) Q E s:=by
 rcases g with ⟨kvs,k,e,ey,l,eH⟩ | ⟨kvs,k,b,e,ey,eb,l,eH⟩
 ·subst ey eH
  obtain ⟨z,hd,vs,rel,dd⟩:=tL I.hok e
  have hz:vs.length ≤ sizeLine:=by rw [← rel.length];exact z
  have hl:(Cn kvs k v).length ≤ sizeLine:=by have:=lq kvs k v;omega
  refine wpAny_setItem_pairs (hsz:=hz) (IE ry) dd fun h' dd' hs=>h _ ?_
  have he:∃ q,h'.get? a=some q:=let ⟨q,_,_,hq,_⟩:=dd';⟨q,hq⟩
  exact RA I (by rw [e];exact True.intro) hs he (mJ hl hd (rel.put k rv) dd')
 ·subst ey eH
  cases (show u=Value.ref b from ry)
  obtain ⟨z,hd,xs,rel,dd⟩:=DL I.hok e
  have hz:xs.length ≤ sizeLine:=by rw [← Paired.length rel];exact z
  have hl:(Cn kvs k v).length ≤ sizeLine:=by have:=lq kvs k v;omega
  refine wpAny_setItem_heap (hsz:=hz) (tupleKind_room_in1 hu) (wy I.hok eb) dd fun h' dd' hs=>h _ ?_
  obtain ⟨q,es,ep,hq,h2,h3,h4,_,h5⟩:=dd'
  refine RA I (by rw [e];exact True.intro) hs ⟨q,hq⟩ ⟨hl,hd,_,(rel.put k eb rv).keeps fun c ys ec=>?_,q,es,ep,hq,h2,h3,h4,h5⟩
  rw [lb (Xd ec e (fun z=>nomatch z))]
  exact ec
end
section
variable {X:Cx} {pins:List (Addr × Obj)} {σ:St} {H:Hp} {s:Shared} {a:Addr} {kvs:List (Key × V)} {k:Key} {u:Value} {A:Around} {E:Value→Shared→Prop}
end
noncomputable def VL (i:Expr):Prop:=∀ ov iv,subscripted i false ov iv=operate [ov,iv] (getItem ov iv)
theorem sI {prog:Program} {w:World} {A:Around} {E:Value→Shared→Prop} {s:Shared} {env:Env} {value slice:Expr} {pos:Pos} {T id:String} {Q:Value→Shared→Prop}
  (hl:typeLookup (.type T) "__getitem__"=pure (some (.builtin id))) (hs:VL slice)
  (h:wpAny (model prog w) A (eval value env) (fun o s₁=>wpAny (model prog w) A (eval slice env) (fun i s₂=>s₂.TypeIs o T∧wpAny (model prog w) A (getItem o i) Q E s₂) E s₁) E s) :
  wpAny (model prog w) A (eval (.Subscript value slice pos) env) Q E s:=by
 refine Subscript_ (wpAny_mono h (fun o s₁ h₁=>wpAny_mono h₁ (fun i s₂ h₂=>?_) fun _ _ x=>x) fun _ _ x=>x)
 obtain ⟨hT,h₂⟩:=h₂
 unfold subscriptTail
 refine wpAny_bind ?_
 rw [getitemInPython_of_ne hT.not_modules]
 refine wpAny_bind (wpAny_specialOf hT hl ?_)
 have fin:wpAny (model prog w) A (subscripted slice false o i) (fun r s₃=>wpAny (model prog w) A (letTemporaryGo value o r >>= fun _=>pure r) Q E s₃) E s₂:=by
  rw [hs o i]
  exact wpAny_operating (wpAny_mono h₂ (fun r s₃ h₃=>wpAny_bind (wpAny_letTemporaryGo (wpAny_pure h₃))) fun _ _ x=>x)
 first
  | exact wpAny_pure (wpAny_bind fin)
  | exact wpAny_bind (wpAny_pure (wpAny_bind fin))
  | exact wpAny_bind fin
theorem Kx {X:Cx} {pins:List (Addr × Obj)} {σ:St} {H:Hp} {s:Shared} {a:Addr} {y:V} {o:Option V} (I:Inv X pins σ H s) (g:Su H a y o):s.TypeIs (.ref a) "dict" := by
 rcases g with ⟨kvs,k,e,_,_⟩ | ⟨kvs,k,b,e,_,_,_⟩
 ·obtain ⟨_,_,vs,_,dd⟩:=OF I.hok e
  exact dd.typeIs
 ·obtain ⟨_,_,xs,_,dd⟩:=xF I.hok e
  exact dd.typeIs
noncomputable def YJ (td ty:TE):TE:=fun σ H Q=>td σ H fun x H1=>ty σ H1 fun y H2=>∃ a v,x=.ref a∧Su H2 a y (some v)∧Q v H2
noncomputable def WA (ty td:TE):TE:=fun σ H Q=>ty σ H fun y H1=>td σ H1 fun x H2=>∃ a o,x=.ref a∧Su H2 a y o∧Q (.bl (!o.isSome)) H2
noncomputable def zK (td ty tv:TE):TS:=fun D σ H=>tv σ H fun v H1=>td σ H1 fun x H2=>ty σ H2 fun y H3=>∃ a H4,x=.ref a∧AD H3 a y v H4∧D.nx σ H4
section
variable {X:Cx} {o i e value:Expr} {pos pos' tpos:Pos} {td ty tv:TE}
theorem AC (hu:X.A.units + 1 < cLine) (ho:PE X o td) (hi:PE X i ty) (hs:VL i):PE X (.Subscript o i pos) (YJ td ty):=by
 intro pins s σ H Q I h
 refine sI PySem.F.slot_dict_getitem.lookup hs (thn (ho pins s σ H _ I h) fun u s1 ⟨x,H1,I1,rx,q1⟩=>thn (hi pins s1 σ H1 _ I1 q1) fun iv s2 hZ1=>?_)
 obtain ⟨y,H2,I2,ry,a,v,ex,g,q2⟩:=hZ1
 subst ex
 obtain rfl:u=Value.ref a:=rx
 exact ⟨Kx I2 g,UA hu I2 g ry fun w' s3 I3 rw'=>⟨v,H2,I3,rw',q2⟩⟩
theorem Wu (hu:X.A.units + 1 < cLine) (hi:PE X i ty) (ho:PE X o td):PC X .NotIn i o (WA ty td):=by
 intro pins s σ H Q I h
 refine thn (hi pins s σ H _ I h) fun iv s1 ⟨y,H1,I1,ry,q1⟩=>thn (ho pins s1 σ H1 _ I1 q1) fun u s2 hZ1=>?_
 obtain ⟨x,H2,I2,rx,a,ov,ex,g,q2⟩:=hZ1
 subst ex
 obtain rfl:u=Value.ref a:=rx
 exact kI hu I2 g ry fun s3 I3=>⟨.bl (!ov.isSome),H2,I3,rfl,q2⟩
theorem zB (hu:X.A.units + 1 < cLine) (ho:PE X o td) (hi:PE X i ty) (hv:PE X value tv) (hs:swapsWith value (some (.Subscript o i pos')) pos.line X.env=pure false) :
  PS X (.Assign [.Subscript o i pos'] value pos) (zK td ty tv):=by
 intro pins s σ H D I h
 refine wpAny_Assign_Subscript (thn (hv pins s σ H _ I h) fun r s1 ⟨v,H1,I1,rv,q1⟩=>thn (ho pins s1 σ H1 _ I1 q1) fun u s2 ⟨x,H2,I2,rx,q2⟩=>thn (hi pins s2 σ H2 _ I2 q2) fun iv s3 hZ1=>?_) hs
 obtain ⟨y,H3,I3,ry,a,H4,ex,g,q3⟩:=hZ1
 subst ex
 obtain rfl:u=Value.ref a:=rx
 exact Hu hu I3 g ry rv fun s4 I4=>⟨σ,H4,I4,q3⟩
end
theorem oF {P:Program} {w:World} {H:Hp} (h:Heap) (hb:sysModules < h.objs.size):md P w H (h.push { cls:=.type "dict",data:=.dict #[] }) h.objs.size (.dK []):=
 ⟨Nat.zero_le _,beq_eq_false_iff_ne.mpr (Ne.symm (Nat.ne_of_lt hb)),[],.nil,Heap.DictOf.new h⟩
theorem sF {P:Program} {w:World} {H:Hp} (h:Heap) (hb:sysModules < h.objs.size):md P w H (h.push { cls:=.type "dict",data:=.dict #[] }) h.objs.size (.dT []):=
 ⟨Nat.zero_le _,beq_eq_false_iff_ne.mpr (Ne.symm (Nat.ne_of_lt hb)),[],.nil,_,#[],0,Heap.get?_push_size _ rfl,⟨rfl,rfl,rfl⟩,rfl,rfl,List.nodup_nil⟩
noncomputable def RG:TE:=fun _ H Q=>∀ p,H p=none→Q (.ref p) (upd H p (.dK []))
noncomputable def XG:TE:=fun _ H Q=>∀ p,H p=none→Q (.ref p) (upd H p (.dT []))
section
variable {X:Cx} {pos:Pos}
theorem ay:PE X (.Dict [] [] pos) RG:=fun pins s σ H Q I h=>
 wpAny_Dict_empty ⟨.ref s.heap.objs.size,_,I.laid (a:=s.heap.objs.size) (o:=.dK []) (t':=s.toks) (fun _ _ q=>Heap.get?_push_of_some _ q) (Nat.le_refl _) (oF s.heap I.big),rfl,h _ (I.hok.fresh (Nat.le_refl _))⟩
theorem bE:PE X (.Dict [] [] pos) XG:=fun pins s σ H Q I h=>
 wpAny_Dict_empty ⟨.ref s.heap.objs.size,_,I.laid (a:=s.heap.objs.size) (o:=.dT []) (t':=s.toks) (fun _ _ q=>Heap.get?_push_of_some _ q) (Nat.le_refl _) (sF s.heap I.big),rfl,h _ (I.hok.fresh (Nat.le_refl _))⟩
end
structure M1 (X:Cx) (o:Expr) (m:Str) (apos:Pos) (e:Expr) (cpos:Pos):Prop where
 base:attributeBase o m X.env (eval o X.env)=eval o X.env
 few:((backTo cpos (starEach [e] X.env)).all (fun x=>!x.1) && (backToKw cpos (keywordEach [] X.env)).all (fun x=>x.1.isSome)
  && decide (([e]:List Expr).length + ([]:List Keyword).length + (if ([]:List Keyword).isEmpty then 0 else 1) < 30))=true
 line:(apos.endLine == cpos.line)=true
 trees:backTo cpos (starEach [e] X.env)=[(false,eval e X.env)]
structure M2 (X:Cx) (o:Expr) (m:Str) (apos:Pos) (e f:Expr) (cpos:Pos):Prop where
 base:attributeBase o m X.env (eval o X.env)=eval o X.env
 few:((backTo cpos (starEach [e,f] X.env)).all (fun x=>!x.1) && (backToKw cpos (keywordEach [] X.env)).all (fun x=>x.1.isSome)
  && decide (([e,f]:List Expr).length + ([]:List Keyword).length + (if ([]:List Keyword).isEmpty then 0 else 1) < 30))=true
 line:(apos.endLine == cpos.line)=true
 trees:backTo cpos (starEach [e,f] X.env)=[(false,eval e X.env),(false,eval f X.env)]
section
variable {X:Cx} {pins:List (Addr × Obj)} {σ:St} {H:Hp} {s:Shared} {a:Addr} {y d:V} {u r:Value} {o:Option V} {A:Around} {E:Value→Shared→Prop}
end
section
variable {X:Cx} {o e f:Expr} {apos cpos:Pos} {td ty tx:TE}
end
section
variable {X:Cx} {pins:List (Addr × Obj)} {σ:St} {H:Hp} {s:Shared} {a:Addr} {kvs:List (Key × V)} {A:Around} {E:Value→Shared→Prop}
end
section
variable {X:Cx} {pins:List (Addr × Obj)} {σ:St} {H:Hp} {s:Shared} {a:Addr} {y:V} {u:Value} {A:Around} {E:Value→Shared→Prop}
end
end L2
namespace Att
open PySem PySem.W PySem.Calls PyProof.Rows
theorem Bp {P:Params} {h:Heap}:∀ (ns:List Int) (vs:List Value),WellAll P h vs (ns.map WData.int)→IntsAre vs ns:=by
 intro ns
 induction ns with
 | nil=>
  intro vs w
  rw [List.map_nil] at w
  cases w
  exact .nil
 | cons n ns ih=>
  intro vs w
  rw [List.map_cons] at w
  cases w with
  | cons a b=>
   cases a
   exact .cons _ _ (ih _ b)
theorem ZB {l:OpenLaw} {n:Nat} (hn:l.most=some n) {P:Params} {h:Heap} {args:List WData} {vals:List Value}
  (hpre:l.row.toRowW.claim.pre args=true) (hwl:WellAll P h vals args) :
  ∃ a vs ns,vals=[Value.ref a]∧args=[WData.list (ns.map WData.int)]∧h.get? a=some { cls:=.type "list",data:=.seq vs.toArray }∧IntsAre vs ns∧ns.length ≤ n:=by
 have hsh:WShape.hasAll [] args [.list .int]=true:=(pre_splitW hpre).1
 have hc:l.pre.holds [] { args:=args }=true:=(pre_splitW hpre).2
 obtain ⟨d,r,rfl,h1,h2⟩:=hasAllW_cons hsh
 obtain rfl:=hasAllW_nil h2
 obtain ⟨xs,rfl,h3⟩:=hasW_list h1
 obtain ⟨ns,rfl⟩:=items_int h3
 have hlen:ns.length ≤ n:=by
  unfold OpenLaw.pre at hc
  have h4:(WTm.not (.lt (.lit (.int (n:Int))) (.len (.arg 0)))).holds [] { args:=[.list (ns.map .int)] }=true:=by
   have h4:=(holds_andW hc).1
   rw [hn] at h4
   exact h4
  have h5:=condW_of h4 (w_not (w_lt w_lit (w_len_list (w_arg rfl))))
  rw [List.length_map] at h5
  refine Nat.le_of_not_lt fun q=>?_
  have q':(n:Int) < ((ns.length:Nat):Int):=by omega
  first
   | (rw [decide_eq_true q'] at h5;exact absurd h5 (by decide))
   | (simp at h5;omega)
 cases hwl with
 | cons w1 w2=>
  cases w2
  cases w1 with
  | list ho hall=>exact ⟨_,_,ns,rfl,rfl,ho,Bp ns _ hall,hlen⟩
theorem LB (l:OpenLaw) (args:List WData):l.row.toRowW.claim.post args (.bool true) args=true:=
 postW_of (r:=l.row.toRowW) (X:=(true == true))
  (show WShape.has [] (.bool true) .bool=true by first | rfl | decide | simp [WShape.has,WShape.arms,WShape.armsAll])
  (show (WTm.eq .res (.lit (.bool true))).value [] { args:=args,res:=some (.bool true),after:=args }=some (.bool (true == true)) from w_eq_bool (w_res rfl) w_lit) rfl
theorem attach_call {l:OpenLaw} {n:Nat} {q:Program} {loose:List Str} {XP:(Str→Option Value)→Heap→Prop} {YP:World→Heap→Prop} {d:DefRec}
  (hn:l.most=some n) (hdf:d.params.defaults=[])
  (call:∀ (w:World) (s₀ s₁:Shared) (mg mb:Str→Option Value) (fa:Addr) (o:Obj) (pm cd doc:Value) (a:Addr) (vs:List Value) (ns:List Int),
   Ground q loose [] XP w s₀ mg mb s₁.heap→YP w s₁.heap →
   s₁.heap.get? fa=some o→o.data=.func (docDef d.name d.params d.body d.scope pm cd doc)→s₁.heap.CodeRec cd d.name→mg d.name=some (.ref fa) →
   s₁.heap.get? a=some { cls:=.type "list",data:=.seq vs.toArray }→IntsAre vs ns→ns.length ≤ n→s₁.gens=#[] →
   codeAny (model l.prog w) callerA (.call (.ref fa) ⟨[.ref a],[]⟩) (fun r s'=>r=.ok (.ret (.bool true))∧OldK s₁.heap s'.heap∧s'.os=s₁.os∧AllBare s'.gens) s₁) :
  WalkO q loose XP YP l.row.toRowW d [] (fun f vs=>PySem.call f vs):=by
 intro w s₀ s₁ mg mb G Y fa o pm cd doc dV kV ho hd hcd hD hmg hg args vals as hpre hlay hrd hwl hlo
 obtain rfl:dV=.none:=Dflts.none hD hdf
 obtain rfl:kV=.none:=Dflts.noKw hD
 obtain ⟨a,vs,ns,rfl,rfl,hobj,hints,hlen⟩:=ZB hn hpre hwl
 refine enter_call (codeAny_mono (call w s₀ s₁ mg mb fa o pm cd doc a vs ns G Y ho (fd_plain hd) hcd hmg hobj hints hlen hg) fun r s' hq=>?_)
 obtain ⟨rfl,h2,h3,h4⟩:=hq
 exact ⟨.inl ⟨.bool true,.bool true,[],rfl,fun _=>rfl,.bool true,LB l _,fun _=>⟨List.Pairwise.nil,fun _ hm=>(nomatch hm)⟩⟩,h2,h3,h4⟩
section
variable {prog:Program} {w:World} {A:Around} {E:Value→Shared→Prop} {s:Shared} {K:Frag}
end
end Att
namespace L2
open PySem PySem.Spec PyProof.Rows
theorem Tv:∀ {vs:List Value} {ns:List Int},IntsAre vs ns→Jd (ns.map V.int) vs
 | _,_,.nil=>.nil
 | _,_,.cons n t h=>.cons ⟨t,rfl⟩ (Tv h)
noncomputable def jJ (H:Hp):Prop:=∀ b,H b=none∨∃ o xs,H b=some (.frz o (.lst xs))
theorem WF {P:Program} {w:World} {K:PySem.W.Frag} {mg mb:Str→Option Value} {CX:CXT} {k:Nat} {fa a:Addr} {fd:FuncData} {x:Str} {sp:Sp} {s₁:Shared} {vs:List Value} {ns:List Int}
  (KX:K.In s₁.heap) (hns:s₁.heap.Ns mainGlobals mg) (hb:s₁.heap.Ns builtinsNs mb) (hbb:∀ x:Str,x ≠ "__name__" → mb x=bootBuiltins x) (hlim:s₁.heap.NoLimit) (hg:s₁.gens=#[])
  (ha:s₁.heap.get? a=some { cls:=.type "list",data:=.seq vs.toArray }) (hi:IntsAre vs ns) (hl:ns.length ≤ sizeLine) (hr:Yi k callerA)
  (F:∀ base:Heap,K.In base→base.Ns mainGlobals mg→Jb P w K mg base CX k fa fd [x] sp) (hbind:∀ (s:Shared) (u:Value),BindsTo s fd ⟨[u],[]⟩ [(x,u)])
  (hsp:∀ H:Hp,jJ H→SqL K H a (ns.map V.int)→sp [.ref a] H (fun v _=>v=.bl true) fun _ _ _=>False)
  (hCX:∀ H e s',CX [] H s₁ (fun _ _ _=>False) e s'→False) :
  codeAny (model P w) callerA (.call (.ref fa) ⟨[.ref a],[]⟩) (fun r s'=>r=.ok (.ret (.bool true))∧OldK s₁.heap s'.heap∧s'.os=s₁.os∧AllBare s'.gens) s₁:=by
 have rv:=Tv hi
 have lenV:=hi.length
 -- from an abstract heap in which nothing but the script may be tracked
 have core:∀ H:Hp,jJ H→SqL K H a (ns.map V.int)→HOk P w H s₁.heap→(∀ b,H b ≠ none→b=a)→(H a ≠ none→K.lookup a=none) →
   codeAny (model P w) callerA (.call (.ref fa) ⟨[.ref a],[]⟩) (fun r s'=>r=.ok (.ret (.bool true))∧OldK s₁.heap s'.heap∧s'.os=s₁.os∧AllBare s'.gens) s₁:=by
  intro H hO hS hok hA hK
  have base_of:∀ {b:Addr} {o:Obj},s₁.heap.get? b=some o→H b=none→(BE s₁.heap H).get? b=some o:=fun e n=>eF e n
  have noA:∀ {b:Addr} {o:Obj} {es:Array DictEntry} {ep:Nat},s₁.heap.get? b=some o→o.data=.dict es ep→H b=none:=fun {b o es ep} e d=>by
   cases q:H b with
   | none=>rfl
   | some u=>
    have e':b=a:=hA b (by rw [q];simp)
    subst e'
    rw [ha] at e;cases e
    have d':Data.seq vs.toArray _=Data.dict es ep:=d
    cases d'
  have nsK:∀ {b:Addr} {m:Str→Option Value},s₁.heap.Ns b m→(BE s₁.heap H).Ns b m:=fun {b m} ⟨o,es,ep,e,d,r⟩=>⟨o,es,ep,base_of e (noA e d),d,r⟩
  have hKb:K.In (BE s₁.heap H):=fun b o e=>base_of (KX b o e) (by
   cases q:H b with
   | none=>rfl
   | some u=>
    have e':b=a:=hA b (by rw [q];simp)
    subst e'
    rw [hK (by rw [q];simp)] at e;cases e)
  have hM:Mod K mg (BE s₁.heap H):=⟨hKb,nsK hns,⟨mb,nsK hb,hbb⟩,let ⟨mc,h1,h2⟩:=hlim;⟨mc,nsK h1,h2⟩⟩
  have e0:FA P w K mg (BE s₁.heap H) callerA [] s₁ H:=⟨rfl,hM,fun b o e=>tH e,Nat.le_of_eq (KC _ _),trivial,fun b hb=>absurd (show b ∈ ([]:List Addr) from hb) (by simp),hok,.of_eq hg⟩
  refine codeAny_mono ((F _ hKb (nsK hns)).run callerA [] s₁ H ⟨[.ref a],[]⟩ [.ref a] [.ref a] _ _ hr e0 (hbind s₁ (.ref a)) (.cons rfl .nil) (hsp H hO hS)) fun r s' h=>?_
  cases r with
  | error e=>exact (hCX H e s' h).elim
  | ok fl=>
   cases fl with
   | next=>exact False.elim h
   | brk=>exact False.elim h
   | cont=>exact False.elim h
   | ret u=>
    obtain ⟨v,H',os,bare,un,hok',r',q⟩:=h
    have q':v=.bl true:=q
    subst q'
    obtain rfl:u=Value.bool true:=r'
    refine ⟨rfl,OldK.of_keep fun b o e=>?_,os,bare⟩
    cases q:H b with
    | none=>exact un.keep b o e q (by intro z;exact absurd (show b ∈ ([]:List Addr) from z) (by simp)) (by simp)
    | some u=>
     rcases hO b with z | ⟨ob,xs,z⟩
     ·rw [q] at z;cases z
     ·have z2:=un.frzs b ob _ z
      obtain ⟨e1,_⟩:=hok b _ z
      obtain ⟨e2,_⟩:=hok' b _ z2
      rw [e] at e1;cases e1
      exact e2
 cases hk:K.lookup a with
 | some o=>
  -- the script is one of the module's own objects
  have e:=KX a o hk
  rw [ha] at e
  cases e
  refine core (fun _=>none) (fun _=>.inl rfl) (.inr ⟨_,vs.toArray,_,hk,rfl,rfl,rfl,by rw [List.size_toArray,lenV];exact hl,by simpa using rv⟩) (fun b u z=>by have z':(none:Option HO)=some u:=z;cases z') (fun b z=>absurd rfl z) fun z=>absurd rfl z
 | none=>
  refine core (fun b=>if b=a then some (.frz { cls:=.type "list",data:=.seq vs.toArray } (.lst (ns.map V.int))) else none) (fun b=>?_) (.inl (.inr ⟨{ cls:=.type "list",data:=.seq vs.toArray },if_pos rfl⟩)) (fun b u z=>?_) (fun b z=>?_) fun _=>hk
  ·by_cases hb:b=a
   ·exact .inr ⟨_,_,if_pos hb⟩
   ·exact .inl (if_neg hb)
  ·by_cases hb:b=a
   ·have z':=(if_pos hb).symm.trans z
    cases z'
    subst hb
    exact ⟨ha,by rw [List.length_map];exact hl,vs,_,rv,ha⟩
   ·have z':=(if_neg hb).symm.trans z
    cases z'
  ·by_cases hb:b=a
   ·exact hb
   ·exact absurd (if_neg hb) z
end L2
namespace L2
open PySem PySem.Spec PyProof.Rows
noncomputable abbrev KOf {K:PySem.W.Frag} {h:Heap} (_:K.In h):PySem.W.Frag:=K
theorem MH {l:PySem.W.OpenLaw} {n k:Nat} {q:Program} {loose:List Str} {XP:(Str→Option Value)→Heap→Prop} {YP:World→Heap→Prop} {d:DefRec} {K:Params→PySem.W.Frag} {CX:World→CXT} {sp:World→Sp} {x:Str}
  (hn:l.most=some n) (hn2:n ≤ sizeLine) (hdf:d.params.defaults=[]) (hr:Yi k callerA)
  (hY:∀ (w:World) (h:Heap),YP w h→(K w.params).In h)
  (F:∀ (w:World) (mg:Str→Option Value) (fa:Addr) (h:Heap),(K w.params).In h→h.Ns mainGlobals mg→mg d.name=some (.ref fa) →
   ∃ fd:FuncData,(∀ (s:Shared) (u:Value),BindsTo s fd ⟨[u],[]⟩ [(x,u)]) ∧
    ∀ base:Heap,(K w.params).In base→base.Ns mainGlobals mg→Jb l.prog w (K w.params) mg base (CX w) k fa fd [x] (sp w))
  (hsp:∀ (w:World) (H:Hp) (a:Addr) (ns:List Int),ns.length ≤ n→jJ H→SqL (K w.params) H a (ns.map V.int)→sp w [.ref a] H (fun v _=>v=.bl true) fun _ _ _=>False)
  (hCX:∀ (w:World) (H:Hp) (s:Shared) (e:Value) (s':Shared),CX w [] H s (fun _ _ _=>False) e s'→False) :
  PySem.W.WalkO q loose XP YP l.row.toRowW d [] (fun f vs=>PySem.call f vs):=by
 refine Att.attach_call hn hdf fun w s₀ s₁ mg mb fa o pm cd doc a vs ns G Y ho hd hcd hmg hobj hints hlen hg=>?_
 have KX:=hY w _ Y
 obtain ⟨fd,hb,hF⟩:=F w mg fa _ KX G.T.g hmg
 exact WF KX G.T.g G.T.b G.T.builtins G.T.nolimit hg hobj hints (Nat.le_trans hlen hn2) hr hF hb (fun H hO hS=>hsp w H a ns hlen hO hS) fun H e s'=>hCX w H s₁ e s'
theorem PF {l:PySem.W.OpenLaw} {n k:Nat} {q:Program} {loose:List Str} {XP:(Str→Option Value)→Heap→Prop} {YP:World→Heap→Prop} {d:DefRec} {K:Params→PySem.W.Frag} {CX:CXT} {sp:PySem.W.Frag→Sp} {x:Str}
  (hn:l.most=some n) (hn2:n ≤ sizeLine) (hdf:d.params.defaults=[]) (hr:Yi k callerA)
  (hY:∀ (w:World) (h:Heap),YP w h→(K w.params).In h)
  (F:∀ (w:World) (mg:Str→Option Value) (fa:Addr) (h:Heap),(K w.params).In h→h.Ns mainGlobals mg→mg d.name=some (.ref fa) →
   ∃ fd:FuncData,(∀ (s:Shared) (u:Value),BindsTo s fd ⟨[u],[]⟩ [(x,u)]) ∧
    ∀ base:Heap,(K w.params).In base→base.Ns mainGlobals mg→Jb l.prog w (K w.params) mg base CX k fa fd [x] (sp (K w.params)))
  (hsp:∀ (K:PySem.W.Frag) (H:Hp) (a:Addr) (ns:List Int),ns.length ≤ n→jJ H→SqL K H a (ns.map V.int)→sp K [.ref a] H (fun v _=>v=.bl true) fun _ _ _=>False)
  (hCX:∀ (H:Hp) (s:Shared) (e:Value) (s':Shared),CX [] H s (fun _ _ _=>False) e s'→False) :
  PySem.W.WalkO q loose XP YP l.row.toRowW d [] (fun f vs=>PySem.call f vs):=
 MH (K:=K) (CX:=fun _=>CX) (sp:=fun w=>sp (K w.params)) hn hn2 hdf hr hY F (fun w H a ns h1 h2 h3=>hsp (K w.params) H a ns h1 h2 h3) fun _ H s e s'=>hCX H s e s'
end L2
namespace L2
open PySem PySem.Spec PyProof.Rows
noncomputable def Uc (s:Stmt) (j:Nat):Stmt:=match s with
 | .ClassDef _ _ _ body _ _ _ _ _ _ _=>body.getD j (.Pass ⟨0,0,0,0⟩)
 | _=>.Pass ⟨0,0,0,0⟩
noncomputable def ot (s:Stmt):Arguments:=match s with
 | .FunctionDef _ a _ _ _ _ _ _ _ _=>a
 | _=>{ posonlyargs:=[],args:=[],vararg:=none,kwonlyargs:=[],kw_defaults:=[],kwarg:=none,defaults:=[] }
noncomputable def Ym (s:Stmt):List Stmt:=match s with
 | .FunctionDef _ _ b _ _ _ _ _ _ _=>b
 | _=>[]
noncomputable def jb (s:Stmt):Scope:=match s with
 | .FunctionDef _ _ _ _ _ _ sc _ _ _=>sc
 | _=>{ kind:=.function,names:=[],isGenerator:=false,isCoroutine:=false }
noncomputable abbrev CX0:CXT:=fun _ _ _ _ _ _=>False
noncomputable abbrev E0:XK:=fun _ _ _=>False
theorem Db {X:Cx}:dl CX0 X E0:=fun _ _ _ _ _ _ _ h=>h.elim
structure Fun (K:PySem.W.Frag) (x qual:Str) (st:Stmt) (f:Addr) (fd:FuncData):Prop where
 ex:∃ (oc:Value) (od:Option Addr) (kV doc pm:Value) (an:Option Addr) (cdv ct:Value) (osl:Array (Option Value)),
  fd=PySem.W.fnOf x qual (ot st) (Ym st) (jb st) .none kV doc pm an cdv ct∧K.lookup f=some ⟨oc,od,.func fd,osl⟩∧PySem.W.codeIn K cdv qual=true
 kp:PySem.W.keepIn K (.ref f)=true
section
variable {P:Program} {w:World} {K:PySem.W.Frag} {mg:Str→Option Value} {base:Heap}
theorem Fun.ok {x qual:Str} {st:Stmt} {f:Addr} {fd:FuncData} {N ps:List Str} {k:Nat} {sp:Sp} (F:Fun K x qual st f fd) (S:yb N ps (jb st)) (len:∀ vs H Q E,sp vs H Q E→vs.length=ps.length)
  (hbody:∀ (cdv:Value) (A:Around) (outer:List Env) (s:Shared) (H:Hp) (vs:List V) (Q:VK) (E:XK),Yi k (A.deeper (envOfC qual (jb st) s.heap.objs.size f cdv))→sp vs H Q E →
   ∃ t,PSs (gD CX0 P w K mg base N qual (jb st) f cdv A outer s H E).nox (Ym st) t∧t { nx:=fun _ H'=>Q .non H',rt:=Q } (start N vs) H):Jb P w K mg base CX0 (k + 1) f fd ps sp:=by
 obtain ⟨oc,od,kV,doc,pm,an,cdv,ct,osl,rfl,lk,hcd⟩:=F.ex
 refine jK lk hcd S len fun A outer s H vs Q E hr hsp=>?_
 obtain ⟨t,h,q⟩:=hbody cdv A outer s H vs Q E hr hsp
 exact ⟨t,h.nox,q⟩
theorem Fun.binds {x qual:Str} {st:Stmt} {f:Addr} {fd:FuncData} {ps:List Str} (F:Fun K x qual st f fd)
  (h:∀ (kV doc pm:Value) (an:Option Addr) (cdv ct:Value) (us:List Value),us.length=ps.length→bindArgs (PySem.W.fnOf x qual (ot st) (Ym st) (jb st) .none kV doc pm an cdv ct) ⟨us,[]⟩=pure (ps.zip us)):Yb K fd ps []:=by
 obtain ⟨oc,od,kV,doc,pm,an,cdv,ct,osl,rfl,lk,hcd⟩:=F.ex
 exact .all (h kV doc pm an cdv ct)
theorem iJ {x qual:Str} {st:Stmt} {f:Addr} {oc:Value} {od an:Option Addr} {osl:Array (Option Value)} {kV doc pm cdv ct:Value} (l:K.lookup f=some ⟨oc,od,.func (PySem.W.fnOf x qual (ot st) (Ym st) (jb st) .none kV doc pm an cdv ct),osl⟩)
  (c:PySem.W.codeIn K cdv qual=true) (k:PySem.W.keepIn K (.ref f)=true):Fun K x qual st f (PySem.W.fnOf x qual (ot st) (Ym st) (jb st) .none kV doc pm an cdv ct):=⟨⟨oc,od,kV,doc,pm,an,cdv,ct,osl,rfl,l,c⟩,k⟩
end
theorem Iz {A:Around} {k:Nat} (hr:Yi k A):A.units + 1 < cLine:=Nat.lt_of_le_of_lt (Nat.add_le_add_left (by decide:1 ≤ 64) _) hr.units
section
variable {X:Cx}
theorem pv (i:Nat) {x:Str} {pos:Pos} (hN:X.N[i]? = some x:=by rfl) (hv:Vis X.env.scope x:=by first | exact Or.inl rfl | exact Or.inr (Or.inl rfl) | exact Or.inr (Or.inr rfl)) (hd:(x == ("__debug__" : Str))=false:=by decide)
  (hcd:(x == ("__classdict__" : Str))=false:=by decide):PE X (.Name x pos) (jL i):=qJ hN hv hd hcd
end
noncomputable def ac (H H':Hp):Prop:=∀ b o,H b=some o→H' b=some o
theorem ac.refl (H:Hp):ac H H:=fun _ _ h=>h
theorem ac.trans {H H1 H2:Hp} (a:ac H H1) (b:ac H1 H2):ac H H2:=fun c o h=>b c o (a c o h)
theorem ac.free {H H':Hp} (e:ac H H') {l:Addr} (h:H' l=Option.none):H l=Option.none:=by
 cases q:H l with
 | none=>rfl
 | some o=>
  rw [e l o q] at h
  cases h
theorem ac.seq {K:PySem.W.Frag} {H H':Hp} {a:Addr} {xs:List V} (e:ac H H') (h:SqL K H a xs):SqL K H' a xs:=by
 rcases h with (h | ⟨o,h⟩) | h
 ·exact .inl (.inl (e _ _ h))
 ·exact .inl (.inr ⟨o,e _ _ h⟩)
 ·exact .inr h
section
variable {κ:Type} [DecidableEq κ]
end
end L2
set_option maxHeartbeats 4000000
namespace L2
open PySem PySem.Spec PyProof.Rows
noncomputable def iu (cells:List (Str × Addr)):List (Str × NameKind)→List (Str × Addr)→List (Str × Addr)
 | [],acc=>acc
 | (n,k) :: r,acc=>if k == .free then (match cells.lookup n with | some c=>iu cells r ((n,c) :: acc) | none=>iu cells r acc) else iu cells r acc
theorem vw {env:Env}:∀ (names:List (Str × NameKind)) (acc:List (Str × Addr)),(∀ y ∈ names,y.2=.free→∃ c,env.cells.lookup y.1=some c) →
  (forIn names acc (fun (x:Str × NameKind) (cs:List (Str × Addr))=>(if (x.2 == .free)=true then do let a ← cellOf env x.1;pure (ForInStep.yield ((x.1,a) :: cs)) else pure (ForInStep.yield cs):Sem (ForInStep (List (Str × Addr))))))=pure (iu env.cells names acc)
 | [],acc,_=>rfl
 | (n,k) :: r,acc,h=>by
  have hr:∀ y ∈ r,y.2=.free→∃ c,env.cells.lookup y.1=some c:=fun y hy=>h y (List.mem_cons_of_mem _ hy)
  rw [List.forIn_cons]
  by_cases hk:(k == NameKind.free)=true
  ·have e:k=.free:=by simpa using hk
   obtain ⟨c,hc⟩:=h (n,k) List.mem_cons_self e
   have hc':env.cells.lookup n=some c:=hc
   simp only [iu,hk,if_true,hc',cellOf]
   exact vw r _ hr
  ·simp only [iu,hk]
   exact vw r _ hr
theorem BA {scope:Scope} {env:Env} (h:∀ y ∈ scope.names,y.2=.free→∃ c,env.cells.lookup y.1=some c):closureFor scope env=pure (iu env.cells scope.names []):=by
 unfold closureFor
 exact congrArg (fun t=>t >>= pure) (vw scope.names [] h)
theorem Ho {cells:List (Str × Addr)}:∀ (names:List (Str × NameKind)) (acc:List (Str × Addr)) {x:Str} {c:Addr},(iu cells names acc).lookup x=some c→acc.lookup x=some c∨cells.lookup x=some c
 | [],acc,x,c,h=>.inl h
 | (n,k) :: r,acc,x,c,h=>by
  unfold iu at h
  split at h
  ·cases q:cells.lookup n with
   | none=>rw [q] at h;exact Ho r acc h
   | some d=>
    rw [q] at h
    rcases Ho r _ h with z | z
    ·rw [List.lookup_cons] at z
     by_cases hx:(x == n)=true
     ·rw [hx] at z
      have e:x=n:=by simpa using hx
      subst e
      right;rw [q];exact z
     ·have hx':(x == n)=false:=by simpa using hx
      rw [hx'] at z;exact .inl z
    ·exact .inr z
  ·exact Ho r acc h
theorem om {cells:List (Str × Addr)}:∀ (names:List (Str × NameKind)) (acc:List (Str × Addr)) {x:Str} {c:Addr},acc.lookup x=some c→cells.lookup x=some c→(iu cells names acc).lookup x=some c
 | [],acc,x,c,h,_=>h
 | (n,k) :: r,acc,x,c,h,hc=>by
  unfold iu
  split
  ·cases q:cells.lookup n with
   | none=>exact om r acc h hc
   | some d=>
    refine om r _ ?_ hc
    rw [List.lookup_cons]
    by_cases hx:(x == n)=true
    ·have e:x=n:=by simpa using hx
     subst e
     rw [hx];rw [q] at hc;exact hc
    ·have hx':(x == n)=false:=by simpa using hx
     rw [hx'];exact h
  ·exact om r acc h hc
theorem Am {cells:List (Str × Addr)}:∀ (names:List (Str × NameKind)) (acc:List (Str × Addr)) {x:Str} {c:Addr},(x,NameKind.free) ∈ names→cells.lookup x=some c→(iu cells names acc).lookup x=some c
 | [],_,_,_,h,_=>nomatch h
 | (n,k) :: r,acc,x,c,h,hc=>by
  rcases List.mem_cons.mp h with e | h
  ·cases e
   unfold iu
   rw [if_pos (by decide),hc]
   refine om r _ ?_ hc
   rw [List.lookup_cons];simp
  ·unfold iu
   split
   ·cases q:cells.lookup n with
    | none=>exact Am r acc h hc
    | some d=>exact Am r _ h hc
   ·exact Am r acc h hc
theorem Vm {α:Type}:∀ {l:List (Str × α)} {x:Str} {a:α},l.lookup x=some a→(x,a) ∈ l
 | [],_,_,h=>by simp at h
 | (n,b) :: r,x,a,h=>by
  rw [List.lookup_cons] at h
  by_cases hx:(x == n)=true
  ·have e:x=n:=by simpa using hx
   subst e
   rw [hx] at h
   have e2:b=a:=Option.some.inj h
   subst e2
   exact List.mem_cons_self
  ·have hx':(x == n)=false:=by simpa using hx
   rw [hx'] at h
   exact List.mem_cons_of_mem _ (Vm h)
theorem Ew {env:Env} {scope:Scope} {x:Str} {k:NameKind} (h:(relabel scope env).names.lookup x=some k) (hk:k=.cell∨k=.free) (hc:∀ y ∈ scope.names,y.2 ≠ .cell):(x,NameKind.free) ∈ scope.names:=by
 have h1:=Vm h
 obtain ⟨⟨n,j⟩,hm,e⟩:=List.mem_map.mp h1
 have e':(if (j == NameKind.free && env.scope.kind == .function && env.kindOf n == some .cell)=true then (n,NameKind.cell) else (n,j))=(x,k):=e
 split at e'
 ·rename_i hcond
  have e1:n=x:=(Prod.mk.inj e').1
  subst e1
  have hj:j=.free:=by
   simp only [Bool.and_eq_true] at hcond
   simpa using hcond.1.1
  subst hj
  exact hm
 ·have e1:n=x:=(Prod.mk.inj e').1
  have e2:j=k:=(Prod.mk.inj e').2
  subst e1;subst e2
  rcases hk with z | z
  ·exact absurd z (hc _ hm)
  ·subst z;exact hm
theorem el {env:Env} {scope:Scope} {x:Str} (h:scope.names.lookup x=some .free):(relabel scope env).names.lookup x=some .cell∨(relabel scope env).names.lookup x=some .free:=by
 have all:∀ (names:List (Str × NameKind)),names.lookup x=some .free →
   (names.map fun (n,k)=>if (k == NameKind.free && env.scope.kind == .function && env.kindOf n == some .cell) then (n,NameKind.cell) else (n,k)).lookup x=some .cell ∨
   (names.map fun (n,k)=>if (k == NameKind.free && env.scope.kind == .function && env.kindOf n == some .cell) then (n,NameKind.cell) else (n,k)).lookup x=some .free:=by
  intro names
  induction names with
  | nil=>intro h;simp at h
  | cons p r ih=>
   obtain ⟨n,k⟩:=p
   intro h
   rw [List.map_cons]
   by_cases hx:(x == n)=true
   ·simp only [List.lookup_cons,hx] at h
    have hk:k=.free:=Option.some.inj h
    subst hk
    by_cases hc:(NameKind.free == NameKind.free && env.scope.kind == .function && env.kindOf n == some .cell)=true
    ·left;simp only [if_pos hc,List.lookup_cons,hx]
    ·right;simp only [if_neg hc,List.lookup_cons,hx]
   ·have hx':(x == n)=false:=by simpa using hx
    simp only [List.lookup_cons,hx'] at h
    by_cases hc:(k == NameKind.free && env.scope.kind == .function && env.kindOf n == some .cell)=true
    ·simp only [if_pos hc,List.lookup_cons,hx'];exact ih h
    ·simp only [if_neg hc,List.lookup_cons,hx'];exact ih h
 exact all scope.names h
noncomputable abbrev Cx.block (X:Cx) (scope:Scope) (C:Addr) (N:List Str) (s:Shared) (H:Hp) (fp:List Addr):Cx where
 prog:=X.prog
 w:=X.w
 K:=X.K
 mg:=X.mg
 base:=X.base
 A:=X.A
 N:=N
 s₀:=s
 H₀:=H
 env:=compEnvC scope (iu X.env.cells scope.names []) C X.env
 outer:=X.stack
 stack:=X.stack
 ex:=fp
 fn:=fun _=>false
 calm:=X.calm
 pn:=[]
 xe:=fun _ _=>False
structure Mn (env:Env) (scope:Scope):Prop where
 kind:scope.kind=.function
 nocell:∀ y ∈ scope.names,y.2 ≠ .cell
 fr:∀ y ∈ scope.names,y.2=.free→env.kindOf y.1=some .cell∨env.kindOf y.1=some .free
 loc:∀ x ∈ scope.names,x.2=.local→scope.names.lookup x.1=some .local
noncomputable def blk (sel:List (Option Nat)) (σ:St):St:=sel.map fun o=>o.bind fun j=>(σ[j]?).join
noncomputable def TB (M:List Str) (scope:Scope) (N:List Str) (sel:List (Option Nat)):Prop:=
 sel.length=N.length∧∀ (i j:Nat) (x:Str),sel[i]? = some (some j)→N[i]? = some x→M[j]? = some x∧scope.names.lookup x=some .free
section
variable {X:Cx} {pins:List (Addr × Obj)} {σ:St} {H:Hp} {s:Shared} {scope:Scope} {fp:List Addr} {C:Addr} {N:List Str}
theorem Mn.cells (S:Mn X.env scope) (ok:X.Ok):∀ y ∈ scope.names,y.2=.free→∃ c,X.env.cells.lookup y.1=some c:=fun y hy e=>ok.has y.1 (S.fr y hy e)
theorem js {x:Str} {c:Addr} (h:(iu X.env.cells scope.names []).lookup x=some c):X.env.cells.lookup x=some c:=by
 rcases Ho _ _ h with z | z
 ·simp at z
 ·exact z
theorem By (I:Inv X pins σ H s) (S:Mn X.env scope) (hf:∀ b ∈ fp,zu X pins H b) (hs:∀ b ∈ fp,b < s.heap.objs.size) (hC:s.heap.objs.size ≤ C):(X.block scope C N s H fp).Ok where
 mod:=I.ok.mod
 kind:=S.kind
 glob:=I.ok.glob
 blt:=I.ok.blt
 above:=hC
 inj:=fun x y c h1 h2=>I.ok.inj x y c (js h1) (js h2)
 has:=fun x h=>by
  have hk:∃ k,(relabel scope X.env).names.lookup x=some k∧(k=.cell∨k=.free):=by
   rcases h with h | h
   ·exact ⟨_,h,.inl rfl⟩
   ·exact ⟨_,h,.inr rfl⟩
  obtain ⟨k,h1,h2⟩:=hk
  have hm:=Ew h1 h2 S.nocell
  obtain ⟨c,hc⟩:=S.cells I.ok _ hm rfl
  exact ⟨c,Am _ _ hm hc⟩
 cab:=fun _ _ h _=>nomatch h
 hd:=I.ok.hd
 frames:=I.ok.frames
 stk:=.inl rfl
 exf:=fun b hb=>⟨Nat.ne_of_lt (Nat.lt_of_lt_of_le (hs b hb) hC),fun x c e=>(hf b hb).2.2.2.2.1 x c (js e)⟩
 bs:=I.bs
 bsz:=Nat.le_trans I.ok.bsz I.sz
 noex:=fun b o e hb=>by
  rcases (hf b hb).2.2.2.1 with z | z
  ·exact I.ok.noex b o e z
  ·exact absurd (Nat.lt_of_lt_of_le (Nat.lt_of_lt_of_le (Heap.lt_size e) I.ok.bsz) z) (Nat.lt_irrefl _)
 exfs:=fun b hb hz=>by
  rcases List.mem_cons.mp (I.stkSub b hz) with z | z
  ·exact (hf b hb).2.1 z
  ·exact (hf b hb).2.2.1 z
 funs:=I.stack
 frf:=I.stkFree
theorem AB {h':Heap} {t':Nat} {m:Str→Option Value} {sel:List (Option Nat)} (I:Inv X pins σ H s) (S:Mn X.env scope) (hf:∀ b ∈ fp,zu X pins H b) (hs:∀ b ∈ fp,b < s.heap.objs.size) (hC:s.heap.objs.size ≤ C)
  (k:∀ b o,s.heap.get? b=some o→h'.get? b=some o) (hn:h'.Ns C m) (hsel:TB X.N scope N sel):Inv (X.block scope C N s H fp) [] (blk sel σ) H { s with heap:=h',toks:=t' } where
 ok:=By I S hf hs hC
 os:=rfl
 bare:=I.bare
 base:=Un.kept k
 loc:=by
  refine ⟨m,hn,fun i x v e1 e2 e3=>?_⟩
  obtain ⟨m0,hn0,hl⟩:=I.loc
  obtain ⟨j,ej,eσ⟩:∃ j,sel[i]? = some (some j)∧σ[j]? = some (some v):=by
   unfold blk at e2
   rw [List.getElem?_map] at e2
   cases q:sel[i]? with
   | none=>rw [q] at e2;cases e2
   | some o=>
    rw [q] at e2
    cases o with
    | none=>cases e2
    | some j=>
     refine ⟨j,rfl,?_⟩
     have e2':(σ[j]?).join=some v:=Option.some.inj e2
     cases r:σ[j]? with
     | none=>rw [r] at e2';cases e2'
     | some z=>rw [r] at e2';exact congrArg some e2'
  obtain ⟨eN,hfr⟩:=hsel.2 i j x ej e1
  have hm:=Vm hfr
  have hk:=S.fr _ hm rfl
  have hv:Vis X.env.scope x:=hk.elim (fun z=>.inr (.inl z)) fun z=>.inr (.inr z)
  obtain ⟨u,r,l⟩:=hl j x v eN eσ hv
  refine ⟨u,r,?_⟩
  rcases l with ⟨hloc,_⟩ | ⟨_,c,hc,hcell⟩
  ·rcases hk with z | z <;> (have z':X.env.kindOf x=_:=z;rw [hloc] at z';cases z')
  ·refine .inr ⟨?_,c,Am _ _ hm hc,?_⟩
   ·exact el hfr
   ·obtain ⟨o,ho,hd⟩:=hcell
    exact ⟨o,k _ _ ho,hd⟩
 cell:=fun x c e=>by
  obtain ⟨v,o,ho,hd⟩:=I.cell x c (js e)
  exact ⟨v,o,k _ _ ho,hd⟩
 free:=I.hok.fresh hC
 freeC:=fun x c e=>I.freeC x c (js e)
 pin:=fun p hp=>nomatch hp
 hok:=I.hok.kept k
 len:=by unfold blk;rw [List.length_map];exact hsel.1
theorem Inv.adopt {a:Addr} {o:HO} (I:Inv X pins σ H s) (fo:zu X pins H a) (new:md X.prog X.w (upd H a o) s.heap a o):Inv X pins σ (upd H a o) s:=by
 obtain ⟨hn,hL,hfs,hex,hcl,hpn⟩:=fo
 refine I.step (g':=s.gens) (d':=s.drawn) (t':=s.toks) (h':=s.heap) (ch:=[a]) (fun b hb=>?_) (fun b o _ _ _ e _=>e) (fun b o _ _ _ e _=>⟨o.slots,e⟩) (fun b o hb e n=>?_) (fun b o _ e=>⟨o,e⟩)
  (fun b xs e=>?_) (fun b o u e=>?_) (fun b ps e=>⟨#[],?_⟩) (fun m hm=>hm) (fun b u e=>?_) I.bare
 ·have e:b=a:=by simpa using hb
  subst e
  exact ⟨hex,hL,hcl,hpn⟩
 ·rw [lb (fun z=>hb (by simp [z]))];exact n
 ·rw [lb (vb e hn)];exact e
 ·rw [lb (vb e hn)];exact e
 ·rw [lb (vb e hn),e];simp
 ·by_cases hb:b=a
  ·subst hb;rw [db] at e;cases e;exact new
  ·rw [lb hb] at e
   exact (I.hok b u e).stay (fun c v _ q=>q) (fun c q=>by rw [lb (vb q hn)];exact q) fun c xs q=>by rw [lb (vb q hn)];exact q
end
theorem Dk {prog:Program} {w:World} {A:Around} {R:Result→Shared→Prop} {s:Shared} {elt target iter:Expr} {ifs:List Expr} {scope:Scope} {pos:Pos} {it acc:Value} {env:Env} (I:Nat→Shared→Prop)
  (turn:∀ n s,I n s→wpAny (model prog w) A (pyNext it) (fun r s₁=>match r with
   | none=>R (.ok .next) s₁
   | some v=>wpAny (model prog w) A (letOwnedTupleGo target it v) (fun _ s₀=>wpAny (model prog w) A (assign target env v) (fun _ s₂=>
     wpAny (model prog w) A (forIn ifs true fun c r=>if r=true then do let ok ← isTrue c env (eval c env);pure (ForInStep.yield ok) else pure (ForInStep.yield r)) (fun ok s₃=>
      if ok=true then wpAny (model prog w) A (eval elt env) (fun x s₄=>
       wpAny (model prog w) A (call (.builtin "list.append") [acc,x]) (fun _ s₅=>∃ m,m < n∧I m s₅) (fun _ _=>False) s₄) (fun _ _=>False) s₃
      else ∃ m,m < n∧I m s₃) (fun _ _=>False) s₂) (fun _ _=>False) s₀) (fun _ _=>False) s₁) (fun _ _=>False) s)
  (n:Nat) (h:I n s) :
  codeAny (model prog w) A (.compLoop (.ListComp elt [⟨target,iter,ifs,0⟩] scope pos) 0 it acc env) R s:=by
 refine codeAny_loop rfl I (fun n s hI=>?_) n h
 show wpAny _ A ((compTurn (.ListComp elt [⟨target,iter,ifs,0⟩] scope pos) 0 it acc env).onRaise (fun x=>do noteFrame x env;theTreesLotGoes x)) _ _ s
 refine wpAny_noted (wpAny_noRaise ?_)
 rw [compTurn_list]
 refine wpAny_bind (wpAny_standAt (wpAny_bind (wpAny_mono (turn n s hI) (fun r s₁ h₁=>?_) fun _ _ h'=>h')))
 cases r with
 | none=>exact wpAny_pure h₁
 | some v=>
  refine wpAny_bind (wpAny_mono h₁ (fun _ s₀ h₀=>?_) fun _ _ h'=>h')
  refine wpAny_bind (wpAny_mono h₀ (fun _ s₂ h₂=>wpAny_bind (wpAny_mono h₂ (fun ok s₃ h₃=>?_) fun _ _ h'=>h')) fun _ _ h'=>h')
  cases ok with
  | false=>exact wpAny_pure ⟨rfl,h₃⟩
  | true=>
   exact wpAny_bind (wpAny_bind (wpAny_mono h₃ (fun x s₄ h₄=>wpAny_bind (wpAny_mono h₄ (fun _ s₅ h₅=>wpAny_pure (wpAny_pure ⟨rfl,h₅⟩)) fun _ _ h'=>h')) fun _ _ h'=>h'))
noncomputable def PTs (X:Cx) (ifs:List Expr) (t:TT):Prop:=
 ∀ (pins:List (Addr × Obj)) (s:Shared) (σ:St) (H:Hp) (Q:Bool→Hp→Prop),Inv X pins σ H s→t σ H Q →
  wpAny (model X.prog X.w) X.A (forIn ifs true fun c r=>if r=true then do let ok ← isTrue c X.env (eval c X.env);pure (ForInStep.yield ok) else pure (ForInStep.yield r)) (TP X pins σ Q) X.xe s
noncomputable def Nw:TT:=fun _ H Q=>Q true H
theorem Qd {X:Cx}:PTs X [] Nw:=fun _ _ _ H _ I h=>wpAny_tests_nil ⟨H,I,h⟩
theorem yt {X:Cx} {c:Expr} {t:TT} (h:PT X c t):PTs X [c] t:=fun pins s σ H Q I q=>wpAny_tests_one (h pins s σ H Q I q)
noncomputable def Sub (σ σ':St):Prop:=σ'.length=σ.length∧∀ (i:Nat) (v:V),σ[i]? = some (some v)→σ'[i]? = some (some v)
theorem Sub.refl (σ:St):Sub σ σ:=⟨rfl,fun _ _ h=>h⟩
theorem Sub.set {σ σ':St} {i:Nat} {x:Option V} (h:Sub σ σ') (e:σ[i]? = some none):Sub σ (σ'.set i x):=by
 refine ⟨by rw [List.length_set];exact h.1,fun j v q=>?_⟩
 have hj:i ≠ j:=fun z=>by subst z;rw [e] at q;cases q
 rw [List.getElem?_set_ne hj]
 exact h.2 j v q
noncomputable def yx (J:It) (g:TG) (tc:TT) (te:TE) (σb:St) (Q:VK) (W:Nat→Nat→List V→Hp→Prop):Prop:=∀ i m ys H,W i m ys H →
 (J.stop i H∧∀ p,H p=none→Q (.ref p) (upd H p (.lst ys))) ∨
 (J.go i H∧ys.length < sizeLine∧∀ x H',J.yld i H x H'→g x σb H' fun σ2 H2=>Sub σb σ2∧tc σ2 H2 fun c H3=>if c=true then te σ2 H3 fun y H4=>∃ m',m' < m∧W (i + 1) m' (ys ++ [y]) H4 else ∃ m',m' < m∧W (i + 1) m' ys H3)
noncomputable def mH (wi:TI) (g:TG) (tc:TT) (te:TE) (sel:List (Option Nat)):TE:=fun σ H Q=>wi σ H fun J H1=>∃ W:Nat→Nat→List V→Hp→Prop,(∃ m,W 0 m [] H1)∧yx J g tc te (blk sel σ) Q W
section
variable {X:Cx} {elt tg iter:Expr} {ifs:List Expr} {scope:Scope} {pos:Pos} {wi:TI} {g:TG} {tc:TT} {te:TE} {N:List Str} {sel:List (Option Nat)}
structure Blk (X:Cx) (scope:Scope) (N:List Str) (tg elt:Expr) (ifs:List Expr) (g:TG) (tc:TT) (te:TE):Prop where
 tgt:∀ C s H fp,PG (X.block scope C N s H fp) tg g
 tests:∀ C s H fp,PTs (X.block scope C N s H fp) ifs tc
 elem:∀ C s H fp,PE (X.block scope C N s H fp) elt te
theorem Blk.of {X:Cx} {scope:Scope} {N:List Str} {tg elt:Expr} {ifs:List Expr} {g:TG} {tc:TT} {te:TE} (h1:∀ C s H fp,PG (X.block scope C N s H fp) tg g)
  (h2:∀ C s H fp,∃ t,PTs (X.block scope C N s H fp) ifs t∧t=tc) (h3:∀ C s H fp,∃ t,PE (X.block scope C N s H fp) elt t∧t=te):Blk X scope N tg elt ifs g tc te:=
 ⟨h1,fun C s H fp=>by obtain ⟨t,h,rfl⟩:=h2 C s H fp;exact h,fun C s H fp=>by obtain ⟨t,h,rfl⟩:=h3 C s H fp;exact h⟩
theorem Dv {pins:List (Addr × Obj)} {s₂:Shared} {σ:St} {H₂:Hp} {Q:VK} {it:Addr} {fp:List Addr} {tn:Nat→Heap→Prop} {J:It} {W:Nat→Nat→List V→Hp→Prop} {E:Value→Shared→Prop} {RR:Value→Addr→Result→Shared→Prop}
  (hc:X.calm=true) (S:Mn X.env scope) (hsel:TB X.N scope N sel) (B:Blk X scope N tg elt ifs g tc te) (I2:Inv X pins σ H₂ s₂) (T:qH X.prog X.w X.K tg J fp it tn) (st2:tn 0 s₂.heap) (f2:∀ b ∈ fp,zu X pins H₂ b)
  (w0:∃ m,W 0 m [] H₂) (hW:yx J g tc te (blk sel σ) Q W)
  (fin:∀ D C ys H' s',Inv X pins σ (upd H' D (.lst ys)) s'→(∃ m,s'.heap.Ns C m)→zu X pins (upd H' D (.lst ys)) C→Q (.ref D) (upd H' D (.lst ys))→RR (.ref D) C (.ok .next) s') :
  wpAny (model X.prog X.w) X.A (newList []) (fun acc s₃=>wpAny (model X.prog X.w) X.A (newFunctionEnv scope X.env.globals (iu X.env.cells scope.names []) [] X.env.qual none .none (some X.env)) (fun cenv s₄=>
   codeAny (model X.prog X.w) X.A (.compStart (.ListComp elt [⟨tg,iter,ifs,0⟩] scope pos) 0 (.ref it) acc { cenv with scope:=relabel scope X.env }) (RR acc cenv.locals) s₄) E s₃) E s₂:=by
 refine wpAny_newObj_type (wpAny_newFunctionEnv S.nocell (by intro y hy;simp at hy) (fun h₁ hns₁ hsb₁=>?_) S.kind)
 dsimp only at hns₁ hsb₁ ⊢
 generalize hH2:s₂.heap.push { cls:=.type "list",dict:=none,data:=.seq ([]:List Value).toArray }=H2 at hns₁ hsb₁ ⊢
 have hC:H2.objs.size=s₂.heap.objs.size + 1:=by rw [← hH2,Heap.size_push]
 have hDC:s₂.heap.objs.size ≠ H2.objs.size:=by rw [hC];exact Nat.ne_of_lt (Nat.lt_succ_self _)
 have hCle:s₂.heap.objs.size ≤ H2.objs.size:=by rw [hC];exact Nat.le_succ _
 have below:∀ b,b < s₂.heap.objs.size→b ≠ H2.objs.size∧b ≠ s₂.heap.objs.size:=fun b hb=>⟨by rw [hC];exact Nat.ne_of_lt (Nat.lt_succ_of_lt hb),Nat.ne_of_lt hb⟩
 have old:∀ b o,s₂.heap.get? b=some o→h₁.get? b=some o:=fun b o e=>hsb₁.extBut b o (below b (Heap.lt_size e)).1 (Heap.get?_push_of_some _ (hH2 ▸ Heap.get?_push_of_some _ e))
 have hacc:h₁.get? s₂.heap.objs.size=some { cls:=.type "list",data:=.seq ([]:List Value).toArray }:=hsb₁.extBut _ _ hDC (Heap.get?_push_of_some _ (hH2 ▸ Heap.get?_push_size _ rfl))
 have fps:∀ b ∈ fp,b < s₂.heap.objs.size:=fun b hb=>by
  obtain ⟨o,e,_⟩:=T.obj _ _ st2 b hb
  exact Heap.lt_size e
 generalize hCe:H2.objs.size=C at *
 generalize hDe:s₂.heap.objs.size=D at *
 have st1:tn 0 h₁:=T.keep _ _ _ st2 fun b _ o e=>old b o e
 have IB0:Inv (X.block scope C N s₂ H₂ fp) [] (blk sel σ) H₂ { s₂ with heap:=h₁,toks:=s₂.toks + ([]:List (Str × Value)).length }:=
  AB I2 S f2 (fun b hb=>by rw [hDe];exact fps b hb) (by rw [hDe];exact hCle) old hns₁ hsel
 have hDfs:D ∉ (X.block scope C N s₂ H₂ fp).fs:=fun z=>by
  have z':=I2.stkSub D z
  rcases List.mem_cons.mp z' with e | e
  ·exact absurd I2.lt (by rw [← e,hDe];exact Nat.lt_irrefl _)
  ·exact I2.nofs (by rw [hDe];exact Nat.le_refl _) e
 have loop:∀ s₃:Shared,s₃ = { s₂ with heap:=h₁,toks:=s₂.toks + ([]:List (Str × Value)).length } →
   codeAny (model X.prog X.w) X.A (.compLoop (.ListComp elt [⟨tg,iter,ifs,0⟩] scope pos) 0 (.ref it) (.ref D) (compEnvC scope (iu X.env.cells scope.names []) C X.env)) (RR (.ref D) C) s₃:=by
  rintro s₃ rfl
  obtain ⟨m0,w0⟩:=w0
  refine Dk (fun k s'=>∃ i ys us n H',Inv (X.block scope C N s₂ H₂ fp) [(D,{ cls:=.type "list",data:=.seq us n })] (blk sel σ) H' s'∧(∃ vs:List Value,us=vs.toArray∧Jd ys vs)∧ys.length ≤ sizeLine∧tn i s'.heap∧(∀ b ∈ fp,H' b=none)∧W i k ys H') ?_ m0
   ⟨0,[],_,0,H₂,IB0.pins_of fun p hp=>?_,⟨[],rfl,.nil⟩,Nat.zero_le _,st1,fun b hb=>(f2 b hb).1,w0⟩
  ·rintro k s' ⟨i,ys,us,n,H',IB,⟨vs,rfl,rv⟩,hyz,st,fr,w⟩
   have fpB:∀ {pl:List (Addr × Obj)} {H'':Hp},(∀ p ∈ pl,p.1=D)→(∀ b ∈ fp,H'' b=none)→∀ b ∈ fp,zu (X.block scope C N s₂ H₂ fp) pl H'' b:=fun {pl H''} hp hn b hb=>
    ⟨hn b hb,(below b (fps b hb)).1,(By (N:=N) (C:=C) I2 S f2 (fun b hb=>by rw [hDe];exact fps b hb) (by rw [hDe];exact hCle)).exfs b hb,.inl hb,fun x c e=>(f2 b hb).2.2.2.2.1 x c (js e),fun p hpp z=>by
     have hpp':p ∈ pl:=by simpa using hpp
     exact (below b (fps b hb)).2 (by rw [← z];exact hp p hpp')⟩
   have hD1:∀ p ∈ [((D,{ cls:=.type "list",data:=.seq vs.toArray n }):Addr × Obj)],p.1=D:=fun p hp=>by
    have e:p=(D,{ cls:=.type "list",data:=.seq vs.toArray n }):=by simpa using hp
    rw [e]
   rcases hW i k ys H' w with ⟨stop,qn⟩ | ⟨go,hlen,step⟩
   ·refine thn (T.done (X.block scope C N s₂ H₂ fp) rfl rfl rfl hc i _ s' _ H' _ IB (fpB hD1 fr) st stop) fun r s4 hZ1=>?_
    obtain ⟨hr,I4⟩:=hZ1
    subst hr
    -- the block is left
    have pD:=I4.pin (D,{ cls:=.type "list",data:=.seq vs.toArray n }) (by simp)
    have hDn:H' D=none:=pD.2.1
    have IX:Inv X pins σ H' s4:=I2.call' (ch:=fp) I4.os I4.base I4.hok I4.bare fun b hb=>⟨(f2 b hb).2.2.2.1,(f2 b hb).2.1,(f2 b hb).2.2.2.2.1,(f2 b hb).2.2.2.2.2⟩
    have foD:zu X pins H' D:=I2.fpOk (by rw [hDe];exact Nat.le_refl _) hDn
    have IA:Inv X pins σ (upd H' D (.lst ys)) s4:=IX.adopt foD ⟨hyz,vs,n,rv,pD.1⟩
    obtain ⟨mC,hnC,_⟩:=I4.loc
    refine fin D C ys H' s4 IA ⟨mC,hnC⟩ (I2.fpOk (by rw [hDe];exact hCle) ?_) (qn D hDn)
    rw [lb (Ne.symm hDC)]
    exact I4.free
   ·refine thn (T.item (X.block scope C N s₂ H₂ fp) rfl rfl rfl hc i _ s' _ H' _ IB (fpB hD1 fr) st go) fun r s4 hZ1=>?_
    obtain ⟨u,hr,h4⟩:=hZ1
    subst hr
    refine thn h4 fun _ s5 hZ1=>?_
    obtain ⟨x,H5,I5,r5,y5,st5,fr5⟩:=hZ1
    have I5':=I5.pinned (fpB hD1 fr5) (T.obj _ _ st5)
    refine thn (B.tgt C s₂ H₂ fp _ s5 _ H5 x u _ I5' r5 (step x H5 y5)) fun _ s6 hZ1=>?_
    obtain ⟨σ6,H6,I6,sb,q6⟩:=hZ1
    refine thn (B.tests C s₂ H₂ fp _ s6 σ6 H6 _ I6 q6) fun c s7 hZ1=>?_
    obtain ⟨H7,I7,q7⟩:=hZ1
    have again:∀ {σ8:St} {H8:Hp} {s8:Shared},Inv (X.block scope C N s₂ H₂ fp) ([(D,{ cls:=.type "list",data:=.seq vs.toArray n })] ++ Bu fp s5.heap) σ8 H8 s8→tn (i + 1) s8.heap∧(∀ b ∈ fp,H8 b=none):=fun {σ8 H8 s8} I8=>by
     refine ⟨T.keep _ _ _ st5 fun b hb o e=>(I8.pin (b,o) (List.mem_append_right _ (List.mem_append_right _ (sk hb e)))).1,fun b hb=>?_⟩
     obtain ⟨o,e,d⟩:=T.obj _ _ st5 b hb
     exact (I8.pin (b,o) (List.mem_append_right _ (List.mem_append_right _ (sk hb e)))).2.1
    have back:∀ {H8:Hp} {s8:Shared} {pl:List (Addr × Obj)},Inv (X.block scope C N s₂ H₂ fp) pl σ6 H8 s8→Inv (X.block scope C N s₂ H₂ fp) pl (blk sel σ) H8 s8:=fun {H8 s8 pl} I8=>I8.weak sb.1.symm sb.2
    cases c with
    | false=>
     obtain ⟨m',hm,w'⟩:=q7
     obtain ⟨t1,t2⟩:=again I7
     exact ⟨m',hm,i + 1,ys,_,n,H7,back I7.unpinned,⟨vs,rfl,rv⟩,hyz,t1,t2,w'⟩
    | true=>
     refine thn (B.elem C s₂ H₂ fp _ s7 σ6 H7 _ I7 q7) fun v s8 hZ1=>?_
     obtain ⟨y,H8,I8,r8,m',hm,w'⟩:=hZ1
     obtain ⟨t1,t2⟩:=again I8
     have pD:=I8.pin (D,{ cls:=.type "list",data:=.seq vs.toArray n }) (by simp)
     refine append_at (hsz:=by have:=rv.length;rw [List.size_toArray];omega) pD.1 fun h9 hs9 hD9=>?_
     have IB':Inv (X.block scope C N s₂ H₂ fp) [] (blk sel σ) H8 s8:=(back I8).pins_of fun p hp=>nomatch hp
     have foD:zu (X.block scope C N s₂ H₂ fp) [] H8 D:=⟨pD.2.1,hDC,hDfs,.inr (by show s₂.heap.objs.size ≤ D;rw [hDe];exact Nat.le_refl _),(fun x c e z=>by
      obtain ⟨cv,o,ho,hd⟩:=I8.cell x c e
      rw [z,pD.1] at ho
      cases ho
      cases hd),(fun p hp=>nomatch hp)⟩
     have I9:Inv (X.block scope C N s₂ H₂ fp) [] (blk sel σ) H8 { s8 with heap:=h9 }:=IB'.turned (t':=s8.toks) (it:=D) (fun b o hb e=>(hs9.2 b hb).trans e) foD.1 foD.2.1 foD.2.2.2.1 foD.2.2.2.2.1 foD.2.2.2.2.2
     refine ⟨m',hm,i + 1,ys ++ [y],vs.toArray.push v,n + 1,H8,I9.pins_of fun p hp=>?_,⟨vs ++ [v],by simp,Paired.snoc rv r8⟩,by rw [List.length_append,List.length_singleton];omega,T.keep _ _ _ t1 fun b hb o e=>(hs9.2 b (below b (fps b hb)).2).trans e,t2,w'⟩
     have e:p=(D,{ cls:=.type "list",data:=.seq (vs.toArray.push v) (n + 1) }):=by simpa using hp
     subst e
     exact ⟨hD9,pD.2.1,hDC,hDfs,fun v z=>by cases z⟩
  ·have e:p=(D,{ cls:=.type "list",data:=.seq ([]:List Value).toArray }):=by simpa using hp
   subst e
   exact ⟨hacc,I2.hok.fresh (by rw [hDe];exact Nat.le_refl _),hDC,hDfs,fun v z=>by cases z⟩
 exact codeAny_compStart_list (loop _ rfl) (T.self _ 0 _ _ _ st1 (loop _ rfl))
theorem zd (hc:X.calm=true) (hi:PI X tg iter wi) (S:Mn X.env scope) (hsel:TB X.N scope N sel) (B:Blk X scope N tg elt ifs g tc te)
  (hs:∀ x,foldedSetIterable iter X.env x=pure x:=by intro _;rfl):PE X (.ListComp elt [⟨tg,iter,ifs,0⟩] scope pos) (mH wi g tc te sel):=by
 intro pins s σ H Q I h
 rw [eval_ListComp]
 refine wpAny_comprehension_free (use:=none) rfl hs (BA (S.cells I.ok)) S.kind S.loc ?_
 refine thn (hi pins s σ H _ I h) fun v s1 h1=>thn h1 fun itv s2 h2=>?_
 obtain ⟨it,fp,tn,J,H2,e,I2,T,st2,f2,W,w0,hW⟩:=h2
 subst e
 refine Dv (RR:=fun acc C=>compPost (model X.prog X.w) X.A X.xe none (EP X pins σ Q) acc C) hc S hsel B I2 T st2 f2 w0 hW fun D C ys H' s' I' ⟨m,hm⟩ fo q=>?_
 exact ⟨m,hm,fun h' hsb=>⟨.ref D,_,I'.turned (t':=s'.toks) (it:=C) (fun b o hb e=>(hsb.2 b hb).trans e) fo.1 fo.2.1 fo.2.2.2.1 fo.2.2.2.2.1 fo.2.2.2.2.2,rfl,q⟩⟩
theorem Vr {i:Nat} {y:Str} {py spos:Pos} (hN:X.N.Nodup) (hi:X.N[i]? = some y) (hx:Loc X.env.scope y) (hc:X.calm=true) (hit:PI X tg iter wi) (S:Mn X.env scope) (hsel:TB X.N scope N sel) (B:Blk X scope N tg elt ifs g tc te)
  (hsw:swapsWith (.ListComp elt [⟨tg,iter,ifs,0⟩] scope pos) (some (.Name y py)) spos.line X.env=pure true) (hf:X.fn y=true∨X.env.scope.names.lookup y=some .local:=by first | exact .inl rfl | exact .inr rfl | assumption)
  (hs:∀ x,foldedSetIterable iter X.env x=pure x:=by intro _;rfl):PS X (.Assign [.Name y py] (.ListComp elt [⟨tg,iter,ifs,0⟩] scope pos) spos) (eL (mH wi g tc te sel) (xu i)):=by
 intro pins s σ H D I h
 rw [exec_Assign_Name_used _ _ _ _ hsw]
 refine wpAny_bind (wpAny_standAt (wpAny_bind ?_))
 show wpAny _ X.A (do let _ ← comprehension (.ListComp elt [⟨tg,iter,ifs,0⟩] scope pos) scope X.env _ (newList []) false (eval iter X.env) (some (assign (.Name y py) X.env))) _ _ s
 refine wpAny_bind (wpAny_mono (wpAny_comprehension_free (use:=some (assign (.Name y py) X.env)) (Q:=fun _ s'=>SP X pins D .next s') rfl hs (BA (S.cells I.ok)) S.kind S.loc ?_) (fun _ s' hq=>wpAny_pure (wpAny_pure hq)) fun _ _ e=>e)
 refine thn (hit pins s σ H _ I h) fun v s1 h1=>thn h1 fun itv s2 h2=>?_
 obtain ⟨it,fp,tn,J,H2,e,I2,T,st2,f2,W,w0,hW⟩:=h2
 subst e
 refine Dv (RR:=fun acc C=>compPost (model X.prog X.w) X.A X.xe (some (assign (.Name y py) X.env)) (fun _ s'=>SP X pins D .next s') acc C) hc S hsel B I2 T st2 f2 w0 hW fun Da C ys H' s' I' ⟨m,hm⟩ fo q=>?_
 show wpAny _ X.A (assign (.Name y py) X.env (.ref Da)) _ _ _
 refine wpAny_assign_Name (Ev I' hN hi hx (show Od (.ref Da) (.ref Da) from rfl) (fun s3 I3 hZ1=>?_) hf)
 obtain ⟨a,hsb,ha⟩:=hZ1
 have hCa:C ≠ a:=by
  rcases ha with z | z
  ·rw [z];exact fo.2.1
  ·exact fun w=>fo.2.2.2.2.1 y a z w.symm
 refine ⟨m,hm.sameBut hsb hCa,fun h' hsb'=>⟨_,_,I3.turned (t':=s3.toks) (it:=C) (fun b o hb e=>(hsb'.2 b hb).trans e) fo.1 fo.2.1 fo.2.2.2.1 fo.2.2.2.2.1 fo.2.2.2.2.2,q⟩⟩
end
noncomputable def Ig (Pv:Nat→List V→Hp→Prop) (g:TG) (tc:TT) (te:TE) (σb:St) (i:Nat) (x:V) (ys:List V) (H:Hp):Prop:=
 ∀ N:List V→Hp→Prop,(∀ ys' H',Pv (i + 1) ys' H'→N ys' H')→g x σb H fun σ2 H2=>Sub σb σ2∧tc σ2 H2 fun c H3=>if c=true then te σ2 H3 fun y H4=>N (ys ++ [y]) H4 else N ys H3
theorem BC {K:PySem.W.Frag} {a:Addr} {xs:List V} {g:TG} {tc:TT} {te:TE} {σb:St} {Q:VK} {H:Hp} (Pv:Nat→List V→Hp→Prop) (hz:xs.length ≤ sizeLine) (h0:Pv 0 [] H) (hl:∀ i ys H,i ≤ xs.length→Pv i ys H→SqL K H a xs∧ys.length ≤ i)
  (hs:∀ i x ys H,xs[i]? = some x→Pv i ys H→Ig Pv g tc te σb i x ys H) (hd:∀ ys H,Pv xs.length ys H→∀ p,H p=none→Q (.ref p) (upd H p (.lst ys))) :
  ∃ W:Nat→Nat→List V→Hp→Prop,(∃ m,W 0 m [] H)∧yx (Itl K a) g tc te σb Q W:=by
 refine ⟨fun i m ys H=>m=xs.length - i∧i ≤ xs.length∧Pv i ys H,⟨xs.length,by simp,Nat.zero_le _,h0⟩,?_⟩
 rintro i m ys H ⟨rfl,hi,p⟩
 have q:=(hl i ys H hi p).1
 have hyl:=(hl i ys H hi p).2
 by_cases hlt:i < xs.length
 ·refine .inr ⟨⟨xs,xs[i],q,by simp [hlt]⟩,by omega,fun x H' y=>?_⟩
  obtain ⟨e,y⟩:=y
  subst e
  exact hs i x ys _ (y xs q) p (fun ys' H'=>∃ m',m' < xs.length - i∧m'=xs.length - (i + 1)∧i + 1 ≤ xs.length∧Pv (i + 1) ys' H') fun ys' H' r=>⟨xs.length - (i + 1),by omega,rfl,hlt,r⟩
 ·have e:i=xs.length:=by omega
  subst e
  exact .inl ⟨⟨xs,q,Nat.le_refl _⟩,hd ys H p⟩
theorem yF {K:PySem.W.Frag} {a:Addr} {xs:List V} {g:TG} {tc:TT} {te:TE} {σb:St} {Q:VK} {H:Hp} (Pv:Nat→List V→Hp→Prop) (hz:xs.length ≤ sizeLine) (h0:Pv 0 [] H) (hl:∀ i ys H,i ≤ xs.length→Pv i ys H→SqT K H a xs∧ys.length ≤ i)
  (hs:∀ i x ys H,xs[i]? = some x→Pv i ys H→Ig Pv g tc te σb i x ys H) (hd:∀ ys H,Pv xs.length ys H→∀ p,H p=none→Q (.ref p) (upd H p (.lst ys))) :
  ∃ W:Nat→Nat→List V→Hp→Prop,(∃ m,W 0 m [] H)∧yx (Itt K a) g tc te σb Q W:=by
 refine ⟨fun i m ys H=>m=xs.length - i∧i ≤ xs.length∧Pv i ys H,⟨xs.length,by simp,Nat.zero_le _,h0⟩,?_⟩
 rintro i m ys H ⟨rfl,hi,p⟩
 have q:=(hl i ys H hi p).1
 have hyl:=(hl i ys H hi p).2
 by_cases hlt:i < xs.length
 ·refine .inr ⟨⟨xs,xs[i],q,by simp [hlt]⟩,by omega,fun x H' y=>?_⟩
  obtain ⟨e,y⟩:=y
  subst e
  exact hs i x ys _ (y xs q) p (fun ys' H'=>∃ m',m' < xs.length - i∧m'=xs.length - (i + 1)∧i + 1 ≤ xs.length∧Pv (i + 1) ys' H') fun ys' H' r=>⟨xs.length - (i + 1),by omega,rfl,hlt,r⟩
 ·have e:i=xs.length:=by omega
  subst e
  exact .inl ⟨⟨xs,q,Nat.le_refl _⟩,hd ys H p⟩
theorem Cz {lo:Int} {n:Nat} {g:TG} {tc:TT} {te:TE} {σb:St} {Q:VK} {H:Hp} (Pv:Nat→List V→Hp→Prop) (hz:n ≤ sizeLine) (h0:Pv 0 [] H) (hl:∀ i ys H,i ≤ n→Pv i ys H→ys.length ≤ i)
  (hs:∀ i ys H,i < n→Pv i ys H→Ig Pv g tc te σb i (.int (lo + i)) ys H) (hd:∀ ys H,Pv n ys H→∀ p,H p=none→Q (.ref p) (upd H p (.lst ys))) :
  ∃ W:Nat→Nat→List V→Hp→Prop,(∃ m,W 0 m [] H)∧yx (Itr lo n) g tc te σb Q W:=by
 refine ⟨fun i m ys H=>m=n - i∧i ≤ n∧Pv i ys H,⟨n,by simp,Nat.zero_le _,h0⟩,?_⟩
 rintro i m ys H ⟨rfl,hi,p⟩
 have hyl:=hl i ys H hi p
 by_cases hlt:i < n
 ·refine .inr ⟨hlt,by omega,fun x H' y=>?_⟩
  obtain ⟨e,y⟩:=y
  subst e y
  exact hs i ys _ hlt p (fun ys' H'=>∃ m',m' < n - i∧m'=n - (i + 1)∧i + 1 ≤ n∧Pv (i + 1) ys' H') fun ys' H' r=>⟨n - (i + 1),by omega,rfl,hlt,r⟩
 ·have e:i=n:=by omega
  subst e
  exact .inl ⟨Nat.le_refl _,hd ys H p⟩
end L2
namespace L2
open PySem PySem.Spec PyProof.Rows
noncomputable def Its (xs:List V):It:=⟨fun i _=>i < xs.length,fun i H x H'=>H'=H∧xs[i]? = some x,fun i _=>xs.length ≤ i⟩
theorem Os {P:Program} {w:World} {K:PySem.W.Frag} {tg:Expr} {it:Addr} {xs:List V} {PV:Nat→Value→Prop} {St:Nat→Heap→Prop} (hW:∀ A:Around,A.handled=none→Walks P w A it [it] [it] xs.length PV St)
  (hP:∀ i v,PV i v→∃ x,xs[i]? = some x∧Od x v)
  (hgo:∀ i h,St i h→∃ o n vs,h.get? it=some o∧o.cls=.type n∧o.data=.fields vs∧["enumerate","zip","dict_itemiterator","dict_reverseitemiterator","odict_iterator","itertools.zip_longest","itertools.pairwise"].contains n=false)
  (hfr:∀ i h h',St i h→(∀ o,h.get? it=some o→h'.get? it=some o)→St i h')
  (hself:∀ (A:Around) (i:Nat) (s:Shared) (Q:Value→Shared→Prop) (E:Value→Shared→Prop),St i s.heap→Q (.ref it) s→wpAny (model P w) A (pyIter (.ref it)) Q E s) :
  qH P w K tg (Its xs) [it] it (fun i h=>i ≤ xs.length∧St i h) where
 mem:=by simp
 obj:=fun i h st b hb=>by
  have e:b=it:=by simpa using hb
  subst e
  obtain ⟨o,n,vs,e,_,d,_⟩:=hgo i h st.2
  exact ⟨o,e,fun v z=>by rw [d] at z;cases z⟩
 keep:=fun i h h' st k=>⟨st.1,hfr i h h' st.2 fun o e=>k it (by simp) o e⟩
 item:=by
  intro X hP' hw hK hc i pins s σ H E I hf st hg
  subst hP' hw hK
  obtain ⟨f0,f1,f2,f3,f4,f5⟩:=hf it (by simp)
  refine (hW X.A (I.ok.hd hc)).item i s _ _ hg st.2 fun v h' tk hv st' kk=>?_
  obtain ⟨x,hx,rx⟩:=hP i v hv
  have I1:Inv X pins σ H { s with heap:=h',toks:=tk }:=I.turned (fun b o hb e=>kk b o (by simpa using hb) e) f0 f1 f3 f4 f5
  obtain ⟨o,n,vs,e,c,d,nm⟩:=hgo _ _ st'
  exact ⟨v,rfl,dE (s:={ s with heap:=h',toks:=tk }) e c d nm ⟨x,H,I1,rx,⟨rfl,hx⟩,⟨hg,st'⟩,fun b hb=>(hf b hb).1⟩⟩
 done:=by
  intro X hP' hw hK hc i pins s σ H E I hf st hg
  subst hP' hw hK
  obtain ⟨f0,f1,f2,f3,f4,f5⟩:=hf it (by simp)
  have e:i=xs.length:=Nat.le_antisymm st.1 hg
  subst e
  exact (hW X.A (I.ok.hd hc)).done s _ _ st.2 fun h' tk kk=>⟨rfl,I.turned (fun b o hb e=>kk b o (by simpa using hb) e) f0 f1 f3 f4 f5⟩
 self:=fun A i s Q E st h=>hself A i s Q E st.2 h
noncomputable def ku (c:Nat):Str:=⟨#[c]⟩
noncomputable def fj (x:Str):List V:=x.cps.toList.map fun c=>V.str (ku c)
theorem Lm (x:Str):(fj x).length=x.cps.size:=by unfold fj;simp
theorem zC {x:Str} {i c:Nat} (h:x.cps[i]? = some c):(fj x)[i]? = some (.str (ku c)):=by
 unfold fj
 rw [List.getElem?_map,Array.getElem?_toList,h]
 rfl
theorem Is {x:Str} {i:Nat} {v:Value} (h:SignAt x i v):∃ y,(fj x)[i]? = some y∧Od y v:=by
 obtain ⟨c,u,hc,rfl⟩:=h
 exact ⟨.str (ku c),zC hc,u,rfl⟩
section
variable {X:Cx} {tg:Expr}
noncomputable def jM (tl:TE):TI:=fun σ H R=>tl σ H fun x H1=>∃ z,x=.str z∧R (Its (fj z)) H1
theorem kJ {l:Expr} {tl:TE} (hl:PE X l tl):PI X tg l (jM tl):=by
 intro pins s σ H R I h
 refine thn (hl pins s σ H _ I h) fun v s1 hZ1=>?_
 obtain ⟨x,H1,I1,r1,q1⟩:=hZ1
 obtain ⟨z,e,q⟩:=q1
 subst e
 obtain ⟨t,rfl⟩:=r1
 have fo:∀ b ∈ [s1.heap.objs.size],zu X pins H1 b:=fun b hb=>by
  have e:b=s1.heap.objs.size:=by simpa using hb
  subst e
  exact I1.fpOk (Nat.le_refl _) (I1.hok.fresh (Nat.le_refl _))
 have hz:=Lm z
 cases ha:z.cps.all (· < 128) with
 | false=>
  refine wpAny_pyIter_wide ha ⟨s1.heap.objs.size,[s1.heap.objs.size],fun i h=>i ≤ (fj z).length∧h.IsStrIter s1.heap.objs.size "str_iterator" z t i,_,H1,rfl,I1.kept (t':=s1.toks) fun b o e=>Heap.get?_push_of_some _ e,
   Os (fun A hA=>by rw [hz];exact Walks.strWide hA _ z t) (fun i v=>Is) (fun i h ⟨o,e,c,d⟩=>⟨o,_,_,e,c,d,by decide⟩) (fun i h h' ⟨o,e,r⟩ k=>⟨o,k o e,r⟩) (fun A i s Q E st q=>wpAny_pyIter_striter_wide st q),
   ⟨Nat.zero_le _,_,Heap.get?_push_size _ rfl,rfl,rfl⟩,fo,q⟩
 | true=>
  refine wpAny_pyIter_ascii ha ⟨s1.heap.objs.size,[s1.heap.objs.size],fun i h=>i ≤ (fj z).length∧h.IsStrIter s1.heap.objs.size "str_ascii_iterator" z t i,_,H1,rfl,I1.kept (t':=s1.toks) fun b o e=>Heap.get?_push_of_some _ e,
   Os (fun A hA=>by rw [hz];exact Walks.strAscii hA _ z t) (fun i v=>Is) (fun i h ⟨o,e,c,d⟩=>⟨o,_,_,e,c,d,by decide⟩) (fun i h h' ⟨o,e,r⟩ k=>⟨o,k o e,r⟩) (fun A i s Q E st q=>wpAny_pyIter_striter_ascii st q),
   ⟨Nat.zero_le _,_,Heap.get?_push_size _ rfl,rfl,rfl⟩,fo,q⟩
end
theorem IH {xs:List V} {g:TG} {tb:TS} {D:Gi} {σ:St} {H:Hp} (Pv:Nat→St→Hp→Prop) (h0:Pv 0 σ H)
  (hs:∀ i x σ H,xs[i]? = some x→Pv i σ H→g x σ H fun σ2 H2=>tb { D with nx:=Pv (i + 1),ct:=Pv (i + 1),bk:=D.nx } σ2 H2) (hd:∀ σ H,Pv xs.length σ H→D.nx σ H) :
  ∃ W:Nat→Nat→St→Hp→Prop,(∃ m,W 0 m σ H)∧∀ i m σ H,W i m σ H →
   ((Its xs).stop i H∧D.nx σ H)∨((Its xs).go i H∧∃ N:St→Hp→Prop,(∀ σ' H',N σ' H'→∃ m',m' < m∧W (i + 1) m' σ' H')∧∀ x H',(Its xs).yld i H x H'→g x σ H' fun σ2 H2=>tb { D with nx:=N,ct:=N,bk:=D.nx } σ2 H2):=by
 refine ⟨fun i m σ H=>m=xs.length - i∧i ≤ xs.length∧Pv i σ H,⟨xs.length,by simp,Nat.zero_le _,h0⟩,?_⟩
 rintro i m σ H ⟨rfl,hi,p⟩
 by_cases hlt:i < xs.length
 ·refine .inr ⟨hlt,Pv (i + 1),fun σ' H' p'=>⟨xs.length - (i + 1),by omega,rfl,hlt,p'⟩,fun x H' y=>?_⟩
  obtain ⟨e,y⟩:=y
  subst e
  exact hs i x σ _ y p
 ·have e:i=xs.length:=by omega
  subst e
  exact .inl ⟨Nat.le_refl _,hd σ H p⟩
theorem jF {xs:List V} {g:TG} {tc:TT} {te:TE} {σb:St} {Q:VK} {H:Hp} (Pv:Nat→List V→Hp→Prop) (hz:xs.length ≤ sizeLine) (h0:Pv 0 [] H) (hl:∀ i ys H,i ≤ xs.length→Pv i ys H→ys.length ≤ i)
  (hs:∀ i x ys H,xs[i]? = some x→Pv i ys H→Ig Pv g tc te σb i x ys H) (hd:∀ ys H,Pv xs.length ys H→∀ p,H p=none→Q (.ref p) (upd H p (.lst ys))) :
  ∃ W:Nat→Nat→List V→Hp→Prop,(∃ m,W 0 m [] H)∧yx (Its xs) g tc te σb Q W:=by
 refine ⟨fun i m ys H=>m=xs.length - i∧i ≤ xs.length∧Pv i ys H,⟨xs.length,by simp,Nat.zero_le _,h0⟩,?_⟩
 rintro i m ys H ⟨rfl,hi,p⟩
 have hyl:=hl i ys H hi p
 by_cases hlt:i < xs.length
 ·refine .inr ⟨hlt,by omega,fun x H' y=>?_⟩
  obtain ⟨e,y⟩:=y
  subst e
  exact hs i x ys _ y p (fun ys' H'=>∃ m',m' < xs.length - i∧m'=xs.length - (i + 1)∧i + 1 ≤ xs.length∧Pv (i + 1) ys' H') fun ys' H' r=>⟨xs.length - (i + 1),by omega,rfl,hlt,r⟩
 ·have e:i=xs.length:=by omega
  subst e
  exact .inl ⟨Nat.le_refl _,hd ys H p⟩
section
variable {X:Cx}
noncomputable def bM:V→Option Int→Option Int→Hp→VK→Prop:=fun x lo hi H Q=>∃ z,x=.str z∧z.length ≤ sizeLine∧Q (.str (Txt.slice z lo hi)) H
theorem yy:SlR X bM:=by
 intro pins s σ H x v vl vu lo hi sl Q I rx hs pl pu h
 obtain ⟨z,rfl,hz,q⟩:=h
 obtain ⟨t,rfl⟩:=rx
 refine ⟨"str",_,F.slot_str_getitem.lookup,typeIs_str s z t,?_⟩
 have fin:∀ t' k,EP X pins σ Q (.str (Txt.slice z lo hi) t') { s with toks:=k }:=fun t' k=>⟨.str _,H,I.tok _,⟨_,rfl⟩,q⟩
 cases pl with
 | none=>
  cases pu with
  | none=>exact wpAny_getItem_str_slice (l:=none) (u:=none) (st:=none) hs rfl (post_val_or_str ⟨Nat.le_trans (Txt.slice_le z _ _) hz,fin⟩)
  | int j uj=>exact wpAny_getItem_str_slice (l:=none) (u:=some (j,uj)) (st:=none) hs rfl (post_val_or_str ⟨Nat.le_trans (Txt.slice_le z _ _) hz,fin⟩)
 | int i ui=>
  cases pu with
  | none=>exact wpAny_getItem_str_slice (l:=some (i,ui)) (u:=none) (st:=none) hs rfl (post_val_or_str ⟨Nat.le_trans (Txt.slice_le z _ _) hz,fin⟩)
  | int j uj=>exact wpAny_getItem_str_slice (l:=some (i,ui)) (u:=some (j,uj)) (st:=none) hs rfl (post_val_or_str ⟨Nat.le_trans (Txt.slice_le z _ _) hz,fin⟩)
noncomputable def wb (ys:List Str):List V:=ys.map V.str
theorem Vz:∀ {ys:List Str} {us:List Value},Jd (wb ys) us→StrsAre us ys:=by
 intro ys
 induction ys with
 | nil=>intro us r;cases r;exact .nil
 | cons y ys ih=>
  intro us r
  cases r with
  | cons r1 r2=>
   obtain ⟨t,rfl⟩:=r1
   exact .cons y t (ih r2)
theorem Xu:∀ (l:List (Str × Tok)),Jd (wb (l.map (·.1))) (strValues l)
 | []=>.nil
 | (x,t) :: r=>.cons ⟨t,rfl⟩ (Xu r)
noncomputable def bL (K:PySem.W.Frag):V→List V→Hp→VK→Prop:=fun x vs H Q=>∃ sep p ys,x=.str sep∧vs=[.ref p]∧SqL K H p (wb ys)∧(ys.map (·.length)).sum + ys.length * sep.length ≤ 16777216∧Q (.str (Txt.join sep ys)) H
theorem zp:MtR X "str.join" (bL X.K):=by
 intro pins s σ H x xs v us Q I rx rv h
 obtain ⟨sep,p,ys,rfl,rfl,hq,hz,q⟩:=h
 obtain ⟨t,rfl⟩:=rx
 obtain ⟨u,rfl,ru⟩:=pq rv
 cases ru
 obtain ⟨its,r,pl,_⟩:=I.list hq
 exact join_list pl.isList (by simpa using Vz r) hz fun t' k=>⟨.str _,H,I.tok _,⟨_,rfl⟩,q⟩
end
theorem bz {prog:Program} {w:World} {A:Around} {E:Value→Shared→Prop} {s:Shared} {x y:Str} {t u:Tok} {Q:Value→Shared→Prop} (hy:(y.length == 0)=false)
  (h:∀ l k,l.map (·.1)=Txt.split x y→Q (.ref s.heap.objs.size) { s with heap:=s.heap.push { cls:=.type "list",data:=.seq (strValues l).toArray },toks:=k }) (hsz:x.length + 2 ≤ sizeLine) :
  wpAny (model prog w) A (call (.builtin "str.split") [.str x t,.str y u]) Q E s:=by
 have hn:(Builtin.Str.partsBetween x (Builtin.Str.occurrences x y 0 x.length (x.length + 1)) y.length).length ≤ sizeLine:=by
  have e1:=StrLaws.occ_length_le x y 0 x.length (x.length + 1)
  rw [length_partsBetween];omega
 cases h1:(decide (x.length < y.length) || decide (Builtin.Str.strKind x < Builtin.Str.strKind y))
 ·cases hf:(Builtin.Str.occurrences x y 0 x.length (x.length + 1)).isEmpty
  ·refine call_meets F.slot_str_split (typeIs_str _ _ _) F.entry_str_split (F.args_str_split_2 _ _) (meets_str_split_sep x y t u h1 hy hf (by omega) hn) ?_
   show wants Q E _ { s with toks:=_,heap:=s.heap.push { cls:=.type "list",data:=.seq (strsFrom s.toks (Builtin.Str.partsBetween x (Builtin.Str.occurrences x y 0 x.length (x.length + 1)) y.length)).toArray } }
   rw [strsFrom_eq]
   exact h (numbered s.toks _) _ ((numbered_texts _ _).trans ((if_neg (ne_true_of_eq_false h1)).trans (if_neg (ne_true_of_eq_false hf))).symm)
  ·exact call_meets F.slot_str_split (typeIs_str _ _ _) F.entry_str_split (F.args_str_split_2 _ _) (meets_str_split_not_found x y t u h1 hy hf)
    (h [(x,t)] s.toks ((if_neg (ne_true_of_eq_false h1)).trans (if_pos hf)).symm)
 ·exact call_meets F.slot_str_split (typeIs_str _ _ _) F.entry_str_split (F.args_str_split_2 _ _) (meets_str_split_cannot_occur x y t u h1)
   (h [(x,t)] s.toks (if_pos h1).symm)
section
variable {X:Cx}
noncomputable def wG:V→List V→Hp→VK→Prop:=fun x vs H Q=>∃ z y,x=.str z∧vs=[.str y]∧y.length ≠ 0∧z.length + 2 ≤ sizeLine∧(Txt.split z y).length ≤ sizeLine∧∀ p,H p=none→Q (.ref p) (upd H p (.lst (wb (Txt.split z y))))
theorem jy:MtR X "str.split" wG:=by
 intro pins s σ H x xs v us Q I rx rv h
 obtain ⟨z,y,rfl,rfl,hy,hz,hn,q⟩:=h
 obtain ⟨t,rfl⟩:=rx
 obtain ⟨u,rfl,ru⟩:=pq rv
 obtain ⟨tu,rfl⟩:=ru
 refine bz (by simpa using hy) (fun l k hl=>?_) hz
 refine ⟨.ref s.heap.objs.size,_,I.laid (t':=k) (o:=.lst (wb (Txt.split z y))) (fun b o e=>Heap.get?_push_of_some _ e) (Nat.le_refl _) ⟨by unfold wb;rw [List.length_map];exact hn,strValues l,0,by rw [← hl];exact Xu l,Heap.get?_push_size _ rfl⟩,rfl,q _ (I.hok.fresh (Nat.le_refl _))⟩
theorem wD:Ek X (.type "int") (fun xs H Q=>∃ z n,xs=[.str z]∧intText? z=some n∧z.length ≤ 640∧Q (.int n) H):=by
 intro pins s σ H xs us Q I r h
 obtain ⟨z,n,rfl,hn,hz,q⟩:=h
 obtain ⟨u,rfl,t,rfl⟩:=pq r
 exact PySem.W.KIN.call_text hn hz ⟨.int n,H,I.tok _,⟨_,rfl⟩,q⟩
theorem gw:∀ {bs:List Bool} {us:List Value},Jd (bs.map V.bl) us→us=bs.map Value.bool
 | [],_,.nil=>rfl
 | b :: bs,_,.cons r t=>by
  have e:_=Value.bool b:=r
  rw [e,gw t];rfl
theorem bx {A:Around} (bs:List Bool):TruthOf X.prog X.w A (fun i v=>(bs.map Value.bool).toArray[i]? = some v) (fun i=>bs.getD i true):=by
 intro i v s Q E hP hQ
 have e:(bs.map Value.bool)[i]? = some v:=by simpa using hP
 rw [List.getElem?_map] at e
 cases q:bs[i]? with
 | none=>rw [q] at e;cases e
 | some b=>
  rw [q] at e
  have e':Value.bool b=v:=Option.some.inj e
  subst e'
  refine wpAny_truthy_bool ?_
  have:bs.getD i true=b:=by simp [List.getD,q]
  have hQ':Q (bs.getD i true) s:=hQ
  rw [this] at hQ'
  exact hQ'
theorem kB (bs:List Bool):(List.range bs.length).all (fun i=>bs.getD i true)=bs.all id:=by
 rw [Bool.eq_iff_iff]
 simp only [List.all_eq_true,List.mem_range,id]
 constructor
 ·intro h b hb
  obtain ⟨i,hi,e⟩:=List.mem_iff_getElem.mp hb
  have:=h i hi
  simp [List.getD,hi,e] at this
  exact this
 ·intro h i hi
  simp [List.getD,hi]
  exact h _ (List.getElem_mem hi)
theorem uF (hc:X.calm=true):Ek X (.builtin "all") (fun xs H Q=>∃ (p:Addr) (bs:List Bool),xs=[.ref p]∧SqL X.K H p (bs.map V.bl)∧Q (.bl (bs.all id)) H):=by
 intro pins s σ H xs us Q I r h
 obtain ⟨p,bs,rfl,hq,q⟩:=h
 obtain ⟨u,rfl,ru⟩:=pq r
 cases ru
 obtain ⟨its,rv,pl,_⟩:=I.list hq
 have e:=gw rv
 subst e
 refine call_all_walk (wpAny_pyIter_list pl.isList ?_)
 have hne:p ≠ s.heap.objs.size:=Nat.ne_of_lt (by obtain ⟨o,_,ho,_⟩:=pl;exact Heap.lt_size ho)
 refine ⟨s.heap.objs.size,_,_,_,_,_,fun i=>bs.getD i true,rfl,Walks.list (show X.A.in1.handled=none from I.ok.hd hc) _ p hne (bs.map Value.bool).toArray,⟨⟨_,Heap.get?_push_size _ rfl,rfl,rfl⟩,pl.isList.at fun o e=>Heap.get?_push_of_some _ e⟩,bx bs,fun h' tk kk=>?_⟩
 refine ⟨.bl (bs.all id),H,I.kept fun b o e=>kk b o (by simpa using Nat.ne_of_lt (Heap.lt_size e)) (Heap.get?_push_of_some _ e),?_,q⟩
 show Value.bool _=Value.bool _
 rw [show (bs.map Value.bool).toArray.size=bs.length by simp,kB]
theorem Tt:Ek X (.builtin "isinstance") (fun xs H Q=>∃ x T t b,xs=[x,.ty T]∧Ky X.K H x t∧PySem.W.kitOne X.K t (.type T)=some b∧Q (.bl b) H):=by
 intro pins s σ H xs us Q I r h
 obtain ⟨x,T,t,b,rfl,ty,e,q⟩:=h
 obtain ⟨u,u2,rfl,rx,r2⟩:=AI r
 cases r2
 exact ZC I rx ty e fun tk=>⟨.bl b,H,I.tok _,rfl,q⟩
end
end L2
namespace L2
open PySem PySem.Spec PyProof.Rows
theorem ke {X:Cx} {N:List Str} (h:N.Nodup) (e:X.N=N):X.N.Nodup:=e ▸ h
noncomputable def jD (sc scope:Scope):Bool:=
 (scope.kind == .function) && scope.names.all (fun y=>y.2 != .cell) && scope.names.all (fun y=>y.2 != .free || sc.names.lookup y.1 == some .cell || sc.names.lookup y.1 == some .free) &&
  scope.names.all (fun y=>y.2 != .local || scope.names.lookup y.1 == some .local)
theorem fc {env:Env} {sc scope:Scope} (he:env.scope=sc) (h:jD sc scope=true):Mn env scope:=by
 subst he
 unfold jD at h
 simp only [Bool.and_eq_true,List.all_eq_true] at h
 obtain ⟨⟨⟨h1,h2⟩,h3⟩,h4⟩:=h
 refine ⟨by simpa using h1,fun y hy e=>?_,fun y hy e=>?_,fun y hy e=>?_⟩
 ·have:=h2 y hy
  rw [e] at this
  exact absurd this (by decide)
 ·have:=h3 y hy
  rw [e] at this
  simp only [Bool.or_eq_true] at this
  rcases this with (z | z) | z
  ·exact absurd z (by decide)
  ·exact .inl (show env.scope.names.lookup y.1=some .cell by simpa using z)
  ·exact .inr (show env.scope.names.lookup y.1=some .free by simpa using z)
 ·have:=h4 y hy
  rw [e] at this
  simp only [Bool.or_eq_true] at this
  rcases this with z | z
  ·exact absurd z (by decide)
  ·simpa using z
noncomputable def sM (M:List Str) (scope:Scope) (N:List Str) (sel:List (Option Nat)):Bool:=
 sel.length == N.length && (sel.zip N).all fun p=>match p.1 with | none=>true | some j=>M[j]? == some p.2 && scope.names.lookup p.2 == some .free
theorem Jc {M:List Str} {scope:Scope} {N:List Str} {sel:List (Option Nat)} (h:sM M scope N sel=true):TB M scope N sel:=by
 unfold sM at h
 simp only [Bool.and_eq_true,List.all_eq_true] at h
 refine ⟨by simpa using h.1,fun i j x e1 e2=>?_⟩
 have hm:(some j,x) ∈ sel.zip N:=by
  rw [List.mem_iff_getElem?]
  exact ⟨i,by rw [List.getElem?_zip_eq_some];exact ⟨e1,e2⟩⟩
 have:=h.2 _ hm
 simp only [Bool.and_eq_true] at this
 exact ⟨by simpa using this.1,by simpa using this.2⟩
noncomputable def noT:HO→Bool
 | .dT _=>false
 | .frz _ u=>noT u
 | _=>true
noncomputable def NoT (H:Hp):Prop:=∀ b o,H b=some o→noT o=true
theorem md.back {P:Program} {w:World} {H H':Hp} {h h':Heap} {a:Addr}:∀ (o:HO),noT o=true→md P w H' h' a o→md P w H h a o→md P w H h' a o
 | .lst _,_,x,_=>x
 | .tup _,_,x,_=>x
 | .dK _,_,x,_=>x
 | .dT _,e,_,_=>absurd e (by unfold noT;decide)
 | .set _ _,_,x,_=>x
 | .ins _ _ _,_,x,y=>⟨y.1,x.2⟩
 | .own _,_,x,_=>x
 | .xd _,_,x,_=>x
 | .met _ _,_,x,_=>x
 | .rng _ _,_,x,_=>x
 | .frz ob u,e,x,y=>⟨x.1,md.back u (by unfold noT at e;exact e) x.2 y.2⟩
 | .tbl _,_,x,_=>x
 | .ext _,_,x,_=>x
section
variable {P:Program} {w:World} {K:PySem.W.Frag} {mg:Str→Option Value} {base:Heap}
theorem Jb.forget {k:Nat} {f:Addr} {fd:FuncData} {ps:List Str} {sp sp':Sp} (F:Jb P w K mg base CX0 k f fd ps sp)
  (h:∀ vs H Q E,sp' vs H Q E→NoT H∧sp vs H (fun v H'=>ac H H'∧Q v H) E):Jb P w K mg base CX0 k f fd ps sp':=by
 refine ⟨fun vs H Q E q=>F.len vs H _ E (h vs H Q E q).2,fun A outer s H args us vs Q E hr he hb hv hs=>?_⟩
 obtain ⟨nt,q⟩:=h vs H Q E hs
 refine codeAny_mono (F.run A outer s H args us vs _ E hr he hb hv q) fun r s' hq=>?_
 cases r with
 | error e=>exact hq
 | ok fl=>
  cases fl with
  | next=>exact hq
  | brk=>exact hq
  | cont=>exact hq
  | ret u=>
   obtain ⟨v,H',os,bare,un,hok,rv,sm,q'⟩:=hq
   exact ⟨v,H,os,bare,⟨un.keep,un.slot,fun _ _ _ n _=>n,un.there,fun _ _ z=>z,fun _ _ _ z=>z,fun _ ps z=>⟨#[],by rw [z];simp⟩⟩,fun a o e=>(hok a o (sm a o e)).back o (nt a o e) (he.hok a o e),rv,q'⟩
end
theorem pb {H:Hp} {p:Addr} {o:HO} (h:H p=none):ac H (upd H p o):=fun b u q=>by rw [lb (vb q h)];exact q
theorem ac.updN {H H1:Hp} {p:Addr} {o:HO} (s:ac H H1) (h:H p=none):ac H (upd H1 p o):=fun b u q=>by rw [lb (vb q h)];exact s b u q
structure Sc (K:PySem.W.Frag) (a:Addr) (ns:List Int) (H:Hp):Prop where
 sq:(∃ o,H a=some (.frz o (.lst (ns.map V.int))))∨∃ (o:Obj) (its:Array Value) (n:Nat),K.lookup a=some o∧o.cls=.type "list" ∧ o.dict=none∧o.data=.seq its n∧its.size ≤ sizeLine∧Jd (ns.map V.int) its.toList
 nt:NoT H
section
variable {K:PySem.W.Frag} {a p:Addr} {ns:List Int} {H H':Hp} {o:HO}
theorem Sc.seq (s:Sc K a ns H):SqL K H a (ns.map V.int):=by
 rcases s.sq with ⟨o,h⟩ | h
 ·exact .inl (.inr ⟨o,h⟩)
 ·exact .inr h
theorem Sc.new (s:Sc K a ns H) (hp:H p=none) (ho:noT o=true:=by rfl):Sc K a ns (upd H p o):=by
 refine ⟨?_,fun b u e=>?_⟩
 ·rcases s.sq with ⟨ob,h⟩ | h
  ·exact .inl ⟨ob,by rw [lb (vb h hp)];exact h⟩
  ·exact .inr h
 ·by_cases hb:b=p
  ·subst hb;rw [db] at e;cases e;exact ho
  ·rw [lb hb] at e;exact s.nt b u e
theorem Sc.set {u:HO} (s:Sc K a ns H) (hp:H p=some u) (hu:∀ ob z,u ≠ .frz ob z) (ho:noT o=true:=by rfl):Sc K a ns (upd H p o):=by
 refine ⟨?_,fun b x e=>?_⟩
 ·rcases s.sq with ⟨ob,h⟩ | h
  ·refine .inl ⟨ob,?_⟩
   have hne:a ≠ p:=fun z=>by subst z;rw [hp] at h;exact hu _ _ (Option.some.inj h)
   rw [lb hne];exact h
  ·exact .inr h
 ·by_cases hb:b=p
  ·subst hb;rw [db] at e;cases e;exact ho
  ·rw [lb hb] at e;exact s.nt b x e
theorem Sc.of_only (hO:jJ H) (hS:SqL K H a (ns.map V.int)):Sc K a ns H:=by
 refine ⟨?_,fun b u e=>?_⟩
 ·rcases hS with (h | ⟨o,h⟩) | h
  ·rcases hO a with z | ⟨ob,xs,z⟩
   ·rw [h] at z;cases z
   ·rw [h] at z;cases z
  ·exact .inl ⟨o,h⟩
  ·exact .inr h
 ·rcases hO b with z | ⟨ob,xs,z⟩
  ·rw [e] at z;cases z
  ·rw [e] at z;cases z;rfl
end
noncomputable def SK (K:PySem.W.Frag):Sp:=fun vs H Q _=>∃ (a:Addr) (ns:List Int),vs=[.ref a]∧Sc K a ns H∧ns.length ≤ 63∧∀ H',Q (.bl true) H'
theorem jc:bootBuiltins "len"=some (.builtin "len"):=PySem.boot_len
theorem Tz:bootBuiltins "all"=some (.builtin "all"):=by decide +kernel
theorem An:bootBuiltins "max"=some (.builtin "max"):=by decide +kernel
theorem Df:bootBuiltins "isinstance"=some (.builtin "isinstance"):=by decide +kernel
theorem pk:bootBuiltins "int"=some (.type "int"):=by decide +kernel
theorem si:bootBuiltins "str"=some (.type "str"):=by decide +kernel
theorem Mw:bootBuiltins "bool"=some (.type "bool"):=by decide +kernel
theorem Zo:bootBuiltins "list"=some (.type "list"):=by decide +kernel
theorem Rd.same {H H':Hp} {a:Addr} {o:HO} (h:Rd H a o) (s:ac H H'):Rd H' a o:=by
 rcases h with h | ⟨ob,h⟩
 ·exact .inl (s _ _ h)
 ·exact .inr ⟨ob,s _ _ h⟩
theorem SqL.same {K:PySem.W.Frag} {H H':Hp} {a:Addr} {xs:List V} (h:SqL K H a xs) (s:ac H H'):SqL K H' a xs:=by
 rcases h with h | h
 ·exact .inl (h.same s)
 ·exact .inr h
theorem SqT.same {K:PySem.W.Frag} {H H':Hp} {a:Addr} {xs:List V} (h:SqT K H a xs) (s:ac H H'):SqT K H' a xs:=by
 rcases h with h | h
 ·exact .inl (h.same s)
 ·exact .inr h
theorem NoT.upd {H:Hp} {p:Addr} {o:HO} (h:NoT H) (ho:noT o=true:=by rfl):NoT (upd H p o):=fun b u e=>by
 by_cases hb:b=p
 ·subst hb;rw [db] at e;cases e;exact ho
 ·rw [lb hb] at e;exact h b u e
theorem Sc.same {K:PySem.W.Frag} {a:Addr} {ns:List Int} {H H':Hp} (s:Sc K a ns H) (sm:ac H H') (nt:NoT H'):Sc K a ns H':=by
 refine ⟨?_,nt⟩
 rcases s.sq with ⟨o,h⟩ | h
 ·exact .inl ⟨o,sm _ _ h⟩
 ·exact .inr h
theorem rE {α:Type} (f:α→V) (xs:List α) (lo hi:Option Int):∃ ys:List α,Jx (xs.map f) lo hi=ys.map f∧ys.length ≤ xs.length∧∀ y ∈ ys,y ∈ xs:=by
 unfold Jx
 rw [List.length_map,← List.map_drop,← List.map_take]
 refine ⟨_,rfl,?_,fun y hy=>List.mem_of_mem_drop (List.mem_of_mem_take hy)⟩
 rw [List.length_take,List.length_drop]
 omega
end L2
namespace L2
open PySem PySem.Spec PyProof.Rows
structure iM (K:PySem.W.Frag) (C:Addr) (m:Str) (f:Addr):Prop where
 rd:PySem.W.readsIn K C (.type "type")=true
 fd:PySem.W.findCls K (.ref C) (.type "type") m=some (.val (.ref f))
 ga:PySem.W.specialIn K (.ref C) "__getattribute__"=some (some (.builtin "type.__getattribute__"))
 kp:PySem.W.keepIn K (.ref f)=true
structure RI (P:Program) (w:World) (K:PySem.W.Frag) (mg:Str→Option Value) (base:Heap) (CX:CXT) (k:Nat) (OK:Addr→Prop) (m:Str) (ps:List Str) (SPV:Addr→Sp):Prop where
 ok:∀ C,OK C→∃ f fd,Cls K C∧Qr K C m f∧Jb P w K mg base CX k f fd ps (SPV C)∧Yb K fd ps []
noncomputable def hG (OK:Addr→Prop) (m:Str) (SPV:Addr→Sp) (E:XK) (ta:TE) (t:TA):TE:=fun σ H Q=>ta σ H fun x H1=>∃ a C dx fs,x=.ref a∧H1 a=some (.ins C dx fs)∧OK C∧fs.lookup m=none ∧
 t σ H1 fun vs H2=>SPV C (x :: vs) H2 Q E
section
variable {X:Cx} {CX:CXT} {k:Nat} {f C:Addr} {fd:FuncData} {ps:List Str} {sp:Sp} {dvs:List V} {ds:List Value} {E:XK} {x m:Str} {p pos apos:Pos} {e o:Expr} {es:List Expr} {ta:TE} {t:TA}
theorem jt {pl:Sem Bool} (hg:Gl X x) (hm:X.mg x=some (.ref C)) (c:iM X.K C m f) (F:Jb X.prog X.w X.K X.mg X.base CX k f fd ps sp) (hr:Yi k X.A) (hb:Yb X.K fd ps ds) (hd:Jd dvs ds) (hx:dl CX X E) (ha:PA X (e :: es) t)
  (hdb:(x == ("__debug__" : Str))=false:=by decide) (hst:starEach (e :: es) X.env=(false,eval e X.env) :: starEach es X.env:=by rfl) (hpl:(backTo pos (starEach es X.env)).any (·.1)=false:=by rfl)
  (ht:eval (.Call (.Attribute (.Name x p) m apos) (e :: es) [] pos) X.env=(do
   let ov ← eval (.Name x p) X.env
   standAt apos.atName
   let (f,first) ← holding [ov] (getMethod ov m pl)
   callWith pos f first (backTo pos (starEach (e :: es) X.env)) (backToKw pos (keywordEach [] X.env))):=by rfl) :
  PE X (.Call (.Attribute (.Name x p) m apos) (e :: es) [] pos) (HI sp dvs E t):=by
 intro pins s σ H Q I h
 refine PySem.W.methodCall_KW (pl:=pl) (mn I hg hm ?_ hdb) ht
 refine PySem.W.method_cls I.kIn c.ga (PySem.W.cls_value I.kIn c.rd c.fd rfl ?_)
 have I1:=I.tok (s.toks + 1)
 refine PySem.W.callWith_K (first:=[]) (h₀:=X.base) I.ok.mod.kin c.kp (thn (ha pos pins _ σ H _ I1 h) fun us s2 ⟨vs,H2,I2,r,q2⟩=>⟨I2.kIn,?_⟩) hst hpl
 exact Uu F hr hb hd hx I2 r q2
variable {OK:Addr→Prop} {SPV:Addr→Sp}
theorem Gv {pl:Sem Bool} (he:PE X o ta) (V:RI X.prog X.w X.K X.mg X.base CX k OK m ps SPV) (hr:Yi k X.A) (hx:dl CX X E)
  (ht:eval (.Call (.Attribute o m apos) [] [] pos) X.env=(do
   let ov ← eval o X.env
   standAt apos.atName
   let (f,first) ← holding [ov] (getMethod ov m pl)
   callWith pos f first (backTo pos (starEach [] X.env)) (backToKw pos (keywordEach [] X.env))):=by rfl) :
  PE X (.Call (.Attribute o m apos) [] [] pos) (hG OK m SPV E ta iL):=by
 intro pins s σ H Q I h
 refine PySem.W.methodCall_KW (pl:=pl) (thn (he pins s σ H _ I h) fun u s1 hZ1=>?_) ht
 obtain ⟨x,H1,I1,rx,a,C,dx,fs,ex,ea,ok,l,q⟩:=hZ1
 subst ex
 obtain rfl:u=Value.ref a:=rx
 obtain ⟨f,fd,c,hm,F,hb⟩:=V.ok C ok
 refine Xm I1 ea c hm l ?_
 exact PySem.W.callWith_K0 (first:=[.ref a]) I1.kIn hm.kp (Uu (us:=[.ref a]) (vs:=[.ref a]) (dvs:=[]) F hr hb .nil hx I1 (.cons rfl .nil) q)
end
section
variable {X:Cx} {x:Str} {p pos:Pos} {i:Expr} {ty:TE} {u:Value} {kvs:List (Str × V)}
end
noncomputable def Oi (K:PySem.W.Frag) (H:Hp) (a:Addr) (f:Str) (v:V):Prop:=∃ C dx fs,H a=some (.ins C dx fs)∧Cls K C∧Ib K C f∧fs.lookup f=some v
theorem Ic {f:Str} {v:V}:∀ {fs:List (Str × V)} (ks:List Str),fs.map (·.1)=ks→ks.contains f=false→og f v fs=fs ++ [(f,v)]
 | [],_,_,_=>rfl
 | (g,y) :: r,ks,e,h=>by
  cases e
  rw [List.map_cons,List.contains_cons] at h
  have h1:=(Bool.or_eq_false_iff.mp h)
  have hne:¬ g=f:=fun z=>by
   have:=h1.1
   rw [z] at this
   simp at this
  show (if g=f then _ else _)=_
  rw [if_neg hne,Ic _ rfl h1.2]
  rfl
theorem uo {f:Str} {v:V} {fs:List (Str × V)} {n:Nat} (h:fs.length < n):(og f v fs).length < n + 1:=Nat.lt_of_le_of_lt (ul f v fs) (by omega)
theorem Dd {f:Str} {v:V}:∀ {fs:List (Str × V)} (ks:List Str) (i:Nat),fs.map (·.1)=ks→ks.findIdx? (· == f)=some i→fs[i]? = some (f,v)→fs.lookup f=some v
 | [],_,_,_,_,h=>by simp at h
 | (g,y) :: r,ks,i,e,h,hv=>by
  cases e
  rw [List.map_cons,List.findIdx?_cons] at h
  rw [List.lookup]
  by_cases e:g=f
  ·subst e
   rw [beq_self_eq_true,if_pos rfl] at h
   cases h
   have:(g,y)=(g,v):=by simpa using hv
   cases this
   rw [beq_self_eq_true]
  ·rw [beq_eq_false_iff_ne.mpr e,if_neg (by decide)] at h
   obtain ⟨j,hj,rfl⟩:=Option.map_eq_some_iff.mp h
   rw [beq_eq_false_iff_ne.mpr (fun z=>e z.symm)]
   exact Dd _ j rfl hj (by simpa using hv)
theorem Gm {f:Str}:∀ {fs:List (Str × V)} (ks:List Str),fs.map (·.1)=ks→ks.contains f=false→fs.lookup f=none
 | [],_,_,_=>rfl
 | (g,y) :: r,ks,e,h=>by
  cases e
  rw [List.map_cons,List.contains_cons] at h
  have h1:=(Bool.or_eq_false_iff.mp h)
  rw [List.lookup,h1.1]
  exact Gm _ rfl h1.2
end L2
namespace L2
open PySem PySem.Spec PyProof.Rows
theorem Inv.turnedL {X:Cx} {pins:List (Addr × Obj)} {σ:St} {H:Hp} {s:Shared} {h':Heap} {t':Nat} {fp:List Addr} (I:Inv X pins σ H s) (k:∀ b o,b ∉ fp→s.heap.get? b=some o→h'.get? b=some o)
  (hf:∀ b ∈ fp,zu X pins H b):Inv X pins σ H { s with heap:=h',toks:=t' }:=by
 have nit:∀ b u,H b=some u→b ∉ fp:=fun b u e z=>by rw [(hf b z).1] at e;cases e
 refine I.step (g':=s.gens) (d':=s.drawn) (ch:=fp) (fun b hb=>?_) (fun b o _ _ hc e _=>k b o hc e) (fun b o _ _ hc e _=>⟨o.slots,k b o hc e⟩) (fun _ _ _ _ n=>n)
  (fun b o hc e=>⟨o,k b o hc e⟩) (fun _ _ e=>e) (fun _ _ _ e=>e) (fun b ps e=>⟨#[],by rw [e];simp⟩) (fun m hm=>?_) (fun b u e=>?_) I.bare
 ·obtain ⟨f0,f1,f2,f3,f4,f5⟩:=hf b hb
  exact ⟨f3,f1,f4,f5⟩
 ·obtain ⟨o,es,ep,ho,r⟩:=hm
  exact ⟨o,es,ep,k _ o (fun z=>(hf _ z).2.1 rfl) ho,r⟩
 ·refine (I.hok b u e).stay (fun c v hc q=>k c v ?_ q) (fun _ q=>q) fun _ _ q=>q
  rcases hc with z | z
  ·rw [z];exact nit b u e
  ·exact nit c _ z
noncomputable def Ite (K:PySem.W.Frag) (a:Addr):It:=
 ⟨fun i H=>∃ xs x,SqL K H a xs∧xs[i]? = some x,fun i H v H'=>∃ p y,H p=none∧v=.ref p∧(∀ xs,SqL K H a xs→xs[i]? = some y)∧H'=upd H p (.tup [.int i,y]),fun i H=>∃ xs,SqL K H a xs∧xs.length ≤ i⟩
theorem VC {P:Program} {w:World} {K:PySem.W.Frag} {es:List Expr} {k} {pos:Pos} (a e it:Addr) (hne:e ≠ it) :
  qH P w K (.Tuple es k pos) (Ite K a) [e,it] e (fun i h=>∃ old,IsEnum h e it ((i:Nat):Int) old∧h.IsListIter it a i) where
 mem:=by simp
 obj:=fun i h ⟨old,he,hi⟩ b hb=>by
  simp only [List.mem_cons,List.not_mem_nil,or_false] at hb
  rcases hb with rfl | rfl
  ·exact ⟨_,he,fun v z=>by
    have z':Data.fields _=Data.cell v:=z
    cases z'⟩
  ·obtain ⟨o,q,c,d⟩:=hi
   exact ⟨o,q,fun v z=>by rw [d] at z;cases z⟩
 keep:=fun i h h' ⟨old,he,hi⟩ k=>⟨old,k e (by simp) _ he,hi.at fun o q=>k it (by simp) o q⟩
 item:=by
  intro X hP hw hK hc i pins s σ H E I hf ⟨old,he,hi⟩ hg
  subst hP hw hK
  obtain ⟨xs,x,hq,hx⟩:=hg
  obtain ⟨its,rv,p,hz⟩:=I.list hq
  obtain ⟨u,hu,ru⟩:=rv.get hx
  refine wpAny_pyNext_enum_item he hi p.isList (x:=u) (by simpa using hu) hne fun h1 he1 hi1 ht1 hz1 hk1=>⟨_,rfl,?_⟩
  refine wpAny_letOwnedTupleGo_enum he1 fun h2 he2 hs2=>?_
  replace hs2:Heap.SameBut e h1 h2:=hs2
  have hel:e < s.heap.objs.size:=Heap.lt_size he
  have hk:∀ b o,b ∉ [e,it]→s.heap.get? b=some o→h2.get? b=some o:=fun b o hb q=>by
   simp only [List.mem_cons,List.not_mem_nil,or_false,not_or] at hb
   exact hs2.extBut _ _ hb.1 (hk1 b o hb.1 hb.2 q)
  have I1:Inv X pins σ H { s with heap:=h2,toks:=s.toks + 1 }:=I.turnedL hk hf
  have fo:zu X pins H s.heap.objs.size:=I.fpOk (Nat.le_refl _) (I.hok.fresh (Nat.le_refl _))
  have ht2:h2.get? s.heap.objs.size=some { cls:=.type "tuple",data:=.seq #[.int i s.toks,u] }:=(hs2.2 _ (Nat.ne_of_gt hel)).trans ht1
  have I2:=I1.adopt (o:=.tup [.int i,x]) fo ⟨by show 2 ≤ sizeLine;decide,[.int i s.toks,u],.cons ⟨_,rfl⟩ (.cons ru .nil),⟨_,ht2,rfl,_,rfl⟩⟩
  refine ⟨.ref s.heap.objs.size,_,I2,rfl,⟨_,x,fo.1,rfl,fun ys hy=>by rw [I.list_inj hy hq];exact hx,rfl⟩,⟨u,?_,?_⟩,fun b hb=>?_⟩
  ·have e1:((i + 1:Nat):Int)=(i:Int) + 1:=by omega
   rw [e1];exact he2
  ·exact hi1.extBut hs2.extBut (Ne.symm hne)
  ·have hlt:b < s.heap.objs.size:=by
    simp only [List.mem_cons,List.not_mem_nil,or_false] at hb
    rcases hb with rfl | rfl
    ·exact hel
    ·obtain ⟨o,q,_⟩:=hi
     exact Heap.lt_size q
   rw [lb (Nat.ne_of_lt hlt)];exact (hf b hb).1
 done:=by
  intro X hP hw hK hc i pins s σ H E I hf ⟨old,he,hi⟩ hg
  subst hP hw hK
  obtain ⟨xs,hq,hx⟩:=hg
  obtain ⟨its,rv,p,hz⟩:=I.list hq
  have hl:=rv.length
  exact wpAny_pyNext_enum_end (I.ok.hd hc) he hi p.isList (by simp;omega) fun h' eb=>⟨rfl,I.turnedL (t':=s.toks) (fun b o hb q=>eb b o (fun z=>hb (by simp [z])) q) hf⟩
 self:=fun _ _ _ _ _ ⟨_,he,_⟩ h=>wpAny_pyIter_enum he h
theorem ur:bootBuiltins "enumerate"=some (.type "enumerate"):=by decide +kernel
noncomputable def Itz (K:PySem.W.Frag) (a b:Addr):It:=
  ⟨fun i H=>∃ xs ys x y,SqL K H a xs∧SqL K H b ys∧xs[i]? = some x∧ys[i]? = some y,
   fun i H v H'=>∃ p x y,H p=none∧v=.ref p∧(∀ xs,SqL K H a xs→xs[i]? = some x)∧(∀ ys,SqL K H b ys→ys[i]? = some y)∧H'=upd H p (.tup [x,y]),
   fun i H=>∃ xs ys,SqL K H a xs∧SqL K H b ys∧(xs.length ≤ i∨ys.length ≤ i)⟩
section
variable {X:Cx}
noncomputable def BJ (K:PySem.W.Frag) (ta:TA):TI:=fun σ H R=>ta σ H fun vs H1=>∃ a,vs=[.ref a]∧(∃ xs,SqL K H1 a xs)∧R (Ite K a) H1
theorem Mt {es:List Expr} {k} {tpos:Pos} {a:Expr} {ta:TA} {p pos:Pos} (hg:Gl X "enumerate") (hm:X.mg "enumerate"=none) (ha:PA X [a] ta) (hs:starEach [a] X.env=[(false,eval a X.env)]:=by rfl) :
  PI X (.Tuple es k tpos) (.Call (.Name "enumerate" p) [a] [] pos) (BJ X.K ta):=by
 intro pins s σ H R I h
 refine Call_ (nw I hg hm ur (PyProof.Rows.callWith_type1 (thn (ha pos pins s σ H _ I h) fun us s1 hZ1=>?_) hs rfl))
 obtain ⟨vs,H1,I1,r1,q1⟩:=hZ1
 obtain ⟨a,e,⟨xs,hq⟩,q⟩:=q1
 subst e
 cases r1 with
 | cons r rr=>
  cases rr
  cases r
  obtain ⟨its,rv,pl,hz⟩:=I1.list hq
  refine call_enumerate_list pl.isList fun h' hE hI hsz hk=>wpAny_pyIter_enum hE ?_
  refine ⟨s1.heap.objs.size + 1,[s1.heap.objs.size + 1,s1.heap.objs.size],_,_,H1,rfl,I1.kept (t':=s1.toks) hk,VC a _ _ (Nat.succ_ne_self _),⟨_,hE,hI⟩,fun b hb=>?_,q⟩
  have hb':s1.heap.objs.size ≤ b:=by
   simp only [List.mem_cons,List.not_mem_nil,or_false] at hb
   rcases hb with rfl | rfl
   ·exact Nat.le_succ _
   ·exact Nat.le_refl _
  exact I1.fpOk hb' (I1.hok.fresh hb')
end
theorem kg {X:Cx} {es:List Expr} {k:Nat} {pos:Pos} {t:TGs} {n:Nat} {K:PySem.W.Frag} (hK:X.K=K) (hc:X.calm=true) (h:PGs X es t)
  (hn:(assignEach es X.env).length=n:=by rfl) (hst:(assignEach es X.env).findIdx? (·.1)=none:=by rfl):PG X (.Tuple es k pos) (QK K n t):=by
 subst hK
 exact nK hc h hn hst
section
variable {X:Cx}
noncomputable def lD:V→List V→Hp→VK→Prop:=fun x vs H Q=>∃ l xs i y,x=.ref l∧vs=[.int i,y]∧H l=some (.lst xs)∧0 ≤ i∧i < 2 ^ 62∧i ≤ (xs.length:Int)∧xs.length < sizeLine∧Q .non (upd H l (.lst (xs.take i.toNat ++ y :: xs.drop i.toNat)))
theorem Lu:MtM X "list.insert" lD:=by
 intro pins s σ H x vs v us Q I rx rv h
 obtain ⟨l,xs,i,y,rfl,rfl,hH,h0,h1,h2,hz,q⟩:=h
 cases rx
 cases rv with
 | cons ra rb=>
  cases rb with
  | @cons _ w _ _ rw' rc=>
   cases rc
   obtain ⟨t,rfl⟩:=ra
   obtain ⟨z,its,n,r,hl,e⟩:=I.lstM hH
   refine call_meets F.slot_list_insert ⟨_,e,rfl⟩ F.entry_list_insert (F.args_list_insert_3 _ _ _) (AutoListH.list_insert_list_int_val_1 l its.toArray n i t w (by rw [fitsIndex_both (k:=i) (by omega) (by omega)];decide) (by rw [List.size_toArray];omega)) ⟨e,?_⟩
   refine ⟨.non,_,I.lset (its':=its.take i.toNat ++ w :: its.drop i.toNat) hH e ?_ ((r.take i.toNat).append (.cons rw' (r.drop i.toNat))) ?_,rfl,q⟩
   ·have hk:(if i < 0 then (i + ((its.toArray.size:Nat):Int)).toNat else min i.toNat its.toArray.size)=i.toNat:=by
     rw [if_neg (by omega),List.size_toArray];omega
    show (its.toArray.extract 0 (if i < 0 then (i + ((its.toArray.size:Nat):Int)).toNat else min i.toNat its.toArray.size)).push w ++ its.toArray.extract (if i < 0 then (i + ((its.toArray.size:Nat):Int)).toNat else min i.toNat its.toArray.size)=_
    rw [hk]
    apply Array.toList_inj.mp
    simp
    exact List.take_of_length_le (by rw [List.length_drop];exact Nat.le_refl _)
   ·rw [List.length_append,List.length_cons,List.length_take,List.length_drop];omega
end
end L2
namespace L2
open PySem PySem.Spec PyProof.Rows
inductive EqH (K:PySem.W.Frag) (H:Hp):Nat→V→V→Bool→Prop
 | flat {k:Nat} {x y:V} (hx:fk x=true) (hy:fk y=true):EqH K H k x y (eqV x y)
 | lst {k:Nat} {p q:Addr} {xs ys:List V} {e:Nat→Bool} (hp:SqL K H p xs) (hq:SqL K H q ys) (hl:xs.length=ys.length) (he:∀ (j:Nat) (x y:V),xs[j]? = some x→ys[j]? = some y→EqH K H k x y (e j)):EqH K H (k + 1) (.ref p) (.ref q) ((List.range xs.length).all e)
 | lstN {k:Nat} {p q:Addr} {xs ys:List V} (hp:SqL K H p xs) (hq:SqL K H q ys) (hl:xs.length ≠ ys.length):EqH K H (k + 1) (.ref p) (.ref q) false
 | tup {k:Nat} {p q:Addr} {xs ys:List V} {e:Nat→Bool} (hp:SqT K H p xs) (hq:SqT K H q ys) (he:∀ (j:Nat) (x y:V),xs[j]? = some x→ys[j]? = some y→EqH K H k x y (e j)):EqH K H (k + 1) (.ref p) (.ref q) ((List.range (min xs.length ys.length)).all e && xs.length == ys.length)
theorem XE {x:V} (h:fk x=true):eqV x x=true:=by
 cases x <;> first | rfl | (simp [eqV];done) | cases h
theorem Hr {n:Nat} {e:Nat→Bool} (h:∀ j,j < n→e j=true):(List.range n).all e=true:=by
 rw [List.all_eq_true]
 exact fun j hj=>h j (List.mem_range.mp hj)
section
variable {X:Cx} {pins:List (Addr × Obj)} {σ:St} {H:Hp} {s:Shared}
theorem EqH.self (I:Inv X pins σ H s) {k:Nat} {x y:V} {b:Bool} (h:EqH X.K H k x y b) (e:x=y):b=true:=by
 induction h with
 | flat hx hy=>subst e;exact XE hx
 | @lst k p q xs ys f hp hq hl he ih=>
  injection e with e
  subst e
  have:=I.list_inj hp hq
  subst this
  refine Hr fun j hj=>?_
  exact ih j xs[j] xs[j] (List.getElem?_eq_getElem hj) (List.getElem?_eq_getElem hj) rfl
 | lstN hp hq hl=>
  injection e with e
  subst e
  have:=I.list_inj hp hq
  subst this
  exact absurd rfl hl
 | @tup k p q xs ys f hp hq he ih=>
  injection e with e
  subst e
  have:=I.tuple_inj hp hq
  subst this
  rw [Bool.and_eq_true]
  refine ⟨Hr fun j hj=>?_,by simp⟩
  have hj':j < xs.length:=by omega
  exact ih j xs[j] xs[j] (List.getElem?_eq_getElem hj') (List.getElem?_eq_getElem hj') rfl
theorem zm (A:Around):A.in1.units=A.units + 1:=rfl
theorem nE (I:Inv X pins σ H s) {k:Nat} {x y:V} {b:Bool} (h:EqH X.K H k x y b):∀ (A:Around) (v u:Value),A.units + k < cLine→Od x v→Od y u →
  SeqAt.EqAt A s v u b∧(∀ p q,x=.ref p→y=.ref q→SeqAt.RcAt A s v u b):=by
 induction h with
 | flat hx hy=>
  intro A v u hu rx ry
  refine ⟨cG rx ry hx hy,fun p q e _=>?_⟩
  subst e
  cases hx
 | @lst k p q xs ys f hp hq hl he ih=>
  intro A v u hu rx ry
  cases rx
  cases ry
  obtain ⟨its,r,pl,hz⟩:=I.list hp
  obtain ⟨jts,r',pl',hz'⟩:=I.list hq
  have l1:=r.length
  have l2:=r'.length
  have rc:SeqAt.RcAt A s (.ref p) (.ref q) ((List.range xs.length).all f):=by
   have:=SeqAt.RcAt.lists (A:=A) (e:=f) pl.isList pl'.isList (by simp only [List.size_toArray];omega) (by omega) fun j h1 h2=>by
    simp only [List.size_toArray] at h1 h2
    have hj:j < xs.length:=by omega
    have hj':j < ys.length:=by omega
    obtain ⟨a,ha,ra⟩:=r.get (List.getElem?_eq_getElem hj)
    obtain ⟨c,hc,rc⟩:=r'.get (List.getElem?_eq_getElem hj')
    have ea:its.toArray[j]=a:=by
     have:=List.getElem?_eq_getElem h1
     rw [ha] at this
     simpa using (Option.some.inj this).symm
    have ec:jts.toArray[j]=c:=by
     have:=List.getElem?_eq_getElem h2
     rw [hc] at this
     simpa using (Option.some.inj this).symm
    rw [ea,ec]
    exact (ih j _ _ (List.getElem?_eq_getElem hj) (List.getElem?_eq_getElem hj') A.in1 a c (by rw [zm];omega) ra rc).1
   rwa [List.size_toArray,← l1] at this
  refine ⟨?_,fun _ _ _ _=>rc⟩
  by_cases hne:p=q
  ·have hb:=(EqH.lst hp hq hl he).self I (congrArg V.ref hne)
   rw [hb,hne]
   exact SeqAt.EqAt.same _
  ·exact SeqAt.EqAt.of_refs hne rc
 | @lstN k p q xs ys hp hq hl=>
  intro A v u hu rx ry
  cases rx
  cases ry
  obtain ⟨its,r,pl,hz⟩:=I.list hp
  obtain ⟨jts,r',pl',hz'⟩:=I.list hq
  have l1:=r.length
  have l2:=r'.length
  have rc:SeqAt.RcAt A s (.ref p) (.ref q) false:=SeqAt.RcAt.lists_lengths pl.isList pl'.isList (by simp only [List.size_toArray,bne_iff_ne,ne_eq];omega) (by omega)
  refine ⟨SeqAt.EqAt.of_refs (fun e=>hl ?_) rc,fun _ _ _ _=>rc⟩
  subst e
  rw [I.list_inj hp hq]
 | @tup k p q xs ys f hp hq he ih=>
  intro A v u hu rx ry
  cases rx
  cases ry
  obtain ⟨its,r,pl,hz⟩:=I.tuple hp
  obtain ⟨jts,r',pl',hz'⟩:=I.tuple hq
  have l1:=r.length
  have l2:=r'.length
  have rc:SeqAt.RcAt A s (.ref p) (.ref q) ((List.range (min xs.length ys.length)).all f && xs.length == ys.length):=by
   have:=SeqAt.RcAt.tuples (A:=A) (e:=f) pl pl' (by omega) fun j h1 h2=>by
    simp only [List.size_toArray] at h1 h2
    have hj:j < xs.length:=by omega
    have hj':j < ys.length:=by omega
    obtain ⟨a,ha,ra⟩:=r.get (List.getElem?_eq_getElem hj)
    obtain ⟨c,hc,rc⟩:=r'.get (List.getElem?_eq_getElem hj')
    have ea:its.toArray[j]=a:=by
     have:=List.getElem?_eq_getElem h1
     rw [ha] at this
     simpa using (Option.some.inj this).symm
    have ec:jts.toArray[j]=c:=by
     have:=List.getElem?_eq_getElem h2
     rw [hc] at this
     simpa using (Option.some.inj this).symm
    rw [ea,ec]
    exact (ih j _ _ (List.getElem?_eq_getElem hj) (List.getElem?_eq_getElem hj') A.in1 a c (by rw [zm];omega) ra rc).1
   rwa [List.size_toArray,List.size_toArray,← l1,← l2] at this
  refine ⟨?_,fun _ _ _ _=>rc⟩
  by_cases hne:p=q
  ·have hb:=(EqH.tup hp hq he).self I (congrArg V.ref hne)
   rw [hb,hne]
   exact SeqAt.EqAt.same _
  ·exact SeqAt.EqAt.of_refs hne rc
end
section
variable {X:Cx} {pins:List (Addr × Obj)} {σ:St} {H:Hp} {s:Shared}
theorem aw (I:Inv X pins σ H s) {k:Nat} {A:Around} {xs ys:List V} {its jts:List Value} {f:Nat→Bool} (hu:A.units + k < cLine) (r:Jd xs its) (r':Jd ys jts)
  (he:∀ (j:Nat) (x y:V),xs[j]? = some x→ys[j]? = some y→EqH X.K H k x y (f j)):∀ j (h1:j < its.toArray.size) (h2:j < jts.toArray.size),SeqAt.EqAt A s its.toArray[j] jts.toArray[j] (f j):=fun j h1 h2=>by
 simp only [List.size_toArray] at h1 h2
 have l1:=r.length
 have l2:=r'.length
 have hj:j < xs.length:=by omega
 have hj':j < ys.length:=by omega
 obtain ⟨a,ha,ra⟩:=r.get (List.getElem?_eq_getElem hj)
 obtain ⟨c,hc,rc⟩:=r'.get (List.getElem?_eq_getElem hj')
 have ea:its.toArray[j]=a:=by
  have:=List.getElem?_eq_getElem h1
  rw [ha] at this
  simpa using (Option.some.inj this).symm
 have ec:jts.toArray[j]=c:=by
  have:=List.getElem?_eq_getElem h2
  rw [hc] at this
  simpa using (Option.some.inj this).symm
 rw [ea,ec]
 exact (nE I (he j _ _ (List.getElem?_eq_getElem hj) (List.getElem?_eq_getElem hj')) A a c hu ra rc).1
theorem LK (I:Inv X pins σ H s) {k:Nat} {p q:Addr} {b:Bool} (h:EqH X.K H k (.ref p) (.ref q) b) (A:Around) (hu:A.units + k < cLine):SeqAt.RcNeAt A s (.ref p) (.ref q) (!b):=by
 cases h with
 | flat hx hy=>cases hx
 | @lst k _ _ xs ys f hp hq hl he=>
  obtain ⟨its,r,pl,hz⟩:=I.list hp
  obtain ⟨jts,r',pl',hz'⟩:=I.list hq
  have l1:=r.length
  have l2:=r'.length
  have:=SeqAt.RcNeAt.lists (A:=A) (e:=f) pl.isList pl'.isList (by simp only [List.size_toArray];omega) (by omega) (aw I (A:=A.in1) (k:=k) (by rw [zm];omega) r r' he)
  rwa [List.size_toArray,← l1] at this
 | @lstN k _ _ xs ys hp hq hl=>
  obtain ⟨its,r,pl,hz⟩:=I.list hp
  obtain ⟨jts,r',pl',hz'⟩:=I.list hq
  have l1:=r.length
  have l2:=r'.length
  exact SeqAt.RcNeAt.lists_lengths pl.isList pl'.isList (by simp only [List.size_toArray,bne_iff_ne,ne_eq];omega) (by omega)
 | @tup k _ _ xs ys f hp hq he=>
  obtain ⟨its,r,pl,hz⟩:=I.tuple hp
  obtain ⟨jts,r',pl',hz'⟩:=I.tuple hq
  have l1:=r.length
  have l2:=r'.length
  have:=SeqAt.RcNeAt.tuples (A:=A) (e:=f) pl pl' (by omega) (aw I (A:=A.in1) (k:=k) (by rw [zm];omega) r r' he)
  rwa [List.size_toArray,List.size_toArray,← l1,← l2] at this
end
section
variable {X:Cx}
noncomputable def aM (K:PySem.W.Frag):R2:=fun x y H Q=>∃ p q b,x=.ref p∧y=.ref q∧EqH K H 8 (.ref p) (.ref q) b∧Q (.bl (!b)) H
theorem TK (hU:X.A.units + 64 < cLine):OpR X (compareOp .NotEq) (aM X.K):=by
 intro pins s σ H x y v u Q I rx ry h
 obtain ⟨p,q,b,rfl,rfl,hE,q'⟩:=h
 cases rx
 cases ry
 exact LK I hE X.A (by omega) _ _ _ _ ⟨.bl (!b),H,I,rfl,q'⟩
end
theorem EqH.mono {K:PySem.W.Frag} {H:Hp} {j k:Nat} {x y:V} {b:Bool} (h:EqH K H j x y b):j ≤ k→EqH K H k x y b:=by
 induction h generalizing k with
 | flat hx hy=>exact fun _=>.flat hx hy
 | lst hp hq hl he ih=>
  intro hk
  obtain ⟨m,rfl⟩:∃ m,k=m + 1:=⟨k - 1,by omega⟩
  exact .lst hp hq hl fun j x y h1 h2=>ih j x y h1 h2 (by omega)
 | lstN hp hq hl=>
  intro hk
  obtain ⟨m,rfl⟩:∃ m,k=m + 1:=⟨k - 1,by omega⟩
  exact .lstN hp hq hl
 | tup hp hq he ih=>
  intro hk
  obtain ⟨m,rfl⟩:∃ m,k=m + 1:=⟨k - 1,by omega⟩
  exact .tup hp hq fun j x y h1 h2=>ih j x y h1 h2 (by omega)
noncomputable def dL:V→V→Bool
 | .int _,.int _=>true
 | .str _,.str _=>true
 | .bl _,.bl _=>true
 | .non,.non=>true
 | _,_=>false
theorem Hw {x y:V} (h:dL x y=true):fk x=true∧fk y=true∧eqV x y=decide (x=y):=by
 cases x <;> cases y <;> first | (exfalso;simp [dL] at h;done) | (refine ⟨rfl,rfl,?_⟩;rfl) | (refine ⟨rfl,rfl,?_⟩;rw [Bool.eq_iff_iff];simp [eqV];done)
theorem EqH.flats {K:PySem.W.Frag} {H:Hp} {k:Nat} {p q:Addr} {xs ys:List V} (hp:SqL K H p xs) (hq:SqL K H q ys) (h:∀ x ∈ xs,∀ y ∈ ys,dL x y=true):EqH K H (k + 1) (.ref p) (.ref q) (decide (xs=ys)):=by
 by_cases hl:xs.length=ys.length
 ·have hd:decide (xs=ys)=(List.range xs.length).all fun j=>eqV (xs.getD j .non) (ys.getD j .non):=by
   rw [Bool.eq_iff_iff,decide_eq_true_eq,List.all_eq_true]
   constructor
   ·rintro rfl j hj
    have hj':=List.mem_range.mp hj
    have hm:xs.getD j .non ∈ xs:=by rw [List.getD_eq_getElem?_getD,List.getElem?_eq_getElem hj'];exact List.getElem_mem hj'
    rw [(Hw (h _ hm _ hm)).2.2,decide_eq_true rfl]
   ·intro z
    refine List.ext_getElem hl fun j h1 h2=>?_
    have:=z j (List.mem_range.mpr h1)
    rw [List.getD_eq_getElem?_getD,List.getD_eq_getElem?_getD,List.getElem?_eq_getElem h1,List.getElem?_eq_getElem h2] at this
    have w:eqV xs[j] ys[j]=true:=this
    rw [(Hw (h _ (List.getElem_mem h1) _ (List.getElem_mem h2))).2.2,decide_eq_true_eq] at w
    exact w
  rw [hd]
  refine .lst hp hq hl fun j x y h1 h2=>?_
  have e:=Hw (h x (List.mem_of_getElem? h1) y (List.mem_of_getElem? h2))
  rw [List.getD_eq_getElem?_getD,List.getD_eq_getElem?_getD,h1,h2]
  exact .flat e.1 e.2.1
 ·rw [decide_eq_false (fun z=>hl (by rw [z]))]
  exact .lstN hp hq hl
end L2
namespace L2
open PySem PySem.Spec PyProof.Rows PySem.Builtin PySem.Builtin.ObjectAttr
theorem VG {H:Hp} {a:Addr} {o:HO} (h:H a=some o):upd H a o=H:=by
 funext b
 unfold upd
 by_cases e:b=a
 ·rw [if_pos e,e,h]
 ·rw [if_neg e]
noncomputable abbrev bmV:List Value:=[.type "ValueError",.type "Exception",.type "BaseException",.type "object"]
noncomputable def Ks (K:PySem.W.Frag) (C fI:Addr):Bool:=
 match K.lookup C with
 | some ⟨.type "type",_,.cls cd,sl⟩=>
  match cd.mro,sl.toList with
  | .ref D :: tl,[_,_,_,_,some (.builtin n),_]=>
   (D == C) && (n == "ValueError.__new__") && (cd.hasDel == false) && (cd.hasDict == true) && PySem.W.tailIn K bmV tl && PySem.W.nsOkIn K cd.ns && (PySem.W.nsIn K cd.ns "__init__" == some (some (.ref fI)))
  | _,_=>false
 | _=>false
theorem fH {K:PySem.W.Frag} {h:Heap} {N:Addr} {mN:Str→Option Value} {x:Str} {v:Value} (KX:K.In h) (G:h.Ns N mN) (e:PySem.W.nsIn K N x=some (some v)):mN x=some v:=by
 obtain ⟨ob,rows,ep,e1,e2,_,look⟩:=G
 unfold PySem.W.nsIn at e
 split at e
 ·rename_i ho
  have z:=KX _ _ ho
  rw [e1] at z
  cases z
  cases e2
  split at e
  ·rename_i en he
   cases e
   rw [← look]
   unfold nsFind findBy
   rw [← Array.find?_toList,he];rfl
  ·split at e <;> cases e
 ·cases e
theorem Kt {K:PySem.W.Frag} {h:Heap} {C fI:Addr} (KX:K.In h) (e:Ks K C fI=true) :
  ∃ tl N nm q bs sn sub ab co dd k0 k1 k2 k3 k5 mN,h.get? C=some (excClassObj nm q C N bs tl true sn sub ab co dd k0 k1 k2 k3 k5 "ValueError.__new__")∧h.Ns N mN∧mN "__init__"=some (.ref fI)∧OwnTail h bmV tl:=by
 unfold Ks at e
 split at e
 ·rename_i dd cd sl ho
  split at e
  ·rename_i D tl k0 k1 k2 k3 n k5 hm hs
   simp only [Bool.and_eq_true,beq_iff_eq] at e
   obtain ⟨⟨⟨⟨⟨⟨e1,e2⟩,e3⟩,e4⟩,e5⟩,e6⟩,e7⟩:=e
   obtain ⟨nm,bs,mro,ns,qn,hd,sn,sub,ab,co,del⟩:=cd
   simp only at hm e3 e4 e6 e7
   subst hm e1 e2 e3 e4
   obtain ⟨l⟩:=sl
   simp only at hs
   subst hs
   have G:h.Ns ns (h.nsMap ns):=.of_isNs (PySem.W.isNs_of_in KX e6)
   exact ⟨tl,ns,nm,qn,bs,sn,sub,ab,co,dd,k0,k1,k2,k3,k5,h.nsMap ns,KX _ _ ho,G,fH KX G e7,PySem.W.tail_of_in KX e5⟩
  ·cases e
 ·cases e
section
variable {P:Program} {w:World} {A:Around} {h:Heap} {g:Array GenState} {d:Drawn} {t:Nat} {os:OsState} {K:PySem.W.Frag} {C fI:Addr} {R:Result→Shared→Prop}
theorem YA {us:List Value} (KX:K.In h) (e:Ks K C fI=true) (hf:PySem.W.typeIn K (.ref fI)=some (.type "function")) (hz:us.length ≤ sizeLine)
  (hq:∀ h' x,h.objs.size ≤ x→Heap.MadeExcOf h h' x (.ref C) us→codeAny (model P w) (A.under (.builtin "type.__call__" ⟨.ref C :: us,[]⟩)) (.call (.ref fI) ⟨.ref x :: us,[]⟩) (PySem.W.InitBack x R) ⟨h',g,d,t,os⟩) :
  codeAny (model P w) A (.call (.ref C) ⟨us,[]⟩) R ⟨h,g,d,t,os⟩:=by
 obtain ⟨tl,N,nm,q,bs,sn,sub,ab,co,dd,k0,k1,k2,k3,k5,mN,hC,hN,hi,T⟩:=Kt KX e
 have F:=PySem.F.excBase_ValueError
 have f1:=tc_lookup
 have f2:=tc_bind (.ref C)
 have ty:(⟨h,g,d,t,os⟩:Shared).TypeIs (.ref C) "type" := ⟨_,hC,rfl⟩
 refine codeAny_of_tree ?_
 show wpAny _ _ (callAny (.ref C) _) _ _ _
 repeat (any_goals (first | assumption | with_reducible refine wpAny_loadPart_at hC ?_ | wp_step))
 refine ⟨rfl,?_⟩
 refine codeAny_call_builtin_at (Code.quiet_builtin _ (by decide +kernel)) entry_typeCall (wpAny_check_type_call_sub hC ?_)
 repeat (first | with_reducible refine wpAny_loadPart_at hC ?_ | with_reducible refine wpAny_madeBy_exc hC ?_ | wp_step)
 refine codeAny_call_builtin_code (Code.quiet_builtin _ F.quiet) (wpAny_check_new_subT F T hC ?_)
 refine codeAny_exc_new_subT (rest:=us) F T hC ?_ hz
 show wpAny _ _ _ _ _ _
 generalize hh:(h.push { cls:=.type "tuple",data:=.seq us.toArray }).push { cls:=.ref C,data:=.fields #[.ref h.objs.size,.none,.none,.none,.bool false,.none] }=h2
 have k:∀ b o,h.get? b=some o→h2.get? b=some o:=fun b o z=>by rw [← hh];exact Heap.get?_push_of_some _ (Heap.get?_push_of_some _ z)
 have hx:h2.get? (h.objs.size + 1)=some { cls:=.ref C,data:=.fields #[.ref h.objs.size,.none,.none,.none,.bool false,.none] }:=by rw [← hh];heap_get
 have ht:h2.get? h.objs.size=some { cls:=.type "tuple",data:=.seq us.toArray }:=by rw [← hh];exact Heap.get?_push_of_some _ (Heap.get?_push_at rfl rfl)
 have M:Heap.MadeExcOf h h2 (h.objs.size + 1) (.ref C) us:=⟨k,Heap.get?_none_of_le (Nat.le_succ _),h.objs.size,hx,Heap.get?_none_of_le (Nat.le_refl _),ht⟩
 have cC:(Value.ref C :: tl).contains (.ref C)=true:=by simp
 unfold isInstance
 repeat (first | with_reducible refine wpAny_loadPart_at hx ?_ | wp_step)
 refine wpAny_isSubtype_exc (k _ _ hC) ?_
 rw [cC]
 repeat wp_step
 show wpAny _ _ (typeLookup (.ref C) _) _ _ _
 refine wpAny_typeLookup_tail (k _ _ hC) (hN.keeps k) (T.keeps k) F.mroIs F.init.lookup ?_
 rw [hi]
 refine wpAny_holding (wpAny_bind ((PySem.W.bind_fn (KX.keeps k) _ hf).here (wpAny_bind (wpAny_call ?_))))
 refine codeAny_mono (hq h2 _ (Nat.le_succ _) M) fun r s' z=>?_
 rcases r with e | (v | _ | _ | _) <;> first | exact z | exact z.elim | skip
 obtain ⟨rfl,z⟩:=z
 exact wpAny_pure (wpAny_pure z)
end
noncomputable def yC:List Value→Bool
 | .ref _ :: r=>yC r
 | l=>l == bmV
theorem yj (self:Value):refuseLoop self "__setattr__" bmV=pure ():=by kernel_rfl
theorem On (self:Value):∀ {l:List Value},yC l=true→refuseLoop self "__setattr__" l=pure ()
 | .ref c :: r,e=>by rw [refuseLoop_ref];exact On self (l:=r) e
 | [],e=>by cases e
 | .type n :: r,e=>by rw [show Value.type n :: r=bmV from beq_iff_eq.mp e];exact yj self
 | .none :: r,e=>by rw [show Value.none :: r=bmV from beq_iff_eq.mp e];exact yj self
 | .bool b :: r,e=>by rw [show Value.bool b :: r=bmV from beq_iff_eq.mp e];exact yj self
 | .int b c :: r,e=>by rw [show Value.int b c :: r=bmV from beq_iff_eq.mp e];exact yj self
 | .str b c :: r,e=>by rw [show Value.str b c :: r=bmV from beq_iff_eq.mp e];exact yj self
 | .bytes b c :: r,e=>by rw [show Value.bytes b c :: r=bmV from beq_iff_eq.mp e];exact yj self
 | .float b c :: r,e=>by rw [show Value.float b c :: r=bmV from beq_iff_eq.mp e];exact yj self
 | .builtin b :: r,e=>by rw [show Value.builtin b :: r=bmV from beq_iff_eq.mp e];exact yj self
theorem Rv (T:String) (h:bmV.contains (.type T)=true):∀ {l:List Value},yC l=true→l.contains (.type T)=true
 | .ref c :: r,e=>by rw [List.contains_cons,Rv T h (l:=r) e,Bool.or_true]
 | [],e=>by cases e
 | .type n :: r,e=>by rw [show Value.type n :: r=bmV from beq_iff_eq.mp e];exact h
 | .none :: r,e=>by rw [show Value.none :: r=bmV from beq_iff_eq.mp e];exact h
 | .bool b :: r,e=>by rw [show Value.bool b :: r=bmV from beq_iff_eq.mp e];exact h
 | .int b c :: r,e=>by rw [show Value.int b c :: r=bmV from beq_iff_eq.mp e];exact h
 | .str b c :: r,e=>by rw [show Value.str b c :: r=bmV from beq_iff_eq.mp e];exact h
 | .bytes b c :: r,e=>by rw [show Value.bytes b c :: r=bmV from beq_iff_eq.mp e];exact h
 | .float b c :: r,e=>by rw [show Value.float b c :: r=bmV from beq_iff_eq.mp e];exact h
 | .builtin b :: r,e=>by rw [show Value.builtin b :: r=bmV from beq_iff_eq.mp e];exact h
structure gu (K:PySem.W.Frag) (C:Addr):Prop where
 hd:PySem.W.hasDictIn K C=true
 ov:((PySem.W.clsIn K C).any fun cd=>yC cd.mro)=true
 sa:PySem.W.findIn K (.ref C) "__setattr__"=some (some (.builtin "object.__setattr__"))
 ga:PySem.W.findIn K (.ref C) "__getattribute__"=some (some (.builtin "BaseException.__getattribute__"))
 gt:PySem.W.findIn K (.ref C) "__getattr__"=some none
 ex:∃ fI,Ks K C fI=true
noncomputable def XF (x C:Addr) (od:Option Addr):Heap→Prop:=fun h=>∃ vs sl,h.get? x=some ⟨.ref C,od,.fields vs,sl⟩∧1 < vs.size∧vs[1]? = some .none
noncomputable def XD (dx:Addr) (fs:List (Str × V)):Heap→Prop:=fun h=>∃ mA,h.Ns1 dx mA∧(∀ f,yr (fs.lookup f) (mA f))∧PySem.Within mA (fs.map (·.1))
theorem XF.at {x C:Addr} {od:Option Addr} {h h':Heap} (z:XF x C od h) (k:∀ o,h.get? x=some o→h'.get? x=some o):XF x C od h':=let ⟨vs,sl,e,r⟩:=z;⟨vs,sl,k _ e,r⟩
theorem XD.at {dx:Addr} {fs:List (Str × V)} {h h':Heap} (z:XD dx fs h) (k:∀ o,h.get? dx=some o→h'.get? dx=some o):XD dx fs h':=let ⟨mA,e,r⟩:=z;⟨mA,e.at k,r⟩
theorem XF.ok {P:Program} {w:World} {H:Hp} {h:Heap} {x C:Addr} {od:Option Addr} (z:XF x C od h):md P w H h x (.ext (XF x C od)):=by
 obtain ⟨vs,sl,e,r⟩:=id z
 exact ⟨z,⟨_,e⟩,fun h1 h2 q k=>q.at k⟩
theorem XD.ok {P:Program} {w:World} {H:Hp} {h:Heap} {dx:Addr} {fs:List (Str × V)} (z:XD dx fs h):md P w H h dx (.ext (XD dx fs)):=by
 obtain ⟨mA,⟨o,es,ep,e,_⟩,_⟩:=id z
 exact ⟨z,⟨_,e⟩,fun h1 h2 q k=>q.at k⟩
section
variable {prog:Program} {w:World} {A:Around} {E:Value→Shared→Prop} {K:PySem.W.Frag} {C x:Addr} {s:Shared} {R:Result→Shared→Prop}
theorem mM {ox:Obj} {od:Option Obj} {name:Str} {tk:Tok} {v:Value} (KX:K.In s.heap) (J:PySem.W.InstAt s.heap x ox C od) (c:gu K C) (ht:Ib K C name)
  (h:wpAny (model prog w) A.in1 (storeInOwnDict (.ref x) (.ref C) (.str name tk) name v false)
   (fun fin s'=>match fin with | .done f=>R (.ok f) s' | .again c'=>c'.quiet=true∧codeAny (model prog w) A c' R s') (fun e s'=>R (.error e) s') s) :
  codeAny (model prog w) A (.call (.builtin "object.__setattr__") ⟨[.ref x,.str name tk,v],[]⟩) R s:=by
 have G:=PySem.F.store_object
 obtain ⟨cd,hc,ho⟩:=PySem.W.any_some c.ov
 have ne:cd.mro.isEmpty=false:=by
  cases q:cd.mro with
  | nil=>rw [q] at ho;cases ho
  | cons _ _=>rfl
 have sub:PySem.W.Looks (model prog w) s.heap (isInstance (.ref x) (.type "object")) true:=
  J.type.andThen (PySem.W.looks_mroIn KX (by unfold PySem.W.mroIn;rw [hc,Option.bind_some,if_neg (by rw [ne];decide),Rv "object" (by decide) ho]))
 refine codeAny_call_builtin G.slot.plain G.entry (@PySem.W.check_slot (model prog w) _ _ s "object.__setattr__" "object" "__setattr__" (.ref x) [.str name tk,v] [] _ G.kind G.split sub (G.args (.ref x) (.str name tk) v) ?_)
 have hm:PySem.W.Looks (model prog w) s.heap (mroOf (.ref C)) cd.mro:=(PySem.W.looks_clsIn KX hc).andThen .now
 rw [PySem.W.osa_eq,refuse_eq]
 refine wpAny_bind (wpAny_bind (J.type.here (wpAny_bind (hm.here ?_))))
 rw [On _ ho]
 exact wpAny_pure (wpAny_bind (J.type.here (wpAny_bind ((PySem.W.looks_findIn KX ht).here (wpAny_bind (wpAny_pure h))))))
end
section
variable {X:Cx} {pins:List (Addr × Obj)} {σ:St} {H:Hp} {s:Shared} {x C dx:Addr} {fs:List (Str × V)} {f:Str} {y:V} {u:Value} {A:Around} {E:Value→Shared→Prop} {Q:Unit→Shared→Prop}
theorem AF (I:Inv X pins σ H s) (e:H x=some (.ext (XF x C none))) (c:gu X.K C) (n:Ib X.K C f) (ry:Od y u)
  (h:∀ dx s',H dx=none→dx ≠ x→Inv X pins σ (upd (upd H x (.ext (XF x C (some dx)))) dx (.ext (XD dx [(f,y)]))) s'→Q () s'):wpAny (model X.prog X.w) A (setAttr (.ref x) f u) Q E s:=by
 obtain ⟨vs,sl,hx,z1,z2⟩:=(show md X.prog X.w H s.heap x (.ext (XF x C none)) from I.hok _ _ e).1
 have J:PySem.W.InstAt s.heap x ⟨.ref C,none,.fields vs,sl⟩ C none:=⟨hx,rfl,rfl,True.intro⟩
 refine PySem.W.set_plain I.kIn J c.sa (mM (s:={ s with toks:=s.toks + 1 }) I.kIn J c n ?_)
 obtain ⟨cd,hc,hd'⟩:=PySem.W.any_some c.hd
 refine wpAny_bind (wpAny_pure (wpAny_bind (wpAny_bind (wpAny_loadPart hx (wpAny_bind (PySem.W.Looks.here (s:={ s with toks:=s.toks + 1 }) (PySem.W.looks_clsIn I.kIn hc) ?_))))))
 rw [hd']
 show wpAny _ _ (alloc PySem.W.emptyDict >>= fun d=>(update x fun o=>{ o with dict:=some d }) >>= fun _=>dictMade (.ref C) x d) _ _ _
 refine wpAny_bind (wpAny_alloc (wpAny_bind ?_))
 have hx1:(s.heap.push PySem.W.emptyDict).get? x=some ⟨.ref C,none,.fields vs,sl⟩:=Heap.get?_push_of_some _ hx
 have lx:x < s.heap.objs.size:=Heap.lt_size hx
 refine wpAny_update hx1 (wpAny_pure ?_)
 have e1:(s.heap.push PySem.W.emptyDict).get? s.heap.objs.size=some PySem.W.emptyDict:=Heap.get?_push_size s.heap rfl
 have e3:(s.heap.push PySem.W.emptyDict).Ns s.heap.objs.size (fun _=>none):=⟨PySem.W.emptyDict,#[],_,e1,rfl,(fun e he=>absurd he (by simp)),fun _=>rfl⟩
 generalize hg2:(s.heap.push PySem.W.emptyDict).update x (fun o=>{ o with dict:=some s.heap.objs.size })=h2
 have nx:s.heap.objs.size ≠ x:=Nat.ne_of_gt lx
 have k2:∀ b,b ≠ x→h2.get? b=(s.heap.push PySem.W.emptyDict).get? b:=fun b hb=>by rw [← hg2];exact Heap.get?_update_other _ _ (Ne.symm hb)
 have x2:h2.get? x=some ⟨.ref C,some s.heap.objs.size,.fields vs,sl⟩:=by rw [← hg2];exact Heap.get?_update_self _ hx1 rfl
 have n2:h2.Ns1 s.heap.objs.size (fun _=>none):=(Heap.Ns1.of_empty e3).at fun o q=>(k2 _ nx).trans q
 refine wpAny_bind (wpAny_pure (wpAny_bind ?_))
 refine wpAny_nsSet1 (s:={ s with heap:=h2,toks:=s.toks + 1 }) n2 fun h3 n3 s3=>?_
 have wi:PySem.Within (fun a=>if a=f then some u else none) [f]:=PySem.Within.cons f u (fun a ha=>absurd rfl ha)
 obtain ⟨oD,esD,epD,hoD,hdD,hcD⟩:=n3.count wi
 refine wpAny_bind (wpAny_lookBehind hoD (by rw [hdD];exact pastItsLine_dict (Nat.le_trans hcD (by rw [sizeLine_eq];show 1 ≤ _;decide))) ?_)
 refine wpAny_pure (h s.heap.objs.size _ (I.hok.fresh (Nat.le_refl _)) nx ?_)
 have k3:∀ b o,b ≠ x→s.heap.get? b=some o→h3.get? b=some o:=fun b o hb q=>
  (s3.2 b (fun z=>by rw [z] at q;exact absurd (Heap.lt_size q) (Nat.lt_irrefl _))).trans ((k2 b hb).trans (Heap.get?_push_of_some _ q))
 have x3:h3.get? x=some ⟨.ref C,some s.heap.objs.size,.fields vs,sl⟩:=(s3.2 x (Ne.symm nx)).trans x2
 generalize hgA:s.heap.update x (fun o=>{ o with dict:=some s.heap.objs.size })=hA
 have kA:∀ b,b ≠ x→hA.get? b=s.heap.get? b:=fun b hb=>by rw [← hgA];exact Heap.get?_update_other _ _ (Ne.symm hb)
 have xA:hA.get? x=some ⟨.ref C,some s.heap.objs.size,.fields vs,sl⟩:=by rw [← hgA];exact Heap.get?_update_self _ hx rfl
 have szA:hA.objs.size=s.heap.objs.size:=by rw [← hgA];exact Heap.size_update _ _ _
 have IA:=I.write (x:=x) (e:=x) (o:=.ext (XF x C (some s.heap.objs.size))) (h':=hA) (t':=s.toks) (by rw [e];exact True.intro) (.inl rfl) (fun b o hb q=>(kA b hb).trans q) ⟨_,xA⟩ (XF.ok ⟨vs,sl,xA,z1,z2⟩)
 refine IA.laid (a:=s.heap.objs.size) (h':=h3) (fun b o q=>?_) (Nat.le_of_eq szA) (XD.ok ⟨_,n3,fun g=>?_,wi⟩)
 ·by_cases hb:b=x
  ·subst hb;rw [xA] at q;rw [x3,← q]
  ·rw [kA b hb] at q;exact k3 b o hb q
 ·show yr (List.lookup g [(f,y)]) (if g=f then some u else none)
  by_cases hq:g=f
  ·rw [if_pos hq,hq,List.lookup_cons_self];exact ry
  ·rw [if_neg hq,List.lookup_cons,beq_false_of_ne hq];exact True.intro
theorem qB (I:Inv X pins σ H s) (e:H x=some (.ext (XF x C (some dx)))) (ed:H dx=some (.ext (XD dx fs))) (c:gu X.K C) (n:Ib X.K C f) (hl:fs.length < 1000) (ry:Od y u)
  (h:∀ s',Inv X pins σ (upd H dx (.ext (XD dx (og f y fs)))) s'→Q () s'):wpAny (model X.prog X.w) A (setAttr (.ref x) f u) Q E s:=by
 obtain ⟨vs,sl,hx,z1,z2⟩:=(show md X.prog X.w H s.heap x (.ext (XF x C (some dx))) from I.hok _ _ e).1
 obtain ⟨mA,n1,r,wi⟩:=(show md X.prog X.w H s.heap dx (.ext (XD dx fs)) from I.hok _ _ ed).1
 obtain ⟨od,ho,hlk⟩:=fv n1
 have J:PySem.W.InstAt s.heap x ⟨.ref C,some dx,.fields vs,sl⟩ C (some od):=⟨hx,rfl,rfl,ho⟩
 refine PySem.W.set_plain I.kIn J c.sa (mM (s:={ s with toks:=s.toks + 1 }) I.kIn J c n ?_)
 obtain ⟨cd,hc,hd'⟩:=PySem.W.any_some c.hd
 refine wpAny_bind (wpAny_pure (wpAny_bind (wpAny_bind (wpAny_loadPart hx (wpAny_bind (PySem.W.Looks.here (s:={ s with toks:=s.toks + 1 }) (PySem.W.looks_clsIn I.kIn hc) ?_))))))
 rw [hd']
 refine wpAny_pure (a:=some dx) (wpAny_bind (wpAny_pure (wpAny_bind ?_)))
 refine wpAny_nsSet1 (s:={ s with toks:=s.toks + 1 }) n1 fun h3 n3 s3=>?_
 obtain ⟨oD,esD,epD,hoD,hdD,hcD⟩:=n3.count (PySem.Within.cons f u wi)
 refine wpAny_bind (wpAny_lookBehind hoD (by rw [hdD];exact pastItsLine_dict (Nat.le_trans hcD (by rw [List.length_cons,List.length_map,sizeLine_eq];omega))) ?_)
 refine wpAny_pure (h _ ?_)
 refine I.write (x:=dx) (e:=dx) (by rw [ed];exact True.intro) (.inl rfl) (fun b o hb q=>(s3.2 b hb).trans q) ⟨_,hoD⟩ (XD.ok ⟨_,n3,fun g=>?_,fun g hg=>?_⟩)
 ·show yr ((og f y fs).lookup g) (if g=f then some u else mA g)
  rw [zl]
  by_cases q:g=f
  ·rw [if_pos q,if_pos q];exact ry
  ·rw [if_neg q,if_neg q];exact r g
 ·by_cases q:g=f
  ·rw [q];exact (Xj f y fs).1
  ·refine (Xj f y fs).2 g (wi g fun z=>hg ?_)
   show (if g=f then some u else mA g)=none
   rw [if_neg q];exact z
noncomputable def XA (x C:Addr) (od:Option Addr):Heap→Prop:=fun h=>∃ vs sl,h.get? x=some ⟨.ref C,od,.fields vs,sl⟩
theorem XA.at {x C:Addr} {od:Option Addr} {h h':Heap} (z:XA x C od h) (k:∀ o,h.get? x=some o→h'.get? x=some o):XA x C od h':=let ⟨vs,sl,e⟩:=z;⟨vs,sl,k _ e⟩
theorem XA.ok {P:Program} {w:World} {H:Hp} {h:Heap} {x C:Addr} {od:Option Addr} (z:XA x C od h):md P w H h x (.ext (XA x C od)):=by
 obtain ⟨vs,sl,e⟩:=id z
 exact ⟨z,⟨_,e⟩,fun h1 h2 q k=>q.at k⟩
end
noncomputable abbrev TJ:=St→Hp→(Hp→Prop)→Prop
noncomputable def PJ (X:Cx) (es:List Expr) (n:Nat) (t:TJ):Prop:=
 ∀ (pins:List (Addr × Obj)) (s:Shared) (σ:St) (H:Hp) (Q:Hp→Prop) (acc:Str) (R:Str→Shared→Prop),Inv X pins σ H s→acc.length + n ≤ sizeLine→t σ H Q →
  (∀ out H' s',Inv X pins σ H' s'→out.length ≤ sizeLine→Q H'→R out s')→Joins (model X.prog X.w) X.A X.xe (evalEach es X.env) acc R s
noncomputable def tJ0:TJ:=fun _ H Q=>Q H
noncomputable def tJI (te:TE) (t:TJ):TJ:=fun σ H Q=>te σ H fun v H1=>∃ i,v=.int i∧i.natAbs.log2 < 1920∧t σ H1 Q
noncomputable def tJR (te:TE) (t:TJ):TJ:=fun σ H Q=>te σ H fun v H1=>∃ x,v=.str x∧x.length ≤ 1000∧(∀ c ∈ x.cps.toList,c < 16 ^ 8)∧t σ H1 Q
noncomputable def rD (t:TJ):TE:=fun σ H Q=>t σ H fun H1=>∀ y:Str,Q (.str y) H1
section
variable {X:Cx} {e:Expr} {es:List Expr} {n:Nat} {t:TJ} {te:TE} {pos:Pos}
theorem Uy:PJ X [] 0 tJ0:=fun pins s σ H Q acc R I hl q h=>h acc H s I hl q
theorem Dg {c:Str} {k:Nat} (h:PJ X es n t):PJ X (.Constant (.str c) k pos :: es) (n + c.length) t:=fun pins s σ H Q acc R I hl q hR=>by
 show wpAny _ _ _ _ _ _
 refine Calls.Constant_str ⟨c,_,rfl,by rw [strLen_append];omega,h pins _ σ H Q _ R (I.tok _) (by rw [strLen_append];omega) q hR⟩
theorem qy (he:PE X e te) (h:PJ X es n t):PJ X (.FormattedValue e (-1) none pos :: es) (n + 2000) (tJI te t):=fun pins s σ H Q acc R I hl q hR=>by
 show wpAny _ _ _ _ _ _
 refine wpAny_FormattedValue_plain (thn (he pins s σ H _ I q) fun u s1 hZ1=>?_)
 obtain ⟨v,H1,I1,r,i,ev,hi,q1⟩:=hZ1
 subst ev
 obtain ⟨tk,rfl⟩:=(show ∃ tk,u=Value.int i tk from r)
 have hz:=int_text_fits hi
 have hz2:(Str.ofString (toString i)).length ≤ 2000:=by
  have e:=int_text_length_le (k:=1920) (by decide) hi
  rw [PySem.ofString_length];omega
 refine wpAny_formatField_int hi ⟨_,_,rfl,by rw [strLen_append];omega,h pins _ σ H1 Q _ R (I1.tok _) (by rw [strLen_append];omega) q1 hR⟩
theorem cu (he:PE X e te) (h:PJ X es n t):PJ X (.FormattedValue e 114 none pos :: es) (n + 11000) (tJR te t):=fun pins s σ H Q acc R I hl q hR=>by
 show wpAny _ _ _ _ _ _
 refine wpAny_FormattedValue_repr (thn (he pins s σ H _ I q) fun u s1 hZ1=>?_)
 obtain ⟨v,H1,I1,r,x,ev,hx,hc,q1⟩:=hZ1
 subst ev
 obtain ⟨tk,rfl⟩:=(show ∃ tk,u=Value.str x tk from r)
 have hz:=PySem.StrLaws.reprText_len x hc
 refine wpAny_pyReprObj_str ?_ (by rw [sizeLine_eq];omega)
 exact formatField_str (fun t' tk'=>⟨_,_,rfl,by rw [strLen_append];omega,h pins _ σ H1 Q _ R ((I1.tok _).tok _) (by rw [strLen_append];omega) q1 hR⟩) (by rw [sizeLine_eq];omega)
theorem km {e2:Expr} (h:PJ X (e :: e2 :: es) n t) (hn:n ≤ sizeLine):PE X (.JoinedStr (e :: e2 :: es) pos) (rD t):=by
 intro pins s σ H Q I q
 refine wpAny_JoinedStr (h pins s σ H _ _ _ I (by show 0 + n ≤ _;omega) q fun out H' s' I' hl q'=>⟨hl,?_⟩)
 exact ⟨.str out,H',I'.tok _,⟨_,rfl⟩,q' out⟩
end
structure WL (K:PySem.W.Frag) (L:Addr) (m:Str):Prop where
 rd:PySem.W.readsIn K L (.type "type")=true
 fd:PySem.W.findCls K (.ref L) (.type "type") m=some (.val (.builtin "ValueError.__init__"))
 ga:PySem.W.specialIn K (.ref L) "__getattribute__"=some (some (.builtin "type.__getattribute__"))
noncomputable def dG (K:PySem.W.Frag) (t:TA):TE:=fun σ H Q=>t σ H fun vs H1=>∃ x C od v,vs=[.ref x,v]∧H1 x=some (.ext (XF x C od))∧gu K C∧Q .non H1
section
variable {X:Cx} {L:Addr} {x:Str} {p pos apos:Pos} {e:Expr} {es:List Expr} {t:TA}
theorem yB {pins:List (Addr × Obj)} {σ:St} {H:Hp} {s:Shared} {a C:Addr} {od:Option Addr} {u:Value} {A:Around} {E:Value→Shared→Prop} {Q:Value→Shared→Prop} (I:Inv X pins σ H s) (ea:H a=some (.ext (XF a C od))) (c:gu X.K C)
  (h:∀ s',Inv X pins σ H s'→Q .none s'):wpAny (model X.prog X.w) A (call (.builtin "ValueError.__init__") [.ref a,u]) Q E s:=by
 obtain ⟨vs,sl,hx,z1,z2⟩:=(show md X.prog X.w H s.heap a (.ext (XF a C od)) from I.hok _ _ ea).1
 obtain ⟨fI,hfI⟩:=c.ex
 obtain ⟨tl,N,nm,q,bs,sn,sub,ab,co,dd,k0,k1,k2,k3,k5,mN,hC,hN,hi,T⟩:=Kt I.kIn hfI
 have F:=PySem.F.excBase_ValueError
 obtain ⟨v0,h0⟩:∃ v0,vs[0]? = some v0:=⟨vs[0]'(by omega),Array.getElem?_eq_getElem (by omega)⟩
 obtain ⟨hh,g,d,tt,os⟩:=s
 refine wpAny_call (codeAny_call_builtin F.init.plain F.initEntry (wpAny_check_init_subT F T hC hx rfl ?_))
 show wpAny _ _ (newTuple [u] >>= fun tp=>(do
  let old ← field (.ref a) 0
  setField (.ref a) 0 tp
  if let .ref _:=old then letGo [old] []) >>= fun _=>ret .none) _ _ _
 have hx1:(hh.push { cls:=.type "tuple",data:=.seq [u].toArray }).get? a=some ⟨.ref C,od,.fields vs,sl⟩:=Heap.get?_push_of_some _ hx
 refine wpAny_bind (wpAny_newTuple (wpAny_bind (wpAny_bind (wpAny_field hx1 rfl h0 (wpAny_bind (wpAny_setField hx1 rfl (by omega) ?_))))))
 have x2:=Heap.get?_update_self (h:=hh.push { cls:=.type "tuple",data:=.seq [u].toArray }) (Obj.mapFields (·.setIfInBounds 0 (.ref hh.objs.size))) hx1 rfl
 have fin:∀ s',s'=(⟨(hh.push { cls:=.type "tuple",data:=.seq [u].toArray }).update a (Obj.mapFields (·.setIfInBounds 0 (.ref hh.objs.size))),g,d,tt,os⟩:Shared)→Q .none s':=by
  rintro s' rfl
  refine h _ ?_
  have I1:Inv X pins σ H ⟨hh.push { cls:=.type "tuple",data:=.seq [u].toArray },g,d,tt,os⟩:=I.kept (t':=tt) fun b o q=>Heap.get?_push_of_some _ q
  have:=I1.write (x:=a) (e:=a) (o:=.ext (XF a C od)) (h':=(hh.push { cls:=.type "tuple",data:=.seq [u].toArray }).update a (Obj.mapFields (·.setIfInBounds 0 (.ref hh.objs.size)))) (t':=tt) (by rw [ea];exact True.intro) (.inl rfl)
   (fun b o hb q=>(Heap.get?_update_other _ _ (Ne.symm hb)).trans q) ⟨_,x2⟩ (XF.ok ⟨vs.setIfInBounds 0 (.ref hh.objs.size),sl,x2,by simpa using z1,by rw [Array.getElem?_setIfInBounds_ne (by decide)];exact z2⟩)
  rwa [VG ea] at this
 cases v0 with
 | ref b=>exact wpAny_bind (wpAny_holding (wpAny_point (wpAny_pure (wpAny_pure (fin _ rfl)))))
 | _=>exact wpAny_pure (wpAny_pure (fin _ rfl))
theorem Co {pl:Sem Bool} {m:Str} (hg:Gl X x) (hm:X.mg x=some (.ref L)) (c:WL X.K L m) (ha:PA X (e :: es) t)
  (hdb:(x == ("__debug__" : Str))=false:=by decide) (hst:starEach (e :: es) X.env=(false,eval e X.env) :: starEach es X.env:=by rfl) (hpl:(backTo pos (starEach es X.env)).any (·.1)=false:=by rfl)
  (ht:eval (.Call (.Attribute (.Name x p) m apos) (e :: es) [] pos) X.env=(do
   let ov ← eval (.Name x p) X.env
   standAt apos.atName
   let (f,first) ← holding [ov] (getMethod ov m pl)
   callWith pos f first (backTo pos (starEach (e :: es) X.env)) (backToKw pos (keywordEach [] X.env))):=by rfl) :
  PE X (.Call (.Attribute (.Name x p) m apos) (e :: es) [] pos) (dG X.K t):=by
 intro pins s σ H Q I h
 refine PySem.W.methodCall_KW (pl:=pl) (mn I hg hm ?_ hdb) ht
 refine PySem.W.method_cls I.kIn c.ga (PySem.W.cls_value I.kIn c.rd c.fd rfl ?_)
 refine PyProof.Rows.callWith_builtin1 (thn (ha pos pins _ σ H _ (I.tok (s.toks + 1)) h) fun us s2 hZ1=>?_) hst hpl
 obtain ⟨vs,H2,I2,r,a,C,od,v,ev,ea,cc,q⟩:=hZ1
 subst ev
 obtain ⟨u1,u2,rfl,r1,r2⟩:=AI r
 obtain rfl:u1=Value.ref a:=r1
 exact yB I2 ea cc fun s3 I3=>⟨.non,H2,I3,rfl,q⟩
end
structure MkX (K:PySem.W.Frag) (C fI:Addr):Prop where
 e:Ks K C fI=true
 fn:PySem.W.typeIn K (.ref fI)=some (.type "function")
 kp:PySem.W.keepIn K (.ref C)=true
noncomputable def xG (C:Addr) (sp:Sp) (t:TA):TE:=fun σ H Q=>t σ H fun vs H1=>vs.length ≤ sizeLine∧∀ x,H1 x=none→sp (.ref x :: vs) (upd H1 x (.ext (XF x C none))) (fun v H2=>v=.non∧Q (.ref x) H2) (fun _ _ _=>False)
noncomputable def GG (K:PySem.W.Frag) (ta tv:TE) (f:Str):TS:=fun D σ H=>tv σ H fun y H1=>ta σ H1 fun x H2=>∃ a C,x=.ref a∧H2 a=some (.ext (XF a C none))∧gu K C∧Ib K C f ∧
 ∀ dx,H2 dx=none→dx ≠ a→D.nx σ (upd (upd H2 a (.ext (XF a C (some dx)))) dx (.ext (XD dx [(f,y)])))
noncomputable def nG (K:PySem.W.Frag) (ta tv:TE) (f:Str):TS:=fun D σ H=>tv σ H fun y H1=>ta σ H1 fun x H2=>∃ a C dx fs,x=.ref a∧H2 a=some (.ext (XF a C (some dx)))∧H2 dx=some (.ext (XD dx fs))∧gu K C∧Ib K C f∧fs.length < 1000 ∧
 D.nx σ (upd H2 dx (.ext (XD dx (og f y fs))))
section
variable {X:Cx} {k:Nat} {f C:Addr} {fd:FuncData} {ps:List Str} {sp:Sp} {x g:Str} {p pos pos' apos:Pos} {e o value:Expr} {es:List Expr} {ta tv:TE} {t:TA}
theorem kD {pins:List (Addr × Obj)} {σ:St} {H:Hp} {s:Shared} {Q:VK} {us:List Value} {vs:List V} (M:MkX X.K C f) (F:Jb X.prog X.w X.K X.mg X.base (fun _ _ _ _ _ _=>False) k f fd ps sp) (hr:Yi (k + 1) X.A) (hb:Yb X.K fd ps [])
  (I:Inv X pins σ H s) (r:Jd vs us) (hz:vs.length ≤ sizeLine) (h:∀ x,H x=none→sp (.ref x :: vs) (upd H x (.ext (XF x C none))) (fun v H2=>v=.non∧Q (.ref x) H2) (fun _ _ _=>False)) :
  wpAny (model X.prog X.w) X.A (call (.ref C) us) (EP X pins σ Q) X.xe s:=by
 obtain ⟨hh,g,d,tt,os⟩:=s
 refine wpAny_call (YA (fI:=f) I.kIn M.e M.fn (by rw [← r.length];exact hz) fun h' x hx Mx=>?_)
 obtain ⟨tp,ox,_,_⟩:=Mx.there
 have I2:=I.laid (a:=x) (o:=.ext (XF x C none)) (h':=h') (t':=tt) Mx.keeps hx (XF.ok ⟨_,_,ox,Nat.lt_of_lt_of_eq (show 1 < 6 by decide) rfl,rfl⟩)
 have hq:=h x (I.hok.fresh hx)
 have r2:Jd (V.ref x :: vs) (Value.ref x :: us):=.cons rfl r
 have hl:((Value.ref x :: us) ++ []).length=ps.length:=by
  rw [List.append_nil,← r2.length]
  exact F.len _ _ _ _ hq
 have hb2:=hb ⟨h',g,d,tt,os⟩ (Value.ref x :: us) I2.kIn hl
 rw [List.append_nil] at hb2
 refine codeAny_mono (F.run _ X.stack _ _ ⟨Value.ref x :: us,[]⟩ (Value.ref x :: us) _ _ _ (hr.make C us []) (I2.env0.make C us []) hb2 r2 hq) fun r s' hq'=>?_
 rcases r with e | (u | _ | _ | _) <;> first | exact False.elim hq' | skip
 obtain ⟨v,H',I3,rv,ev,q3⟩:=I2.after hq'
 subst ev
 exact ⟨rv,⟨V.ref x,H',I3,rfl,q3⟩⟩
theorem Ko (M:MkX X.K C f) (F:Jb X.prog X.w X.K X.mg X.base (fun _ _ _ _ _ _=>False) k f fd ps sp) (hr:Yi (k + 1) X.A) (hg:Gl X x) (hm:X.mg x=some (.ref C)) (hb:Yb X.K fd ps [])
  (ha:PA X (e :: es) t) (hdb:(x == ("__debug__" : Str))=false:=by decide) (he:starEach (e :: es) X.env=(false,eval e X.env) :: starEach es X.env:=by rfl) (hpl:(backTo pos (starEach es X.env)).any (·.1)=false:=by rfl) :
  PE X (.Call (.Name x p) (e :: es) [] pos) (xG C sp t):=by
 intro pins s σ H Q I h
 refine wpAny_Call_Name_kw (mn I hg hm ?_ hdb)
 exact PySem.W.callWith_K (h₀:=X.base) I.ok.mod.kin M.kp (thn (ha pos pins s σ H _ I h) fun us s1 ⟨vs,H1,I1,r,hz,q⟩=>⟨I1.kIn,kD M F hr hb I1 r hz q⟩) he hpl
theorem Oo (ha:PE X o ta) (hv:PE X value tv) (hs:swapsWith value (some (.Attribute o g pos')) pos.line X.env=pure false):PS X (.Assign [.Attribute o g pos'] value pos) (GG X.K ta tv g):=by
 intro pins s σ H D I h
 refine plainObj_wpAny_Assign_Attribute (thn (hv pins s σ H _ I h) fun u s1 ⟨y,H1,I1,ry,q⟩=>thn (ha pins s1 σ H1 _ I1 q) fun ov s2 hZ1=>?_) hs
 obtain ⟨x,H2,I2,rx,a,C,ex,ea,c,n,q2⟩:=hZ1
 subst ex
 obtain rfl:ov=Value.ref a:=rx
 exact AF I2 ea c n ry fun dx s3 hd hne I3=>⟨σ,_,I3,q2 dx hd hne⟩
theorem Jo (ha:PE X o ta) (hv:PE X value tv) (hs:swapsWith value (some (.Attribute o g pos')) pos.line X.env=pure false):PS X (.Assign [.Attribute o g pos'] value pos) (nG X.K ta tv g):=by
 intro pins s σ H D I h
 refine plainObj_wpAny_Assign_Attribute (thn (hv pins s σ H _ I h) fun u s1 ⟨y,H1,I1,ry,q⟩=>thn (ha pins s1 σ H1 _ I1 q) fun ov s2 hZ1=>?_) hs
 obtain ⟨x,H2,I2,rx,a,C,dx,fs,ex,ea,ed,c,n,hl,q2⟩:=hZ1
 subst ex
 obtain rfl:ov=Value.ref a:=rx
 exact qB I2 ea ed c n hl ry fun s3 I3=>⟨σ,_,I3,q2⟩
end
end L2
namespace L2
open PySem PySem.Spec PyProof.Rows PySem.Builtin PySem.Builtin.ObjectAttr
noncomputable def FlA (x C:Addr) (od:Option Addr) (T:Addr) (fl:Value) (h:Heap):Prop:=
 T ≠ x∧∃ vs sl oT ts,h.get? x=some ⟨.ref C,od,.fields vs,sl⟩∧vs[1]? = some (.ref T)∧h.get? T=some oT∧oT.data=.fields ts∧ts[3]? = some fl
theorem FlA.xa {x C T:Addr} {od:Option Addr} {fl:Value} {h:Heap} (z:FlA x C od T fl h):XA x C od h:=let ⟨_,vs,sl,_,_,e,_⟩:=z;⟨vs,sl,e⟩
structure Kp (fs:List Addr) (x:Addr) (To:Option Addr) (h h':Heap):Prop where
 keep:∀ b o,h.get? b=some o→b ∉ fs→b ≠ x→some b ≠ To→h'.get? b=some o
 slot:∀ b o,h.get? b=some o→b ∈ fs→∃ sl,h'.get? b=some { o with slots:=sl }
 there:∀ b o,h.get? b=some o→∃ o',h'.get? b=some o'
section
variable {M:Model} {A:Around} {E:Value→Shared→Prop} {s:Shared}
theorem nofr {base h:Heap} {l:List Env} {b:Addr} {o:Obj} {vs:Array Value} (hl:h.FunFrames base l) (e:h.get? b=some o) (d:o.data=.fields vs):b ∉ frs l:=fun hm=>by
 obtain ⟨_,o',e',nf⟩:=hl.mem hm
 rw [e] at e'
 cases e'
 exact nf vs d
theorem vF {env env':Env} {L:Addr} (hf:env.frame=some L) (hf':env'.frame=some L):PySem.frameOf env'=PySem.frameOf env:=by
 unfold PySem.frameOf
 rw [hf',hf]
theorem lG {base:Heap} {env env':Env} {outer:List Env} {L x C:Addr} {od:Option Addr} {vs:Array Value} {sl:Array (Option Value)} {head:Value} {hn:Bool} {Q:Unit→Shared→Prop}
  (hfr:A.frames=some (env :: outer)) (hl:s.heap.FunFrames base (env :: outer)) (hf:env.frame=some L) (hf':env'.frame=some L) (he:s.heap.get? x=some ⟨.ref C,od,.fields vs,sl⟩) (hz:1 < vs.size)
  (h:∀ h' T,Kp (frs (env :: outer)) x none s.heap h'→s.heap.objs.size ≤ T→FlA x C od T (rawInt L) h'→Q () { s with heap:=h' }) :
  wpAny M A (do let a ← PySem.frameOf env';let pl ← entryPlaceOf L hn;let b ← EntryCells.newEntry head a .none (rawInt L) .none pl;setField (.ref x) 1 b) Q E s:=by
 have nx:x ∉ frs (env :: outer):=nofr hl he rfl
 rw [vF hf hf']
 refine wpAny_bind (wpAny_frameOf_fun hfr hl hf fun h1 S=>wpAny_bind (wpAny_entryPlaceOf fun pl hp=>?_))
 unfold EntryCells.newEntry newFields
 refine wpAny_bind (wpAny_newObj_type ?_ (hp.sizeOk5 _ _ _ _ _))
 have e1:h1.get? x=some ⟨.ref C,od,.fields vs,sl⟩:=(S.2.1 x nx).trans he
 obtain ⟨ts,hts,h3⟩:∃ ts:Array Value,([head,.ref L,.none,rawInt L,.none] ++ (if pl.isEmpty then List.replicate 6 Value.none else pl)).toArray=ts∧ts[3]? = some (rawInt L):=⟨_,rfl,by simp⟩
 rw [hts]
 have e2:=Heap.get?_push_of_some (h:=h1) { cls:=.type "traceback",dict:=none,data:=.fields ts } e1
 have ne:h1.objs.size ≠ x:=Nat.ne_of_gt (Heap.lt_size e1)
 have sz:h1.objs.size=s.heap.objs.size:=S.1
 refine wpAny_setField e2 rfl hz (h _ h1.objs.size ⟨fun b o q n1 n2 _=>?_,fun b o q n1=>?_,fun b o q=>?_⟩ (Nat.le_of_eq sz.symm) ⟨ne,vs.setIfInBounds 1 (.ref h1.objs.size),sl,{ cls:=.type "traceback",dict:=none,data:=.fields ts },ts,Heap.get?_update_self _ e2 rfl,by simp [hz],?_,rfl,h3⟩)
 ·rw [Heap.get?_update_other _ _ (Ne.symm n2)]
  exact Heap.get?_push_of_some _ ((S.2.1 b n1).trans q)
 ·obtain ⟨sl',e3⟩:=S.2.2 b o q
  have nb:x ≠ b:=fun z=>nx (by rw [z];exact n1)
  exact ⟨sl',(Heap.get?_update_other _ _ nb).trans (Heap.get?_push_of_some _ e3)⟩
 ·by_cases hb:b=x
  ·rw [hb];exact ⟨_,Heap.get?_update_self _ e2 rfl⟩
  ·obtain ⟨sl',e3⟩:=S.2.2 b o q
   exact ⟨_,by rw [Heap.get?_update_other _ _ (Ne.symm hb)];exact Heap.get?_push_of_some _ e3⟩
 ·exact (Heap.get?_update_other _ _ (Ne.symm ne)).trans (Heap.get?_push_size h1 rfl)
theorem Wz {base:Heap} {env env':Env} {outer:List Env} {L x C:Addr} {od:Option Addr} {vs:Array Value} {sl:Array (Option Value)} {Q:Unit→Shared→Prop}
  (hfr:A.frames=some (env :: outer)) (hl:s.heap.FunFrames base (env :: outer)) (hf:env.frame=some L) (hf':env'.frame=some L) (he:s.heap.get? x=some ⟨.ref C,od,.fields vs,sl⟩) (h1:vs[1]? = some .none)
  (h:∀ h' T,Kp (frs (env :: outer)) x none s.heap h'→s.heap.objs.size ≤ T→FlA x C od T (rawInt L) h'→Q () { s with heap:=h' }) :
  wpAny M A (noteFrame (.ref x) env') Q E s:=by
 unfold noteFrame
 simp only [hf']
 refine wpAny_bind (wpAny_field he rfl h1 ?_)
 rw [if_neg (by decide)]
 exact lG hfr hl hf hf' he (Array.getElem?_eq_some_iff.mp h1).1 h
theorem uB {base:Heap} {env env':Env} {outer:List Env} {L x C T:Addr} {od:Option Addr} {fl:Value} {Q:Unit→Shared→Prop}
  (hfr:A.frames=some (env :: outer)) (hl:s.heap.FunFrames base (env :: outer)) (hf:env.frame=some L) (hf':env'.frame=some L) (z:FlA x C od T fl s.heap) (hne:¬ (fl == rawInt L)=true)
  (h:∀ h' T',Kp (frs (env :: outer)) x (some T) s.heap h'→s.heap.objs.size ≤ T'→FlA x C od T' (rawInt L) h'→Q () { s with heap:=h' }) :
  wpAny M A (noteFrame (.ref x) env') Q E s:=by
 obtain ⟨ne,vs,sl,oT,ts,he,h1,hT,hd,h3⟩:=z
 unfold noteFrame
 simp only [hf']
 refine wpAny_bind (wpAny_field he rfl h1 ?_)
 rw [if_pos (show (Value.ref T != Value.none)=true from by simp)]
 refine wpAny_bind (wpAny_field hT hd h3 ?_)
 rw [if_neg hne]
 refine wpAny_bind (wpAny_setField hT hd (Array.getElem?_eq_some_iff.mp h3).1 ?_)
 have nT:T ∉ frs (env :: outer):=nofr hl hT hd
 have oth:∀ b,b ≠ T→(s.heap.update T (Obj.mapFields (·.setIfInBounds 3 Value.none))).get? b=s.heap.get? b:=fun b hb=>Heap.get?_update_other _ _ (Ne.symm hb)
 have tT:∃ o',(s.heap.update T (Obj.mapFields (·.setIfInBounds 3 Value.none))).get? T=some o':=⟨_,Heap.get?_update_self _ hT (Obj.isFreed_of_fields (Obj.data_mapFields hd _))⟩
 have hl2:(s.heap.update T (Obj.mapFields (·.setIfInBounds 3 Value.none))).FunFrames base (env :: outer):=hl.of_keeps fun b o e nf=>⟨o,(oth b fun q=>by rw [q,hT] at e;cases e;exact nf ts hd).trans e,rfl⟩
 refine lG (s:={ s with heap:=s.heap.update T (Obj.mapFields (·.setIfInBounds 3 Value.none)) }) hfr hl2 hf hf' ((oth x (Ne.symm ne)).trans he) (Array.getElem?_eq_some_iff.mp h1).1 fun h' T' k w f=>h h' T' ⟨fun b o q n1 n2 n3=>?_,fun b o q n1=>?_,fun b o q=>?_⟩ ?_ f
 ·exact k.keep b o ((oth b fun y=>n3 (by rw [y])).trans q) n1 n2 (fun y=>by cases y)
 ·exact k.slot b o ((oth b fun y=>nT (y ▸ n1)).trans q) n1
 ·by_cases hb:b=T
  ·subst hb
   obtain ⟨o',e'⟩:=tT
   exact k.there _ _ e'
  ·exact k.there b o ((oth b hb).trans q)
 ·exact Nat.le_trans (Nat.le_of_eq (Heap.size_update _ _ _).symm) w
theorem flight {x C T:Addr} {od:Option Addr} {fl:Value} {fs:List Addr} {Q:Unit→Shared→Prop} (o:Option Addr) (z:FlA x C od T fl s.heap) (nT:T ∉ fs)
  (h:∀ h',Kp fs x (some T) s.heap h'→FlA x C od T (o.elim .none fun f=>rawInt f) h'→Q () { s with heap:=h' }):wpAny M A (setFlight (.ref x) o) Q E s:=by
 obtain ⟨ne,vs,sl,oT,ts,he,h1,hT,hd,h3⟩:=z
 have z3:3 < ts.size:=(Array.getElem?_eq_some_iff.mp h3).1
 have oth:∀ b,b ≠ T→(s.heap.update T (Obj.mapFields (·.setIfInBounds 3 (o.elim Value.none fun f=>rawInt f)))).get? b=s.heap.get? b:=fun b hb=>Heap.get?_update_other _ _ (Ne.symm hb)
 have tT:=Heap.get?_update_self (Obj.mapFields (·.setIfInBounds 3 (o.elim Value.none fun f=>rawInt f))) hT (Obj.isFreed_of_fields (Obj.data_mapFields hd _))
 unfold setFlight
 refine wpAny_bind (wpAny_field he rfl h1 ?_)
 rw [if_pos (show (Value.ref T != Value.none)=true from by simp)]
 refine wpAny_setField hT hd z3 (h _ ⟨fun b o q _ _ n3=>(oth b fun y=>n3 (by rw [y])).trans q,fun b o q n1=>⟨o.slots,(oth b fun y=>nT (y ▸ n1)).trans q⟩,fun b o q=>?_⟩
  ⟨ne,vs,sl,_,_,(oth x (Ne.symm ne)).trans he,h1,tT,Obj.data_mapFields hd _,by simp [z3]⟩)
 by_cases hb:b=T
 ·subst hb;exact ⟨_,tT⟩
 ·exact ⟨o,(oth b hb).trans q⟩
end
section
variable {P:Program} {w:World} {H:Hp} {h h':Heap} {fs:List Addr} {x C T:Addr} {od:Option Addr} {fl:Value} {To:Option Addr} {o:HO}
theorem Kp.hok (k:Kp fs x To h h') (ok:HOk P w H h) (hfs:∀ b ∈ fs,H b=none) (hT:∀ t,To=some t→H t=none) (mu:Mut (H x)) (new:XA x C od h'):HOk P w (upd H x (.ext (XA x C od))) h':=fun b u q=>by
 have nown:∀ c y,H c=some (.own y)→c ≠ x:=fun c y r z=>by subst z;rw [r] at mu;exact mu
 have ntup:∀ c xs,H c=some (.tup xs)→c ≠ x:=fun c xs r z=>by subst z;rw [r] at mu;exact mu
 have kk:∀ c v,c ≠ x→H c ≠ none→h.get? c=some v→h'.get? c=some v:=fun c v n1 n2 r=>k.keep c v r (fun z=>n2 (hfs c z)) n1 fun z=>n2 (hT c z.symm)
 by_cases hb:b=x
 ·subst hb;rw [db] at q;cases q;exact new.ok
 ·rw [lb hb] at q
  refine (ok b u q).stay (fun c v hc r=>?_) (fun c r=>by rw [lb (nown c b r)];exact r) fun c xs r=>by rw [lb (ntup c xs r)];exact r
  rcases hc with rfl | hc
  ·exact kk c v hb (by rw [q];exact fun z=>by cases z) r
  ·exact kk c v (nown c b hc) (by rw [hc];exact fun z=>by cases z) r
theorem Kp.un (k:Kp fs x To h h') (hT:∀ t,To=some t→H t=none) (mu:Mut (H x)):Un fs To.toList H (upd H x o) h h':=by
 have hx:∀ b,H b=none→b ≠ x:=fun b n z=>by subst z;rw [n] at mu;exact mu
 have hm:∀ b u,H b=some u→¬ Mut (some u)→b ≠ x:=fun b u q nm z=>by subst z;rw [q] at mu;exact nm mu
 refine ⟨fun b u q n n1 n2=>k.keep b u q n1 (hx b n) fun z=>n2 (by rw [← z];simp),fun b u q n n1 n2=>k.slot b u q n1,fun b u q n _=>by rw [lb (hx b n)];exact n,fun b u q _=>k.there b u q,
  fun b xs q=>by rw [lb (hm b _ q fun z=>z)];exact q,fun b u xs q=>by rw [lb (hm b _ q fun z=>z)];exact q,fun b ps q=>⟨#[],by rw [lb (hm b _ q fun z=>z),q];simp⟩⟩
end
noncomputable def CX1 (P:Program) (w:World):CXT:=fun outer H s E e s'=>
 ∃ x C od H' T,e=.ref x∧s'.os=s.os∧AllBare s'.gens∧Un (frs outer) [] H H' s.heap s'.heap∧HOk P w H' s'.heap∧H' x=some (.ext (XA x C od))∧s.heap.objs.size ≤ T∧H' T=none∧FlA x C od T .none s'.heap∧E (.ref C) od H'
noncomputable def lC (X:Cx) (E:St→XK):Prop:=∀ (pins:List (Addr × Obj)) (σ:St) (H:Hp) (s:Shared) (x C:Addr) (od:Option Addr),Inv X pins σ H s→H x=some (.ext (XF x C od))→E σ (.ref C) od (upd H x (.ext (XA x C od)))→X.xe (.ref x) s
structure Fr1 (X:Cx):Prop where
 st:X.stack=X.env :: X.outer
 fr:X.env.frame=some X.env.locals
noncomputable def WJ (X:Cx) (pins:List (Addr × Obj)) (T:Addr):Prop:=(T ∈ X.ex∨X.s₀.heap.objs.size ≤ T)∧T ≠ X.env.locals∧(∀ x c,X.env.cells.lookup x=some c→c ≠ T)∧∀ p ∈ X.pn ++ pins,p.1 ≠ T
noncomputable def lA (X:Cx) (pins:List (Addr × Obj)) (E:St→XK) (fl:Value) (e:Value) (s':Shared):Prop:=
 ∃ σ' H' x C od T,e=.ref x∧Inv X pins σ' H' s'∧H' x=some (.ext (XA x C od))∧H' T=none∧WJ X pins T∧FlA x C od T fl s'.heap∧E σ' (.ref C) od H'
noncomputable def xeR (X:Cx) (pins:List (Addr × Obj)) (E:St→XK) (e:Value) (s':Shared):Prop:=
 ∃ σ' H' x C od,e=.ref x∧Inv X pins σ' H' s'∧H' x=some (.ext (XF x C od))∧E σ' (.ref C) od (upd H' x (.ext (XA x C od)))
noncomputable def xeT (X:Cx) (pins:List (Addr × Obj)) (E:St→XK) (e:Value) (s':Shared):Prop:=xeR X pins E e s'∨∃ fl,lA X pins E fl e s'
noncomputable def xeA (X:Cx) (E:St→XK) (e:Value) (s':Shared):Prop:=∃ pins,xeT X pins E e s'
section
variable {X:Cx} {pins:List (Addr × Obj)} {σ:St} {H:Hp} {s:Shared} {T x C:Addr} {od:Option Addr} {E:St→XK} {M:Model} {A:Around} {E':Value→Shared→Prop} {Q:Unit→Shared→Prop} {e fl:Value} {h':Heap}
theorem sL (I:Inv X pins σ H s) (hT:s.heap.objs.size ≤ T):WJ X pins T:=by
 have lt:∀ {b:Addr} {o:Obj},s.heap.get? b=some o→b ≠ T:=fun q z=>by
  subst z
  exact absurd (Nat.lt_of_lt_of_le (Heap.lt_size q) hT) (Nat.lt_irrefl _)
 refine ⟨.inr (Nat.le_trans I.sz hT),fun z=>?_,fun x c e=>?_,fun p hp=>lt (I.pin p hp).1⟩
 ·obtain ⟨m,⟨o,es,ep,ho,_⟩,_⟩:=I.loc
  exact lt ho z.symm
 ·obtain ⟨v,o,ho,_⟩:=I.cell x c e
  exact lt ho
theorem TH (I:Inv X pins σ H s) (k:Kp (frs X.stack) x (some T) s.heap h') (ex:H x=some (.ext (XA x C od))) (eT:H T=none) (nT:WJ X pins T) (xa:XA x C od h'):Inv X pins σ H { s with heap:=h' }:=by
 have mu:Mut (H x):=by rw [ex];exact True.intro
 have z:∀ t,some T=some t→H t=none:=fun t z=>by cases z;exact eT
 have u1:=k.un (H:=H) (o:=.ext (XA x C od)) z mu
 have k1:=k.hok I.hok I.stkFree z mu xa
 rw [VG ex] at u1 k1
 exact I.call' (s':={ s with heap:=h' }) (ch:=[T]) rfl u1 k1 I.bare fun b hb=>by
  obtain rfl:b=T:=by simpa using hb
  exact nT
theorem pG (F:Fr1 X) (I:Inv X pins σ H s) (k:Kp (frs (X.env :: X.outer)) x (some T) s.heap h') (ex:H x=some (.ext (XA x C od))) (eT:H T=none) (nT:WJ X pins T) (xa:XA x C od h'):Inv X pins σ H { s with heap:=h' }:=
 TH I (by rw [F.st];exact k) ex eT nT xa
theorem lA.note (F:Fr1 X) (q:lA X pins E fl e s) (hne:¬ (fl == rawInt X.env.locals)=true) (h:∀ s',lA X pins E (rawInt X.env.locals) e s'→Q () s'):wpAny M X.A (noteFrame e X.env) Q E' s:=by
 obtain ⟨σ,H,x,C,od,T,rfl,I,ex,eT,nT,f,w⟩:=q
 have fs:s.heap.FunFrames X.base (X.env :: X.outer):=by rw [← F.st];exact I.stack
 exact uB (by rw [← F.st];exact I.ok.frames) fs F.fr F.fr f hne fun h' T' k w' f'=>h _ ⟨σ,H,x,C,od,T',rfl,pG F I k ex eT nT f'.xa,ex,I.hok.fresh w',sL I w',f',w⟩
theorem lA.noted (F:Fr1 X) (q:lA X pins E (rawInt X.env.locals) e s) (h:Q () s):wpAny M X.A (noteFrame e X.env) Q E' s:=by
 obtain ⟨σ,H,x,C,od,T,rfl,I,ex,eT,nT,⟨ne,vs,sl,oT,ts,he,h1,hT,hd,h3⟩,w⟩:=q
 unfold noteFrame
 simp only [F.fr]
 refine wpAny_bind (wpAny_field he rfl h1 ?_)
 rw [if_pos (show (Value.ref T != Value.none)=true from by simp)]
 refine wpAny_bind (wpAny_field hT hd h3 ?_)
 rw [if_pos (show (rawInt X.env.locals == rawInt X.env.locals)=true from by simp)]
 exact wpAny_pure h
theorem xeR.note (F:Fr1 X) (q:xeR X pins E e s) (h:∀ s',lA X pins E (rawInt X.env.locals) e s'→Q () s'):wpAny M X.A (noteFrame e X.env) Q E' s:=by
 obtain ⟨σ,H,x,C,od,rfl,I,ex,w⟩:=q
 have fs:s.heap.FunFrames X.base (X.env :: X.outer):=by rw [← F.st];exact I.stack
 obtain ⟨vs,sl,hx,z1,z2⟩:=(show md X.prog X.w H s.heap x (.ext (XF x C od)) from I.hok _ _ ex).1
 have mu:Mut (H x):=by rw [ex];exact True.intro
 refine Wz (by rw [← F.st];exact I.ok.frames) fs F.fr F.fr hx z2 fun h' T k w' f=>h _ ?_
 have z:∀ t,none=some t→H t=none:=fun t z=>by cases z
 have u1:=k.un (H:=H) (o:=.ext (XA x C od)) z mu
 have k1:=k.hok I.hok (by rw [← F.st];exact I.stkFree) z mu f.xa
 rw [← F.st] at u1
 have I2:=I.call' (s':={ s with heap:=h' }) (ch:=[]) rfl u1 k1 I.bare fun b hb=>absurd hb (by simp)
 exact ⟨σ,_,x,C,od,T,rfl,I2,db,by rw [lb f.1];exact I.hok.fresh w',sL I w',f,w⟩
theorem xeT.note (F:Fr1 X) (q:xeT X pins E e s) (h:∀ s',lA X pins E (rawInt X.env.locals) e s'→Q () s'):wpAny M X.A (noteFrame e X.env) Q E' s:=by
 rcases q with q | ⟨fl,q⟩
 ·exact q.note F h
 ·by_cases c:(fl == rawInt X.env.locals)=true
  ·rw [beq_iff_eq] at c
   subst c
   exact q.noted F (h _ q)
  ·exact q.note F c h
theorem lA.flight (F:Fr1 X) (o:Option Addr) (q:lA X pins E fl e s) (h:∀ s',lA X pins E (o.elim .none fun f=>rawInt f) e s'→Q () s'):wpAny M A (setFlight e o) Q E' s:=by
 obtain ⟨σ,H,x,C,od,T,rfl,I,ex,eT,nT,f,w⟩:=q
 have fs:s.heap.FunFrames X.base (X.env :: X.outer):=by rw [← F.st];exact I.stack
 have nf:T ∉ frs (X.env :: X.outer):=by
  obtain ⟨_,_,_,oT,ts,_,_,e,d,_⟩:=id f
  exact nofr fs e d
 exact L2.flight o f nf fun h' k f'=>h _ ⟨σ,H,x,C,od,T,rfl,pG F I k ex eT nT f'.xa,ex,eT,nT,f',w⟩
theorem xeT.leave (F:Fr1 X) (q:xeT X pins E e s) (h:∀ s',lA X pins E .none e s'→Q () s'):wpAny M X.A (leaving X.env e) Q E' s:=by
 unfold leaving
 exact wpAny_bind (q.note F fun s' q'=>q'.flight F none h)
theorem Xw (F:Fr1 X):PassesOwn M X.A X.env (xeT X pins E):=fun e s' q=>by
 refine q.note F fun s2 q2=>?_
 show wpAny _ _ _ _ _ _
 obtain ⟨σ,H,x,C,od,T,rfl,I,ex,eT,nT,⟨ne,vs,sl,oT,ts,he,h1,hT,hd,h3⟩,w⟩:=id q2
 refine wpAny_bind (wpAny_field he rfl h1 ?_)
 rw [if_neg (show ¬ (Value.ref T == Value.none)=true from by simp)]
 rw [F.fr]
 exact q2.flight F _ fun s3 q3=>.inr ⟨_,q3⟩
theorem Jf (F:Fr1 X):PassesOwn M X.A X.env (xeA X E):=fun e s' ⟨pins,q⟩=>by
 have z:=Xw (M:=M) F e s' q
 refine wpAny_mono z (fun _ s2 q2=>?_) fun e2 s2 q2=>?_
 all_goals exact wpAny_mono q2 (fun _ s3 q3=>⟨pins,q3⟩) fun e3 s3 q3=>⟨pins,q3⟩
theorem yH:lC (X.wish (xeA X E)) E:=fun pins σ H s x C od I ex q=>⟨pins,.inl ⟨σ,H,x,C,od,rfl,I.unwish,ex,q⟩⟩
theorem yI {E0:XK} {s':Shared} (I:Inv X pins σ H s) (hq:CX1 X.prog X.w X.stack H s E0 e s') (h:∀ C od H',E0 C od H'→E σ C od H'):xeT X pins E e s':=by
 obtain ⟨x,C,od,H2,T,rfl,os,bare,un,hok,ex,hT,eT,fl,q⟩:=hq
 exact .inr ⟨_,σ,H2,x,C,od,T,rfl,I.call' os un hok bare (fun b z=>absurd z (by simp)),ex,eT,sL I hT,fl,h _ _ _ q⟩
end
theorem af {X:Cx} {E:XK}:dl (CX1 X.prog X.w) (X.wish (xeA X fun _=>E)) E:=fun pins σ H s e s' I hq=>⟨pins,yI I.unwish hq fun _ _ _ z=>z⟩
theorem Wt {X:Cx} {E:XK}:lC (X.wish (xeA X fun _=>E)) (fun _=>E):=yH
section
variable {P:Program} {w:World} {K:PySem.W.Frag} {mg:Str→Option Value} {base:Heap} {N:List Str} {qual:Str} {scope:Scope} {f:Addr} {cd:Value} {A:Around} {outer:List Env} {s:Shared} {H:Hp} {E:XK}
theorem NI {e:Value} {s':Shared} (q:xeA (gD (CX1 P w) P w K mg base N qual scope f cd A outer s H E) (fun _=>E) e s'):(gD (CX1 P w) P w K mg base N qual scope f cd A outer s H E).xe e s':=by
 obtain ⟨pins,q⟩:=q
 refine q.leave ⟨rfl,rfl⟩ fun s2 q2=>?_
 obtain ⟨σ,H2,x,C,od,T,rfl,I,ex,eT,nT,fl,q⟩:=q2
 refine ⟨x,C,od,H2,T,rfl,I.os,I.bare,I.base,I.hok,ex,?_,eT,fl,q⟩
 rcases nT.1 with z | z
 ·exact absurd z (by show T ∉ ([]:List Addr);simp)
 ·exact z
end
section
variable {X:Cx} {CX:CXT} {k:Nat} {f C:Addr} {fd:FuncData} {ps:List Str} {sp:Sp} {dvs:List V} {ds:List Value} {E:St→XK} {x m:Str} {p pos apos:Pos} {e o:Expr} {es:List Expr} {ta:TE} {t:TA}
end
noncomputable abbrev Cx.tr (X:Cx) (pn:List (Addr × Obj)) (E:Value→Shared→Prop):Cx:={ X with pn:=X.pn ++ pn,xe:=E }
noncomputable abbrev Cx.hn (X:Cx) (e:Value):Cx:={ X with A:=X.A.mark (some e),calm:=false,xe:=fun _ _=>False }
section
variable {X:Cx} {pins pins':List (Addr × Obj)} {σ:St} {H:Hp} {s:Shared} {E:Value→Shared→Prop} {e:Value}
theorem Cx.Ok.tr (ok:X.Ok) (pn:List (Addr × Obj)) (E:Value→Shared→Prop):(X.tr pn E).Ok:=
 ⟨ok.mod,ok.kind,ok.glob,ok.blt,ok.above,ok.inj,ok.has,ok.cab,ok.hd,ok.frames,ok.stk,ok.exf,ok.bs,ok.bsz,ok.noex,ok.exfs,ok.funs,ok.frf⟩
theorem Cx.Ok.hn (ok:X.Ok) (e:Value):(X.hn e).Ok:=
 ⟨ok.mod,ok.kind,ok.glob,ok.blt,ok.above,ok.inj,ok.has,ok.cab,(fun z=>Bool.noConfusion z),ok.frames,ok.stk,ok.exf,ok.bs,ok.bsz,ok.noex,ok.exfs,ok.funs,ok.frf⟩
theorem Inv.tr (I:Inv X pins σ H s) (E:Value→Shared→Prop):Inv (X.tr pins E) [] σ H s:=⟨I.ok.tr pins E,I.os,I.bare,I.base,I.loc,I.cell,I.free,I.freeC,fun p hp=>I.pin p (by simpa using hp),I.hok,I.len⟩
theorem Inv.hn (I:Inv X pins σ H s) (e:Value):Inv (X.hn e) pins σ H s:=⟨I.ok.hn e,I.os,I.bare,I.base,I.loc,I.cell,I.free,I.freeC,I.pin,I.hok,I.len⟩
end
noncomputable def Gi.gone (D:Gi) (i:Nat):Gi:={ nx:=fun σ H=>D.nx (σ.set i none) H,rt:=D.rt,bk:=fun σ H=>D.bk (σ.set i none) H,ct:=fun σ H=>D.ct (σ.set i none) H }
section
variable {X:Cx} {body suite:List Stmt} {b0:Stmt} {x n:Str} {c:Addr} {i:Nat} {tb:(St→XK)→TS} {th:TS} {xp hp pos:Pos}
end
theorem CI (D:Gi) (i:Nat) (σ:St) (H:Hp):(D.gone i).nx σ H=D.nx (σ.set i none) H:=rfl
theorem FI (D:Gi) (i:Nat) (v:V) (H:Hp):(D.gone i).rt v H=D.rt v H:=rfl
theorem OwnTail.has {h:Heap} {bm tl:List Value} {v:Value} (T:OwnTail h bm tl) (e:bm.contains v=true):tl.contains v=true:=by
 induction T with
 | base=>exact e
 | own _ _ _ _ ih=>rw [List.contains_cons,ih,Bool.or_true]
noncomputable def qG (K:PySem.W.Frag) (E:St→XK) (te:TE):TS:=fun D σ H=>te σ H fun v H1=>∃ x C od,v=.ref x∧H1 x=some (.ext (XF x C od))∧gu K C∧E σ (.ref C) od (upd H1 x (.ext (XA x C od)))
theorem vz {M:Model} {A:Around} {E:Value→Shared→Prop} {s:Shared} {env:Env} {x:Sem Value} {Q:Flow→Shared→Prop} (hh:A.handled=none)
  (h:wpAny M A x (fun v s1=>∃ e C od vs sl nm q N bs bm hdct sn sub ab col dd k0 k1 k2 k3 k5 newId,v=.ref e∧bm.contains (.type "BaseException")=true ∧
   s1.heap.get? C=some (excClassObj nm q C N bs bm hdct sn sub ab col dd k0 k1 k2 k3 k5 newId)∧s1.heap.get? e=some ⟨.ref C,od,.fields vs,sl⟩∧vs[1]? = some .none∧E (.ref e) s1) E s) :
  wpAny M A (raiseStmt env (some x) none) Q E s:=by
 unfold raiseStmt
 refine wpAny_bind (wpAny_mono h (fun v s1 h1=>?_) fun _ _ x=>x)
 obtain ⟨e,C,od,vs,sl,nm,q,N,bs,bm,hdct,sn,sub,ab,col,dd,k0,k1,k2,k3,k5,newId,rfl,hb,hC,he,h1,hE⟩:=h1
 have hcB:(Value.ref C :: bm).contains (.type "BaseException")=true:=by rw [List.contains_cons,hb,Bool.or_true]
 obtain ⟨hp,g,d,tk,os⟩:=s1
 repeat (first | with_reducible refine wpAny_loadPart_at he ?_ | with_reducible refine wpAny_loadPart_at hC ?_ | (with_reducible refine wpAny_isSubtype_exc hC ?_;rw [hcB]) | (with_reducible refine wpAny_field he rfl h1 ?_) | wp_step)
 exact wpAny_raiseNew_none hh hE
section
variable {X:Cx} {e:Expr} {te:TE} {pos:Pos} {E:St→XK}
theorem Po (he:PE X e te) (hT:lC X E) (hc:X.calm=true:=by rfl):PS X (.Raise (some e) none pos) (qG X.K E te):=by
 intro pins s σ H D I h
 rw [arm_exec_Raise]
 refine wpAny_bind (wpAny_standAt (vz (I.ok.hd hc) ?_))
 refine wpAny_bind (thn (he pins s σ H _ I h) fun u s1 ⟨v,H1,I1,r,x,C,od,ev,ex,c,q⟩=>wpAny_bind (wpAny_standAt (wpAny_pure ?_)))
 subst ev
 obtain rfl:u=Value.ref x:=r
 obtain ⟨vs,sl,hx,z1,z2⟩:=(show md X.prog X.w H1 s1.heap x (.ext (XF x C od)) from I1.hok _ _ ex).1
 obtain ⟨fI,hfI⟩:=c.ex
 obtain ⟨tl,N,nm,q',bs,sn,sub,ab,co,dd,k0,k1,k2,k3,k5,mN,hC,hN,hi,T⟩:=Kt I1.kIn hfI
 exact ⟨x,C,od,vs,sl,nm,q',N,bs,tl,true,sn,sub,ab,co,dd,k0,k1,k2,k3,k5,_,rfl,L2.OwnTail.has T (by decide),hC,hx,z2,hT pins σ H1 s1 x C od I1 ex q⟩
theorem PS.nox {X:Cx} {st:Stmt} {t:TS} (h:PS X.nox st t):PS X st t:=fun pins s σ H D I hw=>
 wpAny_mono (h pins s σ H D (I.wish _) hw) (fun _ _ q=>q.unwish) fun _ _ z=>False.elim z
end
theorem Fun.okX {P:Program} {w:World} {K:PySem.W.Frag} {mg:Str→Option Value} {base:Heap} {x qual:Str} {st:Stmt} {f:Addr} {fd:FuncData} {N ps:List Str} {k:Nat} {sp:Sp} (F:Fun K x qual st f fd) (S:yb N ps (jb st))
  (len:∀ vs H Q E,sp vs H Q E→vs.length=ps.length)
  (hbody:∀ (cdv:Value) (A:Around) (outer:List Env) (s:Shared) (H:Hp) (vs:List V) (Q:VK) (E:XK),Yi k (A.deeper (envOfC qual (jb st) s.heap.objs.size f cdv))→sp vs H Q E →
   ∃ t,PSs ((gD (CX1 P w) P w K mg base N qual (jb st) f cdv A outer s H E).wish (xeA (gD (CX1 P w) P w K mg base N qual (jb st) f cdv A outer s H E) fun _=>E)) (Ym st) t∧t { nx:=fun _ H'=>Q .non H',rt:=Q } (start N vs) H):Jb P w K mg base (CX1 P w) (k + 1) f fd ps sp:=by
 obtain ⟨oc,od,kV,doc,pm,an,cdv,ct,osl,rfl,lk,hcd⟩:=F.ex
 refine jK lk hcd S len fun A outer s H vs Q E hr hsp=>?_
 obtain ⟨t,h,q⟩:=hbody cdv A outer s H vs Q E hr hsp
 exact ⟨t,fun pins s1 σ H1 D I hw=>wpAny_mono (h pins s1 σ H1 D (I.wish _) hw) (fun _ _ q=>q.unwish) fun _ _ z=>NI z,q⟩
noncomputable def xeB (B:Cx) (E:XK) (e:Value) (s':Shared):Prop:=
 ∃ pins fl σ' H' x C od T,e=.ref x∧Inv B pins σ' H' s'∧H' x=some (.ext (XA x C od))∧H' T=none∧WJ B pins T∧B.s₀.heap.objs.size ≤ T∧FlA x C od T fl s'.heap∧E (.ref C) od H'
structure tM (X:Cx) (scope:Scope) (N:List Str) (tg elt:Expr) (ifs:List Expr) (g:TG) (tc:TT) (te:XK→TE):Prop where
 tgt:∀ E C s H fp,PG ((X.block scope C N s H fp).wish (xeB (X.block scope C N s H fp) E)) tg g
 tests:∀ E C s H fp,PTs ((X.block scope C N s H fp).wish (xeB (X.block scope C N s H fp) E)) ifs tc
 elem:∀ E C s H fp,PE ((X.block scope C N s H fp).wish (xeB (X.block scope C N s H fp) E)) elt (te E)
theorem tM.of {X:Cx} {scope:Scope} {N:List Str} {tg elt:Expr} {ifs:List Expr} {g:TG} {tc:TT} {te:XK→TE} (h1:∀ E C s H fp,PG ((X.block scope C N s H fp).wish (xeB (X.block scope C N s H fp) E)) tg g)
  (h2:∀ E C s H fp,∃ t,PTs ((X.block scope C N s H fp).wish (xeB (X.block scope C N s H fp) E)) ifs t∧t=tc) (h3:∀ E C s H fp,∃ t,PE ((X.block scope C N s H fp).wish (xeB (X.block scope C N s H fp) E)) elt t∧t=te E):tM X scope N tg elt ifs g tc te:=
 ⟨h1,fun E C s H fp=>by obtain ⟨t,h,rfl⟩:=h2 E C s H fp;exact h,fun E C s H fp=>by obtain ⟨t,h,e⟩:=h3 E C s H fp;rw [← e];exact h⟩
section
variable {X:Cx} {elt tg iter:Expr} {ifs:List Expr} {scope:Scope} {pos:Pos} {wi:TI} {g:TG} {tc:TT} {te:XK→TE} {N:List Str} {sel:List (Option Nat)}
theorem FlA.but {x C T c:Addr} {od:Option Addr} {fl:Value} {h h':Heap} (z:FlA x C od T fl h) (n1:x ≠ c) (n2:T ≠ c) (k:∀ b,b ≠ c→h'.get? b=h.get? b):FlA x C od T fl h':=by
 obtain ⟨ne,vs,sl,oT,ts,he,h1,hT,hd,h3⟩:=z
 exact ⟨ne,vs,sl,oT,ts,(k _ n1).trans he,h1,(k _ n2).trans hT,hd,h3⟩
end
structure TL (K:PySem.W.Frag) (C:Addr):Prop where
 cl:Cls K C
 ha:PySem.W.findIn K (.ref C) "__class__"=some (some (.builtin "object.__class__"))
 hn:PySem.W.specialIn K (.builtin "object.__class__") "__get__"=some (some (.builtin "getset_descriptor.__get__"))
 htk:PySem.W.takesIn K (.builtin "object.__class__")=some true
 hm:PySem.W.mroIn K C (.type "object")=some true
theorem TL.ty {K:PySem.W.Frag} {H:Hp} {C a dx:Addr} {fs:List (Str × V)} (c:TL K C) (e:H a=some (.ins C dx fs)):Ky K H (.ref a) (.ref C):=.ins e c.cl c.ha c.hn c.htk c.hm
end L2
namespace L2
open PySem PySem.Spec PyProof.Rows
section
variable {X:Cx} {tg:Expr}
end
section
variable {prog:Program} {w:World} {A:Around} {E:Value→Shared→Prop} {s:Shared} {it l:Addr} {items:Array Value}
end
section
variable {X:Cx}
end
section
variable {prog:Program} {w:World} {A:Around} {R:Result→Shared→Prop} {I:Addr} {fp wr:List Addr} {n:Nat} {P:Nat→Value→Prop} {St:Nat→Heap→Prop}
end
section
variable {prog:Program} {w:World} {A:Around} {E:Value→Shared→Prop} {s:Shared}
end
section
variable {X:Cx}
end
end L2
namespace L2
open PySem PySem.Spec PyProof.Rows
structure CM (K:PySem.W.Frag) (C:Addr):Prop where
 x:gu K C
 ha:PySem.W.findIn K (.ref C) "__class__"=some (some (.builtin "object.__class__"))
 hn:PySem.W.specialIn K (.builtin "object.__class__") "__get__"=some (some (.builtin "getset_descriptor.__get__"))
 htk:PySem.W.takesIn K (.builtin "object.__class__")=some true
 hm:PySem.W.mroIn K C (.type "object")=some true
section
variable {prog:Program} {w:World} {A:Around} {E:Value→Shared→Prop} {s:Shared} {K:PySem.W.Frag} {x C:Addr} {od:Obj} {dx:Addr} {vs:Array Value} {sl:Array (Option Value)}
end
section
variable {X:Cx}
end
theorem Jb.quiet {P:Program} {w:World} {K:PySem.W.Frag} {mg:Str→Option Value} {base:Heap} {k:Nat} {f:Addr} {fd:FuncData} {ps:List Str} {sp sp':Sp} (F:Jb P w K mg base (CX1 P w) k f fd ps sp)
  (h:∀ vs H Q E,sp' vs H Q E→sp vs H Q (fun _ _ _=>False)):Jb P w K mg base CX0 k f fd ps sp':=by
 refine ⟨fun vs H Q E q=>F.len vs H _ _ (h vs H Q E q),fun A outer s H args us vs Q E hr he hb hv hs=>?_⟩
 refine codeAny_mono (F.run A outer s H args us vs Q _ hr he hb hv (h vs H Q E hs)) fun r s' hq=>?_
 cases r with
 | error e=>
  obtain ⟨x,C,od,H',T,_,_,_,_,_,_,_,_,_,z⟩:=hq
  exact z.elim
 | ok fl=>cases fl <;> exact hq
end L2
namespace L2
open PySem PySem.Spec PyProof.Rows
structure Pm (k:Nat) (A:Around):Prop where
 dp:A.depth + 3 * k + 5 < recursionLimit
 un:A.units + 16 * k + 200 < cLine
theorem Yi.h {k:Nat} {A:Around} (r:Yi k A):Pm k A:=⟨r.dp,r.un⟩
theorem Pm.mono {j k:Nat} {A:Around} (r:Pm k A) (h:j ≤ k):Pm j A:=⟨by have:=r.dp;omega,by have:=r.un;omega⟩
theorem Pm.deeper {k:Nat} {A:Around} (r:Pm (k + 1) A) (env:Env):Pm k (A.deeper env):=
 ⟨by have:=r.dp;show A.depth + 1 + 3 * k + 5 < _;omega,by have:=r.un;show A.units + 3 + 16 * k + 200 < _;omega⟩
theorem Pm.depth {k:Nat} {A:Around} (r:Pm k A):A.depth < recursionLimit:=by have:=r.dp;omega
theorem Pm.units {k:Nat} {A:Around} (r:Pm k A):A.units + 64 < cLine:=by have:=r.un;omega
theorem Yi.hn {k:Nat} {X:Cx} {e:Value} (r:Yi k X.A):Pm k (X.hn e).A:=⟨r.dp,r.un⟩
structure LI (P:Program) (w:World) (K:PySem.W.Frag) (mg:Str→Option Value) (base:Heap) (CX:CXT) (k:Nat) (f:Addr) (fd:FuncData) (ps:List Str) (sp:Sp):Prop where
 len:∀ vs H Q E,sp vs H Q E→vs.length=ps.length
 run:∀ (A:Around) (outer:List Env) (s:Shared) (H:Hp) (args:Args) (us:List Value) (vs:List V) (Q:VK) (E:XK),Pm k A→FA P w K mg base A outer s H→BindsTo s fd args (ps.zip us)→Jd vs us→sp vs H Q E →
  codeAny (model P w) A (.call (.ref f) args) (CR CX outer P w H s Q E) s
theorem LI.mono {P:Program} {w:World} {K:PySem.W.Frag} {mg:Str→Option Value} {base:Heap} {CX:CXT} {j k:Nat} {f:Addr} {fd:FuncData} {ps:List Str} {sp:Sp} (F:LI P w K mg base CX j f fd ps sp) (h:j ≤ k) :
  LI P w K mg base CX k f fd ps sp:=⟨F.len,fun A outer s H args us vs Q E hr=>F.run A outer s H args us vs Q E (hr.mono h)⟩
section
variable {X:Cx} {CX:CXT} {k:Nat} {f C:Addr} {fd:FuncData} {ps:List Str} {sp:Sp} {dvs:List V} {ds:List Value} {E:XK} {x m:Str} {p pos apos:Pos} {e o:Expr} {es:List Expr} {ta:TE} {t:TA}
end
noncomputable def mL (CX:CXT) (P:Program) (w:World) (K:PySem.W.Frag) (mg:Str→Option Value) (base:Heap) (N:List Str) (qual:Str) (scope:Scope) (f:Addr) (cd:Value) (A:Around) (outer:List Env) (s:Shared) (H:Hp) (E:XK):Cx where
 prog:=P
 w:=w
 K:=K
 mg:=mg
 base:=base
 A:=A.deeper (envOfC qual scope s.heap.objs.size f cd)
 N:=N
 s₀:=s
 H₀:=H
 env:=envOfC qual scope s.heap.objs.size f cd
 outer:=outer
 stack:=envOfC qual scope s.heap.objs.size f cd :: outer
 ex:=[]
 calm:=false
 fn:=fun _=>true
 pn:=[]
 xe:=fun e s'=>wpAny (model P w) (A.deeper (envOfC qual scope s.heap.objs.size f cd)) (leaving (envOfC qual scope s.heap.objs.size f cd) e) (fun _ s''=>CX outer H s E e s'') (fun e' s''=>CX outer H s E e' s'') s'
section
variable {P:Program} {w:World} {K:PySem.W.Frag} {mg:Str→Option Value} {base:Heap}
end
end L2
namespace L2
open PySem PySem.Spec PyProof.Rows
section
variable {X:Cx}
end
end L2
namespace L2
open PySem PySem.Spec PyProof.Rows
section
variable {α:Type} {M:List α→Prop}
theorem us1 (h:∀ a,M [a]):∀ us:List α,us.length=1→M us | [a],_=>h a
theorem us2 (h:∀ a b,M [a,b]):∀ us:List α,us.length=2→M us | [a,b],_=>h a b
theorem us3 (h:∀ a b c,M [a,b,c]):∀ us:List α,us.length=3→M us | [a,b,c],_=>h a b c
theorem us4 (h:∀ a b c d,M [a,b,c,d]):∀ us:List α,us.length=4→M us | [a,b,c,d],_=>h a b c d
theorem us7 (h:∀ a b c d e f g,M [a,b,c,d,e,f,g]):∀ us:List α,us.length=7→M us | [a,b,c,d,e,f,g],_=>h a b c d e f g
theorem us8 (h:∀ a b c d e f g i,M [a,b,c,d,e,f,g,i]):∀ us:List α,us.length=8→M us | [a,b,c,d,e,f,g,i],_=>h a b c d e f g i
end
structure XB (K:PySem.W.Frag) (C:Addr):Prop where
 hd:PySem.W.hasDictIn K C=true
 ov:((PySem.W.clsIn K C).any fun cd=>yC cd.mro)=true
 sa:PySem.W.findIn K (.ref C) "__setattr__"=some (some (.builtin "object.__setattr__"))
 ga:PySem.W.findIn K (.ref C) "__getattribute__"=some (some (.builtin "BaseException.__getattribute__"))
 gt:PySem.W.findIn K (.ref C) "__getattr__"=some none
theorem Us {K:PySem.W.Frag} {C f:Addr} (b:XB K C) (m:MkX K C f):gu K C:=⟨b.hd,b.ov,b.sa,b.ga,b.gt,_,m.e⟩
structure IB (K:PySem.W.Frag) (C:Addr):Prop where
 ha:PySem.W.findIn K (.ref C) "__class__"=some (some (.builtin "object.__class__"))
 hn:PySem.W.specialIn K (.builtin "object.__class__") "__get__"=some (some (.builtin "getset_descriptor.__get__"))
 htk:PySem.W.takesIn K (.builtin "object.__class__")=some true
 hm:PySem.W.mroIn K C (.type "object")=some true
theorem KK {K:PySem.W.Frag} {C f:Addr} (i:PySem.W.isFn K (.ref f)=true) (e:Ks K C f=true) (k:PySem.W.keepIn K (.ref C)=true):MkX K C f:=⟨e,beq_iff_eq.mp i,k⟩
end L2
namespace L2
open PySem PySem.Spec PyProof.Rows
theorem iz {ks:List Int}:∀ {its:List Value},Jd (ks.map V.int) its→∃ xs:List (Int × Tok),its=xs.map (fun p=>Value.int p.1 p.2)∧xs.map (·.1)=ks:=by
 induction ks with
 | nil=>intro its r;cases r;exact ⟨[],rfl,rfl⟩
 | cons k ks ih=>
  intro its r
  cases r with
  | cons h t=>
   obtain ⟨xs,e1,e2⟩:=ih t
   obtain ⟨tk,rfl⟩:=(show ∃ t,_=Value.int k t from h)
   exact ⟨(k,tk) :: xs,by rw [List.map_cons,← e1],by rw [List.map_cons,e2]⟩
section
variable {X:Cx}
theorem ou (hc:X.calm=true):Ek X (.builtin "max") (fun xs H Q=>∃ l ks m,xs=[.ref l]∧SqL X.K H l (List.map V.int ks)∧(m ∈ ks∧∀ k ∈ ks,k ≤ m)∧Q (.int m) H):=by
 intro pins s σ H xs us Q I r h
 obtain ⟨l,ks,m,rfl,hq,hm,q⟩:=h
 obtain ⟨u,rfl,ru⟩:=pq r
 cases ru
 obtain ⟨its,rv,pl,hz⟩:=I.list hq
 obtain ⟨xs,e1,e2⟩:=iz rv
 have hil:its.toArray=intItems xs.toArray:=by rw [e1];unfold intItems;simp
 have hls:s.heap.IsList l (intItems xs.toArray):=by rw [← hil];exact pl.isList
 have hxl:xs.length=ks.length:=by rw [← e2,List.length_map]
 have hne:0 < xs.toArray.size:=by
  rw [List.size_toArray,hxl]
  exact List.length_pos_of_mem hm.1
 refine max_intList (I.ok.hd hc) hls hne fun v h' tk hv hk=>⟨.int m,H,I.kept hk,?_,q⟩
 obtain ⟨tv,rfl⟩:=intItems_at hv
 refine ⟨tv,?_⟩
 have hb:=argBest_gt (numAt xs.toArray) (xs.toArray.size - 1)
 generalize argBest (fun i j=>decide (numAt xs.toArray i > numAt xs.toArray j)) (xs.toArray.size - 1)=j at hb ⊢
 have hn:∀ i,i < ks.length→ks[i]? = some (numAt xs.toArray i):=fun i hi=>by
  rw [numAt_eq,List.getD_eq_getElem?_getD]
  show ks[i]? = some (((xs.map (·.1))[i]?).getD 0)
  rw [e2,List.getElem?_eq_getElem hi];rfl
 rw [List.size_toArray] at hb hne
 have h1:=hm.2 _ (List.mem_of_getElem? (hn j (by omega)))
 obtain ⟨i,hi⟩:=List.getElem?_of_mem hm.1
 have hil:i < ks.length:=(List.getElem?_eq_some_iff.mp hi).1
 have h2:=hb.2 i (by omega)
 have h3:m=numAt xs.toArray i:=Option.some.inj (hi.symm.trans (hn i hil))
 rw [show numAt xs.toArray j=m by omega]
end
end L2
namespace L2
open PySem PySem.Spec PyProof.Rows
noncomputable def vJ (p d:Addr):Heap→Prop:=fun h=>PySem.W.KdlKeysView h p d
noncomputable def rL (p d:Addr):Heap→Prop:=fun h=>h.IsValuesView p d
theorem vJ.ok {P:Program} {w:World} {H:Hp} {h:Heap} {p d:Addr} (z:vJ p d h):md P w H h p (.ext (vJ p d)):=
 ⟨z,let ⟨o,ho,_⟩:=z;⟨o,ho⟩,fun _ _ z1 k=>let ⟨o,ho,x⟩:=z1;⟨o,k o ho,x⟩⟩
theorem rL.ok {P:Program} {w:World} {H:Hp} {h:Heap} {p d:Addr} (z:rL p d h):md P w H h p (.ext (rL p d)):=
 ⟨z,let ⟨o,ho,_⟩:=z;⟨o,ho⟩,fun _ _ z1 k=>let ⟨o,ho,x⟩:=z1;⟨o,k o ho,x⟩⟩
section
variable {X:Cx}
noncomputable def Br:V→List V→Hp→VK→Prop:=fun x vs H Q=>∃ d kvs,x=.ref d∧vs=[]∧H d=some (.dK kvs)∧∀ p,H p=none→Q (.ref p) (upd H p (.ext (vJ p d)))
end
end L2
namespace L2
open PySem PySem.Spec PyProof.Rows
noncomputable abbrev TF:=St→Hp→Str→(Str→Hp→Prop)→Prop
section
variable {X:Cx} {e:Expr} {es:List Expr} {t:TF} {te:TE} {pos:Pos}
end
end L2
namespace L2
open PySem PySem.Spec PyProof.Rows
noncomputable def CL (p:Addr) (a b c:Int):Heap→Prop:=fun h=>∃ t u v,IsRange h p a b c t u v
theorem CL.ok {P:Program} {w:World} {H:Hp} {h:Heap} {p:Addr} {a b c:Int} (z:CL p a b c h):md P w H h p (.ext (CL p a b c)):=
 ⟨z,let ⟨_,_,_,e⟩:=z;⟨_,e⟩,fun _ _ z1 k=>let ⟨t,u,v,e⟩:=z1;⟨t,u,v,k _ e⟩⟩
section
variable {X:Cx}
end
end L2
namespace L2
open PySem PySem.Spec PyProof.Rows
noncomputable def vM (c:Addr) (qual:Str):Heap→Prop:=fun h=>h.CodeRec (.ref c) qual
noncomputable def Tab (H:Hp) (Pt:Addr) (pos:Pos) (qual:Str):Prop:=
 ∃ ps,H Pt=some (.tbl ps)∧(ps=#[]∨∃ c',ps=#[rawInt pos.line,rawInt pos.col,.ref c']∧H c'=some (.ext (vM c' qual)))
noncomputable def Fx (Pt:Addr) (H H':Hp):Prop:=∀ b o,b ≠ Pt→H b=some o→H' b=some o
theorem Fx.refl (Pt:Addr) (H:Hp):Fx Pt H H:=fun _ _ _ h=>h
theorem Fx.trans {Pt:Addr} {H H1 H2:Hp} (a:Fx Pt H H1) (b:Fx Pt H1 H2):Fx Pt H H2:=fun c o n h=>b c o n (a c o n h)
theorem ac.p {Pt:Addr} {H H':Hp} (s:ac H H'):Fx Pt H H':=fun b o _ h=>s b o h
theorem Tab.ne {H:Hp} {Pt b:Addr} {pos:Pos} {qual:Str} {o:HO} (t:Tab H Pt pos qual) (h:H b=some o) (ho:∀ ps,o ≠ .tbl ps):b ≠ Pt:=fun e=>by
 obtain ⟨ps,e1,_⟩:=t
 subst e
 rw [e1] at h
 exact ho ps (Option.some.inj h).symm
theorem Tab.step {H H':Hp} {Pt:Addr} {pos:Pos} {qual:Str} (t:Tab H Pt pos qual) (s:ac H H'):Tab H' Pt pos qual:=by
 obtain ⟨ps,e,d⟩:=t
 refine ⟨ps,s _ _ e,?_⟩
 rcases d with d | ⟨c',d,e'⟩
 ·exact .inl d
 ·exact .inr ⟨c',d,s _ _ e'⟩
structure DM (X:Cx) (c Pt:Addr):Prop where
 code:X.env.code=.ref c
 hd:PySem.W.CodeHd X.base c Pt
 bm:X.base.BuiltinsAt X.mg Pt
section
variable {X:Cx} {pins:List (Addr × Obj)} {σ:St} {H:Hp} {s:Shared} {params:Arguments} {body:Expr} {scope:Scope} {pos:Pos} {c Pt:Addr} {clos:List (Str × Addr)} {Q:Value→Shared→Prop}
end
section
variable {P:Program} {w:World} {K:PySem.W.Frag} {mg:Str→Option Value} {base:Heap}
end
structure BM (p y:Str) (sc:Scope):Prop where
 kind:sc.kind=.function
 co:sc.isCoroutine=false
 gen:sc.isGenerator=false
 ne:p ≠ y
 par:sc.names.lookup p=some .local
 yf:sc.names.lookup y=some .free
 nocell:∀ z ∈ sc.names,z.2 ≠ .cell
 one:∀ z ∈ sc.names,z.2=.free→z.1=y
section
variable {X:Cx} {pins:List (Addr × Obj)} {σ:St} {H:Hp} {s:Shared} {k:Nat} {f c' cl:Addr} {q p y:Str} {params:Arguments} {body:Expr} {scope:Scope} {v:V} {t:TE}
end
end L2
namespace L2
open PySem PySem.Spec PyProof.Rows
end L2
namespace L2
open PySem PySem.Spec PyProof.Rows
section
variable {P:Program} {w:World} {A:Around} {E:Value→Shared→Prop} {s:Shared}
structure yM (h:Heap) (d:Addr) (o:Obj) (es:Array DictEntry) (ep:Nat):Prop where
 at_:h.get? d=some o
 ex:o.ExactDict
 dat:o.data=.dict es ep
end
noncomputable def AtO (a:Addr) (o:Obj):Heap→Prop:=fun h=>h.get? a=some o
structure YL (P:Program) (w:World) (H:Hp) (a:Addr) (kvs:List (List Key × V)) (o:Obj) (es:Array DictEntry) (ep:Nat) (xs:List (List Key × Addr × Value)):Prop where
 at_:H a=some (.ext (AtO a o))
 ex:o.ExactDict
 dat:o.data=.dict es ep
 ent:es.toList=xs.map (entryOfKey (tupleKind (Te P w)))
 nd:(xs.map (·.1)).Nodup
 ks:Paired (fun (p:List Key × V) (q:List Key × Addr × Value)=>p.1=q.1∧H q.2.1=some (.tup (p.1.map kV))∧Od p.2 q.2.2) kvs xs
 sz:kvs.length ≤ sizeLine
 ns:(a == sysModules)=false
noncomputable def Ur (P:Program) (w:World) (H:Hp) (a:Addr) (kvs:List (List Key × V)):Prop:=∃ o es ep xs,YL P w H a kvs o es ep xs
section
variable {P:Program} {w:World} {H H':Hp} {h:Heap} {a:Addr} {kvs:List (List Key × V)}
theorem Bv (d:Ur P w H a kvs) (s:ac H H'):Ur P w H' a kvs:=by
 obtain ⟨o,es,ep,xs,r⟩:=d
 exact ⟨o,es,ep,xs,s _ _ r.at_,r.ex,r.dat,r.ent,r.nd,Paired.mapP r.ks fun p q z=>⟨z.1,s _ _ z.2.1,z.2.2⟩,r.sz,r.ns⟩
theorem dF {p:Addr} {u:HO} (d:Ur P w H a kvs) (hp:p ≠ a) (ht:∀ xs,H p ≠ some (.tup xs)):Ur P w (upd H p u) a kvs:=by
 obtain ⟨o,es,ep,xs,r⟩:=d
 exact ⟨o,es,ep,xs,by rw [lb (Ne.symm hp)];exact r.at_,r.ex,r.dat,r.ent,r.nd,Paired.mapP r.ks fun q q' z=>⟨z.1,by rw [lb (fun e=>ht _ (e ▸ z.2.1))];exact z.2.1,z.2.2⟩,r.sz,r.ns⟩
theorem sE {o:Obj} {es:Array DictEntry} {ep:Nat} {xs:List (List Key × Addr × Value)} (ok:HOk P w H h) (r:YL P w H a kvs o es ep xs):yM h a o es ep:=
 ⟨(ok a _ r.at_).1,r.ex,r.dat⟩
theorem gI (ok:HOk P w H h) (d:Ur P w H a kvs):Mut (H a)∧(∃ u,h.get? a=some u)∧md P w (upd H a (.dT kvs)) h a (.dT kvs):=by
 obtain ⟨o,es,ep,xs,r⟩:=d
 have e:=(sE ok r).at_
 refine ⟨by rw [r.at_];exact True.intro,⟨o,e⟩,r.sz,r.ns,xs,Paired.mapP r.ks fun q q' z=>⟨z.1,?_,z.2.2⟩,o,es,ep,e,r.ex,r.dat,r.ent,r.nd⟩
 rw [lb (fun e=>by have:=z.2.1;rw [e,r.at_] at this;cases this)]
 exact z.2.1
theorem nH {b:Addr} {xs:List V} (d:Ur P w H a kvs) (e:H b=some (.tup xs)):b ≠ a:=fun z=>by
 obtain ⟨o,es,ep,ys,r⟩:=d
 have:=r.at_
 rw [← z,e] at this
 cases this
end
section
variable {X:Cx} {pins:List (Addr × Obj)} {σ:St} {H:Hp} {s:Shared} {a b:Addr} {kvs:List (List Key × V)} {k:List Key} {v:V} {r:Value} {A:Around} {E:Value→Shared→Prop}
theorem Dy {o':HO} (I:Inv X pins σ H s) (mu:Mut (H a)) (ex:∃ u,s.heap.get? a=some u) (new:md X.prog X.w (upd H a o') s.heap a o'):Inv X pins σ (upd H a o') s:=
 I.un (t':=s.toks) (h':=s.heap) (Un.write mu (.inl rfl) (fun _ _ _ q=>q) ex) (I.hok.write mu (.inl rfl) (fun _ _ _ q=>q) ex new)
theorem yE (I:Inv X pins σ H s) (d:Ur X.prog X.w H a kvs):Inv X pins σ (upd H a (.dT kvs)) s:=
 have z:=gI I.hok d
 Dy I z.1 z.2.1 z.2.2
theorem ny (I:Inv X pins σ H s) (e:H a=some (.dT kvs)):∃ o,Inv X pins σ (upd H a (.ext (AtO a o))) s∧Ur X.prog X.w (upd H a (.ext (AtO a o))) a kvs:=by
 obtain ⟨z,y,xs,r,o,es,ep,h1,h2,h3,h4,h5⟩:=(show md X.prog X.w H s.heap a (.dT kvs) from I.hok a _ e)
 refine ⟨o,Dy I (by rw [e];exact True.intro) ⟨o,h1⟩ ⟨h1,⟨o,h1⟩,fun _ _ q k=>k o q⟩,o,es,ep,xs,db ..,h2,h3,h4,h5,Paired.mapP r fun p q z=>⟨z.1,?_,z.2.2⟩,z,y⟩
 rw [lb (fun q=>by have:=z.2.1;rw [q,e] at this;cases this)]
 exact z.2.1
theorem YK {Q:Unit→Shared→Prop} (hu:A.units + 1 < cLine) (I:Inv X pins σ H s) (d:Ur X.prog X.w H a kvs) (eb:H b=some (.tup (k.map kV))) (hl:kvs.length < sizeLine) (rv:Od v r)
  (h:∀ o s',Inv X pins σ (upd H a (.ext (AtO a o))) s'→Ur X.prog X.w (upd H a (.ext (AtO a o))) a (Cn kvs k v)→Q () s'):wpAny (model X.prog X.w) A (setItem (.ref a) (.ref b) r) Q E s:=by
 refine Hu hu (yE I d) (AD.t (db ..) (by rw [lb (nH d eb)];exact eb) hl) (show Od (.ref b) (.ref b) from rfl) rv fun s' I'=>?_
 rw [Qg] at I'
 obtain ⟨o,I2,d2⟩:=ny I' (db ..)
 rw [Qg] at I2 d2
 exact h o s' I2 d2
end
noncomputable def UJ (P:Program) (w:World) (td ty tv:TE):TS:=fun D σ H=>tv σ H fun v H1=>td σ H1 fun x H2=>ty σ H2 fun y H3=>∃ a b kvs k,x=.ref a∧y=.ref b∧Ur P w H3 a kvs∧H3 b=some (.tup (k.map kV))∧kvs.length < sizeLine∧∀ o,Ur P w (upd H3 a (.ext (AtO a o))) a (Cn kvs k v)→D.nx σ (upd H3 a (.ext (AtO a o)))
noncomputable def JK (P:Program) (w:World):TE:=fun _ H Q=>∀ p o,H p=none→Ur P w (upd H p (.ext (AtO p o))) p []→Q (.ref p) (upd H p (.ext (AtO p o)))
section
variable {X:Cx} {o i e value:Expr} {pos pos' tpos:Pos} {td ty tv:TE}
theorem RH (hu:X.A.units + 1 < cLine) (ho:PE X o td) (hi:PE X i ty) (hv:PE X value tv) (hs:swapsWith value (some (.Subscript o i pos')) pos.line X.env=pure false) :
  PS X (.Assign [.Subscript o i pos'] value pos) (UJ X.prog X.w td ty tv):=by
 intro pins s σ H D I h
 refine wpAny_Assign_Subscript (thn (hv pins s σ H _ I h) fun r s1 ⟨v,H1,I1,rv,q1⟩=>thn (ho pins s1 σ H1 _ I1 q1) fun u s2 ⟨x,H2,I2,rx,q2⟩=>thn (hi pins s2 σ H2 _ I2 q2) fun iv s3 hZ1=>?_) hs
 obtain ⟨y,H3,I3,ry,a,b,kvs,k,ex,ey,d,eb,hl,q3⟩:=hZ1
 subst ex ey
 obtain rfl:u=Value.ref a:=rx
 obtain rfl:iv=Value.ref b:=ry
 exact YK hu I3 d eb hl rv fun ob s4 I4 d4=>⟨σ,_,I4,q3 ob d4⟩
theorem OI:PE X (.Dict [] [] pos) (JK X.prog X.w):=fun pins s σ H Q I h=>by
 refine thn (bE pins s σ H (fun x H1=>∃ p,x=.ref p∧H p=none∧H1=upd H p (.dT [])) I fun p hp=>⟨p,rfl,hp,rfl⟩) fun v s1 hZ1=>?_
 obtain ⟨x,H1,I1,r1,p,ex,hp,eH⟩:=hZ1
 subst ex eH
 obtain ⟨o,I2,d2⟩:=ny I1 (db ..)
 rw [Qg] at I2 d2
 exact ⟨.ref p,_,I2,r1,h p o hp d2⟩
end
section
variable {X:Cx} {tg:Expr}
end
end L2
namespace L2
open PySem PySem.Spec PyProof.Rows
theorem NH (i:Nat) (σ:St) (H:Hp) (Q:VK):jL i σ H Q=(∃ v,σ[i]? = some (some v)∧Q v H):=rfl
theorem uL (v:V) (x_0:St) (H:Hp) (Q:VK):tC v x_0 H Q=(Q v H):=rfl
theorem wL (t:TE) (σ:St) (H:Hp) (Q:(Bool→Hp→Prop)):tB t σ H Q=(t σ H fun x H1=>∃ c,x=.bl c∧Q c H1):=rfl
theorem FH (t u:TT) (σ:St) (H:Hp) (Q:(Bool→Hp→Prop)):rM t u σ H Q=(t σ H fun c H1=>if c=true then u σ H1 Q else Q false H1):=rfl
theorem DK (t u:TT) (σ:St) (H:Hp) (Q:(Bool→Hp→Prop)):tOr t u σ H Q=(t σ H fun c H1=>if c=true then Q true H1 else u σ H1 Q):=rfl
theorem uH (t:TT) (σ:St) (H:Hp) (Q:(Bool→Hp→Prop)):UL t σ H Q=(t σ H fun c H1=>Q (!c) H1):=rfl
theorem RE (ta tb:TE) (σ:St) (H:Hp) (Q:VK):HK ta tb σ H Q=(ta σ H fun x H1=>∃ c,x=.bl c∧if c=true then tb σ H1 Q else Q (.bl false) H1):=rfl
theorem gH (ta tb:TE) (σ:St) (H:Hp) (Q:VK):ZL ta tb σ H Q=(ta σ H fun x H1=>∃ c,x=.bl c∧if c=true then Q (.bl true) H1 else tb σ H1 Q):=rfl
theorem FE (ta:TE) (σ:St) (H:Hp) (Q:VK):PK ta σ H Q=(ta σ H fun x H1=>∃ c,x=.bl c∧Q (.bl (!c)) H1):=rfl
theorem aK (t:TT) (ta tb:TE) (σ:St) (H:Hp) (Q:VK):tIf t ta tb σ H Q=(t σ H fun c H1=>if c=true then ta σ H1 Q else tb σ H1 Q):=rfl
theorem re (D:Gi) (σ:St) (H:Hp):yJ  D σ H=(D.nx σ H):=rfl
theorem Cb (t u:TS) (D:Gi) (σ:St) (H:Hp):fM t u D σ H=(t { D with nx:=u D } σ H):=rfl
theorem tF (te:TE) (D:Gi) (σ:St) (H:Hp):oJ te D σ H=(te σ H fun _ H1=>D.nx σ H1):=rfl
theorem YI (te:TE) (D:Gi) (σ:St) (H:Hp):GL te D σ H=(te σ H D.rt):=rfl
theorem DB (x_0:Gi) (x_1:St) (x_2:Hp):fG  x_0 x_1 x_2=(False):=rfl
theorem De (i:Nat) (v:V) (σ:St) (H:Hp) (Q:(St→Hp→Prop)):xu i v σ H Q=(Q (σ.set i (some v)) H):=rfl
theorem aI (vs:List V) (σ:St) (H:Hp) (Q:(St→Hp→Prop)):cL  vs σ H Q=(vs=[]∧Q σ H):=rfl
theorem lF (t:TG) (u:TGs) (vs:List V) (σ:St) (H:Hp) (Q:(St→Hp→Prop)):Sz t u vs σ H Q=(∃ v r,vs=v :: r∧t v σ H fun σ' H'=>u r σ' H' Q):=rfl
theorem iH (K:PySem.W.Frag) (n:Nat) (t:TGs) (v:V) (σ:St) (H:Hp) (Q:(St→Hp→Prop)):QK K n t v σ H Q=(∃ a xs,v=.ref a∧SqT K H a xs∧xs.length=n∧t xs σ H Q):=rfl
theorem bH (te:TE) (g:TG) (D:Gi) (σ:St) (H:Hp):eL te g D σ H=(te σ H fun x H1=>g x σ H1 D.nx):=rfl
theorem RF (K:PySem.W.Frag) (tl:TE) (σ:St) (H:Hp) (R:(It→Hp→Prop)):nJ K tl σ H R=(tl σ H fun x H1=>∃ a,x=.ref a∧(∃ xs,SqL K H1 a xs)∧R (Itl K a) H1):=rfl
theorem BI (K:PySem.W.Frag) (tl:TE) (σ:St) (H:Hp) (R:(It→Hp→Prop)):RL K tl σ H R=(tl σ H fun x H1=>∃ a,x=.ref a∧(∃ xs,SqT K H1 a xs)∧R (Itt K a) H1):=rfl
theorem gJ (r:R2) (ta tb:TE) (σ:St) (H:Hp) (Q:VK):tOp r ta tb σ H Q=(ta σ H fun x H1=>tb σ H1 fun y H2=>r x y H2 Q):=rfl
theorem yL (C:Int→Int→Prop) (g:Int→Int→V) (x:V) (y:V) (H:Hp) (Q:VK):rI C g x y H Q=(∃ i j,x=.int i∧y=.int j∧C i j∧Q (g i j) H):=rfl
theorem HJ (g:Int→Int→V) (x:V) (y:V) (H:Hp) (Q:VK):rI0 g x y H Q=(∃ i j,x=.int i∧y=.int j∧Q (g i j) H):=rfl
theorem yK (x:V) (y:V) (H:Hp) (Q:VK):rEq  x y H Q=(EJ x y=true∧Q (.bl (decide (x=y))) H):=rfl
theorem rK (x:V) (y:V) (H:Hp) (Q:VK):rNe  x y H Q=(EJ x y=true∧Q (.bl (!decide (x=y))) H):=rfl
theorem VF (t:TE) (σ:St) (H:Hp) (Q:(Bool→Hp→Prop)):ZJ t σ H Q=(t σ H fun x H'=>∃ k,x=.bl k∧Q k H'):=rfl
theorem MI (K:PySem.W.Frag) (ta tv:TE) (f:Str) (D:Gi) (σ:St) (H:Hp):NL K ta tv f D σ H=(tv σ H fun y H1=>ta σ H1 fun x H2=>∃ a C dx fs,x=.ref a∧H2 a=some (.ins C dx fs)∧Cls K C∧Ib K C f∧fs.length < 1000 ∧
 D.nx σ (upd H2 a (.ins C dx (og f y fs)))):=rfl
theorem nz (K:PySem.W.Frag) (ta tv:TE) (rd:V→V→Hp→VK→Prop) (f:Str) (D:Gi) (σ:St) (H:Hp):mB K ta tv rd f D σ H=(ta σ H fun x H1=>∃ a C dx fs v,x=.ref a∧H1 a=some (.ins C dx fs)∧Cls K C∧Ib K C f∧fs.lookup f=some v ∧
 tv σ H1 fun y H2=>rd v y H2 fun z H3=>∃ dx' fs',H3 a=some (.ins C dx' fs')∧fs'.length < 1000∧D.nx σ (upd H3 a (.ins C dx' (og f z fs')))):=rfl
theorem GI (x:V) (y:V) (H:Hp) (Q:VK):oM  x y H Q=(∃ i j,x=.int i∧y=.int j∧Q (.int (i + j)) H):=rfl
theorem zH (x_0:St) (H:Hp) (Q:(List V→Hp→Prop)):iL  x_0 H Q=(Q [] H):=rfl
theorem GE (ta:TE) (tr:TA) (σ:St) (H:Hp) (Q:(List V→Hp→Prop)):MK ta tr σ H Q=(ta σ H fun x H1=>tr σ H1 fun xs H2=>Q (x :: xs) H2):=rfl
theorem zI (t:TA) (σ:St) (H:Hp) (Q:VK):XL t σ H Q=(t σ H fun xs H1=>xs.length ≤ sizeLine∧∀ p,H1 p=none→Q (.ref p) (upd H1 p (.tup xs))):=rfl
theorem CH (t:TA) (σ:St) (H:Hp) (Q:VK):pM t σ H Q=(t σ H fun xs H1=>xs.length ≤ sizeLine∧∀ p,H1 p=none→Q (.ref p) (upd H1 p (.lst xs))):=rfl
theorem QF (sp:Sp) (dvs:List V) (E:XK) (t:TA) (σ:St) (H:Hp) (Q:VK):HI sp dvs E t σ H Q=(t σ H fun vs H1=>sp (vs ++ dvs) H1 Q E):=rfl
theorem mF (C:Addr) (m:Str) (sp:Sp) (dvs:List V) (E:XK) (ta:TE) (t:TA) (σ:St) (H:Hp) (Q:VK):dH C m sp dvs E ta t σ H Q=(ta σ H fun x H1=>∃ a dx fs,x=.ref a∧H1 a=some (.ins C dx fs)∧fs.lookup m=none ∧
 t σ H1 fun vs H2=>sp (x :: (vs ++ dvs)) H2 Q E):=rfl
theorem kF (C:Addr) (sp:Sp) (dvs:List V) (E:XK) (t:TA) (σ:St) (H:Hp) (Q:VK):IJ C sp dvs E t σ H Q=(t σ H fun vs H1=>∀ x dx,H1 x=none→H1 dx=none→dx ≠ x →
 sp (.ref x :: (vs ++ dvs)) (upd (upd H1 dx (.own x)) x (.ins C dx [])) (fun v H2=>v=.non∧Q (.ref x) H2) E):=rfl
theorem ZK (r:List V→Hp→VK→Prop) (t:TA) (σ:St) (H:Hp) (Q:VK):tCB r t σ H Q=(t σ H fun vs H1=>r vs H1 Q):=rfl
theorem Dz (x_0:St) (H:Hp) (Q:(Option Int→Hp→Prop)):cB  x_0 H Q=(Q none H):=rfl
theorem JF (t:TE) (σ:St) (H:Hp) (Q:(Option Int→Hp→Prop)):cK t σ H Q=(t σ H fun x H1=>∃ i,x=.int i∧Q (some i) H1):=rfl
theorem SJ (r:V→Option Int→Option Int→Hp→VK→Prop) (te:TE) (tl th:TO) (σ:St) (H:Hp) (Q:VK):tSl r te tl th σ H Q=(te σ H fun x H1=>tl σ H1 fun l H2=>th σ H2 fun u H3=>r x l u H3 Q):=rfl
theorem JH (K:PySem.W.Frag) (x:V) (lo:Option Int) (hi:Option Int) (H:Hp) (Q:VK):eM K x lo hi H Q=(∃ a xs,x=.ref a∧SqT K H a xs ∧
 ¬ (HT.sIx xs.length 0 lo=0∧HT.sIx xs.length xs.length hi=xs.length)∧∀ p,H p=none→Q (.ref p) (upd H p (.tup (Jx xs lo hi)))):=rfl
theorem jI (K:PySem.W.Frag) (x:V) (y:V) (H:Hp) (Q:VK):nM K x y H Q=(∃ p xs i v,x=.ref p∧y=.int i∧SqL K H p xs∧atI xs i=some v∧Q v H):=rfl
theorem AH (K:PySem.W.Frag) (x:V) (y:V) (H:Hp) (Q:VK):OL K x y H Q=(∃ p xs i v,x=.ref p∧y=.int i∧SqT K H p xs∧atI xs i=some v∧Q v H):=rfl
theorem mI (x:V) (y:V) (H:Hp) (Q:VK):kM  x y H Q=(∃ z i c,x=.str z∧y=.int i∧z.length ≤ sizeLine∧atI z.cps.toList i=some c∧Q (.str ⟨#[c]⟩) H):=rfl
theorem UH (K:PySem.W.Frag) (x:V) (lo:Option Int) (hi:Option Int) (H:Hp) (Q:VK):dM K x lo hi H Q=(∃ a xs,x=.ref a∧SqL K H a xs∧∀ p,H p=none→Q (.ref p) (upd H p (.lst (Jx xs lo hi)))):=rfl
theorem sK (K:PySem.W.Frag) (neg:Bool) (x:V) (y:V) (H:Hp) (Q:VK):rIn K neg x y H Q=(∃ p xs,y=.ref p∧(SqL K H p xs∨SqT K H p xs)∧fk x=true∧xs.all fk=true∧Q (.bl (if neg then !inV x xs else inV x xs)) H):=rfl
theorem lJ (K:PySem.W.Frag) (T:String) (r:V→List V→Hp→VK→Prop) (to:TE) (t:TA) (σ:St) (H:Hp) (Q:VK):tBM K T r to t σ H Q=(to σ H fun x H1=>tyV K T x H1∧t σ H1 fun xs H2=>r x xs H2 Q):=rfl
theorem Uz (x:V) (vs:List V) (H:Hp) (Q:VK):jB  x vs H Q=(∃ l xs y,x=.ref l∧vs=[y]∧H l=some (.lst xs)∧xs.length < sizeLine∧Q .non (upd H l (.lst (xs ++ [y])))):=rfl
theorem Yz (x:V) (vs:List V) (H:Hp) (Q:VK):aB  x vs H Q=(∃ l b xs zs,x=.ref l∧vs=[.ref b]∧H l=some (.lst xs)∧H b=some (.lst zs)∧xs.length + zs.length ≤ sizeLine∧Q .non (upd H l (.lst (xs ++ zs)))):=rfl
theorem rC (x:V) (vs:List V) (H:Hp) (Q:VK):ZG  x vs H Q=(∃ l xs i k y,x=.ref l∧vs=[.int i]∧H l=some (.lst xs)∧-(2 ^ 63) ≤ i∧i < 2 ^ 63∧seqIndex? i xs.length=some k∧xs[k]? = some y∧Q y (upd H l (.lst (xs.eraseIdx k)))):=rfl
theorem UD (td ty:TE) (σ:St) (H:Hp) (Q:VK):YJ td ty σ H Q=(td σ H fun x H1=>ty σ H1 fun y H2=>∃ a v,x=.ref a∧Su H2 a y (some v)∧Q v H2):=rfl
theorem Pz (ty td:TE) (σ:St) (H:Hp) (Q:VK):WA ty td σ H Q=(ty σ H fun y H1=>td σ H1 fun x H2=>∃ a o,x=.ref a∧Su H2 a y o∧Q (.bl (!o.isSome)) H2):=rfl
theorem ME (td ty tv:TE) (D:Gi) (σ:St) (H:Hp):zK td ty tv D σ H=(tv σ H fun v H1=>td σ H1 fun x H2=>ty σ H2 fun y H3=>∃ a H4,x=.ref a∧AD H3 a y v H4∧D.nx σ H4):=rfl
theorem PB (x_0:St) (H:Hp) (Q:VK):RG  x_0 H Q=(∀ p,H p=none→Q (.ref p) (upd H p (.dK []))):=rfl
theorem dB (x_0:St) (H:Hp) (Q:VK):XG  x_0 H Q=(∀ p,H p=none→Q (.ref p) (upd H p (.dT []))):=rfl
theorem fF (x_0:St) (H:Hp) (Q:(Bool→Hp→Prop)):Nw  x_0 H Q=(Q true H):=rfl
theorem OH (tl:TE) (σ:St) (H:Hp) (R:(It→Hp→Prop)):jM tl σ H R=(tl σ H fun x H1=>∃ z,x=.str z∧R (Its (fj z)) H1):=rfl
theorem qI (x:V) (lo:Option Int) (hi:Option Int) (H:Hp) (Q:VK):bM  x lo hi H Q=(∃ z,x=.str z∧z.length ≤ sizeLine∧Q (.str (Txt.slice z lo hi)) H):=rfl
theorem aF (K:PySem.W.Frag) (x:V) (vs:List V) (H:Hp) (Q:VK):bL K x vs H Q=(∃ sep p ys,x=.str sep∧vs=[.ref p]∧SqL K H p (wb ys)∧(ys.map (·.length)).sum + ys.length * sep.length ≤ 16777216∧Q (.str (Txt.join sep ys)) H):=rfl
theorem wC (x:V) (vs:List V) (H:Hp) (Q:VK):wG  x vs H Q=(∃ z y,x=.str z∧vs=[.str y]∧y.length ≠ 0∧z.length + 2 ≤ sizeLine∧(Txt.split z y).length ≤ sizeLine∧∀ p,H p=none→Q (.ref p) (upd H p (.lst (wb (Txt.split z y))))):=rfl
theorem YB (OK:Addr→Prop) (m:Str) (SPV:Addr→Sp) (E:XK) (ta:TE) (t:TA) (σ:St) (H:Hp) (Q:VK):hG OK m SPV E ta t σ H Q=(ta σ H fun x H1=>∃ a C dx fs,x=.ref a∧H1 a=some (.ins C dx fs)∧OK C∧fs.lookup m=none ∧
 t σ H1 fun vs H2=>SPV C (x :: vs) H2 Q E):=rfl
theorem ZD (K:PySem.W.Frag) (ta:TA) (σ:St) (H:Hp) (R:(It→Hp→Prop)):BJ K ta σ H R=(ta σ H fun vs H1=>∃ a,vs=[.ref a]∧(∃ xs,SqL K H1 a xs)∧R (Ite K a) H1):=rfl
theorem xz (x:V) (vs:List V) (H:Hp) (Q:VK):lD  x vs H Q=(∃ l xs i y,x=.ref l∧vs=[.int i,y]∧H l=some (.lst xs)∧0 ≤ i∧i < 2 ^ 62∧i ≤ (xs.length:Int)∧xs.length < sizeLine∧Q .non (upd H l (.lst (xs.take i.toNat ++ y :: xs.drop i.toNat)))):=rfl
theorem dI (K:PySem.W.Frag) (x:V) (y:V) (H:Hp) (Q:VK):aM K x y H Q=(∃ p q b,x=.ref p∧y=.ref q∧EqH K H 8 (.ref p) (.ref q) b∧Q (.bl (!b)) H):=rfl
theorem NK (x_0:St) (H:Hp) (Q:(Hp→Prop)):tJ0  x_0 H Q=(Q H):=rfl
theorem tJ (te:TE) (t:TJ) (σ:St) (H:Hp) (Q:(Hp→Prop)):tJI te t σ H Q=(te σ H fun v H1=>∃ i,v=.int i∧i.natAbs.log2 < 1920∧t σ H1 Q):=rfl
theorem pJ (te:TE) (t:TJ) (σ:St) (H:Hp) (Q:(Hp→Prop)):tJR te t σ H Q=(te σ H fun v H1=>∃ x,v=.str x∧x.length ≤ 1000∧(∀ c ∈ x.cps.toList,c < 16 ^ 8)∧t σ H1 Q):=rfl
theorem az (t:TJ) (σ:St) (H:Hp) (Q:VK):rD t σ H Q=(t σ H fun H1=>∀ y:Str,Q (.str y) H1):=rfl
theorem LA (K:PySem.W.Frag) (t:TA) (σ:St) (H:Hp) (Q:VK):dG K t σ H Q=(t σ H fun vs H1=>∃ x C od v,vs=[.ref x,v]∧H1 x=some (.ext (XF x C od))∧gu K C∧Q .non H1):=rfl
theorem CA (C:Addr) (sp:Sp) (t:TA) (σ:St) (H:Hp) (Q:VK):xG C sp t σ H Q=(t σ H fun vs H1=>vs.length ≤ sizeLine∧∀ x,H1 x=none→sp (.ref x :: vs) (upd H1 x (.ext (XF x C none))) (fun v H2=>v=.non∧Q (.ref x) H2) (fun _ _ _=>False)):=rfl
theorem vA (K:PySem.W.Frag) (ta tv:TE) (f:Str) (D:Gi) (σ:St) (H:Hp):GG K ta tv f D σ H=(tv σ H fun y H1=>ta σ H1 fun x H2=>∃ a C,x=.ref a∧H2 a=some (.ext (XF a C none))∧gu K C∧Ib K C f ∧
 ∀ dx,H2 dx=none→dx ≠ a→D.nx σ (upd (upd H2 a (.ext (XF a C (some dx)))) dx (.ext (XD dx [(f,y)])))):=rfl
theorem GA (K:PySem.W.Frag) (ta tv:TE) (f:Str) (D:Gi) (σ:St) (H:Hp):nG K ta tv f D σ H=(tv σ H fun y H1=>ta σ H1 fun x H2=>∃ a C dx fs,x=.ref a∧H2 a=some (.ext (XF a C (some dx)))∧H2 dx=some (.ext (XD dx fs))∧gu K C∧Ib K C f∧fs.length < 1000 ∧
 D.nx σ (upd H2 dx (.ext (XD dx (og f y fs))))):=rfl
theorem vB (K:PySem.W.Frag) (E:St→XK) (te:TE) (D:Gi) (σ:St) (H:Hp):qG K E te D σ H=(te σ H fun v H1=>∃ x C od,v=.ref x∧H1 x=some (.ext (XF x C od))∧gu K C∧E σ (.ref C) od (upd H1 x (.ext (XA x C od)))):=rfl
theorem KF (x:V) (vs:List V) (H:Hp) (Q:VK):Br  x vs H Q=(∃ d kvs,x=.ref d∧vs=[]∧H d=some (.dK kvs)∧∀ p,H p=none→Q (.ref p) (upd H p (.ext (vJ p d)))):=rfl
theorem UE (P:Program) (w:World) (td ty tv:TE) (D:Gi) (σ:St) (H:Hp):UJ P w td ty tv D σ H=(tv σ H fun v H1=>td σ H1 fun x H2=>ty σ H2 fun y H3=>∃ a b kvs k,x=.ref a∧y=.ref b∧Ur P w H3 a kvs∧H3 b=some (.tup (k.map kV))∧kvs.length < sizeLine∧∀ o,Ur P w (upd H3 a (.ext (AtO a o))) a (Cn kvs k v)→D.nx σ (upd H3 a (.ext (AtO a o)))):=rfl
theorem TD (P:Program) (w:World) (x_0:St) (H:Hp) (Q:VK):JK P w x_0 H Q=(∀ p o,H p=none→Ur P w (upd H p (.ext (AtO p o))) p []→Q (.ref p) (upd H p (.ext (AtO p o)))):=rfl
noncomputable def kj (J:It) (g:TG) (tb:TS) (D:Gi) (σ:St) (H:Hp):Prop:=∃ W:Nat→Nat→St→Hp→Prop,(∃ m,W 0 m σ H)∧∀ i m σ H,W i m σ H →
 (J.stop i H∧D.nx σ H)∨(J.go i H∧∃ N:St→Hp→Prop,(∀ σ' H',N σ' H'→∃ m',m' < m∧W (i + 1) m' σ' H')∧∀ x H',J.yld i H x H'→g x σ H' fun σ2 H2=>tb { D with nx:=N,ct:=N,bk:=D.nx } σ2 H2)
theorem DH (wi:TI) (g:TG) (tb:TS) (D:Gi) (σ:St) (H:Hp):QL wi g tb D σ H=wi σ H fun J H1=>kj J g tb D σ H1:=rfl
noncomputable def Xc (J:It) (g:TG) (tc:TT) (te:TE) (σb:St) (Q:VK) (H:Hp):Prop:=∃ W:Nat→Nat→List V→Hp→Prop,(∃ m,W 0 m [] H)∧yx J g tc te σb Q W
theorem SI (K:PySem.W.Frag) (ta:TE) (f:Str) (σ:St) (H:Hp) (Q:VK):pL K ta f σ H Q=(ta σ H fun x H1=>∃ a v,x=.ref a∧Oi K H1 a f v∧Q v H1):=by
 unfold pL Oi
 congr 1
 funext x H1
 apply propext
 constructor
 ·rintro ⟨a,C,dx,fs,v,h1,h2,h3,h4,h5,h6⟩;exact ⟨a,v,h1,⟨C,dx,fs,h2,h3,h4,h5⟩,h6⟩
 ·rintro ⟨a,v,h1,⟨C,dx,fs,h2,h3,h4,h5⟩,h6⟩;exact ⟨a,C,dx,fs,v,h1,h2,h3,h4,h5,h6⟩
theorem DE (wi:TI) (g:TG) (tc:TT) (te:TE) (sel:List (Option Nat)) (σ:St) (H:Hp) (Q:VK):mH wi g tc te sel σ H Q=wi σ H fun J H1=>Xc J g tc te (blk sel σ) Q H1:=rfl
theorem GF (ta:TA) (σ:St) (H:Hp) (R:It→Hp→Prop):fK ta σ H R=(ta σ H fun vs H1=>∃ j:Int,vs=[.int j]∧-4611686018427387904 ≤ j∧j < 4611686018427387904∧R (Itr 0 j.toNat) H1):=rfl
theorem KH (sel:List (Option Nat)) (σ:St):blk sel σ=sel.map fun o=>o.bind fun j=>(σ[j]?).join:=rfl
theorem ic {c:TT} {t u:TS} {D:Gi} {σ:St} {H:Hp} (b:Bool) (hc:∀ Q:Bool→Hp→Prop,Q b H→c σ H Q) (h1:b=true→t D σ H) (h2:b=false→u D σ H):zL c t u D σ H:=by
 refine hc _ ?_
 cases b with
 | true=>exact h1 rfl
 | false=>exact h2 rfl
theorem Ay {c:TT} {t u:TS} {D:Gi} {σ:St} {H:Hp} (R:Bool→Hp→Prop) (hc:∀ Q:Bool→Hp→Prop,(∀ b H',R b H'→Q b H')→c σ H Q) (h1:∀ H',R true H'→t D σ H') (h2:∀ H',R false H'→u D σ H'):zL c t u D σ H:=by
 refine hc _ fun b H' r=>?_
 cases b with
 | true=>exact h1 H' r
 | false=>exact h2 H' r
theorem Rb {t:TS} {D:Gi} {σ:St} {H:Hp} (R:St→Hp→Prop) (h:∀ D':Gi,(∀ σ H,R σ H→D'.nx σ H)→D'.rt=D.rt→D'.bk=D.bk→D'.ct=D.ct→t D' σ H) (hR:∀ σ H,R σ H→D.nx σ H):t D σ H:=h D hR rfl rfl rfl
theorem zzC {t:TS} {D:Gi} {σ:St} {H:Hp} (R:St->Hp->Prop) (h:∀ D':Gi,(∀ σ H,R σ H->D'.nx σ H)->t D' σ H) (hR:∀ M,M=D.nx->∀ σ H,R σ H->M σ H):t D σ H:=h D (hR _ rfl)
theorem zzD {t:TS} {D:Gi} {σ:St} {H:Hp} (R:St->Hp->Prop) (h:∀ D':Gi,(∀ σ H,R σ H->D'.nx σ H)->t D' σ H) (hR:∀ σ H,R σ H->D.nx σ H):t D σ H:=h D hR
theorem oI {te:TE} {D:Gi} {σ:St} {H:Hp} (v:V) (hc:∀ Q:VK,Q v H→te σ H Q) (h:D.rt v H):GL te D σ H:=hc _ h
theorem Rh (x y:Str):(x ++ y).length=x.length + y.length:=by
 show (x.cps ++ y.cps).size=_
 rw [Array.size_append];rfl
theorem kj.range {lo:Int} {n:Nat} {g:TG} {tb:TS} {D:Gi} {σ:St} {H:Hp} (Pv:Nat→St→Hp→Prop) (h0:Pv 0 σ H)
  (hs:∀ i σ H,i < n→Pv i σ H→g (.int (lo + i)) σ H fun σ2 H2=>tb { D with nx:=Pv (i + 1),ct:=Pv (i + 1),bk:=D.nx } σ2 H2) (hd:∀ σ H,Pv n σ H→D.nx σ H):kj (Itr lo n) g tb D σ H:=aC Pv h0 hs hd
theorem kj.list {K:PySem.W.Frag} {a:Addr} {xs:List V} {g:TG} {tb:TS} {D:Gi} {σ:St} {H:Hp} (Pv:Nat→St→Hp→Prop) (h0:Pv 0 σ H) (hl:∀ i σ H,i ≤ xs.length→Pv i σ H→SqL K H a xs)
  (hs:∀ i x σ H,xs[i]? = some x→Pv i σ H→g x σ H fun σ2 H2=>tb { D with nx:=Pv (i + 1),ct:=Pv (i + 1),bk:=D.nx } σ2 H2) (hd:∀ σ H,Pv xs.length σ H→D.nx σ H):kj (Itl K a) g tb D σ H:=wE Pv h0 hl hs hd
theorem kj.its {xs:List V} {g:TG} {tb:TS} {D:Gi} {σ:St} {H:Hp} (Pv:Nat→St→Hp→Prop) (h0:Pv 0 σ H)
  (hs:∀ i x σ H,xs[i]? = some x→Pv i σ H→g x σ H fun σ2 H2=>tb { D with nx:=Pv (i + 1),ct:=Pv (i + 1),bk:=D.nx } σ2 H2) (hd:∀ σ H,Pv xs.length σ H→D.nx σ H):kj (Its xs) g tb D σ H:=IH Pv h0 hs hd
theorem Xc.list {K:PySem.W.Frag} {a:Addr} {xs:List V} {g:TG} {tc:TT} {te:TE} {σb:St} {Q:VK} {H:Hp} (Pv:Nat→List V→Hp→Prop) (hz:xs.length ≤ sizeLine) (h0:Pv 0 [] H) (hl:∀ i ys H,i ≤ xs.length→Pv i ys H→SqL K H a xs∧ys.length ≤ i)
  (hs:∀ i x ys H,xs[i]? = some x→Pv i ys H→Ig Pv g tc te σb i x ys H) (hd:∀ ys H,Pv xs.length ys H→∀ p,H p=none→Q (.ref p) (upd H p (.lst ys))):Xc (Itl K a) g tc te σb Q H:=BC Pv hz h0 hl hs hd
theorem Xc.its {xs:List V} {g:TG} {tc:TT} {te:TE} {σb:St} {Q:VK} {H:Hp} (Pv:Nat→List V→Hp→Prop) (hz:xs.length ≤ sizeLine) (h0:Pv 0 [] H) (hl:∀ i ys H,i ≤ xs.length→Pv i ys H→ys.length ≤ i)
  (hs:∀ i x ys H,xs[i]? = some x→Pv i ys H→Ig Pv g tc te σb i x ys H) (hd:∀ ys H,Pv xs.length ys H→∀ p,H p=none→Q (.ref p) (upd H p (.lst ys))):Xc (Its xs) g tc te σb Q H:=jF Pv hz h0 hl hs hd
theorem Xc.range {lo:Int} {n:Nat} {g:TG} {tc:TT} {te:TE} {σb:St} {Q:VK} {H:Hp} (Pv:Nat→List V→Hp→Prop) (hz:n ≤ sizeLine) (h0:Pv 0 [] H) (hl:∀ i ys H,i ≤ n→Pv i ys H→ys.length ≤ i)
  (hs:∀ i ys H,i < n→Pv i ys H→Ig Pv g tc te σb i (.int (lo + i)) ys H) (hd:∀ ys H,Pv n ys H→∀ p,H p=none→Q (.ref p) (upd H p (.lst ys))):Xc (Itr lo n) g tc te σb Q H:=Cz Pv hz h0 hl hs hd
theorem Zs {α β:Type} {xs:List α} {i:Nat} {x:α} (f:α→β) (h:xs[i]? = some x):(xs.take (i + 1)).map f=(xs.take i).map f ++ [f x]:=by
 rw [List.take_add_one,h,List.map_append];rfl
theorem Xc.its_map {xs:List V} {g:TG} {te:TE} {σb:St} {Q:VK} {H:Hp} (f:V→V) (hz:xs.length ≤ sizeLine) (hs:∀ (i:Nat) (x:V) (N:V→Hp→Prop),xs[i]? = some x→N (f x) H→g x σb H fun σ2 H2=>Sub σb σ2∧te σ2 H2 N)
  (hd:∀ p,H p=none→Q (.ref p) (upd H p (.lst (xs.map f)))):Xc (Its xs) g Nw te σb Q H:=by
 refine Xc.its (fun i ys H'=>H'=H∧ys=(xs.take i).map f) hz ⟨rfl,rfl⟩ (fun i ys H' hi ⟨_,e⟩=>?_) (fun i x ys H' hx ⟨e1,e2⟩ N hN=>?_) (fun ys H' ⟨e1,e2⟩ p hp=>?_)
 ·rw [e,List.length_map,List.length_take];omega
 ·subst e1
  exact hs i x (fun y H4=>N (ys ++ [y]) H4) hx (hN _ _ ⟨rfl,by rw [e2,Zs f hx]⟩)
 ·subst e1
  rw [e2,List.take_length]
  exact hd p hp
theorem Xc.range_map {lo:Int} {n:Nat} {g:TG} {te:TE} {σb:St} {Q:VK} {H:Hp} (f:Nat→V) (hz:n ≤ sizeLine) (hs:∀ (i:Nat) (N:V→Hp→Prop),i < n→N (f i) H→g (.int (lo + i)) σb H fun σ2 H2=>Sub σb σ2∧te σ2 H2 N)
  (hd:∀ p,H p=none→Q (.ref p) (upd H p (.lst ((List.range n).map f)))):Xc (Itr lo n) g Nw te σb Q H:=by
 refine Xc.range (fun i ys H'=>H'=H∧ys=(List.range i).map f) hz ⟨rfl,rfl⟩ (fun i ys H' hi ⟨_,e⟩=>?_) (fun i ys H' hi ⟨e1,e2⟩ N hN=>?_) (fun ys H' ⟨e1,e2⟩ p hp=>?_)
 ·rw [e,List.length_map,List.length_range];exact Nat.le_refl _
 ·subst e1
  exact hs i (fun y H4=>N (ys ++ [y]) H4) hi (hN _ _ ⟨rfl,by rw [e2,List.range_succ,List.map_append];rfl⟩)
 ·subst e1
  rw [e2]
  exact hd p hp
theorem Xc.list_mk {K:PySem.W.Frag} {a:Addr} {xs:List V} {g:TG} {te:TE} {σb:St} {Q:VK} {H:Hp} (f:V→HO) (hl:SqL K H a xs) (hz:xs.length ≤ sizeLine) (hn:∀ x,noT (f x)=true)
  (hs:∀ (i:Nat) (x:V) (H1:Hp) (N:V→Hp→Prop),xs[i]? = some x→ac H H1→(NoT H→NoT H1)→(∀ q,H1 q=none→N (.ref q) (upd H1 q (f x)))→g x σb H1 fun σ2 H2=>Sub σb σ2∧te σ2 H2 N)
  (hd:∀ (qs:List Addr) (H1:Hp),ac H H1→(NoT H→NoT H1)→qs.length=xs.length→(∀ (j:Nat) (q:Addr) (x:V),qs[j]? = some q→xs[j]? = some x→H1 q=some (f x)∧H q=none)→∀ p,H1 p=none→Q (.ref p) (upd H1 p (.lst (qs.map V.ref)))):Xc (Itl K a) g Nw te σb Q H:=by
 refine Xc.list (fun i ys H'=>∃ qs:List Addr,ys=qs.map V.ref∧qs.length=i∧ac H H'∧(NoT H→NoT H')∧∀ (j:Nat) (q:Addr) (x:V),qs[j]? = some q→xs[j]? = some x→H' q=some (f x)∧H q=none) hz
  ⟨[],rfl,rfl,ac.refl H,id,fun j q x h _=>by simp at h⟩ ?_ ?_ ?_
 ·rintro i ys H' hi ⟨qs,e,e2,sm,_,_⟩
  exact ⟨hl.same sm,by rw [e,List.length_map];omega⟩
 ·rintro i x ys H' hx ⟨qs,e1,e2,sm,nt,al⟩ N hN
  refine hs i x H' (fun y H4=>N (ys ++ [y]) H4) hx sm nt fun q hq=>hN _ _ ⟨qs ++ [q],by rw [e1,List.map_append];rfl,by rw [List.length_append,e2];rfl,sm.updN (sm.free hq),fun n=>(nt n).upd (hn x),fun j q' x' h1 h2=>?_⟩
  by_cases hj:j < qs.length
  ·rw [List.getElem?_append_left hj] at h1
   obtain ⟨z1,z2⟩:=al j q' x' h1 h2
   exact ⟨by rw [lb (vb z1 hq)];exact z1,z2⟩
  ·rw [List.getElem?_append_right (by omega)] at h1
   have hj0:j - qs.length=0:=by
    cases hh:j - qs.length with
    | zero=>rfl
    | succ n=>rw [hh] at h1;simp at h1
   rw [hj0] at h1
   have e3:q=q':=by simpa using h1
   subst e3
   have e4:j=i:=by omega
   subst e4
   rw [hx] at h2
   cases h2
   exact ⟨db,sm.free hq⟩
 ·rintro ys H' ⟨qs,e1,e2,sm,nt,al⟩ p hp
  subst e1
  exact hd qs H' sm nt e2 al p hp
theorem kj.of {J:It} {n:Nat} {g:TG} {tb:TS} {D:Gi} {σ:St} {H:Hp} (Pv:Nat→St→Hp→Prop) (h0:Pv 0 σ H) (hgo:∀ i σ H,i < n→Pv i σ H→J.go i H) (hst:∀ σ H,Pv n σ H→J.stop n H)
  (hs:∀ i σ H x H',i < n→Pv i σ H→J.yld i H x H'→g x σ H' fun σ2 H2=>tb { D with nx:=Pv (i + 1),ct:=Pv (i + 1),bk:=D.nx } σ2 H2) (hd:∀ σ H,Pv n σ H→D.nx σ H):kj J g tb D σ H:=by
 refine ⟨fun i m σ H=>m=n - i∧i ≤ n∧Pv i σ H,⟨n,by simp,Nat.zero_le _,h0⟩,?_⟩
 rintro i m σ H ⟨rfl,hi,p⟩
 by_cases hlt:i < n
 ·exact .inr ⟨hgo i σ H hlt p,Pv (i + 1),fun σ' H' p'=>⟨n - (i + 1),by omega,rfl,hlt,p'⟩,fun x H' y=>hs i σ H x H' hlt p y⟩
 ·have e:i=n:=by omega
  subst e
  exact .inl ⟨hst σ H p,hd σ H p⟩
theorem Xc.of {J:It} {n:Nat} {g:TG} {tc:TT} {te:TE} {σb:St} {Q:VK} {H:Hp} (Pv:Nat→List V→Hp→Prop) (hz:n ≤ sizeLine) (h0:Pv 0 [] H) (hgo:∀ i ys H,i < n→Pv i ys H→J.go i H) (hst:∀ ys H,Pv n ys H→J.stop n H) (hl:∀ i ys H,i < n→Pv i ys H→ys.length ≤ i)
  (hs:∀ i ys H x H',i < n→Pv i ys H→J.yld i H x H'→Ig Pv g tc te σb i x ys H') (hd:∀ ys H,Pv n ys H→∀ p,H p=none→Q (.ref p) (upd H p (.lst ys))):Xc J g tc te σb Q H:=by
 refine ⟨fun i m ys H=>m=n - i∧i ≤ n∧Pv i ys H,⟨n,by simp,Nat.zero_le _,h0⟩,?_⟩
 rintro i m ys H ⟨rfl,hi,p⟩
 by_cases hlt:i < n
 ·have hyl:=hl i ys H hlt p
  refine .inr ⟨hgo i ys H hlt p,by omega,fun x H' y=>?_⟩
  exact hs i ys H x H' hlt p y (fun ys' H'=>∃ m',m' < n - i∧m'=n - (i + 1)∧i + 1 ≤ n∧Pv (i + 1) ys' H') fun ys' H' r=>⟨n - (i + 1),by omega,rfl,hlt,r⟩
 ·have e:i=n:=by omega
  subst e
  exact .inl ⟨hst ys H p,hd ys H p⟩
section
variable {K:PySem.W.Frag} {a b:Addr} {xs ys:List V} {g:TG} {tb:TS} {D:Gi} {σ σb:St} {H:Hp} {tc:TT} {te:TE} {Q:VK}
theorem kj.enum (Pv:Nat→St→Hp→Prop) (h0:Pv 0 σ H) (hl:∀ i σ H,i ≤ xs.length→Pv i σ H→SqL K H a xs)
  (hs:∀ i x σ H p,xs[i]? = some x→Pv i σ H→H p=none→g (.ref p) σ (upd H p (.tup [.int i,x])) fun σ2 H2=>tb { D with nx:=Pv (i + 1),ct:=Pv (i + 1),bk:=D.nx } σ2 H2) (hd:∀ σ H,Pv xs.length σ H→D.nx σ H):kj (Ite K a) g tb D σ H:=by
 refine kj.of (n:=xs.length) Pv h0 (fun i σ H hi p=>⟨xs,xs[i],hl i σ H (Nat.le_of_lt hi) p,by simp [hi]⟩) (fun σ H p=>⟨xs,hl _ σ H (Nat.le_refl _) p,Nat.le_refl _⟩) (fun i σ H v H' hi p y=>?_) hd
 obtain ⟨q,x,hq,rfl,hx,rfl⟩:=y
 exact hs i x σ H q (hx xs (hl i σ H (Nat.le_of_lt hi) p)) p hq
theorem kj.zip (Pv:Nat→St→Hp→Prop) (h0:Pv 0 σ H) (hl:∀ i σ H,i ≤ xs.length→Pv i σ H→SqL K H a xs∧SqL K H b ys) (n:Nat) (hn:n=min xs.length ys.length)
  (hs:∀ i x y σ H p,xs[i]? = some x→ys[i]? = some y→Pv i σ H→H p=none→g (.ref p) σ (upd H p (.tup [x,y])) fun σ2 H2=>tb { D with nx:=Pv (i + 1),ct:=Pv (i + 1),bk:=D.nx } σ2 H2) (hd:∀ σ H,Pv n σ H→D.nx σ H):kj (Itz K a b) g tb D σ H:=by
 subst hn
 refine kj.of (n:=min xs.length ys.length) Pv h0 (fun i σ H hi p=>?_) (fun σ H p=>?_) (fun i σ H v H' hi p y=>?_) hd
 ·obtain ⟨z1,z2⟩:=hl i σ H (by omega) p
  exact ⟨xs,ys,xs[i],ys[i],z1,z2,by rw [List.getElem?_eq_getElem (by omega)],by rw [List.getElem?_eq_getElem (by omega)]⟩
 ·obtain ⟨z1,z2⟩:=hl _ σ H (by omega) p
  exact ⟨xs,ys,z1,z2,by omega⟩
 ·obtain ⟨q,x,y,hq,rfl,hx,hy,rfl⟩:=y
  obtain ⟨z1,z2⟩:=hl i σ H (by omega) p
  exact hs i x y σ H q (hx xs z1) (hy ys z2) p hq
theorem Xc.enum (Pv:Nat→List V→Hp→Prop) (hz:xs.length ≤ sizeLine) (h0:Pv 0 [] H) (hl:∀ i ys H,i ≤ xs.length→Pv i ys H→SqL K H a xs∧ys.length ≤ i)
  (hs:∀ i x ys H p,xs[i]? = some x→Pv i ys H→H p=none→Ig Pv g tc te σb i (.ref p) ys (upd H p (.tup [.int i,x]))) (hd:∀ ys H,Pv xs.length ys H→∀ p,H p=none→Q (.ref p) (upd H p (.lst ys))):Xc (Ite K a) g tc te σb Q H:=by
 refine Xc.of (n:=xs.length) Pv hz h0 (fun i ys H hi p=>⟨xs,xs[i],(hl i ys H (Nat.le_of_lt hi) p).1,by simp [hi]⟩) (fun ys H p=>⟨xs,(hl _ ys H (Nat.le_refl _) p).1,Nat.le_refl _⟩) (fun i ys H hi p=>(hl i ys H (Nat.le_of_lt hi) p).2) (fun i zs H v H' hi p y=>?_) hd
 obtain ⟨q,x,hq,rfl,hx,rfl⟩:=y
 exact hs i x zs H q (hx xs (hl i zs H (Nat.le_of_lt hi) p).1) p hq
theorem wF {i j:Nat} {p:Addr} {x y:V} {R:St→Hp→Prop} (h:SqT K H p [x,y]) (q:R ((σ.set i (some x)).set j (some y)) H):QK K 2 (Sz (xu i) (Sz (xu j) cL)) (.ref p) σ H R:=
 ⟨p,_,rfl,h,rfl,x,_,rfl,y,_,rfl,rfl,q⟩
theorem Nm {i j:Nat} {p:Addr} {x y:V} {R:St→Hp→Prop} (q:R ((σ.set i (some x)).set j (some y)) (upd H p (.tup [x,y]))):QK K 2 (Sz (xu i) (Sz (xu j) cL)) (.ref p) σ (upd H p (.tup [x,y])) R:=
 wF (.inl (.inl db)) q
end
theorem Sub.name2 {r:St} {v w:Option V}:Sub (none :: none :: r) (v :: w :: r):=by
 refine ⟨rfl,fun i u h=>?_⟩
 match i with
 | 0=>cases h
 | 1=>cases h
 | i + 2=>exact h
theorem Sub.name3 {r:St} {v w z:Option V}:Sub (none :: none :: none :: r) (v :: w :: z :: r):=by
 refine ⟨rfl,fun i u h=>?_⟩
 match i with
 | 0=>cases h
 | 1=>cases h
 | 2=>cases h
 | i + 3=>exact h
theorem Xc.list_zs {K:PySem.W.Frag} {a:Addr} {xs zs:List V} {g:TG} {te:TE} {σb:St} {Q:VK} {H:Hp} (hl:SqL K H a xs) (hz:xs.length ≤ sizeLine) (he:zs.length=xs.length)
  (hs:∀ (i:Nat) (x z:V) (N:V→Hp→Prop),xs[i]? = some x→zs[i]? = some z→N z H→g x σb H fun σ2 H2=>Sub σb σ2∧te σ2 H2 N) (hd:∀ p,H p=none→Q (.ref p) (upd H p (.lst zs))):Xc (Itl K a) g Nw te σb Q H:=by
 refine Xc.list (fun i ys H'=>H'=H∧ys=zs.take i) hz ⟨rfl,rfl⟩ (fun i ys H' hi ⟨e0,e⟩=>?_) (fun i x ys H' hx ⟨e1,e2⟩ N hN=>?_) (fun ys H' ⟨e1,e2⟩ p hp=>?_)
 ·subst e0
  exact ⟨hl,by rw [e,List.length_take];omega⟩
 ·subst e1
  have hi:i < zs.length:=by rw [he];exact (List.getElem?_eq_some_iff.mp hx).1
  have hz':zs[i]? = some zs[i]:=List.getElem?_eq_getElem hi
  exact hs i x zs[i] (fun y H4=>N (ys ++ [y]) H4) hx hz' (hN _ _ ⟨rfl,by rw [e2,List.take_add_one,hz'];rfl⟩)
 ·subst e1
  rw [e2,← he,List.take_length]
  exact hd p hp
theorem Xc.tup_zs {K:PySem.W.Frag} {a:Addr} {xs zs:List V} {g:TG} {te:TE} {σb:St} {Q:VK} {H:Hp} (hl:SqT K H a xs) (hz:xs.length ≤ sizeLine) (he:zs.length=xs.length)
  (hs:∀ (i:Nat) (x z:V) (N:V→Hp→Prop),xs[i]? = some x→zs[i]? = some z→N z H→g x σb H fun σ2 H2=>Sub σb σ2∧te σ2 H2 N) (hd:∀ p,H p=none→Q (.ref p) (upd H p (.lst zs))):Xc (Itt K a) g Nw te σb Q H:=by
 refine yF (xs:=xs) (fun i ys H'=>H'=H∧ys=zs.take i) hz ⟨rfl,rfl⟩ (fun i ys H' hi ⟨e0,e⟩=>?_) (fun i x ys H' hx ⟨e1,e2⟩ N hN=>?_) (fun ys H' ⟨e1,e2⟩ p hp=>?_)
 ·subst e0
  exact ⟨hl,by rw [e,List.length_take];omega⟩
 ·subst e1
  have hi:i < zs.length:=by rw [he];exact (List.getElem?_eq_some_iff.mp hx).1
  have hz':zs[i]? = some zs[i]:=List.getElem?_eq_getElem hi
  exact hs i x zs[i] (fun y H4=>N (ys ++ [y]) H4) hx hz' (hN _ _ ⟨rfl,by rw [e2,List.take_add_one,hz'];rfl⟩)
 ·subst e1
  rw [e2,← he,List.take_length]
  exact hd p hp
theorem Xc.list_sel {K:PySem.W.Frag} {a:Addr} {xs:List V} {ss:List (Option V)} {g:TG} {tc:TT} {te:TE} {σb:St} {Q:VK} {H:Hp} (hl:SqL K H a xs) (hz:xs.length ≤ sizeLine) (he:ss.length=xs.length)
  (hs:∀ (i:Nat) (x:V) (o:Option V) (ys:List V) (N:List V→Hp→Prop),xs[i]? = some x→ss[i]? = some o→N (ys ++ o.toList) H→g x σb H fun σ2 H2=>Sub σb σ2∧tc σ2 H2 fun c H3=>if c=true then te σ2 H3 fun y H4=>N (ys ++ [y]) H4 else N ys H3)
  (hd:∀ p,H p=none→Q (.ref p) (upd H p (.lst (ss.flatMap Option.toList)))):Xc (Itl K a) g tc te σb Q H:=by
 refine Xc.list (fun i ys H'=>H'=H∧ys=(ss.take i).flatMap Option.toList∧ys.length ≤ i) hz ⟨rfl,rfl,Nat.le_refl _⟩ (fun i ys H' hi ⟨e0,e,e'⟩=>?_) (fun i x ys H' hx ⟨e1,e2,e3⟩ N hN=>?_) (fun ys H' ⟨e1,e2,_⟩ p hp=>?_)
 ·subst e0
  exact ⟨hl,e'⟩
 ·subst e1
  have hi:i < ss.length:=by rw [he];exact (List.getElem?_eq_some_iff.mp hx).1
  have hz':ss[i]? = some ss[i]:=List.getElem?_eq_getElem hi
  refine hs i x ss[i] ys N hx hz' (hN _ _ ⟨rfl,by rw [e2,List.take_add_one,hz',List.flatMap_append];simp,?_⟩)
  rw [List.length_append]
  cases ss[i] <;> simp <;> omega
 ·subst e1
  rw [e2,← he,List.take_length]
  exact hd p hp
theorem pA {c:TT} {tb:TS} {D:Gi} {σ:St} {H:Hp} (Pv:St→Hp→Prop) (μ:St→Hp→Nat) (h0:Pv σ H)
  (hs:∀ σ H,Pv σ H→∃ b:Bool,(∀ Q:Bool→Hp→Prop,Q b H→c σ H Q)∧(b=true→tb { D with nx:=fun σ' H'=>Pv σ' H'∧μ σ' H' < μ σ H,ct:=fun σ' H'=>Pv σ' H'∧μ σ' H' < μ σ H,bk:=D.nx } σ H)∧(b=false→D.nx σ H)):zG c tb D σ H:=by
 refine ⟨fun m σ H=>m=μ σ H∧Pv σ H,⟨_,rfl,h0⟩,?_⟩
 rintro m σ H ⟨rfl,p⟩
 obtain ⟨b,hc,h1,h2⟩:=hs σ H p
 refine hc _ ?_
 cases b with
 | true=>exact ⟨_,fun σ' H' ⟨p',l⟩=>⟨_,l,rfl,p'⟩,h1 rfl⟩
 | false=>exact h2 rfl
theorem Sub.name {r:St} {v:Option V}:Sub (none :: r) (v :: r):=by
 refine ⟨rfl,fun i w h=>?_⟩
 cases i with
 | zero=>cases h
 | succ i=>exact h
end L2
local macro_rules | `(tactic| walk_at "RD")=>`(tactic| ((try dsimp only [L2.gD,L2.mL,L2.Cx.nox,L2.Cx.wish,L2.Cx.block,L2.Cx.tr,L2.Cx.hn]);(try simp only [L2.NH,L2.uL,L2.wL,L2.FH,L2.DK,L2.uH,L2.RE,L2.gH,L2.FE,L2.aK,L2.re,L2.Cb,L2.tF,L2.YI,L2.DB,L2.De,L2.aI,L2.lF,L2.iH,L2.bH,L2.RF,L2.BI,L2.gJ,L2.yL,L2.HJ,L2.yK,L2.rK,L2.VF,L2.MI,L2.nz,L2.GI,L2.zH,L2.GE,L2.zI,L2.CH,L2.QF,L2.mF,L2.kF,L2.ZK,L2.Dz,L2.JF,L2.SJ,L2.JH,L2.jI,L2.AH,L2.mI,L2.UH,L2.sK,L2.lJ,L2.Uz,L2.Yz,L2.rC,L2.UD,L2.Pz,L2.ME,L2.PB,L2.dB,L2.fF,L2.OH,L2.qI,L2.aF,L2.wC,L2.YB,L2.ZD,L2.xz,L2.dI,L2.NK,L2.tJ,L2.pJ,L2.az,L2.LA,L2.CA,L2.vA,L2.GA,L2.vB,L2.KF,L2.UE,L2.TD,L2.DH,L2.DE,L2.GF,L2.SI,L2.CI,L2.FI,L2.start,L2.KH,List.map_cons,List.map_nil,Option.bind_none,Option.bind_some,Option.join_some,Option.join_none,List.length_cons,List.length_nil,Nat.reduceAdd,Nat.reduceSub,Nat.zero_add,List.replicate,List.cons_append,List.nil_append,List.append_nil,List.set_cons_zero,List.set_cons_succ,List.getElem?_cons_zero,List.getElem?_cons_succ,Option.some.injEq,L2.V.int.injEq,L2.V.bl.injEq,L2.V.str.injEq,L2.V.ref.injEq,L2.V.ty.injEq,exists_eq_left',exists_eq_left,exists_and_left,List.cons.injEq,and_true,true_and,and_assoc,Int.zero_add,reduceCtorEq,false_and,exists_false,and_false,ite_true,ite_false,if_true,if_false,Bool.false_eq_true,L2.EJ,L2.tyV,false_or,or_false,Bool.not_true,Bool.not_false,decide_true,decide_false])))
local macro_rules | `(tactic| walk_at "F")=>`(tactic| exact ⟨rfl,rfl,rfl,by decide +kernel,rfl,by decide +kernel,by decide +kernel⟩)
namespace My
open PySem L2
noncomputable def top (i:Nat):Stmt:=PySem.Challenge.pw_lampway_k30_stages_read.main.body.getD i (.Pass ⟨0,0,0,0⟩)
noncomputable abbrev Hy:Stmt:=top 9
theorem Yv:yb ["places","way","place","steps"] ["places","way","place"] (jb Hy):=(by walk_at "F")
noncomputable abbrev eo:Stmt:=top 10
theorem Vt:yb ["places","way","second"] ["places","way","second"] (jb eo):=(by walk_at "F")
noncomputable abbrev kG:Stmt:=top 11
theorem Lw:yb ["crossing","one","other","way","second"] ["crossing","one","other"] (jb kG):=(by walk_at "F")
noncomputable abbrev CJ:Stmt:=top 12
theorem yA:yb ["crossing","one","other","way","second"] ["crossing","one","other"] (jb CJ):=(by walk_at "F")
noncomputable abbrev Aw:Stmt:=top 18
theorem CF:yb ["text"] ["text"] (jb Aw):=(by walk_at "F")
noncomputable abbrev sj:Stmt:=top 19
theorem eu:yb ["word","signs","most"] ["word","signs","most"] (jb sj):=(by walk_at "F")
noncomputable abbrev kq:Stmt:=top 20
theorem lu:yb ["word","most_figures"] ["word","most_figures"] (jb kq):=(by walk_at "F")
noncomputable abbrev uv:Stmt:=top 21
theorem Sr:yb ["word","low","high","number"] ["word","low","high"] (jb uv):=(by walk_at "F")
noncomputable abbrev uu:Stmt:=top 22
theorem kz:yb ["word"] ["word"] (jb uu):=(by walk_at "F")
noncomputable abbrev Cp:Stmt:=top 25
theorem lz:yb ["text"] ["text"] (jb Cp):=(by walk_at "F")
noncomputable abbrev Av:Stmt:=top 30
theorem Xz:yb ["crossing","name"] ["crossing","name"] (jb Av):=(by walk_at "F")
noncomputable abbrev Yr:Stmt:=top 31
theorem Xg:yb ["members","homes","number","names","name"] ["members"] (jb Yr):=(by walk_at "F")
noncomputable abbrev Qe:Stmt:=top 32
theorem bh:yb ["crossing","first","second","turns","one"] ["crossing","first","second"] (jb Qe):=(by walk_at "F")
noncomputable abbrev dh:Stmt:=top 33
theorem Nl:yb ["crossing","rows","told"] ["crossing","rows"] (jb dh):=(by walk_at "F")
noncomputable abbrev Yf:Stmt:=top 34
theorem ff:yb ["reader","crossing","left","first","members","alike"] ["reader","crossing","left"] (jb Yf):=(by walk_at "F")
noncomputable abbrev Jn:Stmt:=top 35
theorem Qi:yb ["reader","crossing","rows","least","most"] ["reader","crossing","rows"] (jb Jn):=(by walk_at "F")
noncomputable abbrev Zk:Stmt:=top 36
theorem ik:yb ["crossing","rows","left"] ["crossing","rows"] (jb Zk):=(by walk_at "F")
noncomputable abbrev Kh:Stmt:=top 37
theorem ef:yb ["crossing","rows","homes","name","number"] ["crossing","rows"] (jb Kh):=(by walk_at "F")
noncomputable abbrev Ik:Stmt:=top 38
theorem ye:yb ["crossing","rows","number","row","one","other"] ["crossing","rows"] (jb Ik):=(by walk_at "F")
noncomputable abbrev wm:Stmt:=top 39
theorem Lh:yb ["crossing","text","rows","reader"] ["crossing","text"] (jb wm):=(by walk_at "F")
noncomputable abbrev Yu:Stmt:=top 40
theorem Kz:yb ["stages","number"] ["stages","number"] (jb Yu):=(by walk_at "F")
noncomputable abbrev oq:Stmt:=top 54
theorem Zn:yb ["reader","places"] ["reader"] (jb oq):=(by walk_at "F")
noncomputable abbrev ah:Stmt:=top 55
theorem bj:yb ["reader","ways","name"] ["reader","ways"] (jb ah):=(by walk_at "F")
noncomputable abbrev Hs:Stmt:=top 56
theorem Gw:yb ["reader","places","start"] ["reader","places","start"] (jb Hs):=(by walk_at "F")
noncomputable abbrev Pr:Stmt:=top 57
theorem Fw:yb ["sort","name","start","end","off","near","least"] ["sort","name","start","end","off","near","least"] (jb Pr):=(by walk_at "F")
noncomputable abbrev Jr:Stmt:=top 58
theorem ze:yb ["reader","places","ways","sort","name","start","end","off","near","least"] ["reader","places","ways"] (jb Jr):=(by walk_at "F")
noncomputable abbrev Cj:Stmt:=top 59
theorem ee:yb ["text","rows","places","ways","reader"] ["text"] (jb Cj):=(by walk_at "F")
noncomputable abbrev mq:Stmt:=top 61
theorem Xe:yb ["_law_script","_law_k","_law_many","_law_cell","_law_seed"] ["_law_script","_law_k","_law_many"] (jb mq):=(by walk_at "F")
noncomputable abbrev tj:Stmt:=top 62
theorem Ed:yb ["_law_script","_law_many","_law_letters","_law_base","_law_way","_law_at","_law_names_here","_law_k","_law_sign"] ["_law_script","_law_many"] (jb tj):=(by walk_at "F")
noncomputable abbrev yq:Stmt:=top 63
theorem Rc:yb ["_law_script","_law_most","_law_places","_law_names_here","_law_ways_here","_law_k","_law_start","_law_end","_law_sort","_law_off","_law_near"] ["_law_script","_law_most"] (jb yq):=(by walk_at "F")
noncomputable abbrev ol:Stmt:=top 64
theorem Wj:yb ["_law_places","_law_ways_here","_law_rows","_law_way"] ["_law_places","_law_ways_here"] (jb ol):=(by walk_at "F")
noncomputable abbrev Vp:Stmt:=top 65
theorem sh:yb ["_law_one","_law_other","_law_places","_law_length","_law_start","_law_end"] ["_law_one","_law_other","_law_places"] (jb Vp):=(by walk_at "F")
noncomputable abbrev Nn:Stmt:=top 66
theorem vm:yb ["_law_ways_here","_law_one","_law_other","_law_tram"] ["_law_ways_here","_law_one","_law_other"] (jb Nn):=(by walk_at "F")
noncomputable abbrev Ri:Stmt:=top 67
theorem Qb:yb ["_law_script","_law_places","_law_ways_here","_law_some","_law_k","_law_fits","_law_j","_law_good","_law_i","_law_stages_here","_law_low","_law_more"] ["_law_script","_law_places","_law_ways_here"] (jb Ri):=(by walk_at "F")
noncomputable abbrev cf:Stmt:=top 68
theorem sd:yb ["_law_ways_here","_law_stages_here","_law_rows","_law_low","_law_high","_law_some"] ["_law_ways_here","_law_stages_here"] (jb cf):=(by walk_at "F")
noncomputable abbrev Cl:Stmt:=top 69
theorem Pj:yb ["_law_plan","_law_ways_here","_law_stages_here","_law_k","_law_found"] ["_law_plan","_law_ways_here","_law_stages_here"] (jb Cl):=(by walk_at "F")
noncomputable abbrev lE:Stmt:=top 70
theorem Wo:yb ["_law_script","_law_places","_law_ways_here","_law_crossing","_law_sets","_law_plans","_law_k"] ["_law_script"] (jb lE):=(by walk_at "F")
noncomputable abbrev tm:Stmt:=Uc (top 3) 0
theorem am:yb ["self","row","word"] ["self","row","word"] (jb tm):=(by walk_at "F")
noncomputable abbrev Qn:Stmt:=Uc (top 5) 0
theorem Bn:yb ["self","way"] ["self","way"] (jb Qn):=(by walk_at "F")
noncomputable abbrev Rn:Stmt:=Uc (top 6) 0
theorem jn:yb ["self","way","at"] ["self","way","at"] (jb Rn):=(by walk_at "F")
noncomputable abbrev En:Stmt:=Uc (top 7) 0
theorem Sm:yb ["self","way","other","at"] ["self","way","other","at"] (jb En):=(by walk_at "F")
noncomputable abbrev gj:Stmt:=Uc (top 24) 0
theorem xj:yb ["self","row","told"] ["self","row","told"] (jb gj):=(by walk_at "F")
noncomputable abbrev gi:Stmt:=Uc (top 24) 1
theorem Yl:yb ["self"] ["self"] (jb gi):=(by walk_at "F")
noncomputable abbrev zg:Stmt:=Uc (top 24) 2
theorem wj:yb ["self"] ["self"] (jb zg):=(by walk_at "F")
noncomputable abbrev ph:Stmt:=Uc (top 24) 3
theorem Fl:yb ["self"] ["self"] (jb ph):=(by walk_at "F")
noncomputable abbrev Vi:Stmt:=Uc (top 24) 4
theorem ii:yb ["self","good"] ["self","good"] (jb Vi):=(by walk_at "F")
noncomputable abbrev yh:Stmt:=Uc (top 24) 5
theorem Vd:yb ["self","choices","found"] ["self","choices"] (jb yh):=(by walk_at "F")
noncomputable abbrev Zg:Stmt:=Uc (top 24) 6
theorem Pd:yb ["self","low","high","found"] ["self","low","high"] (jb Zg):=(by walk_at "F")
noncomputable abbrev lh:Stmt:=Uc (top 24) 7
theorem Kl:yb ["self"] ["self"] (jb lh):=(by walk_at "F")
noncomputable abbrev Fe:Stmt:=Uc (top 29) 0
theorem uf:yb ["self","crossing","rows","one","other"] ["self","crossing","rows"] (jb Fe):=(by walk_at "F")
noncomputable abbrev Wr:Stmt:=Uc (top 42) 0
theorem Tp:yb ["self","kind","name","start","end","off","near","least"] ["self","kind","name","start","end","off","near","least"] (jb Wr):=(by walk_at "F")
noncomputable abbrev Dm:Stmt:=Uc (top 43) 0
theorem Pl:yb ["self","name","start","end","off","near","least"] ["self","name","start","end","off","near","least"] (jb Dm):=(by walk_at "F")
noncomputable abbrev Vk:Stmt:=Uc (top 43) 1
theorem ip:yb ["self"] ["self"] (jb Vk):=(by walk_at "F")
noncomputable abbrev Ol:Stmt:=Uc (top 43) 2
theorem Yq:yb ["self"] ["self"] (jb Ol):=(by walk_at "F")
noncomputable abbrev Hk:Stmt:=Uc (top 44) 0
theorem xl:yb ["self","name","start","end","off","near","least"] ["self","name","start","end","off","near","least"] (jb Hk):=(by walk_at "F")
noncomputable abbrev Sj:Stmt:=Uc (top 44) 1
theorem yo:yb ["self"] ["self"] (jb Sj):=(by walk_at "F")
noncomputable abbrev Uk:Stmt:=Uc (top 44) 2
theorem Uo:yb ["self"] ["self"] (jb Uk):=(by walk_at "F")
noncomputable abbrev Gk:Stmt:=Uc (top 45) 0
theorem Il:yb ["self","name","start","end","off","near","least"] ["self","name","start","end","off","near","least"] (jb Gk):=(by walk_at "F")
noncomputable abbrev Zj:Stmt:=Uc (top 45) 1
theorem vo:yb ["self"] ["self"] (jb Zj):=(by walk_at "F")
noncomputable abbrev Nk:Stmt:=Uc (top 45) 2
theorem Xo:yb ["self"] ["self"] (jb Nk):=(by walk_at "F")
noncomputable abbrev nk:Stmt:=Uc (top 53) 0
theorem Je:yb ["self","places","ways","number","way"] ["self","places","ways"] (jb nk):=(by walk_at "F")
noncomputable abbrev ug:Stmt:=Uc (top 53) 1
theorem gn:yb ["self"] ["self"] (jb ug):=(by walk_at "F")
noncomputable abbrev Wh:Stmt:=Uc (top 53) 2
theorem rm:yb ["self","name"] ["self","name"] (jb Wh):=(by walk_at "F")
noncomputable abbrev mi:Stmt:=Uc (top 53) 3
theorem fm:yb ["self","name"] ["self","name"] (jb mi):=(by walk_at "F")
set_option genInjectivity false in
set_option genInjectivity false in
structure Adr where
 {Mo Fh Qv WE Ts eg Ji Kj Vl Dj vj Mg Uf ig Vf xh Xf Nf Of tf Em Ki Bf qk yk vk gf Ue jh Ni Mi zi zh Gg se Ci ZH jf cg gg ag Zd Xb Qc Zc uc gc Vb Yc vf Ef Af Zf Fg Oe mf Tf Ke wf Rf we ad Sd vc Bb kc Rl jd Pc Mc Pb Gf Wc Md vd ud:Addr}
 {Lo kh Fv vE At dg xi Gj Hm Yj Tj Ng Kf bg Lf uh Wf Pf Sf Cf lm Ii kf uk rk xk sf Ve vh Bi Li Fi eh Eg pe Ui cE Cg nh Hh Gh Se wc gd Bd Cc Bc lc Cd Jg Og Kg Th Pi Mf Ug Vh Qf Sg Uh df Ad Ee Ec:FuncData}
 {yu Sk Ku Kk bo Qk qp Lr Cm Mm Kn cq:Value}
structure Txt (w:World) (K:PySem.W.Frag) (mg:Str→Option Value) (t:Adr):Prop where
 ky:mg "in_bow"=some (.ref t.Mo)
 Fo:Fun K "in_bow" "in_bow" Hy t.Mo t.Lo
 xv:mg "bows_cross"=some (.ref t.Fh)
 ck:Fun K "bows_cross" "bows_cross" eo t.Fh t.kh
 ZF:mg "meet"=some (.ref t.Qv)
 Cy:Fun K "meet" "meet" kG t.Qv t.Fv
 BL:mg "gap"=some (.ref t.WE)
 bI:Fun K "gap" "gap" CJ t.WE t.vE
 DI:mg "words"=some (.ref t.Ts)
 Px:Fun K "words" "words" Aw t.Ts t.At
 Wn:mg "is_made_of"=some (.ref t.eg)
 mh:Fun K "is_made_of" "is_made_of" sj t.eg t.dg
 Ax:mg "is_number"=some (.ref t.Ji)
 Al:Fun K "is_number" "is_number" kq t.Ji t.xi
 Iv:mg "figured"=some (.ref t.Kj)
 Wl:Fun K "figured" "figured" uv t.Kj t.Gj
 TC:mg "is_name"=some (.ref t.Vl)
 gp:Fun K "is_name" "is_name" uu t.Vl t.Hm
 Xv:mg "readers"=some (.ref t.Dj)
 Ql:Fun K "readers" "readers" Cp t.Dj t.Yj
 bq:mg "sort_of"=some (.ref t.vj)
 Ij:Fun K "sort_of" "sort_of" Av t.vj t.Tj
 wn:mg "homes_in"=some (.ref t.Mg)
 di:Fun K "homes_in" "homes_in" Yr t.Mg t.Ng
 Bq:mg "change_turns"=some (.ref t.Uf)
 Oh:Fun K "change_turns" "change_turns" Qe t.Uf t.Kf
 Pn:mg "names_left"=some (.ref t.ig)
 Bh:Fun K "names_left" "names_left" dh t.ig t.bg
 Kq:mg "read_members"=some (.ref t.Vf)
 Jh:Fun K "read_members" "read_members" Yf t.Vf t.Lf
 Zv:mg "read_stage"=some (.ref t.xh)
 Qj:Fun K "read_stage" "read_stage" Jn t.xh t.uh
 jr:mg "refuse_never"=some (.ref t.Xf)
 Qh:Fun K "refuse_never" "refuse_never" Zk t.Xf t.Wf
 Jq:mg "refuse_short"=some (.ref t.Nf)
 Sh:Fun K "refuse_short" "refuse_short" Kh t.Nf t.Pf
 dr:mg "refuse_clash"=some (.ref t.Of)
 Nh:Fun K "refuse_clash" "refuse_clash" Ik t.Of t.Sf
 Ot:mg "read_stages"=some (.ref t.tf)
 Ti:Fun K "read_stages" "read_stages" wm t.tf t.Cf
 uA:mg "ways_in"=some (.ref t.Em)
 Ro:Fun K "ways_in" "ways_in" Yu t.Em t.lm
 jx:mg "read_ring"=some (.ref t.Ki)
 Jl:Fun K "read_ring" "read_ring" oq t.Ki t.Ii
 up:mg "read_new_name"=some (.ref t.Bf)
 Tg:Fun K "read_new_name" "read_new_name" ah t.Bf t.kf
 oz:mg "read_end"=some (.ref t.qk)
 cn:Fun K "read_end" "read_end" Hs t.qk t.uk
 Fz:mg "made_way"=some (.ref t.yk)
 yn:Fun K "made_way" "made_way" Pr t.yk t.rk
 ez:mg "read_way"=some (.ref t.vk)
 rn:Fun K "read_way" "read_way" Jr t.vk t.xk
 Dp:mg "read_crossing"=some (.ref t.gf)
 Rg:Fun K "read_crossing" "read_crossing" Cj t.gf t.sf
 Gb:mg "_law_draw"=some (.ref t.Ue)
 Ab:Fun K "_law_draw" "_law_draw" mq t.Ue t.Ve
 Ju:mg "_law_names"=some (.ref t.jh)
 Nj:Fun K "_law_names" "_law_names" tj t.jh t.vh
 Ow:mg "_law_ways"=some (.ref t.Ni)
 Hl:Fun K "_law_ways" "_law_ways" yq t.Ni t.Bi
 Bx:mg "_law_text"=some (.ref t.Mi)
 Ll:Fun K "_law_text" "_law_text" ol t.Mi t.Li
 Iw:mg "_law_meet"=some (.ref t.zi)
 yl:Fun K "_law_meet" "_law_meet" Vp t.zi t.Fi
 zv:mg "_law_alike"=some (.ref t.zh)
 Aj:Fun K "_law_alike" "_law_alike" Nn t.zh t.eh
 ym:mg "_law_stages"=some (.ref t.Gg)
 Hg:Fun K "_law_stages" "_law_stages" Ri t.Gg t.Eg
 Im:mg "_law_stages_text"=some (.ref t.se)
 rf:Fun K "_law_stages_text" "_law_stages_text" cf t.se t.pe
 Yw:mg "_law_same"=some (.ref t.Ci)
 ll:Fun K "_law_same" "_law_same" Cl t.Ci t.Ui
 FL:mg "law"=some (.ref t.ZH)
 JL:Fun K "law" "law" lE t.ZH t.cE
 oE:mg "NoText"=some (.ref t.Wc)
 eE:PySem.W.findIn K (.ref t.Wc) "__init__"=some (some (.ref t.jf))
 xm:Fun K "__init__" "NoText.__init__" tm t.jf t.Cg
 lI:mg "Never"=some (.ref t.Md)
 LG:PySem.W.findIn K (.ref t.Md) "__init__"=some (some (.ref t.cg))
 Vn:Fun K "__init__" "Never.__init__" Qn t.cg t.nh
 UI:mg "Short"=some (.ref t.vd)
 jG:PySem.W.findIn K (.ref t.vd) "__init__"=some (some (.ref t.gg))
 Fn:Fun K "__init__" "Short.__init__" Rn t.gg t.Hh
 vH:mg "Clash"=some (.ref t.ud)
 AG:PySem.W.findIn K (.ref t.ud) "__init__"=some (some (.ref t.ag))
 Ln:Fun K "__init__" "Clash.__init__" En t.ag t.Gh
 uw:mg "RowReader"=some (.ref t.Bb)
 dA:PySem.W.findIn K (.ref t.Bb) "__init__"=some (some (.ref t.Zd))
 Xi:Fun K "__init__" "RowReader.__init__" gj t.Zd t.Se
 wz:PySem.W.findIn K (.ref t.Bb) "ahead"=some (some (.ref t.Xb))
 oi:Fun K "ahead" "RowReader.ahead" gi t.Xb t.wc
 pw:PySem.W.findIn K (.ref t.Bb) "has_more"=some (some (.ref t.Qc))
 Bg:Fun K "has_more" "RowReader.has_more" zg t.Qc t.gd
 Sy:PySem.W.findIn K (.ref t.Bb) "refuse"=some (some (.ref t.Zc))
 Dh:Fun K "refuse" "RowReader.refuse" ph t.Zc t.Bd
 fA:PySem.W.findIn K (.ref t.Bb) "take"=some (some (.ref t.uc))
 qg:Fun K "take" "RowReader.take" Vi t.uc t.Cc
 Py:PySem.W.findIn K (.ref t.Bb) "one_of"=some (some (.ref t.gc))
 zf:Fun K "one_of" "RowReader.one_of" yh t.gc t.Bc
 Nx:PySem.W.findIn K (.ref t.Bb) "figures"=some (some (.ref t.Vb))
 We:Fun K "figures" "RowReader.figures" Zg t.Vb t.lc
 Jy:PySem.W.findIn K (.ref t.Bb) "finish"=some (some (.ref t.Yc))
 qh:Fun K "finish" "RowReader.finish" lh t.Yc t.Cd
 aE:mg "Stages"=some (.ref t.kc)
 RD:PySem.W.findIn K (.ref t.kc) "__init__"=some (some (.ref t.vf))
 Km:Fun K "__init__" "Stages.__init__" Fe t.vf t.Jg
 cH:mg "Way"=some (.ref t.Rl)
 cJ:PySem.W.findIn K (.ref t.Rl) "__init__"=some (some (.ref t.Ef))
 Cs:Fun K "__init__" "Way.__init__" Wr t.Ef t.Og
 nF:mg "CarWay"=some (.ref t.jd)
 VD:PySem.W.findIn K (.ref t.jd) "__init__"=some (some (.ref t.Af))
 Ml:Fun K "__init__" "CarWay.__init__" Dm t.Af t.Kg
 zD:PySem.W.findIn K (.ref t.jd) "ready"=some (some (.ref t.Zf))
 Tk:Fun K "ready" "CarWay.ready" Vk t.Zf t.Th
 NE:PySem.W.findIn K (.ref t.jd) "fade"=some (some (.ref t.Fg))
 gm:Fun K "fade" "CarWay.fade" Ol t.Fg t.Pi
 SB:mg "FootWay"=some (.ref t.Pc)
 DD:PySem.W.findIn K (.ref t.Pc) "__init__"=some (some (.ref t.Oe))
 Xk:Fun K "__init__" "FootWay.__init__" Hk t.Oe t.Mf
 iD:PySem.W.findIn K (.ref t.Pc) "ready"=some (some (.ref t.mf))
 Lj:Fun K "ready" "FootWay.ready" Sj t.mf t.Ug
 JD:PySem.W.findIn K (.ref t.Pc) "fade"=some (some (.ref t.Tf))
 Yk:Fun K "fade" "FootWay.fade" Uk t.Tf t.Vh
 QB:mg "TramWay"=some (.ref t.Mc)
 LD:PySem.W.findIn K (.ref t.Mc) "__init__"=some (some (.ref t.Ke))
 Jk:Fun K "__init__" "TramWay.__init__" Gk t.Ke t.Qf
 gC:PySem.W.findIn K (.ref t.Mc) "ready"=some (some (.ref t.wf))
 Jj:Fun K "ready" "TramWay.ready" Zj t.wf t.Sg
 ED:PySem.W.findIn K (.ref t.Mc) "fade"=some (some (.ref t.Rf))
 Wk:Fun K "fade" "TramWay.fade" Nk t.Rf t.Uh
 dz:mg "Crossing"=some (.ref t.Pb)
 UC:PySem.W.findIn K (.ref t.Pb) "__init__"=some (some (.ref t.we))
 pj:Fun K "__init__" "Crossing.__init__" nk t.we t.df
 eA:PySem.W.findIn K (.ref t.Pb) "names"=some (some (.ref t.ad))
 ij:Fun K "names" "Crossing.names" ug t.ad t.Ad
 aA:PySem.W.findIn K (.ref t.Pb) "number"=some (some (.ref t.Sd))
 ci:Fun K "number" "Crossing.number" Wh t.Sd t.Ee
 Jz:PySem.W.findIn K (.ref t.Pb) "called"=some (some (.ref t.vc))
 ti:Fun K "called" "Crossing.called" mi t.vc t.Ec
 ub:Cls K t.Bb
 Rw:Mk K t.Bb t.Zd
 pd:Qr K t.Bb "ahead" t.Xb
 yg:Qr K t.Bb "has_more" t.Qc
 Ah:Qr K t.Bb "refuse" t.Zc
 ie:Qr K t.Bb "take" t.uc
 Hd:Qr K t.Bb "one_of" t.gc
 qc:Qr K t.Bb "figures" t.Vb
 oh:Qr K t.Bb "finish" t.Yc
 Wi:Ib K t.Bb "row"
 vi:Ib K t.Bb "told"
 oe:Ib K t.Bb "place"
 Yd:Cls K t.kc
 xE:Mk K t.kc t.vf
 Sl:Ib K t.kc "crossing"
 Lk:Ib K t.kc "many"
 ro:Ib K t.kc "leasts"
 rq:Ib K t.kc "mosts"
 Ff:Ib K t.kc "members"
 Op:Ib K t.kc "sorts"
 bp:Ib K t.kc "homes"
 ri:Ib K t.kc "changes"
 qM:Cls K t.Rl
 XH:Ib K t.Rl "kind"
 oH:Ib K t.Rl "name"
 QG:Ib K t.Rl "start"
 bJ:Ib K t.Rl "end"
 aJ:Ib K t.Rl "off"
 HH:Ib K t.Rl "near"
 oG:Ib K t.Rl "least"
 Mp:Cls K t.jd
 iF:Mk K t.jd t.Af
 xr:Qr K t.jd "ready" t.Zf
 bu:Qr K t.jd "fade" t.Fg
 Cr:Ib K t.jd "kind"
 ar:Ib K t.jd "name"
 Wp:Ib K t.jd "start"
 ut:Ib K t.jd "end"
 Vs:Ib K t.jd "off"
 Iq:Ib K t.jd "near"
 zq:Ib K t.jd "least"
 Rm:Cls K t.Pc
 XC:Mk K t.Pc t.Oe
 Pp:Qr K t.Pc "ready" t.mf
 br:Qr K t.Pc "fade" t.Tf
 Vo:Ib K t.Pc "kind"
 Ip:Ib K t.Pc "name"
 io:Ib K t.Pc "start"
 kr:Ib K t.Pc "end"
 Ar:Ib K t.Pc "off"
 ap:Ib K t.Pc "near"
 qo:Ib K t.Pc "least"
 Wm:Cls K t.Mc
 NB:Mk K t.Mc t.Ke
 Gp:Qr K t.Mc "ready" t.wf
 Oq:Qr K t.Mc "fade" t.Rf
 uq:Ib K t.Mc "kind"
 xq:Ib K t.Mc "name"
 oo:Ib K t.Mc "start"
 Hq:Ib K t.Mc "end"
 Dq:Ib K t.Mc "off"
 pp:Ib K t.Mc "near"
 jo:Ib K t.Mc "least"
 bc:Cls K t.Pb
 Oz:Mk K t.Pb t.we
 ng:Qr K t.Pb "names" t.ad
 Qm:Qr K t.Pb "number" t.Sd
 Dc:Qr K t.Pb "called" t.vc
 fh:Ib K t.Pb "places"
 Zi:Ib K t.Pb "ways"
 Vg:Ib K t.Pb "numbers"
 Si:mg "LampError"=some (.ref t.Gf)
 Di:WL K t.Gf "__init__"
 WC:XB K t.Wc
 Iu:MkX K t.Wc t.jf
 Zt:Ib K t.Wc "row"
 Fq:Ib K t.Wc "word"
 tw:PySem.W.exmOne K (.ref t.Wc) (.ref t.Gf)=some true
 jA:PySem.W.exmOne K (.ref t.Wc) (.ref t.Wc)=some true
 oB:PySem.W.exmOne K (.ref t.Wc) (.ref t.Md)=some false
 iC:PySem.W.exmOne K (.ref t.Wc) (.ref t.vd)=some false
 YC:PySem.W.exmOne K (.ref t.Wc) (.ref t.ud)=some false
 OE:XB K t.Md
 Gy:MkX K t.Md t.cg
 Nu:Ib K t.Md "way"
 Ny:PySem.W.exmOne K (.ref t.Md) (.ref t.Gf)=some true
 nA:PySem.W.exmOne K (.ref t.Md) (.ref t.Wc)=some false
 MD:PySem.W.exmOne K (.ref t.Md) (.ref t.Md)=some true
 yD:PySem.W.exmOne K (.ref t.Md) (.ref t.vd)=some false
 FD:PySem.W.exmOne K (.ref t.Md) (.ref t.ud)=some false
 UF:XB K t.vd
 cy:MkX K t.vd t.gg
 nu:Ib K t.vd "way"
 Vw:Ib K t.vd "at"
 Ry:PySem.W.exmOne K (.ref t.vd) (.ref t.Gf)=some true
 zA:PySem.W.exmOne K (.ref t.vd) (.ref t.Wc)=some false
 KD:PySem.W.exmOne K (.ref t.vd) (.ref t.Md)=some false
 PD:PySem.W.exmOne K (.ref t.vd) (.ref t.vd)=some true
 GD:PySem.W.exmOne K (.ref t.vd) (.ref t.ud)=some false
 SF:XB K t.ud
 Vy:MkX K t.ud t.ag
 Hv:Ib K t.ud "way"
 Lq:Ib K t.ud "other"
 Ix:Ib K t.ud "at"
 xy:PySem.W.exmOne K (.ref t.ud) (.ref t.Gf)=some true
 DC:PySem.W.exmOne K (.ref t.ud) (.ref t.Wc)=some false
 ND:PySem.W.exmOne K (.ref t.ud) (.ref t.Md)=some false
 BD:PySem.W.exmOne K (.ref t.ud) (.ref t.vd)=some false
 OD:PySem.W.exmOne K (.ref t.ud) (.ref t.ud)=some true
 SE:t.Rl ≠ t.jd
 ID:t.Rl ≠ t.Pc
 CD:t.Rl ≠ t.Mc
 Zh:t.jd ≠ t.Pc
 Xh:t.jd ≠ t.Mc
 Eh:t.Pc ≠ t.Mc
 Om:iM K t.Rl "__init__" t.Ef
 qA:mg "FIGURES"=some t.yu
 KA:Od (.str (Str.ofString "0123456789")) t.yu
 Nq:mg "LEAST_PLACES"=some t.Sk
 Vq:Od (.int 2) t.Sk
 MA:mg "LETTERS"=some t.Ku
 uC:Od (.str (Str.ofString "abcdefghijklmnopqrstuvwxyz")) t.Ku
 Dr:mg "MOST_FIGURES"=some t.Kk
 Aq:Od (.int 3) t.Kk
 bv:mg "MOST_LEAST"=some t.bo
 Fu:Od (.int 60) t.bo
 Zq:mg "MOST_LETTERS"=some t.Qk
 Sq:Od (.int 8) t.Qk
 Dw:mg "MOST_NEAR"=some t.qp
 Pw:Od (.int 30) t.qp
 mz:mg "MOST_OFF"=some t.Lr
 qz:Od (.int 30) t.Lr
 Bt:mg "MOST_PLACES"=some t.Cm
 Ps:Od (.int 99) t.Cm
 ft:mg "MOST_STAGES"=some t.Mm
 Ss:Od (.int 6) t.Mm
 Dn:mg "MOST_TURNS"=some t.Kn
 Gn:Od (.int 60) t.Kn
 Dx:mg "MOST_WAYS"=some t.cq
 xx:Od (.int 12) t.cq
 IL:mg "all"=none
 xK:mg "bool"=none
 Hi:mg "enumerate"=none
 SD:mg "int"=none
 Bj:mg "isinstance"=none
 bi:mg "len"=none
 WG:mg "list"=none
 iI:mg "max"=none
 Mh:mg "range"=none
 fB:mg "str"=none
 GK:∀ (s:Shared) (u:Value),BindsTo s t.cE ⟨[u],[]⟩ [("_law_script",u)]
section
variable {w:World} {K:PySem.W.Frag} {mg:Str→Option Value} {t:Adr} (T:Txt w K mg t)
include T
theorem Txt.Iy:Yb K t.Lo ["places","way","place"] []:=T.Fo.binds fun _ _ _ _ _ _=>us3 fun _ _ _=>rfl
theorem Txt.qu:Yb K t.kh ["places","way","second"] []:=T.ck.binds fun _ _ _ _ _ _=>us3 fun _ _ _=>rfl
theorem Txt.gG:Yb K t.Fv ["crossing","one","other"] []:=T.Cy.binds fun _ _ _ _ _ _=>us3 fun _ _ _=>rfl
theorem Txt.nL:Yb K t.vE ["crossing","one","other"] []:=T.bI.binds fun _ _ _ _ _ _=>us3 fun _ _ _=>rfl
theorem Txt.eI:Yb K t.At ["text"] []:=T.Px.binds fun _ _ _ _ _ _=>us1 fun _=>rfl
theorem Txt.Xn:Yb K t.dg ["word","signs","most"] []:=T.mh.binds fun _ _ _ _ _ _=>us3 fun _ _ _=>rfl
theorem Txt.Ox:Yb K t.xi ["word","most_figures"] []:=T.Al.binds fun _ _ _ _ _ _=>us2 fun _ _=>rfl
theorem Txt.sv:Yb K t.Gj ["word","low","high"] []:=T.Wl.binds fun _ _ _ _ _ _=>us3 fun _ _ _=>rfl
theorem Txt.BB:Yb K t.Hm ["word"] []:=T.gp.binds fun _ _ _ _ _ _=>us1 fun _=>rfl
theorem Txt.Pu:Yb K t.Yj ["text"] []:=T.Ql.binds fun _ _ _ _ _ _=>us1 fun _=>rfl
theorem Txt.iq:Yb K t.Tj ["crossing","name"] []:=T.Ij.binds fun _ _ _ _ _ _=>us2 fun _ _=>rfl
theorem Txt.xn:Yb K t.Ng ["members"] []:=T.di.binds fun _ _ _ _ _ _=>us1 fun _=>rfl
theorem Txt.Mq:Yb K t.Kf ["crossing","first","second"] []:=T.Oh.binds fun _ _ _ _ _ _=>us3 fun _ _ _=>rfl
theorem Txt.ao:Yb K t.bg ["crossing","rows"] []:=T.Bh.binds fun _ _ _ _ _ _=>us2 fun _ _=>rfl
theorem Txt.cr:Yb K t.Lf ["reader","crossing","left"] []:=T.Jh.binds fun _ _ _ _ _ _=>us3 fun _ _ _=>rfl
theorem Txt.iw:Yb K t.uh ["reader","crossing","rows"] []:=T.Qj.binds fun _ _ _ _ _ _=>us3 fun _ _ _=>rfl
theorem Txt.Xq:Yb K t.Wf ["crossing","rows"] []:=T.Qh.binds fun _ _ _ _ _ _=>us2 fun _ _=>rfl
theorem Txt.Gq:Yb K t.Pf ["crossing","rows"] []:=T.Sh.binds fun _ _ _ _ _ _=>us2 fun _ _=>rfl
theorem Txt.pr:Yb K t.Sf ["crossing","rows"] []:=T.Nh.binds fun _ _ _ _ _ _=>us2 fun _ _=>rfl
theorem Txt.dt:Yb K t.Cf ["crossing","text"] []:=T.Ti.binds fun _ _ _ _ _ _=>us2 fun _ _=>rfl
theorem Txt.DA:Yb K t.lm ["stages","number"] []:=T.Ro.binds fun _ _ _ _ _ _=>us2 fun _ _=>rfl
theorem Txt.Ww:Yb K t.Ii ["reader"] []:=T.Jl.binds fun _ _ _ _ _ _=>us1 fun _=>rfl
theorem Txt.rp:Yb K t.kf ["reader","ways"] []:=T.Tg.binds fun _ _ _ _ _ _=>us2 fun _ _=>rfl
theorem Txt.pz:Yb K t.uk ["reader","places","start"] []:=T.cn.binds fun _ _ _ _ _ _=>us3 fun _ _ _=>rfl
theorem Txt.yz:Yb K t.rk ["sort","name","start","end","off","near","least"] []:=T.yn.binds fun _ _ _ _ _ _=>us7 fun _ _ _ _ _ _ _=>rfl
theorem Txt.bA:Yb K t.xk ["reader","places","ways"] []:=T.rn.binds fun _ _ _ _ _ _=>us3 fun _ _ _=>rfl
theorem Txt.Ep:Yb K t.sf ["text"] []:=T.Rg.binds fun _ _ _ _ _ _=>us1 fun _=>rfl
theorem Txt.Fb:Yb K t.Ve ["_law_script","_law_k","_law_many"] []:=T.Ab.binds fun _ _ _ _ _ _=>us3 fun _ _ _=>rfl
theorem Txt.dw:Yb K t.vh ["_law_script","_law_many"] []:=T.Nj.binds fun _ _ _ _ _ _=>us2 fun _ _=>rfl
theorem Txt.sw:Yb K t.Bi ["_law_script","_law_most"] []:=T.Hl.binds fun _ _ _ _ _ _=>us2 fun _ _=>rfl
theorem Txt.Gx:Yb K t.Li ["_law_places","_law_ways_here"] []:=T.Ll.binds fun _ _ _ _ _ _=>us2 fun _ _=>rfl
theorem Txt.Jw:Yb K t.Fi ["_law_one","_law_other","_law_places"] []:=T.yl.binds fun _ _ _ _ _ _=>us3 fun _ _ _=>rfl
theorem Txt.Eu:Yb K t.eh ["_law_ways_here","_law_one","_law_other"] []:=T.Aj.binds fun _ _ _ _ _ _=>us3 fun _ _ _=>rfl
theorem Txt.um:Yb K t.Eg ["_law_script","_law_places","_law_ways_here"] []:=T.Hg.binds fun _ _ _ _ _ _=>us3 fun _ _ _=>rfl
theorem Txt.Xl:Yb K t.pe ["_law_ways_here","_law_stages_here"] []:=T.rf.binds fun _ _ _ _ _ _=>us2 fun _ _=>rfl
theorem Txt.yw:Yb K t.Ui ["_law_plan","_law_ways_here","_law_stages_here"] []:=T.ll.binds fun _ _ _ _ _ _=>us3 fun _ _ _=>rfl
theorem Txt.Nt:Yb K t.Cg ["self","row","word"] []:=T.xm.binds fun _ _ _ _ _ _=>us3 fun _ _ _=>rfl
theorem Txt.ow:Yb K t.nh ["self","way"] []:=T.Vn.binds fun _ _ _ _ _ _=>us2 fun _ _=>rfl
theorem Txt.Cv:Yb K t.Hh ["self","way","at"] []:=T.Fn.binds fun _ _ _ _ _ _=>us3 fun _ _ _=>rfl
theorem Txt.Uv:Yb K t.Gh ["self","way","other","at"] []:=T.Ln.binds fun _ _ _ _ _ _=>us4 fun _ _ _ _=>rfl
theorem Txt.xo:Yb K t.Se ["self","row","told"] []:=T.Xi.binds fun _ _ _ _ _ _=>us3 fun _ _ _=>rfl
theorem Txt.qd:Yb K t.wc ["self"] []:=T.oi.binds fun _ _ _ _ _ _=>us1 fun _=>rfl
theorem Txt.Ag:Yb K t.gd ["self"] []:=T.Bg.binds fun _ _ _ _ _ _=>us1 fun _=>rfl
theorem Txt.Ih:Yb K t.Bd ["self"] []:=T.Dh.binds fun _ _ _ _ _ _=>us1 fun _=>rfl
theorem Txt.ce:Yb K t.Cc ["self","good"] []:=T.qg.binds fun _ _ _ _ _ _=>us2 fun _ _=>rfl
theorem Txt.Fd:Yb K t.Bc ["self","choices"] []:=T.zf.binds fun _ _ _ _ _ _=>us2 fun _ _=>rfl
theorem Txt.nc:Yb K t.lc ["self","low","high"] []:=T.We.binds fun _ _ _ _ _ _=>us3 fun _ _ _=>rfl
theorem Txt.Ch:Yb K t.Cd ["self"] []:=T.qh.binds fun _ _ _ _ _ _=>us1 fun _=>rfl
theorem Txt.fu:Yb K t.Jg ["self","crossing","rows"] []:=T.Km.binds fun _ _ _ _ _ _=>us3 fun _ _ _=>rfl
theorem Txt.zn:Yb K t.Og ["self","kind","name","start","end","off","near","least"] []:=T.Cs.binds fun _ _ _ _ _ _=>us8 fun _ _ _ _ _ _ _ _=>rfl
theorem Txt.Et:Yb K t.Kg ["self","name","start","end","off","near","least"] []:=T.Ml.binds fun _ _ _ _ _ _=>us7 fun _ _ _ _ _ _ _=>rfl
theorem Txt.Uq:Yb K t.Th ["self"] []:=T.Tk.binds fun _ _ _ _ _ _=>us1 fun _=>rfl
theorem Txt.Jt:Yb K t.Pi ["self"] []:=T.gm.binds fun _ _ _ _ _ _=>us1 fun _=>rfl
theorem Txt.Tq:Yb K t.Mf ["self","name","start","end","off","near","least"] []:=T.Xk.binds fun _ _ _ _ _ _=>us7 fun _ _ _ _ _ _ _=>rfl
theorem Txt.Xp:Yb K t.Ug ["self"] []:=T.Lj.binds fun _ _ _ _ _ _=>us1 fun _=>rfl
theorem Txt.ir:Yb K t.Vh ["self"] []:=T.Yk.binds fun _ _ _ _ _ _=>us1 fun _=>rfl
theorem Txt.sr:Yb K t.Qf ["self","name","start","end","off","near","least"] []:=T.Jk.binds fun _ _ _ _ _ _=>us7 fun _ _ _ _ _ _ _=>rfl
theorem Txt.Jp:Yb K t.Sg ["self"] []:=T.Jj.binds fun _ _ _ _ _ _=>us1 fun _=>rfl
theorem Txt.lr:Yb K t.Uh ["self"] []:=T.Wk.binds fun _ _ _ _ _ _=>us1 fun _=>rfl
theorem Txt.Np:Yb K t.df ["self","places","ways"] []:=T.pj.binds fun _ _ _ _ _ _=>us3 fun _ _ _=>rfl
theorem Txt.wg:Yb K t.Ad ["self"] []:=T.ij.binds fun _ _ _ _ _ _=>us1 fun _=>rfl
theorem Txt.dn:Yb K t.Ee ["self","name"] []:=T.ci.binds fun _ _ _ _ _ _=>us2 fun _ _=>rfl
theorem Txt.Hc:Yb K t.Ec ["self","name"] []:=T.ti.binds fun _ _ _ _ _ _=>us2 fun _ _=>rfl
theorem Txt.Do:gu K t.Wc:=Us T.WC T.Iu
theorem Txt.ux:gu K t.Md:=Us T.OE T.Gy
theorem Txt.au:gu K t.vd:=Us T.UF T.cy
theorem Txt.vq:gu K t.ud:=Us T.SF T.Vy
end
noncomputable def jg (ns:List Int) (k m:Int):Int:=
 ((((if 0 < (ns.length:Int) then ns.getD (k % (ns.length:Int)).toNat 0 else 0) % 1000003 + 31 * k * k + 1) * 48271 % 999983 * 7919) % 524287) % m
theorem Nd (ns:List Int) (k:Int) {m:Int} (h:0 < m):0 ≤ jg ns k m:=Int.emod_nonneg _ (by omega)
theorem Kd (ns:List Int) (k:Int) {m:Int} (h:0 < m):jg ns k m < m:=Int.emod_lt_of_pos _ h
noncomputable def Be (K:PySem.W.Frag) (a:Addr) (ns:List Int):Sp:=fun vs H Q _=>∃ k m,vs=[.ref a,.int k,.int m]∧Sc K a ns H∧(0 ≤ k∧k < 1000000)∧0 < m∧Q (.int (jg ns k m)) H
section
variable {P:Program} {w:World} {K:PySem.W.Frag} {mg:Str→Option Value} {base:Heap} {t:Adr}
theorem OB (T:Txt w K mg t) (a:Addr) (ns:List Int) (h63:ns.length ≤ 63):Jb P w K mg base CX0 1 t.Ue t.Ve ["_law_script","_law_k","_law_many"] (Be K a ns):=by
 refine T.Ab.ok Xe (fun vs H Q E h=>?_) (fun cdv A outer s H vs Q E hr h=>?_)
 ·obtain ⟨k,m,rfl,_⟩:=h;rfl
 obtain ⟨k,m,rfl,S,⟨h0,h1⟩,hm,q⟩:=h
 refine ⟨_,(fb (Hb (i:=3) Xe.nd rfl (Or.inl rfl) (Qs (dc zx (yc Ob rfl T.bi jc (cb (pv 0) gb)) qb (Zb _)) (Gc xc (pv 0) (Mb xf (pv 1) (yc Ob rfl T.bi jc (cb (pv 0) gb))) (fun _ _=>rfl)) qb))
   (fb (Hb (i:=4) Xe.nd rfl (Or.inl rfl) (Mb Vc (Mb Vc (Mb xf (pv 3) qb) (Mb Yg (Mb Yg qb (pv 1)) (pv 1))) qb))
   (ib (Lb (Mb xf (Mb xf (Mb Yg (Mb xf (Mb Yg (pv 4) qb) qb) qb) qb) (pv 2)))))),?_⟩
 (walk_at "RD")
 refine ⟨_,.inl S.seq,?_⟩
 rw [List.length_map]
 have hkk:(0:Int) ≤ k * k∧k * k < 1000000 * 1000000:=⟨Int.mul_nonneg h0 h0,Int.mul_lt_mul' (by omega) h1 h0 (by decide)⟩
 have fin:∀ i:Int,(0:Int) < 1000003∧EB 31 k∧EB (31 * k) k∧EB (i % 1000003 + 31 * k * k + 1) 48271∧(0:Int) < 999983∧EB ((i % 1000003 + 31 * k * k + 1) * 48271 % 999983) 7919∧(0:Int) < 524287∧0 < m:=by
  intro i
  refine ⟨by decide,.inl (by decide),.inr (by omega),.inr (by decide),by decide,.inr (by decide),by decide,hm⟩
 by_cases c:(0:Int) < (ns.length:Int)
 ·rw [if_pos (decide_eq_true c)]
  have hk:0 ≤ k % (ns.length:Int)∧k % (ns.length:Int) < (ns.length:Int):=⟨Int.emod_nonneg _ (by omega),Int.emod_lt_of_pos _ c⟩
  refine ⟨_,.inl S.seq,by rw [List.length_map];exact c,_,S.seq,?_⟩
  rw [List.length_map]
  have hj:(k % (ns.length:Int)).toNat < ns.length:=by omega
  refine ⟨.int ns[(k % (ns.length:Int)).toNat],?_,_,rfl,?_⟩
  ·have e:=Eb (xs:=ns.map V.int) (j:=(k % (ns.length:Int)).toNat) (v:=.int ns[(k % (ns.length:Int)).toNat]) (by rw [List.getElem?_map,List.getElem?_eq_getElem hj] <;> rfl)
   rwa [Int.toNat_of_nonneg hk.1] at e
  ·obtain ⟨f1,f2,f3,f4,f5,f6,f7,f8⟩:=fin ns[(k % (ns.length:Int)).toNat]
   refine ⟨f1,f2,f3,f4,f5,f6,f7,f8,?_⟩
   have e:jg ns k m=(((ns[(k % (ns.length:Int)).toNat] % 1000003 + 31 * k * k + 1) * 48271 % 999983 * 7919) % 524287) % m:=by
    unfold jg
    rw [if_pos c,List.getD_eq_getElem?_getD,List.getElem?_eq_getElem hj]
    rfl
   rw [← e];exact q
 ·rw [if_neg (by simpa using c)]
  obtain ⟨f1,f2,f3,f4,f5,f6,f7,f8⟩:=fin 0
  refine ⟨f1,f2,f3,f4,f5,f6,f7,f8,?_⟩
  have e:jg ns k m=(((0 % 1000003 + 31 * k * k + 1) * 48271 % 999983 * 7919) % 524287) % m:=by
   unfold jg
   rw [if_neg c]
  rw [← e];exact q
end
theorem fL {w:Str}:w=Str.ofString "" ↔ w.length=0:=by
 constructor
 ·rintro rfl;decide +kernel
 ·intro h
  have e:w.cps=#[]:=Array.eq_empty_of_size_eq_zero h
  have e2:(Str.ofString "").cps=#[]:=by decide +kernel
  cases w
  cases h2:Str.ofString ""
  rw [h2] at e2
  simp only at e e2
  rw [e,e2]
noncomputable def inL (sg:Str) (c:Nat):Bool:=!(Builtin.Str.occurrences sg (ku c) 0 sg.length 1).isEmpty
theorem vx (sg:Str) (c:Nat):inL sg c=decide (c ∈ sg.cps.toList):=StrLaws.found_one sg c
noncomputable def made (w sg:Str) (m:Int):Bool:=if w=Str.ofString "" then false else if m < (w.length:Int) then false else w.cps.toList.all (inL sg)
noncomputable def Qp:Sp:=fun vs H Q _=>∃ w sg m,vs=[.str w,.str sg,.int m]∧w.length ≤ 1000∧NoT H∧Q (.bl (made w sg m)) H
noncomputable def YE:Sp:=fun vs H Q _=>∃ w sg m,vs=[.str w,.str sg,.int m]∧w.length ≤ 1000∧∀ H',ac H H'→Q (.bl (made w sg m)) H'
section
variable {P:Program} {w:World} {K:PySem.W.Frag} {mg:Str→Option Value} {base:Heap} {t:Adr}
theorem RB (T:Txt w K mg t):Jb P w K mg base CX0 1 t.eg t.dg ["word","signs","most"] Qp:=by
 refine Jb.forget (sp:=YE) ?_ fun vs H Q E h=>?_
 ·refine T.mh.ok eu (fun vs H Q E h=>?_) (fun cdv A outer s H vs Q E hr h=>?_)
  ·obtain ⟨w,sg,m,rfl,_⟩:=h;rfl
  obtain ⟨w,sg,m,rfl,hz,q⟩:=h
  have hz':w.length ≤ sizeLine:=Nat.le_trans hz (by decide)
  refine ⟨_,(fb (Ie (PW.pt (Gu (dc xg (pv 0) zc (Zb _)) (Ir (dc zx (yc vv rfl T.bi jc (cb (pv 0) gb)) (pv 2) (Zb _))))) (ib (Lb Qq)) Kc)
   (ib (Lb (yc (uF rfl) rfl T.IL Tz (cb (zd rfl (kJ (pv 0)) (fc (sc:=jb sj) rfl (by decide +kernel)) (N:=["sign","signs"]) (sel:=[none,some 1]) (Jc (M:=["word","signs","most"]) (by decide +kernel)) (Blk.of (fun _ _ _ _=>(zb (i:=0) (ke (N:=["sign","signs"]) (by decide +kernel) rfl) rfl (Or.inl rfl))) (fun _ _ _ _=>⟨_,Qd,by first | rfl | (dsimp only [Cx.block];done) | (dsimp only [Cx.block];exact rfl)⟩) (fun _ _ _ _=>⟨_,(Ld vC (pv 0) (pv 1) (by with_unfolding_all rfl)),by first | rfl | (dsimp only [Cx.block];done) | (dsimp only [Cx.block];exact rfl)⟩))) gb))))),?_⟩
  (walk_at "RD")
  refine ic (decide (w=Str.ofString "") || decide (m < (w.length:Int))) (fun Q hQ=>?_) (fun hb=>?_) (fun hb=>?_)
  ·(walk_at "RD")
   by_cases c:w=Str.ofString ""
   ·rw [if_pos (decide_eq_true c)]
    rw [decide_eq_true c,Bool.true_or] at hQ
    exact hQ
   ·rw [if_neg (by simpa using c)]
    rw [decide_eq_false c,Bool.false_or] at hQ
    exact ⟨hz',hQ⟩
  ·(walk_at "RD")
   have e:made w sg m=false:=by
    unfold made
    simp only [Bool.or_eq_true,decide_eq_true_eq] at hb
    by_cases c:w=Str.ofString ""
    ·rw [if_pos c]
    ·rw [if_neg c,if_pos (hb.resolve_left c)]
   have:=q H (ac.refl H)
   rw [e] at this
   exact this
  ·(walk_at "RD")
   have e:made w sg m=w.cps.toList.all (inL sg):=by
    unfold made
    simp only [Bool.or_eq_false_iff,decide_eq_false_iff_not] at hb
    rw [if_neg hb.1,if_neg hb.2]
   refine Xc.its_map (fun x=>match x with | .str y=>.bl (!(Builtin.Str.occurrences sg y 0 sg.length 1).isEmpty) | _=>.non) (by rw [Lm];exact hz') (fun i x N hx hN=>?_) (fun p hp=>?_)
   ·unfold fj at hx
    rw [List.getElem?_map] at hx
    cases hc:w.cps.toList[i]? with
    | none=>rw [hc] at hx;cases hx
    | some c=>
     rw [hc] at hx
     have hx':V.str (ku c)=x:=Option.some.inj hx
     subst hx'
     (walk_at "RD")
     exact ⟨Sub.name,hN⟩
   ·refine ⟨p,rfl,w.cps.toList.map (inL sg),SqL.of ?_,?_⟩
    ·rw [db]
     unfold fj
     rw [List.map_map,List.map_map]
     rfl
    ·have:=q (upd H p (.lst (List.map (fun x=>match x with | .str y=>.bl (!(Builtin.Str.occurrences sg y 0 sg.length 1).isEmpty) | _=>.non) (fj w)))) (pb hp)
     rw [e] at this
     rw [List.all_map]
     exact this
 ·obtain ⟨w,sg,m,e,hz,nt,q⟩:=h
  exact ⟨nt,w,sg,m,e,hz,fun H' sm=>⟨sm,q⟩⟩
end
noncomputable abbrev PH:Str:=Str.ofString "0123456789"
noncomputable def Bo (c:Nat):Bool:=decide (48 ≤ c∧c ≤ 57)
theorem LC:PH.cps.toList=[48,49,50,51,52,53,54,55,56,57]:=by decide +kernel
theorem BF (c:Nat):inL PH c=Bo c:=by
 rw [vx,LC]
 unfold Bo
 rw [Bool.eq_iff_iff]
 simp only [decide_eq_true_eq,List.mem_cons,List.not_mem_nil,or_false]
 omega
noncomputable abbrev cs (w:Str):List Nat:=w.cps.toList
theorem JB (w:Str):(cs w).length=w.length:=by simp [cs,Str.length]
noncomputable def okB (w:Str):Bool:=decide (1 ≤ (cs w).length) && decide ((cs w).length ≤ 3) && (cs w).all Bo && (decide ((cs w).length ≤ 1) || decide ((cs w).headD 0 ≠ 48))
noncomputable abbrev val (w:Str):Int:=((NumText.digitsVal (cs w):Nat):Int)
noncomputable def Fs (w:Str) (lo hi:Int):V:=if okB w && !(decide (val w < lo) || decide (hi < val w)) then .int (val w) else .non
theorem wA {w:Str} {c:Nat}:w=⟨#[c]⟩↔cs w=[c]:=by
 constructor
 ·rintro rfl;rfl
 ·intro h
  cases w with
  | mk a=>
   have e:a=#[c]:=Array.toList_inj.mp h
   rw [e]
theorem Bw:Str.ofString "0"=⟨#[48]⟩:=by decide +kernel
theorem Vu (w:Str):made w PH 3=(decide (1 ≤ (cs w).length) && decide ((cs w).length ≤ 3) && (cs w).all Bo):=by
 unfold made
 have e:(inL PH)=Bo:=funext BF
 rw [e]
 by_cases h1:w=Str.ofString ""
 ·have h2:=fL.mp h1
  rw [if_pos h1,JB,h2];rfl
 ·have h2:¬ w.length=0:=fun z=>h1 (fL.mpr z)
  rw [if_neg h1,JB]
  by_cases h3:(3:Int) < (w.length:Int)
  ·rw [if_pos h3,decide_eq_false (show ¬ w.length ≤ 3 by omega),Bool.and_false,Bool.false_and]
  ·rw [if_neg h3,decide_eq_true (show 1 ≤ w.length by omega),decide_eq_true (show w.length ≤ 3 by omega)];rfl
theorem Qt {l:List Nat} (h:l.all Bo=true):NumText.AllDigits l:=fun c hc=>by
 have:=List.all_eq_true.mp h c hc
 simpa [Bo] using this
theorem uJ {w:Str} (h:okB w=true):(1 ≤ (cs w).length∧(cs w).length ≤ 3)∧(cs w).all Bo=true:=by
 unfold okB at h
 simp only [Bool.and_eq_true,decide_eq_true_eq] at h
 exact h.1
noncomputable def bB:Sp:=fun vs H Q _=>∃ w,vs=[.str w,.int 3]∧w.length ≤ 1000∧NoT H∧Q (.bl (okB w)) H
noncomputable def KB:Sp:=fun vs H Q _=>∃ w lo hi,vs=[.str w,.int lo,.int hi]∧w.length ≤ 1000∧NoT H∧Q (Fs w lo hi) H
section
variable {P:Program} {w:World} {K:PySem.W.Frag} {mg:Str→Option Value} {base:Heap} {t:Adr}
theorem QJ (T:Txt w K mg t):Jb P w K mg base CX0 2 t.Ji t.xi ["word","most_figures"] bB:=by
 have G_is_made_of:Jb P w K mg base CX0 1 t.eg t.dg ["word","signs","most"] Qp:=RB T
 refine T.Al.ok lu (fun vs H Q E h=>?_) (fun cdv A outer s H vs Q E hr h=>?_)
 ·obtain ⟨w,rfl,_⟩:=h;rfl
 obtain ⟨w,rfl,hz,nt,q⟩:=h
 have hz':w.length ≤ sizeLine:=Nat.le_trans hz (by decide)
 refine ⟨_,(fb (Ie (Hn (ni (xb G_is_made_of hr rfl T.Wn T.mh.kp T.Xn .nil Db (cb (pv 0) (cb (Hf rfl T.qA T.KA) (cb (pv 1) gb)))))) (ib (Lb Qq)) Kc)
   (ib (Lb (tK (Ld xg (pv 0) zc (Zb _)) (Ru (Ld tz (Gc uD (pv 0) qb (fun _ _=>rfl)) zc (Zb _))))))),?_⟩
 refine ic (!made w PH 3) (fun Q hQ=>?_) (fun hb=>?_) (fun hb=>?_)
 ·(walk_at "RD"; repeat (simp only [Qp];walk_at "RD"))
  exact ⟨hz,nt,hQ⟩
 ·(walk_at "RD")
  have e:okB w=false:=by
   have hb':made w PH 3=false:=by simpa using hb
   rw [Vu] at hb'
   unfold okB
   rw [hb'];rfl
  rw [e] at q
  exact q
 ·have hb':made w PH 3=true:=by simpa using hb
  rw [Vu] at hb'
  rw [re]
  dsimp only
  refine oI (.bl (okB w)) (fun Q hQ=>?_) ?_
  case refine_2=>exact q
  (walk_at "RD")
  have hb2:(1 ≤ (cs w).length∧(cs w).length ≤ 3)∧(cs w).all Bo=true:=by
   simpa only [Bool.and_eq_true,decide_eq_true_eq] using hb'
  obtain ⟨c,r,hcr⟩:∃ c r,cs w=c :: r:=by
   cases h:cs w with
   | nil=>rw [h] at hb2;exact absurd hb2.1.1 (by decide)
   | cons c r=>exact ⟨c,r,rfl⟩
  have ok:okB w=(decide ((cs w).length ≤ 1) || decide ((cs w).headD 0 ≠ 48)):=by
   unfold okB
   rw [hb',Bool.true_and]
  by_cases c0:w=Str.ofString "0"
  ·rw [if_pos (decide_eq_true c0)]
   have e:cs w=[48]:=by rw [c0,Bw]
   rw [ok,e] at hQ
   exact hQ
  ·rw [if_neg (by simpa using c0)]
   refine ⟨hz',c,?_,?_⟩
   ·have:=Eb (xs:=cs w) (j:=0) (v:=c) (by rw [hcr];rfl)
    exact this
   ·have e2:decide ((⟨#[c]⟩:Str)=Str.ofString "0")=decide (c=48):=by
     rw [Bw]
     by_cases h48:c=48
     ·rw [h48];simp
     ·rw [decide_eq_false h48,decide_eq_false]
      intro z
      have z2:=wA.mp z
      exact h48 (List.cons.inj z2).1
    rw [e2]
    have e3:okB w = !decide (c=48):=by
     rw [ok,hcr]
     show (decide ((c :: r).length ≤ 1) || decide (c ≠ 48))=_
     by_cases h48:c=48
     ·have hr:r ≠ []:=fun z=>c0 (by rw [Bw];exact wA.mpr (by rw [hcr,z,h48]))
      have:¬ (c :: r).length ≤ 1:=by
       cases r with
       | nil=>exact absurd rfl hr
       | cons d r=>simp
      rw [decide_eq_false this,h48];rfl
     ·rw [decide_eq_true h48,Bool.or_true,decide_eq_false h48];rfl
    rw [← e3]
    exact hQ
theorem MG (T:Txt w K mg t):Jb P w K mg base CX0 3 t.Kj t.Gj ["word","low","high"] KB:=by
 have G_is_number:Jb P w K mg base CX0 2 t.Ji t.xi ["word","most_figures"] bB:=QJ T
 refine T.Wl.ok Sr (fun vs H Q E h=>?_) (fun cdv A outer s H vs Q E hr h=>?_)
 ·obtain ⟨w,lo,hi,rfl,_⟩:=h;rfl
 obtain ⟨w,lo,hi,rfl,hz,nt,q⟩:=h
 refine ⟨_,(fb (Ie (Hn (ni (xb G_is_number hr rfl T.Ax T.Al.kp T.Ox .nil Db (cb (pv 0) (cb (Hf rfl T.Dr T.Aq) gb))))) (ib (Lb Wy)) Kc)
   (fb (Hb (i:=3) Sr.nd rfl (Or.inl rfl) (bf wD rfl T.SD pk (cb (pv 0) gb)))
   (fb (Ie (PW.pt (Gu (dc du (pv 3) (pv 1) (Zb _)) (Ir (dc zx (pv 3) (pv 2) (Zb _))))) (ib (Lb Wy)) Kc)
   (ib (Lb (pv 3)))))),?_⟩
 refine ic (!okB w) (fun Q hQ=>?_) (fun hb=>?_) (fun hb=>?_)
 ·(walk_at "RD"; repeat (simp only [bB];walk_at "RD"))
  exact ⟨hz,nt,hQ⟩
 ·(walk_at "RD")
  have hb':okB w=false:=by simpa using hb
  have e:Fs w lo hi=.non:=by unfold Fs;rw [hb'];rfl
  rw [e] at q;exact q
 ·have hb':okB w=true:=by simpa using hb
  have h3:(1 ≤ (cs w).length∧(cs w).length ≤ 3)∧(cs w).all Bo=true:=by
   have:=hb'
   unfold okB at this
   simp only [Bool.and_eq_true,decide_eq_true_eq] at this
   exact this.1
  have hl:=JB w
  have hi':intText? w=some (val w):=intText_digits (Qt h3.2) (fun z=>by have z':cs w=[]:=z;rw [z'] at h3;exact absurd h3.1.1 (by decide)) (by omega)
  (walk_at "RD")
  refine ⟨val w,hi',by omega,?_⟩
  refine ic (decide (val w < lo) || decide (hi < val w)) (fun Q hQ=>?_) (fun hc=>?_) (fun hc=>?_)
  ·(walk_at "RD")
   by_cases c:val w < lo
   ·rw [if_pos (decide_eq_true c)]
    rw [decide_eq_true c,Bool.true_or] at hQ
    exact hQ
   ·rw [if_neg (by simpa using c)]
    rw [decide_eq_false c,Bool.false_or] at hQ
    exact hQ
  ·(walk_at "RD")
   have e:Fs w lo hi=.non:=by unfold Fs;rw [hb',hc];rfl
   rw [e] at q;exact q
  ·(walk_at "RD")
   have e:Fs w lo hi=.int (val w):=by unfold Fs;rw [hb',hc];rfl
   rw [e] at q;exact q
end
theorem jp {n:Nat} (h:n < 1000):n.log2 < 1920:=by
 by_cases h0:n=0
 ·subst h0;decide
 ·rw [Nat.log2_lt h0]
  exact Nat.lt_of_lt_of_le h (Nat.le_trans (show 1000 ≤ 2 ^ 10 by decide) (Nat.pow_le_pow_right (by decide) (by decide)))
theorem YD:∀ n,n < 1000→(Nat.toDigits 10 n).length ≤ 3:=by decide +kernel
theorem Yo {n:Int} (h0:0 ≤ n) (h1:n ≤ 999):(Str.ofString (toString n)).length ≤ 3:=by
 have e:=PySem.W.KIN.signs_num n.toNat
 rw [Int.toNat_of_nonneg h0] at e
 have l:(Str.ofString (toString n)).length=(Str.ofString (toString n)).cps.toList.length:=by simp [Str.length]
 rw [l,e,List.length_map]
 exact YD _ (by omega)
noncomputable abbrev Wg:Str:=Str.ofString "abcdefghijklmnopqrstuvwxyz"
noncomputable def jC:Sp:=fun vs H Q _=>∃ w,vs=[.str w]∧w.length ≤ 1000∧NoT H∧Q (.bl (made w Wg 8)) H
section
variable {P:Program} {w:World} {K:PySem.W.Frag} {mg:Str→Option Value} {base:Heap} {t:Adr}
theorem xH (T:Txt w K mg t):Jb P w K mg base CX0 2 t.Vl t.Hm ["word"] jC:=by
 have G_is_made_of:Jb P w K mg base CX0 1 t.eg t.dg ["word","signs","most"] Qp:=RB T
 refine T.gp.ok kz (fun vs H Q E h=>?_) (fun cdv A outer s H vs Q E hr h=>?_)
 ·obtain ⟨w,rfl,_⟩:=h;rfl
 obtain ⟨w,rfl,hz,nt,q⟩:=h
 refine ⟨_,(ib (Lb (xb G_is_made_of hr rfl T.Wn T.mh.kp T.Xn .nil Db (cb (pv 0) (cb (Hf rfl T.MA T.uC) (cb (Hf rfl T.Zq T.Sq) gb)))))),?_⟩
 (walk_at "RD"; repeat (simp only [Qp];walk_at "RD"))
 exact ⟨hz,nt,q⟩
end
noncomputable abbrev nl:Str:=Str.ofString "\n"
noncomputable abbrev bk:Str:=Str.ofString " "
theorem EL:nl=⟨#[10]⟩:=by decide +kernel
theorem ZE:bk=⟨#[32]⟩:=by decide +kernel
noncomputable def fe (x:Str):List (List Str):=(Txt.split x nl).map fun r=>Txt.split r bk
theorem Mr:∀ {ys:List Str} {y:Str},y ∈ ys→y.length ≤ (ys.map (·.length)).sum
 | [],_,h=>nomatch h
 | a :: r,y,h=>by
  rw [List.map_cons,List.sum_cons]
  rcases List.mem_cons.mp h with rfl | h
  ·omega
  ·have:=Mr h;omega
theorem vI {x y r:Str} (hy:1 ≤ y.length) (h:r ∈ Txt.split x y):r.length ≤ x.length + 1:=by
 have h1:=PyProof.Rows.split_weight x y hy
 have h2:=Mr h
 omega
theorem vp {x y:Str} (hy:1 ≤ y.length):(Txt.split x y).length ≤ x.length + 1:=by
 have h1:=PyProof.Rows.split_weight x y hy
 omega
theorem LF (x y:Str):Txt.split x y ≠ []:=by
 unfold Txt.split
 split
 ·simp
 ·split
  ·simp
  ·rw [StrLaws.partsBetween_eq]
   obtain ⟨p,r,e⟩:=StrLaws.partsFrom_ne x y.length 0 (Builtin.Str.occurrences x y 0 x.length (x.length + 1))
   rw [e];simp
noncomputable def LL (H0 H:Hp) (p:Addr) (rows:List (List Str)):Prop:=∃ qs:List Addr,H p=some (.lst (qs.map V.ref))∧H0 p=none∧p ∉ qs∧qs.length=rows.length∧∀ (i:Nat) (q:Addr) (r:List Str),qs[i]? = some q→rows[i]? = some r→H q=some (.lst (wb r))∧H0 q=none
noncomputable def Fy:Sp:=fun vs H Q _=>∃ x,vs=[.str x]∧x.length ≤ 20000∧NoT H∧∀ p H',ac H H'→NoT H'→LL H H' p (fe x)→Q (.ref p) H'
theorem Qu:nl.length=1:=by decide +kernel
theorem Tn:bk.length=1:=by decide +kernel
section
variable {P:Program} {w:World} {K:PySem.W.Frag} {mg:Str→Option Value} {base:Heap} {t:Adr}
theorem zF (T:Txt w K mg t):Jb P w K mg base CX0 1 t.Ts t.At ["text"] Fy:=by
 refine T.Px.ok CF (fun vs H Q E h=>?_) (fun cdv A outer s H vs Q E hr h=>?_)
 ·obtain ⟨x,rfl,_⟩:=h;rfl
 obtain ⟨x,rfl,hz,nt,q⟩:=h
 have hzz:∀ n:Nat,n ≤ 40000→n ≤ sizeLine:=fun n h=>Nat.le_trans h (by decide)
 refine ⟨_,(ib (Lb (zd rfl (Lc (rg PySem.F.plainAttrs_str PySem.F.slot_str_split PySem.F.type_str_split jy (pv 0) (cb zc gb))) (fc (sc:=jb Aw) rfl (by decide +kernel)) (N:=["row"]) (sel:=[none]) (Jc (M:=["text"]) (by decide +kernel)) (Blk.of (fun _ _ _ _=>(zb (i:=0) (ke (N:=["row"]) (by decide +kernel) rfl) rfl (Or.inl rfl))) (fun _ _ _ _=>⟨_,Qd,by first | rfl | (dsimp only [Cx.block];done) | (dsimp only [Cx.block];exact rfl)⟩) (fun _ _ _ _=>⟨_,(rg PySem.F.plainAttrs_str PySem.F.slot_str_split PySem.F.type_str_split jy (pv 0) (cb zc gb)),by first | rfl | (dsimp only [Cx.block];done) | (dsimp only [Cx.block];exact rfl)⟩))))),?_⟩
 (walk_at "RD")
 have hy:1 ≤ nl.length:=by rw [Qu];exact Nat.le_refl _
 have hy2:1 ≤ bk.length:=by rw [Tn];exact Nat.le_refl _
 have hs:=vp (x:=x) hy
 have hs':(wb (Txt.split x nl)).length ≤ sizeLine:=by unfold wb;rw [List.length_map];exact hzz _ (by omega)
 refine ⟨by rw [Qu];decide,hzz _ (by omega),hzz _ (show (Txt.split x nl).length ≤ 40000 by omega),fun p hp=>⟨⟨_,SqL.of db⟩,?_⟩⟩
 refine Xc.list_mk (xs:=wb (Txt.split x nl)) (fun v=>match v with | .str r=>.lst (wb (Txt.split r bk)) | _=>.lst []) (SqL.of db) hs' (fun v=>by cases v <;> rfl) (fun i v H1 N hx sm nt1 hN=>?_) (fun qs H1 sm nt1 hl al p2 hp2=>?_)
 ·unfold wb at hx
  rw [List.getElem?_map] at hx
  cases hr:(Txt.split x nl)[i]? with
  | none=>rw [hr] at hx;cases hx
  | some r=>
   rw [hr] at hx
   have e:=Option.some.inj hx
   subst e
   have hm:=vI hy (List.mem_of_getElem? hr)
   have hs2:=vp (x:=r) hy2
   (walk_at "RD")
   exact ⟨Sub.name,by rw [Tn];decide,hzz _ (by omega),hzz _ (show (Txt.split r bk).length ≤ 40000 by omega),hN⟩
 ·have sm0:ac H H1:=(pb hp).trans sm
  refine q _ _ (sm0.updN (sm0.free hp2)) ((nt1 (nt.upd)).upd) ⟨qs,db,sm0.free hp2,fun hm=>?_,?_,fun i q' r h1 h2=>?_⟩
  ·obtain ⟨j,hj,e⟩:=List.getElem_of_mem hm
   have hj2:j < (wb (Txt.split x nl)).length:=by omega
   have:=al j p2 _ (by rw [List.getElem?_eq_getElem hj,e]) (List.getElem?_eq_getElem hj2)
   rw [hp2] at this
   cases this.1
  ·rw [hl];unfold fe wb;rw [List.length_map,List.length_map]
  ·unfold fe at h2
   rw [List.getElem?_map] at h2
   cases hr:(Txt.split x nl)[i]? with
   | none=>rw [hr] at h2;cases h2
   | some r0=>
    rw [hr] at h2
    have e:=Option.some.inj h2
    subst e
    have z:=al i q' (.str r0) h1 (by unfold wb;rw [List.getElem?_map,hr];rfl)
    refine ⟨by rw [lb (vb z.1 hp2)];exact z.1,?_⟩
    have:=z.2
    by_cases hq:q'=p
    ·rw [hq];exact hp
    ·rwa [lb hq] at this
end
end My
namespace My
open PySem L2
structure WD where
 k:Nat
 name:Str
 start:Int
 fin:Int
 off:Int
 near:Int
 least:Int
noncomputable def de:Nat→Str
 | 0=>Str.ofString "car"
 | 1=>Str.ofString "foot"
 | _=>Str.ofString "tram"
noncomputable def Adr.cw (t:Adr):Nat→Addr
 | 0=>t.jd
 | 1=>t.Pc
 | _=>t.Mc
noncomputable def Wq (d:WD):List (Str × V):=[(Str.ofString "kind",.str (de d.k)),(Str.ofString "name",.str d.name),(Str.ofString "start",.int d.start),(Str.ofString "end",.int d.fin),(Str.ofString "off",.int d.off),(Str.ofString "near",.int d.near),(Str.ofString "least",.int d.least)]
noncomputable abbrev zr:List Str:=[Str.ofString "kind",Str.ofString "name",Str.ofString "start",Str.ofString "end",Str.ofString "off",Str.ofString "near",Str.ofString "least"]
theorem Zr (d:WD):(Wq d).map (·.1)=zr:=rfl
noncomputable def ue (t:Adr) (H:Hp) (p:Addr) (d:WD):Prop:=d.k < 3∧∃ dx,H p=some (.ins (t.cw d.k) dx (Wq d))
theorem ue.same {t:Adr} {H H':Hp} {p:Addr} {d:WD} (h:ue t H p d) (s:ac H H'):ue t H' p d:=⟨h.1,h.2.imp fun dx e=>s _ _ e⟩
noncomputable def isW (t:Adr) (C:Addr):Prop:=∃ k,k < 3∧C=t.cw k
noncomputable def Tl (d:WD):Int:=match d.k with | 0=>1 | 1=>0 | _=>2
noncomputable def Dt (d:WD):Int:=match d.k with | 0=>2 | 1=>d.off | _=>1
section
variable {w:World} {K:PySem.W.Frag} {mg:Str→Option Value} {t:Adr}
theorem Txt.clw (T:Txt w K mg t):∀ k,Cls K (t.cw k)
 | 0=>T.Mp
 | 1=>T.Rm
 | _ + 2=>T.Wm
theorem Txt.naw (T:Txt w K mg t) {f:Str} (hf:f ∈ zr):∀ k,Ib K (t.cw k) f:=by
 intro k
 simp only [zr,List.mem_cons,List.not_mem_nil,or_false] at hf
 rcases hf with rfl | rfl | rfl | rfl | rfl | rfl | rfl
 ·match k with
  | 0=>exact T.Cr
  | 1=>exact T.Vo
  | _ + 2=>exact T.uq
 ·match k with
  | 0=>exact T.ar
  | 1=>exact T.Ip
  | _ + 2=>exact T.xq
 ·match k with
  | 0=>exact T.Wp
  | 1=>exact T.io
  | _ + 2=>exact T.oo
 ·match k with
  | 0=>exact T.ut
  | 1=>exact T.kr
  | _ + 2=>exact T.Hq
 ·match k with
  | 0=>exact T.Vs
  | 1=>exact T.Ar
  | _ + 2=>exact T.Dq
 ·match k with
  | 0=>exact T.Iq
  | 1=>exact T.ap
  | _ + 2=>exact T.pp
 ·match k with
  | 0=>exact T.zq
  | 1=>exact T.qo
  | _ + 2=>exact T.jo
theorem Txt.cw_inj (T:Txt w K mg t) {j k:Nat} (hj:j < 3) (hk:k < 3) (e:t.cw j=t.cw k):j=k:=by
 match j,k,hj,hk with
 | 0,0,_,_=>rfl
 | 0,1,_,_=>exact absurd e T.Zh
 | 0,2,_,_=>exact absurd e T.Xh
 | 1,0,_,_=>exact absurd e.symm T.Zh
 | 1,1,_,_=>rfl
 | 1,2,_,_=>exact absurd e T.Eh
 | 2,0,_,_=>exact absurd e.symm T.Xh
 | 2,1,_,_=>exact absurd e.symm T.Eh
 | 2,2,_,_=>rfl
 | j + 3,_,h,_=>omega
 | _,k + 3,_,h=>omega
theorem ue.fld (T:Txt w K mg t) {H:Hp} {p:Addr} {d:WD} (h:ue t H p d) {f:Str} {v:V} (i:Nat) (hi:zr.findIdx? (· == f)=some i) (hv:(Wq d)[i]? = some (f,v)):Oi K H p f v:=by
 obtain ⟨_,dx,e⟩:=h
 have hm:f ∈ zr:=by
  obtain ⟨hlt,h1,_⟩:=List.findIdx?_eq_some_iff_getElem.mp hi
  have:zr[i]=f:=by simpa using h1
  rw [← this];exact List.getElem_mem hlt
 exact ⟨_,dx,_,e,T.clw _,T.naw hm _,Dd zr i (Zr d) hi hv⟩
theorem ue.f_kind (T:Txt w K mg t) {H:Hp} {p:Addr} {d:WD} (h:ue t H p d):Oi K H p (Str.ofString "kind") (.str (de d.k)):=h.fld T 0 (by decide +kernel) rfl
theorem ue.f_name (T:Txt w K mg t) {H:Hp} {p:Addr} {d:WD} (h:ue t H p d):Oi K H p (Str.ofString "name") (.str d.name):=h.fld T 1 (by decide +kernel) rfl
theorem ue.f_start (T:Txt w K mg t) {H:Hp} {p:Addr} {d:WD} (h:ue t H p d):Oi K H p (Str.ofString "start") (.int d.start):=h.fld T 2 (by decide +kernel) rfl
theorem ue.f_end (T:Txt w K mg t) {H:Hp} {p:Addr} {d:WD} (h:ue t H p d):Oi K H p (Str.ofString "end") (.int d.fin):=h.fld T 3 (by decide +kernel) rfl
theorem ue.f_off (T:Txt w K mg t) {H:Hp} {p:Addr} {d:WD} (h:ue t H p d):Oi K H p (Str.ofString "off") (.int d.off):=h.fld T 4 (by decide +kernel) rfl
theorem ue.f_near (T:Txt w K mg t) {H:Hp} {p:Addr} {d:WD} (h:ue t H p d):Oi K H p (Str.ofString "near") (.int d.near):=h.fld T 5 (by decide +kernel) rfl
theorem ue.f_least (T:Txt w K mg t) {H:Hp} {p:Addr} {d:WD} (h:ue t H p d):Oi K H p (Str.ofString "least") (.int d.least):=h.fld T 6 (by decide +kernel) rfl
end
noncomputable def Ws (t:Adr):Sp:=fun vs H Q _=>∃ (p dx:Addr) (d:WD),vs=[.ref p,.str (de d.k),.str d.name,.int d.start,.int d.fin,.int d.off,.int d.near,.int d.least]∧d.k < 3∧H p=some (.ins (t.cw d.k) dx [])∧Q .non (upd H p (.ins (t.cw d.k) dx (Wq d)))
noncomputable def Ck (t:Adr) (k:Nat):Sp:=fun vs H Q _=>∃ (p dx:Addr) (d:WD),vs=[.ref p,.str d.name,.int d.start,.int d.fin,.int d.off,.int d.near,.int d.least]∧d.k=k∧H p=some (.ins (t.cw d.k) dx [])∧Q .non (upd H p (.ins (t.cw d.k) dx (Wq d)))
section
variable {P:Program} {w:World} {K:PySem.W.Frag} {mg:Str→Option Value} {base:Heap} {t:Adr}
theorem Qw (T:Txt w K mg t):Jb P w K mg base CX0 1 t.Ef t.Og ["self","kind","name","start","end","off","near","least"] (Ws t):=by
 refine T.Cs.ok Tp (fun vs H Q E h=>?_) (fun cdv A outer s H vs Q E hr h=>?_)
 ·obtain ⟨p,dx,d,rfl,_⟩:=h;rfl
 obtain ⟨p,dx,d,rfl,hk,hp,q⟩:=h
 refine ⟨_,(fb (Pe (pv 0) (pv 1) rfl)
   (fb (Pe (pv 0) (pv 2) rfl)
   (fb (Pe (pv 0) (pv 3) rfl)
   (fb (Pe (pv 0) (pv 4) rfl)
   (fb (Pe (pv 0) (pv 5) rfl)
   (fb (Pe (pv 0) (pv 6) rfl)
   (ib (Pe (pv 0) (pv 7) rfl)))))))),?_⟩
 (walk_at "RD")
 have na:∀ {f:Str},f ∈ zr→Ib K (t.cw d.k) f:=fun hf=>T.naw hf d.k
 refine ⟨_,_,_,hp,T.clw _,na (by decide +kernel),by decide,?_⟩
 refine ⟨_,_,_,db,T.clw _,na (by decide +kernel),uo (n:=999) (by decide),?_⟩
 refine ⟨_,_,_,db,T.clw _,na (by decide +kernel),uo (n:=999) (uo (n:=998) (by decide)),?_⟩
 refine ⟨_,_,_,db,T.clw _,na (by decide +kernel),uo (n:=999) (uo (n:=998) (uo (n:=997) (by decide))),?_⟩
 refine ⟨_,_,_,db,T.clw _,na (by decide +kernel),uo (n:=999) (uo (n:=998) (uo (n:=997) (uo (n:=996) (by decide)))),?_⟩
 refine ⟨_,_,_,db,T.clw _,na (by decide +kernel),uo (n:=999) (uo (n:=998) (uo (n:=997) (uo (n:=996) (uo (n:=995) (by decide))))),?_⟩
 refine ⟨_,_,_,db,T.clw _,na (by decide +kernel),uo (n:=999) (uo (n:=998) (uo (n:=997) (uo (n:=996) (uo (n:=995) (uo (n:=994) (by decide)))))),?_⟩
 simp only [Qg]
 rw [show og (Str.ofString "kind") (V.str (de d.k)) ([]:List (Str × V))=[(Str.ofString "kind",V.str (de d.k))] from Ic [] rfl (by decide +kernel),
  show og (Str.ofString "name") (V.str d.name) ([(Str.ofString "kind",V.str (de d.k))]:List (Str × V))=[(Str.ofString "kind",V.str (de d.k)),(Str.ofString "name",V.str d.name)] from Ic [Str.ofString "kind"] rfl (by decide +kernel),
  show og (Str.ofString "start") (V.int d.start) ([(Str.ofString "kind",V.str (de d.k)),(Str.ofString "name",V.str d.name)]:List (Str × V))=[(Str.ofString "kind",V.str (de d.k)),(Str.ofString "name",V.str d.name),(Str.ofString "start",V.int d.start)] from Ic [Str.ofString "kind",Str.ofString "name"] rfl (by decide +kernel),
  show og (Str.ofString "end") (V.int d.fin) ([(Str.ofString "kind",V.str (de d.k)),(Str.ofString "name",V.str d.name),(Str.ofString "start",V.int d.start)]:List (Str × V))=[(Str.ofString "kind",V.str (de d.k)),(Str.ofString "name",V.str d.name),(Str.ofString "start",V.int d.start),(Str.ofString "end",V.int d.fin)] from Ic [Str.ofString "kind",Str.ofString "name",Str.ofString "start"] rfl (by decide +kernel),
  show og (Str.ofString "off") (V.int d.off) ([(Str.ofString "kind",V.str (de d.k)),(Str.ofString "name",V.str d.name),(Str.ofString "start",V.int d.start),(Str.ofString "end",V.int d.fin)]:List (Str × V))=[(Str.ofString "kind",V.str (de d.k)),(Str.ofString "name",V.str d.name),(Str.ofString "start",V.int d.start),(Str.ofString "end",V.int d.fin),(Str.ofString "off",V.int d.off)] from Ic [Str.ofString "kind",Str.ofString "name",Str.ofString "start",Str.ofString "end"] rfl (by decide +kernel),
  show og (Str.ofString "near") (V.int d.near) ([(Str.ofString "kind",V.str (de d.k)),(Str.ofString "name",V.str d.name),(Str.ofString "start",V.int d.start),(Str.ofString "end",V.int d.fin),(Str.ofString "off",V.int d.off)]:List (Str × V))=[(Str.ofString "kind",V.str (de d.k)),(Str.ofString "name",V.str d.name),(Str.ofString "start",V.int d.start),(Str.ofString "end",V.int d.fin),(Str.ofString "off",V.int d.off),(Str.ofString "near",V.int d.near)] from Ic [Str.ofString "kind",Str.ofString "name",Str.ofString "start",Str.ofString "end",Str.ofString "off"] rfl (by decide +kernel),
  show og (Str.ofString "least") (V.int d.least) ([(Str.ofString "kind",V.str (de d.k)),(Str.ofString "name",V.str d.name),(Str.ofString "start",V.int d.start),(Str.ofString "end",V.int d.fin),(Str.ofString "off",V.int d.off),(Str.ofString "near",V.int d.near)]:List (Str × V))=[(Str.ofString "kind",V.str (de d.k)),(Str.ofString "name",V.str d.name),(Str.ofString "start",V.int d.start),(Str.ofString "end",V.int d.fin),(Str.ofString "off",V.int d.off),(Str.ofString "near",V.int d.near),(Str.ofString "least",V.int d.least)] from Ic [Str.ofString "kind",Str.ofString "name",Str.ofString "start",Str.ofString "end",Str.ofString "off",Str.ofString "near"] rfl (by decide +kernel)]
 exact q
theorem nI (T:Txt w K mg t):Jb P w K mg base CX0 2 t.Af t.Kg ["self","name","start","end","off","near","least"] (Ck t 0):=by
 have G_Way_init:Jb P w K mg base CX0 1 t.Ef t.Og ["self","kind","name","start","end","off","near","least"] (Ws t):=Qw T
 refine T.Ml.ok Pl (fun vs H Q E h=>?_) (fun cdv A outer s H vs Q E hr h=>?_)
 ·obtain ⟨p,dx,d,rfl,_⟩:=h;rfl
 obtain ⟨p,dx,d,rfl,hk,hp,q⟩:=h
 refine ⟨_,(ib (Ub (jt rfl T.cH T.Om G_Way_init hr T.zn .nil Db (cb (pv 0) (cb zc (cb (pv 1) (cb (pv 2) (cb (pv 3) (cb (pv 4) (cb (pv 5) (cb (pv 6) gb))))))))))),?_⟩
 (walk_at "RD")
 exact ⟨p,dx,d,by rw [hk];rfl,by omega,hp,q⟩
theorem qF (T:Txt w K mg t):Jb P w K mg base CX0 2 t.Oe t.Mf ["self","name","start","end","off","near","least"] (Ck t 1):=by
 have G_Way_init:Jb P w K mg base CX0 1 t.Ef t.Og ["self","kind","name","start","end","off","near","least"] (Ws t):=Qw T
 refine T.Xk.ok xl (fun vs H Q E h=>?_) (fun cdv A outer s H vs Q E hr h=>?_)
 ·obtain ⟨p,dx,d,rfl,_⟩:=h;rfl
 obtain ⟨p,dx,d,rfl,hk,hp,q⟩:=h
 refine ⟨_,(ib (Ub (jt rfl T.cH T.Om G_Way_init hr T.zn .nil Db (cb (pv 0) (cb zc (cb (pv 1) (cb (pv 2) (cb (pv 3) (cb (pv 4) (cb (pv 5) (cb (pv 6) gb))))))))))),?_⟩
 (walk_at "RD")
 exact ⟨p,dx,d,by rw [hk];rfl,by omega,hp,q⟩
theorem rF (T:Txt w K mg t):Jb P w K mg base CX0 2 t.Ke t.Qf ["self","name","start","end","off","near","least"] (Ck t 2):=by
 have G_Way_init:Jb P w K mg base CX0 1 t.Ef t.Og ["self","kind","name","start","end","off","near","least"] (Ws t):=Qw T
 refine T.Jk.ok Il (fun vs H Q E h=>?_) (fun cdv A outer s H vs Q E hr h=>?_)
 ·obtain ⟨p,dx,d,rfl,_⟩:=h;rfl
 obtain ⟨p,dx,d,rfl,hk,hp,q⟩:=h
 refine ⟨_,(ib (Ub (jt rfl T.cH T.Om G_Way_init hr T.zn .nil Db (cb (pv 0) (cb zc (cb (pv 1) (cb (pv 2) (cb (pv 3) (cb (pv 4) (cb (pv 5) (cb (pv 6) gb))))))))))),?_⟩
 (walk_at "RD")
 exact ⟨p,dx,d,by rw [hk];rfl,by omega,hp,q⟩
end
noncomputable def Oj (t:Adr) (C:Addr):Sp:=fun vs H Q _=>∃ p d,vs=[.ref p]∧ue t H p d∧C=t.cw d.k∧Q (.int (Tl d)) H
noncomputable def Zl (t:Adr) (C:Addr):Sp:=fun vs H Q _=>∃ p d,vs=[.ref p]∧ue t H p d∧C=t.cw d.k∧Q (.int (Dt d)) H
section
variable {P:Program} {w:World} {K:PySem.W.Frag} {mg:Str→Option Value} {base:Heap} {t:Adr}
theorem Ap (T:Txt w K mg t):Jb P w K mg base CX0 1 t.Zf t.Th ["self"] (Oj t (t.cw 0)):=by
 refine T.Tk.ok ip (fun vs H Q E h=>?_) (fun cdv A outer s H vs Q E hr h=>?_)
 ·obtain ⟨p,d,rfl,_⟩:=h;rfl
 obtain ⟨p,d,rfl,W,hC,q⟩:=h
 have hk:=(T.cw_inj (by decide) W.1 hC).symm
 refine ⟨_,(ib (Lb qb)),?_⟩
 rw [show Tl d=1 by unfold Tl;simp only [hk]] at q
 (walk_at "RD")
 exact q
theorem zo (T:Txt w K mg t):Jb P w K mg base CX0 1 t.mf t.Ug ["self"] (Oj t (t.cw 1)):=by
 refine T.Lj.ok yo (fun vs H Q E h=>?_) (fun cdv A outer s H vs Q E hr h=>?_)
 ·obtain ⟨p,d,rfl,_⟩:=h;rfl
 obtain ⟨p,d,rfl,W,hC,q⟩:=h
 have hk:=(T.cw_inj (by decide) W.1 hC).symm
 refine ⟨_,(ib (Lb qb)),?_⟩
 rw [show Tl d=0 by unfold Tl;simp only [hk]] at q
 (walk_at "RD")
 exact q
theorem Ao (T:Txt w K mg t):Jb P w K mg base CX0 1 t.wf t.Sg ["self"] (Oj t (t.cw 2)):=by
 refine T.Jj.ok vo (fun vs H Q E h=>?_) (fun cdv A outer s H vs Q E hr h=>?_)
 ·obtain ⟨p,d,rfl,_⟩:=h;rfl
 obtain ⟨p,d,rfl,W,hC,q⟩:=h
 have hk:=(T.cw_inj (by decide) W.1 hC).symm
 refine ⟨_,(ib (Lb qb)),?_⟩
 rw [show Tl d=2 by unfold Tl;simp only [hk]] at q
 (walk_at "RD")
 exact q
theorem II (T:Txt w K mg t):RI P w K mg base CX0 1 (isW t) "ready" ["self"] (Oj t):=by
 refine ⟨fun C hC=>?_⟩
 obtain ⟨k,hk,rfl⟩:=hC
 match k,hk with
 | 0,_=>exact ⟨_,_,T.Mp,T.xr,Ap T,T.Uq⟩
 | 1,_=>exact ⟨_,_,T.Rm,T.Pp,zo T,T.Xp⟩
 | 2,_=>exact ⟨_,_,T.Wm,T.Gp,Ao T,T.Jp⟩
theorem Pq (T:Txt w K mg t):Jb P w K mg base CX0 1 t.Fg t.Pi ["self"] (Zl t (t.cw 0)):=by
 refine T.gm.ok Yq (fun vs H Q E h=>?_) (fun cdv A outer s H vs Q E hr h=>?_)
 ·obtain ⟨p,d,rfl,_⟩:=h;rfl
 obtain ⟨p,d,rfl,W,hC,q⟩:=h
 have hk:=(T.cw_inj (by decide) W.1 hC).symm
 refine ⟨_,(ib (Lb qb)),?_⟩
 rw [show Dt d=2 by unfold Dt;simp only [hk]] at q
 (walk_at "RD")
 exact q
theorem Up (T:Txt w K mg t):Jb P w K mg base CX0 1 t.Tf t.Vh ["self"] (Zl t (t.cw 1)):=by
 refine T.Yk.ok Uo (fun vs H Q E h=>?_) (fun cdv A outer s H vs Q E hr h=>?_)
 ·obtain ⟨p,d,rfl,_⟩:=h;rfl
 obtain ⟨p,d,rfl,W,hC,q⟩:=h
 have hk:=(T.cw_inj (by decide) W.1 hC).symm
 refine ⟨_,(ib (Lb (Ac (pv 0) rfl))),?_⟩
 rw [show Dt d=d.off by unfold Dt;simp only [hk]] at q
 (walk_at "RD")
 exact ⟨_,W.f_off T,q⟩
theorem Lp (T:Txt w K mg t):Jb P w K mg base CX0 1 t.Rf t.Uh ["self"] (Zl t (t.cw 2)):=by
 refine T.Wk.ok Xo (fun vs H Q E h=>?_) (fun cdv A outer s H vs Q E hr h=>?_)
 ·obtain ⟨p,d,rfl,_⟩:=h;rfl
 obtain ⟨p,d,rfl,W,hC,q⟩:=h
 have hk:=(T.cw_inj (by decide) W.1 hC).symm
 refine ⟨_,(ib (Lb qb)),?_⟩
 rw [show Dt d=1 by unfold Dt;simp only [hk]] at q
 (walk_at "RD")
 exact q
theorem MJ (T:Txt w K mg t):RI P w K mg base CX0 1 (isW t) "fade" ["self"] (Zl t):=by
 refine ⟨fun C hC=>?_⟩
 obtain ⟨k,hk,rfl⟩:=hC
 match k,hk with
 | 0,_=>exact ⟨_,_,T.Mp,T.bu,Pq T,T.Jt⟩
 | 1,_=>exact ⟨_,_,T.Rm,T.br,Up T,T.ir⟩
 | 2,_=>exact ⟨_,_,T.Wm,T.Oq,Lp T,T.lr⟩
end
noncomputable def jl (c:Nat):List (List Nat)→List Nat
 | []=>[]
 | [a]=>a
 | a :: b :: r=>a ++ c :: jl c (b :: r)
theorem pC {c:Nat}:∀ {a b X Y:List Nat},c ∉ a→c ∉ b→a ++ c :: X=b ++ c :: Y→a=b∧X=Y
 | [],[],X,Y,_,_,h=>⟨rfl,(List.cons.inj h).2⟩
 | [],d :: b,X,Y,_,hb,h=>absurd (List.cons.inj h).1 (fun z=>hb (by simp [← z]))
 | d :: a,[],X,Y,ha,_,h=>absurd (List.cons.inj h).1 (fun z=>ha (by simp [z]))
 | d :: a,e :: b,X,Y,ha,hb,h=>by
  obtain ⟨h1,h2⟩:=List.cons.inj h
  obtain ⟨e1,e2⟩:=pC (fun z=>ha (List.mem_cons_of_mem _ z)) (fun z=>hb (List.mem_cons_of_mem _ z)) h2
  exact ⟨by rw [h1,e1],e2⟩
theorem EG {c:Nat}:∀ {ps qs:List (List Nat)},(∀ p ∈ ps,c ∉ p)→(∀ q ∈ qs,c ∉ q)→ps ≠ []→qs ≠ []→jl c ps=jl c qs→ps=qs
 | [a],[b],_,_,_,_,h=>by rw [show a=b from h]
 | [a],b :: b' :: r,ha,_,_,_,h=>absurd (show c ∈ a by rw [show a=b ++ c :: jl c (b' :: r) from h];simp) (ha a (by simp))
 | a :: a' :: r,[b],_,hb,_,_,h=>absurd (show c ∈ b by rw [show b=a ++ c :: jl c (a' :: r) from h.symm];simp) (hb b (by simp))
 | a :: a' :: r,b :: b' :: s,ha,hb,_,_,h=>by
  obtain ⟨e1,e2⟩:=pC (ha a (by simp)) (hb b (by simp)) (show a ++ c :: jl c (a' :: r)=b ++ c :: jl c (b' :: s) from h)
  rw [e1,EG (fun p hp=>ha p (List.mem_cons_of_mem _ hp)) (fun q hq=>hb q (List.mem_cons_of_mem _ hq)) (by simp) (by simp) e2]
 | [],_,_,_,h,_,_=>absurd rfl h
 | _ :: _,[],_,_,_,h,_=>absurd rfl h
theorem DG {c d:Nat}:∀ {ps:List (List Nat)},d ∈ jl c ps→d=c∨∃ p ∈ ps,d ∈ p
 | [],h=>nomatch h
 | [a],h=>.inr ⟨a,by simp,h⟩
 | a :: b :: r,h=>by
  rcases List.mem_append.mp (show d ∈ a ++ c :: jl c (b :: r) from h) with h | h
  ·exact .inr ⟨a,by simp,h⟩
  ·rcases List.mem_cons.mp h with h | h
   ·exact .inl h
   ·rcases DG h with h | ⟨p,hp,h⟩
    ·exact .inl h
    ·exact .inr ⟨p,List.mem_cons_of_mem _ hp,h⟩
theorem gk (c:Nat):∀ ys:List Str,(Str.join ⟨#[c]⟩ ys).cps.toList=jl c (ys.map (·.cps.toList))
 | []=>rfl
 | [a]=>rfl
 | a :: b :: r=>by
  show (a ++ ⟨#[c]⟩ ++ Str.join ⟨#[c]⟩ (b :: r)).cps.toList=_
  rw [Str.cps_append,Array.toList_append,Str.cps_append,Array.toList_append,gk c (b :: r)]
  simp [jl]
theorem Ft {x y:Str} (h:x.cps.toList=y.cps.toList):x=y:=by
 cases x;cases y
 exact congrArg Str.mk (Array.toList_inj.mp h)
theorem Kr {c:Nat} {ys:List Str} (hn:ys ≠ []) (hf:∀ y ∈ ys,c ∉ y.cps.toList):Txt.split (Str.join ⟨#[c]⟩ ys) ⟨#[c]⟩=ys:=by
 have e:=congrArg (·.cps.toList) (StrLaws.join_split (Str.join ⟨#[c]⟩ ys) ⟨#[c]⟩)
 simp only [gk] at e
 have e2:=EG (c:=c) (ps:=(Txt.split (Str.join ⟨#[c]⟩ ys) ⟨#[c]⟩).map (·.cps.toList)) (qs:=ys.map (·.cps.toList)) (fun p hp=>by
  obtain ⟨y,hy,rfl⟩:=List.mem_map.mp hp
  exact StrLaws.split_free _ c y hy) (fun p hp=>by
  obtain ⟨y,hy,rfl⟩:=List.mem_map.mp hp
  exact hf y hy) (by simp [LF]) (by simpa using hn) e
 exact (List.map_inj_right fun x y h=>Ft h).mp e2
noncomputable abbrev num (v:Int):Str:=Str.ofString (toString v)
theorem xI:∀ n,n < 1000→(decide (1 ≤ ((Nat.toDigits 10 n).map Char.toNat).length) && decide (((Nat.toDigits 10 n).map Char.toNat).length ≤ 3) && ((Nat.toDigits 10 n).map Char.toNat).all Bo && (decide (((Nat.toDigits 10 n).map Char.toNat).length ≤ 1) || decide (((Nat.toDigits 10 n).map Char.toNat).headD 0 ≠ 48)) &&
  decide (NumText.digitsVal ((Nat.toDigits 10 n).map Char.toNat)=n))=true:=by decide +kernel
theorem my {v:Int} (h0:0 ≤ v) (h1:v < 1000):okB (num v)=true∧val (num v)=v:=by
 have e:=PySem.W.KIN.signs_num v.toNat
 rw [Int.toNat_of_nonneg h0] at e
 have a:=xI v.toNat (by omega)
 rw [← e,Bool.and_eq_true,decide_eq_true_eq] at a
 exact ⟨a.1,by show ((NumText.digitsVal (cs (num v)):Nat):Int)=v;rw [a.2];omega⟩
theorem Fj {v lo hi:Int} (h0:0 ≤ v) (h1:v < 1000) (hl:lo ≤ v) (hh:v ≤ hi):Fs (num v) lo hi=.int v:=by
 obtain ⟨a,b⟩:=my h0 h1
 unfold Fs
 rw [a,b,decide_eq_false (by omega:¬ v < lo),decide_eq_false (by omega:¬ hi < v)];rfl
theorem tI {u v:Int} (h0:0 ≤ u) (h1:u < 1000) (h2:0 ≤ v) (h3:v < 1000) (e:num u=num v):u=v:=by
 rw [← (my h0 h1).2,e,(my h2 h3).2]
theorem Xx {v:Int} (h0:0 ≤ v) (h1:v < 1000):∀ c ∈ (num v).cps.toList,48 ≤ c∧c ≤ 57:=fun c hc=>by
 have:=List.all_eq_true.mp (uJ (my h0 h1).1).2 c hc
 simpa [Bo] using this
theorem rJ:∀ c ∈ Wg.cps.toList,97 ≤ c∧c ≤ 122:=by decide +kernel
theorem RJ:∀ k,k < 26→97 + k ∈ Wg.cps.toList:=by decide +kernel
theorem Ye {x:Str} (h:made x Wg 8=true):(1 ≤ x.length∧x.length ≤ 8)∧∀ c ∈ x.cps.toList,97 ≤ c∧c ≤ 122:=by
 unfold made at h
 split at h
 ·cases h
 ·rename_i h1
  split at h
  ·cases h
  ·rename_i h2
   have h3:¬ x.length=0:=fun z=>h1 (fL.mpr z)
   refine ⟨by omega,fun c hc=>?_⟩
   have:=List.all_eq_true.mp h c hc
   rw [vx] at this
   exact rJ c (of_decide_eq_true this)
theorem mv {x:Str} (h0:1 ≤ x.length) (h1:x.length ≤ 8) (h:∀ c ∈ x.cps.toList,97 ≤ c∧c ≤ 122):made x Wg 8=true:=by
 unfold made
 rw [if_neg (fun z=>by have:=fL.mp z;omega),if_neg (by omega)]
 refine List.all_eq_true.mpr fun c hc=>?_
 have:=h c hc
 rw [vx]
 have e:=RJ (c - 97) (by omega)
 rw [show 97 + (c - 97)=c by omega] at e
 exact decide_eq_true e
structure WOk (n:Int) (d:WD):Prop where
 k:d.k < 3
 nm:made d.name Wg 8=true
 st:0 ≤ d.start∧d.start < n
 fi:0 ≤ d.fin∧d.fin < n
 ne:d.start ≠ d.fin
 of:0 ≤ d.off∧d.off ≤ 30
 nr:0 ≤ d.near∧d.near ≤ 30
 le:1 ≤ d.least∧d.least ≤ 60
structure COk (n:Int) (ds:List WD):Prop where
 nn:2 ≤ n∧n ≤ 99
 ln:1 ≤ ds.length∧ds.length ≤ 12
 al:∀ d ∈ ds,WOk n d
 nd:(ds.map (·.name)).Nodup
noncomputable def Uj (d:WD):List Str:=[de d.k,d.name,num d.start,num d.fin,num d.off,num d.near,num d.least]
noncomputable def Ph (n:Int) (ds:List WD):List (List Str):=[Str.ofString "ring",num n] :: ds.map Uj
noncomputable def Ct (n:Int) (ds:List WD):Str:=Str.join nl ((Ph n ds).map (Str.join bk))
noncomputable def et (x:Str):Prop:=x.length ≤ 8∧(32:Nat) ∉ x.cps.toList∧(10:Nat) ∉ x.cps.toList
theorem Ms (k:Nat):et (de k):=by
 match k with
 | 0=>exact ⟨by decide +kernel,by decide +kernel,by decide +kernel⟩
 | 1=>exact ⟨by decide +kernel,by decide +kernel,by decide +kernel⟩
 | _ + 2=>exact ⟨show (Str.ofString "tram").length ≤ 8 by decide +kernel,show (32:Nat) ∉ (Str.ofString "tram").cps.toList by decide +kernel,show (10:Nat) ∉ (Str.ofString "tram").cps.toList by decide +kernel⟩
theorem Gd {v:Int} (h0:0 ≤ v) (h1:v < 1000):et (num v):=
 ⟨Nat.le_trans (Yo h0 (by omega)) (by decide),fun z=>by have:=Xx h0 h1 _ z;omega,fun z=>by have:=Xx h0 h1 _ z;omega⟩
theorem Um {x:Str} (h:made x Wg 8=true):et x:=
 ⟨(Ye h).1.2,fun z=>by have:=(Ye h).2 _ z;omega,fun z=>by have:=(Ye h).2 _ z;omega⟩
theorem WOk.plain {n:Int} {d:WD} (h:WOk n d) (hn:n ≤ 99):∀ x ∈ Uj d,et x:=fun x hx=>by
 have h1:=h.st;have h2:=h.fi;have h3:=h.of;have h4:=h.nr;have h5:=h.le
 simp only [Uj,List.mem_cons,List.not_mem_nil,or_false] at hx
 rcases hx with rfl | rfl | rfl | rfl | rfl | rfl | rfl
 ·exact Ms _
 ·exact Um h.nm
 ·exact Gd (by omega) (by omega)
 ·exact Gd (by omega) (by omega)
 ·exact Gd (by omega) (by omega)
 ·exact Gd (by omega) (by omega)
 ·exact Gd (by omega) (by omega)
theorem COk.plain {n:Int} {ds:List WD} (h:COk n ds):∀ r ∈ Ph n ds,∀ x ∈ r,et x:=fun r hr x hx=>by
 have hn:=h.nn
 rcases List.mem_cons.mp hr with rfl | hr
 ·simp only [List.mem_cons,List.not_mem_nil,or_false] at hx
  rcases hx with rfl | rfl
  ·exact ⟨by decide +kernel,by decide +kernel,by decide +kernel⟩
  ·exact Gd (by omega) (by omega)
 ·obtain ⟨d,hd,rfl⟩:=List.mem_map.mp hr
  exact (h.al d hd).plain hn.2 x hx
theorem wv {rs:List (List Str)} (h0:rs ≠ []) (h1:∀ r ∈ rs,r ≠ []) (h2:∀ r ∈ rs,∀ x ∈ r,et x):fe (Str.join nl (rs.map (Str.join bk)))=rs:=by
 unfold fe
 rw [EL,ZE]
 rw [Kr (by simpa using h0) (fun y hy=>by
  obtain ⟨r,hr,rfl⟩:=List.mem_map.mp hy
  rw [gk]
  intro z
  rcases DG z with z | ⟨p,hp,z⟩
  ·cases z
  ·obtain ⟨x,hx,rfl⟩:=List.mem_map.mp hp
   exact (h2 r hr x hx).2.2 z)]
 rw [List.map_map]
 have:∀ r ∈ rs,((fun r=>Txt.split r ⟨#[32]⟩) ∘ Str.join ⟨#[32]⟩) r=r:=fun r hr=>Kr (h1 r hr) fun x hx=>(h2 r hr x hx).2.1
 exact (List.map_congr_left this).trans (List.map_id rs)
theorem Hz {n:Int} {ds:List WD} (h:COk n ds):fe (Ct n ds)=Ph n ds:=wv (by simp [Ph]) (fun r hr=>by
 rcases List.mem_cons.mp hr with rfl | hr
 ·simp
 ·obtain ⟨d,hd,rfl⟩:=List.mem_map.mp hr
  simp [Uj]) h.plain
theorem Ei (sep:Str) (B:Nat):∀ ys:List Str,(∀ y ∈ ys,y.length ≤ B)→(Str.join sep ys).length ≤ ys.length * (B + sep.length)
 | [],_=>by show (Str.empty).length ≤ _;exact Nat.zero_le _
 | [a],h=>by
  have:=h a (by simp)
  show a.length ≤ _
  simp only [List.length_cons,List.length_nil];omega
 | a :: b :: r,h=>by
  have h1:=h a (by simp)
  have h2:=Ei sep B (b :: r) fun y hy=>h y (List.mem_cons_of_mem _ hy)
  show (a ++ sep ++ Str.join sep (b :: r)).length ≤ _
  rw [Rh,Rh,List.length_cons,Nat.succ_mul]
  omega
theorem NC {n:Int} {ds:List WD} (h:COk n ds):(Ct n ds).length ≤ 1000:=by
 have h1:∀ y ∈ (Ph n ds).map (Str.join bk),y.length ≤ 63:=fun y hy=>by
  obtain ⟨r,hr,rfl⟩:=List.mem_map.mp hy
  have:=Ei bk 8 r fun x hx=>(h.plain r hr x hx).1
  rw [Tn] at this
  have hl:r.length ≤ 7:=by
   rcases List.mem_cons.mp hr with rfl | hr
   ·simp
   ·obtain ⟨d,hd,rfl⟩:=List.mem_map.mp hr
    simp [Uj]
  omega
 have h2:=Ei nl 63 _ h1
 rw [Qu] at h2
 have h3:((Ph n ds).map (Str.join bk)).length ≤ 13:=by
  have:=h.ln
  simp [Ph];omega
 unfold Ct
 omega
end My
namespace My
open PySem L2
noncomputable abbrev Br:List Str:=[Str.ofString "row",Str.ofString "told",Str.ofString "place"]
noncomputable def rdF (row:Int) (ta:Addr) (pl:Int):List (Str × V):=[(Str.ofString "row",.int row),(Str.ofString "told",.ref ta),(Str.ofString "place",.int pl)]
theorem rh (row:Int) (ta:Addr) (pl:Int):(rdF row ta pl).map (·.1)=Br:=rfl
theorem GB (row:Int) (ta:Addr) (pl v:Int):og (Str.ofString "place") (.int v) (rdF row ta pl)=rdF row ta v:=by
 unfold rdF
 simp only [og]
 rw [if_neg (by decide +kernel),if_neg (by decide +kernel)];rfl
noncomputable def Ce (t:Adr) (H:Hp) (p:Addr) (row:Int) (ws:List Str) (pl:Nat):Prop:=
 (ws.length ≤ 1000∧∀ x ∈ ws,x.length ≤ 1000)∧∃ dx ta,H p=some (.ins t.Bb dx (rdF row ta pl))∧H ta=some (.lst (wb ws))
noncomputable def Fc (p:Addr) (H H':Hp):Prop:=∀ b u,b ≠ p→H b=some u→H' b=some u
theorem Fc.trans {p:Addr} {H H1 H2:Hp} (a:Fc p H H1) (b:Fc p H1 H2):Fc p H H2:=fun c u n e=>b c u n (a c u n e)
theorem Fc.of {p:Addr} {H H1:Hp} (a:ac H H1):Fc p H H1:=fun c u _ e=>a c u e
theorem Fc.put {p:Addr} {H:Hp} {o:HO}:Fc p H (upd H p o):=fun c u n e=>by rw [lb n];exact e
theorem Nb (ws:List Str):(wb ws).length=ws.length:=by unfold wb;rw [List.length_map]
theorem uE {ws:List Str} {i:Nat} {x:Str} (h:ws[i]? = some x):(wb ws)[i]? = some (.str x):=by unfold wb;rw [List.getElem?_map,h];rfl
theorem Yh (ws:List Str):(wb ws).all fk=true:=by unfold wb;simp [fk]
theorem jm (x:Str) (xs:List Str):inV (.str x) (wb xs)=decide (x ∈ xs):=by
 unfold inV wb
 rw [List.any_map,Bool.eq_iff_iff]
 simp only [List.any_eq_true,Function.comp,eqV,beq_iff_eq,decide_eq_true_eq]
 constructor
 ·rintro ⟨y,hy,rfl⟩;exact hy
 ·intro h;exact ⟨x,h,rfl⟩
section
variable {w:World} {K:PySem.W.Frag} {mg:Str→Option Value} {t:Adr} {H H':Hp} {p:Addr} {row:Int} {ws:List Str} {pl:Nat}
theorem Ce.same (h:Ce t H p row ws pl) (s:ac H H'):Ce t H' p row ws pl:=by
 obtain ⟨hz,dx,ta,e1,e2⟩:=h
 exact ⟨hz,dx,ta,s _ _ e1,s _ _ e2⟩
theorem Ce.sameX {q:Addr} (h:Ce t H p row ws pl) (s:Fc q H H') (n:p ≠ q) (k:∃ C dx fs,H q=some (.ins C dx fs)):Ce t H' p row ws pl:=by
 obtain ⟨hz,dx,ta,e1,e2⟩:=h
 obtain ⟨C,dq,fs,e3⟩:=k
 exact ⟨hz,dx,ta,s _ _ n e1,s _ _ (Xd e2 e3 (by intro z;cases z)) e2⟩
theorem Ce.ins (h:Ce t H p row ws pl):∃ C dx fs,H p=some (.ins C dx fs):=by
 obtain ⟨hz,dx,ta,e1,e2⟩:=h
 exact ⟨_,_,_,e1⟩
theorem Ce.no {m:Str} (row:Int) (ta:Addr) (pl:Int) (h:Br.contains m=false):(rdF row ta pl).lookup m=none:=Gm Br (rh ..) h
theorem Go (T:Txt w K mg t) {dx ta:Addr} {pl:Int} (e:H p=some (.ins t.Bb dx (rdF row ta pl))):Oi K H p (Str.ofString "place") (.int pl):=
 ⟨_,dx,_,e,T.ub,T.oe,Dd Br 2 (rh ..) (by decide +kernel) rfl⟩
theorem qx (T:Txt w K mg t) {dx ta:Addr} {pl:Int} (e:H p=some (.ins t.Bb dx (rdF row ta pl))):Oi K H p (Str.ofString "told") (.ref ta):=
 ⟨_,dx,_,e,T.ub,T.vi,Dd Br 1 (rh ..) (by decide +kernel) rfl⟩
end
noncomputable def YF (t:Adr):Sp:=fun vs H Q _=>∃ (p dx ta:Addr) (row:Int),vs=[.ref p,.int row,.ref ta]∧H p=some (.ins t.Bb dx [])∧Q .non (upd H p (.ins t.Bb dx (rdF row ta 0)))
noncomputable def yi (t:Adr):Sp:=fun vs H Q _=>∃ p row ws pl,vs=[.ref p]∧Ce t H p row ws pl∧pl ≤ ws.length∧Q (.str (ws.getD pl (Str.ofString ""))) H
noncomputable def ww (t:Adr):Sp:=fun vs H Q _=>∃ p row ws pl,vs=[.ref p]∧Ce t H p row ws pl∧Q (.bl (decide (pl < ws.length))) H
noncomputable def eJ (t:Adr) (H:Hp) (p:Addr) (row:Int) (ws:List Str) (pl:Nat) (R:Hp→Prop):Prop:=∀ H',Fc p H H'→(NoT H→NoT H')→Ce t H' p row ws pl→R H'
noncomputable def zt (t:Adr):Sp:=fun vs H Q _=>∃ p row ws pl,vs=[.ref p,.bl true]∧Ce t H p row ws pl∧eJ t H p row ws (pl + 1) (Q .non)
noncomputable def bt (K:PySem.W.Frag) (t:Adr):Sp:=fun vs H Q _=>∃ p row ws pl x c xs,vs=[.ref p,.ref c]∧Ce t H p row ws pl∧ws[pl]? = some x∧SqL K H c (wb xs)∧x ∈ xs∧eJ t H p row ws (pl + 1) (Q (.str x))
noncomputable def Ut (t:Adr):Sp:=fun vs H Q _=>∃ p row ws pl x lo hi v,vs=[.ref p,.int lo,.int hi]∧Ce t H p row ws pl∧ws[pl]? = some x∧Fs x lo hi=.int v∧NoT H∧eJ t H p row ws (pl + 1) (Q (.int v))
noncomputable def VA (t:Adr):Sp:=fun vs H Q _=>∃ p row ws pl,vs=[.ref p]∧Ce t H p row ws pl∧pl=ws.length∧Q .non H
section
variable {P:Program} {w:World} {K:PySem.W.Frag} {mg:Str→Option Value} {base:Heap} {t:Adr}
theorem LJ (T:Txt w K mg t):Jb P w K mg base CX0 1 t.Zd t.Se ["self","row","told"] (YF t):=by
 refine T.Xi.ok xj (fun vs H Q E h=>?_) (fun cdv A outer s H vs Q E hr h=>?_)
 ·obtain ⟨p,dx,ta,row,rfl,_⟩:=h;rfl
 obtain ⟨p,dx,ta,row,rfl,hp,q⟩:=h
 refine ⟨_,(fb (Pe (pv 0) (pv 1) rfl)
   (fb (Pe (pv 0) (pv 2) rfl)
   (ib (Pe (pv 0) qb rfl)))),?_⟩
 (walk_at "RD")
 refine ⟨_,_,_,hp,T.ub,T.Wi,by decide,?_⟩
 refine ⟨_,_,_,db,T.ub,T.vi,uo (n:=999) (by decide),?_⟩
 refine ⟨_,_,_,db,T.ub,T.oe,uo (n:=999) (uo (n:=998) (by decide)),?_⟩
 simp only [Qg]
 rw [show og (Str.ofString "row") (V.int row) ([]:List (Str × V))=[(Str.ofString "row",V.int row)] from Ic [] rfl (by decide +kernel),
  show og (Str.ofString "told") (V.ref ta) ([(Str.ofString "row",V.int row)]:List (Str × V))=[(Str.ofString "row",V.int row),(Str.ofString "told",V.ref ta)] from Ic [Str.ofString "row"] rfl (by decide +kernel),
  show og (Str.ofString "place") (V.int 0) ([(Str.ofString "row",V.int row),(Str.ofString "told",V.ref ta)]:List (Str × V))=[(Str.ofString "row",V.int row),(Str.ofString "told",V.ref ta),(Str.ofString "place",V.int 0)] from Ic [Str.ofString "row",Str.ofString "told"] rfl (by decide +kernel)]
 exact q
theorem Ak (T:Txt w K mg t):Jb P w K mg base CX0 1 t.Xb t.wc ["self"] (yi t):=by
 refine T.oi.ok Yl (fun vs H Q E h=>?_) (fun cdv A outer s H vs Q E hr h=>?_)
 ·obtain ⟨p,row,ws,pl,rfl,_⟩:=h;rfl
 obtain ⟨p,row,ws,pl,rfl,⟨hz,dx,ta,e1,e2⟩,hle,q⟩:=h
 refine ⟨_,(fb (Ie (dc xg (Ac (pv 0) rfl) (yc Ob rfl T.bi jc (cb (Ac (pv 0) rfl) gb)) (Zb _)) (ib (Lb zc)) Kc)
   (ib (Lb (Gc xc (Ac (pv 0) rfl) (Ac (pv 0) rfl) (fun _ _=>rfl))))),?_⟩
 (walk_at "RD")
 refine ic (decide ((pl:Int)=(ws.length:Int))) (fun Q hQ=>?_) (fun c=>?_) (fun c=>?_)
 ·(walk_at "RD")
  refine ⟨_,Go T e1,_,qx T e1,_,rfl,_,.inl (SqL.of e2),rfl,?_⟩
  rw [Nb]
  (walk_at "RD")
  exact hQ
 ·(walk_at "RD")
  have c':pl=ws.length:=by have:=of_decide_eq_true c;omega
  rw [show ws.getD pl (Str.ofString "")=Str.ofString "" by rw [List.getD_eq_getElem?_getD,List.getElem?_eq_none (by omega)];rfl] at q
  exact q
 ·(walk_at "RD")
  have c':pl < ws.length:=by have:=of_decide_eq_false c;omega
  have hx:ws[pl]? = some ws[pl]:=List.getElem?_eq_getElem c'
  rw [List.getD_eq_getElem?_getD,hx] at q
  exact ⟨_,qx T e1,_,Go T e1,_,rfl,_,_,rfl,SqL.of e2,_,Eb (uE hx),q⟩
theorem OC (T:Txt w K mg t):Jb P w K mg base CX0 1 t.Qc t.gd ["self"] (ww t):=by
 refine T.Bg.ok wj (fun vs H Q E h=>?_) (fun cdv A outer s H vs Q E hr h=>?_)
 ·obtain ⟨p,row,ws,pl,rfl,_⟩:=h;rfl
 obtain ⟨p,row,ws,pl,rfl,⟨hz,dx,ta,e1,e2⟩,q⟩:=h
 refine ⟨_,(ib (Lb (Ld du (Ac (pv 0) rfl) (yc Ob rfl T.bi jc (cb (Ac (pv 0) rfl) gb)) (Zb _)))),?_⟩
 (walk_at "RD")
 have e:decide (pl < ws.length)=decide ((pl:Int) < (ws.length:Int)):=by rw [Bool.eq_iff_iff];simp
 rw [e] at q
 refine ⟨_,Go T e1,_,qx T e1,_,rfl,_,.inl (SqL.of e2),?_⟩
 rw [Nb]
 exact ⟨_,rfl,q⟩
theorem Tw (T:Txt w K mg t):Jb P w K mg base CX0 1 t.uc t.Cc ["self","good"] (zt t):=by
 refine T.qg.ok ii (fun vs H Q E h=>?_) (fun cdv A outer s H vs Q E hr h=>?_)
 ·obtain ⟨p,row,ws,pl,rfl,_⟩:=h;rfl
 obtain ⟨p,row,ws,pl,rfl,⟨hz,dx,ta,e1,e2⟩,q⟩:=h
 refine ⟨_,(fb (Ie (Hn (ni (pv 1))) (ib Bk) Kc)
   (ib (su (pv 0) qb UG))),?_⟩
 (walk_at "RD")
 refine ic false (fun Q hQ=>?_) (fun hc=>nomatch hc) (fun _=>?_)
 ·(walk_at "RD")
  exact hQ
 ·(walk_at "RD")
  refine ⟨_,_,_,e1,T.ub,T.oe,_,Dd Br 2 (rh ..) (by decide +kernel) rfl,_,rfl,_,_,e1,by rw [← List.length_map (f:=(·.1)),rh];decide,?_⟩
  rw [GB]
  exact q _ Fc.put (fun n=>n.upd) ⟨hz,dx,ta,db,by rw [lb (Xd e2 e1 (by intro z;cases z))];exact e2⟩
theorem Rx (T:Txt w K mg t):Jb P w K mg base CX0 2 t.gc t.Bc ["self","choices"] (bt K t):=by
 have G_RowReader_ahead:Jb P w K mg base CX0 1 t.Xb t.wc ["self"] (yi t):=Ak T
 have G_RowReader_take:Jb P w K mg base CX0 1 t.uc t.Cc ["self","good"] (zt t):=Tw T
 refine T.zf.ok Vd (fun vs H Q E h=>?_) (fun cdv A outer s H vs Q E hr h=>?_)
 ·obtain ⟨p,row,ws,pl,x,c,xs,rfl,_⟩:=h;rfl
 obtain ⟨p,row,ws,pl,x,c,xs,rfl,R,hx,hc,hm,q⟩:=h
 refine ⟨_,(fb (Hb (i:=2) Vd.nd rfl (Or.inl rfl) (Wd (pv 0) T.ub T.pd G_RowReader_ahead hr T.qd .nil Db))
   (fb (Ub (Tc (pv 0) T.ub T.ie G_RowReader_take hr T.ce .nil Db (cb (Ld im (pv 2) (pv 1) (by with_unfolding_all rfl)) gb)))
   (ib (Lb (pv 2))))),?_⟩
 have hlt:pl < ws.length:=(List.getElem?_eq_some_iff.mp hx).1
 have hg:ws.getD pl (Str.ofString "")=x:=by rw [List.getD_eq_getElem?_getD,hx];rfl
 obtain ⟨_,dx,ta,e1,e2⟩:=id R
 (walk_at "RD")
 refine ⟨_,_,e1,Ce.no _ _ _ (by decide +kernel),⟨p,row,ws,pl,rfl,R,by omega,?_⟩⟩
 rw [hg]
 (walk_at "RD")
 refine ⟨_,_,e1,Ce.no _ _ _ (by decide +kernel),_,.inl hc,rfl,Yh xs,?_⟩
 rw [jm,decide_eq_true hm]
 refine ⟨p,row,ws,pl,rfl,R,fun H' s1 s2 s3=>?_⟩
 (walk_at "RD")
 exact q H' s1 s2 s3
theorem wx (T:Txt w K mg t):Jb P w K mg base CX0 4 t.Vb t.lc ["self","low","high"] (Ut t):=by
 have G_RowReader_ahead:Jb P w K mg base CX0 3 t.Xb t.wc ["self"] (yi t):=(Ak T).mono (by decide)
 have G_RowReader_take:Jb P w K mg base CX0 3 t.uc t.Cc ["self","good"] (zt t):=(Tw T).mono (by decide)
 have G_figured:Jb P w K mg base CX0 3 t.Kj t.Gj ["word","low","high"] KB:=MG T
 refine T.We.ok Pd (fun vs H Q E h=>?_) (fun cdv A outer s H vs Q E hr h=>?_)
 ·obtain ⟨p,row,ws,pl,x,lo,hi,v,rfl,_⟩:=h;rfl
 obtain ⟨p,row,ws,pl,x,lo,hi,v,rfl,R,hx,hv,nt,q⟩:=h
 refine ⟨_,(fb (Hb (i:=3) Pd.nd rfl (Or.inl rfl) (xb G_figured hr rfl T.Iv T.Wl.kp T.sv .nil Db (cb (Wd (pv 0) T.ub T.pd G_RowReader_ahead hr T.qd .nil Db) (cb (pv 1) (cb (pv 2) gb)))))
   (fb (Ub (Tc (pv 0) T.ub T.ie G_RowReader_take hr T.ce .nil Db (cb (Ld xB (pv 3) Wy (Zb _)) gb)))
   (ib (Lb (pv 3))))),?_⟩
 have hlt:pl < ws.length:=(List.getElem?_eq_some_iff.mp hx).1
 have hg:ws.getD pl (Str.ofString "")=x:=by rw [List.getD_eq_getElem?_getD,hx];rfl
 obtain ⟨hz,dx,ta,e1,e2⟩:=id R
 (walk_at "RD")
 refine ⟨_,_,e1,Ce.no _ _ _ (by decide +kernel),⟨p,row,ws,pl,rfl,R,by omega,?_⟩⟩
 rw [hg]
 (walk_at "RD")
 refine ⟨x,lo,hi,rfl,hz.2 x (List.mem_of_getElem? hx),nt,?_⟩
 rw [hv]
 (walk_at "RD")
 refine ⟨_,_,e1,Ce.no _ _ _ (by decide +kernel),?_⟩
 refine ⟨p,row,ws,pl,rfl,R,fun H' s1 s2 s3=>?_⟩
 (walk_at "RD")
 exact q H' s1 s2 s3
theorem IG (T:Txt w K mg t):Jb P w K mg base CX0 2 t.Yc t.Cd ["self"] (VA t):=by
 have G_RowReader_has_more:Jb P w K mg base CX0 1 t.Qc t.gd ["self"] (ww t):=OC T
 refine T.qh.ok Kl (fun vs H Q E h=>?_) (fun cdv A outer s H vs Q E hr h=>?_)
 ·obtain ⟨p,row,ws,pl,rfl,_⟩:=h;rfl
 obtain ⟨p,row,ws,pl,rfl,R,hl,q⟩:=h
 obtain ⟨hz,dx,ta,e1,e2⟩:=id R
 refine ⟨_,(ib (Ie (ni (Wd (pv 0) T.ub T.yg G_RowReader_has_more hr T.Ag .nil Db)) (ib Bk) Kc)),?_⟩
 (walk_at "RD")
 refine ic false (fun Q hQ=>?_) (fun hc=>nomatch hc) (fun _=>?_)
 ·(walk_at "RD")
  refine ⟨_,_,e1,Ce.no _ _ _ (by decide +kernel),⟨p,row,ws,pl,rfl,R,?_⟩⟩
  rw [decide_eq_false (by omega)]
  exact ⟨_,rfl,hQ⟩
 ·(walk_at "RD")
  exact q
end
end My
namespace My
open PySem L2
noncomputable abbrev wd (ws:List Str) (k:Nat):Str:=ws.getD k (Str.ofString "")
theorem aL {ws:List Str} (h:∀ x ∈ ws,x.length ≤ 1000) (k:Nat):(wd ws k).length ≤ 1000:=by
 unfold wd
 rw [List.getD_eq_getElem?_getD]
 cases e:ws[k]? with
 | none=>exact Nat.le_trans (show (Str.ofString "").length ≤ 0 by decide +kernel) (Nat.zero_le _)
 | some x=>exact h x (List.mem_of_getElem? e)
theorem wH {ws:List Str} {k:Nat} (h:wd ws k ≠ Str.ofString ""):k < ws.length:=by
 refine Classical.byContradiction fun z=>h ?_
 unfold wd
 rw [List.getD_eq_getElem?_getD,List.getElem?_eq_none (by omega)];rfl
theorem As (w:Str) (lo hi:Int):(∃ v,Fs w lo hi=.int v∧lo ≤ v∧v ≤ hi∧w ≠ Str.ofString "")∨Fs w lo hi=.non:=by
 unfold Fs
 split
 ·rename_i h
  rw [Bool.and_eq_true] at h
  refine .inl ⟨val w,rfl,?_,?_,fun z=>?_⟩
  ·have:=h.2;simp at this;omega
  ·have:=h.2;simp at this;omega
  ·have h1:=h.1
   rw [z] at h1
   exact absurd h1 (by decide +kernel)
 ·exact .inr rfl
theorem vn {i:Int} (h:i.natAbs < 100000):i.natAbs.log2 < 1920:=by
 by_cases h0:i.natAbs=0
 ·rw [h0];decide
 ·exact (Nat.log2_lt h0).mpr (Nat.lt_trans h (by decide))
noncomputable def Sv (t:Adr) (i:Int) (k:Nat) (p:Addr) (H:Hp) (E:XK):Prop:=∀ dx H',Fc p H H'→(NoT H→NoT H')→H' dx=some (.ext (XD dx [(Str.ofString "row",.int i),(Str.ofString "word",.int k)]))→E (.ref t.Wc) (some dx) H'
theorem Sv.step {t:Adr} {i:Int} {k:Nat} {p:Addr} {H H1:Hp} {E:XK} (h:Sv t i k p H E) (s:Fc p H H1) (n:NoT H→NoT H1):Sv t i k p H1 E:=fun dx H' s' n' e=>h dx H' (s.trans s') (fun z=>n' (n z)) e
theorem UK {w:World} {K:PySem.W.Frag} {mg:Str→Option Value} {t:Adr} {H:Hp} {p:Addr} {row:Int} (T:Txt w K mg t) {dx ta:Addr} {pl:Int} (e:H p=some (.ins t.Bb dx (rdF row ta pl))):Oi K H p (Str.ofString "row") (.int row):=
 ⟨_,dx,_,e,T.ub,T.Wi,Dd Br 0 (rh ..) (by decide +kernel) rfl⟩
noncomputable def vG (t:Adr):Sp:=fun vs H Q _=>∃ x i j,vs=[.ref x,.int i,.int j]∧i.natAbs.log2 < 1920∧j.natAbs.log2 < 1920∧H x=some (.ext (XF x t.Wc none)) ∧
 ∀ dx,H dx=none→dx ≠ x→Q .non (upd (upd H x (.ext (XF x t.Wc (some dx)))) dx (.ext (XD dx [(Str.ofString "row",.int i),(Str.ofString "word",.int j)])))
noncomputable def Sw (t:Adr):Sp:=fun vs H Q E=>∃ p row ws pl,vs=[.ref p]∧Ce t H p row ws pl∧(0 ≤ row∧row ≤ 10000)∧pl ≤ 10000∧Sv t row pl p H E
noncomputable def Yt (t:Adr):Sp:=fun vs H Q E=>∃ p row ws pl g,vs=[.ref p,.bl g]∧Ce t H p row ws pl∧(0 ≤ row∧row ≤ 10000)∧pl ≤ 10000∧(g=true→eJ t H p row ws (pl + 1) (Q .non))∧(g=false→Sv t row pl p H E)
noncomputable def jq (K:PySem.W.Frag) (t:Adr):Sp:=fun vs H Q E=>∃ p row ws pl c xs,vs=[.ref p,.ref c]∧Ce t H p row ws pl∧(0 ≤ row∧row ≤ 10000)∧pl ≤ ws.length∧SqL K H c (wb xs) ∧
 (wd ws pl ∈ xs→eJ t H p row ws (pl + 1) (Q (.str (wd ws pl))))∧(wd ws pl ∉ xs→Sv t row pl p H E)
noncomputable def Yx (t:Adr):Sp:=fun vs H Q E=>∃ p row ws pl lo hi,vs=[.ref p,.int lo,.int hi]∧Ce t H p row ws pl∧(0 ≤ row∧row ≤ 10000)∧pl ≤ ws.length∧NoT H ∧
 (∀ v,Fs (wd ws pl) lo hi=.int v→eJ t H p row ws (pl + 1) (Q (.int v)))∧(Fs (wd ws pl) lo hi=.non→Sv t row pl p H E)
section
variable {P:Program} {w:World} {K:PySem.W.Frag} {mg:Str→Option Value} {base:Heap} {t:Adr}
theorem uK (T:Txt w K mg t):Jb P w K mg base CX0 1 t.jf t.Cg ["self","row","word"] (vG t):=by
 refine T.xm.ok am (fun vs H Q E h=>?_) (fun cdv A outer s H vs Q E hr h=>?_)
 ·obtain ⟨x,i,j,rfl,_⟩:=h;rfl
 obtain ⟨x,i,j,rfl,hi,hj,hx,q⟩:=h
 refine ⟨_,(fb (Ub (Co rfl T.Si T.Di (cb (pv 0) (cb (km (Dg (qy (pv 1) (Dg (qy (pv 2) Uy)))) (by rw [sizeLine_eq];decide)) gb))))
   (fb (Oo (pv 0) (pv 1) rfl)
   (ib (Jo (pv 0) (pv 2) rfl)))),?_⟩
 (walk_at "RD")
 refine ⟨hi,hj,fun y=>⟨_,_,hx,T.Do,?_⟩⟩
 refine ⟨_,hx,T.Do,T.Zt,fun dx hd hne=>?_⟩
 refine ⟨_,dx,by rw [lb (Ne.symm hne),db],_,db,T.Do,T.Fq,show 1 < 1000 by decide,?_⟩
 rw [Qg,show og (Str.ofString "word") (V.int j) ([(Str.ofString "row",V.int i)]:List (Str × V))=[(Str.ofString "row",V.int i),(Str.ofString "word",V.int j)] from Ic [Str.ofString "row"] rfl (by decide +kernel)]
 exact q dx hd hne
theorem rA (T:Txt w K mg t):Jb P w K mg base (CX1 P w) 3 t.Zc t.Bd ["self"] (Sw t):=by
 have G_NoText_init:Jb P w K mg base CX0 1 t.jf t.Cg ["self","row","word"] (vG t):=uK T
 refine T.Dh.okX Fl (fun vs H Q E h=>?_) (fun cdv A outer s H vs Q E hr h=>?_)
 ·obtain ⟨p,row,ws,pl,rfl,_⟩:=h;rfl
 obtain ⟨p,row,ws,pl,rfl,⟨hz,dx,ta,e1,e2⟩,hrow,hpl,q⟩:=h
 refine ⟨_,(ib (Po (Ko T.Iu G_NoText_init hr rfl T.oE T.Nt (cb (Ac (pv 0) rfl) (cb (Ac (pv 0) rfl) gb))) Wt)),?_⟩
 (walk_at "RD")
 refine ⟨_,UK T e1,_,Go T e1,by decide,fun a ha=>⟨a,row,pl,rfl,vn (by omega),vn (by omega),db,fun d hd hne=>?_⟩⟩
 have hd0:H d=none:=by rw [lb hne] at hd;exact hd
 refine ⟨rfl,t.Wc,some d,by rw [lb (Ne.symm hne),db],T.Do,q d _ (fun b u _ e=>?_) (fun nt=>(((nt.upd).upd).upd).upd) (by rw [lb hne,db])⟩
 rw [lb (vb e ha),lb (vb e hd0),lb (vb e ha),lb (vb e ha)]
 exact e
theorem Ux (T:Txt w K mg t):Jb P w K mg base (CX1 P w) 4 t.uc t.Cc ["self","good"] (Yt t):=by
 have GX_RowReader_refuse:Jb P w K mg base (CX1 P w) 3 t.Zc t.Bd ["self"] (Sw t):=rA T
 refine T.qg.okX ii (fun vs H Q E h=>?_) (fun cdv A outer s H vs Q E hr h=>?_)
 ·obtain ⟨p,row,ws,pl,g,rfl,_⟩:=h;rfl
 obtain ⟨p,row,ws,pl,g,rfl,R,hrow,hpl,q1,q2⟩:=h
 obtain ⟨hz,dx,ta,e1,e2⟩:=id R
 refine ⟨_,(fb (Ie (Hn (ni (pv 1))) (ib (Ub (Wd (pv 0) T.ub T.Ah GX_RowReader_refuse hr T.Ih .nil af))) Kc)
   (ib (su (pv 0) qb UG))),?_⟩
 (walk_at "RD")
 refine ic (!g) (fun Q hQ=>?_) (fun c=>?_) (fun c=>?_)
 ·(walk_at "RD")
  exact hQ
 ·(walk_at "RD")
  have hg:g=false:=by simpa using c
  exact ⟨_,_,e1,Ce.no _ _ _ (by decide +kernel),⟨p,row,ws,pl,rfl,R,hrow,hpl,q2 hg⟩⟩
 ·(walk_at "RD")
  have hg:g=true:=by simpa using c
  refine ⟨_,_,_,e1,T.ub,T.oe,_,Dd Br 2 (rh ..) (by decide +kernel) rfl,_,rfl,_,_,e1,by rw [← List.length_map (f:=(·.1)),rh];decide,?_⟩
  rw [GB]
  exact q1 hg _ Fc.put (fun n=>n.upd) ⟨hz,dx,ta,db,by rw [lb (Xd e2 e1 (by intro z;cases z))];exact e2⟩
theorem Au (T:Txt w K mg t):Jb P w K mg base (CX1 P w) 5 t.gc t.Bc ["self","choices"] (jq K t):=by
 have G_RowReader_ahead:Jb P w K mg base CX0 4 t.Xb t.wc ["self"] (yi t):=(Ak T).mono (by decide)
 have GX_RowReader_take:Jb P w K mg base (CX1 P w) 4 t.uc t.Cc ["self","good"] (Yt t):=Ux T
 refine T.zf.okX Vd (fun vs H Q E h=>?_) (fun cdv A outer s H vs Q E hr h=>?_)
 ·obtain ⟨p,row,ws,pl,c,xs,rfl,_⟩:=h;rfl
 obtain ⟨p,row,ws,pl,c,xs,rfl,R,hrow,hpl,hc,q1,q2⟩:=h
 refine ⟨_,(fb (Hb (i:=2) Vd.nd rfl (Or.inl rfl) (Wd (pv 0) T.ub T.pd G_RowReader_ahead hr T.qd .nil Db))
   (fb (Ub (Tc (pv 0) T.ub T.ie GX_RowReader_take hr T.ce .nil af (cb (Ld im (pv 2) (pv 1) (by with_unfolding_all rfl)) gb)))
   (ib (Lb (pv 2))))),?_⟩
 obtain ⟨hz,dx,ta,e1,e2⟩:=id R
 (walk_at "RD")
 refine ⟨_,_,e1,Ce.no _ _ _ (by decide +kernel),⟨p,row,ws,pl,rfl,R,hpl,?_⟩⟩
 (walk_at "RD")
 refine ⟨_,_,e1,Ce.no _ _ _ (by decide +kernel),_,.inl hc,rfl,Yh xs,?_⟩
 rw [jm]
 refine ⟨p,row,ws,pl,_,rfl,R,hrow,by omega,fun g H' s1 s2 s3=>?_,fun g=>q2 (of_decide_eq_false g)⟩
 (walk_at "RD")
 exact q1 (of_decide_eq_true g) H' s1 s2 s3
theorem iE (T:Txt w K mg t):Jb P w K mg base (CX1 P w) 5 t.Vb t.lc ["self","low","high"] (Yx t):=by
 have G_RowReader_ahead:Jb P w K mg base CX0 4 t.Xb t.wc ["self"] (yi t):=(Ak T).mono (by decide)
 have GX_RowReader_take:Jb P w K mg base (CX1 P w) 4 t.uc t.Cc ["self","good"] (Yt t):=Ux T
 have G_figured:Jb P w K mg base CX0 4 t.Kj t.Gj ["word","low","high"] KB:=(MG T).mono (by decide)
 refine T.We.okX Pd (fun vs H Q E h=>?_) (fun cdv A outer s H vs Q E hr h=>?_)
 ·obtain ⟨p,row,ws,pl,lo,hi,rfl,_⟩:=h;rfl
 obtain ⟨p,row,ws,pl,lo,hi,rfl,R,hrow,hpl,nt,q1,q2⟩:=h
 refine ⟨_,(fb (Hb (i:=3) Pd.nd rfl (Or.inl rfl) (xb G_figured hr rfl T.Iv T.Wl.kp T.sv .nil Db (cb (Wd (pv 0) T.ub T.pd G_RowReader_ahead hr T.qd .nil Db) (cb (pv 1) (cb (pv 2) gb)))))
   (fb (Ub (Tc (pv 0) T.ub T.ie GX_RowReader_take hr T.ce .nil af (cb (Ld xB (pv 3) Wy (Zb _)) gb)))
   (ib (Lb (pv 3))))),?_⟩
 obtain ⟨hz,dx,ta,e1,e2⟩:=id R
 (walk_at "RD")
 refine ⟨_,_,e1,Ce.no _ _ _ (by decide +kernel),⟨p,row,ws,pl,rfl,R,hpl,?_⟩⟩
 (walk_at "RD")
 refine ⟨_,lo,hi,rfl,aL hz.2 pl,nt,?_⟩
 rcases As (wd ws pl) lo hi with ⟨v,hv,_⟩ | hv
 ·rw [hv]
  (walk_at "RD")
  refine ⟨_,_,e1,Ce.no _ _ _ (by decide +kernel),?_⟩
  refine ⟨p,row,ws,pl,_,rfl,R,hrow,by omega,fun g H' s1 s2 s3=>?_,fun g=>by cases g⟩
  (walk_at "RD")
  exact q1 v hv H' s1 s2 s3
 ·rw [hv]
  (walk_at "RD")
  refine ⟨_,_,e1,Ce.no _ _ _ (by decide +kernel),?_⟩
  exact ⟨p,row,ws,pl,_,rfl,R,hrow,by omega,(fun g=>by cases g),fun g=>q2 hv⟩
end
noncomputable def Oc {α:Type} (m:Except Nat α) (ok:α→Prop) (er:Nat→Prop):Prop:=match m with | .ok a=>ok a | .error k=>er k
noncomputable def cx (x:Str) (lo hi:Int):Option Int:=if okB x && !(decide (val x < lo) || decide (hi < val x)) then some (val x) else none
theorem tG (x:Str) (lo hi:Int):Fs x lo hi=(cx x lo hi).elim .non .int:=by
 unfold Fs cx
 split <;> rfl
theorem Ht {x:Str} {lo hi v:Int} (h:Fs x lo hi=.int v):cx x lo hi=some v:=by
 rw [tG] at h
 cases e:cx x lo hi with
 | none=>rw [e] at h;cases h
 | some u=>rw [e] at h;injection h with h;rw [h]
theorem nv {x:Str} {lo hi:Int} (h:Fs x lo hi=.non):cx x lo hi=none:=by
 rw [tG] at h
 cases e:cx x lo hi with
 | none=>rfl
 | some u=>rw [e] at h;cases h
theorem QA {ws:List Str} {k:Nat} {lo hi v:Int} (h:Fs (wd ws k) lo hi=.int v):k + 1 ≤ ws.length∧lo ≤ v∧v ≤ hi:=by
 rcases As (wd ws k) lo hi with ⟨u,hu,h1,h2,h3⟩ | hn
 ·rw [hu] at h
  injection h with h
  subst h
  exact ⟨wH h3,h1,h2⟩
 ·rw [hn] at h;cases h
noncomputable def Oc2 {α:Type} (m:Except (Nat × Nat) α) (ok:α→Prop) (er:Nat→Nat→Prop):Prop:=match m with | .ok a=>ok a | .error e=>er e.1 e.2
theorem lg {α:Type} {l:List α} {a x:α} {i:Nat} (h:(l ++ [a])[i]? = some x):(i < l.length∧l[i]? = some x)∨(i=l.length∧x=a):=by
 by_cases hi:i < l.length
 ·rw [List.getElem?_append_left hi] at h
  exact .inl ⟨hi,h⟩
 ·rw [List.getElem?_append_right (by omega)] at h
  have h0:i - l.length=0:=by
   cases hh:i - l.length with
   | zero=>rfl
   | succ m=>rw [hh] at h;simp at h
  rw [h0] at h
  exact .inr ⟨by omega,(by simpa using h:a=x).symm⟩
noncomputable def lM (t:Adr) (i k:Nat) (H:Hp) (E:XK):Prop:=∀ dx H',ac H H'→NoT H'→H' dx=some (.ext (XD dx [(Str.ofString "row",.int i),(Str.ofString "word",.int k)]))→E (.ref t.Wc) (some dx) H'
end My
namespace My
open PySem L2
theorem Kb {α β:Type} {f:α→β} {l:List α} {i:Nat} {y:β} (h:(l.map f)[i]? = some y):∃ x,l[i]? = some x∧y=f x:=by
 rw [List.getElem?_map] at h
 cases e:l[i]? with
 | none=>rw [e] at h;cases h
 | some x=>rw [e] at h;exact ⟨x,rfl,(Option.some.inj h).symm⟩
noncomputable def kL (t:Adr) (H0 H:Hp) (p:Addr) (rows:List (List Str)):Prop:=∃ qs:List Addr,H p=some (.lst (qs.map V.ref))∧H0 p=none∧qs.length=rows.length∧∀ (i:Nat) (q:Addr) (r:List Str),qs[i]? = some q→rows[i]? = some r→Ce t H q i r 0∧H0 q=none
noncomputable def Tm (t:Adr):Sp:=fun vs H Q _=>∃ x,vs=[.str x]∧x.length ≤ 20000∧(∀ r ∈ fe x,r.length ≤ 1000∧∀ y ∈ r,y.length ≤ 1000)∧NoT H∧∀ p H',ac H H'→NoT H'→kL t H H' p (fe x)→Q (.ref p) H'
section
variable {P:Program} {w:World} {K:PySem.W.Frag} {mg:Str→Option Value} {base:Heap} {t:Adr}
theorem Bs (T:Txt w K mg t):Jb P w K mg base CX0 3 t.Dj t.Yj ["text"] (Tm t):=by
 have G_words:Jb P w K mg base CX0 2 t.Ts t.At ["text"] Fy:=(zF T).mono (by decide)
 have G_RowReader_init:Jb P w K mg base CX0 1 t.Zd t.Se ["self","row","told"] (YF t):=LJ T
 refine T.Ql.ok lz (fun vs H Q E h=>?_) (fun cdv A outer s H vs Q E hr h=>?_)
 ·obtain ⟨x,rfl,_⟩:=h;rfl
 obtain ⟨x,rfl,hz,hrow,nt,q⟩:=h
 refine ⟨_,(ib (Lb (zd rfl (Mt rfl T.Hi (cb (xb G_words hr rfl T.DI T.Px.kp T.eI .nil Db (cb (pv 0) gb)) gb)) (fc (sc:=jb Cp) rfl (by decide +kernel)) (N:=["row","told"]) (sel:=[none,none]) (Jc (M:=["text"]) (by decide +kernel)) (Blk.of (fun _ _ _ _=>(kg (K:=K) (n:=2) rfl rfl (Sb (zb (i:=0) (ke (N:=["row","told"]) (by decide +kernel) rfl) rfl (Or.inl rfl) (.inr rfl)) (Sb (zb (i:=1) (ke (N:=["row","told"]) (by decide +kernel) rfl) rfl (Or.inl rfl) (.inr rfl)) vg)))) (fun _ _ _ _=>⟨_,Qd,by first | rfl | (dsimp only [Cx.block];done) | (dsimp only [Cx.block];exact rfl)⟩) (fun _ _ _ _=>⟨_,(bn T.Rw G_RowReader_init hr rfl T.uw T.xo .nil Db (cb (pv 0) (cb (pv 1) gb))),by first | rfl | (dsimp only [Cx.block];done) | (dsimp only [Cx.block];exact rfl)⟩))))),?_⟩
 (walk_at "RD")
 refine ⟨x,rfl,hz,nt,fun p H1 sm1 nt1 ⟨ps,hp,hp0,hpn,hpl,hpa⟩=>?_⟩
 (walk_at "RD")
 refine ⟨⟨_,SqL.of hp⟩,?_⟩
 have hlen:ps.length ≤ sizeLine:=by
  rw [hpl]
  unfold fe
  rw [List.length_map]
  have:=vp (x:=x) (y:=nl) (by rw [Qu];exact Nat.le_refl _)
  exact Nat.le_trans (show _ ≤ 40000 by omega) (by decide)
 refine Xc.enum (xs:=ps.map V.ref) (fun i ys H2=>ac H1 H2∧NoT H2∧∃ qs:List Addr,ys=qs.map V.ref∧qs.length=i∧∀ (j:Nat) (q:Addr) (r:List Str),qs[j]? = some q→(fe x)[j]? = some r→Ce t H2 q j r 0∧H1 q=none)
  (by rw [List.length_map];exact hlen) ⟨ac.refl H1,nt1,[],rfl,rfl,fun j q r h _=>by simp at h⟩ ?_ ?_ ?_
 ·rintro i ys H2 hi ⟨s2,n2,qs,rfl,hq,_⟩
  exact ⟨SqL.of (s2 _ _ hp),by rw [List.length_map];omega⟩
 ·rintro i v ys H2 p2 hv ⟨s2,n2,qs,rfl,hq,al⟩ hp2 N hN
  rw [List.getElem?_map] at hv
  cases hpi:ps[i]? with
  | none=>rw [hpi] at hv;cases hv
  | some pi=>
   rw [hpi] at hv
   have e:=(Option.some.inj hv).symm
   subst e
   refine Nm ?_
   (walk_at "RD")
   refine ⟨Sub.name2,fun a dx ha hd hne=>?_⟩
   refine ⟨a,dx,pi,i,rfl,db,rfl,?_⟩
   rw [Qg]
   have s3:ac H2 (upd (upd (upd H2 p2 (.tup [.int i,.ref pi])) dx (.own a)) a (.ins t.Bb dx (rdF i pi 0))):=by
    have s':ac H2 (upd H2 p2 (.tup [.int i,.ref pi])):=pb hp2
    exact ((ac.trans s' (pb hd)).updN (s'.free ha))
   obtain ⟨r,hr⟩:∃ r,(fe x)[i]? = some r:=⟨(fe x)[i]'(by rw [← hpl];exact (List.getElem?_eq_some_iff.mp hpi).1),List.getElem?_eq_getElem _⟩
   have ha2:H2 a=none:=(pb hp2).free ha
   refine hN _ _ ⟨s2.trans s3,((n2.upd).upd).upd,qs ++ [a],by rw [List.map_append];rfl,by rw [List.length_append,hq];rfl,fun j q' r' h1 h2=>?_⟩
   by_cases hj:j < qs.length
   ·rw [List.getElem?_append_left hj] at h1
    obtain ⟨z1,z2⟩:=al j q' r' h1 h2
    exact ⟨z1.same s3,z2⟩
   ·rw [List.getElem?_append_right (by omega)] at h1
    have hj0:j - qs.length=0:=by
     cases hh:j - qs.length with
     | zero=>rfl
     | succ n=>rw [hh] at h1;simp at h1
    rw [hj0] at h1
    have e3:a=q':=by simpa using h1
    subst e3
    have e4:j=i:=by omega
    subst e4
    rw [hr] at h2
    cases h2
    refine ⟨⟨hrow r (List.mem_of_getElem? hr),dx,pi,db,?_⟩,s2.free ha2⟩
    exact s3 _ _ (s2 _ _ (hpa j pi r hpi hr).1)
 ·rintro ys H2 ⟨s2,n2,qs,rfl,hq,al⟩ p2 hp2
  refine q p2 _ ((sm1.trans s2).updN ((sm1.trans s2).free hp2)) (n2.upd) ⟨qs,db,(sm1.trans s2).free hp2,by rw [hq,List.length_map,hpl],fun i q' r h1 h2=>?_⟩
  obtain ⟨z1,z2⟩:=al i q' r h1 h2
  exact ⟨z1.same (pb hp2),sm1.free z2⟩
end
noncomputable def AM (q:Addr) (H:Hp) (R:Hp→Prop):Prop:=∀ H',Fc q H H'→NoT H'→R H'
noncomputable def QC (t:Adr):Sp:=fun vs H Q _=>∃ q row n,vs=[.ref q]∧Ce t H q row [Str.ofString "ring",num n] 0∧(2 ≤ n∧n ≤ 99)∧NoT H∧AM q H (Q (.int n))
noncomputable def Vj (t:Adr) (H:Hp) (wl:Addr) (ds:List WD):Prop:=∃ as:List Addr,H wl=some (.lst (as.map V.ref))∧as.length=ds.length∧∀ (i:Nat) (a:Addr) (d:WD),as[i]? = some a→ds[i]? = some d→ue t H a d
noncomputable def Nr (t:Adr):Sp:=fun vs H Q _=>∃ q row ws pl wl ds x,vs=[.ref q,.ref wl]∧Ce t H q row ws pl∧ws[pl]? = some x∧made x Wg 8=true∧Vj t H wl ds∧ds.length ≤ 12∧(∀ d ∈ ds,d.name ≠ x)∧NoT H ∧
 ∀ H',Fc q H H'→NoT H'→Ce t H' q row ws (pl + 1)→Q (.str x) H'
noncomputable def bG (t:Adr):Sp:=fun vs H Q _=>∃ q row ws pl n st fi,vs=[.ref q,.int n,.int st]∧Ce t H q row ws pl∧ws[pl]? = some (num fi)∧(0 ≤ st∧st < n)∧(0 ≤ fi∧fi < n)∧st ≠ fi∧n ≤ 99∧NoT H ∧
 ∀ H',Fc q H H'→NoT H'→Ce t H' q row ws (pl + 1)→Q (.int fi) H'
noncomputable def Sx (t:Adr):Sp:=fun vs H Q _=>∃ d:WD,vs=[.str (de d.k),.str d.name,.int d.start,.int d.fin,.int d.off,.int d.near,.int d.least]∧d.k < 3∧∀ x H',ac H H'→(NoT H→NoT H')→ue t H' x d→H x=none→Q (.ref x) H'
noncomputable def yG (t:Adr):Sp:=fun vs H Q _=>∃ q row n wl ds d,vs=[.ref q,.int n,.ref wl]∧Ce t H q row (Uj d) 0∧WOk n d∧(2 ≤ n∧n ≤ 99)∧Vj t H wl ds∧ds.length ≤ 12∧(∀ e ∈ ds,e.name ≠ d.name)∧NoT H ∧
 ∀ x H',Fc q H H'→NoT H'→ue t H' x d→H x=none→Q (.ref x) H'
theorem Vj.sameX {t:Adr} {H H':Hp} {q wl:Addr} {ds:List WD} {row:Int} {ws:List Str} {pl:Nat} (h:Vj t H wl ds) (s:Fc q H H') (r:Ce t H q row ws pl):Vj t H' wl ds:=by
 obtain ⟨as,e1,e2,al⟩:=h
 obtain ⟨hz,dx,ta,e3,e4⟩:=r
 refine ⟨as,s _ _ (Xd e1 e3 (by intro z;cases z)) e1,e2,fun i a d h1 h2=>?_⟩
 obtain ⟨hk,dx',e5⟩:=al i a d h1 h2
 refine ⟨hk,dx',s _ _ (fun z=>?_) e5⟩
 subst z
 rw [e5] at e3
 have e6:=Option.some.inj e3
 injection e6 with _ _ e8
 have e9:(7:Nat)=3:=congrArg List.length e8
 omega
theorem Vj.same {t:Adr} {H H':Hp} {wl:Addr} {ds:List WD} (h:Vj t H wl ds) (s:ac H H'):Vj t H' wl ds:=by
 obtain ⟨as,e1,e2,al⟩:=h
 exact ⟨as,s _ _ e1,e2,fun i a d h1 h2=>(al i a d h1 h2).same s⟩
section
variable {P:Program} {w:World} {K:PySem.W.Frag} {mg:Str→Option Value} {base:Heap} {t:Adr}
theorem WH (T:Txt w K mg t):Jb P w K mg base CX0 5 t.Ki t.Ii ["reader"] (QC t):=by
 have G_RowReader_one_of:Jb P w K mg base CX0 4 t.gc t.Bc ["self","choices"] (bt K t):=(Rx T).mono (by decide)
 have G_RowReader_figures:Jb P w K mg base CX0 4 t.Vb t.lc ["self","low","high"] (Ut t):=wx T
 have G_RowReader_finish:Jb P w K mg base CX0 4 t.Yc t.Cd ["self"] (VA t):=(IG T).mono (by decide)
 refine T.Jl.ok Zn (fun vs H Q E h=>?_) (fun cdv A outer s H vs Q E hr h=>?_)
 ·obtain ⟨q,row,n,rfl,_⟩:=h;rfl
 obtain ⟨q,row,n,rfl,R,hn,nt,qq⟩:=h
 refine ⟨_,(fb (Ub (Tc (pv 0) T.ub T.Hd G_RowReader_one_of hr T.Fd .nil Db (cb (ve (cb zc gb)) gb)))
   (fb (Hb (i:=1) Zn.nd rfl (Or.inl rfl) (Tc (pv 0) T.ub T.qc G_RowReader_figures hr T.nc .nil Db (cb (Hf rfl T.Nq T.Vq) (cb (Hf rfl T.Bt T.Ps) gb))))
   (fb (Ub (Wd (pv 0) T.ub T.oh G_RowReader_finish hr T.Ch .nil Db))
   (ib (Lb (pv 1)))))),?_⟩
 obtain ⟨_,dx,ta,e1,e2⟩:=id R
 (walk_at "RD")
 refine ⟨_,_,e1,Ce.no _ _ _ (by decide +kernel),by decide,fun p hp=>?_⟩
 have s0:ac H (upd H p (.lst [V.str (Str.ofString "ring")])):=pb hp
 refine ⟨q,row,_,0,Str.ofString "ring",p,[Str.ofString "ring"],rfl,R.same s0,rfl,SqL.of db,by simp,fun H1 s1 n1 R1=>?_⟩
 obtain ⟨_,dx1,ta1,f1,f2⟩:=id R1
 (walk_at "RD")
 refine ⟨_,_,f1,Ce.no _ _ _ (by decide +kernel),?_⟩
 have nt1:=n1 nt.upd
 refine ⟨q,row,_,1,num n,2,99,n,rfl,R1,rfl,Fj (by omega) (by omega) hn.1 hn.2,nt1,fun H2 s2 n2 R2=>?_⟩
 obtain ⟨_,dx2,ta2,g1,g2⟩:=id R2
 (walk_at "RD")
 refine ⟨_,_,g1,Ce.no _ _ _ (by decide +kernel),?_⟩
 refine ⟨q,row,_,2,rfl,R2,rfl,?_⟩
 (walk_at "RD")
 exact qq H2 (((Fc.of s0).trans s1).trans s2) (n2 nt1)
theorem Az (T:Txt w K mg t):Jb P w K mg base CX0 3 t.Bf t.kf ["reader","ways"] (Nr t):=by
 have G_RowReader_ahead:Jb P w K mg base CX0 2 t.Xb t.wc ["self"] (yi t):=(Ak T).mono (by decide)
 have G_RowReader_take:Jb P w K mg base CX0 2 t.uc t.Cc ["self","good"] (zt t):=(Tw T).mono (by decide)
 have G_is_name:Jb P w K mg base CX0 2 t.Vl t.Hm ["word"] jC:=xH T
 refine T.Tg.ok bj (fun vs H Q E h=>?_) (fun cdv A outer s H vs Q E hr h=>?_)
 ·obtain ⟨q,row,ws,pl,wl,ds,x,rfl,_⟩:=h;rfl
 obtain ⟨q,row,ws,pl,wl,ds,x,rfl,R,hx,hm,hW,hdl,hnew,nt,qq⟩:=h
 refine ⟨_,(fb (Hb (i:=2) bj.nd rfl (Or.inl rfl) (Wd (pv 0) T.ub T.pd G_RowReader_ahead hr T.qd .nil Db))
   (fb (Ub (Tc (pv 0) T.ub T.ie G_RowReader_take hr T.ce .nil Db (cb (EA (xb G_is_name hr rfl T.TC T.gp.kp T.BB .nil Db (cb (pv 2) gb)) (Ru (Ld zj (pv 2) (zd rfl (Lc (pv 1)) (fc (sc:=jb ah) rfl (by decide +kernel)) (N:=["way"]) (sel:=[none]) (Jc (M:=["reader","ways","name"]) (by decide +kernel)) (Blk.of (fun _ _ _ _=>(zb (i:=0) (ke (N:=["way"]) (by decide +kernel) rfl) rfl (Or.inl rfl))) (fun _ _ _ _=>⟨_,Qd,by first | rfl | (dsimp only [Cx.block];done) | (dsimp only [Cx.block];exact rfl)⟩) (fun _ _ _ _=>⟨_,(Ac (pv 0) rfl),by first | rfl | (dsimp only [Cx.block];done) | (dsimp only [Cx.block];exact rfl)⟩))) (by with_unfolding_all rfl)))) gb)))
   (ib (Lb (pv 2))))),?_⟩
 have hlt:pl < ws.length:=(List.getElem?_eq_some_iff.mp hx).1
 have hg:ws.getD pl (Str.ofString "")=x:=by rw [List.getD_eq_getElem?_getD,hx];rfl
 obtain ⟨hz,dx,ta,e1,e2⟩:=id R
 (walk_at "RD")
 refine ⟨_,_,e1,Ce.no _ _ _ (by decide +kernel),⟨q,row,ws,pl,rfl,R,by omega,?_⟩⟩
 rw [hg]
 (walk_at "RD")
 refine ⟨_,_,e1,Ce.no _ _ _ (by decide +kernel),?_⟩
 refine ⟨x,rfl,hz.2 x (List.mem_of_getElem? hx),nt,?_⟩
 rw [hm]
 (walk_at "RD")
 obtain ⟨as,w1,w2,al⟩:=hW
 refine ⟨⟨_,SqL.of w1⟩,?_⟩
 have hle:(as.map V.ref).length ≤ sizeLine:=by rw [List.length_map,w2];exact Nat.le_trans hdl (by decide)
 refine Xc.list_zs (xs:=as.map V.ref) (zs:=ds.map fun d=>V.str d.name) (SqL.of w1) hle (by rw [List.length_map,List.length_map,w2]) (fun i v z N hv hz' hN=>?_) (fun p hp=>?_)
 ·obtain ⟨a,ha,rfl⟩:=Kb hv
  obtain ⟨d,hd,rfl⟩:=Kb hz'
  (walk_at "RD")
  exact ⟨Sub.name,_,(al i a d ha hd).f_name T,hN⟩
 ·(walk_at "RD")
  have e0:(ds.map fun d=>V.str d.name)=wb (ds.map (·.name)):=by unfold wb;rw [List.map_map];rfl
  rw [e0]
  refine ⟨_,.inl (SqL.of db),rfl,Yh _,?_⟩
  rw [jm,decide_eq_false (fun z=>by
   obtain ⟨d,hd,e⟩:=List.mem_map.mp z
   exact hnew d hd e)]
  have s0:ac H (upd H p (.lst (wb (ds.map (·.name))))):=pb hp
  exact ⟨q,row,ws,pl,rfl,R.same s0,fun H' s1 n1 R1=>qq H' ((Fc.of s0).trans s1) (n1 nt.upd) R1⟩
theorem fJ (T:Txt w K mg t):Jb P w K mg base CX0 5 t.qk t.uk ["reader","places","start"] (bG t):=by
 have G_RowReader_ahead:Jb P w K mg base CX0 4 t.Xb t.wc ["self"] (yi t):=(Ak T).mono (by decide)
 have G_RowReader_figures:Jb P w K mg base CX0 4 t.Vb t.lc ["self","low","high"] (Ut t):=wx T
 refine T.cn.ok Gw (fun vs H Q E h=>?_) (fun cdv A outer s H vs Q E hr h=>?_)
 ·obtain ⟨q,row,ws,pl,n,st,fi,rfl,_⟩:=h;rfl
 obtain ⟨q,row,ws,pl,n,st,fi,rfl,R,hx,hst,hfi,hne,hn,nt,qq⟩:=h
 refine ⟨_,(fb (Ie (dc xg (Wd (pv 0) T.ub T.pd G_RowReader_ahead hr T.qd .nil Db) (bf fg rfl T.fB si (cb (pv 2) gb)) (Zb _)) (ib Bk) Kc)
   (ib (Lb (Tc (pv 0) T.ub T.qc G_RowReader_figures hr T.nc .nil Db (cb qb (cb (Mb Fm (pv 1) qb) gb)))))),?_⟩
 have hlt:pl < ws.length:=(List.getElem?_eq_some_iff.mp hx).1
 have hg:ws.getD pl (Str.ofString "")=num fi:=by rw [List.getD_eq_getElem?_getD,hx];rfl
 obtain ⟨hz,dx,ta,e1,e2⟩:=id R
 (walk_at "RD")
 refine ic false (fun Q hQ=>?_) (fun hc=>nomatch hc) (fun _=>?_)
 ·(walk_at "RD")
  refine ⟨_,_,e1,Ce.no _ _ _ (by decide +kernel),⟨q,row,ws,pl,rfl,R,by omega,?_⟩⟩
  rw [hg]
  (walk_at "RD")
  refine ⟨jp (by omega),?_⟩
  rw [decide_eq_false (fun z=>hne (tI (by omega) (by omega) (by omega) (by omega) z).symm)]
  exact hQ
 ·(walk_at "RD")
  refine ⟨_,_,e1,Ce.no _ _ _ (by decide +kernel),⟨q,row,ws,pl,num fi,0,n - 1,fi,rfl,R,hx,Fj (by omega) (by omega) (by omega) (by omega),nt,fun H1 s1 n1 R1=>?_⟩⟩
  exact qq H1 s1 (n1 nt) R1
theorem vK {t:Adr} {H:Hp} {x dx:Addr} {d:WD} (hx:H x=none) (hd:H dx=none) (hk:d.k < 3) :
  ac H (upd (upd (upd H dx (.own x)) x (.ins (t.cw d.k) dx [])) x (.ins (t.cw d.k) dx (Wq d)))∧(NoT H→NoT (upd (upd (upd H dx (.own x)) x (.ins (t.cw d.k) dx [])) x (.ins (t.cw d.k) dx (Wq d)))) ∧
   ue t (upd (upd (upd H dx (.own x)) x (.ins (t.cw d.k) dx [])) x (.ins (t.cw d.k) dx (Wq d))) x d:=
 ⟨(((ac.refl H).updN hd).updN hx).updN hx,fun n=>((n.upd).upd).upd,hk,dx,db⟩
theorem tE (T:Txt w K mg t):Jb P w K mg base CX0 4 t.yk t.rk ["sort","name","start","end","off","near","least"] (Sx t):=by
 have G_CarWay_init:Jb P w K mg base CX0 2 t.Af t.Kg ["self","name","start","end","off","near","least"] (Ck t 0):=nI T
 have G_FootWay_init:Jb P w K mg base CX0 2 t.Oe t.Mf ["self","name","start","end","off","near","least"] (Ck t 1):=qF T
 have G_TramWay_init:Jb P w K mg base CX0 2 t.Ke t.Qf ["self","name","start","end","off","near","least"] (Ck t 2):=rF T
 refine T.yn.ok Fw (fun vs H Q E h=>?_) (fun cdv A outer s H vs Q E hr h=>?_)
 ·obtain ⟨d,rfl,_⟩:=h;rfl
 obtain ⟨d,rfl,hk,q⟩:=h
 refine ⟨_,(fb (Ie (dc xg (pv 0) zc (Zb _)) (ib (Lb (bn T.iF G_CarWay_init hr rfl T.nF T.Et .nil Db (cb (pv 1) (cb (pv 2) (cb (pv 3) (cb (pv 4) (cb (pv 5) (cb (pv 6) gb))))))))) Kc)
   (fb (Ie (dc xg (pv 0) zc (Zb _)) (ib (Lb (bn T.XC G_FootWay_init hr rfl T.SB T.Tq .nil Db (cb (pv 1) (cb (pv 2) (cb (pv 3) (cb (pv 4) (cb (pv 5) (cb (pv 6) gb))))))))) Kc)
   (ib (Lb (bn T.NB G_TramWay_init hr rfl T.QB T.sr .nil Db (cb (pv 1) (cb (pv 2) (cb (pv 3) (cb (pv 4) (cb (pv 5) (cb (pv 6) gb))))))))))),?_⟩
 have fin:∀ (x dx:Addr),H x=none→H dx=none→Q (.ref x) (upd (upd (upd H dx (.own x)) x (.ins (t.cw d.k) dx [])) x (.ins (t.cw d.k) dx (Wq d))):=fun x dx hx hd=>by
  obtain ⟨m1,m2,m3⟩:=vK (t:=t) (d:=d) hx hd hk
  exact q x _ m1 m2 m3 hx
 obtain ⟨k,name,start,fi,off,near,least⟩:=d
 match k,hk with
 | 0,_=>
  (walk_at "RD"; repeat (simp only [de];walk_at "RD"))
  refine ic true (fun Q hQ=>?_) (fun _=>?_) (fun hc=>nomatch hc)
  ·(walk_at "RD")
   exact hQ
  ·(walk_at "RD")
   exact fun x dx hx hd hne=>⟨x,dx,⟨0,name,start,fi,off,near,least⟩,rfl,rfl,db,rfl,fin x dx hx hd⟩
 | 1,_=>
  (walk_at "RD"; repeat (simp only [de];walk_at "RD"))
  refine ic false (fun Q hQ=>?_) (fun hc=>nomatch hc) (fun _=>?_)
  ·(walk_at "RD")
   rw [decide_eq_false (by decide +kernel)]
   exact hQ
  ·(walk_at "RD")
   refine ic true (fun Q hQ=>?_) (fun _=>?_) (fun hc=>nomatch hc)
   ·(walk_at "RD")
    exact hQ
   ·(walk_at "RD")
    exact fun x dx hx hd hne=>⟨x,dx,⟨1,name,start,fi,off,near,least⟩,rfl,rfl,db,rfl,fin x dx hx hd⟩
 | 2,_=>
  (walk_at "RD"; repeat (simp only [de];walk_at "RD"))
  refine ic false (fun Q hQ=>?_) (fun hc=>nomatch hc) (fun _=>?_)
  ·(walk_at "RD")
   rw [decide_eq_false (by decide +kernel)]
   exact hQ
  ·(walk_at "RD")
   refine ic false (fun Q hQ=>?_) (fun hc=>nomatch hc) (fun _=>?_)
   ·(walk_at "RD")
    rw [decide_eq_false (by decide +kernel)]
    exact hQ
   ·(walk_at "RD")
    exact fun x dx hx hd hne=>⟨x,dx,⟨2,name,start,fi,off,near,least⟩,rfl,rfl,db,rfl,fin x dx hx hd⟩
theorem NJ (T:Txt w K mg t):Jb P w K mg base CX0 6 t.vk t.xk ["reader","places","ways"] (yG t):=by
 have G_RowReader_one_of:Jb P w K mg base CX0 5 t.gc t.Bc ["self","choices"] (bt K t):=(Rx T).mono (by decide)
 have G_RowReader_figures:Jb P w K mg base CX0 5 t.Vb t.lc ["self","low","high"] (Ut t):=(wx T).mono (by decide)
 have G_RowReader_finish:Jb P w K mg base CX0 5 t.Yc t.Cd ["self"] (VA t):=(IG T).mono (by decide)
 have G_read_new_name:Jb P w K mg base CX0 5 t.Bf t.kf ["reader","ways"] (Nr t):=(Az T).mono (by decide)
 have G_read_end:Jb P w K mg base CX0 5 t.qk t.uk ["reader","places","start"] (bG t):=fJ T
 have G_made_way:Jb P w K mg base CX0 5 t.yk t.rk ["sort","name","start","end","off","near","least"] (Sx t):=(tE T).mono (by decide)
 refine T.rn.ok ze (fun vs H Q E h=>?_) (fun cdv A outer s H vs Q E hr h=>?_)
 ·obtain ⟨q,row,n,wl,ds,d,rfl,_⟩:=h;rfl
 obtain ⟨q,row,n,wl,ds,d,rfl,R,hd,hn,hW,hdl,hnew,nt,qq⟩:=h
 refine ⟨_,(fb (Hb (i:=3) ze.nd rfl (Or.inl rfl) (Tc (pv 0) T.ub T.Hd G_RowReader_one_of hr T.Fd .nil Db (cb (ve (cb zc (cb zc (cb zc gb)))) gb)))
   (fb (Hb (i:=4) ze.nd rfl (Or.inl rfl) (xb G_read_new_name hr rfl T.up T.Tg.kp T.rp .nil Db (cb (pv 0) (cb (pv 2) gb))))
   (fb (Hb (i:=5) ze.nd rfl (Or.inl rfl) (Tc (pv 0) T.ub T.qc G_RowReader_figures hr T.nc .nil Db (cb qb (cb (Mb Fm (pv 1) qb) gb))))
   (fb (Hb (i:=6) ze.nd rfl (Or.inl rfl) (xb G_read_end hr rfl T.oz T.cn.kp T.pz .nil Db (cb (pv 0) (cb (pv 1) (cb (pv 5) gb)))))
   (fb (Hb (i:=7) ze.nd rfl (Or.inl rfl) (Tc (pv 0) T.ub T.qc G_RowReader_figures hr T.nc .nil Db (cb qb (cb (Hf rfl T.mz T.qz) gb))))
   (fb (Hb (i:=8) ze.nd rfl (Or.inl rfl) (Tc (pv 0) T.ub T.qc G_RowReader_figures hr T.nc .nil Db (cb qb (cb (Hf rfl T.Dw T.Pw) gb))))
   (fb (Hb (i:=9) ze.nd rfl (Or.inl rfl) (Tc (pv 0) T.ub T.qc G_RowReader_figures hr T.nc .nil Db (cb qb (cb (Hf rfl T.bv T.Fu) gb))))
   (fb (Ub (Wd (pv 0) T.ub T.oh G_RowReader_finish hr T.Ch .nil Db))
   (ib (Lb (xb G_made_way hr rfl T.Fz T.yn.kp T.yz .nil Db (cb (pv 3) (cb (pv 4) (cb (pv 5) (cb (pv 6) (cb (pv 7) (cb (pv 8) (cb (pv 9) gb)))))))))))))))))),?_⟩
 have b1:=hd.st;have b2:=hd.fi;have b3:=hd.of;have b4:=hd.nr;have b5:=hd.le
 obtain ⟨_,dx,ta,e1,e2⟩:=id R
 (walk_at "RD")
 refine ⟨_,_,e1,Ce.no _ _ _ (by decide +kernel),by decide,fun p hp=>?_⟩
 have s0:ac H (upd H p (.lst [V.str (Str.ofString "car"),V.str (Str.ofString "foot"),V.str (Str.ofString "tram")])):=pb hp
 have hin:de d.k ∈ [Str.ofString "car",Str.ofString "foot",Str.ofString "tram"]:=by
  have:=hd.k
  match d.k,this with
  | 0,_=>simp [de]
  | 1,_=>simp [de]
  | 2,_=>simp [de]
 refine ⟨q,row,_,0,de d.k,p,[Str.ofString "car",Str.ofString "foot",Str.ofString "tram"],rfl,R.same s0,rfl,SqL.of db,hin,fun H1 s1 n1 R1=>?_⟩
 have x1:Fc q H H1:=(Fc.of s0).trans s1
 have m1:=n1 nt.upd
 (walk_at "RD")
 refine ⟨q,row,_,1,wl,ds,d.name,rfl,R1,rfl,hd.nm,hW.sameX x1 R,hdl,hnew,m1,fun H2 s2 m2 R2=>?_⟩
 obtain ⟨_,dx2,ta2,f2,g2⟩:=id R2
 have x2:=x1.trans s2
 (walk_at "RD")
 refine ⟨_,_,f2,Ce.no _ _ _ (by decide +kernel),⟨q,row,_,2,num d.start,0,n - 1,d.start,rfl,R2,rfl,Fj (by omega) (by omega) (by omega) (by omega),m2,fun H3 s3 n3 R3=>?_⟩⟩
 have x3:=x2.trans s3
 have m3:=n3 m2
 (walk_at "RD")
 refine ⟨q,row,_,3,n,d.start,d.fin,rfl,R3,rfl,b1,b2,hd.ne,hn.2,m3,fun H4 s4 m4 R4=>?_⟩
 obtain ⟨_,dx4,ta4,f4,g4⟩:=id R4
 have x4:=x3.trans s4
 (walk_at "RD")
 refine ⟨_,_,f4,Ce.no _ _ _ (by decide +kernel),⟨q,row,_,4,num d.off,0,30,d.off,rfl,R4,rfl,Fj (by omega) (by omega) (by omega) (by omega),m4,fun H5 s5 n5 R5=>?_⟩⟩
 obtain ⟨_,dx5,ta5,f5,g5⟩:=id R5
 have x5:=x4.trans s5
 have m5:=n5 m4
 (walk_at "RD")
 refine ⟨_,_,f5,Ce.no _ _ _ (by decide +kernel),⟨q,row,_,5,num d.near,0,30,d.near,rfl,R5,rfl,Fj (by omega) (by omega) (by omega) (by omega),m5,fun H6 s6 n6 R6=>?_⟩⟩
 obtain ⟨_,dx6,ta6,f6,g6⟩:=id R6
 have x6:=x5.trans s6
 have m6:=n6 m5
 (walk_at "RD")
 refine ⟨_,_,f6,Ce.no _ _ _ (by decide +kernel),⟨q,row,_,6,num d.least,1,60,d.least,rfl,R6,rfl,Fj (by omega) (by omega) (by omega) (by omega),m6,fun H7 s7 n7 R7=>?_⟩⟩
 obtain ⟨_,dx7,ta7,f7,g7⟩:=id R7
 have x7:=x6.trans s7
 have m7:=n7 m6
 (walk_at "RD")
 refine ⟨_,_,f7,Ce.no _ _ _ (by decide +kernel),⟨q,row,_,7,rfl,R7,rfl,?_⟩⟩
 (walk_at "RD")
 refine ⟨d,rfl,hd.k,fun x H8 s8 n8 w8 hx8=>?_⟩
 refine qq x H8 (x7.trans (Fc.of s8)) (n8 m7) w8 ?_
 cases hH:H x with
 | none=>rfl
 | some u=>
  by_cases hxq:x=q
  ·subst hxq;rw [f7] at hx8;cases hx8
  ·rw [x7 x u hxq hH] at hx8;cases hx8
end
end My
namespace My
open PySem L2
noncomputable abbrev Rz:List Str:=[Str.ofString "places",Str.ofString "ways",Str.ofString "numbers"]
noncomputable def cF (n:Int) (wl nd:Addr):List (Str × V):=[(Str.ofString "places",.int n),(Str.ofString "ways",.ref wl),(Str.ofString "numbers",.ref nd)]
theorem Ys (n:Int) (wl nd:Addr):(cF n wl nd).map (·.1)=Rz:=rfl
noncomputable def nm (ds:List WD) (i:Nat):Str:=((ds[i]?).map (·.name)).getD (Str.ofString "")
noncomputable def gA (ds:List WD) (i:Nat):List (Key × V):=(List.range i).map fun j=>(Sum.inr (nm ds j),V.int j)
theorem ko {ds:List WD} {i:Nat} {d:WD} (h:ds[i]? = some d):nm ds i=d.name:=by unfold nm;rw [h];rfl
theorem Ds {ds:List WD} (h:(ds.map (·.name)).Nodup) {i j:Nat} (hi:i < ds.length) (hj:j < ds.length) (e:nm ds i=nm ds j):i=j:=by
 rw [ko (List.getElem?_eq_getElem hi),ko (List.getElem?_eq_getElem hj)] at e
 have:=(List.getElem_inj (xs:=ds.map (·.name)) (i:=i) (j:=j) (h₀:=by rw [List.length_map];exact hi) (h₁:=by rw [List.length_map];exact hj) h).mp (by rw [List.getElem_map,List.getElem_map];exact e)
 exact this
theorem qE {ds:List WD} (h:(ds.map (·.name)).Nodup) {i:Nat}:∀ {n:Nat},i < n→n ≤ ds.length→nj (gA ds n) (Sum.inr (nm ds i))=some (.int i):=by
 intro n
 induction n with
 | zero=>intro hi _;omega
 | succ n ih=>
  intro hi hn
  unfold gA nj
  rw [List.range_succ,List.map_append,List.find?_append]
  by_cases c:i < n
  ·have:=ih c (by omega)
   unfold gA nj at this
   cases e:List.find? (fun kv=>decide (kv.fst=Sum.inr (nm ds i))) (List.map (fun j=>((Sum.inr (nm ds j):Key),V.int j)) (List.range n)) with
   | none=>rw [e] at this;cases this
   | some p=>rw [e] at this;exact this
  ·have e:i=n:=by omega
   subst e
   have no:List.find? (fun kv=>decide (kv.fst=Sum.inr (nm ds i))) (List.map (fun j=>((Sum.inr (nm ds j):Key),V.int j)) (List.range i))=none:=by
    rw [List.find?_eq_none]
    intro p hp
    obtain ⟨j,hj,rfl⟩:=List.mem_map.mp hp
    have hj':=List.mem_range.mp hj
    simp only [decide_eq_true_eq]
    intro z
    have:=Ds h (by omega) (by omega) (Sum.inr.inj z)
    omega
   rw [no]
   simp
theorem MF {ds:List WD} (h:(ds.map (·.name)).Nodup) {n:Nat} (hn:n < ds.length):Cn (gA ds n) (Sum.inr (nm ds n)) (.int n)=gA ds (n + 1):=by
 unfold Cn
 have no:((gA ds n).any fun kv=>decide (kv.1=Sum.inr (nm ds n)))=false:=by
  rw [List.any_eq_false]
  intro p hp
  obtain ⟨j,hj,rfl⟩:=List.mem_map.mp hp
  have hj':=List.mem_range.mp hj
  simp only [decide_eq_true_eq]
  intro z
  have:=Ds h (by omega) hn (Sum.inr.inj z)
  omega
 rw [no]
 unfold gA
 rw [List.range_succ,List.map_append]
 rfl
theorem Lg {H H1 H2:Hp} {q:Addr} (a:ac H H1) (b:Fc q H1 H2) (n:H q=none):ac H H2:=fun c u e=>b c u (vb e n) (a c u e)
theorem WI {t:Adr} {H:Hp} {p q:Addr} {i j:Int} {ws vs:List Str} {k l:Nat} (a:Ce t H p i ws k) (b:Ce t H q j vs l) (n:i ≠ j):p ≠ q:=fun z=>by
 subst z
 obtain ⟨_,dx,ta,e1,_⟩:=a
 obtain ⟨_,dx',ta',e2,_⟩:=b
 rw [e1] at e2
 have e3:=Option.some.inj e2
 injection e3 with _ _ e4
 unfold rdF at e4
 injection e4 with e5 _
 injection e5 with _ e6
 injection e6 with e7
 exact n e7
theorem Tu {t:Adr} {H:Hp} {p q:Addr} {d:WD} {j:Int} {vs:List Str} {l:Nat} (a:ue t H p d) (b:Ce t H q j vs l):p ≠ q:=fun z=>by
 subst z
 obtain ⟨_,dx,e1⟩:=a
 obtain ⟨_,dx',ta',e2,_⟩:=b
 rw [e1] at e2
 have e3:=Option.some.inj e2
 injection e3 with _ _ e4
 exact absurd (congrArg List.length e4) (by show ¬ (7:Nat)=3;decide)
noncomputable def Nc (t:Adr) (H:Hp) (c:Addr) (n:Int) (ds:List WD):Prop:=
 ((ds.map (·.name)).Nodup∧ds.length ≤ 12)∧∃ dx wl nd,H c=some (.ins t.Pb dx (cF n wl nd))∧Vj t H wl ds∧H nd=some (.dK (gA ds ds.length))
theorem Nc.same {t:Adr} {H H':Hp} {c:Addr} {n:Int} {ds:List WD} (h:Nc t H c n ds) (s:ac H H'):Nc t H' c n ds:=by
 obtain ⟨h0,dx,wl,nd,e1,e2,e3⟩:=h
 exact ⟨h0,dx,wl,nd,s _ _ e1,e2.same s,s _ _ e3⟩
theorem cA {m:Str} (n:Int) (wl nd:Addr) (h:Rz.contains m=false):(cF n wl nd).lookup m=none:=Gm Rz (Ys ..) h
section
variable {w:World} {K:PySem.W.Frag} {mg:Str→Option Value} {t:Adr} {H:Hp} {c dx wl nd:Addr} {n:Int}
theorem bF (T:Txt w K mg t) (e:H c=some (.ins t.Pb dx (cF n wl nd))):Oi K H c (Str.ofString "places") (.int n):=⟨_,dx,_,e,T.bc,T.fh,Dd Rz 0 (Ys ..) (by decide +kernel) rfl⟩
theorem aG (T:Txt w K mg t) (e:H c=some (.ins t.Pb dx (cF n wl nd))):Oi K H c (Str.ofString "ways") (.ref wl):=⟨_,dx,_,e,T.bc,T.Zi,Dd Rz 1 (Ys ..) (by decide +kernel) rfl⟩
theorem lp (T:Txt w K mg t) (e:H c=some (.ins t.Pb dx (cF n wl nd))):Oi K H c (Str.ofString "numbers") (.ref nd):=⟨_,dx,_,e,T.bc,T.Vg,Dd Rz 2 (Ys ..) (by decide +kernel) rfl⟩
end
noncomputable def eG (t:Adr):Sp:=fun vs H Q _=>∃ c dx n wl ds,vs=[.ref c,.int n,.ref wl]∧H c=some (.ins t.Pb dx [])∧Vj t H wl ds∧(ds.map (·.name)).Nodup∧ds.length ≤ 12∧NoT H ∧
 ∀ H',Fc c H H'→NoT H'→Nc t H' c n ds→Q .non H'
noncomputable def OJ (t:Adr):Sp:=fun vs H Q _=>∃ n ds,vs=[.str (Ct n ds)]∧COk n ds∧NoT H∧∀ c H',ac H H'→NoT H'→Nc t H' c n ds→Q (.ref c) H'
noncomputable def Eo (t:Adr):Sp:=fun vs H Q _=>∃ c n ds,vs=[.ref c]∧Nc t H c n ds∧∀ p,H p=none→Q (.ref p) (upd H p (.lst (wb (ds.map (·.name)))))
noncomputable def wu (t:Adr):Sp:=fun vs H Q _=>∃ c n ds,∃ i:Nat,∃ d,vs=[.ref c,.str d.name]∧Nc t H c n ds∧ds[i]? = some d∧Q (.int (i:Nat)) H
noncomputable def ki (t:Adr):Sp:=fun vs H Q _=>∃ c n ds,∃ i:Nat,∃ d,vs=[.ref c,.str d.name]∧Nc t H c n ds∧ds[i]? = some d∧∀ a,ue t H a d→Q (.ref a) H
section
variable {P:Program} {w:World} {K:PySem.W.Frag} {mg:Str→Option Value} {base:Heap} {t:Adr}
theorem pK (T:Txt w K mg t):Jb P w K mg base CX0 1 t.we t.df ["self","places","ways"] (eG t):=by
 refine T.pj.ok Je (fun vs H Q E h=>?_) (fun cdv A outer s H vs Q E hr h=>?_)
 ·obtain ⟨c,dx,n,wl,ds,rfl,_⟩:=h;rfl
 obtain ⟨c,dx,n,wl,ds,rfl,hc,hW,hnd,hdl,nt,q⟩:=h
 have hu:=Iz hr
 refine ⟨_,(fb (Pe (pv 0) (pv 1) rfl)
   (fb (Pe (pv 0) (pv 2) rfl)
   (fb (Pe (pv 0) ay rfl)
   (ib (Ge PassesOwn.never rfl (Mt rfl T.Hi (cb (pv 2) gb)) (kg (K:=K) (n:=2) rfl rfl (Sb (zb (i:=3) Je.nd rfl (Or.inl rfl) (.inl rfl)) (Sb (zb (i:=4) Je.nd rfl (Or.inl rfl) (.inl rfl)) vg))) (ib (zB hu (Ac (pv 0) rfl) (Ac (pv 4) rfl) (pv 3) rfl))))))),?_⟩
 (walk_at "RD")
 refine ⟨_,_,_,hc,T.bc,T.fh,by decide,?_⟩
 refine ⟨_,_,_,db,T.bc,T.Zi,uo (n:=999) (by decide),fun nd hn=>?_⟩
 simp only [Qg] at hn ⊢
 rw [show og (Str.ofString "places") (V.int n) ([]:List (Str × V))=[(Str.ofString "places",V.int n)] from rfl,show og (Str.ofString "ways") (V.ref wl) [(Str.ofString "places",V.int n)]=[(Str.ofString "places",V.int n),(Str.ofString "ways",V.ref wl)] from Ic [Str.ofString "places"] rfl (by decide +kernel)] at hn ⊢
 have hnc:c ≠ nd:=fun z=>by subst z;rw [db] at hn;cases hn
 refine ⟨t.Pb,dx,[(Str.ofString "places",V.int n),(Str.ofString "ways",V.ref wl)],by rw [lb hnc];exact db,T.bc,T.Vg,show (2:Nat) < 1000 by decide,?_⟩
 rw [show og (Str.ofString "numbers") (V.ref nd) [(Str.ofString "places",V.int n),(Str.ofString "ways",V.ref wl)]=cF n wl nd from Ic [Str.ofString "places",Str.ofString "ways"] rfl (by decide +kernel)]
 obtain ⟨as,w1,w2,al⟩:=hW
 have hHn:H nd=none:=by rw [lb (Ne.symm hnc)] at hn;exact hn
 have sx:Fc c H (upd (upd (upd H c (.ins t.Pb dx [(Str.ofString "places",V.int n),(Str.ofString "ways",V.ref wl)])) nd (.dK [])) c (.ins t.Pb dx (cF n wl nd))):=fun b u hb e=>by
  rw [lb hb,lb (vb e hHn),lb hb];exact e
 have hwc:wl ≠ c:=Xd w1 hc (by intro z;cases z)
 refine ⟨⟨_,SqL.of (sx _ _ hwc w1)⟩,?_⟩
 refine kj.enum (xs:=as.map V.ref) (fun i σ H'=>(∃ x y,σ=[some (V.ref c),some (V.int n),some (V.ref wl),x,y])∧H' c=some (.ins t.Pb dx (cF n wl nd))∧H' nd=some (.dK (gA ds i))∧Fc c H H'∧NoT H') ?_ ?_ ?_ ?_
 ·exact ⟨⟨_,_,rfl⟩,db,by rw [lb (Ne.symm hnc),db];rfl,sx,((nt.upd).upd).upd⟩
 ·rintro i σ H' hi ⟨_,_,_,sx',_⟩
  exact SqL.of (sx' _ _ hwc w1)
 ·rintro i v σ H' p hv ⟨⟨x,y,rfl⟩,h1,h2,sx',nt'⟩ hp
  obtain ⟨a,ha,rfl⟩:=Kb hv
  obtain ⟨hi,_⟩:=List.getElem?_eq_some_iff.mp ha
  have hid:i < ds.length:=by omega
  have hd:ds[i]? = some ds[i]:=List.getElem?_eq_getElem hid
  have Wa:ue t H a ds[i]:=al i a _ ha hd
  have hac:a ≠ c:=by
   obtain ⟨_,dx',e⟩:=Wa
   intro z
   subst z
   rw [hc] at e
   have e2:=Option.some.inj e
   injection e2 with _ _ e3
   exact absurd (congrArg List.length e3) (by show ¬ (0:Nat)=7;decide)
  have Wa':ue t H' a ds[i]:=⟨Wa.1,Wa.2.imp fun dx' e=>sx' _ _ hac e⟩
  have sp:ac H' (upd H' p (.tup [.int i,.ref a])):=pb hp
  refine Nm ?_
  (walk_at "RD")
  refine ⟨_,lp T (sp _ _ h1),_,(Wa'.same sp).f_name T,_,rfl,_,AD.k (k:=Sum.inr ds[i].name) (sp _ _ h2) (Nat.lt_of_le_of_lt (show (gA ds i).length ≤ 12 by unfold gA;rw [List.length_map,List.length_range];omega) (by decide)),?_⟩
  rw [← ko hd,MF hnd hid]
  refine ⟨⟨_,rfl⟩,?_,db,fun b u hb e=>?_,(nt'.upd).upd⟩
  ·rw [lb hnc];exact sp _ _ h1
  ·rw [lb (vb e hHn)];exact sp _ _ (sx' b u hb e)
 ·rintro σ H' ⟨⟨x,y,rfl⟩,h1,h2,sx',nt'⟩
  (walk_at "RD")
  rw [List.length_map,w2] at h2
  refine q H' sx' nt' ⟨⟨hnd,hdl⟩,dx,wl,nd,h1,⟨as,sx' _ _ hwc w1,w2,fun i a d h3 h4=>?_⟩,h2⟩
  have Wa:=al i a d h3 h4
  have hac:a ≠ c:=by
   obtain ⟨_,dx',e⟩:=Wa
   intro z
   subst z
   rw [hc] at e
   have e2:=Option.some.inj e
   injection e2 with _ _ e3
   exact absurd (congrArg List.length e3) (by show ¬ (0:Nat)=7;decide)
  exact ⟨Wa.1,Wa.2.imp fun dx' e=>sx' _ _ hac e⟩
theorem fC (T:Txt w K mg t):Jb P w K mg base CX0 1 t.Sd t.Ee ["self","name"] (wu t):=by
 refine T.ci.ok rm (fun vs H Q E h=>?_) (fun cdv A outer s H vs Q E hr h=>?_)
 ·obtain ⟨c,n,ds,i,d,rfl,_⟩:=h;rfl
 obtain ⟨c,n,ds,i,d,rfl,⟨⟨hnd,hdl⟩,dx,wl,nd,e1,e2,e3⟩,hd,q⟩:=h
 have hu:=Iz hr
 have hv:nj (gA ds ds.length) (Sum.inr d.name)=some (.int i):=by
  rw [← ko hd]
  exact qE hnd (List.getElem?_eq_some_iff.mp hd).1 (Nat.le_refl _)
 have hg:Su H nd (.str d.name) (some (.int i)):=by rw [← hv];exact Su.k (k:=Sum.inr d.name) e3
 refine ⟨_,(fb (Ie (BG (Wu hu (pv 1) (Ac (pv 0) rfl))) (ib Bk) Kc)
   (ib (Lb (AC hu (Ac (pv 0) rfl) (pv 1) (fun _ _=>rfl))))),?_⟩
 (walk_at "RD")
 refine ic false (fun Q hQ=>?_) (fun hc=>nomatch hc) (fun _=>?_)
 ·(walk_at "RD")
  refine ⟨_,lp T e1,_,rfl,_,hg,?_⟩
  exact hQ
 ·(walk_at "RD")
  exact ⟨_,lp T e1,_,rfl,_,hg,q⟩
theorem Hj (T:Txt w K mg t):Jb P w K mg base CX0 2 t.vc t.Ec ["self","name"] (ki t):=by
 have G_Crossing_number:Jb P w K mg base CX0 1 t.Sd t.Ee ["self","name"] (wu t):=fC T
 refine T.ti.ok fm (fun vs H Q E h=>?_) (fun cdv A outer s H vs Q E hr h=>?_)
 ·obtain ⟨c,n,ds,i,d,rfl,_⟩:=h;rfl
 obtain ⟨c,n,ds,i,d,rfl,C,hd,q⟩:=h
 obtain ⟨⟨hnd,hdl⟩,dx,wl,nd,e1,⟨as,w1,w2,al⟩,e3⟩:=id C
 refine ⟨_,(ib (Lb (Gc xc (Ac (pv 0) rfl) (Tc (pv 0) T.bc T.Qm G_Crossing_number hr T.dn .nil Db (cb (pv 1) gb)) (fun _ _=>rfl)))),?_⟩
 (walk_at "RD")
 refine ⟨_,aG T e1,_,_,e1,cA _ _ _ (by decide +kernel),⟨c,n,ds,i,d,rfl,C,hd,?_⟩⟩
 have hi:i < as.length:=by rw [w2];exact (List.getElem?_eq_some_iff.mp hd).1
 have ha:as[i]? = some as[i]:=List.getElem?_eq_getElem hi
 (walk_at "RD")
 refine ⟨_,SqL.of w1,_,Eb (show (as.map V.ref)[i]? = some (V.ref as[i]) by rw [List.getElem?_map,ha];rfl),?_⟩
 exact q as[i] (al i _ d ha hd)
theorem lL (T:Txt w K mg t):Jb P w K mg base CX0 7 t.gf t.sf ["text"] (OJ t):=by
 have G_readers:Jb P w K mg base CX0 6 t.Dj t.Yj ["text"] (Tm t):=(Bs T).mono (by decide)
 have G_read_ring:Jb P w K mg base CX0 6 t.Ki t.Ii ["reader"] (QC t):=(WH T).mono (by decide)
 have G_read_way:Jb P w K mg base CX0 6 t.vk t.xk ["reader","places","ways"] (yG t):=NJ T
 have G_Crossing_init:Jb P w K mg base CX0 5 t.we t.df ["self","places","ways"] (eG t):=(pK T).mono (by decide)
 refine T.Rg.ok ee (fun vs H Q E h=>?_) (fun cdv A outer s H vs Q E hr h=>?_)
 ·obtain ⟨n,ds,rfl,_⟩:=h;rfl
 obtain ⟨n,ds,rfl,hC,nt,qq⟩:=h
 refine ⟨_,(fb (Hb (i:=1) ee.nd rfl (Or.inl rfl) (xb G_readers hr rfl T.Xv T.Ql.kp T.Pu .nil Db (cb (pv 0) gb)))
   (fb (Hb (i:=2) ee.nd rfl (Or.inl rfl) (xb G_read_ring hr rfl T.jx T.Jl.kp T.Ww .nil Db (cb (Gc xc (pv 1) qb (fun _ _=>rfl)) gb)))
   (fb (Hb (i:=3) ee.nd rfl (Or.inl rfl) (ve gb))
   (fb (Ge PassesOwn.never rfl (Lc (gh Lx (pv 1) (Mj qb) jk)) (zb (i:=4) ee.nd rfl (Or.inl rfl)) (fb (Ie (dc xg (yc Ob rfl T.bi jc (cb (pv 3) gb)) (Hf rfl T.Dx T.xx) (Zb _)) (ib Bk) Kc)
   (ib (Ub (rg PySem.F.plainAttrs_list PySem.F.slot_list_append PySem.F.type_list_append ge (pv 3) (cb (xb G_read_way hr rfl T.ez T.rn.kp T.bA .nil Db (cb (pv 4) (cb (pv 2) (cb (pv 3) gb)))) gb))))))
   (fb (Ie (Hn (Tx (pv 3) (fun _=>rfl))) (ib Bk) Kc)
   (ib (Lb (bn T.Oz G_Crossing_init hr rfl T.dz T.Np .nil Db (cb (pv 2) (cb (pv 3) gb)))))))))),?_⟩
 have hrow:=Hz hC
 have hlen:=NC hC
 have hnn:=hC.nn
 have hln:=hC.ln
 (walk_at "RD")
 refine ⟨Ct n ds,rfl,by omega,?_,nt,fun p H1 sm1 nt1 R=>?_⟩
 ·rw [hrow]
  intro r hr
  refine ⟨?_,fun x hx=>Nat.le_trans (hC.plain r hr x hx).1 (by decide)⟩
  rcases List.mem_cons.mp hr with rfl | hr
  ·show (2:Nat) ≤ 1000;decide
  ·obtain ⟨d,hd,rfl⟩:=List.mem_map.mp hr
   show (7:Nat) ≤ 1000;decide
 rw [hrow] at R
 obtain ⟨qs,hp,hp0,hql,hqa⟩:=R
 have hql':qs.length=ds.length + 1:=by rw [hql];simp [Ph]
 obtain ⟨q0,qr,rfl⟩:∃ q0 qr,qs=q0 :: qr:=by
  cases qs with
  | nil=>simp at hql'
  | cons a b=>exact ⟨a,b,rfl⟩
 obtain ⟨R0,hq0⟩:=hqa 0 q0 _ rfl rfl
 (walk_at "RD")
 refine ⟨_,SqL.of hp,_,Eb (j:=0) rfl,⟨q0,_,n,rfl,R0,hnn,nt1,fun H2 s2 nt2=>⟨Nat.zero_le _,fun wl hwl=>?_⟩⟩⟩
 obtain ⟨C0,dq0,fq0,hins⟩:=R0.ins
 have hpq:p ≠ q0:=Xd hp hins (by intro z;cases z)
 have hp2:H2 p=some (.lst ((q0 :: qr).map V.ref)):=s2 _ _ hpq hp
 have swl:ac H2 (upd H2 wl (.lst [])):=pb hwl
 have hcut:Jx ((q0 :: qr).map V.ref) (some 1) none=qr.map V.ref:=by
  unfold Jx
  simp [HT.sIx]
  exact List.take_of_length_le (by rw [List.length_map];exact Nat.le_refl _)
 refine ⟨_,SqL.of (swl _ _ hp2),fun pc hpc=>?_⟩
 rw [hcut]
 have hpw:pc ≠ wl:=fun z=>by subst z;rw [db] at hpc;cases hpc
 have spc:ac (upd H2 wl (.lst [])) (upd (upd H2 wl (.lst [])) pc (.lst (qr.map V.ref))):=pb hpc
 refine ⟨⟨_,SqL.of db⟩,?_⟩
 have sH2:ac H H2:=Lg sm1 s2 hq0
 have hqrl:qr.length=ds.length:=by simpa using hql'
 refine kj.list (xs:=qr.map V.ref) (fun i σ H'=>(∃ x,σ=[some (V.str (Ct n ds)),some (V.ref p),some (V.int n),some (V.ref wl),x])∧NoT H'∧ac H H'∧H' pc=some (.lst (qr.map V.ref))∧H wl=none∧Vj t H' wl (ds.take i) ∧
  ∀ (j:Nat) (q:Addr) (d:WD),i ≤ j→qr[j]? = some q→ds[j]? = some d→Ce t H' q ((j + 1:Nat):Int) (Uj d) 0∧H q=none) ?_ ?_ ?_ ?_
 ·refine ⟨⟨_,rfl⟩,(nt2.upd).upd,(sH2.trans swl).trans spc,db,sH2.free hwl,⟨[],spc _ _ db,rfl,fun j a d h=>by simp at h⟩,fun j q d _ h1 h2=>?_⟩
  have hr:(Ph n ds)[j + 1]? = some (Uj d):=by
   unfold Ph
   rw [List.getElem?_cons_succ,List.getElem?_map,h2];rfl
  obtain ⟨Rj,hqj⟩:=hqa (j + 1) q _ (by rw [List.getElem?_cons_succ];exact h1) hr
  refine ⟨((Rj.sameX s2 (WI Rj R0 (by omega)) R0.ins).same swl).same spc,hqj⟩
 ·rintro i σ H' hi ⟨_,_,_,h,_⟩
  exact SqL.of h
 ·rintro i v σ H' hv ⟨⟨x,rfl⟩,nt',sm',hpc',hwl0,W,Rs⟩
  obtain ⟨q,hq,rfl⟩:=Kb hv
  obtain ⟨hi,_⟩:=List.getElem?_eq_some_iff.mp hq
  have hid:i < ds.length:=by omega
  have hd:ds[i]? = some ds[i]:=List.getElem?_eq_getElem hid
  obtain ⟨Rq,hqn⟩:=Rs i q _ (Nat.le_refl _) hq hd
  have htl:(ds.take i).length=i:=by rw [List.length_take];omega
  obtain ⟨as,w1,w2,al⟩:=id W
  (walk_at "RD")
  refine ic false (fun Q hQ=>?_) (fun hc=>nomatch hc) (fun _=>?_)
  ·(walk_at "RD")
   refine ⟨_,.inl (SqL.of w1),?_⟩
   rw [List.length_map,w2,htl]
   rw [decide_eq_false (by omega)] <;> exact hQ
  ·(walk_at "RD")
   refine ⟨.inl ⟨_,SqL.of w1⟩,?_⟩
   refine ⟨q,_,n,wl,ds.take i,ds[i],rfl,Rq,hC.al _ (List.getElem_mem hid),hnn,W,by omega,fun e he z=>?_,nt',fun y H3 s3 nt3 w3 hy3=>?_⟩
   ·obtain ⟨j,hj,rfl⟩:=List.getElem_of_mem he
    rw [List.getElem_take] at z
    have hj':j < i:=by omega
    have:=Ds hC.nd (i:=j) (j:=i) (by omega) hid (by rw [ko (List.getElem?_eq_getElem (by omega)),ko hd];exact z)
    omega
   ·(walk_at "RD")
    obtain ⟨Cq,dq,fq,hqi⟩:=Rq.ins
    have hwq:wl ≠ q:=Xd w1 hqi (by intro z;cases z)
    have hw3:H3 wl=some (.lst (as.map V.ref)):=s3 _ _ hwq w1
    have hsm3:ac H H3:=Lg sm' s3 hqn
    refine ⟨_,hw3,Nat.lt_of_le_of_lt (show (as.map V.ref).length ≤ 12 by rw [List.length_map];omega) (by decide),?_⟩
    have hyw:y ≠ wl:=fun z=>by
     subst z
     rw [w1] at hy3;cases hy3
    refine ⟨⟨_,rfl⟩,nt3.upd,fun b u e=>?_,?_,hwl0,⟨as ++ [y],by rw [db,List.map_append];rfl,?_,fun j a d h1 h2=>?_⟩,fun j q' d hj h1 h2=>?_⟩
    ·rw [lb (vb e hwl0)];exact hsm3 _ _ e
    ·rw [lb hpw]
     exact s3 _ _ (Xd hpc' hqi (by intro z;cases z)) hpc'
    ·rw [List.length_append,w2,htl,List.length_take];show i + 1=_;omega
    ·by_cases hj:j < as.length
     ·rw [List.getElem?_append_left hj] at h1
      have h2':(ds.take i)[j]? = some d:=by
       rw [List.getElem?_take_of_lt (by omega)]
       rw [List.getElem?_take_of_lt (by omega)] at h2
       exact h2
      obtain ⟨hk,dx',e⟩:=al j a d h1 h2'
      have haq:a ≠ q:=Tu ⟨hk,dx',e⟩ Rq
      have haw:a ≠ wl:=Xd e w1 (by intro z;cases z)
      exact ⟨hk,dx',by rw [lb haw];exact s3 _ _ haq e⟩
     ·rw [List.getElem?_append_right (by omega)] at h1
      have hj0:j - as.length=0:=by
       cases hh:j - as.length with
       | zero=>rfl
       | succ m=>rw [hh] at h1;simp at h1
      rw [hj0] at h1
      have e3:y=a:=by simpa using h1
      subst e3
      have e4:j=i:=by omega
      subst e4
      rw [List.getElem?_take_of_lt (by omega),hd] at h2
      cases h2
      exact ⟨w3.1,w3.2.imp fun dx' e=>by rw [lb hyw];exact e⟩
    ·obtain ⟨Rj,hqj⟩:=Rs j q' d (by omega) h1 h2
     have R3:=Rj.sameX s3 (WI Rj Rq (by omega)) Rq.ins
     refine ⟨?_,hqj⟩
     obtain ⟨hz,dx',ta,e1,e2⟩:=R3
     refine ⟨hz,dx',ta,by rw [lb (Xd e1 hw3 (by intro z;cases z))];exact e1,?_⟩
     rw [lb (fun z=>by
      subst z
      rw [hw3] at e2
      have e5:=Option.some.inj e2
      injection e5 with e6
      cases as with
      | nil=>exact absurd (congrArg List.length e6) (by show ¬ (0:Nat)=7;decide)
      | cons a r=>injection e6 with e7 _;cases e7)]
     exact e2
 ·rintro σ H' ⟨⟨x,rfl⟩,nt',sm',hpc',hwl0,W,Rs⟩
  rw [List.length_map,hqrl,List.take_length] at W
  obtain ⟨as,w1,w2,al⟩:=id W
  (walk_at "RD")
  refine ic false (fun Q hQ=>?_) (fun hc=>nomatch hc) (fun _=>?_)
  ·(walk_at "RD")
   refine ⟨true,.inl ⟨_,SqL.of w1,?_⟩,hQ⟩
   cases as with
   | nil=>simp at w2;omega
   | cons a r=>rfl
  ·(walk_at "RD")
   intro c dx hc hdx hne
   have sc:ac H' (upd (upd H' dx (.own c)) c (.ins t.Pb dx [])):=((ac.refl H').updN hdx).updN hc
   refine ⟨c,dx,n,wl,ds,rfl,db,W.same sc,hC.nd,hln.2,(nt'.upd).upd,fun H5 s5 nt5 C5=>⟨rfl,?_⟩⟩
   exact qq c H5 (Lg (sm'.trans sc) s5 (sm'.free hc)) nt5 C5
end
section
variable {P:Program} {w:World} {K:PySem.W.Frag} {mg:Str→Option Value} {base:Heap} {t:Adr}
theorem wt (T:Txt w K mg t):Jb P w K mg base CX0 1 t.ad t.Ad ["self"] (Eo t):=by
 refine T.ij.ok gn (fun vs H Q E h=>?_) (fun cdv A outer s H vs Q E hr h=>?_)
 ·obtain ⟨c,n,ds,rfl,_⟩:=h;rfl
 obtain ⟨c,n,ds,rfl,⟨⟨hnd,hdl⟩,dx,wl,nd,e1,⟨as,w1,w2,al⟩,e3⟩,q⟩:=h
 refine ⟨_,(ib (Lb (zd rfl (Lc (Ac (pv 0) rfl)) (fc (sc:=jb ug) rfl (by decide +kernel)) (N:=["way"]) (sel:=[none]) (Jc (M:=["self"]) (by decide +kernel)) (Blk.of (fun _ _ _ _=>(zb (i:=0) (ke (N:=["way"]) (by decide +kernel) rfl) rfl (Or.inl rfl))) (fun _ _ _ _=>⟨_,Qd,by first | rfl | (dsimp only [Cx.block];done) | (dsimp only [Cx.block];exact rfl)⟩) (fun _ _ _ _=>⟨_,(Ac (pv 0) rfl),by first | rfl | (dsimp only [Cx.block];done) | (dsimp only [Cx.block];exact rfl)⟩))))),?_⟩
 (walk_at "RD")
 refine ⟨_,aG T e1,_,rfl,⟨_,SqL.of w1⟩,?_⟩
 refine Xc.list_zs (xs:=as.map V.ref) (zs:=wb (ds.map (·.name))) (SqL.of w1) (by rw [List.length_map,w2];exact Nat.le_trans hdl (by decide)) (by rw [Nb,List.length_map,List.length_map,w2]) (fun i v z N hv hz' hN=>?_) (fun p hp=>q p hp)
 obtain ⟨a,ha,rfl⟩:=Kb hv
 obtain ⟨x,hx,rfl⟩:=Kb hz'
 obtain ⟨d,hd,rfl⟩:=Kb hx
 (walk_at "RD")
 exact ⟨Sub.name,_,(al i a d ha hd).f_name T,hN⟩
end
end My
namespace My
open PySem L2
theorem Yn {n s p:Int} (h0:0 ≤ s) (h1:s < n) (h2:0 ≤ p) (h3:p < n):(p - s) % n=if s ≤ p then p - s else p - s + n:=by
 split
 ·rename_i h;exact Int.emod_eq_of_lt (by omega) (by omega)
 ·rename_i h
  have e:(p - s) % n=(p - s + n) % n:=(Int.add_emod_right ..).symm
  rw [e]
  exact Int.emod_eq_of_lt (by omega) (by omega)
noncomputable def Bm (n s f p:Int):Bool:=decide (0 < (p - s) % n) && decide ((p - s) % n < (f - s) % n)
noncomputable def Uw (n s f s2 f2:Int):Bool:=decide (f=f2) || (if (s2=s∨s2=f)∨(f2=s∨f2=f) then false else (Bm n s f s2 != Bm n s f f2))
theorem pH {X Y X' Y':Prop} [Decidable X] [Decidable Y] [Decidable X'] [Decidable Y'] (h:(X↔Y)↔(X'↔Y')):(decide X != decide Y)=(decide X' != decide Y'):=by
 by_cases a:X <;> by_cases b:Y <;> by_cases c:X' <;> by_cases d:Y' <;> simp_all
theorem Mz {n s f s2 f2:Int} (hs:0 ≤ s∧s < n) (hf:0 ≤ f∧f < n) (hs2:0 ≤ s2∧s2 < n) (hf2:0 ≤ f2∧f2 < n) (hne:s ≠ f) (hne2:s2 ≠ f2):Uw n s f s2 f2=Uw n s2 f2 s f:=by
 unfold Uw
 by_cases e:f=f2
 ·rw [decide_eq_true e,decide_eq_true e.symm];rfl
 ·rw [decide_eq_false e,decide_eq_false (Ne.symm e)]
  by_cases c:(s2=s∨s2=f)∨(f2=s∨f2=f)
  ·have c':(s=s2∨s=f2)∨(f=s2∨f=f2):=by omega
   rw [if_pos c,if_pos c']
  ·have c':¬ ((s=s2∨s=f2)∨(f=s2∨f=f2)):=by omega
   rw [if_neg c,if_neg c']
   unfold Bm
   rw [Yn hs.1 hs.2 hs2.1 hs2.2,Yn hs.1 hs.2 hf2.1 hf2.2,Yn hs.1 hs.2 hf.1 hf.2,Yn hs2.1 hs2.2 hs.1 hs.2,Yn hs2.1 hs2.2 hf.1 hf.2,Yn hs2.1 hs2.2 hf2.1 hf2.2]
   rw [← Bool.decide_and,← Bool.decide_and,← Bool.decide_and,← Bool.decide_and,Bool.false_or,Bool.false_or]
   refine pH ?_
   split <;> split <;> split <;> split <;> split <;> split <;> omega
noncomputable abbrev mt (n:Int) (d e:WD):Bool:=Uw n d.start d.fin e.start e.fin
noncomputable def sG (t:Adr):Sp:=fun vs H Q _=>∃ a d n p,vs=[.int n,.ref a,.int p]∧ue t H a d∧0 < n∧Q (.bl (Bm n d.start d.fin p)) H
noncomputable def RK (n:Int) (d e:WD):Bool:=if (e.start=d.start∨e.start=d.fin)∨(e.fin=d.start∨e.fin=d.fin) then false else (Bm n d.start d.fin e.start != Bm n d.start d.fin e.fin)
noncomputable def NA (t:Adr):Sp:=fun vs H Q _=>∃ a b d e n,vs=[.int n,.ref a,.ref b]∧ue t H a d∧ue t H b e∧0 < n∧NoT H∧Q (.bl (RK n d e)) H
noncomputable def QD (t:Adr):Sp:=fun vs H Q _=>∃ a b d e n,vs=[.int n,.ref a,.ref b]∧ue t H a d∧ue t H b e∧0 < n∧∀ H',ac H H'→Q (.bl (RK n d e)) H'
noncomputable def ax (t:Adr):Sp:=fun vs H Q _=>∃ c n ds,∃ i j:Nat,∃ d e,vs=[.ref c,.str d.name,.str e.name]∧Nc t H c n ds∧0 < n∧ds[i]? = some d∧ds[j]? = some e∧NoT H∧Q (.bl (mt n d e)) H
section
variable {P:Program} {w:World} {K:PySem.W.Frag} {mg:Str→Option Value} {base:Heap} {t:Adr}
theorem mK (T:Txt w K mg t):Jb P w K mg base CX0 1 t.Mo t.Lo ["places","way","place"] (sG t):=by
 refine T.Fo.ok Yv (fun vs H Q E h=>?_) (fun cdv A outer s H vs Q E hr h=>?_)
 ·obtain ⟨a,d,n,p,rfl,_⟩:=h;rfl
 obtain ⟨a,d,n,p,rfl,W,hn,q⟩:=h
 refine ⟨_,(fb (Hb (i:=3) Yv.nd rfl (Or.inl rfl) (Mb xf (Mb Fm (pv 2) (Ac (pv 1) rfl)) (pv 0)))
   (ib (Lb (EA (Ld du qb (pv 3) (Zb _)) (Ru (Ld du (pv 3) (Mb xf (Mb Fm (Ac (pv 1) rfl) (Ac (pv 1) rfl)) (pv 0)) (Zb _))))))),?_⟩
 (walk_at "RD")
 refine ⟨_,W.f_start T,_,rfl,hn,?_⟩
 unfold Bm at q
 by_cases c:0 < (p - d.start) % n
 ·rw [if_pos (decide_eq_true c)]
  rw [decide_eq_true c,Bool.true_and] at q
  exact ⟨_,W.f_end T,_,W.f_start T,_,rfl,_,rfl,hn,q⟩
 ·rw [if_neg (by simpa using c)]
  rw [decide_eq_false c,Bool.false_and] at q
  exact q
theorem gM (x a b:Int):inV (.int x) [.int a,.int b]=decide (x=a∨x=b):=by
 unfold inV
 simp only [List.any_cons,List.any_nil,eqV,Bool.or_false]
 rw [Bool.eq_iff_iff]
 simp only [Bool.or_eq_true,beq_iff_eq,decide_eq_true_eq]
 omega
theorem XI (T:Txt w K mg t):Jb P w K mg base CX0 2 t.Fh t.kh ["places","way","second"] (NA t):=by
 refine Jb.forget (sp:=QD t) ?_ fun vs H Q E h=>?_
 ·have G_in_bow:Jb P w K mg base CX0 1 t.Mo t.Lo ["places","way","place"] (sG t):=mK T
  refine T.ck.ok Vt (fun vs H Q E h=>?_) (fun cdv A outer s H vs Q E hr h=>?_)
  ·obtain ⟨a,b,d,e,n,rfl,_⟩:=h;rfl
  obtain ⟨a,b,d,e,n,rfl,Wa,Wb,hn,q⟩:=h
  refine ⟨_,(fb (Ie (PW.pt (Gu (dc im (Ac (pv 2) rfl) (ve (cb (Ac (pv 1) rfl) (cb (Ac (pv 1) rfl) gb))) (by with_unfolding_all rfl)) (Ir (dc im (Ac (pv 2) rfl) (ve (cb (Ac (pv 1) rfl) (cb (Ac (pv 1) rfl) gb))) (by with_unfolding_all rfl))))) (ib (Lb Qq)) Kc)
   (ib (Lb (Ld tz (xb G_in_bow hr rfl T.ky T.Fo.kp T.Iy .nil Db (cb (pv 0) (cb (pv 1) (cb (Ac (pv 2) rfl) gb)))) (xb G_in_bow hr rfl T.ky T.Fo.kp T.Iy .nil Db (cb (pv 0) (cb (pv 1) (cb (Ac (pv 2) rfl) gb)))) (Zb _))))),?_⟩
  (walk_at "RD")
  refine Ay (fun b H'=>ac H H'∧b=decide ((e.start=d.start∨e.start=d.fin)∨(e.fin=d.start∨e.fin=d.fin))) (fun Q hQ=>?_) (fun H' ⟨sm,hb⟩=>?_) (fun H' ⟨sm,hb⟩=>?_)
  ·(walk_at "RD")
   refine ⟨_,Wb.f_start T,_,Wa.f_start T,_,Wa.f_end T,by decide,fun p hp=>⟨_,.inl (SqL.of db),rfl,rfl,?_⟩⟩
   have s1:ac H (upd H p (.lst [.int d.start,.int d.fin])):=pb hp
   rw [gM]
   by_cases c1:e.start=d.start∨e.start=d.fin
   ·rw [if_pos (decide_eq_true c1)]
    exact hQ _ _ ⟨s1,(decide_eq_true (.inl c1)).symm⟩
   ·rw [if_neg (by simpa using c1)]
    refine ⟨_,(Wb.same s1).f_end T,_,(Wa.same s1).f_start T,_,(Wa.same s1).f_end T,by decide,fun p2 hp2=>⟨_,.inl (SqL.of db),rfl,rfl,?_⟩⟩
    rw [gM]
    refine hQ _ _ ⟨s1.trans (pb hp2),?_⟩
    rw [Bool.eq_iff_iff,decide_eq_true_eq,decide_eq_true_eq]
    exact ⟨.inr,fun z=>z.resolve_left c1⟩
  ·(walk_at "RD")
   have hb':=of_decide_eq_true hb.symm
   have:=q H' sm
   unfold RK at this
   rw [if_pos hb'] at this
   exact this
  ·(walk_at "RD")
   have hb':=of_decide_eq_false hb.symm
   refine ⟨_,(Wb.same sm).f_start T,⟨a,d,n,_,rfl,Wa.same sm,hn,?_⟩⟩
   refine ⟨_,(Wb.same sm).f_end T,⟨a,d,n,_,rfl,Wa.same sm,hn,?_⟩⟩
   refine ⟨rfl,?_⟩
   have:=q H' sm
   unfold RK at this
   rw [if_neg hb'] at this
   rw [show (!decide (V.bl (Bm n d.start d.fin e.start)=V.bl (Bm n d.start d.fin e.fin)))=(Bm n d.start d.fin e.start != Bm n d.start d.fin e.fin) by
    cases Bm n d.start d.fin e.start <;> cases Bm n d.start d.fin e.fin <;> rfl]
   exact this
 ·obtain ⟨a,b,d,e,n,h1,h2,h3,h4,nt,q⟩:=h
  exact ⟨nt,a,b,d,e,n,h1,h2,h3,h4,fun H' sm=>⟨sm,q⟩⟩
theorem qL (n:Int) (d e:WD):mt n d e=(decide (d.fin=e.fin) || RK n d e):=rfl
theorem JA (T:Txt w K mg t):Jb P w K mg base CX0 3 t.Qv t.Fv ["crossing","one","other"] (ax t):=by
 have G_Crossing_called:Jb P w K mg base CX0 2 t.vc t.Ec ["self","name"] (ki t):=Hj T
 have G_bows_cross:Jb P w K mg base CX0 2 t.Fh t.kh ["places","way","second"] (NA t):=XI T
 refine T.Cy.ok Lw (fun vs H Q E h=>?_) (fun cdv A outer s H vs Q E hr h=>?_)
 ·obtain ⟨c,n,ds,i,j,d,e,rfl,_⟩:=h;rfl
 obtain ⟨c,n,ds,i,j,d,e,rfl,C,hn,hd,he,nt,q⟩:=h
 obtain ⟨_,dx,wl,nd,e1,e2,e3⟩:=id C
 refine ⟨_,(fb (Hb (i:=3) Lw.nd rfl (Or.inl rfl) (Tc (pv 0) T.bc T.Dc G_Crossing_called hr T.Hc .nil Db (cb (pv 1) gb)))
   (fb (Hb (i:=4) Lw.nd rfl (Or.inl rfl) (Tc (pv 0) T.bc T.Dc G_Crossing_called hr T.Hc .nil Db (cb (pv 2) gb)))
   (ib (Lb (tK (Ld xg (Ac (pv 3) rfl) (Ac (pv 4) rfl) (Zb _)) (Ru (xb G_bows_cross hr rfl T.xv T.ck.kp T.qu .nil Db (cb (Ac (pv 0) rfl) (cb (pv 3) (cb (pv 4) gb)))))))))),?_⟩
 rw [qL] at q
 (walk_at "RD")
 refine ⟨_,_,e1,cA _ _ _ (by decide +kernel),⟨c,n,ds,i,d,rfl,C,hd,fun a Wa=>?_⟩⟩
 (walk_at "RD")
 refine ⟨_,_,e1,cA _ _ _ (by decide +kernel),⟨c,n,ds,j,e,rfl,C,he,fun b Wb=>?_⟩⟩
 (walk_at "RD")
 refine ⟨_,Wa.f_end T,_,Wb.f_end T,rfl,?_⟩
 (walk_at "RD")
 by_cases c1:d.fin=e.fin
 ·rw [if_pos (decide_eq_true c1)]
  rw [decide_eq_true c1,Bool.true_or] at q
  exact q
 ·rw [if_neg (by simpa using c1)]
  rw [decide_eq_false c1,Bool.false_or] at q
  exact ⟨_,bF T e1,⟨a,b,d,e,n,rfl,Wa,Wb,hn,nt,q⟩⟩
end
noncomputable def NG (t:Adr):Sp:=fun vs H Q _=>∃ c n ds,∃ i j:Nat,∃ d e,vs=[.ref c,.str d.name,.str e.name]∧Nc t H c n ds∧ds[i]? = some d∧ds[j]? = some e∧Q (.int (if d.off - e.near > 0 then d.off - e.near else 0)) H
section
variable {P:Program} {w:World} {K:PySem.W.Frag} {mg:Str→Option Value} {base:Heap} {t:Adr}
theorem BK (T:Txt w K mg t):Jb P w K mg base CX0 3 t.WE t.vE ["crossing","one","other"] (NG t):=by
 have G_Crossing_called:Jb P w K mg base CX0 2 t.vc t.Ec ["self","name"] (ki t):=Hj T
 refine T.bI.ok yA (fun vs H Q E h=>?_) (fun cdv A outer s H vs Q E hr h=>?_)
 ·obtain ⟨c,n,ds,i,j,d,e,rfl,_⟩:=h;rfl
 obtain ⟨c,n,ds,i,j,d,e,rfl,C,hd,he,q⟩:=h
 obtain ⟨_,dx,wl,nd,e1,e2,e3⟩:=id C
 refine ⟨_,(fb (Hb (i:=3) yA.nd rfl (Or.inl rfl) (Tc (pv 0) T.bc T.Dc G_Crossing_called hr T.Hc .nil Db (cb (pv 1) gb)))
   (fb (Hb (i:=4) yA.nd rfl (Or.inl rfl) (Tc (pv 0) T.bc T.Dc G_Crossing_called hr T.Hc .nil Db (cb (pv 2) gb)))
   (ib (Lb (yc (FC rfl) rfl T.iI An (cb qb (cb (Mb Fm (Ac (pv 3) rfl) (Ac (pv 4) rfl)) gb))))))),?_⟩
 (walk_at "RD")
 refine ⟨_,_,e1,cA _ _ _ (by decide +kernel),⟨c,n,ds,i,d,rfl,C,hd,fun a Wa=>?_⟩⟩
 (walk_at "RD")
 refine ⟨_,_,e1,cA _ _ _ (by decide +kernel),⟨c,n,ds,j,e,rfl,C,he,fun b Wb=>?_⟩⟩
 (walk_at "RD")
 refine ⟨_,Wa.f_off T,_,Wb.f_near T,?_⟩
 (walk_at "RD")
 exact q
end
noncomputable def VI (x:Str):Prop:=x.length ≤ 1000∧∀ c ∈ x.cps.toList,c < 16 ^ 8
noncomputable def iA (C:Addr) (fs:List (Str × V)) (H:Hp) (E:XK):Prop:=∀ dx H',ac H H'→(NoT H→NoT H')→H' dx=some (.ext (XD dx fs))→E (.ref C) (some dx) H'
theorem iA.step {C:Addr} {fs:List (Str × V)} {H H1:Hp} {E:XK} (h:iA C fs H E) (s:ac H H1) (n:NoT H→NoT H1):iA C fs H1 E:=fun dx H' s' n' e=>h dx H' (s.trans s') (fun z=>n' (n z)) e
noncomputable def iG (t:Adr):Sp:=fun vs H Q _=>∃ x n,vs=[.ref x,.str n]∧VI n∧H x=some (.ext (XF x t.Md none)) ∧
 ∀ dx,H dx=none→dx ≠ x→Q .non (upd (upd H x (.ext (XF x t.Md (some dx)))) dx (.ext (XD dx [(Str.ofString "way",.str n)])))
noncomputable def uG (t:Adr):Sp:=fun vs H Q _=>∃ x n i,vs=[.ref x,.str n,.int i]∧VI n∧i.natAbs.log2 < 1920∧H x=some (.ext (XF x t.vd none)) ∧
 ∀ dx,H dx=none→dx ≠ x→Q .non (upd (upd H x (.ext (XF x t.vd (some dx)))) dx (.ext (XD dx [(Str.ofString "way",.str n),(Str.ofString "at",.int i)])))
noncomputable def rG (t:Adr):Sp:=fun vs H Q _=>∃ x n m i,vs=[.ref x,.str n,.str m,.int i]∧VI n∧VI m∧i.natAbs.log2 < 1920∧H x=some (.ext (XF x t.ud none)) ∧
 ∀ dx,H dx=none→dx ≠ x→Q .non (upd (upd H x (.ext (XF x t.ud (some dx)))) dx (.ext (XD dx [(Str.ofString "way",.str n),(Str.ofString "other",.str m),(Str.ofString "at",.int i)])))
noncomputable def wOf (ds:List WD) (x:Str):Option WD:=ds.find? fun d=>decide (d.name=x)
theorem Nv {P:Program} {w:World} {K:PySem.W.Frag} {mg:Str→Option Value} {base:Heap} {CX:CXT} {j k:Nat} {OK:Addr→Prop} {m:Str} {ps:List Str} {SPV:Addr→Sp} (V:RI P w K mg base CX j OK m ps SPV) (h:j ≤ k):RI P w K mg base CX k OK m ps SPV:=⟨fun C hC=>by
 obtain ⟨f,fd,h1,h2,h3,h4⟩:=V.ok C hC
 exact ⟨f,fd,h1,h2,h3.mono h,h4⟩⟩
section
variable {P:Program} {w:World} {K:PySem.W.Frag} {mg:Str→Option Value} {base:Heap} {t:Adr}
theorem JJ (T:Txt w K mg t):Jb P w K mg base CX0 1 t.cg t.nh ["self","way"] (iG t):=by
 refine T.Vn.ok Bn (fun vs H Q E h=>?_) (fun cdv A outer s H vs Q E hr h=>?_)
 ·obtain ⟨x,n,rfl,_⟩:=h;rfl
 obtain ⟨x,n,rfl,hn,hx,q⟩:=h
 refine ⟨_,(fb (Ub (Co rfl T.Si T.Di (cb (pv 0) (cb (km (Dg (cu (pv 1) (Dg Uy))) (by rw [sizeLine_eq];decide)) gb))))
   (ib (Oo (pv 0) (pv 1) rfl))),?_⟩
 (walk_at "RD")
 refine ⟨hn.1,hn.2,fun y=>⟨_,_,hx,T.ux,?_⟩⟩
 exact ⟨_,hx,T.ux,T.Nu,q⟩
theorem iK (T:Txt w K mg t):Jb P w K mg base CX0 1 t.gg t.Hh ["self","way","at"] (uG t):=by
 refine T.Fn.ok jn (fun vs H Q E h=>?_) (fun cdv A outer s H vs Q E hr h=>?_)
 ·obtain ⟨x,n,i,rfl,_⟩:=h;rfl
 obtain ⟨x,n,i,rfl,hn,hi,hx,q⟩:=h
 refine ⟨_,(fb (Ub (Co rfl T.Si T.Di (cb (pv 0) (cb (km (Dg (cu (pv 1) (Dg (qy (pv 2) Uy)))) (by rw [sizeLine_eq];decide)) gb))))
   (fb (Oo (pv 0) (pv 1) rfl)
   (ib (Jo (pv 0) (pv 2) rfl)))),?_⟩
 (walk_at "RD")
 refine ⟨hn.1,hn.2,hi,fun y=>⟨_,_,hx,T.au,?_⟩⟩
 refine ⟨_,hx,T.au,T.nu,fun dx hd hne=>?_⟩
 refine ⟨_,dx,by rw [lb (Ne.symm hne),db],_,db,T.au,T.Vw,show 1 < 1000 by decide,?_⟩
 rw [Qg,show og (Str.ofString "at") (V.int i) ([(Str.ofString "way",V.str n)]:List (Str × V))=[(Str.ofString "way",V.str n),(Str.ofString "at",V.int i)] from Ic [Str.ofString "way"] rfl (by decide +kernel)]
 exact q dx hd hne
theorem XJ (T:Txt w K mg t):Jb P w K mg base CX0 1 t.ag t.Gh ["self","way","other","at"] (rG t):=by
 refine T.Ln.ok Sm (fun vs H Q E h=>?_) (fun cdv A outer s H vs Q E hr h=>?_)
 ·obtain ⟨x,n,m,i,rfl,_⟩:=h;rfl
 obtain ⟨x,n,m,i,rfl,hn,hm,hi,hx,q⟩:=h
 refine ⟨_,(fb (Ub (Co rfl T.Si T.Di (cb (pv 0) (cb (km (Dg (cu (pv 1) (Dg (cu (pv 2) (Dg (qy (pv 3) Uy)))))) (by rw [sizeLine_eq];decide)) gb))))
   (fb (Oo (pv 0) (pv 1) rfl)
   (fb (Jo (pv 0) (pv 2) rfl)
   (ib (Jo (pv 0) (pv 3) rfl))))),?_⟩
 (walk_at "RD")
 refine ⟨hn.1,hn.2,hm.1,hm.2,hi,fun y=>⟨_,_,hx,T.vq,?_⟩⟩
 refine ⟨_,hx,T.vq,T.Hv,fun dx hd hne=>?_⟩
 refine ⟨_,dx,by rw [lb (Ne.symm hne),db],_,db,T.vq,T.Lq,show 1 < 1000 by decide,?_⟩
 rw [Qg,show og (Str.ofString "other") (V.str m) ([(Str.ofString "way",V.str n)]:List (Str × V))=[(Str.ofString "way",V.str n),(Str.ofString "other",V.str m)] from Ic [Str.ofString "way"] rfl (by decide +kernel)]
 refine ⟨_,dx,by rw [lb (Ne.symm hne),db],_,db,T.vq,T.Ix,show 2 < 1000 by decide,?_⟩
 rw [Qg,show og (Str.ofString "at") (V.int i) ([(Str.ofString "way",V.str n),(Str.ofString "other",V.str m)]:List (Str × V))=[(Str.ofString "way",V.str n),(Str.ofString "other",V.str m),(Str.ofString "at",V.int i)] from Ic [Str.ofString "way",Str.ofString "other"] rfl (by decide +kernel)]
 exact q dx hd hne
end
end My
namespace My
open PySem L2
theorem Le {α:Type} {xs:List α} {i:Nat} {x:α} (h:xs[i]? = some x):xs.take (i + 1)=xs.take i ++ [x]:=by
 rw [List.take_add_one,h];rfl
structure ST where
 lo:Int
 hi:Int
 mem:List Str
noncomputable def stO (r:ST) (m:Addr):HO:=.tup [.int r.lo,.int r.hi,.ref m]
structure ji (H:Hp) (p:Addr) (qs ms:List Addr) (rows:List ST):Prop where
 at_:H p=some (.lst (qs.map V.ref))
 l1:qs.length=rows.length
 l2:ms.length=rows.length
 al:∀ (i:Nat) (q m:Addr) (r:ST),qs[i]? = some q→ms[i]? = some m→rows[i]? = some r→H q=some (stO r m)∧H m=some (.lst (wb r.mem))
theorem ji.same {H H':Hp} {p:Addr} {qs ms:List Addr} {rows:List ST} (h:ji H p qs ms rows) (s:ac H H'):ji H' p qs ms rows:=
 ⟨s _ _ h.at_,h.l1,h.l2,fun i q m r a b c=>⟨s _ _ (h.al i q m r a b c).1,s _ _ (h.al i q m r a b c).2⟩⟩
structure kn (H:Hp) (p:Addr) (ms:List Addr) (mems:List (List Str)):Prop where
 at_:H p=some (.lst (ms.map V.ref))
 ln:ms.length=mems.length
 al:∀ (i:Nat) (m:Addr) (x:List Str),ms[i]? = some m→mems[i]? = some x→H m=some (.lst (wb x))
theorem kn.same {H H':Hp} {p:Addr} {ms:List Addr} {mems:List (List Str)} (h:kn H p ms mems) (s:ac H H'):kn H' p ms mems:=
 ⟨s _ _ h.at_,h.ln,fun i m x a b=>s _ _ (h.al i m x a b)⟩
noncomputable def Re (i:Nat) (kvs:List (Key × V)) (ms:List Str):List (Key × V):=ms.foldl (fun kvs x=>Cn kvs (Sum.inr x) (.int i)) kvs
noncomputable def ae (mems:List (List Str)):List (Key × V):=mems.zipIdx.foldl (fun kvs e=>Re e.2 kvs e.1) []
theorem gF (kvs:List (Key × V)) (k:Key) (v:V):(Cn kvs k v).length ≤ kvs.length + 1:=by
 unfold Cn
 split
 ·rw [List.length_map];omega
 ·rw [List.length_append];exact Nat.le_refl _
theorem qm (i:Nat) (kvs:List (Key × V)) (ms:List Str) (x:Str):Re i kvs (ms ++ [x])=Cn (Re i kvs ms) (Sum.inr x) (.int i):=by
 unfold Re
 rw [List.foldl_append]
 rfl
theorem Kw (mems:List (List Str)) (ms:List Str):ae (mems ++ [ms])=Re mems.length (ae mems) ms:=by
 unfold ae
 rw [List.zipIdx_append,List.foldl_append]
 simp
theorem Ej (i:Nat) (x:Str):∀ (ms:List Str) (kvs:List (Key × V)),nj (Re i kvs ms) (Sum.inr x)=if x ∈ ms then some (.int i) else nj kvs (Sum.inr x)
 | [],kvs=>by simp [Re]
 | y :: ms,kvs=>by
  show nj (Re i (Cn kvs (Sum.inr y) (.int i)) ms) (Sum.inr x)=_
  rw [Ej i x ms,Ly]
  by_cases c:x ∈ ms
  ·rw [if_pos c,if_pos (List.mem_cons_of_mem _ c)]
  ·rw [if_neg c]
   by_cases d:x=y
   ·subst d
    rw [if_pos rfl,if_pos (List.mem_cons_self ..)]
   ·rw [if_neg (fun e=>d (Sum.inr.inj e)),if_neg (fun e=>by
     rcases List.mem_cons.mp e with e | e
     ·exact d e
     ·exact c e)]
theorem Bl {mems:List (List Str)} {i:Nat} {ms:List Str} (h:mems[i]? = some ms):ae (mems.take (i + 1))=Re i (ae (mems.take i)) ms:=by
 rw [Le h,Kw,List.length_take,Nat.min_eq_left (Nat.le_of_lt (List.getElem?_eq_some_iff.mp h).1)]
theorem yp {x:Str}:∀ (n:Nat) (mems:List (List Str)),n ≤ mems.length→((nj (ae (mems.take n)) (Sum.inr x)).isSome=true↔∃ ms ∈ mems.take n,x ∈ ms)
 | 0,mems,_=>by simp [ae,nj]
 | n + 1,mems,hn=>by
  have h:mems[n]? = some mems[n]:=List.getElem?_eq_getElem (by omega)
  rw [Bl h,Ej,Le h]
  have ih:=yp (x:=x) n mems (by omega)
  by_cases c:x ∈ mems[n]
  ·rw [if_pos c]
   exact ⟨fun _=>⟨_,List.mem_append_right _ (List.mem_singleton.mpr rfl),c⟩,fun _=>rfl⟩
  ·rw [if_neg c,ih]
   constructor
   ·rintro ⟨ms,h1,h2⟩
    exact ⟨ms,List.mem_append_left _ h1,h2⟩
   ·rintro ⟨ms,h1,h2⟩
    rcases List.mem_append.mp h1 with h1 | h1
    ·exact ⟨ms,h1,h2⟩
    ·rw [List.mem_singleton.mp h1] at h2
     exact absurd h2 c
theorem No (p:Str→Bool):∀ xs:List Str,((xs.map fun x=>if p x=true then some (V.str x) else none).flatMap Option.toList)=wb (xs.filter p)
 | []=>rfl
 | x :: xs=>by
  rw [List.map_cons,List.flatMap_cons,No p xs]
  by_cases c:p x=true
  ·rw [if_pos c,List.filter_cons_of_pos c];rfl
  ·rw [if_neg c,List.filter_cons_of_neg c];rfl
noncomputable def told (rows:List ST) (x:Str):Bool:=rows.any fun r=>r.mem.contains x
noncomputable def Ze (ds:List WD) (rows:List ST):List Str:=(ds.map (·.name)).filter fun x=>!told rows x
theorem Tr (rows:List ST) (x:Str):(nj (ae (rows.map (·.mem))) (Sum.inr x)).isSome=told rows x:=by
 rw [Bool.eq_iff_iff]
 have:=yp (x:=x) (rows.map (·.mem)).length (rows.map (·.mem)) (Nat.le_refl _)
 rw [List.take_length] at this
 rw [this]
 unfold told
 rw [List.any_eq_true]
 constructor
 ·rintro ⟨ms,h1,h2⟩
  obtain ⟨r,hr,rfl⟩:=List.mem_map.mp h1
  exact ⟨r,hr,by simpa using h2⟩
 ·rintro ⟨r,hr,h⟩
  exact ⟨_,List.mem_map.mpr ⟨r,hr,rfl⟩,by simpa using h⟩
noncomputable def oj (d:WD):Str:=if d.k=2 then Str.ofString "trams" else Str.ofString "others"
noncomputable def Hx (t:Adr):Sp:=fun vs H Q _=>∃ c n ds,∃ i:Nat,∃ d,vs=[.ref c,.str d.name]∧Nc t H c n ds∧ds[i]? = some d∧d.k < 3∧Q (.str (oj d)) H
noncomputable def Qo:Sp:=fun vs H Q _=>∃ p ms mems,vs=[.ref p]∧kn H p ms mems∧mems.length ≤ 6∧(∀ x ∈ mems,x.length ≤ 12)∧∀ h H',ac H H'→(NoT H→NoT H')→H h=none→H' h=some (.dK (ae mems))→Q (.ref h) H'
noncomputable def gx (t:Adr):Sp:=fun vs H Q _=>∃ c n ds p qs ms rows,vs=[.ref c,.ref p]∧Nc t H c n ds∧ji H p qs ms rows∧rows.length ≤ 6∧(∀ r ∈ rows,r.mem.length ≤ 12)∧∀ l H',ac H H'→(NoT H→NoT H')→H l=none→H' l=some (.lst (wb (Ze ds rows)))→Q (.ref l) H'
section
variable {P:Program} {w:World} {K:PySem.W.Frag} {mg:Str→Option Value} {base:Heap} {t:Adr}
theorem bC (T:Txt w K mg t):Jb P w K mg base CX0 3 t.vj t.Tj ["crossing","name"] (Hx t):=by
 have G_Crossing_called:Jb P w K mg base CX0 2 t.vc t.Ec ["self","name"] (ki t):=Hj T
 refine T.Ij.ok Xz (fun vs H Q E h=>?_) (fun cdv A outer s H vs Q E hr h=>?_)
 ·obtain ⟨c,n,ds,i,d,rfl,_⟩:=h;rfl
 obtain ⟨c,n,ds,i,d,rfl,C,hd,hk,q⟩:=h
 obtain ⟨_,dx,wl,nd,e1,_,_⟩:=id C
 refine ⟨_,(ib (Lb (Qs (dc xg (Ac (Tc (pv 0) T.bc T.Dc G_Crossing_called hr T.Hc .nil Db (cb (pv 1) gb)) rfl) zc (Zb _)) zc zc))),?_⟩
 (walk_at "RD")
 refine ⟨_,_,e1,cA _ _ _ (by decide +kernel),c,n,ds,i,d,rfl,C,hd,fun a W=>⟨a,rfl,_,W.f_kind T,rfl,?_⟩⟩
 unfold oj at q
 have hts:∀ k,k < 3→decide (V.str (de k)=V.str (Str.ofString "tram"))=decide (k=2):=by decide +kernel
 rw [hts d.k hk]
 by_cases c2:d.k=2
 ·rw [if_pos (decide_eq_true c2)]
  rw [if_pos c2] at q
  exact q
 ·rw [if_neg (by simpa using c2)]
  rw [if_neg c2] at q
  exact q
theorem Rt (T:Txt w K mg t):Jb P w K mg base CX0 1 t.Mg t.Ng ["members"] Qo:=by
 refine T.di.ok Xg (fun vs H Q E h=>?_) (fun cdv A outer s H vs Q E hr h=>?_)
 ·obtain ⟨p,ms,mems,rfl,_⟩:=h;rfl
 obtain ⟨p,ms,mems,rfl,M,hml,hmx,q⟩:=h
 have hu:=Iz hr
 refine ⟨_,(fb (Hb (i:=1) Xg.nd rfl (Or.inl rfl) ay)
   (fb (Ge PassesOwn.never rfl (Mt rfl T.Hi (cb (pv 0) gb)) (kg (K:=K) (n:=2) rfl rfl (Sb (zb (i:=2) Xg.nd rfl (Or.inl rfl) (.inl rfl)) (Sb (zb (i:=3) Xg.nd rfl (Or.inl rfl) (.inl rfl)) vg))) (ib (Ge PassesOwn.never rfl (Lc (pv 3)) (zb (i:=4) Xg.nd rfl (Or.inl rfl)) (ib (zB hu (pv 1) (pv 4) (pv 2) rfl)))))
   (ib (Lb (pv 1))))),?_⟩
 (walk_at "RD")
 intro h hh
 have s0:ac H (upd H h (.dK [])):=pb hh
 refine ⟨⟨_,SqL.of (s0 _ _ M.at_)⟩,?_⟩
 refine kj.enum (xs:=ms.map V.ref) (fun i σ H'=>(∃ x y z,σ=[some (.ref p),some (.ref h),x,y,z])∧ac H H'∧(NoT H→NoT H')∧H' h=some (.dK (ae (mems.take i)))∧(ae (mems.take i)).length ≤ 12 * i) ?_ ?_ ?_ ?_
 ·exact ⟨⟨_,_,_,rfl⟩,s0,fun n=>n.upd,by rw [List.take_zero];exact db,by rw [List.take_zero];simp [ae]⟩
 ·rintro i σ H' hi ⟨_,s1,_⟩
  exact SqL.of (s1 _ _ M.at_)
 ·rintro i v σ H' tp hv ⟨⟨x,y,z,rfl⟩,s1,n1,h1,hl1⟩ htp
  obtain ⟨m,hm,rfl⟩:=Kb hv
  have him:i < mems.length:=by rw [← M.ln];exact (List.getElem?_eq_some_iff.mp hm).1
  have hms:mems[i]? = some mems[i]:=List.getElem?_eq_getElem him
  have em:=M.al i m _ hm hms
  have hxl:=hmx _ (List.mem_of_getElem? hms)
  have s2:ac H' (upd H' tp (.tup [.int i,.ref m])):=pb htp
  refine Nm ?_
  (walk_at "RD")
  have em1:=s2 _ _ (s1 _ _ em)
  have h2:=s2 _ _ h1
  have nb:NoT H→NoT (upd H' tp (.tup [.int i,.ref m])):=fun n=>(n1 n).upd
  have sAll:=s1.trans s2
  generalize upd H' tp (.tup [.int i,.ref m])=HA at em1 h2 nb sAll s2 ⊢
  refine ⟨⟨_,SqL.of em1⟩,?_⟩
  refine kj.list (xs:=wb mems[i]) (fun j σ H2=>(∃ z,σ=[some (.ref p),some (.ref h),some (.int (i:Nat)),some (.ref m),z])∧ac H H2∧(NoT H→NoT H2)∧H2 h=some (.dK (Re i (ae (mems.take i)) (mems[i].take j)))∧(Re i (ae (mems.take i)) (mems[i].take j)).length ≤ 12 * i + j) ?_ ?_ ?_ ?_
  ·exact ⟨⟨_,rfl⟩,sAll,nb,by rw [List.take_zero];exact h2,by rw [List.take_zero];exact hl1⟩
  ·rintro j σ H2 hj ⟨_,s3,_⟩
   exact SqL.of (s3 _ _ em)
  ·rintro j v σ H2 hv ⟨⟨z,rfl⟩,s3,n3,h3,hl3⟩
   unfold wb at hv
   obtain ⟨x,hx,rfl⟩:=Kb hv
   have hj:j < mems[i].length:=(List.getElem?_eq_some_iff.mp hx).1
   have hpl:=gF (Re i (ae (mems.take i)) (mems[i].take j)) (Sum.inr x) (.int i)
   (walk_at "RD")
   refine ⟨_,AD.k (k:=Sum.inr x) h3 (Nat.lt_of_le_of_lt (show _ ≤ 1000 by omega) (by decide)),⟨_,rfl⟩,s3.updN hh,fun n=>(n3 n).upd,?_,?_⟩
   ·rw [db,Le hx,qm]
   ·rw [Le hx,qm]
    omega
  ·rintro σ H2 ⟨⟨z,rfl⟩,s3,n3,h3,hl3⟩
   rw [Nb,List.take_length,← Bl hms] at h3 hl3
   exact ⟨⟨_,_,_,rfl⟩,s3,n3,h3,by omega⟩
 ·rintro σ H' ⟨⟨x,y,z,rfl⟩,s1,n1,h1,_⟩
  rw [List.length_map,M.ln,List.take_length] at h1
  (walk_at "RD")
  exact q h H' s1 n1 hh h1
theorem gB (T:Txt w K mg t):Jb P w K mg base CX0 2 t.ig t.bg ["crossing","rows"] (gx t):=by
 have G_homes_in:Jb P w K mg base CX0 1 t.Mg t.Ng ["members"] Qo:=Rt T
 have G_Crossing_names:Jb P w K mg base CX0 1 t.ad t.Ad ["self"] (Eo t):=wt T
 refine T.Bh.ok Nl (fun vs H Q E h=>?_) (fun cdv A outer s H vs Q E hr h=>?_)
 ·obtain ⟨c,n,ds,p,qs,ms,rows,rfl,_⟩:=h;rfl
 obtain ⟨c,n,ds,p,qs,ms,rows,rfl,C,R,hrl,hrm,q⟩:=h
 have hu:=Iz hr
 obtain ⟨⟨_,hdl⟩,dx,wl,nd,e1,_,_⟩:=id C
 refine ⟨_,(fb (Hb (i:=2) Nl.nd rfl (Or.inr rfl) (xb G_homes_in hr rfl T.wn T.di.kp T.xn .nil Db (cb (zd rfl (Lc (pv 1)) (fc (sc:=jb dh) rfl (by decide +kernel)) (N:=["least","most","members"]) (sel:=[none,none,none]) (Jc (M:=["crossing","rows","told"]) (by decide +kernel)) (Blk.of (fun _ _ _ _=>(kg (K:=K) (n:=3) rfl rfl (Sb (zb (i:=0) (ke (N:=["least","most","members"]) (by decide +kernel) rfl) rfl (Or.inl rfl) (.inr rfl)) (Sb (zb (i:=1) (ke (N:=["least","most","members"]) (by decide +kernel) rfl) rfl (Or.inl rfl) (.inr rfl)) (Sb (zb (i:=2) (ke (N:=["least","most","members"]) (by decide +kernel) rfl) rfl (Or.inl rfl) (.inr rfl)) vg))))) (fun _ _ _ _=>⟨_,Qd,by first | rfl | (dsimp only [Cx.block];done) | (dsimp only [Cx.block];exact rfl)⟩) (fun _ _ _ _=>⟨_,(pv 2),by first | rfl | (dsimp only [Cx.block];done) | (dsimp only [Cx.block];exact rfl)⟩))) gb)))
   (ib (Lb (zd rfl (Lc (Wd (pv 0) T.bc T.ng G_Crossing_names hr T.wg .nil Db)) (fc (sc:=jb dh) rfl (by decide +kernel)) (N:=["name","told"]) (sel:=[none,some 2]) (Jc (M:=["crossing","rows","told"]) (by decide +kernel)) (Blk.of (fun _ _ _ _=>(zb (i:=0) (ke (N:=["name","told"]) (by decide +kernel) rfl) rfl (Or.inl rfl))) (fun _ _ _ _=>⟨_,(yt (BG (Wu hu (pv 0) (pv 1)))),by first | rfl | (dsimp only [Cx.block];done) | (dsimp only [Cx.block];exact rfl)⟩) (fun _ _ _ _=>⟨_,(pv 0),by first | rfl | (dsimp only [Cx.block];done) | (dsimp only [Cx.block];exact rfl)⟩)))))),?_⟩
 simp only [Cb]
 (walk_at "RD")
 have hqn:(qs.map V.ref).length=rows.length:=by rw [List.length_map,R.l1]
 refine ⟨⟨_,SqL.of R.at_⟩,?_⟩
 refine Xc.list_zs (xs:=qs.map V.ref) (zs:=ms.map V.ref) (SqL.of R.at_) (by rw [hqn];exact Nat.le_trans hrl (by decide)) (by rw [hqn,List.length_map,R.l2]) (fun j v z N hv hz hN=>?_) (fun pm hpm=>?_)
 ·obtain ⟨qj,hqj,rfl⟩:=Kb hv
  obtain ⟨mj,hmj,rfl⟩:=Kb hz
  have hj:j < rows.length:=by rw [← R.l1];exact (List.getElem?_eq_some_iff.mp hqj).1
  have e:=(R.al j qj mj _ hqj hmj (List.getElem?_eq_getElem hj)).1
  (walk_at "RD")
  exact ⟨_,SqT.of e,rfl,_,_,rfl,_,_,rfl,_,_,rfl,rfl,Sub.name3,hN⟩
 ·have sp:ac H (upd H pm (.lst (ms.map V.ref))):=pb hpm
  have np:NoT H→NoT (upd H pm (.lst (ms.map V.ref))):=fun n=>n.upd
  have ep:(upd H pm (.lst (ms.map V.ref))) pm=some (.lst (ms.map V.ref)):=db
  generalize upd H pm (.lst (ms.map V.ref))=HA at sp np ep ⊢
  refine ⟨pm,ms,rows.map (·.mem),rfl,⟨ep,by rw [R.l2,List.length_map],fun i m x hm hx=>?_⟩,by rw [List.length_map];exact hrl,fun x hx=>?_,fun h H1 s1 n1 hh h1=>?_⟩
  ·obtain ⟨r,hr',rfl⟩:=Kb hx
   have hqi:qs[i]? = some (qs[i]'(by rw [R.l1];exact (List.getElem?_eq_some_iff.mp hr').1)):=List.getElem?_eq_getElem _
   exact sp _ _ (R.al i _ m r hqi hm hr').2
  ·obtain ⟨r,hr',rfl⟩:=List.mem_map.mp hx
   exact hrm r hr'
  ·have sA:=sp.trans s1
   have C1:=C.same sA
   refine ⟨_,_,sA _ _ e1,cA _ _ _ (by decide +kernel),c,n,ds,rfl,C1,fun pn hpn=>⟨pn,rfl,⟨_,SqL.of db⟩,?_⟩⟩
   have sB:=sA.trans (pb (o:=.lst (wb (ds.map (·.name)))) hpn)
   have h2:=(pb (o:=.lst (wb (ds.map (·.name)))) hpn) _ _ h1
   have nB:NoT H→NoT (upd H1 pn (.lst (wb (ds.map (·.name))))):=fun n=>(n1 (np n)).upd
   have ePn:(upd H1 pn (.lst (wb (ds.map (·.name))))) pn=some (.lst (wb (ds.map (·.name)))):=db
   generalize upd H1 pn (.lst (wb (ds.map (·.name))))=HB at sB h2 nB ePn ⊢
   refine Xc.list_sel (xs:=wb (ds.map (·.name))) (ss:=(ds.map (·.name)).map fun x=>if (!told rows x)=true then some (V.str x) else none) (SqL.of ePn) (by rw [Nb,List.length_map];exact Nat.le_trans hdl (by decide)) (by rw [Nb,List.length_map]) (fun i v o ys N hv ho hN=>?_) (fun l hl=>?_)
   ·unfold wb at hv
    obtain ⟨x,hx,rfl⟩:=Kb hv
    obtain ⟨x',hx',rfl⟩:=Kb ho
    rw [hx] at hx'
    cases hx'
    have hg:Su HB h (.str x) (nj (ae (rows.map (·.mem))) (Sum.inr x)):=Su.k (k:=Sum.inr x) h2
    have ht:=Tr rows x
    (walk_at "RD")
    refine ⟨Sub.name,_,hg,?_⟩
    rw [ht]
    by_cases c0:(!told rows x)=true
    ·rw [if_pos c0]
     rw [if_pos c0] at hN
     exact hN
    ·rw [if_neg c0]
     rw [if_neg c0] at hN
     simpa using hN
   ·rw [No]
    exact q l _ (sB.trans (pb hl)) (fun n=>(nB n).upd) (sB.free hl) db
end
end My
namespace My
open PySem L2
noncomputable def Vv (ds:List WD) (left:List Str) (f:Str):List Str:=left.filter fun x=>decide ((wOf ds x).map oj=(wOf ds f).map oj)
noncomputable def EE (alike:List Str):List Str→Nat→List Str→Except Nat (List Str)
 | [],_,ms=>.ok ms
 | x :: r,j,ms=>if x ∈ alike∧x ∉ ms then EE alike r (j + 1) (ms ++ [x]) else .error j
noncomputable def Qz (ds:List WD) (left ws:List Str):Except Nat (List Str):=if wd ws 3 ∈ left then EE (Vv ds left (wd ws 3)) (ws.drop 4) 4 [wd ws 3] else .error 3
noncomputable def Jm (ds:List WD) (rows:List ST) (ws:List Str):Except Nat ST:=if wd ws 0 ∈ [Str.ofString "stage"] then
 (cx (wd ws 1) 1 60).elim (.error 1) fun lo=>(cx (wd ws 2) lo 60).elim (.error 2) fun hi=>match Qz ds (Ze ds rows) ws with
  | .error k=>.error k
  | .ok ms=>.ok ⟨lo,hi,ms⟩ else .error 0
theorem dC {alike:List Str}:∀ {r:List Str} {j:Nat} {ms ms':List Str},EE alike r j ms=.ok ms'→ms.Nodup→ms'.Nodup∧(∃ more,ms'=ms ++ more)∧∀ x ∈ ms',x ∈ ms∨x ∈ alike
 | [],j,ms,ms',h,nd=>by
  have h:Except.ok ms=Except.ok (ε:=Nat) ms':=h
  cases h
  exact ⟨nd,⟨[],by simp⟩,fun x hx=>.inl hx⟩
 | y :: r,j,ms,ms',h,nd=>by
  unfold EE at h
  split at h
  ·rename_i c
   obtain ⟨h1,⟨more,h2⟩,h3⟩:=dC h (List.nodup_append.mpr ⟨nd,by simp,fun a ha b hb e=>by
    rw [List.mem_singleton.mp hb] at e
    rw [e] at ha
    exact c.2 ha⟩)
   refine ⟨h1,⟨y :: more,by rw [h2,List.append_assoc];rfl⟩,fun x hx=>?_⟩
   rcases h3 x hx with z | z
   ·rcases List.mem_append.mp z with z | z
    ·exact .inl z
    ·rw [List.mem_singleton.mp z];exact .inr c.1
   ·exact .inr z
  ·cases h
noncomputable def Gr (t:Adr):Sp:=fun vs H Q E=>∃ q row ws c n ds l left,vs=[.ref q,.ref c,.ref l]∧Ce t H q row ws 3∧(0 ≤ row∧row ≤ 10000)∧3 ≤ ws.length∧Nc t H c n ds∧(∀ d ∈ ds,d.k < 3∧d.name ≠ Str.ofString "")∧H l=some (.lst (wb left))∧left.length ≤ 12∧(∀ x ∈ left,∃ d ∈ ds,d.name=x)∧NoT H ∧
 Oc (Qz ds left ws) (fun ms=>∀ m H',Fc q H H'→NoT H'→(∃ u,H' q=some u)→H' m=some (.lst (wb ms))→H m=none→Q (.ref m) H') (fun k=>Sv t row k q H E)
noncomputable def Zx (t:Adr):Sp:=fun vs H Q E=>∃ q row ws c n ds p qs ms rows,vs=[.ref q,.ref c,.ref p]∧Ce t H q row ws 0∧(0 ≤ row∧row ≤ 10000)∧Nc t H c n ds∧(∀ d ∈ ds,d.k < 3∧d.name ≠ Str.ofString "")∧ji H p qs ms rows∧rows.length ≤ 6∧(∀ r ∈ rows,r.mem.length ≤ 12)∧NoT H ∧
 Oc (Jm ds rows ws) (fun s=>∀ x m H',Fc q H H'→NoT H'→H' x=some (stO s m)→H' m=some (.lst (wb s.mem))→H x=none→H m=none→Q (.ref x) H') (fun k=>Sv t row k q H E)
theorem cj {ds:List WD} (nd:(ds.map (·.name)).Nodup) {i:Nat} {d:WD} (h:ds[i]? = some d):wOf ds d.name=some d:=by
 unfold wOf
 cases e:ds.find? fun x=>decide (x.name=d.name) with
 | none=>
  have:=List.find?_eq_none.mp e d (List.mem_of_getElem? h)
  simp at this
 | some x=>
  have h1:x.name=d.name:=by simpa using List.find?_some e
  obtain ⟨j,hj⟩:=List.getElem?_of_mem (List.mem_of_find?_eq_some e)
  have:=Ds nd (List.getElem?_eq_some_iff.mp hj).1 (List.getElem?_eq_some_iff.mp h).1 (by rw [ko hj,ko h,h1])
  subst this
  rw [hj] at h
  exact h
theorem Nc.sameR {t:Adr} {H H':Hp} {q c:Addr} {n:Int} {ds:List WD} {row:Int} {ws:List Str} {k:Nat} (h:Nc t H c n ds) (s:Fc q H H') (R:Ce t H q row ws k):Nc t H' c n ds:=by
 obtain ⟨h0,dx',wl,nd,e1,⟨as,w1,w2,al⟩,e3⟩:=h
 obtain ⟨_,dq,ta,f1,f2⟩:=id R
 refine ⟨h0,dx',wl,nd,s _ _ (fun z=>?_) e1,⟨as,s _ _ (Xd w1 f1 (by intro z;cases z)) w1,w2,fun i b d hb hd=>?_⟩,s _ _ (Xd e3 f1 (by intro z;cases z)) e3⟩
 ·subst z
  rw [e1] at f1
  have e:=Option.some.inj f1
  injection e with _ _ e4
  unfold cF rdF at e4
  injection e4 with e5 _
  injection e5 with e6 _
  exact absurd e6 (by decide +kernel)
 ·have W:=al i b d hb hd
  have hn:=Tu W R
  exact ⟨W.1,W.2.imp fun dx e=>s _ _ hn e⟩
theorem SH {ws:List Str} {j:Nat} (h:j < ws.length):ws.drop j=wd ws j :: ws.drop (j + 1):=by
 rw [List.drop_eq_getElem_cons h]
 unfold wd
 rw [List.getD_eq_getElem?_getD,List.getElem?_eq_getElem h]
 rfl
theorem ji.sameR {t:Adr} {H H':Hp} {q p:Addr} {qs ms:List Addr} {rows:List ST} {row:Int} {ws:List Str} {k:Nat} (h:ji H p qs ms rows) (s:Fc q H H') (R:Ce t H q row ws k):ji H' p qs ms rows:=by
 obtain ⟨_,dq,ta,f1,f2⟩:=id R
 refine ⟨s _ _ (Xd h.at_ f1 (by intro z;cases z)) h.at_,h.l1,h.l2,fun i q m r a b c=>?_⟩
 obtain ⟨e1,e2⟩:=h.al i q m r a b c
 exact ⟨s _ _ (Xd e1 f1 (by intro z;cases z)) e1,s _ _ (Xd e2 f1 (by intro z;cases z)) e2⟩
section
variable {P:Program} {w:World} {K:PySem.W.Frag} {mg:Str→Option Value} {base:Heap} {t:Adr}
theorem Zz (T:Txt w K mg t):Jb P w K mg base (CX1 P w) 6 t.Vf t.Lf ["reader","crossing","left"] (Gr t):=by
 have GX_RowReader_one_of:Jb P w K mg base (CX1 P w) 5 t.gc t.Bc ["self","choices"] (jq K t):=Au T
 have G_RowReader_has_more:Jb P w K mg base CX0 5 t.Qc t.gd ["self"] (ww t):=(OC T).mono (by decide)
 have G_sort_of:Jb P w K mg base CX0 5 t.vj t.Tj ["crossing","name"] (Hx t):=(bC T).mono (by decide)
 refine T.Jh.okX ff (fun vs H Q E h=>?_) (fun cdv A outer s H vs Q E hr h=>?_)
 ·obtain ⟨q,row,ws,c,n,ds,l,left,rfl,_⟩:=h;rfl
 obtain ⟨q,row,ws,c,n,ds,l,left,rfl,R,hrow,hw3,C,hk,hl,hll,hlin,nt,qq⟩:=h
 refine ⟨_,(fb (Hb (i:=3) ff.nd rfl (Or.inr rfl) (Tc (pv 0) T.ub T.Hd GX_RowReader_one_of hr T.Fd .nil af (cb (pv 2) gb)))
   (fb (Hb (i:=4) ff.nd rfl (Or.inr rfl) (ve (cb (pv 3) gb)))
   (fb (Vr (i:=5) ff.nd rfl (Or.inl rfl) rfl (Lc (pv 2)) (fc (sc:=jb Yf) rfl (by decide +kernel)) (N:=["name","crossing","first"]) (sel:=[none,some 1,some 3]) (Jc (M:=["reader","crossing","left","first","members","alike"]) (by decide +kernel)) (Blk.of (fun _ _ _ _=>(zb (i:=0) (ke (N:=["name","crossing","first"]) (by decide +kernel) rfl) rfl (Or.inl rfl))) (fun _ _ _ _=>⟨_,(yt (dc xg (xb G_sort_of hr rfl T.bq T.Ij.kp T.iq .nil Db (cb (pv 1) (cb (pv 0) gb))) (xb G_sort_of hr rfl T.bq T.Ij.kp T.iq .nil Db (cb (pv 1) (cb (pv 2) gb))) (Zb _))),by first | rfl | (dsimp only [Cx.block];done) | (dsimp only [Cx.block];exact rfl)⟩) (fun _ _ _ _=>⟨_,(pv 0),by first | rfl | (dsimp only [Cx.block];done) | (dsimp only [Cx.block];exact rfl)⟩)) rfl)
   (fb (gE (Jf ⟨rfl,rfl⟩) (ni (Wd (pv 0) T.ub T.yg G_RowReader_has_more hr T.Ag .nil Db)) (ib (Ub (rg PySem.F.plainAttrs_list PySem.F.slot_list_append PySem.F.type_list_append ge (pv 4) (cb (Tc (pv 0) T.ub T.Hd GX_RowReader_one_of hr T.Fd .nil af (cb (zd rfl (Lc (pv 5)) (fc (sc:=jb Yf) rfl (by decide +kernel)) (N:=["name","members"]) (sel:=[none,some 4]) (Jc (M:=["reader","crossing","left","first","members","alike"]) (by decide +kernel)) (Blk.of (fun _ _ _ _=>(zb (i:=0) (ke (N:=["name","members"]) (by decide +kernel) rfl) rfl (Or.inl rfl))) (fun _ _ _ _=>⟨_,(yt (dc zj (pv 0) (pv 1) (by with_unfolding_all rfl))),by first | rfl | (dsimp only [Cx.block];done) | (dsimp only [Cx.block];exact rfl)⟩) (fun _ _ _ _=>⟨_,(pv 0),by first | rfl | (dsimp only [Cx.block];done) | (dsimp only [Cx.block];exact rfl)⟩))) gb)) gb)))))
   (ib (Lb (pv 4))))))),?_⟩
 obtain ⟨hz,dx,ta,e1,e2⟩:=id R
 unfold Qz at qq
 (walk_at "RD")
 refine ⟨_,_,e1,Ce.no _ _ _ (by decide +kernel),⟨q,row,ws,3,l,left,rfl,R,hrow,hw3,SqL.of hl,fun hin=>fun H1 s1 n1 R1=>?_,fun hnin=>?_⟩⟩
 case refine_2=>
  rw [if_neg hnin] at qq
  exact qq
 rw [if_pos hin] at qq
 have nt1:=n1 nt
 obtain ⟨d0,hd0,hn0⟩:=hlin _ hin
 have l4:4 ≤ ws.length:=wH (k:=3) (by rw [← hn0];exact (hk d0 hd0).2)
 have C1:=C.sameR s1 R
 have hl1:H1 l=some (.lst (wb left)):=s1 _ _ (Xd hl e1 (by intro z;cases z)) hl
 generalize hf:wd ws 3=f0 at qq hin hn0 ⊢
 obtain ⟨i0,hi0⟩:=List.getElem?_of_mem hd0
 (walk_at "RD")
 refine ⟨by decide,fun ml hml=>?_⟩
 obtain ⟨hz1,dx1,ta1,f1,f2⟩:=id R1
 have hmlH:H ml=none:=by
  cases e:H ml with
  | none=>rfl
  | some u=>
   by_cases z:ml=q
   ·rw [z,f1] at hml;cases hml
   ·rw [s1 _ _ z e] at hml;cases hml
 have sB:ac H1 (upd H1 ml (.lst [V.str f0])):=pb hml
 have eB:(upd H1 ml (.lst [V.str f0])) ml=some (.lst [V.str f0]):=db
 have nB:NoT (upd H1 ml (.lst [V.str f0])):=nt1.upd
 generalize upd H1 ml (.lst [V.str f0])=HB at sB eB nB ⊢
 have CB:=C1.same sB
 have hlB:=sB _ _ hl1
 have hnd:=C.1.1
 refine ⟨⟨_,SqL.of hlB⟩,?_⟩
 refine Xc.list_sel (xs:=wb left) (ss:=left.map fun x=>if decide ((wOf ds x).map oj=(wOf ds f0).map oj)=true then some (V.str x) else none) (SqL.of hlB) (by rw [Nb];exact Nat.le_trans hll (by decide)) (by rw [Nb,List.length_map]) (fun i v o ys N hv ho hN=>?_) (fun al hal=>?_)
 ·unfold wb at hv
  obtain ⟨x,hx,rfl⟩:=Kb hv
  obtain ⟨x',hx',rfl⟩:=Kb ho
  rw [hx] at hx'
  cases hx'
  obtain ⟨d1,hd1,rfl⟩:=hlin x (List.mem_of_getElem? hx)
  obtain ⟨j,hj⟩:=List.getElem?_of_mem hd1
  rw [← hn0,cj hnd hj,cj hnd hi0] at hN
  (walk_at "RD")
  refine ⟨Sub.name,c,n,ds,j,d1,rfl,CB,hj,(hk d1 hd1).1,c,n,ds,i0,d0,by rw [hn0],CB,hi0,(hk d0 hd0).1,rfl,?_⟩
  by_cases c0:oj d1=oj d0
  ·simp [c0] at hN ⊢
   exact hN
  ·simp [c0] at hN ⊢
   exact hN
 rw [No]
 rw [show left.filter (fun x=>decide ((wOf ds x).map oj=(wOf ds f0).map oj))=Vv ds left f0 from rfl]
 have hall:(Vv ds left f0).length ≤ 12:=by
  unfold Vv
  exact Nat.le_trans (List.length_filter_le ..) hll
 generalize Vv ds left f0=alike at qq hall ⊢
 have sC:ac HB (upd HB al (.lst (wb alike))):=pb hal
 have eC:(upd HB al (.lst (wb alike))) al=some (.lst (wb alike)):=db
 have nC:NoT (upd HB al (.lst (wb alike))):=nB.upd
 have halm:al ≠ ml:=fun z=>by rw [z,eB] at hal;cases hal
 generalize upd HB al (.lst (wb alike))=HC at sC eC nC ⊢
 have xC:Fc q H HC:=s1.trans (Fc.of (sB.trans sC))
 generalize hW0:EE alike (ws.drop 4) 4 [f0]=W0 at qq
 refine pA (fun σ H'=>∃ ms:List Str,σ=[some (.ref q),some (.ref c),some (.ref l),some (.str f0),some (.ref ml),some (.ref al)]∧Fc q H H'∧NoT H'∧Ce t H' q row ws (3 + ms.length)∧H' ml=some (.lst (wb ms))∧H' al=some (.lst (wb alike))∧3 + ms.length ≤ ws.length∧EE alike (ws.drop (3 + ms.length)) (3 + ms.length) ms=W0) (fun σ H'=>match H' ml with | some (.lst xs)=>ws.length - xs.length | _=>0) ?_ ?_
 ·exact ⟨[f0],rfl,xC,nC,R1.same (sB.trans sC),sC _ _ eB,eC,l4,hW0⟩
 rintro σ H' ⟨ms,rfl,x2,n2,R2,m2,a2,hl2,hW⟩
 obtain ⟨hz2,dx2,ta2,g1,g2⟩:=id R2
 have hmlq:ml ≠ q:=Xd m2 g1 (by intro z;cases z)
 have halq:al ≠ q:=Xd a2 g1 (by intro z;cases z)
 refine ⟨decide (3 + ms.length < ws.length),fun Q' hQ=>?_,fun cc=>?_,fun cc=>?_⟩
 ·(walk_at "RD")
  exact ⟨_,_,g1,Ce.no _ _ _ (by decide +kernel),⟨q,row,ws,_,rfl,R2,_,rfl,hQ⟩⟩
 ·have cc:=of_decide_eq_true cc
  rw [SH cc] at hW
  unfold EE at hW
  (walk_at "RD")
  refine ⟨.inl ⟨_,SqL.of m2⟩,?_⟩
  refine ⟨_,_,g1,Ce.no _ _ _ (by decide +kernel),⟨_,SqL.of a2⟩,?_⟩
  refine Xc.list_sel (xs:=wb alike) (ss:=alike.map fun x=>if (!decide (x ∈ ms))=true then some (V.str x) else none) (SqL.of a2) (by rw [Nb];exact Nat.le_trans hall (by decide)) (by rw [Nb,List.length_map]) (fun i v o ys N hv ho hN=>?_) (fun cl hcl=>?_)
  ·unfold wb at hv
   obtain ⟨x,hx,rfl⟩:=Kb hv
   obtain ⟨x',hx',rfl⟩:=Kb ho
   rw [hx] at hx'
   cases hx'
   (walk_at "RD")
   refine ⟨Sub.name,_,.inl (SqL.of m2),rfl,Yh ms,?_⟩
   rw [jm]
   by_cases c0:x ∈ ms
   ·simp [c0] at hN ⊢
    exact hN
   ·simp [c0] at hN ⊢
    exact hN
  rw [No]
  have sD:ac H' (upd H' cl (.lst (wb (alike.filter fun x=>!decide (x ∈ ms))))):=pb hcl
  have eD:(upd H' cl (.lst (wb (alike.filter fun x=>!decide (x ∈ ms))))) cl=some (.lst (wb (alike.filter fun x=>!decide (x ∈ ms)))):=db
  have nD:NoT (upd H' cl (.lst (wb (alike.filter fun x=>!decide (x ∈ ms))))):=n2.upd
  generalize upd H' cl (.lst (wb (alike.filter fun x=>!decide (x ∈ ms))))=HD at sD eD nD ⊢
  refine ⟨q,row,ws,3 + ms.length,cl,_,rfl,R2.same sD,hrow,by omega,SqL.of eD,fun hin=>fun H2 s2 n3 R3=>?_,fun hnin=>?_⟩
  ·have hc:wd ws (3 + ms.length) ∈ alike∧wd ws (3 + ms.length) ∉ ms:=by
    have:=List.mem_filter.mp hin
    exact ⟨this.1,by simpa using this.2⟩
   rw [if_pos hc] at hW
   have m3:H2 ml=some (.lst (wb ms)):=s2 _ _ hmlq (sD _ _ m2)
   have a3:H2 al=some (.lst (wb alike)):=s2 _ _ halq (sD _ _ a2)
   obtain ⟨hz3,dx3,ta3,k1,k2⟩:=id R3
   have hta:ta3 ≠ ml:=fun z=>by
    rw [z,m3] at k2
    have e:=Option.some.inj k2
    injection e with e
    have:=congrArg List.length e
    rw [Nb,Nb] at this
    omega
   refine ⟨_,m3,Nat.lt_of_le_of_lt (show (wb ms).length ≤ 1000 by rw [Nb];have:=hz3.1;omega) (by decide),fun b u hb e=>?_,(n3 nD).upd,⟨ms ++ [wd ws (3 + ms.length)],⟨hz3,dx3,ta3,?_,?_⟩,?_,?_,?_,?_⟩,?_⟩
   ·rw [lb (vb e hmlH)]
    exact s2 _ _ hb (sD _ _ (x2 _ _ hb e))
   ·rw [lb (Ne.symm hmlq),List.length_append]
    exact k1
   ·rw [lb hta];exact k2
   ·rw [db]
    unfold wb
    rw [List.map_append];rfl
   ·rw [lb halm];exact a3
   ·rw [List.length_append];show 3 + (ms.length + 1) ≤ _;omega
   ·rw [List.length_append];exact hW
   ·rw [db,m2]
    show ws.length - (wb ms ++ [V.str (wd ws (3 + ms.length))]).length < ws.length - (wb ms).length
    rw [List.length_append,Nb]
    show ws.length - (ms.length + 1) < _
    omega
  ·rw [if_neg (fun hc=>hnin (List.mem_filter.mpr ⟨hc.1,by simpa using hc.2⟩))] at hW
   subst hW
   exact (show Sv t row (3 + ms.length) q H E from qq).step (x2.trans (Fc.of sD)) fun _=>nD
 ·have cc:=of_decide_eq_false cc
  rw [List.drop_of_length_le (by omega)] at hW
  replace hW:Except.ok ms=W0:=hW
  subst hW
  (walk_at "RD")
  exact qq ml H' x2 n2 ⟨_,g1⟩ m2 hmlH
theorem NF (T:Txt w K mg t):Jb P w K mg base (CX1 P w) 7 t.xh t.uh ["reader","crossing","rows"] (Zx t):=by
 have GX_RowReader_one_of:Jb P w K mg base (CX1 P w) 6 t.gc t.Bc ["self","choices"] (jq K t):=(Au T).mono (by decide)
 have GX_RowReader_figures:Jb P w K mg base (CX1 P w) 6 t.Vb t.lc ["self","low","high"] (Yx t):=(iE T).mono (by decide)
 have GX_read_members:Jb P w K mg base (CX1 P w) 6 t.Vf t.Lf ["reader","crossing","left"] (Gr t):=Zz T
 have G_names_left:Jb P w K mg base CX0 6 t.ig t.bg ["crossing","rows"] (gx t):=(gB T).mono (by decide)
 refine T.Qj.okX Qi (fun vs H Q E h=>?_) (fun cdv A outer s H vs Q E hr h=>?_)
 ·obtain ⟨q,row,ws,c,n,ds,p,qs,ms,rows,rfl,_⟩:=h;rfl
 obtain ⟨q,row,ws,c,n,ds,p,qs,ms,rows,rfl,R,hrow,C,hk,RQ,hrl,hrm,nt,qq⟩:=h
 refine ⟨_,(fb (Ub (Tc (pv 0) T.ub T.Hd GX_RowReader_one_of hr T.Fd .nil af (cb (ve (cb zc gb)) gb)))
   (fb (Hb (i:=3) Qi.nd rfl (Or.inl rfl) (Tc (pv 0) T.ub T.qc GX_RowReader_figures hr T.nc .nil af (cb qb (cb (Hf rfl T.Dn T.Gn) gb))))
   (fb (Hb (i:=4) Qi.nd rfl (Or.inl rfl) (Tc (pv 0) T.ub T.qc GX_RowReader_figures hr T.nc .nil af (cb (pv 3) (cb (Hf rfl T.Dn T.Gn) gb))))
   (ib (Lb (Kv (cb (pv 3) (cb (pv 4) (cb (xb GX_read_members hr rfl T.Kq T.Jh.kp T.cr .nil af (cb (pv 0) (cb (pv 1) (cb (xb G_names_left hr rfl T.Pn T.Bh.kp T.ao .nil Db (cb (pv 1) (cb (pv 2) gb))) gb)))) gb))))))))),?_⟩
 obtain ⟨_,dx,ta,e1,e2⟩:=id R
 (walk_at "RD")
 refine ⟨_,_,e1,Ce.no _ _ _ (by decide +kernel),by decide,fun p0 hp0=>?_⟩
 have s0:ac H (upd H p0 (.lst [V.str (Str.ofString "stage")])):=pb hp0
 unfold Jm at qq
 refine ⟨q,row,ws,0,p0,[Str.ofString "stage"],rfl,R.same s0,hrow,Nat.zero_le _,SqL.of db,fun hin=>fun H1 s1 n1 R1=>?_,fun hnin=>?_⟩
 case refine_2=>
  rw [if_neg hnin] at qq
  exact (show Sv t row 0 q H E from qq).step (Fc.of s0) fun n=>n.upd
 rw [if_pos hin] at qq
 obtain ⟨_,dx1,ta1,f1,f2⟩:=id R1
 have nt1:=n1 nt.upd
 have x1:Fc q H H1:=(Fc.of s0).trans s1
 have l1:1 ≤ ws.length:=wH (k:=0) (by rw [List.mem_singleton.mp hin];decide +kernel)
 (walk_at "RD")
 refine ⟨_,_,f1,Ce.no _ _ _ (by decide +kernel),⟨q,row,ws,1,1,60,rfl,R1,hrow,l1,nt1,fun lo hlo=>fun H2 s2 n2 R2=>?_,fun hlo=>?_⟩⟩
 case refine_2=>
  rw [nv hlo] at qq
  exact (show Sv t row 1 q H E from qq).step x1 fun _=>nt1
 rw [Ht hlo] at qq
 replace qq:Oc ((cx (wd ws 2) lo 60).elim (.error 2) fun hi=>match Qz ds (Ze ds rows) ws with | .error k=>.error k | .ok ms=>.ok ⟨lo,hi,ms⟩) (fun s=>∀ x m H',Fc q H H'→NoT H'→H' x=some (stO s m)→H' m=some (.lst (wb s.mem))→H x=none→H m=none→Q (.ref x) H') (fun k=>Sv t row k q H E):=qq
 have l2:=(QA hlo).1
 have nt2:=n2 nt1
 have x2:Fc q H H2:=x1.trans s2
 obtain ⟨_,dx2,ta2,g1,g2⟩:=id R2
 (walk_at "RD")
 refine ⟨_,_,g1,Ce.no _ _ _ (by decide +kernel),⟨q,row,ws,2,lo,60,rfl,R2,hrow,l2,nt2,fun hi hhi=>fun H3 s3 n3 R3=>?_,fun hhi=>?_⟩⟩
 case refine_2=>
  rw [nv hhi] at qq
  exact (show Sv t row 2 q H E from qq).step x2 fun _=>nt2
 rw [Ht hhi] at qq
 replace qq:Oc (match Qz ds (Ze ds rows) ws with | .error k=>.error k | .ok ms=>.ok (⟨lo,hi,ms⟩:ST)) (fun s=>∀ x m H',Fc q H H'→NoT H'→H' x=some (stO s m)→H' m=some (.lst (wb s.mem))→H x=none→H m=none→Q (.ref x) H') (fun k=>Sv t row k q H E):=qq
 have l3:=(QA hhi).1
 have nt3:=n3 nt2
 have x3:Fc q H H3:=x2.trans s3
 have C3:=C.sameR x3 R
 have Q3:=RQ.sameR x3 R
 (walk_at "RD")
 refine ⟨c,n,ds,p,qs,ms,rows,rfl,C3,Q3,hrl,hrm,fun l H4 s4 n4 hl hl4=>?_⟩
 have x4:Fc q H H4:=x3.trans (Fc.of s4)
 have nt4:=n4 nt3
 have hlf:(Ze ds rows).length ≤ 12:=by
  unfold Ze
  exact Nat.le_trans (List.length_filter_le ..) (by rw [List.length_map];exact C.1.2)
 refine ⟨q,row,ws,c,n,ds,l,Ze ds rows,rfl,R3.same s4,hrow,l3,C3.same s4,hk,hl4,hlf,fun x hx=>?_,nt4,?_⟩
 ·obtain ⟨d,hd,e⟩:=List.mem_map.mp (List.mem_filter.mp hx).1
  exact ⟨d,hd,e⟩
 cases hm:Qz ds (Ze ds rows) ws with
 | error k=>
  rw [hm] at qq
  exact (show Sv t row k q H E from qq).step x4 fun _=>nt4
 | ok mm=>
  rw [hm] at qq
  replace qq:∀ x m H',Fc q H H'→NoT H'→H' x=some (stO ⟨lo,hi,mm⟩ m)→H' m=some (.lst (wb mm))→H x=none→H m=none→Q (.ref x) H':=qq
  intro m H5 s5 nt5 hq5 hm5 hm4
  obtain ⟨_,_,_,hq4,_⟩:=R3.same s4
  (walk_at "RD")
  refine ⟨by decide,fun x hx=>?_⟩
  have back:∀ {y:Addr} {G:Hp},Fc q H G→G y=none→(∃ u,G q=some u)→H y=none:=fun {y G} sx hy ⟨u,hu⟩=>by
   cases e:H y with
   | none=>rfl
   | some v=>
    by_cases c:y=q
    ·subst c;rw [hu] at hy;cases hy
    ·rw [sx _ _ c e] at hy;cases hy
  exact qq x m _ (x4.trans (s5.trans (Fc.of (pb hx)))) nt5.upd db ((pb hx) _ _ hm5) (back (x4.trans s5) hx hq5) (back x4 hm4 ⟨_,hq4⟩)
end
end My
namespace My
open PySem L2
theorem yv {α:Type} [DecidableEq α]:∀ {l l':List α},l.Nodup→(∀ x ∈ l,x ∈ l')→l.length ≤ l'.length
 | [],_,_,_=>Nat.zero_le _
 | a :: l,l',h,hs=>by
  have ha:=hs a (List.mem_cons_self ..)
  have h2:=List.nodup_cons.mp h
  have:=yv (l':=l'.erase a) h2.2 (fun x hx=>(List.mem_erase_of_ne (fun e=>h2.1 (by rw [← e];exact hx))).mpr (hs x (List.mem_cons_of_mem _ hx)))
  rw [List.length_erase_of_mem ha] at this
  have hp:=List.length_pos_of_mem ha
  rw [List.length_cons]
  omega
noncomputable def UB (rows:List ST) (x:Str):Option Nat:=match nj (ae (rows.map (·.mem))) (Sum.inr x) with
 | some (.int k)=>some k.toNat
 | _=>none
theorem Zp {x:Str}:∀ (n:Nat) (mems:List (List Str)),n ≤ mems.length→(∃ ms ∈ mems.take n,x ∈ ms)→∃ (k:Nat) (ms:List Str),nj (ae (mems.take n)) (Sum.inr x)=some (.int (k:Int))∧mems[k]? = some ms∧x ∈ ms
 | 0,mems,_,h=>by
  obtain ⟨ms,h1,_⟩:=h
  simp at h1
 | n + 1,mems,hn,h=>by
  have hg:mems[n]? = some mems[n]:=List.getElem?_eq_getElem (by omega)
  rw [Bl hg,Ej]
  by_cases c:x ∈ mems[n]
  ·rw [if_pos c]
   exact ⟨n,_,rfl,hg,c⟩
  ·rw [if_neg c]
   refine Zp n mems (by omega) ?_
   obtain ⟨ms,h1,h2⟩:=h
   rw [Le hg] at h1
   rcases List.mem_append.mp h1 with h1 | h1
   ·exact ⟨ms,h1,h2⟩
   ·rw [List.mem_singleton.mp h1] at h2
    exact absurd h2 c
theorem cD {rows:List ST} {x:Str} (h:told rows x=true):∃ (k:Nat) (r:ST),nj (ae (rows.map (·.mem))) (Sum.inr x)=some (.int (k:Int))∧UB rows x=some k∧rows[k]? = some r∧x ∈ r.mem:=by
 unfold told at h
 obtain ⟨r,hr,hx⟩:=List.any_eq_true.mp h
 have:=Zp (x:=x) (rows.map (·.mem)).length (rows.map (·.mem)) (Nat.le_refl _) ⟨r.mem,by rw [List.take_length];exact List.mem_map.mpr ⟨r,hr,rfl⟩,by simpa using hx⟩
 rw [List.take_length] at this
 obtain ⟨k,ms,h1,h2,h3⟩:=this
 obtain ⟨r',hr',rfl⟩:=Kb h2
 exact ⟨k,r',h1,by unfold UB;rw [h1];rfl,hr',h3⟩
noncomputable def lw (rows:List ST) (d:WD):Option (WD × Nat):=(UB rows d.name).bind fun k=>(rows[k]?).bind fun r=>if r.lo < d.least then some (d,k) else none
noncomputable def Fk (ds:List WD) (rows:List ST):Option (WD × Nat):=ds.findSome? (lw rows)
noncomputable def mtN (n:Int) (ds:List WD) (x y:Str):Bool:=match wOf ds x,wOf ds y with
 | some d,some e=>mt n d e
 | _,_=>false
noncomputable def Rk (n:Int) (ds:List WD) (k:Nat) (x y:Str):Option (Str × Str × Nat):=if x ≠ y∧mtN n ds x y=true then some (x,y,k) else none
noncomputable def wp (n:Int) (ds:List WD) (e:ST × Nat):Option (Str × Str × Nat):=e.1.mem.findSome? fun x=>e.1.mem.findSome? fun y=>Rk n ds e.2 x y
noncomputable def Ul (n:Int) (ds:List WD) (rows:List ST):Option (Str × Str × Nat):=rows.zipIdx.findSome? (wp n ds)
noncomputable def JG (ds:List WD):Prop:=∀ d ∈ ds,VI d.name∧d.k < 3∧(0 ≤ d.off∧d.off ≤ 1000)
structure RIn (ds:List WD) (rows:List ST):Prop where
 ln:rows.length ≤ 6
 ml:∀ r ∈ rows,r.mem.length ≤ 12
 inn:∀ r ∈ rows,∀ x ∈ r.mem,∃ d ∈ ds,d.name=x
noncomputable def fw (t:Adr):Sp:=fun vs H Q E=>∃ c n ds p qs ms rows,vs=[.ref c,.ref p]∧Nc t H c n ds∧JG ds∧ji H p qs ms rows∧RIn ds rows ∧
 match (Ze ds rows).head? with
 | none=>∀ H',ac H H'→(NoT H→NoT H')→Q .non H'
 | some x=>iA t.Md [(Str.ofString "way",.str x)] H E
noncomputable def av (t:Adr):Sp:=fun vs H Q E=>∃ c n ds p qs ms rows,vs=[.ref c,.ref p]∧Nc t H c n ds∧JG ds∧ji H p qs ms rows∧RIn ds rows∧Ze ds rows=[] ∧
 match Fk ds rows with
 | none=>∀ H',ac H H'→(NoT H→NoT H')→Q .non H'
 | some e=>iA t.vd [(Str.ofString "way",.str e.1.name),(Str.ofString "at",.int e.2)] H E
noncomputable def bw (t:Adr):Sp:=fun vs H Q E=>∃ c n ds p qs ms rows,vs=[.ref c,.ref p]∧Nc t H c n ds∧0 < n∧JG ds∧ji H p qs ms rows∧RIn ds rows∧NoT H ∧
 match Ul n ds rows with
 | none=>∀ H',ac H H'→(NoT H→NoT H')→Q .non H'
 | some e=>iA t.ud [(Str.ofString "way",.str e.1),(Str.ofString "other",.str e.2.1),(Str.ofString "at",.int e.2.2)] H E
noncomputable def fE (l:List Int) (v:Int):Prop:=v ∈ l∧∀ k ∈ l,k ≤ v
noncomputable def Cw (ds:List WD) (x:Str):Int:=((wOf ds x).map Dt).getD 0
noncomputable def ls (ds:List WD) (x:Str):Int:=((wOf ds x).map Tl).getD 0
noncomputable def dJ (ds:List WD) (x y:Str):Int:=match wOf ds x,wOf ds y with
 | some d,some e=>if d.off - e.near > 0 then d.off - e.near else 0
 | _,_=>0
noncomputable def chX (n:Int) (ds:List WD) (s:List Str) (x:Str):List Int:=if x ∈ s then [] else (s.filter fun y=>mtN n ds x y).map (dJ ds x)
noncomputable def chL (n:Int) (ds:List WD) (f s:List Str):List Int:=[0] ++ f.map (Cw ds) ++ s.map (ls ds) ++ (ds.map (·.name)).flatMap (chX n ds s)
theorem mG {d:WD} {m:Str} (h:zr.contains m=false):(Wq d).lookup m=none:=Gm zr (Zr _) h
theorem Qy (p:Str→Bool) (g:Str→Int):∀ xs:List Str,((xs.map fun x=>if p x=true then some (V.int (g x)) else none).flatMap Option.toList)=((xs.filter p).map g).map V.int
 | []=>rfl
 | x :: xs=>by
  rw [List.map_cons,List.flatMap_cons,Qy p g xs]
  by_cases c:p x=true
  ·rw [if_pos c,List.filter_cons_of_pos c];rfl
  ·rw [if_neg c,List.filter_cons_of_neg c];rfl
theorem JC:∀ ks:List Int,ks ≠ []→∃ m,m ∈ ks∧∀ k ∈ ks,k ≤ m
 | [],h=>absurd rfl h
 | [x],_=>⟨x,by simp,fun k hk=>by rw [List.mem_singleton.mp hk];exact Int.le_refl _⟩
 | x :: y :: r,_=>by
  obtain ⟨m,hm,al⟩:=JC (y :: r) (by simp)
  by_cases c:x ≤ m
  ·refine ⟨m,List.mem_cons_of_mem _ hm,fun k hk=>?_⟩
   rcases List.mem_cons.mp hk with rfl | hk
   ·exact c
   ·exact al k hk
  ·refine ⟨x,by simp,fun k hk=>?_⟩
   rcases List.mem_cons.mp hk with rfl | hk
   ·exact Int.le_refl _
   ·exact Int.le_trans (al k hk) (by omega)
noncomputable def lv (t:Adr):Sp:=fun vs H Q _=>∃ c n ds fa sa f s,vs=[.ref c,.ref fa,.ref sa]∧Nc t H c n ds∧0 < n∧JG ds∧H fa=some (.lst (wb f))∧H sa=some (.lst (wb s))∧(∀ x ∈ f,∃ d ∈ ds,d.name=x)∧(∀ x ∈ s,∃ d ∈ ds,d.name=x)∧f.length ≤ 12∧s.length ≤ 12∧NoT H∧∀ v,fE (chL n ds f s) v→Q (.int v) H
noncomputable def uz (t:Adr):Sp:=fun vs H Q _=>∃ c n ds fa sa f s,vs=[.ref c,.ref fa,.ref sa]∧Nc t H c n ds∧0 < n∧JG ds∧H fa=some (.lst (wb f))∧H sa=some (.lst (wb s))∧(∀ x ∈ f,∃ d ∈ ds,d.name=x)∧(∀ x ∈ s,∃ d ∈ ds,d.name=x)∧f.length ≤ 12∧s.length ≤ 12∧NoT H∧∀ v H',ac H H'→fE (chL n ds f s) v→Q (.int v) H'
section
variable {P:Program} {w:World} {K:PySem.W.Frag} {mg:Str→Option Value} {base:Heap} {t:Adr}
theorem ZA (T:Txt w K mg t):Jb P w K mg base (CX1 P w) 3 t.Xf t.Wf ["crossing","rows"] (fw t):=by
 have G_Never_init:Jb P w K mg base CX0 1 t.cg t.nh ["self","way"] (iG t):=JJ T
 have G_names_left:Jb P w K mg base CX0 2 t.ig t.bg ["crossing","rows"] (gx t):=gB T
 refine T.Qh.okX ik (fun vs H Q E h=>?_) (fun cdv A outer s H vs Q E hr h=>?_)
 ·obtain ⟨c,n,ds,p,qs,ms,rows,rfl,_⟩:=h;rfl
 obtain ⟨c,n,ds,p,qs,ms,rows,rfl,C,hD,R,I,q⟩:=h
 refine ⟨_,(fb (Hb (i:=2) ik.nd rfl (Or.inl rfl) (xb G_names_left hr rfl T.Pn T.Bh.kp T.ao .nil Db (cb (pv 0) (cb (pv 1) gb))))
   (ib (Ie (Tx (pv 2) (fun _=>rfl)) (ib (Po (Ko T.Gy G_Never_init hr rfl T.lI T.ow (cb (Gc xc (pv 2) qb (fun _ _=>rfl)) gb)) Wt)) Kc))),?_⟩
 (walk_at "RD")
 refine ⟨c,n,ds,p,qs,ms,rows,rfl,C,R,I.ln,I.ml,fun l H1 s1 n1 hl l1=>?_⟩
 dsimp only
 cases hL:Ze ds rows with
 | nil=>
  rw [hL] at q l1
  refine ic false (fun Q hQ=>?_) (fun z=>nomatch z) (fun _=>?_)
  ·exact ⟨_,rfl,_,.inl ⟨_,SqL.of l1,rfl⟩,hQ⟩
  ·simp only [re]
   exact q H1 s1 n1
 | cons x r=>
  have hx:x ∈ Ze ds rows:=by rw [hL];exact List.mem_cons_self ..
  rw [hL] at q l1
  replace q:iA t.Md [(Str.ofString "way",.str x)] H E:=q
  have hn:VI x:=by
   obtain ⟨d,hd,e⟩:=List.mem_map.mp (List.mem_filter.mp hx).1
   rw [← e]
   exact (hD d hd).1
  refine ic true (fun Q hQ=>?_) (fun _=>?_) (fun z=>nomatch z)
  ·exact ⟨_,rfl,_,.inl ⟨_,SqL.of l1,rfl⟩,hQ⟩
  ·(walk_at "RD")
   refine ⟨_,SqL.of l1,_,Eb (j:=0) rfl,by decide,fun a ha=>⟨a,x,rfl,hn,db,fun d hd hne=>?_⟩⟩
   have hd0:H1 d=none:=by rw [lb hne] at hd;exact hd
   refine ⟨rfl,t.Md,some d,by rw [lb (Ne.symm hne),db],T.ux,q d _ (fun b u e=>?_) (fun n=>((((n1 n).upd).upd).upd).upd) (by rw [lb hne,db])⟩
   have e':=s1 _ _ e
   rw [lb (vb e' ha),lb (vb e' hd0),lb (vb e' ha),lb (vb e' ha)]
   exact e'
theorem CC (T:Txt w K mg t):Jb P w K mg base (CX1 P w) 3 t.Nf t.Pf ["crossing","rows"] (av t):=by
 have G_Short_init:Jb P w K mg base CX0 1 t.gg t.Hh ["self","way","at"] (uG t):=iK T
 have G_homes_in:Jb P w K mg base CX0 2 t.Mg t.Ng ["members"] Qo:=(Rt T).mono (by decide)
 have G_Crossing_names:Jb P w K mg base CX0 2 t.ad t.Ad ["self"] (Eo t):=(wt T).mono (by decide)
 have G_Crossing_called:Jb P w K mg base CX0 2 t.vc t.Ec ["self","name"] (ki t):=Hj T
 refine T.Sh.okX ef (fun vs H Q E h=>?_) (fun cdv A outer s H vs Q E hr h=>?_)
 ·obtain ⟨c,n,ds,p,qs,ms,rows,rfl,_⟩:=h;rfl
 obtain ⟨c,n,ds,p,qs,ms,rows,rfl,C,hD,R,I,hleft,q⟩:=h
 have hu:=Iz hr
 obtain ⟨⟨hnd,hdl⟩,dx,wl,nd,e1,_,_⟩:=id C
 refine ⟨_,(fb (Hb (i:=2) ef.nd rfl (Or.inl rfl) (xb G_homes_in hr rfl T.wn T.di.kp T.xn .nil Db (cb (zd rfl (Lc (pv 1)) (fc (sc:=jb Kh) rfl (by decide +kernel)) (N:=["least","most","members"]) (sel:=[none,none,none]) (Jc (M:=["crossing","rows","homes","name","number"]) (by decide +kernel)) (Blk.of (fun _ _ _ _=>(kg (K:=K) (n:=3) rfl rfl (Sb (zb (i:=0) (ke (N:=["least","most","members"]) (by decide +kernel) rfl) rfl (Or.inl rfl) (.inr rfl)) (Sb (zb (i:=1) (ke (N:=["least","most","members"]) (by decide +kernel) rfl) rfl (Or.inl rfl) (.inr rfl)) (Sb (zb (i:=2) (ke (N:=["least","most","members"]) (by decide +kernel) rfl) rfl (Or.inl rfl) (.inr rfl)) vg))))) (fun _ _ _ _=>⟨_,Qd,by first | rfl | (dsimp only [Cx.block];done) | (dsimp only [Cx.block];exact rfl)⟩) (fun _ _ _ _=>⟨_,(pv 2),by first | rfl | (dsimp only [Cx.block];done) | (dsimp only [Cx.block];exact rfl)⟩))) gb)))
   (ib (Ge (Jf ⟨rfl,rfl⟩) rfl (Lc (Wd (pv 0) T.bc T.ng G_Crossing_names hr T.wg .nil Db)) (zb (i:=3) ef.nd rfl (Or.inl rfl)) (fb (Hb (i:=4) ef.nd rfl (Or.inl rfl) (AC hu (pv 2) (pv 3) (fun _ _=>rfl)))
   (ib (Ie (dc du (Gc je (Gc xc (pv 1) (pv 4) (fun _ _=>rfl)) qb (fun _ _=>rfl)) (Ac (Tc (pv 0) T.bc T.Dc G_Crossing_called hr T.Hc .nil Db (cb (pv 3) gb)) rfl) (Zb _)) (ib (Po (Ko T.cy G_Short_init hr rfl T.UI T.Cv (cb (pv 3) (cb (pv 4) gb))) Wt)) Kc)))))),?_⟩
 (walk_at "RD")
 have hqn:(qs.map V.ref).length=rows.length:=by rw [List.length_map,R.l1]
 refine ⟨⟨_,SqL.of R.at_⟩,?_⟩
 refine Xc.list_zs (xs:=qs.map V.ref) (zs:=ms.map V.ref) (SqL.of R.at_) (by rw [hqn];exact Nat.le_trans I.ln (by decide)) (by rw [hqn,List.length_map,R.l2]) (fun j v z N hv hz hN=>?_) (fun pm hpm=>?_)
 ·obtain ⟨qj,hqj,rfl⟩:=Kb hv
  obtain ⟨mj,hmj,rfl⟩:=Kb hz
  have hj:j < rows.length:=by rw [← R.l1];exact (List.getElem?_eq_some_iff.mp hqj).1
  have e:=(R.al j qj mj _ hqj hmj (List.getElem?_eq_getElem hj)).1
  (walk_at "RD")
  exact ⟨_,SqT.of e,rfl,_,_,rfl,_,_,rfl,_,_,rfl,rfl,Sub.name3,hN⟩
 ·have sp:ac H (upd H pm (.lst (ms.map V.ref))):=pb hpm
  have np:NoT H→NoT (upd H pm (.lst (ms.map V.ref))):=fun n=>n.upd
  have ep:(upd H pm (.lst (ms.map V.ref))) pm=some (.lst (ms.map V.ref)):=db
  generalize upd H pm (.lst (ms.map V.ref))=HA at sp np ep ⊢
  refine ⟨pm,ms,rows.map (·.mem),rfl,⟨ep,by rw [R.l2,List.length_map],fun i m x hm hx=>?_⟩,by rw [List.length_map];exact I.ln,fun x hx=>?_,fun h H1 s1 n1 hh h1=>?_⟩
  ·obtain ⟨r,hr',rfl⟩:=Kb hx
   have hqi:qs[i]? = some (qs[i]'(by rw [R.l1];exact (List.getElem?_eq_some_iff.mp hr').1)):=List.getElem?_eq_getElem _
   exact sp _ _ (R.al i _ m r hqi hm hr').2
  ·obtain ⟨r,hr',rfl⟩:=List.mem_map.mp hx
   exact I.ml r hr'
  ·have sA:=sp.trans s1
   have C1:=C.same sA
   refine ⟨_,_,sA _ _ e1,cA _ _ _ (by decide +kernel),c,n,ds,rfl,C1,fun pn hpn=>⟨pn,rfl,⟨_,SqL.of db⟩,?_⟩⟩
   have sB:=sA.trans (pb (o:=.lst (wb (ds.map (·.name)))) hpn)
   have h2:=(pb (o:=.lst (wb (ds.map (·.name)))) hpn) _ _ h1
   have nB:NoT H→NoT (upd H1 pn (.lst (wb (ds.map (·.name))))):=fun n=>(n1 (np n)).upd
   have ePn:(upd H1 pn (.lst (wb (ds.map (·.name))))) pn=some (.lst (wb (ds.map (·.name)))):=db
   generalize upd H1 pn (.lst (wb (ds.map (·.name))))=HB at sB h2 nB ePn ⊢
   refine kj.list (xs:=wb (ds.map (·.name))) (fun i σ H'=>(∃ x y,σ=[some (.ref c),some (.ref p),some (.ref h),x,y])∧H'=HB∧Fk ds rows=(ds.drop i).findSome? (lw rows)) ?_ ?_ ?_ ?_
   ·exact ⟨⟨_,_,rfl⟩,rfl,rfl⟩
   ·rintro i σ H' hi ⟨_,rfl,_⟩
    exact SqL.of ePn
   ·rintro i v σ H' hv ⟨⟨x,y,rfl⟩,rfl,hS⟩
    unfold wb at hv
    obtain ⟨nm,hnm,rfl⟩:=Kb hv
    obtain ⟨d,hd,rfl⟩:=Kb hnm
    obtain ⟨hi,hdi⟩:=List.getElem?_eq_some_iff.mp hd
    have hdm:=List.mem_of_getElem? hd
    have ht:told rows d.name=true:=by
     have:=List.filter_eq_nil_iff.mp hleft d.name (List.mem_map.mpr ⟨d,hdm,rfl⟩)
     simpa using this
    obtain ⟨k,r,hv1,hk1,hrk,hxm⟩:=cD ht
    have hkl:k < rows.length:=(List.getElem?_eq_some_iff.mp hrk).1
    have hsd:lw rows d=if r.lo < d.least then some (d,k) else none:=by
     unfold lw
     rw [hk1,Option.bind_some,hrk,Option.bind_some]
    rw [List.drop_eq_getElem_cons hi,List.findSome?_cons,hdi,hsd] at hS
    have hg:Su H' h (.str d.name) (some (.int (k:Int))):=by rw [← hv1];exact Su.k (k:=Sum.inr d.name) h2
    have hqk:qs[k]? = some (qs[k]'(by rw [R.l1];exact hkl)):=List.getElem?_eq_getElem _
    have hmk:ms[k]? = some (ms[k]'(by rw [R.l2];exact hkl)):=List.getElem?_eq_getElem _
    have erk:=sB _ _ (R.al k _ _ r hqk hmk hrk).1
    simp only [De,Cb,List.set_cons_succ,List.set_cons_zero]
    refine zzC (fun σ' H2=>H2=H'∧σ'=[some (.ref c),some (.ref p),some (.ref h),some (.str d.name),some (.int (k:Int))]) (fun D' hD'=>?_) fun zzM zzh=>?_
    ·(walk_at "RD")
     exact ⟨_,hg,hD' _ _ ⟨rfl,rfl⟩⟩
    rintro σ2 H2 ⟨rfl,rfl⟩
    subst zzh
    dsimp only
    refine ic (decide (r.lo < d.least)) (fun Q hQ=>?_) (fun hb=>?_) (fun hb=>?_)
    ·(walk_at "RD")
     exact ⟨_,SqL.of (sB _ _ R.at_),_,Eb (by rw [List.getElem?_map,hqk];rfl),_,rfl,_,SqT.of erk,_,Eb (j:=0) rfl,_,_,sB _ _ e1,cA _ _ _ (by decide +kernel),c,n,ds,i,d,rfl,C.same sB,hd,fun a W=>⟨a,rfl,_,W.f_least T,_,rfl,_,rfl,hQ⟩⟩
    ·have hb:=of_decide_eq_true hb
     rw [if_pos hb] at hS
     replace hS:Fk ds rows=some (d,k):=hS
     rw [hS] at q
     replace q:iA t.vd [(Str.ofString "way",.str d.name),(Str.ofString "at",.int (k:Int))] H E:=q
     (walk_at "RD")
     refine ⟨by decide,fun a ha=>⟨a,d.name,k,rfl,(hD d hdm).1,vn (by have:=I.ln;omega),db,fun dd hd hne=>?_⟩⟩
     have hd0:H2 dd=none:=by rw [lb hne] at hd;exact hd
     refine ⟨rfl,t.vd,some dd,by rw [lb (Ne.symm hne),db],T.au,q dd _ (fun b u e=>?_) (fun n=>((((nB n).upd).upd).upd).upd) (by rw [lb hne,db])⟩
     have e':=sB _ _ e
     rw [lb (vb e' ha),lb (vb e' hd0),lb (vb e' ha),lb (vb e' ha)]
     exact e'
    ·have hb:=of_decide_eq_false hb
     rw [if_neg hb] at hS
     simp only [re]
     exact ⟨⟨_,_,rfl⟩,trivial,hS⟩
   ·rintro σ H' ⟨⟨x,y,rfl⟩,rfl,hS⟩
    rw [Nb,List.length_map,List.drop_length] at hS
    replace hS:Fk ds rows=none:=hS
    rw [hS] at q
    exact q _ sB nB
theorem dD (T:Txt w K mg t):Jb P w K mg base (CX1 P w) 4 t.Of t.Sf ["crossing","rows"] (bw t):=by
 have G_Clash_init:Jb P w K mg base CX0 2 t.ag t.Gh ["self","way","other","at"] (rG t):=(XJ T).mono (by decide)
 have G_meet:Jb P w K mg base CX0 3 t.Qv t.Fv ["crossing","one","other"] (ax t):=JA T
 refine T.Nh.okX ye (fun vs H Q E h=>?_) (fun cdv A outer s H vs Q E hr h=>?_)
 ·obtain ⟨c,n,ds,p,qs,ms,rows,rfl,_⟩:=h;rfl
 obtain ⟨c,n,ds,p,qs,ms,rows,rfl,C,hn,hD,R,I,nt,q⟩:=h
 obtain ⟨⟨hnd,hdl⟩,dx,wl,nd,e1,_,_⟩:=id C
 refine ⟨_,(ib (Ge (Jf ⟨rfl,rfl⟩) rfl (Mt rfl T.Hi (cb (pv 1) gb)) (kg (K:=K) (n:=2) rfl rfl (Sb (zb (i:=2) ye.nd rfl (Or.inl rfl) (.inl rfl)) (Sb (zb (i:=3) ye.nd rfl (Or.inl rfl) (.inl rfl)) vg))) (ib (Ge (Jf ⟨rfl,rfl⟩) rfl (Lc (Gc je (pv 3) qb (fun _ _=>rfl))) (zb (i:=4) ye.nd rfl (Or.inl rfl)) (ib (Ge (Jf ⟨rfl,rfl⟩) rfl (Lc (Gc je (pv 3) qb (fun _ _=>rfl))) (zb (i:=5) ye.nd rfl (Or.inl rfl)) (ib (Ie (PW.pt (Mu (dc tz (pv 4) (pv 5) (Zb _)) (gq (ni (xb G_meet hr rfl T.ZF T.Cy.kp T.gG .nil Db (cb (pv 0) (cb (pv 4) (cb (pv 5) gb)))))))) (ib (Po (Ko T.Vy G_Clash_init hr rfl T.vH T.Uv (cb (pv 4) (cb (pv 5) (cb (pv 2) gb)))) Wt)) Kc)))))))),?_⟩
 (walk_at "RD")
 have nm3:∀ {x:Str},(∃ d ∈ ds,d.name=x)→∃ (i:Nat) (d:WD),ds[i]? = some d∧d.name=x∧wOf ds x=some d∧VI x:=fun ⟨d,hd,e⟩=>by
  obtain ⟨i,hi⟩:=List.getElem?_of_mem hd
  exact ⟨i,d,hi,e,by rw [← e];exact cj hnd hi,by rw [← e];exact (hD d hd).1⟩
 refine ⟨⟨_,SqL.of R.at_⟩,?_⟩
 refine kj.enum (xs:=qs.map V.ref) (fun i σ H'=>(∃ x y z u,σ=[some (.ref c),some (.ref p),x,y,z,u])∧ac H H'∧NoT H'∧Ul n ds rows=((rows.drop i).zipIdx i).findSome? (wp n ds)) ?_ ?_ ?_ ?_
 ·exact ⟨⟨_,_,_,_,rfl⟩,ac.refl _,nt,rfl⟩
 ·rintro i σ H' hi ⟨_,sm,_⟩
  exact SqL.of (sm _ _ R.at_)
 ·rintro i v σ H' tp hv ⟨⟨x,y,z,u,rfl⟩,sm,n1,hS⟩ htp
  obtain ⟨qi,hqi,rfl⟩:=Kb hv
  have hi:i < rows.length:=by rw [← R.l1];exact (List.getElem?_eq_some_iff.mp hqi).1
  have hri:rows[i]? = some rows[i]:=List.getElem?_eq_getElem hi
  have hmi:ms[i]? = some (ms[i]'(by rw [R.l2];exact hi)):=List.getElem?_eq_getElem _
  obtain ⟨er,em⟩:=R.al i qi _ _ hqi hmi hri
  generalize ms[i]'(by rw [R.l2];exact hi)=m at hmi er em
  have hrm:=List.mem_of_getElem? hri
  have hin:=I.inn _ hrm
  have hml:=I.ml _ hrm
  rw [List.drop_eq_getElem_cons hi,List.zipIdx_cons,List.findSome?_cons] at hS
  generalize hrr:rows[i]=r at er em hin hml hS
  have s2:ac H' (upd H' tp (.tup [.int i,.ref qi])):=pb htp
  have sB:=sm.trans s2
  have nB:NoT (upd H' tp (.tup [.int i,.ref qi])):=n1.upd
  refine Nm ?_
  generalize upd H' tp (.tup [.int i,.ref qi])=HB at s2 sB nB ⊢
  have erB:=sB _ _ er
  have emB:=sB _ _ em
  (walk_at "RD")
  refine ⟨_,SqT.of erB,_,Eb (j:=2) rfl,m,rfl,⟨_,SqL.of emB⟩,?_⟩
  generalize hrest:((rows.drop (i + 1)).zipIdx (i + 1)).findSome? (wp n ds)=rest at hS
  refine kj.list (xs:=wb r.mem) (fun j σ H2=>(∃ z u,σ=[some (.ref c),some (.ref p),some (.int (i:Int)),some (.ref qi),z,u])∧H2=HB∧wp n ds (r,i)=(r.mem.drop j).findSome? (fun x=>r.mem.findSome? fun y=>Rk n ds i x y)) ?_ ?_ ?_ ?_
  ·exact ⟨⟨_,_,rfl⟩,rfl,rfl⟩
  ·rintro j σ H2 hj ⟨_,rfl,_⟩
   exact SqL.of emB
  ·rintro j v σ H2 hv ⟨⟨z,u,rfl⟩,rfl,hR⟩
   unfold wb at hv
   obtain ⟨x1,hx1,rfl⟩:=Kb hv
   obtain ⟨hj,hxj⟩:=List.getElem?_eq_some_iff.mp hx1
   rw [List.drop_eq_getElem_cons hj,List.findSome?_cons,hxj] at hR
   obtain ⟨i1,d1,hd1,hn1,hw1,ho1⟩:=nm3 (hin x1 (List.mem_of_getElem? hx1))
   generalize hrest2:(r.mem.drop (j + 1)).findSome? (fun x=>r.mem.findSome? fun y=>Rk n ds i x y)=rest2 at hR
   (walk_at "RD")
   refine ⟨_,SqT.of erB,_,Eb (j:=2) rfl,m,rfl,⟨_,SqL.of emB⟩,?_⟩
   refine kj.list (xs:=wb r.mem) (fun l σ H3=>(∃ u,σ=[some (.ref c),some (.ref p),some (.int (i:Int)),some (.ref qi),some (.str x1),u])∧H3=H2∧(r.mem.findSome? fun y=>Rk n ds i x1 y)=(r.mem.drop l).findSome? (fun y=>Rk n ds i x1 y)) ?_ ?_ ?_ ?_
   ·exact ⟨⟨_,rfl⟩,rfl,rfl⟩
   ·rintro l σ H3 hl ⟨_,rfl,_⟩
    exact SqL.of emB
   ·rintro l v σ H3 hv ⟨⟨u,rfl⟩,rfl,hL⟩
    unfold wb at hv
    obtain ⟨x2,hx2,rfl⟩:=Kb hv
    obtain ⟨hl,hxl⟩:=List.getElem?_eq_some_iff.mp hx2
    rw [List.drop_eq_getElem_cons hl,List.findSome?_cons,hxl] at hL
    obtain ⟨i2,d2,hd2,hn2,hw2,ho2⟩:=nm3 (hin x2 (List.mem_of_getElem? hx2))
    have hmt:mtN n ds x1 x2=mt n d1 d2:=by unfold mtN;rw [hw1,hw2]
    have hc3:Rk n ds i x1 x2=if x1 ≠ x2∧mt n d1 d2=true then some (x1,x2,i) else none:=by unfold Rk;rw [hmt]
    rw [hc3] at hL
    simp only [De,List.set_cons_succ,List.set_cons_zero]
    refine ic (decide (x1 ≠ x2) && mt n d1 d2) (fun Q hQ=>?_) (fun hb=>?_) (fun hb=>?_)
    ·(walk_at "RD")
     by_cases c0:x1=x2
     ·rw [if_neg (by simp [c0])]
      rw [decide_eq_false (fun z=>z c0),Bool.false_and] at hQ
      exact hQ
     ·rw [if_pos (by simpa using c0)]
      rw [decide_eq_true c0,Bool.true_and] at hQ
      exact ⟨c,n,ds,i1,i2,d1,d2,by rw [hn1,hn2],C.same sB,hn,hd1,hd2,nB,_,rfl,hQ⟩
    ·rw [Bool.and_eq_true,decide_eq_true_eq] at hb
     rw [if_pos hb] at hL
     replace hL:(r.mem.findSome? fun y=>Rk n ds i x1 y)=some (x1,x2,i):=hL
     rw [hL] at hR
     replace hR:wp n ds (r,i)=some (x1,x2,i):=hR
     rw [hR] at hS
     replace hS:Ul n ds rows=some (x1,x2,i):=hS
     rw [hS] at q
     replace q:iA t.ud [(Str.ofString "way",.str x1),(Str.ofString "other",.str x2),(Str.ofString "at",.int (i:Int))] H E:=q
     (walk_at "RD")
     refine ⟨by decide,fun a ha=>⟨a,x1,x2,i,rfl,ho1,ho2,vn (by have:=I.ln;omega),db,fun dd hd hne=>?_⟩⟩
     have hd0:H3 dd=none:=by rw [lb hne] at hd;exact hd
     refine ⟨rfl,t.ud,some dd,by rw [lb (Ne.symm hne),db],T.vq,q dd _ (fun b u e=>?_) (fun _=>((((nB).upd).upd).upd).upd) (by rw [lb hne,db])⟩
     have e':=sB _ _ e
     rw [lb (vb e' ha),lb (vb e' hd0),lb (vb e' ha),lb (vb e' ha)]
     exact e'
    ·have hb:¬ (x1 ≠ x2∧mt n d1 d2=true):=fun z=>by
      rw [decide_eq_true z.1,z.2] at hb
      exact nomatch hb
     rw [if_neg hb] at hL
     simp only [re]
     exact ⟨⟨_,rfl⟩,trivial,hL⟩
   ·rintro σ H3 ⟨⟨u,rfl⟩,rfl,hL⟩
    rw [Nb,List.drop_length] at hL
    replace hL:(r.mem.findSome? fun y=>Rk n ds i x1 y)=none:=hL
    rw [hL] at hR
    exact ⟨⟨_,_,rfl⟩,rfl,hR⟩
  ·rintro σ H2 ⟨⟨z,u,rfl⟩,rfl,hR⟩
   rw [Nb,List.drop_length] at hR
   replace hR:wp n ds (r,i)=none:=hR
   rw [hR] at hS
   exact ⟨⟨_,_,_,_,rfl⟩,sB,nB,hS⟩
 ·rintro σ H' ⟨⟨x,y,z,u,rfl⟩,sm,n1,hS⟩
  rw [List.length_map,R.l1,List.drop_length] at hS
  replace hS:Ul n ds rows=none:=hS
  rw [hS] at q
  exact q _ sm (fun _=>n1)
theorem WB (T:Txt w K mg t):Jb P w K mg base CX0 4 t.Uf t.Kf ["crossing","first","second"] (lv t):=by
 refine Jb.forget (sp:=uz t) ?_ fun vs H Q E h=>?_
 ·have G_meet:Jb P w K mg base CX0 3 t.Qv t.Fv ["crossing","one","other"] (ax t):=JA T
  have G_gap:Jb P w K mg base CX0 3 t.WE t.vE ["crossing","one","other"] (NG t):=BK T
  have G_Crossing_names:Jb P w K mg base CX0 3 t.ad t.Ad ["self"] (Eo t):=(wt T).mono (by decide)
  have G_Crossing_called:Jb P w K mg base CX0 3 t.vc t.Ec ["self","name"] (ki t):=(Hj T).mono (by decide)
  have V_Way_ready:RI P w K mg base CX0 3 (isW t) "ready" ["self"] (Oj t):=Nv (II T) (by decide)
  have V_Way_fade:RI P w K mg base CX0 3 (isW t) "fade" ["self"] (Zl t):=Nv (MJ T) (by decide)
  refine T.Oh.ok bh (fun vs H Q E h=>?_) (fun cdv A outer s H vs Q E hr h=>?_)
  ·obtain ⟨c,n,ds,fa,sa,f,s,rfl,_⟩:=h;rfl
  obtain ⟨c,n,ds,fa,sa,f,s,rfl,C,hn,hD,hf,hs,fin,sin,hfl,hsl,nt,q⟩:=h
  obtain ⟨⟨hnd,hdl⟩,dx,wl,nd,e1,_,_⟩:=id C
  refine ⟨_,(fb (Hb (i:=3) bh.nd rfl (Or.inl rfl) (ve (cb qb gb)))
   (fb (Ub (rg PySem.F.plainAttrs_list PySem.F.slot_list_extend PySem.F.type_list_extend So (pv 3) (cb (zd rfl (Lc (pv 1)) (fc (sc:=jb Qe) rfl (by decide +kernel)) (N:=["name","crossing"]) (sel:=[none,some 0]) (Jc (M:=["crossing","first","second","turns","one"]) (by decide +kernel)) (Blk.of (fun _ _ _ _=>(zb (i:=0) (ke (N:=["name","crossing"]) (by decide +kernel) rfl) rfl (Or.inl rfl))) (fun _ _ _ _=>⟨_,Qd,by first | rfl | (dsimp only [Cx.block];done) | (dsimp only [Cx.block];exact rfl)⟩) (fun _ _ _ _=>⟨_,(Gv (Tc (pv 1) T.bc T.Dc G_Crossing_called hr T.Hc .nil Db (cb (pv 0) gb)) V_Way_fade hr Db),by first | rfl | (dsimp only [Cx.block];done) | (dsimp only [Cx.block];exact rfl)⟩))) gb)))
   (fb (Ub (rg PySem.F.plainAttrs_list PySem.F.slot_list_extend PySem.F.type_list_extend So (pv 3) (cb (zd rfl (Lc (pv 2)) (fc (sc:=jb Qe) rfl (by decide +kernel)) (N:=["name","crossing"]) (sel:=[none,some 0]) (Jc (M:=["crossing","first","second","turns","one"]) (by decide +kernel)) (Blk.of (fun _ _ _ _=>(zb (i:=0) (ke (N:=["name","crossing"]) (by decide +kernel) rfl) rfl (Or.inl rfl))) (fun _ _ _ _=>⟨_,Qd,by first | rfl | (dsimp only [Cx.block];done) | (dsimp only [Cx.block];exact rfl)⟩) (fun _ _ _ _=>⟨_,(Gv (Tc (pv 1) T.bc T.Dc G_Crossing_called hr T.Hc .nil Db (cb (pv 0) gb)) V_Way_ready hr Db),by first | rfl | (dsimp only [Cx.block];done) | (dsimp only [Cx.block];exact rfl)⟩))) gb)))
   (fb (Ge PassesOwn.never rfl (Lc (Wd (pv 0) T.bc T.ng G_Crossing_names hr T.wg .nil Db)) (zb (i:=4) bh.nd rfl (Or.inr rfl)) (ib (Ie (dc zj (pv 4) (pv 2) (by with_unfolding_all rfl)) (ib (Ub (rg PySem.F.plainAttrs_list PySem.F.slot_list_extend PySem.F.type_list_extend So (pv 3) (cb (zd rfl (Lc (pv 2)) (fc (sc:=jb Qe) rfl (by decide +kernel)) (N:=["other","crossing","one"]) (sel:=[none,some 0,some 4]) (Jc (M:=["crossing","first","second","turns","one"]) (by decide +kernel)) (Blk.of (fun _ _ _ _=>(zb (i:=0) (ke (N:=["other","crossing","one"]) (by decide +kernel) rfl) rfl (Or.inl rfl))) (fun _ _ _ _=>⟨_,(yt (ni (xb G_meet hr rfl T.ZF T.Cy.kp T.gG .nil Db (cb (pv 1) (cb (pv 2) (cb (pv 0) gb)))))),by first | rfl | (dsimp only [Cx.block];done) | (dsimp only [Cx.block];exact rfl)⟩) (fun _ _ _ _=>⟨_,(xb G_gap hr rfl T.BL T.bI.kp T.nL .nil Db (cb (pv 1) (cb (pv 2) (cb (pv 0) gb)))),by first | rfl | (dsimp only [Cx.block];done) | (dsimp only [Cx.block];exact rfl)⟩))) gb)))) Kc)))
   (ib (Lb (yc (ou rfl) rfl T.iI An (cb (pv 3) gb)))))))),?_⟩
  simp only [Cb]
  refine zzC (fun σ' H'=>ac H H'∧NoT H'∧∃ tl,H tl=none∧H' tl=some (.lst ([(0:Int)].map V.int))∧σ'=[some (.ref c),some (.ref fa),some (.ref sa),some (.ref tl),none]) (fun D' hD=>?_) fun zzM zzh=>?_
  ·(walk_at "RD")
   exact ⟨by decide,fun tl htl=>hD _ _ ⟨pb htl,nt.upd,tl,htl,db,rfl⟩⟩
  rintro σ1 H1 ⟨s1,n1,tl,htl,w1,rfl⟩
  subst zzh
  simp only [Cb]
  refine zzC (fun σ' H'=>ac H H'∧NoT H'∧H' tl=some (.lst (([0] ++ f.map (Cw ds)).map V.int))∧σ'=[some (.ref c),some (.ref fa),some (.ref sa),some (.ref tl),none]) (fun D' hD'=>?_) fun zzM zzh=>?_
  ·(walk_at "RD")
   refine ⟨.inl ⟨_,SqL.of w1⟩,⟨_,SqL.of (s1 _ _ hf)⟩,?_⟩
   refine Xc.list_zs (xs:=wb f) (zs:=(f.map (Cw ds)).map V.int) (SqL.of (s1 _ _ hf)) (by rw [Nb];exact Nat.le_trans hfl (by decide)) (by rw [Nb,List.length_map,List.length_map]) (fun j v z N hv hz hN=>?_) (fun pl hpl=>?_)
   ·unfold wb at hv
    obtain ⟨x,hx,rfl⟩:=Kb hv
    obtain ⟨y,hy,rfl⟩:=Kb hz
    obtain ⟨x',hx',rfl⟩:=Kb hy
    rw [hx] at hx'
    cases hx'
    obtain ⟨d,hd,rfl⟩:=fin x (List.mem_of_getElem? hx)
    obtain ⟨i,hi⟩:=List.getElem?_of_mem hd
    have hfd:Cw ds d.name=Dt d:=by unfold Cw;rw [cj hnd hi];rfl
    rw [hfd] at hN
    (walk_at "RD")
    refine ⟨Sub.name,_,_,s1 _ _ e1,cA _ _ _ (by decide +kernel),c,n,ds,i,d,rfl,C.same s1,hi,fun a W=>?_⟩
    obtain ⟨dk,dxw,hway⟩:=id W
    exact ⟨a,rfl,_,_,_,hway,⟨_,dk,rfl⟩,mG (by decide +kernel),a,d,rfl,W,rfl,hN⟩
   ·refine ⟨pl,rfl,_,(pb hpl) _ _ w1,_,db,?_,hD' _ _ ⟨(s1.trans (pb hpl)).updN htl,(n1.upd).upd,by rw [db,List.map_append],rfl⟩⟩
    rw [List.length_map,List.length_map,List.length_map]
    exact Nat.le_trans (show _ ≤ 13 by show 1 + f.length ≤ 13;omega) (by decide)
  rintro σ2 H2 ⟨s2,n2,w2,rfl⟩
  subst zzh
  simp only [Cb]
  refine zzC (fun σ' H'=>ac H H'∧NoT H'∧H' tl=some (.lst (([0] ++ f.map (Cw ds) ++ s.map (ls ds)).map V.int))∧σ'=[some (.ref c),some (.ref fa),some (.ref sa),some (.ref tl),none]) (fun D' hD'=>?_) fun zzM zzh=>?_
  ·(walk_at "RD")
   refine ⟨.inl ⟨_,SqL.of w2⟩,⟨_,SqL.of (s2 _ _ hs)⟩,?_⟩
   refine Xc.list_zs (xs:=wb s) (zs:=(s.map (ls ds)).map V.int) (SqL.of (s2 _ _ hs)) (by rw [Nb];exact Nat.le_trans hsl (by decide)) (by rw [Nb,List.length_map,List.length_map]) (fun j v z N hv hz hN=>?_) (fun pl hpl=>?_)
   ·unfold wb at hv
    obtain ⟨x,hx,rfl⟩:=Kb hv
    obtain ⟨y,hy,rfl⟩:=Kb hz
    obtain ⟨x',hx',rfl⟩:=Kb hy
    rw [hx] at hx'
    cases hx'
    obtain ⟨d,hd,rfl⟩:=sin x (List.mem_of_getElem? hx)
    obtain ⟨i,hi⟩:=List.getElem?_of_mem hd
    have hfd:ls ds d.name=Tl d:=by unfold ls;rw [cj hnd hi];rfl
    rw [hfd] at hN
    (walk_at "RD")
    refine ⟨Sub.name,_,_,s2 _ _ e1,cA _ _ _ (by decide +kernel),c,n,ds,i,d,rfl,C.same s2,hi,fun a W=>?_⟩
    obtain ⟨dk,dxw,hway⟩:=id W
    exact ⟨a,rfl,_,_,_,hway,⟨_,dk,rfl⟩,mG (by decide +kernel),a,d,rfl,W,rfl,hN⟩
   ·refine ⟨pl,rfl,_,(pb hpl) _ _ w2,_,db,?_,hD' _ _ ⟨(s2.trans (pb hpl)).updN htl,(n2.upd).upd,by rw [db,← List.map_append],rfl⟩⟩
    rw [List.length_map,List.length_map,List.length_map,List.length_append,List.length_map]
    exact Nat.le_trans (show _ ≤ 25 by show 1 + f.length + s.length ≤ 25;omega) (by decide)
  rintro σ3 H3 ⟨s3,n3,w3,rfl⟩
  subst zzh
  simp only [Cb]
  refine zzC (fun σ' H'=>ac H H'∧NoT H'∧H' tl=some (.lst ((chL n ds f s).map V.int))∧∃ x4,σ'=[some (.ref c),some (.ref fa),some (.ref sa),some (.ref tl),x4]) (fun D' hD'=>?_) fun zzM zzh=>?_
  ·(walk_at "RD")
   have C3:=C.same s3
   refine ⟨_,_,s3 _ _ e1,cA _ _ _ (by decide +kernel),c,n,ds,rfl,C3,fun pn hpn=>⟨pn,rfl,⟨_,SqL.of db⟩,?_⟩⟩
   have sB:=s3.trans (pb (o:=.lst (wb (ds.map (·.name)))) hpn)
   have nB:NoT (upd H3 pn (.lst (wb (ds.map (·.name))))):=n3.upd
   have ePn:(upd H3 pn (.lst (wb (ds.map (·.name))))) pn=some (.lst (wb (ds.map (·.name)))):=db
   have wB:=(pb (o:=.lst (wb (ds.map (·.name)))) hpn) _ _ w3
   have hptl:pn ≠ tl:=fun z=>by rw [z,w3] at hpn;cases hpn
   generalize upd H3 pn (.lst (wb (ds.map (·.name))))=HB at sB nB ePn wB ⊢
   refine kj.list (xs:=wb (ds.map (·.name))) (fun i σ H'=>(∃ x,σ=[some (.ref c),some (.ref fa),some (.ref sa),some (.ref tl),x])∧ac H H'∧NoT H'∧H' pn=some (.lst (wb (ds.map (·.name))))∧H' tl=some (.lst (([(0:Int)] ++ f.map (Cw ds) ++ s.map (ls ds) ++ ((ds.map fun d:WD=>d.name).take i).flatMap (chX n ds s)).map V.int))∧(((ds.map fun d:WD=>d.name).take i).flatMap (chX n ds s)).length ≤ 12 * i) ?_ ?_ ?_ ?_
   ·exact ⟨⟨_,rfl⟩,sB,nB,ePn,by rw [List.take_zero,List.flatMap_nil,List.append_nil];exact wB,by simp⟩
   ·rintro i σ H' hi ⟨_,_,_,e,_⟩
    exact SqL.of e
   ·rintro i v σ H' hv ⟨⟨x4,rfl⟩,sm,n4,ePn4,w4,hl4⟩
    unfold wb at hv
    obtain ⟨nm,hnm,rfl⟩:=Kb hv
    have hnm':=hnm
    obtain ⟨d,hd,rfl⟩:=Kb hnm'
    have hi12:i < 12:=by have:=(List.getElem?_eq_some_iff.mp hd).1;omega
    have hwd:=cj hnd hd
    simp only [De,List.set_cons_succ,List.set_cons_zero]
    refine ic (!decide (d.name ∈ s)) (fun Q hQ=>?_) (fun hb=>?_) (fun hb=>?_)
    ·(walk_at "RD")
     refine ⟨_,.inl (SqL.of (sm _ _ hs)),rfl,Yh s,?_⟩
     rw [jm]
     exact hQ
    ·have hb:d.name ∉ s:=by simpa using hb
     have hcx:chX n ds s d.name=(s.filter fun y=>mtN n ds d.name y).map (dJ ds d.name):=by unfold chX;rw [if_neg hb]
     (walk_at "RD")
     refine ⟨.inl ⟨_,SqL.of w4⟩,⟨_,SqL.of (sm _ _ hs)⟩,?_⟩
     refine Xc.list_sel (xs:=wb s) (ss:=s.map fun y=>if mtN n ds d.name y=true then some (V.int (dJ ds d.name y)) else none) (SqL.of (sm _ _ hs)) (by rw [Nb];exact Nat.le_trans hsl (by decide)) (by rw [Nb,List.length_map]) (fun l v o ys N hv ho hN=>?_) (fun pl hpl=>?_)
     ·unfold wb at hv
      obtain ⟨x2,hx2,rfl⟩:=Kb hv
      obtain ⟨x',hx',rfl⟩:=Kb ho
      rw [hx2] at hx'
      cases hx'
      obtain ⟨e,he,rfl⟩:=sin x2 (List.mem_of_getElem? hx2)
      obtain ⟨j,hj⟩:=List.getElem?_of_mem he
      have hwe:=cj hnd hj
      have hm2:mtN n ds d.name e.name=mt n d e:=by unfold mtN;rw [hwd,hwe]
      have hg2:dJ ds d.name e.name=if d.off - e.near > 0 then d.off - e.near else 0:=by unfold dJ;rw [hwd,hwe]
      rw [hm2,hg2] at hN
      (walk_at "RD")
      refine ⟨Sub.name,c,n,ds,i,j,d,e,rfl,C.same sm,hn,hd,hj,n4,_,rfl,?_⟩
      cases hmt:mt n d e with
      | true=>
       rw [if_pos rfl]
       rw [hmt,if_pos rfl] at hN
       exact ⟨c,n,ds,i,j,d,e,rfl,C.same sm,hd,hj,hN⟩
      | false=>
       rw [if_neg (by decide)]
       rw [hmt,if_neg (by decide)] at hN
       simpa using hN
     ·rw [Qy (fun y=>mtN n ds d.name y) (dJ ds d.name),← hcx]
      have hcl:(chX n ds s d.name).length ≤ 12:=by rw [hcx,List.length_map];exact Nat.le_trans (List.length_filter_le ..) hsl
      refine ⟨pl,rfl,_,(pb hpl) _ _ w4,_,db,?_,⟨_,rfl⟩,(sm.trans (pb hpl)).updN htl,(n4.upd).upd,by rw [lb hptl];exact (pb hpl) _ _ ePn4,?_,?_⟩
      ·rw [List.length_map,List.length_map,List.length_append,List.length_append,List.length_append,List.length_map,List.length_map]
       exact Nat.le_trans (show _ ≤ 500 by show 1 + f.length + s.length + _ + _ ≤ 500;omega) (by decide)
      ·rw [db,Le hnm,List.flatMap_append,← List.map_append]
       simp
      ·rw [Le hnm,List.flatMap_append,List.length_append,List.flatMap_cons,List.flatMap_nil,List.append_nil]
       omega
    ·have hb:d.name ∈ s:=by simpa using hb
     have hcx:chX n ds s d.name=[]:=by unfold chX;rw [if_pos hb]
     simp only [re]
     refine ⟨⟨_,rfl⟩,sm,n4,ePn4,?_,?_⟩
     ·rw [Le hnm,List.flatMap_append,List.flatMap_cons,hcx]
      simpa using w4
     ·rw [Le hnm,List.flatMap_append,List.length_append,List.flatMap_cons,hcx]
      show _ + 0 ≤ _
      omega
   ·rintro σ H' ⟨⟨x4,rfl⟩,sm,n4,_,w4,_⟩
    rw [Nb,List.take_length] at w4
    exact hD' _ _ ⟨sm,n4,w4,_,rfl⟩
  rintro σ4 H4 ⟨s4,n4,w4,x4,rfl⟩
  subst zzh
  (walk_at "RD")
  obtain ⟨mx,h1,h2⟩:=JC (chL n ds f s) (by unfold chL;simp)
  exact ⟨_,SqL.of w4,mx,h1,h2,q mx H4 s4 ⟨h1,h2⟩⟩
 ·obtain ⟨c,n,ds,fa,sa,f,s,rfl,C,hn,hD,hf,hs,fin,sin,hfl,hsl,nt,q⟩:=h
  exact ⟨nt,c,n,ds,fa,sa,f,s,rfl,C,hn,hD,hf,hs,fin,sin,hfl,hsl,nt,fun v H' sm hv=>⟨sm,q v hv⟩⟩
end
end My
namespace My
open PySem L2
noncomputable abbrev Qx:List Str:=[Str.ofString "crossing",Str.ofString "many",Str.ofString "leasts",Str.ofString "mosts",Str.ofString "members",Str.ofString "sorts",Str.ofString "homes",Str.ofString "changes"]
noncomputable def sgF (c:Addr) (k:Nat) (le mo me so ho ch:Addr):List (Str × V):=[(Str.ofString "crossing",V.ref c),(Str.ofString "many",V.int k),(Str.ofString "leasts",V.ref le),(Str.ofString "mosts",V.ref mo),(Str.ofString "members",V.ref me),(Str.ofString "sorts",V.ref so),(Str.ofString "homes",V.ref ho),(Str.ofString "changes",V.ref ch)]
theorem Xs (c:Addr) (k:Nat) (le mo me so ho ch:Addr):(sgF c k le mo me so ho ch).map (·.1)=Qx:=rfl
noncomputable def Xt (ds:List WD) (r:ST):Str:=((r.mem.head?.bind (wOf ds)).map oj).getD (Str.ofString "")
noncomputable def stK (i j:Nat):List Key:=[Sum.inl (i:Int),Sum.inl (j:Int)]
noncomputable def El (n:Int) (ds:List WD) (rows:List ST) (i j:Nat) (kvs:List (List Key × V)):Prop:=kvs.length ≤ 6 * i + j∧∀ (a b:Nat) (r s:ST),rows[a]? = some r→rows[b]? = some s→a ≠ b→a < i∨(a=i∧b < j)→∃ v,nj kvs (stK a b)=some (.int v)∧fE (chL n ds r.mem s.mem) v
section
variable (P:Program) (w:World)
noncomputable def qe (t:Adr) (H:Hp) (a c:Addr) (n:Int) (ds:List WD) (rows:List ST):Prop:=∃ dx le mo me so ho ch ms kvs,H a=some (.ins t.kc dx (sgF c rows.length le mo me so ho ch))∧Nc t H c n ds∧H le=some (.lst (rows.map fun r=>V.int r.lo))∧H mo=some (.lst (rows.map fun r=>V.int r.hi))∧kn H me ms (rows.map (·.mem))∧H so=some (.lst (wb (rows.map (Xt ds))))∧H ho=some (.dK (ae (rows.map (·.mem))))∧Ur P w H ch kvs∧El n ds rows rows.length 0 kvs
noncomputable def KG (t:Adr):Sp:=fun vs H Q _=>∃ a dx c n ds p qs ms rows,vs=[.ref a,.ref c,.ref p]∧H a=some (.ins t.kc dx [])∧Nc t H c n ds∧0 < n∧JG ds∧ji H p qs ms rows∧RIn ds rows∧(∀ r ∈ rows,r.mem ≠ [])∧NoT H ∧
 ∀ H',Fc a H H'→NoT H'→qe P w t H' a c n ds rows→Q .non H'
end
theorem GH {a b i j:Nat} (h:stK a b=stK i j):a=i∧b=j:=by
 unfold stK at h
 simp at h
 omega
theorem El.nil (n:Int) (ds:List WD) (rows:List ST):El n ds rows 0 0 []:=⟨Nat.zero_le _,fun a b r s _ _ _ h=>by omega⟩
theorem El.skip {n:Int} {ds:List WD} {rows:List ST} {i:Nat} {kvs:List (List Key × V)} (h:El n ds rows i i kvs):El n ds rows i (i + 1) kvs:=⟨by have:=h.1;omega,fun a b r s hr hs hab hc=>h.2 a b r s hr hs hab (by omega)⟩
theorem El.next {n:Int} {ds:List WD} {rows:List ST} {i:Nat} {kvs:List (List Key × V)} (hl:rows.length ≤ 6) (h:El n ds rows i rows.length kvs):El n ds rows (i + 1) 0 kvs:=⟨by have:=h.1;omega,fun a b r s hr hs hab hc=>h.2 a b r s hr hs hab (by
 have:=(List.getElem?_eq_some_iff.mp hs).1
 omega)⟩
theorem MC (kvs:List (List Key × V)) (k:List Key) (v:V):(Cn kvs k v).length ≤ kvs.length + 1:=by
 unfold Cn
 split
 ·rw [List.length_map];omega
 ·rw [List.length_append];exact Nat.le_refl _
theorem El.put {n:Int} {ds:List WD} {rows:List ST} {i j:Nat} {kvs:List (List Key × V)} {r s:ST} {v:Int} (h:El n ds rows i j kvs) (hr:rows[i]? = some r) (hs:rows[j]? = some s) (hv:fE (chL n ds r.mem s.mem) v):El n ds rows i (j + 1) (Cn kvs (stK i j) (.int v)):=by
 refine ⟨by have:=h.1;have:=MC kvs (stK i j) (.int v);omega,fun a b r' s' hr' hs' hab hc=>?_⟩
 rw [Ly]
 by_cases c:stK a b=stK i j
 ·rw [if_pos c]
  obtain ⟨rfl,rfl⟩:=GH c
  rw [hr] at hr'
  rw [hs] at hs'
  cases hr'
  cases hs'
  exact ⟨v,rfl,hv⟩
 ·rw [if_neg c]
  exact h.2 a b r' s' hr' hs' hab (by
   rcases hc with z | ⟨z1,z2⟩
   ·exact .inl z
   ·by_cases z:b=j
    ·exact absurd (by rw [z1,z]) c
    ·exact .inr ⟨z1,by omega⟩)
theorem ji.sameA {H H':Hp} {a p C dx:Addr} {qs ms:List Addr} {rows:List ST} (h:ji H p qs ms rows) (s:Fc a H H') (ha:H a=some (.ins C dx [])):ji H' p qs ms rows:=by
 refine ⟨s _ _ (Xd h.at_ ha (by intro z;cases z)) h.at_,h.l1,h.l2,fun i q m r x y z=>?_⟩
 obtain ⟨e1,e2⟩:=h.al i q m r x y z
 exact ⟨s _ _ (Xd e1 ha (by intro z;cases z)) e1,s _ _ (Xd e2 ha (by intro z;cases z)) e2⟩
theorem mw {H:Hp} {p b C D dx dy:Addr} {x:Str × V} {fs:List (Str × V)} (hp:H p=some (.ins C dx [])) (hb:H b=some (.ins D dy (x :: fs))):b ≠ p:=fun z=>by
 subst z
 rw [hp] at hb
 cases hb
theorem vL {t:Adr} {H H':Hp} {p a C dx:Addr} {d:WD} (hp:H p=some (.ins C dx [])) (sx:Fc p H H') (h:ue t H a d):ue t H' a d:=by
 obtain ⟨h1,dy,e⟩:=h
 exact ⟨h1,dy,sx _ _ (mw hp e) e⟩
theorem xw {t:Adr} {H H':Hp} {p c C dx:Addr} {n:Int} {ds:List WD} (hp:H p=some (.ins C dx [])) (sx:Fc p H H') (h:Nc t H c n ds):Nc t H' c n ds:=by
 obtain ⟨h0,dy,wl,nd,e1,⟨as,w1,w2,w3⟩,e3⟩:=h
 exact ⟨h0,dy,wl,nd,sx _ _ (mw hp e1) e1,⟨as,sx _ _ (Xd w1 hp (by intro z;cases z)) w1,w2,fun i a d h1 h2=>vL hp sx (w3 i a d h1 h2)⟩,sx _ _ (Xd e3 hp (by intro z;cases z)) e3⟩
theorem kn.upd {H:Hp} {b p:Addr} {ms:List Addr} {mems:List (List Str)} {u o:HO} (h:kn H p ms mems) (hb:H b=some u) (hu:∀ xs,u ≠ .lst xs):kn (upd H b o) p ms mems:=by
 refine ⟨by rw [lb (Xd h.at_ hb (fun z=>hu _ z.symm))];exact h.at_,h.ln,fun i m x a c=>?_⟩
 have e:=h.al i m x a c
 rw [lb (Xd e hb (fun z=>hu _ z.symm))]
 exact e
section
variable {w:World} {K:PySem.W.Frag} {mg:Str→Option Value} {t:Adr} {H:Hp} {a c dx le mo me so ho ch:Addr} {k:Nat}
theorem Fp (T:Txt w K mg t) (e:H a=some (.ins t.kc dx (sgF c k le mo me so ho ch))):Oi K H a (Str.ofString "many") (.int k):=⟨_,dx,_,e,T.Yd,T.Lk,Dd Qx 1 (Xs ..) (by decide +kernel) rfl⟩
theorem Zm (T:Txt w K mg t) (e:H a=some (.ins t.kc dx (sgF c k le mo me so ho ch))):Oi K H a (Str.ofString "members") (.ref me):=⟨_,dx,_,e,T.Yd,T.Ff,Dd Qx 4 (Xs ..) (by decide +kernel) rfl⟩
theorem Zy (T:Txt w K mg t) (e:H a=some (.ins t.kc dx (sgF c k le mo me so ho ch))):Oi K H a (Str.ofString "changes") (.ref ch):=⟨_,dx,_,e,T.Yd,T.ri,Dd Qx 7 (Xs ..) (by decide +kernel) rfl⟩
end
section
variable {P:Program} {w:World} {K:PySem.W.Frag} {mg:Str→Option Value} {base:Heap} {t:Adr}
theorem AJ (T:Txt w K mg t):Jb P w K mg base CX0 5 t.vf t.Jg ["self","crossing","rows"] (KG P w t):=by
 have G_sort_of:Jb P w K mg base CX0 4 t.vj t.Tj ["crossing","name"] (Hx t):=(bC T).mono (by decide)
 have G_homes_in:Jb P w K mg base CX0 4 t.Mg t.Ng ["members"] Qo:=(Rt T).mono (by decide)
 have G_change_turns:Jb P w K mg base CX0 4 t.Uf t.Kf ["crossing","first","second"] (lv t):=WB T
 refine T.Km.ok uf (fun vs H Q E h=>?_) (fun cdv A outer s H vs Q E hr h=>?_)
 ·obtain ⟨a,dx,c,n,ds,p,qs,ms,rows,rfl,_⟩:=h;rfl
 obtain ⟨a,dx,c,n,ds,p,qs,ms,rows,rfl,ha,C,hn,hD,R,I,hne,nt,q⟩:=h
 have hu:=Iz hr
 have hnd:=C.1.1
 have hqn:(qs.map V.ref).length=rows.length:=by rw [List.length_map,R.l1]
 have hql:(qs.map V.ref).length ≤ sizeLine:=by rw [hqn];exact Nat.le_trans I.ln (by decide)
 refine ⟨_,(fb (Pe (pv 0) (pv 1) rfl)
   (fb (Pe (pv 0) (yc Ob rfl T.bi jc (cb (pv 2) gb)) rfl)
   (fb (Pe (pv 0) (zd rfl (Lc (pv 2)) (fc (sc:=jb Fe) rfl (by decide +kernel)) (N:=["least","most","members"]) (sel:=[none,none,none]) (Jc (M:=["self","crossing","rows","one","other"]) (by decide +kernel)) (Blk.of (fun _ _ _ _=>(kg (K:=K) (n:=3) rfl rfl (Sb (zb (i:=0) (ke (N:=["least","most","members"]) (by decide +kernel) rfl) rfl (Or.inl rfl) (.inr rfl)) (Sb (zb (i:=1) (ke (N:=["least","most","members"]) (by decide +kernel) rfl) rfl (Or.inl rfl) (.inr rfl)) (Sb (zb (i:=2) (ke (N:=["least","most","members"]) (by decide +kernel) rfl) rfl (Or.inl rfl) (.inr rfl)) vg))))) (fun _ _ _ _=>⟨_,Qd,by first | rfl | (dsimp only [Cx.block];done) | (dsimp only [Cx.block];exact rfl)⟩) (fun _ _ _ _=>⟨_,(pv 0),by first | rfl | (dsimp only [Cx.block];done) | (dsimp only [Cx.block];exact rfl)⟩))) rfl)
   (fb (Pe (pv 0) (zd rfl (Lc (pv 2)) (fc (sc:=jb Fe) rfl (by decide +kernel)) (N:=["least","most","members"]) (sel:=[none,none,none]) (Jc (M:=["self","crossing","rows","one","other"]) (by decide +kernel)) (Blk.of (fun _ _ _ _=>(kg (K:=K) (n:=3) rfl rfl (Sb (zb (i:=0) (ke (N:=["least","most","members"]) (by decide +kernel) rfl) rfl (Or.inl rfl) (.inr rfl)) (Sb (zb (i:=1) (ke (N:=["least","most","members"]) (by decide +kernel) rfl) rfl (Or.inl rfl) (.inr rfl)) (Sb (zb (i:=2) (ke (N:=["least","most","members"]) (by decide +kernel) rfl) rfl (Or.inl rfl) (.inr rfl)) vg))))) (fun _ _ _ _=>⟨_,Qd,by first | rfl | (dsimp only [Cx.block];done) | (dsimp only [Cx.block];exact rfl)⟩) (fun _ _ _ _=>⟨_,(pv 1),by first | rfl | (dsimp only [Cx.block];done) | (dsimp only [Cx.block];exact rfl)⟩))) rfl)
   (fb (Pe (pv 0) (zd rfl (Lc (pv 2)) (fc (sc:=jb Fe) rfl (by decide +kernel)) (N:=["least","most","members"]) (sel:=[none,none,none]) (Jc (M:=["self","crossing","rows","one","other"]) (by decide +kernel)) (Blk.of (fun _ _ _ _=>(kg (K:=K) (n:=3) rfl rfl (Sb (zb (i:=0) (ke (N:=["least","most","members"]) (by decide +kernel) rfl) rfl (Or.inl rfl) (.inr rfl)) (Sb (zb (i:=1) (ke (N:=["least","most","members"]) (by decide +kernel) rfl) rfl (Or.inl rfl) (.inr rfl)) (Sb (zb (i:=2) (ke (N:=["least","most","members"]) (by decide +kernel) rfl) rfl (Or.inl rfl) (.inr rfl)) vg))))) (fun _ _ _ _=>⟨_,Qd,by first | rfl | (dsimp only [Cx.block];done) | (dsimp only [Cx.block];exact rfl)⟩) (fun _ _ _ _=>⟨_,(pv 2),by first | rfl | (dsimp only [Cx.block];done) | (dsimp only [Cx.block];exact rfl)⟩))) rfl)
   (fb (Pe (pv 0) (zd rfl (Lc (pv 2)) (fc (sc:=jb Fe) rfl (by decide +kernel)) (N:=["least","most","members","crossing"]) (sel:=[none,none,none,some 1]) (Jc (M:=["self","crossing","rows","one","other"]) (by decide +kernel)) (Blk.of (fun _ _ _ _=>(kg (K:=K) (n:=3) rfl rfl (Sb (zb (i:=0) (ke (N:=["least","most","members","crossing"]) (by decide +kernel) rfl) rfl (Or.inl rfl) (.inr rfl)) (Sb (zb (i:=1) (ke (N:=["least","most","members","crossing"]) (by decide +kernel) rfl) rfl (Or.inl rfl) (.inr rfl)) (Sb (zb (i:=2) (ke (N:=["least","most","members","crossing"]) (by decide +kernel) rfl) rfl (Or.inl rfl) (.inr rfl)) vg))))) (fun _ _ _ _=>⟨_,Qd,by first | rfl | (dsimp only [Cx.block];done) | (dsimp only [Cx.block];exact rfl)⟩) (fun _ _ _ _=>⟨_,(xb G_sort_of hr rfl T.bq T.Ij.kp T.iq .nil Db (cb (pv 3) (cb (Gc xc (pv 2) qb (fun _ _=>rfl)) gb))),by first | rfl | (dsimp only [Cx.block];done) | (dsimp only [Cx.block];exact rfl)⟩))) rfl)
   (fb (Pe (pv 0) (xb G_homes_in hr rfl T.wn T.di.kp T.xn .nil Db (cb (Ac (pv 0) rfl) gb)) rfl)
   (fb (Pe (pv 0) OI rfl)
   (ib (Ge PassesOwn.never rfl (Me rfl T.Mh (cb (Ac (pv 0) rfl) gb)) (zb (i:=3) uf.nd rfl (Or.inl rfl)) (ib (Ge PassesOwn.never rfl (Me rfl T.Mh (cb (Ac (pv 0) rfl) gb)) (zb (i:=4) uf.nd rfl (Or.inl rfl)) (ib (Ie (dc tz (pv 3) (pv 4) (Zb _)) (ib (RH hu (Ac (pv 0) rfl) (Kv (cb (pv 3) (cb (pv 4) gb))) (xb G_change_turns hr rfl T.Bq T.Oh.kp T.Mq .nil Db (cb (pv 1) (cb (Gc xc (Ac (pv 0) rfl) (pv 3) (fun _ _=>rfl)) (cb (Gc xc (Ac (pv 0) rfl) (pv 4) (fun _ _=>rfl)) gb)))) rfl)) Kc)))))))))))))),?_⟩
 simp only [Cb]
 refine zzC (fun σ' H'=>Fc a H H'∧NoT H'∧H' a=some (.ins t.kc dx [(Str.ofString "crossing",V.ref c)])∧σ'=[some (.ref a),some (.ref c),some (.ref p),none,none]) (fun D' hD'=>?_) fun zzM zzh=>?_
 ·(walk_at "RD")
  exact ⟨_,_,_,ha,T.Yd,T.Sl,by decide,hD' _ _ ⟨fun b u hb e=>by rw [lb hb];exact e,nt.upd,db,rfl⟩⟩
 rintro σ1 H1 ⟨x1,n1,a1,rfl⟩
 have R1:=R.sameA x1 ha
 subst zzh
 simp only [Cb]
 refine zzC (fun σ' H'=>Fc a H H'∧NoT H'∧H' a=some (.ins t.kc dx [(Str.ofString "crossing",V.ref c),(Str.ofString "many",V.int (rows.length:Int))])∧σ'=[some (.ref a),some (.ref c),some (.ref p),none,none]) (fun D' hD'=>?_) fun zzM zzh=>?_
 ·(walk_at "RD")
  refine ⟨_,.inl (SqL.of R1.at_),_,_,_,a1,T.Yd,T.Lk,(show (1:Nat) < 1000 by decide),?_⟩
  rw [hqn,show og (Str.ofString "many") (V.int (rows.length:Int)) [(Str.ofString "crossing",V.ref c)]=[(Str.ofString "crossing",V.ref c),(Str.ofString "many",V.int (rows.length:Int))] from Ic [Str.ofString "crossing"] rfl (by decide +kernel)]
  exact hD' _ _ ⟨fun b u hb e=>by rw [lb hb];exact x1 _ _ hb e,n1.upd,db,rfl⟩
 rintro σ2 H2 ⟨x2,n2,a2,rfl⟩
 have R2:=R.sameA x2 ha
 subst zzh
 simp only [Cb]
 refine zzC (fun σ' H'=>Fc a H H'∧NoT H'∧∃ le,H' a=some (.ins t.kc dx [(Str.ofString "crossing",V.ref c),(Str.ofString "many",V.int (rows.length:Int)),(Str.ofString "leasts",V.ref le)])∧H' le=some (.lst (rows.map fun r=>V.int r.lo))∧σ'=[some (.ref a),some (.ref c),some (.ref p),none,none]) (fun D' hD'=>?_) fun zzM zzh=>?_
 ·(walk_at "RD")
  refine ⟨⟨_,SqL.of R2.at_⟩,?_⟩
  refine Xc.list_zs (xs:=qs.map V.ref) (zs:=rows.map fun r=>V.int r.lo) (SqL.of R2.at_) hql (by rw [hqn,List.length_map]) (fun j v z N hv hz hN=>?_) (fun pl hpl=>?_)
  ·obtain ⟨qj,hqj,rfl⟩:=Kb hv
   have hj:j < rows.length:=by rw [← R.l1];exact (List.getElem?_eq_some_iff.mp hqj).1
   have hmj:ms[j]? = some (ms[j]'(by rw [R.l2];exact hj)):=List.getElem?_eq_getElem _
   have hrj:rows[j]? = some rows[j]:=List.getElem?_eq_getElem hj
   obtain ⟨e,em⟩:=R2.al j qj _ _ hqj hmj hrj
   obtain ⟨r,hr',rfl⟩:=Kb hz
   rw [hrj] at hr'
   cases hr'
   (walk_at "RD")
   exact ⟨_,SqT.of e,rfl,_,_,rfl,_,_,rfl,_,_,rfl,rfl,Sub.name3,hN⟩
  ·have hpa:pl ≠ a:=fun z=>by rw [z,a2] at hpl;cases hpl
   refine ⟨_,_,_,(pb hpl) _ _ a2,T.Yd,T.ro,(show (2:Nat) < 1000 by decide),?_⟩
   rw [show og (Str.ofString "leasts") (V.ref pl) [(Str.ofString "crossing",V.ref c),(Str.ofString "many",V.int (rows.length:Int))]=[(Str.ofString "crossing",V.ref c),(Str.ofString "many",V.int (rows.length:Int)),(Str.ofString "leasts",V.ref pl)] from Ic [Str.ofString "crossing",Str.ofString "many"] rfl (by decide +kernel)]
   exact hD' _ _ ⟨fun b u hb e=>by rw [lb hb];exact (pb hpl) _ _ (x2 _ _ hb e),(n2.upd).upd,pl,db,by rw [lb hpa];exact db,rfl⟩
 rintro σ3 H3 ⟨x3,n3,le,a3,f3,rfl⟩
 have hle:le ≠ a:=Xd f3 a3 (by intro z;cases z)
 have R3:=R.sameA x3 ha
 subst zzh
 simp only [Cb]
 refine zzC (fun σ' H'=>Fc a H H'∧NoT H'∧∃ mo,H' a=some (.ins t.kc dx [(Str.ofString "crossing",V.ref c),(Str.ofString "many",V.int (rows.length:Int)),(Str.ofString "leasts",V.ref le),(Str.ofString "mosts",V.ref mo)])∧H' le=some (.lst (rows.map fun r=>V.int r.lo))∧H' mo=some (.lst (rows.map fun r=>V.int r.hi))∧σ'=[some (.ref a),some (.ref c),some (.ref p),none,none]) (fun D' hD'=>?_) fun zzM zzh=>?_
 ·(walk_at "RD")
  refine ⟨⟨_,SqL.of R3.at_⟩,?_⟩
  refine Xc.list_zs (xs:=qs.map V.ref) (zs:=rows.map fun r=>V.int r.hi) (SqL.of R3.at_) hql (by rw [hqn,List.length_map]) (fun j v z N hv hz hN=>?_) (fun pl hpl=>?_)
  ·obtain ⟨qj,hqj,rfl⟩:=Kb hv
   have hj:j < rows.length:=by rw [← R.l1];exact (List.getElem?_eq_some_iff.mp hqj).1
   have hmj:ms[j]? = some (ms[j]'(by rw [R.l2];exact hj)):=List.getElem?_eq_getElem _
   have hrj:rows[j]? = some rows[j]:=List.getElem?_eq_getElem hj
   obtain ⟨e,em⟩:=R3.al j qj _ _ hqj hmj hrj
   obtain ⟨r,hr',rfl⟩:=Kb hz
   rw [hrj] at hr'
   cases hr'
   (walk_at "RD")
   exact ⟨_,SqT.of e,rfl,_,_,rfl,_,_,rfl,_,_,rfl,rfl,Sub.name3,hN⟩
  ·have hpa:pl ≠ a:=fun z=>by rw [z,a3] at hpl;cases hpl
   refine ⟨_,_,_,(pb hpl) _ _ a3,T.Yd,T.rq,(show (3:Nat) < 1000 by decide),?_⟩
   rw [show og (Str.ofString "mosts") (V.ref pl) [(Str.ofString "crossing",V.ref c),(Str.ofString "many",V.int (rows.length:Int)),(Str.ofString "leasts",V.ref le)]=[(Str.ofString "crossing",V.ref c),(Str.ofString "many",V.int (rows.length:Int)),(Str.ofString "leasts",V.ref le),(Str.ofString "mosts",V.ref pl)] from Ic [Str.ofString "crossing",Str.ofString "many",Str.ofString "leasts"] rfl (by decide +kernel)]
   exact hD' _ _ ⟨fun b u hb e=>by rw [lb hb];exact (pb hpl) _ _ (x3 _ _ hb e),(n3.upd).upd,pl,db,by rw [lb hle];exact (pb hpl) _ _ f3,by rw [lb hpa];exact db,rfl⟩
 rintro σ4 H4 ⟨x4,n4,mo,a4,f4,g4,rfl⟩
 have hmo:mo ≠ a:=Xd g4 a4 (by intro z;cases z)
 have R4:=R.sameA x4 ha
 subst zzh
 simp only [Cb]
 refine zzC (fun σ' H'=>Fc a H H'∧NoT H'∧∃ me,H' a=some (.ins t.kc dx [(Str.ofString "crossing",V.ref c),(Str.ofString "many",V.int (rows.length:Int)),(Str.ofString "leasts",V.ref le),(Str.ofString "mosts",V.ref mo),(Str.ofString "members",V.ref me)])∧H' le=some (.lst (rows.map fun r=>V.int r.lo))∧H' mo=some (.lst (rows.map fun r=>V.int r.hi))∧H' me=some (.lst (ms.map V.ref))∧σ'=[some (.ref a),some (.ref c),some (.ref p),none,none]) (fun D' hD'=>?_) fun zzM zzh=>?_
 ·(walk_at "RD")
  refine ⟨⟨_,SqL.of R4.at_⟩,?_⟩
  refine Xc.list_zs (xs:=qs.map V.ref) (zs:=ms.map V.ref) (SqL.of R4.at_) hql (by rw [hqn,List.length_map,R.l2]) (fun j v z N hv hz hN=>?_) (fun pl hpl=>?_)
  ·obtain ⟨qj,hqj,rfl⟩:=Kb hv
   have hj:j < rows.length:=by rw [← R.l1];exact (List.getElem?_eq_some_iff.mp hqj).1
   have hmj:ms[j]? = some (ms[j]'(by rw [R.l2];exact hj)):=List.getElem?_eq_getElem _
   have hrj:rows[j]? = some rows[j]:=List.getElem?_eq_getElem hj
   obtain ⟨e,em⟩:=R4.al j qj _ _ hqj hmj hrj
   obtain ⟨m',hm',rfl⟩:=Kb hz
   rw [hmj] at hm'
   cases hm'
   (walk_at "RD")
   exact ⟨_,SqT.of e,rfl,_,_,rfl,_,_,rfl,_,_,rfl,rfl,Sub.name3,hN⟩
  ·have hpa:pl ≠ a:=fun z=>by rw [z,a4] at hpl;cases hpl
   refine ⟨_,_,_,(pb hpl) _ _ a4,T.Yd,T.Ff,(show (4:Nat) < 1000 by decide),?_⟩
   rw [show og (Str.ofString "members") (V.ref pl) [(Str.ofString "crossing",V.ref c),(Str.ofString "many",V.int (rows.length:Int)),(Str.ofString "leasts",V.ref le),(Str.ofString "mosts",V.ref mo)]=[(Str.ofString "crossing",V.ref c),(Str.ofString "many",V.int (rows.length:Int)),(Str.ofString "leasts",V.ref le),(Str.ofString "mosts",V.ref mo),(Str.ofString "members",V.ref pl)] from Ic [Str.ofString "crossing",Str.ofString "many",Str.ofString "leasts",Str.ofString "mosts"] rfl (by decide +kernel)]
   exact hD' _ _ ⟨fun b u hb e=>by rw [lb hb];exact (pb hpl) _ _ (x4 _ _ hb e),(n4.upd).upd,pl,db,by rw [lb hle];exact (pb hpl) _ _ f4,by rw [lb hmo];exact (pb hpl) _ _ g4,by rw [lb hpa];exact db,rfl⟩
 rintro σ5 H5 ⟨x5,n5,me,a5,f5,g5,h5,rfl⟩
 have hme:me ≠ a:=Xd h5 a5 (by intro z;cases z)
 have C5:=xw ha x5 C
 have R5:=R.sameA x5 ha
 subst zzh
 simp only [Cb]
 refine zzC (fun σ' H'=>Fc a H H'∧NoT H'∧∃ so,H' a=some (.ins t.kc dx [(Str.ofString "crossing",V.ref c),(Str.ofString "many",V.int (rows.length:Int)),(Str.ofString "leasts",V.ref le),(Str.ofString "mosts",V.ref mo),(Str.ofString "members",V.ref me),(Str.ofString "sorts",V.ref so)])∧H' le=some (.lst (rows.map fun r=>V.int r.lo))∧H' mo=some (.lst (rows.map fun r=>V.int r.hi))∧H' me=some (.lst (ms.map V.ref))∧H' so=some (.lst (wb (rows.map (Xt ds))))∧σ'=[some (.ref a),some (.ref c),some (.ref p),none,none]) (fun D' hD'=>?_) fun zzM zzh=>?_
 ·(walk_at "RD")
  refine ⟨⟨_,SqL.of R5.at_⟩,?_⟩
  refine Xc.list_zs (xs:=qs.map V.ref) (zs:=wb (rows.map (Xt ds))) (SqL.of R5.at_) hql (by rw [hqn,Nb,List.length_map]) (fun j v z N hv hz hN=>?_) (fun pl hpl=>?_)
  ·obtain ⟨qj,hqj,rfl⟩:=Kb hv
   have hj:j < rows.length:=by rw [← R.l1];exact (List.getElem?_eq_some_iff.mp hqj).1
   have hmj:ms[j]? = some (ms[j]'(by rw [R.l2];exact hj)):=List.getElem?_eq_getElem _
   have hrj:rows[j]? = some rows[j]:=List.getElem?_eq_getElem hj
   obtain ⟨e,em⟩:=R5.al j qj _ _ hqj hmj hrj
   unfold wb at hz
   obtain ⟨y,hy,rfl⟩:=Kb hz
   obtain ⟨r,hr',rfl⟩:=Kb hy
   rw [hrj] at hr'
   cases hr'
   obtain ⟨nm,mr,hmem⟩:=List.exists_cons_of_ne_nil (hne _ (List.mem_of_getElem? hrj))
   obtain ⟨d,hd,hdn⟩:=I.inn _ (List.mem_of_getElem? hrj) nm (by rw [hmem];exact List.mem_cons_self ..)
   obtain ⟨i,hi⟩:=List.getElem?_of_mem hd
   have hsr:Xt ds rows[j]=oj d:=by
    unfold Xt
    rw [hmem]
    show ((wOf ds nm).map oj).getD _=_
    rw [← hdn,cj hnd hi]
    rfl
   rw [hsr] at hN
   rw [hmem] at em
   (walk_at "RD")
   exact ⟨_,SqT.of e,rfl,_,_,rfl,_,_,rfl,_,_,rfl,rfl,Sub.name3,_,rfl,_,SqL.of em,_,Eb (j:=0) rfl,c,n,ds,i,d,by rw [hdn],C5,hi,(hD d hd).2.1,hN⟩
  ·have hpa:pl ≠ a:=fun z=>by rw [z,a5] at hpl;cases hpl
   refine ⟨_,_,_,(pb hpl) _ _ a5,T.Yd,T.Op,(show (5:Nat) < 1000 by decide),?_⟩
   rw [show og (Str.ofString "sorts") (V.ref pl) [(Str.ofString "crossing",V.ref c),(Str.ofString "many",V.int (rows.length:Int)),(Str.ofString "leasts",V.ref le),(Str.ofString "mosts",V.ref mo),(Str.ofString "members",V.ref me)]=[(Str.ofString "crossing",V.ref c),(Str.ofString "many",V.int (rows.length:Int)),(Str.ofString "leasts",V.ref le),(Str.ofString "mosts",V.ref mo),(Str.ofString "members",V.ref me),(Str.ofString "sorts",V.ref pl)] from Ic [Str.ofString "crossing",Str.ofString "many",Str.ofString "leasts",Str.ofString "mosts",Str.ofString "members"] rfl (by decide +kernel)]
   exact hD' _ _ ⟨fun b u hb e=>by rw [lb hb];exact (pb hpl) _ _ (x5 _ _ hb e),(n5.upd).upd,pl,db,by rw [lb hle];exact (pb hpl) _ _ f5,by rw [lb hmo];exact (pb hpl) _ _ g5,by rw [lb hme];exact (pb hpl) _ _ h5,by rw [lb hpa];exact db,rfl⟩
 rintro σ6 H6 ⟨x6,n6,so,a6,f6,g6,h6,k6,rfl⟩
 have hso:so ≠ a:=Xd k6 a6 (by intro z;cases z)
 have R6:=R.sameA x6 ha
 have M6:kn H6 me ms (rows.map (·.mem)):=⟨h6,by rw [R.l2,List.length_map],fun i m x hm hx=>by
  obtain ⟨r,hr',rfl⟩:=Kb hx
  have hqi:qs[i]? = some (qs[i]'(by rw [R.l1];exact (List.getElem?_eq_some_iff.mp hr').1)):=List.getElem?_eq_getElem _
  exact (R6.al i _ m r hqi hm hr').2⟩
 subst zzh
 simp only [Cb]
 refine zzC (fun σ' H'=>Fc a H H'∧NoT H'∧∃ ho,H' a=some (.ins t.kc dx [(Str.ofString "crossing",V.ref c),(Str.ofString "many",V.int (rows.length:Int)),(Str.ofString "leasts",V.ref le),(Str.ofString "mosts",V.ref mo),(Str.ofString "members",V.ref me),(Str.ofString "sorts",V.ref so),(Str.ofString "homes",V.ref ho)])∧H' le=some (.lst (rows.map fun r=>V.int r.lo))∧H' mo=some (.lst (rows.map fun r=>V.int r.hi))∧kn H' me ms (rows.map (·.mem))∧H' so=some (.lst (wb (rows.map (Xt ds))))∧H' ho=some (.dK (ae (rows.map (·.mem))))∧σ'=[some (.ref a),some (.ref c),some (.ref p),none,none]) (fun D' hD'=>?_) fun zzM zzh=>?_
 ·(walk_at "RD")
  refine ⟨_,⟨_,dx,_,a6,T.Yd,T.Ff,Dd [Str.ofString "crossing",Str.ofString "many",Str.ofString "leasts",Str.ofString "mosts",Str.ofString "members",Str.ofString "sorts"] 4 rfl (by decide +kernel) rfl⟩,me,ms,rows.map (·.mem),rfl,M6,by rw [List.length_map];exact I.ln,fun x hx=>?_,fun h H1 s1 n1' hh h1=>?_⟩
  ·obtain ⟨r,hr',rfl⟩:=List.mem_map.mp hx
   exact I.ml r hr'
  ·have hha:h ≠ a:=Xd h1 (s1 _ _ a6) (by intro z;cases z)
   refine ⟨_,_,_,s1 _ _ a6,T.Yd,T.bp,(show (6:Nat) < 1000 by decide),?_⟩
   rw [show og (Str.ofString "homes") (V.ref h) [(Str.ofString "crossing",V.ref c),(Str.ofString "many",V.int (rows.length:Int)),(Str.ofString "leasts",V.ref le),(Str.ofString "mosts",V.ref mo),(Str.ofString "members",V.ref me),(Str.ofString "sorts",V.ref so)]=[(Str.ofString "crossing",V.ref c),(Str.ofString "many",V.int (rows.length:Int)),(Str.ofString "leasts",V.ref le),(Str.ofString "mosts",V.ref mo),(Str.ofString "members",V.ref me),(Str.ofString "sorts",V.ref so),(Str.ofString "homes",V.ref h)] from Ic [Str.ofString "crossing",Str.ofString "many",Str.ofString "leasts",Str.ofString "mosts",Str.ofString "members",Str.ofString "sorts"] rfl (by decide +kernel)]
   exact hD' _ _ ⟨fun b u hb e=>by rw [lb hb];exact s1 _ _ (x6 _ _ hb e),(n1' n6).upd,h,db,by rw [lb hle];exact s1 _ _ f6,by rw [lb hmo];exact s1 _ _ g6,(M6.same s1).upd (s1 _ _ a6) (by intro xs z;cases z),by rw [lb hso];exact s1 _ _ k6,by rw [lb hha];exact h1,rfl⟩
 rintro σ7 H7 ⟨x7,n7,ho,a7,f7,g7,h7,k7,l7,rfl⟩
 subst zzh
 simp only [Cb]
 refine zzC (fun σ' H'=>Fc a H H'∧NoT H'∧∃ ch,H ch=none∧H' a=some (.ins t.kc dx (sgF c rows.length le mo me so ho ch))∧H' le=some (.lst (rows.map fun r=>V.int r.lo))∧H' mo=some (.lst (rows.map fun r=>V.int r.hi))∧kn H' me ms (rows.map (·.mem))∧H' so=some (.lst (wb (rows.map (Xt ds))))∧H' ho=some (.dK (ae (rows.map (·.mem))))∧Ur P w H' ch []∧(ch ≠ a∧ch ≠ le∧ch ≠ mo∧ch ≠ me∧ch ≠ so∧ch ≠ ho∧ch ∉ ms)∧σ'=[some (.ref a),some (.ref c),some (.ref p),none,none]) (fun D' hD'=>?_) fun zzM zzh=>?_
 ·(walk_at "RD")
  intro ch o hch hD0
  have hca:ch ≠ a:=fun z=>by rw [z,a7] at hch;cases hch
  have hcH:H ch=none:=by
   cases e:H ch with
   | none=>rfl
   | some u=>rw [x7 _ _ hca e] at hch;cases hch
  have nel:∀ {b:Addr} {u:HO},H7 b=some u→ch ≠ b:=fun e z=>by rw [← z,hch] at e;cases e
  have hcm:ch ∉ ms:=fun z=>by
   obtain ⟨i,hi⟩:=List.getElem?_of_mem z
   have hil:i < (rows.map (·.mem)).length:=by rw [← h7.ln];exact (List.getElem?_eq_some_iff.mp hi).1
   exact nel (h7.al i ch _ hi (List.getElem?_eq_getElem hil)) rfl
  have sC:ac H7 (upd H7 ch (.ext (AtO ch o))):=pb hch
  refine ⟨_,_,_,sC _ _ a7,T.Yd,T.ri,(show (7:Nat) < 1000 by decide),?_⟩
  rw [show og (Str.ofString "changes") (V.ref ch) [(Str.ofString "crossing",V.ref c),(Str.ofString "many",V.int (rows.length:Int)),(Str.ofString "leasts",V.ref le),(Str.ofString "mosts",V.ref mo),(Str.ofString "members",V.ref me),(Str.ofString "sorts",V.ref so),(Str.ofString "homes",V.ref ho)]=sgF c rows.length le mo me so ho ch from Ic [Str.ofString "crossing",Str.ofString "many",Str.ofString "leasts",Str.ofString "mosts",Str.ofString "members",Str.ofString "sorts",Str.ofString "homes"] rfl (by decide +kernel)]
  have hha:ho ≠ a:=Xd l7 a7 (by intro z;cases z)
  exact hD' _ _ ⟨fun b u hb e=>by rw [lb hb];exact sC _ _ (x7 _ _ hb e),(n7.upd).upd,ch,hcH,db,by rw [lb hle];exact sC _ _ f7,by rw [lb hmo];exact sC _ _ g7,(h7.same sC).upd (sC _ _ a7) (by intro xs z;cases z),by rw [lb hso];exact sC _ _ k7,by rw [lb hha];exact sC _ _ l7,dF hD0 (Ne.symm hca) (fun xs z=>by rw [sC _ _ a7] at z;cases z),⟨hca,nel f7,nel g7,nel h7.at_,nel k7,nel l7,hcm⟩,rfl⟩
 rintro σ8 H8 ⟨x8,n8,ch,hch,a8,f8,g8,h8,k8,l8,D8,hcc,rfl⟩
 subst zzh
 (walk_at "RD")
 have hrl:=I.ln
 refine ⟨_,Fp T a8,_,rfl,by omega,by omega,?_⟩
 rw [Int.toNat_natCast]
 refine kj.range (fun i σ H'=>(∃ x y,σ=[some (.ref a),some (.ref c),some (.ref p),x,y])∧Fc a H H'∧NoT H'∧H' a=some (.ins t.kc dx (sgF c rows.length le mo me so ho ch))∧H' le=some (.lst (rows.map fun r=>V.int r.lo))∧H' mo=some (.lst (rows.map fun r=>V.int r.hi))∧kn H' me ms (rows.map (·.mem))∧H' so=some (.lst (wb (rows.map (Xt ds))))∧H' ho=some (.dK (ae (rows.map (·.mem))))∧∃ kvs,Ur P w H' ch kvs∧El n ds rows i 0 kvs) ⟨⟨_,_,rfl⟩,x8,n8,a8,f8,g8,h8,k8,l8,[],D8,El.nil n ds rows⟩ ?_ ?_
 ·rintro i σ H' hi ⟨⟨x,y,rfl⟩,x9,n9,a9,f9,g9,h9,k9,l9,kvs,D9,K9⟩
  have hri:rows[i]? = some rows[i]:=List.getElem?_eq_getElem hi
  have hmi:ms[i]? = some (ms[i]'(by rw [R.l2];exact hi)):=List.getElem?_eq_getElem _
  (walk_at "RD")
  refine ⟨_,Fp T a9,_,rfl,by omega,by omega,?_⟩
  rw [Int.toNat_natCast]
  refine kj.range (fun j σ H2=>(∃ y,σ=[some (.ref a),some (.ref c),some (.ref p),some (.int (i:Int)),y])∧Fc a H H2∧NoT H2∧H2 a=some (.ins t.kc dx (sgF c rows.length le mo me so ho ch))∧H2 le=some (.lst (rows.map fun r=>V.int r.lo))∧H2 mo=some (.lst (rows.map fun r=>V.int r.hi))∧kn H2 me ms (rows.map (·.mem))∧H2 so=some (.lst (wb (rows.map (Xt ds))))∧H2 ho=some (.dK (ae (rows.map (·.mem))))∧∃ kvs,Ur P w H2 ch kvs∧El n ds rows i j kvs) ⟨⟨_,rfl⟩,x9,n9,a9,f9,g9,h9,k9,l9,kvs,D9,K9⟩ ?_ ?_
  ·rintro j σ H2 hj ⟨⟨y,rfl⟩,x10,n10,a10,f10,g10,h10,k10,l10,kvs,D10,K10⟩
   have hrj:rows[j]? = some rows[j]:=List.getElem?_eq_getElem hj
   have hmj:ms[j]? = some (ms[j]'(by rw [R.l2];exact hj)):=List.getElem?_eq_getElem _
   have emi:=h10.al i _ _ hmi (by rw [List.getElem?_map,hri];rfl)
   have emj:=h10.al j _ _ hmj (by rw [List.getElem?_map,hrj];rfl)
   have ai:=Eb (xs:=ms.map V.ref) (j:=i) (by rw [List.getElem?_map,hmi];rfl)
   have aj:=Eb (xs:=ms.map V.ref) (j:=j) (by rw [List.getElem?_map,hmj];rfl)
   simp only [De,List.set_cons_succ,List.set_cons_zero,Int.zero_add]
   by_cases hij:i=j
   ·refine ic false (fun Q hQ=>?_) (fun z=>nomatch z) (fun _=>?_)
    ·(walk_at "RD")
     rw [decide_eq_true (by omega)]
     exact hQ
    ·simp only [re]
     subst hij
     exact ⟨⟨_,rfl⟩,x10,n10,a10,f10,g10,h10,k10,l10,kvs,D10,K10.skip⟩
   ·refine ic true (fun Q hQ=>?_) (fun _=>?_) (fun z=>nomatch z)
    ·(walk_at "RD")
     rw [decide_eq_false (by omega)]
     exact hQ
    ·(walk_at "RD")
     obtain ⟨hca,cle,cmo,cme,cso,cho,cms⟩:=hcc
     refine ⟨_,Zm T a10,_,rfl,_,SqL.of h10.at_,_,ai,_,Zm T a10,_,rfl,_,SqL.of h10.at_,_,aj,c,n,ds,_,_,_,_,rfl,xw ha x10 C,hn,hD,emi,emj,I.inn _ (List.mem_of_getElem? hri),I.inn _ (List.mem_of_getElem? hrj),I.ml _ (List.mem_of_getElem? hri),I.ml _ (List.mem_of_getElem? hrj),n10,fun v hv=>?_⟩
     refine ⟨_,Zy T a10,by decide,fun tp htp=>⟨ch,rfl,kvs,Bv D10 (pb htp),stK i j,(show upd H2 tp (.tup [V.int (i:Int),V.int (j:Int)]) tp=some (HO.tup [V.int (i:Int),V.int (j:Int)]) from db),Nat.lt_of_le_of_lt (show kvs.length ≤ 100 by have:=K10.1;omega) (by decide),fun o hD2=>?_⟩⟩
     have sT:ac H2 (upd H2 tp (.tup [V.int (i:Int),V.int (j:Int)])):=pb htp
     refine ⟨⟨_,rfl⟩,fun b u hb e=>by rw [lb (vb e hch)];exact sT _ _ (x10 _ _ hb e),(n10.upd).upd,by rw [lb (Ne.symm hca)];exact sT _ _ a10,by rw [lb (Ne.symm cle)];exact sT _ _ f10,by rw [lb (Ne.symm cmo)];exact sT _ _ g10,⟨by rw [lb (Ne.symm cme)];exact sT _ _ h10.at_,h10.ln,fun k m x hm hx=>by rw [lb (fun z=>cms (by rw [← z];exact List.mem_of_getElem? hm))];exact sT _ _ (h10.al k m x hm hx)⟩,by rw [lb (Ne.symm cso)];exact sT _ _ k10,by rw [lb (Ne.symm cho)];exact sT _ _ l10,_,hD2,K10.put hri hrj hv⟩
  ·rintro σ H2 ⟨⟨y,rfl⟩,x10,n10,a10,f10,g10,h10,k10,l10,kvs,D10,K10⟩
   exact ⟨⟨_,_,rfl⟩,x10,n10,a10,f10,g10,h10,k10,l10,kvs,D10,K10.next hrl⟩
 ·rintro σ H' ⟨⟨x,y,rfl⟩,x9,n9,a9,f9,g9,h9,k9,l9,kvs,D9,K9⟩
  exact q _ x9 n9 ⟨dx,le,mo,me,so,ho,ch,ms,kvs,a9,xw ha x9 C,f9,g9,h9,k9,l9,D9,K9⟩
end
end My
namespace My
open PySem L2
noncomputable def rj (ds:List WD):List (List Str)→Nat→List ST→Except (Nat × Nat) (List ST)
 | [],_,rows=>.ok rows
 | ws :: r,i,rows=>if rows.length=6 then .error (i,0) else match Jm ds rows ws with
  | .error k=>.error (i,k)
  | .ok s=>rj ds r (i + 1) (rows ++ [s])
section
variable (P:Program) (w:World)
noncomputable def RC (t:Adr) (c:Addr) (n:Int) (ds:List WD) (rows:List ST) (H:Hp) (Q:VK) (E:XK):Prop:=
 ((Ze ds rows).head? = none→Fk ds rows=none→Ul n ds rows=none→∀ a H',ac H H'→NoT H'→qe P w t H' a c n ds rows→Q (.ref a) H') ∧
 (∀ x,(Ze ds rows).head? = some x→iA t.Md [(Str.ofString "way",.str x)] H E) ∧
 (∀ e,(Ze ds rows).head? = none→Fk ds rows=some e→iA t.vd [(Str.ofString "way",.str e.1.name),(Str.ofString "at",.int e.2)] H E) ∧
 (∀ e,(Ze ds rows).head? = none→Fk ds rows=none→Ul n ds rows=some e→iA t.ud [(Str.ofString "way",.str e.1),(Str.ofString "other",.str e.2.1),(Str.ofString "at",.int e.2.2)] H E)
noncomputable def aH (t:Adr):Sp:=fun vs H Q E=>∃ c n ds x,vs=[.ref c,.str x]∧Nc t H c n ds∧0 < n∧JG ds∧(∀ d ∈ ds,d.name ≠ Str.ofString "")∧x.length ≤ 20000∧(fe x).length ≤ 100∧(∀ r ∈ fe x,r ≠ []∧r.length ≤ 1000∧∀ y ∈ r,y.length ≤ 1000)∧NoT H ∧
 Oc2 (rj ds (fe x) 0 []) (fun rows=>RC P w t c n ds rows H Q E) (fun i k=>lM t i k H E)
end
theorem YH {ds:List WD} {left ws ms:List Str} (h:Qz ds left ws=.ok ms):ms ≠ []∧ms.Nodup∧∀ x ∈ ms,x ∈ left:=by
 unfold Qz at h
 split at h
 ·rename_i hin
  obtain ⟨h1,⟨more,h2⟩,h3⟩:=dC h (by simp)
  refine ⟨by rw [h2];simp,h1,fun x hx=>?_⟩
  rcases h3 x hx with z | z
  ·rw [List.mem_singleton.mp z];exact hin
  ·exact (List.mem_filter.mp z).1
 ·cases h
theorem Zu {ds:List WD} {rows:List ST} {ws:List Str} {s:ST} (h:Jm ds rows ws=.ok s):s.mem ≠ []∧s.mem.Nodup∧∀ x ∈ s.mem,x ∈ Ze ds rows:=by
 unfold Jm at h
 split at h
 ·cases e1:cx (wd ws 1) 1 60 with
  | none=>rw [e1] at h;cases h
  | some lo=>
   rw [e1] at h
   replace h:((cx (wd ws 2) lo 60).elim (.error 2) fun hi=>match Qz ds (Ze ds rows) ws with | .error k=>.error k | .ok ms=>.ok (⟨lo,hi,ms⟩:ST))=Except.ok s:=h
   cases e2:cx (wd ws 2) lo 60 with
   | none=>rw [e2] at h;cases h
   | some hi=>
    rw [e2] at h
    replace h:(match Qz ds (Ze ds rows) ws with | .error k=>.error k | .ok ms=>.ok (⟨lo,hi,ms⟩:ST))=Except.ok s:=h
    cases e3:Qz ds (Ze ds rows) ws with
    | error k=>rw [e3] at h;cases h
    | ok ms=>
     rw [e3] at h
     replace h:Except.ok (⟨lo,hi,ms⟩:ST)=Except.ok (ε:=Nat) s:=h
     cases h
     exact YH e3
 ·cases h
theorem RIn.snoc {ds:List WD} {rows:List ST} (I:RIn ds rows) (hl:ds.length ≤ 12) (h6:rows.length ≠ 6) {ws:List Str} {s:ST} (h:Jm ds rows ws=.ok s):RIn ds (rows ++ [s])∧s.mem.length ≤ 12:=by
 obtain ⟨h1,h2,h3⟩:=Zu h
 have h12:s.mem.length ≤ 12:=by
  have:=yv h2 h3
  have h4:(Ze ds rows).length ≤ ds.length:=by
   unfold Ze
   exact Nat.le_trans (List.length_filter_le ..) (by rw [List.length_map];exact Nat.le_refl _)
  omega
 refine ⟨⟨?_,fun r hr=>?_,fun r hr x hx=>?_⟩,h12⟩
 ·have:=I.ln
  rw [List.length_append]
  show rows.length + 1 ≤ 6
  omega
 ·rcases List.mem_append.mp hr with z | z
  ·exact I.ml r z
  ·rw [List.mem_singleton.mp z];exact h12
 ·rcases List.mem_append.mp hr with z | z
  ·exact I.inn r z x hx
  ·rw [List.mem_singleton.mp z] at hx
   obtain ⟨d,hd,e⟩:=List.mem_map.mp (List.mem_filter.mp (h3 x hx)).1
   exact ⟨d,hd,e⟩
theorem Sn {xs:List Str} {qs:List Addr} (h:xs ≠ []):wb xs ≠ qs.map V.ref:=fun e=>by
 obtain ⟨y,r,rfl⟩:=List.exists_cons_of_ne_nil h
 cases qs with
 | nil=>cases e
 | cons a b=>injection e with e1 _;cases e1
theorem ji.snoc {H:Hp} {p x m:Addr} {qs ms:List Addr} {rows:List ST} {s:ST} (R:ji H p qs ms rows) (hx:H x=some (stO s m)) (hm:H m=some (.lst (wb s.mem))) (hne:∀ r ∈ rows,r.mem ≠ []) (hs:s.mem ≠ []):ji (upd H p (.lst (qs.map V.ref ++ [V.ref x]))) p (qs ++ [x]) (ms ++ [m]) (rows ++ [s]):=by
 have kt:∀ {b:Addr} {xs:List V},H b=some (.tup xs)→upd H p (.lst (qs.map V.ref ++ [V.ref x])) b=some (.tup xs):=fun e=>by rw [lb (Xd e R.at_ (by intro z;cases z))];exact e
 have kl:∀ {b:Addr} {xs:List Str},H b=some (.lst (wb xs))→xs ≠ []→upd H p (.lst (qs.map V.ref ++ [V.ref x])) b=some (.lst (wb xs)):=fun e h=>by
  rw [lb (Xd e R.at_ (fun z=>by injection z with z;exact Sn h z))]
  exact e
 refine ⟨by rw [db,List.map_append];rfl,by rw [List.length_append,List.length_append,R.l1];rfl,by rw [List.length_append,List.length_append,R.l2];rfl,fun i q m' r a b c=>?_⟩
 have l1:=R.l1
 have l2:=R.l2
 rcases lg c with ⟨c1,c2⟩ | ⟨c1,rfl⟩
 ·rcases lg a with ⟨_,a2⟩ | ⟨a1,_⟩
  ·rcases lg b with ⟨_,b2⟩ | ⟨b1,_⟩
   ·obtain ⟨e1,e2⟩:=R.al i q m' r a2 b2 c2
    exact ⟨kt e1,kl e2 (hne r (List.mem_of_getElem? c2))⟩
   ·omega
  ·omega
 ·rcases lg a with ⟨a1,_⟩ | ⟨_,rfl⟩
  ·omega
  ·rcases lg b with ⟨b1,_⟩ | ⟨_,rfl⟩
   ·omega
   ·exact ⟨kt hx,kl hm hs⟩
section
variable {P:Program} {w:World} {K:PySem.W.Frag} {mg:Str→Option Value} {base:Heap} {t:Adr}
theorem pI (T:Txt w K mg t):Jb P w K mg base (CX1 P w) 8 t.tf t.Cf ["crossing","text"] (aH P w t):=by
 have G_readers:Jb P w K mg base CX0 7 t.Dj t.Yj ["text"] (Tm t):=(Bs T).mono (by decide)
 have GX_RowReader_refuse:Jb P w K mg base (CX1 P w) 7 t.Zc t.Bd ["self"] (Sw t):=(rA T).mono (by decide)
 have GX_read_stage:Jb P w K mg base (CX1 P w) 7 t.xh t.uh ["reader","crossing","rows"] (Zx t):=NF T
 have GX_refuse_never:Jb P w K mg base (CX1 P w) 7 t.Xf t.Wf ["crossing","rows"] (fw t):=(ZA T).mono (by decide)
 have GX_refuse_short:Jb P w K mg base (CX1 P w) 7 t.Nf t.Pf ["crossing","rows"] (av t):=(CC T).mono (by decide)
 have GX_refuse_clash:Jb P w K mg base (CX1 P w) 7 t.Of t.Sf ["crossing","rows"] (bw t):=(dD T).mono (by decide)
 have G_Stages_init:Jb P w K mg base CX0 6 t.vf t.Jg ["self","crossing","rows"] (KG P w t):=(AJ T).mono (by decide)
 refine T.Ti.okX Lh (fun vs H Q E h=>?_) (fun cdv A outer s H vs Q E hr h=>?_)
 ·obtain ⟨c,n,ds,x,rfl,_⟩:=h;rfl
 obtain ⟨c,n,ds,x,rfl,C,hn,hD,hne,hxl,hrl,hall,nt,qq⟩:=h
 have hk3:∀ d ∈ ds,d.k < 3∧d.name ≠ Str.ofString "" := fun d hd=>⟨(hD d hd).2.1,hne d hd⟩
 refine ⟨_,(fb (Hb (i:=2) Lh.nd rfl (Or.inl rfl) (ve gb))
   (fb (Ge (Jf ⟨rfl,rfl⟩) rfl (Lc (xb G_readers hr rfl T.Xv T.Ql.kp T.Pu .nil Db (cb (pv 1) gb))) (zb (i:=3) Lh.nd rfl (Or.inl rfl)) (fb (Ie (dc xg (yc Ob rfl T.bi jc (cb (pv 2) gb)) (Hf rfl T.ft T.Ss) (Zb _)) (ib (Ub (Wd (pv 3) T.ub T.Ah GX_RowReader_refuse hr T.Ih .nil af))) Kc)
   (ib (Ub (rg PySem.F.plainAttrs_list PySem.F.slot_list_append PySem.F.type_list_append ge (pv 2) (cb (xb GX_read_stage hr rfl T.Zv T.Qj.kp T.iw .nil af (cb (pv 3) (cb (pv 0) (cb (pv 2) gb)))) gb))))))
   (fb (Ub (xb GX_refuse_never hr rfl T.jr T.Qh.kp T.Xq .nil af (cb (pv 0) (cb (pv 2) gb))))
   (fb (Ub (xb GX_refuse_short hr rfl T.Jq T.Sh.kp T.Gq .nil af (cb (pv 0) (cb (pv 2) gb))))
   (fb (Ub (xb GX_refuse_clash hr rfl T.dr T.Nh.kp T.pr .nil af (cb (pv 0) (cb (pv 2) gb))))
   (ib (Lb (bn T.xE G_Stages_init hr rfl T.aE T.fu .nil Db (cb (pv 0) (cb (pv 2) gb)))))))))),?_⟩
 have toC:∀ {i k:Nat} {q:Addr} {H1:Hp},lM t i k H E→ac H H1→H q=none→NoT H1→Sv t i k q H1 E:=fun {i k q H1} r s n m dx H' s' n' e=>r dx H' (Lg s s' n) (n' m) e
 simp only [Cb]
 refine zzC (fun σ' H'=>ac H H'∧NoT H'∧∃ rl,H rl=none∧H' rl=some (.lst [])∧σ'=[some (.ref c),some (.str x),some (.ref rl),none]) (fun D' hD'=>?_) fun zzM zzh=>?_
 ·(walk_at "RD")
  exact ⟨Nat.zero_le _,fun rl hrl=>hD' _ _ ⟨pb hrl,nt.upd,rl,hrl,db,rfl⟩⟩
 rintro σ1 H1 ⟨s1,n1,rl,hrl',w1,rfl⟩
 subst zzh
 generalize hW0:rj ds (fe x) 0 []=W0 at qq
 simp only [Cb]
 refine Rb (fun σ' H'=>ac H H'∧NoT H'∧(∃ qs ms rows,ji H' rl qs ms rows∧RIn ds rows∧(∀ r ∈ rows,r.mem ≠ [])∧Except.ok rows=W0)∧∃ x3,σ'=[some (.ref c),some (.str x),some (.ref rl),x3]) (fun D' hD' hrt _ _=>?_) ?_
 ·(walk_at "RD")
  refine ⟨x,rfl,hxl,fun r hr=>(hall r hr).2,n1,fun p H2 sm2 nt2 RR=>?_⟩
  obtain ⟨qr,hp,hp0,hql,hqa⟩:=RR
  refine ⟨p,rfl,⟨_,SqL.of hp⟩,?_⟩
  have hprl:p ≠ rl:=fun z=>by rw [z,w1] at hp0;cases hp0
  refine kj.list (xs:=qr.map V.ref) (fun i σ H'=>(∃ y,σ=[some (.ref c),some (.str x),some (.ref rl),y])∧NoT H'∧ac H H'∧H' p=some (.lst (qr.map V.ref)) ∧
   (∃ qs ms rows,ji H' rl qs ms rows∧RIn ds rows∧(∀ r ∈ rows,r.mem ≠ [])∧rj ds ((fe x).drop i) i rows=W0) ∧
   ∀ (j:Nat) (q:Addr) (r:List Str),i ≤ j→qr[j]? = some q→(fe x)[j]? = some r→Ce t H' q ((j:Nat):Int) r 0∧H q=none) ?_ ?_ ?_ ?_
  ·refine ⟨⟨_,rfl⟩,nt2,s1.trans sm2,hp,⟨[],[],[],⟨sm2 _ _ w1,rfl,rfl,fun i q m r h=>by simp at h⟩,⟨Nat.zero_le _,fun r h=>by simp at h,fun r h=>by simp at h⟩,fun r h=>by simp at h,hW0⟩,fun j q r _ h1 h2=>?_⟩
   obtain ⟨Rj,hqj⟩:=hqa j q r h1 h2
   exact ⟨Rj,s1.free hqj⟩
  ·rintro i σ H' hi ⟨_,_,_,h,_⟩
   exact SqL.of h
  ·rintro i v σ H' hv ⟨⟨y,rfl⟩,nt',sm',hp',⟨qs,ms,rows,R',I',hme,hwp⟩,Rs⟩
   obtain ⟨q,hq,rfl⟩:=Kb hv
   obtain ⟨hi,_⟩:=List.getElem?_eq_some_iff.mp hq
   have hid:i < (fe x).length:=by omega
   have hr:(fe x)[i]? = some (fe x)[i]:=List.getElem?_eq_getElem hid
   obtain ⟨Rq,hqn⟩:=Rs i q _ (Nat.le_refl _) hq hr
   obtain ⟨_,dq,tq,hqi,hqt⟩:=id Rq
   rw [List.drop_eq_getElem_cons hid] at hwp
   unfold rj at hwp
   simp only [De,Cb,List.set_cons_succ,List.set_cons_zero]
   refine zzC (fun σ' H3=>H3=H'∧rows.length ≠ 6∧σ'=[some (.ref c),some (.str x),some (.ref rl),some (.ref q)]) (fun D2 hD2=>?_) fun zzM zzh=>?_
   ·refine ic (decide (rows.length=6)) (fun Q' hQ=>?_) (fun hb=>?_) (fun hb=>?_)
    ·(walk_at "RD")
     refine ⟨_,.inl (SqL.of R'.at_),?_⟩
     rw [List.length_map,R'.l1]
     rw [show decide ((rows.length:Int)=6)=decide (rows.length=6) from decide_eq_decide.mpr (by omega)]
     exact hQ
    ·have hb:=of_decide_eq_true hb
     rw [if_pos hb] at hwp
     subst hwp
     (walk_at "RD")
     exact ⟨_,_,hqi,Ce.no _ _ _ (by decide +kernel),⟨q,_,_,0,rfl,Rq,by omega,by omega,toC qq sm' hqn nt'⟩⟩
    ·simp only [re]
     exact hD2 _ _ ⟨rfl,of_decide_eq_false hb,rfl⟩
   rintro σ3 H3 ⟨rfl,h6,rfl⟩
   subst zzh
   rw [if_neg h6] at hwp
   (walk_at "RD")
   refine ⟨.inl ⟨_,SqL.of R'.at_⟩,q,_,(fe x)[i],c,n,ds,rl,qs,ms,rows,rfl,Rq,by omega,C.same sm',hk3,R',I'.ln,I'.ml,nt',?_⟩
   cases ew:Jm ds rows (fe x)[i] with
   | error k=>
    rw [ew] at hwp
    replace hwp:Except.error (i,k)=W0:=hwp
    subst hwp
    exact toC qq sm' hqn nt'
   | ok s=>
    rw [ew] at hwp
    replace hwp:rj ds ((fe x).drop (i + 1)) (i + 1) (rows ++ [s])=W0:=hwp
    intro x' m H4 s4 nt4 hx4 hm4 hx3 hm3
    have hs0:=(Zu ew).1
    have R4:=R'.sameR s4 Rq
    have hsm4:ac H H4:=Lg sm' s4 hqn
    have hRI:=I'.snoc C.1.2 h6 ew
    have hl4:=I'.ln
    refine ⟨_,R4.at_,Nat.lt_of_le_of_lt (show (qs.map V.ref).length ≤ 6 by rw [List.length_map,R4.l1];exact hl4) (by decide),⟨_,rfl⟩,nt4.upd,hsm4.updN hrl',by rw [lb hprl];exact s4 _ _ (Xd hp' hqi (by intro z;cases z)) hp',⟨qs ++ [x'],ms ++ [m],rows ++ [s],R4.snoc hx4 hm4 hme hs0,hRI.1,fun r hr'=>?_,hwp⟩,fun j q' r hj h1 h2=>?_⟩
    ·rcases List.mem_append.mp hr' with z | z
     ·exact hme r z
     ·rw [List.mem_singleton.mp z];exact hs0
    ·obtain ⟨Rj,hqj⟩:=Rs j q' r (by omega) h1 h2
     have R5:=Rj.sameX s4 (WI Rj Rq (by omega)) Rq.ins
     refine ⟨?_,hqj⟩
     obtain ⟨hz,dx',ta,e1,e2⟩:=R5
     exact ⟨hz,dx',ta,by rw [lb (Xd e1 R4.at_ (by intro z;cases z))];exact e1,by rw [lb (Xd e2 R4.at_ (fun z=>by injection z with z;exact Sn (hall r (List.mem_of_getElem? h2)).1 z))];exact e2⟩
  ·rintro σ H' ⟨⟨y,rfl⟩,nt',sm',hp',⟨qs,ms,rows,R',I',hme,hwp⟩,Rs⟩
   rw [List.length_map,hql,List.drop_length] at hwp
   exact hD' _ _ ⟨sm',nt',⟨qs,ms,rows,R',I',hme,hwp⟩,_,rfl⟩
 rintro σ2 H2 ⟨s2,n2,⟨qs,ms,rows,R2,I2,hme,hW⟩,x3,rfl⟩
 subst hW
 replace qq:RC P w t c n ds rows H Q E:=qq
 have C2:=C.same s2
 (walk_at "RD")
 refine ⟨c,n,ds,rl,qs,ms,rows,rfl,C2,hD,R2,I2,?_⟩
 cases hN:(Ze ds rows).head? with
 | some y=>exact (qq.2.1 y hN).step s2 fun _=>n2
 | none=>
 intro H3 s3 n3'
 have n3:=n3' n2
 have s23:=s2.trans s3
 have hle:Ze ds rows=[]:=List.head?_eq_none_iff.mp hN
 refine ⟨c,n,ds,rl,qs,ms,rows,rfl,C2.same s3,hD,R2.same s3,I2,hle,?_⟩
 cases hS:Fk ds rows with
 | some e=>exact (qq.2.2.1 e hN hS).step s23 fun _=>n3
 | none=>
 intro H4 s4 n4'
 have n4:=n4' n3
 have s24:=s23.trans s4
 refine ⟨c,n,ds,rl,qs,ms,rows,rfl,C.same s24,hn,hD,(R2.same s3).same s4,I2,n4,?_⟩
 cases hC:Ul n ds rows with
 | some e=>exact (qq.2.2.2 e hN hS hC).step s24 fun _=>n4
 | none=>
 intro H5 s5 n5' a dx ha hdx hne'
 have n5:=n5' n4
 have s25:=s24.trans s5
 have sc:ac H5 (upd (upd H5 dx (.own a)) a (.ins t.kc dx [])):=((ac.refl H5).updN hdx).updN ha
 refine ⟨a,dx,c,n,ds,rl,qs,ms,rows,rfl,db,(C.same s25).same sc,hn,hD,(((R2.same s3).same s4).same s5).same sc,I2,hme,(n5.upd).upd,fun H6 s6 n6 SA=>⟨rfl,?_⟩⟩
 exact qq.1 hN hS hC a H6 (Lg (s25.trans sc) s6 (s25.free ha)) n6 SA
end
end My
namespace My
open PySem L2
noncomputable def oy (K:PySem.W.Frag):Sp:=fun vs H Q _=>∃ (a:Addr) (ns:List Int) (k m:Int),vs=[.ref a,.int k,.int m]∧ns.length ≤ 63∧SqL K H a (ns.map V.int)∧(0 ≤ k∧k < 1000000)∧0 < m∧Q (.int (jg ns k m)) H
section
variable {P:Program} {w:World} {K:PySem.W.Frag} {mg:Str→Option Value} {base:Heap} {t:Adr}
theorem JE (T:Txt w K mg t):Jb P w K mg base CX0 1 t.Ue t.Ve ["_law_script","_law_k","_law_many"] (oy K):=by
 refine T.Ab.ok Xe (fun vs H Q E h=>?_) (fun cdv A outer s H vs Q E hr h=>?_)
 ·obtain ⟨a,ns,k,m,rfl,_⟩:=h;rfl
 obtain ⟨a,ns,k,m,rfl,h63,S,⟨h0,h1⟩,hm,q⟩:=h
 refine ⟨_,(fb (Hb (i:=3) Xe.nd rfl (Or.inl rfl) (Qs (dc zx (yc Ob rfl T.bi jc (cb (pv 0) gb)) qb (Zb _)) (Gc xc (pv 0) (Mb xf (pv 1) (yc Ob rfl T.bi jc (cb (pv 0) gb))) (fun _ _=>rfl)) qb))
   (fb (Hb (i:=4) Xe.nd rfl (Or.inl rfl) (Mb Vc (Mb Vc (Mb xf (pv 3) qb) (Mb Yg (Mb Yg qb (pv 1)) (pv 1))) qb))
   (ib (Lb (Mb xf (Mb xf (Mb Yg (Mb xf (Mb Yg (pv 4) qb) qb) qb) qb) (pv 2)))))),?_⟩
 (walk_at "RD")
 refine ⟨_,.inl S,?_⟩
 rw [List.length_map]
 have hkk:(0:Int) ≤ k * k∧k * k < 1000000 * 1000000:=⟨Int.mul_nonneg h0 h0,Int.mul_lt_mul' (by omega) h1 h0 (by decide)⟩
 have fin:∀ i:Int,(0:Int) < 1000003∧EB 31 k∧EB (31 * k) k∧EB (i % 1000003 + 31 * k * k + 1) 48271∧(0:Int) < 999983∧EB ((i % 1000003 + 31 * k * k + 1) * 48271 % 999983) 7919∧(0:Int) < 524287∧0 < m:=by
  intro i
  refine ⟨by decide,.inl (by decide),.inr (by omega),.inr (by decide),by decide,.inr (by decide),by decide,hm⟩
 by_cases c:(0:Int) < (ns.length:Int)
 ·rw [if_pos (decide_eq_true c)]
  have hk:0 ≤ k % (ns.length:Int)∧k % (ns.length:Int) < (ns.length:Int):=⟨Int.emod_nonneg _ (by omega),Int.emod_lt_of_pos _ c⟩
  refine ⟨_,.inl S,by rw [List.length_map];exact c,_,S,?_⟩
  rw [List.length_map]
  have hj:(k % (ns.length:Int)).toNat < ns.length:=by omega
  refine ⟨.int ns[(k % (ns.length:Int)).toNat],?_,_,rfl,?_⟩
  ·have e:=Eb (xs:=ns.map V.int) (j:=(k % (ns.length:Int)).toNat) (v:=.int ns[(k % (ns.length:Int)).toNat]) (by rw [List.getElem?_map,List.getElem?_eq_getElem hj] <;> rfl)
   rwa [Int.toNat_of_nonneg hk.1] at e
  ·obtain ⟨f1,f2,f3,f4,f5,f6,f7,f8⟩:=fin ns[(k % (ns.length:Int)).toNat]
   refine ⟨f1,f2,f3,f4,f5,f6,f7,f8,?_⟩
   have e:jg ns k m=(((ns[(k % (ns.length:Int)).toNat] % 1000003 + 31 * k * k + 1) * 48271 % 999983 * 7919) % 524287) % m:=by
    unfold jg
    rw [if_pos c,List.getD_eq_getElem?_getD,List.getElem?_eq_getElem hj]
    rfl
   rw [← e];exact q
 ·rw [if_neg (by simpa using c)]
  obtain ⟨f1,f2,f3,f4,f5,f6,f7,f8⟩:=fin 0
  refine ⟨f1,f2,f3,f4,f5,f6,f7,f8,?_⟩
  have e:jg ns k m=(((0 % 1000003 + 31 * k * k + 1) * 48271 % 999983 * 7919) % 524287) % m:=by
   unfold jg
   rw [if_neg c]
  rw [← e];exact q
end
noncomputable def ins {α:Type} (l:List α) (i:Nat) (a:α):List α:=l.take i ++ a :: l.drop i
theorem Dl {α:Type} {l:List α} {i:Nat} {a:α} (hi:i ≤ l.length) (j:Nat):(ins l i a)[j]? = if j < i then l[j]? else if j=i then some a else l[j - 1]?:=by
 unfold ins
 have ht:(l.take i).length=i:=by rw [List.length_take];omega
 by_cases h1:j < i
 ·rw [if_pos h1,List.getElem?_append_left (by omega),List.getElem?_take_of_lt h1]
 ·rw [if_neg h1,List.getElem?_append_right (by omega),ht]
  by_cases h2:j=i
  ·subst h2;rw [if_pos rfl];simp
  ·rw [if_neg h2,show j - i=(j - 1 - i) + 1 by omega,List.getElem?_cons_succ,List.getElem?_drop,show i + (j - 1 - i)=j - 1 by omega]
theorem qC {α:Type} {l:List α} {i:Nat} {a:α} (hi:i ≤ l.length):(ins l i a).length=l.length + 1:=by
 unfold ins
 rw [List.length_append,List.length_cons,List.length_take,List.length_drop];omega
theorem FB {α:Type} {l:List α} {i:Nat} {a:α} (h:l.Nodup) (n:a ∉ l):(ins l i a).Nodup:=by
 unfold ins
 rw [(List.perm_middle).nodup_iff,List.nodup_cons,List.take_append_drop]
 exact ⟨n,h⟩
theorem Pg {α:Type} {l:List α} {i:Nat} {a x:α} (h:x ∈ ins l i a):x=a∨x ∈ l:=by
 unfold ins at h
 rcases List.mem_append.mp h with z | z
 ·exact .inr (List.mem_of_mem_take z)
 ·rcases List.mem_cons.mp z with z | z
  ·exact .inl z
  ·exact .inr (List.mem_of_mem_drop z)
theorem aD {α β:Type} (f:α→β) (l:List α) (i:Nat) (a:α):(ins l i a).map f=ins (l.map f) i (f a):=by
 unfold ins
 rw [List.map_append,List.map_cons,List.map_take,List.map_drop]
theorem jv (x:Str) {a b:Nat} (hab:a ≤ b) (hb:b ≤ x.cps.toList.length):(Txt.slice x (some (a:Int)) (some (b:Int))).cps.toList=(x.cps.toList.drop a).take (b - a):=by
 have hx:x.length=x.cps.toList.length:=by simp [Str.length]
 have e:=StrLaws.sliceText_nat x hab (by rw [hx];exact hb)
 rw [show Txt.slice x (some (a:Int)) (some (b:Int))=StrLaws.sliceText x (some (a:Int)) (some (b:Int)) from rfl,e]
theorem vt (x:Str) {b:Nat} (hb:b ≤ x.cps.toList.length):(Txt.slice x none (some (b:Int))).cps.toList=x.cps.toList.take b:=by
 have:Txt.slice x none (some (b:Int))=Txt.slice x (some ((0:Nat):Int)) (some (b:Int)):=by
  show StrLaws.sliceText x none (some (b:Int))=StrLaws.sliceText x (some ((0:Nat):Int)) (some (b:Int))
  unfold StrLaws.sliceText
  rw [StrLaws.sliceIdx_none_lo];rfl
 rw [this,jv x (Nat.zero_le _) hb,List.drop_zero,Nat.sub_zero]
theorem fz (x:Str) {a:Nat} (ha:a ≤ x.cps.toList.length):(Txt.slice x (some (a:Int)) none).cps.toList=x.cps.toList.drop a:=by
 have hx:x.length=x.cps.toList.length:=by simp [Str.length]
 have:Txt.slice x (some (a:Int)) none=Txt.slice x (some (a:Int)) (some ((x.cps.toList.length:Nat):Int)):=by
  show StrLaws.sliceText x (some (a:Int)) none=StrLaws.sliceText x (some (a:Int)) (some ((x.cps.toList.length:Nat):Int))
  unfold StrLaws.sliceText
  rw [StrLaws.sliceIdx_none_hi,← hx]
 rw [this,jv x ha (Nat.le_refl _)]
 exact List.take_of_length_le (by rw [List.length_drop];exact Nat.le_refl _)
noncomputable def nmA (l:List Nat) (k:Nat):List Nat:=l.take (k + 1)
noncomputable def nmZ (l:List Nat) (at_ f k:Nat):List Nat:=l.take at_ ++ [97 + (f + k) % 26] ++ l.drop (at_ + 1)
noncomputable def nmC (l:List Nat) (f k j:Nat):List Nat:=[97 + (f + k) % 26] ++ l.take j
theorem mD {l:List Nat} (hl:l.length=8) (al:∀ c ∈ l,97 ≤ c∧c ≤ 122) {k:Nat} (hk:k < 8):(nmA l k).length=k + 1∧∀ c ∈ nmA l k,97 ≤ c∧c ≤ 122:=by
 unfold nmA
 exact ⟨by rw [List.length_take];omega,fun c hc=>al c (List.mem_of_mem_take hc)⟩
theorem CK {l:List Nat} (hl:l.length=8) (al:∀ c ∈ l,97 ≤ c∧c ≤ 122) {a f k:Nat} (ha:a < 8):(nmZ l a f k).length=8∧∀ c ∈ nmZ l a f k,97 ≤ c∧c ≤ 122:=by
 unfold nmZ
 refine ⟨by rw [List.length_append,List.length_append,List.length_take,List.length_drop,List.length_singleton];omega,fun c hc=>?_⟩
 rcases List.mem_append.mp hc with hc | hc
 ·rcases List.mem_append.mp hc with hc | hc
  ·exact al c (List.mem_of_mem_take hc)
  ·rw [List.mem_singleton.mp hc];omega
 ·exact al c (List.mem_of_mem_drop hc)
theorem FK {l:List Nat} (hl:l.length=8) (al:∀ c ∈ l,97 ≤ c∧c ≤ 122) {f k j:Nat} (hj:j < 8):(1 ≤ (nmC l f k j).length∧(nmC l f k j).length ≤ 8)∧∀ c ∈ nmC l f k j,97 ≤ c∧c ≤ 122:=by
 unfold nmC
 refine ⟨by rw [List.length_append,List.length_take,List.length_singleton];omega,fun c hc=>?_⟩
 rcases List.mem_append.mp hc with hc | hc
 ·rw [List.mem_singleton.mp hc];omega
 ·exact al c (List.mem_of_mem_take hc)
theorem jH {l:List Nat} (hl:l.length=8) {a f i j:Nat} (ha:a < 8) (hi:i < 8) (hj:j < 8) (e:nmZ l a f i=nmZ l a f j):i=j:=by
 have h1:∀ k,(nmZ l a f k)[a]? = some (97 + (f + k) % 26):=fun k=>by
  unfold nmZ
  rw [List.append_assoc,List.getElem?_append_right (by rw [List.length_take];omega),List.length_take,show a - min a l.length=0 by omega]
  rfl
 have h2:=h1 i
 rw [e,h1 j] at h2
 have:=Option.some.inj h2
 omega
theorem cI {l:List Nat} {f i j u v:Nat} (hi:i < 8) (hj:j < 8) (e:nmC l f i u=nmC l f j v):i=j:=by
 unfold nmC at e
 have:=(List.cons.inj e).1
 omega
theorem xJ {xs:List V} {k:Nat} (h:k ≤ xs.length):Jx xs none (some ((k:Nat):Int))=xs.take k:=by
 unfold Jx
 rw [HT.sIx_nat,Nat.min_eq_left h,HT.sIx_none]
 simp
noncomputable def six:List Str:=[Str.ofString "stage",Str.ofString "tram",Str.ofString "car",Str.ofString "foot",Str.ofString "ring",Str.ofString "free"]
theorem JI {x:Str} {l:List Nat} (e:x.cps.toList=l) (h0:1 ≤ l.length) (h1:l.length ≤ 8) (al:∀ c ∈ l,97 ≤ c∧c ≤ 122):made x Wg 8=true:=by
 have hx:x.length=x.cps.toList.length:=by simp [Str.length]
 exact mv (by rw [hx,e];exact h0) (by rw [hx,e];exact h1) (by rw [e];exact al)
noncomputable def Nms (m:Nat) (xs:List Str):Prop:=xs.length=m∧xs.Nodup∧∀ x ∈ xs,made x Wg 8=true
theorem OG {i:Int} (h0:0 ≤ i) (h1:i < 26):∃ c:Nat,atI (Str.ofString "abcdefghijklmnopqrstuvwxyz").cps.toList i=some c∧c=97 + i.toNat:=by
 have:∀ k,k < 26→atI (Str.ofString "abcdefghijklmnopqrstuvwxyz").cps.toList ((k:Nat):Int)=some (97 + k):=by decide +kernel
 refine ⟨97 + i.toNat,?_,rfl⟩
 have e:=this i.toNat (by omega)
 rwa [Int.toNat_of_nonneg h0] at e
theorem FJ:∀ ys:List Str,(Str.join ⟨#[]⟩ ys).cps.toList=(ys.map (·.cps.toList)).flatten
 | []=>rfl
 | [a]=>by
  show a.cps.toList=_
  simp
 | a :: b :: r=>by
  show (a ++ ⟨#[]⟩ ++ Str.join ⟨#[]⟩ (b :: r)).cps.toList=_
  rw [Str.cps_append,Array.toList_append,Str.cps_append,Array.toList_append,FJ (b :: r)]
  simp
theorem Js (f:Nat→Nat) (n:Nat):(Txt.join (Str.ofString "") ((List.range n).map fun i=>ku (f i))).cps.toList=(List.range n).map f:=by
 rw [show Txt.join (Str.ofString "") ((List.range n).map fun i=>ku (f i))=Str.join ⟨#[]⟩ ((List.range n).map fun i=>ku (f i)) from StrLaws.glued_eq_join _ _,FJ,List.map_map]
 have:((fun x:Str=>x.cps.toList) ∘ fun i=>ku (f i))=fun i=>[f i]:=rfl
 rw [this]
 induction (List.range n) with
 | nil=>rfl
 | cons a l ih=>rw [List.map_cons,List.flatten_cons,ih];rfl
theorem IK:∀ m,m < 7→(six.take m).length=m∧(six.take m).Nodup∧∀ x ∈ six.take m,made x Wg 8=true:=by decide +kernel
noncomputable def gv (K:PySem.W.Frag) (a:Addr) (ns:List Int):Sp:=fun vs H Q _=>∃ m:Nat,vs=[.ref a,.int m]∧Sc K a ns H∧(1 ≤ m∧m ≤ 8)∧∀ p xs H',ac H H'→Sc K a ns H'→H p=none→H' p=some (.lst (wb xs))→Nms m xs→Q (.ref p) H'
section
variable {P:Program} {w:World} {K:PySem.W.Frag} {mg:Str→Option Value} {base:Heap} {t:Adr}
theorem MB (T:Txt w K mg t) (a:Addr) (ns:List Int) (h63:ns.length ≤ 63):Jb P w K mg base CX0 2 t.jh t.vh ["_law_script","_law_many"] (gv K a ns):=by
 have G__law_draw:Jb P w K mg base CX0 1 t.Ue t.Ve ["_law_script","_law_k","_law_many"] (Be K a ns):=OB T a ns h63
 refine T.Nj.ok Ed (fun vs H Q E h=>?_) (fun cdv A outer s H vs Q E hr h=>?_)
 ·obtain ⟨m,rfl,_⟩:=h;rfl
 obtain ⟨m,rfl,S,hm,q⟩:=h
 have hL:(Str.ofString "abcdefghijklmnopqrstuvwxyz").length=26:=by decide +kernel
 refine ⟨_,(fb (Hb (i:=2) Ed.nd rfl (Or.inr rfl) zc)
   (fb (Hb (i:=3) Ed.nd rfl (Or.inl rfl) (rg PySem.F.plainAttrs_str PySem.F.slot_str_join PySem.F.type_str_join zp zc (cb (zd rfl (Me rfl T.Mh (cb qb gb)) (fc (sc:=jb tj) rfl (by decide +kernel)) (N:=["_law_k","_law_letters","_law_script"]) (sel:=[none,some 2,some 0]) (Jc (M:=["_law_script","_law_many","_law_letters","_law_base","_law_way","_law_at","_law_names_here","_law_k","_law_sign"]) (by decide +kernel)) (Blk.of (fun _ _ _ _=>(zb (i:=0) (ke (N:=["_law_k","_law_letters","_law_script"]) (by decide +kernel) rfl) rfl (Or.inl rfl))) (fun _ _ _ _=>⟨_,Qd,by first | rfl | (dsimp only [Cx.block];done) | (dsimp only [Cx.block];exact rfl)⟩) (fun _ _ _ _=>⟨_,(Gc uD (pv 1) (xb G__law_draw hr rfl T.Gb T.Ab.kp T.Fb .nil Db (cb (pv 2) (cb (Mb Vc qb (pv 0)) (cb qb gb)))) (fun _ _=>rfl)),by first | rfl | (dsimp only [Cx.block];done) | (dsimp only [Cx.block];exact rfl)⟩))) gb)))
   (fb (Hb (i:=4) Ed.nd rfl (Or.inl rfl) (xb G__law_draw hr rfl T.Gb T.Ab.kp T.Fb .nil Db (cb (pv 0) (cb qb (cb qb gb)))))
   (fb (Hb (i:=5) Ed.nd rfl (Or.inl rfl) (xb G__law_draw hr rfl T.Gb T.Ab.kp T.Fb .nil Db (cb (pv 0) (cb qb (cb qb gb)))))
   (fb (Hb (i:=6) Ed.nd rfl (Or.inl rfl) (ve gb))
   (fb (Ie (PW.pt (Mu (dc xg (xb G__law_draw hr rfl T.Gb T.Ab.kp T.Fb .nil Db (cb (pv 0) (cb qb (cb qb gb)))) qb (Zb _)) (gq (dc du (pv 1) qb (Zb _))))) (ib (Lb (gh Lx (ve (cb zc (cb zc (cb zc (cb zc (cb zc (cb zc gb))))))) jk (Mj (pv 1))))) Kc)
   (fb (Ge PassesOwn.never rfl (Me rfl T.Mh (cb (pv 1) gb)) (zb (i:=7) Ed.nd rfl (Or.inl rfl)) (fb (Hb (i:=8) Ed.nd rfl (Or.inl rfl) (Gc uD (pv 2) (Mb xf (Mb Vc (xb G__law_draw hr rfl T.Gb T.Ab.kp T.Fb .nil Db (cb (pv 0) (cb qb (cb qb gb)))) (pv 7)) qb) (fun _ _=>rfl)))
   (ib (Ie (dc xg (pv 4) qb (Zb _)) (ib (Ub (rg PySem.F.plainAttrs_list PySem.F.slot_list_append PySem.F.type_list_append ge (pv 6) (cb (Mb ld (Mb ld (gh yy (pv 3) jk (Mj (pv 5))) (pv 8)) (gh yy (pv 3) (Mj (Mb Vc (pv 5) qb)) jk)) gb)))) (ib (Ie (PW.pt (Mu (dc xg (pv 4) qb (Zb _)) (gq (dc du (pv 1) qb (Zb _))))) (ib (Ub (rg PySem.F.plainAttrs_list PySem.F.slot_list_append PySem.F.type_list_append ge (pv 6) (cb (gh yy (pv 3) jk (Mj (Mb Vc (pv 7) qb))) gb)))) (ib (Ub (rg PySem.F.plainAttrs_list PySem.F.slot_list_append PySem.F.type_list_append ge (pv 6) (cb (Mb ld (pv 8) (gh yy (pv 3) jk (Mj (xb G__law_draw hr rfl T.Gb T.Ab.kp T.Fb .nil Db (cb (pv 0) (cb (Mb Vc qb (pv 7)) (cb qb gb))))))) gb))))))))))
   (ib (Lb (pv 6)))))))))),?_⟩
 simp only [Cb]
 refine zzC (fun σ' H'=>H'=H∧σ'=[some (.ref a),some (.int m),some (.str (Str.ofString "abcdefghijklmnopqrstuvwxyz")),none,none,none,none,none,none]) (fun D' hD=>?_) fun zzM zzh=>?_
 ·(walk_at "RD")
  exact hD _ _ ⟨rfl,rfl⟩
 rintro σ1 H1 ⟨rfl,rfl⟩
 subst zzh
 simp only [Cb]
 refine zzC (fun σ' H'=>ac H1 H'∧Sc K a ns H'∧∃ wd:Str,wd.cps.toList.length=8∧(∀ c ∈ wd.cps.toList,97 ≤ c∧c ≤ 122)∧σ'=[some (.ref a),some (.int m),some (.str (Str.ofString "abcdefghijklmnopqrstuvwxyz")),some (.str wd),none,none,none,none,none]) (fun D' hD=>?_) fun zzM zzh=>?_
 ·(walk_at "RD")
  refine ⟨by decide,by decide,?_⟩
  refine Xc.range_map (n:=8) (fun i=>V.str (ku (97 + (jg ns (300 + (i:Int)) 26).toNat))) (by decide) (fun i N hi hN=>?_) (fun p hp=>?_)
  ·have d1:=Nd ns (300 + (i:Int)) (m:=26) (by decide)
   have d2:=Kd ns (300 + (i:Int)) (m:=26) (by decide)
   obtain ⟨c,hc,rfl⟩:=OG d1 d2
   (walk_at "RD"; repeat (simp only [Be];walk_at "RD"))
   exact ⟨Sub.name,S,by omega,by omega,by decide,by rw [hL];decide,_,hc,hN⟩
  ·have e:(List.range 8).map (fun i:Nat=>V.str (ku (97 + (jg ns (300 + (i:Int)) 26).toNat)))=wb ((List.range 8).map fun i:Nat=>ku (97 + (jg ns (300 + (i:Int)) 26).toNat)):=by unfold wb;rw [List.map_map];rfl
   refine ⟨p,rfl,(List.range 8).map fun i:Nat=>ku (97 + (jg ns (300 + (i:Int)) 26).toNat),by rw [← e];exact SqL.of db,?_,?_⟩
   ·have h1:(List.map (fun x:Str=>x.length) ((List.range 8).map fun i:Nat=>ku (97 + (jg ns (300 + (i:Int)) 26).toNat))).sum=8:=by
     rw [List.map_map]
     rfl
    rw [h1,List.length_map,List.length_range]
    decide +kernel
   ·refine hD _ _ ⟨pb hp,S.new hp,_,?_,fun c hc=>?_,rfl⟩
    ·rw [Js (fun i:Nat=>97 + (jg ns (300 + (i:Int)) 26).toNat) 8,List.length_map,List.length_range]
    ·rw [Js (fun i:Nat=>97 + (jg ns (300 + (i:Int)) 26).toNat) 8] at hc
     obtain ⟨i,_,rfl⟩:=List.mem_map.mp hc
     have d1:=Nd ns (300 + (i:Int)) (m:=26) (by decide)
     have d2:=Kd ns (300 + (i:Int)) (m:=26) (by decide)
     omega
 rintro σ2 H2 ⟨s2,S2,wd,hwl,hwa,rfl⟩
 have hwn:wd.length=8:=by
  have:wd.length=wd.cps.toList.length:=by simp [Str.length]
  omega
 have wy0:=Nd ns 310 (m:=3) (by decide)
 have wy1:=Kd ns 310 (m:=3) (by decide)
 subst zzh
 generalize hway:jg ns 310 3=way at wy0 wy1
 simp only [Cb]
 refine zzC (fun σ' H'=>H'=H2∧σ'=[some (.ref a),some (.int m),some (.str (Str.ofString "abcdefghijklmnopqrstuvwxyz")),some (.str wd),some (.int way),none,none,none,none]) (fun D' hD=>?_) fun zzM zzh=>?_
 ·(walk_at "RD"; repeat (simp only [Be];walk_at "RD"))
  rw [hway]
  exact ⟨S2,by omega,by omega,by decide,hD _ _ ⟨rfl,rfl⟩⟩
 rintro σ3 H3 ⟨rfl,rfl⟩
 obtain ⟨at_,hat,hat1⟩:∃ at_:Nat,jg ns 311 8=(at_:Nat)∧at_ < 8:=by
  have d1:=Nd ns 311 (m:=8) (by decide)
  have d2:=Kd ns 311 (m:=8) (by decide)
  exact ⟨(jg ns 311 8).toNat,by omega,by omega⟩
 subst zzh
 simp only [Cb]
 refine zzC (fun σ' H'=>H'=H3∧σ'=[some (.ref a),some (.int m),some (.str (Str.ofString "abcdefghijklmnopqrstuvwxyz")),some (.str wd),some (.int way),some (.int (at_:Nat)),none,none,none]) (fun D' hD=>?_) fun zzM zzh=>?_
 ·(walk_at "RD"; repeat (simp only [Be];walk_at "RD"))
  rw [hat]
  exact ⟨S2,by omega,by omega,by omega,hD _ _ ⟨rfl,rfl⟩⟩
 rintro σ4 H4 ⟨rfl,rfl⟩
 obtain ⟨f,hf,hf1⟩:∃ f:Nat,jg ns 312 26=(f:Nat)∧f < 26:=by
  have d1:=Nd ns 312 (m:=26) (by decide)
  have d2:=Kd ns 312 (m:=26) (by decide)
  exact ⟨(jg ns 312 26).toNat,by omega,by omega⟩
 subst zzh
 simp only [Cb]
 refine zzC (fun σ' H'=>Sc K a ns H'∧ac H4 H'∧∃ rl,H4 rl=none∧H' rl=some (.lst [])∧σ'=[some (.ref a),some (.int m),some (.str (Str.ofString "abcdefghijklmnopqrstuvwxyz")),some (.str wd),some (.int way),some (.int (at_:Nat)),some (.ref rl),none,none]) (fun D' hD=>?_) fun zzM zzh=>?_
 ·(walk_at "RD")
  exact ⟨Nat.zero_le _,fun rl hrl=>hD _ _ ⟨S2.new hrl,pb hrl,rl,hrl,db,rfl⟩⟩
 rintro σ6 H6 ⟨S6,s6,rl,hrl,w6,rfl⟩
 subst zzh
 simp only [Cb]
 refine Rb (fun σ' H'=>H'=H6∧σ'=[some (.ref a),some (.int m),some (.str (Str.ofString "abcdefghijklmnopqrstuvwxyz")),some (.str wd),some (.int way),some (.int (at_:Nat)),some (.ref rl),none,none]) (fun D' hD hrt _ _=>?_) ?_
 ·refine ic (decide (jg ns 313 8=0) && decide (m < 7)) (fun Q hQ=>?_) (fun hb=>?_) (fun hb=>?_)
  ·(walk_at "RD"; repeat (simp only [Be];walk_at "RD"))
   refine ⟨S6,by decide,by decide,by decide,?_⟩
   by_cases c0:jg ns 313 8=0
   ·rw [if_pos (decide_eq_true c0),show decide ((m:Int) < 7)=decide (m < 7) from decide_eq_decide.mpr (by omega)]
    rw [decide_eq_true c0,Bool.true_and] at hQ
    exact hQ
   ·rw [if_neg (by simpa using c0)]
    rw [decide_eq_false c0,Bool.false_and] at hQ
    exact hQ
  ·rw [Bool.and_eq_true,decide_eq_true_eq,decide_eq_true_eq] at hb
   obtain ⟨k1,k2,k3⟩:=IK m hb.2
   (walk_at "RD")
   refine ⟨by decide,fun p hp=>⟨_,SqL.of db,fun p1 hp1=>?_⟩⟩
   rw [hrt]
   refine q p1 (six.take m) _ (s2.trans (s6.trans ((pb hp).trans (pb hp1)))) ((S6.new hp).new hp1) ((s2.trans (s6.trans (pb hp))).free hp1) ?_ ⟨k1,k2,k3⟩
   rw [db,xJ (show m ≤ 6 by omega)]
   unfold wb six
   rw [List.map_take]
   rfl
  ·simp only [re]
   exact hD _ _ ⟨rfl,rfl⟩
 rintro σ7 H7 ⟨rfl,rfl⟩
 -- the k-th name's signs
 obtain ⟨g,hg⟩:∃ g:Nat→List Nat,g=fun k=>if way=0 then nmZ wd.cps.toList at_ f k else if way=1 then nmA wd.cps.toList k else nmC wd.cps.toList f k (jg ns (320 + (k:Int)) 8).toNat:=⟨_,rfl⟩
 simp only [Cb]
 refine zzC (fun σ' H'=>Sc K a ns H'∧ac H4 H'∧(∃ xs:List Str,H' rl=some (.lst (wb xs))∧xs.map (·.cps.toList)=(List.range m).map g)∧∃ x7 x8,σ'=[some (.ref a),some (.int m),some (.str (Str.ofString "abcdefghijklmnopqrstuvwxyz")),some (.str wd),some (.int way),some (.int (at_:Nat)),some (.ref rl),x7,x8]) (fun D' hD=>?_) fun zzM zzh=>?_
 ·(walk_at "RD")
  refine ⟨by omega,by omega,?_⟩
  refine kj.range (fun i σ H'=>Sc K a ns H'∧ac H4 H'∧(∃ xs:List Str,H' rl=some (.lst (wb xs))∧xs.map (·.cps.toList)=(List.range i).map g)∧∃ x7 x8,σ=[some (.ref a),some (.int m),some (.str (Str.ofString "abcdefghijklmnopqrstuvwxyz")),some (.str wd),some (.int way),some (.int (at_:Nat)),some (.ref rl),x7,x8]) ⟨S6,s6,⟨[],w6,rfl⟩,_,_,rfl⟩ ?_ ?_
  ·rintro i σ H' hi ⟨S7,s7,⟨xs,w7,hxs⟩,x7,x8,rfl⟩
   have hi8:i < 8:=by have:i < (m:Int).toNat:=hi;omega
   have hxl:xs.length=i:=by have:=congrArg List.length hxs;rwa [List.length_map,List.length_map,List.length_range] at this
   obtain ⟨c,hc,rfl⟩:=OG (i:=((f:Int) + (i:Int)) % 26) (Int.emod_nonneg _ (by decide)) (Int.emod_lt_of_pos _ (by decide))
   have ecc:(((f:Int) + (i:Int)) % 26).toNat=(f + i) % 26:=by omega
   rw [ecc] at hc
   simp only [De,Cb,List.set_cons_succ,List.set_cons_zero,Int.zero_add]
   refine zzC (fun σ' H''=>H''=H'∧σ'=[some (.ref a),some (.int m),some (.str (Str.ofString "abcdefghijklmnopqrstuvwxyz")),some (.str wd),some (.int way),some (.int (at_:Nat)),some (.ref rl),some (.int (i:Nat)),some (.str (ku (97 + (f + i) % 26)))]) (fun D' hD=>?_) fun zzM zzh=>?_
   ·(walk_at "RD"; repeat (simp only [Be];walk_at "RD"))
    rw [hf]
    exact ⟨S7,by decide,by decide,by decide,by decide,by rw [hL];decide,_,hc,hD _ _ ⟨rfl,rfl⟩⟩
   rintro σA HA ⟨rfl,rfl⟩
   have hbig:∀ k:Nat,k ≤ 1000→k ≤ sizeLine:=fun k h=>Nat.le_trans h (by decide)
   have l3:(ku (97 + (f + i) % 26)).length=1:=rfl
   have put:∀ nm:Str,nm.cps.toList=g i→Sc K a ns (upd HA rl (.lst (wb xs ++ [.str nm])))∧ac H4 (upd HA rl (.lst (wb xs ++ [.str nm])))∧(∃ ys:List Str,(upd HA rl (.lst (wb xs ++ [.str nm]))) rl=some (.lst (wb ys))∧ys.map (·.cps.toList)=(List.range (i + 1)).map g):=fun nm hnm=>by
    refine ⟨S7.set w7 (fun _ _ z=>by cases z),s7.updN hrl,xs ++ [nm],?_,?_⟩
    ·rw [db]
     unfold wb
     rw [List.map_append];rfl
    ·rw [List.map_append,hxs,List.range_succ,List.map_append,List.map_cons,List.map_nil,hnm];rfl
   have hxb:(wb xs).length < sizeLine:=Nat.lt_of_le_of_lt (show (wb xs).length ≤ 8 by unfold wb;rw [List.length_map];omega) (by decide)
   subst zzh
   dsimp only
   refine ic (decide (way=0)) (fun Q hQ=>?_) (fun hbt=>?_) (fun hbf=>?_)
   ·(walk_at "RD")
    exact hQ
   ·have hw:=of_decide_eq_true hbt
    have hgi:g i=nmZ wd.cps.toList at_ f i:=by rw [hg];exact if_pos hw
    have l1:=Txt.slice_le wd none (some (at_:Int))
    have l2:=Txt.slice_le wd (some ((at_:Int) + 1)) none
    (walk_at "RD")
    refine ⟨.inl ⟨_,SqL.of w7⟩,by rw [hwn];decide,hbig _ (by omega),by rw [hwn];decide,hbig _ (by rw [Rh];omega),_,w7,hxb,?_⟩
    obtain ⟨p1,p2,p3⟩:=put (Txt.slice wd none (some (at_:Int)) ++ ku (97 + (f + i) % 26) ++ Txt.slice wd (some ((at_:Int) + 1)) none) (by
     rw [hgi]
     unfold nmZ
     rw [Str.cps_append,Array.toList_append,Str.cps_append,Array.toList_append,vt wd (by omega),show ((at_:Int) + 1)=((at_ + 1:Nat):Int) by omega,fz wd (by omega)]
     rfl)
    exact ⟨p1,p2,p3,_,rfl⟩
   ·have hw:=of_decide_eq_false hbf
    refine ic (decide (way=1)) (fun Q hQ=>?_) (fun hbt=>?_) (fun hbf=>?_)
    ·(walk_at "RD")
     by_cases c1:way=1
     ·rw [if_pos (decide_eq_true c1),decide_eq_true (show (m:Int) < 9 by omega)]
      rw [decide_eq_true c1] at hQ
      exact hQ
     ·rw [if_neg (by simpa using c1)]
      rw [decide_eq_false c1] at hQ
      exact hQ
    ·have hw1:=of_decide_eq_true hbt
     have hgi:g i=nmA wd.cps.toList i:=by rw [hg];exact (if_neg hw).trans (if_pos hw1)
     (walk_at "RD")
     refine ⟨.inl ⟨_,SqL.of w7⟩,by rw [hwn];decide,_,w7,hxb,?_⟩
     obtain ⟨p1,p2,p3⟩:=put (Txt.slice wd none (some ((i:Int) + 1))) (by
      rw [hgi,show ((i:Int) + 1)=((i + 1:Nat):Int) by omega,vt wd (by omega)]
      rfl)
     exact ⟨p1,p2,p3,_,rfl⟩
    ·have hw1:=of_decide_eq_false hbf
     have hgi:g i=nmC wd.cps.toList f i (jg ns (320 + (i:Int)) 8).toNat:=by rw [hg];exact (if_neg hw).trans (if_neg hw1)
     have d1:=Nd ns (320 + (i:Int)) (m:=8) (by decide)
     have d2:=Kd ns (320 + (i:Int)) (m:=8) (by decide)
     (walk_at "RD"; repeat (simp only [Be];walk_at "RD"))
     obtain ⟨jj,hjj⟩:∃ jj:Nat,jg ns (320 + (i:Int)) 8=(jj:Int):=⟨_,(Int.toNat_of_nonneg d1).symm⟩
     rw [hjj] at hgi d2
     rw [hjj]
     rw [Int.toNat_natCast] at hgi
     have l1:=Txt.slice_le wd none (some (jj:Int))
     refine ⟨.inl ⟨_,SqL.of w7⟩,S7,by omega,by omega,by decide,by rw [hwn];decide,hbig _ (by omega),_,w7,hxb,?_⟩
     obtain ⟨p1,p2,p3⟩:=put (ku (97 + (f + i) % 26) ++ Txt.slice wd none (some (jj:Int))) (by
      rw [hgi]
      unfold nmC
      rw [Str.cps_append,Array.toList_append,vt wd (by omega)]
      rfl)
     exact ⟨p1,p2,p3,_,rfl⟩
  ·rintro σ H' ⟨S7,s7,⟨xs,w7,hxs⟩,x7,x8,rfl⟩
   exact hD _ _ ⟨S7,s7,⟨xs,w7,by rw [hxs,show (m:Int).toNat=m by omega]⟩,x7,x8,rfl⟩
 rintro σ8 H8 ⟨S8,s8,⟨xs,w8,hxs⟩,x7,x8,rfl⟩
 have hxl:xs.length=m:=by have:=congrArg List.length hxs;rwa [List.length_map,List.length_map,List.length_range] at this
 have dj:∀ k:Nat,(jg ns (320 + (k:Int)) 8).toNat < 8:=fun k=>by
  have d1:=Nd ns (320 + (k:Int)) (m:=8) (by decide)
  have d2:=Kd ns (320 + (k:Int)) (m:=8) (by decide)
  omega
 have gok:∀ k,k < m→(1 ≤ (g k).length∧(g k).length ≤ 8)∧∀ c ∈ g k,97 ≤ c∧c ≤ 122:=fun k hk=>by
  rw [hg]
  dsimp only
  split
  ·have:=CK hwl hwa (f:=f) (k:=k) hat1
   exact ⟨by omega,this.2⟩
  ·split
   ·have:=mD hwl hwa (k:=k) (by omega)
    exact ⟨by omega,this.2⟩
   ·exact FK hwl hwa (dj k)
 have ginj:∀ i j,i < m→j < m→g i=g j→i=j:=fun i j hi hj e=>by
  rw [hg] at e
  dsimp only at e
  by_cases c0:way=0
  ·rw [if_pos c0,if_pos c0] at e
   exact jH hwl hat1 (by omega) (by omega) e
  ·rw [if_neg c0,if_neg c0] at e
   by_cases c1:way=1
   ·rw [if_pos c1,if_pos c1] at e
    have h1:=mD hwl hwa (k:=i) (by omega)
    have h2:=mD hwl hwa (k:=j) (by omega)
    rw [e] at h1
    omega
   ·rw [if_neg c1,if_neg c1] at e
    exact cI (by omega) (by omega) e
 have hat':∀ (i:Nat) (x:Str),xs[i]? = some x→i < m∧x.cps.toList=g i:=fun i x hx=>by
  have hi:i < m:=by rw [← hxl];exact (List.getElem?_eq_some_iff.mp hx).1
  have e:=congrArg (fun l=>l[i]?) hxs
  try dsimp only at e
  rw [List.getElem?_map,hx,List.getElem?_map,List.getElem?_range hi] at e
  exact ⟨hi,Option.some.inj e⟩
 have N:Nms m xs:=by
  refine ⟨hxl,List.pairwise_iff_getElem.mpr fun i j hi hj hij e=>?_,fun x hx=>?_⟩
  ·obtain ⟨a1,a2⟩:=hat' i _ (List.getElem?_eq_getElem hi)
   obtain ⟨b1,b2⟩:=hat' j _ (List.getElem?_eq_getElem hj)
   rw [e,b2] at a2
   have:=ginj i j a1 b1 a2.symm
   omega
  ·obtain ⟨i,hi⟩:=List.getElem?_of_mem hx
   obtain ⟨a1,a2⟩:=hat' i _ hi
   have:=gok i a1
   exact JI a2 this.1.1 this.1.2 this.2
 subst zzh
 (walk_at "RD")
 exact q rl xs H8 (s2.trans s8) S8 (s2.free hrl) w8 N
end
end My
namespace My
open PySem L2
noncomputable abbrev qw (d:WD):List V:=[.str (de d.k),.str d.name,.int d.start,.int d.fin,.int d.off,.int d.near,.int d.least]
noncomputable def LW (H:Hp) (wl:Addr) (ds:List WD):Prop:=∃ qs:List Addr,H wl=some (.lst (qs.map V.ref))∧qs.length=ds.length∧∀ (i:Nat) (q:Addr) (d:WD),qs[i]? = some q→ds[i]? = some d→H q=some (.tup (qw d))
theorem LW.same {H H':Hp} {wl:Addr} {ds:List WD} (h:LW H wl ds) (s:ac H H'):LW H' wl ds:=by
 obtain ⟨qs,e1,e2,al⟩:=h
 exact ⟨qs,s _ _ e1,e2,fun i q d h1 h2=>s _ _ (al i q d h1 h2)⟩
theorem LW.snoc {H:Hp} {wl p:Addr} {ds:List WD} {d:WD} {qs:List Addr} (l1:H wl=some (.lst (qs.map V.ref))) (l2:qs.length=ds.length)
  (al:∀ (i:Nat) (q:Addr) (d:WD),qs[i]? = some q→ds[i]? = some d→H q=some (.tup (qw d))) (hp:H p=none) :
  LW (upd (upd H p (.tup (qw d))) wl (.lst (qs.map V.ref ++ [.ref p]))) wl (ds ++ [d]):=by
 have hpw:p ≠ wl:=(vb l1 hp).symm
 refine ⟨qs ++ [p],by rw [db,List.map_append];rfl,by rw [List.length_append,List.length_append,l2];rfl,fun i q e h1 h2=>?_⟩
 rcases lg h1 with ⟨z1,z2⟩ | ⟨z1,rfl⟩
 ·rcases lg h2 with ⟨y1,y2⟩ | ⟨y1,_⟩
  ·have:=al i q e z2 y2
   rw [lb (Xd this l1 (by intro z;cases z)),lb (vb this hp)]
   exact this
  ·omega
 ·rcases lg h2 with ⟨y1,y2⟩ | ⟨y1,rfl⟩
  ·omega
  ·rw [lb hpw,db]
theorem wK {n s j:Int} (h0:0 ≤ s) (h1:s < n) (h2:0 ≤ j) (h3:j < n - 1):s ≠ (s + 1 + j) % n:=by
 by_cases c:s + 1 + j < n
 ·rw [Int.emod_eq_of_lt (by omega) c];omega
 ·rw [show s + 1 + j=(s + 1 + j - n) + n * 1 by omega,Int.add_mul_emod_self_left,Int.emod_eq_of_lt (by omega) (by omega)];omega
structure QI (n:Int) (ds:List WD):Prop where
 al:∀ d ∈ ds,WOk n d∧True
 nd:(ds.map (·.name)).Nodup
theorem QI.cok {n:Int} {ds:List WD} (h:QI n ds) (hn:2 ≤ n∧n ≤ 99) (hl:1 ≤ ds.length∧ds.length ≤ 12):COk n ds:=⟨hn,hl,fun d hd=>(h.al d hd).1,h.nd⟩
noncomputable def uy (K:PySem.W.Frag) (a:Addr) (ns:List Int):Sp:=fun vs H Q _=>∃ most:Int,vs=[.ref a,.int most]∧(1 ≤ most∧most ≤ 8)∧Sc K a ns H ∧
 ∀ tp wl n ds H',ac H H'→Sc K a ns H'→H' tp=some (.tup [.int n,.ref wl])→LW H' wl ds→QI n ds→(∀ d ∈ ds,d.least ≤ 4)→(4 ≤ n∧n ≤ 99)→(1 ≤ ds.length∧(ds.length:Int) ≤ most)→Q (.ref tp) H'
theorem xL {i:Int} (h0:0 ≤ i) (h1:i < 4):∃ k:Nat,k < 3∧atI [V.str (Str.ofString "car"),V.str (Str.ofString "car"),V.str (Str.ofString "foot"),V.str (Str.ofString "tram")] i=some (.str (de k)):=by
 have:i=0∨i=1∨i=2∨i=3:=by omega
 rcases this with rfl | rfl | rfl | rfl
 ·exact ⟨0,by decide,Eb (j:=0) rfl⟩
 ·exact ⟨0,by decide,Eb (j:=1) rfl⟩
 ·exact ⟨1,by decide,Eb (j:=2) rfl⟩
 ·exact ⟨2,by decide,Eb (j:=3) rfl⟩
theorem at2 (x y:V) (c:Bool):atI [x,y] (if c=true then 1 else 0)=some (if c=true then y else x):=by
 cases c with
 | true=>exact Eb (j:=1) rfl
 | false=>exact Eb (j:=0) rfl
section
variable {P:Program} {w:World} {K:PySem.W.Frag} {mg:Str→Option Value} {base:Heap} {t:Adr}
theorem DF (T:Txt w K mg t) (a:Addr) (ns:List Int) (h63:ns.length ≤ 63):Jb P w K mg base CX0 3 t.Ni t.Bi ["_law_script","_law_most"] (uy K a ns):=by
 have G__law_draw:Jb P w K mg base CX0 2 t.Ue t.Ve ["_law_script","_law_k","_law_many"] (Be K a ns):=(OB T a ns h63).mono (by decide)
 have G__law_names:Jb P w K mg base CX0 2 t.jh t.vh ["_law_script","_law_many"] (gv K a ns):=MB T a ns h63
 refine T.Hl.ok Rc (fun vs H Q E h=>?_) (fun cdv A outer s H vs Q E hr h=>?_)
 ·obtain ⟨most,rfl,_⟩:=h;rfl
 obtain ⟨most,rfl,hmost,S,q⟩:=h
 refine ⟨_,(fb (Hb (i:=2) Rc.nd rfl (Or.inl rfl) (Gc xc (ve (cb (Mb Vc qb (xb G__law_draw hr rfl T.Gb T.Ab.kp T.Fb .nil Db (cb (pv 0) (cb qb (cb qb gb))))) (cb qb gb))) (bf Jv rfl T.SD pk (cb (Ld xg (xb G__law_draw hr rfl T.Gb T.Ab.kp T.Fb .nil Db (cb (pv 0) (cb qb (cb qb gb)))) qb (Zb _)) gb)) (fun _ _=>rfl)))
   (fb (Hb (i:=3) Rc.nd rfl (Or.inl rfl) (xb G__law_names hr rfl T.Ju T.Nj.kp T.dw .nil Db (cb (pv 0) (cb (Mb Vc qb (xb G__law_draw hr rfl T.Gb T.Ab.kp T.Fb .nil Db (cb (pv 0) (cb qb (cb (pv 1) gb))))) gb))))
   (fb (Hb (i:=4) Rc.nd rfl (Or.inl rfl) (ve gb))
   (fb (Ge PassesOwn.never rfl (Me rfl T.Mh (cb (yc Ob rfl T.bi jc (cb (pv 3) gb)) gb)) (zb (i:=5) Rc.nd rfl (Or.inl rfl)) (fb (Hb (i:=6) Rc.nd rfl (Or.inl rfl) (xb G__law_draw hr rfl T.Gb T.Ab.kp T.Fb .nil Db (cb (pv 0) (cb (Mb Vc qb (Mb Yg qb (pv 5))) (cb (pv 2) gb)))))
   (fb (Hb (i:=7) Rc.nd rfl (Or.inl rfl) (Mb xf (Mb Vc (Mb Vc (pv 6) qb) (xb G__law_draw hr rfl T.Gb T.Ab.kp T.Fb .nil Db (cb (pv 0) (cb (Mb Vc qb (Mb Yg qb (pv 5))) (cb (Mb Fm (pv 2) qb) gb))))) (pv 2)))
   (fb (Hb (i:=8) Rc.nd rfl (Or.inl rfl) (Gc xc (ve (cb zc (cb zc (cb zc (cb zc gb))))) (xb G__law_draw hr rfl T.Gb T.Ab.kp T.Fb .nil Db (cb (pv 0) (cb (Mb Vc qb (Mb Yg qb (pv 5))) (cb qb gb)))) (fun _ _=>rfl)))
   (fb (Hb (i:=9) Rc.nd rfl (Or.inl rfl) (Gc xc (ve (cb (xb G__law_draw hr rfl T.Gb T.Ab.kp T.Fb .nil Db (cb (pv 0) (cb (Mb Vc qb (Mb Yg qb (pv 5))) (cb qb gb)))) (cb qb gb))) (bf Jv rfl T.SD pk (cb (Ld xg (xb G__law_draw hr rfl T.Gb T.Ab.kp T.Fb .nil Db (cb (pv 0) (cb (Mb Vc qb (Mb Yg qb (pv 5))) (cb qb gb)))) qb (Zb _)) gb)) (fun _ _=>rfl)))
   (fb (Hb (i:=10) Rc.nd rfl (Or.inl rfl) (xb G__law_draw hr rfl T.Gb T.Ab.kp T.Fb .nil Db (cb (pv 0) (cb (Mb Vc qb (Mb Yg qb (pv 5))) (cb qb gb)))))
   (fb (Ie (PW.pt (Mu (dc xg (xb G__law_draw hr rfl T.Gb T.Ab.kp T.Fb .nil Db (cb (pv 0) (cb qb (cb qb gb)))) qb (Zb _)) (gq (dc zx (xb G__law_draw hr rfl T.Gb T.Ab.kp T.Fb .nil Db (cb (pv 0) (cb (Mb Vc qb (pv 5)) (cb qb gb)))) qb (Zb _))))) (fb (Hb (i:=8) Rc.nd rfl (Or.inl rfl) zc)
   (ib (Hb (i:=9) Rc.nd rfl (Or.inl rfl) qb))) Kc)
   (ib (Ub (rg PySem.F.plainAttrs_list PySem.F.slot_list_append PySem.F.type_list_append ge (pv 4) (cb (Kv (cb (pv 8) (cb (Gc xc (pv 3) (pv 5) (fun _ _=>rfl)) (cb (pv 6) (cb (pv 7) (cb (pv 9) (cb (pv 10) (cb (Mb Vc qb (xb G__law_draw hr rfl T.Gb T.Ab.kp T.Fb .nil Db (cb (pv 0) (cb (Mb Vc qb (Mb Yg qb (pv 5))) (cb qb gb))))) gb)))))))) gb)))))))))))
   (ib (Lb (Kv (cb (pv 2) (cb (pv 4) gb))))))))),?_⟩
 simp only [Cb]
 refine zzC (fun σ' H'=>ac H H'∧Sc K a ns H'∧∃ n:Int,(4 ≤ n∧n ≤ 99)∧σ'=[some (.ref a),some (.int most),some (.int n),none,none,none,none,none,none,none,none]) (fun D' hD=>?_) fun zzM zzh=>?_
 ·have d1:=Nd ns 2 (m:=13) (by decide)
  have d2:=Kd ns 2 (m:=13) (by decide)
  (walk_at "RD"; repeat (simp only [Be];walk_at "RD"))
  obtain ⟨n,hn,en⟩:∃ n:Int,(4 ≤ n∧n ≤ 99)∧(if decide (jg ns 3 6=0)=true then V.int 99 else V.int (4 + jg ns 2 13))=V.int n:=by
   split
   ·exact ⟨99,by decide,rfl⟩
   ·exact ⟨_,by omega,rfl⟩
  refine ⟨S,by decide,by decide,by decide,by decide,fun p hp=>⟨S.new hp,by decide,by decide,by decide,_,SqL.of db,_,at2 _ _ _,?_⟩⟩
  rw [en]
  exact hD _ _ ⟨pb hp,S.new hp,n,hn,rfl⟩
 rintro σ0 H0 ⟨s0,S0,n,hn,rfl⟩
 obtain ⟨m,hmm,hm⟩:∃ m:Nat,1 + jg ns 1 most=(m:Nat)∧(1 ≤ m∧m ≤ 8∧(m:Int) ≤ most):=by
  have d1:=Nd ns 1 (m:=most) (by omega)
  have d2:=Kd ns 1 (m:=most) (by omega)
  exact ⟨(1 + jg ns 1 most).toNat,by omega,by omega⟩
 subst zzh
 simp only [Cb]
 refine zzC (fun σ' H'=>ac H0 H'∧Sc K a ns H'∧∃ nl xs,H' nl=some (.lst (wb xs))∧Nms m xs∧σ'=[some (.ref a),some (.int most),some (.int n),some (.ref nl),none,none,none,none,none,none,none]) (fun D' hD=>?_) fun zzM zzh=>?_
 ·(walk_at "RD")
  refine ⟨_,_,rfl,S0,by decide,by omega,_,rfl,?_⟩
  rw [hmm]
  exact ⟨m,rfl,S0,by omega,fun p xs H' s1 S1 _ e N=>hD _ _ ⟨s1,S1,p,xs,e,N,rfl⟩⟩
 rintro σ1 H1 ⟨s1,S1,nl,xs,en,N,rfl⟩
 subst zzh
 simp only [Cb]
 refine zzC (fun σ' H'=>Sc K a ns H'∧ac H1 H'∧∃ wl,H1 wl=none∧H' wl=some (.lst [])∧σ'=[some (.ref a),some (.int most),some (.int n),some (.ref nl),some (.ref wl),none,none,none,none,none,none]) (fun D' hD=>?_) fun zzM zzh=>?_
 ·(walk_at "RD")
  exact ⟨Nat.zero_le _,fun wl hwl=>hD _ _ ⟨S1.new hwl,pb hwl,wl,hwl,db,rfl⟩⟩
 rintro σ3 H3 ⟨S3,s3,wl,hwl,w3,rfl⟩
 have hnsl:(wb xs).length=m:=by unfold wb;rw [List.length_map,N.1]
 subst zzh
 (walk_at "RD")
 refine ⟨_,.inl (SqL.of (s3 _ _ en)),by omega,by rw [hnsl];omega,?_⟩
 rw [show (((wb xs).length:Nat):Int).toNat=m by rw [hnsl];rfl]
 refine kj.range (fun i σ H'=>Sc K a ns H'∧ac H1 H'∧(∃ ds,LW H' wl ds∧ds.length=i∧(∀ d ∈ ds,WOk n d∧d.least ≤ 4)∧∀ (j:Nat) (d:WD),ds[j]? = some d→xs[j]? = some d.name)∧∃ x5 x6 x7 x8 x9 x10,σ=[some (.ref a),some (.int most),some (.int n),some (.ref nl),some (.ref wl),x5,x6,x7,x8,x9,x10]) ⟨S3,s3,⟨[],⟨[],w3,rfl,fun i q d h=>by simp at h⟩,rfl,fun d h=>by simp at h,fun j d h=>by simp at h⟩,_,_,_,_,_,_,rfl⟩ ?_ ?_
 ·rintro i σ H' hi ⟨S4,s4,⟨ds,L4,hdl,hok,hnm⟩,x5,x6,x7,x8,x9,x10,rfl⟩
  have him:i < m:=hi
  have hxi:xs[i]? = some (xs[i]'(by rw [N.1];exact him)):=List.getElem?_eq_getElem _
  generalize xs[i]'(by rw [N.1];exact him)=nm at hxi
  have en4:=s4 _ _ en
  have hnat:atI (wb xs) ((i:Nat):Int)=some (.str nm):=Eb (by unfold wb;rw [List.getElem?_map,hxi];rfl)
  simp only [De,Cb,List.set_cons_succ,List.set_cons_zero,Int.zero_add]
  refine zzC (fun σ' H''=>H''=H'∧∃ st:Int,(0 ≤ st∧st < n)∧σ'=[some (.ref a),some (.int most),some (.int n),some (.ref nl),some (.ref wl),some (.int (i:Nat)),some (.int st),x7,x8,x9,x10]) (fun D' hD=>?_) fun zzM zzh=>?_
  ·have d1:=Nd ns (10 + 7 * (i:Int)) (m:=n) (by omega)
   have d2:=Kd ns (10 + 7 * (i:Int)) (m:=n) (by omega)
   (walk_at "RD"; repeat (simp only [Be];walk_at "RD"))
   exact ⟨.inl ⟨by decide,by decide⟩,S4,by omega,by omega,by omega,hD _ _ ⟨rfl,_,⟨d1,d2⟩,rfl⟩⟩
  rintro σA HA ⟨rfl,st,hst,rfl⟩
  subst zzh
  simp only [Cb]
  refine zzC (fun σ' H''=>H''=HA∧∃ fi:Int,(0 ≤ fi∧fi < n)∧st ≠ fi∧σ'=[some (.ref a),some (.int most),some (.int n),some (.ref nl),some (.ref wl),some (.int (i:Nat)),some (.int st),some (.int fi),x8,x9,x10]) (fun D' hD=>?_) fun zzM zzh=>?_
  ·have d1:=Nd ns (11 + 7 * (i:Int)) (m:=n - 1) (by omega)
   have d2:=Kd ns (11 + 7 * (i:Int)) (m:=n - 1) (by omega)
   have m0:=Int.emod_nonneg (st + 1 + jg ns (11 + 7 * (i:Int)) (n - 1)) (show n ≠ 0 by omega)
   have m1:=Int.emod_lt_of_pos (st + 1 + jg ns (11 + 7 * (i:Int)) (n - 1)) (show 0 < n by omega)
   (walk_at "RD"; repeat (simp only [Be];walk_at "RD"))
   exact ⟨.inl ⟨by decide,by decide⟩,S4,by omega,by omega,by omega,by omega,hD _ _ ⟨rfl,_,⟨m0,m1⟩,wK hst.1 hst.2 d1 (by omega),rfl⟩⟩
  rintro σB HB ⟨rfl,fi,hfi,hne,rfl⟩
  subst zzh
  simp only [Cb]
  refine zzC (fun σ' H''=>ac HB H''∧Sc K a ns H''∧∃ k:Nat,k < 3∧σ'=[some (.ref a),some (.int most),some (.int n),some (.ref nl),some (.ref wl),some (.int (i:Nat)),some (.int st),some (.int fi),some (.str (de k)),x9,x10]) (fun D' hD=>?_) fun zzM zzh=>?_
  ·have d1:=Nd ns (12 + 7 * (i:Int)) (m:=4) (by decide)
   have d2:=Kd ns (12 + 7 * (i:Int)) (m:=4) (by decide)
   obtain ⟨k,hk,hat⟩:=xL d1 d2
   (walk_at "RD"; repeat (simp only [Be];walk_at "RD"))
   exact ⟨by decide,fun p hp=>⟨.inl ⟨by decide,by decide⟩,S4.new hp,by omega,by omega,by decide,_,SqL.of db,_,hat,hD _ _ ⟨pb hp,S4.new hp,k,hk,rfl⟩⟩⟩
  rintro σC HC ⟨sC,SC,k0,hk0,rfl⟩
  subst zzh
  simp only [Cb]
  refine zzC (fun σ' H''=>ac HC H''∧Sc K a ns H''∧∃ of_:Int,(0 ≤ of_∧of_ ≤ 30)∧σ'=[some (.ref a),some (.int most),some (.int n),some (.ref nl),some (.ref wl),some (.int (i:Nat)),some (.int st),some (.int fi),some (.str (de k0)),some (.int of_),x10]) (fun D' hD=>?_) fun zzM zzh=>?_
  ·have d1:=Nd ns (13 + 7 * (i:Int)) (m:=9) (by decide)
   have d2:=Kd ns (13 + 7 * (i:Int)) (m:=9) (by decide)
   (walk_at "RD"; repeat (simp only [Be];walk_at "RD"))
   obtain ⟨v,hv,en⟩:∃ v:Int,(0 ≤ v∧v ≤ 30)∧(if decide (jg ns (14 + 7 * (i:Int)) 12=0)=true then V.int 30 else V.int (jg ns (13 + 7 * (i:Int)) 9))=V.int v:=by
    split
    ·exact ⟨30,by decide,rfl⟩
    ·exact ⟨_,by omega,rfl⟩
   refine ⟨.inl ⟨by decide,by decide⟩,SC,by omega,by omega,by decide,by decide,fun p hp=>⟨.inl ⟨by decide,by decide⟩,SC.new hp,by omega,by omega,by decide,_,SqL.of db,_,at2 _ _ _,?_⟩⟩
   rw [en]
   exact hD _ _ ⟨pb hp,SC.new hp,v,hv,rfl⟩
  rintro σD HD ⟨sD,SD_,of1,hof1,rfl⟩
  subst zzh
  simp only [Cb]
  refine zzC (fun σ' H''=>H''=HD∧∃ ne_:Int,(0 ≤ ne_∧ne_ ≤ 5)∧σ'=[some (.ref a),some (.int most),some (.int n),some (.ref nl),some (.ref wl),some (.int (i:Nat)),some (.int st),some (.int fi),some (.str (de k0)),some (.int of1),some (.int ne_)]) (fun D' hD=>?_) fun zzM zzh=>?_
  ·have d1:=Nd ns (15 + 7 * (i:Int)) (m:=6) (by decide)
   have d2:=Kd ns (15 + 7 * (i:Int)) (m:=6) (by decide)
   (walk_at "RD"; repeat (simp only [Be];walk_at "RD"))
   exact ⟨.inl ⟨by decide,by decide⟩,SD_,by omega,by omega,by decide,hD _ _ ⟨rfl,_,by omega,rfl⟩⟩
  rintro σE HE ⟨rfl,ne1,hne1,rfl⟩
  subst zzh
  simp only [Cb]
  refine zzC (fun σ' H''=>H''=HE∧∃ (k:Nat) (of_:Int),k < 3∧(0 ≤ of_∧of_ ≤ 30)∧σ'=[some (.ref a),some (.int most),some (.int n),some (.ref nl),some (.ref wl),some (.int (i:Nat)),some (.int st),some (.int fi),some (.str (de k)),some (.int of_),some (.int ne1)]) (fun D' hD=>?_) fun zzM zzh=>?_
  ·refine ic (decide (jg ns 9 6=0) && decide (0 < jg ns (60 + (i:Int)) 4)) (fun Q hQ=>?_) (fun _=>?_) (fun _=>?_)
   ·(walk_at "RD"; repeat (simp only [Be];walk_at "RD"))
    refine ⟨SD_,by omega,by omega,by decide,?_⟩
    by_cases c0:jg ns 9 6=0
    ·rw [if_pos (decide_eq_true c0)]
     rw [decide_eq_true c0,Bool.true_and] at hQ
     exact ⟨SD_,by omega,by omega,by decide,hQ⟩
    ·rw [if_neg (by simpa using c0)]
     rw [decide_eq_false c0,Bool.false_and] at hQ
     exact hQ
   ·(walk_at "RD")
    exact hD _ _ ⟨rfl,1,0,by decide,by decide,rfl⟩
   ·(walk_at "RD")
    exact hD _ _ ⟨rfl,k0,of1,hk0,hof1,rfl⟩
  rintro σF HF ⟨rfl,k,of2,hk,hof2,rfl⟩
  have sH:=sC.trans sD
  have enH:=sH _ _ en4
  have LH:=L4.same sH
  have d1:=Nd ns (16 + 7 * (i:Int)) (m:=4) (by decide)
  have d2:=Kd ns (16 + 7 * (i:Int)) (m:=4) (by decide)
  obtain ⟨le_,ele,hle⟩:∃ le_:Int,1 + jg ns (16 + 7 * (i:Int)) 4=le_∧1 ≤ le_∧le_ ≤ 4:=⟨_,rfl,by omega,by omega⟩
  obtain ⟨qs,l1,l2,al⟩:=LH
  subst zzh
  (walk_at "RD"; repeat (simp only [Be];walk_at "RD"))
  rw [ele]
  refine ⟨.inl ⟨_,SqL.of l1⟩,_,SqL.of enH,_,hnat,.inl ⟨by decide,by decide⟩,SD_,by omega,by omega,by decide,by decide,fun p hp=>?_⟩
  have hwp:wl ≠ p:=vb l1 hp
  have L':=LW.snoc (d:=⟨k,nm,st,fi,of2,ne1,le_⟩) l1 l2 al hp
  refine ⟨_,by rw [lb hwp];exact l1,Nat.lt_of_le_of_lt (show (qs.map V.ref).length ≤ 8 by rw [List.length_map];omega) (by decide),(SD_.new hp).set (by rw [lb hwp];exact l1) (fun _ _ z=>by cases z),((s4.trans sH).trans (pb hp)).updN hwl,⟨ds ++ [⟨k,nm,st,fi,of2,ne1,le_⟩],L',by rw [List.length_append,hdl];rfl,fun d hd=>?_,fun j d hd=>?_⟩,?_⟩
  ·rcases List.mem_append.mp hd with hd | hd
   ·exact hok d hd
   ·rw [List.mem_singleton.mp hd]
    exact ⟨⟨hk,N.2.2 nm (List.mem_of_getElem? hxi),⟨hst.1,hst.2⟩,⟨hfi.1,hfi.2⟩,hne,hof2,⟨hne1.1,by dsimp only;omega⟩,⟨hle.1,by dsimp only;omega⟩⟩,hle.2⟩
  ·rcases lg hd with ⟨_,z⟩ | ⟨z,rfl⟩
   ·exact hnm j d z
   ·rw [z,hdl];exact hxi
  ·repeat (first | exact ⟨_,rfl⟩ | refine ⟨⟨_,rfl⟩,?_⟩)
 ·rintro σ H' ⟨S4,s4,⟨ds,L4,hdl,hok,hnm⟩,x5,x6,x7,x8,x9,x10,rfl⟩
  (walk_at "RD")
  refine ⟨by decide,fun tp htp=>?_⟩
  refine q tp wl n ds _ (((s0.trans s1).trans s4).trans (pb htp)) (S4.new htp) db (L4.same (pb htp)) ⟨fun d hd=>⟨(hok d hd).1,trivial⟩,?_⟩ (fun d hd=>(hok d hd).2) hn (by omega)
  have e:ds.map (·.name)=xs:=by
   refine List.ext_getElem? fun j=>?_
   rw [List.getElem?_map]
   cases h:ds[j]? with
   | some d=>exact (hnm j d h).symm
   | none=>
    have:ds.length ≤ j:=List.getElem?_eq_none_iff.mp h
    exact (List.getElem?_eq_none_iff.mpr (by rw [N.1];omega)).symm
  rw [e]
  exact N.2.1
end
end My
namespace My
open PySem L2
theorem DJ (d:WD):((((de d.k ++ Str.ofString " ") ++ d.name) ++ Str.ofString " ") ++ Txt.join (Str.ofString " ") [num d.start,num d.fin,num d.off,num d.near,num d.least])=Str.join bk (Uj d):=by
 apply Ft
 have e5:(Str.ofString " ").cps.toList=[32]:=by decide +kernel
 rw [show Txt.join (Str.ofString " ") [num d.start,num d.fin,num d.off,num d.near,num d.least]=Str.join bk [num d.start,num d.fin,num d.off,num d.near,num d.least] from StrLaws.glued_eq_join _ _]
 rw [Str.cps_append,Array.toList_append,ZE,gk,gk]
 unfold Uj
 simp only [Str.cps_append,Array.toList_append,List.map_cons,List.map_nil,jl,e5,List.append_assoc,List.cons_append,List.nil_append]
theorem BH (n:Int):Str.ofString "ring " ++ num n=Str.join bk [Str.ofString "ring",num n]:=by
 apply Ft
 have e1:(Str.ofString "ring ").cps.toList=[114,105,110,103,32]:=by decide +kernel
 have e2:(Str.ofString "ring").cps.toList=[114,105,110,103]:=by decide +kernel
 rw [ZE,gk]
 simp only [Str.cps_append,Array.toList_append,List.map_cons,List.map_nil,jl,e1,e2,List.cons_append,List.nil_append]
theorem ly {B:Nat}:∀ {ys:List Str},(∀ y ∈ ys,y.length ≤ B)→(ys.map (·.length)).sum ≤ ys.length * B
 | [],_=>by simp
 | a :: r,h=>by
  have h1:=h a (by simp)
  have h2:=ly (B:=B) (ys:=r) fun y hy=>h y (List.mem_cons_of_mem _ hy)
  rw [List.map_cons,List.sum_cons,List.length_cons,Nat.succ_mul];omega
theorem uI {n:Int} {ds:List WD} (h:COk n ds):∀ y ∈ (Ph n ds).map (Str.join bk),y.length ≤ 63:=fun y hy=>by
 obtain ⟨r,hr,rfl⟩:=List.mem_map.mp hy
 have:=Ei bk 8 r fun x hx=>(h.plain r hr x hx).1
 rw [Tn] at this
 have hl:r.length ≤ 7:=by
  rcases List.mem_cons.mp hr with rfl | hr
  ·simp
  ·obtain ⟨d,hd,rfl⟩:=List.mem_map.mp hr
   simp [Uj]
 omega
noncomputable def Ty (K:PySem.W.Frag):Sp:=fun vs H Q _=>∃ n wl ds,vs=[.int n,.ref wl]∧LW H wl ds∧QI n ds∧(2 ≤ n∧n ≤ 99)∧(1 ≤ ds.length∧ds.length ≤ 12)∧NoT H∧Q (.str (Ct n ds)) H
noncomputable def xD (K:PySem.W.Frag):Sp:=fun vs H Q _=>∃ n wl ds,vs=[.int n,.ref wl]∧LW H wl ds∧QI n ds∧(2 ≤ n∧n ≤ 99)∧(1 ≤ ds.length∧ds.length ≤ 12)∧∀ H',ac H H'→Q (.str (Ct n ds)) H'
section
variable {P:Program} {w:World} {K:PySem.W.Frag} {mg:Str→Option Value} {base:Heap} {t:Adr}
theorem mE (T:Txt w K mg t):Jb P w K mg base CX0 1 t.Mi t.Li ["_law_places","_law_ways_here"] (Ty K):=by
 refine Jb.forget (sp:=xD K) ?_ fun vs H Q E h=>?_
 ·refine T.Ll.ok Wj (fun vs H Q E h=>?_) (fun cdv A outer s H vs Q E hr h=>?_)
  ·obtain ⟨n,wl,ds,rfl,_⟩:=h;rfl
  obtain ⟨n,wl,ds,rfl,L,D,hn,hl,q⟩:=h
  refine ⟨_,(fb (Hb (i:=2) Wj.nd rfl (Or.inl rfl) (ve (cb (Mb ld zc (bf fg rfl T.fB si (cb (pv 0) gb))) gb)))
   (fb (Ge PassesOwn.never rfl (Lc (pv 1)) (zb (i:=3) Wj.nd rfl (Or.inl rfl)) (ib (Ub (rg PySem.F.plainAttrs_list PySem.F.slot_list_append PySem.F.type_list_append ge (pv 2) (cb (Mb ld (Mb ld (Mb ld (Mb ld (Gc je (pv 3) qb (fun _ _=>rfl)) zc) (Gc je (pv 3) qb (fun _ _=>rfl))) zc) (rg PySem.F.plainAttrs_str PySem.F.slot_str_join PySem.F.type_str_join zp zc (cb (zd rfl (zJ (gh wJ (pv 3) (Mj qb) jk)) (fc (sc:=jb ol) rfl (by decide +kernel)) (N:=["_law_number"]) (sel:=[none]) (Jc (M:=["_law_places","_law_ways_here","_law_rows","_law_way"]) (by decide +kernel)) (Blk.of (fun _ _ _ _=>(zb (i:=0) (ke (N:=["_law_number"]) (by decide +kernel) rfl) rfl (Or.inl rfl))) (fun _ _ _ _=>⟨_,Qd,by first | rfl | (dsimp only [Cx.block];done) | (dsimp only [Cx.block];exact rfl)⟩) (fun _ _ _ _=>⟨_,(bf fg rfl T.fB si (cb (pv 0) gb)),by first | rfl | (dsimp only [Cx.block];done) | (dsimp only [Cx.block];exact rfl)⟩))) gb))) gb)))))
   (ib (Lb (rg PySem.F.plainAttrs_str PySem.F.slot_str_join PySem.F.type_str_join zp zc (cb (pv 2) gb)))))),?_⟩
  have hC:=D.cok hn hl
  obtain ⟨qs,l1,l2,al⟩:=L
  have hlen:∀ x:Str,et x→x.length ≤ 8:=fun x h=>h.1
  have hbig:∀ k:Nat,k ≤ 1000→k ≤ sizeLine:=fun k h=>Nat.le_trans h (by decide)
  have hr5:(Str.ofString "ring ").length=5:=by decide +kernel
  have hb1:(Str.ofString " ").length=1:=by decide +kernel
  (walk_at "RD")
  have hn8:(Str.ofString (toString n)).length ≤ 8:=(Gd (v:=n) (by omega) (by omega)).1
  refine ⟨jp (by omega),hbig _ (by rw [hr5];omega),by decide,fun rl hrl'=>?_⟩
  rw [BH]
  have s0:ac H (upd H rl (.lst [V.str (Str.join bk [Str.ofString "ring",num n])])):=pb hrl'
  refine ⟨⟨_,SqL.of (s0 _ _ l1)⟩,?_⟩
  refine kj.list (xs:=qs.map V.ref) (fun i σ H'=>ac H H'∧H' rl=some (.lst (wb ((Ph n (ds.take i)).map (Str.join bk))))∧∃ x,σ=[some (.int n),some (.ref wl),some (.ref rl),x]) ?_ ?_ ?_ ?_
  ·exact ⟨s0,db,none,rfl⟩
  ·rintro i σ H' hi ⟨sm,_,_⟩
   exact SqL.of (sm _ _ l1)
  ·rintro i v σ H' hv ⟨sm,hr,x,rfl⟩
   obtain ⟨q',hq,rfl⟩:=Kb hv
   have hid:i < ds.length:=by rw [← l2];exact (List.getElem?_eq_some_iff.mp hq).1
   have hd:ds[i]? = some ds[i]:=List.getElem?_eq_getElem hid
   have hT:SqT K H' q' (qw ds[i]):=SqT.of (sm _ _ (al i q' _ hq hd))
   have hw:=(D.al _ (List.mem_of_getElem? hd)).1
   have b1:=hw.st;have b2:=hw.fi;have b3:=hw.of;have b4:=hw.nr;have b5:=hw.le
   have z1:=hlen _ (Ms ds[i].k)
   have z2:=hlen _ (Um hw.nm)
   have z3:(num ds[i].start).length ≤ 8:=hlen _ (Gd (v:=ds[i].start) (by omega) (by omega))
   have z4:(num ds[i].fin).length ≤ 8:=hlen _ (Gd (v:=ds[i].fin) (by omega) (by omega))
   have z5:(num ds[i].off).length ≤ 8:=hlen _ (Gd (v:=ds[i].off) (by omega) (by omega))
   have z7:(num ds[i].least).length ≤ 8:=hlen _ (Gd (v:=ds[i].least) (by omega) (by omega))
   have z6:(num ds[i].near).length ≤ 8:=hlen _ (Gd (v:=ds[i].near) (by omega) (by omega))
   (walk_at "RD")
   refine ⟨.inl ⟨_,SqL.of hr⟩,?_⟩
   have at0:atI (qw ds[i]) 0=some (.str (de ds[i].k)):=Eb (j:=0) rfl
   have at1:atI (qw ds[i]) 1=some (.str ds[i].name):=Eb (j:=1) rfl
   refine ⟨_,hT,_,at0,_,rfl,hbig _ (by omega),_,hT,_,at1,_,rfl,hbig _ (by rw [Rh];omega),hbig _ (by simp only [Rh];omega),?_⟩
   have hcut:Jx (qw ds[i]) (some 2) none=[.int ds[i].start,.int ds[i].fin,.int ds[i].off,.int ds[i].near,.int ds[i].least]:=rfl
   refine ⟨_,hT,?_,fun p hp=>⟨⟨_,SqT.of db⟩,?_⟩⟩
   ·show ¬ (HT.sIx 7 0 (some 2)=0∧HT.sIx 7 7 none=7)
    decide
   rw [hcut]
   have hjn:(Txt.join (Str.ofString " ") [num ds[i].start,num ds[i].fin,num ds[i].off,num ds[i].near,num ds[i].least]).length ≤ 50:=by
    rw [show Txt.join (Str.ofString " ") [num ds[i].start,num ds[i].fin,num ds[i].off,num ds[i].near,num ds[i].least]=Str.join bk [num ds[i].start,num ds[i].fin,num ds[i].off,num ds[i].near,num ds[i].least] from StrLaws.glued_eq_join _ _]
    have:=Ei bk 8 [num ds[i].start,num ds[i].fin,num ds[i].off,num ds[i].near,num ds[i].least] (fun y hy=>by
     simp only [List.mem_cons,List.not_mem_nil,or_false] at hy
     rcases hy with rfl | rfl | rfl | rfl | rfl <;> assumption)
    rw [Tn] at this
    simp only [List.length_cons,List.length_nil] at this
    omega
   refine Xc.tup_zs (xs:=[.int ds[i].start,.int ds[i].fin,.int ds[i].off,.int ds[i].near,.int ds[i].least]) (zs:=wb [num ds[i].start,num ds[i].fin,num ds[i].off,num ds[i].near,num ds[i].least]) (SqT.of db) (hbig _ (show 5 ≤ 1000 by decide)) rfl (fun j v z N hv hz hN=>?_) (fun p2 hp2=>?_)
   ·have key:∃ a:Int,v=.int a∧z=.str (num a)∧0 ≤ a∧a < 100:=by
     match j,hv,hz with
     | 0,hv,hz=>cases hv;cases hz;exact ⟨_,rfl,rfl,b1.1,by omega⟩
     | 1,hv,hz=>cases hv;cases hz;exact ⟨_,rfl,rfl,b2.1,by omega⟩
     | 2,hv,hz=>cases hv;cases hz;exact ⟨_,rfl,rfl,b3.1,by omega⟩
     | 3,hv,hz=>cases hv;cases hz;exact ⟨_,rfl,rfl,b4.1,by omega⟩
     | 4,hv,hz=>cases hv;cases hz;exact ⟨_,rfl,rfl,by omega,by omega⟩
     | k + 5,hv,hz=>simp at hv
    obtain ⟨a,rfl,rfl,ha0,ha1⟩:=key
    (walk_at "RD")
    exact ⟨Sub.name,jp (by omega),hN⟩
   ·(walk_at "RD")
    have hrp2:rl ≠ p2:=by
     rintro rfl
     rw [lb (vb hr hp)] at hp2
     rw [hp2] at hr;cases hr
    have hrl:(upd (upd H' p (.tup [.int ds[i].start,.int ds[i].fin,.int ds[i].off,.int ds[i].near,.int ds[i].least])) p2 (.lst (wb [num ds[i].start,num ds[i].fin,num ds[i].off,num ds[i].near,num ds[i].least]))) rl=some (.lst (wb ((Ph n (ds.take i)).map (Str.join bk)))):=by
     rw [lb hrp2,lb (vb hr hp)];exact hr
    have sm2:ac H' (upd (upd H' p (.tup [.int ds[i].start,.int ds[i].fin,.int ds[i].off,.int ds[i].near,.int ds[i].least])) p2 (.lst (wb [num ds[i].start,num ds[i].fin,num ds[i].off,num ds[i].near,num ds[i].least]))):=(pb hp).trans (pb hp2)
    have hsq:=SqL.of (K:=K) (H:=upd (upd H' p (.tup [.int ds[i].start,.int ds[i].fin,.int ds[i].off,.int ds[i].near,.int ds[i].least])) p2 (.lst (wb [num ds[i].start,num ds[i].fin,num ds[i].off,num ds[i].near,num ds[i].least]))) (a:=p2) db
    generalize upd (upd H' p (.tup [.int ds[i].start,.int ds[i].fin,.int ds[i].off,.int ds[i].near,.int ds[i].least])) p2 (.lst (wb [num ds[i].start,num ds[i].fin,num ds[i].off,num ds[i].near,num ds[i].least]))=H2 at hrl sm2 hsq ⊢
    refine ⟨_,hsq,?_,hbig _ (by simp only [Rh];omega),_,hrl,?_,?_,?_,_,rfl⟩
    ·simp only [List.map_cons,List.map_nil,List.sum_cons,List.sum_nil,List.length_cons,List.length_nil]
     omega
    ·rw [Nb,List.length_map]
     exact Nat.lt_of_le_of_lt (show (Ph n (ds.take i)).length ≤ 13 by unfold Ph;rw [List.length_cons,List.length_map,List.length_take];omega) (by decide)
    ·exact fun b u e=>by rw [lb (vb e hrl')];exact sm2 _ _ (sm _ _ e)
    ·rw [db,DJ ds[i]]
     congr 2
     unfold Ph wb
     simp
     rw [List.take_add_one,List.getElem?_map,hd];rfl
  ·rintro σ H' ⟨sm,hr,x,rfl⟩
   (walk_at "RD")
   rw [List.length_map,l2,List.take_length] at hr
   refine ⟨_,SqL.of hr,?_,?_⟩
   ·have h63:∀ y ∈ (Ph n ds).map (Str.join bk),y.length ≤ 63:=uI hC
    have h13:((Ph n ds).map (Str.join bk)).length ≤ 13:=by
     unfold Ph
     rw [List.length_map,List.length_cons,List.length_map];omega
    have:=ly h63
    rw [show (Str.ofString "\n").length=1 by decide +kernel]
    omega
   ·have:=q H' sm
    unfold Ct at this
    rw [show Txt.join (Str.ofString "\n") ((Ph n ds).map (Str.join bk))=Str.join nl ((Ph n ds).map (Str.join bk)) from StrLaws.glued_eq_join _ _]
    exact this
 ·obtain ⟨n,wl,ds,h1,h2,h3,h4,h5,nt,q⟩:=h
  exact ⟨nt,n,wl,ds,h1,h2,h3,h4,h5,fun H' sm=>⟨sm,q⟩⟩
end
end My
namespace My
open PySem L2
noncomputable def oA (K:PySem.W.Frag):Sp:=fun vs H Q _=>∃ n a b d e,vs=[.ref a,.ref b,.int n]∧SqT K H a (qw d)∧SqT K H b (qw e)∧WOk n d∧WOk n e∧Q (.bl (mt n d e)) H
noncomputable def Ae (d e:WD):Bool:=decide (d.k=2) == decide (e.k=2)
noncomputable def Du (K:PySem.W.Frag):Sp:=fun vs H Q _=>∃ wl ds,∃ i j:Nat,∃ d e,vs=[.ref wl,.int i,.int j]∧LW H wl ds∧ds[i]? = some d∧ds[j]? = some e∧d.k < 3∧e.k < 3∧Q (.bl (Ae d e)) H
section
variable {P:Program} {w:World} {K:PySem.W.Frag} {mg:Str→Option Value} {base:Heap} {t:Adr}
theorem kH (T:Txt w K mg t):Jb P w K mg base CX0 1 t.zi t.Fi ["_law_one","_law_other","_law_places"] (oA K):=by
 refine T.yl.ok sh (fun vs H Q E h=>?_) (fun cdv A outer s H vs Q E hr h=>?_)
 ·obtain ⟨n,a,b,d,e,rfl,_⟩:=h;rfl
 obtain ⟨n,a,b,d,e,rfl,Ta,Tb,hd,he,q⟩:=h
 refine ⟨_,(fb (Ie (dc xg (Gc je (pv 0) qb (fun _ _=>rfl)) (Gc je (pv 1) qb (fun _ _=>rfl)) (Zb _)) (ib (Lb Qq)) Kc)
   (fb (Ie (PW.pt (Gu (dc xg (Gc je (pv 0) qb (fun _ _=>rfl)) (Gc je (pv 1) qb (fun _ _=>rfl)) (Zb _)) (Gu (dc xg (Gc je (pv 0) qb (fun _ _=>rfl)) (Gc je (pv 1) qb (fun _ _=>rfl)) (Zb _)) (Ir (dc xg (Gc je (pv 0) qb (fun _ _=>rfl)) (Gc je (pv 1) qb (fun _ _=>rfl)) (Zb _)))))) (ib (Lb Qq)) Kc)
   (fb (Hb (i:=3) sh.nd rfl (Or.inl rfl) (Mb xf (Mb Fm (Gc je (pv 0) qb (fun _ _=>rfl)) (Gc je (pv 0) qb (fun _ _=>rfl))) (pv 2)))
   (fb (Hb (i:=4) sh.nd rfl (Or.inl rfl) (Mb xf (Mb Fm (Gc je (pv 1) qb (fun _ _=>rfl)) (Gc je (pv 0) qb (fun _ _=>rfl))) (pv 2)))
   (fb (Hb (i:=5) sh.nd rfl (Or.inl rfl) (Mb xf (Mb Fm (Gc je (pv 1) qb (fun _ _=>rfl)) (Gc je (pv 0) qb (fun _ _=>rfl))) (pv 2)))
   (ib (Lb (Ld tz (Ld du (pv 4) (pv 3) (Zb _)) (Ld du (pv 5) (pv 3) (Zb _)) (Zb _))))))))),?_⟩
 have a2:atI (qw d) 2=some (.int d.start):=Eb (j:=2) rfl
 have a3:atI (qw d) 3=some (.int d.fin):=Eb (j:=3) rfl
 have b2:atI (qw e) 2=some (.int e.start):=Eb (j:=2) rfl
 have b3:atI (qw e) 3=some (.int e.fin):=Eb (j:=3) rfl
 have f1:=hd.st;have f2:=hd.fi;have f3:=he.st;have f4:=he.fi
 refine ic (decide (d.fin=e.fin)) (fun Q hQ=>?_) (fun c=>?_) (fun c=>?_)
 ·(walk_at "RD")
  refine ⟨_,Ta,_,a3,_,Tb,_,b3,rfl,?_⟩
  (walk_at "RD")
  exact hQ
 ·(walk_at "RD")
  unfold mt Uw at q
  rw [c,Bool.true_or] at q
  exact q
 ·have c':=of_decide_eq_false c
  (walk_at "RD")
  refine ic (decide (d.start=e.start) || (decide (d.start=e.fin) || decide (d.fin=e.start))) (fun Q hQ=>?_) (fun hb=>?_) (fun hb=>?_)
  ·(walk_at "RD")
   refine ⟨_,Ta,_,a2,_,Tb,_,b2,rfl,?_⟩
   by_cases c1:d.start=e.start
   ·rw [if_pos (by simp [c1])]
    rw [decide_eq_true c1,Bool.true_or] at hQ
    exact hQ
   ·rw [if_neg (by simpa using c1)]
    refine ⟨_,Ta,_,a2,_,Tb,_,b3,rfl,?_⟩
    by_cases c2:d.start=e.fin
    ·rw [if_pos (by simp [c2])]
     rw [decide_eq_false c1,decide_eq_true c2,Bool.false_or,Bool.true_or] at hQ
     exact hQ
    ·rw [if_neg (by simpa using c2)]
     refine ⟨_,Ta,_,a3,_,Tb,_,b2,rfl,?_⟩
     rw [decide_eq_false c1,decide_eq_false c2,Bool.false_or,Bool.false_or] at hQ
     rw [show decide (V.int d.fin=V.int e.start)=decide (d.fin=e.start) from decide_eq_decide.mpr (by simp)]
     exact hQ
  ·(walk_at "RD")
   unfold mt Uw at q
   rw [c,Bool.false_or,if_pos (by
    rw [Bool.or_eq_true,Bool.or_eq_true,decide_eq_true_eq,decide_eq_true_eq,decide_eq_true_eq] at hb
    omega)] at q
   exact q
  ·rw [Bool.or_eq_false_iff,Bool.or_eq_false_iff,decide_eq_false_iff_not,decide_eq_false_iff_not,decide_eq_false_iff_not] at hb
   have hn0:0 < n:=by omega
   have p1:0 < (e.start - d.start) % n:=by rw [Yn f1.1 f1.2 f3.1 f3.2];split <;> omega
   have p2:0 < (e.fin - d.start) % n:=by rw [Yn f1.1 f1.2 f4.1 f4.2];split <;> omega
   unfold mt Uw Bm at q
   rw [c,Bool.false_or,if_neg (by omega),decide_eq_true p1,decide_eq_true p2,Bool.true_and,Bool.true_and] at q
   (walk_at "RD")
   refine ⟨_,Ta,_,a3,_,Ta,_,a2,_,rfl,_,rfl,hn0,_,Tb,_,b2,_,Ta,_,a2,_,rfl,_,rfl,hn0,_,Tb,_,b3,_,Ta,_,a2,_,rfl,_,rfl,hn0,?_⟩
   generalize decide ((e.start - d.start) % n < (d.fin - d.start) % n)=X at q ⊢
   generalize decide ((e.fin - d.start) % n < (d.fin - d.start) % n)=Y at q ⊢
   cases X <;> cases Y <;> exact q
theorem oC (T:Txt w K mg t):Jb P w K mg base CX0 1 t.zh t.eh ["_law_ways_here","_law_one","_law_other"] (Du K):=by
 refine T.Aj.ok vm (fun vs H Q E h=>?_) (fun cdv A outer s H vs Q E hr h=>?_)
 ·obtain ⟨wl,ds,i,j,d,e,rfl,_⟩:=h;rfl
 obtain ⟨wl,ds,i,j,d,e,rfl,⟨qs,l1,l2,al⟩,hi,hj,hk,hk',q⟩:=h
 have hqi:qs[i]? = some (qs[i]'(by rw [l2];exact (List.getElem?_eq_some_iff.mp hi).1)):=List.getElem?_eq_getElem _
 have hqj:qs[j]? = some (qs[j]'(by rw [l2];exact (List.getElem?_eq_some_iff.mp hj).1)):=List.getElem?_eq_getElem _
 have ei:=al i _ d hqi hi
 have ej:=al j _ e hqj hj
 have ai:=Eb (xs:=qs.map V.ref) (j:=i) (by rw [List.getElem?_map,hqi];rfl)
 have aj:=Eb (xs:=qs.map V.ref) (j:=j) (by rw [List.getElem?_map,hqj];rfl)
 refine ⟨_,(fb (Hb (i:=3) vm.nd rfl (Or.inl rfl) (Ld xg (Gc je (Gc xc (pv 0) (pv 1) (fun _ _=>rfl)) qb (fun _ _=>rfl)) zc (Zb _)))
   (ib (Lb (Ld xg (pv 3) (Ld xg (Gc je (Gc xc (pv 0) (pv 2) (fun _ _=>rfl)) qb (fun _ _=>rfl)) zc (Zb _)) (Zb _))))),?_⟩
 (walk_at "RD")
 refine ⟨_,SqL.of l1,_,ai,_,rfl,_,SqT.of ei,_,Eb (j:=0) rfl,rfl,_,SqL.of l1,_,aj,_,rfl,_,SqT.of ej,_,Eb (j:=0) rfl,rfl,?_⟩
 have h1:∀ k,k < 3→decide (V.str (de k)=V.str (Str.ofString "tram"))=decide (k=2):=by decide +kernel
 rw [h1 d.k hk,h1 e.k hk']
 unfold Ae at q
 rw [show decide (decide (d.k=2)=decide (e.k=2))=(decide (d.k=2) == decide (e.k=2)) from rfl]
 exact q
end
end My
namespace My
open PySem L2
structure LIq (H0 H:Hp) (gl:Addr) (qs:List Addr) (gs:List (List Nat)):Prop where
 h1:H gl=some (.lst (qs.map V.ref))
 h2:qs.length=gs.length
 h3:qs.Nodup
 h4:gl ∉ qs
 h5:∀ (i:Nat) (q:Addr) (g:List Nat),qs[i]? = some q→gs[i]? = some g→H q=some (.lst (g.map fun k:Nat=>V.int k))
 h6:∀ q ∈ qs,H0 q=none
theorem LIq.same {H0 H H':Hp} {gl:Addr} {qs:List Addr} {gs:List (List Nat)} (h:LIq H0 H gl qs gs) (s:ac H H'):LIq H0 H' gl qs gs:=
 ⟨s _ _ h.h1,h.h2,h.h3,h.h4,fun i q g a b=>s _ _ (h.h5 i q g a b),h.h6⟩
structure ju (n:Int) (ds:List WD) (m:Nat) (gs:List (List Nat)):Prop where
 ne:∀ g ∈ gs,g ≠ []
 pm:gs.flatten.Perm (List.range m)
 cm:∀ g ∈ gs,∀ i ∈ g,∀ j ∈ g,i ≠ j→∀ d e,ds[i]? = some d→ds[j]? = some e→mt n d e=false
 al:∀ g ∈ gs,∀ i ∈ g,∀ j ∈ g,∀ d e,ds[i]? = some d→ds[j]? = some e→Ae d e=true
theorem ju.nil (n:Int) (ds:List WD):ju n ds 0 []:=⟨by simp,by simp,by simp,by simp⟩
theorem zk {y z:WD}:Ae y z=true↔(y.k=2↔z.k=2):=by
 unfold Ae
 simp
theorem Yy {y z:WD} (h:Ae y z=true):Ae z y=true:=zk.mpr (zk.mp h).symm
theorem Ex {x y z:WD} (h:Ae x y=true) (h':Ae y z=true):Ae x z=true:=zk.mpr ((zk.mp h).trans (zk.mp h'))
theorem LIq.off {H0 H:Hp} {gl x:Addr} {qs:List Addr} {gs:List (List Nat)} {o:HO} (h:LIq H0 H gl qs gs) (hx:x ≠ gl) (hq:x ∉ qs):LIq H0 (upd H x o) gl qs gs:=
 ⟨by rw [lb (Ne.symm hx)];exact h.h1,h.h2,h.h3,h.h4,fun i q g a b=>by rw [lb (fun z=>hq (by rw [← z];exact List.mem_of_getElem? a))];exact h.h5 i q g a b,h.h6⟩
theorem iy {α:Type} (l:List α) (i:Nat) (a:α):(ins l i a).Perm (l ++ [a]):=by
 unfold ins
 refine List.perm_middle.trans ?_
 rw [List.take_append_drop]
 exact (List.perm_append_comm (l₁:=[a]) (l₂:=l))
theorem OA {α:Type}:∀ {l l':List (List α)},l.Perm l'→l.flatten.Perm l'.flatten:=fun h=>h.flatten
theorem Ey:∀ {gs:List (List Nat)} {j:Nat} {g g':List Nat} {k:Nat},gs[j]? = some g→g'.Perm (g ++ [k])→(gs.set j g').flatten.Perm (gs.flatten ++ [k])
 | [],j,g,g',k,h,_=>by simp at h
 | g0 :: gs,0,g,g',k,h,p=>by
  cases (show g0=g by simpa using h)
  show (g' :: gs).flatten.Perm _
  rw [List.flatten_cons,List.flatten_cons,List.append_assoc]
  refine (p.append_right _).trans ?_
  rw [List.append_assoc]
  exact List.Perm.append_left g0 List.perm_append_comm
 | g0 :: gs,j + 1,g,g',k,h,p=>by
  rw [List.getElem?_cons_succ] at h
  show (g0 :: gs.set j g').flatten.Perm _
  rw [List.flatten_cons,List.flatten_cons,List.append_assoc]
  exact List.Perm.append_left g0 (Ey h p)
theorem ju.put {n:Int} {ds:List WD} {m:Nat} {gs:List (List Nat)} (S:ju n ds m gs) {j p:Nat} {g:List Nat} {d:WD} (hg:gs[j]? = some g) (hd:ds[m]? = some d)
  (sy:∀ i ∈ g,∀ e,ds[i]? = some e→mt n e d=false∧mt n d e=false∧Ae e d=true):ju n ds (m + 1) (gs.set j (ins g p m)):=by
 have hgm:=List.mem_of_getElem? hg
 refine ⟨fun x hx=>?_,?_,fun x hx i hi i' hi' hne e e' he he'=>?_,fun x hx i hi i' hi' e e' he he'=>?_⟩
 ·rcases List.mem_or_eq_of_mem_set hx with z | z
  ·exact S.ne x z
  ·rw [z];unfold ins;simp
 ·rw [List.range_succ]
  exact (Ey hg (iy g p m)).trans (S.pm.append_right [m])
 ·rcases List.mem_or_eq_of_mem_set hx with z | z
  ·exact S.cm x z i hi i' hi' hne e e' he he'
  ·rw [z] at hi hi'
   rcases Pg hi with u | u
   ·subst u
    rw [hd] at he
    cases he
    rcases Pg hi' with v | v
    ·exact absurd v.symm hne
    ·exact (sy i' v e' he').2.1
   ·rcases Pg hi' with v | v
    ·subst v
     rw [hd] at he'
     cases he'
     exact (sy i u e he).1
    ·exact S.cm g hgm i u i' v hne e e' he he'
 ·rcases List.mem_or_eq_of_mem_set hx with z | z
  ·exact S.al x z i hi i' hi' e e' he he'
  ·rw [z] at hi hi'
   have self:∀ y:WD,Ae y y=true:=fun y=>by unfold Ae;simp
   have sym:∀ y z:WD,Ae y z=true→Ae z y=true:=fun y z h=>Yy h
   rcases Pg hi with u | u
   ·subst u
    rw [hd] at he
    cases he
    rcases Pg hi' with v | v
    ·subst v
     rw [hd] at he'
     cases he'
     exact self _
    ·exact sym _ _ (sy i' v e' he').2.2
   ·rcases Pg hi' with v | v
    ·subst v
     rw [hd] at he'
     cases he'
     exact (sy i u e he).2.2
    ·exact S.al g hgm i u i' v e e' he he'
theorem ju.new {n:Int} {ds:List WD} {m:Nat} {gs:List (List Nat)} (S:ju n ds m gs) (p:Nat):ju n ds (m + 1) (ins gs p [m]):=by
 have self:∀ y:WD,Ae y y=true:=fun y=>by unfold Ae;simp
 refine ⟨fun x hx=>?_,?_,fun x hx i hi i' hi' hne e e' he he'=>?_,fun x hx i hi i' hi' e e' he he'=>?_⟩
 ·rcases Pg hx with z | z
  ·rw [z];simp
  ·exact S.ne x z
 ·rw [List.range_succ]
  refine (OA (iy gs p [m])).trans ?_
  rw [List.flatten_append]
  simpa using S.pm.append_right [m]
 ·rcases Pg hx with z | z
  ·rw [z] at hi hi'
   exact absurd ((List.mem_singleton.mp hi).trans (List.mem_singleton.mp hi').symm) hne
  ·exact S.cm x z i hi i' hi' hne e e' he he'
 ·rcases Pg hx with z | z
  ·rw [z] at hi hi'
   rw [List.mem_singleton.mp hi] at he
   rw [List.mem_singleton.mp hi',he] at he'
   cases he'
   exact self _
  ·exact S.al x z i hi i' hi' e e' he he'
theorem LIq.put {H0 H:Hp} {gl q:Addr} {gs:List (List Nat)} {j:Nat} {g':List Nat} {qs:List Addr} (h:LIq H0 H gl qs gs) (hq:qs[j]? = some q) (hj:j < gs.length) :
  LIq H0 (upd H q (.lst (g'.map fun k:Nat=>V.int k))) gl qs (gs.set j g'):=by
 obtain ⟨h1,h2,h3,h4,h5,h6⟩:=h
 have hqg:gl ≠ q:=fun z=>h4 (by rw [z];exact List.mem_of_getElem? hq)
 refine ⟨by rw [lb hqg];exact h1,by rw [List.length_set];exact h2,h3,h4,fun i r g a b=>?_,h6⟩
 by_cases c:i=j
 ·subst c
  rw [hq] at a
  cases a
  rw [List.getElem?_set_self hj] at b
  cases b
  exact db
 ·rw [List.getElem?_set_ne (fun e=>c e.symm)] at b
  have hne:r ≠ q:=fun e=>by
   subst e
   obtain ⟨a1,b1⟩:=List.getElem?_eq_some_iff.mp a
   obtain ⟨a2,b2⟩:=List.getElem?_eq_some_iff.mp hq
   exact c ((List.getElem_inj h3).mp (b1.trans b2.symm))
  rw [lb hne]
  exact h5 i r g a b
theorem LIq.new {H0 H:Hp} {gl p:Addr} {gs:List (List Nat)} {qs:List Addr} {k:Nat} {g:List Nat} (h:LIq H0 H gl qs gs) (h0:ac H0 H) (hp:H p=none) (hk:k ≤ gs.length) :
  LIq H0 (upd (upd H p (.lst (g.map fun k:Nat=>V.int k))) gl (.lst ((ins qs k p).map V.ref))) gl (ins qs k p) (ins gs k g):=by
 have hgp:gl ≠ p:=vb h.h1 hp
 have hnp:p ∉ qs:=fun z=>by
  obtain ⟨i,hi⟩:=List.getElem?_of_mem z
  have il:i < gs.length:=by rw [← h.h2];exact (List.getElem?_eq_some_iff.mp hi).1
  have e:=h.h5 i p _ hi (List.getElem?_eq_getElem il)
  rw [hp] at e
  cases e
 have hkq:k ≤ qs.length:=by rw [h.h2];exact hk
 refine ⟨db,by rw [qC hkq,qC hk,h.h2],FB h.h3 hnp,fun z=>?_,fun i q g' a b=>?_,fun q hq=>?_⟩
 ·rcases Pg z with z | z
  ·exact hgp z
  ·exact h.h4 z
 ·rw [Dl hkq] at a
  rw [Dl hk] at b
  have keep:∀ {i:Nat} {q:Addr} {g':List Nat},qs[i]? = some q→gs[i]? = some g'→upd (upd H p (.lst (g.map fun k:Nat=>V.int k))) gl (.lst ((ins qs k p).map V.ref)) q=some (.lst (g'.map fun k:Nat=>V.int k)):=fun {i q g'} a b=>by
   have e:=h.h5 i q g' a b
   have hqg:q ≠ gl:=fun z=>h.h4 (by rw [← z];exact List.mem_of_getElem? a)
   rw [lb hqg,lb (vb e hp)]
   exact e
  by_cases c1:i < k
  ·rw [if_pos c1] at a b
   exact keep a b
  ·rw [if_neg c1] at a b
   by_cases c2:i=k
   ·rw [if_pos c2] at a b
    cases a
    cases b
    rw [lb (Ne.symm hgp),db]
   ·rw [if_neg c2] at a b
    exact keep a b
 ·rcases Pg hq with z | z
  ·rw [z];exact h0.free hp
  ·exact h.h6 q z
structure SX where
 lo:Int
 hi:Int
 ix:List Nat
structure kC (H:Hp) (sl:Addr) (qs ms:List Addr) (sts:List SX):Prop where
 at_:H sl=some (.lst (qs.map V.ref))
 l1:qs.length=sts.length
 l2:ms.length=sts.length
 al:∀ (i:Nat) (q m:Addr) (s:SX),qs[i]? = some q→ms[i]? = some m→sts[i]? = some s→H q=some (.tup [.int s.lo,.int s.hi,.ref m])∧H m=some (.lst (s.ix.map fun k:Nat=>V.int k))
theorem kC.same {H H':Hp} {sl:Addr} {qs ms:List Addr} {sts:List SX} (h:kC H sl qs ms sts) (s:ac H H'):kC H' sl qs ms sts:=
 ⟨s _ _ h.at_,h.l1,h.l2,fun i q m r a b c=>⟨s _ _ (h.al i q m r a b c).1,s _ _ (h.al i q m r a b c).2⟩⟩
structure gL (n:Int) (ds:List WD) (sts:List SX):Prop where
 sg:ju n ds ds.length (sts.map (·.ix))
 le:∀ s ∈ sts,∀ i ∈ s.ix,∀ d,ds[i]? = some d→d.least ≤ s.lo
 bd:∀ s ∈ sts,1 ≤ s.lo∧s.lo ≤ 21∧s.lo ≤ s.hi∧s.hi ≤ 40
theorem ju.len {n:Int} {ds:List WD} {m:Nat} {gs:List (List Nat)} (S:ju n ds m gs):gs.length ≤ m∧gs.flatten.length=m:=by
 have h1:=S.pm.length_eq
 rw [List.length_range] at h1
 have:∀ {gs:List (List Nat)},(∀ g ∈ gs,g ≠ [])→gs.length ≤ gs.flatten.length:=fun {gs}=>by
  induction gs with
  | nil=>intro _;simp
  | cons g gs ih=>
   intro h
   have a1:=ih fun x hx=>h x (List.mem_cons_of_mem _ hx)
   have a2:=List.length_pos_iff.mpr (h g (by simp))
   rw [List.flatten_cons,List.length_append,List.length_cons]
   omega
 have:=this S.ne
 omega
theorem ju.lt {n:Int} {ds:List WD} {m:Nat} {gs:List (List Nat)} (S:ju n ds m gs) {g:List Nat} (hg:g ∈ gs) {i:Nat} (hi:i ∈ g):i < m:=List.mem_range.mp (S.pm.mem_iff.mp (List.mem_flatten.mpr ⟨g,hg,hi⟩))
theorem ju.glen {n:Int} {ds:List WD} {m:Nat} {gs:List (List Nat)} (S:ju n ds m gs) {g:List Nat} (hg:g ∈ gs):g.length ≤ m:=by
 have h1:=(List.sublist_flatten_of_mem hg).length_le
 have:=S.len.2
 omega
theorem HL {i:Int} (h0:0 ≤ i) (h1:i < 6):∃ mo:Int,(1 ≤ mo∧mo ≤ 20)∧atI [V.int 4,V.int 4,V.int 4,V.int 4,V.int 4,V.int 20] i=some (.int mo):=by
 have:i=0∨i=1∨i=2∨i=3∨i=4∨i=5:=by omega
 rcases this with rfl | rfl | rfl | rfl | rfl | rfl
 ·exact ⟨4,by decide,Eb (j:=0) rfl⟩
 ·exact ⟨4,by decide,Eb (j:=1) rfl⟩
 ·exact ⟨4,by decide,Eb (j:=2) rfl⟩
 ·exact ⟨4,by decide,Eb (j:=3) rfl⟩
 ·exact ⟨4,by decide,Eb (j:=4) rfl⟩
 ·exact ⟨20,by decide,Eb (j:=5) rfl⟩
noncomputable def Xr (K:PySem.W.Frag):Sp:=fun vs H Q _=>∃ (a:Addr) (ns:List Int) (n:Int) (wl:Addr) (ds:List WD),vs=[.ref a,.int n,.ref wl]∧ns.length ≤ 63∧SqL K H a (ns.map V.int)∧NoT H∧LW H wl ds∧QI n ds∧(∀ d ∈ ds,d.least ≤ 4)∧(1 ≤ ds.length∧ds.length ≤ 8) ∧
 ∀ sl qs ms sts H',ac H H'→NoT H'→kC H' sl qs ms sts→gL n ds sts→Q (.ref sl) H'
section
variable {P:Program} {w:World} {K:PySem.W.Frag} {mg:Str→Option Value} {base:Heap} {t:Adr}
theorem Gz (T:Txt w K mg t):Jb P w K mg base CX0 2 t.Gg t.Eg ["_law_script","_law_places","_law_ways_here"] (Xr K):=by
 have G__law_draw:Jb P w K mg base CX0 1 t.Ue t.Ve ["_law_script","_law_k","_law_many"] (oy K):=JE T
 have G__law_meet:Jb P w K mg base CX0 1 t.zi t.Fi ["_law_one","_law_other","_law_places"] (oA K):=kH T
 have G__law_alike:Jb P w K mg base CX0 1 t.zh t.eh ["_law_ways_here","_law_one","_law_other"] (Du K):=oC T
 refine T.Hg.ok Qb (fun vs H Q E h=>?_) (fun cdv A outer s H vs Q E hr h=>?_)
 ·obtain ⟨a,ns,n,wl,ds,rfl,_⟩:=h;rfl
 obtain ⟨a,ns,n,wl,ds,rfl,h63,S,nt,L,D,hle,hdl,q⟩:=h
 obtain ⟨ql,l1,l2,lal⟩:=id L
 have hqn:(ql.map V.ref).length=ds.length:=by rw [List.length_map,l2]
 have wAt:∀ (i:Nat) (d:WD),ds[i]? = some d→∃ wq,atI (ql.map V.ref) (i:Int)=some (.ref wq)∧H wq=some (.tup (qw d)):=fun i d hd=>by
  have hqi:ql[i]? = some (ql[i]'(by rw [l2];exact (List.getElem?_eq_some_iff.mp hd).1)):=List.getElem?_eq_getElem _
  exact ⟨_,Eb (by rw [List.getElem?_map,hqi];rfl),lal i _ d hqi hd⟩
 refine ⟨_,(fb (Hb (i:=3) Qb.nd rfl (Or.inl rfl) (ve gb))
   (fb (Ge PassesOwn.never rfl (Me rfl T.Mh (cb (yc Ob rfl T.bi jc (cb (pv 2) gb)) gb)) (zb (i:=4) Qb.nd rfl (Or.inl rfl)) (fb (Hb (i:=5) Qb.nd rfl (Or.inl rfl) (ve gb))
   (fb (Ge PassesOwn.never rfl (Me rfl T.Mh (cb (yc Ob rfl T.bi jc (cb (pv 3) gb)) gb)) (zb (i:=6) Qb.nd rfl (Or.inl rfl)) (fb (Hb (i:=7) Qb.nd rfl (Or.inl rfl) (xb G__law_alike hr rfl T.zv T.Aj.kp T.Eu .nil Db (cb (pv 2) (cb (Gc xc (Gc xc (pv 3) (pv 6) (fun _ _=>rfl)) qb (fun _ _=>rfl)) (cb (pv 4) gb)))))
   (fb (Ge PassesOwn.never rfl (Lc (Gc xc (pv 3) (pv 6) (fun _ _=>rfl))) (zb (i:=8) Qb.nd rfl (Or.inl rfl)) (ib (Hb (i:=7) Qb.nd rfl (Or.inl rfl) (EA (pv 7) (Ru (bK (xb G__law_meet hr rfl T.Iw T.yl.kp T.Jw .nil Db (cb (Gc xc (pv 2) (pv 8) (fun _ _=>rfl)) (cb (Gc xc (pv 2) (pv 4) (fun _ _=>rfl)) (cb (pv 1) gb))))))))))
   (ib (Ie (ni (pv 7)) (ib (Ub (rg PySem.F.plainAttrs_list PySem.F.slot_list_append PySem.F.type_list_append ge (pv 5) (cb (pv 6) gb)))) Kc)))))
   (ib (Ie (PW.pt (Mu (dc zx (yc Ob rfl T.bi jc (cb (pv 5) gb)) qb (Zb _)) (gq (dc zx (xb G__law_draw hr rfl T.Gb T.Ab.kp T.Fb .nil Db (cb (pv 0) (cb (Mb Vc qb (pv 4)) (cb qb gb)))) qb (Zb _))))) (fb (Hb (i:=6) Qb.nd rfl (Or.inl rfl) (Gc xc (pv 5) (xb G__law_draw hr rfl T.Gb T.Ab.kp T.Fb .nil Db (cb (pv 0) (cb (Mb Vc qb (pv 4)) (cb (yc Ob rfl T.bi jc (cb (pv 5) gb)) gb)))) (fun _ _=>rfl)))
   (ib (Ub (rg PySem.F.plainAttrs_list PySem.F.slot_list_insert PySem.F.type_list_insert Lu (Gc xc (pv 3) (pv 6) (fun _ _=>rfl)) (cb (xb G__law_draw hr rfl T.Gb T.Ab.kp T.Fb .nil Db (cb (pv 0) (cb (Mb Vc qb (pv 4)) (cb (Mb Vc (yc Ob rfl T.bi jc (cb (Gc xc (pv 3) (pv 6) (fun _ _=>rfl)) gb)) qb) gb)))) (cb (pv 4) gb)))))) (ib (Ub (rg PySem.F.plainAttrs_list PySem.F.slot_list_insert PySem.F.type_list_insert Lu (pv 3) (cb (xb G__law_draw hr rfl T.Gb T.Ab.kp T.Fb .nil Db (cb (pv 0) (cb (Mb Vc qb (pv 4)) (cb (Mb Vc (yc Ob rfl T.bi jc (cb (pv 3) gb)) qb) gb)))) (cb (ve (cb (pv 4) gb)) gb))))))))))
   (fb (Hb (i:=9) Qb.nd rfl (Or.inl rfl) (ve gb))
   (fb (Ge PassesOwn.never rfl (Me rfl T.Mh (cb (yc Ob rfl T.bi jc (cb (pv 3) gb)) gb)) (zb (i:=6) Qb.nd rfl (Or.inl rfl)) (fb (Hb (i:=10) Qb.nd rfl (Or.inl rfl) (Mb Vc (yc (ou rfl) rfl T.iI An (cb (zd rfl (Lc (Gc xc (pv 3) (pv 6) (fun _ _=>rfl))) (fc (sc:=jb Ri) rfl (by decide +kernel)) (N:=["_law_i","_law_ways_here"]) (sel:=[none,some 2]) (Jc (M:=["_law_script","_law_places","_law_ways_here","_law_some","_law_k","_law_fits","_law_j","_law_good","_law_i","_law_stages_here","_law_low","_law_more"]) (by decide +kernel)) (Blk.of (fun _ _ _ _=>(zb (i:=0) (ke (N:=["_law_i","_law_ways_here"]) (by decide +kernel) rfl) rfl (Or.inl rfl))) (fun _ _ _ _=>⟨_,Qd,by first | rfl | (dsimp only [Cx.block];done) | (dsimp only [Cx.block];exact rfl)⟩) (fun _ _ _ _=>⟨_,(Gc je (Gc xc (pv 1) (pv 0) (fun _ _=>rfl)) qb (fun _ _=>rfl)),by first | rfl | (dsimp only [Cx.block];done) | (dsimp only [Cx.block];exact rfl)⟩))) gb)) (xb G__law_draw hr rfl T.Gb T.Ab.kp T.Fb .nil Db (cb (pv 0) (cb (Mb Vc qb (pv 6)) (cb qb gb))))))
   (fb (Ie (dc xg (xb G__law_draw hr rfl T.Gb T.Ab.kp T.Fb .nil Db (cb (pv 0) (cb (Mb Vc qb (pv 6)) (cb qb gb)))) qb (Zb _)) (ib (Hb (i:=10) Qb.nd rfl (Or.inl rfl) (Mb Vc (pv 10) qb))) Kc)
   (fb (Hb (i:=11) Qb.nd rfl (Or.inl rfl) (Gc xc (ve (cb qb (cb qb (cb qb (cb qb (cb qb (cb qb gb))))))) (xb G__law_draw hr rfl T.Gb T.Ab.kp T.Fb .nil Db (cb (pv 0) (cb (Mb Vc qb (pv 6)) (cb qb gb)))) (fun _ _=>rfl)))
   (ib (Ub (rg PySem.F.plainAttrs_list PySem.F.slot_list_append PySem.F.type_list_append ge (pv 9) (cb (Kv (cb (pv 10) (cb (Mb Vc (pv 10) (xb G__law_draw hr rfl T.Gb T.Ab.kp T.Fb .nil Db (cb (pv 0) (cb (Mb Vc qb (pv 6)) (cb (pv 11) gb))))) (cb (Gc xc (pv 3) (pv 6) (fun _ _=>rfl)) gb)))) gb))))))))
   (ib (Lb (pv 9))))))),?_⟩
 simp only [Cb]
 refine zzC (fun σ' H'=>ac H H'∧NoT H'∧∃ gl,H gl=none∧H' gl=some (.lst [])∧σ'=[some (.ref a),some (.int n),some (.ref wl),some (.ref gl),none,none,none,none,none,none,none,none]) (fun D' hD=>?_) fun zzM zzh=>?_
 ·(walk_at "RD")
  exact ⟨Nat.zero_le _,fun gl hgl=>hD _ _ ⟨pb hgl,nt.upd,gl,hgl,db,rfl⟩⟩
 rintro σ1 H1 ⟨s1,n1,gl,hgl,w1,rfl⟩
 subst zzh
 simp only [Cb]
 refine zzC (fun σ' H'=>ac H H'∧NoT H'∧(∃ qs gs,LIq H H' gl qs gs∧ju n ds ds.length gs)∧∃ x4 x5 x6 x7 x8,σ'=[some (.ref a),some (.int n),some (.ref wl),some (.ref gl),x4,x5,x6,x7,x8,none,none,none]) (fun D' hD=>?_) fun zzM zzh=>?_
 ·(walk_at "RD")
  refine ⟨_,.inl (SqL.of (s1 _ _ l1)),by omega,by rw [hqn];omega,?_⟩
  rw [show (((ql.map V.ref).length:Nat):Int).toNat=ds.length by rw [hqn];rfl]
  refine kj.range (fun k σ H'=>ac H H'∧NoT H'∧(∃ qs gs,LIq H H' gl qs gs∧ju n ds k gs)∧∃ x4 x5 x6 x7 x8,σ=[some (.ref a),some (.int n),some (.ref wl),some (.ref gl),x4,x5,x6,x7,x8,none,none,none]) ⟨s1,n1,⟨[],[],⟨w1,rfl,List.nodup_nil,by simp,fun i q g h=>by simp at h,fun q h=>by simp at h⟩,ju.nil n ds⟩,_,_,_,_,_,rfl⟩ ?_ ?_
  ·rintro k σ H' hk ⟨s2,n2,⟨qs,gs,G,SG⟩,x4,x5,x6,x7,x8,rfl⟩
   have hdk:ds[k]? = some ds[k]:=List.getElem?_eq_getElem hk
   generalize hdd:ds[k]=d at hdk
   have hd:=(D.al d (List.mem_of_getElem? hdk)).1
   have gl8:=SG.len
   simp only [De,Cb,List.set_cons_succ,List.set_cons_zero,Int.zero_add]
   refine zzC (fun σ' H2=>ac H' H2∧NoT H2∧∃ fl,H' fl=none∧H2 fl=some (.lst [])∧σ'=[some (.ref a),some (.int n),some (.ref wl),some (.ref gl),some (.int (k:Nat)),some (.ref fl),x6,x7,x8,none,none,none]) (fun D' hD=>?_) fun zzM zzh=>?_
   ·(walk_at "RD")
    exact ⟨Nat.zero_le _,fun fl hfl=>hD _ _ ⟨pb hfl,n2.upd,fl,hfl,db,rfl⟩⟩
   rintro σ2 H2 ⟨s3,n3,fl,hfl,w3,rfl⟩
   have hfg:fl ≠ gl:=fun e=>by rw [e,G.h1] at hfl;cases hfl
   have hfq:fl ∉ qs:=fun z=>by
    obtain ⟨i,hi⟩:=List.getElem?_of_mem z
    have il:i < gs.length:=by rw [← G.h2];exact (List.getElem?_eq_some_iff.mp hi).1
    have e:=G.h5 i fl _ hi (List.getElem?_eq_getElem il)
    rw [hfl] at e
    cases e
   subst zzh
   simp only [Cb]
   refine zzC (fun σ' H3=>ac H' H3∧NoT H3∧LIq H H3 gl qs gs∧(∃ fs:List Nat,H3 fl=some (.lst (fs.map fun k:Nat=>V.int k))∧fs.length ≤ gs.length∧∀ f ∈ fs,∃ g,gs[f]? = some g∧∀ i ∈ g,∀ e,ds[i]? = some e→mt n e d=false∧mt n d e=false∧Ae e d=true)∧∃ x6 x7 x8,σ'=[some (.ref a),some (.int n),some (.ref wl),some (.ref gl),some (.int (k:Nat)),some (.ref fl),x6,x7,x8,none,none,none]) (fun D' hD=>?_) fun zzM zzh=>?_
   ·(walk_at "RD")
    have hqg:(qs.map V.ref).length=gs.length:=by rw [List.length_map,G.h2]
    refine ⟨_,.inl (SqL.of (s3 _ _ G.h1)),by omega,by rw [hqg];omega,?_⟩
    rw [show (((qs.map V.ref).length:Nat):Int).toNat=gs.length by rw [hqg];rfl]
    refine kj.range (fun j σ H3=>ac H' H3∧NoT H3∧LIq H H3 gl qs gs∧(∃ fs:List Nat,H3 fl=some (.lst (fs.map fun k:Nat=>V.int k))∧fs.length ≤ j∧∀ f ∈ fs,∃ g,gs[f]? = some g∧∀ i ∈ g,∀ e,ds[i]? = some e→mt n e d=false∧mt n d e=false∧Ae e d=true)∧∃ x6 x7 x8,σ=[some (.ref a),some (.int n),some (.ref wl),some (.ref gl),some (.int (k:Int)),some (.ref fl),x6,x7,x8,none,none,none]) ⟨s3,n3,G.same s3,⟨[],w3,Nat.le_refl _,fun f h=>by simp at h⟩,_,_,_,rfl⟩ ?_ ?_
    ·rintro j σ H3 hj ⟨s4,n4,G4,⟨fs,w4,hfs,hgood⟩,x6,x7,x8,rfl⟩
     have hgj:gs[j]? = some gs[j]:=List.getElem?_eq_getElem hj
     have hqj:qs[j]? = some (qs[j]'(by rw [G.h2];exact hj)):=List.getElem?_eq_getElem _
     generalize qs[j]'(by rw [G.h2];exact hj)=qj at hqj
     generalize hgg:gs[j]=g at hgj
     have hgm:=List.mem_of_getElem? hgj
     obtain ⟨g0,gr,hgc⟩:=List.exists_cons_of_ne_nil (SG.ne g hgm)
     have hin:∀ i ∈ g,∃ e,ds[i]? = some e:=fun i hi=>⟨_,List.getElem?_eq_getElem (Nat.lt_trans (SG.lt hgm hi) hk)⟩
     have hg0:g0 ∈ g:=by rw [hgc];exact List.mem_cons_self ..
     obtain ⟨d0,hd0⟩:=hin g0 hg0
     have eqj:=G4.h5 j qj g hqj hgj
     have aqj:=Eb (xs:=qs.map V.ref) (j:=j) (by rw [List.getElem?_map,hqj];rfl)
     have sH:=s2.trans s4
     have L4:=L.same sH
     have l14:=sH _ _ l1
     simp only [De,Cb,List.set_cons_succ,List.set_cons_zero,Int.zero_add]
     refine zzC (fun σ' H4=>H4=H3∧σ'=[some (.ref a),some (.int n),some (.ref wl),some (.ref gl),some (.int (k:Int)),some (.ref fl),some (.int (j:Int)),some (.bl (Ae d0 d)),x8,none,none,none]) (fun D' hD=>?_) fun zzM zzh=>?_
     ·(walk_at "RD")
      exact ⟨_,SqL.of G4.h1,_,aqj,_,rfl,_,SqL.of eqj,_,by rw [hgc];exact Eb (j:=0) rfl,wl,ds,g0,k,d0,d,rfl,L4,hd0,hdk,(D.al d0 (List.mem_of_getElem? hd0)).1.k,hd.k,hD _ _ ⟨rfl,rfl⟩⟩
     rintro σ4 H4 ⟨rfl,rfl⟩
     subst zzh
     simp only [Cb]
     refine zzC (fun σ' H5=>H5=H4∧∃ (bb:Bool) (x8:Option V),(bb=true→Ae d0 d=true∧∀ i ∈ g,∀ e,ds[i]? = some e→mt n e d=false)∧σ'=[some (.ref a),some (.int n),some (.ref wl),some (.ref gl),some (.int (k:Int)),some (.ref fl),some (.int (j:Int)),some (.bl bb),x8,none,none,none]) (fun D' hD=>?_) fun zzM zzh=>?_
     ·(walk_at "RD")
      refine ⟨_,SqL.of G4.h1,_,aqj,_,rfl,⟨_,SqL.of eqj⟩,?_⟩
      refine kj.list (xs:=g.map fun k:Nat=>V.int k) (fun l σ H5=>H5=H4∧∃ (bb:Bool) (x8:Option V),(bb=true→Ae d0 d=true∧∀ i ∈ g.take l,∀ e,ds[i]? = some e→mt n e d=false)∧σ=[some (.ref a),some (.int n),some (.ref wl),some (.ref gl),some (.int (k:Int)),some (.ref fl),some (.int (j:Int)),some (.bl bb),x8,none,none,none]) ?_ ?_ ?_ ?_
      ·exact ⟨rfl,_,_,fun z=>⟨z,fun i h=>by simp at h⟩,rfl⟩
      ·rintro l σ H5 hl ⟨rfl,_⟩
       exact SqL.of eqj
      ·rintro l v σ H5 hv ⟨rfl,bb,x8,hbb,rfl⟩
       obtain ⟨i,hi,rfl⟩:=Kb hv
       obtain ⟨e,he⟩:=hin i (List.mem_of_getElem? hi)
       obtain ⟨wi,ai,ewi⟩:=wAt i e he
       obtain ⟨wk,ak,ewk⟩:=wAt k d hdk
       have step:∀ b2:Bool,(b2=true→bb=true∧mt n e d=false)→(b2=true→Ae d0 d=true∧∀ i ∈ g.take (l + 1),∀ e,ds[i]? = some e→mt n e d=false):=fun b2 h z=>by
        obtain ⟨z1,z2⟩:=h z
        obtain ⟨y1,y2⟩:=hbb z1
        refine ⟨y1,fun i' hi' e' he'=>?_⟩
        rw [List.take_add_one,hi] at hi'
        rcases List.mem_append.mp hi' with u | u
        ·exact y2 i' u e' he'
        ·rw [show i'=i by simpa using u,he] at he'
         cases he'
         exact z2
       (walk_at "RD")
       cases bb with
       | true=>
        rw [if_pos rfl]
        refine ⟨_,SqL.of l14,_,ai,_,SqL.of l14,_,ak,n,wi,wk,e,d,rfl,SqT.of (sH _ _ ewi),SqT.of (sH _ _ ewk),(D.al e (List.mem_of_getElem? he)).1,hd,_,rfl,?_⟩
        exact ⟨rfl,_,step _ (fun z=>⟨rfl,by simpa using z⟩),rfl,_,rfl⟩
       | false=>
        rw [if_neg (by decide)]
        exact ⟨false,(fun z=>nomatch z),rfl,_,rfl⟩
      ·rintro σ H5 ⟨rfl,bb,x8,hbb,rfl⟩
       rw [List.length_map,List.take_length] at hbb
       exact hD _ _ ⟨rfl,bb,x8,hbb,rfl⟩
     rintro σ5 H5 ⟨rfl,bb,x8,hbb,rfl⟩
     subst zzh
     dsimp only
     refine ic bb (fun Q hQ=>?_) (fun hb=>?_) (fun hb=>?_)
     ·(walk_at "RD")
      exact hQ
     ·obtain ⟨y1,y2⟩:=hbb hb
      (walk_at "RD")
      refine ⟨.inl ⟨_,SqL.of w4⟩,_,w4,Nat.lt_of_le_of_lt (show (fs.map fun k:Nat=>V.int k).length ≤ 8 by rw [List.length_map];omega) (by decide),s4.updN hfl,n4.upd,G4.off hfg hfq,⟨fs ++ [j],by rw [db,List.map_append];rfl,by rw [List.length_append];show fs.length + 1 ≤ j + 1;omega,fun f hf=>?_⟩,?_⟩
      ·rcases List.mem_append.mp hf with z | z
       ·exact hgood f z
       ·rw [List.mem_singleton.mp z]
        refine ⟨g,hgj,fun i hi e he=>⟨y2 i hi e he,?_,Ex (SG.al g hgm i hi g0 hg0 e d0 he hd0) y1⟩⟩
        have o1:=(D.al e (List.mem_of_getElem? he)).1
        have:=Mz o1.st o1.fi hd.st hd.fi o1.ne hd.ne
        exact (this.symm.trans (y2 i hi e he):mt n d e=false)
      ·exact ⟨_,rfl⟩
     ·simp only [re]
      exact ⟨s4,n4,G4,⟨fs,w4,by omega,hgood⟩,_,_,_,rfl⟩
    ·rintro σ H3 ⟨s4,n4,G4,⟨fs,w4,hfs,hgood⟩,x6,x7,x8,rfl⟩
     exact hD _ _ ⟨s4,n4,G4,⟨fs,w4,hfs,hgood⟩,_,_,_,rfl⟩
   rintro σ3 H3 ⟨s4,n4,G4,⟨fs,w4,hfs,hgood⟩,x6,x7,x8,rfl⟩
   have sH:=s2.trans s4
   have S4:=S.same sH
   have hqg:(qs.map V.ref).length=gs.length:=by rw [List.length_map,G.h2]
   subst zzh
   dsimp only
   refine ic (decide (0 < fs.length) && decide (0 < jg ns (100 + (k:Int)) 3)) (fun Q hQ=>?_) (fun hb=>?_) (fun hb=>?_)
   ·(walk_at "RD")
    refine ⟨_,.inl (SqL.of w4),?_⟩
    rw [List.length_map]
    by_cases c0:0 < fs.length
    ·rw [if_pos (decide_eq_true (by omega))]
     rw [decide_eq_true c0,Bool.true_and] at hQ
     exact ⟨a,ns,_,_,rfl,h63,S4,⟨by omega,by omega⟩,by decide,_,rfl,hQ⟩
    ·rw [if_neg (by rw [decide_eq_true_eq];omega)]
     rw [decide_eq_false c0,Bool.false_and] at hQ
     exact hQ
   ·rw [Bool.and_eq_true,decide_eq_true_eq] at hb
    have e1:=Nd ns (110 + (k:Int)) (m:=(fs.length:Int)) (by omega)
    have e2:=Kd ns (110 + (k:Int)) (m:=(fs.length:Int)) (by omega)
    obtain ⟨u,hu⟩:∃ u:Nat,jg ns (110 + (k:Int)) (fs.length:Int)=(u:Int):=⟨_,(Int.toNat_of_nonneg e1).symm⟩
    have hul:u < fs.length:=by omega
    have hfu:fs[u]? = some fs[u]:=List.getElem?_eq_getElem hul
    generalize hff:fs[u]=f at hfu
    obtain ⟨g,hgf,hgd⟩:=hgood f (List.mem_of_getElem? hfu)
    have hfl':f < gs.length:=(List.getElem?_eq_some_iff.mp hgf).1
    have hqf:qs[f]? = some (qs[f]'(by rw [G.h2];exact hfl')):=List.getElem?_eq_getElem _
    generalize qs[f]'(by rw [G.h2];exact hfl')=qf at hqf
    have eqf:=G4.h5 f qf g hqf hgf
    have aqf:=Eb (xs:=qs.map V.ref) (j:=f) (by rw [List.getElem?_map,hqf];rfl)
    have afu:=Eb (xs:=fs.map fun k:Nat=>V.int k) (j:=u) (v:=.int (f:Int)) (by rw [List.getElem?_map,hfu];rfl)
    have hgl8:=SG.glen (List.mem_of_getElem? hgf)
    have p1:=Nd ns (160 + (k:Int)) (m:=(g.length:Int) + 1) (by omega)
    have p2:=Kd ns (160 + (k:Int)) (m:=(g.length:Int) + 1) (by omega)
    (walk_at "RD")
    obtain ⟨v,hv⟩:∃ v:Nat,jg ns (160 + (k:Int)) ((g.length:Int) + 1)=(v:Int):=⟨_,(Int.toNat_of_nonneg p1).symm⟩
    refine ⟨_,.inl (SqL.of w4),?_⟩
    rw [List.length_map]
    refine ⟨a,ns,_,_,rfl,h63,S4,⟨by omega,by omega⟩,by omega,?_⟩
    rw [hu]
    refine ⟨_,_,rfl,SqL.of w4,_,afu,_,_,rfl,SqL.of G4.h1,_,aqf,.inl ⟨_,SqL.of eqf⟩,_,_,rfl,SqL.of G4.h1,_,aqf,_,rfl,_,.inl (SqL.of eqf),?_⟩
    rw [List.length_map]
    refine ⟨a,ns,_,_,rfl,h63,S4,⟨by omega,by omega⟩,by omega,qf,rfl,_,_,rfl,eqf,?_⟩
    rw [hv,Int.toNat_natCast]
    have hvg:v ≤ g.length:=by omega
    have em:(g.map fun k:Nat=>V.int k).take v ++ V.int (k:Int) :: (g.map fun k:Nat=>V.int k).drop v=(ins g v k).map fun k:Nat=>V.int k:=(aD (fun k:Nat=>V.int k) g v k).symm
    refine ⟨by omega,by omega,by rw [List.length_map];omega,Nat.lt_of_le_of_lt (show (g.map fun k:Nat=>V.int k).length ≤ 8 by rw [List.length_map];omega) (by decide),sH.updN (G4.h6 qf (List.mem_of_getElem? hqf)),n4.upd,?_,_,rfl⟩
    rw [em]
    exact ⟨qs,_,G4.put hqf hfl',SG.put hgf hdk hgd⟩
   ·have p1:=Nd ns (120 + (k:Int)) (m:=(gs.length:Int) + 1) (by omega)
    have p2:=Kd ns (120 + (k:Int)) (m:=(gs.length:Int) + 1) (by omega)
    (walk_at "RD")
    obtain ⟨v,hv⟩:∃ v:Nat,jg ns (120 + (k:Int)) ((gs.length:Int) + 1)=(v:Int):=⟨_,(Int.toNat_of_nonneg p1).symm⟩
    refine ⟨.inl ⟨_,SqL.of G4.h1⟩,_,.inl (SqL.of G4.h1),?_⟩
    rw [hqg]
    refine ⟨a,ns,_,_,rfl,h63,S4,⟨by omega,by omega⟩,by omega,by decide,fun p hp=>⟨_,_,rfl,(pb hp) _ _ G4.h1,?_⟩⟩
    rw [hv,Int.toNat_natCast]
    have hvg:v ≤ gs.length:=by omega
    have em:(qs.map V.ref).take v ++ V.ref p :: (qs.map V.ref).drop v=(ins qs v p).map V.ref:=(aD V.ref qs v p).symm
    refine ⟨by omega,by omega,by rw [hqg];omega,Nat.lt_of_le_of_lt (show (qs.map V.ref).length ≤ 8 by rw [hqg];omega) (by decide),(sH.trans (pb hp)).updN hgl,(n4.upd).upd,?_,_,rfl⟩
    rw [em]
    exact ⟨_,_,G4.new (g:=[k]) sH hp hvg,SG.new v⟩
  ·rintro σ H' ⟨s2,n2,⟨qs,gs,G,SG⟩,x4,x5,x6,x7,x8,rfl⟩
   exact hD _ _ ⟨s2,n2,⟨qs,gs,G,SG⟩,_,_,_,_,_,rfl⟩
 rintro σ2 H2 ⟨s2,n2,⟨qs,gs,G,SG⟩,x4,x5,x6,x7,x8,rfl⟩
 subst zzh
 simp only [Cb]
 refine zzC (fun σ' H'=>ac H2 H'∧NoT H'∧∃ sl,H2 sl=none∧H' sl=some (.lst [])∧σ'=[some (.ref a),some (.int n),some (.ref wl),some (.ref gl),x4,x5,x6,x7,x8,some (.ref sl),none,none]) (fun D' hD=>?_) fun zzM zzh=>?_
 ·(walk_at "RD")
  exact ⟨Nat.zero_le _,fun sl hsl=>hD _ _ ⟨pb hsl,n2.upd,sl,hsl,db,rfl⟩⟩
 rintro σ3 H3 ⟨s3,n3,sl,hsl,w3,rfl⟩
 have gl8:=SG.len
 have hqg:(qs.map V.ref).length=gs.length:=by rw [List.length_map,G.h2]
 subst zzh
 simp only [Cb]
 refine zzC (fun σ' H'=>ac H2 H'∧NoT H'∧(∃ qt sts,kC H' sl qt qs sts∧gL n ds sts)∧∃ x6 x8 x10 x11,σ'=[some (.ref a),some (.int n),some (.ref wl),some (.ref gl),x4,x5,x6,x7,x8,some (.ref sl),x10,x11]) (fun D' hD=>?_) fun zzM zzh=>?_
 ·(walk_at "RD")
  refine ⟨_,.inl (SqL.of (s3 _ _ G.h1)),by omega,by rw [hqg];omega,?_⟩
  rw [show (((qs.map V.ref).length:Nat):Int).toNat=gs.length by rw [hqg];rfl]
  refine kj.range (fun j σ H'=>ac H2 H'∧NoT H'∧(∃ (qt:List Addr) (sts:List SX),H' sl=some (.lst (qt.map V.ref))∧qt.length=j∧sts.length=j∧(∀ (i:Nat) (q:Addr) (s:SX),qt[i]? = some q→sts[i]? = some s→∃ m,qs[i]? = some m∧H' q=some (.tup [.int s.lo,.int s.hi,.ref m]))∧sts.map (·.ix)=gs.take j∧∀ s ∈ sts,(∀ i ∈ s.ix,∀ d,ds[i]? = some d→d.least ≤ s.lo)∧1 ≤ s.lo∧s.lo ≤ 21∧s.lo ≤ s.hi∧s.hi ≤ 40)∧∃ x6 x8 x10 x11,σ=[some (.ref a),some (.int n),some (.ref wl),some (.ref gl),x4,x5,x6,x7,x8,some (.ref sl),x10,x11]) ⟨s3,n3,⟨[],[],w3,rfl,rfl,fun i q s h=>by simp at h,by rw [List.take_zero];rfl,fun s h=>by simp at h⟩,_,_,_,_,rfl⟩ ?_ ?_
  ·rintro j σ H' hj ⟨s4,n4,⟨qt,sts,w4,hqt,hst,hal,hix,hbd⟩,x6,x8,x10,x11,rfl⟩
   have hgj:gs[j]? = some gs[j]:=List.getElem?_eq_getElem hj
   have hqj:qs[j]? = some (qs[j]'(by rw [G.h2];exact hj)):=List.getElem?_eq_getElem _
   generalize qs[j]'(by rw [G.h2];exact hj)=qj at hqj
   generalize hgg:gs[j]=g at hgj
   have hgm:=List.mem_of_getElem? hgj
   have hin:∀ i ∈ g,∃ e,ds[i]? = some e:=fun i hi=>⟨_,List.getElem?_eq_getElem (SG.lt hgm hi)⟩
   have G4:=G.same s4
   have eqj:=G4.h5 j qj g hqj hgj
   have aqj:=Eb (xs:=qs.map V.ref) (j:=j) (by rw [List.getElem?_map,hqj];rfl)
   have sH:=s2.trans s4
   have S4:=S.same sH
   have l14:=sH _ _ l1
   have hg8:=SG.glen hgm
   obtain ⟨la,hla⟩:∃ la:Nat→Int,la=fun i=>((ds[i]?).map (·.least)).getD 0:=⟨_,rfl⟩
   have hlaE:∀ i e,ds[i]? = some e→la i=e.least:=fun i e he=>by rw [hla];show ((ds[i]?).map (·.least)).getD 0=_;rw [he];rfl
   obtain ⟨mx,hm1,hm2⟩:=JC (g.map la) (fun z=>SG.ne g hgm (List.map_eq_nil_iff.mp z))
   have hmx:1 ≤ mx∧mx ≤ 4:=by
    obtain ⟨i,hi,rfl⟩:=List.mem_map.mp hm1
    obtain ⟨e,he⟩:=hin i hi
    rw [hlaE i e he]
    exact ⟨(D.al e (List.mem_of_getElem? he)).1.le.1,hle e (List.mem_of_getElem? he)⟩
   have d1:=Nd ns (130 + (j:Int)) (m:=3) (by decide)
   have d2:=Kd ns (130 + (j:Int)) (m:=3) (by decide)
   simp only [De,Cb,List.set_cons_succ,List.set_cons_zero,Int.zero_add]
   refine zzC (fun σ' H4=>ac H' H4∧NoT H4∧∃ lo:Int,(mx ≤ lo∧lo ≤ mx + 2)∧σ'=[some (.ref a),some (.int n),some (.ref wl),some (.ref gl),x4,x5,some (.int (j:Int)),x7,x8,some (.ref sl),some (.int lo),x11]) (fun D' hD=>?_) fun zzM zzh=>?_
   ·(walk_at "RD")
    refine ⟨_,SqL.of G4.h1,_,aqj,_,rfl,⟨_,SqL.of eqj⟩,?_⟩
    refine Xc.list_zs (xs:=g.map fun k:Nat=>V.int k) (zs:=(g.map la).map V.int) (SqL.of eqj) (Nat.le_trans (show (g.map fun k:Nat=>V.int k).length ≤ 8 by rw [List.length_map];omega) (by decide)) (by rw [List.length_map,List.length_map,List.length_map]) (fun l v z N hv hz hN=>?_) (fun pl hpl=>?_)
    ·obtain ⟨i,hi,rfl⟩:=Kb hv
     obtain ⟨y,hy,rfl⟩:=Kb hz
     obtain ⟨i',hi',rfl⟩:=Kb hy
     rw [hi] at hi'
     cases hi'
     obtain ⟨e,he⟩:=hin i (List.mem_of_getElem? hi)
     obtain ⟨wi,ai,ewi⟩:=wAt i e he
     rw [hlaE i e he] at hN
     (walk_at "RD")
     exact ⟨Sub.name,_,SqL.of l14,_,ai,_,rfl,_,SqT.of (sH _ _ ewi),_,Eb (j:=6) rfl,hN⟩
    ·have sP:=pb (o:=.lst ((g.map la).map V.int)) hpl
     refine ⟨_,rfl,_,SqL.of db,mx,hm1,hm2,a,ns,_,_,rfl,h63,S4.same sP,⟨by omega,by omega⟩,by decide,_,rfl,hD _ _ ⟨sP,n4.upd,_,⟨by omega,by omega⟩,rfl⟩⟩
   rintro σ4 H4 ⟨s5,n5,lo0,hlo0,rfl⟩
   have S5:=S4.same s5
   subst zzh
   simp only [Cb]
   refine zzC (fun σ' H5=>H5=H4∧∃ lo:Int,(mx ≤ lo∧lo ≤ 21)∧σ'=[some (.ref a),some (.int n),some (.ref wl),some (.ref gl),x4,x5,some (.int (j:Int)),x7,x8,some (.ref sl),some (.int lo),x11]) (fun D' hD=>?_) fun zzM zzh=>?_
   ·refine ic (decide (jg ns (150 + (j:Int)) 12=0)) (fun Q hQ=>?_) (fun _=>?_) (fun _=>?_)
    ·(walk_at "RD")
     refine ⟨a,ns,_,_,rfl,h63,S5,⟨by omega,by omega⟩,by decide,rfl,?_⟩
     rw [show decide (V.int (jg ns (150 + (j:Int)) 12)=V.int 0)=decide (jg ns (150 + (j:Int)) 12=0) from decide_eq_decide.mpr (by simp)]
     exact hQ
    ·(walk_at "RD")
     exact hD _ _ ⟨rfl,_,by omega,rfl⟩
    ·simp only [re]
     exact hD _ _ ⟨rfl,_,by omega,rfl⟩
   rintro σ5 H5 ⟨rfl,lo,hlo,rfl⟩
   have m1:=Nd ns (180 + (j:Int)) (m:=6) (by decide)
   have m2:=Kd ns (180 + (j:Int)) (m:=6) (by decide)
   subst zzh
   simp only [Cb]
   refine zzC (fun σ' H6=>ac H5 H6∧NoT H6∧∃ mo:Int,(1 ≤ mo∧mo ≤ 20)∧σ'=[some (.ref a),some (.int n),some (.ref wl),some (.ref gl),x4,x5,some (.int (j:Int)),x7,x8,some (.ref sl),some (.int lo),some (.int mo)]) (fun D' hD=>?_) fun zzM zzh=>?_
   ·obtain ⟨mo,hmo,hat⟩:=HL m1 m2
    (walk_at "RD")
    exact ⟨by decide,fun p hp=>⟨a,ns,_,_,rfl,h63,S5.same (pb hp),⟨by omega,by omega⟩,by decide,_,_,rfl,SqL.of db,_,hat,hD _ _ ⟨pb hp,n5.upd,mo,hmo,rfl⟩⟩⟩
   rintro σ6 H6 ⟨s6,n6,mo,hmo,rfl⟩
   have s46:=s5.trans s6
   have S6:=S5.same s6
   have w6:=s46 _ _ w4
   have y1:=Nd ns (140 + (j:Int)) (m:=mo) (by omega)
   have y2:=Kd ns (140 + (j:Int)) (m:=mo) (by omega)
   subst zzh
   (walk_at "RD")
   refine ⟨.inl ⟨_,SqL.of w6⟩,a,ns,_,_,rfl,h63,S6,⟨by omega,by omega⟩,by omega,_,rfl,_,SqL.of (s46 _ _ G4.h1),_,aqj,by decide,fun p hp=>⟨_,(pb hp) _ _ w6,Nat.lt_of_le_of_lt (show (qt.map V.ref).length ≤ 8 by rw [List.length_map];omega) (by decide),((s4.trans s46).trans (pb hp)).updN hsl,(n6.upd).upd,⟨qt ++ [p],by rw [db,List.map_append];rfl,by rw [List.length_append,hqt];rfl,sts ++ [⟨lo,lo + jg ns (140 + (j:Int)) mo,g⟩],by rw [List.length_append,hst];rfl,fun i q s a1 a2=>?_,?_,fun s hs=>?_⟩,?_⟩⟩
   ·have hps:sl ≠ p:=vb w6 hp
    rcases lg a1 with ⟨b1,b2⟩ | ⟨b1,rfl⟩
    ·rcases lg a2 with ⟨c1,c2⟩ | ⟨c1,_⟩
     ·obtain ⟨m,hm,e⟩:=hal i q s b2 c2
      have e6:=s46 _ _ e
      refine ⟨m,hm,?_⟩
      rw [lb (Xd e6 w6 (by intro z;cases z)),lb (vb e6 hp)]
      exact e6
     ·omega
    ·rcases lg a2 with ⟨c1,_⟩ | ⟨_,rfl⟩
     ·omega
     ·refine ⟨qj,by rw [b1,hqt];exact hqj,?_⟩
      rw [lb (Ne.symm hps),db]
   ·rw [List.map_append,hix,List.take_add_one,hgj]
    rfl
   ·rcases List.mem_append.mp hs with z | z
    ·exact hbd s z
    ·rw [List.mem_singleton.mp z]
     refine ⟨fun i hi e he=>?_,by show 1 ≤ lo;omega,hlo.2,by show lo ≤ lo + jg ns (140 + (j:Int)) mo;omega,by show lo + jg ns (140 + (j:Int)) mo ≤ 40;omega⟩
     have:=hm2 (la i) (List.mem_map.mpr ⟨i,hi,rfl⟩)
     rw [hlaE i e he] at this
     show e.least ≤ lo
     omega
   ·repeat (first | exact ⟨_,rfl⟩ | refine ⟨⟨_,rfl⟩,?_⟩)
  ·rintro σ H' ⟨s4,n4,⟨qt,sts,w4,hqt,hst,hal,hix,hbd⟩,x6,x8,x10,x11,rfl⟩
   rw [List.take_length] at hix
   have G4:=G.same s4
   refine hD _ _ ⟨s4,n4,⟨qt,sts,⟨w4,by omega,by rw [G.h2];omega,fun i q m s a1 a2 a3=>?_⟩,⟨by rw [hix];exact SG,fun s hs=>(hbd s hs).1,fun s hs=>(hbd s hs).2⟩⟩,_,_,_,_,rfl⟩
   obtain ⟨m',hm',e⟩:=hal i q s a1 a3
   rw [a2] at hm'
   cases hm'
   refine ⟨e,G4.h5 i m s.ix a2 ?_⟩
   rw [← hix,List.getElem?_map,a3]
   rfl
 rintro σ4 H4 ⟨s4,n4,⟨qt,sts,SQ,S30⟩,x6,x8,x10,x11,rfl⟩
 subst zzh
 (walk_at "RD")
 exact q sl qt qs sts H4 (s2.trans s4) n4 SQ S30
end
end My
namespace My
open PySem L2
noncomputable def nmI (ds:List WD) (i:Nat):Str:=((ds[i]?).map (·.name)).getD (Str.ofString "")
noncomputable def Ai (ds:List WD) (s:SX):List Str:=s.ix.map (nmI ds)
noncomputable def yd (ds:List WD) (s:SX):List Str:=[Str.ofString "stage",num s.lo,num s.hi] ++ Ai ds s
noncomputable def Td (ds:List WD) (sts:List SX):List (List Str):=sts.map (yd ds)
noncomputable def Rp (ds:List WD) (sts:List SX):Str:=Str.join nl ((Td ds sts).map (Str.join bk))
structure eK (ds:List WD) (sts:List SX):Prop where
 ln:sts.length ≤ 8
 bd:∀ s ∈ sts,(0 ≤ s.lo∧s.lo < 1000)∧(0 ≤ s.hi∧s.hi < 1000)∧s.ix ≠ []∧s.ix.length ≤ 8∧∀ i ∈ s.ix,∃ d,ds[i]? = some d
 nm:∀ d ∈ ds,d.name.length ≤ 8
theorem jE (ds:List WD) (s:SX) (h:s.ix ≠ []):Str.ofString "stage " ++ num s.lo ++ Str.ofString " " ++ num s.hi ++ Str.ofString " " ++ Str.join bk (Ai ds s)=Str.join bk (yd ds s):=by
 apply Ft
 have e1:(Str.ofString "stage ").cps.toList=[115,116,97,103,101,32]:=by decide +kernel
 have e2:(Str.ofString "stage").cps.toList=[115,116,97,103,101]:=by decide +kernel
 have e3:(Str.ofString " ").cps.toList=[32]:=by decide +kernel
 unfold yd Ai
 obtain ⟨i,r,hc⟩:=List.exists_cons_of_ne_nil h
 rw [hc,ZE,gk]
 simp only [Str.cps_append,Array.toList_append,gk,List.map_cons,List.map_nil,List.cons_append,List.nil_append,jl,e1,e2,e3,List.append_assoc]
noncomputable def Xy:Sp:=fun vs H Q _=>∃ wl ds sl qs ms sts,vs=[.ref wl,.ref sl]∧LW H wl ds∧kC H sl qs ms sts∧eK ds sts∧NoT H∧Q (.str (Rp ds sts)) H
noncomputable def IC:Sp:=fun vs H Q _=>∃ wl ds sl qs ms sts,vs=[.ref wl,.ref sl]∧LW H wl ds∧kC H sl qs ms sts∧eK ds sts∧∀ H',ac H H'→Q (.str (Rp ds sts)) H'
section
variable {P:Program} {w:World} {K:PySem.W.Frag} {mg:Str→Option Value} {base:Heap} {t:Adr}
theorem EF (T:Txt w K mg t):Jb P w K mg base CX0 1 t.se t.pe ["_law_ways_here","_law_stages_here"] Xy:=by
 refine Jb.forget (sp:=IC) ?_ fun vs H Q E h=>?_
 ·refine T.rf.ok sd (fun vs H Q E h=>?_) (fun cdv A outer s H vs Q E hr h=>?_)
  ·obtain ⟨wl,ds,sl,qs,ms,sts,rfl,_⟩:=h;rfl
  obtain ⟨wl,ds,sl,qs,ms,sts,rfl,⟨ql,l1,l2,lal⟩,SQ,X,q⟩:=h
  have hX:=X.ln
  have wAt:∀ (i:Nat) (d:WD),ds[i]? = some d→∃ wq,atI (ql.map V.ref) (i:Int)=some (.ref wq)∧H wq=some (.tup (qw d)):=fun i d hd=>by
   have hqi:ql[i]? = some (ql[i]'(by rw [l2];exact (List.getElem?_eq_some_iff.mp hd).1)):=List.getElem?_eq_getElem _
   exact ⟨_,Eb (by rw [List.getElem?_map,hqi];rfl),lal i _ d hqi hd⟩
  have bigT:∀ k:Nat,k ≤ 1000→k ≤ sizeLine:=fun k h=>Nat.le_trans h (by decide)
  refine ⟨_,(fb (Hb (i:=2) sd.nd rfl (Or.inl rfl) (ve gb))
   (fb (Ge PassesOwn.never rfl (Lc (pv 1)) (kg (K:=K) (n:=3) rfl rfl (Sb (zb (i:=3) sd.nd rfl (Or.inl rfl) (.inl rfl)) (Sb (zb (i:=4) sd.nd rfl (Or.inl rfl) (.inl rfl)) (Sb (zb (i:=5) sd.nd rfl (Or.inl rfl) (.inl rfl)) vg)))) (ib (Ub (rg PySem.F.plainAttrs_list PySem.F.slot_list_append PySem.F.type_list_append ge (pv 2) (cb (Mb ld (Mb ld (Mb ld (Mb ld (Mb ld zc (bf fg rfl T.fB si (cb (pv 3) gb))) zc) (bf fg rfl T.fB si (cb (pv 4) gb))) zc) (rg PySem.F.plainAttrs_str PySem.F.slot_str_join PySem.F.type_str_join zp zc (cb (zd rfl (Lc (pv 5)) (fc (sc:=jb cf) rfl (by decide +kernel)) (N:=["_law_i","_law_ways_here"]) (sel:=[none,some 0]) (Jc (M:=["_law_ways_here","_law_stages_here","_law_rows","_law_low","_law_high","_law_some"]) (by decide +kernel)) (Blk.of (fun _ _ _ _=>(zb (i:=0) (ke (N:=["_law_i","_law_ways_here"]) (by decide +kernel) rfl) rfl (Or.inl rfl))) (fun _ _ _ _=>⟨_,Qd,by first | rfl | (dsimp only [Cx.block];done) | (dsimp only [Cx.block];exact rfl)⟩) (fun _ _ _ _=>⟨_,(Gc je (Gc xc (pv 1) (pv 0) (fun _ _=>rfl)) qb (fun _ _=>rfl)),by first | rfl | (dsimp only [Cx.block];done) | (dsimp only [Cx.block];exact rfl)⟩))) gb))) gb)))))
   (ib (Lb (rg PySem.F.plainAttrs_str PySem.F.slot_str_join PySem.F.type_str_join zp zc (cb (pv 2) gb)))))),?_⟩
  simp only [Cb]
  refine zzC (fun σ' H'=>ac H H'∧∃ rl,H rl=none∧H' rl=some (.lst (wb []))∧σ'=[some (.ref wl),some (.ref sl),some (.ref rl),none,none,none]) (fun D' hD=>?_) fun zzM zzh=>?_
  ·(walk_at "RD")
   exact ⟨Nat.zero_le _,fun rl hrl=>hD _ _ ⟨pb hrl,rl,hrl,db,rfl⟩⟩
  rintro σ1 H1 ⟨s1,rl,hrl,w1,rfl⟩
  subst zzh
  simp only [Cb]
  refine zzC (fun σ' H'=>ac H H'∧H' rl=some (.lst (wb ((Td ds sts).map (Str.join bk))))∧∃ x3 x4 x5,σ'=[some (.ref wl),some (.ref sl),some (.ref rl),x3,x4,x5]) (fun D' hD=>?_) fun zzM zzh=>?_
  ·(walk_at "RD")
   refine ⟨⟨_,SqL.of (s1 _ _ SQ.at_)⟩,?_⟩
   refine kj.list (xs:=qs.map V.ref) (fun i σ H'=>ac H H'∧H' rl=some (.lst (wb ((Td ds (sts.take i)).map (Str.join bk))))∧∃ x3 x4 x5,σ=[some (.ref wl),some (.ref sl),some (.ref rl),x3,x4,x5]) ?_ ?_ ?_ ?_
   ·exact ⟨s1,by rw [List.take_zero];exact w1,_,_,_,rfl⟩
   ·rintro i σ H' hi ⟨sm,_⟩
    exact SqL.of (sm _ _ SQ.at_)
   ·rintro i v σ H' hv ⟨sm,w2,x3,x4,x5,rfl⟩
    obtain ⟨qi,hqi,rfl⟩:=Kb hv
    have hi:i < sts.length:=by rw [← SQ.l1];exact (List.getElem?_eq_some_iff.mp hqi).1
    have hsi:sts[i]? = some sts[i]:=List.getElem?_eq_getElem hi
    have hmi:ms[i]? = some (ms[i]'(by rw [SQ.l2];exact hi)):=List.getElem?_eq_getElem _
    obtain ⟨e1,e2⟩:=SQ.al i qi _ _ hqi hmi hsi
    generalize ms[i]'(by rw [SQ.l2];exact hi)=m at hmi e1 e2
    generalize hss:sts[i]=s at hsi e1 e2
    obtain ⟨blo,bhi,bne,bln,bix⟩:=X.bd s (List.mem_of_getElem? hsi)
    have h1:=Yo (n:=s.lo) (by omega) (by omega)
    have h2:=Yo (n:=s.hi) (by omega) (by omega)
    have t1:(Str.ofString "stage ").length=6:=by decide +kernel
    have t2:(Str.ofString " ").length=1:=by decide +kernel
    have hmem:∀ y ∈ Ai ds s,y.length ≤ 8:=fun y hy=>by
     obtain ⟨k,hk,rfl⟩:=List.mem_map.mp hy
     obtain ⟨d,hd⟩:=bix k hk
     unfold nmI
     rw [hd]
     exact X.nm d (List.mem_of_getElem? hd)
    have hjl:(Str.join bk (Ai ds s)).length ≤ 100:=by
     have:=Ei bk 8 (Ai ds s) hmem
     rw [Tn] at this
     have hl:(Ai ds s).length=s.ix.length:=by unfold Ai;rw [List.length_map]
     have:(Ai ds s).length * 9 ≤ 72:=by omega
     omega
    (walk_at "RD")
    refine ⟨_,SqT.of (sm _ _ e1),rfl,_,_,rfl,_,_,rfl,_,_,rfl,rfl,.inl ⟨_,SqL.of w2⟩,_,rfl,vn (by omega),bigT _ (by rw [t1];omega),bigT _ (by simp only [Rh,t1,t2];omega),_,rfl,vn (by omega),bigT _ (by simp only [Rh,t1,t2];omega),bigT _ (by simp only [Rh,t1,t2];omega),m,rfl,⟨_,SqL.of (sm _ _ e2)⟩,?_⟩
    refine Xc.list_zs (xs:=s.ix.map fun k:Nat=>V.int k) (zs:=wb (Ai ds s)) (SqL.of (sm _ _ e2)) (Nat.le_trans (show (s.ix.map fun k:Nat=>V.int k).length ≤ 8 by rw [List.length_map];exact bln) (by decide)) (by rw [Nb,List.length_map];unfold Ai;rw [List.length_map]) (fun l v z N hv hz hN=>?_) (fun pl hpl=>?_)
    ·obtain ⟨k,hk,rfl⟩:=Kb hv
     unfold wb Ai at hz
     obtain ⟨y,hy,rfl⟩:=Kb hz
     obtain ⟨k',hk',rfl⟩:=Kb hy
     rw [hk] at hk'
     cases hk'
     obtain ⟨d,hd⟩:=bix k (List.mem_of_getElem? hk)
     obtain ⟨wq,aq,eq⟩:=wAt k d hd
     have hnk:nmI ds k=d.name:=by unfold nmI;rw [hd];rfl
     rw [hnk] at hN
     (walk_at "RD")
     exact ⟨Sub.name,_,SqL.of (sm _ _ l1),_,aq,_,rfl,_,SqT.of (sm _ _ eq),_,Eb (j:=1) rfl,hN⟩
    ·have hml:(Ai ds s).length ≤ 8:=by unfold Ai;rw [List.length_map];exact bln
     refine ⟨pl,rfl,Ai ds s,SqL.of db,?_,?_⟩
     ·have:=ly hmem
      rw [t2]
      omega
     ·rw [show Txt.join (Str.ofString " ") (Ai ds s)=Str.join bk (Ai ds s) from StrLaws.glued_eq_join _ _]
      have hrow:=jE ds s bne
      have hil:(wb ((Td ds (sts.take i)).map (Str.join bk))).length ≤ 8:=by
       unfold wb Td
       rw [List.length_map,List.length_map,List.length_map,List.length_take]
       omega
      refine ⟨bigT _ (by simp only [Rh,t1,t2];omega),_,(pb hpl) _ _ w2,Nat.lt_of_le_of_lt hil (by decide),(sm.trans (pb hpl)).updN hrl,?_,?_⟩
      ·rw [db,hrow,List.take_add_one,hsi]
       unfold Td wb
       rw [List.map_append,List.map_append,List.map_append]
       rfl
      ·repeat (first | exact ⟨_,rfl⟩ | refine ⟨⟨_,rfl⟩,?_⟩)
   ·rintro σ H' ⟨sm,w2,x3,x4,x5,rfl⟩
    rw [List.length_map,SQ.l1,List.take_length] at w2
    exact hD _ _ ⟨sm,w2,_,_,_,rfl⟩
  rintro σ2 H2 ⟨s2,w2,x3,x4,x5,rfl⟩
  subst zzh
  (walk_at "RD")
  have hB:∀ y ∈ (Td ds sts).map (Str.join bk),y.length ≤ 200:=fun y hy=>by
   obtain ⟨r,hr',rfl⟩:=List.mem_map.mp hy
   obtain ⟨s,hs,rfl⟩:=List.mem_map.mp hr'
   obtain ⟨blo,bhi,bne,bln,bix⟩:=X.bd s hs
   have h1:=Yo (n:=s.lo) (by omega) (by omega)
   have h2:=Yo (n:=s.hi) (by omega) (by omega)
   have hmem:∀ y ∈ yd ds s,y.length ≤ 8:=fun y hy=>by
    unfold yd at hy
    rcases List.mem_append.mp hy with z | z
    ·have z:y=Str.ofString "stage" ∨ y=num s.lo∨y=num s.hi:=by simpa using z
     rcases z with rfl | rfl | rfl
     ·decide +kernel
     ·exact Nat.le_trans h1 (by decide)
     ·exact Nat.le_trans h2 (by decide)
    ·obtain ⟨k,hk,rfl⟩:=List.mem_map.mp z
     obtain ⟨d,hd⟩:=bix k hk
     unfold nmI
     rw [hd]
     exact X.nm d (List.mem_of_getElem? hd)
   have:=Ei bk 8 (yd ds s) hmem
   rw [Tn] at this
   have hl:(yd ds s).length ≤ 11:=by
    unfold yd Ai
    rw [List.length_append,List.length_map]
    show 3 + s.ix.length ≤ 11
    omega
   omega
  refine ⟨_,SqL.of w2,?_,?_⟩
  ·have:=ly hB
   rw [show (Str.ofString "\n").length=1 by decide +kernel]
   have hl:((Td ds sts).map (Str.join bk)).length ≤ 8:=by
    unfold Td
    rw [List.length_map,List.length_map]
    exact hX
   omega
  ·rw [show Txt.join (Str.ofString "\n") ((Td ds sts).map (Str.join bk))=Str.join nl ((Td ds sts).map (Str.join bk)) from StrLaws.glued_eq_join _ _]
   exact q _ s2
 ·obtain ⟨wl,ds,sl,qs,ms,sts,rfl,L,SQ,X,nt,q⟩:=h
  exact ⟨nt,wl,ds,sl,qs,ms,sts,rfl,L,SQ,X,fun H' sm=>⟨sm,q⟩⟩
end
end My
namespace My
open PySem L2
noncomputable def ZI (ds:List WD) (s:SX):ST:=⟨s.lo,s.hi,Ai ds s⟩
noncomputable def He (ds:List WD) (sts:List SX):List ST:=sts.map (ZI ds)
theorem Pk {ds:List WD} {i:Nat} {d:WD} (h:ds[i]? = some d):nmI ds i=d.name:=by unfold nmI;rw [h];rfl
theorem rB {ds:List WD} (nd:(ds.map (·.name)).Nodup) {i j:Nat} (hi:i < ds.length) (hj:j < ds.length) (e:nmI ds i=nmI ds j):i=j:=by
 rw [Pk (List.getElem?_eq_getElem hi),Pk (List.getElem?_eq_getElem hj)] at e
 exact Ds nd hi hj (by rw [ko (List.getElem?_eq_getElem hi),ko (List.getElem?_eq_getElem hj)];exact e)
structure P30 (n:Int) (ds:List WD) (sts:List SX):Prop where
 nd:(ds.map (·.name)).Nodup
 s30:gL n ds sts
 l6:ds.length ≤ 6
 l1:1 ≤ ds.length
 ok:∀ d ∈ ds,WOk n d
theorem P30.fl {n:Int} {ds:List WD} {sts:List SX} (h:P30 n ds sts):(sts.map (·.ix)).flatten.Nodup:=h.s30.sg.pm.nodup_iff.mpr List.nodup_range
theorem P30.lt {n:Int} {ds:List WD} {sts:List SX} (h:P30 n ds sts) {s:SX} (hs:s ∈ sts) {i:Nat} (hi:i ∈ s.ix):i < ds.length:=h.s30.sg.lt (List.mem_map.mpr ⟨s,hs,rfl⟩) hi
theorem P30.len {n:Int} {ds:List WD} {sts:List SX} (h:P30 n ds sts):sts.length ≤ 6:=by
 have:=h.s30.sg.len.1
 rw [List.length_map] at this
 have:=h.l6
 omega
theorem P30.sx {n:Int} {ds:List WD} {sts:List SX} (h:P30 n ds sts):eK ds sts:=by
 refine ⟨by have:=h.len;omega,fun s hs=>?_,fun d hd=>((Ye (h.ok d hd).nm).1).2⟩
 have b:=h.s30.bd s hs
 have hm:s.ix ∈ sts.map (·.ix):=List.mem_map.mpr ⟨s,hs,rfl⟩
 have hg:=h.s30.sg.glen hm
 have:=h.l6
 exact ⟨⟨by omega,by omega⟩,⟨by omega,by omega⟩,h.s30.sg.ne _ hm,by omega,fun i hi=>⟨_,List.getElem?_eq_getElem (h.lt hs hi)⟩⟩
theorem P30.mnd {n:Int} {ds:List WD} {sts:List SX} (h:P30 n ds sts) {s:SX} (hs:s ∈ sts):(Ai ds s).Nodup:=by
 have hx:s.ix.Nodup:=h.fl.sublist (List.sublist_flatten_of_mem (List.mem_map.mpr ⟨s,hs,rfl⟩))
 unfold Ai
 refine List.pairwise_map.mpr (List.Pairwise.imp_of_mem (fun {a b} ha hb hab e=>?_) hx)
 exact hab (rB h.nd (h.lt hs ha) (h.lt hs hb) e)
theorem P30.told {n:Int} {ds:List WD} {sts:List SX} (h:P30 n ds sts) {i:Nat} {s:SX} (hs:sts[i]? = some s) {x:Str} (hx:x ∈ Ai ds s):told (He ds (sts.take i)) x=false:=by
 cases e:My.told (He ds (sts.take i)) x with
 | false=>rfl
 | true=>
  exfalso
  unfold My.told at e
  obtain ⟨r,hr,hc⟩:=List.any_eq_true.mp e
  obtain ⟨s',hs',rfl⟩:=List.mem_map.mp hr
  have hc:x ∈ Ai ds s':=by simpa [ZI] using hc
  obtain ⟨k,hk,rfl⟩:=List.mem_map.mp hx
  obtain ⟨k',hk',ek⟩:=List.mem_map.mp hc
  have:=rB h.nd (h.lt (List.mem_of_mem_take hs') hk') (h.lt (List.mem_of_getElem? hs) hk) ek
  subst this
  obtain ⟨hi,hsi⟩:=List.getElem?_eq_some_iff.mp hs
  have hf:=h.fl
  rw [← List.take_append_drop i sts,List.map_append,List.flatten_append,List.drop_eq_getElem_cons hi,hsi,List.map_cons,List.flatten_cons] at hf
  exact (List.nodup_append.mp hf).2.2 k' (List.mem_flatten.mpr ⟨s'.ix,List.mem_map.mpr ⟨s',hs',rfl⟩,hk'⟩) k' (List.mem_append_left _ hk) rfl
theorem Vx {alike:List Str}:∀ {r:List Str} {j:Nat} {ms:List Str},(∀ x ∈ r,x ∈ alike)→(ms ++ r).Nodup→EE alike r j ms=.ok (ms ++ r)
 | [],j,ms,_,_=>by
  show Except.ok ms=_
  rw [List.append_nil]
 | x :: r,j,ms,ha,hn=>by
  unfold EE
  have hx:x ∉ ms:=fun z=>(List.nodup_append.mp hn).2.2 x z x (List.mem_cons_self ..) rfl
  rw [if_pos ⟨ha x (List.mem_cons_self ..),hx⟩,Vx (fun y hy=>ha y (List.mem_cons_of_mem _ hy)) (by rw [List.append_assoc];exact hn),List.append_assoc]
  rfl
theorem P30.left {n:Int} {ds:List WD} {sts:List SX} (h:P30 n ds sts) {i:Nat} {s:SX} (hs:sts[i]? = some s) {x:Str} (hx:x ∈ Ai ds s):x ∈ Ze ds (He ds (sts.take i)):=by
 unfold Ze
 refine List.mem_filter.mpr ⟨?_,by rw [h.told hs hx];rfl⟩
 obtain ⟨k,hk,rfl⟩:=List.mem_map.mp hx
 have hk':=h.lt (List.mem_of_getElem? hs) hk
 rw [Pk (List.getElem?_eq_getElem hk')]
 exact List.mem_map.mpr ⟨_,List.getElem_mem hk',rfl⟩
theorem P30.stage {n:Int} {ds:List WD} {sts:List SX} (h:P30 n ds sts) {i:Nat} {s:SX} (hs:sts[i]? = some s):Jm ds (He ds (sts.take i)) (yd ds s)=.ok (ZI ds s):=by
 have hm:=List.mem_of_getElem? hs
 have b:=h.s30.bd s hm
 have hne:=h.s30.sg.ne s.ix (List.mem_map.mpr ⟨s,hm,rfl⟩)
 obtain ⟨k,r,hc⟩:=List.exists_cons_of_ne_nil hne
 have hmem:Ai ds s=nmI ds k :: r.map (nmI ds):=by unfold Ai;rw [hc];rfl
 have hw:yd ds s=Str.ofString "stage" :: num s.lo :: num s.hi :: nmI ds k :: r.map (nmI ds):=by unfold yd;rw [hmem];rfl
 have hP:Qz ds (Ze ds (He ds (sts.take i))) (yd ds s)=.ok (Ai ds s):=by
  have hf:nmI ds k ∈ Ai ds s:=by rw [hmem];exact List.mem_cons_self ..
  have h3:wd (yd ds s) 3=nmI ds k:=by rw [hw];rfl
  have h4:(yd ds s).drop 4=r.map (nmI ds):=by rw [hw];rfl
  unfold Qz
  rw [h3,h4,if_pos (h.left hs hf),Vx (fun x hx=>?_) (by have:=h.mnd hm;rw [hmem] at this;exact this),hmem]
  ·rfl
  ·have hxm:x ∈ Ai ds s:=by rw [hmem];exact List.mem_cons_of_mem _ hx
   refine List.mem_filter.mpr ⟨h.left hs hxm,decide_eq_true ?_⟩
   obtain ⟨k2,hk2,rfl⟩:=List.mem_map.mp hx
   have k2i:k2 ∈ s.ix:=by rw [hc];exact List.mem_cons_of_mem _ hk2
   have k1i:k ∈ s.ix:=by rw [hc];exact List.mem_cons_self ..
   have l1:=List.getElem?_eq_getElem (h.lt hm k1i)
   have l2:=List.getElem?_eq_getElem (h.lt hm k2i)
   have al:=h.s30.sg.al s.ix (List.mem_map.mpr ⟨s,hm,rfl⟩) k2 k2i k k1i _ _ l2 l1
   show (wOf ds (nmI ds k2)).map oj=(wOf ds (nmI ds k)).map oj
   rw [Pk l1,Pk l2,cj h.nd l1,cj h.nd l2]
   have:=zk.mp al
   show some (oj _)=some (oj _)
   unfold oj
   by_cases c:(ds[k2]'(h.lt hm k2i)).k=2
   ·rw [if_pos c,if_pos (this.mp c)]
   ·rw [if_neg c,if_neg (fun z=>c (this.mpr z))]
 have h0:wd (yd ds s) 0=Str.ofString "stage" := by rw [hw];rfl
 have h1:wd (yd ds s) 1=num s.lo:=by rw [hw];rfl
 have h2:wd (yd ds s) 2=num s.hi:=by rw [hw];rfl
 have e1:cx (num s.lo) 1 60=some s.lo:=Ht (Fj (by omega) (by omega) (by omega) (by omega))
 have e2:cx (num s.hi) s.lo 60=some s.hi:=Ht (Fj (by omega) (by omega) (by omega) (by omega))
 unfold Jm
 rw [h0,h1,h2,hP,if_pos (List.mem_singleton.mpr rfl),e1]
 show (cx (num s.hi) s.lo 60).elim _ _=_
 rw [e2]
 rfl
theorem P30.parse {n:Int} {ds:List WD} {sts:List SX} (h:P30 n ds sts):∀ (m i:Nat),sts.length - i=m→i ≤ sts.length→rj ds ((Td ds sts).drop i) i (He ds (sts.take i))=.ok (He ds sts)
 | 0,i,hm,hi=>by
  have:i=sts.length:=by omega
  subst this
  have hl:(Td ds sts).length=sts.length:=by unfold Td;rw [List.length_map]
  rw [← hl,List.drop_length,hl,List.take_length]
  rfl
 | m + 1,i,hm,hi=>by
  have hi':i < sts.length:=by omega
  have hs:sts[i]? = some sts[i]:=List.getElem?_eq_getElem hi'
  have hl:i < (Td ds sts).length:=by unfold Td;rw [List.length_map];exact hi'
  have hg:(Td ds sts)[i]=yd ds sts[i]:=(List.getElem?_eq_some_iff.mp (show (Td ds sts)[i]? = some (yd ds sts[i]) by unfold Td;rw [List.getElem?_map,hs];rfl)).2
  rw [List.drop_eq_getElem_cons hl,hg]
  unfold rj
  have h6:=h.len
  rw [if_neg (by unfold He;rw [List.length_map,List.length_take];omega),h.stage hs]
  have ih:=h.parse m (i + 1) (by omega) hi'
  rw [Le hs] at ih
  unfold He at ih ⊢
  rw [List.map_append] at ih
  exact ih
theorem P30.none {n:Int} {ds:List WD} {sts:List SX} (h:P30 n ds sts):(Ze ds (He ds sts)).head? = Option.none∧Fk ds (He ds sts)=Option.none∧Ul n ds (He ds sts)=Option.none:=by
 refine ⟨?_,?_,?_⟩
 ·have:Ze ds (He ds sts)=[]:=by
   unfold Ze
   refine List.filter_eq_nil_iff.mpr fun x hx=>?_
   obtain ⟨d,hd,rfl⟩:=List.mem_map.mp hx
   obtain ⟨k,hk⟩:=List.getElem?_of_mem hd
   have hkl:=(List.getElem?_eq_some_iff.mp hk).1
   have hf:=h.s30.sg.pm.mem_iff.mpr (List.mem_range.mpr hkl)
   obtain ⟨g,hg,hkg⟩:=List.mem_flatten.mp hf
   obtain ⟨s,hs,rfl⟩:=List.mem_map.mp hg
   have:My.told (He ds sts) d.name=true:=by
    unfold My.told
    refine List.any_eq_true.mpr ⟨ZI ds s,List.mem_map.mpr ⟨s,hs,rfl⟩,?_⟩
    have:d.name ∈ Ai ds s:=List.mem_map.mpr ⟨k,hkg,Pk hk⟩
    simpa [ZI] using this
   rw [this]
   simp
  rw [this]
  rfl
 ·unfold Fk
  refine List.findSome?_eq_none_iff.mpr fun d hd=>?_
  unfold lw
  cases hk:UB (He ds sts) d.name with
  | none=>rfl
  | some k=>
   rw [Option.bind_some]
   cases hr:(He ds sts)[k]? with
   | none=>rfl
   | some r=>
    rw [Option.bind_some]
    have hx:My.told (He ds sts) d.name=true:=by
     have:=Tr (He ds sts) d.name
     rw [← this]
     unfold UB at hk
     cases e:nj (ae ((He ds sts).map (·.mem))) (Sum.inr d.name) with
     | none=>rw [e] at hk;cases hk
     | some v=>rfl
    obtain ⟨k',r',_,hk',hr',hm⟩:=cD hx
    rw [hk] at hk'
    cases hk'
    rw [hr] at hr'
    cases hr'
    obtain ⟨s,hs,rfl⟩:=Kb hr
    obtain ⟨i,hi,ei⟩:=List.mem_map.mp hm
    have hsm:=List.mem_of_getElem? hs
    have hil:=h.lt hsm hi
    rw [Pk (List.getElem?_eq_getElem hil)] at ei
    obtain ⟨j,hj⟩:=List.getElem?_of_mem hd
    have:i=j:=Ds h.nd hil (List.getElem?_eq_some_iff.mp hj).1 (by rw [ko (List.getElem?_eq_getElem hil),ko hj,ei])
    subst this
    have:=h.s30.le s hsm i hi d hj
    show (if s.lo < d.least then some (d,k) else Option.none)=Option.none
    rw [if_neg (show ¬ s.lo < d.least by omega)]
 ·unfold Ul
  refine List.findSome?_eq_none_iff.mpr fun e he=>?_
  obtain ⟨r,k⟩:=e
  have hr:r ∈ He ds sts:=List.fst_mem_of_mem_zipIdx he
  obtain ⟨s,hs,rfl⟩:=List.mem_map.mp hr
  unfold wp
  refine List.findSome?_eq_none_iff.mpr fun x hx=>List.findSome?_eq_none_iff.mpr fun y hy=>?_
  obtain ⟨i,hi,rfl⟩:=List.mem_map.mp hx
  obtain ⟨j,hj,rfl⟩:=List.mem_map.mp hy
  unfold Rk
  rw [if_neg]
  rintro ⟨z1,z2⟩
  have li:=List.getElem?_eq_getElem (h.lt hs hi)
  have lj:=List.getElem?_eq_getElem (h.lt hs hj)
  unfold mtN at z2
  rw [Pk li,Pk lj,cj h.nd li,cj h.nd lj] at z2
  have:=h.s30.sg.cm s.ix (List.mem_map.mpr ⟨s,hs,rfl⟩) i hi j hj (fun z=>z1 (by rw [z])) _ _ li lj
  replace z2:mt n _ _=true:=z2
  rw [this] at z2
  cases z2
end My
namespace My
open PySem L2
noncomputable def FG (P:Program) (w:World) (t:Adr):Sp:=fun vs H Q _=>∃ a c n ds rows,∃ k:Nat,∃ r,vs=[.ref a,.int k]∧qe P w t H a c n ds rows∧rows[k]? = some r∧∀ p,H p=none→Q (.ref p) (upd H p (.lst (wb r.mem)))
noncomputable def Wx (P:Program) (w:World) (t:Adr):Sp:=fun vs H Q _=>∃ a c n ds wl sl qs ms sts,vs=[.ref a,.ref wl,.ref sl]∧qe P w t H a c n ds (He ds sts)∧LW H wl ds∧kC H sl qs ms sts∧eK ds sts∧NoT H∧Q (.bl true) H
noncomputable def pB (P:Program) (w:World) (t:Adr):Sp:=fun vs H Q _=>∃ a c n ds wl sl qs ms sts,vs=[.ref a,.ref wl,.ref sl]∧qe P w t H a c n ds (He ds sts)∧LW H wl ds∧kC H sl qs ms sts∧eK ds sts∧∀ H',ac H H'→Q (.bl true) H'
noncomputable def HG (P:Program) (w:World) (t:Adr):Sp:=fun vs H Q _=>∃ c n ds sts,vs=[.ref c,.str (Rp ds sts)]∧Nc t H c n ds∧(4 ≤ n∧n ≤ 99)∧P30 n ds sts∧NoT H∧∀ a H',ac H H'→NoT H'→qe P w t H' a c n ds (He ds sts)→Q (.ref a) H'
theorem qe.same {P:Program} {w:World} {t:Adr} {H H':Hp} {a c:Addr} {n:Int} {ds:List WD} {rows:List ST} (h:qe P w t H a c n ds rows) (s:ac H H'):qe P w t H' a c n ds rows:=by
 obtain ⟨dx,le,mo,me,so,ho,ch,ms,kvs,e1,e2,e3,e4,e5,e6,e7,e8,e9⟩:=h
 exact ⟨dx,le,mo,me,so,ho,ch,ms,kvs,s _ _ e1,e2.same s,s _ _ e3,s _ _ e4,e5.same s,s _ _ e6,s _ _ e7,Bv e8 s,e9⟩
theorem P30.plain {n:Int} {ds:List WD} {sts:List SX} (h:P30 n ds sts):∀ r ∈ Td ds sts,r ≠ []∧r.length ≤ 11∧∀ x ∈ r,et x:=fun r hr=>by
 obtain ⟨s,hs,rfl⟩:=List.mem_map.mp hr
 obtain ⟨blo,bhi,bne,bln,bix⟩:=h.sx.bd s hs
 refine ⟨by unfold yd;simp,?_,fun x hx=>?_⟩
 ·unfold yd Ai
  rw [List.length_append,List.length_map]
  show 3 + s.ix.length ≤ 11
  omega
 ·unfold yd at hx
  rcases List.mem_append.mp hx with z | z
  ·have z:x=Str.ofString "stage" ∨ x=num s.lo∨x=num s.hi:=by simpa using z
   rcases z with rfl | rfl | rfl
   ·unfold et;decide +kernel
   ·exact Gd (by omega) (by omega)
   ·exact Gd (by omega) (by omega)
  ·obtain ⟨k,hk,rfl⟩:=List.mem_map.mp z
   obtain ⟨d,hd⟩:=bix k hk
   rw [Pk hd]
   exact Um (h.ok d (List.mem_of_getElem? hd)).nm
theorem P30.rows {n:Int} {ds:List WD} {sts:List SX} (h:P30 n ds sts) (hne:sts ≠ []):fe (Rp ds sts)=Td ds sts:=by
 unfold Rp
 exact wv (by unfold Td;simpa using hne) (fun r hr=>(h.plain r hr).1) (fun r hr=>(h.plain r hr).2.2)
theorem P30.ne {n:Int} {ds:List WD} {sts:List SX} (h:P30 n ds sts):sts ≠ []:=fun e=>by
 have:=h.s30.sg.len.2
 rw [e] at this
 simp at this
 have:=h.l1
 omega
theorem P30.txt {n:Int} {ds:List WD} {sts:List SX} (h:P30 n ds sts):(Rp ds sts).length ≤ 20000:=by
 have hB:∀ y ∈ (Td ds sts).map (Str.join bk),y.length ≤ 200:=fun y hy=>by
  obtain ⟨r,hr,rfl⟩:=List.mem_map.mp hy
  obtain ⟨_,h2,h3⟩:=h.plain r hr
  have:=Ei bk 8 r fun x hx=>(h3 x hx).1
  rw [Tn] at this
  omega
 have:=Ei nl 200 _ hB
 rw [Qu,List.length_map] at this
 have hl:(Td ds sts).length ≤ 6:=by unfold Td;rw [List.length_map];exact h.len
 unfold Rp
 omega
theorem bD {xs ys:List Str}:∀ x ∈ wb xs,∀ y ∈ wb ys,dL x y=true:=fun x hx y hy=>by
 obtain ⟨i,_,rfl⟩:=List.mem_map.mp hx
 obtain ⟨j,_,rfl⟩:=List.mem_map.mp hy
 rfl
theorem QH {r n:Nat} (h:r < n):seqIndex? (r:Int) n=some r:=by
 unfold seqIndex?
 simp only
 rw [if_neg (show ¬ (r:Int) < 0 by omega),if_pos (by simp;omega),Int.toNat_natCast]
section
variable {P:Program} {w:World} {K:PySem.W.Frag} {mg:Str→Option Value} {base:Heap} {t:Adr}
theorem WK (T:Txt w K mg t):Jb P w K mg base CX0 1 t.Em t.lm ["stages","number"] (FG P w t):=by
 refine T.Ro.ok Kz (fun vs H Q E h=>?_) (fun cdv A outer s H vs Q E hr h=>?_)
 ·obtain ⟨a,c,n,ds,rows,k,r,rfl,_⟩:=h;rfl
 obtain ⟨a,c,n,ds,rows,k,r,rfl,⟨dx,le,mo,me,so,ho,ch,ms,kvs,e1,_,_,_,M,_⟩,hk,q⟩:=h
 have hkm:ms[k]? = some (ms[k]'(by rw [M.ln,List.length_map];exact (List.getElem?_eq_some_iff.mp hk).1)):=List.getElem?_eq_getElem _
 have em:=M.al k _ _ hkm (by rw [List.getElem?_map,hk];rfl)
 refine ⟨_,(ib (Lb (bf Ou rfl T.WG Zo (cb (Gc xc (Ac (pv 0) rfl) (pv 1) (fun _ _=>rfl)) gb)))),?_⟩
 (walk_at "RD")
 exact ⟨_,Zm T e1,_,rfl,_,SqL.of M.at_,_,Eb (by rw [List.getElem?_map,hkm];rfl),_,rfl,_,.inl (SqL.of em),fun l hl=>q l hl⟩
theorem hJ (T:Txt w K mg t):Jb P w K mg base CX0 8 t.tf t.Cf ["crossing","text"] (HG P w t):=by
 refine (pI T).quiet fun vs H Q E h=>?_
 obtain ⟨c,n,ds,sts,rfl,C,hn,X,nt,q⟩:=h
 obtain ⟨z1,z2,z3⟩:=X.none
 have hne:∀ d ∈ ds,d.name ≠ Str.ofString "" := fun d hd e=>by
  have h:=(Ye (X.ok d hd).nm).1.1
  rw [e] at h
  exact absurd h (by decide +kernel)
 have hD:JG ds:=fun d hd=>by
  obtain ⟨h1,h2⟩:=Ye (X.ok d hd).nm
  exact ⟨⟨Nat.le_trans h1.2 (by decide),fun c hc=>by have:=h2 c hc;omega⟩,(X.ok d hd).k,(X.ok d hd).of.1,by have:=(X.ok d hd).of;omega⟩
 have hp:=X.parse sts.length 0 rfl (Nat.zero_le _)
 rw [List.drop_zero,List.take_zero,show He ds []=[] from rfl] at hp
 refine ⟨c,n,ds,_,rfl,C,by omega,hD,hne,X.txt,by rw [X.rows X.ne];unfold Td;rw [List.length_map];have:=X.len;omega,fun r hr=>?_,nt,?_⟩
 ·rw [X.rows X.ne] at hr
  obtain ⟨h1,h2,h3⟩:=X.plain r hr
  exact ⟨h1,by omega,fun y hy=>Nat.le_trans (h3 y hy).1 (by decide)⟩
 ·rw [X.rows X.ne,hp]
  refine ⟨fun _ _ _ a H' s' n' SA=>q a H' s' n' SA,fun x hx=>?_,fun e _ he=>?_,fun e _ _ he=>?_⟩
  ·rw [z1] at hx;cases hx
  ·rw [z2] at he;cases he
  ·rw [z3] at he;cases he
theorem FF (T:Txt w K mg t):Jb P w K mg base CX0 2 t.Ci t.Ui ["_law_plan","_law_ways_here","_law_stages_here"] (Wx P w t):=by
 refine Jb.forget (sp:=pB P w t) ?_ fun vs H Q E h=>?_
 ·have G_ways_in:Jb P w K mg base CX0 1 t.Em t.lm ["stages","number"] (FG P w t):=WK T
  refine T.ll.ok Pj (fun vs H Q E h=>?_) (fun cdv A outer s H vs Q E hr h=>?_)
  ·obtain ⟨a,c,n,ds,wl,sl,qs,ms,sts,rfl,_⟩:=h;rfl
  obtain ⟨a,c,n,ds,wl,sl,qs,ms,sts,rfl,SA,⟨ql,l1,l2,lal⟩,SQ,X,q⟩:=h
  have hU:=hr.units
  have hX:=X.ln
  obtain ⟨dx,le,mo,me,so,ho,ch,ms',kvs,e1,_⟩:=id SA
  have hrl:(He ds sts).length=sts.length:=by unfold He;rw [List.length_map]
  rw [hrl] at e1
  have wAt:∀ (i:Nat) (d:WD),ds[i]? = some d→∃ wq,atI (ql.map V.ref) (i:Int)=some (.ref wq)∧H wq=some (.tup (qw d)):=fun i d hd=>by
   have hqi:ql[i]? = some (ql[i]'(by rw [l2];exact (List.getElem?_eq_some_iff.mp hd).1)):=List.getElem?_eq_getElem _
   exact ⟨_,Eb (by rw [List.getElem?_map,hqi];rfl),lal i _ d hqi hd⟩
  have hqn:(qs.map V.ref).length=sts.length:=by rw [List.length_map,SQ.l1]
  refine ⟨_,(fb (Ie (PW.pt (Gu (Hn (ni (yc Tt rfl T.Bj Df (cb (Ac (pv 0) rfl) (cb (kx (v:=.ty "int") rfl T.SD pk rfl) gb))))) (Gu (ni (yc Tt rfl T.Bj Df (cb (Ac (pv 0) rfl) (cb (kx (v:=.ty "bool") rfl T.xK Mw rfl) gb)))) (Ir (dc tz (Ac (pv 0) rfl) (yc Ob rfl T.bi jc (cb (pv 2) gb)) (Zb _)))))) (ib (Lb Qq)) Kc)
   (fb (Ge PassesOwn.never rfl (Me rfl T.Mh (cb (yc Ob rfl T.bi jc (cb (pv 2) gb)) gb)) (zb (i:=3) Pj.nd rfl (Or.inl rfl)) (fb (Hb (i:=4) Pj.nd rfl (Or.inl rfl) (xb G_ways_in hr rfl T.uA T.Ro.kp T.DA .nil Db (cb (pv 0) (cb (pv 3) gb))))
   (fb (Ie (PW.pt (Gu (Hn (ni (yc Tt rfl T.Bj Df (cb (pv 4) (cb (kx (v:=.ty "list") rfl T.WG Zo rfl) gb))))) (Ir (dc (TK hU) (pv 4) (zd rfl (Lc (Gc je (Gc xc (pv 2) (pv 3) (fun _ _=>rfl)) qb (fun _ _=>rfl))) (fc (sc:=jb Cl) rfl (by decide +kernel)) (N:=["_law_i","_law_ways_here"]) (sel:=[none,some 1]) (Jc (M:=["_law_plan","_law_ways_here","_law_stages_here","_law_k","_law_found"]) (by decide +kernel)) (Blk.of (fun _ _ _ _=>(zb (i:=0) (ke (N:=["_law_i","_law_ways_here"]) (by decide +kernel) rfl) rfl (Or.inl rfl))) (fun _ _ _ _=>⟨_,Qd,by first | rfl | (dsimp only [Cx.block];done) | (dsimp only [Cx.block];exact rfl)⟩) (fun _ _ _ _=>⟨_,(Gc je (Gc xc (pv 1) (pv 0) (fun _ _=>rfl)) qb (fun _ _=>rfl)),by first | rfl | (dsimp only [Cx.block];done) | (dsimp only [Cx.block];exact rfl)⟩))) (Zb _))))) (ib (Lb Qq)) Kc)
   (fb (Ub (rg PySem.F.plainAttrs_list PySem.F.slot_list_append PySem.F.type_list_append ge (pv 4) (cb zc gb)))
   (ib (Ub (rg PySem.F.plainAttrs_list PySem.F.slot_list_pop PySem.F.type_list_pop zE (pv 4) (cb qb gb))))))))
   (ib (Lb Qq)))),?_⟩
  simp only [Cb]
  refine zzC (fun σ' H'=>H'=H∧σ'=[some (.ref a),some (.ref wl),some (.ref sl),none,none]) (fun D' hD=>?_) fun zzM zzh=>?_
  ·refine ic false (fun Q hQ=>?_) (fun z=>nomatch z) (fun _=>?_)
   ·(walk_at "RD")
    refine ⟨_,Fp T e1,_,.int _,true,rfl,?_⟩
    rw [if_neg (by decide)]
    refine ⟨_,Fp T e1,_,.int _,false,rfl,?_⟩
    rw [if_neg (by decide)]
    refine ⟨_,Fp T e1,_,.inl (SqL.of SQ.at_),rfl,?_⟩
    rw [hqn,decide_eq_true rfl]
    exact hQ
   ·simp only [re]
    exact hD _ _ ⟨rfl,rfl⟩
  rintro σ1 H1 ⟨rfl,rfl⟩
  subst zzh
  (walk_at "RD")
  refine ⟨_,.inl (SqL.of SQ.at_),by omega,by rw [hqn];omega,?_⟩
  rw [show (((qs.map V.ref).length:Nat):Int).toNat=sts.length by rw [hqn];rfl]
  refine kj.range (fun k σ H'=>ac H1 H'∧∃ x3 x4,σ=[some (.ref a),some (.ref wl),some (.ref sl),x3,x4]) ⟨ac.refl _,_,_,rfl⟩ ?_ ?_
  ·rintro k σ H' hk ⟨sm,x3,x4,rfl⟩
   have hsk:sts[k]? = some sts[k]:=List.getElem?_eq_getElem hk
   have hqk:qs[k]? = some (qs[k]'(by rw [SQ.l1];exact hk)):=List.getElem?_eq_getElem _
   have hmk:ms[k]? = some (ms[k]'(by rw [SQ.l2];exact hk)):=List.getElem?_eq_getElem _
   obtain ⟨ek1,ek2⟩:=SQ.al k _ _ _ hqk hmk hsk
   have aqk:=Eb (xs:=qs.map V.ref) (j:=k) (by rw [List.getElem?_map,hqk];rfl)
   generalize ms[k]'(by rw [SQ.l2];exact hk)=m at hmk ek1 ek2
   generalize hss:sts[k]=s at hsk ek1 ek2
   obtain ⟨blo,bhi,bne,bln,bix⟩:=X.bd s (List.mem_of_getElem? hsk)
   have hrk:(He ds sts)[k]? = some (ZI ds s):=by unfold He;rw [List.getElem?_map,hsk];rfl
   simp only [De,Cb,List.set_cons_succ,List.set_cons_zero,Int.zero_add]
   refine zzC (fun σ' H2=>ac H' H2∧∃ f,H' f=none∧H2 f=some (.lst (wb (Ai ds s)))∧σ'=[some (.ref a),some (.ref wl),some (.ref sl),some (.int (k:Int)),some (.ref f)]) (fun D' hD=>?_) fun zzM zzh=>?_
   ·(walk_at "RD")
    exact ⟨a,c,n,ds,_,k,_,rfl,SA.same sm,hrk,fun f hf=>hD _ _ ⟨pb hf,f,hf,db,rfl⟩⟩
   rintro σ2 H2 ⟨s2,f,hf,w2,rfl⟩
   have s12:=sm.trans s2
   subst zzh
   simp only [Cb]
   refine zzC (fun σ' H3=>ac H2 H3∧σ'=[some (.ref a),some (.ref wl),some (.ref sl),some (.int (k:Int)),some (.ref f)]) (fun D' hD=>?_) fun zzM zzh=>?_
   ·refine Ay (fun b H'=>b=false∧ac H2 H') (fun Q hQ=>?_) (fun H' z=>nomatch z.1) (fun H' z=>?_)
    ·(walk_at "RD")
     refine ⟨_,.lst w2,true,rfl,?_⟩
     rw [if_neg (by decide)]
     refine ⟨_,SqL.of (s12 _ _ SQ.at_),_,aqk,_,rfl,_,SqT.of (s12 _ _ ek1),_,Eb (j:=2) rfl,m,rfl,⟨_,SqL.of (s12 _ _ ek2)⟩,?_⟩
     refine Xc.list_zs (xs:=s.ix.map fun k:Nat=>V.int k) (zs:=wb (Ai ds s)) (SqL.of (s12 _ _ ek2)) (Nat.le_trans (show (s.ix.map fun k:Nat=>V.int k).length ≤ 8 by rw [List.length_map];exact bln) (by decide)) (by rw [Nb,List.length_map];unfold Ai;rw [List.length_map]) (fun l v z N hv hz hN=>?_) (fun pl hpl=>?_)
     ·obtain ⟨k,hk,rfl⟩:=Kb hv
      unfold wb Ai at hz
      obtain ⟨y,hy,rfl⟩:=Kb hz
      obtain ⟨k',hk',rfl⟩:=Kb hy
      rw [hk] at hk'
      cases hk'
      obtain ⟨d,hd⟩:=bix k (List.mem_of_getElem? hk)
      obtain ⟨wq,aq,eq⟩:=wAt k d hd
      have hnk:nmI ds k=d.name:=by unfold nmI;rw [hd];rfl
      rw [hnk] at hN
      (walk_at "RD")
      exact ⟨Sub.name,_,SqL.of (s12 _ _ l1),_,aq,_,rfl,_,SqT.of (s12 _ _ eq),_,Eb (j:=1) rfl,hN⟩
     ·have:=EqH.flats (k:=7) (SqL.of (K:=K) ((pb hpl) _ _ w2)) (SqL.of (show _=some (.lst (wb (Ai ds s))) from db)) bD
      rw [decide_eq_true rfl] at this
      exact ⟨pl,rfl,true,this,hQ _ _ ⟨rfl,pb hpl⟩⟩
    ·simp only [re]
     exact hD _ _ ⟨z.2,rfl⟩
   rintro σ3 H3 ⟨s3,rfl⟩
   have w3:=s3 _ _ w2
   obtain ⟨y0,hy0⟩:∃ y,(wb (Ai ds s) ++ [V.str (Str.ofString "x")])[0]? = some y:=⟨_,List.getElem?_eq_getElem (by rw [List.length_append];exact Nat.lt_of_lt_of_le (by decide) (Nat.le_add_left 1 _))⟩
   have hml:(wb (Ai ds s)).length ≤ 8:=by rw [Nb];unfold Ai;rw [List.length_map];exact bln
   subst zzh
   (walk_at "RD")
   refine ⟨.inl ⟨_,SqL.of w3⟩,_,w3,Nat.lt_of_le_of_lt hml (by decide),.inl ⟨_,SqL.of db⟩,_,db,by decide,by decide,0,QH (by rw [List.length_append];exact Nat.lt_of_lt_of_le (by decide) (Nat.le_add_left 1 _)),_,hy0,((s12.trans s3).updN (sm.free hf)).updN (sm.free hf),?_⟩
   repeat (first | exact ⟨_,rfl⟩ | refine ⟨⟨_,rfl⟩,?_⟩)
  ·rintro σ H' ⟨sm,x3,x4,rfl⟩
   (walk_at "RD")
   exact q _ sm
 ·obtain ⟨a,c,n,ds,wl,sl,qs,ms,sts,rfl,SA,L,SQ,X,nt,q⟩:=h
  exact ⟨nt,a,c,n,ds,wl,sl,qs,ms,sts,rfl,SA,L,SQ,X,fun H' sm=>⟨sm,q⟩⟩
theorem VJ (T:Txt w K mg t):Jb P w K mg base CX0 12 t.ZH t.cE ["_law_script"] (SK K):=by
 refine T.JL.ok Wo (fun vs H Q E h=>?_) (fun cdv A outer s H vs Q E hr h=>?_)
 ·obtain ⟨a,ns,rfl,_⟩:=h;rfl
 obtain ⟨a,ns,rfl,S0,h63,q⟩:=h
 have G__law_ways:Jb P w K mg base CX0 11 t.Ni t.Bi ["_law_script","_law_most"] (uy K a ns):=(DF T a ns h63).mono (by decide)
 have G__law_text:Jb P w K mg base CX0 11 t.Mi t.Li ["_law_places","_law_ways_here"] (Ty K):=(mE T).mono (by decide)
 have G_read_crossing:Jb P w K mg base CX0 11 t.gf t.sf ["text"] (OJ t):=(lL T).mono (by decide)
 have G__law_stages:Jb P w K mg base CX0 11 t.Gg t.Eg ["_law_script","_law_places","_law_ways_here"] (Xr K):=(Gz T).mono (by decide)
 have G__law_stages_text:Jb P w K mg base CX0 11 t.se t.pe ["_law_ways_here","_law_stages_here"] Xy:=(EF T).mono (by decide)
 have G_read_stages:Jb P w K mg base CX0 11 t.tf t.Cf ["crossing","text"] (HG P w t):=(hJ T).mono (by decide)
 have G__law_same:Jb P w K mg base CX0 11 t.Ci t.Ui ["_law_plan","_law_ways_here","_law_stages_here"] (Wx P w t):=(FF T).mono (by decide)
 refine ⟨_,(fb (lK (xb G__law_ways hr rfl T.Ow T.Hl.kp T.sw .nil Db (cb (pv 0) (cb qb gb))) (kg (K:=K) (n:=2) rfl rfl (Sb (zb (i:=1) Wo.nd rfl (Or.inl rfl) (.inl rfl)) (Sb (zb (i:=2) Wo.nd rfl (Or.inr rfl) (.inl rfl)) vg))))
   (fb (Hb (i:=3) Wo.nd rfl (Or.inr rfl) (xb G_read_crossing hr rfl T.Dp T.Rg.kp T.Ep .nil Db (cb (xb G__law_text hr rfl T.Bx T.Ll.kp T.Gx .nil Db (cb (pv 1) (cb (pv 2) gb))) gb)))
   (fb (Hb (i:=4) Wo.nd rfl (Or.inl rfl) (ve (cb (xb G__law_stages hr rfl T.ym T.Hg.kp T.um .nil Db (cb (pv 0) (cb (pv 1) (cb (pv 2) gb)))) (cb (xb G__law_stages hr rfl T.ym T.Hg.kp T.um .nil Db (cb (zd rfl (Lc (gh Lx (pv 0) jk (Mj qb))) (fc (sc:=jb lE) rfl (by decide +kernel)) (N:=["_law_number"]) (sel:=[none]) (Jc (M:=["_law_script","_law_places","_law_ways_here","_law_crossing","_law_sets","_law_plans","_law_k"]) (by decide +kernel)) (Blk.of (fun _ _ _ _=>(zb (i:=0) (ke (N:=["_law_number"]) (by decide +kernel) rfl) rfl (Or.inl rfl))) (fun _ _ _ _=>⟨_,Qd,by first | rfl | (dsimp only [Cx.block];done) | (dsimp only [Cx.block];exact rfl)⟩) (fun _ _ _ _=>⟨_,(Mb Vc (pv 0) qb),by first | rfl | (dsimp only [Cx.block];done) | (dsimp only [Cx.block];exact rfl)⟩))) (cb (pv 1) (cb (pv 2) gb)))) gb))))
   (fb (Vr (i:=5) Wo.nd rfl (Or.inl rfl) rfl (Lc (pv 4)) (fc (sc:=jb lE) rfl (by decide +kernel)) (N:=["_law_one","_law_crossing","_law_ways_here"]) (sel:=[none,some 3,some 2]) (Jc (M:=["_law_script","_law_places","_law_ways_here","_law_crossing","_law_sets","_law_plans","_law_k"]) (by decide +kernel)) (Blk.of (fun _ _ _ _=>(zb (i:=0) (ke (N:=["_law_one","_law_crossing","_law_ways_here"]) (by decide +kernel) rfl) rfl (Or.inl rfl))) (fun _ _ _ _=>⟨_,Qd,by first | rfl | (dsimp only [Cx.block];done) | (dsimp only [Cx.block];exact rfl)⟩) (fun _ _ _ _=>⟨_,(xb G_read_stages hr rfl T.Ot T.Ti.kp T.dt .nil Db (cb (pv 1) (cb (xb G__law_stages_text hr rfl T.Im T.rf.kp T.Xl .nil Db (cb (pv 2) (cb (pv 0) gb))) gb))),by first | rfl | (dsimp only [Cx.block];done) | (dsimp only [Cx.block];exact rfl)⟩)) rfl)
   (fb (Ge PassesOwn.never rfl (Me rfl T.Mh (cb qb gb)) (zb (i:=6) Wo.nd rfl (Or.inl rfl)) (ib (Ie (Hn (ni (xb G__law_same hr rfl T.Yw T.ll.kp T.yw .nil Db (cb (Gc xc (pv 5) (Mb xf (pv 6) qb) (fun _ _=>rfl)) (cb (pv 2) (cb (Gc xc (pv 4) (Mb xf (pv 6) qb) (fun _ _=>rfl)) gb)))))) (ib (Lb Qq)) Kc)))
   (ib (Lb Qq))))))),?_⟩
 simp only [Cb]
 refine zzC (fun σ' H'=>ac H H'∧Sc K a ns H'∧∃ wl n ds,LW H' wl ds∧QI n ds∧(∀ d ∈ ds,d.least ≤ 4)∧(4 ≤ n∧n ≤ 99)∧(1 ≤ ds.length∧ds.length ≤ 6)∧σ'=[some (.ref a),some (.int n),some (.ref wl),none,none,none,none]) (fun D' hD=>?_) fun zzM zzh=>?_
 ·(walk_at "RD")
  exact ⟨6,rfl,by decide,S0,fun tp wl n ds H' s1 S1 e1 L D hle hn hl=>⟨tp,rfl,_,SqT.of e1,rfl,_,_,rfl,_,_,rfl,rfl,hD _ _ ⟨s1,S1,wl,n,ds,L,D,hle,hn,by omega,rfl⟩⟩⟩
 rintro σ1 H1 ⟨s1,S1,wl,n,ds,L,D,hle,hn,hdl,rfl⟩
 subst zzh
 simp only [Cb]
 refine zzC (fun σ' H'=>ac H1 H'∧Sc K a ns H'∧∃ c,Nc t H' c n ds∧σ'=[some (.ref a),some (.int n),some (.ref wl),some (.ref c),none,none,none]) (fun D' hD=>?_) fun zzM zzh=>?_
 ·(walk_at "RD")
  exact ⟨n,wl,ds,rfl,L,D,by omega,by omega,S1.nt,n,ds,rfl,D.cok (by omega) (by omega),S1.nt,fun c H' s2 n2 C2=>hD _ _ ⟨s2,S1.same s2 n2,c,C2,rfl⟩⟩
 rintro σ2 H2 ⟨s2,S2,c,C2,rfl⟩
 have mk30:∀ {sts:List SX},gL n ds sts→P30 n ds sts:=fun h=>⟨D.nd,h,hdl.2,hdl.1,fun d hd=>(D.al d hd).1⟩
 subst zzh
 simp only [Cb]
 refine zzC (fun σ' H'=>ac H2 H'∧Sc K a ns H'∧∃ sl p1 p2 q1 m1 x1 q2 m2 x2,H' sl=some (.lst [.ref p1,.ref p2])∧kC H' p1 q1 m1 x1∧kC H' p2 q2 m2 x2∧P30 n ds x1∧P30 n ds x2∧σ'=[some (.ref a),some (.int n),some (.ref wl),some (.ref c),some (.ref sl),none,none]) (fun D' hD=>?_) fun zzM zzh=>?_
 ·(walk_at "RD")
  refine ⟨a,ns,n,wl,ds,rfl,h63,S2.seq,S2.nt,L.same s2,D,hle,by omega,fun p1 q1 m1 x1 H' s3 n3 Q1 X1=>?_⟩
  have S3:=S2.same s3 n3
  refine ⟨_,S3.seq,fun p hp=>⟨⟨_,SqL.of db⟩,?_⟩⟩
  obtain ⟨ys,ey,hyl,_⟩:=rE V.int ns none (some 40)
  rw [ey]
  refine Xc.list_zs (xs:=ys.map V.int) (zs:=(ys.map (· + 1)).map V.int) (SqL.of db) (Nat.le_trans (show (ys.map V.int).length ≤ 63 by rw [List.length_map];omega) (by decide)) (by simp only [List.length_map]) (fun l v z N hv hz hN=>?_) (fun pl hpl=>?_)
  ·obtain ⟨i,hi,rfl⟩:=Kb hv
   obtain ⟨j,hj,rfl⟩:=Kb hz
   obtain ⟨j',hj',rfl⟩:=Kb hj
   rw [hi] at hj'
   cases hj'
   (walk_at "RD")
   exact ⟨Sub.name,hN⟩
  ·have s4:=(pb (o:=.lst (ys.map V.int)) hp).trans (pb (o:=.lst ((ys.map (· + 1)).map V.int)) hpl)
   have S4:=(S3.new (o:=.lst (ys.map V.int)) hp).new (o:=.lst ((ys.map (· + 1)).map V.int)) hpl
   refine ⟨pl,ys.map (· + 1),n,wl,ds,rfl,by rw [List.length_map];omega,SqL.of db,S4.nt,(L.same s2).same (s3.trans s4),D,hle,by omega,fun p2 q2 m2 x2 H5 s5 n5 Q2 X2=>⟨by decide,fun sl hsl=>?_⟩⟩
   exact hD _ _ ⟨(s3.trans s4).trans (s5.trans (pb hsl)),(S4.same s5 n5).new hsl,sl,p1,p2,q1,m1,x1,q2,m2,x2,db,Q1.same (s4.trans (s5.trans (pb hsl))),Q2.same (pb hsl),mk30 X1,mk30 X2,rfl⟩
 rintro σ3 H3 ⟨s3,S3,sl,p1,p2,q1,m1,x1,q2,m2,x2,e3,Q1,Q2,X1,X2,rfl⟩
 have s13:=s2.trans s3
 have C3:=C2.same s3
 have L3:=L.same s13
 subst zzh
 simp only [Cb]
 refine zzC (fun σ' H'=>ac H3 H'∧Sc K a ns H'∧∃ pl a1 a2,H' pl=some (.lst [.ref a1,.ref a2])∧qe P w t H' a1 c n ds (He ds x1)∧qe P w t H' a2 c n ds (He ds x2)∧σ'=[some (.ref a),some (.int n),some (.ref wl),some (.ref c),some (.ref sl),some (.ref pl),none]) (fun D' hD=>?_) fun zzM zzh=>?_
 ·(walk_at "RD")
  refine ⟨⟨_,SqL.of e3⟩,?_⟩
  refine Xc.list (xs:=[.ref p1,.ref p2]) (fun i ys H'=>ac H3 H'∧NoT H'∧(i=0∧ys=[]∨(∃ a1,i=1∧ys=[.ref a1]∧qe P w t H' a1 c n ds (He ds x1))∨∃ a1 a2,i=2∧ys=[.ref a1,.ref a2]∧qe P w t H' a1 c n ds (He ds x1)∧qe P w t H' a2 c n ds (He ds x2))) (show 2 ≤ sizeLine by decide) ⟨ac.refl _,S3.nt,.inl ⟨rfl,rfl⟩⟩ (fun i ys H' hi ⟨s,n',h⟩=>⟨SqL.of (s _ _ e3),?_⟩) (fun i x ys H' hx ⟨s,n',h⟩ N hN=>?_) (fun ys H' ⟨s,n',h⟩ p hp=>?_)
  ·rcases h with ⟨rfl,rfl⟩ | ⟨a1,rfl,rfl,_⟩ | ⟨a1,a2,rfl,rfl,_⟩ <;> simp
  ·rcases h with ⟨rfl,rfl⟩ | ⟨a1,rfl,rfl,A1⟩ | ⟨a1,a2,rfl,rfl,_⟩
   ·cases hx
    (walk_at "RD")
    exact ⟨Sub.name,wl,ds,p1,q1,m1,x1,rfl,L3.same s,Q1.same s,X1.sx,n',c,n,ds,x1,rfl,C3.same s,hn,X1,n',fun a1 H5 s5 n5 A1=>hN _ _ ⟨s.trans s5,n5,.inr (.inl ⟨a1,rfl,rfl,A1⟩)⟩⟩
   ·cases hx
    (walk_at "RD")
    exact ⟨Sub.name,wl,ds,p2,q2,m2,x2,rfl,L3.same s,Q2.same s,X2.sx,n',c,n,ds,x2,rfl,C3.same s,hn,X2,n',fun a2 H5 s5 n5 A2=>hN _ _ ⟨s.trans s5,n5,.inr (.inr ⟨a1,a2,rfl,rfl,A1.same s5,A2⟩)⟩⟩
   ·cases hx
  ·rcases h with ⟨z,_⟩ | ⟨a1,z,_⟩ | ⟨a1,a2,_,rfl,A1,A2⟩
   ·cases z
   ·cases z
   ·exact hD _ _ ⟨s.trans (pb hp),(S3.same s n').new hp,p,a1,a2,db,A1.same (pb hp),A2.same (pb hp),rfl⟩
 rintro σ4 H4 ⟨s4,S4,pl,a1,a2,e4,SA1,SA2,rfl⟩
 subst zzh
 (walk_at "RD")
 refine ⟨by decide,by decide,?_⟩
 rw [show Int.toNat 4=4 from rfl]
 refine kj.range (fun k σ H'=>H'=H4∧∃ x,σ=[some (.ref a),some (.int n),some (.ref wl),some (.ref c),some (.ref sl),some (.ref pl),x]) ⟨rfl,_,rfl⟩ ?_ ?_
 ·rintro k σ H' hk ⟨rfl,x,rfl⟩
  simp only [De,List.set_cons_succ,List.set_cons_zero,Int.zero_add]
  have e3':=s4 _ _ e3
  refine ic false (fun Q hQ=>?_) (fun z=>nomatch z) (fun _=>?_)
  ·(walk_at "RD")
   rcases (by omega:k % 2=0∨k % 2=1) with z | z
   ·have hk2:(k:Int) % 2=((0:Nat):Int):=by omega
    rw [hk2]
    exact ⟨by decide,_,SqL.of e4,_,Eb rfl,by decide,_,SqL.of e3',_,Eb rfl,a1,c,n,ds,wl,p1,q1,m1,x1,rfl,SA1,L3.same s4,Q1.same s4,X1.sx,S4.nt,true,rfl,hQ⟩
   ·have hk2:(k:Int) % 2=((1:Nat):Int):=by omega
    rw [hk2]
    exact ⟨by decide,_,SqL.of e4,_,Eb rfl,by decide,_,SqL.of e3',_,Eb rfl,a2,c,n,ds,wl,p2,q2,m2,x2,rfl,SA2,L3.same s4,Q2.same s4,X2.sx,S4.nt,true,rfl,hQ⟩
  ·simp only [re]
   exact ⟨trivial,_,rfl⟩
 ·rintro σ H' ⟨rfl,x,rfl⟩
  (walk_at "RD")
  exact q _
end
end My
structure PySem.W.Fast:Prop where(tw15852990080657757704 tw18254756849666128366 tw18130499443062194591 tw16088352280662316151 tw2997503256735337541 tw7721534961029036711 tw17498552587763109945 tw9568879972184582537 tw13567107035556586416 tw8289844703055830677 tw11193127363069882013 tw13682401436435356642 tw13273093475368463716 tw10574837959683206687 tw4592728118378856329 tw6575306929049426647 tw11215820047673559293 tw9568594955113268205 tw7740419662588071615 tw1935389684049005542 tw11818993609424510295 tw3317942625800322246 tw1199933639763954399 tw11585047993391341022 tw11792747580981948639 tw16417748118468503115 tw11792358016906656492 tw14687900846876699668 tw4487351388726433166 tw8181622610324175583 tw8853288062186818459 tw11067167578953660549 tw1907129287390633625 tw2475823392303074141 tw7410187458262128079 tw6388597275298345086 tw7527230672797300027 tw15405859677161510346 tw4265835341207428470 tw7488487695583446451 tw18433932541782176942 tw4622029877317181995 tw14102255896869954486 tw6254682715567245266 tw14699514412213260238 tw12007839586666439985 tw16370512295105260103 tw12744079722473577356 tw5088379343928628478 tw4703929226874415938 tw7030442442778330007 tw1385903873986822837 tw335081535621327902 tw16186532356440856939 tw17315776865433571691 tw8674095432884729717 tw7358270108248684719 tw15379735656878756724 tw17865523809393056140 tw3429608742968118087 tw9235616938943550873 tw4958418422299185092 tw8258180707290864556 tw9265772376659971511 tw14547466867001209746 tw10212581974797225940 tw2148608880702309670 tw11825773937561718899 tw2557461738838989185 tw14396924389467608280 tw2186140785233111235 tw5906920323537565249 tw2679542544309166607 tw10622435569792545350 tw6967220943483827790 tw17127415387450094397 tw17725908686788948749 tw13650071869246491069 tw4022792617474885595 tw18235020914543281135 tw1776227233418887470 tw10640423733109839236 tw4795010682513260433 tw14243933976055478004 tw4608908300630373760 tw10919916556786029739 tw12758496707379982940 tw1107248283115543111 tw14271351593237936673 tw18160079655086489575 tw11254317040249030444 tw427929292605402068 tw11065268492037293553 tw4942251521056551043 tw3835268564529994170 tw9276230005416650414 tw1128069734081522205 tw17057862630414353655 tw143589986310249570 tw12304691120330379996 tw2721698957681275452 tw10333288556974758870 tw11096508816308169405 tw12871658173307126321 tw16695045972147716943 tw16415496959212106650 tw9334753256319034347 tw17848810519093539652 tw6784415941029548519 tw1861607451390613716 tw11930595239781975522 tw7344572644582030808 tw16827214269512820403 tw16853857947616193652 tw10219740759486830682 tw1245591054526865138 tw10352482421543701899 tw6128840968695603179 tw837684004412872976 tw17865014436736870280 tw5541540308283722568 tw9039389406333515391 tw8632205788947503888 tw10803964670375267207 tw12014557455128152380 tw8443706942760434593 tw13789609235927065760 tw6215038628578687833 tw4774744175674102705 tw13375374003869822108 tw163243236563620548 tw11400834849875865908 tw17847651904749222378 tw9721533706359641096 tw10610060969900123991 tw2968259200019181918 tw7164661203782172176 tw16181079021695376138 tw15327335087419548854 tw3573147439685243960 tw8959426597469608188 tw8002829097793383174 tw16191083992432487180 tw2910566284245530330 tw10197057536683448943 tw11827975685266878593 tw17156981499801811793 tw5025235816396569451 tw12110796786662233270 tw14544619813462303637 tw15325576098440607453 tw12694235142135469009 tw1946625449494927735 tw3899298532305247377 tw15072014879240111160 tw16507038007585563318 tw14831574157218186075 tw14556796199243818889 tw7450260174771545039 tw14094303572704269395 tw17271602562113666268 tw13312705255575429719 tw7197935721490698708 tw16928193442014420791 tw11389227664777491046 tw11798090719486398402 tw18342120966058325186 tw14748835306138729552 tw2944735793904059248 tw9465335956954927257 tw15520461367569341042 tw5236720434817293312 tw9905391438641842170 tw10791059862514445002 tw16725658384441871897 tw3350015309159346205 tw18306334309791807102 tw9148576846780393125 tw5606299163170318252 tw16722948221063275325 tw8279624931576170353 tw15870507910499822242 tw10857256751171115241 tw17767783114275718678 tw3465679187826744285 tw4803238689264665002 tw3863882592580626558 tw8279954512321481449 tw4361110450877301489 tw683517513960379598 tw8465896444286474434 tw11915060256675932586 tw420768987774084546 tw1468474031557677849 tw3066005005540169075 tw13032406849115039324 tw5527210949891514135 tw7964183772836358784 tw8594651733424911764 tw12122225484984176103 tw118895288432497017 tw5864326987837228126 tw7188070647994942527 tw12362384629774497960 tw17488094928871375357 tw9078497095636471475 tw6916794613988128162 tw11490532643274242689 tw12804782256409039779 tw6749800097654428801 tw17240775949110036041 tw3375199192711340857 tw15201678723693499379 tw2885970452992601143 tw146825340926399191 tw8772719437818520488 tw986592791266121838 tw10775095679421383791 tw16725448558934908342 tw18096832219486236419 tw7450783498567066063 tw16608012874344631041 tw5105342643463572166 tw3652631429594733419 tw4736124999234507733 tw11119066141338988866 tw5303759700987764365 tw13603222655762950193 tw13705746166674620986 tw11100161627908255231 tw3176664379927994149 tw3286070852371994686 tw11828466232003450848 tw14381849063299768537 tw6639595989487867890 tw3611116382086196821 tw4066484262864395927 tw18376953566908884624 tw18094742327750360492 tw284374592014381187 tw11339112126679549409 tw9295456864336896223 tw4990600018215921837 tw14011147907413852459 tw11562324354536569373 tw13789361390024015861 tw12450658433069731904 tw11763789345154407885 tw7716212854817227819 tw17850044802436547404 tw14959064652230161905 tw5172601423115254529 tw1051294593170078537 tw15624887924156865729 tw1370283414910359981 tw9208829955649432636 tw13070304398851422098 tw10878666016174061292 tw11834846464603837987 tw17254438890207013813 tw13267290805433967693 tw15185615179483431538 tw3937963656451134300 tw12294255176346193024 tw839534936218406861 tw15779521250745563631 tw7858514601592265871 tw7661603358521205175 tw13978176608579801722 tw12927401028514812581 tw4389128269895372228 tw12678062336759076050 tw7643301193244358665 tw9139446641963835255 tw15093832124675453988 tw14298204740009662585 tw6534845123720436982 tw4933354402561431762 tw9443089157751584390 tw9962025095283495050 tw1118313603580366764 tw11886091334000860896 tw13086114031284518359 tw6021655380979809509 tw9431721360064627208 tw12734842039397602826 tw9017428804687436788 tw4470252909682380841 tw11537317569090388137 tw8290098660062406240 tw14592646666364957632 tw11315498241615690459 tw15208473288846790669 tw11532167664884319937 tw10987942747646618281 tw16669351513184225495 tw12777929514758322733 tw2889636665234906475 tw8676757506173338252 tw13289302287699730081 tw4558899912631576277 tw5895531770589139604 tw9836459422692275944 tw9608218047977616992 tw16117457333493551811 tw13474634503567698686 tw5852702565465855478 tw4143382921743474523 tw14895315732375689171 tw12153280812331603452 tw2162839798229784769 tw13689266959220783542 tw16053329222873123787 tw17727784151631410204 tw9999982604782244100 tw11170725636271644816 tw4155933198571667376 tw1035808877972070056 tw7087133767820873892 tw4841585715281921293 tw1858355511287193033 tw12568016411642424520 tw1857067398709283520 tw271721126745220818 tw16405288355138757477 tw4133970752331355896 tw15056696558121833779 tw4136175031024970828 tw8884223377701345586 tw5888067781819648266 tw16743339908730115206 tw6482682210715132848 tw16288405246959947739 tw10085708054988972381 tw16529954958610415433 tw4738418291424495566 tw16287369119201727583 tw13422263565441275157 tw5037007163454609244 tw1969448304676908775 tw3995028365070872476 tw9252372915045218992 tw13717798308889019155 tw312044381101452498 tw140210073075968614 tw808037556284599524 tw1329676115092781166 tw16058401670223373440 tw9877608164277229087 tw1632390602062109905 tw11047176417398807827 tw93483544190308972 tw6906808053333612791 tw4228208222709146462 tw714228501657491104 tw15378562998512233976 tw13080152243516010744 tw2686814914095260618 tw4292390137846216703 tw626023901896610390 tw16637584126846561679 tw4345875831497149128 tw2854137624791597394 tw10463225851321084710 tw4965727036405469222 tw12678522012600834086 tw12587622406851149416 tw16582707911035848819 tw774434533034943668 tw13028073639530442299 tw9758401666248199281 tw11434066765949571372 tw5470551455275664895 tw10713391116739362102 tw9161241288814399219 tw15156074325643254421 tw12625327942561474721 tw8629863029688079192 tw9523825164756509312 tw7927421615353996469 tw1063509986759218055 tw16391410947527837663 tw15454246768338698965 tw8539641963824199523 tw3679252476951149304 tw16777406776536896495 tw14564839534957609522 tw13640462483164645586 tw16203556778213035269 tw11462608843178566906 tw15975759866672086861 tw63168970551146690 tw13051229856829583819 tw16802592145086549804 tw14639361159337175787 tw13998045369490950166 tw726837118792586405 tw6191263088880235530 tw7972495271232480283 tw12786011165452789282 tw9903831172386929522 tw4678399692270269846 tw13506959457076444070 tw2226908471576204206 tw2275417380541293546 tw18355982253271247326 tw10927998364762892304 tw10708749838306670905 tw2484782762816047536 tw9092475239792410979 tw9661227359154622444 tw1568211042048529839 tw2201455828492049730 tw3563393210671517663 tw2416739037804319768 tw679453804770172307 tw10616034477043813015 tw11976181892857974247 tw9475707782703687622 tw8162575672384868556 tw13236096766074385954 tw18012941893974943274 tw13342784163140553672 tw18369248522006628357 tw4718531193377146020 tw15883061622657280202 tw14758564662051065667 tw15279737830835545167 tw14213342501554727307 tw4977285100435177900 tw8508983138053332657 tw17991927564000413115 tw16811435749058139702 tw12475909974431370512 tw5973821175492547599 tw18145761177086091697 tw11403898514921011302 tw1435018991139997818 tw5666524105864678464 tw7982447189831831546 tw8569183047549764147 tw15471526832426607630 tw4197278413907986706 tw172541486449769993 tw6267576998868381694 tw2899582600149357527 tw16597560810233168179 tw3642500763601828882 tw14477415597293664646 tw13624285557628295797 tw14591742576252438134:True)
open PySem PySem.W PyProof.Rows
set_option maxRecDepth 100000 in
set_option maxHeartbeats 0 in
theorem PySem.Challenge.cw_lampway_k30_stages_read_holds : PySem.Challenge.rw_lampway_k30_stages_read.Holds := by
 w_on;o_law;k_head;(case hw=>w_witness2)
 k_fill
 refine L2.PF (l:=PySem.Challenge.rw_lampway_k30_stages_read) (n:=63) (k:=12) (x := "_law_script") (CX:=L2.CX0) (sp:=L2.SK) rfl (by decide) rfl ⟨rfl,by decide,by decide⟩ (fun w h Y=>PySem.W.kIn_of Y) ?F ?S ?C
 case F=>
  intro w mg fa h KX G hmg
  have T:∃ t,My.Txt w (L2.KOf KX) mg t:=by
   dsimp only [L2.KOf]
   refine' ⟨My.Adr.mk,⟨?maa,?Fab,?mac,?Fad,?mae,?Faf,?mag,?Fah,?mai,?Faj,?mak,?Fal,?mam,?Fan,?mao,?Fap,?maq,?Far,?mas,?Fat,?mau,?Fav,?maw,?Fax,?may,?Faz,?mba,?Fbb,?mbc,?Fbd,?mbe,?Fbf,?mbg,?Fbh,?mbi,?Fbj,?mbk,?Fbl,?mbm,?Fbn,?mbo,?Fbp,?mbq,?Fbr,?mbs,?Fbt,?mbu,?Fbv,?mbw,?Fbx,?mby,?Fbz,?mca,?Fcb,?mcc,?Fcd,?mce,?Fcf,?mcg,?Fch,?mci,?Fcj,?mck,?Fcl,?mcm,?Fcn,?mco,?Fcp,?mcq,?Fcr,?mcs,?Fct,?mcu,?Fcv,?mcw,?ecx,?Fcy,?mcz,?eda,?Fdb,?mdc,?edd,?Fde,?mdf,?edg,?Fdh,?mdi,?edj,?Fdk,?edl,?Fdm,?edn,?Fdo,?edp,?Fdq,?edr,?Fds,?edt,?Fdu,?edv,?Fdw,?edx,?Fdy,?mdz,?eea,?Feb,?mec,?eed,?Fee,?mef,?eeg,?Feh,?eei,?Fej,?eek,?Fel,?mem,?een,?Feo,?eep,?Feq,?eer,?Fes,?met,?eeu,?Fev,?eew,?Fex,?eey,?Fez,?mfa,?efb,?Ffc,?efd,?Ffe,?eff,?Ffg,?efh,?Ffi,?sfj,?sfk,?sfl,?sfm,?sfn,?sfo,?sfp,?sfq,?sfr,?nfs,?nft,?nfu,?sfv,?sfw,?nfx,?nfy,?nfz,?nga,?ngb,?ngc,?ngd,?nge,?sgf,?ngg,?ngh,?ngi,?ngj,?ngk,?ngl,?ngm,?sgn,?sgo,?sgp,?sgq,?ngr,?ngs,?ngt,?ngu,?ngv,?ngw,?ngx,?sgy,?sgz,?sha,?shb,?nhc,?nhd,?nhe,?nhf,?nhg,?nhh,?nhi,?shj,?shk,?shl,?shm,?nhn,?nho,?nhp,?nhq,?nhr,?nhs,?nht,?shu,?shv,?shw,?shx,?shy,?nhz,?nia,?nib,?mic,?sid,?xie,?Xif,?nig,?nih,?rii,?rij,?rik,?ril,?rim,?xin,?Xio,?nip,?riq,?rir,?ris,?rit,?riu,?xiv,?Xiw,?nix,?niy,?riz,?rja,?rjb,?rjc,?rjd,?xje,?Xjf,?njg,?njh,?nji,?rjj,?rjk,?rjl,?rjm,?rjn,?djo,?djp,?djq,?djr,?djs,?djt,?sju,?mjv,?vjw,?mjx,?vjy,?mjz,?vka,?mkb,?vkc,?mkd,?vke,?mkf,?vkg,?mkh,?vki,?mkj,?vkk,?mkl,?vkm,?mkn,?vko,?mkp,?vkq,?mkr,?vks,?bkt,?bku,?bkv,?bkw,?bkx,?bky,?bkz,?bla,?blb,?blc,?lld⟩⟩
   case maa | mac | mae | mag | mai | mak | mam | mao | maq | mas | mau | maw | may | mba | mbc | mbe | mbg | mbi | mbk | mbm | mbo | mbq | mbs | mbu | mbw | mby | mca | mcc | mce | mcg | mci | mck | mcm | mco | mcq | mcs | mcu | mcw | mcz | mdc | mdf | mdi | mdz | mec | mef | mem | met | mfa | mic | mjv | mjx | mjz | mkb | mkd | mkf | mkh | mkj | mkl | mkn | mkp | mkr=>(try dsimp only);refine' PySem.W.mg_of KX G ?z;case z=>k_is
   case ecx | eda | edd | edg | edj | edl | edn | edp | edr | edt | edv | edx | eea | eed | eeg | eei | eek | een | eep | eer | eeu | eew | eey | efb | efd | eff | efh=>(try dsimp only);k_is
   case sfj | sfk | sfl | sfm | sfn | sfo | sfp | sfq | sfr | sfv | sfw | sgf | sgn | sgo | sgp | sgq | sgy | sgz | sha | shb | shj | shk | shl | shm | shu | shv | shw | shx | shy | sid | sju=>(try dsimp only);constructor <;> k_is
   case Fab | Fad | Faf | Fah | Faj | Fal | Fan | Fap | Far | Fat | Fav | Fax | Faz | Fbb | Fbd | Fbf | Fbh | Fbj | Fbl | Fbn | Fbp | Fbr | Fbt | Fbv | Fbx | Fbz | Fcb | Fcd | Fcf | Fch | Fcj | Fcl | Fcn | Fcp | Fcr | Fct | Fcv | Fcy | Fdb | Fde | Fdh | Fdk | Fdm | Fdo | Fdq | Fds | Fdu | Fdw | Fdy | Feb | Fee | Feh | Fej | Fel | Feo | Feq | Fes | Fev | Fex | Fez | Ffc | Ffe | Ffg | Ffi=>(try dsimp only);refine' L2.iJ ?x ?y ?z;(case x=>k_is);(case y=>k_is);(case z=>k_is)
   case nfs | nft | nfu | nfx | nfy | nfz | nga | ngb | ngc | ngd | nge | ngg | ngh | ngi | ngj | ngk | ngl | ngm | ngr | ngs | ngt | ngu | ngv | ngw | ngx | nhc | nhd | nhe | nhf | nhg | nhh | nhi | nhn | nho | nhp | nhq | nhr | nhs | nht | nhz | nia | nib | nig | nih | nip | nix | niy | njg | njh | nji=>(try dsimp only);unfold L2.Ib;k_is
   case rii | rij | rik | ril | rim | riq | rir | ris | rit | riu | riz | rja | rjb | rjc | rjd | rjj | rjk | rjl | rjm | rjn=>(try dsimp only);kernel_rfl
   case xie | xin | xiv | xje=>(try dsimp only);refine' ⟨?_,by kernel_rfl,?_,?_,?_⟩ <;> k_is
   case Xif | Xio | Xiw | Xjf=>(try dsimp only);refine' L2.KK ?x (by kernel_rfl) ?y;(case x=>k_is);(case y=>k_is)
   case djo | djp | djq | djr | djs | djt=>(try dsimp only);decide
   case vjw | vjy | vka | vkc | vke | vkg | vki | vkk | vkm | vko | vkq | vks=>(try dsimp only);exact ⟨_,rfl⟩
   case bkt | bku | bkv | bkw | bkx | bky | bkz | bla | blb | blc=>(try dsimp only);refine' PySem.W.mg_none_of KX G ?z;case z=>k_is
   case lld=>(try dsimp only);exact fun _ _=>.of_eq rfl
  obtain ⟨t,T⟩:=T
  have e0:=hmg.symm.trans T.FL
  cases e0
  exact ⟨t.cE,T.GK,fun base kb nb=>My.VJ T⟩
 case S=>exact fun K H a ns hl hO hS=>⟨a,ns,rfl,L2.Sc.of_only hO hS,hl,fun _=>rfl⟩
 case C=>exact fun _ _ _ _ z=>z
