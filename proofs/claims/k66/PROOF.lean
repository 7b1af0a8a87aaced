import PyProof.Rows.All
import Wide.All
import OpenK.AllK
import Wide.FinOn
import Lean
import PyProof.EqAt
import PyProof.EqKinds
import PyProof.TupleCall
import KE.KTryMore
import PyProof.NsDelKeeps
import PySem.Challenge.RW_lampway_k66_rounds_let_by
set_option compiler.extract_closed false
set_option Elab.async false
set_option linter.all false
set_option maxRecDepth 100000
namespace L2
open PySem PySem.Spec PyProof.Rows
noncomputable abbrev Key:=Sum Int Str
noncomputable def ID:Key→Value→Bool
 | .inl k,v=>Value.isInt k v
 | .inr x,v=>Value.isStrOf x v
noncomputable def xS (w:World):Key→Int
 | .inl k=>hashInt k
 | .inr x=>hashStr w x
theorem qe:∀ {k:Key} {v:Value},ID k v=true→(∃ i t,k=Sum.inl i∧v=Value.int i t)∨(∃ x t,k=Sum.inr x∧v=Value.str x t)
 | .inl i,v,h=>by
  obtain ⟨t,e⟩:=Value.isInt_shape (k:=i) (v:=v) h;exact .inl ⟨i,t,rfl,e⟩
 | .inr x,v,h=>by
  obtain ⟨t,e⟩:=Value.isStrOf_shape (x:=x) (v:=v) h;exact .inr ⟨x,t,rfl,e⟩
theorem bI (i:Int) (t:Tok):ID (.inl i) (.int i t)=true:=by simp [ID,Value.isInt]
theorem FE (x:Str) (t:Tok):ID (.inr x) (.str x t)=true:=by simp [ID,Value.isStrOf]
theorem JO (a b:Int):decide ((Sum.inl a:Key)=Sum.inl b)=(a == b):=by
 by_cases e:a=b
 ·subst e;simp
 ·have h:¬ (Sum.inl a:Key)=Sum.inl b:=fun q=>e (Sum.inl.inj q)
  rw [decide_eq_false h];exact (beq_eq_false_iff_ne.mpr e).symm
theorem dO (a b:Str):decide ((Sum.inr a:Key)=Sum.inr b)=decide (a=b):=by
 by_cases e:a=b
 ·subst e;simp
 ·have h:¬ (Sum.inr a:Key)=Sum.inr b:=fun q=>e (Sum.inr.inj q)
  rw [decide_eq_false h,decide_eq_false e]
theorem pP (a:Int) (b:Str):decide ((Sum.inl a:Key)=Sum.inr b)=false:=decide_eq_false (fun q=>nomatch q)
theorem FP (a:Str) (b:Int):decide ((Sum.inr a:Key)=Sum.inl b)=false:=decide_eq_false (fun q=>nomatch q)
noncomputable def Ge (prog:Program) (w:World):PySem.KeyKind prog w Key where
 is:=ID
 hash:=xS w
 inj:=fun v a b ha hb=>by
  rcases qe ha with ⟨i,t,rfl,rfl⟩ | ⟨x,t,rfl,rfl⟩
  ·rcases qe hb with ⟨j,u,rfl,e⟩ | ⟨y,u,rfl,e⟩
   ·injection e with e1 _;rw [e1]
   ·exact nomatch e
  ·rcases qe hb with ⟨j,u,rfl,e⟩ | ⟨y,u,rfl,e⟩
   ·exact nomatch e
   ·injection e with e1 _;rw [e1]
 byValue:=fun k v h=>by
  rcases qe h with ⟨i,t,rfl,rfl⟩ | ⟨x,t,rfl,rfl⟩ <;> rfl
 pyHash:=fun hv h=>by
  rcases qe hv with ⟨i,t,rfl,rfl⟩ | ⟨x,t,rfl,rfl⟩
  ·exact wpAny_pyHash_int h
  ·exact wpAny_pyHash_str h
 eqBool:=fun hu hv h=>by
  rcases qe hu with ⟨i,t,rfl,rfl⟩ | ⟨x,t,rfl,rfl⟩
  ·rcases qe hv with ⟨j,u,rfl,rfl⟩ | ⟨y,u,rfl,rfl⟩
   ·rw [JO] at h;exact wpAny_eqBool_int h
   ·rw [pP] at h;exact SeqAt.EqAt.int_str i t y u _ _ _ _ h
  ·rcases qe hv with ⟨j,u,rfl,rfl⟩ | ⟨y,u,rfl,rfl⟩
   ·rw [FP] at h;exact SeqAt.EqAt.str_int x t j u _ _ _ _ h
   ·rw [dO] at h;exact wpAny_eqBool_str h
 «strs»:=fun k x t v h=>by
  rcases qe h with ⟨i,u,rfl,e⟩ | ⟨y,u,rfl,e⟩
  ·exact nomatch e
  ·injection e with e1 _;subst e1;cases v <;> rfl
theorem Cz (prog:Program) (w:World) (i:Int) (t:Tok):(Ge prog w).is (.inl i) (.int i t)=true:=bI i t
theorem Uz (prog:Program) (w:World) (x:Str) (t:Tok):(Ge prog w).is (.inr x) (.str x t)=true:=FE x t
end L2
namespace L2
open PySem PySem.Spec PyProof.Rows
inductive V where
 | non | bl (b:Bool) | int (i:Int) | str (x:Str) | byt (b:Array UInt8) | flt (b:UInt64) | ref (a:Addr) | ty (n:String)
 deriving DecidableEq
noncomputable def Vd:V→Value→Prop
 | .non,u=>u=Value.none
 | .bl b,u=>u=Value.bool b
 | .int i,u=>∃ t,u=Value.int i t
 | .str x,u=>∃ t,u=Value.str x t
 | .byt b,u=>∃ t,u=Value.bytes b t
 | .flt b,u=>∃ t,u=Value.float b t
 | .ref a,u=>u=Value.ref a
 | .ty n,u=>u=Value.type n
noncomputable abbrev Cd:List V→List Value→Prop:=Paired Vd
theorem Cd.length {xs:List V} {us:List Value} (r:Cd xs us):xs.length=us.length:=Paired.length r
theorem Cd.get:∀ {xs:List V} {us:List Value} {i:Nat} {x:V},Cd xs us→xs[i]? = some x→∃ u,us[i]? = some u∧Vd x u
 | _,_,_,_,.nil,e=>by simp at e
 | _,_,0,_,.cons r _,e=>by simp at e;subst e;exact ⟨_,rfl,r⟩
 | _,_,i + 1,x,.cons _ t,e=>by
  obtain ⟨u,h1,h2⟩:=Cd.get (i:=i) (x:=x) t (by simpa using e);exact ⟨u,by simpa using h1,h2⟩
theorem Cd.set {x:V} {u:Value} (r:Vd x u):∀ {xs:List V} {us:List Value} (i:Nat),Cd xs us→Cd (xs.set i x) (us.set i u)
 | _,_,_,.nil=>.nil
 | _,_,0,.cons _ t=>.cons r t
 | _,_,i + 1,.cons q t=>.cons q (Cd.set r i t)
theorem Cd.append:∀ {xs ys:List V} {us ws:List Value},Cd xs us→Cd ys ws→Cd (xs ++ ys) (us ++ ws)
 | _,_,_,_,.nil,s=>s
 | _,_,_,_,.cons r t,s=>.cons r (Cd.append t s)
theorem Cd.take:∀ {xs:List V} {us:List Value} (n:Nat),Cd xs us→Cd (xs.take n) (us.take n)
 | _,_,0,_=>.nil
 | _,_,_ + 1,.nil=>.nil
 | _,_,n + 1,.cons r t=>.cons r (Cd.take n t)
theorem Cd.drop:∀ {xs:List V} {us:List Value} (n:Nat),Cd xs us→Cd (xs.drop n) (us.drop n)
 | _,_,0,r=>r
 | _,_,_ + 1,.nil=>.nil
 | _,_,n + 1,.cons _ t=>Cd.drop n t
theorem Cd.none_of:∀ {xs:List V} {us:List Value} {i:Nat},Cd xs us→xs[i]? = none→us[i]? = none:=fun {xs us i} r e=>by
 have h1:=r.length;have h2:xs.length ≤ i:=List.getElem?_eq_none_iff.mp e;exact List.getElem?_eq_none_iff.mpr (by omega)
noncomputable def su:Option V→Option Value→Prop
 | some v,some u=>Vd v u
 | none,none=>True
 | _,_=>False
noncomputable def KV {κ:Type}:List (κ × V)→List (κ × Value)→Prop:=Paired fun (p:κ × V) (q:κ × Value)=>p.1=q.1∧Vd p.2 q.2
noncomputable def kV:Key→V
 | .inl i=>.int i
 | .inr x=>.str x
inductive HO where
  | lst (xs:List V)
  | tup (xs:List V)
  | dK (kvs:List (Key × V)) | dT (kvs:List (List Key × V))
  | set (S:Int→Bool) (n:Nat)
  | ins (C dx:Addr) (fs:List (Str × V))
  | own (x:Addr)
  | xd (fs:List (Str × V))
  | met (f x:Addr)
  | rng (lo hi:Int)
  | frz (o:Obj) (u:HO)
  | tbl (ps:Array Value)
  | ext (φ:Heap→Prop)
noncomputable abbrev Hp:=Addr→Option HO
noncomputable def upd (H:Hp) (a:Addr) (o:HO):Hp:=fun b=>if b=a then some o else H b
theorem db {H:Hp} {a:Addr} {o:HO}:upd H a o a=some o:=by unfold upd;rw [if_pos rfl]
theorem wb {H:Hp} {a b:Addr} {o:HO} (h:b ≠ a):upd H a o b=H b:=by unfold upd;rw [if_neg h]
theorem Dl {H:Hp} {a:Addr} {o u:HO}:upd (upd H a o) a u=upd H a u:=by
 funext b;unfold upd;split <;> rfl
theorem Hf {H:Hp} {a b:Addr} {o u:HO} (h:H a=some o) (h':H b=some u) (d:o ≠ u):a ≠ b:=by
 intro e;subst e;rw [h] at h';exact d (Option.some.inj h')
theorem Ab {H:Hp} {a b:Addr} {o:HO} (h:H a=some o) (h':H b=none):a ≠ b:=by
 intro e;subst e;rw [h] at h';cases h'
section
variable (P:Program) (w:World)
noncomputable def we (H:Hp) (h:Heap) (a:Addr):HO→Prop
 | .lst xs=>xs.length ≤ sizeLine∧∃ (its:List Value) (n:Nat),Cd xs its∧h.get? a=some { cls:=.type "list",data:=.seq its.toArray n }
 | .tup xs=>(xs.length ≤ sizeLine∧∃ ob,h.get? a=some ob∧ob.dict=none)∧∃ its:List Value,Cd xs its∧IsTup h a its.toArray
 | .dK kvs=>kvs.length ≤ sizeLine∧(a == sysModules)=false∧∃ vs,KV kvs vs∧h.DictOf (Ge P w) a vs
 | .dT kvs=>kvs.length ≤ sizeLine∧(a == sysModules)=false∧∃ xs:List (List Key × Addr × Value),
   Paired (fun (p:List Key × V) (q:List Key × Addr × Value)=>p.1=q.1∧H q.2.1=some (.tup (p.1.map kV))∧Vd p.2 q.2.2) kvs xs ∧
   ∃ o es ep,h.get? a=some o∧o.ExactDict∧o.data=.dict es ep∧es.toList=xs.map (entryOfKey (tupleKind (Ge P w)))∧(xs.map (·.1)).Nodup
 | .set S n=>h.SetOf (intKind P w) a S n
 | .ins C dx fs=>H dx=some (.own a)∧fs.length ≤ 1000∧dx ≠ a∧h.get? a=some (PySem.W.instObj C dx) ∧
   ∃ mA,h.Ns1 dx mA∧(∀ f,su (fs.lookup f) (mA f))∧PySem.Within mA (fs.map (·.1))
 | .own _=>∃ o,h.get? a=some o
 | .xd fs=>∃ mA,h.Ns1 a mA∧∀ f,su (fs.lookup f) (mA f)
 | .rng lo hi=>∃ t u v,h.get? a=some { cls:=.type "range",data:=.fields #[.int lo t,.int hi u,.int 1 v] }
 | .frz o u=>h.get? a=some o∧we H h a u
 | .tbl ps=>h.get? a=some { cls:=.none,data:=.fields ps }
 | .met f x=>h.get? a=some (PySem.W.methodObj (.ref f) (.ref x))
 | .ext φ=>φ h∧(∃ o,h.get? a=some o)∧∀ h1 h2:Heap,φ h1→(∀ o,h1.get? a=some o→h2.get? a=some o)→φ h2
def HOk (H:Hp) (h:Heap):Prop:=∀ a o,H a=some o→we P w H h a o
end
section
variable {P:Program} {w:World} {H H':Hp} {h h':Heap} {a:Addr} {o:HO}
theorem we.lt (x:we P w H h a o):a < h.objs.size:=by
 cases o with
 | lst xs=>obtain ⟨_,_,_,_,e⟩:=x;exact Heap.lt_size e
 | tup xs=>obtain ⟨_,_,_,p⟩:=x;exact p.lt
 | dK kvs=>obtain ⟨_,_,_,_,o,_,_,e,_⟩:=x;exact Heap.lt_size e
 | dT kvs=>obtain ⟨_,_,_,_,o,_,_,e,_⟩:=x;exact Heap.lt_size e
 | set S n=>obtain ⟨o,_,_,_,e,_⟩:=x;exact Heap.lt_size e
 | ins C dx fs=>obtain ⟨_,_,_,e,_⟩:=x;exact Heap.lt_size e
 | own y=>obtain ⟨_,e⟩:=x;exact Heap.lt_size e
 | xd fs=>obtain ⟨_,⟨_,_,_,e,_⟩,_⟩:=x;exact Heap.lt_size e
 | rng lo hi=>obtain ⟨_,_,_,e⟩:=x;exact Heap.lt_size e
 | frz ob u=>obtain ⟨e,_⟩:=x;exact Heap.lt_size e
 | tbl ps=>exact Heap.lt_size (show h.get? a=some _ from x)
 | met f y=>exact Heap.lt_size (show h.get? a=some _ from x)
 | ext φ=>obtain ⟨_,⟨_,e⟩,_⟩:=x;exact Heap.lt_size e
theorem Paired.mapP {α β:Type} {F G:α→β→Prop}:∀ {l₁:List α} {l₂:List β},Paired F l₁ l₂→(∀ a b,F a b→G a b)→Paired G l₁ l₂
 | _,_,.nil,_=>.nil
 | _,_,.cons r t,f=>.cons (f _ _ r) (Paired.mapP t f)
theorem we.stay (x:we P w H h a o) (k:∀ b u,(b=a∨H b=some (.own a))→h.get? b=some u→h'.get? b=some u)
  (ho:∀ b,H b=some (.own a)→H' b=some (.own a)) (ht:∀ b xs,H b=some (.tup xs)→H' b=some (.tup xs)):we P w H' h' a o:=by
 induction o with
 | lst xs=>obtain ⟨z,its,n,r,e⟩:=x;exact ⟨z,its,n,r,k _ _ (.inl rfl) e⟩
 | tup xs=>obtain ⟨⟨z,oz,ez,dz⟩,its,r,ob,e,c⟩:=x;exact ⟨⟨z,oz,k _ _ (.inl rfl) ez,dz⟩,its,r,ob,k _ _ (.inl rfl) e,c⟩
 | dK kvs=>obtain ⟨z,y,vs,r,ob,es,ep,e,c⟩:=x;exact ⟨z,y,vs,r,ob,es,ep,k _ _ (.inl rfl) e,c⟩
 | dT kvs=>
  obtain ⟨z,y,xs,r,ob,es,ep,e,c⟩:=x;exact ⟨z,y,xs,Paired.mapP r fun p q z=>⟨z.1,ht _ _ z.2.1,z.2.2⟩,ob,es,ep,k _ _ (.inl rfl) e,c⟩
 | set S n=>obtain ⟨ob,es,ep,t,e,c⟩:=x;exact ⟨ob,es,ep,t,k _ _ (.inl rfl) e,c⟩
 | ins C dx fs=>
  obtain ⟨d,z,ne,e,mA,⟨od,es,ep,e2,c⟩,r⟩:=x;exact ⟨ho _ d,z,ne,k _ _ (.inl rfl) e,mA,⟨od,es,ep,k _ _ (.inr d) e2,c⟩,r⟩
 | own y=>obtain ⟨ob,e⟩:=x;exact ⟨ob,k _ _ (.inl rfl) e⟩
 | xd fs=>obtain ⟨mA,⟨od,es,ep,e,c⟩,r⟩:=x;exact ⟨mA,⟨od,es,ep,k _ _ (.inl rfl) e,c⟩,r⟩
 | rng lo hi=>obtain ⟨t,u,v,e⟩:=x;exact ⟨t,u,v,k _ _ (.inl rfl) e⟩
 | frz ob u ih=>obtain ⟨e,q⟩:=x;exact ⟨k _ _ (.inl rfl) e,ih q⟩
 | tbl ps=>
  have e:h.get? a=some { cls:=.none,data:=.fields ps }:=x;show h'.get? a=some { cls:=.none,data:=.fields ps };exact k a _ (.inl rfl) e
 | met f y=>
  have e:h.get? a=some (PySem.W.methodObj (.ref f) (.ref y)):=x;show h'.get? a=some (PySem.W.methodObj (.ref f) (.ref y));exact k a _ (.inl rfl) e
 | ext φ=>obtain ⟨p,⟨o,e⟩,st⟩:=x;exact ⟨st _ _ p fun o q=>k _ _ (.inl rfl) q,⟨o,k _ _ (.inl rfl) e⟩,st⟩
theorem HOk.lt (x:HOk P w H h) (e:H a=some o):a < h.objs.size:=(x a o e).lt
theorem HOk.fresh (x:HOk P w H h) (e:h.objs.size ≤ a):H a=none:=by
 cases q:H a with
 | none=>rfl
 | some u=>exact absurd (Nat.lt_of_lt_of_le (x.lt q) e) (Nat.lt_irrefl _)
theorem HOk.kept (x:HOk P w H h) (k:∀ b u,h.get? b=some u→h'.get? b=some u):HOk P w H h':=fun a o e=>
 (x a o e).stay (fun b u _ q=>k b u q) (fun _ q=>q) fun _ _ q=>q
theorem HOk.laid (x:HOk P w H h) (k:∀ b u,h.get? b=some u→h'.get? b=some u) (hp:h.objs.size ≤ a) (new:we P w (upd H a o) h' a o):HOk P w (upd H a o) h':=fun b u e=>by
 have hn:=x.fresh hp;by_cases hb:b=a
 ·subst hb;rw [db] at e;cases e;exact new
 ·rw [wb hb] at e;exact (x b u e).stay (fun c v _ q=>k c v q) (fun c q=>by rw [wb (Ab q hn)];exact q) fun c xs q=>by rw [wb (Ab q hn)];exact q
end
def Rd (H:Hp) (a:Addr) (u:HO):Prop:=H a=some u∨∃ o,H a=some (.frz o u)
theorem Rd.of {H:Hp} {a:Addr} {u:HO} (h:H a=some u):Rd H a u:=.inl h
theorem Rd.ok {P:Program} {w:World} {H:Hp} {h:Heap} {a:Addr} {u:HO} (r:Rd H a u) (x:HOk P w H h):we P w H h a u:=by
 rcases r with r | ⟨o,r⟩
 ·exact x a u r
 ·obtain ⟨_,q⟩:=x a _ r;exact q
noncomputable def Mut:Option HO→Prop
 | some (.lst _)=>True
 | some (.dK _)=>True
 | some (.dT _)=>True
 | some (.set _ _)=>True
 | some (.ins _ _ _)=>True
 | some (.ext _)=>True
 | _=>False
section
variable {P:Program} {w:World} {H:Hp} {h h':Heap} {x e:Addr} {o':HO}
theorem HOk.write (ok:HOk P w H h) (mu:Mut (H x)) (he:e=x∨H e=some (.own x)) (k:∀ b u,b ≠ e→h.get? b=some u→h'.get? b=some u) (heo:∃ u,h'.get? e=some u)
  (new:we P w (upd H x o') h' x o'):HOk P w (upd H x o') h':=fun b u q=>by
 have nown:∀ c y,H c=some (.own y)→c ≠ x:=fun c y r z=>by subst z;rw [r] at mu;exact mu
 have ntup:∀ c xs,H c=some (.tup xs)→c ≠ x:=fun c xs r z=>by subst z;rw [r] at mu;exact mu
 by_cases hb:b=x
 ·subst hb;rw [db] at q;cases q;exact new
 ·rw [wb hb] at q;by_cases hbe:b=e
  ·have q':H b=some (.own x):=by
    rcases he with z | z
    ·exact absurd (hbe.trans z) hb
    ·rw [hbe];exact z
   rw [q] at q';cases q';obtain ⟨v,hv⟩:=heo;exact ⟨v,by rw [hbe];exact hv⟩
  ·refine (ok b u q).stay (fun c v hc r=>k c v ?_ r) (fun c r=>by rw [wb (nown c b r)];exact r) fun c xs r=>by rw [wb (ntup c xs r)];exact r
   rcases hc with rfl | hc
   ·exact hbe
   ·rintro rfl;rcases he with z | z
    ·exact nown c b hc z
    ·rw [hc] at z;cases z;exact hb rfl
end
structure Un (fs ex:List Addr) (H H':Hp) (h h':Heap):Prop where
 keep:∀ b o,h.get? b=some o→H b=none→b ∉ fs→b ∉ ex→h'.get? b=some o
 slot:∀ b o,h.get? b=some o→H b=none→b ∈ fs→b ∉ ex→∃ sl,h'.get? b=some { o with slots:=sl }
 free:∀ b o,h.get? b=some o→H b=none→b ∉ ex→H' b=none
 there:∀ b o,h.get? b=some o→b ∉ ex→∃ o',h'.get? b=some o'
 tups:∀ b xs,H b=some (.tup xs)→H' b=some (.tup xs)
 frzs:∀ b o u,H b=some (.frz o u)→H' b=some (.frz o u)
 tbls:∀ b ps,H b=some (.tbl ps)→∃ more,H' b=some (.tbl (ps ++ more))
section
variable {fs fs' ex ex':List Addr} {H H1 H2:Hp} {h h1 h2 h':Heap} {a x e:Addr} {o:HO}
theorem Un.any (u:Un fs ex H H1 h h1) {b:Addr} {ob:Obj} (q:h.get? b=some ob) (n:H b=none) (hx:b ∉ ex):∃ sl,h1.get? b=some { ob with slots:=sl }:=by
 by_cases hb:b ∈ fs
 ·exact u.slot b ob q n hb hx
 ·exact ⟨ob.slots,u.keep b ob q n hb hx⟩
theorem Un.trans (a:Un fs ex H H1 h h1) (b:Un fs ex H1 H2 h1 h2):Un fs ex H H2 h h2 where
 keep:=fun c ob q n hc hx=>b.keep c ob (a.keep c ob q n hc hx) (a.free c ob q n hx) hc hx
 slot:=fun c ob q n hc hx=>by
  obtain ⟨sl,e1⟩:=a.slot c ob q n hc hx;obtain ⟨sl',e2⟩:=b.slot c _ e1 (a.free c ob q n hx) hc hx;exact ⟨sl',e2⟩
 free:=fun c ob q n hx=>by
  obtain ⟨o',e1⟩:=a.there c ob q hx;exact b.free c o' e1 (a.free c ob q n hx) hx
 there:=fun c ob q hx=>by
  obtain ⟨o',e1⟩:=a.there c ob q hx;exact b.there c o' e1 hx
 tups:=fun c xs q=>b.tups c xs (a.tups c xs q)
 frzs:=fun c ob xs q=>b.frzs c ob xs (a.frzs c ob xs q)
 tbls:=fun c ps q=>by
  obtain ⟨m1,e1⟩:=a.tbls c ps q;obtain ⟨m2,e2⟩:=b.tbls c _ e1;exact ⟨m1 ++ m2,by rw [e2,Array.append_assoc]⟩
theorem Un.kept (k:∀ b u,h.get? b=some u→h'.get? b=some u):Un fs ex H H h h':=
 ⟨fun b ob q _ _ _=>k b ob q,fun b ob q _ _ _=>⟨ob.slots,k b ob q⟩,fun _ _ _ n _=>n,fun b ob q _=>⟨ob,k b ob q⟩,fun _ _ q=>q,fun _ _ _ q=>q,fun _ ps q=>⟨#[],by rw [q];simp⟩⟩
theorem Un.refl:Un fs ex H H h h:=Un.kept fun _ _ q=>q
theorem Un.laid (k:∀ b u,h.get? b=some u→h'.get? b=some u) (hp:h.objs.size ≤ a) (hn:H a=none):Un fs ex H (upd H a o) h h' where
 keep:=fun b u q _ _ _=>k b u q
 slot:=fun b u q _ _ _=>⟨u.slots,k b u q⟩
 free:=fun b u q n _=>by rw [wb (Nat.ne_of_lt (Nat.lt_of_lt_of_le (Heap.lt_size q) hp))];exact n
 there:=fun b u q _=>⟨u,k b u q⟩
 tups:=fun b xs q=>by rw [wb (Ab q hn)];exact q
 frzs:=fun b u xs q=>by rw [wb (Ab q hn)];exact q
 tbls:=fun b ps q=>⟨#[],by rw [wb (Ab q hn),q];simp⟩
theorem Un.write (mu:Mut (H x)) (he:e=x∨H e=some (.own x)) (k:∀ b u,b ≠ e→h.get? b=some u→h'.get? b=some u) (heo:∃ u,h'.get? e=some u):Un fs ex H (upd H x o) h h':=by
 have hx:∀ b,H b=none→b ≠ x:=fun b n z=>by subst z;rw [n] at mu;exact mu
 have hb:∀ b,H b=none→b ≠ e:=fun b n z=>by
  subst z;rcases he with r | r
  ·exact hx b n r
  ·rw [n] at r;cases r
 have hm:∀ b u,H b=some u→¬ Mut (some u)→b ≠ x:=fun b u q nm z=>by subst z;rw [q] at mu;exact nm mu
 refine ⟨fun b u q n _ _=>k b u (hb b n) q,fun b u q n _ _=>⟨u.slots,k b u (hb b n) q⟩,fun b u q n _=>by rw [wb (hx b n)];exact n,fun b u q _=>?_,
  fun b xs q=>by rw [wb (hm b _ q fun z=>z)];exact q,fun b u xs q=>by rw [wb (hm b _ q fun z=>z)];exact q,fun b ps q=>⟨#[],by rw [wb (hm b _ q fun z=>z),q];simp⟩⟩
 by_cases hbe:b=e
 ·subst hbe;exact heo
 ·exact ⟨u,k b u hbe q⟩
theorem Un.mono (u:Un fs ex H H1 h h1) (hs:∀ b ∈ fs,b ∈ fs') (hx:∀ b ∈ ex,b ∈ ex'):Un fs' ex' H H1 h h1:=
 ⟨fun b ob q n hb he=>u.keep b ob q n (fun z=>hb (hs b z)) fun z=>he (hx b z),fun _ _ q n _ he=>u.any q n fun z=>he (hx _ z),fun b ob q n he=>u.free b ob q n fun z=>he (hx b z),fun b ob q he=>u.there b ob q fun z=>he (hx b z),u.tups,u.frzs,u.tbls⟩
end
noncomputable def trk (h:Heap) (H:Hp):List Addr:=(List.range h.objs.size).filter fun a=>(H a).isSome
noncomputable def iJ (h:Heap) (H:Hp):Heap:=PySem.W.hideAll h (trk h H)
theorem NG (h:Heap) (H:Hp):(iJ h H).objs.size=h.objs.size:=PySem.W.hideAll_size _ _
theorem DJ {h:Heap} {H:Hp} {b:Addr} {o:Obj} (e:h.get? b=some o) (n:H b=none):(iJ h H).get? b=some o:=
 PySem.W.hideAll_get _ e fun hm=>by
  have q:(H b).isSome=true:=(List.mem_filter.mp hm).2;rw [n] at q;simp at q
theorem lM {h:Heap} {H:Hp} {b:Addr} {o:Obj} (e:(iJ h H).get? b=some o):h.get? b=some o∧H b=none:=by
 have e':h.get? b=some o:=PySem.W.of_hideAll (trk h H) e;refine ⟨e',?_⟩;cases q:H b with
 | none=>rfl
 | some x=>
  have hm:b ∈ trk h H:=List.mem_filter.mpr ⟨List.mem_range.mpr (Heap.lt_size e'),by simp [q]⟩;have z:(iJ h H).get? b=none:=PySem.W.hideAll_none (trk h H) hm;rw [z] at e;cases e
noncomputable def BN (g h:Heap) (L:Addr):List (Addr × Obj):=(List.range h.objs.size).filterMap fun a=>if a=L∨(g.get? a).isSome=true then none else (h.get? a).map fun o=>(a,o)
noncomputable def aA (g h:Heap) (L d:Addr):List (Addr × Obj):=(BN g h L).filter fun p=>decide (p.1 ≠ d)
end L2
namespace L2
open PySem PySem.Spec PyProof.Rows
structure Mod (K:PySem.W.Frag) (mg:Str→Option Value) (base:Heap):Prop where
 kin:K.In base
 glob:base.Ns mainGlobals mg
 blt:∃ mb,base.Ns builtinsNs mb∧∀ x:Str,x ≠ "__name__" → mb x=bootBuiltins x
 nolimit:base.NoLimit
structure Cx where
 prog:Program
 w:World
 K:PySem.W.Frag
 mg:Str→Option Value
 base:Heap
 A:Around
 N:List Str
 s₀:Shared
 H₀:Hp
 env:Env
 outer:List Env
 stack:List Env
 ex:List Addr
 fn:Str→Bool
 calm:Bool
 pn:List (Addr × Obj)
 xe:Value→Shared→Prop
noncomputable def frs (l:List Env):List Addr:=l.filterMap (·.frame)
noncomputable abbrev Cx.fs (X:Cx):List Addr:=frs X.outer
def Vis (sc:Scope) (x:Str):Prop:=sc.names.lookup x=some .local∨sc.names.lookup x=some .cell∨sc.names.lookup x=some .free
def Loc (sc:Scope) (x:Str):Prop:=sc.names.lookup x=some .local∨sc.names.lookup x=some .cell
def yS (env:Env) (h:Heap) (m:Str→Option Value) (x:Str) (u:Value):Prop:=
 (env.kindOf x=some .local∧m x=some u)∨((env.kindOf x=some .cell∨env.kindOf x=some .free)∧∃ c,env.cells.lookup x=some c∧h.IsCell c (some u))
structure Cx.Ok (X:Cx):Prop where
 mod:Mod X.K X.mg X.base
 kind:X.env.scope.kind=.function
 glob:X.env.globals=mainGlobals
 blt:X.env.builtins=builtinsNs
 above:X.s₀.heap.objs.size ≤ X.env.locals
 inj:∀ x y c,X.env.cells.lookup x=some c→X.env.cells.lookup y=some c→x=y
 has:∀ x,(X.env.kindOf x=some .cell∨X.env.kindOf x=some .free)→∃ c,X.env.cells.lookup x=some c
 cab:∀ x c,X.fn x=true→X.env.cells.lookup x=some c→X.s₀.heap.objs.size ≤ c
 hd:X.calm=true→X.A.handled=none
 frames:X.A.frames=some X.stack
 stk:X.stack=X.outer∨(X.stack=X.env :: X.outer∧X.env.frame=some X.env.locals)
 exf:∀ b ∈ X.ex,b ≠ X.env.locals∧∀ x c,X.env.cells.lookup x=some c→c ≠ b
 bs:∀ b o,X.base.get? b=some o→X.s₀.heap.get? b=some o∧X.H₀ b=none
 bsz:X.base.objs.size ≤ X.s₀.heap.objs.size
 noex:∀ b o,X.base.get? b=some o→b ∉ X.ex
 exfs:∀ b ∈ X.ex,b ∉ X.fs
 funs:X.s₀.heap.FunFrames X.base X.outer
 frf:∀ b ∈ X.fs,X.H₀ b=none
structure Inv (X:Cx) (pins:List (Addr × Obj)) (σ:List (Option V)) (H:Hp) (s:Shared):Prop where
 ok:X.Ok
 os:s.os=X.s₀.os
 bare:AllBare s.gens
 base:Un X.fs X.ex X.H₀ H X.s₀.heap s.heap
 loc:∃ m,s.heap.Ns X.env.locals m∧∀ (i:Nat) (x:Str) (v:V),X.N[i]? = some x→σ[i]? = some (some v)→Vis X.env.scope x→∃ u,Vd v u∧yS X.env s.heap m x u
 cell:∀ x c,X.env.cells.lookup x=some c→∃ v,s.heap.IsCell c v
 free:H X.env.locals=none
 freeC:∀ x c,X.env.cells.lookup x=some c→H c=none
 pin:∀ p ∈ X.pn ++ pins,s.heap.get? p.1=some p.2∧H p.1=none∧p.1 ≠ X.env.locals∧p.1 ∉ X.fs∧∀ v,p.2.data ≠ .cell v
 hok:HOk X.prog X.w H s.heap
 len:σ.length=X.N.length
section
variable {X:Cx} {pins:List (Addr × Obj)} {σ:List (Option V)} {H H':Hp} {s:Shared} {h':Heap}
theorem Cx.Ok.nofr (ok:X.Ok) {b:Addr} {o:Obj} (e:X.base.get? b=some o):b ∉ X.fs:=fun hb=>by
 have:=(ok.funs.mem hb).1;rw [e] at this;cases this
theorem Inv.bs (I:Inv X pins σ H s):∀ b o,X.base.get? b=some o→s.heap.get? b=some o∧H b=none:=fun b o e=>
 ⟨I.base.keep b o (I.ok.bs b o e).1 (I.ok.bs b o e).2 (I.ok.nofr e) (I.ok.noex b o e),I.base.free b o (I.ok.bs b o e).1 (I.ok.bs b o e).2 (I.ok.noex b o e)⟩
theorem Inv.bk (I:Inv X pins σ H s):∀ b o,X.base.get? b=some o→s.heap.get? b=some o:=fun b o e=>(I.bs b o e).1
theorem Inv.mod (I:Inv X pins σ H s):Mod X.K X.mg X.base:=I.ok.mod
theorem Inv.kIn (I:Inv X pins σ H s):X.K.In s.heap:=I.ok.mod.kin.keeps I.bk
theorem Inv.nolimit (I:Inv X pins σ H s):s.heap.NoLimit:=I.ok.mod.nolimit.keeps I.bk
theorem Inv.fr (I:Inv X pins σ H s):∃ m,Fr X.base X.env.locals s.heap m:=
 let ⟨m,hn,_⟩:=I.loc
 ⟨m,hn,I.bk,Nat.le_trans I.ok.bsz I.ok.above⟩
theorem Inv.lt (I:Inv X pins σ H s):X.env.locals < s.heap.objs.size:=let ⟨_,hn,_⟩:=I.loc;hn.lt
theorem Inv.sz (I:Inv X pins σ H s):X.s₀.heap.objs.size ≤ s.heap.objs.size:=Nat.le_trans I.ok.above (Nat.le_of_lt I.lt)
theorem Inv.nofs (I:Inv X pins σ H s) {a:Addr} (h:s.heap.objs.size ≤ a):a ∉ X.fs:=fun hb=>by
 obtain ⟨_,o,ho,_⟩:=I.ok.funs.mem hb;exact absurd (Nat.lt_of_lt_of_le (Heap.lt_size ho) (Nat.le_trans I.sz h)) (Nat.lt_irrefl _)
theorem Inv.cne (I:Inv X pins σ H s):∀ x c,X.env.cells.lookup x=some c→c ≠ X.env.locals:=fun x c e z=>by
 obtain ⟨v,o,ho,hd⟩:=I.cell x c e;obtain ⟨m,⟨o',es,ep,ho',hd',_⟩,_⟩:=I.loc;rw [z,ho'] at ho;cases ho;rw [hd'] at hd;cases hd
theorem Inv.funs (I:Inv X pins σ H s):s.heap.FunFrames X.base X.outer:=by
 have all:∀ (l:List Env),(∀ b ∈ frs l,b ∈ X.fs)→X.s₀.heap.FunFrames X.base l→s.heap.FunFrames X.base l:=by
  intro l
  induction l with
  | nil=>intro _ _;trivial
  | cons env r ih=>
   intro hs hl;obtain ⟨hk,⟨L,o,hf,hn,ho,hd⟩,hr⟩:=hl;have hL:L ∈ X.fs:=hs L (by unfold frs;rw [List.filterMap_cons,hf];exact List.mem_cons_self);obtain ⟨sl,e⟩:=I.base.slot L o ho (I.ok.frf L hL) hL fun z=>I.ok.exfs L z hL
   exact ⟨hk,⟨L,_,hf,hn,e,hd⟩,ih (fun b hb=>hs b (by unfold frs;rw [List.filterMap_cons,hf];exact List.mem_cons_of_mem _ hb)) hr⟩
 exact all X.outer (fun _ hb=>hb) I.ok.funs
theorem Inv.stack (I:Inv X pins σ H s):s.heap.FunFrames X.base X.stack:=by
 rcases I.ok.stk with e | ⟨e,hf⟩
 ·rw [e];exact I.funs
 ·rw [e];obtain ⟨m,hn,_⟩:=I.loc;refine .cons (by rw [I.ok.kind];decide) hf hn ?_ I.funs;exact Heap.get?_none_of_le (Nat.le_trans I.ok.bsz I.ok.above)
theorem Inv.stkSub (I:Inv X pins σ H s):∀ b ∈ frs X.stack,b ∈ X.env.locals :: X.fs:=fun b hb=>by
 rcases I.ok.stk with e | ⟨e,hf⟩
 ·rw [e] at hb;exact List.mem_cons_of_mem _ hb
 ·rw [e] at hb;unfold frs at hb;rw [List.filterMap_cons,hf] at hb;exact hb
theorem Inv.stkFree (I:Inv X pins σ H s):∀ b ∈ frs X.stack,H b=none:=fun b hb=>by
 rcases List.mem_cons.mp (I.stkSub b hb) with e | hb
 ·rw [e];exact I.free
 ·obtain ⟨_,o,ho,_⟩:=I.ok.funs.mem hb;exact I.base.free b o ho (I.ok.frf b hb) fun z=>I.ok.exfs b z hb
theorem Inv.step {g':Array GenState} {t':Nat} {d':Drawn} {ch:List Addr} (I:Inv X pins σ H s)
  (hch:∀ b ∈ ch,(b ∈ X.ex∨X.s₀.heap.objs.size ≤ b)∧b ≠ X.env.locals∧(∀ x c,X.env.cells.lookup x=some c→c ≠ b)∧∀ p ∈ X.pn ++ pins,p.1 ≠ b)
  (keep:∀ b o,b ≠ X.env.locals→b ∉ X.fs→b ∉ ch→s.heap.get? b=some o→H b=none→h'.get? b=some o)
  (slot:∀ b o,b ≠ X.env.locals→b ∈ X.fs→b ∉ ch→s.heap.get? b=some o→H b=none→∃ sl,h'.get? b=some { o with slots:=sl }) (free:∀ b o,b ∉ ch→s.heap.get? b=some o→H b=none→H' b=none)
  (there:∀ b o,b ∉ ch→s.heap.get? b=some o→∃ o',h'.get? b=some o')
  (tups:∀ b xs,H b=some (.tup xs)→H' b=some (.tup xs)) (frzs:∀ b o u,H b=some (.frz o u)→H' b=some (.frz o u)) (tbls:∀ b ps,H b=some (.tbl ps)→∃ more,H' b=some (.tbl (ps ++ more)))
  (ns:∀ m,s.heap.Ns X.env.locals m→h'.Ns X.env.locals m) (hok:HOk X.prog X.w H' h') (hg:AllBare g') :
  Inv X pins σ H' { s with heap:=h',gens:=g',drawn:=d',toks:=t' }:=by
 have neL:∀ b o,X.s₀.heap.get? b=some o→b ≠ X.env.locals:=fun b o e=>Nat.ne_of_lt (Nat.lt_of_lt_of_le (Heap.lt_size e) I.ok.above)
 have neC:∀ b o,X.s₀.heap.get? b=some o→b ∉ X.ex→b ∉ ch:=fun b o e hx hb=>by
  rcases (hch b hb).1 with z | z
  ·exact hx z
  ·exact absurd (Nat.lt_of_lt_of_le (Heap.lt_size e) z) (Nat.lt_irrefl _)
 have cellK:∀ x c,X.env.cells.lookup x=some c→∀ v,s.heap.IsCell c v→h'.IsCell c v:=fun x c e v ⟨o,ho,hd⟩=>by
  have nch:c ∉ ch:=fun z=>(hch c z).2.2.1 x c e rfl
  by_cases hc:c ∈ X.fs
  ·obtain ⟨sl,q⟩:=slot c o (I.cne x c e) hc nch ho (I.freeC x c e);exact ⟨_,q,hd⟩
  ·exact ⟨o,keep c o (I.cne x c e) hc nch ho (I.freeC x c e),hd⟩
 refine ⟨I.ok,I.os,hg,⟨fun b o e n hb hx=>?_,fun b o e n hb hx=>?_,fun b o e n hx=>?_,fun b o e hx=>?_,fun b xs e=>tups b xs (I.base.tups b xs e),fun b o xs e=>frzs b o xs (I.base.frzs b o xs e),fun b ps e=>?_⟩,?_,fun x c e=>?_,?_,fun x c e=>?_,fun p hp=>?_,hok,I.len⟩
 ·exact keep b o (neL b o e) hb (neC b o e hx) (I.base.keep b o e n hb hx) (I.base.free b o e n hx)
 ·obtain ⟨sl,e1⟩:=I.base.slot b o e n hb hx;obtain ⟨sl',e2⟩:=slot b _ (neL b o e) hb (neC b o e hx) e1 (I.base.free b o e n hx);exact ⟨sl',e2⟩
 ·obtain ⟨o',e1⟩:=I.base.there b o e hx;exact free b o' (neC b o e hx) e1 (I.base.free b o e n hx)
 ·obtain ⟨o',e1⟩:=I.base.there b o e hx;exact there b o' (neC b o e hx) e1
 ·obtain ⟨m1,e1⟩:=I.base.tbls b ps e;obtain ⟨m2,e2⟩:=tbls b _ e1;exact ⟨m1 ++ m2,by rw [e2,Array.append_assoc]⟩
 ·obtain ⟨m,hn,hl⟩:=I.loc;refine ⟨m,ns m hn,fun i x v e1 e2 e3=>?_⟩;obtain ⟨u,r,l⟩:=hl i x v e1 e2 e3;refine ⟨u,r,?_⟩;rcases l with l | ⟨k,c,e,z⟩
  ·exact .inl l
  ·exact .inr ⟨k,c,e,cellK x c e _ z⟩
 ·obtain ⟨v,z⟩:=I.cell x c e;exact ⟨v,cellK x c e v z⟩
 ·obtain ⟨m,⟨o,_,_,ho,_⟩,_⟩:=I.loc;exact free _ o (fun z=>(hch _ z).2.1 rfl) ho I.free
 ·obtain ⟨v,o,ho,hd⟩:=I.cell x c e;exact free c o (fun z=>(hch c z).2.2.1 x c e rfl) ho (I.freeC x c e)
 ·obtain ⟨e,n,ne,nf,d⟩:=I.pin p hp;have nch:p.1 ∉ ch:=fun z=>(hch p.1 z).2.2.2 p hp rfl
  exact ⟨keep p.1 p.2 ne nf nch e n,free p.1 p.2 nch e n,ne,nf,d⟩
theorem Inv.un {t':Nat} (I:Inv X pins σ H s) (u:Un X.fs [] H H' s.heap h') (hok:HOk X.prog X.w H' h'):Inv X pins σ H' { s with heap:=h',toks:=t' }:=by
 obtain ⟨m,⟨o,es,ep,ho,r⟩,_⟩:=id I.loc;obtain ⟨sl,hL⟩:=u.any ho I.free (by simp);exact I.step (g':=s.gens) (d':=s.drawn) (ch:=[]) (fun _ z=>nomatch z) (fun b o _ hb _ e n=>u.keep b o e n hb (by simp)) (fun b o _ hb _ e n=>u.slot b o e n hb (by simp)) (fun b o _ e n=>u.free b o e n (by simp)) (fun b o _ e=>u.there b o e (by simp)) u.tups u.frzs u.tbls (fun m' hm=>by
  obtain ⟨o',es',ep',ho',r'⟩:=hm;rw [ho] at ho';cases ho';exact ⟨_,es',ep',hL,r'⟩) hok I.bare
theorem Inv.call {g':Array GenState} {t':Nat} {d':Drawn} {ch:List Addr} (I:Inv X pins σ H s) (u:Un (frs X.stack) ch H H' s.heap h') (hok:HOk X.prog X.w H' h') (hg:AllBare g')
  (hch:∀ b ∈ ch,(b ∈ X.ex∨X.s₀.heap.objs.size ≤ b)∧b ≠ X.env.locals∧(∀ x c,X.env.cells.lookup x=some c→c ≠ b)∧∀ p ∈ X.pn ++ pins,p.1 ≠ b) :
  Inv X pins σ H' { s with heap:=h',gens:=g',drawn:=d',toks:=t' }:=by
 obtain ⟨m,⟨o,es,ep,ho,r⟩,_⟩:=id I.loc;obtain ⟨sl,hL⟩:=u.any ho I.free fun z=>(hch _ z).2.1 rfl
 exact I.step (ch:=ch) hch (fun b o hL hb hc e n=>u.keep b o e n (fun z=>(List.mem_cons.mp (I.stkSub b z)).elim hL hb) hc) (fun b o _ _ hc e n=>u.any e n hc) (fun b o hc e n=>u.free b o e n hc) (fun b o hc e=>u.there b o e hc) u.tups u.frzs u.tbls (fun m' hm=>by
  obtain ⟨o',es',ep',ho',r'⟩:=hm;rw [ho] at ho';cases ho';exact ⟨_,es',ep',hL,r'⟩) hok hg
theorem Inv.turned {t':Nat} {it:Addr} (I:Inv X pins σ H s) (k:∀ b o,b ≠ it→s.heap.get? b=some o→h'.get? b=some o) (hn:H it=none) (hL:it ≠ X.env.locals)
  (h1:it ∈ X.ex∨X.s₀.heap.objs.size ≤ it) (h2:∀ x c,X.env.cells.lookup x=some c→c ≠ it) (h3:∀ p ∈ X.pn ++ pins,p.1 ≠ it):Inv X pins σ H { s with heap:=h',toks:=t' }:=by
 have nit:∀ b u,H b=some u→b ≠ it:=fun b u e z=>by rw [z,hn] at e;cases e
 refine I.step (g':=s.gens) (d':=s.drawn) (ch:=[it]) (fun b hb=>?_) (fun b o _ _ hc e _=>k b o (fun z=>hc (by simp [z])) e) (fun b o _ _ hc e _=>⟨o.slots,k b o (fun z=>hc (by simp [z])) e⟩) (fun _ _ _ _ n=>n)
  (fun b o hc e=>⟨o,k b o (fun z=>hc (by simp [z])) e⟩) (fun _ _ e=>e) (fun _ _ _ e=>e) (fun b ps e=>⟨#[],by rw [e];simp⟩) (fun m hm=>?_) (fun b u e=>?_) I.bare
 ·have e:b=it:=by simpa using hb
  subst e;exact ⟨h1,hL,h2,h3⟩
 ·obtain ⟨o,es,ep,ho,r⟩:=hm;exact ⟨o,es,ep,k _ o (Ne.symm hL) ho,r⟩
 ·refine (I.hok b u e).stay (fun c v hc q=>k c v ?_ q) (fun _ q=>q) fun _ _ q=>q
  rcases hc with z | z
  ·rw [z];exact nit b u e
  ·exact nit c _ z
theorem Inv.tok (I:Inv X pins σ H s) (t:Nat):Inv X pins σ H { s with toks:=t }:=I.un (h':=s.heap) (t':=t) Un.refl I.hok
theorem Inv.kept {t':Nat} (I:Inv X pins σ H s) (k:∀ b u,s.heap.get? b=some u→h'.get? b=some u):Inv X pins σ H { s with heap:=h',toks:=t' }:=I.un (Un.kept k) (I.hok.kept k)
theorem Inv.laid {a:Addr} {o:HO} {t':Nat} (I:Inv X pins σ H s) (k:∀ b u,s.heap.get? b=some u→h'.get? b=some u) (hp:s.heap.objs.size ≤ a) (new:we X.prog X.w (upd H a o) h' a o) :
  Inv X pins σ (upd H a o) { s with heap:=h',toks:=t' }:=I.un (Un.laid k hp (I.hok.fresh hp)) (I.hok.laid k hp new)
theorem Inv.write {x e:Addr} {o:HO} {t':Nat} (I:Inv X pins σ H s) (mu:Mut (H x)) (he:e=x∨H e=some (.own x)) (k:∀ b u,b ≠ e→s.heap.get? b=some u→h'.get? b=some u) (heo:∃ u,h'.get? e=some u)
  (new:we X.prog X.w (upd H x o) h' x o):Inv X pins σ (upd H x o) { s with heap:=h',toks:=t' }:=I.un (Un.write mu he k heo) (I.hok.write mu he k heo new)
theorem Inv.weak {σ':List (Option V)} (I:Inv X pins σ H s) (hl:σ'.length=σ.length) (w:∀ (i:Nat) v,σ'[i]? = some (some v)→σ[i]? = some (some v)):Inv X pins σ' H s:=
 ⟨I.ok,I.os,I.bare,I.base,let ⟨m,hn,hl'⟩:=I.loc;⟨m,hn,fun i x v e1 e2 e3=>hl' i x v e1 (w i v e2) e3⟩,I.cell,I.free,I.freeC,I.pin,I.hok,hl.trans I.len⟩
theorem Inv.pins_of {pins':List (Addr × Obj)} (I:Inv X pins σ H s) (h:∀ p ∈ pins',s.heap.get? p.1=some p.2∧H p.1=none∧p.1 ≠ X.env.locals∧p.1 ∉ X.fs∧∀ v,p.2.data ≠ .cell v):Inv X pins' σ H s:=
 ⟨I.ok,I.os,I.bare,I.base,I.loc,I.cell,I.free,I.freeC,fun p hp=>(List.mem_append.mp hp).elim (fun z=>I.pin p (List.mem_append_left _ z)) (h p),I.hok,I.len⟩
theorem EA {N:List Str} (hN:N.Nodup) {i j:Nat} {x:Str} (a:N[i]? = some x) (b:N[j]? = some x):i=j:=by
 obtain ⟨h1,e1⟩:=List.getElem?_eq_some_iff.mp a;obtain ⟨h2,e2⟩:=List.getElem?_eq_some_iff.mp b;exact (List.getElem_inj hN).mp (e1.trans e2.symm)
theorem Fx {M:Model} {A:Around} {E:Value→Shared→Prop} {i:Nat} {x:Str} {v:V} {u:Value} {Q:Unit→Shared→Prop} (I:Inv X pins σ H s) (hN:X.N.Nodup) (hi:X.N[i]? = some x) (hx:Loc X.env.scope x) (r:Vd v u)
  (h:∀ s',Inv X pins (σ.set i (some v)) H s'→(∃ a,Heap.SameBut a s.heap s'.heap∧(a=X.env.locals∨X.env.cells.lookup x=some a))→Q () s') (hf:X.fn x=true∨X.env.scope.names.lookup x=some .local:=by first | exact .inl rfl | exact .inr rfl | assumption):wpAny M A (storeName X.env x u) Q E s:=by
 obtain ⟨m,hn,hl⟩:=id I.loc;have hcls:(X.env.scope.kind == .class || (X.env.scope.kind == .module && X.env.locals != X.env.globals))=false:=by rw [I.ok.kind];rfl
 have hiσ:i < σ.length:=by rw [I.len];exact (List.getElem?_eq_some_iff.mp hi).1
 have cne:=I.cne;have tracked:∀ {a:Addr} {h':Heap},(∃ o,s.heap.get? a=some o∧H a=none)→Heap.SameBut a s.heap h'→HOk X.prog X.w H h':=fun {a h'} ha hs b ob e=>by
  obtain ⟨_,_,hfree⟩:=ha;refine (I.hok b ob e).stay (fun c w' hc q=>(hs.2 c ?_).trans q) (fun _ q=>q) fun _ _ q=>q
  rintro rfl;rcases hc with rfl | hc
  ·rw [hfree] at e;cases e
  ·rw [hfree] at hc;cases hc
 rcases hx with hk | hk
 ·refine wpAny_storeName_local hk hn (fun h' hn' hs=>?_) hcls;obtain ⟨oL,_,_,hoL,_⟩:=id hn;refine h _ ⟨I.ok,I.os,I.bare,⟨fun b o e n hb hx=>?_,fun b o e n hb hx=>?_,I.base.free,fun b o e hx=>?_,I.base.tups,I.base.frzs,I.base.tbls⟩,⟨_,hn',fun j y v' e1 e2 e3=>?_⟩,fun y c e=>?_,I.free,I.freeC,fun p hp=>?_,tracked ⟨oL,hoL,I.free⟩ hs,by simpa using I.len⟩ ⟨_,hs,.inl rfl⟩
  ·exact (hs.2 b (Nat.ne_of_lt (Nat.lt_of_lt_of_le (Heap.lt_size e) I.ok.above))).trans (I.base.keep b o e n hb hx)
  ·obtain ⟨sl,e1⟩:=I.base.slot b o e n hb hx;exact ⟨sl,(hs.2 b (Nat.ne_of_lt (Nat.lt_of_lt_of_le (Heap.lt_size e) I.ok.above))).trans e1⟩
  ·obtain ⟨o',e1⟩:=I.base.there b o e hx;exact ⟨o',(hs.2 b (Nat.ne_of_lt (Nat.lt_of_lt_of_le (Heap.lt_size e) I.ok.above))).trans e1⟩
  ·by_cases hj:j=i
   ·subst hj;rw [hi] at e1;cases e1;rw [List.getElem?_set_self hiσ] at e2;cases e2;exact ⟨u,r,.inl ⟨hk,by simp⟩⟩
   ·rw [List.getElem?_set_ne (Ne.symm hj)] at e2;obtain ⟨u',r',q⟩:=hl j y v' e1 e2 e3;refine ⟨u',r',?_⟩;rcases q with ⟨k,e⟩ | ⟨k,c,e,z⟩
    ·refine .inl ⟨k,?_⟩;have:y ≠ x:=fun e=>hj (EA hN e1 (e ▸ hi))
     simp [this,e]
    ·exact .inr ⟨k,c,e,z.sameBut hs (cne y c e)⟩
  ·obtain ⟨w',z⟩:=I.cell y c e;exact ⟨w',z.sameBut hs (cne y c e)⟩
  ·obtain ⟨e,n,ne,nf,d⟩:=I.pin p hp;exact ⟨(hs.2 p.1 ne).trans e,n,ne,nf,d⟩
 ·have hfn:X.fn x=true:=by
   rcases hf with z | z
   ·exact z
   ·rw [z] at hk;cases hk
  obtain ⟨c,hc⟩:=I.ok.has x (.inl hk);obtain ⟨w',z⟩:=I.cell x c hc;refine wpAny_storeName_cell I.ok.kind hk hc z (fun h' hc' hs=>?_);obtain ⟨oc,hoc,hocd⟩:=id z;refine h { s with heap:=h' } ⟨I.ok,I.os,I.bare,⟨fun b o e n hb hx=>?_,fun b o e n hb hx=>?_,I.base.free,fun b o e hx=>?_,I.base.tups,I.base.frzs,I.base.tbls⟩,⟨m,hn.sameBut hs (Ne.symm (cne x c hc)),fun j y v' e1 e2 e3=>?_⟩,fun y c' e=>?_,I.free,I.freeC,fun p hp=>?_,tracked ⟨oc,hoc,I.freeC x c hc⟩ hs,by simpa using I.len⟩ ⟨c,hs,.inr hc⟩
  ·exact (hs.2 b (Nat.ne_of_lt (Nat.lt_of_lt_of_le (Heap.lt_size e) (I.ok.cab x c hfn hc)))).trans (I.base.keep b o e n hb hx)
  ·obtain ⟨sl,e1⟩:=I.base.slot b o e n hb hx;exact ⟨sl,(hs.2 b (Nat.ne_of_lt (Nat.lt_of_lt_of_le (Heap.lt_size e) (I.ok.cab x c hfn hc)))).trans e1⟩
  ·obtain ⟨o',e1⟩:=I.base.there b o e hx;exact ⟨o',(hs.2 b (Nat.ne_of_lt (Nat.lt_of_lt_of_le (Heap.lt_size e) (I.ok.cab x c hfn hc)))).trans e1⟩
  ·by_cases hj:j=i
   ·subst hj;rw [hi] at e1;cases e1;rw [List.getElem?_set_self hiσ] at e2;cases e2;exact ⟨u,r,.inr ⟨.inl hk,c,hc,hc'⟩⟩
   ·rw [List.getElem?_set_ne (Ne.symm hj)] at e2;obtain ⟨u',r',q⟩:=hl j y v' e1 e2 e3;refine ⟨u',r',?_⟩;rcases q with q | ⟨k,c',e,z'⟩
    ·exact .inl q
    ·refine .inr ⟨k,c',e,z'.sameBut hs ?_⟩;rintro rfl;exact hj (EA hN e1 (I.ok.inj _ _ _ e hc ▸ hi))
  ·by_cases hcc:c'=c
   ·subst hcc;exact ⟨_,hc'⟩
   ·obtain ⟨w2,z2⟩:=I.cell y c' e;exact ⟨w2,z2.sameBut hs hcc⟩
  ·obtain ⟨e,n,ne,nf,d⟩:=I.pin p hp;refine ⟨(hs.2 p.1 ?_).trans e,n,ne,nf,d⟩;intro q;rw [q,hoc] at e;have q':oc=p.2:=Option.some.inj e;exact d w' (by rw [← q'];exact hocd)
theorem Ev {M:Model} {A:Around} {E:Value→Shared→Prop} {i:Nat} {x:Str} {v:V} {u:Value} {Q:Unit→Shared→Prop} (I:Inv X pins σ H s) (hN:X.N.Nodup) (hi:X.N[i]? = some x) (hx:Loc X.env.scope x) (r:Vd v u)
  (h:∀ s',Inv X pins (σ.set i (some v)) H s'→Q () s') (hf:X.fn x=true∨X.env.scope.names.lookup x=some .local:=by first | exact .inl rfl | exact .inr rfl | assumption):wpAny M A (storeName X.env x u) Q E s:=
 Fx I hN hi hx r (fun s' I' _=>h s' I') hf
theorem Inv.call' {s':Shared} {ch:List Addr} (I:Inv X pins σ H s) (ho:s'.os=s.os) (u:Un (frs X.stack) ch H H' s.heap s'.heap) (hok:HOk X.prog X.w H' s'.heap) (hg:AllBare s'.gens)
  (hch:∀ b ∈ ch,(b ∈ X.ex∨X.s₀.heap.objs.size ≤ b)∧b ≠ X.env.locals∧(∀ x c,X.env.cells.lookup x=some c→c ≠ b)∧∀ p ∈ X.pn ++ pins,p.1 ≠ b):Inv X pins σ H' s':=by
 obtain ⟨h',g',d',t',o'⟩:=s';have e:o'=s.os:=ho;subst e;exact I.call (g':=g') (t':=t') (d':=d') u hok hg hch
end
noncomputable abbrev XK:=Value→Option Addr→Hp→Prop
noncomputable abbrev St:=List (Option V)
noncomputable abbrev VK:=V→Hp→Prop
noncomputable abbrev TE:=St→Hp→VK→Prop
noncomputable abbrev TT:=St→Hp→(Bool→Hp→Prop)→Prop
noncomputable abbrev TA:=St→Hp→(List V→Hp→Prop)→Prop
structure qk where
 nx:St→Hp→Prop
 rt:VK
 bk:St→Hp→Prop:=fun _ _=>False
 ct:St→Hp→Prop:=fun _ _=>False
noncomputable abbrev TS:=qk→St→Hp→Prop
def EP (X:Cx) (pins:List (Addr × Obj)) (σ:St) (Q:VK) (u:Value) (s':Shared):Prop:=∃ v H',Inv X pins σ H' s'∧Vd v u∧Q v H'
def TP (X:Cx) (pins:List (Addr × Obj)) (σ:St) (Q:Bool→Hp→Prop) (b:Bool) (s':Shared):Prop:=∃ H',Inv X pins σ H' s'∧Q b H'
def AP (X:Cx) (pins:List (Addr × Obj)) (σ:St) (Q:List V→Hp→Prop) (us:List Value) (s':Shared):Prop:=∃ vs H',Inv X pins σ H' s'∧Cd vs us∧Q vs H'
def SP (X:Cx) (pins:List (Addr × Obj)) (D:qk) (f:Flow) (s':Shared):Prop:=
 match f with
 | .next=>∃ σ' H',Inv X pins σ' H' s'∧D.nx σ' H'
 | .brk=>∃ σ' H',Inv X pins σ' H' s'∧D.bk σ' H'
 | .cont=>∃ σ' H',Inv X pins σ' H' s'∧D.ct σ' H'
 | .ret u=>∃ v σ' H',Inv X pins σ' H' s'∧Vd v u∧D.rt v H'
def PE (X:Cx) (e:Expr) (t:TE):Prop:=
 ∀ (pins:List (Addr × Obj)) (s:Shared) (σ:St) (H:Hp) (Q:VK),Inv X pins σ H s→t σ H Q→wpAny (model X.prog X.w) X.A (eval e X.env) (EP X pins σ Q) X.xe s
def PT (X:Cx) (e:Expr) (t:TT):Prop:=
 ∀ (pins:List (Addr × Obj)) (s:Shared) (σ:St) (H:Hp) (Q:Bool→Hp→Prop),Inv X pins σ H s→t σ H Q→wpAny (model X.prog X.w) X.A (isTrue e X.env (eval e X.env)) (TP X pins σ Q) X.xe s
def PW (X:Cx) (e:Expr) (t:TT):Prop:=
 ∀ (whole:Sem Value) (pins:List (Addr × Obj)) (s:Shared) (σ:St) (H:Hp) (Q:Bool→Hp→Prop),Inv X pins σ H s→t σ H Q→wpAny (model X.prog X.w) X.A (isTrue e X.env whole) (TP X pins σ Q) X.xe s
theorem PW.pt {X:Cx} {e:Expr} {t:TT} (h:PW X e t):PT X e t:=h _
def PA (X:Cx) (es:List Expr) (t:TA):Prop:=
 ∀ (pos:Pos) (pins:List (Addr × Obj)) (s:Shared) (σ:St) (H:Hp) (Q:List V→Hp→Prop),Inv X pins σ H s→t σ H Q→wpAny (model X.prog X.w) X.A (spliced (backTo pos (starEach es X.env))) (AP X pins σ Q) X.xe s
def PS (X:Cx) (st:Stmt) (t:TS):Prop:=
 ∀ (pins:List (Addr × Obj)) (s:Shared) (σ:St) (H:Hp) (D:qk),Inv X pins σ H s→t D σ H→wpAny (model X.prog X.w) X.A (exec st X.env) (SP X pins D) X.xe s
def PSs (X:Cx) (st:List Stmt) (t:TS):Prop:=
 ∀ (pins:List (Addr × Obj)) (s:Shared) (σ:St) (H:Hp) (D:qk),Inv X pins σ H s→t D σ H→wpAny (model X.prog X.w) X.A (execs st X.env) (SP X pins D) X.xe s
theorem thn {α:Type} {t:Sem α} {Q Q':α→Shared→Prop} {M:Model} {A:Around} {E:Value→Shared→Prop} {s:Shared} (h:wpAny M A t Q E s) (hQ:∀ a s,Q a s→Q' a s):wpAny M A t Q' E s:=wpAny_mono h hQ fun _ _ x=>x
end L2
namespace L2
open PySem PySem.Spec PyProof.Rows
section
variable {X:Cx}
noncomputable def aM (H:Hp) (Q:VK):Option (Option V)→Prop
 | some (some v)=>Q v H
 | _=>False
theorem Sw (H:Hp) (Q:VK) (v:V):aM H Q (some (some v))=Q v H:=rfl
theorem aM.out {H:Hp} {Q:VK}:∀ {o:Option (Option V)},aM H Q o→∃ v,o=some (some v)∧Q v H
 | some (some v),h=>⟨v,rfl,h⟩
 | some none,h=>h.elim
 | none,h=>h.elim
theorem jM (H:Hp) (Q:VK) (o:Option (Option V)):aM H Q o = ∃ v,o=some (some v)∧Q v H:=propext ⟨aM.out,fun ⟨_,e,h⟩=>e ▸ h⟩
def uk (x:V) (k:Int→Prop):Prop:=match x with
 | .int i=>k i
 | _=>False
theorem NA (i:Int) (k:Int→Prop):uk (.int i) k=k i:=rfl
theorem uk.out {x:V} {k:Int→Prop} (h:uk x k):∃ i,x=.int i∧k i:=by
 cases x with
 | int i=>exact ⟨i,rfl,h⟩
 | _=>exact h.elim
theorem KN (x:V) (k:Int→Prop):uk x k = ∃ i,x=.int i∧k i:=propext ⟨uk.out,fun ⟨_,e,h⟩=>e ▸ h⟩
def BlQ (x:V) (k:Bool→Prop):Prop:=match x with
 | .bl i=>k i
 | _=>False
theorem KK (i:Bool) (k:Bool→Prop):BlQ (.bl i) k=k i:=rfl
theorem BlQ.out {x:V} {k:Bool→Prop} (h:BlQ x k):∃ i,x=.bl i∧k i:=by
 cases x with
 | bl i=>exact ⟨i,rfl,h⟩
 | _=>exact h.elim
theorem iQ (x:V) (k:Bool→Prop):BlQ x k = ∃ i,x=.bl i∧k i:=propext ⟨BlQ.out,fun ⟨_,e,h⟩=>e ▸ h⟩
def di (x:V) (k:Addr→Prop):Prop:=match x with
 | .ref i=>k i
 | _=>False
theorem LA (i:Addr) (k:Addr→Prop):di (.ref i) k=k i:=rfl
theorem di.out {x:V} {k:Addr→Prop} (h:di x k):∃ i,x=.ref i∧k i:=by
 cases x with
 | ref i=>exact ⟨i,rfl,h⟩
 | _=>exact h.elim
theorem iN (x:V) (k:Addr→Prop):di x k = ∃ i,x=.ref i∧k i:=propext ⟨di.out,fun ⟨_,e,h⟩=>e ▸ h⟩
def KD (xs:List V) (k:V→Prop):Prop:=match xs with
 | [y]=>k y
 | _=>False
theorem ZA (y:V) (k:V→Prop):KD [y] k=k y:=rfl
theorem KD.out:∀ {xs:List V} {k:V→Prop},KD xs k→∃ y,xs=[y]∧k y
 | [y],_,h=>⟨y,rfl,h⟩
 | [],_,h=>h.elim
 | _ :: _ :: _,_,h=>h.elim
theorem DN (xs:List V) (k:V→Prop):KD xs k = ∃ y,xs=[y]∧k y:=propext ⟨KD.out,fun ⟨_,e,h⟩=>e ▸ h⟩
noncomputable def uR (i:Nat):TE:=fun σ H Q=>aM H Q σ[i]?
noncomputable def tC (v:V):TE:=fun _ H Q=>Q v H
theorem WP {i:Nat} {x:Str} {pos:Pos} (hN:X.N[i]? = some x) (hv:Vis X.env.scope x) (hd:(x == ("__debug__" : Str))=false:=by decide) (hcd:(x == ("__classdict__" : Str))=false:=by decide):PE X (.Name x pos) (uR i):=by
 intro pins s σ H Q I h;obtain ⟨v,e,h⟩:=aM.out h;obtain ⟨m,hn,hl⟩:=I.loc;obtain ⟨u,r,l⟩:=hl i x v hN e hv;have fin:EP X pins σ Q u s:=⟨v,H,I,r,h⟩;rcases l with ⟨hk,hm⟩ | ⟨hk,c,hc,hcell⟩
 ·exact wpAny_Name (wpAny_loadName_local I.ok.kind hk hn hm fin) hd
 ·rcases hk with hk | hk
  ·exact wpAny_Name (wpAny_loadName_cell I.ok.kind hk hc hcell fin) hd
  ·exact wpAny_Name (wpAny_loadName_free I.ok.kind hk hc hcell fin hcd) hd
theorem qb {i j pos}:PE X (.Constant (.int i) j pos) (tC (.int i)):=fun _ _ _ H _ I h=>wpAny_Constant_int ⟨.int i,H,I.tok _,⟨_,rfl⟩,h⟩
theorem Uo {b j pos}:PE X (.Constant (.bool b) j pos) (tC (.bl b)):=fun _ _ _ H _ I h=>Constant_bool ⟨.bl b,H,I,rfl,h⟩
theorem Ug {j pos}:PE X (.Constant .none j pos) (tC .non):=fun _ _ _ H _ I h=>Constant_none ⟨.non,H,I,rfl,h⟩
theorem vd {x j pos}:PE X (.Constant (.str x) j pos) (tC (.str x)):=fun _ _ _ H _ I h=>Calls.Constant_str ⟨.str x,H,I.tok _,⟨_,rfl⟩,h⟩
def Gl (X:Cx) (x:Str):Prop:=X.env.kindOf x=some .globalImplicit
theorem Vv {E:Value→Shared→Prop} {pins:List (Addr × Obj)} {s:Shared} {σ:St} {H:Hp} {x:Str} {u:Value} {pos:Pos} {Q:Value→Shared→Prop} (I:Inv X pins σ H s) (hg:Gl X x) (hm:X.mg x=some u) (h:Q u s)
  (hd:(x == ("__debug__" : Str))=false:=by decide):wpAny (model X.prog X.w) X.A (eval (.Name x pos) X.env) Q E s:=
 Calls.Name_function_global I.ok.kind hg (Calls.loadGlobal_global (by rw [I.ok.glob];exact I.mod.glob.keeps I.bk) hm h) hd
theorem Sj {E:Value→Shared→Prop} {pins:List (Addr × Obj)} {s:Shared} {σ:St} {H:Hp} {x:Str} {u:Value} {pos:Pos} {Q:Value→Shared→Prop} (I:Inv X pins σ H s) (hg:Gl X x) (hm:X.mg x=none) (hv:bootBuiltins x=some u) (h:Q u s)
  (hn:x ≠ "__name__" := by decide) (hd:(x == ("__debug__" : Str))=false:=by decide):wpAny (model X.prog X.w) X.A (eval (.Name x pos) X.env) Q E s:=by
 obtain ⟨mb,h1,h2⟩:=I.mod.blt;exact Calls.Name_function_global I.ok.kind hg (Calls.loadGlobal_builtin (by rw [I.ok.glob];exact I.mod.glob.keeps I.bk) hm (by rw [I.ok.blt];exact h1.keeps I.bk) ((h2 x hn).trans hv) h) hd
theorem Bi {x:Str} {v:V} {u:Value} {pos:Pos} (hg:Gl X x) (hm:X.mg x=some u) (r:Vd v u) (hd:(x == ("__debug__" : Str))=false:=by decide):PE X (.Name x pos) (tC v):=
 fun _ _ _ H _ I h=>Vv I hg hm ⟨v,H,I,r,h⟩ hd
variable {a b:Expr} {ta tb:TE} {pos:Pos}
def PC (X:Cx) (op:CmpOp) (a b:Expr) (t:TE):Prop:=
 ∀ (pins:List (Addr × Obj)) (s:Shared) (σ:St) (H:Hp) (Q:VK),Inv X pins σ H s→t σ H Q →
  wpAny (model X.prog X.w) X.A (eval a X.env) (fun v s₁=>wpAny (model X.prog X.w) X.A (eval b X.env) (fun u s₂=>wpAny (model X.prog X.w) X.A (compareOp op v u) (EP X pins σ Q) X.xe s₂) X.xe s₁) X.xe s
theorem bB (b:Expr) {op:CmpOp} (h:op ≠ .In) (h2:op ≠ .NotIn):behindInMarks op b=false:=by
 have e1:(op == CmpOp.In)=false:=by cases op <;> first | rfl | exact absurd rfl h
 have e2:(op == CmpOp.NotIn)=false:=by cases op <;> first | rfl | exact absurd rfl h2
 cases b <;> simp [behindInMarks,e1,e2]
noncomputable def tB (t:TE):TT:=fun σ H Q=>t σ H fun x H1=>BlQ x fun c=>Q c H1
theorem YL {op:CmpOp} {t:TE} (h:PC X op a b t) (h1:behindInMarks op b=false:=by first | exact bB _ (by decide) (by decide) | rfl):PE X (.Compare a [op] [b] pos) t:=fun pins s σ H Q I hw=>wpAny_Compare1 (h pins s σ H Q I hw) h1
theorem Ly {op:CmpOp} {t:TE} (h:PC X op a b t) (h1:behindInMarks op b=false:=by first | exact bB _ (by decide) (by decide) | rfl):PT X (.Compare a [op] [b] pos) (tB t):=by
 intro pins s σ H Q I hw;refine wpAny_isTrue_Compare1 (thn (h pins s σ H _ I hw) fun v s1 h1=>thn h1 fun u s2 h2=>thn h2 fun c s3 hZ1=>?_) h1;obtain ⟨x,H1,I1,r1,q1⟩:=hZ1;obtain ⟨d,rfl,q⟩:=BlQ.out q1;cases r1;exact wpAny_truthy_bool ⟨H1,I1,q⟩
theorem Cm {e:Expr} {t:TE} (h:PE X e t) (he:∀ whole,isTrue e X.env whole=(do let v ← whole;standAt e.pos;holding [v] (truthy v)):=by intro _;rfl):PT X e (tB t):=by
 intro pins s σ H Q I hw;refine isTrue_plain (thn (h pins s σ H _ I hw) fun v s1 hZ1=>?_) (he _);obtain ⟨x,H1,I1,r1,q1⟩:=hZ1;obtain ⟨d,rfl,q⟩:=BlQ.out q1;cases r1;exact wpAny_truthy_bool ⟨H1,I1,q⟩
variable {tA tB':TT} {aA:List Expr}
noncomputable def SR (t u:TT):TT:=fun σ H Q=>t σ H fun c H1=>if c=true then u σ H1 Q else Q false H1
noncomputable def tOr (t u:TT):TT:=fun σ H Q=>t σ H fun c H1=>if c=true then Q true H1 else u σ H1 Q
noncomputable def HR (t:TT):TT:=fun σ H Q=>t σ H fun c H1=>Q (!c) H1
theorem Iw (ha:PT X a tA):PW X (.BoolOp .And [a] pos) tA:=by
 intro wh pins s σ H Q I h;refine isTrue_and (thn (ha pins s σ H Q I h) fun c s1 e=>?_);cases c with
 | true=>exact isTrue_and_nil e
 | false=>exact e
theorem Vp (ha:PT X a tA):PW X (.BoolOp .Or [a] pos) tA:=by
 intro wh pins s σ H Q I h;refine isTrue_or (thn (ha pins s σ H Q I h) fun c s1 e=>?_);cases c with
 | false=>exact isTrue_or_nil e
 | true=>exact e
theorem lC (ha:PT X a tA) (hb:PW X (.BoolOp .And (b :: aA) pos) tB'):PW X (.BoolOp .And (a :: b :: aA) pos) (SR tA tB'):=by
 intro wh pins s σ H Q I h;refine isTrue_and (thn (ha pins s σ H _ I h) fun c s1 hZ1=>?_);obtain ⟨H1,I1,q1⟩:=hZ1;cases c with
 | true=>exact hb wh pins s1 σ H1 Q I1 q1
 | false=>exact ⟨H1,I1,q1⟩
theorem cy (ha:PT X a tA) (hb:PW X (.BoolOp .Or (b :: aA) pos) tB'):PW X (.BoolOp .Or (a :: b :: aA) pos) (tOr tA tB'):=by
 intro wh pins s σ H Q I h;refine isTrue_or (thn (ha pins s σ H _ I h) fun c s1 hZ1=>?_);obtain ⟨H1,I1,q1⟩:=hZ1;cases c with
 | true=>exact ⟨H1,I1,q1⟩
 | false=>exact hb wh pins s1 σ H1 Q I1 q1
theorem Wq (ha:PT X a tA):PT X (.UnaryOp .Not a pos) (HR tA):=by
 intro pins s σ H Q I h;exact isTrue_not (ha pins s σ H (fun c H1=>Q (!c) H1) I h)
noncomputable def wP (ta tb:TE):TE:=fun σ H Q=>ta σ H fun x H1=>BlQ x fun c=>if c=true then tb σ H1 Q else Q (.bl false) H1
noncomputable def KR (ta tb:TE):TE:=fun σ H Q=>ta σ H fun x H1=>BlQ x fun c=>if c=true then Q (.bl true) H1 else tb σ H1 Q
theorem Bx {op} {t:TE} (h:PE X a t):PE X (.BoolOp op [a] pos) t:=fun pins s σ H Q I hw=>BoolOp_one (h pins s σ H Q I hw)
theorem XL (ha:PE X a ta) (hb:PE X (.BoolOp .And (b :: aA) pos) tb):PE X (.BoolOp .And (a :: b :: aA) pos) (wP ta tb):=by
 intro pins s σ H Q I h;refine BoolOp_and (thn (ha pins s σ H _ I h) fun v s1 hZ1=>?_);obtain ⟨x,H1,I1,r1,q1⟩:=hZ1;obtain ⟨c,rfl,zq⟩:=BlQ.out q1;cases r1;refine wpAny_truthy_bool ?_;cases c with
 | true=>exact hb pins s1 σ H1 Q I1 zq
 | false=>exact ⟨.bl false,H1,I1,rfl,zq⟩
theorem qN (ha:PE X a ta) (hb:PE X (.BoolOp .Or (b :: aA) pos) tb):PE X (.BoolOp .Or (a :: b :: aA) pos) (KR ta tb):=by
 intro pins s σ H Q I h;refine BoolOp_or (thn (ha pins s σ H _ I h) fun v s1 hZ1=>?_);obtain ⟨x,H1,I1,r1,q1⟩:=hZ1;obtain ⟨c,rfl,zq⟩:=BlQ.out q1;cases r1;refine wpAny_truthy_bool ?_;cases c with
 | false=>exact hb pins s1 σ H1 Q I1 zq
 | true=>exact ⟨.bl true,H1,I1,rfl,zq⟩
noncomputable def tIf (t:TT) (ta tb:TE):TE:=fun σ H Q=>t σ H fun c H1=>if c=true then ta σ H1 Q else tb σ H1 Q
theorem Sl {c:Expr} (hc:PT X c tA) (ha:PE X a ta) (hb:PE X b tb):PE X (.IfExp c a b pos) (tIf tA ta tb):=by
 intro pins s σ H Q I h;refine wpAny_IfExp (thn (hc pins s σ H _ I h) fun d s1 hZ1=>?_);obtain ⟨H1,I1,q1⟩:=hZ1;cases d with
 | true=>exact ha pins s1 σ H1 Q I1 q1
 | false=>exact hb pins s1 σ H1 Q I1 q1
end
end L2
namespace L2
open PySem PySem.Spec PyProof.Rows
def SqL (K:PySem.W.Frag) (H:Hp) (a:Addr) (xs:List V):Prop:=
 Rd H a (.lst xs) ∨
  ∃ (o:Obj) (its:Array Value) (n:Nat),K.lookup a=some o∧o.cls=.type "list" ∧ o.dict=none∧o.data=.seq its n∧its.size ≤ sizeLine∧Cd xs its.toList
def SqT (K:PySem.W.Frag) (H:Hp) (a:Addr) (xs:List V):Prop:=
 Rd H a (.tup xs) ∨
  ∃ (o:Obj) (its:Array Value) (n:Nat),K.lookup a=some o∧o.cls=.type "tuple" ∧ o.data=.seq its n∧its.size ≤ sizeLine∧Cd xs its.toList
noncomputable def uS:Value→Option V
 | .none=>some .non
 | .bool b=>some (.bl b)
 | .int i _=>some (.int i)
 | .str x _=>some (.str x)
 | .bytes b _=>some (.byt b)
 | .float b _=>some (.flt b)
 | .ref a=>some (.ref a)
 | .type n=>some (.ty n)
 | _=>none
theorem Vd.abs {x:V} {u:Value} (r:Vd x u):uS u=some x:=by
 cases x with
 | non=>cases r;rfl
 | bl _=>cases r;rfl
 | int _=>obtain ⟨t,rfl⟩:=r;rfl
 | str _=>obtain ⟨t,rfl⟩:=r;rfl
 | byt _=>obtain ⟨t,rfl⟩:=r;rfl
 | flt _=>obtain ⟨t,rfl⟩:=r;rfl
 | ref _=>cases r;rfl
 | ty _=>cases r;rfl
theorem Vd.inj {x y:V} {u:Value} (r:Vd x u) (q:Vd y u):x=y:=Option.some.inj (r.abs.symm.trans q.abs)
theorem Cd.inj:∀ {xs ys:List V} {us:List Value},Cd xs us→Cd ys us→xs=ys
 | _,_,_,.nil,.nil=>rfl
 | _,_,_,.cons r t,.cons r' t'=>by rw [r.inj r',Cd.inj t t']
section
variable {X:Cx} {pins:List (Addr × Obj)} {σ:St} {H:Hp} {s:Shared} {a:Addr} {xs ys:List V}
theorem SqL.of {K:PySem.W.Frag} (h:H a=some (.lst xs)):SqL K H a xs:=.inl (.inl h)
theorem SqT.of {K:PySem.W.Frag} (h:H a=some (.tup xs)):SqT K H a xs:=.inl (.inl h)
theorem Inv.list (I:Inv X pins σ H s) (h:SqL X.K H a xs):∃ its:List Value,Cd xs its∧PlainL s.heap a its.toArray∧xs.length ≤ sizeLine:=by
 rcases h with h | ⟨o,its,n,hk,hc,hd,hs,hz,r⟩
 ·obtain ⟨z,its,n,r,e⟩:=h.ok I.hok;exact ⟨its,r,⟨_,n,e,rfl,rfl,rfl⟩,z⟩
 ·refine ⟨its.toList,r,⟨o,n,I.kIn a o hk,hc,hd,by simpa using hs⟩,?_⟩;have e:=r.length;simp only [Array.length_toList] at e;omega
theorem Inv.tuple (I:Inv X pins σ H s) (h:SqT X.K H a xs):∃ its:List Value,Cd xs its∧IsTup s.heap a its.toArray∧xs.length ≤ sizeLine:=by
 rcases h with h | ⟨o,its,n,hk,hc,hs,hz,r⟩
 ·obtain ⟨z,its,r,p⟩:=h.ok I.hok;exact ⟨its,r,p,z.1⟩
 ·refine ⟨its.toList,r,⟨o,I.kIn a o hk,hc,n,by simpa using hs⟩,?_⟩;have e:=r.length;simp only [Array.length_toList] at e;omega
theorem Inv.list_inj (I:Inv X pins σ H s) (h:SqL X.K H a xs) (h':SqL X.K H a ys):xs=ys:=by
 obtain ⟨its,r,⟨o,n,e,_,_,d⟩,_⟩:=I.list h;obtain ⟨its',r',⟨o',n',e',_,_,d'⟩,_⟩:=I.list h';rw [e] at e';cases e';rw [d] at d';injection d' with d1 _;have:its=its':=by simpa using congrArg Array.toList d1
 subst this;exact r.inj r'
theorem Inv.tuple_inj (I:Inv X pins σ H s) (h:SqT X.K H a xs) (h':SqT X.K H a ys):xs=ys:=by
 obtain ⟨its,r,⟨o,e,_,n,d⟩,_⟩:=I.tuple h;obtain ⟨its',r',⟨o',e',_,n',d'⟩,_⟩:=I.tuple h';rw [e] at e';cases e';rw [d] at d';injection d' with d1 _;have:its=its':=by simpa using congrArg Array.toList d1
 subst this;exact r.inj r'
end
noncomputable abbrev Cx.wish (X:Cx) (E:Value→Shared→Prop):Cx:={ X with xe:=E }
noncomputable abbrev Cx.nox (X:Cx):Cx:=X.wish fun _ _=>False
theorem Cx.Ok.wish {X:Cx} (ok:X.Ok) (E:Value→Shared→Prop):(X.wish E).Ok:=
 ⟨ok.mod,ok.kind,ok.glob,ok.blt,ok.above,ok.inj,ok.has,ok.cab,ok.hd,ok.frames,ok.stk,ok.exf,ok.bs,ok.bsz,ok.noex,ok.exfs,ok.funs,ok.frf⟩
theorem Cx.Ok.unwish {X:Cx} {E:Value→Shared→Prop} (ok:(X.wish E).Ok):X.Ok:=
 ⟨ok.mod,ok.kind,ok.glob,ok.blt,ok.above,ok.inj,ok.has,ok.cab,ok.hd,ok.frames,ok.stk,ok.exf,ok.bs,ok.bsz,ok.noex,ok.exfs,ok.funs,ok.frf⟩
section
variable {X:Cx} {pins:List (Addr × Obj)} {σ:St} {H:Hp} {s:Shared} {E:Value→Shared→Prop}
theorem Inv.wish (I:Inv X pins σ H s) (E:Value→Shared→Prop):Inv (X.wish E) pins σ H s:=⟨I.ok.wish E,I.os,I.bare,I.base,I.loc,I.cell,I.free,I.freeC,I.pin,I.hok,I.len⟩
theorem Inv.unwish (I:Inv (X.wish E) pins σ H s):Inv X pins σ H s:=⟨I.ok.unwish,I.os,I.bare,I.base,I.loc,I.cell,I.free,I.freeC,I.pin,I.hok,I.len⟩
theorem SP.unwish {D:qk} {f:Flow} {s':Shared} (h:SP (X.wish E) pins D f s'):SP X pins D f s':=by
 cases f with
 | next=>obtain ⟨σ',H',I,q⟩:=h;exact ⟨σ',H',I.unwish,q⟩
 | brk=>obtain ⟨σ',H',I,q⟩:=h;exact ⟨σ',H',I.unwish,q⟩
 | cont=>obtain ⟨σ',H',I,q⟩:=h;exact ⟨σ',H',I.unwish,q⟩
 | ret u=>obtain ⟨v,σ',H',I,r,q⟩:=h;exact ⟨v,σ',H',I.unwish,r,q⟩
theorem PE.nox {e:Expr} {t:TE} (h:PE X.nox e t):PE X e t:=fun pins s σ H Q I hw=>
 wpAny_mono (h pins s σ H Q (I.wish _) hw) (fun _ _ ⟨v,H',I',r,q⟩=>⟨v,H',I'.unwish,r,q⟩) fun _ _ z=>False.elim z
theorem PT.nox {e:Expr} {t:TT} (h:PT X.nox e t):PT X e t:=fun pins s σ H Q I hw=>
 wpAny_mono (h pins s σ H Q (I.wish _) hw) (fun _ _ ⟨H',I',q⟩=>⟨H',I'.unwish,q⟩) fun _ _ z=>False.elim z
theorem PSs.nox {st:List Stmt} {t:TS} (h:PSs X.nox st t):PSs X st t:=fun pins s σ H D I hw=>
 wpAny_mono (h pins s σ H D (I.wish _) hw) (fun _ _ q=>q.unwish) fun _ _ z=>False.elim z
end
section
variable {X:Cx} {st:Stmt} {aA:List Stmt} {t u:TS} {e:Expr} {te:TE} {pos:Pos}
noncomputable def rQ:TS:=fun D σ H=>D.nx σ H
noncomputable def hz0:Nat:=0
noncomputable def hz1:Nat:=hz0
noncomputable def hz2:Nat:=hz1
noncomputable def hz3:Nat:=hz2
noncomputable def hz4:Nat:=hz3
noncomputable def hz5:Nat:=hz4
noncomputable def hz6:Nat:=hz5
noncomputable def hz7:Nat:=hz6
noncomputable def hz8:Nat:=hz7
noncomputable def hz9:Nat:=hz8
noncomputable def tS:Nat:=hz9
noncomputable def oS:Nat:=tS
noncomputable def sS:Nat:=oS
noncomputable def bS (t u:TS):TS:=fun D σ H=>(fun _:Nat=>t { D with nx:=u D } σ H) sS
theorem qc:PSs X [] rQ:=fun _ _ σ H _ I h=>wpAny_execs_nil ⟨σ,H,I,h⟩
theorem cb (h1:PS X st t) (h2:PSs X aA u):PSs X (st :: aA) (bS t u):=by
 intro pins s σ H D I h;refine wpAny_execs_cons (thn (h1 pins s σ H { D with nx:=u D } I h) fun f s1 q=>?_);cases f with
 | next=>
  obtain ⟨σ',H',I',q⟩:=q;exact h2 pins s1 σ' H' D I' q
 | ret v=>exact q
 | brk=>exact q
 | cont=>exact q
theorem ib (h1:PS X st t):PSs X [st] t:=by
 intro pins s σ H D I h;refine wpAny_execs_cons (thn (h1 pins s σ H D I h) fun f s1 q=>?_);cases f with
 | next=>exact wpAny_execs_nil q
 | ret v=>exact q
 | brk=>exact q
 | cont=>exact q
theorem Inv.quiet {pins:List (Addr × Obj)} {σ:St} {H:Hp} {s:Shared} (I:Inv X pins σ H s):interactive X.env=false:=by simp [interactive,I.ok.kind]
noncomputable def WO (te:TE):TS:=fun D σ H=>te σ H fun _ H1=>D.nx σ H1
theorem gd (he:PE X e te) (hs:swapsWith e none pos.line X.env=pure false:=by rfl):PS X (.Expr e pos) (WO te):=by
 intro pins s σ H D I h;exact wpAny_Expr_any (thn (he pins s σ H _ I h) fun v s1 ⟨x,H1,I1,r1,q1⟩=>⟨σ,H1,I1,q1⟩) I.quiet hs
noncomputable def NQ (te:TE):TS:=fun D σ H=>te σ H D.rt
theorem Cb (he:PE X e te):PS X (.Return (some e) pos) (NQ te):=by
 intro pins s σ H D I h;exact wpAny_Return_some (thn (he pins s σ H _ I h) fun v s1 ⟨x,H1,I1,r1,q1⟩=>⟨x,σ,H1,I1,r1,q1⟩)
noncomputable def eR (c:TT) (t u:TS):TS:=fun D σ H=>c σ H fun b H1=>if b=true then t D σ H1 else u D σ H1
theorem Le {c:Expr} {a b:List Stmt} {tc:TT} (hc:PT X c tc) (ha:PSs X a t) (hb:PSs X b u):PS X (.If c a b pos) (eR tc t u):=by
 intro pins s σ H D I h;refine wpAny_If (thn (hc pins s σ H _ I h) fun d s1 hZ1=>?_);obtain ⟨H1,I1,q1⟩:=hZ1;cases d with
 | true=>exact ha pins s1 σ H1 D I1 q1
 | false=>exact hb pins s1 σ H1 D I1 q1
noncomputable def YK:TS:=fun _ _ _=>False
theorem dh:PS X st YK:=fun _ _ _ _ _ _ h=>h.elim
end
noncomputable abbrev TG:=V→St→Hp→(St→Hp→Prop)→Prop
noncomputable abbrev TGs:=List V→St→Hp→(St→Hp→Prop)→Prop
def PG (X:Cx) (target:Expr) (t:TG):Prop:=
 ∀ (pins:List (Addr × Obj)) (s:Shared) (σ:St) (H:Hp) (v:V) (u:Value) (Q:St→Hp→Prop),Inv X pins σ H s→Vd v u→t v σ H Q →
  wpAny (model X.prog X.w) X.A (assign target X.env u) (fun _ s'=>∃ σ' H',Inv X pins σ' H' s'∧Q σ' H') X.xe s
def PGs (X:Cx) (ts:List Expr) (t:TGs):Prop:=
 ∀ (pins:List (Addr × Obj)) (s:Shared) (σ:St) (H:Hp) (vs:List V) (us:List Value) (Q:St→Hp→Prop),Inv X pins σ H s→Cd vs us→t vs σ H Q →
  wpAny (model X.prog X.w) X.A (assignInOrder ((assignEach ts X.env).map (·.2)) us) (fun _ s'=>∃ σ' H',Inv X pins σ' H' s'∧Q σ' H') X.xe s
noncomputable abbrev yQ:=V→V→V→Hp→(Hp→Prop)→Prop
def iS (X:Cx) (t:yQ):Prop:=
 ∀ (pins:List (Addr × Obj)) (s:Shared) (σ:St) (H:Hp) (o i v:V) (ov iv u:Value) (Q:Hp→Prop),Inv X pins σ H s→Vd o ov→Vd i iv→Vd v u→t o i v H Q →
  wpAny (model X.prog X.w) X.A (setItem ov iv u) (fun _ s'=>∃ H',Inv X pins σ H' s'∧Q H') X.xe s
noncomputable abbrev TIp:=V→V→Hp→VK→Prop
def PIp (X:Cx) (op:Operator) (t:TIp):Prop:=
 ∀ (pins:List (Addr × Obj)) (s:Shared) (σ:St) (H:Hp) (x y:V) (v u:Value) (Q:VK),Inv X pins σ H s→Vd x v→Vd y u→t x y H Q →
  wpAny (model X.prog X.w) X.A (inplaceOp op v u) (EP X pins σ Q) X.xe s
section
variable {X:Cx} {pos:Pos}
noncomputable def Et (i:Nat):TG:=fun v σ H Q=>Q (σ.set i (some v)) H
theorem Jv {i:Nat} {x:Str} (hN:X.N.Nodup) (hi:X.N[i]? = some x) (hx:Loc X.env.scope x) (hf:X.fn x=true∨X.env.scope.names.lookup x=some .local:=by first | exact .inl rfl | exact .inr rfl | assumption):PG X (.Name x pos) (Et i):=by
 intro pins s σ H v u Q I r h;exact wpAny_assign_Name (Ev I hN hi hx r (fun s' I'=>⟨_,H,I',h⟩) hf)
noncomputable def BQ:TGs:=fun vs σ H Q=>vs=[]∧Q σ H
noncomputable def YC (t:TG) (u:TGs):TGs:=fun vs σ H Q=>∃ v r,vs=v :: r∧t v σ H fun σ' H'=>u r σ' H' Q
theorem Uc:PGs X [] BQ:=by
 intro pins s σ H vs us Q I r h;obtain ⟨e,h⟩:=h;subst e;cases r;exact assignInOrder_nil ⟨σ,H,I,h⟩
theorem Bb {e:Expr} {es:List Expr} {t:TG} {u:TGs} (h1:PG X e t) (h2:PGs X es u)
  (hs:(assignEach (e :: es) X.env).map (·.2)=assign e X.env :: (assignEach es X.env).map (·.2):=by rfl):PGs X (e :: es) (YC t u):=by
 intro pins s σ H vs us Q I r h;obtain ⟨v,vr,e1,h⟩:=h;subst e1;cases r with
 | cons r rr=>
  rw [hs];refine assignInOrder_cons (thn (h1 pins s σ H _ _ _ I r h) fun _ s1 hZ1=>?_);obtain ⟨σ1,H1,I1,q1⟩:=hZ1;exact h2 pins s1 σ1 H1 _ _ Q I1 rr q1
noncomputable def tO (K:PySem.W.Frag) (n:Nat) (t:TGs):TG:=fun v σ H Q=>∃ a xs,v=.ref a∧SqT K H a xs∧xs.length=n∧t xs σ H Q
theorem YO {es:List Expr} {k:Nat} {t:TGs} {n:Nat} (hc:X.calm=true) (h:PGs X es t)
  (hn:(assignEach es X.env).length=n:=by rfl) (hst:(assignEach es X.env).findIdx? (·.1)=none:=by rfl):PG X (.Tuple es k pos) (tO X.K n t):=by
 intro pins s σ H v u Q I r hw;obtain ⟨a,xs,e1,hq,hl,hw⟩:=hw;subst e1;cases r;obtain ⟨its,rv,ht,hz⟩:=I.tuple hq;refine assign_Tuple_tuple (I.ok.hd hc) ht (by simp [hn,← hl,rv.length]) hst fun h' hx=>?_
 have I1:Inv X pins σ H { s with heap:=h' }:=I.kept (t':=s.toks) fun b o e=>hx b o (Nat.ne_of_lt (Heap.lt_size e)) e
 exact h pins _ σ H xs _ Q I1 (by simpa using rv) hw
noncomputable def AR (to ti:TE) (t:yQ):TG:=fun v σ H Q=>to σ H fun o H1=>ti σ H1 fun i H2=>t o i v H2 fun H3=>Q σ H3
theorem oy {o i:Expr} {to ti:TE} {t:yQ} (ho:PE X o to) (hi:PE X i ti) (hs:iS X t)
  (ha:∀ v,assign (.Subscript o i pos) X.env v=(do
   let ov ← holding [v] (eval o X.env)
   let iv ← holding [v,ov] (eval i X.env)
   standAt pos
   holding [v,ov,iv] (setItem ov iv v)
   release [v,ov,iv] []):=by intro _;rfl):PG X (.Subscript o i pos) (AR to ti t):=by
 intro pins s σ H v u Q I r h;rw [ha];refine wpAny_bind (wpAny_holding (thn (ho pins s σ H _ I h) fun ov s1 hZ1=>?_));obtain ⟨x,H1,I1,r1,q1⟩:=hZ1;refine wpAny_bind (wpAny_holding (thn (hi pins s1 σ H1 _ I1 q1) fun iv s2 hZ1=>?_));obtain ⟨y,H2,I2,r2,q2⟩:=hZ1;refine wpAny_bind (wpAny_standAt (wpAny_bind (wpAny_holding (thn (hs pins s2 σ H2 x y v ov iv u _ I2 r1 r2 r q2) fun _ s3 hZ1=>?_))));obtain ⟨H3,I3,q3⟩:=hZ1;exact wpAny_release ⟨σ,H3,I3,q3⟩
noncomputable def UN (te:TE) (g:TG):TS:=fun D σ H=>te σ H fun x H1=>g x σ H1 D.nx
theorem Qk {tg e:Expr} {te:TE} {g:TG} (he:PE X e te) (hg:PG X tg g) (hs:swapsWithSole [tg] e pos.line X.env=pure false:=by rfl) (hw:swappedStores [tg] e X.env=pure none:=by rfl)
  (h1:(assignEach [tg] X.env).map (·.2)=[assign tg X.env]:=by rfl):PS X (.Assign [tg] e pos) (UN te g):=by
 intro pins s σ H D I h;refine wpAny_Assign_stores (thn (he pins s σ H _ I h) fun v s1 hZ1=>?_) hs hw;obtain ⟨x,H1,I1,r1,q1⟩:=hZ1;rw [h1];exact thn (hg pins s1 σ H1 x v _ I1 r1 q1) fun _ s2 q=>q
theorem Hr {i:Nat} {x:Str} {e:Expr} {te:TE} {pos':Pos} (hN:X.N.Nodup) (hi:X.N[i]? = some x) (hx:Loc X.env.scope x) (he:PE X e te) (hs:swapsWith e (some (.Name x pos')) pos.line X.env=pure false:=by rfl) (hf:X.fn x=true∨X.env.scope.names.lookup x=some .local:=by first | exact .inl rfl | exact .inr rfl | assumption) :
  PS X (.Assign [.Name x pos'] e pos) (UN te (Et i)):=by
 intro pins s σ H D I h;refine wpAny_Assign_Name (thn (he pins s σ H _ I h) fun v s1 hZ1=>?_) hs;obtain ⟨y,H1,I1,r1,q1⟩:=hZ1;exact Ev I1 hN hi hx r1 (fun s2 I2=>⟨_,H1,I2,q1⟩) hf
noncomputable def yR (i:Nat) (te:TE) (ti:TIp):TS:=fun D σ H=>∃ x,σ[i]? = some (some x)∧te σ H fun y H1=>ti x y H1 fun z H2=>D.nx (σ.set i (some z)) H2
theorem uL {i:Nat} {x:Str} {e:Expr} {te:TE} {op:Operator} {ti:TIp} {pos':Pos} (hN:X.N.Nodup) (hi:X.N[i]? = some x) (hx:Loc X.env.scope x) (he:PE X e te) (ho:PIp X op ti) (hf:X.fn x=true∨X.env.scope.names.lookup x=some .local:=by first | exact .inl rfl | exact .inr rfl | assumption) :
  PS X (.AugAssign (.Name x pos') op e pos) (yR i te ti):=by
 intro pins s σ H D I h;obtain ⟨v,e1,h⟩:=h;obtain ⟨m,hn,hl⟩:=I.loc;have vis:Vis X.env.scope x:=by rcases hx with k | k;exact .inl k;exact .inr (.inl k)
 obtain ⟨u,r,l⟩:=hl i x v hi e1 vis;refine wpAny_AugAssign_Name ?_;have go:wpAny (model X.prog X.w) X.A (eval e X.env) (fun w s₂=>wpAny (model X.prog X.w) X.A (inplaceOp op u w) (fun r s₃=>wpAny (model X.prog X.w) X.A (storeName X.env x r) (fun _=>SP X pins D .next) X.xe s₃) X.xe s₂) X.xe s:=by
  refine thn (he pins s σ H _ I h) fun w s1 hZ1=>?_
  obtain ⟨y,H1,I1,r1,q1⟩:=hZ1;refine thn (ho pins s1 σ H1 v y u w _ I1 r r1 q1) fun z s2 hZ1=>?_
  obtain ⟨zv,H2,I2,r2,q2⟩:=hZ1;exact Ev I2 hN hi hx r2 (fun s3 I3=>⟨_,H2,I3,q2⟩) hf
 rcases l with ⟨hk,hm⟩ | ⟨hk,c,hc,hcell⟩
 ·exact wpAny_loadName_local I.ok.kind hk hn hm go
 ·rcases hk with hk | hk
  ·exact wpAny_loadName_cell I.ok.kind hk hc hcell go
  ·rcases hx with k | k
   ·have:X.env.scope.names.lookup x=some .free:=hk;rw [k] at this;cases this
   ·have:X.env.scope.names.lookup x=some .free:=hk;rw [k] at this;cases this
noncomputable def ipI (f:Int→Int→Int):TIp:=fun x y H Q=>∃ i j,x=.int i∧y=.int j∧Q (.int (f i j)) H
theorem HL:PIp X .Add (ipI fun i j=>i + j):=by
 intro pins s σ H x y v u Q I r1 r2 h;obtain ⟨i,j,e1,e2,q⟩:=h;subst e1;subst e2;obtain ⟨t,rfl⟩:=r1;obtain ⟨t',rfl⟩:=r2;exact iadd_int ⟨.int _,H,I.tok _,⟨_,rfl⟩,q⟩
end
section
variable {X:Cx} {pos:Pos}
noncomputable def mP (c:TT) (tb:TS):TS:=fun D σ H=>∃ W:Nat→St→Hp→Prop,(∃ m,W m σ H)∧∀ m σ H,W m σ H →
 c σ H fun b H1=>if b=true then ∃ N:St→Hp→Prop,(∀ σ' H',N σ' H'→∃ m',m' < m∧W m' σ' H')∧tb { D with nx:=N,ct:=N,bk:=D.nx } σ H1 else D.nx σ H1
theorem iC {c:Expr} {body:List Stmt} {tc:TT} {tb:TS} (hp:PassesOwn (model X.prog X.w) X.A X.env X.xe) (hc:PT X c tc) (hb:PSs X body tb):PS X (.While c body [] pos) (mP tc tb):=by
 intro pins s σ H D I h;obtain ⟨W,⟨m0,w0⟩,turn⟩:=h;refine wpAny_While (codeAny_whileLoop (fun n s'=>∃ σ' H',Inv X pins σ' H' s'∧W n σ' H') ?_ m0 ⟨σ,H,I,w0⟩);rintro n s1 ⟨σ1,H1,I1,w1⟩;refine wpAny_passesOwn hp (thn (hc pins s1 σ1 H1 _ I1 (turn n σ1 H1 w1)) fun b s2 hZ1=>?_);obtain ⟨H2,I2,q2⟩:=hZ1;cases b with
 | true=>
  obtain ⟨N,hN,q2⟩:=q2;rw [if_pos rfl];refine wpAny_passesOwn hp (thn (hb pins s2 σ1 H2 _ I2 q2) fun f s3 q3=>?_);cases f with
  | next=>
   obtain ⟨σ3,H3,I3,n3⟩:=q3;obtain ⟨m',hm,w3⟩:=hN σ3 H3 n3;exact ⟨m',hm,σ3,H3,I3,w3⟩
  | cont=>
   obtain ⟨σ3,H3,I3,n3⟩:=q3;obtain ⟨m',hm,w3⟩:=hN σ3 H3 n3;exact ⟨m',hm,σ3,H3,I3,w3⟩
  | brk=>exact q3
  | ret v=>exact q3
 | false=>
  rw [if_neg Bool.false_ne_true];exact wpAny_execs_nil ⟨σ1,H2,I2,q2⟩
end
structure It where
 go:Nat→Hp→Prop
 yld:Nat→Hp→V→Hp→Prop
 stop:Nat→Hp→Prop
def zw (X:Cx) (pins:List (Addr × Obj)) (H:Hp) (b:Addr):Prop:=
 H b=none∧b ≠ X.env.locals∧b ∉ X.fs∧(b ∈ X.ex∨X.s₀.heap.objs.size ≤ b)∧(∀ x c,X.env.cells.lookup x=some c→c ≠ b)∧∀ p ∈ X.pn ++ pins,p.1 ≠ b
theorem Inv.fpOk {X:Cx} {pins:List (Addr × Obj)} {σ:St} {H H':Hp} {s:Shared} {b:Addr} (I:Inv X pins σ H s) (hb:s.heap.objs.size ≤ b) (hn:H' b=none):zw X pins H' b:=by
 refine ⟨hn,Nat.ne_of_gt (Nat.lt_of_lt_of_le I.lt hb),I.nofs hb,.inr (Nat.le_trans I.sz hb),fun x c e z=>?_,fun p hp z=>?_⟩
 ·obtain ⟨v,q⟩:=I.cell x c e;exact absurd (Nat.lt_of_lt_of_le q.lt (by rw [z];exact hb)) (Nat.lt_irrefl _)
 ·exact absurd (Nat.lt_of_lt_of_le (Heap.lt_size (I.pin p hp).1) (by rw [z];exact hb)) (Nat.lt_irrefl _)
structure mG (P:Program) (w:World) (K:PySem.W.Frag) (tg:Expr) (J:It) (fp:List Addr) (it:Addr) (tn:Nat→Heap→Prop):Prop where
 mem:it ∈ fp
 obj:∀ i h,tn i h→∀ b ∈ fp,∃ o,h.get? b=some o∧∀ v,o.data ≠ .cell v
 keep:∀ i h h',tn i h→(∀ b ∈ fp,∀ o,h.get? b=some o→h'.get? b=some o)→tn i h'
 item:∀ (X:Cx),X.prog=P→X.w=w→X.K=K→X.calm=true→∀ (i:Nat) (pins:List (Addr × Obj)) (s:Shared) (σ:St) (H:Hp) (E:Value→Shared→Prop),Inv X pins σ H s→(∀ b ∈ fp,zw X pins H b)→tn i s.heap→J.go i H →
  wpAny (model P w) X.A (pyNext (.ref it)) (fun r s1=>∃ u,r=some u ∧
   wpAny (model P w) X.A (letOwnedTupleGo tg (.ref it) u) (fun _ s2=>∃ x H',Inv X pins σ H' s2∧Vd x u∧J.yld i H x H'∧tn (i + 1) s2.heap∧∀ b ∈ fp,H' b=none) E s1) E s
 done:∀ (X:Cx),X.prog=P→X.w=w→X.K=K→X.calm=true→∀ (i:Nat) (pins:List (Addr × Obj)) (s:Shared) (σ:St) (H:Hp) (E:Value→Shared→Prop),Inv X pins σ H s→(∀ b ∈ fp,zw X pins H b)→tn i s.heap→J.stop i H →
  wpAny (model P w) X.A (pyNext (.ref it)) (fun r s1=>r=none∧Inv X pins σ H s1) E s
 self:∀ (A:Around) (i:Nat) (s:Shared) (Q:Value→Shared→Prop) (E:Value→Shared→Prop),tn i s.heap→Q (.ref it) s→wpAny (model P w) A (pyIter (.ref it)) Q E s
noncomputable abbrev TI:=St→Hp→(It→Hp→Prop)→Prop
def PIE (X:Cx) (pins:List (Addr × Obj)) (σ:St) (tg:Expr) (R:It→Hp→Prop) (itv:Value) (s2:Shared):Prop:=
 ∃ (it:Addr) (fp:List Addr) (tn:Nat→Heap→Prop) (J:It) (H':Hp),itv=.ref it∧Inv X pins σ H' s2∧mG X.prog X.w X.K tg J fp it tn∧tn 0 s2.heap∧(∀ b ∈ fp,zw X pins H' b)∧R J H'
def PI (X:Cx) (tg iter:Expr) (wi:TI):Prop:=
 ∀ (pins:List (Addr × Obj)) (s:Shared) (σ:St) (H:Hp) (R:It→Hp→Prop),Inv X pins σ H s→wi σ H R →
  wpAny (model X.prog X.w) X.A (eval iter X.env) (fun v s1=>wpAny (model X.prog X.w) X.A (pyIter v) (PIE X pins σ tg R) X.xe s1) X.xe s
theorem eE {M:Model} {A:Around} {E:Value→Shared→Prop} {s:Shared} {tg:Expr} {it:Addr} {u:Value} {o:Obj} {n:String} {vs:Array Value} {Q:Unit→Shared→Prop} (ho:s.heap.get? it=some o) (hc:o.cls=.type n) (hd:o.data=.fields vs)
    (hn:["enumerate","zip","dict_itemiterator","dict_reverseitemiterator","odict_iterator","itertools.zip_longest","itertools.pairwise"].contains n=false) (hQ:Q () s):wpAny M A (letOwnedTupleGo tg (.ref it) u) Q E s:=by
  unfold letOwnedTupleGo;cases tg <;> first
    | exact wpAny_pure hQ
    | (cases u <;> first
        | exact wpAny_pure hQ
        | (refine wpAny_bind (wpAny_load ho ?_)
           rw [hc,hd];show wpAny M A (if (["enumerate","zip","dict_itemiterator","dict_reverseitemiterator","odict_iterator","itertools.zip_longest","itertools.pairwise"].contains n && vs[0]? == some (rawInt _))=true then _ else _) Q E s;rw [if_neg (by intro h;rw [hn,Bool.false_and] at h;cases h)];exact wpAny_pure hQ))
noncomputable def Itl (K:PySem.W.Frag) (a:Addr):It:=
 ⟨fun i H=>∃ xs x,SqL K H a xs∧xs[i]? = some x,fun i H x H'=>H'=H∧∀ xs,SqL K H a xs→xs[i]? = some x,fun i H=>∃ xs,SqL K H a xs∧xs.length ≤ i⟩
noncomputable def Itt (K:PySem.W.Frag) (a:Addr):It:=
 ⟨fun i H=>∃ xs x,SqT K H a xs∧xs[i]? = some x,fun i H x H'=>H'=H∧∀ xs,SqT K H a xs→xs[i]? = some x,fun i H=>∃ xs,SqT K H a xs∧xs.length ≤ i⟩
noncomputable def Itr (lo:Int) (n:Nat):It:=⟨fun i _=>i < n,fun i H x H'=>H'=H∧x=.int (lo + i),fun i _=>n ≤ i⟩
theorem pH {P:Program} {w:World} {K:PySem.W.Frag} {tg:Expr} (a it:Addr):mG P w K tg (Itl K a) [it] it (fun i h=>h.IsListIter it a i) where
 mem:=by simp
 obj:=fun i h st b hb=>by
  have e:b=it:=by simpa using hb
  subst e;obtain ⟨o,e,c,d⟩:=st;exact ⟨o,e,fun v z=>by rw [d] at z;cases z⟩
 keep:=fun i h h' st k=>st.at fun o e=>k it (by simp) o e
 item:=by
  intro X hP hw hK hc i pins s σ H E I hf st hg;subst hP hw hK;obtain ⟨xs,x,hq,hx⟩:=hg;obtain ⟨its,rv,p,hz⟩:=I.list hq;obtain ⟨u,hu,ru⟩:=rv.get hx;obtain ⟨f0,f1,f2,f3,f4,f5⟩:=hf it (by simp);refine wpAny_pyNext_list_item st p.isList (x:=u) (by simpa using hu) fun h' st' sb=>?_
  have I1:Inv X pins σ H { s with heap:=h' }:=I.turned (t':=s.toks) (fun b o hb e=>(sb.2 b hb).trans e) f0 f1 f3 f4 f5;obtain ⟨o,e,c,d⟩:=id st';exact ⟨u,rfl,eE (s:={ s with heap:=h' }) e c d (by decide) ⟨x,H,I1,ru,⟨rfl,fun ys hy=>by rw [I.list_inj hy hq];exact hx⟩,st',fun b hb=>(hf b hb).1⟩⟩
 done:=by
  intro X hP hw hK hc i pins s σ H E I hf st hg;subst hP hw hK;obtain ⟨xs,hq,hx⟩:=hg;obtain ⟨its,rv,p,hz⟩:=I.list hq;obtain ⟨f0,f1,f2,f3,f4,f5⟩:=hf it (by simp);have hl:=rv.length;exact wpAny_pyNext_list_end (I.ok.hd hc) st p.isList (by simp;omega) fun h' eb=>⟨rfl,I.turned (t':=s.toks) (fun b o hb e=>eb b o hb e) f0 f1 f3 f4 f5⟩
 self:=fun _ _ _ _ _ st h=>wpAny_pyIter_listiter st h
theorem uD {P:Program} {w:World} {K:PySem.W.Frag} {tg:Expr} (a it:Addr):mG P w K tg (Itt K a) [it] it (fun i h=>h.IsTupleIter it a i) where
 mem:=by simp
 obj:=fun i h st b hb=>by
  have e:b=it:=by simpa using hb
  subst e;obtain ⟨o,e,c,d⟩:=st;exact ⟨o,e,fun v z=>by rw [d] at z;cases z⟩
 keep:=fun i h h' st k=>st.at fun o e=>k it (by simp) o e
 item:=by
  intro X hP hw hK hc i pins s σ H E I hf st hg;subst hP hw hK;obtain ⟨xs,x,hq,hx⟩:=hg;obtain ⟨its,rv,p,hz⟩:=I.tuple hq;obtain ⟨u,hu,ru⟩:=rv.get hx;obtain ⟨f0,f1,f2,f3,f4,f5⟩:=hf it (by simp);refine wpAny_pyNext_tuple_item st (show s.heap.IsTuple a its.toArray from p) (x:=u) (by simpa using hu) fun h' st' sb=>?_
  have I1:Inv X pins σ H { s with heap:=h' }:=I.turned (t':=s.toks) (fun b o hb e=>(sb.2 b hb).trans e) f0 f1 f3 f4 f5;obtain ⟨o,e,c,d⟩:=id st';exact ⟨u,rfl,eE (s:={ s with heap:=h' }) e c d (by decide) ⟨x,H,I1,ru,⟨rfl,fun ys hy=>by rw [I.tuple_inj hy hq];exact hx⟩,st',fun b hb=>(hf b hb).1⟩⟩
 done:=by
  intro X hP hw hK hc i pins s σ H E I hf st hg;subst hP hw hK;obtain ⟨xs,hq,hx⟩:=hg;obtain ⟨its,rv,p,hz⟩:=I.tuple hq;obtain ⟨f0,f1,f2,f3,f4,f5⟩:=hf it (by simp);have hl:=rv.length;exact wpAny_pyNext_tuple_end (I.ok.hd hc) st (show s.heap.IsTuple a its.toArray from p) (by simp;omega) fun h' eb=>⟨rfl,I.turned (t':=s.toks) (fun b o hb e=>eb b o hb e) f0 f1 f3 f4 f5⟩
 self:=fun _ _ _ _ _ st h=>wpAny_pyIter_tupleiter st h
theorem KC {P:Program} {w:World} {K:PySem.W.Frag} {tg:Expr} (it:Addr) (lo:Int) (n:Nat):mG P w K tg (Itr lo n) [it] it (fun i h=>IsRangeIter h it (lo + (i:Nat) * 1) ((n:Int) - (i:Nat)) 1) where
 mem:=by simp
 obj:=fun i h st b hb=>by
  have e:b=it:=by simpa using hb
  subst e;exact ⟨_,st,fun v z=>by
   have z':Data.fields _=Data.cell v:=z;cases z'⟩
 keep:=fun i h h' st k=>k it (by simp) _ st
 item:=by
  intro X hP hw hK hc i pins s σ H E I hf st hg;subst hP hw hK;obtain ⟨f0,f1,f2,f3,f4,f5⟩:=hf it (by simp);have W:=Walks.range (prog:=X.prog) (w:=X.w) (I.ok.hd hc) it lo 1 n;refine W.item i s _ _ hg st fun v h' tk hv st' kk=>?_
  obtain ⟨t,rfl⟩:=hv;have I1:Inv X pins σ H { s with heap:=h',toks:=tk }:=I.turned (fun b o hb e=>kk b o (by simpa using hb) e) f0 f1 f3 f4 f5;refine ⟨_,rfl,eE (s:={ s with heap:=h',toks:=tk }) (n := "range_iterator") st' rfl rfl (by decide) ⟨.int (lo + i),H,I1,⟨t,?_⟩,⟨rfl,rfl⟩,st',fun b hb=>(hf b hb).1⟩⟩;rw [Int.mul_one]
 done:=by
  intro X hP hw hK hc i pins s σ H E I hf st hg;subst hP hw hK;obtain ⟨f0,f1,f2,f3,f4,f5⟩:=hf it (by simp);exact wpAny_pyNext_range_end (I.ok.hd hc) st (by have:n ≤ i:=hg;omega) fun h' eb=>⟨rfl,I.turned (t':=s.toks) (fun b o hb e=>eb b o hb e) f0 f1 f3 f4 f5⟩
 self:=fun _ _ _ _ _ st h=>wpAny_pyIter_rangeiter st h
end L2
namespace L2
open PySem PySem.Spec PyProof.Rows
section
variable {X:Cx} {tg:Expr}
noncomputable def uP (K:PySem.W.Frag) (tl:TE):TI:=fun σ H R=>tl σ H fun x H1=>di x fun a=>(∃ xs,SqL K H1 a xs)∧R (Itl K a) H1
noncomputable def TR (K:PySem.W.Frag) (tl:TE):TI:=fun σ H R=>tl σ H fun x H1=>di x fun a=>(∃ xs,SqT K H1 a xs)∧R (Itt K a) H1
theorem ld {l:Expr} {tl:TE} (hl:PE X l tl):PI X tg l (uP X.K tl):=by
 intro pins s σ H R I h;refine thn (hl pins s σ H _ I h) fun v s1 hZ1=>?_
 obtain ⟨x,H1,I1,r1,q1⟩:=hZ1;obtain ⟨a,e,⟨xs,hq⟩,q⟩:=di.out q1;subst e;cases r1;obtain ⟨its,rv,p,hz⟩:=I1.list hq;refine wpAny_pyIter_list p.isList ?_;refine ⟨s1.heap.objs.size,[s1.heap.objs.size],_,_,H1,rfl,I1.kept (t':=s1.toks) fun b o e=>Heap.get?_push_of_some _ e,pH a _,⟨_,Heap.get?_push_size _ rfl,rfl,rfl⟩,fun b hb=>?_,q⟩;have e:b=s1.heap.objs.size:=by simpa using hb
 subst e;exact I1.fpOk (Nat.le_refl _) (I1.hok.fresh (Nat.le_refl _))
theorem sQ {l:Expr} {tl:TE} (hl:PE X l tl):PI X tg l (TR X.K tl):=by
 intro pins s σ H R I h;refine thn (hl pins s σ H _ I h) fun v s1 hZ1=>?_
 obtain ⟨x,H1,I1,r1,q1⟩:=hZ1;obtain ⟨a,e,⟨xs,hq⟩,q⟩:=di.out q1;subst e;cases r1;obtain ⟨its,rv,p,hz⟩:=I1.tuple hq;refine wpAny_pyIter_tuple (show s1.heap.IsTuple a its.toArray from p) ?_;refine ⟨s1.heap.objs.size,[s1.heap.objs.size],_,_,H1,rfl,I1.kept (t':=s1.toks) fun b o e=>Heap.get?_push_of_some _ e,uD a _,⟨_,Heap.get?_push_size _ rfl,rfl,rfl⟩,fun b hb=>?_,q⟩;have e:b=s1.heap.objs.size:=by simpa using hb
 subst e;exact I1.fpOk (Nat.le_refl _) (I1.hok.fresh (Nat.le_refl _))
theorem cC {pins:List (Addr × Obj)} {σ:St} {H:Hp} {s:Shared} {R:It→Hp→Prop} {E:Value→Shared→Prop} {lo hi:Int} {t u v:Tok} {tk:Nat} (I:Inv X pins σ H s) (h1:-(2 ^ 62) ≤ lo) (h2:lo < 2 ^ 62) (h3:-(2 ^ 62) ≤ hi) (h4:hi < 2 ^ 62)
  (q:R (Itr lo (hi - lo).toNat) H):wpAny (model X.prog X.w) X.A (pyIter (.ref s.heap.objs.size)) (PIE X pins σ tg R) E { s with heap:=s.heap.push { cls:=.type "range",data:=.fields #[.int lo t,.int hi u,.int 1 v] },toks:=tk }:=by
 refine wpAny_pyIter_range (IsRange.new ..) (small_one h1 h2 h3 h4) ?_;have I1:Inv X pins σ H { s with heap:=s.heap.push { cls:=.type "range",data:=.fields #[.int lo t,.int hi u,.int 1 v] },toks:=tk }:=I.kept fun b o e=>Heap.get?_push_of_some _ e
 refine ⟨(s.heap.push { cls:=.type "range",data:=.fields #[.int lo t,.int hi u,.int 1 v] }).objs.size,[(s.heap.push { cls:=.type "range",data:=.fields #[.int lo t,.int hi u,.int 1 v] }).objs.size],_,_,H,rfl,
  I1.kept (t':=tk) fun b o e=>Heap.get?_push_of_some _ e,KC _ lo (hi - lo).toNat,?_,fun b hb=>?_,q⟩
 ·have e1:lo + ((0:Nat):Int) * 1=lo:=by simp
  have e2:(((hi - lo).toNat:Nat):Int) - ((0:Nat):Int)=Builtin.Range.rangeSize lo hi 1:=by rw [rangeSize_one];split <;> omega
  show IsRangeIter _ _ (lo + ((0:Nat):Int) * 1) ((((hi - lo).toNat:Nat):Int) - ((0:Nat):Int)) 1;rw [e1,e2];exact Heap.get?_push_size _ rfl
 ·have e:b=(s.heap.push { cls:=.type "range",data:=.fields #[.int lo t,.int hi u,.int 1 v] }).objs.size:=by simpa using hb
  subst e;exact I1.fpOk (Nat.le_refl _) (I1.hok.fresh (Nat.le_refl _))
noncomputable def cO (ta:TA):TI:=fun σ H R=>ta σ H fun vs H1=>KD vs fun x=>uk x fun j=>-(2 ^ 62) ≤ j∧j < 2 ^ 62∧R (Itr 0 j.toNat) H1
noncomputable def XN (ta:TA):TI:=fun σ H R=>ta σ H fun vs H1=>∃ i j:Int,vs=[.int i,.int j]∧(-(2 ^ 62) ≤ i∧i < 2 ^ 62∧-(2 ^ 62) ≤ j∧j < 2 ^ 62)∧R (Itr i (j - i).toNat) H1
theorem Xc {a:Expr} {ta:TA} {p pos:Pos} (hg:Gl X "range") (hm:X.mg "range"=none) (ha:PA X [a] ta) (hs:starEach [a] X.env=[(false,eval a X.env)]:=by rfl):PI X tg (.Call (.Name "range" p) [a] [] pos) (cO ta):=by
 intro pins s σ H R I h;refine Call_ (Sj I hg hm boot_range (PyProof.Rows.callWith_type1 (thn (ha pos pins s σ H _ I h) fun us s1 hZ1=>?_) hs rfl));obtain ⟨vs,H1,I1,r1,q1⟩:=hZ1;obtain ⟨zx,ze,zq⟩:=KD.out q1;obtain ⟨j,zf,zp,q2,q⟩:=uk.out zq;have e:=ze.trans (congrArg (fun z=>[z]) zf);subst e;cases r1 with
 | cons r rr=>
  cases rr;obtain ⟨t,rfl⟩:=r;exact call_range_1 (cC I1 (by omega) (by omega) zp q2 (by simpa using q))
theorem Kx {a b:Expr} {ta:TA} {p pos:Pos} (hg:Gl X "range") (hm:X.mg "range"=none) (ha:PA X [a,b] ta) (hs:starEach [a,b] X.env=[(false,eval a X.env),(false,eval b X.env)]:=by rfl) (hs2:starEach [b] X.env=[(false,eval b X.env)]:=by rfl) :
  PI X tg (.Call (.Name "range" p) [a,b] [] pos) (XN ta):=by
 intro pins s σ H R I h;refine Call_ (Sj I hg hm boot_range (PyProof.Rows.callWith_type1 (thn (ha pos pins s σ H _ I h) fun us s1 hZ1=>?_) (by rw [hs,hs2]) (by rw [hs2];rfl)));obtain ⟨vs,H1,I1,r1,q1⟩:=hZ1;obtain ⟨i,j,e,⟨q1,q2,q3,q4⟩,q⟩:=q1;subst e;cases r1 with
 | cons r rr=>
  cases rr with
  | cons r' rr=>
   cases rr;obtain ⟨t,rfl⟩:=r;obtain ⟨t',rfl⟩:=r';exact call_range_2 (cC I1 q1 q2 q3 q4 q)
noncomputable def VR (wi:TI) (g:TG) (tb:TS):TS:=fun D σ H=>wi σ H fun J H1=>∃ W:Nat→Nat→St→Hp→Prop,(∃ m,W 0 m σ H1)∧∀ i m σ H,W i m σ H →
 (J.stop i H∧D.nx σ H)∨(J.go i H∧∃ N:St→Hp→Prop,(∀ σ' H',N σ' H'→∃ m',m' < m∧W (i + 1) m' σ' H')∧∀ x H',J.yld i H x H'→g x σ H' fun σ2 H2=>tb { D with nx:=N,ct:=N,bk:=D.nx } σ2 H2)
noncomputable def ix (fp:List Addr) (h:Heap):List (Addr × Obj):=fp.filterMap fun b=>(h.get? b).map fun o=>(b,o)
theorem cm {fp:List Addr} {h:Heap} {b:Addr} {o:Obj} (hb:b ∈ fp) (e:h.get? b=some o):(b,o) ∈ ix fp h:=List.mem_filterMap.mpr ⟨b,hb,by rw [e];rfl⟩
theorem WE {fp:List Addr} {h:Heap} {p:Addr × Obj} (hp:p ∈ ix fp h):p.1 ∈ fp∧h.get? p.1=some p.2:=by
 obtain ⟨b,hb,e⟩:=List.mem_filterMap.mp hp;cases q:h.get? b with
 | none=>rw [q] at e;cases e
 | some o=>
  rw [q] at e;have e':(b,o)=p:=Option.some.inj e;subst e';exact ⟨hb,q⟩
theorem Inv.pinned {pins:List (Addr × Obj)} {σ:St} {H:Hp} {s:Shared} {fp:List Addr} (I:Inv X pins σ H s) (hf:∀ b ∈ fp,zw X pins H b) (ho:∀ b ∈ fp,∃ o,s.heap.get? b=some o∧∀ v,o.data ≠ .cell v):Inv X (pins ++ ix fp s.heap) σ H s:=
 I.pins_of fun p hp=>(List.mem_append.mp hp).elim (fun z=>I.pin p (List.mem_append_right _ z)) fun z=>by
  obtain ⟨hb,e⟩:=WE z;obtain ⟨f0,f1,f2,_⟩:=hf p.1 hb;obtain ⟨o,e',d⟩:=ho p.1 hb;rw [e] at e';cases e';exact ⟨e,f0,f1,f2,d⟩
theorem Inv.unpinned {pins pl:List (Addr × Obj)} {σ:St} {H:Hp} {s:Shared} (I:Inv X (pins ++ pl) σ H s):Inv X pins σ H s:=I.pins_of fun p hp=>I.pin p (List.mem_append_right _ (List.mem_append_left _ hp))
theorem ad {iter:Expr} {body:List Stmt} {wi:TI} {g:TG} {tb:TS} {pos:Pos} (hp:PassesOwn (model X.prog X.w) X.A X.env X.xe) (hc:X.calm=true) (hi:PI X tg iter wi) (hg:PG X tg g) (hb:PSs X body tb)
  (hs:∀ x,foldedSetIterable iter X.env x=pure x:=by intro _;rfl):PS X (.For tg iter body [] pos) (VR wi g tb):=by
 intro pins s σ H D I h;refine wpAny_For (thn (hi pins s σ H _ I h) fun v s1 h1=>thn h1 fun itv s2 h2=>?_) hs;obtain ⟨it,fp,tn,J,H2,e,I2,T,st2,f2,W,⟨m0,w0⟩,turn⟩:=h2;subst e;have stat:∀ {H':Hp},(∀ b ∈ fp,H' b=none)→∀ b ∈ fp,zw X pins H' b:=fun hn b hb=>⟨hn b hb,(f2 b hb).2⟩
 refine codeAny_forLoop_any (fun n s'=>∃ i σ' H',Inv X pins σ' H' s'∧tn i s'.heap∧(∀ b ∈ fp,H' b=none)∧W i n σ' H') ?_ m0 ⟨0,σ,H2,I2,st2,fun b hb=>(f2 b hb).1,w0⟩;rintro n s3 ⟨i,σ3,H3,I3,st3,fr3,w3⟩;rcases turn i n σ3 H3 w3 with ⟨stop,qn⟩ | ⟨go,N,hN,step⟩
 ·refine wpAny_passesOwn hp (thn (T.done X rfl rfl rfl hc i pins s3 σ3 H3 X.xe I3 (stat fr3) st3 stop) fun r s4 hZ1=>?_);obtain ⟨hr,I4⟩:=hZ1;subst hr;exact wpAny_execs_nil ⟨σ3,H3,I4,qn⟩
 ·refine wpAny_passesOwn hp (thn (T.item X rfl rfl rfl hc i pins s3 σ3 H3 X.xe I3 (stat fr3) st3 go) fun r s4 hZ1=>?_);obtain ⟨u,hr,h4⟩:=hZ1;subst hr;refine wpAny_passesOwn hp (thn h4 fun _ s5 hZ1=>?_);obtain ⟨x,H5,I5,r5,y5,st5,fr5⟩:=hZ1;have I5':=I5.pinned (stat fr5) (T.obj _ _ st5);refine wpAny_passesOwn hp (thn (hg _ s5 σ3 H5 x u _ I5' r5 (step x H5 y5)) fun _ s6 hZ1=>?_);obtain ⟨σ6,H6,I6,q6⟩:=hZ1;refine wpAny_passesOwn hp (thn (hb _ s6 σ6 H6 _ I6 q6) fun f s7 q7=>?_);have again:∀ {σ7:St} {H7:Hp},Inv X (pins ++ ix fp s5.heap) σ7 H7 s7→N σ7 H7→∃ m,m < n∧∃ i σ' H',Inv X pins σ' H' s7∧tn i s7.heap∧(∀ b ∈ fp,H' b=none)∧W i m σ' H':=fun {σ7 H7} I7 n7=>by
   obtain ⟨m',hm,w7⟩:=hN σ7 H7 n7;refine ⟨m',hm,i + 1,σ7,H7,I7.unpinned,T.keep _ _ _ st5 fun b hb o e=>(I7.pin (b,o) (List.mem_append_right _ (List.mem_append_right _ (cm hb e)))).1,fun b hb=>?_,w7⟩;obtain ⟨o,e,d⟩:=T.obj _ _ st5 b hb;exact (I7.pin (b,o) (List.mem_append_right _ (List.mem_append_right _ (cm hb e)))).2.1
  cases f with
  | next=>obtain ⟨σ7,H7,I7,n7⟩:=q7;exact again I7 n7
  | cont=>obtain ⟨σ7,H7,I7,n7⟩:=q7;exact again I7 n7
  | brk=>obtain ⟨σ7,H7,I7,q7⟩:=q7;exact ⟨σ7,H7,I7.unpinned,q7⟩
  | ret v=>obtain ⟨x7,σ7,H7,I7,r7,q7⟩:=q7;exact ⟨x7,σ7,H7,I7.unpinned,r7,q7⟩
end
theorem hJ {K:PySem.W.Frag} {a:Addr} {xs:List V} {g:TG} {tb:TS} {D:qk} {σ:St} {H:Hp} (Pv:Nat→St→Hp→Prop) (h0:Pv 0 σ H) (hl:∀ i σ H,i ≤ xs.length→Pv i σ H→SqL K H a xs)
  (hs:∀ i x σ H,xs[i]? = some x→Pv i σ H→g x σ H fun σ2 H2=>tb { D with nx:=Pv (i + 1),ct:=Pv (i + 1),bk:=D.nx } σ2 H2) (hd:∀ σ H,Pv xs.length σ H→D.nx σ H) :
  ∃ W:Nat→Nat→St→Hp→Prop,(∃ m,W 0 m σ H)∧∀ i m σ H,W i m σ H →
   ((Itl K a).stop i H∧D.nx σ H)∨((Itl K a).go i H∧∃ N:St→Hp→Prop,(∀ σ' H',N σ' H'→∃ m',m' < m∧W (i + 1) m' σ' H')∧∀ x H',(Itl K a).yld i H x H'→g x σ H' fun σ2 H2=>tb { D with nx:=N,ct:=N,bk:=D.nx } σ2 H2):=by
 refine ⟨fun i m σ H=>m=xs.length - i∧i ≤ xs.length∧Pv i σ H,⟨xs.length,by simp,Nat.zero_le _,h0⟩,?_⟩;rintro i m σ H ⟨rfl,hi,p⟩;have q:=hl i σ H hi p;by_cases hlt:i < xs.length
 ·refine .inr ⟨⟨xs,xs[i],q,by simp [hlt]⟩,Pv (i + 1),fun σ' H' p'=>⟨xs.length - (i + 1),by omega,rfl,hlt,p'⟩,fun x H' y=>?_⟩;obtain ⟨e,y⟩:=y;subst e;exact hs i x σ _ (y xs q) p
 ·have e:i=xs.length:=by omega
  subst e;exact .inl ⟨⟨xs,q,Nat.le_refl _⟩,hd σ H p⟩
theorem yE {lo:Int} {n:Nat} {g:TG} {tb:TS} {D:qk} {σ:St} {H:Hp} (Pv:Nat→St→Hp→Prop) (h0:Pv 0 σ H)
  (hs:∀ i σ H,i < n→Pv i σ H→g (.int (lo + i)) σ H fun σ2 H2=>tb { D with nx:=Pv (i + 1),ct:=Pv (i + 1),bk:=D.nx } σ2 H2) (hd:∀ σ H,Pv n σ H→D.nx σ H) :
  ∃ W:Nat→Nat→St→Hp→Prop,(∃ m,W 0 m σ H)∧∀ i m σ H,W i m σ H →
   ((Itr lo n).stop i H∧D.nx σ H)∨((Itr lo n).go i H∧∃ N:St→Hp→Prop,(∀ σ' H',N σ' H'→∃ m',m' < m∧W (i + 1) m' σ' H')∧∀ x H',(Itr lo n).yld i H x H'→g x σ H' fun σ2 H2=>tb { D with nx:=N,ct:=N,bk:=D.nx } σ2 H2):=by
 refine ⟨fun i m σ H=>m=n - i∧i ≤ n∧Pv i σ H,⟨n,by simp,Nat.zero_le _,h0⟩,?_⟩;rintro i m σ H ⟨rfl,hi,p⟩;by_cases hlt:i < n
 ·refine .inr ⟨hlt,Pv (i + 1),fun σ' H' p'=>⟨n - (i + 1),by omega,rfl,hlt,p'⟩,fun x H' y=>?_⟩;obtain ⟨e,y⟩:=y;subst e y;exact hs i σ _ hlt p
 ·have e:i=n:=by omega
  subst e;exact .inl ⟨Nat.le_refl _,hd σ H p⟩
end L2
namespace L2
open PySem PySem.Spec PyProof.Rows
noncomputable abbrev R2:=V→V→Hp→VK→Prop
def OpR (X:Cx) (f:Value→Value→Sem Value) (r:R2):Prop:=
 ∀ (pins:List (Addr × Obj)) (s:Shared) (σ:St) (H:Hp) (x y:V) (v u:Value) (Q:VK),Inv X pins σ H s→Vd x v→Vd y u→r x y H Q →
  wpAny (model X.prog X.w) X.A (f v u) (EP X pins σ Q) X.xe s
def UnR (X:Cx) (f:Value→Sem Value) (r:V→Hp→VK→Prop):Prop:=
 ∀ (pins:List (Addr × Obj)) (s:Shared) (σ:St) (H:Hp) (x:V) (v:Value) (Q:VK),Inv X pins σ H s→Vd x v→r x H Q →
  wpAny (model X.prog X.w) X.A (f v) (EP X pins σ Q) X.xe s
def rk (X:Cx) (f:Value) (r:List V→Hp→VK→Prop):Prop:=
 ∀ (pins:List (Addr × Obj)) (s:Shared) (σ:St) (H:Hp) (xs:List V) (us:List Value) (Q:VK),Inv X pins σ H s→Cd xs us→r xs H Q →
  wpAny (model X.prog X.w) X.A (call f us) (EP X pins σ Q) X.xe s
def wS (X:Cx) (r:V→Hp→(Bool→Hp→Prop)→Prop):Prop:=
 ∀ (pins:List (Addr × Obj)) (s:Shared) (σ:St) (H:Hp) (x:V) (v:Value) (Q:Bool→Hp→Prop),Inv X pins σ H s→Vd x v→r x H Q →
  wpAny (model X.prog X.w) X.A (truthy v) (TP X pins σ Q) X.xe s
noncomputable def tOp (r:R2) (ta tb:TE):TE:=fun σ H Q=>ta σ H fun x H1=>tb σ H1 fun y H2=>r x y H2 Q
noncomputable def tUn (r:V→Hp→VK→Prop) (ta:TE):TE:=fun σ H Q=>ta σ H fun x H1=>r x H1 Q
noncomputable def rI (C:Int→Int→Prop) (g:Int→Int→V):R2:=fun x y H Q=>uk x fun i=>uk y fun j=>C i j∧Q (g i j) H
noncomputable def rI0 (g:Int→Int→V):R2:=fun x y H Q=>uk x fun i=>uk y fun j=>Q (g i j) H
noncomputable def rU (g:Int→V):V→Hp→VK→Prop:=fun x H Q=>uk x fun i=>Q (g i) H
section
variable {X:Cx} {a b c:Expr} {ta tb tc:TE} {pos:Pos}
theorem SQ (ha:PE X a ta) (hb:PE X b tb) {pins:List (Addr × Obj)} {s:Shared} {σ:St} {H:Hp} {R:V→V→Hp→Prop} (I:Inv X pins σ H s)
  (h:ta σ H fun x H1=>tb σ H1 fun y H2=>R x y H2) {Q:Value→Shared→Prop} {f:Value→Value→Sem Value}
  (hf:∀ v u s2 x y H2,Inv X pins σ H2 s2→Vd x v→Vd y u→R x y H2→wpAny (model X.prog X.w) X.A (f v u) Q X.xe s2) :
  wpAny (model X.prog X.w) X.A (eval a X.env) (fun v s₁=>wpAny (model X.prog X.w) X.A (eval b X.env) (fun u s₂=>wpAny (model X.prog X.w) X.A (f v u) Q X.xe s₂) X.xe s₁) X.xe s:=by
 refine thn (ha pins s σ H _ I h) fun v s1 hZ1=>?_
 obtain ⟨x,H1,I1,r1,q1⟩:=hZ1;refine thn (hb pins s1 σ H1 _ I1 q1) fun u s2 hZ1=>?_
 obtain ⟨y,H2,I2,r2,q2⟩:=hZ1;exact hf v u s2 x y H2 I2 r1 r2 q2
theorem Lb {op:Operator} {r:R2} (ho:OpR X (binaryOp op) r) (ha:PE X a ta) (hb:PE X b tb):PE X (.BinOp a op b pos) (tOp r ta tb):=by
 intro pins s σ H Q I h;exact wpAny_BinOp (SQ ha hb I h fun v u s2 x y H2 I2 rx ry q=>ho pins s2 σ H2 x y v u Q I2 rx ry q)
theorem pK {op:UnaryOp} {r:V→Hp→VK→Prop} (ho:UnR X (unaryOp op) r) (ha:PE X a ta):PE X (.UnaryOp op a pos) (tUn r ta):=by
 intro pins s σ H Q I h;exact UnaryOp_ (thn (ha pins s σ H _ I h) fun v s1 ⟨x,H1,I1,r1,q1⟩=>ho pins s1 σ H1 x v Q I1 r1 q1)
theorem opI {f:Value→Value→Sem Value} {C:Int→Int→Prop} {g:Int→Int→Int}
  (rule:∀ (i j:Int) (t u:Tok) (s:Shared) (Q:Value→Shared→Prop) (E:Value→Shared→Prop),C i j→Q (.int (g i j) s.toks) { s with toks:=s.toks + 1 }→wpAny (model X.prog X.w) X.A (f (.int i t) (.int j u)) Q E s) :
  OpR X f (rI C fun i j=>.int (g i j)):=by
 intro pins s σ H x y v u Q I rx ry h;obtain ⟨i,rfl,hzz⟩:=uk.out h;obtain ⟨j,rfl,hc,q⟩:=uk.out hzz;obtain ⟨t,rfl⟩:=rx;obtain ⟨t',rfl⟩:=ry;exact rule i j t t' s _ _ hc ⟨.int (g i j),H,I.tok _,⟨_,rfl⟩,q⟩
theorem YR {f:Value→Value→Sem Value} {g:Int→Int→Int}
  (rule:∀ (i j:Int) (t u:Tok) (s:Shared) (Q:Value→Shared→Prop) (E:Value→Shared→Prop),Q (.int (g i j) s.toks) { s with toks:=s.toks + 1 }→wpAny (model X.prog X.w) X.A (f (.int i t) (.int j u)) Q E s) :
  OpR X f (rI0 fun i j=>.int (g i j)):=by
 intro pins s σ H x y v u Q I rx ry h;obtain ⟨i,rfl,hzz⟩:=uk.out h;obtain ⟨j,rfl,q⟩:=uk.out hzz;obtain ⟨t,rfl⟩:=rx;obtain ⟨t',rfl⟩:=ry;exact rule i j t t' s _ _ ⟨.int (g i j),H,I.tok _,⟨_,rfl⟩,q⟩
theorem VQ {f:Value→Value→Sem Value} {g:Int→Int→Bool}
  (rule:∀ (i j:Int) (t u:Tok) (s:Shared) (Q:Value→Shared→Prop) (E:Value→Shared→Prop),Q (.bool (g i j)) s→wpAny (model X.prog X.w) X.A (f (.int i t) (.int j u)) Q E s) :
  OpR X f (rI0 fun i j=>.bl (g i j)):=by
 intro pins s σ H x y v u Q I rx ry h;obtain ⟨i,rfl,hzz⟩:=uk.out h;obtain ⟨j,rfl,q⟩:=uk.out hzz;obtain ⟨t,rfl⟩:=rx;obtain ⟨t',rfl⟩:=ry;exact rule i j t t' s _ _ ⟨.bl (g i j),H,I,rfl,q⟩
def gS (i j:Int):Prop:=0 < j∧j < 1073741824
def rS (i j:Int):Prop:=0 ≤ j∧j ≤ 1000000∧i.natAbs < 2 ^ 64
def dM (i j:Int):Prop:=(-(2 ^ 64) < i∧i < 2 ^ 64)∨(-(2 ^ 64) < j∧j < 2 ^ 64)
theorem dM.ok {i j:Int} (h:dM i j):IntMulOk i j:=by
 rcases h with ⟨h1,h2⟩ | ⟨h1,h2⟩
 ·exact .of_left (intBits_le_64 h1 h2)
 ·exact .of_right (intBits_le_64 h1 h2)
theorem Dc:OpR X (binaryOp .Add) (rI0 fun i j=>.int (i + j)):=YR fun _ _ _ _ _ _ _ q=>add_int q
theorem ci:OpR X (binaryOp .Sub) (rI0 fun i j=>.int (i - j)):=YR fun _ _ _ _ _ _ _ q=>sub_int q
theorem Ri:OpR X (binaryOp .Mult) (rI dM fun i j=>.int (i * j)):=opI fun _ _ _ _ _ _ _ hc q=>mul_int q hc.ok
theorem IM:OpR X (binaryOp .FloorDiv) (rI gS fun i j=>.int (i / j)):=opI fun i j _ _ _ _ _ hc q=>by
 have h1:(0:Int) < j:=hc.1;have h2:j < 1073741824:=hc.2;exact floordiv_int (by omega) (by rw [Int.fdiv_eq_ediv_of_nonneg i (by omega)];exact q) (.inl (PyProof.noPylong_small (by omega)))
theorem Te:OpR X (binaryOp .Mod) (rI (fun _ j=>0 < j) fun i j=>.int (i % j)):=opI fun i j _ _ _ _ _ hc q=>by
 have h1:(0:Int) < j:=hc;exact mod_int' (by omega) (by rw [Int.fmod_eq_emod_of_nonneg i (by omega)];exact q)
theorem tP:OpR X (binaryOp .Pow) (rI rS fun i j=>.int (i ^ j.toNat)):=opI fun _ _ _ _ _ _ _ hc q=>pow_int_small hc.1 hc.2.1 hc.2.2 q
theorem unI {f:Value→Sem Value} {g:Int→Int}
  (rule:∀ (i:Int) (t:Tok) (s:Shared) (Q:Value→Shared→Prop) (E:Value→Shared→Prop),Q (.int (g i) s.toks) { s with toks:=s.toks + 1 }→wpAny (model X.prog X.w) X.A (f (.int i t)) Q E s) :
  UnR X f (rU fun i=>.int (g i)):=by
 intro pins s σ H x v Q I rx h;obtain ⟨i,rfl,q⟩:=uk.out h;obtain ⟨t,rfl⟩:=rx;exact rule i t s _ _ ⟨.int (g i),H,I.tok _,⟨_,rfl⟩,q⟩
theorem bC:UnR X (unaryOp .USub) (rU fun i=>.int (-i)):=unI fun _ _ _ _ _ q=>neg_int q
end
noncomputable def eO:V→V→Bool
 | .non,.non=>true | .non,.int _=>true | .int _,.non=>true | .non,.bl _=>true | .bl _,.non=>true | .non,.str _=>true | .str _,.non=>true
 | .int _,.int _=>true | .bl _,.bl _=>true | .str _,.str _=>true | .byt _,.byt _=>true
 | .int _,.str _=>true | .str _,.int _=>true | .bl _,.str _=>true | .str _,.bl _=>true
 | _,_=>false
noncomputable def rEq:R2:=fun x y H Q=>eO x y=true∧Q (.bl (decide (x=y))) H
noncomputable def rNe:R2:=fun x y H Q=>eO x y=true∧Q (.bl (!decide (x=y))) H
theorem ZH {i j:Int}:decide (V.int i=V.int j)=(i == j):=by
 rw [Bool.eq_iff_iff];simp
theorem QL {i j:Bool}:decide (V.bl i=V.bl j)=(i == j):=by
 rw [Bool.eq_iff_iff];simp
theorem LG {i j:Str}:decide (V.str i=V.str j)=(i == j):=by
 rw [Bool.eq_iff_iff];simp
theorem iF {i j:Array UInt8}:decide (V.byt i=V.byt j)=(i.toList == j.toList):=by
 rw [Bool.eq_iff_iff];cases i;cases j;simp
section
variable {X:Cx} {a b c:Expr} {ta tb tc:TE} {pos:Pos}
theorem Yc {pins:List (Addr × Obj)} {σ:St} {H:Hp} {s:Shared} {Q:VK} {k k':Bool} (I:Inv X pins σ H s) (q:Q (.bl k) H) (e:k=k'):EP X pins σ Q (.bool k') s:=by
 subst e;exact ⟨.bl k,H,I,rfl,q⟩
theorem fm:OpR X (compareOp .Eq) rEq:=by
 intro pins s σ H x y v u Q I rx ry h;obtain ⟨hs,q⟩:=h;cases x with
 | non=>
  cases rx;cases y with
  | non=>cases ry;exact PySem.EqNone.eq_none_none (Yc I q (by simp))
  | bl j=>cases ry;exact PySem.EqNone.eq_none_bool (Yc I q (by simp))
  | int j=>obtain ⟨t',rfl⟩:=ry;exact PySem.EqNone.eq_none_int (Yc I q (by simp))
  | str j=>obtain ⟨t',rfl⟩:=ry;exact PySem.EqNone.eq_none_str (Yc I q (by simp))
  | _=>exact absurd (show false=true from hs) Bool.false_ne_true
 | bl i=>
  cases rx;cases y with
  | non=>cases ry;exact PySem.EqNone.eq_bool_none (Yc I q (by simp))
  | bl j=>cases ry;exact eq_bool (Yc I q QL)
  | str j=>obtain ⟨t',rfl⟩:=ry;exact PySem.EqMixed.eq_bool_str (Yc I q (by simp))
  | _=>exact absurd (show false=true from hs) Bool.false_ne_true
 | int i=>
  obtain ⟨t,rfl⟩:=rx;cases y with
  | non=>cases ry;exact PySem.EqNone.eq_int_none (Yc I q (by simp))
  | int j=>obtain ⟨t',rfl⟩:=ry;exact eq_int (Yc I q ZH)
  | str j=>obtain ⟨t',rfl⟩:=ry;exact PySem.EqMixed.eq_int_str (Yc I q (by simp))
  | _=>exact absurd (show false=true from hs) Bool.false_ne_true
 | str i=>
  obtain ⟨t,rfl⟩:=rx;cases y with
  | non=>cases ry;exact PySem.EqNone.eq_str_none (Yc I q (by simp))
  | bl j=>cases ry;exact PySem.EqMixed.eq_str_bool (Yc I q (by simp))
  | int j=>obtain ⟨t',rfl⟩:=ry;exact PySem.EqMixed.eq_str_int (Yc I q (by simp))
  | str j=>obtain ⟨t',rfl⟩:=ry;exact eq_str (Yc I q LG)
  | _=>exact absurd (show false=true from hs) Bool.false_ne_true
 | byt i=>
  obtain ⟨t,rfl⟩:=rx;cases y with
  | byt j=>obtain ⟨t',rfl⟩:=ry;exact PySem.W.eq_bytes (Yc I q iF)
  | _=>exact absurd (show false=true from hs) Bool.false_ne_true
 | _=>cases y <;> exact absurd (show false=true from hs) Bool.false_ne_true
theorem Os:OpR X (compareOp .NotEq) rNe:=by
 intro pins s σ H x y v u Q I rx ry h;obtain ⟨hs,q⟩:=h;cases x with
 | non=>
  cases rx;cases y with
  | non=>cases ry;exact PySem.EqNone.ne_none_none (Yc I q (by simp))
  | bl j=>cases ry;exact PySem.EqNone.ne_none_bool (Yc I q (by simp))
  | int j=>obtain ⟨t',rfl⟩:=ry;exact PySem.EqNone.ne_none_int (Yc I q (by simp))
  | str j=>obtain ⟨t',rfl⟩:=ry;exact PySem.EqNone.ne_none_str (Yc I q (by simp))
  | _=>exact absurd (show false=true from hs) Bool.false_ne_true
 | bl i=>
  cases rx;cases y with
  | non=>cases ry;exact PySem.EqNone.ne_bool_none (Yc I q (by simp))
  | bl j=>cases ry;exact ne_bool (Yc I q (congrArg not QL))
  | str j=>obtain ⟨t',rfl⟩:=ry;exact PySem.EqMixed.ne_bool_str (Yc I q (by simp))
  | _=>exact absurd (show false=true from hs) Bool.false_ne_true
 | int i=>
  obtain ⟨t,rfl⟩:=rx;cases y with
  | non=>cases ry;exact PySem.EqNone.ne_int_none (Yc I q (by simp))
  | int j=>obtain ⟨t',rfl⟩:=ry;exact ne_int (Yc I q (congrArg not ZH))
  | str j=>obtain ⟨t',rfl⟩:=ry;exact PySem.EqMixed.ne_int_str (Yc I q (by simp))
  | _=>exact absurd (show false=true from hs) Bool.false_ne_true
 | str i=>
  obtain ⟨t,rfl⟩:=rx;cases y with
  | non=>cases ry;exact PySem.EqNone.ne_str_none (Yc I q (by simp))
  | bl j=>cases ry;exact PySem.EqMixed.ne_str_bool (Yc I q (by simp))
  | int j=>obtain ⟨t',rfl⟩:=ry;exact PySem.EqMixed.ne_str_int (Yc I q (by simp))
  | str j=>obtain ⟨t',rfl⟩:=ry;exact ne_str (Yc I q (congrArg not LG))
  | _=>exact absurd (show false=true from hs) Bool.false_ne_true
 | byt i=>
  obtain ⟨t,rfl⟩:=rx;cases y with
  | byt j=>obtain ⟨t',rfl⟩:=ry;exact PySem.W.ne_bytes (Yc I q (congrArg not iF))
  | _=>exact absurd (show false=true from hs) Bool.false_ne_true
 | _=>cases y <;> exact absurd (show false=true from hs) Bool.false_ne_true
theorem Ms:OpR X (compareOp .Lt) (rI0 fun i j=>.bl (decide (i < j))):=VQ fun _ _ _ _ _ _ _ q=>lt_int q
theorem aR:OpR X (compareOp .LtE) (rI0 fun i j=>.bl (decide (i ≤ j))):=VQ fun _ _ _ _ _ _ _ q=>le_int q
theorem Kz:OpR X (compareOp .Gt) (rI0 fun i j=>.bl (decide (j < i))):=VQ fun _ _ _ _ _ _ _ q=>gt_int q
theorem uH:OpR X (compareOp .In) (fun x y H Q=>∃ i j,x=.str i∧y=.str j∧Q (.bl (!(Builtin.Str.occurrences j i 0 j.length 1).isEmpty)) H):=by
 intro pins s σ H x y v u Q I rx ry h;obtain ⟨i,j,rfl,rfl,q⟩:=h;obtain ⟨t,rfl⟩:=rx;obtain ⟨t',rfl⟩:=ry;exact in_str (Yc I q rfl)
theorem lG:OpR X (compareOp .Is) (fun x y H Q=>y=.non∧Q (.bl (decide (x=.non))) H):=by
 intro pins s σ H x y v u Q I rx ry h;obtain ⟨rfl,q⟩:=h;cases ry;refine is_none_gen (Yc I q ?_);cases x <;> first
  | (cases rx;rfl)
  | (obtain ⟨t,rfl⟩:=rx;rfl)
theorem Vy:OpR X (compareOp .IsNot) (fun x y H Q=>y=.non∧Q (.bl (!decide (x=.non))) H):=by
 intro pins s σ H x y v u Q I rx ry h;obtain ⟨rfl,q⟩:=h;cases ry;refine isnot_none_gen (Yc I q ?_);cases x <;> first
  | (cases rx;rfl)
  | (obtain ⟨t,rfl⟩:=rx;rfl)
theorem OpR.or {f:Value→Value→Sem Value} {r r':R2} (h:OpR X f r) (h':OpR X f r'):OpR X f (fun x y H Q=>r x y H Q∨r' x y H Q):=by
 intro pins s σ H x y v u Q I rx ry q;rcases q with q | q
 ·exact h pins s σ H x y v u Q I rx ry q
 ·exact h' pins s σ H x y v u Q I rx ry q
theorem gc (b:Expr) {op:CmpOp} (h:op ≠ .In:=by decide) (h2:op ≠ .NotIn:=by decide):behindInMarks op b=false:=by
 have e1:(op == CmpOp.In)=false:=by cases op <;> first | rfl | exact absurd rfl h
 have e2:(op == CmpOp.NotIn)=false:=by cases op <;> first | rfl | exact absurd rfl h2
 cases b <;> simp [behindInMarks,e1,e2]
theorem Qf {op:CmpOp} {r:R2} (ho:OpR X (compareOp op) r) (ha:PE X a ta) (hb:PE X b tb) (hm:behindInMarks op b=false):PE X (.Compare a [op] [b] pos) (tOp r ta tb):=by
 intro pins s σ H Q I h;exact wpAny_Compare1 (SQ ha hb I h fun v u s2 x y H2 I2 rx ry q=>ho pins s2 σ H2 x y v u Q I2 rx ry q) hm
noncomputable def wO (t:TE):TT:=fun σ H Q=>t σ H fun x H'=>BlQ x fun k=>Q k H'
theorem Pb {op:CmpOp} {r:R2} (ho:OpR X (compareOp op) r) (ha:PE X a ta) (hb:PE X b tb) (hm:behindInMarks op b=false):PT X (.Compare a [op] [b] pos) (wO (tOp r ta tb)):=by
 intro pins s σ H Q I h;refine wpAny_isTrue_Compare1 (thn (ha pins s σ H _ I h) fun v s1 ⟨x,H1,I1,r1,q1⟩=>thn (hb pins s1 σ H1 _ I1 q1) fun u s2 ⟨y,H2,I2,r2,q2⟩=>
  thn (ho pins s2 σ H2 x y v u _ I2 r1 r2 q2) fun c s3 ⟨z,H3,I3,r3,zq⟩=>?_) hm
 obtain ⟨k,e,q3⟩:=BlQ.out zq;subst e;cases r3;exact wpAny_truthy_bool ⟨H3,I3,q3⟩
def GR (K:PySem.W.Frag) (x:V) (H:Hp) (k:Bool):Prop:=
 match x with
 | .non=>k=false
 | .bl b=>k=b
 | .int i=>k=(i != 0)
 | .str y=>y.length ≤ sizeLine∧k=((y.length:Int) != 0)
 | .byt y=>y.size ≤ sizeLine∧k=((y.size:Int) != 0)
 | .ref p=>(∃ xs,SqL K H p xs∧k = !xs.isEmpty)∨(∃ xs,SqT K H p xs∧k = !xs.isEmpty)∨∃ kvs,H p=some (.dK kvs)∧k = !kvs.isEmpty
 | _=>False
theorem GD {κ:Type} {kvs:List (κ × V)} {vs:List (κ × Value)} (r:KV kvs vs):(!vs.isEmpty) = !kvs.isEmpty:=by
 cases r <;> rfl
theorem vv {xs:List V} {its:List Value} (r:Cd xs its):(!its.toArray.isEmpty) = !xs.isEmpty:=by
 cases r <;> simp
theorem Lr:(sizeLine:Nat) < 2 ^ 63:=by rw [sizeLine_eq];decide
theorem GP:wS X (fun x H Q=>∃ k,GR X.K x H k∧Q k H):=by
 intro pins s σ H x v Q I rx h;obtain ⟨k,e,q⟩:=h;have hl:=Lr;have hs:sizeLine=16777216:=sizeLine_eq;cases x with
 | non=>
  cases rx;have e':k=false:=e;subst e';exact truthy_none ⟨H,I,q⟩
 | bl b=>
  cases rx;have e':k=b:=e;subst e';exact wpAny_truthy_bool ⟨H,I,q⟩
 | int i=>
  obtain ⟨t,rfl⟩:=rx;have e':k=(i != 0):=e;subst e';exact PySem.P.truthy_int ⟨H,I,q⟩
 | str y=>
  obtain ⟨t,rfl⟩:=rx;obtain ⟨hy,e'⟩:y.length ≤ sizeLine∧k=((y.length:Int) != 0):=e;subst e';exact PySem.P.truthy_str (by omega) ⟨H,I.tok _,q⟩
 | byt y=>
  obtain ⟨t,rfl⟩:=rx;obtain ⟨hy,e'⟩:y.size ≤ sizeLine∧k=((y.size:Int) != 0):=e;subst e';exact PySem.W.truthy_bytes (by omega) ⟨H,I.tok _,q⟩
 | ref p=>
  cases rx;have e':(∃ xs,SqL X.K H p xs∧k = !xs.isEmpty)∨(∃ xs,SqT X.K H p xs∧k = !xs.isEmpty)∨∃ kvs,H p=some (.dK kvs)∧k = !kvs.isEmpty:=e;rcases e' with ⟨xs,hx,e'⟩ | ⟨xs,hx,e'⟩ | ⟨kvs,hx,e'⟩
  ·subst e';obtain ⟨its,r,pl,hz⟩:=I.list hx;have hlen:=r.length;exact wpAny_truthy_list pl.isList (by simp only [List.size_toArray];omega) ⟨H,I.tok _,by rw [vv r];exact q⟩
  ·subst e';obtain ⟨its,r,pl,hz⟩:=I.tuple hx;have hlen:=r.length;exact truthy_tuple pl (by simp only [List.size_toArray];omega) ⟨H,I.tok _,by rw [vv r];exact q⟩
  ·subst e';obtain ⟨hz,hS,vs,r,m⟩:kvs.length ≤ sizeLine∧(p == sysModules)=false∧∃ vs,KV kvs vs∧s.heap.DictOf (Ge X.prog X.w) p vs:=I.hok p _ hx;have hlen:kvs.length=vs.length:=Paired.length r;exact wpAny_truthy_dict hS m (by omega) ⟨H,I.tok _,by rw [GD r];exact q⟩
 | _=>exact (show False from e).elim
theorem Ov (ha:PE X a ta) (he:∀ whole,isTrue a X.env whole=(do let v ← whole;standAt a.pos;holding [v] (truthy v))) :
  PT X a (fun σ H Q=>ta σ H fun x H'=>∃ k,GR X.K x H' k∧Q k H'):=by
 intro pins s σ H Q I h;exact isTrue_plain (thn (ha pins s σ H _ I h) fun v s1 ⟨x,H1,I1,r1,q1⟩=>GP pins s1 σ H1 x v Q I1 r1 q1) (he _)
theorem Xo:OpR X (binaryOp .Add) (fun x y H Q=>∃ i j,x=.str i∧y=.str j∧i.length + j.length ≤ sizeLine∧Q (.str (i ++ j)) H):=by
 intro pins s σ H x y v u Q I rx ry h;obtain ⟨i,j,rfl,rfl,hz,q⟩:=h;obtain ⟨t,rfl⟩:=rx;obtain ⟨t',rfl⟩:=ry;exact add_str (fun t' tk=>⟨.str (i ++ j),H,I.tok _,⟨_,rfl⟩,q⟩) hz
theorem qo {x:V} {us:List Value} (r:Cd [x] us):∃ u,us=[u]∧Vd x u:=by
 cases r with
 | cons r1 r2=>cases r2;exact ⟨_,rfl,r1⟩
theorem ZQ {x y:V} {us:List Value} (r:Cd [x,y] us):∃ u w',us=[u,w']∧Vd x u∧Vd y w':=by
 cases r with
 | cons r1 r2=>
  cases r2 with
  | cons r3 r4=>cases r4;exact ⟨_,_,rfl,r1,r3⟩
theorem Fy (hc:X.calm=true):rk X (.builtin "max") (fun xs H Q=>∃ i j,xs=[.int i,.int j]∧Q (.int (if j > i then j else i)) H):=by
 intro pins s σ H xs us Q I r h;obtain ⟨i,j,rfl,q⟩:=h;obtain ⟨u,w',rfl,⟨t,rfl⟩,⟨t',rfl⟩⟩:=ZQ r;refine max_two_ints (I.ok.hd hc) fun h' tk k=>⟨_,H,I.kept k,?_,q⟩
 by_cases hj:j > i
 ·rw [if_pos hj,if_pos hj];exact ⟨_,rfl⟩
 ·rw [if_neg hj,if_neg hj];exact ⟨_,rfl⟩
theorem Jk:rk X (.type "str") (fun xs H Q=>∃ i,xs=[.int i]∧i.natAbs.log2 < 1920∧Q (.str (toString i)) H):=by
 intro pins s σ H xs us Q I r h;obtain ⟨i,rfl,hz,q⟩:=h;obtain ⟨u,rfl,t,rfl⟩:=qo r;exact PySem.P.str_of_int hz ⟨.str _,H,I.tok _,⟨_,rfl⟩,q⟩
end
end L2
namespace L2
open PySem PySem.Spec PyProof.Rows
structure rM (h:Heap) (x dx C:Addr) (mA:Str→Option Value):Prop where
 obj:h.get? x=some (PySem.W.instObj C dx)
 ns:h.Ns1 dx mA
 ne:dx ≠ x
theorem AI {h:Heap} {dx:Addr} {mA:Str→Option Value} (n:h.Ns1 dx mA):∃ od,h.get? dx=some od∧∀ name,PySem.W.lookIn name od=some (mA name):=by
 obtain ⟨o,es,ep,ho,hd,hk,_,hm⟩:=n;refine ⟨o,ho,fun name=>?_⟩;have e:=hm name;unfold nsFind findBy at e;rw [← Array.find?_toList] at e;unfold PySem.W.lookIn;rw [hd];dsimp only;split
 ·rename_i y q;rw [q] at e;exact congrArg some e
 ·rename_i q;rw [q] at e;have a:es.toList.any (·.refKey)=false:=by
   rw [List.any_eq_false];intro y hy;obtain ⟨z,t,hkey⟩:=hk y (Array.mem_toList_iff.mp hy);simp [DictEntry.refKey,hkey]
  have a':¬ es.toList.any (·.refKey)=true:=by rw [a];exact Bool.false_ne_true
  rw [if_neg a'];exact congrArg some e
theorem rM.look {h:Heap} {x dx C:Addr} {mA:Str→Option Value} (I:rM h x dx C mA):∃ od,PySem.W.InstAt h x (PySem.W.instObj C dx) C (some od)∧∀ name,PySem.W.lookIn name od=some (mA name):=
 let ⟨od,ho,hl⟩:=AI I.ns
 ⟨od,⟨I.obj,rfl,rfl,ho⟩,hl⟩
section
variable {prog:Program} {w:World} {A:Around} {E:Value→Shared→Prop} {s:Shared} {K:PySem.W.Frag} {x dx C f:Addr} {mA:Str→Option Value} {name:Str} {v:Value}
theorem BM {expr:Bool} {Q:Value→Shared→Prop} (X:K.In s.heap) (I:rM s.heap x dx C mA) (hg:PySem.W.plainGet K C name=true) (hh:PySem.W.hasDictIn K C=true)
  (ha:PySem.W.findIn K (.ref C) name=some none) (hv:mA name=some v) (hv':PySem.W.handedIn v=true) (h:Q v { s with toks:=s.toks + 1 }) :
  wpAny (model prog w) A (getAttr (.ref x) name expr) Q E s:=by
 obtain ⟨od,J,hl⟩:=I.look;exact PySem.W.get_value X J (PySem.W.plainGet_of hg).1 (PySem.W.findObj_own hh ha rfl (by rw [hl,hv])) hv' h
theorem tJ {pl:Sem Bool} {Q:Value × List Value→Shared→Prop} (X:K.In s.heap) (I:rM s.heap x dx C mA) (hg:PySem.W.plainGet K C name=true)
  (hf:PySem.W.findIn K (.ref C) name=some (some (.ref f))) (ht:PySem.W.isFn K (.ref f)=true) (hv:mA name=none) (h:Q (.ref f,[.ref x]) s) :
  wpAny (model prog w) A (getMethod (.ref x) name pl) Q E s:=by
 obtain ⟨od,J,hl⟩:=I.look;exact PySem.W.method_fn X J (PySem.W.plainGet_of hg).1 (PySem.W.plainGet_of hg).2 hf (beq_iff_eq.mp ht) (by show (PySem.W.lookIn name od).map (·.isSome)=some false;rw [hl,hv];rfl) h
theorem EN {ns:List Str} {Q:Unit→Shared→Prop} (X:K.In s.heap) (I:rM s.heap x dx C mA)
  (hs:PySem.W.findIn K (.ref C) "__setattr__"=some (some (.builtin "object.__setattr__"))) (hp:PySem.W.plainOver K C=true) (ht:PySem.W.takerIn K C name=some none) (hh:PySem.W.hasDictIn K C=true)
  (hw:PySem.Within mA ns) (hsz:ns.length ≤ sizeLine)
  (h:∀ h',rM h' x dx C (fun y=>if y=name then some v else mA y)→Heap.SameBut dx s.heap h'→Q () { s with heap:=h',toks:=s.toks + 2 }) :
  wpAny (model prog w) A (setAttr (.ref x) name v) Q E s:=by
 obtain ⟨od,J,hl⟩:=I.look;refine PySem.W.set_plain X J hs (PySem.W.osa_open (s:={ s with toks:=s.toks + 1 }) (r:=none) X J hp ht fun b=>?_);obtain ⟨cd,hc,hd'⟩:=PySem.W.any_some hh;have hx:s.heap.get? x=some ⟨.ref C,some dx,.plain,#[]⟩:=I.obj;refine wpAny_bind (wpAny_pure (wpAny_bind (wpAny_bind (wpAny_loadPart hx (wpAny_bind (PySem.W.Looks.here (s:={ s with toks:=s.toks + 1 }) (PySem.W.looks_clsIn X hc) ?_))))));rw [hd'];refine wpAny_pure (a:=some dx) (wpAny_bind (wpAny_pure (wpAny_bind ?_)));refine wpAny_nsSet1 (s:={ s with toks:=s.toks + 1 }) I.ns fun h' hn2 hs2=>?_
 obtain ⟨oD,esD,epD,hoD,hdD,hcD⟩:=hn2.count (PySem.Within.cons name v hw);refine wpAny_bind (wpAny_lookBehind hoD (by rw [hdD];exact pastItsLine_dict (Nat.le_trans hcD (by rw [List.length_cons];omega))) ?_);exact wpAny_pure (h _ ⟨(hs2.2 _ (Ne.symm I.ne)).trans I.obj,hn2,I.ne⟩ hs2)
theorem tK {R:Result→Shared→Prop} {vs:List Value} {kw:List (Str × Value)} (X:K.In s.heap) (hm:PySem.W.makesIn K C=true)
  (hi:PySem.W.findIn K (.ref C) "__init__"=some (some (.ref f))) (hf:PySem.W.typeIn K (.ref f)=some (.type "function"))
  (h:codeAny (model prog w) (A.under (.builtin "type.__call__" ⟨.ref C :: vs,kw⟩)) (.call (.ref f) ⟨.ref (s.heap.objs.size + 1) :: vs,kw⟩) (PySem.W.InitBack (s.heap.objs.size + 1) R)
   { s with heap:=(s.heap.push PySem.W.emptyDict).push (PySem.W.instObj C s.heap.objs.size) }) :
  codeAny (model prog w) A (.call (.ref C) ⟨vs,kw⟩) R s:=by
 obtain ⟨hh,g,d,t,os⟩:=s;exact PySem.W.make_core (PySem.W.makes_of X hm) (PySem.W.looks_findIn X hi) (fun self=>PySem.W.bind_fn X self hf) (.inl rfl) h
end
noncomputable def Rh (f:Str) (v:V):List (Str × V)→List (Str × V)
 | []=>[(f,v)]
 | (g,x) :: r=>if g=f then (g,v) :: r else (g,x) :: Rh f v r
theorem Zr (f g:Str) (v:V):∀ fs:List (Str × V),(Rh f v fs).lookup g=if g=f then some v else fs.lookup g
 | []=>by
  show List.lookup g [(f,v)]=_;by_cases h:g=f
  ·have hb:(g == f)=true:=beq_iff_eq.mpr h;simp only [List.lookup,hb,if_pos h]
  ·have hb:(g == f)=false:=beq_eq_false_iff_ne.mpr h;simp only [List.lookup,hb,if_neg h]
 | (k,x) :: r=>by
  have ih:=Zr f g v r;rw [show Rh f v ((k,x) :: r)=(if k=f then (k,v) :: r else (k,x) :: Rh f v r) from rfl];by_cases hk:k=f
  ·rw [if_pos hk];by_cases h:g=k
   ·have hb:(g == k)=true:=beq_iff_eq.mpr h;simp only [List.lookup,hb,if_pos (h.trans hk)]
   ·have hb:(g == k)=false:=beq_eq_false_iff_ne.mpr h;simp only [List.lookup,hb,if_neg (fun e:g=f=>h (e.trans hk.symm))]
  ·rw [if_neg hk];by_cases h:g=k
   ·have hb:(g == k)=true:=beq_iff_eq.mpr h;simp only [List.lookup,hb,if_neg (fun e:g=f=>hk (h.symm.trans e))]
   ·have hb:(g == k)=false:=beq_eq_false_iff_ne.mpr h;simp only [List.lookup,hb];exact ih
theorem Ks (f:Str) (v:V):∀ fs:List (Str × V),f ∈ (Rh f v fs).map (·.1)∧∀ g,g ∈ fs.map (·.1)→g ∈ (Rh f v fs).map (·.1)
 | []=>⟨by simp [Rh],fun g h=>by simp at h⟩
 | (k,x) :: r=>by
  obtain ⟨i1,i2⟩:=Ks f v r;rw [show Rh f v ((k,x) :: r)=(if k=f then (k,v) :: r else (k,x) :: Rh f v r) from rfl];by_cases hk:k=f
  ·rw [if_pos hk];subst hk;exact ⟨by simp,fun g h=>by simpa using h⟩
  ·rw [if_neg hk];refine ⟨?_,fun g h=>?_⟩
   ·rw [List.map_cons];exact List.mem_cons_of_mem _ i1
   ·rw [List.map_cons] at h ⊢;rcases List.mem_cons.mp h with e | e
    ·exact List.mem_cons.mpr (.inl e)
    ·exact List.mem_cons_of_mem _ (i2 g e)
theorem Zm (f:Str) (v:V):∀ fs:List (Str × V),(Rh f v fs).length ≤ fs.length + 1
 | []=>by simp [Rh]
 | (k,x) :: r=>by
  have ih:=Zm f v r;rw [show Rh f v ((k,x) :: r)=(if k=f then (k,v) :: r else (k,x) :: Rh f v r) from rfl];by_cases hk:k=f
  ·rw [if_pos hk,List.length_cons,List.length_cons];omega
  ·rw [if_neg hk,List.length_cons,List.length_cons];omega
theorem su.some_of {v:V} {o:Option Value} (r:su (some v) o):∃ u,o=some u∧Vd v u:=by
 cases o with
 | none=>exact (show False from r).elim
 | some u=>exact ⟨u,rfl,r⟩
theorem su.none_of {o:Option Value} (r:su none o):o=none:=by
 cases o with
 | none=>rfl
 | some u=>exact (show False from r).elim
theorem zH {v:V} {u:Value} (r:Vd v u):PySem.W.handedIn u=true:=by
 cases v with
 | non=>cases (show u=Value.none from r);rfl
 | bl b=>cases (show u=Value.bool b from r);rfl
 | int i=>obtain ⟨t,e⟩:=(show ∃ t,u=Value.int i t from r);cases e;rfl
 | str x=>obtain ⟨t,e⟩:=(show ∃ t,u=Value.str x t from r);cases e;rfl
 | byt b=>obtain ⟨t,e⟩:=(show ∃ t,u=Value.bytes b t from r);cases e;rfl
 | flt b=>obtain ⟨t,e⟩:=(show ∃ t,u=Value.float b t from r);cases e;rfl
 | ref a=>cases (show u=Value.ref a from r);rfl
 | ty n=>cases (show u=Value.type n from r);rfl
section
variable {P:Program} {w:World} {H H':Hp} {h h':Heap} {a C dx:Addr} {fs fs':List (Str × V)}
theorem lA (hok:HOk P w H h) (e:H a=some (.ins C dx fs)):∃ mA,rM h a dx C mA∧(∀ f,su (fs.lookup f) (mA f))∧PySem.Within mA (fs.map (·.1))∧fs.length ≤ 1000∧H dx=some (.own a):=by
 obtain ⟨d,z,ne,ob,mA,n,r,q⟩:=(show we P w H h a (.ins C dx fs) from hok a _ e);exact ⟨mA,⟨ob,n,ne⟩,r,q,z,d⟩
end
structure Cls (K:PySem.W.Frag) (C:Addr):Prop where
 pg:PySem.W.plainGet K C Str.empty=true
 hd:PySem.W.hasDictIn K C=true
 po:PySem.W.plainOver K C=true
 sa:PySem.W.findIn K (.ref C) "__setattr__"=some (some (.builtin "object.__setattr__"))
theorem Cls.get {K:PySem.W.Frag} {C:Addr} (c:Cls K C) (f:Str):PySem.W.plainGet K C f=true:=c.pg
def Yb (K:PySem.W.Frag) (C:Addr) (f:Str):Prop:=PySem.W.findIn K (.ref C) f=some none
theorem Yb.taker {K:PySem.W.Frag} {C:Addr} {f:Str} (n:Yb K C f):PySem.W.takerIn K C f=some none:=by
 unfold PySem.W.takerIn;rw [show PySem.W.findIn K (.ref C) f=some none from n];rfl
structure Con (K:PySem.W.Frag) (C:Addr) (f:Str) (v:V) (u:Value):Prop where
 at_:PySem.W.findIn K (.ref C) f=some (some u)
 rel:Vd v u
 get:PySem.W.specialIn K u "__get__"=some none
 cp:PySem.W.copiedNames.contains f=false
structure xv (K:PySem.W.Frag) (C:Addr) (m:Str) (f:Addr):Prop where
 at_:PySem.W.findIn K (.ref C) m=some (some (.ref f))
 fn:PySem.W.isFn K (.ref f)=true
 kp:PySem.W.keepIn K (.ref f)=true
section
variable {X:Cx} {pins:List (Addr × Obj)} {σ:St} {H:Hp} {s:Shared} {a C dx:Addr} {fs:List (Str × V)} {f:Str} {v:V} {A:Around} {E:Value→Shared→Prop}
theorem Hu {b:Bool} {Q:Value→Shared→Prop} (I:Inv X pins σ H s) (e:H a=some (.ins C dx fs)) (c:Cls X.K C) (n:Yb X.K C f) (l:fs.lookup f=some v)
  (h:∀ u s',Inv X pins σ H s'→Vd v u→Q u s'):wpAny (model X.prog X.w) A (getAttr (.ref a) f b) Q E s:=by
 obtain ⟨mA,O,r,_,_,_⟩:=lA I.hok e;obtain ⟨u,hu,ru⟩:=su.some_of (v:=v) (o:=mA f) (by rw [← l];exact r f);exact BM I.kIn O (c.get f) c.hd n hu (zH ru) (h u _ (I.tok _) ru)
theorem gp {m:Str} {g:Addr} {pl:Sem Bool} {Q:Value × List Value→Shared→Prop} (I:Inv X pins σ H s) (e:H a=some (.ins C dx fs)) (c:Cls X.K C) (k:xv X.K C m g) (l:fs.lookup m=none)
  (h:Q (.ref g,[.ref a]) s):wpAny (model X.prog X.w) A (getMethod (.ref a) m pl) Q E s:=by
 obtain ⟨mA,O,r,_,_,_⟩:=lA I.hok e;have hn:mA m=none:=su.none_of (by rw [← l];exact r m);exact tJ I.kIn O (c.get m) k.at_ k.fn hn h
theorem gv {y:V} {u:Value} {Q:Unit→Shared→Prop} (I:Inv X pins σ H s) (e:H a=some (.ins C dx fs)) (c:Cls X.K C) (n:Yb X.K C f) (hl:fs.length < 1000) (ry:Vd y u)
  (h:∀ s',Inv X pins σ (upd H a (.ins C dx (Rh f y fs))) s'→Q () s'):wpAny (model X.prog X.w) A (setAttr (.ref a) f u) Q E s:=by
 obtain ⟨mA,O,r,wi,_,ho⟩:=lA I.hok e;have hz:(fs.map (·.1)).length ≤ sizeLine:=by rw [List.length_map,sizeLine_eq];omega
 refine EN I.kIn O c.sa c.po n.taker c.hd wi hz fun h' O' sb=>h _ ?_
 have hd:∃ o,h'.get? dx=some o:=let ⟨o,_,_,e',_⟩:=O'.ns;⟨o,e'⟩;refine I.write (x:=a) (e:=dx) (by rw [e];exact True.intro) (.inr ho) (fun b q hb z=>(sb.2 b hb).trans z) hd ?_;refine ⟨by rw [wb O.ne];exact ho,?_,O.ne,O'.obj,_,O'.ns,fun g=>?_,fun g hg=>?_⟩
 ·have:=Zm f y fs;omega
 ·show su ((Rh f y fs).lookup g) (if g=f then some u else mA g);rw [Zr];by_cases q:g=f
  ·rw [if_pos q,if_pos q];exact ry
  ·rw [if_neg q,if_neg q];exact r g
 ·by_cases q:g=f
  ·rw [q];exact (Ks f y fs).1
  ·refine (Ks f y fs).2 g (wi g fun z=>hg ?_);show (if g=f then some u else mA g)=none;rw [if_neg q];exact z
theorem Inv.made (I:Inv X pins σ H s):Inv X pins σ (upd (upd H s.heap.objs.size (.own (s.heap.objs.size + 1))) (s.heap.objs.size + 1) (.ins C s.heap.objs.size []))
  { s with heap:=(s.heap.push PySem.W.emptyDict).push (PySem.W.instObj C s.heap.objs.size) }:=by
 have e1:(s.heap.push PySem.W.emptyDict).get? s.heap.objs.size=some PySem.W.emptyDict:=Heap.get?_push_size s.heap rfl;have e2:((s.heap.push PySem.W.emptyDict).push (PySem.W.instObj C s.heap.objs.size)).get? (s.heap.objs.size + 1)=some (PySem.W.instObj C s.heap.objs.size):=by
  have:=Heap.get?_push_size (s.heap.push PySem.W.emptyDict) (o:=PySem.W.instObj C s.heap.objs.size) rfl;rwa [Heap.size_push] at this
 have e3:(s.heap.push PySem.W.emptyDict).Ns s.heap.objs.size (fun _=>none):=⟨PySem.W.emptyDict,#[],_,e1,rfl,(fun e he=>absurd he (by simp)),fun _=>rfl⟩;have I1:=I.laid (a:=s.heap.objs.size) (o:=.own (s.heap.objs.size + 1)) (h':=s.heap.push PySem.W.emptyDict) (t':=s.toks) (fun b u q=>Heap.get?_push_of_some _ q) (Nat.le_refl _) ⟨_,e1⟩;refine I1.laid (a:=s.heap.objs.size + 1) (o:=.ins C s.heap.objs.size []) (t':=s.toks) (fun b u q=>Heap.get?_push_of_some _ q) (Nat.le_of_eq (Heap.size_push _ _)) ?_;have ne:s.heap.objs.size ≠ s.heap.objs.size + 1:=Nat.ne_of_lt (Nat.lt_succ_self _);refine ⟨by rw [wb ne,db],Nat.zero_le _,ne,e2,fun _=>none,(Heap.Ns1.of_empty e3).at fun o q=>Heap.get?_push_of_some _ q,fun _=>True.intro,fun y hy=>absurd rfl hy⟩
theorem MN {prog:Program} {w:World} {env:Env} {e:Expr} {f:Str} {pos:Pos} {s:Shared} {Q:Value→Shared→Prop} (hb:attributeBase e f env (eval e env)=eval e env)
  (h:wpAny (model prog w) A (eval e env) (fun o s₁=>wpAny (model prog w) A (getAttr o f true) Q E s₁) E s):wpAny (model prog w) A (eval (.Attribute e f pos) env) Q E s:=
 Attribute_any_ h (by rw [arm_eval_Attribute,hb])
end
def yi (K:PySem.W.Frag) (H:Hp) (a:Addr) (f:Str) (v:V):Prop:=∃ C dx fs,H a=some (.ins C dx fs)∧Cls K C∧Yb K C f∧fs.lookup f=some v
noncomputable def jS (K:PySem.W.Frag) (ta:TE) (f:Str):TE:=fun σ H Q=>ta σ H fun x H1=>di x fun a=>∃ v,yi K H1 a f v∧Q v H1
noncomputable def wR (K:PySem.W.Frag) (ta tv:TE) (f:Str):TS:=fun D σ H=>tv σ H fun y H1=>ta σ H1 fun x H2=>di x fun a=>∃ C dx fs,H2 a=some (.ins C dx fs)∧Cls K C∧Yb K C f∧fs.length < 1000 ∧
 D.nx σ (upd H2 a (.ins C dx (Rh f y fs)))
def FR (X:Cx) (op:Operator) (rd:V→V→Hp→VK→Prop):Prop:=
 ∀ (pins:List (Addr × Obj)) (s:Shared) (σ:St) (H:Hp) (x y:V) (u v:Value) (Q:VK),Inv X pins σ H s→Vd x u→Vd y v→rd x y H Q→wpAny (model X.prog X.w) X.A (inplaceOp op u v) (EP X pins σ Q) X.xe s
noncomputable def SG (K:PySem.W.Frag) (ta tv:TE) (rd:V→V→Hp→VK→Prop) (f:Str):TS:=fun D σ H=>ta σ H fun x H1=>∃ a C dx fs v,x=.ref a∧H1 a=some (.ins C dx fs)∧Cls K C∧Yb K C f∧fs.lookup f=some v ∧
 tv σ H1 fun y H2=>rd v y H2 fun z H3=>∃ dx' fs',H3 a=some (.ins C dx' fs')∧fs'.length < 1000∧D.nx σ (upd H3 a (.ins C dx' (Rh f z fs')))
section
variable {X:Cx} {o e value:Expr} {f:Str} {pos pos' tpos:Pos} {ta tv:TE}
theorem Ob (he:PE X e ta) (hb:attributeBase e f X.env (eval e X.env)=eval e X.env):PE X (.Attribute e f pos) (jS X.K ta f):=by
 intro pins s σ H Q I h;refine MN hb (thn (he pins s σ H _ I h) fun u s1 hZ1=>?_);obtain ⟨x,H1,I1,rx,zq⟩:=hZ1;obtain ⟨a,ex,v,⟨C,dx,fs,ea,c,n,l⟩,q⟩:=di.out zq;subst ex;obtain rfl:u=Value.ref a:=rx;exact Hu I1 ea c n l fun u' s2 I2 ru=>⟨v,H1,I2,ru,q⟩
theorem mf (ha:PE X o ta) (hv:PE X value tv) (hs:swapsWith value (some (.Attribute o f pos')) pos.line X.env=pure false):PS X (.Assign [.Attribute o f pos'] value pos) (wR X.K ta tv f):=by
 intro pins s σ H D I h;refine plainObj_wpAny_Assign_Attribute (thn (hv pins s σ H _ I h) fun u s1 ⟨y,H1,I1,ry,q⟩=>thn (ha pins s1 σ H1 _ I1 q) fun ov s2 hZ1=>?_) hs;obtain ⟨x,H2,I2,rx,zq⟩:=hZ1;obtain ⟨a,ex,C,dx,fs,ea,c,n,l,q2⟩:=di.out zq;subst ex;obtain rfl:ov=Value.ref a:=rx;exact gv I2 ea c n l ry fun s3 I3=>⟨σ,_,I3,q2⟩
theorem qH {op:Operator} {rd:V→V→Hp→VK→Prop} (ha:PE X o ta) (hv:PE X value tv) (hop:FR X op rd):PS X (.AugAssign (.Attribute o f tpos) op value pos) (SG X.K ta tv rd f):=by
 intro pins s σ H D I h;refine wpAny_AugAssign_AttributeAny (thn (ha pins s σ H _ I h) fun ov s1 hZ1=>?_);obtain ⟨x,H1,I1,rx,a,C,dx,fs,v,ex,ea,c,n,l,q⟩:=hZ1;subst ex;obtain rfl:ov=Value.ref a:=rx;refine Hu I1 ea c n l fun u s2 I2 ru=>thn (hv pins s2 σ H1 _ I2 q) fun w3 s3 ⟨y,H2,I3,ry,q3⟩=>thn (hop pins s3 σ H2 v y u w3 _ I3 ru ry q3) fun w4 s4 hZ1=>?_
 obtain ⟨z,H3,I4,rz,dx',fs',ea',l',q4⟩:=hZ1;exact gv I4 ea' c n l' rz fun s5 I5=>⟨σ,_,I5,q4⟩
noncomputable def cS:V→V→Hp→VK→Prop:=fun x y H Q=>∃ i j,x=.int i∧y=.int j∧Q (.int (i + j)) H
theorem kP:FR X .Add cS:=by
 rintro pins s σ H x y u v Q I rx ry ⟨i,j,rfl,rfl,q⟩;obtain ⟨t,rfl⟩:=(show ∃ t,u=Value.int i t from rx);obtain ⟨t',rfl⟩:=(show ∃ t',v=Value.int j t' from ry);exact PyProof.Rows.iadd_int ⟨.int (i + j),H,I.tok _,⟨_,rfl⟩,q⟩
end
section
variable {X:Cx} {pins:List (Addr × Obj)} {σ:St} {H:Hp} {s:Shared} {A:Around} {E:Value→Shared→Prop} {Q:Value→Shared→Prop} {c:Value} {b:Bool}
inductive qE (K:PySem.W.Frag) (H:Hp):V→Value→Prop where
 | non:qE K H .non (.type "NoneType")
 | bl (x:Bool):qE K H (.bl x) (.type "bool")
 | int (i:Int):qE K H (.int i) (.type "int")
 | str (x:Str):qE K H (.str x) (.type "str")
 | flt (x:UInt64):qE K H (.flt x) (.type "float")
 | lst {a:Addr} {xs:List V} (e:H a=some (.lst xs)):qE K H (.ref a) (.type "list")
 | frz {a:Addr} {o:Obj} {xs:List V} (e:H a=some (.frz o (.lst xs))):qE K H (.ref a) (.type "list")
 | tup {a:Addr} {xs:List V} (e:H a=some (.tup xs)):qE K H (.ref a) (.type "tuple")
 | dK {a:Addr} {kvs:List (Key × V)} (e:H a=some (.dK kvs)):qE K H (.ref a) (.type "dict")
 | dT {a:Addr} {kvs:List (List Key × V)} (e:H a=some (.dT kvs)):qE K H (.ref a) (.type "dict")
 | ins {a C dx:Addr} {fs:List (Str × V)} (e:H a=some (.ins C dx fs)) (cl:Cls K C) (ha:PySem.W.findIn K (.ref C) "__class__"=some (some (.builtin "object.__class__")))
   (hn:PySem.W.specialIn K (.builtin "object.__class__") "__get__"=some (some (.builtin "getset_descriptor.__get__"))) (htk:PySem.W.takesIn K (.builtin "object.__class__")=some true)
   (hm:PySem.W.mroIn K C (.type "object")=some true):qE K H (.ref a) (.ref C)
end
end L2
namespace L2
open PySem PySem.Spec PyProof.Rows
structure vk (k:Nat) (A:Around):Prop where
 hd:A.handled=none
 dp:A.depth + 3 * k + 5 < recursionLimit
 un:A.units + 16 * k + 200 < cLine
theorem vk.mono {j k:Nat} {A:Around} (r:vk k A) (h:j ≤ k):vk j A:=⟨r.hd,by have:=r.dp;omega,by have:=r.un;omega⟩
theorem vk.deeper {k:Nat} {A:Around} (r:vk (k + 1) A) (env:Env):vk k (A.deeper env):=
 ⟨r.hd,by have:=r.dp;show A.depth + 1 + 3 * k + 5 < _;omega,by have:=r.un;show A.units + 3 + 16 * k + 200 < _;omega⟩
theorem vk.in1 {k:Nat} {A:Around} (r:vk (k + 1) A):vk k A.in1:=
 ⟨r.hd,by have:=r.dp;show A.depth + 3 * k + 5 < _;omega,by have:=r.un;show A.units + 1 + 16 * k + 200 < _;omega⟩
theorem zD {A:Around} {C:Addr} {us:List Value} {kw:List (Str × Value)}:(A.under (.builtin "type.__call__" ⟨.ref C :: us,kw⟩)).depth=A.depth + 1:=by
 first | rfl | simp [Around.under,Code.weight,Code.isCreation,Code.isGuard,Code.isCaller,Code.frames,Code.isFrame,guardIds]
theorem aD {A:Around} {C:Addr} {us:List Value} {kw:List (Str × Value)}:(A.under (.builtin "type.__call__" ⟨.ref C :: us,kw⟩)).units=A.units + 1:=by
 first | rfl | simp [Around.under,Code.cUnits,Code.frames,Code.isFrame]
theorem vk.make {k:Nat} {A:Around} (r:vk (k + 1) A) (C:Addr) (us:List Value) (kw:List (Str × Value)):vk k (A.under (.builtin "type.__call__" ⟨.ref C :: us,kw⟩)):=
 ⟨r.hd,by have:=r.dp;rw [zD];omega,by have:=r.un;rw [aD];omega⟩
theorem vk.depth {k:Nat} {A:Around} (r:vk k A):A.depth < recursionLimit:=by have:=r.dp;omega
theorem vk.units {k:Nat} {A:Around} (r:vk k A):A.units + 64 < cLine:=by have:=r.un;omega
noncomputable def vQ:TA:=fun _ H Q=>Q [] H
noncomputable def LP (ta:TE) (tr:TA):TA:=fun σ H Q=>ta σ H fun x H1=>tr σ H1 fun xs H2=>Q (x :: xs) H2
section
variable {X:Cx} {e:Expr} {es:List Expr} {te:TE} {t:TA} {pos:Pos}
theorem gb:PA X [] vQ:=fun _ _ _ _ H Q I h=>Calls.spliced_nil ⟨[],H,I,.nil,h⟩
theorem ab (ha:PE X e te) (hr:PA X es t) (hs:starEach (e :: es) X.env=(false,eval e X.env) :: starEach es X.env:=by rfl):PA X (e :: es) (LP te t):=by
 intro pos pins s σ H Q I h;rw [hs];show wpAny _ _ (spliced ((false,eval e X.env) :: backTo pos (starEach es X.env))) _ _ s;refine Calls.spliced_cons (thn (ha pins s σ H _ I h) fun u s1 hZ1=>?_);obtain ⟨x,H1,I1,r1,q1⟩:=hZ1;exact thn (hr pos pins s1 σ H1 _ I1 q1) fun us s2 ⟨xs,H2,I2,r2,q2⟩=>⟨x :: xs,H2,I2,.cons r1 r2,q2⟩
noncomputable def PR (t:TA):TE:=fun σ H Q=>t σ H fun xs H1=>xs.length ≤ sizeLine∧∀ p,H1 p=none→Q (.ref p) (upd H1 p (.tup xs))
noncomputable def ZR (t:TA):TE:=fun σ H Q=>t σ H fun xs H1=>xs.length ≤ sizeLine∧∀ p,H1 p=none→Q (.ref p) (upd H1 p (.lst xs))
theorem Ad {x1} (h:PA X es t):PE X (.Tuple es x1 pos) (PR t):=by
 intro pins s σ H Q I hq;refine wpAny_Tuple_spliced (thn (h pos pins s σ H _ I hq) fun us s1 ⟨xs,H1,I1,r,z,q⟩=>⟨by rw [← r.length];exact z,?_⟩);have hf:H1 s1.heap.objs.size=none:=I1.hok.fresh (Nat.le_refl _);refine ⟨.ref s1.heap.objs.size,upd H1 s1.heap.objs.size (.tup xs),I1.laid (t':=s1.toks) (fun b u e=>Heap.get?_push_of_some _ e) (Nat.le_refl _) ?_,rfl,q _ hf⟩;exact ⟨⟨z,_,Heap.get?_push_size _ rfl,rfl⟩,us,r,⟨_,Heap.get?_push_size _ rfl,rfl,_,rfl⟩⟩
theorem Pi (h:PA X es t):PE X (.List es pos) (ZR t):=by
 intro pins s σ H Q I hq;refine wpAny_List_spliced (thn (h pos pins s σ H _ I hq) fun us s1 ⟨xs,H1,I1,r,z,q⟩=>⟨by rw [← r.length];exact z,?_⟩);have hf:H1 s1.heap.objs.size=none:=I1.hok.fresh (Nat.le_refl _);refine ⟨.ref s1.heap.objs.size,upd H1 s1.heap.objs.size (.lst xs),I1.laid (t':=s1.toks) (fun b u e=>Heap.get?_push_of_some _ e) (Nat.le_refl _) ?_,rfl,q _ hf⟩;exact ⟨z,us,0,r,Heap.get?_push_size _ rfl⟩
end
noncomputable abbrev Sp:=List V→Hp→VK→XK→Prop
noncomputable abbrev CXT:=List Env→Hp→Shared→XK→Value→Shared→Prop
structure cI (P:Program) (w:World) (K:PySem.W.Frag) (mg:Str→Option Value) (base:Heap) (A:Around) (outer:List Env) (s:Shared) (H:Hp):Prop where
 frames:A.frames=some outer
 mod:Mod K mg base
 bs:∀ b o,base.get? b=some o→s.heap.get? b=some o∧H b=none
 bsz:base.objs.size ≤ s.heap.objs.size
 funs:s.heap.FunFrames base outer
 frf:∀ b ∈ frs outer,H b=none
 hok:HOk P w H s.heap
 bare:AllBare s.gens
def CE (outer:List Env) (P:Program) (w:World) (H:Hp) (s:Shared) (Q:VK) (u:Value) (s':Shared):Prop:=
 ∃ v H',s'.os=s.os∧AllBare s'.gens∧Un (frs outer) [] H H' s.heap s'.heap∧HOk P w H' s'.heap∧Vd v u∧Q v H'
def CR (CX:CXT) (outer:List Env) (P:Program) (w:World) (H:Hp) (s:Shared) (Q:VK) (E:XK) (r:Result) (s':Shared):Prop:=
 match r with
 | .ok (.ret u)=>CE outer P w H s Q u s'
 | .ok _=>False
 | .error e=>CX outer H s E e s'
structure Gb (P:Program) (w:World) (K:PySem.W.Frag) (mg:Str→Option Value) (base:Heap) (CX:CXT) (k:Nat) (f:Addr) (fd:FuncData) (ps:List Str) (sp:Sp):Prop where
 len:∀ vs H Q E,sp vs H Q E→vs.length=ps.length
 run:∀ (A:Around) (outer:List Env) (s:Shared) (H:Hp) (args:Args) (us:List Value) (vs:List V) (Q:VK) (E:XK),vk k A→cI P w K mg base A outer s H→BindsTo s fd args (ps.zip us)→Cd vs us→sp vs H Q E →
  codeAny (model P w) A (.call (.ref f) args) (CR CX outer P w H s Q E) s
theorem Gb.mono {P:Program} {w:World} {K:PySem.W.Frag} {mg:Str→Option Value} {base:Heap} {CX:CXT} {j k:Nat} {f:Addr} {fd:FuncData} {ps:List Str} {sp:Sp} (F:Gb P w K mg base CX j f fd ps sp) (h:j ≤ k) :
  Gb P w K mg base CX k f fd ps sp:=⟨F.len,fun A outer s H args us vs Q E hr=>F.run A outer s H args us vs Q E (hr.mono h)⟩
theorem Gb.imp {P:Program} {w:World} {K:PySem.W.Frag} {mg:Str→Option Value} {base:Heap} {CX:CXT} {k:Nat} {f:Addr} {fd:FuncData} {ps:List Str} {sp sp':Sp} (F:Gb P w K mg base CX k f fd ps sp)
  (h:∀ vs H Q E,sp' vs H Q E→sp vs H Q E):Gb P w K mg base CX k f fd ps sp':=
 ⟨fun vs H Q E q=>F.len vs H Q E (h _ _ _ _ q),fun A outer s H args us vs Q E hr he hb hv hs=>F.run A outer s H args us vs Q E hr he hb hv (h _ _ _ _ hs)⟩
theorem cI.make {P:Program} {w:World} {K:PySem.W.Frag} {mg:Str→Option Value} {base:Heap} {A:Around} {outer:List Env} {s:Shared} {H:Hp} (e:cI P w K mg base A outer s H) (C:Addr) (us:List Value) (kw:List (Str × Value)) :
  cI P w K mg base (A.under (.builtin "type.__call__" ⟨.ref C :: us,kw⟩)) outer s H:=⟨by first | exact e.frames | (simpa [Around.under,Code.envs,Code.isFrame,pushEnvs] using e.frames),e.mod,e.bs,e.bsz,e.funs,e.frf,e.hok,e.bare⟩
theorem cI.in1 {P:Program} {w:World} {K:PySem.W.Frag} {mg:Str→Option Value} {base:Heap} {A:Around} {outer:List Env} {s:Shared} {H:Hp} (e:cI P w K mg base A outer s H) :
  cI P w K mg base A.in1 outer s H:=⟨e.frames,e.mod,e.bs,e.bsz,e.funs,e.frf,e.hok,e.bare⟩
section
variable {X:Cx} {pins:List (Addr × Obj)} {σ:St} {H:Hp} {s s':Shared}
theorem Inv.env0 (I:Inv X pins σ H s):cI X.prog X.w X.K X.mg X.base X.A X.stack s H:=
 ⟨I.ok.frames,I.ok.mod,I.bs,Nat.le_trans I.ok.bsz I.sz,I.stack,I.stkFree,I.hok,I.bare⟩
theorem Inv.after {Q:VK} {u:Value} (I:Inv X pins σ H s) (h:CE X.stack X.prog X.w H s Q u s'):EP X pins σ Q u s':=by
 obtain ⟨v,H',os,bare,un,hok,r,q⟩:=h;obtain ⟨hh,g,d,t,os'⟩:=s';obtain rfl:os'=s.os:=os;exact ⟨v,H',I.call (h':=hh) (g':=g) (d':=d) (t':=t) (ch:=[]) un hok bare (fun b z=>absurd z (by simp)),r,q⟩
end
noncomputable def UI (sp:Sp) (dvs:List V) (E:XK) (t:TA):TE:=fun σ H Q=>t σ H fun vs H1=>sp (vs ++ dvs) H1 Q E
noncomputable def wN (C:Addr) (m:Str) (sp:Sp) (dvs:List V) (E:XK) (ta:TE) (t:TA):TE:=fun σ H Q=>ta σ H fun x H1=>di x fun a=>∃ dx fs,H1 a=some (.ins C dx fs)∧fs.lookup m=none ∧
 t σ H1 fun vs H2=>sp (x :: (vs ++ dvs)) H2 Q E
noncomputable def BO (C:Addr) (sp:Sp) (dvs:List V) (E:XK) (t:TA):TE:=fun σ H Q=>t σ H fun vs H1=>∀ x dx,H1 x=none→H1 dx=none→dx ≠ x →
 sp (.ref x :: (vs ++ dvs)) (upd (upd H1 dx (.own x)) x (.ins C dx [])) (fun v H2=>v=.non∧Q (.ref x) H2) E
def Xb (K:PySem.W.Frag) (fd:FuncData) (ps:List Str) (ds:List Value):Prop:=
 ∀ (s:Shared) (us:List Value),K.In s.heap→(us ++ ds).length=ps.length→BindsTo s fd ⟨us,[]⟩ (ps.zip (us ++ ds))
theorem Xb.all {K:PySem.W.Frag} {fd:FuncData} {ps:List Str} (h:∀ us:List Value,us.length=ps.length→bindArgs fd ⟨us,[]⟩=pure (ps.zip us)):Xb K fd ps []:=fun s us _ hl=>by
 rw [List.append_nil] at hl ⊢;exact .of_eq (h us hl)
def eo (CX:CXT) (X:Cx) (E:XK):Prop:=∀ (pins:List (Addr × Obj)) (σ:St) (H:Hp) (s:Shared) (e:Value) (s':Shared),Inv X pins σ H s→CX X.stack H s E e s'→X.xe e s'
section
variable {X:Cx} {CX:CXT} {k:Nat} {f C:Addr} {fd:FuncData} {ps:List Str} {sp:Sp} {dvs:List V} {ds:List Value} {E:XK} {x m:Str} {p pos apos:Pos} {e o:Expr} {es:List Expr} {ta:TE} {t:TA}
theorem qx {pins:List (Addr × Obj)} {σ:St} {H:Hp} {s:Shared} {Q:VK} {us:List Value} {vs:List V} (F:Gb X.prog X.w X.K X.mg X.base CX k f fd ps sp) (hr:vk k X.A) (hb:Xb X.K fd ps ds) (hd:Cd dvs ds) (hx:eo CX X E)
  (I:Inv X pins σ H s) (r:Cd vs us) (h:sp (vs ++ dvs) H Q E):wpAny (model X.prog X.w) X.A (call (.ref f) us) (EP X pins σ Q) X.xe s:=by
 have r2:Cd (vs ++ dvs) (us ++ ds):=r.append hd;have hl:(us ++ ds).length=ps.length:=by rw [← r2.length];exact F.len _ _ _ _ h
 refine wpAny_call (codeAny_mono (F.run X.A X.stack s H ⟨us,[]⟩ (us ++ ds) (vs ++ dvs) Q E hr I.env0 (hb s us I.kIn hl) r2 h) fun r s' hq=>?_);cases r with
 | error e=>exact hx pins σ H s e s' I hq
 | ok fl=>
  cases fl with
  | ret u=>exact I.after hq
  | next=>exact False.elim hq
  | brk=>exact False.elim hq
  | cont=>exact False.elim hq
theorem aN (F:Gb X.prog X.w X.K X.mg X.base CX k f fd ps sp) (hr:vk k X.A) (hg:Gl X x) (hm:X.mg x=some (.ref f)) (hk:PySem.W.keepIn X.K (.ref f)=true) (hb:Xb X.K fd ps ds) (hd:Cd dvs ds) (hx:eo CX X E)
  (ha:PA X (e :: es) t) (hdb:(x == ("__debug__" : Str))=false:=by decide) (he:starEach (e :: es) X.env=(false,eval e X.env) :: starEach es X.env:=by rfl) (hpl:(backTo pos (starEach es X.env)).any (·.1)=false:=by rfl) :
  PE X (.Call (.Name x p) (e :: es) [] pos) (UI sp dvs E t):=by
 intro pins s σ H Q I h;refine wpAny_Call_Name_kw (Vv I hg hm ?_ hdb);refine PySem.W.callWith_K (h₀:=X.base) I.ok.mod.kin hk (thn (ha pos pins s σ H _ I h) fun us s1 ⟨vs,H1,I1,r,q⟩=>⟨I1.kIn,?_⟩) he hpl;exact qx F hr hb hd hx I1 r q
theorem Ed {pl:Sem Bool} (he:PE X o ta) (c:Cls X.K C) (hm:xv X.K C m f) (F:Gb X.prog X.w X.K X.mg X.base CX k f fd ps sp) (hr:vk k X.A) (hb:Xb X.K fd ps ds) (hd:Cd dvs ds) (hx:eo CX X E) (ha:PA X (e :: es) t)
  (hst:starEach (e :: es) X.env=(false,eval e X.env) :: starEach es X.env:=by rfl) (hpl:(backTo pos (starEach es X.env)).any (·.1)=false:=by rfl)
  (ht:eval (.Call (.Attribute o m apos) (e :: es) [] pos) X.env=(do
   let ov ← eval o X.env
   standAt apos.atName
   let (f,first) ← holding [ov] (getMethod ov m pl)
   callWith pos f first (backTo pos (starEach (e :: es) X.env)) (backToKw pos (keywordEach [] X.env))):=by rfl) :
  PE X (.Call (.Attribute o m apos) (e :: es) [] pos) (wN C m sp dvs E ta t):=by
 intro pins s σ H Q I h;refine PySem.W.methodCall_KW (pl:=pl) (thn (he pins s σ H _ I h) fun u s1 hZ1=>?_) ht;obtain ⟨x,H1,I1,rx,zq⟩:=hZ1;obtain ⟨a,ex,dx,fs,ea,l,q⟩:=di.out zq;subst ex;obtain rfl:u=Value.ref a:=rx;refine gp I1 ea c hm l ?_;refine PySem.W.callWith_K (first:=[.ref a]) (h₀:=X.base) I.ok.mod.kin hm.kp (thn (ha pos pins s1 σ H1 _ I1 q) fun us s2 ⟨vs,H2,I2,r,q2⟩=>⟨I2.kIn,?_⟩) hst hpl;exact qx (us:=.ref a :: us) (vs:=.ref a :: vs) F hr hb hd hx I2 (.cons rfl r) q2
theorem vf {pl:Sem Bool} (he:PE X o ta) (c:Cls X.K C) (hm:xv X.K C m f) (F:Gb X.prog X.w X.K X.mg X.base CX k f fd ps sp) (hr:vk k X.A) (hb:Xb X.K fd ps ds) (hd:Cd dvs ds) (hx:eo CX X E)
  (ht:eval (.Call (.Attribute o m apos) [] [] pos) X.env=(do
   let ov ← eval o X.env
   standAt apos.atName
   let (f,first) ← holding [ov] (getMethod ov m pl)
   callWith pos f first (backTo pos (starEach [] X.env)) (backToKw pos (keywordEach [] X.env))):=by rfl) :
  PE X (.Call (.Attribute o m apos) [] [] pos) (wN C m sp dvs E ta vQ):=by
 intro pins s σ H Q I h;refine PySem.W.methodCall_KW (pl:=pl) (thn (he pins s σ H _ I h) fun u s1 hZ1=>?_) ht;obtain ⟨x,H1,I1,rx,zq⟩:=hZ1;obtain ⟨a,ex,dx,fs,ea,l,q⟩:=di.out zq;subst ex;obtain rfl:u=Value.ref a:=rx;refine gp I1 ea c hm l ?_;exact PySem.W.callWith_K0 (first:=[.ref a]) I1.kIn hm.kp (qx (us:=[.ref a]) (vs:=[.ref a]) F hr hb hd hx I1 (.cons rfl .nil) q)
structure Mk (K:PySem.W.Frag) (C f:Addr):Prop where
 makes:PySem.W.makesIn K C=true
 init:PySem.W.findIn K (.ref C) "__init__"=some (some (.ref f))
 fn:PySem.W.isFn K (.ref f)=true
 kp:PySem.W.keepIn K (.ref C)=true
theorem rK {pins:List (Addr × Obj)} {σ:St} {H:Hp} {s:Shared} {Q:VK} {us:List Value} {vs:List V} (M:Mk X.K C f) (F:Gb X.prog X.w X.K X.mg X.base CX k f fd ps sp) (hr:vk (k + 1) X.A) (hb:Xb X.K fd ps ds) (hd:Cd dvs ds)
  (hx:eo CX X E) (I:Inv X pins σ H s) (r:Cd vs us)
  (h:∀ x dx,H x=none→H dx=none→dx ≠ x→sp (.ref x :: (vs ++ dvs)) (upd (upd H dx (.own x)) x (.ins C dx [])) (fun v H2=>v=.non∧Q (.ref x) H2) E) :
  wpAny (model X.prog X.w) X.A (call (.ref C) us) (EP X pins σ Q) X.xe s:=by
 have hq:=h (s.heap.objs.size + 1) s.heap.objs.size (I.hok.fresh (Nat.le_succ _)) (I.hok.fresh (Nat.le_refl _)) (Nat.ne_of_lt (Nat.lt_succ_self _));have I2:=Inv.made (C:=C) I;have r2:Cd (V.ref (s.heap.objs.size + 1) :: (vs ++ dvs)) (Value.ref (s.heap.objs.size + 1) :: (us ++ ds)):=.cons rfl (r.append hd);have hl:(Value.ref (s.heap.objs.size + 1) :: us ++ ds).length=ps.length:=by
  have e:=r2.length;rw [F.len _ _ _ _ hq] at e;exact e.symm
 refine wpAny_call (tK (f:=f) I.kIn M.makes M.init (beq_iff_eq.mp M.fn) (codeAny_mono (F.run _ X.stack _ _ ⟨Value.ref (s.heap.objs.size + 1) :: us,[]⟩ (Value.ref (s.heap.objs.size + 1) :: (us ++ ds)) _ _ E (hr.make C us [])
  (I2.env0.make C us []) (hb _ (Value.ref (s.heap.objs.size + 1) :: us) I2.kIn hl) r2 hq) fun r s' hq'=>?_))
 cases r with
 | error e=>exact hx pins σ _ _ e s' I2 hq'
 | ok fl=>
  cases fl with
  | ret u=>
   obtain ⟨v,H',I3,rv,ev,q3⟩:=I2.after hq';subst ev;exact ⟨rv,⟨V.ref (s.heap.objs.size + 1),H',I3,rfl,q3⟩⟩
  | next=>exact False.elim hq'
  | brk=>exact False.elim hq'
  | cont=>exact False.elim hq'
theorem Ym (M:Mk X.K C f) (F:Gb X.prog X.w X.K X.mg X.base CX k f fd ps sp) (hr:vk (k + 1) X.A) (hg:Gl X x) (hm:X.mg x=some (.ref C)) (hb:Xb X.K fd ps ds) (hd:Cd dvs ds) (hx:eo CX X E)
  (ha:PA X (e :: es) t) (hdb:(x == ("__debug__" : Str))=false:=by decide) (he:starEach (e :: es) X.env=(false,eval e X.env) :: starEach es X.env:=by rfl) (hpl:(backTo pos (starEach es X.env)).any (·.1)=false:=by rfl) :
  PE X (.Call (.Name x p) (e :: es) [] pos) (BO C sp dvs E t):=by
 intro pins s σ H Q I h;refine wpAny_Call_Name_kw (Vv I hg hm ?_ hdb);refine PySem.W.callWith_K (h₀:=X.base) I.ok.mod.kin M.kp (thn (ha pos pins s σ H _ I h) fun us s1 ⟨vs,H1,I1,r,q⟩=>⟨I1.kIn,?_⟩) he hpl;exact rK M F hr hb hd hx I1 r q
end
section
variable {X:Cx} {CX:CXT} {k:Nat} {f C:Addr} {fd:FuncData} {ps ks:List Str} {sp:Sp} {E:XK} {x m:Str} {p pos apos kpos:Pos} {e o:Expr} {es:List Expr} {kws:List Keyword} {te ta:TE} {t tk:TA} {nm:Option Str}
structure MR (K:PySem.W.Frag) (fd:FuncData) (ps ks:List Str) (g:List Value→List Value→List Value) (gV:List V→List V→List V):Prop where
 to:∀ (s:Shared) (us ws:List Value),K.In s.heap→(g us ws).length=ps.length→BindsTo s fd ⟨us,ks.zip ws⟩ (ps.zip (g us ws))
 rel:∀ {vs:List V} {us:List Value} {zs:List V} {ws:List Value},Cd vs us→Cd zs ws→Cd (gV vs zs) (g us ws)
variable {g:List Value→List Value→List Value} {gV:List V→List V→List V}
end
structure yb (N P:List Str) (sc:Scope):Prop where
 kind:sc.kind=.function
 co:sc.isCoroutine=false
 gen:sc.isGenerator=false
 nd:N.Nodup
 pre:N.take P.length=P
 par:∀ x ∈ P,sc.names.lookup x=some .local∨sc.names.lookup x=some .cell
 nofree:∀ y ∈ sc.names,y.2 ≠ .free
theorem vx {kindOf:Str→Option NameKind} {x:Str}:∀ {binds:List (Str × Value)} {m:Str→Option Value},(∀ v,(x,v) ∉ binds)→bindL kindOf binds m x=m x
 | [],_,_=>rfl
 | (n,v) :: r,m,h=>by
  unfold bindL;rw [vx fun w hw=>h w (List.mem_cons_of_mem _ hw)];split
  ·have:x ≠ n:=by rintro rfl;exact h v List.mem_cons_self
   simp [this]
  ·rfl
theorem Tw {kindOf:Str→Option NameKind} {x:Str}:∀ {binds:List (Str × Value)} {m:Str→Option Value},(∀ v,(x,v) ∉ binds)→bindC kindOf binds m x=m x
 | [],_,_=>rfl
 | (n,v) :: r,m,h=>by
  unfold bindC;rw [Tw fun w hw=>h w (List.mem_cons_of_mem _ hw)];split
  ·rfl
  ·have:x ≠ n:=by rintro rfl;exact h v List.mem_cons_self
   simp [this]
theorem Oy {kindOf:Str→Option NameKind} {x:Str} {v:Value}:∀ {P:List Str} {vs:List Value} {i:Nat} {m:Str→Option Value},P.Nodup→P[i]? = some x→vs[i]? = some v→kindOf x=some .local →
  bindL kindOf (P.zip vs) m x=some v
 | [],_,_,_,_,h,_,_=>by simp at h
 | _ :: _,[],_,_,_,_,h,_=>by simp at h
 | p :: P,w :: vs,0,m,nd,h1,h2,hk=>by
  simp at h1 h2;subst h1;subst h2;show bindL kindOf ((p,w) :: P.zip vs) m p=_;unfold bindL;rw [vx fun v hv=>(List.nodup_cons.mp nd).1 (List.of_mem_zip hv).1,if_pos hk];simp
 | p :: P,w :: vs,i + 1,m,nd,h1,h2,hk=>by
  show bindL kindOf ((p,w) :: P.zip vs) m x=_;unfold bindL;exact Oy (i:=i) (List.nodup_cons.mp nd).2 (by simpa using h1) (by simpa using h2) hk
theorem Sx {kindOf:Str→Option NameKind} {x:Str} {v:Value}:∀ {P:List Str} {vs:List Value} {i:Nat} {m:Str→Option Value},P.Nodup→P[i]? = some x→vs[i]? = some v→kindOf x ≠ some .local →
  bindC kindOf (P.zip vs) m x=some v
 | [],_,_,_,_,h,_,_=>by simp at h
 | _ :: _,[],_,_,_,_,h,_=>by simp at h
 | p :: P,w :: vs,0,m,nd,h1,h2,hk=>by
  simp at h1 h2;subst h1;subst h2;show bindC kindOf ((p,w) :: P.zip vs) m p=_;unfold bindC;rw [Tw fun v hv=>(List.nodup_cons.mp nd).1 (List.of_mem_zip hv).1,if_neg hk];simp
 | p :: P,w :: vs,i + 1,m,nd,h1,h2,hk=>by
  show bindC kindOf ((p,w) :: P.zip vs) m x=_;unfold bindC;exact Sx (i:=i) (List.nodup_cons.mp nd).2 (by simpa using h1) (by simpa using h2) hk
noncomputable def start (N:List Str) (vs:List V):St:=vs.map some ++ List.replicate (N.length - vs.length) none
noncomputable def oN (CX:CXT) (P:Program) (w:World) (K:PySem.W.Frag) (mg:Str→Option Value) (base:Heap) (N:List Str) (qual:Str) (scope:Scope) (f:Addr) (cd:Value) (A:Around) (outer:List Env) (s:Shared) (H:Hp) (E:XK):Cx where
 prog:=P
 w:=w
 K:=K
 mg:=mg
 base:=base
 A:=A.deeper (envOfC qual scope s.heap.objs.size f cd)
 N:=N
 s₀:=s
 H₀:=H
 env:=envOfC qual scope s.heap.objs.size f cd
 outer:=outer
 stack:=envOfC qual scope s.heap.objs.size f cd :: outer
 ex:=[]
 calm:=true
 fn:=fun _=>true
 pn:=[]
 xe:=fun e s'=>wpAny (model P w) (A.deeper (envOfC qual scope s.heap.objs.size f cd)) (leaving (envOfC qual scope s.heap.objs.size f cd) e) (fun _ s''=>CX outer H s E e s'') (fun e' s''=>CX outer H s E e' s'') s'
theorem VA {sc:Scope} {n:Nat} {x:Str} (h:sc.names.lookup x=some .cell):∃ c,(cellsFrom n sc.names []).lookup x=some c:=by
 have q:=PySem.W.cellsFrom_some sc.names n [] (.inl h);exact Option.isSome_iff_exists.mp q
theorem SE {CX:CXT} {P:Program} {w:World} {K:PySem.W.Frag} {mg:Str→Option Value} {base:Heap} {N ps:List Str} {qual:Str} {scope:Scope} {f:Addr} {cd:Value} {A:Around} {outer:List Env} {s s1:Shared} {H:Hp} {E:XK} {us:List Value} {vs:List V}
  (S:yb N ps scope) (hd:A.handled=none) (e0:cI P w K mg base A outer s H) (hl:vs.length=ps.length) (r:Cd vs us)
  (x:InCallC s s.heap.objs.size (bindL (envOfC qual scope s.heap.objs.size f cd).kindOf (ps.zip us) fun _=>none) (cellsFrom (s.heap.objs.size + 1) scope.names []) (bindC (envOfC qual scope s.heap.objs.size f cd).kindOf (ps.zip us) fun _=>none) s1) :
  Inv (oN CX P w K mg base N qual scope f cd A outer s H E) [] (start N vs) H s1:=by
 have hpl:ps.length ≤ N.length:=by have:=congrArg List.length S.pre;rw [List.length_take] at this;omega
 obtain ⟨h1,tk,rfl,hk⟩:=x.done;have noA:∀ b:Addr,b ∉ (oN CX P w K mg base N qual scope f cd A outer s H E).ex:=fun b z=>absurd (show b ∈ ([]:List Addr) from z) (by simp)
 refine ⟨⟨e0.mod,S.kind,rfl,rfl,Nat.le_refl _,fun y z c h1 h2=>?_,fun y hy=>?_,fun y c _ h=>?_,fun _=>hd,Around.frames_deeper e0.frames,.inr ⟨rfl,rfl⟩,fun b z=>absurd z (noA b),e0.bs,e0.bsz,fun b _ _=>noA b,fun b z=>absurd z (noA b),e0.funs,e0.frf⟩,
  rfl,e0.bare,Un.kept hk,⟨_,x.toInCall.ns,fun i y v h1 h2 h3=>?_⟩,fun y c h=>⟨_,x.cell y c h⟩,e0.hok.fresh (Nat.le_refl _),fun y c h=>?_,fun p hp=>absurd (show p ∈ ([]:List (Addr × Obj)) from hp) (by simp),e0.hok.kept hk,?_⟩
 ·exact name_of_addr x.apart (PySem.mem_of_lookup h1) (PySem.mem_of_lookup h2)
 ·have hy:scope.names.lookup y=some .cell∨scope.names.lookup y=some .free:=hy;rcases hy with hy | hy
  ·exact VA hy
  ·exact absurd rfl (S.nofree _ (PySem.mem_of_lookup hy))
 ·exact Nat.le_of_lt (x.above y c (PySem.mem_of_lookup h))
 ·have hi:i < vs.length:=by
   unfold start at h2;by_cases hi:i < vs.length
   ·exact hi
   ·rw [List.getElem?_append_right (by simpa using hi)] at h2;rw [List.getElem?_replicate] at h2;split at h2 <;> cases h2
  have ha:vs[i]? = some v:=by
   unfold start at h2;rw [List.getElem?_append_left (by simpa using hi),List.getElem?_map] at h2;cases e:vs[i]? with
   | none=>rw [e] at h2;cases h2
   | some a=>rw [e] at h2;cases h2;rfl
  obtain ⟨u,hu,rv⟩:=r.get ha;have hp:ps[i]? = some y:=by
   rw [← S.pre,List.getElem?_take_of_lt (by omega)];exact h1
  have ndP:ps.Nodup:=by rw [← S.pre];exact S.nd.sublist (List.take_sublist _ _)
  refine ⟨u,rv,?_⟩;rcases S.par y (List.mem_of_getElem? hp) with k | k
  ·exact .inl ⟨k,Oy ndP hp hu k⟩
  ·obtain ⟨c,e⟩:=VA (n:=s.heap.objs.size + 1) k;refine .inr ⟨.inl k,c,e,?_⟩;have q:=x.cell y c e;rw [Sx ndP hp hu (by show scope.names.lookup y ≠ _;rw [k];decide)] at q;exact q
 ·exact e0.hok.fresh (Nat.le_of_lt (x.above y c (PySem.mem_of_lookup h)))
 ·unfold start;show _=N.length;rw [List.length_append,List.length_map,List.length_replicate];omega
theorem lR {CX:CXT} {P:Program} {w:World} {K:PySem.W.Frag} {mg:Str→Option Value} {base:Heap} {k:Nat} {f:Addr} {name qual:Str} {params:Arguments} {body:List Stmt} {scope:Scope} {dV kV doc pm cdv ct oc:Value} {an od:Option Addr}
  {osl:Array (Option Value)} {N ps:List Str} {sp:Sp} (lk:K.lookup f=some ⟨oc,od,.func (PySem.W.fnOf name qual params body scope dV kV doc pm an cdv ct),osl⟩) (hcd:PySem.W.codeIn K cdv qual=true) (S:yb N ps scope)
  (len:∀ vs H Q E,sp vs H Q E→vs.length=ps.length)
  (hbody:∀ (A:Around) (outer:List Env) (s:Shared) (H:Hp) (vs:List V) (Q:VK) (E:XK),vk k (A.deeper (envOfC qual scope s.heap.objs.size f cdv))→sp vs H Q E →
   ∃ t,PSs (oN CX P w K mg base N qual scope f cdv A outer s H E) body t∧t { nx:=fun _ H'=>Q .non H',rt:=Q } (start N vs) H) :
  Gb P w K mg base CX (k + 1) f (PySem.W.fnOf name qual params body scope dV kV doc pm an cdv ct) ps sp:=by
 refine ⟨len,fun A outer s H args us vs Q E hr e0 hb r hsp=>?_⟩;have hl:=len _ _ _ _ hsp;have KX:K.In s.heap:=e0.mod.kin.keeps fun b o e=>(e0.bs b o e).1
 have lim:s.heap.NoLimit:=e0.mod.nolimit.keeps fun b o e=>(e0.bs b o e).1
 have hkind:∀ y ∈ ps.zip us,scope.names.lookup y.1=some .local∨(scope.names.lookup y.1=some .cell∧((cellsFrom (s.heap.objs.size + 1) scope.names []).lookup y.1).isSome=true):=fun ⟨n,v⟩ hy=>by
  rcases S.par n (List.of_mem_zip hy).1 with q | q
  ·exact .inl q
  ·exact .inr ⟨q,PySem.W.cellsFrom_some _ _ _ (.inl q)⟩
 refine codeAny_call_function hr.depth (KX _ _ lk) rfl S.co S.gen rfl (PySem.W.codeRec_of KX hcd) (hb _ _ _ _ ?_);refine wpAny_newFunctionEnv_cells S.kind hkind fun env he s1 x=>?_
 subst he;refine ⟨lim.keeps x.toInCall.keep,codeAny_func ?_⟩;obtain ⟨t,ht,hq⟩:=hbody A outer s H vs Q E (hr.deeper _) hsp;have I:Inv (oN CX P w K mg base N qual scope f cdv A outer s H E) [] (start N vs) H s1:=SE S hr.hd e0 hl r x;refine wpAny_mono (ht [] s1 (start N vs) H _ I hq) (fun fl s' hs=>?_) fun e s' hs=>hs
 have fin:∀ {σ':St} {H':Hp} {v:V} {u:Value},Inv (oN CX P w K mg base N qual scope f cdv A outer s H E) [] σ' H' s'→Vd v u→Q v H'→CE outer P w H s Q u s':=
  fun {σ' H' v u} J rv q=>⟨v,H',J.os,J.bare,J.base,J.hok,rv,q⟩
 cases fl with
 | ret u=>
  obtain ⟨v,σ',H',J,rv,q⟩:=hs;exact fin J rv q
 | next=>
  obtain ⟨σ',H',J,q⟩:=hs;exact fin (v:=V.non) (u:=Value.none) J rfl q
 | brk=>
  obtain ⟨_,_,_,q⟩:=hs;exact False.elim q
 | cont=>
  obtain ⟨_,_,_,q⟩:=hs;exact False.elim q
end L2
namespace L2
open PySem PySem.Spec PyProof.Rows
section
variable {X:Cx} {x:Str} {p pos:Pos} {e:Expr} {es:List Expr} {t:TA} {id T:String} {r:List V→Hp→VK→Prop}
noncomputable def tCB (r:List V→Hp→VK→Prop) (t:TA):TE:=fun σ H Q=>t σ H fun vs H1=>r vs H1 Q
theorem jd (hc:rk X (.builtin id) r) (hg:Gl X x) (hm:X.mg x=none) (hv:bootBuiltins x=some (.builtin id)) (ha:PA X (e :: es) t) (hn:x ≠ "__name__" := by decide) (hdb:(x == ("__debug__" : Str))=false:=by decide)
  (he:starEach (e :: es) X.env=(false,eval e X.env) :: starEach es X.env:=by rfl) (hpl:(backTo pos (starEach es X.env)).any (·.1)=false:=by rfl):PE X (.Call (.Name x p) (e :: es) [] pos) (tCB r t):=by
 intro pins s σ H Q I h;refine wpAny_Call_Name_kw (Sj I hg hm hv ?_ hn hdb);exact PyProof.Rows.callWith_builtin1 (thn (ha pos pins s σ H _ I h) fun us s1 ⟨vs,H1,I1,r1,q1⟩=>hc pins s1 σ H1 vs us Q I1 r1 q1) he hpl
theorem Ig (hc:rk X (.type T) r) (hg:Gl X x) (hm:X.mg x=none) (hv:bootBuiltins x=some (.type T)) (ha:PA X (e :: es) t) (hn:x ≠ "__name__" := by decide) (hdb:(x == ("__debug__" : Str))=false:=by decide)
  (he:starEach (e :: es) X.env=(false,eval e X.env) :: starEach es X.env:=by rfl) (hpl:(backTo pos (starEach es X.env)).any (·.1)=false:=by rfl):PE X (.Call (.Name x p) (e :: es) [] pos) (tCB r t):=by
 intro pins s σ H Q I h;refine wpAny_Call_Name_kw (Sj I hg hm hv ?_ hn hdb);exact PyProof.Rows.callWith_type1 (thn (ha pos pins s σ H _ I h) fun us s1 ⟨vs,H1,I1,r1,q1⟩=>hc pins s1 σ H1 vs us Q I1 r1 q1) he hpl
end
end L2
namespace HT
open PySem PyProof.Rows
section
open PySem.SeqAt
open PySem.AutoSeq1 (wpAny_loadPart')
open PySem.MeetsSeq PySem.MeetsSeq2 PySem.MeetsSeq3
end
section
variable {prog:Program} {w:World} {A:Around} {E:Value→Shared→Prop} {s:Shared}
theorem cat_tup {t b:Addr} {vs ws:List Value} {Q:Value→Shared→Prop} (ht:IsTup s.heap t vs.toArray) (hb:IsTup s.heap b ws.toArray) (hv:vs ≠ [])
  (h1:ws=[]→Q (.ref t) s) (h2:ws ≠ []→Q (.ref s.heap.objs.size) { s with heap:=s.heap.push { cls:=.type "tuple",data:=.seq (vs ++ ws).toArray } })
  (hsz:vs.length + ws.length ≤ sizeLine):wpAny (model prog w) A (binaryOp .Add (.ref t) (.ref b)) Q E s:=by
 obtain ⟨⟨cls,dd,data,sl⟩,ho,hc,n,hd⟩:=id ht;obtain ⟨⟨cls2,dd2,data2,sl2⟩,ho2,hc2,n2,hd2⟩:=id hb;simp only at hc hd hc2 hd2;subst hc hd hc2 hd2;have e:vs.toArray ++ ws.toArray=(vs ++ ws).toArray:=by simp
 by_cases hw:ws=[]
 ·exact concat_meets ⟨_,ho,rfl⟩ ⟨_,ho2,rfl⟩ noFill_tuple_add seq_tuple_add PySem.F.slot_tuple_add PySem.F.entry_tuple_add (PySem.F.args_tuple_add_2 _ _)
   (tuple_addW1 t b vs.toArray ws.toArray n n2 dd dd2 sl sl2 (by simpa using hv) (by simp [hw])) ⟨ho,ho2,h1 hw⟩
 ·refine concat_meets ⟨_,ho,rfl⟩ ⟨_,ho2,rfl⟩ noFill_tuple_add seq_tuple_add PySem.F.slot_tuple_add PySem.F.entry_tuple_add (PySem.F.args_tuple_add_2 _ _)
   (tuple_addW2 t b vs.toArray ws.toArray n n2 dd dd2 sl sl2 (by simpa using hv) (by simpa using hw) (by rw [List.size_toArray,List.size_toArray];exact hsz)) ⟨ho,ho2,?_⟩
  rw [e];exact h2 hw
noncomputable def sIx (n d:Nat):Option Int→Nat
 | none=>d
 | some v=>if v < 0 then (v + (n:Int)).toNat else min v.toNat n
theorem dP (n d:Nat) (hd:d ≤ n) (o:Option Int):sIx n d o ≤ n:=by
 cases o with
 | none=>exact hd
 | some v=>
  show (if v < 0 then (v + (n:Int)).toNat else min v.toNat n) ≤ n;by_cases hv:v < 0
  ·rw [if_pos hv];omega
  ·rw [if_neg hv];exact Nat.min_le_right _ _
theorem GI (v:Int) (n d:Nat):(if v < 0 then max (v + (n:Int)) 0 else min v (n:Int))=((sIx n d (some v):Nat):Int):=by
 show (if v < 0 then max (v + (n:Int)) 0 else min v (n:Int))=(((if v < 0 then (v + (n:Int)).toNat else min v.toNat n):Nat):Int);by_cases hv:v < 0
 ·simp only [if_pos hv];omega
 ·simp only [if_neg hv];omega
theorem bD (lo hi:Option Int) (n:Nat):Builtin.Slice.sliceAdjust lo hi 1 (n:Int)=(((sIx n 0 lo:Nat):Int),((sIx n n hi:Nat):Int)):=by
 have h1:¬ ((1:Int) < 0):=by omega
 unfold Builtin.Slice.sliceAdjust;simp only [h1,if_false];refine Prod.ext ?_ ?_
 ·cases lo with
  | none=>rfl
  | some v=>exact GI v n 0
 ·cases hi with
  | none=>rfl
  | some v=>exact GI v n n
theorem mD (i j:Nat):Builtin.Slice.slicePlaces (i:Int) (j:Int) 1=j - i:=by
 unfold Builtin.Slice.slicePlaces;have h1:(1:Int) > 0:=by omega
 simp only [h1,if_true,Int.ediv_one];split <;> omega
theorem wu {v:Value} {o:Option Int} {Q:Option Int→Shared→Prop} (p:IsPart v o) (h:Q o s):wpAny (model prog w) A (Builtin.Slice.slicePartIndex v) Q E s:=by
 cases p with
 | none=>exact slicePart_none h
 | int i t=>exact slicePart_int h
theorem Zp {sl:Addr} {vl vu:Value} {lo hi:Option Int} {n:Nat} {Q:Int × Int × Nat→Shared→Prop} (hs:s.heap.IsSliceOf sl vl vu .none) (pl:IsPart vl lo) (pu:IsPart vu hi)
  (h:Q (((sIx n 0 lo:Nat):Int),1,sIx n n hi - sIx n 0 lo) s):wpAny (model prog w) A (Builtin.Slice.sliceApplied (.ref sl) (pure (n:Int))) Q E s:=by
 obtain ⟨os,hos,hcs,hds⟩:=id hs;unfold Builtin.Slice.sliceApplied Builtin.Slice.sliceFields;refine wpAny_bind (wpAny_bind (wpAny_field hos hds (x:=vl) rfl (wpAny_bind (wpAny_field hos hds (x:=vu) rfl (wpAny_bind (wpAny_field hos hds (x:=.none) rfl (wpAny_pure ?_)))))));refine wpAny_bind (slicePart_none ?_);show wpAny _ _ (if ((1:Int) == 0)=true then _ else _) _ _ s;rw [if_neg (by decide)];refine wpAny_bind (wu pl (wpAny_bind (wu pu (wpAny_bind (wpAny_pure ?_)))));show wpAny _ _ (match Builtin.Slice.sliceAdjust lo hi 1 (n:Int) with | (lo,hi)=>pure (lo,(1:Int),Builtin.Slice.slicePlaces lo hi 1)) _ _ s;rw [bD lo hi n];show wpAny _ _ (pure (((sIx n 0 lo:Nat):Int),(1:Int),Builtin.Slice.slicePlaces ((sIx n 0 lo:Nat):Int) ((sIx n n hi:Nat):Int) 1)) _ _ s;rw [mD];exact wpAny_pure h
theorem QJ (xs:Array Value) (i k:Nat):((List.range k).filterMap fun (m:Nat)=>xs[((i:Int) + (m:Int) * 1).toNat]?).toArray=((xs.toList.drop i).take k).toArray:=by
 have e:(fun (m:Nat)=>xs[((i:Int) + (m:Int) * 1).toNat]?)=fun m=>xs[i + m]?:=by
  funext m;have:((i:Int) + (m:Int) * 1).toNat=i + m:=by omega
  rw [this]
 rw [e];have:=pick_run xs i k;rw [List.filterMap_map] at this;have e2:((fun x=>xs[x]?) ∘ fun x=>i + x)=fun m=>xs[i + m]?:=rfl
 rw [e2] at this;rw [this]
theorem getItem_tuple_cut {t sl:Addr} {items:Array Value} {vl vu:Value} {lo hi:Option Int} {Q:Value→Shared→Prop} (ht:IsTup s.heap t items) (hs:s.heap.IsSliceOf sl vl vu .none) (pl:IsPart vl lo) (pu:IsPart vu hi)
  (hw:¬ (sIx items.size 0 lo=0∧sIx items.size items.size hi=items.size))
  (h:Q (.ref s.heap.objs.size) { s with heap:=s.heap.push { cls:=.type "tuple",data:=.seq ((items.toList.drop (sIx items.size 0 lo)).take (sIx items.size items.size hi - sIx items.size 0 lo)).toArray } })
  (hsz:items.size ≤ sizeLine):wpAny (model prog w) A (getItem (.ref t) (.ref sl)) Q E s:=by
 have htake:sizeOk (.seq ((items.toList.drop (sIx items.size 0 lo)).take (sIx items.size items.size hi - sIx items.size 0 lo)).toArray):=by
  show ((items.toList.drop (sIx items.size 0 lo)).take (sIx items.size items.size hi - sIx items.size 0 lo)).toArray.size ≤ sizeLine;rw [List.size_toArray,List.length_take,List.length_drop,Array.length_toList];omega
 have hj:sIx items.size items.size hi ≤ items.size:=dP _ _ (Nat.le_refl _) hi;obtain ⟨os,hos,hcs,hds⟩:=id hs;have hTs:s.TypeIs (.ref sl) "slice" := ⟨os,hos,hcs⟩;unfold getItem
 try with_reducible refine wpAny_holding ?_
 first | refine wpAny_bind (wpAny_pure ?_) | skip
 refine wpAny_bind (wpAny_sequenceKey ht.typeIs (by decide) ?_);refine wpAny_bind (wpAny_callSpecial?_slot (name:=Str.ofString "__getitem__") ht.typeIs PyProof.Rows.slot_tuple_getitem
  (wpAny_call_entry PyProof.Rows.slot_tuple_getitem ht.typeIs entry_tuple_getitem ?_ (args_tuple_getitem _ _)))
 show wpAny _ _ (Builtin.Tuple.tupleItemsOf (.ref t) >>= _) _ _ s;refine wpAny_bind (tupleItemsOf_ ht ?_);refine wpAny_bind (wpAny_typeOf hTs ?_);rw [if_pos (by decide)];refine wpAny_bind (Zp hs pl pu ?_);have hno:¬ ((((sIx items.size 0 lo:Nat):Int) == 0 && (1:Int) == 1 && (sIx items.size items.size hi - sIx items.size 0 lo) == items.size)=true):=by
  intro q;rw [Bool.and_eq_true,Bool.and_eq_true] at q;have q1:((sIx items.size 0 lo:Nat):Int)=0:=eq_of_beq q.1.1;have q2:sIx items.size items.size hi - sIx items.size 0 lo=items.size:=eq_of_beq q.2;exact hw ⟨by omega,by omega⟩
 show wpAny _ _ (if (((sIx items.size 0 lo:Nat):Int) == 0 && (1:Int) == 1 && (sIx items.size items.size hi - sIx items.size 0 lo) == items.size)=true then _ else _) _ _ s;rw [if_neg hno,QJ]
 first
  | exact wpAny_bind (m:=Builtin.Tuple.tupleExact _) (wpAny_newObj_type (wpAny_pure ⟨_,rfl,wpAny_pure h⟩) htake)
  | exact wpAny_bind (m:=Builtin.Tuple.tupleExact _) (wpAny_newObj_type (wpAny_bind (wpAny_pure (wpAny_pure ⟨_,rfl,wpAny_pure h⟩))) htake)
  | exact wpAny_bind (wpAny_bind (m:=Builtin.Tuple.tupleExact _) (wpAny_newObj_type (wpAny_pure (wpAny_pure ⟨_,rfl,wpAny_pure h⟩)) htake))
  | exact wpAny_bind (wpAny_bind (m:=Builtin.Tuple.tupleExact _) (wpAny_newObj_type (wpAny_pure ⟨_,rfl,wpAny_pure h⟩) htake))
end
end HT
namespace L2
open PySem PySem.Spec PyProof.Rows
noncomputable abbrev TO:=St→Hp→(Option Int→Hp→Prop)→Prop
def PO (X:Cx) (e:Option Expr) (t:TO):Prop:=
 ∀ (pins:List (Addr × Obj)) (s:Shared) (σ:St) (H:Hp) (Q:Option Int→Hp→Prop),Inv X pins σ H s→t σ H Q →
  wpAny (model X.prog X.w) X.A (evalPart e X.env) (fun u s'=>∃ o H',Inv X pins σ H' s'∧IsPart u o∧Q o H') X.xe s
noncomputable def BE:TO:=fun _ H Q=>Q none H
noncomputable def PP (t:TE):TO:=fun σ H Q=>t σ H fun x H1=>uk x fun i=>Q (some i) H1
theorem jv {ns:List Int}:∀ {us:List Value},Cd (ns.map V.int) us→IntsAre us ns:=by
 induction ns with
 | nil=>intro us r;rw [List.map_nil] at r;cases r;exact .nil
 | cons n ns ih=>
  intro us r;rw [List.map_cons] at r;cases r with
  | cons r1 r2=>
   obtain ⟨t,e⟩:=r1;subst e;exact .cons n t (ih r2)
section
variable {X:Cx} {e:Expr} {te:TE} {lo hi:Option Expr} {tl th:TO} {pos p2:Pos}
theorem Bw:PO X none BE:=by
 intro pins s σ H Q I h;rw [evalPart_none];exact wpAny_pure ⟨none,H,I,.none,h⟩
theorem Go (h:PE X e te):PO X (some e) (PP te):=by
 intro pins s σ H Q I hw;rw [evalPart_some];refine thn (h pins s σ H _ I hw) fun u s1 hZ1=>?_
 obtain ⟨x,H1,I1,r1,q1⟩:=hZ1;obtain ⟨i,rfl,q⟩:=uk.out q1;obtain ⟨t,rfl⟩:=r1;exact ⟨some i,H1,I1,.int i t,q⟩
def SlR (X:Cx) (r:V→Option Int→Option Int→Hp→VK→Prop):Prop:=
 ∀ (pins:List (Addr × Obj)) (s:Shared) (σ:St) (H:Hp) (x:V) (v vl vu:Value) (lo hi:Option Int) (sl:Addr) (Q:VK),Inv X pins σ H s→Vd x v→s.heap.IsSliceOf sl vl vu .none→IsPart vl lo→IsPart vu hi→r x lo hi H Q →
  ∃ T id,typeLookup (.type T) "__getitem__"=pure (some (.builtin id))∧s.TypeIs v T∧wpAny (model X.prog X.w) X.A (getItem v (.ref sl)) (EP X pins σ Q) X.xe s
theorem SlR.or {r r':V→Option Int→Option Int→Hp→VK→Prop} (h:SlR X r) (h':SlR X r'):SlR X (fun x lo hi H Q=>r x lo hi H Q∨r' x lo hi H Q):=by
 intro pins s σ H x v vl vu lo hi sl Q I rx hs pl pu q;rcases q with q | q
 ·exact h pins s σ H x v vl vu lo hi sl Q I rx hs pl pu q
 ·exact h' pins s σ H x v vl vu lo hi sl Q I rx hs pl pu q
noncomputable def tSl (r:V→Option Int→Option Int→Hp→VK→Prop) (te:TE) (tl th:TO):TE:=fun σ H Q=>te σ H fun x H1=>tl σ H1 fun l H2=>th σ H2 fun u H3=>r x l u H3 Q
theorem En {r:V→Option Int→Option Int→Hp→VK→Prop} (hr:SlR X r) (he:PE X e te) (hl:PO X lo tl) (hu:PO X hi th):PE X (.Subscript e (.Slice lo hi none p2) pos) (tSl r te tl th):=by
 intro pins s σ H Q I h;refine Subscript_ (thn (he pins s σ H _ I h) fun v s1 hZ1=>?_);obtain ⟨x,H1,I1,r1,q1⟩:=hZ1;refine wpAny_Slice (thn (hl pins s1 σ H1 _ I1 q1) fun vl s2 ⟨l,H2,I2,pl,q2⟩=>thn (hu pins s2 σ H2 _ I2 q2) fun vu s3 hZ1=>?_);obtain ⟨u,H3,I3,pu,q3⟩:=hZ1;rw [evalPart_none];refine wpAny_pure ?_;have I4:Inv X pins σ H3 { s3 with heap:=s3.heap.push { cls:=.type "slice",data:=.fields #[vl,vu,.none] } }:=I3.kept (t':=s3.toks) fun b ob q=>Heap.get?_push_of_some _ q
 obtain ⟨T,id,hT,ht,hg⟩:=hr pins { s3 with heap:=s3.heap.push { cls:=.type "slice",data:=.fields #[vl,vu,.none] } } σ H3 x v vl vu l u s3.heap.objs.size Q I4 r1 (Heap.IsSliceOf.new ..) pl pu q3;show wpAny (model X.prog X.w) X.A (subscriptTail e (.Slice lo hi none p2) v (.ref s3.heap.objs.size)) (EP X pins σ Q) X.xe { s3 with heap:=s3.heap.push { cls:=.type "slice",data:=.fields #[vl,vu,.none] } };exact tail_any (ops:=[.ref s3.heap.objs.size,v]) ht hT hg (by with_unfolding_all rfl)
noncomputable def YF (xs:List V) (lo hi:Option Int):List V:=(xs.drop (HT.sIx xs.length 0 lo)).take (HT.sIx xs.length xs.length hi - HT.sIx xs.length 0 lo)
theorem Qr (xs:List V) (lo hi:Option Int):(YF xs lo hi).length ≤ xs.length:=by
 unfold YF;rw [List.length_take,List.length_drop];omega
noncomputable def UR (K:PySem.W.Frag):V→Option Int→Option Int→Hp→VK→Prop:=fun x lo hi H Q=>∃ a xs,x=.ref a∧SqT K H a xs ∧
 ¬ (HT.sIx xs.length 0 lo=0∧HT.sIx xs.length xs.length hi=xs.length)∧∀ p,H p=none→Q (.ref p) (upd H p (.tup (YF xs lo hi)))
theorem jP:SlR X (UR X.K):=by
 intro pins s σ H x v vl vu lo hi sl Q I rx hs pl pu h;obtain ⟨a,xs,rfl,hx,hw,q⟩:=h;cases rx;obtain ⟨its,r,ht,hz⟩:=I.tuple hx;have hlen:its.toArray.size=xs.length:=by rw [List.size_toArray];exact r.length.symm
 refine ⟨"tuple",_,PyProof.Rows.slot_tuple_getitem.lookup,ht.typeIs,?_⟩;refine HT.getItem_tuple_cut ht hs pl pu (by rw [hlen];exact hw) ?_ (by rw [hlen];exact hz);rw [hlen];refine ⟨.ref s.heap.objs.size,_,I.laid (t':=s.toks) (o:=.tup (YF xs lo hi)) (fun b ob q=>Heap.get?_push_of_some _ q) (Nat.le_refl _) ?_,rfl,q _ (I.hok.fresh (Nat.le_refl _))⟩;exact ⟨⟨Nat.le_trans (Qr xs lo hi) hz,_,Heap.get?_push_size _ rfl,rfl⟩,_,(r.drop (HT.sIx xs.length 0 lo)).take (HT.sIx xs.length xs.length hi - HT.sIx xs.length 0 lo),IsTup.new _ _⟩
noncomputable def zP (K:PySem.W.Frag):R2:=fun x y H Q=>∃ a b xs ys,x=.ref a∧y=.ref b∧SqT K H a xs∧SqT K H b ys∧xs ≠ []∧xs.length + ys.length ≤ sizeLine ∧
 (ys=[]→Q (.ref a) H)∧(ys ≠ []→∀ p,H p=none→Q (.ref p) (upd H p (.tup (xs ++ ys))))
theorem Cd.nil_iff {xs:List V} {us:List Value} (r:Cd xs us):us=[]↔xs=[]:=by
 cases r with
 | nil=>simp
 | cons _ _=>simp
theorem Zy:OpR X (binaryOp .Add) (zP X.K):=by
 intro pins s σ H x y v u Q I rx ry h;obtain ⟨a,b,xs,ys,rfl,rfl,ha,hb,hx,hz,q1,q2⟩:=h;cases rx;cases ry;obtain ⟨its,r1,p1,_⟩:=I.tuple ha;obtain ⟨its2,r2,p2,_⟩:=I.tuple hb;refine HT.cat_tup p1 p2 (fun z=>hx (r1.nil_iff.mp z)) (fun z=>⟨.ref a,H,I,rfl,q1 (r2.nil_iff.mp z)⟩) (fun z=>?_) (by rw [← r1.length,← r2.length];exact hz);refine ⟨.ref s.heap.objs.size,_,I.laid (t':=s.toks) (o:=.tup (xs ++ ys)) (fun b ob q=>Heap.get?_push_of_some _ q) (Nat.le_refl _) ?_,rfl,q2 (fun w=>z (r2.nil_iff.mpr w)) _ (I.hok.fresh (Nat.le_refl _))⟩;exact ⟨⟨by rw [List.length_append];exact hz,_,Heap.get?_push_size _ rfl,rfl⟩,_,r1.append r2,IsTup.new _ _⟩
end
end L2
namespace L2
open PySem PySem.Spec PyProof.Rows
noncomputable def ixN (n:Nat) (i:Int):Option Nat:=if 0 ≤ i then (if i < n then some i.toNat else none) else if -(n:Int) ≤ i then some (i + n).toNat else none
noncomputable def atI {α:Type} (xs:List α) (i:Int):Option α:=(ixN xs.length i).bind fun j=>xs[j]?
theorem CF {n:Nat} {i:Int} {j:Nat} (h:ixN n i=some j):seqIndex? i n=some j∧j < n∧-(n:Int) ≤ i∧i < n:=by
 unfold ixN at h;by_cases h0:0 ≤ i
 ·rw [if_pos h0] at h;by_cases h1:i < n
  ·rw [if_pos h1] at h;have e:i.toNat=j:=Option.some.inj h;exact ⟨by rw [seqIndex_of h0 h1,e],by omega,by omega,h1⟩
  ·rw [if_neg h1] at h;cases h
 ·rw [if_neg h0] at h;by_cases h1:-(n:Int) ≤ i
  ·rw [if_pos h1] at h;have e:(i + n).toNat=j:=Option.some.inj h;exact ⟨by rw [seqIndex_neg (by omega) h1,e],by omega,h1,by omega⟩
  ·rw [if_neg h1] at h;cases h
theorem Sz {α:Type} {xs:List α} {i:Int} {v:α} (h:atI xs i=some v):∃ j,seqIndex? i xs.length=some j∧xs[j]? = some v∧j < xs.length∧-(xs.length:Int) ≤ i∧i < xs.length:=by
 unfold atI at h;cases e:ixN xs.length i with
 | none=>rw [e] at h;cases h
 | some j=>
  rw [e] at h;obtain ⟨h1,h2,h3,h4⟩:=CF e;exact ⟨j,h1,h,h2,h3,h4⟩
theorem Jb {α:Type} {xs:List α} {j:Nat} {v:α} (h:xs[j]? = some v):atI xs (j:Int)=some v:=by
 have hj:j < xs.length:=(List.getElem?_eq_some_iff.mp h).1;have e:ixN xs.length (j:Int)=some j:=by
  unfold ixN;rw [if_pos (by omega),if_pos (by omega)];simp
 unfold atI;rw [e];exact h
def yI (b:Expr):Prop:=∀ o i,subscripted b false o i=operate [o,i] (getItem o i)
def IxR (X:Cx) (r:R2):Prop:=
 ∀ (value slice:Expr) (pins:List (Addr × Obj)) (s:Shared) (σ:St) (H:Hp) (x y:V) (v u:Value) (Q:VK),Inv X pins σ H s→Vd x v→Vd y u→r x y H Q →
  subscripted slice false v u=operate [v,u] (getItem v u)→wpAny (model X.prog X.w) X.A (subscriptTail value slice v u) (EP X pins σ Q) X.xe s
def MtR (X:Cx) (id:String) (r:V→List V→Hp→VK→Prop):Prop:=
 ∀ (pins:List (Addr × Obj)) (s:Shared) (σ:St) (H:Hp) (x:V) (xs:List V) (v:Value) (us:List Value) (Q:VK),Inv X pins σ H s→Vd x v→Cd xs us→r x xs H Q →
  wpAny (model X.prog X.w) X.A (call (.builtin id) (v :: us)) (EP X pins σ Q) X.xe s
section
variable {X:Cx} {a b:Expr} {ta tb:TE} {pos:Pos}
theorem IxR.or {r r':R2} (h:IxR X r) (h':IxR X r'):IxR X (fun x y H Q=>r x y H Q∨r' x y H Q):=by
 intro value slice pins s σ H x y v u Q I rx ry q hs;rcases q with q | q
 ·exact h value slice pins s σ H x y v u Q I rx ry q hs
 ·exact h' value slice pins s σ H x y v u Q I rx ry q hs
theorem MtR.or {id:String} {r r':V→List V→Hp→VK→Prop} (h:MtR X id r) (h':MtR X id r'):MtR X id (fun x xs H Q=>r x xs H Q∨r' x xs H Q):=by
 intro pins s σ H x xs v us Q I rx rs q;rcases q with q | q
 ·exact h pins s σ H x xs v us Q I rx rs q
 ·exact h' pins s σ H x xs v us Q I rx rs q
theorem iR {r:R2} (hr:IxR X r) (ha:PE X a ta) (hb:PE X b tb) (hs:yI b):PE X (.Subscript a b pos) (tOp r ta tb):=by
 intro pins s σ H Q I h;exact Subscript_ (SQ ha hb I h fun v u s2 x y H2 I2 rx ry q=>hr a b pins s2 σ H2 x y v u Q I2 rx ry q (hs _ _))
noncomputable def lS (K:PySem.W.Frag):R2:=fun x y H Q=>di x fun p=>∃ xs,uk y fun i=>SqL K H p xs∧∃ v,atI xs i=some v∧Q v H
noncomputable def dS (K:PySem.W.Frag):R2:=fun x y H Q=>di x fun p=>∃ xs,uk y fun i=>SqT K H p xs∧∃ v,atI xs i=some v∧Q v H
noncomputable def aS:R2:=fun x y H Q=>∃ z i c,x=.str z∧y=.int i∧z.length ≤ sizeLine∧atI z.cps.toList i=some c∧Q (.str ⟨#[c]⟩) H
theorem He:IxR X (lS X.K):=by
 intro value slice pins s σ H x y v u Q I rx ry h hs;obtain ⟨p,rfl,xs,hzz⟩:=di.out h;obtain ⟨i,rfl,hq,z,he,q⟩:=uk.out hzz;cases rx;obtain ⟨t,rfl⟩:=ry;obtain ⟨its,r,pl,hz⟩:=I.list hq;obtain ⟨j,h1,h2,h3,h4,h5⟩:=Sz he;obtain ⟨w,ew,rw'⟩:=r.get h2;have hl:=r.length;have hn:=Lr;have fin:EP X pins σ Q w s:=⟨z,H,I,rw',q⟩;by_cases h0:0 ≤ i
 ·have hj:i.toNat=j:=by
   rw [seqIndex_of h0 h5] at h1;exact Option.some.inj h1
  exact item_listR pl.isList h0 (by omega) (by rw [hj];simpa using ew) fin hs
 ·have hj:(i + (its.toArray.size:Int)).toNat=j:=by
   rw [seqIndex_neg (by omega) h4] at h1;rw [List.size_toArray,← hl];exact Option.some.inj h1
  exact subscriptTail_builtinR (x:=w) pl.isList.typeIs slot_list_getitem.lookup
   (wpAny_getItem_list_neg (Q:=fun r s'=>r=w∧EP X pins σ Q r s') pl.isList (by omega) (by rw [List.size_toArray] <;> omega) (by omega) (by rw [hj];simpa using ew) ⟨rfl,fin⟩) hs
theorem Zc:IxR X (dS X.K):=by
 intro value slice pins s σ H x y v u Q I rx ry h hs;obtain ⟨p,rfl,xs,hzz⟩:=di.out h;obtain ⟨i,rfl,hq,z,he,q⟩:=uk.out hzz;cases rx;obtain ⟨t,rfl⟩:=ry;obtain ⟨its,r,pl,hz⟩:=I.tuple hq;obtain ⟨j,h1,h2,h3,h4,h5⟩:=Sz he;obtain ⟨w,ew,rw'⟩:=r.get h2;have hl:=r.length;have hn:=Lr;have fin:EP X pins σ Q w s:=⟨z,H,I,rw',q⟩;exact subscriptTail_builtinR (x:=w) pl.typeIs slot_tuple_getitem.lookup
  (getItem_tuple (j:=j) (Q:=fun r s'=>r=w∧EP X pins σ Q r s') pl (by omega) (by omega) (by rw [List.size_toArray,← hl];exact h1) (by simpa using ew) ⟨rfl,fin⟩) hs
theorem QG:IxR X aS:=by
 intro value slice pins s σ H x y v u Q I rx ry h hs;obtain ⟨z,i,c,rfl,rfl,hz,he,q⟩:=h;obtain ⟨t,rfl⟩:=rx;obtain ⟨t',rfl⟩:=ry;obtain ⟨j,h1,h2,h3,h4,h5⟩:=Sz he;have hl:z.cps.toList.length=z.length:=by simp [Str.length]
 rw [hl] at h1 h4 h5;have hn:=Lr;exact tail_any (typeIs_str s z t) slot_str_getitem.lookup (getItem_str (c:=c) (by
  have e1:decide (i < -(2 ^ 63:Int))=false:=decide_eq_false (by omega);have e2:decide (i ≥ 2 ^ 63)=false:=decide_eq_false (by omega);rw [e1,e2,Bool.or_false]) (by rw [h1];simpa using h2) ⟨.str ⟨#[c]⟩,H,I.tok _,⟨_,rfl⟩,q⟩) hs
theorem tD (its:List Value) (n j:Nat) (u:Value):Obj.mapSeq (·.setIfInBounds j u) { cls:=.type "list",data:=.seq its.toArray n } = { cls:=.type "list",data:=.seq (its.set j u).toArray n }:=by
 simp [Obj.mapSeq]
theorem Inv.lst {pins:List (Addr × Obj)} {σ:St} {H:Hp} {s:Shared} {p:Addr} {xs:List V} (I:Inv X pins σ H s) (h:H p=some (.lst xs)) :
  ∃ (its:List Value) (n:Nat),Cd xs its∧s.heap.get? p=some { cls:=.type "list",data:=.seq its.toArray n }∧xs.length ≤ sizeLine:=by
 obtain ⟨z,its,n,r,e⟩:=I.hok p _ h;exact ⟨its,n,r,e,z⟩
theorem Inv.lstUpd {pins:List (Addr × Obj)} {σ:St} {H:Hp} {s:Shared} {p:Addr} {xs ys:List V} {its its':List Value} {n n':Nat} {f:Obj→Obj} (I:Inv X pins σ H s) (h:H p=some (.lst xs))
  (ho:s.heap.get? p=some { cls:=.type "list",data:=.seq its.toArray n }) (hf:f { cls:=.type "list",data:=.seq its.toArray n } = { cls:=.type "list",data:=.seq its'.toArray n' }) (r:Cd ys its') (hz:ys.length ≤ sizeLine) (t:Nat) :
  Inv X pins σ (upd H p (.lst ys)) { s with heap:=s.heap.update p f,toks:=t }:=by
 have e:(s.heap.update p f).get? p=some { cls:=.type "list",data:=.seq its'.toArray n' }:=by
  rw [Heap.get?_update_self f ho (by rw [hf] <;> rfl),hf]
 refine I.write (x:=p) (e:=p) (by rw [h];trivial) (.inl rfl) (fun b u hb q=>(Heap.get?_update_other _ _ (Ne.symm hb)).trans q) ⟨_,e⟩ ?_;exact ⟨hz,its',n',r,e⟩
noncomputable def nP:V→V→V→Hp→(Hp→Prop)→Prop:=fun o i v H Q=>di o fun p=>∃ xs,uk i fun k=>H p=some (.lst xs)∧∃ j,ixN xs.length k=some j∧Q (upd H p (.lst (xs.set j v)))
theorem Qn:iS X nP:=by
 intro pins s σ H o i v ov iv u Q I ro ri rv h;obtain ⟨p,rfl,xs,hzz⟩:=di.out h;obtain ⟨k,rfl,hp,j,hj,q⟩:=uk.out hzz;cases ro;obtain ⟨t,rfl⟩:=ri;obtain ⟨its,n,r,ho,hz⟩:=I.lst hp;obtain ⟨h1,h2,h3,h4⟩:=CF hj;have hl:=r.length;have hn:=Lr;have I':Inv X pins σ (upd H p (.lst (xs.set j v))) { s with heap:=s.heap.update p (Obj.mapSeq (·.setIfInBounds j u)) }:=
  I.lstUpd hp ho (tD its n j u) (r.set rv j) (by rw [List.length_set];exact hz) s.toks
 by_cases h0:0 ≤ k
 ·have hk:k.toNat=j:=by
   rw [seqIndex_of h0 h4] at h1;exact Option.some.inj h1
  exact PySem.W.ki_setAt ho h0 (by omega) (by rw [List.size_toArray,← hl];exact h4) (by rw [hk];exact ⟨_,I',q⟩)
 ·have hk:(k + (its.toArray.size:Int)).toNat=j:=by
   rw [seqIndex_neg (by omega) h3] at h1;rw [List.size_toArray,← hl];exact Option.some.inj h1
  exact PySem.W.ki_setBack ho (by omega) (by rw [List.size_toArray,← hl];exact h3) (by omega) (by rw [hk];exact ⟨_,I',q⟩)
theorem Hy (lo hi:Option Int) (n:Nat):(sliceBounds lo hi none n).1=((HT.sIx n 0 lo:Nat):Int)∧(sliceBounds lo hi none n).2.1=((HT.sIx n n hi:Nat):Int)∧(sliceBounds lo hi none n).2.2=1:=by
 refine ⟨?_,?_,rfl⟩
 ·cases lo with
  | none=>simp [sliceBounds,HT.sIx]
  | some i=>
   simp only [sliceBounds,HT.sIx,Option.getD_none,show (1:Int) > 0 by decide,if_true];by_cases h:i < 0
   ·simp only [h,if_true] <;> omega
   ·simp only [h,if_false] <;> omega
 ·cases hi with
  | none=>simp [sliceBounds,HT.sIx]
  | some i=>
   simp only [sliceBounds,HT.sIx,Option.getD_none,show (1:Int) > 0 by decide,if_true];by_cases h:i < 0
   ·simp only [h,if_true] <;> omega
   ·simp only [h,if_false] <;> omega
theorem yw (its:List Value) (lo hi:Option Int):slicePick its.toArray lo hi none=((its.drop (HT.sIx its.length 0 lo)).take (HT.sIx its.length its.length hi - HT.sIx its.length 0 lo)).toArray:=by
 obtain ⟨h1,h2,h3⟩:=Hy lo hi its.toArray.size;unfold slicePick;rw [h1,h2,h3];simp only [sliceRange_one,pick_run,List.size_toArray] <;> rfl
noncomputable def kS (K:PySem.W.Frag):V→Option Int→Option Int→Hp→VK→Prop:=fun x lo hi H Q=>∃ a xs,x=.ref a∧SqL K H a xs∧∀ p,H p=none→Q (.ref p) (upd H p (.lst (YF xs lo hi)))
theorem QN:SlR X (kS X.K):=by
 intro pins s σ H x v vl vu lo hi sl Q I rx hs pl pu h;obtain ⟨a,xs,rfl,hx,q⟩:=h;cases rx;obtain ⟨its,r,ht,hz⟩:=I.list hx;have hlen:=r.length;refine ⟨"list",_,slot_list_getitem.lookup,ht.isList.typeIs,?_⟩;refine wpAny_getItem_list_slice ht.isList hs pl pu .none (by simp) ?_ (by rw [List.size_toArray] <;> omega);rw [yw,← hlen];refine ⟨.ref s.heap.objs.size,_,I.laid (t':=s.toks) (o:=.lst (YF xs lo hi)) (fun b ob q=>Heap.get?_push_of_some _ q) (Nat.le_refl _) ?_,rfl,q _ (I.hok.fresh (Nat.le_refl _))⟩;exact ⟨Nat.le_trans (Qr xs lo hi) hz,_,0,(r.drop (HT.sIx xs.length 0 lo)).take (HT.sIx xs.length xs.length hi - HT.sIx xs.length 0 lo),Heap.get?_push_size _ rfl⟩
noncomputable def Um:V→Bool
 | .non=>true
 | .bl _=>true
 | .int _=>true
 | .str _=>true
 | _=>false
noncomputable def eqV:V→V→Bool
 | .non,.non=>true
 | .bl a,.bl b=>a == b
 | .bl a,.int b=>(if a then 1 else 0) == b
 | .int a,.bl b=>a == (if b then 1 else 0)
 | .int a,.int b=>a == b
 | .str a,.str b=>a == b
 | _,_=>false
theorem SO {A:Around} {s:Shared} {y x:V} {u v:Value} (ry:Vd y u) (rx:Vd x v) (fy:Um y=true) (fx:Um x=true):SeqAt.EqAt A s u v (eqV y x):=by
 cases y with
 | non=>
  cases ry;cases x with
  | non=>cases rx;exact SeqAt.EqAt.same _
  | bl b=>cases rx;exact SeqAt.EqAt.none_bool b
  | int b=>obtain ⟨t,rfl⟩:=rx;exact SeqAt.EqAt.none_int b t
  | str b=>obtain ⟨t,rfl⟩:=rx;exact SeqAt.EqAt.none_str b t
  | _=>exact absurd (show false=true from fx) Bool.false_ne_true
 | bl a=>
  cases ry;cases x with
  | non=>cases rx;exact SeqAt.EqAt.bool_none a
  | bl b=>cases rx;exact SeqAt.EqAt.bool_bool a b
  | int b=>obtain ⟨t,rfl⟩:=rx;exact SeqAt.EqAt.bool_int a b t
  | str b=>obtain ⟨t,rfl⟩:=rx;exact SeqAt.EqAt.bool_str a b t
  | _=>exact absurd (show false=true from fx) Bool.false_ne_true
 | int a=>
  obtain ⟨t',rfl⟩:=ry;cases x with
  | non=>cases rx;exact SeqAt.EqAt.int_none a t'
  | bl b=>cases rx;exact SeqAt.EqAt.int_bool a t' b
  | int b=>obtain ⟨t,rfl⟩:=rx;exact SeqAt.EqAt.int_int a t' b t
  | str b=>obtain ⟨t,rfl⟩:=rx;exact SeqAt.EqAt.int_str a t' b t
  | _=>exact absurd (show false=true from fx) Bool.false_ne_true
 | str a=>
  obtain ⟨t',rfl⟩:=ry;cases x with
  | non=>cases rx;exact SeqAt.EqAt.str_none a t'
  | bl b=>cases rx;exact SeqAt.EqAt.str_bool a t' b
  | int b=>obtain ⟨t,rfl⟩:=rx;exact SeqAt.EqAt.str_int a t' b t
  | str b=>obtain ⟨t,rfl⟩:=rx;exact SeqAt.EqAt.str_str a t' b t
  | _=>exact absurd (show false=true from fx) Bool.false_ne_true
 | _=>exact absurd (show false=true from fy) Bool.false_ne_true
noncomputable def eqU (x:V) (u:Value):Bool:=match u with
 | .none=>eqV .non x
 | .bool b=>eqV (.bl b) x
 | .int i _=>eqV (.int i) x
 | .str z _=>eqV (.str z) x
 | _=>false
theorem gM {x y:V} {u:Value} (r:Vd y u) (f:Um y=true):eqU x u=eqV y x:=by
 cases y with
 | non=>cases r;rfl
 | bl b=>cases r;rfl
 | int i=>obtain ⟨t,rfl⟩:=r;rfl
 | str z=>obtain ⟨t,rfl⟩:=r;rfl
 | _=>exact absurd (show false=true from f) Bool.false_ne_true
theorem Br {x:V}:∀ {xs:List V} {us:List Value},Cd xs us→xs.all Um=true→us.any (eqU x)=xs.any fun y=>eqV y x
 | _,_,.nil,_=>rfl
 | y :: xs,u :: us,.cons r t,f=>by
  rw [List.all_cons,Bool.and_eq_true] at f;rw [List.any_cons,List.any_cons,gM r f.1,Br t f.2]
theorem Gn {A:Around} {s:Shared} {x:V} {v:Value} (rx:Vd x v) (fx:Um x=true):∀ {xs:List V} {us:List Value},Cd xs us→xs.all Um=true→∀ u ∈ us,SeqAt.EqAt A s u v (eqU x u)
 | _,_,.nil,_=>fun u hu=>by cases hu
 | y :: xs,u :: us,.cons r t,f=>fun u' hu=>by
  rw [List.all_cons,Bool.and_eq_true] at f;rcases List.mem_cons.mp hu with rfl | hu
  ·rw [gM r f.1];exact SO r rx f.1 fx
  ·exact Gn rx fx t f.2 u' hu
noncomputable def inV (x:V) (xs:List V):Bool:=xs.any fun y=>eqV y x
noncomputable def rIn (K:PySem.W.Frag) (neg:Bool):R2:=fun x y H Q=>∃ p xs,y=.ref p∧(SqL K H p xs∨SqT K H p xs)∧Um x=true∧xs.all Um=true∧Q (.bl (if neg then !inV x xs else inV x xs)) H
theorem Vr:OpR X (compareOp .In) (rIn X.K false):=by
 intro pins s σ H x y v u Q I rx ry h;obtain ⟨p,xs,rfl,hq,fx,fs,q⟩:=h;cases ry;rcases hq with hq | hq
 ·obtain ⟨its,r,pl,hz⟩:=I.list hq;refine SeqAt.in_listAt (eqU x) pl.isList (fun w hw=>Gn rx fx r fs w (by simpa using hw)) ⟨.bl _,H,I,rfl,?_⟩;rw [show its.toArray.any (eqU x)=its.any (eqU x) by simp,Br r fs];exact q
 ·obtain ⟨its,r,pl,hz⟩:=I.tuple hq;refine SeqAt.in_tupleAt (eqU x) pl (fun w hw=>Gn rx fx r fs w (by simpa using hw)) ⟨.bl _,H,I,rfl,?_⟩;rw [show its.toArray.any (eqU x)=its.any (eqU x) by simp,Br r fs];exact q
theorem Ip:OpR X (compareOp .NotIn) (rIn X.K true):=by
 intro pins s σ H x y v u Q I rx ry h;obtain ⟨p,xs,rfl,hq,fx,fs,q⟩:=h;cases ry;rcases hq with hq | hq
 ·obtain ⟨its,r,pl,hz⟩:=I.list hq;refine SeqAt.notIn_listAt (eqU x) pl.isList (fun w hw=>Gn rx fx r fs w (by simpa using hw)) ⟨.bl _,H,I,rfl,?_⟩;rw [show its.toArray.any (eqU x)=its.any (eqU x) by simp,Br r fs];exact q
 ·obtain ⟨its,r,pl,hz⟩:=I.tuple hq;refine SeqAt.notIn_tupleAt (eqU x) pl (fun w hw=>Gn rx fx r fs w (by simpa using hw)) ⟨.bl _,H,I,rfl,?_⟩;rw [show its.toArray.any (eqU x)=its.any (eqU x) by simp,Br r fs];exact q
theorem Bc:rk X (.builtin "len") (fun xs H Q=>KD xs fun x=>di x fun p=>∃ ys,(SqL X.K H p ys∨SqT X.K H p ys)∧Q (.int ys.length) H):=by
 intro pins s σ H xs us Q I r h;obtain ⟨zx,rfl,hzz⟩:=KD.out h;obtain ⟨p,rfl,ys,hq,q⟩:=di.out hzz;obtain ⟨u,rfl,rx⟩:=qo r;cases rx;have hn:=Lr;rcases hq with hq | hq
 ·obtain ⟨its,r',pl,hz⟩:=I.list hq;have hlen:=r'.length;exact Calls.call_len_list pl.isList (by simp only [List.size_toArray] <;> omega) ⟨.int ys.length,H,I.tok _,⟨s.toks + 1,by rw [List.size_toArray,hlen]⟩,q⟩
 ·obtain ⟨its,r',pl,hz⟩:=I.tuple hq;have hlen:=r'.length;exact len_tuple pl (by simp only [List.size_toArray] <;> omega) ⟨.int ys.length,H,I.tok _,⟨s.toks + 1,by rw [List.size_toArray,hlen]⟩,q⟩
theorem Zx:rk X (.builtin "len") (fun xs H Q=>∃ z,xs=[.str z]∧z.length ≤ sizeLine∧Q (.int z.length) H):=by
 intro pins s σ H xs us Q I r h;obtain ⟨z,rfl,hz,q⟩:=h;obtain ⟨u,rfl,t,rfl⟩:=qo r;have hn:=Lr;exact len_str (by omega) ⟨.int z.length,H,I.tok _,⟨_,rfl⟩,q⟩
theorem rk.or {f:Value} {r r':List V→Hp→VK→Prop} (h:rk X f r) (h':rk X f r'):rk X f (fun xs H Q=>r xs H Q∨r' xs H Q):=by
 intro pins s σ H xs us Q I rs q;rcases q with q | q
 ·exact h pins s σ H xs us Q I rs q
 ·exact h' pins s σ H xs us Q I rs q
theorem Up:rk X (.type "list") (fun xs H Q=>∃ p ys,xs=[.ref p]∧(SqL X.K H p ys∨SqT X.K H p ys)∧∀ l,H l=none→Q (.ref l) (upd H l (.lst ys))):=by
 intro pins s σ H xs us Q I r h;obtain ⟨p,ys,rfl,hq,q⟩:=h;obtain ⟨u,rfl,rx⟩:=qo r;cases rx;have fin:∀ (its:List Value),Cd ys its→ys.length ≤ sizeLine→∀ (h':Heap) (c':Nat),(∀ b o',s.heap.get? b=some o'→h'.get? b=some o') →
   h'.get? s.heap.objs.size=some { cls:=.type "list",dict:=none,data:=.seq its.toArray c',slots:=#[] }→EP X pins σ Q (.ref s.heap.objs.size) { s with heap:=h' }:=fun its r' hz h' c' kp e=>
  ⟨.ref s.heap.objs.size,_,I.laid (t':=s.toks) kp (Nat.le_refl _) (show we X.prog X.w _ h' _ (.lst ys) from ⟨hz,its,c',r',e⟩),rfl,q _ (I.hok.fresh (Nat.le_refl _))⟩
 rcases hq with hq | hq
 ·obtain ⟨its,r',pl,hz⟩:=I.list hq;have hlen:=r'.length;obtain ⟨o,ho,hc,n,hd⟩:=pl.isList;exact call_list_seq p (.inl rfl) ho hc hd (fun h' c' kp e=>fin its r' hz h' c' kp e) (by simp only [List.size_toArray] <;> omega)
 ·obtain ⟨its,r',pl,hz⟩:=I.tuple hq;have hlen:=r'.length;obtain ⟨o,ho,hc,n,hd⟩:=pl;exact call_list_seq p (.inr rfl) ho hc hd (fun h' c' kp e=>fin its r' hz h' c' kp e) (by simp only [List.size_toArray] <;> omega)
def tyV (K:PySem.W.Frag) (T:String) (x:V) (H:Hp):Prop:=match x with
 | .str _=>T = "str"
 | .int _=>T = "int"
 | .ref p=>(T = "list" ∧ ∃ xs,SqL K H p xs)∨(T = "tuple" ∧ ∃ o,K.lookup p=some o∧o.cls=.type "tuple" ∧ o.dict=none) ∨
   (T = "dict" ∧ ((∃ kvs,H p=some (.dK kvs))∨∃ kvs,H p=some (.dT kvs)))∨(T = "set" ∧ ∃ S n,H p=some (.set S n))
 | _=>False
theorem iM {pins:List (Addr × Obj)} {σ:St} {H:Hp} {s:Shared} {T:String} {x:V} {v:Value} (I:Inv X pins σ H s) (r:Vd x v) (ty:tyV X.K T x H) :
  s.TypeIs v T∧∀ a,v=.ref a→∃ ob,s.heap.get? a=some ob∧ob.dict=none:=by
 cases x with
 | str z=>
  obtain ⟨t,rfl⟩:=r;cases (show T = "str" from ty);exact ⟨typeIs_str s z t,fun _ e=>nomatch e⟩
 | int i=>
  obtain ⟨t,rfl⟩:=r;cases (show T = "int" from ty);exact ⟨typeIs_int s i t,fun _ e=>nomatch e⟩
 | ref p=>
  cases r;rcases ty with ⟨rfl,xs,hq⟩ | ⟨rfl,o,hk,hc,hd⟩ | ⟨rfl,hk⟩ | ⟨rfl,S,n,hk⟩
  ·obtain ⟨its,_,pl,_⟩:=I.list hq;refine ⟨pl.isList.typeIs,fun a e=>?_⟩;cases e;obtain ⟨o,n,e,c,hd,_⟩:=pl;exact ⟨o,e,hd⟩
  ·refine ⟨⟨o,I.kIn p o hk,hc⟩,fun a e=>?_⟩;cases e;exact ⟨o,I.kIn _ o hk,hd⟩
  ·have z:∃ o,s.heap.get? p=some o∧o.ExactDict:=by
    rcases hk with ⟨kvs,hk⟩ | ⟨kvs,hk⟩
    ·obtain ⟨_,_,_,_,o,_,_,e,ex,_⟩:=I.hok p _ hk;exact ⟨o,e,ex⟩
    ·obtain ⟨_,_,_,_,o,_,_,e,ex,_⟩:=I.hok p _ hk;exact ⟨o,e,ex⟩
   obtain ⟨o,e,ex⟩:=z;refine ⟨⟨o,e,ex.1⟩,fun a e2=>?_⟩;cases e2;exact ⟨o,e,ex.2.1⟩
  ·obtain ⟨o,_,_,_,e,ex,_⟩:=I.hok p _ hk;refine ⟨⟨o,e,ex.1⟩,fun a e2=>?_⟩;cases e2;exact ⟨o,e,ex.2.1⟩
 | _=>exact False.elim ty
noncomputable def ER (K:PySem.W.Frag) (T:String) (r:V→List V→Hp→VK→Prop) (to:TE):TE:=fun σ H Q=>to σ H fun x H1=>tyV K T x H1∧r x [] H1 Q
noncomputable def tBM (K:PySem.W.Frag) (T:String) (r:V→List V→Hp→VK→Prop) (to:TE) (t:TA):TE:=fun σ H Q=>to σ H fun x H1=>tyV K T x H1∧t σ H1 fun xs H2=>r x xs H2 Q
variable {o e:Expr} {es:List Expr} {to:TE} {t:TA} {name:Str} {apos cpos:Pos} {T id:String} {r:V→List V→Hp→VK→Prop}
theorem yP (pa:PlainAttrs T) (slot:Slot T name id) (hty:typeOf (.builtin id)=pure (.type "method_descriptor")) (hm:MtR X id r) (ho:PE X o to)
  (hbase:attributeBase o name X.env (eval o X.env)=eval o X.env:=by rfl) (hline:(apos.endLine == cpos.line)=true:=by rfl):PE X (.Call (.Attribute o name apos) [] [] cpos) (ER X.K T r to):=by
 intro pins s σ H Q I h;refine wpAny_Call_method0_late hbase hline (thn (ho pins s σ H _ I h) fun v s1 hZ1=>?_);obtain ⟨x,H1,I1,r1,ty,q1⟩:=hZ1;obtain ⟨h1,h2⟩:=iM I1 r1 ty;exact ⟨T,id,pa,slot,hty,h1,h2,Calls.callWith_builtin rfl (PySem.evalArgs_none (hm pins s1 σ H1 x [] v [] Q I1 r1 .nil q1))⟩
theorem Bp (pa:PlainAttrs T) (slot:Slot T name id) (hty:typeOf (.builtin id)=pure (.type "method_descriptor")) (hm:MtR X id r) (ho:PE X o to) (ha:PA X (e :: es) t)
  (hbase:attributeBase o name X.env (eval o X.env)=eval o X.env:=by rfl)
  (hfew:((backTo cpos (starEach (e :: es) X.env)).all (fun x=>!x.1) && (backToKw cpos (keywordEach [] X.env)).all (fun x=>x.1.isSome)
   && decide ((e :: es).length + ([]:List Keyword).length + (if ([]:List Keyword).isEmpty then 0 else 1) < 30))=true:=by rfl)
  (hline:(apos.endLine == cpos.line)=true:=by rfl) (hs:starEach (e :: es) X.env=(false,eval e X.env) :: starEach es X.env:=by rfl) (hplain:(backTo cpos (starEach es X.env)).any (·.1)=false:=by rfl) :
  PE X (.Call (.Attribute o name apos) (e :: es) [] cpos) (tBM X.K T r to t):=by
 intro pins s σ H Q I h;refine wpAny_Call_method_late hbase hfew hline rfl (thn (ho pins s σ H _ I h) fun v s1 hZ1=>?_);obtain ⟨x,H1,I1,r1,ty,q1⟩:=hZ1;obtain ⟨h1,h2⟩:=iM I1 r1 ty;refine ⟨T,id,pa,slot,hty,h1,h2,?_⟩;have hA:=ha cpos pins s1 σ H1 _ I1 q1;rw [hs] at hA ⊢;refine Calls.callWith_builtin (by show (false || (backTo cpos (starEach es X.env)).any (·.1))=false;rw [hplain] <;> rfl) (Calls.evalArgs_plain ?_);exact thn hA fun us s2 ⟨vs,H2,I2,r2,q2⟩=>hm pins s2 σ H2 x vs v us Q I2 r1 r2 q2
end
end L2
namespace L2
open PySem PySem.Spec PyProof.Rows
def MtM (X:Cx) (id:String) (r:V→List V→Hp→VK→Prop):Prop:=
 ∀ (pins:List (Addr × Obj)) (s:Shared) (σ:St) (H:Hp) (x:V) (xs:List V) (v:Value) (us:List Value) (Q:VK),Inv X pins σ H s→Vd x v→Cd xs us→r x xs H Q →
  wpAny (model X.prog X.w) X.A (call (.builtin id) (v :: us)) (EP X pins σ Q) X.xe s
theorem Cd.one:∀ {x:V} {us:List Value},Cd [x] us→∃ u,us=[u]∧Vd x u
 | _,_,.cons r .nil=>⟨_,rfl,r⟩
theorem Cd.two:∀ {x y:V} {us:List Value},Cd [x,y] us→∃ u v,us=[u,v]∧Vd x u∧Vd y v
 | _,_,_,.cons r (.cons q .nil)=>⟨_,_,rfl,r,q⟩
theorem Cd.zero:∀ {us:List Value},Cd [] us→us=[]
 | _,.nil=>rfl
theorem Cd.eraseIdx:∀ {xs:List V} {us:List Value} (i:Nat),Cd xs us→Cd (xs.eraseIdx i) (us.eraseIdx i)
 | _,_,_,.nil=>.nil
 | _,_,0,.cons _ t=>t
 | _,_,i + 1,.cons r t=>.cons r (Cd.eraseIdx i t)
theorem Cd.reverse {xs:List V} {us:List Value} (h:Cd xs us):Cd xs.reverse us.reverse:=by
 induction h with
 | nil=>exact .nil
 | cons r t ih=>rw [List.reverse_cons,List.reverse_cons];exact Cd.append ih (.cons r .nil)
section
variable {X:Cx} {pins:List (Addr × Obj)} {σ:St} {H:Hp} {s:Shared} {l b:Addr} {xs ys zs:List V}
theorem Inv.lset {its its':List Value} {n:Nat} {f:Array Value→Array Value} {t':Nat} (I:Inv X pins σ H s) (hH:H l=some (.lst xs))
  (e:s.heap.get? l=some { cls:=.type "list",data:=.seq its.toArray n }) (hf:f its.toArray=its'.toArray) (hv:Cd ys its') (hz:ys.length ≤ sizeLine) :
  Inv X pins σ (upd H l (.lst ys)) { s with heap:=s.heap.update l (Obj.mapSeq f),toks:=t' }:=by
 have q:=PySem.IsL.update e f;rw [hf] at q;refine I.write (x:=l) (e:=l) (by rw [hH];exact trivial) (.inl rfl) (fun b' u hb hu=>(Heap.get?_update_other s.heap (Obj.mapSeq f) (Ne.symm hb)).trans hu) ⟨_,q⟩ ?_;exact ⟨hz,its',_,hv,q⟩
theorem Inv.lnew {its:List Value} {t':Nat} (I:Inv X pins σ H s) (hv:Cd ys its) (hz:ys.length ≤ sizeLine) :
  Inv X pins σ (upd H s.heap.objs.size (.lst ys)) { s with heap:=s.heap.push { cls:=.type "list",data:=.seq its.toArray },toks:=t' }:=
 I.laid (fun _ _ q=>Heap.get?_push_of_some _ q) (Nat.le_refl _) ⟨hz,its,0,hv,Heap.get?_push_size _ rfl⟩
theorem Inv.fresh (I:Inv X pins σ H s):H s.heap.objs.size=none:=I.hok.fresh (Nat.le_refl _)
theorem Inv.lstM (I:Inv X pins σ H s) (hH:H l=some (.lst xs)):xs.length ≤ sizeLine∧∃ (its:List Value) (n:Nat),Cd xs its∧xs.length=its.length∧s.heap.get? l=some { cls:=.type "list",data:=.seq its.toArray n }:=by
 obtain ⟨z,its,n,r,e⟩:=I.hok l _ hH;exact ⟨z,its,n,r,r.length,e⟩
theorem dJ {n:Nat} (h:n ≤ sizeLine):Builtin.List.listTooLong n=false:=by
 unfold Builtin.List.listTooLong;exact decide_eq_false (by omega)
end
section
variable {X:Cx}
noncomputable def xH:V→List V→Hp→VK→Prop:=fun x vs H Q=>di x fun l=>KD vs fun y=>∃ xs,H l=some (.lst xs)∧xs.length < sizeLine∧Q .non (upd H l (.lst (xs ++ [y])))
theorem Vk:MtM X "list.append" xH:=by
 intro pins s σ H x vs v us Q I rx rv h;obtain ⟨l,rfl,hzz⟩:=di.out h;obtain ⟨y,rfl,xs,hH,hz,q⟩:=KD.out hzz;cases rx;obtain ⟨u,rfl,ru⟩:=rv.one;obtain ⟨z,its,n,r,hl,e⟩:=I.lstM hH;refine call_meets F.slot_list_append ⟨_,e,rfl⟩ F.entry_list_append (F.args_list_append_2 _ _) (PySem.list_append l its.toArray n u (by rw [List.size_toArray];omega)) ⟨e,?_⟩;refine ⟨.non,_,I.lset (its':=its ++ [u]) hH e (by simp) (r.append (.cons ru .nil)) ?_,rfl,q⟩;rw [List.length_append,List.length_singleton];omega
noncomputable def vE:V→List V→Hp→VK→Prop:=fun x vs H Q=>∃ l b xs zs,x=.ref l∧vs=[.ref b]∧H l=some (.lst xs)∧H b=some (.lst zs)∧xs.length + zs.length ≤ sizeLine∧Q .non (upd H l (.lst (xs ++ zs)))
theorem iy:MtM X "list.extend" vE:=by
 intro pins s σ H x vs v us Q I rx rv h;obtain ⟨l,b,xs,zs,rfl,rfl,hH,hB,hz,q⟩:=h;cases rx;obtain ⟨u,rfl,ru⟩:=rv.one;cases ru;obtain ⟨z,its,n,r,hl,e⟩:=I.lstM hH;obtain ⟨z2,its2,n2,r2,hl2,e2⟩:=I.lstM hB;have hsz:its.toArray.size + its2.toArray.size ≤ sizeLine:=by rw [List.size_toArray,List.size_toArray];omega
 have hlong:¬ (!its.toArray.isEmpty && Builtin.List.listTooLong (its.toArray.size + its2.toArray.size))=true:=by
  rw [dJ hsz,Bool.and_false];exact Bool.false_ne_true
 refine call_meets F.slot_list_extend ⟨_,e,rfl⟩ F.entry_list_extend (F.args_list_extend_2 _ _)
  (AutoSeq1.list_extend_list_list_0 l its.toArray n b its2.toArray n2 hlong (by rw [List.size_toArray];omega) (by omega)) ⟨e,e2,?_⟩
 refine ⟨.non,_,I.lset (its':=its ++ its2) hH e (by simp) (r.append r2) ?_,rfl,q⟩;rw [List.length_append];omega
noncomputable def uA:V→List V→Hp→VK→Prop:=fun x vs H Q=>∃ l xs,x=.ref l∧vs=[]∧H l=some (.lst xs)∧Q .non (upd H l (.lst xs.reverse))
theorem iD:MtM X "list.reverse" uA:=by
 intro pins s σ H x vs v us Q I rx rv h;obtain ⟨l,xs,rfl,rfl,hH,q⟩:=h;cases rx;have hus:=rv.zero;subst hus;obtain ⟨z,its,n,r,hl,e⟩:=I.lstM hH;refine call_meets F.slot_list_reverse ⟨_,e,rfl⟩ F.entry_list_reverse (F.args_list_reverse_1 _) (AutoSeq1.list_reverse_list_0 l its.toArray n (by rw [List.size_toArray];omega)) ⟨e,?_⟩;refine ⟨.non,_,I.lset (its':=its.reverse) hH e (by simp) r.reverse ?_,rfl,q⟩;rw [List.length_reverse];omega
noncomputable def XR:R2:=fun x y H Q=>∃ l b xs zs,x=.ref l∧y=.ref b∧H l=some (.lst xs)∧H b=some (.lst zs)∧xs.length + zs.length ≤ sizeLine∧∀ p,H p=none→Q (.ref p) (upd H p (.lst (xs ++ zs)))
theorem fP:OpR X (binaryOp .Add) XR:=by
 intro pins s σ H x y v u Q I rx ry h;obtain ⟨l,b,xs,zs,rfl,rfl,hH,hB,hz,q⟩:=h;cases rx;cases ry;obtain ⟨z,its,n,r,hl,e⟩:=I.lstM hH;obtain ⟨z2,its2,n2,r2,hl2,e2⟩:=I.lstM hB;refine PySem.P.add_list e e2 ?_ (by rw [List.size_toArray,List.size_toArray];omega);have ea:its.toArray ++ its2.toArray=(its ++ its2).toArray:=by simp
 rw [ea];exact ⟨.ref _,_,I.lnew (t':=s.toks) (r.append r2) (by rw [List.length_append];omega),rfl,q _ I.fresh⟩
end
section
variable {prog:Program} {w:World} {A:Around} {E:Value→Shared→Prop} {s:Shared}
end
section
variable {X:Cx}
end
end L2
namespace L2
open PySem PySem.Spec PyProof.Rows
section
variable {κ:Type} [DecidableEq κ]
noncomputable def Ol (kvs:List (κ × V)) (k:κ):Option V:=(kvs.find? fun kv=>decide (kv.1=k)).map (·.2)
noncomputable def xq (kvs:List (κ × V)) (k:κ) (v:V):List (κ × V):=
 if (kvs.any fun kv=>decide (kv.1=k))=true then kvs.map (fun kv=>if kv.1=k then (kv.1,v) else kv) else kvs ++ [(k,v)]
noncomputable def UP (kvs:List (κ × V)) (k:κ):List (κ × V):=kvs.filter fun kv=>decide (kv.1 ≠ k)
theorem xo {p:κ × V} {r:List (κ × V)} {k:κ} (e:p.1=k):Ol (p :: r) k=some p.2:=by simp [Ol,List.find?_cons,e]
theorem Ao {p:κ × V} {r:List (κ × V)} {k:κ} (e:¬ p.1=k):Ol (p :: r) k=Ol r k:=by simp [Ol,List.find?_cons,e]
theorem tw (k:κ):∀ kvs:List (κ × V),(kvs.any fun kv=>decide (kv.1=k))=(Ol kvs k).isSome
 | []=>rfl
 | p :: r=>by
  rw [List.any_cons];by_cases e:p.1=k
  ·simp only [xo e,decide_eq_true e,Bool.true_or,Option.isSome_some]
  ·rw [Ao e,decide_eq_false e,Bool.false_or];exact tw k r
theorem Ds (kvs:List (κ × V)) (k:κ) (v:V):(xq kvs k v).length ≤ kvs.length + 1:=by
 unfold xq;split
 ·rw [List.length_map];omega
 ·rw [List.length_append,List.length_cons,List.length_nil];omega
theorem su.isSome_eq {o:Option V} {u:Option Value} (r:su o u):o.isSome=u.isSome:=by
 cases o with
 | none=>cases u with
  | none=>rfl
  | some _=>exact (show False from r).elim
 | some _=>cases u with
  | none=>exact (show False from r).elim
  | some _=>rfl
theorem su.getD {o:Option V} {u:Option Value} {d:V} {d':Value} (r:su o u) (rd:Vd d d'):Vd (o.getD d) (u.getD d'):=by
 cases o with
 | none=>cases u with
  | none=>exact rd
  | some _=>exact (show False from r).elim
 | some _=>cases u with
  | none=>exact (show False from r).elim
  | some _=>exact r
theorem KV.val {kvs:List (κ × V)} {vs:List (κ × Value)} (r:KV kvs vs) (k:κ):su (Ol kvs k) (valueAt vs k):=by
 unfold KV at r
 induction r with
 | nil=>exact True.intro
 | @cons p q ps qs h t ih=>
  obtain ⟨h1,h2⟩:=h;by_cases e:p.1=k
  ·have e':q.1=k:=h1.symm.trans e;have b:valueAt (q :: qs) k=some q.2:=by simp [valueAt,List.find?_cons,e']
   rw [xo e,b];exact h2
  ·have e':¬ q.1=k:=fun z=>e (h1.trans z)
   have b:valueAt (q :: qs) k=valueAt qs k:=by simp [valueAt,List.find?_cons,e']
   rw [Ao e,b];exact ih
theorem KV.any {kvs:List (κ × V)} {vs:List (κ × Value)} (r:KV kvs vs) (k:κ):(kvs.any fun kv=>decide (kv.1=k))=vs.any fun kv=>decide (kv.1=k):=by
 unfold KV at r
 induction r with
 | nil=>rfl
 | cons h t ih=>rw [List.any_cons,List.any_cons,ih,h.1]
theorem KV.repl {kvs:List (κ × V)} {vs:List (κ × Value)} (r:KV kvs vs) (k:κ) {y:V} {u:Value} (ry:Vd y u) :
  KV (kvs.map fun kv=>if kv.1=k then (kv.1,y) else kv) (vs.map fun kv=>if kv.1=k then (kv.1,u) else kv):=by
 unfold KV at r ⊢
 induction r with
 | nil=>exact .nil
 | @cons p q ps qs h t ih=>
  rw [List.map_cons,List.map_cons];refine .cons ?_ ih;obtain ⟨h1,h2⟩:=h;by_cases e:p.1=k
  ·rw [if_pos e,if_pos (h1.symm.trans e)];exact ⟨h1,ry⟩
  ·rw [if_neg e,if_neg (fun z=>e (h1.trans z))];exact ⟨h1,h2⟩
theorem KV.put {kvs:List (κ × V)} {vs:List (κ × Value)} (r:KV kvs vs) (k:κ) {y:V} {u:Value} (ry:Vd y u):KV (xq kvs k y) (stored vs k u):=by
 unfold xq stored;rw [r.any k];by_cases e:(vs.any fun kv=>decide (kv.1=k))=true
 ·rw [if_pos e,if_pos e];exact r.repl k ry
 ·rw [if_neg e,if_neg e];exact Paired.snoc r ⟨rfl,ry⟩
theorem KV.drop {kvs:List (κ × V)} {vs:List (κ × Value)} (r:KV kvs vs) (k:κ):KV (UP kvs k) (without vs k):=by
 unfold KV at r ⊢;unfold UP without
 induction r with
 | nil=>exact .nil
 | @cons p q ps qs h t ih=>
  obtain ⟨h1,h2⟩:=h;rw [List.filter_cons,List.filter_cons];by_cases e:p.1=k
  ·have a:¬ decide (p.1 ≠ k)=true:=by simp [e]
   have b:¬ decide (q.1 ≠ k)=true:=by simp [h1.symm.trans e]
   rw [if_neg a,if_neg b];exact ih
  ·have e':¬ q.1=k:=fun z=>e (h1.trans z)
   have a:decide (p.1 ≠ k)=true:=by simp [e]
   have b:decide (q.1 ≠ k)=true:=by simp [e']
   rw [if_pos a,if_pos b];exact .cons ⟨h1,h2⟩ ih
theorem KV.keys {kvs:List (κ × V)} {vs:List (κ × Value)} (r:KV kvs vs):kvs.map (·.1)=vs.map (·.1):=by
 unfold KV at r
 induction r with
 | nil=>rfl
 | cons h t ih=>rw [List.map_cons,List.map_cons,ih,h.1]
theorem KV.length {kvs:List (κ × V)} {vs:List (κ × Value)} (r:KV kvs vs):kvs.length=vs.length:=Paired.length r
end
theorem yJ {P:Program} {w:World} {k:Key} {u:Value} (r:Vd (kV k) u):(Ge P w).is k u=true:=by
 cases k with
 | inl i=>obtain ⟨t,e⟩:=(show ∃ t,u=Value.int i t from r);subst e;exact Cz P w i t
 | inr x=>obtain ⟨t,e⟩:=(show ∃ t,u=Value.str x t from r);subst e;exact Uz P w x t
theorem ny {P:Program} {w:World}:∀ {ks:List Key} {us:List Value},Cd (ks.map kV) us→ItemsAre (Ge P w) ks us
 | [],_,r=>by rw [List.map_nil] at r;cases r;exact .nil
 | k :: ks,_,r=>by
  rw [List.map_cons] at r;cases r with
  | cons h t=>exact .cons (yJ h) (ny t)
noncomputable abbrev KT (H:Hp):List (List Key × V)→List (List Key × Addr × Value)→Prop:=Paired fun p q=>p.1=q.1∧H q.2.1=some (.tup (p.1.map kV))∧Vd p.2 q.2.2
theorem KT.val {H:Hp} {kvs:List (List Key × V)} {xs:List (List Key × Addr × Value)} (r:KT H kvs xs) (k:List Key):su (Ol kvs k) ((atKey xs k).map (·.2)):=by
 induction r with
 | nil=>exact True.intro
 | @cons p q ps qs h t ih=>
  obtain ⟨h1,_,h2⟩:=h;by_cases e:p.1=k
  ·have e':q.1=k:=h1.symm.trans e;have b:atKey (q :: qs) k=some q.2:=by simp [atKey,List.find?_cons,e']
   rw [xo e,b];exact h2
  ·have e':¬ q.1=k:=fun z=>e (h1.trans z)
   have b:atKey (q :: qs) k=atKey qs k:=by simp [atKey,List.find?_cons,e']
   rw [Ao e,b];exact ih
theorem KT.repl {H:Hp} {kvs:List (List Key × V)} {xs:List (List Key × Addr × Value)} (r:KT H kvs xs) (k:List Key) {y:V} {u:Value} (ry:Vd y u) :
  KT H (kvs.map fun kv=>if kv.1=k then (kv.1,y) else kv) (xs.map (putAt k u)):=by
 induction r with
 | nil=>exact .nil
 | @cons p q ps qs h t ih=>
  rw [List.map_cons,List.map_cons];refine .cons ?_ ih;obtain ⟨h1,h2,h3⟩:=h;unfold putAt;by_cases e:p.1=k
  ·rw [if_pos e,if_pos (h1.symm.trans e)];exact ⟨h1,h2,ry⟩
  ·rw [if_neg e,if_neg (fun z=>e (h1.trans z))];exact ⟨h1,h2,h3⟩
theorem KT.put {H:Hp} {kvs:List (List Key × V)} {xs:List (List Key × Addr × Value)} (r:KT H kvs xs) (k:List Key) {b:Addr} {y:V} {u:Value} (hb:H b=some (.tup (k.map kV))) (ry:Vd y u) :
  KT H (xq kvs k y) (storedH xs k b u):=by
 have e:(kvs.any fun kv=>decide (kv.1=k))=(atKey xs k).isSome:=by
  rw [tw,(r.val k).isSome_eq,Option.isSome_map]
 unfold xq storedH;rw [e];by_cases q:(atKey xs k).isSome=true
 ·rw [if_pos q,if_pos q];exact r.repl k ry
 ·rw [if_neg q,if_neg q];exact Paired.snoc r ⟨rfl,hb,ry⟩
theorem KT.keeps {H H':Hp} {kvs:List (List Key × V)} {xs:List (List Key × Addr × Value)} (r:KT H kvs xs) (ht:∀ b ys,H b=some (.tup ys)→H' b=some (.tup ys)):KT H' kvs xs:=
 Paired.mapP r fun _ _ z=>⟨z.1,ht _ _ z.2.1,z.2.2⟩
section
variable {P:Program} {w:World} {H:Hp} {h:Heap} {a:Addr}
theorem ZP {u:HO} (ok:HOk P w H h) (e:Rd H a u):we P w H h a u:=e.ok ok
theorem mK {kvs:List (Key × V)} (ok:HOk P w H h) (e:Rd H a (.dK kvs)):kvs.length ≤ sizeLine∧(a == sysModules)=false∧∃ vs,KV kvs vs∧h.DictOf (Ge P w) a vs:=
 show we P w H h a (.dK kvs) from ZP ok e
theorem JQ {kvs:List (Key × V)} (ok:HOk P w H h) (e:H a=some (.dK kvs)):kvs.length ≤ sizeLine∧(a == sysModules)=false∧∃ vs,KV kvs vs∧h.DictOf (Ge P w) a vs:=mK ok (.inl e)
theorem Ls {ks:List Key} (ok:HOk P w H h) (e:H a=some (.tup (ks.map kV))):(tupleKind (Ge P w)).is h ks a:=by
 obtain ⟨_,its,r,o,h1,h2,n,h3⟩:=(show we P w H h a (.tup (ks.map kV)) from ok a _ e);exact ⟨o,its.toArray,n,h1,h2,h3,by simpa using ny r⟩
theorem jJ {kvs:List (List Key × V)} (ok:HOk P w H h) (e:Rd H a (.dT kvs)):kvs.length ≤ sizeLine∧(a == sysModules)=false ∧
  ∃ xs,KT H kvs xs∧h.DictOfH (tupleKind (Ge P w)) a xs:=by
 obtain ⟨z,y,xs,r,o,es,ep,h1,h2,h3,h4,h5⟩:=(show we P w H h a (.dT kvs) from ZP ok e);refine ⟨z,y,xs,r,o,es,ep,h1,h2,h3,h4,fun x hx=>?_,h5⟩;have all:∀ {l:List (List Key × V)} {m:List (List Key × Addr × Value)},KT H l m→∀ x ∈ m,(tupleKind (Ge P w)).is h x.1 x.2.1:=by
  intro l m q
  induction q with
  | nil=>intro x hx;exact nomatch hx
  | @cons p q ps qs hq t ih=>
   intro x hx;rcases List.mem_cons.mp hx with e | hx
   ·subst e;exact Ls ok (by rw [← hq.1];exact hq.2.1)
   ·exact ih x hx
 exact all r x hx
theorem zN {kvs:List (List Key × V)} (ok:HOk P w H h) (e:H a=some (.dT kvs)):kvs.length ≤ sizeLine∧(a == sysModules)=false ∧
  ∃ xs,KT H kvs xs∧h.DictOfH (tupleKind (Ge P w)) a xs:=jJ ok (.inl e)
end
def jw (H:Hp) (a:Addr) (y:V) (r:Option V):Prop:=
 (∃ kvs k,Rd H a (.dK kvs)∧y=kV k∧r=Ol kvs k)∨∃ kvs k b,Rd H a (.dT kvs)∧y=.ref b∧H b=some (.tup (k.map kV))∧r=Ol kvs k
def sE (H:Hp) (a:Addr) (y v:V) (H':Hp):Prop:=
 (∃ kvs k,H a=some (.dK kvs)∧y=kV k∧kvs.length < sizeLine∧H'=upd H a (.dK (xq kvs k v))) ∨
 ∃ kvs k b,H a=some (.dT kvs)∧y=.ref b∧H b=some (.tup (k.map kV))∧kvs.length < sizeLine∧H'=upd H a (.dT (xq kvs k v))
theorem jw.k {H:Hp} {a:Addr} {kvs:List (Key × V)} {k:Key} (e:H a=some (.dK kvs)):jw H a (kV k) (Ol kvs k):=.inl ⟨kvs,k,.inl e,rfl,rfl⟩
theorem jw.t {H:Hp} {a b:Addr} {kvs:List (List Key × V)} {k:List Key} (e:H a=some (.dT kvs)) (eb:H b=some (.tup (k.map kV))):jw H a (.ref b) (Ol kvs k):=.inr ⟨kvs,k,b,.inl e,rfl,eb,rfl⟩
theorem sE.k {H:Hp} {a:Addr} {kvs:List (Key × V)} {k:Key} {v:V} (e:H a=some (.dK kvs)) (hl:kvs.length < sizeLine):sE H a (kV k) v (upd H a (.dK (xq kvs k v))):=.inl ⟨kvs,k,e,rfl,hl,rfl⟩
theorem sE.t {H:Hp} {a b:Addr} {kvs:List (List Key × V)} {k:List Key} {v:V} (e:H a=some (.dT kvs)) (eb:H b=some (.tup (k.map kV))) (hl:kvs.length < sizeLine) :
  sE H a (.ref b) v (upd H a (.dT (xq kvs k v))):=.inr ⟨kvs,k,b,e,rfl,eb,hl,rfl⟩
section
variable {X:Cx} {pins:List (Addr × Obj)} {σ:St} {H:Hp} {s:Shared} {a:Addr} {y v:V} {u r:Value} {o:Option V} {A:Around} {E:Value→Shared→Prop}
theorem Inv.big (I:Inv X pins σ H s):sysModules < s.heap.objs.size:=by
 have h:mainGlobals < s.heap.objs.size:=(I.mod.glob.keeps I.bk).lt;exact Nat.lt_trans (by decide) h
theorem dI {Q:Value→Shared→Prop} (hu:A.units + 1 < cLine) (I:Inv X pins σ H s) (g:jw H a y (some v)) (ry:Vd y u) (h:∀ w' s',Inv X pins σ H s'→Vd v w'→Q w' s') :
  wpAny (model X.prog X.w) A (getItem (.ref a) u) Q E s:=by
 rcases g with ⟨kvs,k,e,ey,l⟩ | ⟨kvs,k,b,e,ey,eb,l⟩
 ·subst ey;obtain ⟨z,hd,vs,rel,dd⟩:=mK I.hok e;obtain ⟨w',hw,rw'⟩:=su.some_of (v:=v) (o:=valueAt vs k) (by rw [l];exact rel.val k);exact wpAny_getItem_of (yJ ry) dd.mapOf hw (h w' _ (I.tok _) rw')
 ·subst ey;cases (show u=Value.ref b from ry);obtain ⟨z,hd,xs,rel,dd⟩:=jJ I.hok e;obtain ⟨w',hw,rw'⟩:=su.some_of (v:=v) (o:=(atKey xs k).map (·.2)) (by rw [l];exact rel.val k);obtain ⟨p,hp,hp2⟩:=Option.map_eq_some_iff.mp hw;refine wpAny_getItem_heap (tupleKind_room_in1 hu) (Ls I.hok eb) dd hp ?_;rw [hp2];exact h w' _ (I.tok _) rw'
theorem LM {Q:Value→Shared→Prop} (hu:A.units + 1 < cLine) (I:Inv X pins σ H s) (g:jw H a y o) (ry:Vd y u) (h:∀ s',Inv X pins σ H s'→Q (.bool (!o.isSome)) s') :
  wpAny (model X.prog X.w) A (compareOp .NotIn u (.ref a)) Q E s:=by
 rcases g with ⟨kvs,k,e,ey,l⟩ | ⟨kvs,k,b,e,ey,eb,l⟩
 ·subst ey;obtain ⟨z,hd,vs,rel,dd⟩:=mK I.hok e;refine wpAny_notIn_of (yJ ry) hd dd.mapOf ?_;rw [← (rel.val k).isSome_eq,← l];exact h _ (I.tok _)
 ·subst ey;cases (show u=Value.ref b from ry);obtain ⟨z,hd,xs,rel,dd⟩:=jJ I.hok e;refine wpAny_notIn_heap (tupleKind_room_in1 hu) (Ls I.hok eb) hd dd ?_;have q:=(rel.val k).isSome_eq;rw [Option.isSome_map] at q;rw [← q,← l];exact h _ (I.tok _)
theorem RE {h':Heap} {t':Nat} {ob:HO} (I:Inv X pins σ H s) (mu:Mut (H a)) (hs:Heap.SameBut a s.heap h') (he:∃ q,h'.get? a=some q) (new:we X.prog X.w (upd H a ob) h' a ob) :
  Inv X pins σ (upd H a ob) { s with heap:=h',toks:=t' }:=
 I.write (x:=a) (e:=a) mu (.inl rfl) (fun b q hb z=>(hs.2 b hb).trans z) he new
theorem RO {P:Program} {w:World} {H':Hp} {h':Heap} {kvs:List (Key × V)} {vs:List (Key × Value)} (z:kvs.length ≤ sizeLine) (hd:(a == sysModules)=false) (rel:KV kvs vs) (dd:h'.DictOf (Ge P w) a vs) :
  we P w H' h' a (.dK kvs):=⟨z,hd,vs,rel,dd⟩
theorem gx {H':Hp} {Q:Unit→Shared→Prop} (hu:A.units + 1 < cLine) (I:Inv X pins σ H s) (g:sE H a y v H') (ry:Vd y u) (rv:Vd v r) (h:∀ s',Inv X pins σ H' s'→Q () s') :
  wpAny (model X.prog X.w) A (setItem (.ref a) u r) Q E s:=by
 rcases g with ⟨kvs,k,e,ey,l,eH⟩ | ⟨kvs,k,b,e,ey,eb,l,eH⟩
 ·subst ey eH;obtain ⟨z,hd,vs,rel,dd⟩:=JQ I.hok e;have hz:vs.length ≤ sizeLine:=by rw [← rel.length];exact z
  have hl:(xq kvs k v).length ≤ sizeLine:=by have:=Ds kvs k v;omega
  refine wpAny_setItem_pairs (hsz:=hz) (yJ ry) dd fun h' dd' hs=>h _ ?_
  have he:∃ q,h'.get? a=some q:=let ⟨q,_,_,hq,_⟩:=dd';⟨q,hq⟩;exact RE I (by rw [e];exact True.intro) hs he (RO hl hd (rel.put k rv) dd')
 ·subst ey eH;cases (show u=Value.ref b from ry);obtain ⟨z,hd,xs,rel,dd⟩:=zN I.hok e;have hz:xs.length ≤ sizeLine:=by rw [← Paired.length rel];exact z
  have hl:(xq kvs k v).length ≤ sizeLine:=by have:=Ds kvs k v;omega
  refine wpAny_setItem_heap (hsz:=hz) (tupleKind_room_in1 hu) (Ls I.hok eb) dd fun h' dd' hs=>h _ ?_
  obtain ⟨q,es,ep,hq,h2,h3,h4,_,h5⟩:=dd';refine RE I (by rw [e];exact True.intro) hs ⟨q,hq⟩ ⟨hl,hd,_,(rel.put k eb rv).keeps fun c ys ec=>?_,q,es,ep,hq,h2,h3,h4,h5⟩;rw [wb (Hf ec e (fun z=>nomatch z))];exact ec
end
section
variable {X:Cx} {pins:List (Addr × Obj)} {σ:St} {H:Hp} {s:Shared} {a:Addr} {kvs:List (Key × V)} {k:Key} {u:Value} {A:Around} {E:Value→Shared→Prop}
end
def vR (i:Expr):Prop:=∀ ov iv,subscripted i false ov iv=operate [ov,iv] (getItem ov iv)
theorem DG {prog:Program} {w:World} {A:Around} {E:Value→Shared→Prop} {s:Shared} {env:Env} {value slice:Expr} {pos:Pos} {T id:String} {Q:Value→Shared→Prop}
  (hl:typeLookup (.type T) "__getitem__"=pure (some (.builtin id))) (hs:vR slice)
  (h:wpAny (model prog w) A (eval value env) (fun o s₁=>wpAny (model prog w) A (eval slice env) (fun i s₂=>s₂.TypeIs o T∧wpAny (model prog w) A (getItem o i) Q E s₂) E s₁) E s) :
  wpAny (model prog w) A (eval (.Subscript value slice pos) env) Q E s:=by
 refine Subscript_ (wpAny_mono h (fun o s₁ h₁=>wpAny_mono h₁ (fun i s₂ h₂=>?_) fun _ _ x=>x) fun _ _ x=>x);obtain ⟨hT,h₂⟩:=h₂;unfold subscriptTail;refine wpAny_bind ?_;rw [getitemInPython_of_ne hT.not_modules];refine wpAny_bind (wpAny_specialOf hT hl ?_);have fin:wpAny (model prog w) A (subscripted slice false o i) (fun r s₃=>wpAny (model prog w) A (letTemporaryGo value o r >>= fun _=>pure r) Q E s₃) E s₂:=by
  rw [hs o i];exact wpAny_operating (wpAny_mono h₂ (fun r s₃ h₃=>wpAny_bind (wpAny_letTemporaryGo (wpAny_pure h₃))) fun _ _ x=>x)
 first
  | exact wpAny_pure (wpAny_bind fin)
  | exact wpAny_bind (wpAny_pure (wpAny_bind fin))
  | exact wpAny_bind fin
theorem Pz {X:Cx} {pins:List (Addr × Obj)} {σ:St} {H:Hp} {s:Shared} {a:Addr} {y:V} {o:Option V} (I:Inv X pins σ H s) (g:jw H a y o):s.TypeIs (.ref a) "dict" := by
 rcases g with ⟨kvs,k,e,_,_⟩ | ⟨kvs,k,b,e,_,_,_⟩
 ·obtain ⟨_,_,vs,_,dd⟩:=mK I.hok e;exact dd.typeIs
 ·obtain ⟨_,_,xs,_,dd⟩:=jJ I.hok e;exact dd.typeIs
noncomputable def HP (td ty:TE):TE:=fun σ H Q=>td σ H fun x H1=>ty σ H1 fun y H2=>di x fun a=>∃ v,jw H2 a y (some v)∧Q v H2
noncomputable def BH (ty td:TE):TE:=fun σ H Q=>ty σ H fun y H1=>td σ H1 fun x H2=>di x fun a=>∃ o,jw H2 a y o∧Q (.bl (!o.isSome)) H2
noncomputable def iP (td ty tv:TE):TS:=fun D σ H=>tv σ H fun v H1=>td σ H1 fun x H2=>ty σ H2 fun y H3=>di x fun a=>∃ H4,sE H3 a y v H4∧D.nx σ H4
section
variable {X:Cx} {o i e value:Expr} {pos pos' tpos:Pos} {td ty tv:TE}
theorem Yo (hu:X.A.units + 1 < cLine) (ho:PE X o td) (hi:PE X i ty) (hs:vR i):PE X (.Subscript o i pos) (HP td ty):=by
 intro pins s σ H Q I h;refine DG PySem.F.slot_dict_getitem.lookup hs (thn (ho pins s σ H _ I h) fun u s1 ⟨x,H1,I1,rx,q1⟩=>thn (hi pins s1 σ H1 _ I1 q1) fun iv s2 hZ1=>?_);obtain ⟨y,H2,I2,ry,zq⟩:=hZ1;obtain ⟨a,ex,v,g,q2⟩:=di.out zq;subst ex;obtain rfl:u=Value.ref a:=rx;exact ⟨Pz I2 g,dI hu I2 g ry fun w' s3 I3 rw'=>⟨v,H2,I3,rw',q2⟩⟩
theorem FG (hu:X.A.units + 1 < cLine) (hi:PE X i ty) (ho:PE X o td):PC X .NotIn i o (BH ty td):=by
 intro pins s σ H Q I h;refine thn (hi pins s σ H _ I h) fun iv s1 ⟨y,H1,I1,ry,q1⟩=>thn (ho pins s1 σ H1 _ I1 q1) fun u s2 hZ1=>?_
 obtain ⟨x,H2,I2,rx,zq⟩:=hZ1;obtain ⟨a,ex,ov,g,q2⟩:=di.out zq;subst ex;obtain rfl:u=Value.ref a:=rx;exact LM hu I2 g ry fun s3 I3=>⟨.bl (!ov.isSome),H2,I3,rfl,q2⟩
theorem lw (hu:X.A.units + 1 < cLine) (ho:PE X o td) (hi:PE X i ty) (hv:PE X value tv) (hs:swapsWith value (some (.Subscript o i pos')) pos.line X.env=pure false) :
  PS X (.Assign [.Subscript o i pos'] value pos) (iP td ty tv):=by
 intro pins s σ H D I h;refine wpAny_Assign_Subscript (thn (hv pins s σ H _ I h) fun r s1 ⟨v,H1,I1,rv,q1⟩=>thn (ho pins s1 σ H1 _ I1 q1) fun u s2 ⟨x,H2,I2,rx,q2⟩=>thn (hi pins s2 σ H2 _ I2 q2) fun iv s3 hZ1=>?_) hs;obtain ⟨y,H3,I3,ry,zq⟩:=hZ1;obtain ⟨a,ex,H4,g,q3⟩:=di.out zq;subst ex;obtain rfl:u=Value.ref a:=rx;exact gx hu I3 g ry rv fun s4 I4=>⟨σ,H4,I4,q3⟩
end
theorem oJ {P:Program} {w:World} {H:Hp} (h:Heap) (hb:sysModules < h.objs.size):we P w H (h.push { cls:=.type "dict",data:=.dict #[] }) h.objs.size (.dK []):=
 ⟨Nat.zero_le _,beq_eq_false_iff_ne.mpr (Ne.symm (Nat.ne_of_lt hb)),[],.nil,Heap.DictOf.new h⟩
theorem kK {P:Program} {w:World} {H:Hp} (h:Heap) (hb:sysModules < h.objs.size):we P w H (h.push { cls:=.type "dict",data:=.dict #[] }) h.objs.size (.dT []):=
 ⟨Nat.zero_le _,beq_eq_false_iff_ne.mpr (Ne.symm (Nat.ne_of_lt hb)),[],.nil,_,#[],0,Heap.get?_push_size _ rfl,⟨rfl,rfl,rfl⟩,rfl,rfl,List.nodup_nil⟩
noncomputable def MK:TE:=fun _ H Q=>∀ p,H p=none→Q (.ref p) (upd H p (.dK []))
noncomputable def ZL:TE:=fun _ H Q=>∀ p,H p=none→Q (.ref p) (upd H p (.dT []))
section
variable {X:Cx} {pos:Pos}
theorem Fq:PE X (.Dict [] [] pos) MK:=fun pins s σ H Q I h=>
 wpAny_Dict_empty ⟨.ref s.heap.objs.size,_,I.laid (a:=s.heap.objs.size) (o:=.dK []) (t':=s.toks) (fun _ _ q=>Heap.get?_push_of_some _ q) (Nat.le_refl _) (oJ s.heap I.big),rfl,h _ (I.hok.fresh (Nat.le_refl _))⟩
theorem fK:PE X (.Dict [] [] pos) ZL:=fun pins s σ H Q I h=>
 wpAny_Dict_empty ⟨.ref s.heap.objs.size,_,I.laid (a:=s.heap.objs.size) (o:=.dT []) (t':=s.toks) (fun _ _ q=>Heap.get?_push_of_some _ q) (Nat.le_refl _) (kK s.heap I.big),rfl,h _ (I.hok.fresh (Nat.le_refl _))⟩
end
noncomputable def oO (kvs more:List (Key × V)):List (Key × V):=more.foldl (fun acc kv=>xq acc kv.1 kv.2) kvs
theorem KV.merge:∀ {more:List (Key × V)} {rs:List (Key × Value)} {kvs:List (Key × V)} {vs:List (Key × Value)},KV more rs→KV kvs vs→KV (oO kvs more) (merged vs rs):=by
 intro more rs kvs vs r;unfold KV at r
 induction r generalizing kvs vs with
 | nil=>intro q;exact q
 | @cons p q ps qs h t ih=>
  intro r0;have e:KV (xq kvs p.1 p.2) (stored vs q.1 q.2):=by
   have:=r0.put p.1 h.2;rw [← h.1];exact this
  exact ih e
structure M1 (X:Cx) (o:Expr) (m:Str) (apos:Pos) (e:Expr) (cpos:Pos):Prop where
 base:attributeBase o m X.env (eval o X.env)=eval o X.env
 few:((backTo cpos (starEach [e] X.env)).all (fun x=>!x.1) && (backToKw cpos (keywordEach [] X.env)).all (fun x=>x.1.isSome)
  && decide (([e]:List Expr).length + ([]:List Keyword).length + (if ([]:List Keyword).isEmpty then 0 else 1) < 30))=true
 line:(apos.endLine == cpos.line)=true
 trees:backTo cpos (starEach [e] X.env)=[(false,eval e X.env)]
structure M2 (X:Cx) (o:Expr) (m:Str) (apos:Pos) (e f:Expr) (cpos:Pos):Prop where
 base:attributeBase o m X.env (eval o X.env)=eval o X.env
 few:((backTo cpos (starEach [e,f] X.env)).all (fun x=>!x.1) && (backToKw cpos (keywordEach [] X.env)).all (fun x=>x.1.isSome)
  && decide (([e,f]:List Expr).length + ([]:List Keyword).length + (if ([]:List Keyword).isEmpty then 0 else 1) < 30))=true
 line:(apos.endLine == cpos.line)=true
 trees:backTo cpos (starEach [e,f] X.env)=[(false,eval e X.env),(false,eval f X.env)]
section
variable {X:Cx} {pins:List (Addr × Obj)} {σ:St} {H:Hp} {s:Shared} {a:Addr} {y d:V} {u r:Value} {o:Option V} {A:Around} {E:Value→Shared→Prop}
end
section
variable {X:Cx} {o e f:Expr} {apos cpos:Pos} {td ty tx:TE}
end
section
variable {X:Cx} {pins:List (Addr × Obj)} {σ:St} {H:Hp} {s:Shared} {a:Addr} {kvs:List (Key × V)} {A:Around} {E:Value→Shared→Prop}
end
section
variable {X:Cx} {pins:List (Addr × Obj)} {σ:St} {H:Hp} {s:Shared} {a:Addr} {y:V} {u:Value} {A:Around} {E:Value→Shared→Prop}
end
end L2
namespace Att
open PySem PySem.W PySem.Calls PyProof.Rows
theorem Ur {P:Params} {h:Heap}:∀ (ns:List Int) (vs:List Value),WellAll P h vs (ns.map WData.int)→IntsAre vs ns:=by
 intro ns
 induction ns with
 | nil=>
  intro vs w;rw [List.map_nil] at w;cases w;exact .nil
 | cons n ns ih=>
  intro vs w;rw [List.map_cons] at w;cases w with
  | cons a b=>
   cases a;exact .cons _ _ (ih _ b)
theorem BI {l:OpenLaw} {n:Nat} (hn:l.most=some n) {P:Params} {h:Heap} {args:List WData} {vals:List Value}
  (hpre:l.row.toRowW.claim.pre args=true) (hwl:WellAll P h vals args) :
  ∃ a vs ns,vals=[Value.ref a]∧args=[WData.list (ns.map WData.int)]∧h.get? a=some { cls:=.type "list",data:=.seq vs.toArray }∧IntsAre vs ns∧ns.length ≤ n:=by
 have hsh:WShape.hasAll [] args [.list .int]=true:=(pre_splitW hpre).1;have hc:l.pre.holds [] { args:=args }=true:=(pre_splitW hpre).2;obtain ⟨d,r,rfl,h1,h2⟩:=hasAllW_cons hsh;obtain rfl:=hasAllW_nil h2;obtain ⟨xs,rfl,h3⟩:=hasW_list h1;obtain ⟨ns,rfl⟩:=items_int h3;have hlen:ns.length ≤ n:=by
  unfold OpenLaw.pre at hc;have h4:(WTm.not (.lt (.lit (.int (n:Int))) (.len (.arg 0)))).holds [] { args:=[.list (ns.map .int)] }=true:=by
   have h4:=(holds_andW hc).1;rw [hn] at h4;exact h4
  have h5:=condW_of h4 (w_not (w_lt w_lit (w_len_list (w_arg rfl))));rw [List.length_map] at h5;refine Nat.le_of_not_lt fun q=>?_
  have q':(n:Int) < ((ns.length:Nat):Int):=by omega
  first
   | (rw [decide_eq_true q'] at h5;exact absurd h5 (by decide))
   | (simp at h5;omega)
 cases hwl with
 | cons w1 w2=>
  cases w2;cases w1 with
  | list ho hall=>exact ⟨_,_,ns,rfl,rfl,ho,Ur ns _ hall,hlen⟩
theorem GE (l:OpenLaw) (args:List WData):l.row.toRowW.claim.post args (.bool true) args=true:=
 postW_of (r:=l.row.toRowW) (X:=(true == true))
  (show WShape.has [] (.bool true) .bool=true by first | rfl | decide | simp [WShape.has,WShape.arms,WShape.armsAll])
  (show (WTm.eq .res (.lit (.bool true))).value [] { args:=args,res:=some (.bool true),after:=args }=some (.bool (true == true)) from w_eq_bool (w_res rfl) w_lit) rfl
theorem attach_call {l:OpenLaw} {n:Nat} {q:Program} {loose:List Str} {XP:(Str→Option Value)→Heap→Prop} {YP:World→Heap→Prop} {d:DefRec}
  (hn:l.most=some n) (hdf:d.params.defaults=[])
  (call:∀ (w:World) (s₀ s₁:Shared) (mg mb:Str→Option Value) (fa:Addr) (o:Obj) (pm cd doc:Value) (a:Addr) (vs:List Value) (ns:List Int),
   Ground q loose [] XP w s₀ mg mb s₁.heap→YP w s₁.heap →
   s₁.heap.get? fa=some o→o.data=.func (docDef d.name d.params d.body d.scope pm cd doc)→s₁.heap.CodeRec cd d.name→mg d.name=some (.ref fa) →
   s₁.heap.get? a=some { cls:=.type "list",data:=.seq vs.toArray }→IntsAre vs ns→ns.length ≤ n→s₁.gens=#[] →
   codeAny (model l.prog w) callerA (.call (.ref fa) ⟨[.ref a],[]⟩) (fun r s'=>r=.ok (.ret (.bool true))∧OldK s₁.heap s'.heap∧s'.os=s₁.os∧AllBare s'.gens) s₁) :
  WalkO q loose XP YP l.row.toRowW d [] (fun f vs=>PySem.call f vs):=by
 intro w s₀ s₁ mg mb G Y fa o pm cd doc dV kV ho hd hcd hD hmg hg args vals as hpre hlay hrd hwl hlo;obtain rfl:dV=.none:=Dflts.none hD hdf;obtain rfl:kV=.none:=Dflts.noKw hD;obtain ⟨a,vs,ns,rfl,rfl,hobj,hints,hlen⟩:=BI hn hpre hwl;refine enter_call (codeAny_mono (call w s₀ s₁ mg mb fa o pm cd doc a vs ns G Y ho (fd_plain hd) hcd hmg hobj hints hlen hg) fun r s' hq=>?_);obtain ⟨rfl,h2,h3,h4⟩:=hq;exact ⟨.inl ⟨.bool true,.bool true,[],rfl,fun _=>rfl,.bool true,GE l _,fun _=>⟨List.Pairwise.nil,fun _ hm=>(nomatch hm)⟩⟩,h2,h3,h4⟩
section
variable {prog:Program} {w:World} {A:Around} {E:Value→Shared→Prop} {s:Shared} {K:Frag}
end
end Att
namespace L2
open PySem PySem.Spec PyProof.Rows
theorem Xw:∀ {vs:List Value} {ns:List Int},IntsAre vs ns→Cd (ns.map V.int) vs
 | _,_,.nil=>.nil
 | _,_,.cons n t h=>.cons ⟨t,rfl⟩ (Xw h)
def eQ (H:Hp):Prop:=∀ b,H b=none∨∃ o xs,H b=some (.frz o (.lst xs))
theorem eK {P:Program} {w:World} {K:PySem.W.Frag} {mg mb:Str→Option Value} {CX:CXT} {k:Nat} {fa a:Addr} {fd:FuncData} {x:Str} {sp:Sp} {s₁:Shared} {vs:List Value} {ns:List Int}
  (KX:K.In s₁.heap) (hns:s₁.heap.Ns mainGlobals mg) (hb:s₁.heap.Ns builtinsNs mb) (hbb:∀ x:Str,x ≠ "__name__" → mb x=bootBuiltins x) (hlim:s₁.heap.NoLimit) (hg:s₁.gens=#[])
  (ha:s₁.heap.get? a=some { cls:=.type "list",data:=.seq vs.toArray }) (hi:IntsAre vs ns) (hl:ns.length ≤ sizeLine) (hr:vk k callerA)
  (F:∀ base:Heap,K.In base→base.Ns mainGlobals mg→Gb P w K mg base CX k fa fd [x] sp) (hbind:∀ (s:Shared) (u:Value),BindsTo s fd ⟨[u],[]⟩ [(x,u)])
  (hsp:∀ H:Hp,eQ H→SqL K H a (ns.map V.int)→sp [.ref a] H (fun v _=>v=.bl true) fun _ _ _=>False)
  (hCX:∀ H e s',CX [] H s₁ (fun _ _ _=>False) e s'→False) :
  codeAny (model P w) callerA (.call (.ref fa) ⟨[.ref a],[]⟩) (fun r s'=>r=.ok (.ret (.bool true))∧OldK s₁.heap s'.heap∧s'.os=s₁.os∧AllBare s'.gens) s₁:=by
 have rv:=Xw hi;have lenV:=hi.length;have core:∀ H:Hp,eQ H→SqL K H a (ns.map V.int)→HOk P w H s₁.heap→(∀ b,H b ≠ none→b=a)→(H a ≠ none→K.lookup a=none) →
   codeAny (model P w) callerA (.call (.ref fa) ⟨[.ref a],[]⟩) (fun r s'=>r=.ok (.ret (.bool true))∧OldK s₁.heap s'.heap∧s'.os=s₁.os∧AllBare s'.gens) s₁:=by
  intro H hO hS hok hA hK;have base_of:∀ {b:Addr} {o:Obj},s₁.heap.get? b=some o→H b=none→(iJ s₁.heap H).get? b=some o:=fun e n=>DJ e n
  have noA:∀ {b:Addr} {o:Obj} {es:Array DictEntry} {ep:Nat},s₁.heap.get? b=some o→o.data=.dict es ep→H b=none:=fun {b o es ep} e d=>by
   cases q:H b with
   | none=>rfl
   | some u=>
    have e':b=a:=hA b (by rw [q];simp);subst e';rw [ha] at e;cases e;have d':Data.seq vs.toArray _=Data.dict es ep:=d;cases d'
  have nsK:∀ {b:Addr} {m:Str→Option Value},s₁.heap.Ns b m→(iJ s₁.heap H).Ns b m:=fun {b m} ⟨o,es,ep,e,d,r⟩=>⟨o,es,ep,base_of e (noA e d),d,r⟩
  have hKb:K.In (iJ s₁.heap H):=fun b o e=>base_of (KX b o e) (by
   cases q:H b with
   | none=>rfl
   | some u=>
    have e':b=a:=hA b (by rw [q];simp);subst e';rw [hK (by rw [q];simp)] at e;cases e)
  have hM:Mod K mg (iJ s₁.heap H):=⟨hKb,nsK hns,⟨mb,nsK hb,hbb⟩,let ⟨mc,h1,h2⟩:=hlim;⟨mc,nsK h1,h2⟩⟩;have e0:cI P w K mg (iJ s₁.heap H) callerA [] s₁ H:=⟨rfl,hM,fun b o e=>lM e,Nat.le_of_eq (NG _ _),trivial,fun b hb=>absurd (show b ∈ ([]:List Addr) from hb) (by simp),hok,.of_eq hg⟩;refine codeAny_mono ((F _ hKb (nsK hns)).run callerA [] s₁ H ⟨[.ref a],[]⟩ [.ref a] [.ref a] _ _ hr e0 (hbind s₁ (.ref a)) (.cons rfl .nil) (hsp H hO hS)) fun r s' h=>?_
  cases r with
  | error e=>exact (hCX H e s' h).elim
  | ok fl=>
   cases fl with
   | next=>exact False.elim h
   | brk=>exact False.elim h
   | cont=>exact False.elim h
   | ret u=>
    obtain ⟨v,H',os,bare,un,hok',r',q⟩:=h;have q':v=.bl true:=q;subst q';obtain rfl:u=Value.bool true:=r';refine ⟨rfl,OldK.of_keep fun b o e=>?_,os,bare⟩;cases q:H b with
    | none=>exact un.keep b o e q (by intro z;exact absurd (show b ∈ ([]:List Addr) from z) (by simp)) (by simp)
    | some u=>
     rcases hO b with z | ⟨ob,xs,z⟩
     ·rw [q] at z;cases z
     ·have z2:=un.frzs b ob _ z;obtain ⟨e1,_⟩:=hok b _ z;obtain ⟨e2,_⟩:=hok' b _ z2;rw [e] at e1;cases e1;exact e2
 cases hk:K.lookup a with
 | some o=>
  have e:=KX a o hk;rw [ha] at e;cases e;refine core (fun _=>none) (fun _=>.inl rfl) (.inr ⟨_,vs.toArray,_,hk,rfl,rfl,rfl,by rw [List.size_toArray,lenV];exact hl,by simpa using rv⟩) (fun b u z=>by have z':(none:Option HO)=some u:=z;cases z') (fun b z=>absurd rfl z) fun z=>absurd rfl z
 | none=>
  refine core (fun b=>if b=a then some (.frz { cls:=.type "list",data:=.seq vs.toArray } (.lst (ns.map V.int))) else none) (fun b=>?_) (.inl (.inr ⟨{ cls:=.type "list",data:=.seq vs.toArray },if_pos rfl⟩)) (fun b u z=>?_) (fun b z=>?_) fun _=>hk
  ·by_cases hb:b=a
   ·exact .inr ⟨_,_,if_pos hb⟩
   ·exact .inl (if_neg hb)
  ·by_cases hb:b=a
   ·have z':=(if_pos hb).symm.trans z;cases z';subst hb;exact ⟨ha,by rw [List.length_map];exact hl,vs,_,rv,ha⟩
   ·have z':=(if_neg hb).symm.trans z;cases z'
  ·by_cases hb:b=a
   ·exact hb
   ·exact absurd (if_neg hb) z
end L2
namespace L2
open PySem PySem.Spec PyProof.Rows
noncomputable abbrev KOf {K:PySem.W.Frag} {h:Heap} (_:K.In h):PySem.W.Frag:=K
theorem ON {l:PySem.W.OpenLaw} {n k:Nat} {q:Program} {loose:List Str} {XP:(Str→Option Value)→Heap→Prop} {YP:World→Heap→Prop} {d:DefRec} {K:Params→PySem.W.Frag} {CX:World→CXT} {sp:World→Sp} {x:Str}
  (hn:l.most=some n) (hn2:n ≤ sizeLine) (hdf:d.params.defaults=[]) (hr:vk k callerA)
  (hY:∀ (w:World) (h:Heap),YP w h→(K w.params).In h)
  (F:∀ (w:World) (mg:Str→Option Value) (fa:Addr) (h:Heap),(K w.params).In h→h.Ns mainGlobals mg→mg d.name=some (.ref fa) →
   ∃ fd:FuncData,(∀ (s:Shared) (u:Value),BindsTo s fd ⟨[u],[]⟩ [(x,u)]) ∧
    ∀ base:Heap,(K w.params).In base→base.Ns mainGlobals mg→Gb l.prog w (K w.params) mg base (CX w) k fa fd [x] (sp w))
  (hsp:∀ (w:World) (H:Hp) (a:Addr) (ns:List Int),ns.length ≤ n→eQ H→SqL (K w.params) H a (ns.map V.int)→sp w [.ref a] H (fun v _=>v=.bl true) fun _ _ _=>False)
  (hCX:∀ (w:World) (H:Hp) (s:Shared) (e:Value) (s':Shared),CX w [] H s (fun _ _ _=>False) e s'→False) :
  PySem.W.WalkO q loose XP YP l.row.toRowW d [] (fun f vs=>PySem.call f vs):=by
 refine Att.attach_call hn hdf fun w s₀ s₁ mg mb fa o pm cd doc a vs ns G Y ho hd hcd hmg hobj hints hlen hg=>?_
 have KX:=hY w _ Y;obtain ⟨fd,hb,hF⟩:=F w mg fa _ KX G.T.g hmg;exact eK KX G.T.g G.T.b G.T.builtins G.T.nolimit hg hobj hints (Nat.le_trans hlen hn2) hr hF hb (fun H hO hS=>hsp w H a ns hlen hO hS) fun H e s'=>hCX w H s₁ e s'
theorem FJ {l:PySem.W.OpenLaw} {n k:Nat} {q:Program} {loose:List Str} {XP:(Str→Option Value)→Heap→Prop} {YP:World→Heap→Prop} {d:DefRec} {K:Params→PySem.W.Frag} {CX:CXT} {sp:PySem.W.Frag→Sp} {x:Str}
  (hn:l.most=some n) (hn2:n ≤ sizeLine) (hdf:d.params.defaults=[]) (hr:vk k callerA)
  (hY:∀ (w:World) (h:Heap),YP w h→(K w.params).In h)
  (F:∀ (w:World) (mg:Str→Option Value) (fa:Addr) (h:Heap),(K w.params).In h→h.Ns mainGlobals mg→mg d.name=some (.ref fa) →
   ∃ fd:FuncData,(∀ (s:Shared) (u:Value),BindsTo s fd ⟨[u],[]⟩ [(x,u)]) ∧
    ∀ base:Heap,(K w.params).In base→base.Ns mainGlobals mg→Gb l.prog w (K w.params) mg base CX k fa fd [x] (sp (K w.params)))
  (hsp:∀ (K:PySem.W.Frag) (H:Hp) (a:Addr) (ns:List Int),ns.length ≤ n→eQ H→SqL K H a (ns.map V.int)→sp K [.ref a] H (fun v _=>v=.bl true) fun _ _ _=>False)
  (hCX:∀ (H:Hp) (s:Shared) (e:Value) (s':Shared),CX [] H s (fun _ _ _=>False) e s'→False) :
  PySem.W.WalkO q loose XP YP l.row.toRowW d [] (fun f vs=>PySem.call f vs):=
 ON (K:=K) (CX:=fun _=>CX) (sp:=fun w=>sp (K w.params)) hn hn2 hdf hr hY F (fun w H a ns h1 h2 h3=>hsp (K w.params) H a ns h1 h2 h3) fun _ H s e s'=>hCX H s e s'
end L2
namespace L2
open PySem PySem.Spec PyProof.Rows
noncomputable def zd (s:Stmt) (j:Nat):Stmt:=match s with
 | .ClassDef _ _ _ body _ _ _ _ _ _ _=>body.getD j (.Pass ⟨0,0,0,0⟩)
 | _=>.Pass ⟨0,0,0,0⟩
noncomputable def Hv (s:Stmt):Arguments:=match s with
 | .FunctionDef _ a _ _ _ _ _ _ _ _=>a
 | _=>{ posonlyargs:=[],args:=[],vararg:=none,kwonlyargs:=[],kw_defaults:=[],kwarg:=none,defaults:=[] }
noncomputable def lr (s:Stmt):List Stmt:=match s with
 | .FunctionDef _ _ b _ _ _ _ _ _ _=>b
 | _=>[]
noncomputable def jb (s:Stmt):Scope:=match s with
 | .FunctionDef _ _ _ _ _ _ sc _ _ _=>sc
 | _=>{ kind:=.function,names:=[],isGenerator:=false,isCoroutine:=false }
noncomputable abbrev CX0:CXT:=fun _ _ _ _ _ _=>False
noncomputable abbrev E0:XK:=fun _ _ _=>False
theorem Rc {X:Cx}:eo CX0 X E0:=fun _ _ _ _ _ _ _ h=>h.elim
structure Fun (K:PySem.W.Frag) (x qual:Str) (st:Stmt) (f:Addr) (fd:FuncData):Prop where
 ex:∃ (oc:Value) (od:Option Addr) (kV doc pm:Value) (an:Option Addr) (cdv ct:Value) (osl:Array (Option Value)),
  fd=PySem.W.fnOf x qual (Hv st) (lr st) (jb st) .none kV doc pm an cdv ct∧K.lookup f=some ⟨oc,od,.func fd,osl⟩∧PySem.W.codeIn K cdv qual=true
 kp:PySem.W.keepIn K (.ref f)=true
section
variable {P:Program} {w:World} {K:PySem.W.Frag} {mg:Str→Option Value} {base:Heap}
theorem Fun.ok {x qual:Str} {st:Stmt} {f:Addr} {fd:FuncData} {N ps:List Str} {k:Nat} {sp:Sp} (F:Fun K x qual st f fd) (S:yb N ps (jb st)) (len:∀ vs H Q E,sp vs H Q E→vs.length=ps.length)
  (hbody:∀ (cdv:Value) (A:Around) (outer:List Env) (s:Shared) (H:Hp) (vs:List V) (Q:VK) (E:XK),vk k (A.deeper (envOfC qual (jb st) s.heap.objs.size f cdv))→sp vs H Q E →
   ∃ t,PSs (oN CX0 P w K mg base N qual (jb st) f cdv A outer s H E).nox (lr st) t∧t { nx:=fun _ H'=>Q .non H',rt:=Q } (start N vs) H):Gb P w K mg base CX0 (k + 1) f fd ps sp:=by
 obtain ⟨oc,od,kV,doc,pm,an,cdv,ct,osl,rfl,lk,hcd⟩:=F.ex;refine lR lk hcd S len fun A outer s H vs Q E hr hsp=>?_
 obtain ⟨t,h,q⟩:=hbody cdv A outer s H vs Q E hr hsp;exact ⟨t,h.nox,q⟩
theorem Fun.binds {x qual:Str} {st:Stmt} {f:Addr} {fd:FuncData} {ps:List Str} (F:Fun K x qual st f fd)
  (h:∀ (kV doc pm:Value) (an:Option Addr) (cdv ct:Value) (us:List Value),us.length=ps.length→bindArgs (PySem.W.fnOf x qual (Hv st) (lr st) (jb st) .none kV doc pm an cdv ct) ⟨us,[]⟩=pure (ps.zip us)):Xb K fd ps []:=by
 obtain ⟨oc,od,kV,doc,pm,an,cdv,ct,osl,rfl,lk,hcd⟩:=F.ex;exact .all (h kV doc pm an cdv ct)
theorem BP {x qual:Str} {st:Stmt} {f:Addr} {oc:Value} {od an:Option Addr} {osl:Array (Option Value)} {kV doc pm cdv ct:Value} (l:K.lookup f=some ⟨oc,od,.func (PySem.W.fnOf x qual (Hv st) (lr st) (jb st) .none kV doc pm an cdv ct),osl⟩)
  (c:PySem.W.codeIn K cdv qual=true) (k:PySem.W.keepIn K (.ref f)=true):Fun K x qual st f (PySem.W.fnOf x qual (Hv st) (lr st) (jb st) .none kV doc pm an cdv ct):=⟨⟨oc,od,kV,doc,pm,an,cdv,ct,osl,rfl,l,c⟩,k⟩
end
theorem rj {A:Around} {k:Nat} (hr:vk k A):A.units + 1 < cLine:=Nat.lt_of_le_of_lt (Nat.add_le_add_left (by decide:1 ≤ 64) _) hr.units
section
variable {X:Cx}
theorem pv (i:Nat) {x:Str} {pos:Pos} (hN:X.N[i]? = some x:=by rfl) (hv:Vis X.env.scope x:=by first | exact Or.inl rfl | exact Or.inr (Or.inl rfl) | exact Or.inr (Or.inr rfl)) (hd:(x == ("__debug__" : Str))=false:=by decide)
  (hcd:(x == ("__classdict__" : Str))=false:=by decide):PE X (.Name x pos) (uR i):=WP hN hv hd hcd
end
def Ib (H H':Hp):Prop:=∀ b o,H b=some o→H' b=some o
theorem Ib.refl (H:Hp):Ib H H:=fun _ _ h=>h
theorem Ib.trans {H H1 H2:Hp} (a:Ib H H1) (b:Ib H1 H2):Ib H H2:=fun c o h=>b c o (a c o h)
theorem Ib.free {H H':Hp} (e:Ib H H') {l:Addr} (h:H' l=Option.none):H l=Option.none:=by
 cases q:H l with
 | none=>rfl
 | some o=>
  rw [e l o q] at h;cases h
theorem Ib.seq {K:PySem.W.Frag} {H H':Hp} {a:Addr} {xs:List V} (e:Ib H H') (h:SqL K H a xs):SqL K H' a xs:=by
 rcases h with (h | ⟨o,h⟩) | h
 ·exact .inl (.inl (e _ _ h))
 ·exact .inl (.inr ⟨o,e _ _ h⟩)
 ·exact .inr h
section
variable {κ:Type} [DecidableEq κ]
theorem JJ {kvs:List (κ × V)} {k:κ} (h:Ol kvs k=none):¬ k ∈ kvs.map (·.1):=by
 intro m;obtain ⟨p,hp,e⟩:=List.mem_map.mp m;have q:(kvs.any fun kv=>decide (kv.1=k))=true:=List.any_eq_true.mpr ⟨p,hp,decide_eq_true e⟩;rw [tw,h] at q;exact absurd q (by simp)
end
end L2
set_option maxHeartbeats 4000000
namespace L2
open PySem PySem.Spec PyProof.Rows
noncomputable def Jw (cells:List (Str × Addr)):List (Str × NameKind)→List (Str × Addr)→List (Str × Addr)
 | [],acc=>acc
 | (n,k) :: r,acc=>if k == .free then (match cells.lookup n with | some c=>Jw cells r ((n,c) :: acc) | none=>Jw cells r acc) else Jw cells r acc
theorem bz {env:Env}:∀ (names:List (Str × NameKind)) (acc:List (Str × Addr)),(∀ y ∈ names,y.2=.free→∃ c,env.cells.lookup y.1=some c) →
  (forIn names acc (fun (x:Str × NameKind) (cs:List (Str × Addr))=>(if (x.2 == .free)=true then do let a ← cellOf env x.1;pure (ForInStep.yield ((x.1,a) :: cs)) else pure (ForInStep.yield cs):Sem (ForInStep (List (Str × Addr))))))=pure (Jw env.cells names acc)
 | [],acc,_=>rfl
 | (n,k) :: r,acc,h=>by
  have hr:∀ y ∈ r,y.2=.free→∃ c,env.cells.lookup y.1=some c:=fun y hy=>h y (List.mem_cons_of_mem _ hy)
  rw [List.forIn_cons];by_cases hk:(k == NameKind.free)=true
  ·have e:k=.free:=by simpa using hk
   obtain ⟨c,hc⟩:=h (n,k) List.mem_cons_self e;have hc':env.cells.lookup n=some c:=hc;simp only [Jw,hk,if_true,hc',cellOf];exact bz r _ hr
  ·simp only [Jw,hk];exact bz r _ hr
theorem xF {scope:Scope} {env:Env} (h:∀ y ∈ scope.names,y.2=.free→∃ c,env.cells.lookup y.1=some c):closureFor scope env=pure (Jw env.cells scope.names []):=by
 unfold closureFor;exact congrArg (fun t=>t >>= pure) (bz scope.names [] h)
theorem Sq {cells:List (Str × Addr)}:∀ (names:List (Str × NameKind)) (acc:List (Str × Addr)) {x:Str} {c:Addr},(Jw cells names acc).lookup x=some c→acc.lookup x=some c∨cells.lookup x=some c
 | [],acc,x,c,h=>.inl h
 | (n,k) :: r,acc,x,c,h=>by
  unfold Jw at h;split at h
  ·cases q:cells.lookup n with
   | none=>rw [q] at h;exact Sq r acc h
   | some d=>
    rw [q] at h;rcases Sq r _ h with z | z
    ·rw [List.lookup_cons] at z;by_cases hx:(x == n)=true
     ·rw [hx] at z;have e:x=n:=by simpa using hx
      subst e
      right;rw [q];exact z
     ·have hx':(x == n)=false:=by simpa using hx
      rw [hx'] at z;exact .inl z
    ·exact .inr z
  ·exact Sq r acc h
theorem Cn {cells:List (Str × Addr)}:∀ (names:List (Str × NameKind)) (acc:List (Str × Addr)) {x:Str} {c:Addr},acc.lookup x=some c→cells.lookup x=some c→(Jw cells names acc).lookup x=some c
 | [],acc,x,c,h,_=>h
 | (n,k) :: r,acc,x,c,h,hc=>by
  unfold Jw;split
  ·cases q:cells.lookup n with
   | none=>exact Cn r acc h hc
   | some d=>
    refine Cn r _ ?_ hc;rw [List.lookup_cons];by_cases hx:(x == n)=true
    ·have e:x=n:=by simpa using hx
     subst e;rw [hx];rw [q] at hc;exact hc
    ·have hx':(x == n)=false:=by simpa using hx
     rw [hx'];exact h
  ·exact Cn r acc h hc
theorem jo {cells:List (Str × Addr)}:∀ (names:List (Str × NameKind)) (acc:List (Str × Addr)) {x:Str} {c:Addr},(x,NameKind.free) ∈ names→cells.lookup x=some c→(Jw cells names acc).lookup x=some c
 | [],_,_,_,h,_=>nomatch h
 | (n,k) :: r,acc,x,c,h,hc=>by
  rcases List.mem_cons.mp h with e | h
  ·cases e;unfold Jw;rw [if_pos (by decide),hc];refine Cn r _ ?_ hc;rw [List.lookup_cons];simp
  ·unfold Jw;split
   ·cases q:cells.lookup n with
    | none=>exact jo r acc h hc
    | some d=>exact jo r _ h hc
   ·exact jo r acc h hc
theorem Zo {α:Type}:∀ {l:List (Str × α)} {x:Str} {a:α},l.lookup x=some a→(x,a) ∈ l
 | [],_,_,h=>by simp at h
 | (n,b) :: r,x,a,h=>by
  rw [List.lookup_cons] at h;by_cases hx:(x == n)=true
  ·have e:x=n:=by simpa using hx
   subst e;rw [hx] at h;have e2:b=a:=Option.some.inj h;subst e2;exact List.mem_cons_self
  ·have hx':(x == n)=false:=by simpa using hx
   rw [hx'] at h;exact List.mem_cons_of_mem _ (Zo h)
theorem Oz {env:Env} {scope:Scope} {x:Str} {k:NameKind} (h:(relabel scope env).names.lookup x=some k) (hk:k=.cell∨k=.free) (hc:∀ y ∈ scope.names,y.2 ≠ .cell):(x,NameKind.free) ∈ scope.names:=by
 have h1:=Zo h;obtain ⟨⟨n,j⟩,hm,e⟩:=List.mem_map.mp h1;have e':(if (j == NameKind.free && env.scope.kind == .function && env.kindOf n == some .cell)=true then (n,NameKind.cell) else (n,j))=(x,k):=e;split at e'
 ·rename_i hcond;have e1:n=x:=(Prod.mk.inj e').1;subst e1;have hj:j=.free:=by
   simp only [Bool.and_eq_true] at hcond;simpa using hcond.1.1
  subst hj;exact hm
 ·have e1:n=x:=(Prod.mk.inj e').1;have e2:j=k:=(Prod.mk.inj e').2;subst e1;subst e2;rcases hk with z | z
  ·exact absurd z (hc _ hm)
  ·subst z;exact hm
theorem Vm {env:Env} {scope:Scope} {x:Str} (h:scope.names.lookup x=some .free):(relabel scope env).names.lookup x=some .cell∨(relabel scope env).names.lookup x=some .free:=by
 have all:∀ (names:List (Str × NameKind)),names.lookup x=some .free →
   (names.map fun (n,k)=>if (k == NameKind.free && env.scope.kind == .function && env.kindOf n == some .cell) then (n,NameKind.cell) else (n,k)).lookup x=some .cell ∨
   (names.map fun (n,k)=>if (k == NameKind.free && env.scope.kind == .function && env.kindOf n == some .cell) then (n,NameKind.cell) else (n,k)).lookup x=some .free:=by
  intro names
  induction names with
  | nil=>intro h;simp at h
  | cons p r ih=>
   obtain ⟨n,k⟩:=p;intro h;rw [List.map_cons];by_cases hx:(x == n)=true
   ·simp only [List.lookup_cons,hx] at h;have hk:k=.free:=Option.some.inj h;subst hk;by_cases hc:(NameKind.free == NameKind.free && env.scope.kind == .function && env.kindOf n == some .cell)=true
    ·left;simp only [if_pos hc,List.lookup_cons,hx]
    ·right;simp only [if_neg hc,List.lookup_cons,hx]
   ·have hx':(x == n)=false:=by simpa using hx
    simp only [List.lookup_cons,hx'] at h;by_cases hc:(k == NameKind.free && env.scope.kind == .function && env.kindOf n == some .cell)=true
    ·simp only [if_pos hc,List.lookup_cons,hx'];exact ih h
    ·simp only [if_neg hc,List.lookup_cons,hx'];exact ih h
 exact all scope.names h
noncomputable abbrev Cx.block (X:Cx) (scope:Scope) (C:Addr) (N:List Str) (s:Shared) (H:Hp) (fp:List Addr):Cx where
 prog:=X.prog
 w:=X.w
 K:=X.K
 mg:=X.mg
 base:=X.base
 A:=X.A
 N:=N
 s₀:=s
 H₀:=H
 env:=compEnvC scope (Jw X.env.cells scope.names []) C X.env
 outer:=X.stack
 stack:=X.stack
 ex:=fp
 fn:=fun _=>false
 calm:=X.calm
 pn:=[]
 xe:=fun _ _=>False
structure Qp (env:Env) (scope:Scope):Prop where
 kind:scope.kind=.function
 nocell:∀ y ∈ scope.names,y.2 ≠ .cell
 fr:∀ y ∈ scope.names,y.2=.free→env.kindOf y.1=some .cell∨env.kindOf y.1=some .free
 loc:∀ x ∈ scope.names,x.2=.local→scope.names.lookup x.1=some .local
noncomputable def blk (sel:List (Option Nat)) (σ:St):St:=sel.map fun o=>o.bind fun j=>(σ[j]?).join
def vH (M:List Str) (scope:Scope) (N:List Str) (sel:List (Option Nat)):Prop:=
 sel.length=N.length∧∀ (i j:Nat) (x:Str),sel[i]? = some (some j)→N[i]? = some x→M[j]? = some x∧scope.names.lookup x=some .free
section
variable {X:Cx} {pins:List (Addr × Obj)} {σ:St} {H:Hp} {s:Shared} {scope:Scope} {fp:List Addr} {C:Addr} {N:List Str}
theorem Qp.cells (S:Qp X.env scope) (ok:X.Ok):∀ y ∈ scope.names,y.2=.free→∃ c,X.env.cells.lookup y.1=some c:=fun y hy e=>ok.has y.1 (S.fr y hy e)
theorem sv {x:Str} {c:Addr} (h:(Jw X.env.cells scope.names []).lookup x=some c):X.env.cells.lookup x=some c:=by
 rcases Sq _ _ h with z | z
 ·simp at z
 ·exact z
theorem OA (I:Inv X pins σ H s) (S:Qp X.env scope) (hf:∀ b ∈ fp,zw X pins H b) (hs:∀ b ∈ fp,b < s.heap.objs.size) (hC:s.heap.objs.size ≤ C):(X.block scope C N s H fp).Ok where
 mod:=I.ok.mod
 kind:=S.kind
 glob:=I.ok.glob
 blt:=I.ok.blt
 above:=hC
 inj:=fun x y c h1 h2=>I.ok.inj x y c (sv h1) (sv h2)
 has:=fun x h=>by
  have hk:∃ k,(relabel scope X.env).names.lookup x=some k∧(k=.cell∨k=.free):=by
   rcases h with h | h
   ·exact ⟨_,h,.inl rfl⟩
   ·exact ⟨_,h,.inr rfl⟩
  obtain ⟨k,h1,h2⟩:=hk;have hm:=Oz h1 h2 S.nocell;obtain ⟨c,hc⟩:=S.cells I.ok _ hm rfl;exact ⟨c,jo _ _ hm hc⟩
 cab:=fun _ _ h _=>nomatch h
 hd:=I.ok.hd
 frames:=I.ok.frames
 stk:=.inl rfl
 exf:=fun b hb=>⟨Nat.ne_of_lt (Nat.lt_of_lt_of_le (hs b hb) hC),fun x c e=>(hf b hb).2.2.2.2.1 x c (sv e)⟩
 bs:=I.bs
 bsz:=Nat.le_trans I.ok.bsz I.sz
 noex:=fun b o e hb=>by
  rcases (hf b hb).2.2.2.1 with z | z
  ·exact I.ok.noex b o e z
  ·exact absurd (Nat.lt_of_lt_of_le (Nat.lt_of_lt_of_le (Heap.lt_size e) I.ok.bsz) z) (Nat.lt_irrefl _)
 exfs:=fun b hb hz=>by
  rcases List.mem_cons.mp (I.stkSub b hz) with z | z
  ·exact (hf b hb).2.1 z
  ·exact (hf b hb).2.2.1 z
 funs:=I.stack
 frf:=I.stkFree
theorem qF {h':Heap} {t':Nat} {m:Str→Option Value} {sel:List (Option Nat)} (I:Inv X pins σ H s) (S:Qp X.env scope) (hf:∀ b ∈ fp,zw X pins H b) (hs:∀ b ∈ fp,b < s.heap.objs.size) (hC:s.heap.objs.size ≤ C)
  (k:∀ b o,s.heap.get? b=some o→h'.get? b=some o) (hn:h'.Ns C m) (hsel:vH X.N scope N sel):Inv (X.block scope C N s H fp) [] (blk sel σ) H { s with heap:=h',toks:=t' } where
 ok:=OA I S hf hs hC
 os:=rfl
 bare:=I.bare
 base:=Un.kept k
 loc:=by
  refine ⟨m,hn,fun i x v e1 e2 e3=>?_⟩;obtain ⟨m0,hn0,hl⟩:=I.loc;obtain ⟨j,ej,eσ⟩:∃ j,sel[i]? = some (some j)∧σ[j]? = some (some v):=by
   unfold blk at e2;rw [List.getElem?_map] at e2;cases q:sel[i]? with
   | none=>rw [q] at e2;cases e2
   | some o=>
    rw [q] at e2;cases o with
    | none=>cases e2
    | some j=>
     refine ⟨j,rfl,?_⟩;have e2':(σ[j]?).join=some v:=Option.some.inj e2;cases r:σ[j]? with
     | none=>rw [r] at e2';cases e2'
     | some z=>rw [r] at e2';exact congrArg some e2'
  obtain ⟨eN,hfr⟩:=hsel.2 i j x ej e1;have hm:=Zo hfr;have hk:=S.fr _ hm rfl;have hv:Vis X.env.scope x:=hk.elim (fun z=>.inr (.inl z)) fun z=>.inr (.inr z)
  obtain ⟨u,r,l⟩:=hl j x v eN eσ hv;refine ⟨u,r,?_⟩;rcases l with ⟨hloc,_⟩ | ⟨_,c,hc,hcell⟩
  ·rcases hk with z | z <;> (have z':X.env.kindOf x=_:=z;rw [hloc] at z';cases z')
  ·refine .inr ⟨?_,c,jo _ _ hm hc,?_⟩
   ·exact Vm hfr
   ·obtain ⟨o,ho,hd⟩:=hcell;exact ⟨o,k _ _ ho,hd⟩
 cell:=fun x c e=>by
  obtain ⟨v,o,ho,hd⟩:=I.cell x c (sv e);exact ⟨v,o,k _ _ ho,hd⟩
 free:=I.hok.fresh hC
 freeC:=fun x c e=>I.freeC x c (sv e)
 pin:=fun p hp=>nomatch hp
 hok:=I.hok.kept k
 len:=by unfold blk;rw [List.length_map];exact hsel.1
theorem Inv.adopt {a:Addr} {o:HO} (I:Inv X pins σ H s) (fo:zw X pins H a) (new:we X.prog X.w (upd H a o) s.heap a o):Inv X pins σ (upd H a o) s:=by
 obtain ⟨hn,hL,hfs,hex,hcl,hpn⟩:=fo;refine I.step (g':=s.gens) (d':=s.drawn) (t':=s.toks) (h':=s.heap) (ch:=[a]) (fun b hb=>?_) (fun b o _ _ _ e _=>e) (fun b o _ _ _ e _=>⟨o.slots,e⟩) (fun b o hb e n=>?_) (fun b o _ e=>⟨o,e⟩)
  (fun b xs e=>?_) (fun b o u e=>?_) (fun b ps e=>⟨#[],?_⟩) (fun m hm=>hm) (fun b u e=>?_) I.bare
 ·have e:b=a:=by simpa using hb
  subst e;exact ⟨hex,hL,hcl,hpn⟩
 ·rw [wb (fun z=>hb (by simp [z]))];exact n
 ·rw [wb (Ab e hn)];exact e
 ·rw [wb (Ab e hn)];exact e
 ·rw [wb (Ab e hn),e];simp
 ·by_cases hb:b=a
  ·subst hb;rw [db] at e;cases e;exact new
  ·rw [wb hb] at e;exact (I.hok b u e).stay (fun c v _ q=>q) (fun c q=>by rw [wb (Ab q hn)];exact q) fun c xs q=>by rw [wb (Ab q hn)];exact q
end
theorem im {prog:Program} {w:World} {A:Around} {R:Result→Shared→Prop} {s:Shared} {elt target iter:Expr} {ifs:List Expr} {scope:Scope} {pos:Pos} {it acc:Value} {env:Env} (I:Nat→Shared→Prop)
  (turn:∀ n s,I n s→wpAny (model prog w) A (pyNext it) (fun r s₁=>match r with
   | none=>R (.ok .next) s₁
   | some v=>wpAny (model prog w) A (letOwnedTupleGo target it v) (fun _ s₀=>wpAny (model prog w) A (assign target env v) (fun _ s₂=>
     wpAny (model prog w) A (forIn ifs true fun c r=>if r=true then do let ok ← isTrue c env (eval c env);pure (ForInStep.yield ok) else pure (ForInStep.yield r)) (fun ok s₃=>
      if ok=true then wpAny (model prog w) A (eval elt env) (fun x s₄=>
       wpAny (model prog w) A (call (.builtin "list.append") [acc,x]) (fun _ s₅=>∃ m,m < n∧I m s₅) (fun _ _=>False) s₄) (fun _ _=>False) s₃
      else ∃ m,m < n∧I m s₃) (fun _ _=>False) s₂) (fun _ _=>False) s₀) (fun _ _=>False) s₁) (fun _ _=>False) s)
  (n:Nat) (h:I n s) :
  codeAny (model prog w) A (.compLoop (.ListComp elt [⟨target,iter,ifs,0⟩] scope pos) 0 it acc env) R s:=by
 refine codeAny_loop rfl I (fun n s hI=>?_) n h;show wpAny _ A ((compTurn (.ListComp elt [⟨target,iter,ifs,0⟩] scope pos) 0 it acc env).onRaise (fun x=>do noteFrame x env;theTreesLotGoes x)) _ _ s;refine wpAny_noted (wpAny_noRaise ?_);rw [compTurn_list];refine wpAny_bind (wpAny_standAt (wpAny_bind (wpAny_mono (turn n s hI) (fun r s₁ h₁=>?_) fun _ _ h'=>h')));cases r with
 | none=>exact wpAny_pure h₁
 | some v=>
  refine wpAny_bind (wpAny_mono h₁ (fun _ s₀ h₀=>?_) fun _ _ h'=>h');refine wpAny_bind (wpAny_mono h₀ (fun _ s₂ h₂=>wpAny_bind (wpAny_mono h₂ (fun ok s₃ h₃=>?_) fun _ _ h'=>h')) fun _ _ h'=>h');cases ok with
  | false=>exact wpAny_pure ⟨rfl,h₃⟩
  | true=>
   exact wpAny_bind (wpAny_bind (wpAny_mono h₃ (fun x s₄ h₄=>wpAny_bind (wpAny_mono h₄ (fun _ s₅ h₅=>wpAny_pure (wpAny_pure ⟨rfl,h₅⟩)) fun _ _ h'=>h')) fun _ _ h'=>h'))
def PTs (X:Cx) (ifs:List Expr) (t:TT):Prop:=
 ∀ (pins:List (Addr × Obj)) (s:Shared) (σ:St) (H:Hp) (Q:Bool→Hp→Prop),Inv X pins σ H s→t σ H Q →
  wpAny (model X.prog X.w) X.A (forIn ifs true fun c r=>if r=true then do let ok ← isTrue c X.env (eval c X.env);pure (ForInStep.yield ok) else pure (ForInStep.yield r)) (TP X pins σ Q) X.xe s
noncomputable def zy:TT:=fun _ H Q=>Q true H
theorem pe {X:Cx}:PTs X [] zy:=fun _ _ _ H _ I h=>wpAny_tests_nil ⟨H,I,h⟩
theorem Eo {X:Cx} {c:Expr} {t:TT} (h:PT X c t):PTs X [c] t:=fun pins s σ H Q I q=>wpAny_tests_one (h pins s σ H Q I q)
def Sub (σ σ':St):Prop:=σ'.length=σ.length∧∀ (i:Nat) (v:V),σ[i]? = some (some v)→σ'[i]? = some (some v)
theorem Sub.refl (σ:St):Sub σ σ:=⟨rfl,fun _ _ h=>h⟩
theorem Sub.set {σ σ':St} {i:Nat} {x:Option V} (h:Sub σ σ') (e:σ[i]? = some none):Sub σ (σ'.set i x):=by
 refine ⟨by rw [List.length_set];exact h.1,fun j v q=>?_⟩;have hj:i ≠ j:=fun z=>by subst z;rw [e] at q;cases q
 rw [List.getElem?_set_ne hj];exact h.2 j v q
def Tz (J:It) (g:TG) (tc:TT) (te:TE) (σb:St) (Q:VK) (W:Nat→Nat→List V→Hp→Prop):Prop:=∀ i m ys H,W i m ys H →
 (J.stop i H∧∀ p,H p=none→Q (.ref p) (upd H p (.lst ys))) ∨
 (J.go i H∧ys.length < sizeLine∧∀ x H',J.yld i H x H'→g x σb H' fun σ2 H2=>Sub σb σ2∧tc σ2 H2 fun c H3=>if c=true then te σ2 H3 fun y H4=>∃ m',m' < m∧W (i + 1) m' (ys ++ [y]) H4 else ∃ m',m' < m∧W (i + 1) m' ys H3)
noncomputable def mM (wi:TI) (g:TG) (tc:TT) (te:TE) (sel:List (Option Nat)):TE:=fun σ H Q=>wi σ H fun J H1=>∃ W:Nat→Nat→List V→Hp→Prop,(∃ m,W 0 m [] H1)∧Tz J g tc te (blk sel σ) Q W
section
variable {X:Cx} {elt tg iter:Expr} {ifs:List Expr} {scope:Scope} {pos:Pos} {wi:TI} {g:TG} {tc:TT} {te:TE} {N:List Str} {sel:List (Option Nat)}
structure Blk (X:Cx) (scope:Scope) (N:List Str) (tg elt:Expr) (ifs:List Expr) (g:TG) (tc:TT) (te:TE):Prop where
 tgt:∀ C s H fp,PG (X.block scope C N s H fp) tg g
 tests:∀ C s H fp,PTs (X.block scope C N s H fp) ifs tc
 elem:∀ C s H fp,PE (X.block scope C N s H fp) elt te
theorem Blk.of {X:Cx} {scope:Scope} {N:List Str} {tg elt:Expr} {ifs:List Expr} {g:TG} {tc:TT} {te:TE} (h1:∀ C s H fp,PG (X.block scope C N s H fp) tg g)
  (h2:∀ C s H fp,∃ t,PTs (X.block scope C N s H fp) ifs t∧t=tc) (h3:∀ C s H fp,∃ t,PE (X.block scope C N s H fp) elt t∧t=te):Blk X scope N tg elt ifs g tc te:=
 ⟨h1,fun C s H fp=>by obtain ⟨t,h,rfl⟩:=h2 C s H fp;exact h,fun C s H fp=>by obtain ⟨t,h,rfl⟩:=h3 C s H fp;exact h⟩
theorem ax {pins:List (Addr × Obj)} {s₂:Shared} {σ:St} {H₂:Hp} {Q:VK} {it:Addr} {fp:List Addr} {tn:Nat→Heap→Prop} {J:It} {W:Nat→Nat→List V→Hp→Prop} {E:Value→Shared→Prop} {RR:Value→Addr→Result→Shared→Prop}
  (hc:X.calm=true) (S:Qp X.env scope) (hsel:vH X.N scope N sel) (B:Blk X scope N tg elt ifs g tc te) (I2:Inv X pins σ H₂ s₂) (T:mG X.prog X.w X.K tg J fp it tn) (st2:tn 0 s₂.heap) (f2:∀ b ∈ fp,zw X pins H₂ b)
  (w0:∃ m,W 0 m [] H₂) (hW:Tz J g tc te (blk sel σ) Q W)
  (fin:∀ D C ys H' s',Inv X pins σ (upd H' D (.lst ys)) s'→(∃ m,s'.heap.Ns C m)→zw X pins (upd H' D (.lst ys)) C→Q (.ref D) (upd H' D (.lst ys))→RR (.ref D) C (.ok .next) s') :
  wpAny (model X.prog X.w) X.A (newList []) (fun acc s₃=>wpAny (model X.prog X.w) X.A (newFunctionEnv scope X.env.globals (Jw X.env.cells scope.names []) [] X.env.qual none .none (some X.env)) (fun cenv s₄=>
   codeAny (model X.prog X.w) X.A (.compStart (.ListComp elt [⟨tg,iter,ifs,0⟩] scope pos) 0 (.ref it) acc { cenv with scope:=relabel scope X.env }) (RR acc cenv.locals) s₄) E s₃) E s₂:=by
 refine wpAny_newObj_type (wpAny_newFunctionEnv S.nocell (by intro y hy;simp at hy) (fun h₁ hns₁ hsb₁=>?_) S.kind);dsimp only at hns₁ hsb₁ ⊢;generalize hH2:s₂.heap.push { cls:=.type "list",dict:=none,data:=.seq ([]:List Value).toArray }=H2 at hns₁ hsb₁ ⊢;have hC:H2.objs.size=s₂.heap.objs.size + 1:=by rw [← hH2,Heap.size_push]
 have hDC:s₂.heap.objs.size ≠ H2.objs.size:=by rw [hC];exact Nat.ne_of_lt (Nat.lt_succ_self _)
 have hCle:s₂.heap.objs.size ≤ H2.objs.size:=by rw [hC];exact Nat.le_succ _
 have below:∀ b,b < s₂.heap.objs.size→b ≠ H2.objs.size∧b ≠ s₂.heap.objs.size:=fun b hb=>⟨by rw [hC];exact Nat.ne_of_lt (Nat.lt_succ_of_lt hb),Nat.ne_of_lt hb⟩
 have old:∀ b o,s₂.heap.get? b=some o→h₁.get? b=some o:=fun b o e=>hsb₁.extBut b o (below b (Heap.lt_size e)).1 (Heap.get?_push_of_some _ (hH2 ▸ Heap.get?_push_of_some _ e))
 have hacc:h₁.get? s₂.heap.objs.size=some { cls:=.type "list",data:=.seq ([]:List Value).toArray }:=hsb₁.extBut _ _ hDC (Heap.get?_push_of_some _ (hH2 ▸ Heap.get?_push_size _ rfl));have fps:∀ b ∈ fp,b < s₂.heap.objs.size:=fun b hb=>by
  obtain ⟨o,e,_⟩:=T.obj _ _ st2 b hb;exact Heap.lt_size e
 generalize hCe:H2.objs.size=C at *;generalize hDe:s₂.heap.objs.size=D at *;have st1:tn 0 h₁:=T.keep _ _ _ st2 fun b _ o e=>old b o e
 have IB0:Inv (X.block scope C N s₂ H₂ fp) [] (blk sel σ) H₂ { s₂ with heap:=h₁,toks:=s₂.toks + ([]:List (Str × Value)).length }:=
  qF I2 S f2 (fun b hb=>by rw [hDe];exact fps b hb) (by rw [hDe];exact hCle) old hns₁ hsel
 have hDfs:D ∉ (X.block scope C N s₂ H₂ fp).fs:=fun z=>by
  have z':=I2.stkSub D z;rcases List.mem_cons.mp z' with e | e
  ·exact absurd I2.lt (by rw [← e,hDe];exact Nat.lt_irrefl _)
  ·exact I2.nofs (by rw [hDe];exact Nat.le_refl _) e
 have loop:∀ s₃:Shared,s₃ = { s₂ with heap:=h₁,toks:=s₂.toks + ([]:List (Str × Value)).length } →
   codeAny (model X.prog X.w) X.A (.compLoop (.ListComp elt [⟨tg,iter,ifs,0⟩] scope pos) 0 (.ref it) (.ref D) (compEnvC scope (Jw X.env.cells scope.names []) C X.env)) (RR (.ref D) C) s₃:=by
  rintro s₃ rfl;obtain ⟨m0,w0⟩:=w0;refine im (fun k s'=>∃ i ys us n H',Inv (X.block scope C N s₂ H₂ fp) [(D,{ cls:=.type "list",data:=.seq us n })] (blk sel σ) H' s'∧(∃ vs:List Value,us=vs.toArray∧Cd ys vs)∧ys.length ≤ sizeLine∧tn i s'.heap∧(∀ b ∈ fp,H' b=none)∧W i k ys H') ?_ m0
   ⟨0,[],_,0,H₂,IB0.pins_of fun p hp=>?_,⟨[],rfl,.nil⟩,Nat.zero_le _,st1,fun b hb=>(f2 b hb).1,w0⟩
  ·rintro k s' ⟨i,ys,us,n,H',IB,⟨vs,rfl,rv⟩,hyz,st,fr,w⟩;have fpB:∀ {pl:List (Addr × Obj)} {H'':Hp},(∀ p ∈ pl,p.1=D)→(∀ b ∈ fp,H'' b=none)→∀ b ∈ fp,zw (X.block scope C N s₂ H₂ fp) pl H'' b:=fun {pl H''} hp hn b hb=>
    ⟨hn b hb,(below b (fps b hb)).1,(OA (N:=N) (C:=C) I2 S f2 (fun b hb=>by rw [hDe];exact fps b hb) (by rw [hDe];exact hCle)).exfs b hb,.inl hb,fun x c e=>(f2 b hb).2.2.2.2.1 x c (sv e),fun p hpp z=>by
     have hpp':p ∈ pl:=by simpa using hpp
     exact (below b (fps b hb)).2 (by rw [← z];exact hp p hpp')⟩
   have hD1:∀ p ∈ [((D,{ cls:=.type "list",data:=.seq vs.toArray n }):Addr × Obj)],p.1=D:=fun p hp=>by
    have e:p=(D,{ cls:=.type "list",data:=.seq vs.toArray n }):=by simpa using hp
    rw [e]
   rcases hW i k ys H' w with ⟨stop,qn⟩ | ⟨go,hlen,step⟩
   ·refine thn (T.done (X.block scope C N s₂ H₂ fp) rfl rfl rfl hc i _ s' _ H' _ IB (fpB hD1 fr) st stop) fun r s4 hZ1=>?_
    obtain ⟨hr,I4⟩:=hZ1;subst hr;have pD:=I4.pin (D,{ cls:=.type "list",data:=.seq vs.toArray n }) (by simp);have hDn:H' D=none:=pD.2.1;have IX:Inv X pins σ H' s4:=I2.call' (ch:=fp) I4.os I4.base I4.hok I4.bare fun b hb=>⟨(f2 b hb).2.2.2.1,(f2 b hb).2.1,(f2 b hb).2.2.2.2.1,(f2 b hb).2.2.2.2.2⟩
    have foD:zw X pins H' D:=I2.fpOk (by rw [hDe];exact Nat.le_refl _) hDn;have IA:Inv X pins σ (upd H' D (.lst ys)) s4:=IX.adopt foD ⟨hyz,vs,n,rv,pD.1⟩;obtain ⟨mC,hnC,_⟩:=I4.loc;refine fin D C ys H' s4 IA ⟨mC,hnC⟩ (I2.fpOk (by rw [hDe];exact hCle) ?_) (qn D hDn);rw [wb (Ne.symm hDC)];exact I4.free
   ·refine thn (T.item (X.block scope C N s₂ H₂ fp) rfl rfl rfl hc i _ s' _ H' _ IB (fpB hD1 fr) st go) fun r s4 hZ1=>?_
    obtain ⟨u,hr,h4⟩:=hZ1;subst hr;refine thn h4 fun _ s5 hZ1=>?_
    obtain ⟨x,H5,I5,r5,y5,st5,fr5⟩:=hZ1;have I5':=I5.pinned (fpB hD1 fr5) (T.obj _ _ st5);refine thn (B.tgt C s₂ H₂ fp _ s5 _ H5 x u _ I5' r5 (step x H5 y5)) fun _ s6 hZ1=>?_
    obtain ⟨σ6,H6,I6,sb,q6⟩:=hZ1;refine thn (B.tests C s₂ H₂ fp _ s6 σ6 H6 _ I6 q6) fun c s7 hZ1=>?_
    obtain ⟨H7,I7,q7⟩:=hZ1;have again:∀ {σ8:St} {H8:Hp} {s8:Shared},Inv (X.block scope C N s₂ H₂ fp) ([(D,{ cls:=.type "list",data:=.seq vs.toArray n })] ++ ix fp s5.heap) σ8 H8 s8→tn (i + 1) s8.heap∧(∀ b ∈ fp,H8 b=none):=fun {σ8 H8 s8} I8=>by
     refine ⟨T.keep _ _ _ st5 fun b hb o e=>(I8.pin (b,o) (List.mem_append_right _ (List.mem_append_right _ (cm hb e)))).1,fun b hb=>?_⟩;obtain ⟨o,e,d⟩:=T.obj _ _ st5 b hb;exact (I8.pin (b,o) (List.mem_append_right _ (List.mem_append_right _ (cm hb e)))).2.1
    have back:∀ {H8:Hp} {s8:Shared} {pl:List (Addr × Obj)},Inv (X.block scope C N s₂ H₂ fp) pl σ6 H8 s8→Inv (X.block scope C N s₂ H₂ fp) pl (blk sel σ) H8 s8:=fun {H8 s8 pl} I8=>I8.weak sb.1.symm sb.2
    cases c with
    | false=>
     obtain ⟨m',hm,w'⟩:=q7;obtain ⟨t1,t2⟩:=again I7;exact ⟨m',hm,i + 1,ys,_,n,H7,back I7.unpinned,⟨vs,rfl,rv⟩,hyz,t1,t2,w'⟩
    | true=>
     refine thn (B.elem C s₂ H₂ fp _ s7 σ6 H7 _ I7 q7) fun v s8 hZ1=>?_
     obtain ⟨y,H8,I8,r8,m',hm,w'⟩:=hZ1;obtain ⟨t1,t2⟩:=again I8;have pD:=I8.pin (D,{ cls:=.type "list",data:=.seq vs.toArray n }) (by simp);refine append_at (hsz:=by have:=rv.length;rw [List.size_toArray];omega) pD.1 fun h9 hs9 hD9=>?_
     have IB':Inv (X.block scope C N s₂ H₂ fp) [] (blk sel σ) H8 s8:=(back I8).pins_of fun p hp=>nomatch hp
     have foD:zw (X.block scope C N s₂ H₂ fp) [] H8 D:=⟨pD.2.1,hDC,hDfs,.inr (by show s₂.heap.objs.size ≤ D;rw [hDe];exact Nat.le_refl _),(fun x c e z=>by
      obtain ⟨cv,o,ho,hd⟩:=I8.cell x c e;rw [z,pD.1] at ho;cases ho;cases hd),(fun p hp=>nomatch hp)⟩
     have I9:Inv (X.block scope C N s₂ H₂ fp) [] (blk sel σ) H8 { s8 with heap:=h9 }:=IB'.turned (t':=s8.toks) (it:=D) (fun b o hb e=>(hs9.2 b hb).trans e) foD.1 foD.2.1 foD.2.2.2.1 foD.2.2.2.2.1 foD.2.2.2.2.2;refine ⟨m',hm,i + 1,ys ++ [y],vs.toArray.push v,n + 1,H8,I9.pins_of fun p hp=>?_,⟨vs ++ [v],by simp,Paired.snoc rv r8⟩,by rw [List.length_append,List.length_singleton];omega,T.keep _ _ _ t1 fun b hb o e=>(hs9.2 b (below b (fps b hb)).2).trans e,t2,w'⟩;have e:p=(D,{ cls:=.type "list",data:=.seq (vs.toArray.push v) (n + 1) }):=by simpa using hp
     subst e;exact ⟨hD9,pD.2.1,hDC,hDfs,fun v z=>by cases z⟩
  ·have e:p=(D,{ cls:=.type "list",data:=.seq ([]:List Value).toArray }):=by simpa using hp
   subst e;exact ⟨hacc,I2.hok.fresh (by rw [hDe];exact Nat.le_refl _),hDC,hDfs,fun v z=>by cases z⟩
 exact codeAny_compStart_list (loop _ rfl) (T.self _ 0 _ _ _ st1 (loop _ rfl))
theorem Bf (hc:X.calm=true) (hi:PI X tg iter wi) (S:Qp X.env scope) (hsel:vH X.N scope N sel) (B:Blk X scope N tg elt ifs g tc te)
  (hs:∀ x,foldedSetIterable iter X.env x=pure x:=by intro _;rfl):PE X (.ListComp elt [⟨tg,iter,ifs,0⟩] scope pos) (mM wi g tc te sel):=by
 intro pins s σ H Q I h;rw [eval_ListComp];refine wpAny_comprehension_free (use:=none) rfl hs (xF (S.cells I.ok)) S.kind S.loc ?_;refine thn (hi pins s σ H _ I h) fun v s1 h1=>thn h1 fun itv s2 h2=>?_
 obtain ⟨it,fp,tn,J,H2,e,I2,T,st2,f2,W,w0,hW⟩:=h2;subst e;refine ax (RR:=fun acc C=>compPost (model X.prog X.w) X.A X.xe none (EP X pins σ Q) acc C) hc S hsel B I2 T st2 f2 w0 hW fun D C ys H' s' I' ⟨m,hm⟩ fo q=>?_
 exact ⟨m,hm,fun h' hsb=>⟨.ref D,_,I'.turned (t':=s'.toks) (it:=C) (fun b o hb e=>(hsb.2 b hb).trans e) fo.1 fo.2.1 fo.2.2.2.1 fo.2.2.2.2.1 fo.2.2.2.2.2,rfl,q⟩⟩
theorem Ee {i:Nat} {y:Str} {py spos:Pos} (hN:X.N.Nodup) (hi:X.N[i]? = some y) (hx:Loc X.env.scope y) (hc:X.calm=true) (hit:PI X tg iter wi) (S:Qp X.env scope) (hsel:vH X.N scope N sel) (B:Blk X scope N tg elt ifs g tc te)
  (hsw:swapsWith (.ListComp elt [⟨tg,iter,ifs,0⟩] scope pos) (some (.Name y py)) spos.line X.env=pure true) (hf:X.fn y=true∨X.env.scope.names.lookup y=some .local:=by first | exact .inl rfl | exact .inr rfl | assumption)
  (hs:∀ x,foldedSetIterable iter X.env x=pure x:=by intro _;rfl):PS X (.Assign [.Name y py] (.ListComp elt [⟨tg,iter,ifs,0⟩] scope pos) spos) (UN (mM wi g tc te sel) (Et i)):=by
 intro pins s σ H D I h;rw [exec_Assign_Name_used _ _ _ _ hsw];refine wpAny_bind (wpAny_standAt (wpAny_bind ?_));show wpAny _ X.A (do let _ ← comprehension (.ListComp elt [⟨tg,iter,ifs,0⟩] scope pos) scope X.env _ (newList []) false (eval iter X.env) (some (assign (.Name y py) X.env))) _ _ s;refine wpAny_bind (wpAny_mono (wpAny_comprehension_free (use:=some (assign (.Name y py) X.env)) (Q:=fun _ s'=>SP X pins D .next s') rfl hs (xF (S.cells I.ok)) S.kind S.loc ?_) (fun _ s' hq=>wpAny_pure (wpAny_pure hq)) fun _ _ e=>e);refine thn (hit pins s σ H _ I h) fun v s1 h1=>thn h1 fun itv s2 h2=>?_
 obtain ⟨it,fp,tn,J,H2,e,I2,T,st2,f2,W,w0,hW⟩:=h2;subst e;refine ax (RR:=fun acc C=>compPost (model X.prog X.w) X.A X.xe (some (assign (.Name y py) X.env)) (fun _ s'=>SP X pins D .next s') acc C) hc S hsel B I2 T st2 f2 w0 hW fun Da C ys H' s' I' ⟨m,hm⟩ fo q=>?_
 show wpAny _ X.A (assign (.Name y py) X.env (.ref Da)) _ _ _;refine wpAny_assign_Name (Fx I' hN hi hx (show Vd (.ref Da) (.ref Da) from rfl) (fun s3 I3 hZ1=>?_) hf);obtain ⟨a,hsb,ha⟩:=hZ1;have hCa:C ≠ a:=by
  rcases ha with z | z
  ·rw [z];exact fo.2.1
  ·exact fun w=>fo.2.2.2.2.1 y a z w.symm
 refine ⟨m,hm.sameBut hsb hCa,fun h' hsb'=>⟨_,_,I3.turned (t':=s3.toks) (it:=C) (fun b o hb e=>(hsb'.2 b hb).trans e) fo.1 fo.2.1 fo.2.2.2.1 fo.2.2.2.2.1 fo.2.2.2.2.2,q⟩⟩
end
def Eg (Pv:Nat→List V→Hp→Prop) (g:TG) (tc:TT) (te:TE) (σb:St) (i:Nat) (x:V) (ys:List V) (H:Hp):Prop:=
 ∀ N:List V→Hp→Prop,(∀ ys' H',Pv (i + 1) ys' H'→N ys' H')→g x σb H fun σ2 H2=>Sub σb σ2∧tc σ2 H2 fun c H3=>if c=true then te σ2 H3 fun y H4=>N (ys ++ [y]) H4 else N ys H3
theorem sF {K:PySem.W.Frag} {a:Addr} {xs:List V} {g:TG} {tc:TT} {te:TE} {σb:St} {Q:VK} {H:Hp} (Pv:Nat→List V→Hp→Prop) (hz:xs.length ≤ sizeLine) (h0:Pv 0 [] H) (hl:∀ i ys H,i ≤ xs.length→Pv i ys H→SqL K H a xs∧ys.length ≤ i)
  (hs:∀ i x ys H,xs[i]? = some x→Pv i ys H→Eg Pv g tc te σb i x ys H) (hd:∀ ys H,Pv xs.length ys H→∀ p,H p=none→Q (.ref p) (upd H p (.lst ys))) :
  ∃ W:Nat→Nat→List V→Hp→Prop,(∃ m,W 0 m [] H)∧Tz (Itl K a) g tc te σb Q W:=by
 refine ⟨fun i m ys H=>m=xs.length - i∧i ≤ xs.length∧Pv i ys H,⟨xs.length,by simp,Nat.zero_le _,h0⟩,?_⟩;rintro i m ys H ⟨rfl,hi,p⟩;have q:=(hl i ys H hi p).1;have hyl:=(hl i ys H hi p).2;by_cases hlt:i < xs.length
 ·refine .inr ⟨⟨xs,xs[i],q,by simp [hlt]⟩,by omega,fun x H' y=>?_⟩;obtain ⟨e,y⟩:=y;subst e;exact hs i x ys _ (y xs q) p (fun ys' H'=>∃ m',m' < xs.length - i∧m'=xs.length - (i + 1)∧i + 1 ≤ xs.length∧Pv (i + 1) ys' H') fun ys' H' r=>⟨xs.length - (i + 1),by omega,rfl,hlt,r⟩
 ·have e:i=xs.length:=by omega
  subst e;exact .inl ⟨⟨xs,q,Nat.le_refl _⟩,hd ys H p⟩
theorem EK {K:PySem.W.Frag} {a:Addr} {xs:List V} {g:TG} {tc:TT} {te:TE} {σb:St} {Q:VK} {H:Hp} (Pv:Nat→List V→Hp→Prop) (hz:xs.length ≤ sizeLine) (h0:Pv 0 [] H) (hl:∀ i ys H,i ≤ xs.length→Pv i ys H→SqT K H a xs∧ys.length ≤ i)
  (hs:∀ i x ys H,xs[i]? = some x→Pv i ys H→Eg Pv g tc te σb i x ys H) (hd:∀ ys H,Pv xs.length ys H→∀ p,H p=none→Q (.ref p) (upd H p (.lst ys))) :
  ∃ W:Nat→Nat→List V→Hp→Prop,(∃ m,W 0 m [] H)∧Tz (Itt K a) g tc te σb Q W:=by
 refine ⟨fun i m ys H=>m=xs.length - i∧i ≤ xs.length∧Pv i ys H,⟨xs.length,by simp,Nat.zero_le _,h0⟩,?_⟩;rintro i m ys H ⟨rfl,hi,p⟩;have q:=(hl i ys H hi p).1;have hyl:=(hl i ys H hi p).2;by_cases hlt:i < xs.length
 ·refine .inr ⟨⟨xs,xs[i],q,by simp [hlt]⟩,by omega,fun x H' y=>?_⟩;obtain ⟨e,y⟩:=y;subst e;exact hs i x ys _ (y xs q) p (fun ys' H'=>∃ m',m' < xs.length - i∧m'=xs.length - (i + 1)∧i + 1 ≤ xs.length∧Pv (i + 1) ys' H') fun ys' H' r=>⟨xs.length - (i + 1),by omega,rfl,hlt,r⟩
 ·have e:i=xs.length:=by omega
  subst e;exact .inl ⟨⟨xs,q,Nat.le_refl _⟩,hd ys H p⟩
theorem cD {lo:Int} {n:Nat} {g:TG} {tc:TT} {te:TE} {σb:St} {Q:VK} {H:Hp} (Pv:Nat→List V→Hp→Prop) (hz:n ≤ sizeLine) (h0:Pv 0 [] H) (hl:∀ i ys H,i ≤ n→Pv i ys H→ys.length ≤ i)
  (hs:∀ i ys H,i < n→Pv i ys H→Eg Pv g tc te σb i (.int (lo + i)) ys H) (hd:∀ ys H,Pv n ys H→∀ p,H p=none→Q (.ref p) (upd H p (.lst ys))) :
  ∃ W:Nat→Nat→List V→Hp→Prop,(∃ m,W 0 m [] H)∧Tz (Itr lo n) g tc te σb Q W:=by
 refine ⟨fun i m ys H=>m=n - i∧i ≤ n∧Pv i ys H,⟨n,by simp,Nat.zero_le _,h0⟩,?_⟩;rintro i m ys H ⟨rfl,hi,p⟩;have hyl:=hl i ys H hi p;by_cases hlt:i < n
 ·refine .inr ⟨hlt,by omega,fun x H' y=>?_⟩;obtain ⟨e,y⟩:=y;subst e y;exact hs i ys _ hlt p (fun ys' H'=>∃ m',m' < n - i∧m'=n - (i + 1)∧i + 1 ≤ n∧Pv (i + 1) ys' H') fun ys' H' r=>⟨n - (i + 1),by omega,rfl,hlt,r⟩
 ·have e:i=n:=by omega
  subst e;exact .inl ⟨Nat.le_refl _,hd ys H p⟩
end L2
namespace L2
open PySem PySem.Spec PyProof.Rows
noncomputable def Its (xs:List V):It:=⟨fun i _=>i < xs.length,fun i H x H'=>H'=H∧xs[i]? = some x,fun i _=>xs.length ≤ i⟩
theorem zu {P:Program} {w:World} {K:PySem.W.Frag} {tg:Expr} {it:Addr} {xs:List V} {PV:Nat→Value→Prop} {St:Nat→Heap→Prop} (hW:∀ A:Around,A.handled=none→Walks P w A it [it] [it] xs.length PV St)
  (hP:∀ i v,PV i v→∃ x,xs[i]? = some x∧Vd x v)
  (hgo:∀ i h,St i h→∃ o n vs,h.get? it=some o∧o.cls=.type n∧o.data=.fields vs∧["enumerate","zip","dict_itemiterator","dict_reverseitemiterator","odict_iterator","itertools.zip_longest","itertools.pairwise"].contains n=false)
  (hfr:∀ i h h',St i h→(∀ o,h.get? it=some o→h'.get? it=some o)→St i h')
  (hself:∀ (A:Around) (i:Nat) (s:Shared) (Q:Value→Shared→Prop) (E:Value→Shared→Prop),St i s.heap→Q (.ref it) s→wpAny (model P w) A (pyIter (.ref it)) Q E s) :
  mG P w K tg (Its xs) [it] it (fun i h=>i ≤ xs.length∧St i h) where
 mem:=by simp
 obj:=fun i h st b hb=>by
  have e:b=it:=by simpa using hb
  subst e;obtain ⟨o,n,vs,e,_,d,_⟩:=hgo i h st.2;exact ⟨o,e,fun v z=>by rw [d] at z;cases z⟩
 keep:=fun i h h' st k=>⟨st.1,hfr i h h' st.2 fun o e=>k it (by simp) o e⟩
 item:=by
  intro X hP' hw hK hc i pins s σ H E I hf st hg;subst hP' hw hK;obtain ⟨f0,f1,f2,f3,f4,f5⟩:=hf it (by simp);refine (hW X.A (I.ok.hd hc)).item i s _ _ hg st.2 fun v h' tk hv st' kk=>?_
  obtain ⟨x,hx,rx⟩:=hP i v hv;have I1:Inv X pins σ H { s with heap:=h',toks:=tk }:=I.turned (fun b o hb e=>kk b o (by simpa using hb) e) f0 f1 f3 f4 f5;obtain ⟨o,n,vs,e,c,d,nm⟩:=hgo _ _ st';exact ⟨v,rfl,eE (s:={ s with heap:=h',toks:=tk }) e c d nm ⟨x,H,I1,rx,⟨rfl,hx⟩,⟨hg,st'⟩,fun b hb=>(hf b hb).1⟩⟩
 done:=by
  intro X hP' hw hK hc i pins s σ H E I hf st hg;subst hP' hw hK;obtain ⟨f0,f1,f2,f3,f4,f5⟩:=hf it (by simp);have e:i=xs.length:=Nat.le_antisymm st.1 hg;subst e;exact (hW X.A (I.ok.hd hc)).done s _ _ st.2 fun h' tk kk=>⟨rfl,I.turned (fun b o hb e=>kk b o (by simpa using hb) e) f0 f1 f3 f4 f5⟩
 self:=fun A i s Q E st h=>hself A i s Q E st.2 h
noncomputable def Lw (c:Nat):Str:=⟨#[c]⟩
noncomputable def Xj (x:Str):List V:=x.cps.toList.map fun c=>V.str (Lw c)
theorem ao (x:Str):(Xj x).length=x.cps.size:=by unfold Xj;simp
theorem iH {x:Str} {i c:Nat} (h:x.cps[i]? = some c):(Xj x)[i]? = some (.str (Lw c)):=by
 unfold Xj;rw [List.getElem?_map,Array.getElem?_toList,h];rfl
theorem Pu {x:Str} {i:Nat} {v:Value} (h:SignAt x i v):∃ y,(Xj x)[i]? = some y∧Vd y v:=by
 obtain ⟨c,u,hc,rfl⟩:=h;exact ⟨.str (Lw c),iH hc,u,rfl⟩
section
variable {X:Cx} {tg:Expr}
noncomputable def LR (tl:TE):TI:=fun σ H R=>tl σ H fun x H1=>∃ z,x=.str z∧R (Its (Xj z)) H1
theorem vP {l:Expr} {tl:TE} (hl:PE X l tl):PI X tg l (LR tl):=by
 intro pins s σ H R I h;refine thn (hl pins s σ H _ I h) fun v s1 hZ1=>?_
 obtain ⟨x,H1,I1,r1,q1⟩:=hZ1;obtain ⟨z,e,q⟩:=q1;subst e;obtain ⟨t,rfl⟩:=r1;have fo:∀ b ∈ [s1.heap.objs.size],zw X pins H1 b:=fun b hb=>by
  have e:b=s1.heap.objs.size:=by simpa using hb
  subst e;exact I1.fpOk (Nat.le_refl _) (I1.hok.fresh (Nat.le_refl _))
 have hz:=ao z;cases ha:z.cps.all (· < 128) with
 | false=>
  refine wpAny_pyIter_wide ha ⟨s1.heap.objs.size,[s1.heap.objs.size],fun i h=>i ≤ (Xj z).length∧h.IsStrIter s1.heap.objs.size "str_iterator" z t i,_,H1,rfl,I1.kept (t':=s1.toks) fun b o e=>Heap.get?_push_of_some _ e,
   zu (fun A hA=>by rw [hz];exact Walks.strWide hA _ z t) (fun i v=>Pu) (fun i h ⟨o,e,c,d⟩=>⟨o,_,_,e,c,d,by decide⟩) (fun i h h' ⟨o,e,r⟩ k=>⟨o,k o e,r⟩) (fun A i s Q E st q=>wpAny_pyIter_striter_wide st q),
   ⟨Nat.zero_le _,_,Heap.get?_push_size _ rfl,rfl,rfl⟩,fo,q⟩
 | true=>
  refine wpAny_pyIter_ascii ha ⟨s1.heap.objs.size,[s1.heap.objs.size],fun i h=>i ≤ (Xj z).length∧h.IsStrIter s1.heap.objs.size "str_ascii_iterator" z t i,_,H1,rfl,I1.kept (t':=s1.toks) fun b o e=>Heap.get?_push_of_some _ e,
   zu (fun A hA=>by rw [hz];exact Walks.strAscii hA _ z t) (fun i v=>Pu) (fun i h ⟨o,e,c,d⟩=>⟨o,_,_,e,c,d,by decide⟩) (fun i h h' ⟨o,e,r⟩ k=>⟨o,k o e,r⟩) (fun A i s Q E st q=>wpAny_pyIter_striter_ascii st q),
   ⟨Nat.zero_le _,_,Heap.get?_push_size _ rfl,rfl,rfl⟩,fo,q⟩
end
theorem wM {xs:List V} {g:TG} {tb:TS} {D:qk} {σ:St} {H:Hp} (Pv:Nat→St→Hp→Prop) (h0:Pv 0 σ H)
  (hs:∀ i x σ H,xs[i]? = some x→Pv i σ H→g x σ H fun σ2 H2=>tb { D with nx:=Pv (i + 1),ct:=Pv (i + 1),bk:=D.nx } σ2 H2) (hd:∀ σ H,Pv xs.length σ H→D.nx σ H) :
  ∃ W:Nat→Nat→St→Hp→Prop,(∃ m,W 0 m σ H)∧∀ i m σ H,W i m σ H →
   ((Its xs).stop i H∧D.nx σ H)∨((Its xs).go i H∧∃ N:St→Hp→Prop,(∀ σ' H',N σ' H'→∃ m',m' < m∧W (i + 1) m' σ' H')∧∀ x H',(Its xs).yld i H x H'→g x σ H' fun σ2 H2=>tb { D with nx:=N,ct:=N,bk:=D.nx } σ2 H2):=by
 refine ⟨fun i m σ H=>m=xs.length - i∧i ≤ xs.length∧Pv i σ H,⟨xs.length,by simp,Nat.zero_le _,h0⟩,?_⟩;rintro i m σ H ⟨rfl,hi,p⟩;by_cases hlt:i < xs.length
 ·refine .inr ⟨hlt,Pv (i + 1),fun σ' H' p'=>⟨xs.length - (i + 1),by omega,rfl,hlt,p'⟩,fun x H' y=>?_⟩;obtain ⟨e,y⟩:=y;subst e;exact hs i x σ _ y p
 ·have e:i=xs.length:=by omega
  subst e;exact .inl ⟨Nat.le_refl _,hd σ H p⟩
theorem GJ {xs:List V} {g:TG} {tc:TT} {te:TE} {σb:St} {Q:VK} {H:Hp} (Pv:Nat→List V→Hp→Prop) (hz:xs.length ≤ sizeLine) (h0:Pv 0 [] H) (hl:∀ i ys H,i ≤ xs.length→Pv i ys H→ys.length ≤ i)
  (hs:∀ i x ys H,xs[i]? = some x→Pv i ys H→Eg Pv g tc te σb i x ys H) (hd:∀ ys H,Pv xs.length ys H→∀ p,H p=none→Q (.ref p) (upd H p (.lst ys))) :
  ∃ W:Nat→Nat→List V→Hp→Prop,(∃ m,W 0 m [] H)∧Tz (Its xs) g tc te σb Q W:=by
 refine ⟨fun i m ys H=>m=xs.length - i∧i ≤ xs.length∧Pv i ys H,⟨xs.length,by simp,Nat.zero_le _,h0⟩,?_⟩;rintro i m ys H ⟨rfl,hi,p⟩;have hyl:=hl i ys H hi p;by_cases hlt:i < xs.length
 ·refine .inr ⟨hlt,by omega,fun x H' y=>?_⟩;obtain ⟨e,y⟩:=y;subst e;exact hs i x ys _ y p (fun ys' H'=>∃ m',m' < xs.length - i∧m'=xs.length - (i + 1)∧i + 1 ≤ xs.length∧Pv (i + 1) ys' H') fun ys' H' r=>⟨xs.length - (i + 1),by omega,rfl,hlt,r⟩
 ·have e:i=xs.length:=by omega
  subst e;exact .inl ⟨Nat.le_refl _,hd ys H p⟩
section
variable {X:Cx}
noncomputable def NR:V→Option Int→Option Int→Hp→VK→Prop:=fun x lo hi H Q=>∃ z,x=.str z∧z.length ≤ sizeLine∧Q (.str (Txt.slice z lo hi)) H
theorem FI:SlR X NR:=by
 intro pins s σ H x v vl vu lo hi sl Q I rx hs pl pu h;obtain ⟨z,rfl,hz,q⟩:=h;obtain ⟨t,rfl⟩:=rx;refine ⟨"str",_,F.slot_str_getitem.lookup,typeIs_str s z t,?_⟩;have fin:∀ t' k,EP X pins σ Q (.str (Txt.slice z lo hi) t') { s with toks:=k }:=fun t' k=>⟨.str _,H,I.tok _,⟨_,rfl⟩,q⟩
 cases pl with
 | none=>
  cases pu with
  | none=>exact wpAny_getItem_str_slice (l:=none) (u:=none) (st:=none) hs rfl (post_val_or_str ⟨Nat.le_trans (Txt.slice_le z _ _) hz,fin⟩)
  | int j uj=>exact wpAny_getItem_str_slice (l:=none) (u:=some (j,uj)) (st:=none) hs rfl (post_val_or_str ⟨Nat.le_trans (Txt.slice_le z _ _) hz,fin⟩)
 | int i ui=>
  cases pu with
  | none=>exact wpAny_getItem_str_slice (l:=some (i,ui)) (u:=none) (st:=none) hs rfl (post_val_or_str ⟨Nat.le_trans (Txt.slice_le z _ _) hz,fin⟩)
  | int j uj=>exact wpAny_getItem_str_slice (l:=some (i,ui)) (u:=some (j,uj)) (st:=none) hs rfl (post_val_or_str ⟨Nat.le_trans (Txt.slice_le z _ _) hz,fin⟩)
noncomputable def Qb (ys:List Str):List V:=ys.map V.str
theorem wD:∀ {ys:List Str} {us:List Value},Cd (Qb ys) us→StrsAre us ys:=by
 intro ys
 induction ys with
 | nil=>intro us r;cases r;exact .nil
 | cons y ys ih=>
  intro us r;cases r with
  | cons r1 r2=>
   obtain ⟨t,rfl⟩:=r1;exact .cons y t (ih r2)
theorem wy:∀ (l:List (Str × Tok)),Cd (Qb (l.map (·.1))) (strValues l)
 | []=>.nil
 | (x,t) :: r=>.cons ⟨t,rfl⟩ (wy r)
noncomputable def jO (K:PySem.W.Frag):V→List V→Hp→VK→Prop:=fun x vs H Q=>∃ sep p ys,x=.str sep∧vs=[.ref p]∧SqL K H p (Qb ys)∧(ys.map (·.length)).sum + ys.length * sep.length ≤ 16777216∧Q (.str (Txt.join sep ys)) H
theorem cz:MtR X "str.join" (jO X.K):=by
 intro pins s σ H x xs v us Q I rx rv h;obtain ⟨sep,p,ys,rfl,rfl,hq,hz,q⟩:=h;obtain ⟨t,rfl⟩:=rx;obtain ⟨u,rfl,ru⟩:=qo rv;cases ru;obtain ⟨its,r,pl,_⟩:=I.list hq;exact join_list pl.isList (by simpa using wD r) hz fun t' k=>⟨.str _,H,I.tok _,⟨_,rfl⟩,q⟩
end
theorem LD {prog:Program} {w:World} {A:Around} {E:Value→Shared→Prop} {s:Shared} {x y:Str} {t u:Tok} {Q:Value→Shared→Prop} (hy:(y.length == 0)=false)
  (h:∀ l k,l.map (·.1)=Txt.split x y→Q (.ref s.heap.objs.size) { s with heap:=s.heap.push { cls:=.type "list",data:=.seq (strValues l).toArray },toks:=k }) (hsz:x.length + 2 ≤ sizeLine) :
  wpAny (model prog w) A (call (.builtin "str.split") [.str x t,.str y u]) Q E s:=by
 have hn:(Builtin.Str.partsBetween x (Builtin.Str.occurrences x y 0 x.length (x.length + 1)) y.length).length ≤ sizeLine:=by
  have e1:=StrLaws.occ_length_le x y 0 x.length (x.length + 1);rw [length_partsBetween];omega
 cases h1:(decide (x.length < y.length) || decide (Builtin.Str.strKind x < Builtin.Str.strKind y))
 ·cases hf:(Builtin.Str.occurrences x y 0 x.length (x.length + 1)).isEmpty
  ·refine call_meets F.slot_str_split (typeIs_str _ _ _) F.entry_str_split (F.args_str_split_2 _ _) (meets_str_split_sep x y t u h1 hy hf (by omega) hn) ?_;show wants Q E _ { s with toks:=_,heap:=s.heap.push { cls:=.type "list",data:=.seq (strsFrom s.toks (Builtin.Str.partsBetween x (Builtin.Str.occurrences x y 0 x.length (x.length + 1)) y.length)).toArray } };rw [strsFrom_eq];exact h (numbered s.toks _) _ ((numbered_texts _ _).trans ((if_neg (ne_true_of_eq_false h1)).trans (if_neg (ne_true_of_eq_false hf))).symm)
  ·exact call_meets F.slot_str_split (typeIs_str _ _ _) F.entry_str_split (F.args_str_split_2 _ _) (meets_str_split_not_found x y t u h1 hy hf)
    (h [(x,t)] s.toks ((if_neg (ne_true_of_eq_false h1)).trans (if_pos hf)).symm)
 ·exact call_meets F.slot_str_split (typeIs_str _ _ _) F.entry_str_split (F.args_str_split_2 _ _) (meets_str_split_cannot_occur x y t u h1)
   (h [(x,t)] s.toks (if_pos h1).symm)
section
variable {X:Cx}
noncomputable def WK:V→List V→Hp→VK→Prop:=fun x vs H Q=>∃ z y,x=.str z∧vs=[.str y]∧y.length ≠ 0∧z.length + 2 ≤ sizeLine∧(Txt.split z y).length ≤ sizeLine∧∀ p,H p=none→Q (.ref p) (upd H p (.lst (Qb (Txt.split z y))))
theorem nB:MtR X "str.split" WK:=by
 intro pins s σ H x xs v us Q I rx rv h;obtain ⟨z,y,rfl,rfl,hy,hz,hn,q⟩:=h;obtain ⟨t,rfl⟩:=rx;obtain ⟨u,rfl,ru⟩:=qo rv;obtain ⟨tu,rfl⟩:=ru;refine LD (by simpa using hy) (fun l k hl=>?_) hz;refine ⟨.ref s.heap.objs.size,_,I.laid (t':=k) (o:=.lst (Qb (Txt.split z y))) (fun b o e=>Heap.get?_push_of_some _ e) (Nat.le_refl _) ⟨by unfold Qb;rw [List.length_map];exact hn,strValues l,0,by rw [← hl];exact wy l,Heap.get?_push_size _ rfl⟩,rfl,q _ (I.hok.fresh (Nat.le_refl _))⟩
theorem BG:rk X (.type "int") (fun xs H Q=>∃ z n,xs=[.str z]∧intText? z=some n∧z.length ≤ 640∧Q (.int n) H):=by
 intro pins s σ H xs us Q I r h;obtain ⟨z,n,rfl,hn,hz,q⟩:=h;obtain ⟨u,rfl,t,rfl⟩:=qo r;exact PySem.W.KIN.call_text hn hz ⟨.int n,H,I.tok _,⟨_,rfl⟩,q⟩
theorem Qx:∀ {bs:List Bool} {us:List Value},Cd (bs.map V.bl) us→us=bs.map Value.bool
 | [],_,.nil=>rfl
 | b :: bs,_,.cons r t=>by
  have e:_=Value.bool b:=r;rw [e,Qx t];rfl
theorem cA {A:Around} (bs:List Bool):TruthOf X.prog X.w A (fun i v=>(bs.map Value.bool).toArray[i]? = some v) (fun i=>bs.getD i true):=by
 intro i v s Q E hP hQ;have e:(bs.map Value.bool)[i]? = some v:=by simpa using hP
 rw [List.getElem?_map] at e;cases q:bs[i]? with
 | none=>rw [q] at e;cases e
 | some b=>
  rw [q] at e;have e':Value.bool b=v:=Option.some.inj e;subst e';refine wpAny_truthy_bool ?_;have:bs.getD i true=b:=by simp [List.getD,q]
  have hQ':Q (bs.getD i true) s:=hQ;rw [this] at hQ';exact hQ'
theorem EF (bs:List Bool):(List.range bs.length).all (fun i=>bs.getD i true)=bs.all id:=by
 rw [Bool.eq_iff_iff];simp only [List.all_eq_true,List.mem_range,id];constructor
 ·intro h b hb;obtain ⟨i,hi,e⟩:=List.mem_iff_getElem.mp hb;have:=h i hi;simp [List.getD,hi,e] at this;exact this
 ·intro h i hi;simp [List.getD,hi];exact h _ (List.getElem_mem hi)
theorem RJ (hc:X.calm=true):rk X (.builtin "all") (fun xs H Q=>∃ (p:Addr) (bs:List Bool),xs=[.ref p]∧SqL X.K H p (bs.map V.bl)∧Q (.bl (bs.all id)) H):=by
 intro pins s σ H xs us Q I r h;obtain ⟨p,bs,rfl,hq,q⟩:=h;obtain ⟨u,rfl,ru⟩:=qo r;cases ru;obtain ⟨its,rv,pl,_⟩:=I.list hq;have e:=Qx rv;subst e;refine call_all_walk (wpAny_pyIter_list pl.isList ?_);have hne:p ≠ s.heap.objs.size:=Nat.ne_of_lt (by obtain ⟨o,_,ho,_⟩:=pl;exact Heap.lt_size ho);refine ⟨s.heap.objs.size,_,_,_,_,_,fun i=>bs.getD i true,rfl,Walks.list (show X.A.in1.handled=none from I.ok.hd hc) _ p hne (bs.map Value.bool).toArray,⟨⟨_,Heap.get?_push_size _ rfl,rfl,rfl⟩,pl.isList.at fun o e=>Heap.get?_push_of_some _ e⟩,cA bs,fun h' tk kk=>?_⟩;refine ⟨.bl (bs.all id),H,I.kept fun b o e=>kk b o (by simpa using Nat.ne_of_lt (Heap.lt_size e)) (Heap.get?_push_of_some _ e),?_,q⟩;show Value.bool _=Value.bool _;rw [show (bs.map Value.bool).toArray.size=bs.length by simp,EF]
end
end L2
namespace L2
open PySem PySem.Spec PyProof.Rows
theorem Ue {X:Cx} {N:List Str} (h:N.Nodup) (e:X.N=N):X.N.Nodup:=e ▸ h
noncomputable def AH (sc scope:Scope):Bool:=
 (scope.kind == .function) && scope.names.all (fun y=>y.2 != .cell) && scope.names.all (fun y=>y.2 != .free || sc.names.lookup y.1 == some .cell || sc.names.lookup y.1 == some .free) &&
  scope.names.all (fun y=>y.2 != .local || scope.names.lookup y.1 == some .local)
theorem ic {env:Env} {sc scope:Scope} (he:env.scope=sc) (h:AH sc scope=true):Qp env scope:=by
 subst he;unfold AH at h;simp only [Bool.and_eq_true,List.all_eq_true] at h;obtain ⟨⟨⟨h1,h2⟩,h3⟩,h4⟩:=h;refine ⟨by simpa using h1,fun y hy e=>?_,fun y hy e=>?_,fun y hy e=>?_⟩
 ·have:=h2 y hy;rw [e] at this;exact absurd this (by decide)
 ·have:=h3 y hy;rw [e] at this;simp only [Bool.or_eq_true] at this;rcases this with (z | z) | z
  ·exact absurd z (by decide)
  ·exact .inl (show env.scope.names.lookup y.1=some .cell by simpa using z)
  ·exact .inr (show env.scope.names.lookup y.1=some .free by simpa using z)
 ·have:=h4 y hy;rw [e] at this;simp only [Bool.or_eq_true] at this;rcases this with z | z
  ·exact absurd z (by decide)
  ·simpa using z
noncomputable def xR (M:List Str) (scope:Scope) (N:List Str) (sel:List (Option Nat)):Bool:=
 sel.length == N.length && (sel.zip N).all fun p=>match p.1 with | none=>true | some j=>M[j]? == some p.2 && scope.names.lookup p.2 == some .free
theorem uc {M:List Str} {scope:Scope} {N:List Str} {sel:List (Option Nat)} (h:xR M scope N sel=true):vH M scope N sel:=by
 unfold xR at h;simp only [Bool.and_eq_true,List.all_eq_true] at h;refine ⟨by simpa using h.1,fun i j x e1 e2=>?_⟩;have hm:(some j,x) ∈ sel.zip N:=by
  rw [List.mem_iff_getElem?];exact ⟨i,by rw [List.getElem?_zip_eq_some];exact ⟨e1,e2⟩⟩
 have:=h.2 _ hm;simp only [Bool.and_eq_true] at this;exact ⟨by simpa using this.1,by simpa using this.2⟩
noncomputable def noT:HO→Bool
 | .dT _=>false
 | .frz _ u=>noT u
 | _=>true
def NoT (H:Hp):Prop:=∀ b o,H b=some o→noT o=true
theorem we.back {P:Program} {w:World} {H H':Hp} {h h':Heap} {a:Addr}:∀ (o:HO),noT o=true→we P w H' h' a o→we P w H h a o→we P w H h' a o
 | .lst _,_,x,_=>x
 | .tup _,_,x,_=>x
 | .dK _,_,x,_=>x
 | .dT _,e,_,_=>absurd e (by unfold noT;decide)
 | .set _ _,_,x,_=>x
 | .ins _ _ _,_,x,y=>⟨y.1,x.2⟩
 | .own _,_,x,_=>x
 | .xd _,_,x,_=>x
 | .met _ _,_,x,_=>x
 | .rng _ _,_,x,_=>x
 | .frz ob u,e,x,y=>⟨x.1,we.back u (by unfold noT at e;exact e) x.2 y.2⟩
 | .tbl _,_,x,_=>x
 | .ext _,_,x,_=>x
section
variable {P:Program} {w:World} {K:PySem.W.Frag} {mg:Str→Option Value} {base:Heap}
theorem Gb.forget {k:Nat} {f:Addr} {fd:FuncData} {ps:List Str} {sp sp':Sp} (F:Gb P w K mg base CX0 k f fd ps sp)
  (h:∀ vs H Q E,sp' vs H Q E→NoT H∧sp vs H (fun v H'=>Ib H H'∧Q v H) E):Gb P w K mg base CX0 k f fd ps sp':=by
 refine ⟨fun vs H Q E q=>F.len vs H _ E (h vs H Q E q).2,fun A outer s H args us vs Q E hr he hb hv hs=>?_⟩;obtain ⟨nt,q⟩:=h vs H Q E hs;refine codeAny_mono (F.run A outer s H args us vs _ E hr he hb hv q) fun r s' hq=>?_
 cases r with
 | error e=>exact hq
 | ok fl=>
  cases fl with
  | next=>exact hq
  | brk=>exact hq
  | cont=>exact hq
  | ret u=>
   obtain ⟨v,H',os,bare,un,hok,rv,sm,q'⟩:=hq;exact ⟨v,H,os,bare,⟨un.keep,un.slot,fun _ _ _ n _=>n,un.there,fun _ _ z=>z,fun _ _ _ z=>z,fun _ ps z=>⟨#[],by rw [z];simp⟩⟩,fun a o e=>(hok a o (sm a o e)).back o (nt a o e) (he.hok a o e),rv,q'⟩
end
theorem fb {H:Hp} {p:Addr} {o:HO} (h:H p=none):Ib H (upd H p o):=fun b u q=>by rw [wb (Ab q h)];exact q
theorem Ib.updN {H H1:Hp} {p:Addr} {o:HO} (s:Ib H H1) (h:H p=none):Ib H (upd H1 p o):=fun b u q=>by rw [wb (Ab q h)];exact s b u q
structure Sc (K:PySem.W.Frag) (a:Addr) (ns:List Int) (H:Hp):Prop where
 sq:(∃ o,H a=some (.frz o (.lst (ns.map V.int))))∨∃ (o:Obj) (its:Array Value) (n:Nat),K.lookup a=some o∧o.cls=.type "list" ∧ o.dict=none∧o.data=.seq its n∧its.size ≤ sizeLine∧Cd (ns.map V.int) its.toList
 nt:NoT H
section
variable {K:PySem.W.Frag} {a p:Addr} {ns:List Int} {H H':Hp} {o:HO}
theorem Sc.seq (s:Sc K a ns H):SqL K H a (ns.map V.int):=by
 rcases s.sq with ⟨o,h⟩ | h
 ·exact .inl (.inr ⟨o,h⟩)
 ·exact .inr h
theorem Sc.new (s:Sc K a ns H) (hp:H p=none) (ho:noT o=true:=by rfl):Sc K a ns (upd H p o):=by
 refine ⟨?_,fun b u e=>?_⟩
 ·rcases s.sq with ⟨ob,h⟩ | h
  ·exact .inl ⟨ob,by rw [wb (Ab h hp)];exact h⟩
  ·exact .inr h
 ·by_cases hb:b=p
  ·subst hb;rw [db] at e;cases e;exact ho
  ·rw [wb hb] at e;exact s.nt b u e
theorem Sc.set {u:HO} (s:Sc K a ns H) (hp:H p=some u) (hu:∀ ob z,u ≠ .frz ob z) (ho:noT o=true:=by rfl):Sc K a ns (upd H p o):=by
 refine ⟨?_,fun b x e=>?_⟩
 ·rcases s.sq with ⟨ob,h⟩ | h
  ·refine .inl ⟨ob,?_⟩;have hne:a ≠ p:=fun z=>by subst z;rw [hp] at h;exact hu _ _ (Option.some.inj h)
   rw [wb hne];exact h
  ·exact .inr h
 ·by_cases hb:b=p
  ·subst hb;rw [db] at e;cases e;exact ho
  ·rw [wb hb] at e;exact s.nt b x e
theorem Sc.of_only (hO:eQ H) (hS:SqL K H a (ns.map V.int)):Sc K a ns H:=by
 refine ⟨?_,fun b u e=>?_⟩
 ·rcases hS with (h | ⟨o,h⟩) | h
  ·rcases hO a with z | ⟨ob,xs,z⟩
   ·rw [h] at z;cases z
   ·rw [h] at z;cases z
  ·exact .inl ⟨o,h⟩
  ·exact .inr h
 ·rcases hO b with z | ⟨ob,xs,z⟩
  ·rw [e] at z;cases z
  ·rw [e] at z;cases z;rfl
end
def fQ (K:PySem.W.Frag):Sp:=fun vs H Q _=>∃ (a:Addr) (ns:List Int),vs=[.ref a]∧Sc K a ns H∧ns.length ≤ 63∧∀ H',Q (.bl true) H'
theorem Nc:bootBuiltins "len"=some (.builtin "len"):=PySem.boot_len
theorem dD:bootBuiltins "all"=some (.builtin "all"):=by decide +kernel
theorem Do:bootBuiltins "max"=some (.builtin "max"):=by decide +kernel
theorem PD:bootBuiltins "sum"=some (.builtin "sum"):=by decide +kernel
theorem OC:bootBuiltins "int"=some (.type "int"):=by decide +kernel
theorem Vo:bootBuiltins "str"=some (.type "str"):=by decide +kernel
theorem dn:bootBuiltins "list"=some (.type "list"):=by decide +kernel
theorem Nz:bootBuiltins "dict"=some (.type "dict"):=by decide +kernel
theorem Rd.same {H H':Hp} {a:Addr} {o:HO} (h:Rd H a o) (s:Ib H H'):Rd H' a o:=by
 rcases h with h | ⟨ob,h⟩
 ·exact .inl (s _ _ h)
 ·exact .inr ⟨ob,s _ _ h⟩
theorem SqL.same {K:PySem.W.Frag} {H H':Hp} {a:Addr} {xs:List V} (h:SqL K H a xs) (s:Ib H H'):SqL K H' a xs:=by
 rcases h with h | h
 ·exact .inl (h.same s)
 ·exact .inr h
theorem SqT.same {K:PySem.W.Frag} {H H':Hp} {a:Addr} {xs:List V} (h:SqT K H a xs) (s:Ib H H'):SqT K H' a xs:=by
 rcases h with h | h
 ·exact .inl (h.same s)
 ·exact .inr h
theorem NoT.upd {H:Hp} {p:Addr} {o:HO} (h:NoT H) (ho:noT o=true:=by rfl):NoT (upd H p o):=fun b u e=>by
 by_cases hb:b=p
 ·subst hb;rw [db] at e;cases e;exact ho
 ·rw [wb hb] at e;exact h b u e
theorem Sc.same {K:PySem.W.Frag} {a:Addr} {ns:List Int} {H H':Hp} (s:Sc K a ns H) (sm:Ib H H') (nt:NoT H'):Sc K a ns H':=by
 refine ⟨?_,nt⟩;rcases s.sq with ⟨o,h⟩ | h
 ·exact .inl ⟨o,sm _ _ h⟩
 ·exact .inr h
end L2
namespace L2
open PySem PySem.Spec PyProof.Rows
structure QR (K:PySem.W.Frag) (C:Addr) (m:Str) (f:Addr):Prop where
 rd:PySem.W.readsIn K C (.type "type")=true
 fd:PySem.W.findCls K (.ref C) (.type "type") m=some (.val (.ref f))
 ga:PySem.W.specialIn K (.ref C) "__getattribute__"=some (some (.builtin "type.__getattribute__"))
 kp:PySem.W.keepIn K (.ref f)=true
structure GC (P:Program) (w:World) (K:PySem.W.Frag) (mg:Str→Option Value) (base:Heap) (CX:CXT) (k:Nat) (OK:Addr→Prop) (m:Str) (ps:List Str) (SPV:Addr→Sp):Prop where
 ok:∀ C,OK C→∃ f fd,Cls K C∧xv K C m f∧Gb P w K mg base CX k f fd ps (SPV C)∧Xb K fd ps []
noncomputable def TL (OK:Addr→Prop) (m:Str) (SPV:Addr→Sp) (E:XK) (ta:TE) (t:TA):TE:=fun σ H Q=>ta σ H fun x H1=>∃ a C dx fs,x=.ref a∧H1 a=some (.ins C dx fs)∧OK C∧fs.lookup m=none ∧
 t σ H1 fun vs H2=>SPV C (x :: vs) H2 Q E
section
variable {X:Cx} {CX:CXT} {k:Nat} {f C:Addr} {fd:FuncData} {ps:List Str} {sp:Sp} {dvs:List V} {ds:List Value} {E:XK} {x m:Str} {p pos apos:Pos} {e o:Expr} {es:List Expr} {ta:TE} {t:TA}
theorem Xv {pl:Sem Bool} (hg:Gl X x) (hm:X.mg x=some (.ref C)) (c:QR X.K C m f) (F:Gb X.prog X.w X.K X.mg X.base CX k f fd ps sp) (hr:vk k X.A) (hb:Xb X.K fd ps ds) (hd:Cd dvs ds) (hx:eo CX X E) (ha:PA X (e :: es) t)
  (hdb:(x == ("__debug__" : Str))=false:=by decide) (hst:starEach (e :: es) X.env=(false,eval e X.env) :: starEach es X.env:=by rfl) (hpl:(backTo pos (starEach es X.env)).any (·.1)=false:=by rfl)
  (ht:eval (.Call (.Attribute (.Name x p) m apos) (e :: es) [] pos) X.env=(do
   let ov ← eval (.Name x p) X.env
   standAt apos.atName
   let (f,first) ← holding [ov] (getMethod ov m pl)
   callWith pos f first (backTo pos (starEach (e :: es) X.env)) (backToKw pos (keywordEach [] X.env))):=by rfl) :
  PE X (.Call (.Attribute (.Name x p) m apos) (e :: es) [] pos) (UI sp dvs E t):=by
 intro pins s σ H Q I h;refine PySem.W.methodCall_KW (pl:=pl) (Vv I hg hm ?_ hdb) ht;refine PySem.W.method_cls I.kIn c.ga (PySem.W.cls_value I.kIn c.rd c.fd rfl ?_);have I1:=I.tok (s.toks + 1);refine PySem.W.callWith_K (first:=[]) (h₀:=X.base) I.ok.mod.kin c.kp (thn (ha pos pins _ σ H _ I1 h) fun us s2 ⟨vs,H2,I2,r,q2⟩=>⟨I2.kIn,?_⟩) hst hpl;exact qx F hr hb hd hx I2 r q2
variable {OK:Addr→Prop} {SPV:Addr→Sp}
theorem dj {pl:Sem Bool} (he:PE X o ta) (V:GC X.prog X.w X.K X.mg X.base CX k OK m ps SPV) (hr:vk k X.A) (hx:eo CX X E)
  (ht:eval (.Call (.Attribute o m apos) [] [] pos) X.env=(do
   let ov ← eval o X.env
   standAt apos.atName
   let (f,first) ← holding [ov] (getMethod ov m pl)
   callWith pos f first (backTo pos (starEach [] X.env)) (backToKw pos (keywordEach [] X.env))):=by rfl) :
  PE X (.Call (.Attribute o m apos) [] [] pos) (TL OK m SPV E ta vQ):=by
 intro pins s σ H Q I h;refine PySem.W.methodCall_KW (pl:=pl) (thn (he pins s σ H _ I h) fun u s1 hZ1=>?_) ht;obtain ⟨x,H1,I1,rx,a,C,dx,fs,ex,ea,ok,l,q⟩:=hZ1;subst ex;obtain rfl:u=Value.ref a:=rx;obtain ⟨f,fd,c,hm,F,hb⟩:=V.ok C ok;refine gp I1 ea c hm l ?_;exact PySem.W.callWith_K0 (first:=[.ref a]) I1.kIn hm.kp (qx (us:=[.ref a]) (vs:=[.ref a]) (dvs:=[]) F hr hb .nil hx I1 (.cons rfl .nil) q)
end
section
variable {X:Cx} {x:Str} {p pos:Pos} {i:Expr} {ty:TE} {u:Value} {kvs:List (Str × V)}
end
theorem kd {f:Str} {v:V}:∀ {fs:List (Str × V)} (ks:List Str),fs.map (·.1)=ks→ks.contains f=false→Rh f v fs=fs ++ [(f,v)]
 | [],_,_,_=>rfl
 | (g,y) :: r,ks,e,h=>by
  cases e;rw [List.map_cons,List.contains_cons] at h;have h1:=(Bool.or_eq_false_iff.mp h);have hne:¬ g=f:=fun z=>by
   have:=h1.1;rw [z] at this;simp at this
  show (if g=f then _ else _)=_;rw [if_neg hne,kd _ rfl h1.2];rfl
theorem Co {f:Str} {v:V} {fs:List (Str × V)} {n:Nat} (h:fs.length < n):(Rh f v fs).length < n + 1:=Nat.lt_of_le_of_lt (Zm f v fs) (by omega)
theorem yd {f:Str} {v:V}:∀ {fs:List (Str × V)} (ks:List Str) (i:Nat),fs.map (·.1)=ks→ks.findIdx? (· == f)=some i→fs[i]? = some (f,v)→fs.lookup f=some v
 | [],_,_,_,_,h=>by simp at h
 | (g,y) :: r,ks,i,e,h,hv=>by
  cases e;rw [List.map_cons,List.findIdx?_cons] at h;rw [List.lookup];by_cases e:g=f
  ·subst e;rw [beq_self_eq_true,if_pos rfl] at h;cases h;have:(g,y)=(g,v):=by simpa using hv
   cases this;rw [beq_self_eq_true]
  ·rw [beq_eq_false_iff_ne.mpr e,if_neg (by decide)] at h;obtain ⟨j,hj,rfl⟩:=Option.map_eq_some_iff.mp h;rw [beq_eq_false_iff_ne.mpr (fun z=>e z.symm)];exact yd _ j rfl hj (by simpa using hv)
theorem Tk {f:Str}:∀ {fs:List (Str × V)} (ks:List Str),fs.map (·.1)=ks→ks.contains f=false→fs.lookup f=none
 | [],_,_,_=>rfl
 | (g,y) :: r,ks,e,h=>by
  cases e;rw [List.map_cons,List.contains_cons] at h;have h1:=(Bool.or_eq_false_iff.mp h);rw [List.lookup,h1.1];exact Tk _ rfl h1.2
end L2
namespace L2
open PySem PySem.Spec PyProof.Rows
theorem Inv.turnedL {X:Cx} {pins:List (Addr × Obj)} {σ:St} {H:Hp} {s:Shared} {h':Heap} {t':Nat} {fp:List Addr} (I:Inv X pins σ H s) (k:∀ b o,b ∉ fp→s.heap.get? b=some o→h'.get? b=some o)
  (hf:∀ b ∈ fp,zw X pins H b):Inv X pins σ H { s with heap:=h',toks:=t' }:=by
 have nit:∀ b u,H b=some u→b ∉ fp:=fun b u e z=>by rw [(hf b z).1] at e;cases e
 refine I.step (g':=s.gens) (d':=s.drawn) (ch:=fp) (fun b hb=>?_) (fun b o _ _ hc e _=>k b o hc e) (fun b o _ _ hc e _=>⟨o.slots,k b o hc e⟩) (fun _ _ _ _ n=>n)
  (fun b o hc e=>⟨o,k b o hc e⟩) (fun _ _ e=>e) (fun _ _ _ e=>e) (fun b ps e=>⟨#[],by rw [e];simp⟩) (fun m hm=>?_) (fun b u e=>?_) I.bare
 ·obtain ⟨f0,f1,f2,f3,f4,f5⟩:=hf b hb;exact ⟨f3,f1,f4,f5⟩
 ·obtain ⟨o,es,ep,ho,r⟩:=hm;exact ⟨o,es,ep,k _ o (fun z=>(hf _ z).2.1 rfl) ho,r⟩
 ·refine (I.hok b u e).stay (fun c v hc q=>k c v ?_ q) (fun _ q=>q) fun _ _ q=>q
  rcases hc with z | z
  ·rw [z];exact nit b u e
  ·exact nit c _ z
noncomputable def Ite (K:PySem.W.Frag) (a:Addr):It:=
 ⟨fun i H=>∃ xs x,SqL K H a xs∧xs[i]? = some x,fun i H v H'=>∃ p y,H p=none∧v=.ref p∧(∀ xs,SqL K H a xs→xs[i]? = some y)∧H'=upd H p (.tup [.int i,y]),fun i H=>∃ xs,SqL K H a xs∧xs.length ≤ i⟩
theorem AG {P:Program} {w:World} {K:PySem.W.Frag} {es:List Expr} {k} {pos:Pos} (a e it:Addr) (hne:e ≠ it) :
  mG P w K (.Tuple es k pos) (Ite K a) [e,it] e (fun i h=>∃ old,IsEnum h e it ((i:Nat):Int) old∧h.IsListIter it a i) where
 mem:=by simp
 obj:=fun i h ⟨old,he,hi⟩ b hb=>by
  simp only [List.mem_cons,List.not_mem_nil,or_false] at hb;rcases hb with rfl | rfl
  ·exact ⟨_,he,fun v z=>by
    have z':Data.fields _=Data.cell v:=z;cases z'⟩
  ·obtain ⟨o,q,c,d⟩:=hi;exact ⟨o,q,fun v z=>by rw [d] at z;cases z⟩
 keep:=fun i h h' ⟨old,he,hi⟩ k=>⟨old,k e (by simp) _ he,hi.at fun o q=>k it (by simp) o q⟩
 item:=by
  intro X hP hw hK hc i pins s σ H E I hf ⟨old,he,hi⟩ hg;subst hP hw hK;obtain ⟨xs,x,hq,hx⟩:=hg;obtain ⟨its,rv,p,hz⟩:=I.list hq;obtain ⟨u,hu,ru⟩:=rv.get hx;refine wpAny_pyNext_enum_item he hi p.isList (x:=u) (by simpa using hu) hne fun h1 he1 hi1 ht1 hz1 hk1=>⟨_,rfl,?_⟩
  refine wpAny_letOwnedTupleGo_enum he1 fun h2 he2 hs2=>?_
  replace hs2:Heap.SameBut e h1 h2:=hs2;have hel:e < s.heap.objs.size:=Heap.lt_size he;have hk:∀ b o,b ∉ [e,it]→s.heap.get? b=some o→h2.get? b=some o:=fun b o hb q=>by
   simp only [List.mem_cons,List.not_mem_nil,or_false,not_or] at hb;exact hs2.extBut _ _ hb.1 (hk1 b o hb.1 hb.2 q)
  have I1:Inv X pins σ H { s with heap:=h2,toks:=s.toks + 1 }:=I.turnedL hk hf;have fo:zw X pins H s.heap.objs.size:=I.fpOk (Nat.le_refl _) (I.hok.fresh (Nat.le_refl _));have ht2:h2.get? s.heap.objs.size=some { cls:=.type "tuple",data:=.seq #[.int i s.toks,u] }:=(hs2.2 _ (Nat.ne_of_gt hel)).trans ht1;have I2:=I1.adopt (o:=.tup [.int i,x]) fo ⟨⟨by show 2 ≤ sizeLine;decide,_,ht2,rfl⟩,[.int i s.toks,u],.cons ⟨_,rfl⟩ (.cons ru .nil),⟨_,ht2,rfl,_,rfl⟩⟩;refine ⟨.ref s.heap.objs.size,_,I2,rfl,⟨_,x,fo.1,rfl,fun ys hy=>by rw [I.list_inj hy hq];exact hx,rfl⟩,⟨u,?_,?_⟩,fun b hb=>?_⟩
  ·have e1:((i + 1:Nat):Int)=(i:Int) + 1:=by omega
   rw [e1];exact he2
  ·exact hi1.extBut hs2.extBut (Ne.symm hne)
  ·have hlt:b < s.heap.objs.size:=by
    simp only [List.mem_cons,List.not_mem_nil,or_false] at hb;rcases hb with rfl | rfl
    ·exact hel
    ·obtain ⟨o,q,_⟩:=hi;exact Heap.lt_size q
   rw [wb (Nat.ne_of_lt hlt)];exact (hf b hb).1
 done:=by
  intro X hP hw hK hc i pins s σ H E I hf ⟨old,he,hi⟩ hg;subst hP hw hK;obtain ⟨xs,hq,hx⟩:=hg;obtain ⟨its,rv,p,hz⟩:=I.list hq;have hl:=rv.length;exact wpAny_pyNext_enum_end (I.ok.hd hc) he hi p.isList (by simp;omega) fun h' eb=>⟨rfl,I.turnedL (t':=s.toks) (fun b o hb q=>eb b o (fun z=>hb (by simp [z])) q) hf⟩
 self:=fun _ _ _ _ _ ⟨_,he,_⟩ h=>wpAny_pyIter_enum he h
theorem Om:bootBuiltins "enumerate"=some (.type "enumerate"):=by decide +kernel
theorem qK:bootBuiltins "zip"=some (.type "zip"):=by decide +kernel
theorem uw:bootBuiltins "reversed"=some (.type "reversed"):=by decide +kernel
noncomputable def Itz (K:PySem.W.Frag) (a b:Addr):It:=
  ⟨fun i H=>∃ xs ys x y,SqL K H a xs∧SqL K H b ys∧xs[i]? = some x∧ys[i]? = some y,
   fun i H v H'=>∃ p x y,H p=none∧v=.ref p∧(∀ xs,SqL K H a xs→xs[i]? = some x)∧(∀ ys,SqL K H b ys→ys[i]? = some y)∧H'=upd H p (.tup [x,y]),
   fun i H=>∃ xs ys,SqL K H a xs∧SqL K H b ys∧(xs.length ≤ i∨ys.length ≤ i)⟩
theorem Tg {h:Heap} {a b:Addr} {o o':Obj} {c d:String} (ha:h.get? a=some o) (hb:h.get? b=some o') (hc:o.cls=.type c) (hd:o'.cls=.type d) (n:c ≠ d):a ≠ b:=fun z=>by
 subst z;rw [ha] at hb;cases hb;rw [hc] at hd;cases hd;exact n rfl
theorem Dy {h:Heap} {z TI TO i1 i2 l1 l2:Addr} {f0 u1 u2 v1 v2:Value} {k1 k2:Nat} {xs ys:Array Value} (hz:IsZip h z TI TO f0) (hTI:IsPair h TI u1 u2) (hTO:IsPair h TO v1 v2) (h1:h.IsListIter i1 l1 k1) (h2:h.IsListIter i2 l2 k2)
  (g1:h.IsList l1 xs) (g2:h.IsList l2 ys) (nT:TI ≠ TO) (ni:i1 ≠ i2):ZipApart z TI TO i1 i2 l1 l2:=by
 obtain ⟨o1,e1,c1,_⟩:=h1;obtain ⟨o2,e2,c2,_⟩:=h2;obtain ⟨p1,f1,d1,_⟩:=g1;obtain ⟨p2,f2,d2,_⟩:=g2;exact ⟨Tg hTI hz rfl rfl (by decide),Tg hTO hz rfl rfl (by decide),Tg e1 hz c1 rfl (by decide),Tg e2 hz c2 rfl (by decide),nT,Tg hTI e1 rfl c1 (by decide),Tg hTI e2 rfl c2 (by decide),
  Tg hTO e1 rfl c1 (by decide),Tg hTO e2 rfl c2 (by decide),ni,Tg f1 hz d1 rfl (by decide),Tg f1 hTO d1 rfl (by decide),Tg f1 e1 d1 c1 (by decide),Tg f1 e2 d1 c2 (by decide),
  Tg f2 hz d2 rfl (by decide),Tg f2 hTO d2 rfl (by decide),Tg f2 e1 d2 c1 (by decide),Tg f2 e2 d2 c2 (by decide)⟩
theorem lJ {P:Program} {w:World} {K:PySem.W.Frag} {es:List Expr} {k} {pos:Pos} (a b z TI TO i1 i2:Addr) (nT:TI ≠ TO) (ni:i1 ≠ i2) :
  mG P w K (.Tuple es k pos) (Itz K a b) [z,TI,TO,i1,i2] z (fun i h=>IsZip h z TI TO .none∧IsPair h TI (.ref i1) (.ref i2)∧(∃ u v,IsPair h TO u v)∧h.IsListIter i1 a i∧h.IsListIter i2 b i) where
 mem:=by simp
 obj:=fun i h ⟨hz,hTI,⟨u,v,hTO⟩,⟨o1,e1,_,d1⟩,o2,e2,_,d2⟩ c hc=>by
  simp only [List.mem_cons,List.not_mem_nil,or_false] at hc;rcases hc with rfl | rfl | rfl | rfl | rfl
  ·exact ⟨_,hz,fun v z=>by
    have z':Data.fields _=Data.cell v:=z;cases z'⟩
  ·exact ⟨_,hTI,fun v z=>by
    have z':Data.seq _ _=Data.cell v:=z;cases z'⟩
  ·exact ⟨_,hTO,fun v z=>by
    have z':Data.seq _ _=Data.cell v:=z;cases z'⟩
  ·exact ⟨o1,e1,fun v z=>by rw [d1] at z;cases z⟩
  ·exact ⟨o2,e2,fun v z=>by rw [d2] at z;cases z⟩
 keep:=fun i h h' ⟨hz,hTI,⟨u,v,hTO⟩,h1,h2⟩ k=>⟨k z (by simp) _ hz,k TI (by simp) _ hTI,⟨u,v,k TO (by simp) _ hTO⟩,h1.at fun o q=>k i1 (by simp) o q,h2.at fun o q=>k i2 (by simp) o q⟩
 item:=by
  intro X hP hw hK hc i pins s σ H E I hf ⟨hz,hTI,⟨u,v,hTO⟩,h1,h2⟩ hg;subst hP hw hK;obtain ⟨xs,ys,x,y,hq,hr,hx,hy⟩:=hg;obtain ⟨its,rv,p,hz1⟩:=I.list hq;obtain ⟨jts,rw',p',hz2⟩:=I.list hr;obtain ⟨ux,hu,ru⟩:=rv.get hx;obtain ⟨uy,hv,rv'⟩:=rw'.get hy;have D:=Dy hz hTI hTO h1 h2 p.isList p'.isList nT ni;refine wpAny_pyNext_zip_item D hz hTI hTO h1 h2 p.isList p'.isList (x:=ux) (y:=uy) (by simpa using hu) (by simpa using hv) fun g gz gTO g1 g2 gT gs gk=>⟨_,rfl,?_⟩
  refine wpAny_letOwnedTupleGo_zip gz fun g' gz' hs'=>?_
  replace hs':Heap.SameBut z g g':=hs';have hzl:z < s.heap.objs.size:=Heap.lt_size hz;have hk:∀ c o,c ∉ [z,TI,TO,i1,i2]→s.heap.get? c=some o→g'.get? c=some o:=fun c o hc q=>by
   simp only [List.mem_cons,List.not_mem_nil,or_false,not_or] at hc;exact hs'.extBut _ _ hc.1 (gk c o hc.1 hc.2.2.1 hc.2.2.2.1 hc.2.2.2.2 q)
  have I1:Inv X pins σ H { s with heap:=g',toks:=s.toks }:=I.turnedL hk hf;have fo:zw X pins H s.heap.objs.size:=I.fpOk (Nat.le_refl _) (I.hok.fresh (Nat.le_refl _));have ht2:IsPair g' s.heap.objs.size ux uy:=(hs'.2 _ (Nat.ne_of_gt hzl)).trans gT;have I2:=I1.adopt (o:=.tup [x,y]) fo ⟨⟨by show 2 ≤ sizeLine;decide,_,ht2,rfl⟩,[ux,uy],.cons ru (.cons rv' .nil),⟨_,ht2,rfl,_,rfl⟩⟩;refine ⟨.ref s.heap.objs.size,_,I2,rfl,⟨_,x,y,fo.1,rfl,fun ys hy=>by rw [I.list_inj hy hq];exact hx,fun zs hzs=>by rw [I.list_inj hzs hr];exact hy,rfl⟩,⟨gz',?_,⟨_,_,hs'.extBut _ _ D.TOz gTO⟩,g1.extBut hs'.extBut D.i1z,g2.extBut hs'.extBut D.i2z⟩,fun b hb=>?_⟩
  ·exact hs'.extBut _ _ D.TIz (gk _ _ D.TIz D.TITO D.TIi1 D.TIi2 hTI)
  ·have hlt:b < s.heap.objs.size:=by
    obtain ⟨o1,e1,_⟩:=h1;obtain ⟨o2,e2,_⟩:=h2;simp only [List.mem_cons,List.not_mem_nil,or_false] at hb;rcases hb with rfl | rfl | rfl | rfl | rfl
    ·exact hzl
    ·exact Heap.lt_size hTI
    ·exact Heap.lt_size hTO
    ·exact Heap.lt_size e1
    ·exact Heap.lt_size e2
   rw [wb (Nat.ne_of_lt hlt)];exact (hf b hb).1
 done:=by
  intro X hP hw hK hc i pins s σ H E I hf ⟨hz,hTI,⟨u,v,hTO⟩,h1,h2⟩ hg;subst hP hw hK;obtain ⟨xs,ys,hq,hr,hx⟩:=hg;obtain ⟨its,rv,p,hz1⟩:=I.list hq;obtain ⟨jts,rw',p',hz2⟩:=I.list hr;have hl:=rv.length;have hl':=rw'.length;have D:=Dy hz hTI hTO h1 h2 p.isList p'.isList nT ni;exact wpAny_pyNext_zip_end (I.ok.hd hc) D hz hTI hTO h1 h2 p.isList p'.isList (by simp;omega) fun h' eb=>⟨rfl,I.turnedL (t':=s.toks) (fun b o hb q=>eb b o (fun z=>hb (by simp [z])) (fun z=>hb (by simp [z])) (fun z=>hb (by simp [z])) (fun z=>hb (by simp [z])) q) hf⟩
 self:=fun _ _ _ _ _ ⟨hz,_⟩ h=>wpAny_pyIter_zip hz h
section
variable {X:Cx}
noncomputable def tQ (K:PySem.W.Frag) (ta:TA):TI:=fun σ H R=>ta σ H fun vs H1=>∃ a,vs=[.ref a]∧(∃ xs,SqL K H1 a xs)∧R (Ite K a) H1
theorem Xk {es:List Expr} {k} {tpos:Pos} {a:Expr} {ta:TA} {p pos:Pos} (hg:Gl X "enumerate") (hm:X.mg "enumerate"=none) (ha:PA X [a] ta) (hs:starEach [a] X.env=[(false,eval a X.env)]:=by rfl) :
  PI X (.Tuple es k tpos) (.Call (.Name "enumerate" p) [a] [] pos) (tQ X.K ta):=by
 intro pins s σ H R I h;refine Call_ (Sj I hg hm Om (PyProof.Rows.callWith_type1 (thn (ha pos pins s σ H _ I h) fun us s1 hZ1=>?_) hs rfl));obtain ⟨vs,H1,I1,r1,q1⟩:=hZ1;obtain ⟨a,e,⟨xs,hq⟩,q⟩:=q1;subst e;cases r1 with
 | cons r rr=>
  cases rr;cases r;obtain ⟨its,rv,pl,hz⟩:=I1.list hq;refine call_enumerate_list pl.isList fun h' hE hI hsz hk=>wpAny_pyIter_enum hE ?_
  refine ⟨s1.heap.objs.size + 1,[s1.heap.objs.size + 1,s1.heap.objs.size],_,_,H1,rfl,I1.kept (t':=s1.toks) hk,AG a _ _ (Nat.succ_ne_self _),⟨_,hE,hI⟩,fun b hb=>?_,q⟩;have hb':s1.heap.objs.size ≤ b:=by
   simp only [List.mem_cons,List.not_mem_nil,or_false] at hb;rcases hb with rfl | rfl
   ·exact Nat.le_succ _
   ·exact Nat.le_refl _
  exact I1.fpOk hb' (I1.hok.fresh hb')
noncomputable def fS (K:PySem.W.Frag) (ta:TA):TI:=fun σ H R=>ta σ H fun vs H1=>∃ a b,vs=[.ref a,.ref b]∧(∃ xs,SqL K H1 a xs)∧(∃ ys,SqL K H1 b ys)∧R (Itz K a b) H1
theorem UO {es:List Expr} {k} {tpos:Pos} {a b:Expr} {ta:TA} {p pos:Pos} (hg:Gl X "zip") (hm:X.mg "zip"=none) (ha:PA X [a,b] ta) (hs:starEach [a,b] X.env=[(false,eval a X.env),(false,eval b X.env)]:=by rfl)
  (hs2:starEach [b] X.env=[(false,eval b X.env)]:=by rfl):PI X (.Tuple es k tpos) (.Call (.Name "zip" p) [a,b] [] pos) (fS X.K ta):=by
 intro pins s σ H R I h;refine Call_ (Sj I hg hm qK (PyProof.Rows.callWith_type1 (thn (ha pos pins s σ H _ I h) fun us s1 hZ1=>?_) (by rw [hs,hs2]) (by rw [hs2];rfl)));obtain ⟨vs,H1,I1,r1,q1⟩:=hZ1;obtain ⟨a,b,e,⟨xs,hq⟩,⟨ys,hr⟩,q⟩:=q1;subst e;cases r1 with
 | cons r rr=>
  cases rr with
  | cons r' rr=>
   cases rr;cases r;cases r';obtain ⟨its,rv,pl,hz⟩:=I1.list hq;obtain ⟨jts,rv',pl',hz'⟩:=I1.list hr;refine call_zip_2 pl.isList pl'.isList fun h' hz hTI hTO h1 h2 hsz hk=>wpAny_pyIter_zip hz ?_
   refine ⟨s1.heap.objs.size + 4,[s1.heap.objs.size + 4,s1.heap.objs.size + 2,s1.heap.objs.size + 3,s1.heap.objs.size,s1.heap.objs.size + 1],_,_,H1,rfl,I1.kept (t':=s1.toks) hk,
    lJ a b _ _ _ _ _ (Nat.ne_of_lt (Nat.lt_succ_self _)) (Nat.ne_of_lt (Nat.lt_succ_self _)),⟨hz,hTI,⟨_,_,hTO⟩,h1,h2⟩,fun c hc=>?_,q⟩
   have hb':s1.heap.objs.size ≤ c:=by
    simp only [List.mem_cons,List.not_mem_nil,or_false] at hc;rcases hc with rfl | rfl | rfl | rfl | rfl
    ·exact Nat.le_add_right _ _
    ·exact Nat.le_add_right _ _
    ·exact Nat.le_add_right _ _
    ·exact Nat.le_refl _
    ·exact Nat.le_add_right _ _
   exact I1.fpOk hb' (I1.hok.fresh hb')
end
theorem Wc {X:Cx} {es:List Expr} {k:Nat} {pos:Pos} {t:TGs} {n:Nat} {K:PySem.W.Frag} (hK:X.K=K) (hc:X.calm=true) (h:PGs X es t)
  (hn:(assignEach es X.env).length=n:=by rfl) (hst:(assignEach es X.env).findIdx? (·.1)=none:=by rfl):PG X (.Tuple es k pos) (tO K n t):=by
 subst hK;exact YO hc h hn hst
section
variable {X:Cx}
theorem Xx {P:Nat→Value→Prop} {f:Nat→V} (hP:∀ i v,P i v→Vd (f i) v):∀ (l:List Value) (k:Nat),(∀ j v,l[j]? = some v→P (k + j) v)→Cd ((List.range l.length).map fun i=>f (k + i)) l
 | [],_,_=>.nil
 | v :: r,k,h=>by
  rw [List.length_cons,List.range_succ_eq_map,List.map_cons,List.map_map];refine .cons (hP _ _ (h 0 v rfl)) ?_;have:=Xx hP r (k + 1) fun j w hj=>by
   have:=h (j + 1) w (by simpa using hj);rwa [show k + 1 + j=k + (j + 1) by omega]
  have e:(fun i=>f (k + 1 + i))=((fun i=>f (k + i)) ∘ Nat.succ):=funext fun i=>by
   show f (k + 1 + i)=f (k + (i + 1));rw [show k + 1 + i=k + (i + 1) by omega]
  rwa [e] at this
theorem WC {P:Nat→Value→Prop} {f:Nat→V} (hP:∀ i v,P i v→Vd (f i) v) {acc:Array Value} {n:Nat} (h:ItemsOf P acc n):Cd ((List.range n).map f) acc.toList:=by
 have:=Xx hP acc.toList 0 fun j v hj=>by
  rw [Nat.zero_add];exact h.2 j v (by rw [← Array.getElem?_toList];exact hj)
 rw [show acc.toList.length=n by rw [Array.length_toList];exact h.1] at this;simpa using this
end
end L2
namespace L2
open PySem PySem.Spec PyProof.Rows
inductive EqH (K:PySem.W.Frag) (H:Hp):Nat→V→V→Bool→Prop
 | flat {k:Nat} {x y:V} (hx:Um x=true) (hy:Um y=true):EqH K H k x y (eqV x y)
 | lst {k:Nat} {p q:Addr} {xs ys:List V} {e:Nat→Bool} (hp:SqL K H p xs) (hq:SqL K H q ys) (hl:xs.length=ys.length) (he:∀ (j:Nat) (x y:V),xs[j]? = some x→ys[j]? = some y→EqH K H k x y (e j)):EqH K H (k + 1) (.ref p) (.ref q) ((List.range xs.length).all e)
 | lstN {k:Nat} {p q:Addr} {xs ys:List V} (hp:SqL K H p xs) (hq:SqL K H q ys) (hl:xs.length ≠ ys.length):EqH K H (k + 1) (.ref p) (.ref q) false
 | tup {k:Nat} {p q:Addr} {xs ys:List V} {e:Nat→Bool} (hp:SqT K H p xs) (hq:SqT K H q ys) (he:∀ (j:Nat) (x y:V),xs[j]? = some x→ys[j]? = some y→EqH K H k x y (e j)):EqH K H (k + 1) (.ref p) (.ref q) ((List.range (min xs.length ys.length)).all e && xs.length == ys.length)
theorem gJ {x:V} (h:Um x=true):eqV x x=true:=by
 cases x <;> first | rfl | (simp [eqV];done) | cases h
theorem Eu {n:Nat} {e:Nat→Bool} (h:∀ j,j < n→e j=true):(List.range n).all e=true:=by
 rw [List.all_eq_true];exact fun j hj=>h j (List.mem_range.mp hj)
section
variable {X:Cx} {pins:List (Addr × Obj)} {σ:St} {H:Hp} {s:Shared}
theorem EqH.self (I:Inv X pins σ H s) {k:Nat} {x y:V} {b:Bool} (h:EqH X.K H k x y b) (e:x=y):b=true:=by
 induction h with
 | flat hx hy=>subst e;exact gJ hx
 | @lst k p q xs ys f hp hq hl he ih=>
  injection e with e;subst e;have:=I.list_inj hp hq;subst this;refine Eu fun j hj=>?_
  exact ih j xs[j] xs[j] (List.getElem?_eq_getElem hj) (List.getElem?_eq_getElem hj) rfl
 | lstN hp hq hl=>
  injection e with e;subst e;have:=I.list_inj hp hq;subst this;exact absurd rfl hl
 | @tup k p q xs ys f hp hq he ih=>
  injection e with e;subst e;have:=I.tuple_inj hp hq;subst this;rw [Bool.and_eq_true];refine ⟨Eu fun j hj=>?_,by simp⟩;have hj':j < xs.length:=by omega
  exact ih j xs[j] xs[j] (List.getElem?_eq_getElem hj') (List.getElem?_eq_getElem hj') rfl
end
section
variable {X:Cx} {pins:List (Addr × Obj)} {σ:St} {H:Hp} {s:Shared}
end
section
variable {X:Cx}
end
theorem EqH.mono {K:PySem.W.Frag} {H:Hp} {j k:Nat} {x y:V} {b:Bool} (h:EqH K H j x y b):j ≤ k→EqH K H k x y b:=by
 induction h generalizing k with
 | flat hx hy=>exact fun _=>.flat hx hy
 | lst hp hq hl he ih=>
  intro hk;obtain ⟨m,rfl⟩:∃ m,k=m + 1:=⟨k - 1,by omega⟩;exact .lst hp hq hl fun j x y h1 h2=>ih j x y h1 h2 (by omega)
 | lstN hp hq hl=>
  intro hk;obtain ⟨m,rfl⟩:∃ m,k=m + 1:=⟨k - 1,by omega⟩;exact .lstN hp hq hl
 | tup hp hq he ih=>
  intro hk;obtain ⟨m,rfl⟩:∃ m,k=m + 1:=⟨k - 1,by omega⟩;exact .tup hp hq fun j x y h1 h2=>ih j x y h1 h2 (by omega)
end L2
namespace L2
open PySem PySem.Spec PyProof.Rows PySem.Builtin PySem.Builtin.ObjectAttr
noncomputable abbrev bmV:List Value:=[.type "ValueError",.type "Exception",.type "BaseException",.type "object"]
noncomputable def wL (K:PySem.W.Frag) (C fI:Addr):Bool:=
 match K.lookup C with
 | some ⟨.type "type",_,.cls cd,sl⟩=>
  match cd.mro,sl.toList with
  | .ref D :: tl,[_,_,_,_,some (.builtin n),_]=>
   (D == C) && (n == "ValueError.__new__") && (cd.hasDel == false) && (cd.hasDict == true) && PySem.W.tailIn K bmV tl && PySem.W.nsOkIn K cd.ns && (PySem.W.nsIn K cd.ns "__init__" == some (some (.ref fI)))
  | _,_=>false
 | _=>false
section
variable {P:Program} {w:World} {A:Around} {h:Heap} {g:Array GenState} {d:Drawn} {t:Nat} {os:OsState} {K:PySem.W.Frag} {C fI:Addr} {R:Result→Shared→Prop}
end
noncomputable def mN:List Value→Bool
 | .ref _ :: r=>mN r
 | l=>l == bmV
structure pS (K:PySem.W.Frag) (C:Addr):Prop where
 hd:PySem.W.hasDictIn K C=true
 ov:((PySem.W.clsIn K C).any fun cd=>mN cd.mro)=true
 sa:PySem.W.findIn K (.ref C) "__setattr__"=some (some (.builtin "object.__setattr__"))
 ga:PySem.W.findIn K (.ref C) "__getattribute__"=some (some (.builtin "BaseException.__getattribute__"))
 gt:PySem.W.findIn K (.ref C) "__getattr__"=some none
 ex:∃ fI,wL K C fI=true
noncomputable def XF (x C:Addr) (od:Option Addr):Heap→Prop:=fun h=>∃ vs sl,h.get? x=some ⟨.ref C,od,.fields vs,sl⟩∧1 < vs.size∧vs[1]? = some .none
noncomputable def XD (dx:Addr) (fs:List (Str × V)):Heap→Prop:=fun h=>∃ mA,h.Ns1 dx mA∧(∀ f,su (fs.lookup f) (mA f))∧PySem.Within mA (fs.map (·.1))
theorem XF.at {x C:Addr} {od:Option Addr} {h h':Heap} (z:XF x C od h) (k:∀ o,h.get? x=some o→h'.get? x=some o):XF x C od h':=let ⟨vs,sl,e,r⟩:=z;⟨vs,sl,k _ e,r⟩
theorem XD.at {dx:Addr} {fs:List (Str × V)} {h h':Heap} (z:XD dx fs h) (k:∀ o,h.get? dx=some o→h'.get? dx=some o):XD dx fs h':=let ⟨mA,e,r⟩:=z;⟨mA,e.at k,r⟩
theorem XF.ok {P:Program} {w:World} {H:Hp} {h:Heap} {x C:Addr} {od:Option Addr} (z:XF x C od h):we P w H h x (.ext (XF x C od)):=by
 obtain ⟨vs,sl,e,r⟩:=id z;exact ⟨z,⟨_,e⟩,fun h1 h2 q k=>q.at k⟩
theorem XD.ok {P:Program} {w:World} {H:Hp} {h:Heap} {dx:Addr} {fs:List (Str × V)} (z:XD dx fs h):we P w H h dx (.ext (XD dx fs)):=by
 obtain ⟨mA,⟨o,es,ep,e,_⟩,_⟩:=id z;exact ⟨z,⟨_,e⟩,fun h1 h2 q k=>q.at k⟩
section
variable {prog:Program} {w:World} {A:Around} {E:Value→Shared→Prop} {K:PySem.W.Frag} {C x:Addr} {s:Shared} {R:Result→Shared→Prop}
end
section
variable {X:Cx} {pins:List (Addr × Obj)} {σ:St} {H:Hp} {s:Shared} {x C dx:Addr} {fs:List (Str × V)} {f:Str} {y:V} {u:Value} {A:Around} {E:Value→Shared→Prop} {Q:Unit→Shared→Prop}
noncomputable def XA (x C:Addr) (od:Option Addr):Heap→Prop:=fun h=>∃ vs sl,h.get? x=some ⟨.ref C,od,.fields vs,sl⟩
theorem XA.at {x C:Addr} {od:Option Addr} {h h':Heap} (z:XA x C od h) (k:∀ o,h.get? x=some o→h'.get? x=some o):XA x C od h':=let ⟨vs,sl,e⟩:=z;⟨vs,sl,k _ e⟩
theorem XA.ok {P:Program} {w:World} {H:Hp} {h:Heap} {x C:Addr} {od:Option Addr} (z:XA x C od h):we P w H h x (.ext (XA x C od)):=by
 obtain ⟨vs,sl,e⟩:=id z;exact ⟨z,⟨_,e⟩,fun h1 h2 q k=>q.at k⟩
end
noncomputable abbrev TJ:=St→Hp→(Hp→Prop)→Prop
section
variable {X:Cx} {e:Expr} {es:List Expr} {n:Nat} {t:TJ} {te:TE} {pos:Pos}
end
structure DS (K:PySem.W.Frag) (L:Addr) (m:Str):Prop where
 rd:PySem.W.readsIn K L (.type "type")=true
 fd:PySem.W.findCls K (.ref L) (.type "type") m=some (.val (.builtin "ValueError.__init__"))
 ga:PySem.W.specialIn K (.ref L) "__getattribute__"=some (some (.builtin "type.__getattribute__"))
section
variable {X:Cx} {L:Addr} {x:Str} {p pos apos:Pos} {e:Expr} {es:List Expr} {t:TA}
end
structure MkX (K:PySem.W.Frag) (C fI:Addr):Prop where
 e:wL K C fI=true
 fn:PySem.W.typeIn K (.ref fI)=some (.type "function")
 kp:PySem.W.keepIn K (.ref C)=true
section
variable {X:Cx} {k:Nat} {f C:Addr} {fd:FuncData} {ps:List Str} {sp:Sp} {x g:Str} {p pos pos' apos:Pos} {e o value:Expr} {es:List Expr} {ta tv:TE} {t:TA}
end
end L2
namespace L2
open PySem PySem.Spec PyProof.Rows PySem.Builtin PySem.Builtin.ObjectAttr
def FlA (x C:Addr) (od:Option Addr) (T:Addr) (fl:Value) (h:Heap):Prop:=
 T ≠ x∧∃ vs sl oT ts,h.get? x=some ⟨.ref C,od,.fields vs,sl⟩∧vs[1]? = some (.ref T)∧h.get? T=some oT∧oT.data=.fields ts∧ts[3]? = some fl
structure Kp (fs:List Addr) (x:Addr) (To:Option Addr) (h h':Heap):Prop where
 keep:∀ b o,h.get? b=some o→b ∉ fs→b ≠ x→some b ≠ To→h'.get? b=some o
 slot:∀ b o,h.get? b=some o→b ∈ fs→∃ sl,h'.get? b=some { o with slots:=sl }
 there:∀ b o,h.get? b=some o→∃ o',h'.get? b=some o'
section
variable {M:Model} {A:Around} {E:Value→Shared→Prop} {s:Shared}
theorem nofr {base h:Heap} {l:List Env} {b:Addr} {o:Obj} {vs:Array Value} (hl:h.FunFrames base l) (e:h.get? b=some o) (d:o.data=.fields vs):b ∉ frs l:=fun hm=>by
 obtain ⟨_,o',e',nf⟩:=hl.mem hm;rw [e] at e';cases e';exact nf vs d
end
section
variable {P:Program} {w:World} {H:Hp} {h h':Heap} {fs:List Addr} {x C T:Addr} {od:Option Addr} {fl:Value} {To:Option Addr} {o:HO}
theorem Kp.hok (k:Kp fs x To h h') (ok:HOk P w H h) (hfs:∀ b ∈ fs,H b=none) (hT:∀ t,To=some t→H t=none) (mu:Mut (H x)) (new:XA x C od h'):HOk P w (upd H x (.ext (XA x C od))) h':=fun b u q=>by
 have nown:∀ c y,H c=some (.own y)→c ≠ x:=fun c y r z=>by subst z;rw [r] at mu;exact mu
 have ntup:∀ c xs,H c=some (.tup xs)→c ≠ x:=fun c xs r z=>by subst z;rw [r] at mu;exact mu
 have kk:∀ c v,c ≠ x→H c ≠ none→h.get? c=some v→h'.get? c=some v:=fun c v n1 n2 r=>k.keep c v r (fun z=>n2 (hfs c z)) n1 fun z=>n2 (hT c z.symm)
 by_cases hb:b=x
 ·subst hb;rw [db] at q;cases q;exact new.ok
 ·rw [wb hb] at q;refine (ok b u q).stay (fun c v hc r=>?_) (fun c r=>by rw [wb (nown c b r)];exact r) fun c xs r=>by rw [wb (ntup c xs r)];exact r
  rcases hc with rfl | hc
  ·exact kk c v hb (by rw [q];exact fun z=>by cases z) r
  ·exact kk c v (nown c b hc) (by rw [hc];exact fun z=>by cases z) r
theorem Kp.un (k:Kp fs x To h h') (hT:∀ t,To=some t→H t=none) (mu:Mut (H x)):Un fs To.toList H (upd H x o) h h':=by
 have hx:∀ b,H b=none→b ≠ x:=fun b n z=>by subst z;rw [n] at mu;exact mu
 have hm:∀ b u,H b=some u→¬ Mut (some u)→b ≠ x:=fun b u q nm z=>by subst z;rw [q] at mu;exact nm mu
 refine ⟨fun b u q n n1 n2=>k.keep b u q n1 (hx b n) fun z=>n2 (by rw [← z];simp),fun b u q n n1 n2=>k.slot b u q n1,fun b u q n _=>by rw [wb (hx b n)];exact n,fun b u q _=>k.there b u q,
  fun b xs q=>by rw [wb (hm b _ q fun z=>z)];exact q,fun b u xs q=>by rw [wb (hm b _ q fun z=>z)];exact q,fun b ps q=>⟨#[],by rw [wb (hm b _ q fun z=>z),q];simp⟩⟩
end
noncomputable def CX1 (P:Program) (w:World):CXT:=fun outer H s E e s'=>
 ∃ x C od H' T,e=.ref x∧s'.os=s.os∧AllBare s'.gens∧Un (frs outer) [] H H' s.heap s'.heap∧HOk P w H' s'.heap∧H' x=some (.ext (XA x C od))∧s.heap.objs.size ≤ T∧H' T=none∧FlA x C od T .none s'.heap∧E (.ref C) od H'
theorem Un.less {fs fs' ex ex':List Addr} {H H':Hp} {h h':Heap} (u:Un fs ex H H' h h') (hs:∀ b o,h.get? b=some o→b ∈ fs→b ∈ fs') (hx:∀ b o,h.get? b=some o→b ∈ ex→b ∈ ex'):Un fs' ex' H H' h h':=
 ⟨fun b o q n n1 n2=>u.keep b o q n (fun z=>n1 (hs b o q z)) fun z=>n2 (hx b o q z),fun b o q n _ n2=>u.any q n fun z=>n2 (hx b o q z),fun b o q n n2=>u.free b o q n fun z=>n2 (hx b o q z),fun b o q n2=>u.there b o q fun z=>n2 (hx b o q z),u.tups,u.frzs,u.tbls⟩
structure Fr1 (X:Cx):Prop where
 st:X.stack=X.env :: X.outer
 fr:X.env.frame=some X.env.locals
def qS (X:Cx) (pins:List (Addr × Obj)) (T:Addr):Prop:=(T ∈ X.ex∨X.s₀.heap.objs.size ≤ T)∧T ≠ X.env.locals∧(∀ x c,X.env.cells.lookup x=some c→c ≠ T)∧∀ p ∈ X.pn ++ pins,p.1 ≠ T
section
variable {X:Cx} {pins:List (Addr × Obj)} {σ:St} {H:Hp} {s:Shared} {T x C:Addr} {od:Option Addr} {E:St→XK} {M:Model} {A:Around} {E':Value→Shared→Prop} {Q:Unit→Shared→Prop} {e fl:Value} {h':Heap}
end
section
variable {P:Program} {w:World} {K:PySem.W.Frag} {mg:Str→Option Value} {base:Heap} {N:List Str} {qual:Str} {scope:Scope} {f:Addr} {cd:Value} {A:Around} {outer:List Env} {s:Shared} {H:Hp} {E:XK}
end
section
variable {X:Cx} {CX:CXT} {k:Nat} {f C:Addr} {fd:FuncData} {ps:List Str} {sp:Sp} {dvs:List V} {ds:List Value} {E:St→XK} {x m:Str} {p pos apos:Pos} {e o:Expr} {es:List Expr} {ta:TE} {t:TA}
end
noncomputable abbrev Cx.tr (X:Cx) (pn:List (Addr × Obj)) (E:Value→Shared→Prop):Cx:={ X with pn:=X.pn ++ pn,xe:=E }
noncomputable abbrev Cx.hn (X:Cx) (e:Value):Cx:={ X with A:=X.A.mark (some e),calm:=false,xe:=fun _ _=>False }
section
variable {X:Cx} {pins pins':List (Addr × Obj)} {σ:St} {H:Hp} {s:Shared} {E:Value→Shared→Prop} {e:Value}
theorem Cx.Ok.tr (ok:X.Ok) (pn:List (Addr × Obj)) (E:Value→Shared→Prop):(X.tr pn E).Ok:=
 ⟨ok.mod,ok.kind,ok.glob,ok.blt,ok.above,ok.inj,ok.has,ok.cab,ok.hd,ok.frames,ok.stk,ok.exf,ok.bs,ok.bsz,ok.noex,ok.exfs,ok.funs,ok.frf⟩
theorem Cx.Ok.hn (ok:X.Ok) (e:Value):(X.hn e).Ok:=
 ⟨ok.mod,ok.kind,ok.glob,ok.blt,ok.above,ok.inj,ok.has,ok.cab,(fun z=>Bool.noConfusion z),ok.frames,ok.stk,ok.exf,ok.bs,ok.bsz,ok.noex,ok.exfs,ok.funs,ok.frf⟩
theorem Inv.tr (I:Inv X pins σ H s) (E:Value→Shared→Prop):Inv (X.tr pins E) [] σ H s:=⟨I.ok.tr pins E,I.os,I.bare,I.base,I.loc,I.cell,I.free,I.freeC,fun p hp=>I.pin p (by simpa using hp),I.hok,I.len⟩
theorem Inv.hn (I:Inv X pins σ H s) (e:Value):Inv (X.hn e) pins σ H s:=⟨I.ok.hn e,I.os,I.bare,I.base,I.loc,I.cell,I.free,I.freeC,I.pin,I.hok,I.len⟩
end
noncomputable def qk.gone (D:qk) (i:Nat):qk:={ nx:=fun σ H=>D.nx (σ.set i none) H,rt:=D.rt,bk:=fun σ H=>D.bk (σ.set i none) H,ct:=fun σ H=>D.ct (σ.set i none) H }
section
variable {X:Cx} {body suite:List Stmt} {b0:Stmt} {x n:Str} {c:Addr} {i:Nat} {tb:(St→XK)→TS} {th:TS} {xp hp pos:Pos}
end
theorem MG (D:qk) (i:Nat) (σ:St) (H:Hp):(D.gone i).nx σ H=D.nx (σ.set i none) H:=rfl
theorem gH (D:qk) (i:Nat) (v:V) (H:Hp):(D.gone i).rt v H=D.rt v H:=rfl
theorem OwnTail.has {h:Heap} {bm tl:List Value} {v:Value} (T:OwnTail h bm tl) (e:bm.contains v=true):tl.contains v=true:=by
 induction T with
 | base=>exact e
 | own _ _ _ _ ih=>rw [List.contains_cons,ih,Bool.or_true]
section
variable {X:Cx} {e:Expr} {te:TE} {pos:Pos} {E:St→XK}
theorem PS.nox {X:Cx} {st:Stmt} {t:TS} (h:PS X.nox st t):PS X st t:=fun pins s σ H D I hw=>
 wpAny_mono (h pins s σ H D (I.wish _) hw) (fun _ _ q=>q.unwish) fun _ _ z=>False.elim z
end
def xeB (B:Cx) (E:XK) (e:Value) (s':Shared):Prop:=
 ∃ pins fl σ' H' x C od T,e=.ref x∧Inv B pins σ' H' s'∧H' x=some (.ext (XA x C od))∧H' T=none∧qS B pins T∧B.s₀.heap.objs.size ≤ T∧FlA x C od T fl s'.heap∧E (.ref C) od H'
structure BR (X:Cx) (scope:Scope) (N:List Str) (tg elt:Expr) (ifs:List Expr) (g:TG) (tc:TT) (te:XK→TE):Prop where
 tgt:∀ E C s H fp,PG ((X.block scope C N s H fp).wish (xeB (X.block scope C N s H fp) E)) tg g
 tests:∀ E C s H fp,PTs ((X.block scope C N s H fp).wish (xeB (X.block scope C N s H fp) E)) ifs tc
 elem:∀ E C s H fp,PE ((X.block scope C N s H fp).wish (xeB (X.block scope C N s H fp) E)) elt (te E)
theorem BR.of {X:Cx} {scope:Scope} {N:List Str} {tg elt:Expr} {ifs:List Expr} {g:TG} {tc:TT} {te:XK→TE} (h1:∀ E C s H fp,PG ((X.block scope C N s H fp).wish (xeB (X.block scope C N s H fp) E)) tg g)
  (h2:∀ E C s H fp,∃ t,PTs ((X.block scope C N s H fp).wish (xeB (X.block scope C N s H fp) E)) ifs t∧t=tc) (h3:∀ E C s H fp,∃ t,PE ((X.block scope C N s H fp).wish (xeB (X.block scope C N s H fp) E)) elt t∧t=te E):BR X scope N tg elt ifs g tc te:=
 ⟨h1,fun E C s H fp=>by obtain ⟨t,h,rfl⟩:=h2 E C s H fp;exact h,fun E C s H fp=>by obtain ⟨t,h,e⟩:=h3 E C s H fp;rw [← e];exact h⟩
section
variable {X:Cx} {elt tg iter:Expr} {ifs:List Expr} {scope:Scope} {pos:Pos} {wi:TI} {g:TG} {tc:TT} {te:XK→TE} {N:List Str} {sel:List (Option Nat)}
theorem FlA.but {x C T c:Addr} {od:Option Addr} {fl:Value} {h h':Heap} (z:FlA x C od T fl h) (n1:x ≠ c) (n2:T ≠ c) (k:∀ b,b ≠ c→h'.get? b=h.get? b):FlA x C od T fl h':=by
 obtain ⟨ne,vs,sl,oT,ts,he,h1,hT,hd,h3⟩:=z;exact ⟨ne,vs,sl,oT,ts,(k _ n1).trans he,h1,(k _ n2).trans hT,hd,h3⟩
end
structure JR (K:PySem.W.Frag) (C:Addr):Prop where
 cl:Cls K C
 ha:PySem.W.findIn K (.ref C) "__class__"=some (some (.builtin "object.__class__"))
 hn:PySem.W.specialIn K (.builtin "object.__class__") "__get__"=some (some (.builtin "getset_descriptor.__get__"))
 htk:PySem.W.takesIn K (.builtin "object.__class__")=some true
 hm:PySem.W.mroIn K C (.type "object")=some true
theorem JR.ty {K:PySem.W.Frag} {H:Hp} {C a dx:Addr} {fs:List (Str × V)} (c:JR K C) (e:H a=some (.ins C dx fs)):qE K H (.ref a) (.ref C):=.ins e c.cl c.ha c.hn c.htk c.hm
end L2
namespace L2
open PySem PySem.Spec PyProof.Rows
noncomputable def Itd (hi:Int) (n:Nat):It:=⟨fun i _=>i < n,fun i H x H'=>H'=H∧x=.int (hi - i),fun i _=>n ≤ i⟩
theorem aI {P:Program} {w:World} {K:PySem.W.Frag} {tg:Expr} (it:Addr) (hi:Int) (n:Nat):mG P w K tg (Itd hi n) [it] it (fun i h=>IsRangeIter h it (hi + (i:Nat) * (-1)) ((n:Int) - (i:Nat)) (-1)) where
 mem:=by simp
 obj:=fun i h st b hb=>by
  have e:b=it:=by simpa using hb
  subst e;exact ⟨_,st,fun v z=>by
   have z':Data.fields _=Data.cell v:=z;cases z'⟩
 keep:=fun i h h' st k=>k it (by simp) _ st
 item:=by
  intro X hP hw hK hc i pins s σ H E I hf st hg;subst hP hw hK;obtain ⟨f0,f1,f2,f3,f4,f5⟩:=hf it (by simp);have W:=Walks.range (prog:=X.prog) (w:=X.w) (I.ok.hd hc) it hi (-1) n;refine W.item i s _ _ hg st fun v h' tk hv st' kk=>?_
  obtain ⟨t,rfl⟩:=hv;have I1:Inv X pins σ H { s with heap:=h',toks:=tk }:=I.turned (fun b o hb e=>kk b o (by simpa using hb) e) f0 f1 f3 f4 f5;refine ⟨_,rfl,eE (s:={ s with heap:=h',toks:=tk }) (n := "range_iterator") st' rfl rfl (by decide) ⟨.int (hi - i),H,I1,⟨t,?_⟩,⟨rfl,rfl⟩,st',fun b hb=>(hf b hb).1⟩⟩;congr 1;omega
 done:=by
  intro X hP hw hK hc i pins s σ H E I hf st hg;subst hP hw hK;obtain ⟨f0,f1,f2,f3,f4,f5⟩:=hf it (by simp);exact wpAny_pyNext_range_end (I.ok.hd hc) st (by have:n ≤ i:=hg;omega) fun h' eb=>⟨rfl,I.turned (t':=s.toks) (fun b o hb e=>eb b o hb e) f0 f1 f3 f4 f5⟩
 self:=fun _ _ _ _ _ st h=>wpAny_pyIter_rangeiter st h
theorem xm (a b:Int):Builtin.Range.rangeSize a b (-1)=if b < a then a - b else 0:=by
 unfold Builtin.Range.rangeSize;rw [if_neg (show ¬ (-1:Int) > 0 by decide),show (- -1:Int)=1 by decide,Int.ediv_one];show (if b < a then a - b - 1 + 1 else 0)=_;split <;> omega
theorem QC {a b:Int} (ha:-(2 ^ 62) ≤ a) (ha':a < 2 ^ 62) (hb:-(2 ^ 62) ≤ b) (hb':b < 2 ^ 62):Builtin.Range.small a b (-1)=true:=by
 unfold Builtin.Range.small;rw [xm];simp only [Builtin.Range.rangeFitsLong,Bool.and_eq_true,Bool.or_eq_true,decide_eq_true_eq,beq_iff_eq,show ¬ (-1:Int) > 0 by decide,if_false];split <;> omega
section
variable {X:Cx} {tg:Expr}
noncomputable def KP (ta:TA):TI:=fun σ H R=>ta σ H fun vs H1=>∃ i j:Int,vs=[.int i,.int j,.int (-1)]∧(-1073741824 ≤ i∧i < 1073741824∧-1073741824 ≤ j∧j < 1073741824)∧R (Itd i (i - j).toNat) H1
theorem mF {a b c:Expr} {ta:TA} {p pos:Pos} (hg:Gl X "range") (hm:X.mg "range"=none) (ha:PA X [a,b,c] ta) (hs:starEach [a,b,c] X.env=[(false,eval a X.env),(false,eval b X.env),(false,eval c X.env)]:=by rfl) (hs2:starEach [b,c] X.env=[(false,eval b X.env),(false,eval c X.env)]:=by rfl) :
  PI X tg (.Call (.Name "range" p) [a,b,c] [] pos) (KP ta):=by
 intro pins s σ H R I h;refine Call_ (Sj I hg hm boot_range (PyProof.Rows.callWith_type1 (thn (ha pos pins s σ H _ I h) fun us s1 hZ1=>?_) (by rw [hs,hs2]) (by rw [hs2];rfl)));obtain ⟨vs,H1,I1,r1,q1⟩:=hZ1;obtain ⟨i,j,e,⟨q1,q2,q3,q4⟩,q⟩:=q1;subst e;cases r1 with
 | cons r rr=>
  cases rr with
  | cons r' rr=>
   cases rr with
   | cons r'' rr=>
    cases rr;obtain ⟨t,rfl⟩:=r;obtain ⟨t',rfl⟩:=r';obtain ⟨t'',rfl⟩:=r'';refine call_range_3 (by decide) ?_ (Or.inl (PyProof.noPylong_small (by omega)));refine wpAny_pyIter_range (IsRange.new ..) (QC (by omega) (by omega) (by omega) (by omega)) ?_;have I2:Inv X pins σ H1 { s1 with heap:=s1.heap.push { cls:=.type "range",data:=.fields #[.int i t,.int j t',.int (-1) t''] },toks:=s1.toks }:=I1.kept fun b o e=>Heap.get?_push_of_some _ e
    refine ⟨(s1.heap.push { cls:=.type "range",data:=.fields #[.int i t,.int j t',.int (-1) t''] }).objs.size,[(s1.heap.push { cls:=.type "range",data:=.fields #[.int i t,.int j t',.int (-1) t''] }).objs.size],_,_,H1,rfl,
     I2.kept (t':=s1.toks) fun b o e=>Heap.get?_push_of_some _ e,aI _ i (i - j).toNat,?_,fun b hb=>?_,q⟩
    ·have e1:i + ((0:Nat):Int) * (-1)=i:=by simp
     have e2:(((i - j).toNat:Nat):Int) - ((0:Nat):Int)=Builtin.Range.rangeSize i j (-1):=by rw [xm];split <;> omega
     show IsRangeIter _ _ (i + ((0:Nat):Int) * (-1)) ((((i - j).toNat:Nat):Int) - ((0:Nat):Int)) (-1);rw [e1,e2];exact Heap.get?_push_size _ rfl
    ·have e:b=(s1.heap.push { cls:=.type "range",data:=.fields #[.int i t,.int j t',.int (-1) t''] }).objs.size:=by simpa using hb
     subst e;exact I2.fpOk (Nat.le_refl _) (I2.hok.fresh (Nat.le_refl _))
end
theorem TC:typeLookup (.type "list_reverseiterator") "__len__"=pure none:=by rw [typeLookup_type,builtinLookup_eq_fast];kernel_rfl
theorem Qy:typeLookup (.type "list_reverseiterator") "__length_hint__"=pure (some (.builtin "list_reverseiterator.__length_hint__")):=by rw [typeLookup_type,builtinLookup_eq_fast];kernel_rfl
section
variable {prog:Program} {w:World} {A:Around} {E:Value→Shared→Prop} {s:Shared} {it l:Addr} {items:Array Value}
theorem bJ (hT:s.TypeIs (.ref it) "list_reverseiterator") {Q:Bool→Shared→Prop} (h:Q false s):wpAny (model prog w) A (Builtin.List.listLengthHint (.ref it)) Q E s:=by
 unfold Builtin.List.listLengthHint;refine wpAny_bind (wpAny_specialOf hT TC ?_);show wpAny _ A (specialOf (Value.ref it) (Str.ofString "__length_hint__") >>= _) _ _ _;refine wpAny_bind (wpAny_specialOf hT Qy ?_);generalize hid:("list_reverseiterator.__length_hint__" : String)=id0
 wp_delta
 rw [show splitId id0=some ("list_reverseiterator","__length_hint__") from by subst hid;decide +kernel];subst hid;refine wpAny_bind (wpAny_isInstance (T := "list_reverseiterator") (b:=true) hT (by rw [isSubtype_type];kernel_rfl) ?_);refine wpAny_ite_split (fun hab=>absurd hab (by decide)) (fun _=>?_);refine wpAny_ite_split (fun _=>?_) (fun hab=>absurd (by decide +kernel) hab);refine wpAny_ite_split (fun hab=>absurd hab (by decide +kernel)) (fun _=>?_);exact wpAny_pure h
noncomputable abbrev CO (items:Array Value):Nat→Value→Prop:=fun i v=>items[items.size - 1 - i]? = some v
theorem IC {R:Result→Shared→Prop} (hh:A.handled=none) (hit:s.heap.IsRevIter it l ((items.size:Int) - 1 - ((0:Nat):Int))) (hl:s.heap.IsList l items) (hne:l ≠ it) (S:Addr) (hSi:S ≠ it) (hSl:S ≠ l) (res:Value) (c₀:Nat)
  (hS:s.heap.get? S=some { cls:=.type "list",data:=.seq #[] c₀ }) (hn:items.size ≤ sizeLine)
  (hR:∀ h' tk acc c,(∀ b o,b ≠ S→b ≠ it→s.heap.get? b=some o→h'.get? b=some o)→h'.get? S=some { cls:=.type "list",dict:=none,data:=.seq acc c,slots:=#[] }→ItemsOf (CO items) acc items.size→R (.ok (.ret res)) { s with heap:=h',toks:=tk }) :
  wpAny (model prog w) A.in1 (Builtin.List.listExtendWith (.ref S) (.ref it) res)
   (fun fin s'=>match fin with | .done f=>R (.ok f) s' | .again c'=>c'.quiet=true∧codeAny (model prog w) A c' R s') (fun e s'=>R (.error e) s') s:=by
 unfold Builtin.List.listExtendWith;refine wpAny_bind (wpAny_typeOf hit.typeIs ?_);have h1:Builtin.List.listSameRef (.ref S) (.ref it)=false:=by simp [Builtin.List.listSameRef,hSi]
 have h2:(Value.type "list_reverseiterator" == Value.type "list")=false:=by decide
 have h3:(Value.type "list_reverseiterator" == Value.type "tuple")=false:=by decide
 simp only [h1,h2,h3,Bool.or_false,Bool.false_eq_true,if_false];refine wpAny_bind (wpAny_pyIter_revIter hit ?_);refine wpAny_bind (wpAny_holding (bJ hit.typeIs ?_));refine wpAny_ite_split (fun hab=>absurd hab (by decide +kernel)) (fun _=>?_);have W:=Walks.listRev (prog:=prog) (w:=w) (A:=A.in1) hh it l hne items;have hSf:S ∉ [it,l]:=by simp only [List.mem_cons,List.not_mem_nil,or_false,not_or];exact ⟨hSi,hSl⟩
 refine wpAny_pure ⟨plainId_quiet PySem.F.plain_extend_loop _,codeAny_extend_loopS W.toS hn S hSf res items.size 0 s #[] c₀ rfl (Nat.zero_le _) ⟨Nat.zero_le _,hit,hl⟩ hS (ItemsOf.nil _) fun s' acc c hm hS' hacc=>?_⟩;rw [Moved.eq_with hm];refine hR s'.heap s'.toks acc c (fun b o hb hi e=>hm.heap b o (fun hmem=>?_) e) hS' hacc;rcases List.mem_cons.mp hmem with e' | hmem
 ·exact hb e'
 ·exact hi (List.mem_singleton.mp hmem)
theorem Fw {Q:Value→Shared→Prop} (hh:A.handled=none) (hit:s.heap.IsRevIter it l ((items.size:Int) - 1 - ((0:Nat):Int))) (hl:s.heap.IsList l items) (hne:l ≠ it) (hn:items.size ≤ sizeLine)
  (hQ:∀ h' tk acc c,(∀ b o,b ≠ it→s.heap.get? b=some o→h'.get? b=some o)→h'.get? s.heap.objs.size=some { cls:=.type "list",dict:=none,data:=.seq acc c,slots:=#[] }→ItemsOf (CO items) acc items.size→Q (.ref s.heap.objs.size) { s with heap:=h',toks:=tk }) :
  wpAny (model prog w) A (call (.type "list") [.ref it]) Q E s:=by
 have li:it < s.heap.objs.size:=by obtain ⟨_,e,_⟩:=hit;exact Heap.lt_size e
 have ll:l < s.heap.objs.size:=by obtain ⟨_,e,_⟩:=hl;exact Heap.lt_size e
 refine callType_codes (Q₁:=fun obj s₁=>obj=.ref s.heap.objs.size∧s₁ = { s with heap:=s.heap.push { cls:=.type "list",data:=.seq #[] } }) PySem.F.called_list (PySem.F.typeCall_list_1 _) PySem.F.entry_list_init
  (code_list_new _ ⟨rfl,rfl⟩) fun obj s₁ h₁=>?_
 obtain ⟨rfl,rfl⟩:=h₁;have hS:(s.heap.push { cls:=.type "list",data:=.seq #[] }).get? s.heap.objs.size=some { cls:=.type "list",data:=.seq #[] }:=Heap.get?_push_size _ rfl;refine ⟨⟨_,hS,rfl⟩,PySem.F.args_list_init_2 _ _,?_⟩;show wpAny _ _ (do let old ← Builtin.List.listItems (.ref s.heap.objs.size);Builtin.List.listUpdate (.ref s.heap.objs.size) (fun _=>#[]);letGo old.toList.reverse;Builtin.List.listExtendWith (.ref s.heap.objs.size) (.ref it) .none) _ _ _;refine wpAny_bind ?_;unfold Builtin.List.listItems;refine wpAny_bind (wpAny_seqItems hS rfl (wpAny_pure ?_));show wpAny _ _ (updateSeq s.heap.objs.size (fun _=>#[]) >>= fun _=>letGo (#[]:Array Value).toList.reverse >>= fun _=>Builtin.List.listExtendWith (.ref s.heap.objs.size) (.ref it) .none) _ _ _;refine wpAny_bind (wpAny_updateSeq hS rfl ?_);have hS₂:=Heap.get?_update_self (Obj.mapSeq (fun _=>(#[]:Array Value))) hS rfl;have oth:∀ b o,s.heap.get? b=some o→((s.heap.push { cls:=.type "list",data:=.seq #[] }).update s.heap.objs.size (Obj.mapSeq (fun _=>(#[]:Array Value)))).get? b=some o:=
  fun b o e=>(Heap.get?_update_other _ _ (Ne.symm (Nat.ne_of_lt (Heap.lt_size e)))).trans (Heap.get?_push_of_some _ e)
 refine wpAny_bind (wpAny_letGo ?_);refine IC (A:=A.in1) hh (hit.at fun o e=>oth _ o e) (hl.at fun o e=>oth _ o e) hne _ (Ne.symm (Nat.ne_of_lt li)) (Ne.symm (Nat.ne_of_lt ll)) .none _ hS₂ hn fun h' tk acc c hk hS' hacc=>?_
 exact ⟨rfl,hQ h' tk acc c (fun b o hb e=>hk b o (Nat.ne_of_lt (Heap.lt_size e)) hb (oth b o e)) hS' hacc⟩
end
section
variable {X:Cx}
noncomputable def gC (K:PySem.W.Frag) (ta:TA):TE:=fun σ H Q=>ta σ H fun vs H1=>∃ a xs,vs=[.ref a]∧SqL K H1 a xs∧∀ l,H1 l=none→Q (.ref l) (upd H1 l (.lst xs.reverse))
theorem Po {a:Expr} {ta:TA} {p q pos pos':Pos} (hc:X.calm=true) (hg:Gl X "list") (hm:X.mg "list"=none) (hg':Gl X "reversed") (hm':X.mg "reversed"=none) (ha:PA X [a] ta) (hs:starEach [a] X.env=[(false,eval a X.env)]:=by rfl)
  (hs2:starEach [Expr.Call (.Name "reversed" q) [a] [] pos'] X.env=(false,eval (Expr.Call (.Name "reversed" q) [a] [] pos') X.env) :: starEach [] X.env:=by rfl) :
  PE X (.Call (.Name "list" p) [.Call (.Name "reversed" q) [a] [] pos'] [] pos) (gC X.K ta):=by
 intro pins s σ H Q I h;refine wpAny_Call_Name_kw (Sj I hg hm dn ?_);refine PyProof.Rows.callWith_type1 ?_ hs2 rfl;rw [hs2];show wpAny _ _ (spliced ((false,eval (Expr.Call (.Name "reversed" q) [a] [] pos') X.env) :: [])) _ _ s;refine Calls.spliced_cons ?_;refine Call_ (Sj I hg' hm' uw (PyProof.Rows.callWith_type1 (thn (ha pos' pins s σ H _ I h) fun us s1 hZ1=>?_) hs rfl));obtain ⟨vs,H1,I1,r1,q1⟩:=hZ1;obtain ⟨a,xs,e,hq,q⟩:=q1;subst e;cases r1 with
 | cons r rr=>
  cases rr;cases r;obtain ⟨its,rv,pl,hz⟩:=I1.list hq;have hl:=rv.length;have hlt:a < s1.heap.objs.size:=by obtain ⟨_,e,_⟩:=pl.isList;exact Heap.lt_size e
  refine call_reversed_list pl.isList ?_;refine Calls.spliced_nil ?_;have hit:(s1.heap.push (revObj a ((its.toArray.size:Int) - 1))).IsRevIter s1.heap.objs.size a ((its.toArray.size:Int) - 1 - ((0:Nat):Int)):=by
   refine ⟨_,Heap.get?_push_size _ rfl,rfl,?_⟩;simp only [revObj];simp
  have kp:∀ b o,s1.heap.get? b=some o→(s1.heap.push (revObj a ((its.toArray.size:Int) - 1))).get? b=some o:=fun b o e=>Heap.get?_push_of_some _ e
  refine Fw (I1.ok.hd hc) hit (pl.isList.at fun o e=>kp _ o e) (Nat.ne_of_lt hlt) (by rw [List.size_toArray];omega) fun h' tk acc c hk e' hacc=>?_
  refine ⟨.ref _,_,I1.laid (o:=.lst xs.reverse) (t':=tk) (fun b u e=>hk b u (Nat.ne_of_lt (Heap.lt_size e)) (kp b u e)) (by rw [Heap.size_push];exact Nat.le_succ _) ⟨by rw [List.length_reverse];omega,acc.toList,c,?_,e'⟩,rfl,q _ (I1.hok.fresh (by rw [Heap.size_push];exact Nat.le_succ _))⟩;have hv:=WC (f:=fun i=>xs.getD (xs.length - 1 - i) .non) (fun i v hv=>by
   have hv':its.toArray[its.toArray.size - 1 - i]? = some v:=hv;rw [List.size_toArray,← hl,List.getElem?_toArray] at hv';have hj:=(List.getElem?_eq_some_iff.mp hv').1;have hx:xs[xs.length - 1 - i]? = some xs[xs.length - 1 - i]:=List.getElem?_eq_getElem (by omega);obtain ⟨w,hw,rw'⟩:=rv.get hx;rw [hv'] at hw;cases hw;rw [List.getD_eq_getElem?_getD,hx];exact rw') hacc
  have er:(List.range its.toArray.size).map (fun i=>xs.getD (xs.length - 1 - i) .non)=xs.reverse:=by
   rw [List.size_toArray,← hl];refine List.ext_getElem (by simp) fun i h1 h2=>?_
   rw [List.getElem_map,List.getElem_range,List.getElem_reverse,List.getD_eq_getElem?_getD,List.getElem?_eq_getElem (by simp at h2;omega)];rfl
  rw [er] at hv;exact hv
end
section
variable {prog:Program} {w:World} {A:Around} {R:Result→Shared→Prop} {I:Addr} {fp wr:List Addr} {n:Nat} {P:Nat→Value→Prop} {St:Nat→Heap→Prop}
def mL (P:Nat→Value→Prop) (bt:Nat→Nat→Bool) (j:Nat) (acc:Array Value):Prop:=(j=0∧acc=#[])∨∃ vb i,j=i + 1∧acc=#[vb,vb]∧P (argBest bt i) vb
theorem KF (W:Walks prog w A.in1 I fp wr n P St) (bt:Nat→Nat→Bool) (hcmp:CmpOf prog w A.in1 .Lt P bt) (S:Addr) (hSf:S ∉ fp) (dv:Value) (kn:Str) :
  ∀ (k j:Nat) (s:Shared) (acc:Array Value) (c:Nat),n - j=k→j ≤ n→St j s.heap→mL P bt j acc →
  s.heap.get? S=some { cls:=.type "list",dict:=none,data:=.seq acc c,slots:=#[] } →
  (∀ v h' tk,(n=0∧v=dv)∨(0 < n∧P (argBest bt (n - 1)) v)→(∀ b o,b ∉ wr→b ≠ S→s.heap.get? b=some o→h'.get? b=some o)→R (.ok (.ret v)) { s with heap:=h',toks:=tk }) →
  codeAny (model prog w) A (.builtin "min.loop" ⟨[.ref I,.none,.ref S],[(kn,dv)]⟩) R s:=by
 have hSw:S ∉ wr:=fun h=>hSf (W.sub _ h)
 have hname:(toString "min" ++ toString ".loop" : String) = "min.loop" := by decide
 intro k
 induction k with
 | zero=>
  intro j s acc c hk hj hst hB hS hR;have hin:j=n:=by omega
  refine codeAny_builtin PySem.F.entry_min_loop ?_;rw [Around.under_plainId PySem.F.plain_min_loop _];show wpAny _ A.in1 (seqItems? (.ref S) >>= _) _ _ s;refine wpAny_bind (wpAny_seqItems hS rfl ?_);show wpAny _ A.in1 (tryCatch (pyNext (.ref I)) _ >>= _) _ _ s;refine wpAny_bind (wpAny_tryCatch (W.done s _ _ (hin ▸ hst) fun h' tk hk'=>?_));have hS':=hk' S _ hSw hS;rcases hB with ⟨h0,rfl⟩ | ⟨vb,i,hi,rfl,hP⟩
  ·show wpAny _ A.in1 (rule _ >>= _) _ _ _;refine wpAny_bind (wpAny_rule (wpAny_pure ?_));exact hR dv h' tk (.inl ⟨by omega,rfl⟩) fun b o hbw hbS e=>hk' b o hbw e
  ·show wpAny _ A.in1 (updateSeq S (fun _=>#[]) >>= _) _ _ _;refine wpAny_bind ?_;refine wpAny_updateSeq hS' rfl (wpAny_bind (wpAny_letGo (wpAny_pure ?_)));refine hR vb _ tk (.inr ⟨by omega,by rw [show n - 1=i by omega];exact hP⟩) fun b o hbw hbS e=>(Heap.get?_update_other _ _ (Ne.symm hbS)).trans (hk' b o hbw e)
 | succ k ih=>
  intro j s acc c hk hj hst hB hS hR;have hlt:j < n:=by omega
  refine codeAny_builtin PySem.F.entry_min_loop ?_;rw [Around.under_plainId PySem.F.plain_min_loop _];show wpAny _ A.in1 (seqItems? (.ref S) >>= _) _ _ s;refine wpAny_bind (wpAny_seqItems hS rfl ?_);show wpAny _ A.in1 (tryCatch (pyNext (.ref I)) _ >>= _) _ _ s;refine wpAny_bind (wpAny_tryCatch (W.item j s _ _ hlt hst fun v h' tk hP hst' hk'=>?_));have hS':=hk' S _ hSw hS;have put:∀ h'':Heap,h''=h'.update S (Obj.mapSeq (fun _=>#[v,v]))→St (j + 1) h'':=fun h'' e=>by
   subst e;exact W.frame _ _ _ hst' fun b hbf o e=>(Heap.get?_update_other _ _ (fun h:S=b=>hSf (by rw [h];exact hbf))).trans e
  rcases hB with ⟨h0,rfl⟩ | ⟨vb,i,hi,rfl,hPb⟩
  ·show wpAny _ A.in1 (updateSeq S (fun _=>#[v,v]) >>= _) _ _ _;refine wpAny_bind ?_;refine wpAny_updateSeq hS' rfl ?_;rw [hname];refine wpAny_pure ⟨plainId_quiet PySem.F.plain_min_loop _,ih (j + 1) _ #[v,v] _ (by omega) hlt (put _ rfl) (.inr ⟨v,j,rfl,rfl,by subst h0;exact hP⟩) (Heap.get?_update_self _ hS' rfl) fun v' h'' tk'' hP' hk''=>?_⟩;exact hR v' h'' tk'' hP' fun b o hbw hbS e=>hk'' b o hbw hbS ((Heap.get?_update_other _ _ (Ne.symm hbS)).trans (hk' b o hbw e))
  ·subst hi;show wpAny _ A.in1 (tryCatch (holding [v,v] (richCompare .Lt v vb >>= _)) _ >>= _) _ _ _;refine wpAny_bind (wpAny_tryCatch (wpAny_holding (wpAny_bind (hcmp (i + 1) (argBest bt i) v vb _ _ _ hP hPb ?_))));refine wpAny_bind (wpAny_holding (wpAny_truthy_bool ?_));refine wpAny_bind (wpAny_letGo (wpAny_pure ?_));cases hb:bt (i + 1) (argBest bt i) with
   | true=>
    simp only [if_true];refine wpAny_bind ?_;refine wpAny_updateSeq hS' rfl (wpAny_bind (wpAny_letGo ?_));rw [hname];refine wpAny_pure ⟨plainId_quiet PySem.F.plain_min_loop _,ih (i + 1 + 1) _ #[v,v] _ (by omega) hlt (put _ rfl) (.inr ⟨v,i + 1,rfl,rfl,by simp only [argBest,hb,if_true];exact hP⟩) (Heap.get?_update_self _ hS' rfl) fun v' h'' tk'' hP' hk''=>?_⟩;exact hR v' h'' tk'' hP' fun b o hbw hbS e=>hk'' b o hbw hbS ((Heap.get?_update_other _ _ (Ne.symm hbS)).trans (hk' b o hbw e))
   | false=>
    simp only [Bool.false_eq_true,if_false];refine wpAny_bind (wpAny_letGo ?_);rw [hname];refine wpAny_pure ⟨plainId_quiet PySem.F.plain_min_loop _,ih (i + 1 + 1) _ #[vb,vb] c (by omega) hlt hst' (.inr ⟨vb,i + 1,rfl,rfl,by simp only [argBest,hb,Bool.false_eq_true,if_false];exact hPb⟩) hS' fun v' h'' tk'' hP' hk''=>?_⟩;exact hR v' h'' tk'' hP' fun b o hbw hbS e=>hk'' b o hbw hbS (hk' b o hbw e)
end
section
variable {prog:Program} {w:World} {A:Around} {E:Value→Shared→Prop} {s:Shared}
theorem yF (a d:Value):argsOk "min" ⟨[a],[(Str.ofString "default",d)]⟩:=by unfold argsOk;kernel_rfl
theorem qG {l:Addr} {its:Array Value} {dv:Value} {Q:Value→Shared→Prop} (hh:A.handled=none) (hl:s.heap.IsList l its) (ks:List Int) (hk:its.size=ks.length) (hv:∀ (i:Nat) (v:Value),its[i]? = some v→∃ t,v=Value.int (ks.getD i 0) t)
  (hQ:∀ v h' tk,(ks=[]∧v=dv)∨(∃ m t,ks.min? = some m∧v=.int m t)→(∀ b o,s.heap.get? b=some o→h'.get? b=some o)→Q v { s with heap:=h',toks:=tk }) :
  wpAny (model prog w) A (call (.builtin "min") [.ref l] [(Str.ofString "default",dv)]) Q E s:=by
 have hname:(toString "min" ++ toString ".loop" : String) = "min.loop" := by decide
 have hlt:l < s.heap.objs.size:=by obtain ⟨_,e,_⟩:=hl;exact Heap.lt_size e
 refine wpAny_call (codeAny_call_builtin PySem.F.plain_min PySem.F.entry_min ?_);simp only [checkBuiltinCall,PySem.F.kind_min];have key:wpAny (model prog w) A.in1 (Builtin.«min» ⟨[.ref l],[(Str.ofString "default",dv)]⟩) (fun fin s'=>match fin with
   | .done f=>(match (Except.ok f:Result) with | .ok (.ret v)=>Q v s' | .ok _=>False | .error e=>E e s')
   | .again c'=>c'.quiet=true∧codeAny (model prog w) A c' (fun r s'=>match r with | .ok (.ret v)=>Q v s' | .ok _=>False | .error e=>E e s') s') E s:=by
  show wpAny _ A.in1 (Builtin.Builtins.bindParams "min" ["key","default"] 0 ⟨[],[(Str.ofString "default",dv)]⟩ >>= _) _ _ s;refine wpAny_bind (wpAny_of_eq (show Builtin.Builtins.bindParams "min" ["key","default"] 0 ⟨[],[(Str.ofString "default",dv)]⟩=pure [none,some dv] from rfl) ?_);refine wpAny_bind (wpAny_pure ?_);refine wpAny_bind (wpAny_pyIter_list hl ?_);refine wpAny_bind (wpAny_newObj_type ?_);rw [hname];have W:=Walks.list (prog:=prog) (w:=w) (A:=A.in1) hh s.heap.objs.size l (Nat.ne_of_lt hlt) its;have hz1:(s.heap.push { cls:=.type "list_iterator",data:=.fields #[.ref l,.int 0 0] }).objs.size=s.heap.objs.size + 1:=Heap.size_push ..;refine wpAny_pure ⟨plainId_quiet PySem.F.plain_min_loop _,KF W _ (CmpOf.ints_lt (fun i=>ks.getD i 0) fun i v h=>hv i v h) _ ?_ dv _ its.size 0 _ #[] _ rfl (Nat.zero_le _) ?_ (.inl ⟨rfl,rfl⟩) (Heap.get?_push_size _ rfl) fun v h' tk hP hk'=>?_⟩
  ·show (s.heap.push _).objs.size ∉ _;rw [hz1];simp only [List.mem_cons,List.not_mem_nil,or_false,not_or];exact ⟨Nat.succ_ne_self _,Ne.symm (Nat.ne_of_lt (Nat.lt_succ_of_lt hlt))⟩
  ·exact W.frame 0 (s.heap.push { cls:=.type "list_iterator",data:=.fields #[.ref l,.int 0 0] }) _ ⟨⟨_,Heap.get?_push_size _ rfl,rfl,rfl⟩,hl.push _⟩ fun b _ o e=>Heap.get?_push_of_some _ e
  ·refine hQ v h' tk ?_ fun b o e=>hk' b o (fun hm=>?_) ?_ (Heap.get?_push_of_some _ (Heap.get?_push_of_some _ e))
   ·rcases hP with ⟨h0,h1⟩ | ⟨h0,h1⟩
    ·exact .inl ⟨List.length_eq_zero_iff.mp (by omega),h1⟩
    ·obtain ⟨t,e⟩:=hv _ v h1;have hb:=argBest_lt (fun i=>ks.getD i 0) (its.size - 1);refine .inr ⟨_,t,?_,e⟩;rw [List.min?_eq_some_iff];have hi:argBest (fun i j=>decide (ks.getD i 0 < ks.getD j 0)) (its.size - 1) < ks.length:=by omega
     refine ⟨?_,fun b hb'=>?_⟩
     ·rw [List.getD_eq_getElem?_getD,List.getElem?_eq_getElem hi];exact List.getElem_mem hi
     ·obtain ⟨j,hj,rfl⟩:=List.getElem_of_mem hb';have:=hb.2 j (by omega);rw [List.getD_eq_getElem?_getD (i:=j),List.getElem?_eq_getElem hj] at this;exact this
   ·rw [List.mem_singleton.mp hm] at e;exact absurd (Heap.lt_size e) (Nat.lt_irrefl _)
   ·rw [hz1];exact Nat.ne_of_lt (Nat.lt_succ_of_lt (Heap.lt_size e))
 cases hsig:Manifest.signature? "min" with
 | none=>exact wpAny_pure key
 | some sig=>
  have ha:=yF (.ref l) dv;have ha':Bind.checkArgs "min" sig ⟨[.ref l],[(Str.ofString "default",dv)]⟩=pure ():=by simpa only [argsOk,hsig] using ha
  simp only [ha'];exact wpAny_pure key
end
section
variable {X:Cx}
noncomputable def xO (K:PySem.W.Frag) (ta:TA) (td:TE):TE:=fun σ H Q=>ta σ H fun vs H1=>td σ H1 fun y H2=>∃ l ks,vs=[.ref l]∧SqL K H2 l (List.map V.int ks)∧Q (match ks.min? with | some m=>.int m | none=>y) H2
theorem qM {a d:Expr} {ta:TA} {td:TE} {p kp pos:Pos} (hc:X.calm=true) (hg:Gl X "min") (hm:X.mg "min"=none) (ha:PA X [a] ta) (hd:PE X d td)
  (he:∀ pos,backTo pos (starEach [a] X.env)=(false,eval a X.env) :: backTo pos (starEach [] X.env):=by intro _;rfl) (hpl:∀ pos,(backTo pos (starEach [a] X.env)).any (·.1)=false:=by intro _;rfl) :
  PE X (.Call (.Name "min" p) [a] [⟨some "default",d,kp⟩] pos) (xO X.K ta td):=by
 intro pins s σ H Q I h;refine wpAny_Call_Name_kw (Sj I hg hm (show bootBuiltins "min"=some (.builtin "min") by decide +kernel) ?_);refine callWith_kw (id := "min") (thn (ha pos pins s σ H _ I h) fun us s1 hZ1=>?_) (he:=he pos) (hplain:=hpl pos);obtain ⟨vs,H1,I1,r1,q1⟩:=hZ1;refine kws_cons (thn (hd pins s1 σ H1 _ I1 q1) fun v s2 ⟨y,H2,I2,r2,q2⟩=>kws_nil ?_);obtain ⟨l,ks,rfl,hq,q⟩:=q2;cases r1 with
 | cons r rr=>
  cases rr;cases r;obtain ⟨its,rv,pl,hz⟩:=I2.list hq;have hl:=rv.length;rw [List.length_map] at hl;refine qG (I2.ok.hd hc) pl.isList ks (by rw [List.size_toArray];omega) (fun i v hv=>?_) fun v' h' tk hv' hk=>⟨_,H2,I2.kept hk,?_,q⟩
  ·rw [List.getElem?_toArray] at hv;have hi:i < ks.length:=by have:=(List.getElem?_eq_some_iff.mp hv).1;omega
   obtain ⟨w,hw,rw'⟩:=rv.get (show (ks.map V.int)[i]? = some (.int ks[i]) by rw [List.getElem?_map,List.getElem?_eq_getElem hi];rfl);rw [hv] at hw;cases hw;rw [List.getD_eq_getElem?_getD,List.getElem?_eq_getElem hi];exact rw'
  ·rcases hv' with ⟨rfl,rfl⟩ | ⟨m,t,hm,rfl⟩
   ·exact r2
   ·rw [hm];exact ⟨t,rfl⟩
end
end L2
namespace L2
open PySem PySem.Spec PyProof.Rows
structure CS (K:PySem.W.Frag) (C:Addr):Prop where
 x:pS K C
 ha:PySem.W.findIn K (.ref C) "__class__"=some (some (.builtin "object.__class__"))
 hn:PySem.W.specialIn K (.builtin "object.__class__") "__get__"=some (some (.builtin "getset_descriptor.__get__"))
 htk:PySem.W.takesIn K (.builtin "object.__class__")=some true
 hm:PySem.W.mroIn K C (.type "object")=some true
section
variable {prog:Program} {w:World} {A:Around} {E:Value→Shared→Prop} {s:Shared} {K:PySem.W.Frag} {x C:Addr} {od:Obj} {dx:Addr} {vs:Array Value} {sl:Array (Option Value)}
end
section
variable {X:Cx}
end
theorem Gb.quiet {P:Program} {w:World} {K:PySem.W.Frag} {mg:Str→Option Value} {base:Heap} {k:Nat} {f:Addr} {fd:FuncData} {ps:List Str} {sp sp':Sp} (F:Gb P w K mg base (CX1 P w) k f fd ps sp)
  (h:∀ vs H Q E,sp' vs H Q E→sp vs H Q (fun _ _ _=>False)):Gb P w K mg base CX0 k f fd ps sp':=by
 refine ⟨fun vs H Q E q=>F.len vs H _ _ (h vs H Q E q),fun A outer s H args us vs Q E hr he hb hv hs=>?_⟩;refine codeAny_mono (F.run A outer s H args us vs Q _ hr he hb hv (h vs H Q E hs)) fun r s' hq=>?_
 cases r with
 | error e=>
  obtain ⟨x,C,od,H',T,_,_,_,_,_,_,_,_,_,z⟩:=hq;exact z.elim
 | ok fl=>cases fl <;> exact hq
end L2
namespace L2
open PySem PySem.Spec PyProof.Rows
structure Ro (k:Nat) (A:Around):Prop where
 dp:A.depth + 3 * k + 5 < recursionLimit
 un:A.units + 16 * k + 200 < cLine
theorem vk.h {k:Nat} {A:Around} (r:vk k A):Ro k A:=⟨r.dp,r.un⟩
theorem Ro.mono {j k:Nat} {A:Around} (r:Ro k A) (h:j ≤ k):Ro j A:=⟨by have:=r.dp;omega,by have:=r.un;omega⟩
theorem Ro.deeper {k:Nat} {A:Around} (r:Ro (k + 1) A) (env:Env):Ro k (A.deeper env):=
 ⟨by have:=r.dp;show A.depth + 1 + 3 * k + 5 < _;omega,by have:=r.un;show A.units + 3 + 16 * k + 200 < _;omega⟩
theorem Ro.depth {k:Nat} {A:Around} (r:Ro k A):A.depth < recursionLimit:=by have:=r.dp;omega
theorem Ro.units {k:Nat} {A:Around} (r:Ro k A):A.units + 64 < cLine:=by have:=r.un;omega
theorem vk.hn {k:Nat} {X:Cx} {e:Value} (r:vk k X.A):Ro k (X.hn e).A:=⟨r.dp,r.un⟩
structure QM (P:Program) (w:World) (K:PySem.W.Frag) (mg:Str→Option Value) (base:Heap) (CX:CXT) (k:Nat) (f:Addr) (fd:FuncData) (ps:List Str) (sp:Sp):Prop where
 len:∀ vs H Q E,sp vs H Q E→vs.length=ps.length
 run:∀ (A:Around) (outer:List Env) (s:Shared) (H:Hp) (args:Args) (us:List Value) (vs:List V) (Q:VK) (E:XK),Ro k A→cI P w K mg base A outer s H→BindsTo s fd args (ps.zip us)→Cd vs us→sp vs H Q E →
  codeAny (model P w) A (.call (.ref f) args) (CR CX outer P w H s Q E) s
theorem QM.mono {P:Program} {w:World} {K:PySem.W.Frag} {mg:Str→Option Value} {base:Heap} {CX:CXT} {j k:Nat} {f:Addr} {fd:FuncData} {ps:List Str} {sp:Sp} (F:QM P w K mg base CX j f fd ps sp) (h:j ≤ k) :
  QM P w K mg base CX k f fd ps sp:=⟨F.len,fun A outer s H args us vs Q E hr=>F.run A outer s H args us vs Q E (hr.mono h)⟩
section
variable {X:Cx} {CX:CXT} {k:Nat} {f C:Addr} {fd:FuncData} {ps:List Str} {sp:Sp} {dvs:List V} {ds:List Value} {E:XK} {x m:Str} {p pos apos:Pos} {e o:Expr} {es:List Expr} {ta:TE} {t:TA}
end
noncomputable def QQ (CX:CXT) (P:Program) (w:World) (K:PySem.W.Frag) (mg:Str→Option Value) (base:Heap) (N:List Str) (qual:Str) (scope:Scope) (f:Addr) (cd:Value) (A:Around) (outer:List Env) (s:Shared) (H:Hp) (E:XK):Cx where
 prog:=P
 w:=w
 K:=K
 mg:=mg
 base:=base
 A:=A.deeper (envOfC qual scope s.heap.objs.size f cd)
 N:=N
 s₀:=s
 H₀:=H
 env:=envOfC qual scope s.heap.objs.size f cd
 outer:=outer
 stack:=envOfC qual scope s.heap.objs.size f cd :: outer
 ex:=[]
 calm:=false
 fn:=fun _=>true
 pn:=[]
 xe:=fun e s'=>wpAny (model P w) (A.deeper (envOfC qual scope s.heap.objs.size f cd)) (leaving (envOfC qual scope s.heap.objs.size f cd) e) (fun _ s''=>CX outer H s E e s'') (fun e' s''=>CX outer H s E e' s'') s'
section
variable {P:Program} {w:World} {K:PySem.W.Frag} {mg:Str→Option Value} {base:Heap}
end
end L2
namespace L2
open PySem PySem.Spec PyProof.Rows
section
variable {X:Cx}
end
end L2
namespace L2
open PySem PySem.Spec PyProof.Rows
section
variable {α:Type} {M:List α→Prop}
theorem us1 (h:∀ a,M [a]):∀ us:List α,us.length=1→M us | [a],_=>h a
theorem us2 (h:∀ a b,M [a,b]):∀ us:List α,us.length=2→M us | [a,b],_=>h a b
theorem us3 (h:∀ a b c,M [a,b,c]):∀ us:List α,us.length=3→M us | [a,b,c],_=>h a b c
theorem us4 (h:∀ a b c d,M [a,b,c,d]):∀ us:List α,us.length=4→M us | [a,b,c,d],_=>h a b c d
theorem us5 (h:∀ a b c d e,M [a,b,c,d,e]):∀ us:List α,us.length=5→M us | [a,b,c,d,e],_=>h a b c d e
theorem us7 (h:∀ a b c d e f g,M [a,b,c,d,e,f,g]):∀ us:List α,us.length=7→M us | [a,b,c,d,e,f,g],_=>h a b c d e f g
theorem us8 (h:∀ a b c d e f g i,M [a,b,c,d,e,f,g,i]):∀ us:List α,us.length=8→M us | [a,b,c,d,e,f,g,i],_=>h a b c d e f g i
end
structure XB (K:PySem.W.Frag) (C:Addr):Prop where
 hd:PySem.W.hasDictIn K C=true
 ov:((PySem.W.clsIn K C).any fun cd=>mN cd.mro)=true
 sa:PySem.W.findIn K (.ref C) "__setattr__"=some (some (.builtin "object.__setattr__"))
 ga:PySem.W.findIn K (.ref C) "__getattribute__"=some (some (.builtin "BaseException.__getattribute__"))
 gt:PySem.W.findIn K (.ref C) "__getattr__"=some none
structure IB (K:PySem.W.Frag) (C:Addr):Prop where
 ha:PySem.W.findIn K (.ref C) "__class__"=some (some (.builtin "object.__class__"))
 hn:PySem.W.specialIn K (.builtin "object.__class__") "__get__"=some (some (.builtin "getset_descriptor.__get__"))
 htk:PySem.W.takesIn K (.builtin "object.__class__")=some true
 hm:PySem.W.mroIn K C (.type "object")=some true
end L2
namespace L2
open PySem PySem.Spec PyProof.Rows
theorem nv {ks:List Int}:∀ {its:List Value},Cd (ks.map V.int) its→∃ xs:List (Int × Tok),its=xs.map (fun p=>Value.int p.1 p.2)∧xs.map (·.1)=ks:=by
 induction ks with
 | nil=>intro its r;cases r;exact ⟨[],rfl,rfl⟩
 | cons k ks ih=>
  intro its r;cases r with
  | cons h t=>
   obtain ⟨xs,e1,e2⟩:=ih t;obtain ⟨tk,rfl⟩:=(show ∃ t,_=Value.int k t from h);exact ⟨(k,tk) :: xs,by rw [List.map_cons,← e1],by rw [List.map_cons,e2]⟩
section
variable {X:Cx}
theorem fG (hc:X.calm=true):rk X (.builtin "max") (fun xs H Q=>∃ l ks m,xs=[.ref l]∧SqL X.K H l (List.map V.int ks)∧(m ∈ ks∧∀ k ∈ ks,k ≤ m)∧Q (.int m) H):=by
 intro pins s σ H xs us Q I r h;obtain ⟨l,ks,m,rfl,hq,hm,q⟩:=h;obtain ⟨u,rfl,ru⟩:=qo r;cases ru;obtain ⟨its,rv,pl,hz⟩:=I.list hq;obtain ⟨xs,e1,e2⟩:=nv rv;have hil:its.toArray=intItems xs.toArray:=by rw [e1];unfold intItems;simp
 have hls:s.heap.IsList l (intItems xs.toArray):=by rw [← hil];exact pl.isList
 have hxl:xs.length=ks.length:=by rw [← e2,List.length_map]
 have hne:0 < xs.toArray.size:=by
  rw [List.size_toArray,hxl];exact List.length_pos_of_mem hm.1
 refine max_intList (I.ok.hd hc) hls hne fun v h' tk hv hk=>⟨.int m,H,I.kept hk,?_,q⟩
 obtain ⟨tv,rfl⟩:=intItems_at hv;refine ⟨tv,?_⟩;have hb:=argBest_gt (numAt xs.toArray) (xs.toArray.size - 1);generalize argBest (fun i j=>decide (numAt xs.toArray i > numAt xs.toArray j)) (xs.toArray.size - 1)=j at hb ⊢;have hn:∀ i,i < ks.length→ks[i]? = some (numAt xs.toArray i):=fun i hi=>by
  rw [numAt_eq,List.getD_eq_getElem?_getD];show ks[i]? = some (((xs.map (·.1))[i]?).getD 0);rw [e2,List.getElem?_eq_getElem hi];rfl
 rw [List.size_toArray] at hb hne;have h1:=hm.2 _ (List.mem_of_getElem? (hn j (by omega)));obtain ⟨i,hi⟩:=List.getElem?_of_mem hm.1;have hil:i < ks.length:=(List.getElem?_eq_some_iff.mp hi).1;have h2:=hb.2 i (by omega);have h3:m=numAt xs.toArray i:=Option.some.inj (hi.symm.trans (hn i hil));rw [show numAt xs.toArray j=m by omega]
noncomputable def uG (K:PySem.W.Frag):V→List V→Hp→VK→Prop:=fun x vs H Q=>∃ l ks k,x=.ref l∧vs=[.int k]∧SqL K H l (List.map V.int ks)∧k ∈ ks∧ks.length ≤ 1000∧Q (.int (ks.idxOf k:Nat)) H
theorem rH:MtR X "list.index" (uG X.K):=by
 intro pins s σ H x xs v us Q I rx rv h;obtain ⟨l,ks,k,rfl,rfl,hq,hk,hl,q⟩:=h;cases (show v=Value.ref l from rx);obtain ⟨u,rfl,ru⟩:=qo rv;obtain ⟨tu,rfl⟩:=(show ∃ t,u=Value.int k t from ru);obtain ⟨its,ri,pl,hz⟩:=I.list hq;have hi:=jv ri;have hlen:=hi.length;have hj:ks.idxOf k < ks.length:=List.idxOf_lt_length_iff.mpr hk;obtain ⟨⟨cls,dd,data,sl⟩,ho,hc,n,hd⟩:=id pl.isList;simp only at hc hd;subst hc hd;refine call_meets PySem.F.slot_list_index ⟨_,ho,rfl⟩ PySem.F.entry_list_index (PySem.F.args_list_index_2 _ _)
  (PySem.SeqAt.list_indexAt l its.toArray n dd sl (.int k tu) (isInt k) (ks.idxOf k) (by simpa [hlen] using hj) (by omega) ?_ ?_) ⟨ho,fun y hy=>(eq_isInt k tu hi y (by simpa using hy)).at _ _,.int _,H,I.tok _,⟨_,rfl⟩,q⟩
 ·show isInt k its[ks.idxOf k]=true;rw [isInt_at k hi _ (by omega) hj];simpa using List.getElem_idxOf hj
 ·intro j hjs hlt;show isInt k its[j]=false;rw [isInt_at k hi j (by simpa using hjs) (by omega)];exact ne_of_lt_idxOf hlt _
end
end L2
namespace L2
open PySem PySem.Spec PyProof.Rows
noncomputable def CP (p d:Addr):Heap→Prop:=fun h=>PySem.W.KdlKeysView h p d
noncomputable def kR (p d:Addr):Heap→Prop:=fun h=>h.IsValuesView p d
theorem CP.ok {P:Program} {w:World} {H:Hp} {h:Heap} {p d:Addr} (z:CP p d h):we P w H h p (.ext (CP p d)):=
 ⟨z,let ⟨o,ho,_⟩:=z;⟨o,ho⟩,fun _ _ z1 k=>let ⟨o,ho,x⟩:=z1;⟨o,k o ho,x⟩⟩
theorem kR.ok {P:Program} {w:World} {H:Hp} {h:Heap} {p d:Addr} (z:kR p d h):we P w H h p (.ext (kR p d)):=
 ⟨z,let ⟨o,ho,_⟩:=z;⟨o,ho⟩,fun _ _ z1 k=>let ⟨o,ho,x⟩:=z1;⟨o,k o ho,x⟩⟩
section
variable {X:Cx}
noncomputable def Hx:V→List V→Hp→VK→Prop:=fun x vs H Q=>∃ d kvs,x=.ref d∧vs=[]∧H d=some (.dK kvs)∧∀ p,H p=none→Q (.ref p) (upd H p (.ext (CP p d)))
end
end L2
namespace L2
open PySem PySem.Spec PyProof.Rows
noncomputable abbrev TF:=St→Hp→Str→(Str→Hp→Prop)→Prop
section
variable {X:Cx} {e:Expr} {es:List Expr} {t:TF} {te:TE} {pos:Pos}
end
end L2
namespace L2
open PySem PySem.Spec PyProof.Rows
noncomputable def WQ (p:Addr) (a b c:Int):Heap→Prop:=fun h=>∃ t u v,IsRange h p a b c t u v
theorem WQ.ok {P:Program} {w:World} {H:Hp} {h:Heap} {p:Addr} {a b c:Int} (z:WQ p a b c h):we P w H h p (.ext (WQ p a b c)):=
 ⟨z,let ⟨_,_,_,e⟩:=z;⟨_,e⟩,fun _ _ z1 k=>let ⟨t,u,v,e⟩:=z1;⟨t,u,v,k _ e⟩⟩
section
variable {X:Cx}
end
end L2
namespace L2
open PySem PySem.Spec PyProof.Rows
noncomputable def zS (c:Addr) (qual:Str):Heap→Prop:=fun h=>h.CodeRec (.ref c) qual
def Tab (H:Hp) (Pt:Addr) (pos:Pos) (qual:Str):Prop:=
 ∃ ps,H Pt=some (.tbl ps)∧(ps=#[]∨∃ c',ps=#[rawInt pos.line,rawInt pos.col,.ref c']∧H c'=some (.ext (zS c' qual)))
def Jx (Pt:Addr) (H H':Hp):Prop:=∀ b o,b ≠ Pt→H b=some o→H' b=some o
theorem Jx.refl (Pt:Addr) (H:Hp):Jx Pt H H:=fun _ _ _ h=>h
theorem Jx.trans {Pt:Addr} {H H1 H2:Hp} (a:Jx Pt H H1) (b:Jx Pt H1 H2):Jx Pt H H2:=fun c o n h=>b c o n (a c o n h)
theorem Ib.p {Pt:Addr} {H H':Hp} (s:Ib H H'):Jx Pt H H':=fun b o _ h=>s b o h
theorem Tab.ne {H:Hp} {Pt b:Addr} {pos:Pos} {qual:Str} {o:HO} (t:Tab H Pt pos qual) (h:H b=some o) (ho:∀ ps,o ≠ .tbl ps):b ≠ Pt:=fun e=>by
 obtain ⟨ps,e1,_⟩:=t;subst e;rw [e1] at h;exact ho ps (Option.some.inj h).symm
theorem Tab.step {H H':Hp} {Pt:Addr} {pos:Pos} {qual:Str} (t:Tab H Pt pos qual) (s:Ib H H'):Tab H' Pt pos qual:=by
 obtain ⟨ps,e,d⟩:=t;refine ⟨ps,s _ _ e,?_⟩;rcases d with d | ⟨c',d,e'⟩
 ·exact .inl d
 ·exact .inr ⟨c',d,s _ _ e'⟩
structure ES (X:Cx) (c Pt:Addr):Prop where
 code:X.env.code=.ref c
 hd:PySem.W.CodeHd X.base c Pt
 bm:X.base.BuiltinsAt X.mg Pt
section
variable {X:Cx} {pins:List (Addr × Obj)} {σ:St} {H:Hp} {s:Shared} {params:Arguments} {body:Expr} {scope:Scope} {pos:Pos} {c Pt:Addr} {clos:List (Str × Addr)} {Q:Value→Shared→Prop}
end
section
variable {P:Program} {w:World} {K:PySem.W.Frag} {mg:Str→Option Value} {base:Heap}
end
structure BS (p y:Str) (sc:Scope):Prop where
 kind:sc.kind=.function
 co:sc.isCoroutine=false
 gen:sc.isGenerator=false
 ne:p ≠ y
 par:sc.names.lookup p=some .local
 yf:sc.names.lookup y=some .free
 nocell:∀ z ∈ sc.names,z.2 ≠ .cell
 one:∀ z ∈ sc.names,z.2=.free→z.1=y
section
variable {X:Cx} {pins:List (Addr × Obj)} {σ:St} {H:Hp} {s:Shared} {k:Nat} {f c' cl:Addr} {q p y:Str} {params:Arguments} {body:Expr} {scope:Scope} {v:V} {t:TE}
end
end L2
namespace L2
open PySem PySem.Spec PyProof.Rows
end L2
namespace L2
open PySem PySem.Spec PyProof.Rows
section
variable {P:Program} {w:World} {A:Around} {E:Value→Shared→Prop} {s:Shared}
structure SL (h:Heap) (d:Addr) (o:Obj) (es:Array DictEntry) (ep:Nat):Prop where
 at_:h.get? d=some o
 ex:o.ExactDict
 dat:o.data=.dict es ep
theorem yH {d:Addr} {o:Obj} {es:Array DictEntry} {ep:Nat} (r:SL s.heap d o es ep):s.TypeIs (.ref d) "dict" := ⟨o,r.at_,r.ex.1⟩
theorem cH {d:Addr} {o:Obj} {es:Array DictEntry} {ep:Nat} {Q:Value→Shared→Prop} (hd:(d == sysModules)=false) (r:SL s.heap d o es ep)
  (hQ:Q (.ref s.heap.objs.size) { s with heap:=s.heap.push { cls:=.type "dict_keyiterator",data:=.fields #[.ref d,.int 0 0,.int es.size 0,.int ep 0] } }) :
  wpAny (model P w) A (pyIter (.ref d)) Q E s:=by
 have hT:=yH r;refine wpAny_pyIter_slot hT F.slot_dict_iter (wpAny_call_entry F.slot_dict_iter hT F.entry_dict_iter ?_ (F.args_dict_iter_1 _));unfold Builtin.«dict.__iter__» Builtin.Dict.dictSlotNone;refine wpAny_bind (wpAny_bind (wpAny_notOrdered_dict hT (wpAny_pure ?_)));show wpAny _ _ (Builtin.Dict.showsAll d >>= _) _ _ s;unfold Builtin.Dict.showsAll;rw [if_neg (by rw [hd];exact Bool.false_ne_true)];refine wpAny_bind (wpAny_pure (wpAny_bind (wpAny_dictEntries r.at_ r.dat (wpAny_bind (wpAny_dictEpoch r.at_ r.dat ?_)))));refine wpAny_bind (wpAny_newObj_type (wpAny_pure ⟨_,rfl,"dict_keyiterator",_,⟨_,Heap.get?_push_size _ rfl,rfl⟩,F.slot_dict_keyiterator_next.lookup,?_⟩));simpa [rawInt] using hQ
theorem VG {it d:Addr} {o:Obj} {i ep:Nat} {es:Array DictEntry} {e:DictEntry} {Q:Option Value→Shared→Prop} (hit:s.heap.IsKeyIter it d i es.size ep) (r:SL s.heap d o es ep) (hx:es[i]? = some e)
  (hQ:∀ h',h'.IsKeyIter it d (i + 1) es.size ep→Heap.SameBut it s.heap h'→Q (some e.key) { s with heap:=h' }):wpAny (model P w) A (pyNext (.ref it)) Q E s:=by
 obtain ⟨oi,ho,hc,hd⟩:=id hit;have hown:Builtin.Dict_items.ownsTuple "dict_keyiterator"=false:=by decide
 have hlt:i < es.size:=by
  rcases Nat.lt_or_ge i es.size with h | h
  ·exact h
  ·rw [Array.getElem?_eq_none h] at hx;cases hx
 unfold pyNext;refine wpAny_bind (wpAny_attempt (wpAny_callSpecial?_slot (name:=Str.ofString "__next__") hit.typeIs F.slot_dict_keyiterator_next
  (wpAny_call_entry F.slot_dict_keyiterator_next hit.typeIs F.entry_dict_keyiterator_next ?_ (F.args_dict_keyiterator_next_1 _))))
 refine wpAny_bind (wpAny_pure (wpAny_bind (wpAny_bind ?_)))
 first | refine wpAny_bind (wpAny_typeNameOfWhole_keyiter hit.typeIs (wpAny_pure ?_)) | refine wpAny_bind (wpAny_typeNameOf_keyiter hit.typeIs (wpAny_pure ?_))
 refine wpAny_bind (wpAny_fieldsOf ho hd ?_);simp only [hown,Bool.false_eq_true,if_false];show wpAny _ _ (if (Value.ref d == Value.none)=true then _ else _) _ _ s;rw [if_neg (show ¬ ((Value.ref d == Value.none)=true) from Bool.false_ne_true)];refine wpAny_bind (wpAny_pure (wpAny_bind (wpAny_dictEntries r.at_ r.dat ?_)));rw [if_neg (by simp)];refine wpAny_bind (wpAny_pure (wpAny_bind (wpAny_dictEpoch r.at_ r.dat ?_)));rw [if_neg (by simp)];refine wpAny_pure ?_;simp only [show ¬ ((i:Int) < 0) from by omega,if_false,Int.toNat_natCast,hx];refine wpAny_bind ?_
 first | refine wpAny_bind (wpAny_typeNameOfWhole_keyiter hit.typeIs (wpAny_pure ?_)) | refine wpAny_bind (wpAny_typeNameOf_keyiter hit.typeIs (wpAny_pure ?_))
 refine wpAny_bind (wpAny_isOneOf_keyiter hit.typeIs ?_);show wpAny _ _ (setField (.ref it) 1 (rawInt ((i:Int) + 1)) >>= _) _ _ s;refine wpAny_bind (wpAny_setField ho hd (by simp) ?_);have hit':(s.heap.update it (Obj.mapFields (·.setIfInBounds 1 (rawInt ((i:Int) + 1))))).IsKeyIter it d (i + 1) es.size ep:=
  ⟨_,Heap.get?_update_self _ ho (Obj.isFreed_of_fields (Obj.data_mapFields hd _)),(Obj.cls_mapFields ..).trans hc,by rw [Obj.data_mapFields hd];simp [rawInt]⟩
 refine wpAny_bind (wpAny_holding (wpAny_bind (wpAny_isOneOf_keyiter (s:={ s with heap:=s.heap.update it (Obj.mapFields (·.setIfInBounds 1 (rawInt ((i:Int) + 1)))) }) hit'.typeIs ?_)));show wpAny _ _ (pure e.key) _ _ _;exact wpAny_pure (wpAny_pure ⟨_,rfl,wpAny_pure (hQ _ hit' (Heap.SameBut.update ..))⟩)
theorem HK {it d:Addr} {o:Obj} {i ep:Nat} {es:Array DictEntry} {Q:Option Value→Shared→Prop} (hh:A.handled=none) (hit:s.heap.IsKeyIter it d i es.size ep) (r:SL s.heap d o es ep) (hx:es.size ≤ i)
  (hQ:∀ h',Heap.ExtBut it s.heap h'→Q none { s with heap:=h' }):wpAny (model P w) A (pyNext (.ref it)) Q E s:=by
 obtain ⟨oi,ho,hc,hd⟩:=id hit;have hown:Builtin.Dict_items.ownsTuple "dict_keyiterator"=false:=by decide
 unfold pyNext;refine wpAny_bind (wpAny_attempt (wpAny_callSpecial?_slot (name:=Str.ofString "__next__") hit.typeIs F.slot_dict_keyiterator_next
  (wpAny_call_entry F.slot_dict_keyiterator_next hit.typeIs F.entry_dict_keyiterator_next ?_ (F.args_dict_keyiterator_next_1 _))))
 refine wpAny_bind (wpAny_pure (wpAny_bind (wpAny_bind ?_)))
 first | refine wpAny_bind (wpAny_typeNameOfWhole_keyiter hit.typeIs (wpAny_pure ?_)) | refine wpAny_bind (wpAny_typeNameOf_keyiter hit.typeIs (wpAny_pure ?_))
 refine wpAny_bind (wpAny_fieldsOf ho hd ?_);simp only [hown,Bool.false_eq_true,if_false];show wpAny _ _ (if (Value.ref d == Value.none)=true then _ else _) _ _ s;rw [if_neg (show ¬ ((Value.ref d == Value.none)=true) from Bool.false_ne_true)];refine wpAny_bind (wpAny_pure (wpAny_bind (wpAny_dictEntries r.at_ r.dat ?_)));rw [if_neg (by simp)];refine wpAny_bind (wpAny_pure (wpAny_bind (wpAny_dictEpoch r.at_ r.dat ?_)));rw [if_neg (by simp)];refine wpAny_pure ?_;simp only [show ¬ ((i:Int) < 0) from by omega,if_false,Int.toNat_natCast,Array.getElem?_eq_none hx];refine wpAny_bind ?_
 first | refine wpAny_bind (wpAny_typeNameOfWhole_keyiter hit.typeIs (wpAny_pure ?_)) | refine wpAny_bind (wpAny_typeNameOf_keyiter hit.typeIs (wpAny_pure ?_))
 show wpAny _ _ (setField (.ref it) 0 .none >>= _) _ _ s;refine wpAny_bind (wpAny_setField ho hd (by simp) ?_);show wpAny _ _ (newExc (.type "StopIteration") [] >>= _) _ _ _;refine wpAny_bind ?_;simp only [newExc,newTuple];refine wpAny_bind (wpAny_newObj_type ?_ (by size_fits));refine wpAny_bind (m:=firstArgMember _ _) (wpAny_of_eq (a:=Value.none) (by first | rfl | (simp only [firstArgMember];rfl)) ?_);refine wpAny_newObj_type ?_ (by size_fits);simp only [raiseNew];refine wpAny_bind (wpAny_handled ?_);rw [show A.in1.handled=none from hh];refine wpAny_bind (wpAny_pure (wpAny_throw ?_));refine wpAny_bind (wpAny_isInstance (T := "StopIteration") (b:=true) ⟨_,Heap.get?_push_size _ rfl,rfl⟩ isSubtype_stop ?_);exact wpAny_pure (hQ _ (((Heap.SameBut.update ..).extBut.push _).push _))
end
noncomputable def AtO (a:Addr) (o:Obj):Heap→Prop:=fun h=>h.get? a=some o
theorem ZG {α β:Type} {F:α→β→Prop} {l₁:List α} {l₂:List β} (r:Paired F l₁ l₂):∀ {i:Nat} {a:α},l₁[i]? = some a→∃ b,l₂[i]? = some b∧F a b:=by
 induction r with
 | nil=>intro i a e;cases e
 | cons h _ ih=>
  intro i a e;cases i with
  | zero=>cases e;exact ⟨_,rfl,h⟩
  | succ j=>exact ih (by simpa using e)
theorem Tq {α β:Type} {F:α→β→Prop} {l₁:List α} {l₂:List β} (r:Paired F l₁ l₂):l₁.length=l₂.length:=by
 induction r with
 | nil=>rfl
 | cons _ _ ih=>simp [ih]
structure zQ (P:Program) (w:World) (H:Hp) (a:Addr) (kvs:List (List Key × V)) (o:Obj) (es:Array DictEntry) (ep:Nat) (xs:List (List Key × Addr × Value)):Prop where
 at_:H a=some (.ext (AtO a o))
 ex:o.ExactDict
 dat:o.data=.dict es ep
 ent:es.toList=xs.map (entryOfKey (tupleKind (Ge P w)))
 nd:(xs.map (·.1)).Nodup
 ks:Paired (fun (p:List Key × V) (q:List Key × Addr × Value)=>p.1=q.1∧H q.2.1=some (.tup (p.1.map kV))∧Vd p.2 q.2.2) kvs xs
 sz:kvs.length ≤ sizeLine
 ns:(a == sysModules)=false
def vn (P:Program) (w:World) (H:Hp) (a:Addr) (kvs:List (List Key × V)):Prop:=∃ o es ep xs,zQ P w H a kvs o es ep xs
section
variable {P:Program} {w:World} {H H':Hp} {h:Heap} {a:Addr} {kvs:List (List Key × V)}
theorem Tb (d:vn P w H a kvs) (s:Ib H H'):vn P w H' a kvs:=by
 obtain ⟨o,es,ep,xs,r⟩:=d;exact ⟨o,es,ep,xs,s _ _ r.at_,r.ex,r.dat,r.ent,r.nd,Paired.mapP r.ks fun p q z=>⟨z.1,s _ _ z.2.1,z.2.2⟩,r.sz,r.ns⟩
theorem uJ {p:Addr} {u:HO} (d:vn P w H a kvs) (hp:p ≠ a) (ht:∀ xs,H p ≠ some (.tup xs)):vn P w (upd H p u) a kvs:=by
 obtain ⟨o,es,ep,xs,r⟩:=d;exact ⟨o,es,ep,xs,by rw [wb (Ne.symm hp)];exact r.at_,r.ex,r.dat,r.ent,r.nd,Paired.mapP r.ks fun q q' z=>⟨z.1,by rw [wb (fun e=>ht _ (e ▸ z.2.1))];exact z.2.1,z.2.2⟩,r.sz,r.ns⟩
theorem Lq {o:Obj} {es:Array DictEntry} {ep:Nat} {xs:List (List Key × Addr × Value)} (ok:HOk P w H h) (r:zQ P w H a kvs o es ep xs):SL h a o es ep:=
 ⟨(ok a _ r.at_).1,r.ex,r.dat⟩
theorem NE (ok:HOk P w H h) (d:vn P w H a kvs):Mut (H a)∧(∃ u,h.get? a=some u)∧we P w (upd H a (.dT kvs)) h a (.dT kvs):=by
 obtain ⟨o,es,ep,xs,r⟩:=d;have e:=(Lq ok r).at_;refine ⟨by rw [r.at_];exact True.intro,⟨o,e⟩,r.sz,r.ns,xs,Paired.mapP r.ks fun q q' z=>⟨z.1,?_,z.2.2⟩,o,es,ep,e,r.ex,r.dat,r.ent,r.nd⟩;rw [wb (fun e=>by have:=z.2.1;rw [e,r.at_] at this;cases this)];exact z.2.1
theorem gy (ok:HOk P w H h) (d:vn P w H a kvs):HOk P w (upd H a (.dT kvs)) h:=
 have z:=NE ok d
 ok.write z.1 (.inl rfl) (fun _ _ _ q=>q) z.2.1 z.2.2
theorem oM {b:Addr} {xs:List V} (d:vn P w H a kvs) (e:H b=some (.tup xs)):b ≠ a:=fun z=>by
 obtain ⟨o,es,ep,ys,r⟩:=d;have:=r.at_;rw [← z,e] at this;cases this
end
section
variable {X:Cx} {pins:List (Addr × Obj)} {σ:St} {H:Hp} {s:Shared} {a b:Addr} {kvs:List (List Key × V)} {k:List Key} {v:V} {r:Value} {A:Around} {E:Value→Shared→Prop}
theorem DB {o':HO} (I:Inv X pins σ H s) (mu:Mut (H a)) (ex:∃ u,s.heap.get? a=some u) (new:we X.prog X.w (upd H a o') s.heap a o'):Inv X pins σ (upd H a o') s:=
 I.un (t':=s.toks) (h':=s.heap) (Un.write mu (.inl rfl) (fun _ _ _ q=>q) ex) (I.hok.write mu (.inl rfl) (fun _ _ _ q=>q) ex new)
theorem cK (I:Inv X pins σ H s) (d:vn X.prog X.w H a kvs):Inv X pins σ (upd H a (.dT kvs)) s:=
 have z:=NE I.hok d
 DB I z.1 z.2.1 z.2.2
theorem MB (I:Inv X pins σ H s) (e:H a=some (.dT kvs)):∃ o,Inv X pins σ (upd H a (.ext (AtO a o))) s∧vn X.prog X.w (upd H a (.ext (AtO a o))) a kvs:=by
 obtain ⟨z,y,xs,r,o,es,ep,h1,h2,h3,h4,h5⟩:=(show we X.prog X.w H s.heap a (.dT kvs) from I.hok a _ e);refine ⟨o,DB I (by rw [e];exact True.intro) ⟨o,h1⟩ ⟨h1,⟨o,h1⟩,fun _ _ q k=>k o q⟩,o,es,ep,xs,db ..,h2,h3,h4,h5,Paired.mapP r fun p q z=>⟨z.1,?_,z.2.2⟩,z,y⟩;rw [wb (fun q=>by have:=z.2.1;rw [q,e] at this;cases this)];exact z.2.1
theorem dQ {Q:Value→Shared→Prop} (hu:A.units + 1 < cLine) (I:Inv X pins σ H s) (d:vn X.prog X.w H a kvs) (eb:H b=some (.tup (k.map kV))) (l:Ol kvs k=some v) (h:∀ w' s',Inv X pins σ H s'→Vd v w'→Q w' s') :
  wpAny (model X.prog X.w) A (getItem (.ref a) (.ref b)) Q E s:=by
 obtain ⟨z,hd,xs,rel,dd⟩:=zN (gy I.hok d) (db ..);obtain ⟨w',hw,rw'⟩:=su.some_of (v:=v) (o:=(atKey xs k).map (·.2)) (by rw [← l];exact rel.val k);obtain ⟨p,hp,hp2⟩:=Option.map_eq_some_iff.mp hw;refine wpAny_getItem_heap (tupleKind_room_in1 hu) (Ls I.hok eb) dd hp ?_;rw [hp2];exact h w' _ (I.tok _) rw'
theorem bR {Q:Value→Shared→Prop} (hu:A.units + 1 < cLine) (I:Inv X pins σ H s) (d:vn X.prog X.w H a kvs) (eb:H b=some (.tup (k.map kV))) (h:∀ s',Inv X pins σ H s'→Q (.bool (Ol kvs k).isSome) s') :
  wpAny (model X.prog X.w) A (compareOp .In (.ref b) (.ref a)) Q E s:=by
 obtain ⟨z,hd,xs,rel,dd⟩:=zN (gy I.hok d) (db ..);refine wpAny_in_heap (tupleKind_room_in1 hu) (Ls I.hok eb) hd dd ?_;have q:=(rel.val k).isSome_eq;rw [Option.isSome_map] at q;rw [← q];exact h _ (I.tok _)
theorem gQ {Q:Unit→Shared→Prop} (hu:A.units + 1 < cLine) (I:Inv X pins σ H s) (d:vn X.prog X.w H a kvs) (eb:H b=some (.tup (k.map kV))) (hl:kvs.length < sizeLine) (rv:Vd v r)
  (h:∀ o s',Inv X pins σ (upd H a (.ext (AtO a o))) s'→vn X.prog X.w (upd H a (.ext (AtO a o))) a (xq kvs k v)→Q () s'):wpAny (model X.prog X.w) A (setItem (.ref a) (.ref b) r) Q E s:=by
 refine gx hu (cK I d) (sE.t (db ..) (by rw [wb (oM d eb)];exact eb) hl) (show Vd (.ref b) (.ref b) from rfl) rv fun s' I'=>?_
 rw [Dl] at I';obtain ⟨o,I2,d2⟩:=MB I' (db ..);rw [Dl] at I2 d2;exact h o s' I2 d2
end
noncomputable def MO (P:Program) (w:World) (td ty:TE):TE:=fun σ H Q=>td σ H fun x H1=>ty σ H1 fun y H2=>∃ a b kvs k v,x=.ref a∧y=.ref b∧vn P w H2 a kvs∧H2 b=some (.tup (k.map kV))∧Ol kvs k=some v∧Q v H2
noncomputable def zR (P:Program) (w:World) (ty td:TE):TE:=fun σ H Q=>ty σ H fun y H1=>td σ H1 fun x H2=>∃ a b kvs k,x=.ref a∧y=.ref b∧vn P w H2 a kvs∧H2 b=some (.tup (k.map kV))∧Q (.bl (Ol kvs k).isSome) H2
noncomputable def ZN (P:Program) (w:World) (td ty tv:TE):TS:=fun D σ H=>tv σ H fun v H1=>td σ H1 fun x H2=>ty σ H2 fun y H3=>∃ a b kvs k,x=.ref a∧y=.ref b∧vn P w H3 a kvs∧H3 b=some (.tup (k.map kV))∧kvs.length < sizeLine∧∀ o,vn P w (upd H3 a (.ext (AtO a o))) a (xq kvs k v)→D.nx σ (upd H3 a (.ext (AtO a o)))
noncomputable def mQ (P:Program) (w:World):TE:=fun _ H Q=>∀ p o,H p=none→vn P w (upd H p (.ext (AtO p o))) p []→Q (.ref p) (upd H p (.ext (AtO p o)))
section
variable {X:Cx} {o i e value:Expr} {pos pos' tpos:Pos} {td ty tv:TE}
theorem tH (hu:X.A.units + 1 < cLine) (ho:PE X o td) (hi:PE X i ty) (hs:vR i):PE X (.Subscript o i pos) (MO X.prog X.w td ty):=by
 intro pins s σ H Q I h;refine DG PySem.F.slot_dict_getitem.lookup hs (thn (ho pins s σ H _ I h) fun u s1 ⟨x,H1,I1,rx,q1⟩=>thn (hi pins s1 σ H1 _ I1 q1) fun iv s2 hZ1=>?_);obtain ⟨y,H2,I2,ry,a,b,kvs,k,v,ex,ey,d,eb,l,q2⟩:=hZ1;subst ex ey;obtain rfl:u=Value.ref a:=rx;obtain rfl:iv=Value.ref b:=ry;refine ⟨?_,dQ hu I2 d eb l fun w' s3 I3 rw'=>⟨v,H2,I3,rw',q2⟩⟩;obtain ⟨ob,es,ep,xs,r⟩:=d;exact yH (Lq I2.hok r)
theorem Du (hu:X.A.units + 1 < cLine) (hi:PE X i ty) (ho:PE X o td):PC X .In i o (zR X.prog X.w ty td):=by
 intro pins s σ H Q I h;refine thn (hi pins s σ H _ I h) fun iv s1 ⟨y,H1,I1,ry,q1⟩=>thn (ho pins s1 σ H1 _ I1 q1) fun u s2 hZ1=>?_
 obtain ⟨x,H2,I2,rx,a,b,kvs,k,ex,ey,d,eb,q2⟩:=hZ1;subst ex ey;obtain rfl:u=Value.ref a:=rx;obtain rfl:iv=Value.ref b:=ry;exact bR hu I2 d eb fun s3 I3=>⟨.bl (Ol kvs k).isSome,H2,I3,rfl,q2⟩
theorem xz (hu:X.A.units + 1 < cLine) (ho:PE X o td) (hi:PE X i ty) (hv:PE X value tv) (hs:swapsWith value (some (.Subscript o i pos')) pos.line X.env=pure false) :
  PS X (.Assign [.Subscript o i pos'] value pos) (ZN X.prog X.w td ty tv):=by
 intro pins s σ H D I h;refine wpAny_Assign_Subscript (thn (hv pins s σ H _ I h) fun r s1 ⟨v,H1,I1,rv,q1⟩=>thn (ho pins s1 σ H1 _ I1 q1) fun u s2 ⟨x,H2,I2,rx,q2⟩=>thn (hi pins s2 σ H2 _ I2 q2) fun iv s3 hZ1=>?_) hs;obtain ⟨y,H3,I3,ry,a,b,kvs,k,ex,ey,d,eb,hl,q3⟩:=hZ1;subst ex ey;obtain rfl:u=Value.ref a:=rx;obtain rfl:iv=Value.ref b:=ry;exact gQ hu I3 d eb hl rv fun ob s4 I4 d4=>⟨σ,_,I4,q3 ob d4⟩
theorem PF:PE X (.Dict [] [] pos) (mQ X.prog X.w):=fun pins s σ H Q I h=>by
 refine thn (fK pins s σ H (fun x H1=>∃ p,x=.ref p∧H p=none∧H1=upd H p (.dT [])) I fun p hp=>⟨p,rfl,hp,rfl⟩) fun v s1 hZ1=>?_
 obtain ⟨x,H1,I1,r1,p,ex,hp,eH⟩:=hZ1;subst ex eH;obtain ⟨o,I2,d2⟩:=MB I1 (db ..);rw [Dl] at I2 d2;exact ⟨.ref p,_,I2,r1,h p o hp d2⟩
end
noncomputable def Itk (d:Addr) (o:Obj) (kvs:List (List Key × V)) (xs:List (List Key × Addr × Value)):It:=
 ⟨fun i H=>H d=some (.ext (AtO d o))∧i < kvs.length,fun i H x H'=>H'=H∧∃ k b u,xs[i]? = some (k,b,u)∧x=.ref b,fun i H=>H d=some (.ext (AtO d o))∧kvs.length ≤ i⟩
theorem NJ {P:Program} {w:World} {K:PySem.W.Frag} {tg:Expr} {d it:Addr} {o:Obj} {es:Array DictEntry} {ep:Nat} {kvs:List (List Key × V)} {xs:List (List Key × Addr × Value)} (ex:o.ExactDict) (ho:o.data=.dict es ep)
  (ent:es.toList=xs.map (entryOfKey (tupleKind (Ge P w)))) (hl:kvs.length=xs.length):mG P w K tg (Itk d o kvs xs) [it] it (fun i h=>h.IsKeyIter it d i es.size ep) where
 mem:=by simp
 obj:=fun i h st b hb=>by
  have e:b=it:=by simpa using hb
  subst e;obtain ⟨o,e,c,d⟩:=st;exact ⟨o,e,fun v z=>by rw [d] at z;cases z⟩
 keep:=fun i h h' st k=>st.at fun o e=>k it (by simp) o e
 item:=by
  intro X hP hw hK hc i pins s σ H E I hf st hg;subst hP hw hK;obtain ⟨hq,hx⟩:=hg;have r:SL s.heap d o es ep:=⟨(I.hok d _ hq).1,ex,ho⟩;obtain ⟨f0,f1,f2,f3,f4,f5⟩:=hf it (by simp);obtain ⟨q,hq2⟩:∃ q,xs[i]? = some q:=⟨_,List.getElem?_eq_getElem (by omega)⟩;refine VG st r (e:=entryOfKey (tupleKind (Ge X.prog X.w)) q) (by rw [entry_at ent,hq2];rfl) fun h' st' sb=>?_
  have I1:Inv X pins σ H { s with heap:=h' }:=I.turned (t':=s.toks) (fun b o hb e=>(sb.2 b hb).trans e) f0 f1 f3 f4 f5;obtain ⟨o2,e,c,dd⟩:=id st';exact ⟨_,rfl,eE (s:={ s with heap:=h' }) e c dd (by decide) ⟨.ref q.2.1,H,I1,rfl,⟨rfl,q.1,q.2.1,q.2.2,hq2,rfl⟩,st',fun b hb=>(hf b hb).1⟩⟩
 done:=by
  intro X hP hw hK hc i pins s σ H E I hf st hg;subst hP hw hK;obtain ⟨hq,hx⟩:=hg;have r:SL s.heap d o es ep:=⟨(I.hok d _ hq).1,ex,ho⟩;obtain ⟨f0,f1,f2,f3,f4,f5⟩:=hf it (by simp);have hz:es.size=xs.length:=size_of_entries ent;exact HK (I.ok.hd hc) st r (by omega) fun h' eb=>⟨rfl,I.turned (t':=s.toks) (fun b o hb e=>eb b o hb e) f0 f1 f3 f4 f5⟩
 self:=fun _ _ _ _ _ st h=>wpAny_pyIter_keyiter st h
section
variable {X:Cx} {tg:Expr}
noncomputable def DR (P:Program) (w:World) (tl:TE):TI:=fun σ H R=>tl σ H fun x H1=>∃ d kvs,x=.ref d∧vn P w H1 d kvs∧∀ o es ep xs,zQ P w H1 d kvs o es ep xs→R (Itk d o kvs xs) H1
theorem DE {l:Expr} {tl:TE} (hl:PE X l tl):PI X tg l (DR X.prog X.w tl):=by
 intro pins s σ H R I h;refine thn (hl pins s σ H _ I h) fun v s1 hZ1=>?_
 obtain ⟨x,H1,I1,r1,q1⟩:=hZ1;obtain ⟨d,kvs,e,⟨o,es,ep,xs,r⟩,q⟩:=q1;subst e;cases r1;refine cH r.ns (Lq I1.hok r) ?_;refine ⟨s1.heap.objs.size,[s1.heap.objs.size],_,_,_,rfl,I1.kept (t':=s1.toks) fun b o e=>Heap.get?_push_of_some _ e,NJ r.ex r.dat r.ent (Tq r.ks),⟨_,Heap.get?_push_size _ rfl,rfl,rfl⟩,fun b hb=>?_,q o es ep xs r⟩;have e:b=s1.heap.objs.size:=by simpa using hb
 subst e;exact I1.fpOk (Nat.le_refl _) (I1.hok.fresh (Nat.le_refl _))
end
end L2
namespace L2
open PySem PySem.Spec PyProof.Rows
noncomputable def DQ (p d:Addr):Heap→Prop:=fun h=>h.IsItemsView p d
theorem DQ.ok {P:Program} {w:World} {H:Hp} {h:Heap} {p d:Addr} (z:DQ p d h):we P w H h p (.ext (DQ p d)):=
 ⟨z,let ⟨o,ho,_⟩:=z;⟨o,ho⟩,fun _ _ z1 k=>let ⟨o,ho,x⟩:=z1;⟨o,k o ho,x⟩⟩
structure qR (H H':Hp) (l:Addr) (as:List Addr) (kvs:List (Key × V)):Prop where
 same:∀ b o,H b=some o→H' b=some o
 fresh:H l=none
 frAll:∀ a ∈ as,H a=none
 at_:H' l=some (.lst (as.map V.ref))
 len:as.length=kvs.length
 al:∀ (j:Nat) (a:Addr) (q:Key × V),as[j]? = some a→kvs[j]? = some q→H' a=some (.tup [kV q.1,q.2])
 only:∀ b o,H' b=some o→H b=some o∨o=.lst (as.map V.ref)∨∃ q ∈ kvs,o=.tup [kV q.1,q.2]
section
variable {X:Cx}
end
end L2
namespace L2
open PySem PySem.Spec PyProof.Rows
section
open AutoSeq1 (wpAny_loadPart')
open MeetsSeq MeetsSeq2 MeetsSeq3 SeqRoads2
variable {P:Program} {w:World} {l b:Addr} {xs ys:Array Value} {n m:Nat} {dd de:Option Addr} {sl sm:Array (Option Value)}
end
section
variable {X:Cx} {pins:List (Addr × Obj)} {σ:St} {H:Hp} {s:Shared}
structure DL (H:Hp) (p:Addr) (ps:List Addr) (ks:List (List (Key × V))):Prop where
 at_:H p=some (.lst (ps.map V.ref))
 len:ps.length=ks.length
 al:∀ (j:Nat) (a:Addr) (kvs:List (Key × V)),ps[j]? = some a→ks[j]? = some kvs→H a=some (.dK kvs)
end
section
variable {X:Cx}
end
end L2
namespace L2
open PySem PySem.Spec PyProof.Rows
section
variable {X:Cx} {pins:List (Addr × Obj)} {σ:St} {H:Hp} {s:Shared} {d:Addr} {o:Obj} {kvs:List (Key × V)}
end
section
variable {X:Cx} {tg:Expr}
end
end L2
namespace L2
open PySem PySem.Spec PyProof.Rows
structure AQ (X:Cx) (pins:List (Addr × Obj)) (H:Hp) (S:Addr):Prop where
 nn:H S=none
 nl:S ≠ X.env.locals
 ge:X.s₀.heap.objs.size ≤ S
 nc:∀ x c,X.env.cells.lookup x=some c→c ≠ S
 np:∀ p ∈ X.pn ++ pins,p.1 ≠ S
 nf:S ∉ X.fs
theorem AQ.of {X:Cx} {pins:List (Addr × Obj)} {σ:St} {H:Hp} {s:Shared} {S:Addr} (I:Inv X pins σ H s) (h:s.heap.objs.size ≤ S):AQ X pins H S:=
 ⟨I.hok.fresh h,fun z=>absurd (Nat.lt_of_lt_of_le I.lt h) (by rw [z];exact Nat.lt_irrefl _),Nat.le_trans I.sz h,fun x c e z=>by
  obtain ⟨v,o,ho,_⟩:=I.cell x c e;exact absurd (Nat.lt_of_lt_of_le (Heap.lt_size ho) h) (by rw [z];exact Nat.lt_irrefl _),fun p hp z=>by
  have ho:=(I.pin p hp).1;exact absurd (Nat.lt_of_lt_of_le (Heap.lt_size ho) h) (by rw [z];exact Nat.lt_irrefl _),I.nofs h⟩
theorem AQ.turn {X:Cx} {pins:List (Addr × Obj)} {σ:St} {H:Hp} {s:Shared} {S:Addr} {h':Heap} {t':Nat} (o:AQ X pins H S) (I:Inv X pins σ H s) (k:∀ b o,b ≠ S→s.heap.get? b=some o→h'.get? b=some o):Inv X pins σ H { s with heap:=h',toks:=t' }:=
 I.turned k o.nn o.nl (.inr o.ge) o.nc o.np
section
variable {X:Cx} {A:Around} {pins:List (Addr × Obj)} {σ:St} {H:Hp} {l q I S:Addr} {n:Nat} {P:Nat→Value→Prop} {R:Result→Shared→Prop}
end
end L2
namespace L2
open PySem PySem.Spec PyProof.Rows
structure vS (p y z:Str) (sc:Scope):Prop where
 kind:sc.kind=.function
 co:sc.isCoroutine=false
 gen:sc.isGenerator=false
 ne:y ≠ z
 par:sc.names.lookup p=some .local
 yf:sc.names.lookup y=some .free
 zf:sc.names.lookup z=some .free
 nocell:∀ z ∈ sc.names,z.2 ≠ .cell
 two:∀ b ∈ sc.names,b.2=.free→b.1=y∨b.1=z
section
variable {X:Cx} {A:Around} {pins:List (Addr × Obj)} {σ:St} {H:Hp} {s:Shared} {k:Nat} {f c' c1 c2:Addr} {q p y z:Str} {params:Arguments} {body:Expr} {scope:Scope} {v1 v2:V} {t:TE}
end
end L2
namespace L2
open PySem PySem.Spec PyProof.Rows
theorem SqL.p {K:PySem.W.Frag} {H H':Hp} {a Pt:Addr} {xs:List V} {pos:Pos} {q:Str} (s:Jx Pt H H') (t:Tab H Pt pos q) (h:SqL K H a xs):SqL K H' a xs:=by
 rcases h with (h | ⟨o,h⟩) | h
 ·exact .inl (.inl (s _ _ (t.ne h (fun _ z=>by cases z)) h))
 ·exact .inl (.inr ⟨o,s _ _ (t.ne h (fun _ z=>by cases z)) h⟩)
 ·exact .inr h
end L2
namespace L2
open PySem PySem.Spec PyProof.Rows
end L2
namespace L2
open PySem PySem.Spec PyProof.Rows
end L2
namespace L2
open PySem PySem.Spec PyProof.Rows
end L2
namespace L2
open PySem PySem.Spec PyProof.Rows
end L2
namespace L2
open PySem PySem.Spec PyProof.Rows
theorem pF (i:Nat) (σ:St) (H:Hp) (Q:VK):uR i σ H Q=(aM H Q σ[i]?):=rfl
theorem rP (v:V) (x_0:St) (H:Hp) (Q:VK):tC v x_0 H Q=(Q v H):=rfl
theorem QP (t:TE) (σ:St) (H:Hp) (Q:(Bool→Hp→Prop)):tB t σ H Q=(t σ H fun x H1=>BlQ x fun c=>Q c H1):=rfl
theorem GG (t u:TT) (σ:St) (H:Hp) (Q:(Bool→Hp→Prop)):SR t u σ H Q=(t σ H fun c H1=>if c=true then u σ H1 Q else Q false H1):=rfl
theorem PK (t u:TT) (σ:St) (H:Hp) (Q:(Bool→Hp→Prop)):tOr t u σ H Q=(t σ H fun c H1=>if c=true then Q true H1 else u σ H1 Q):=rfl
theorem OF (t:TT) (σ:St) (H:Hp) (Q:(Bool→Hp→Prop)):HR t σ H Q=(t σ H fun c H1=>Q (!c) H1):=rfl
theorem fC (ta tb:TE) (σ:St) (H:Hp) (Q:VK):wP ta tb σ H Q=(ta σ H fun x H1=>BlQ x fun c=>if c=true then tb σ H1 Q else Q (.bl false) H1):=rfl
theorem EG (ta tb:TE) (σ:St) (H:Hp) (Q:VK):KR ta tb σ H Q=(ta σ H fun x H1=>BlQ x fun c=>if c=true then Q (.bl true) H1 else tb σ H1 Q):=rfl
theorem PL (t:TT) (ta tb:TE) (σ:St) (H:Hp) (Q:VK):tIf t ta tb σ H Q=(t σ H fun c H1=>if c=true then ta σ H1 Q else tb σ H1 Q):=rfl
theorem se (D:qk) (σ:St) (H:Hp):rQ  D σ H=(D.nx σ H):=rfl
theorem Db (t u:TS) (D:qk) (σ:St) (H:Hp):bS t u D σ H=(t { D with nx:=u D } σ H):=rfl
theorem BB (te:TE) (D:qk) (σ:St) (H:Hp):WO te D σ H=(te σ H fun _ H1=>D.nx σ H1):=rfl
theorem kG (te:TE) (D:qk) (σ:St) (H:Hp):NQ te D σ H=(te σ H D.rt):=rfl
theorem Px (x_0:qk) (x_1:St) (x_2:Hp):YK  x_0 x_1 x_2=(False):=rfl
theorem oh (i:Nat) (v:V) (σ:St) (H:Hp) (Q:(St→Hp→Prop)):Et i v σ H Q=(Q (σ.set i (some v)) H):=rfl
theorem eF (vs:List V) (σ:St) (H:Hp) (Q:(St→Hp→Prop)):BQ  vs σ H Q=(vs=[]∧Q σ H):=rfl
theorem BC (t:TG) (u:TGs) (vs:List V) (σ:St) (H:Hp) (Q:(St→Hp→Prop)):YC t u vs σ H Q=(∃ v r,vs=v :: r∧t v σ H fun σ' H'=>u r σ' H' Q):=rfl
theorem jG (K:PySem.W.Frag) (n:Nat) (t:TGs) (v:V) (σ:St) (H:Hp) (Q:(St→Hp→Prop)):tO K n t v σ H Q=(∃ a xs,v=.ref a∧SqT K H a xs∧xs.length=n∧t xs σ H Q):=rfl
theorem iI (to ti:TE) (t:yQ) (v:V) (σ:St) (H:Hp) (Q:(St→Hp→Prop)):AR to ti t v σ H Q=(to σ H fun o H1=>ti σ H1 fun i H2=>t o i v H2 fun H3=>Q σ H3):=rfl
theorem IH (te:TE) (g:TG) (D:qk) (σ:St) (H:Hp):UN te g D σ H=(te σ H fun x H1=>g x σ H1 D.nx):=rfl
theorem LF (i:Nat) (te:TE) (ti:TIp) (D:qk) (σ:St) (H:Hp):yR i te ti D σ H=(∃ x,σ[i]? = some (some x)∧te σ H fun y H1=>ti x y H1 fun z H2=>D.nx (σ.set i (some z)) H2):=rfl
theorem aC (K:PySem.W.Frag) (tl:TE) (σ:St) (H:Hp) (R:(It→Hp→Prop)):uP K tl σ H R=(tl σ H fun x H1=>di x fun a=>(∃ xs,SqL K H1 a xs)∧R (Itl K a) H1):=rfl
theorem pI (K:PySem.W.Frag) (tl:TE) (σ:St) (H:Hp) (R:(It→Hp→Prop)):TR K tl σ H R=(tl σ H fun x H1=>di x fun a=>(∃ xs,SqT K H1 a xs)∧R (Itt K a) H1):=rfl
theorem ZK (r:R2) (ta tb:TE) (σ:St) (H:Hp) (Q:VK):tOp r ta tb σ H Q=(ta σ H fun x H1=>tb σ H1 fun y H2=>r x y H2 Q):=rfl
theorem IK (r:V→Hp→VK→Prop) (ta:TE) (σ:St) (H:Hp) (Q:VK):tUn r ta σ H Q=(ta σ H fun x H1=>r x H1 Q):=rfl
theorem ZO (C:Int→Int→Prop) (g:Int→Int→V) (x:V) (y:V) (H:Hp) (Q:VK):rI C g x y H Q=(uk x fun i=>uk y fun j=>C i j∧Q (g i j) H):=rfl
theorem fM (g:Int→Int→V) (x:V) (y:V) (H:Hp) (Q:VK):rI0 g x y H Q=(uk x fun i=>uk y fun j=>Q (g i j) H):=rfl
theorem bO (g:Int→V) (x:V) (H:Hp) (Q:VK):rU g x H Q=(uk x fun i=>Q (g i) H):=rfl
theorem zL (x:V) (y:V) (H:Hp) (Q:VK):rEq  x y H Q=(eO x y=true∧Q (.bl (decide (x=y))) H):=rfl
theorem dL (x:V) (y:V) (H:Hp) (Q:VK):rNe  x y H Q=(eO x y=true∧Q (.bl (!decide (x=y))) H):=rfl
theorem kB (t:TE) (σ:St) (H:Hp) (Q:(Bool→Hp→Prop)):wO t σ H Q=(t σ H fun x H'=>BlQ x fun k=>Q k H'):=rfl
theorem hG (K:PySem.W.Frag) (ta:TE) (f:Str) (σ:St) (H:Hp) (Q:VK):jS K ta f σ H Q=(ta σ H fun x H1=>di x fun a=>∃ v,yi K H1 a f v∧Q v H1):=rfl
theorem wG (K:PySem.W.Frag) (ta tv:TE) (f:Str) (D:qk) (σ:St) (H:Hp):wR K ta tv f D σ H=(tv σ H fun y H1=>ta σ H1 fun x H2=>di x fun a=>∃ C dx fs,H2 a=some (.ins C dx fs)∧Cls K C∧Yb K C f∧fs.length < 1000 ∧
 D.nx σ (upd H2 a (.ins C dx (Rh f y fs)))):=rfl
theorem Yu (K:PySem.W.Frag) (ta tv:TE) (rd:V→V→Hp→VK→Prop) (f:Str) (D:qk) (σ:St) (H:Hp):SG K ta tv rd f D σ H=(ta σ H fun x H1=>∃ a C dx fs v,x=.ref a∧H1 a=some (.ins C dx fs)∧Cls K C∧Yb K C f∧fs.lookup f=some v ∧
 tv σ H1 fun y H2=>rd v y H2 fun z H3=>∃ dx' fs',H3 a=some (.ins C dx' fs')∧fs'.length < 1000∧D.nx σ (upd H3 a (.ins C dx' (Rh f z fs')))):=rfl
theorem zE (x:V) (y:V) (H:Hp) (Q:VK):cS  x y H Q=(∃ i j,x=.int i∧y=.int j∧Q (.int (i + j)) H):=rfl
theorem MF (x_0:St) (H:Hp) (Q:(List V→Hp→Prop)):vQ  x_0 H Q=(Q [] H):=rfl
theorem CB (ta:TE) (tr:TA) (σ:St) (H:Hp) (Q:(List V→Hp→Prop)):LP ta tr σ H Q=(ta σ H fun x H1=>tr σ H1 fun xs H2=>Q (x :: xs) H2):=rfl
theorem MH (t:TA) (σ:St) (H:Hp) (Q:VK):PR t σ H Q=(t σ H fun xs H1=>xs.length ≤ sizeLine∧∀ p,H1 p=none→Q (.ref p) (upd H1 p (.tup xs))):=rfl
theorem mH (t:TA) (σ:St) (H:Hp) (Q:VK):ZR t σ H Q=(t σ H fun xs H1=>xs.length ≤ sizeLine∧∀ p,H1 p=none→Q (.ref p) (upd H1 p (.lst xs))):=rfl
theorem oC (sp:Sp) (dvs:List V) (E:XK) (t:TA) (σ:St) (H:Hp) (Q:VK):UI sp dvs E t σ H Q=(t σ H fun vs H1=>sp (vs ++ dvs) H1 Q E):=rfl
theorem lB (C:Addr) (m:Str) (sp:Sp) (dvs:List V) (E:XK) (ta:TE) (t:TA) (σ:St) (H:Hp) (Q:VK):wN C m sp dvs E ta t σ H Q=(ta σ H fun x H1=>di x fun a=>∃ dx fs,H1 a=some (.ins C dx fs)∧fs.lookup m=none ∧
 t σ H1 fun vs H2=>sp (x :: (vs ++ dvs)) H2 Q E):=rfl
theorem jB (C:Addr) (sp:Sp) (dvs:List V) (E:XK) (t:TA) (σ:St) (H:Hp) (Q:VK):BO C sp dvs E t σ H Q=(t σ H fun vs H1=>∀ x dx,H1 x=none→H1 dx=none→dx ≠ x →
 sp (.ref x :: (vs ++ dvs)) (upd (upd H1 dx (.own x)) x (.ins C dx [])) (fun v H2=>v=.non∧Q (.ref x) H2) E):=rfl
theorem AL (r:List V→Hp→VK→Prop) (t:TA) (σ:St) (H:Hp) (Q:VK):tCB r t σ H Q=(t σ H fun vs H1=>r vs H1 Q):=rfl
theorem iu (x_0:St) (H:Hp) (Q:(Option Int→Hp→Prop)):BE  x_0 H Q=(Q none H):=rfl
theorem WB (t:TE) (σ:St) (H:Hp) (Q:(Option Int→Hp→Prop)):PP t σ H Q=(t σ H fun x H1=>uk x fun i=>Q (some i) H1):=rfl
theorem kL (r:V→Option Int→Option Int→Hp→VK→Prop) (te:TE) (tl th:TO) (σ:St) (H:Hp) (Q:VK):tSl r te tl th σ H Q=(te σ H fun x H1=>tl σ H1 fun l H2=>th σ H2 fun u H3=>r x l u H3 Q):=rfl
theorem zF (K:PySem.W.Frag) (x:V) (lo:Option Int) (hi:Option Int) (H:Hp) (Q:VK):UR K x lo hi H Q=(∃ a xs,x=.ref a∧SqT K H a xs ∧
 ¬ (HT.sIx xs.length 0 lo=0∧HT.sIx xs.length xs.length hi=xs.length)∧∀ p,H p=none→Q (.ref p) (upd H p (.tup (YF xs lo hi)))):=rfl
theorem eC (K:PySem.W.Frag) (x:V) (y:V) (H:Hp) (Q:VK):zP K x y H Q=(∃ a b xs ys,x=.ref a∧y=.ref b∧SqT K H a xs∧SqT K H b ys∧xs ≠ []∧xs.length + ys.length ≤ sizeLine ∧
 (ys=[]→Q (.ref a) H)∧(ys ≠ []→∀ p,H p=none→Q (.ref p) (upd H p (.tup (xs ++ ys))))):=rfl
theorem uE (K:PySem.W.Frag) (x:V) (y:V) (H:Hp) (Q:VK):lS K x y H Q=(di x fun p=>∃ xs,uk y fun i=>SqL K H p xs∧∃ v,atI xs i=some v∧Q v H):=rfl
theorem zI (K:PySem.W.Frag) (x:V) (y:V) (H:Hp) (Q:VK):dS K x y H Q=(di x fun p=>∃ xs,uk y fun i=>SqT K H p xs∧∃ v,atI xs i=some v∧Q v H):=rfl
theorem DI (x:V) (y:V) (H:Hp) (Q:VK):aS  x y H Q=(∃ z i c,x=.str z∧y=.int i∧z.length ≤ sizeLine∧atI z.cps.toList i=some c∧Q (.str ⟨#[c]⟩) H):=rfl
theorem JA (o:V) (i:V) (v:V) (H:Hp) (Q:(Hp→Prop)):nP  o i v H Q=(di o fun p=>∃ xs,uk i fun k=>H p=some (.lst xs)∧∃ j,ixN xs.length k=some j∧Q (upd H p (.lst (xs.set j v)))):=rfl
theorem bF (K:PySem.W.Frag) (x:V) (lo:Option Int) (hi:Option Int) (H:Hp) (Q:VK):kS K x lo hi H Q=(∃ a xs,x=.ref a∧SqL K H a xs∧∀ p,H p=none→Q (.ref p) (upd H p (.lst (YF xs lo hi)))):=rfl
theorem RL (K:PySem.W.Frag) (neg:Bool) (x:V) (y:V) (H:Hp) (Q:VK):rIn K neg x y H Q=(∃ p xs,y=.ref p∧(SqL K H p xs∨SqT K H p xs)∧Um x=true∧xs.all Um=true∧Q (.bl (if neg then !inV x xs else inV x xs)) H):=rfl
theorem JF (K:PySem.W.Frag) (T:String) (r:V→List V→Hp→VK→Prop) (to:TE) (σ:St) (H:Hp) (Q:VK):ER K T r to σ H Q=(to σ H fun x H1=>tyV K T x H1∧r x [] H1 Q):=rfl
theorem cM (K:PySem.W.Frag) (T:String) (r:V→List V→Hp→VK→Prop) (to:TE) (t:TA) (σ:St) (H:Hp) (Q:VK):tBM K T r to t σ H Q=(to σ H fun x H1=>tyV K T x H1∧t σ H1 fun xs H2=>r x xs H2 Q):=rfl
theorem lu (x:V) (vs:List V) (H:Hp) (Q:VK):xH  x vs H Q=(di x fun l=>KD vs fun y=>∃ xs,H l=some (.lst xs)∧xs.length < sizeLine∧Q .non (upd H l (.lst (xs ++ [y])))):=rfl
theorem Ou (x:V) (vs:List V) (H:Hp) (Q:VK):vE  x vs H Q=(∃ l b xs zs,x=.ref l∧vs=[.ref b]∧H l=some (.lst xs)∧H b=some (.lst zs)∧xs.length + zs.length ≤ sizeLine∧Q .non (upd H l (.lst (xs ++ zs)))):=rfl
theorem Bs (x:V) (vs:List V) (H:Hp) (Q:VK):uA  x vs H Q=(∃ l xs,x=.ref l∧vs=[]∧H l=some (.lst xs)∧Q .non (upd H l (.lst xs.reverse))):=rfl
theorem jF (x:V) (y:V) (H:Hp) (Q:VK):XR  x y H Q=(∃ l b xs zs,x=.ref l∧y=.ref b∧H l=some (.lst xs)∧H b=some (.lst zs)∧xs.length + zs.length ≤ sizeLine∧∀ p,H p=none→Q (.ref p) (upd H p (.lst (xs ++ zs)))):=rfl
theorem rB (td ty:TE) (σ:St) (H:Hp) (Q:VK):HP td ty σ H Q=(td σ H fun x H1=>ty σ H1 fun y H2=>di x fun a=>∃ v,jw H2 a y (some v)∧Q v H2):=rfl
theorem Uu (ty td:TE) (σ:St) (H:Hp) (Q:VK):BH ty td σ H Q=(ty σ H fun y H1=>td σ H1 fun x H2=>di x fun a=>∃ o,jw H2 a y o∧Q (.bl (!o.isSome)) H2):=rfl
theorem EB (td ty tv:TE) (D:qk) (σ:St) (H:Hp):iP td ty tv D σ H=(tv σ H fun v H1=>td σ H1 fun x H2=>ty σ H2 fun y H3=>di x fun a=>∃ H4,sE H3 a y v H4∧D.nx σ H4):=rfl
theorem Ey (x_0:St) (H:Hp) (Q:VK):MK  x_0 H Q=(∀ p,H p=none→Q (.ref p) (upd H p (.dK []))):=rfl
theorem Tx (x_0:St) (H:Hp) (Q:VK):ZL  x_0 H Q=(∀ p,H p=none→Q (.ref p) (upd H p (.dT []))):=rfl
theorem fB (x_0:St) (H:Hp) (Q:(Bool→Hp→Prop)):zy  x_0 H Q=(Q true H):=rfl
theorem WH (tl:TE) (σ:St) (H:Hp) (R:(It→Hp→Prop)):LR tl σ H R=(tl σ H fun x H1=>∃ z,x=.str z∧R (Its (Xj z)) H1):=rfl
theorem JE (x:V) (lo:Option Int) (hi:Option Int) (H:Hp) (Q:VK):NR  x lo hi H Q=(∃ z,x=.str z∧z.length ≤ sizeLine∧Q (.str (Txt.slice z lo hi)) H):=rfl
theorem yC (K:PySem.W.Frag) (x:V) (vs:List V) (H:Hp) (Q:VK):jO K x vs H Q=(∃ sep p ys,x=.str sep∧vs=[.ref p]∧SqL K H p (Qb ys)∧(ys.map (·.length)).sum + ys.length * sep.length ≤ 16777216∧Q (.str (Txt.join sep ys)) H):=rfl
theorem Kw (x:V) (vs:List V) (H:Hp) (Q:VK):WK  x vs H Q=(∃ z y,x=.str z∧vs=[.str y]∧y.length ≠ 0∧z.length + 2 ≤ sizeLine∧(Txt.split z y).length ≤ sizeLine∧∀ p,H p=none→Q (.ref p) (upd H p (.lst (Qb (Txt.split z y))))):=rfl
theorem jx (OK:Addr→Prop) (m:Str) (SPV:Addr→Sp) (E:XK) (ta:TE) (t:TA) (σ:St) (H:Hp) (Q:VK):TL OK m SPV E ta t σ H Q=(ta σ H fun x H1=>∃ a C dx fs,x=.ref a∧H1 a=some (.ins C dx fs)∧OK C∧fs.lookup m=none ∧
 t σ H1 fun vs H2=>SPV C (x :: vs) H2 Q E):=rfl
theorem GA (K:PySem.W.Frag) (ta:TA) (σ:St) (H:Hp) (R:(It→Hp→Prop)):tQ K ta σ H R=(ta σ H fun vs H1=>∃ a,vs=[.ref a]∧(∃ xs,SqL K H1 a xs)∧R (Ite K a) H1):=rfl
theorem ZF (K:PySem.W.Frag) (ta:TA) (σ:St) (H:Hp) (R:(It→Hp→Prop)):fS K ta σ H R=(ta σ H fun vs H1=>∃ a b,vs=[.ref a,.ref b]∧(∃ xs,SqL K H1 a xs)∧(∃ ys,SqL K H1 b ys)∧R (Itz K a b) H1):=rfl
theorem FB (ta:TA) (σ:St) (H:Hp) (R:(It→Hp→Prop)):KP ta σ H R=(ta σ H fun vs H1=>∃ i j:Int,vs=[.int i,.int j,.int (-1)]∧(-1073741824 ≤ i∧i < 1073741824∧-1073741824 ≤ j∧j < 1073741824)∧R (Itd i (i - j).toNat) H1):=rfl
theorem yr (K:PySem.W.Frag) (ta:TA) (σ:St) (H:Hp) (Q:VK):gC K ta σ H Q=(ta σ H fun vs H1=>∃ a xs,vs=[.ref a]∧SqL K H1 a xs∧∀ l,H1 l=none→Q (.ref l) (upd H1 l (.lst xs.reverse))):=rfl
theorem iB (K:PySem.W.Frag) (ta:TA) (td:TE) (σ:St) (H:Hp) (Q:VK):xO K ta td σ H Q=(ta σ H fun vs H1=>td σ H1 fun y H2=>∃ l ks,vs=[.ref l]∧SqL K H2 l (List.map V.int ks)∧Q (match ks.min? with | some m=>.int m | none=>y) H2):=rfl
theorem Wu (K:PySem.W.Frag) (x:V) (vs:List V) (H:Hp) (Q:VK):uG K x vs H Q=(∃ l ks k,x=.ref l∧vs=[.int k]∧SqL K H l (List.map V.int ks)∧k ∈ ks∧ks.length ≤ 1000∧Q (.int (ks.idxOf k:Nat)) H):=rfl
theorem SB (x:V) (vs:List V) (H:Hp) (Q:VK):Hx  x vs H Q=(∃ d kvs,x=.ref d∧vs=[]∧H d=some (.dK kvs)∧∀ p,H p=none→Q (.ref p) (upd H p (.ext (CP p d)))):=rfl
theorem AA (P:Program) (w:World) (td ty:TE) (σ:St) (H:Hp) (Q:VK):MO P w td ty σ H Q=(td σ H fun x H1=>ty σ H1 fun y H2=>∃ a b kvs k v,x=.ref a∧y=.ref b∧vn P w H2 a kvs∧H2 b=some (.tup (k.map kV))∧Ol kvs k=some v∧Q v H2):=rfl
theorem QF (P:Program) (w:World) (ty td:TE) (σ:St) (H:Hp) (Q:VK):zR P w ty td σ H Q=(ty σ H fun y H1=>td σ H1 fun x H2=>∃ a b kvs k,x=.ref a∧y=.ref b∧vn P w H2 a kvs∧H2 b=some (.tup (k.map kV))∧Q (.bl (Ol kvs k).isSome) H2):=rfl
theorem CA (P:Program) (w:World) (td ty tv:TE) (D:qk) (σ:St) (H:Hp):ZN P w td ty tv D σ H=(tv σ H fun v H1=>td σ H1 fun x H2=>ty σ H2 fun y H3=>∃ a b kvs k,x=.ref a∧y=.ref b∧vn P w H3 a kvs∧H3 b=some (.tup (k.map kV))∧kvs.length < sizeLine∧∀ o,vn P w (upd H3 a (.ext (AtO a o))) a (xq kvs k v)→D.nx σ (upd H3 a (.ext (AtO a o)))):=rfl
theorem KA (P:Program) (w:World) (x_0:St) (H:Hp) (Q:VK):mQ P w x_0 H Q=(∀ p o,H p=none→vn P w (upd H p (.ext (AtO p o))) p []→Q (.ref p) (upd H p (.ext (AtO p o)))):=rfl
theorem RF (P:Program) (w:World) (tl:TE) (σ:St) (H:Hp) (R:(It→Hp→Prop)):DR P w tl σ H R=(tl σ H fun x H1=>∃ d kvs,x=.ref d∧vn P w H1 d kvs∧∀ o es ep xs,zQ P w H1 d kvs o es ep xs→R (Itk d o kvs xs) H1):=rfl
def rh (J:It) (g:TG) (tb:TS) (D:qk) (σ:St) (H:Hp):Prop:=∃ W:Nat→Nat→St→Hp→Prop,(∃ m,W 0 m σ H)∧∀ i m σ H,W i m σ H →
 (J.stop i H∧D.nx σ H)∨(J.go i H∧∃ N:St→Hp→Prop,(∀ σ' H',N σ' H'→∃ m',m' < m∧W (i + 1) m' σ' H')∧∀ x H',J.yld i H x H'→g x σ H' fun σ2 H2=>tb { D with nx:=N,ct:=N,bk:=D.nx } σ2 H2)
theorem uI (wi:TI) (g:TG) (tb:TS) (D:qk) (σ:St) (H:Hp):VR wi g tb D σ H=wi σ H fun J H1=>rh J g tb D σ H1:=rfl
def Fc (J:It) (g:TG) (tc:TT) (te:TE) (σb:St) (Q:VK) (H:Hp):Prop:=∃ W:Nat→Nat→List V→Hp→Prop,(∃ m,W 0 m [] H)∧Tz J g tc te σb Q W
theorem vC (wi:TI) (g:TG) (tc:TT) (te:TE) (sel:List (Option Nat)) (σ:St) (H:Hp) (Q:VK):mM wi g tc te sel σ H Q=wi σ H fun J H1=>Fc J g tc te (blk sel σ) Q H1:=rfl
theorem zA (ta:TA) (σ:St) (H:Hp) (R:It→Hp→Prop):cO ta σ H R=(ta σ H fun vs H1=>KD vs fun x=>uk x fun j=>-4611686018427387904 ≤ j∧j < 4611686018427387904∧R (Itr 0 j.toNat) H1):=rfl
theorem kC (ta:TA) (σ:St) (H:Hp) (R:It→Hp→Prop):XN ta σ H R=(ta σ H fun vs H1=>∃ i j:Int,vs=[.int i,.int j]∧(-4611686018427387904 ≤ i∧i < 4611686018427387904∧-4611686018427387904 ≤ j∧j < 4611686018427387904)∧R (Itr i (j - i).toNat) H1):=rfl
theorem tR {α β:Type} (f:α→β):[].map f=[]:=rfl
theorem dR {α β:Type} (f:α→β) (a:α) (l:List α):(a :: l).map f=f a :: l.map f:=rfl
theorem CQ {α:Type} (l:List α):[] ++ l=l:=rfl
theorem mR {α:Type} (a:α) (l r:List α):(a :: l) ++ r=a :: (l ++ r):=rfl
theorem pR {α:Type} (a b:α) (l:List α):(a :: l).set 0 b=b :: l:=rfl
theorem FQ {α:Type} (a b:α) (l:List α) (n:Nat):(a :: l).set (n + 1) b=a :: l.set n b:=rfl
theorem rR {α:Type} (a:α) (l:List α):(a :: l)[0]? = some a:=rfl
theorem gR {α:Type} (a:α) (l:List α) (n:Nat):(a :: l)[n + 1]? = l[n]?:=rfl
theorem jR {α:Type}:([]:List α).length=0:=rfl
theorem YQ {α:Type} (a:α) (l:List α):(a :: l).length=l.length + 1:=rfl
theorem dBn {α β:Type} (f:α→Option β):(none:Option α).bind f=none:=rfl
theorem dBs {α β:Type} (f:α→Option β) (a:α):(some a).bind f=f a:=rfl
theorem dJs {α:Type} (a:Option α):(some a).join=a:=rfl
theorem dJn {α:Type}:(none:Option (Option α)).join=none:=rfl
theorem rG (sel:List (Option Nat)) (σ:St):blk sel σ=sel.map fun o=>o.bind fun j=>(σ[j]?).join:=rfl
theorem ac {c:TT} {t u:TS} {D:qk} {σ:St} {H:Hp} (b:Bool) (hc:∀ Q:Bool→Hp→Prop,Q b H→c σ H Q) (h1:b=true→t D σ H) (h2:b=false→u D σ H):eR c t u D σ H:=by
 refine hc _ ?_;cases b with
 | true=>exact h1 rfl
 | false=>exact h2 rfl
theorem wo {c:TT} {t u:TS} {D:qk} {σ:St} {H:Hp} (R:Bool→Hp→Prop) (hc:∀ Q:Bool→Hp→Prop,(∀ b H',R b H'→Q b H')→c σ H Q) (h1:∀ H',R true H'→t D σ H') (h2:∀ H',R false H'→u D σ H'):eR c t u D σ H:=by
 refine hc _ fun b H' r=>?_
 cases b with
 | true=>exact h1 H' r
 | false=>exact h2 H' r
theorem rc {t:TS} {D:qk} {σ:St} {H:Hp} (R:St→Hp→Prop) (h:∀ D':qk,(∀ σ H,R σ H→D'.nx σ H)→D'.rt=D.rt→D'.bk=D.bk→D'.ct=D.ct→t D' σ H) (hR:∀ σ H,R σ H→D.nx σ H):t D σ H:=h D hR rfl rfl rfl
theorem zzC {t:TS} {D:qk} {σ:St} {H:Hp} (R:St->Hp->Prop) (h:∀ D':qk,(∀ σ H,R σ H->D'.nx σ H)->t D' σ H) (hR:∀ M,M=D.nx->∀ σ H,R σ H->M σ H):t D σ H:=h D (hR _ rfl)
theorem zzP {p:Prop} (h:∀ q,q=p->q):p:=h p rfl
theorem zzD {t:TS} {D:qk} {σ:St} {H:Hp} (R:St->Hp->Prop) (h:∀ D':qk,(∀ σ H,R σ H->D'.nx σ H)->t D' σ H) (hR:∀ σ H,R σ H->D.nx σ H):t D σ H:=h D hR
theorem zzS {t u:TS} {D:qk} {σ:St} {H:Hp} (R:St->Hp->Prop) (h:∀ D':qk,(∀ σ H,R σ H->D'.nx σ H)->t D' σ H) (hR:∀ M,M=u D->∀ σ H,R σ H->M σ H):bS t u D σ H:=h { D with nx:=u D } (hR _ rfl)
theorem AM {te:TE} {g:TG} {D:qk} {σ:St} {H:Hp} (v:V) (hc:∀ Q:VK,Q v H→te σ H Q) (h:g v σ H D.nx):UN te g D σ H:=hc _ h
theorem VM {te:TE} {D:qk} {σ:St} {H:Hp} (v:V) (hc:∀ Q:VK,Q v H→te σ H Q) (h:D.rt v H):NQ te D σ H:=hc _ h
theorem wz (x y:Str):(x ++ y).length=x.length + y.length:=by
 show (x.cps ++ y.cps).size=_;rw [Array.size_append];rfl
theorem rh.range {lo:Int} {n:Nat} {g:TG} {tb:TS} {D:qk} {σ:St} {H:Hp} (Pv:Nat→St→Hp→Prop) (h0:Pv 0 σ H)
  (hs:∀ i σ H,i < n→Pv i σ H→g (.int (lo + i)) σ H fun σ2 H2=>tb { D with nx:=Pv (i + 1),ct:=Pv (i + 1),bk:=D.nx } σ2 H2) (hd:∀ σ H,Pv n σ H→D.nx σ H):rh (Itr lo n) g tb D σ H:=yE Pv h0 hs hd
theorem rh.list {K:PySem.W.Frag} {a:Addr} {xs:List V} {g:TG} {tb:TS} {D:qk} {σ:St} {H:Hp} (Pv:Nat→St→Hp→Prop) (h0:Pv 0 σ H) (hl:∀ i σ H,i ≤ xs.length→Pv i σ H→SqL K H a xs)
  (hs:∀ i x σ H,xs[i]? = some x→Pv i σ H→g x σ H fun σ2 H2=>tb { D with nx:=Pv (i + 1),ct:=Pv (i + 1),bk:=D.nx } σ2 H2) (hd:∀ σ H,Pv xs.length σ H→D.nx σ H):rh (Itl K a) g tb D σ H:=hJ Pv h0 hl hs hd
theorem rh.its {xs:List V} {g:TG} {tb:TS} {D:qk} {σ:St} {H:Hp} (Pv:Nat→St→Hp→Prop) (h0:Pv 0 σ H)
  (hs:∀ i x σ H,xs[i]? = some x→Pv i σ H→g x σ H fun σ2 H2=>tb { D with nx:=Pv (i + 1),ct:=Pv (i + 1),bk:=D.nx } σ2 H2) (hd:∀ σ H,Pv xs.length σ H→D.nx σ H):rh (Its xs) g tb D σ H:=wM Pv h0 hs hd
theorem Fc.list {K:PySem.W.Frag} {a:Addr} {xs:List V} {g:TG} {tc:TT} {te:TE} {σb:St} {Q:VK} {H:Hp} (Pv:Nat→List V→Hp→Prop) (hz:xs.length ≤ sizeLine) (h0:Pv 0 [] H) (hl:∀ i ys H,i ≤ xs.length→Pv i ys H→SqL K H a xs∧ys.length ≤ i)
  (hs:∀ i x ys H,xs[i]? = some x→Pv i ys H→Eg Pv g tc te σb i x ys H) (hd:∀ ys H,Pv xs.length ys H→∀ p,H p=none→Q (.ref p) (upd H p (.lst ys))):Fc (Itl K a) g tc te σb Q H:=sF Pv hz h0 hl hs hd
theorem Fc.its {xs:List V} {g:TG} {tc:TT} {te:TE} {σb:St} {Q:VK} {H:Hp} (Pv:Nat→List V→Hp→Prop) (hz:xs.length ≤ sizeLine) (h0:Pv 0 [] H) (hl:∀ i ys H,i ≤ xs.length→Pv i ys H→ys.length ≤ i)
  (hs:∀ i x ys H,xs[i]? = some x→Pv i ys H→Eg Pv g tc te σb i x ys H) (hd:∀ ys H,Pv xs.length ys H→∀ p,H p=none→Q (.ref p) (upd H p (.lst ys))):Fc (Its xs) g tc te σb Q H:=GJ Pv hz h0 hl hs hd
theorem Fc.range {lo:Int} {n:Nat} {g:TG} {tc:TT} {te:TE} {σb:St} {Q:VK} {H:Hp} (Pv:Nat→List V→Hp→Prop) (hz:n ≤ sizeLine) (h0:Pv 0 [] H) (hl:∀ i ys H,i ≤ n→Pv i ys H→ys.length ≤ i)
  (hs:∀ i ys H,i < n→Pv i ys H→Eg Pv g tc te σb i (.int (lo + i)) ys H) (hd:∀ ys H,Pv n ys H→∀ p,H p=none→Q (.ref p) (upd H p (.lst ys))):Fc (Itr lo n) g tc te σb Q H:=cD Pv hz h0 hl hs hd
theorem Sn {α β:Type} {xs:List α} {i:Nat} {x:α} (f:α→β) (h:xs[i]? = some x):(xs.take (i + 1)).map f=(xs.take i).map f ++ [f x]:=by
 rw [List.take_add_one,h,List.map_append];rfl
theorem Fc.its_map {xs:List V} {g:TG} {te:TE} {σb:St} {Q:VK} {H:Hp} (f:V→V) (hz:xs.length ≤ sizeLine) (hs:∀ (i:Nat) (x:V) (N:V→Hp→Prop),xs[i]? = some x→N (f x) H→g x σb H fun σ2 H2=>Sub σb σ2∧te σ2 H2 N)
  (hd:∀ p,H p=none→Q (.ref p) (upd H p (.lst (xs.map f)))):Fc (Its xs) g zy te σb Q H:=by
 refine Fc.its (fun i ys H'=>H'=H∧ys=(xs.take i).map f) hz ⟨rfl,rfl⟩ (fun i ys H' hi ⟨_,e⟩=>?_) (fun i x ys H' hx ⟨e1,e2⟩ N hN=>?_) (fun ys H' ⟨e1,e2⟩ p hp=>?_)
 ·rw [e,List.length_map,List.length_take];omega
 ·subst e1;exact hs i x (fun y H4=>N (ys ++ [y]) H4) hx (hN _ _ ⟨rfl,by rw [e2,Sn f hx]⟩)
 ·subst e1;rw [e2,List.take_length];exact hd p hp
theorem Fc.list_map {K:PySem.W.Frag} {a:Addr} {xs:List V} {g:TG} {te:TE} {σb:St} {Q:VK} {H:Hp} (f:V→V) (hl:SqL K H a xs) (hz:xs.length ≤ sizeLine) (hs:∀ (i:Nat) (x:V) (N:V→Hp→Prop),xs[i]? = some x→N (f x) H→g x σb H fun σ2 H2=>Sub σb σ2∧te σ2 H2 N)
  (hd:∀ p,H p=none→Q (.ref p) (upd H p (.lst (xs.map f)))):Fc (Itl K a) g zy te σb Q H:=by
 refine Fc.list (fun i ys H'=>H'=H∧ys=(xs.take i).map f) hz ⟨rfl,rfl⟩ (fun i ys H' hi ⟨e0,e⟩=>?_) (fun i x ys H' hx ⟨e1,e2⟩ N hN=>?_) (fun ys H' ⟨e1,e2⟩ p hp=>?_)
 ·subst e0;exact ⟨hl,by rw [e,List.length_map,List.length_take];omega⟩
 ·subst e1;exact hs i x (fun y H4=>N (ys ++ [y]) H4) hx (hN _ _ ⟨rfl,by rw [e2,Sn f hx]⟩)
 ·subst e1;rw [e2,List.take_length];exact hd p hp
theorem Fc.range_map {lo:Int} {n:Nat} {g:TG} {te:TE} {σb:St} {Q:VK} {H:Hp} (f:Nat→V) (hz:n ≤ sizeLine) (hs:∀ (i:Nat) (N:V→Hp→Prop),i < n→N (f i) H→g (.int (lo + i)) σb H fun σ2 H2=>Sub σb σ2∧te σ2 H2 N)
  (hd:∀ p,H p=none→Q (.ref p) (upd H p (.lst ((List.range n).map f)))):Fc (Itr lo n) g zy te σb Q H:=by
 refine Fc.range (fun i ys H'=>H'=H∧ys=(List.range i).map f) hz ⟨rfl,rfl⟩ (fun i ys H' hi ⟨_,e⟩=>?_) (fun i ys H' hi ⟨e1,e2⟩ N hN=>?_) (fun ys H' ⟨e1,e2⟩ p hp=>?_)
 ·rw [e,List.length_map,List.length_range];exact Nat.le_refl _
 ·subst e1;exact hs i (fun y H4=>N (ys ++ [y]) H4) hi (hN _ _ ⟨rfl,by rw [e2,List.range_succ,List.map_append];rfl⟩)
 ·subst e1;rw [e2];exact hd p hp
theorem Fc.list_mk {K:PySem.W.Frag} {a:Addr} {xs:List V} {g:TG} {te:TE} {σb:St} {Q:VK} {H:Hp} (f:V→HO) (hl:SqL K H a xs) (hz:xs.length ≤ sizeLine) (hn:∀ x,noT (f x)=true)
  (hs:∀ (i:Nat) (x:V) (H1:Hp) (N:V→Hp→Prop),xs[i]? = some x→Ib H H1→(NoT H→NoT H1)→(∀ q,H1 q=none→N (.ref q) (upd H1 q (f x)))→g x σb H1 fun σ2 H2=>Sub σb σ2∧te σ2 H2 N)
  (hd:∀ (qs:List Addr) (H1:Hp),Ib H H1→(NoT H→NoT H1)→qs.length=xs.length→(∀ (j:Nat) (q:Addr) (x:V),qs[j]? = some q→xs[j]? = some x→H1 q=some (f x)∧H q=none)→∀ p,H1 p=none→Q (.ref p) (upd H1 p (.lst (qs.map V.ref)))):Fc (Itl K a) g zy te σb Q H:=by
 refine Fc.list (fun i ys H'=>∃ qs:List Addr,ys=qs.map V.ref∧qs.length=i∧Ib H H'∧(NoT H→NoT H')∧∀ (j:Nat) (q:Addr) (x:V),qs[j]? = some q→xs[j]? = some x→H' q=some (f x)∧H q=none) hz
  ⟨[],rfl,rfl,Ib.refl H,id,fun j q x h _=>by simp at h⟩ ?_ ?_ ?_
 ·rintro i ys H' hi zzq;refine zzP fun zzM zzh=>?_
  obtain ⟨qs,e,e2,sm,_,_⟩:=zzq;subst zzh;exact ⟨hl.same sm,by rw [e,List.length_map];omega⟩
 ·rintro i x ys H' hx ⟨qs,e1,e2,sm,nt,al⟩ N hN;refine hs i x H' (fun y H4=>N (ys ++ [y]) H4) hx sm nt fun q hq=>hN _ _ ⟨qs ++ [q],by rw [e1,List.map_append];rfl,by rw [List.length_append,e2];rfl,sm.updN (sm.free hq),fun n=>(nt n).upd (hn x),fun j q' x' h1 h2=>?_⟩
  by_cases hj:j < qs.length
  ·rw [List.getElem?_append_left hj] at h1;obtain ⟨z1,z2⟩:=al j q' x' h1 h2;exact ⟨by rw [wb (Ab z1 hq)];exact z1,z2⟩
  ·rw [List.getElem?_append_right (by omega)] at h1;have hj0:j - qs.length=0:=by
    cases hh:j - qs.length with
    | zero=>rfl
    | succ n=>rw [hh] at h1;simp at h1
   rw [hj0] at h1;have e3:q=q':=by simpa using h1
   subst e3;have e4:j=i:=by omega
   subst e4;rw [hx] at h2;cases h2;exact ⟨db,sm.free hq⟩
 ·rintro ys H' ⟨qs,e1,e2,sm,nt,al⟩ p hp;subst e1;exact hd qs H' sm nt e2 al p hp
theorem rh.of {J:It} {n:Nat} {g:TG} {tb:TS} {D:qk} {σ:St} {H:Hp} (Pv:Nat→St→Hp→Prop) (h0:Pv 0 σ H) (hgo:∀ i σ H,i < n→Pv i σ H→J.go i H) (hst:∀ σ H,Pv n σ H→J.stop n H)
  (hs:∀ i σ H x H',i < n→Pv i σ H→J.yld i H x H'→g x σ H' fun σ2 H2=>tb { D with nx:=Pv (i + 1),ct:=Pv (i + 1),bk:=D.nx } σ2 H2) (hd:∀ σ H,Pv n σ H→D.nx σ H):rh J g tb D σ H:=by
 refine ⟨fun i m σ H=>m=n - i∧i ≤ n∧Pv i σ H,⟨n,by simp,Nat.zero_le _,h0⟩,?_⟩;rintro i m σ H ⟨rfl,hi,p⟩;by_cases hlt:i < n
 ·exact .inr ⟨hgo i σ H hlt p,Pv (i + 1),fun σ' H' p'=>⟨n - (i + 1),by omega,rfl,hlt,p'⟩,fun x H' y=>hs i σ H x H' hlt p y⟩
 ·have e:i=n:=by omega
  subst e;exact .inl ⟨hst σ H p,hd σ H p⟩
theorem Fc.of {J:It} {n:Nat} {g:TG} {tc:TT} {te:TE} {σb:St} {Q:VK} {H:Hp} (Pv:Nat→List V→Hp→Prop) (hz:n ≤ sizeLine) (h0:Pv 0 [] H) (hgo:∀ i ys H,i < n→Pv i ys H→J.go i H) (hst:∀ ys H,Pv n ys H→J.stop n H) (hl:∀ i ys H,i < n→Pv i ys H→ys.length ≤ i)
  (hs:∀ i ys H x H',i < n→Pv i ys H→J.yld i H x H'→Eg Pv g tc te σb i x ys H') (hd:∀ ys H,Pv n ys H→∀ p,H p=none→Q (.ref p) (upd H p (.lst ys))):Fc J g tc te σb Q H:=by
 refine ⟨fun i m ys H=>m=n - i∧i ≤ n∧Pv i ys H,⟨n,by simp,Nat.zero_le _,h0⟩,?_⟩;rintro i m ys H ⟨rfl,hi,p⟩;by_cases hlt:i < n
 ·have hyl:=hl i ys H hlt p;refine .inr ⟨hgo i ys H hlt p,by omega,fun x H' y=>?_⟩;exact hs i ys H x H' hlt p y (fun ys' H'=>∃ m',m' < n - i∧m'=n - (i + 1)∧i + 1 ≤ n∧Pv (i + 1) ys' H') fun ys' H' r=>⟨n - (i + 1),by omega,rfl,hlt,r⟩
 ·have e:i=n:=by omega
  subst e;exact .inl ⟨hst ys H p,hd ys H p⟩
section
variable {K:PySem.W.Frag} {a b:Addr} {xs ys:List V} {g:TG} {tb:TS} {D:qk} {σ σb:St} {H:Hp} {tc:TT} {te:TE} {Q:VK}
theorem rh.enum (Pv:Nat→St→Hp→Prop) (h0:Pv 0 σ H) (hl:∀ i σ H,i ≤ xs.length→Pv i σ H→SqL K H a xs)
  (hs:∀ i x σ H p,xs[i]? = some x→Pv i σ H→H p=none→g (.ref p) σ (upd H p (.tup [.int i,x])) fun σ2 H2=>tb { D with nx:=Pv (i + 1),ct:=Pv (i + 1),bk:=D.nx } σ2 H2) (hd:∀ σ H,Pv xs.length σ H→D.nx σ H):rh (Ite K a) g tb D σ H:=by
 refine rh.of (n:=xs.length) Pv h0 (fun i σ H hi p=>⟨xs,xs[i],hl i σ H (Nat.le_of_lt hi) p,by simp [hi]⟩) (fun σ H p=>⟨xs,hl _ σ H (Nat.le_refl _) p,Nat.le_refl _⟩) (fun i σ H v H' hi p y=>?_) hd;obtain ⟨q,x,hq,rfl,hx,rfl⟩:=y;exact hs i x σ H q (hx xs (hl i σ H (Nat.le_of_lt hi) p)) p hq
theorem rh.zip (Pv:Nat→St→Hp→Prop) (h0:Pv 0 σ H) (hl:∀ i σ H,i ≤ xs.length→Pv i σ H→SqL K H a xs∧SqL K H b ys) (n:Nat) (hn:n=min xs.length ys.length)
  (hs:∀ i x y σ H p,xs[i]? = some x→ys[i]? = some y→Pv i σ H→H p=none→g (.ref p) σ (upd H p (.tup [x,y])) fun σ2 H2=>tb { D with nx:=Pv (i + 1),ct:=Pv (i + 1),bk:=D.nx } σ2 H2) (hd:∀ σ H,Pv n σ H→D.nx σ H):rh (Itz K a b) g tb D σ H:=by
 subst hn;refine rh.of (n:=min xs.length ys.length) Pv h0 (fun i σ H hi p=>?_) (fun σ H p=>?_) (fun i σ H v H' hi p y=>?_) hd
 ·obtain ⟨z1,z2⟩:=hl i σ H (by omega) p;exact ⟨xs,ys,xs[i],ys[i],z1,z2,by rw [List.getElem?_eq_getElem (by omega)],by rw [List.getElem?_eq_getElem (by omega)]⟩
 ·obtain ⟨z1,z2⟩:=hl _ σ H (by omega) p;exact ⟨xs,ys,z1,z2,by omega⟩
 ·obtain ⟨q,x,y,hq,rfl,hx,hy,rfl⟩:=y;obtain ⟨z1,z2⟩:=hl i σ H (by omega) p;exact hs i x y σ H q (hx xs z1) (hy ys z2) p hq
theorem Fc.enum (Pv:Nat→List V→Hp→Prop) (hz:xs.length ≤ sizeLine) (h0:Pv 0 [] H) (hl:∀ i ys H,i ≤ xs.length→Pv i ys H→SqL K H a xs∧ys.length ≤ i)
  (hs:∀ i x ys H p,xs[i]? = some x→Pv i ys H→H p=none→Eg Pv g tc te σb i (.ref p) ys (upd H p (.tup [.int i,x]))) (hd:∀ ys H,Pv xs.length ys H→∀ p,H p=none→Q (.ref p) (upd H p (.lst ys))):Fc (Ite K a) g tc te σb Q H:=by
 refine Fc.of (n:=xs.length) Pv hz h0 (fun i ys H hi p=>⟨xs,xs[i],(hl i ys H (Nat.le_of_lt hi) p).1,by simp [hi]⟩) (fun ys H p=>⟨xs,(hl _ ys H (Nat.le_refl _) p).1,Nat.le_refl _⟩) (fun i ys H hi p=>(hl i ys H (Nat.le_of_lt hi) p).2) (fun i zs H v H' hi p y=>?_) hd;obtain ⟨q,x,hq,rfl,hx,rfl⟩:=y;exact hs i x zs H q (hx xs (hl i zs H (Nat.le_of_lt hi) p).1) p hq
theorem yo {i j:Nat} {p:Addr} {x y:V} {R:St→Hp→Prop} (h:SqT K H p [x,y]) (q:R ((σ.set i (some x)).set j (some y)) H):tO K 2 (YC (Et i) (YC (Et j) BQ)) (.ref p) σ H R:=
 ⟨p,_,rfl,h,rfl,x,_,rfl,y,_,rfl,rfl,q⟩
theorem sf {i j:Nat} {p:Addr} {x y:V} {R:St→Hp→Prop} (q:R ((σ.set i (some x)).set j (some y)) (upd H p (.tup [x,y]))):tO K 2 (YC (Et i) (YC (Et j) BQ)) (.ref p) σ (upd H p (.tup [x,y])) R:=
 yo (.inl (.inl db)) q
end
theorem Sub.name2 {r:St} {v w:Option V}:Sub (none :: none :: r) (v :: w :: r):=by
 refine ⟨rfl,fun i u h=>?_⟩
 match i with
 | 0=>cases h
 | 1=>cases h
 | i + 2=>exact h
theorem Sub.name3 {r:St} {v w z:Option V}:Sub (none :: none :: none :: r) (v :: w :: z :: r):=by
 refine ⟨rfl,fun i u h=>?_⟩
 match i with
 | 0=>cases h
 | 1=>cases h
 | 2=>cases h
 | i + 3=>exact h
theorem Fc.list_zs {K:PySem.W.Frag} {a:Addr} {xs zs:List V} {g:TG} {te:TE} {σb:St} {Q:VK} {H:Hp} (hl:SqL K H a xs) (hz:xs.length ≤ sizeLine) (he:zs.length=xs.length)
  (hs:∀ (i:Nat) (x z:V) (N:V→Hp→Prop),xs[i]? = some x→zs[i]? = some z→N z H→g x σb H fun σ2 H2=>Sub σb σ2∧te σ2 H2 N) (hd:∀ p,H p=none→Q (.ref p) (upd H p (.lst zs))):Fc (Itl K a) g zy te σb Q H:=by
 refine Fc.list (fun i ys H'=>H'=H∧ys=zs.take i) hz ⟨rfl,rfl⟩ (fun i ys H' hi ⟨e0,e⟩=>?_) (fun i x ys H' hx ⟨e1,e2⟩ N hN=>?_) (fun ys H' ⟨e1,e2⟩ p hp=>?_)
 ·subst e0;exact ⟨hl,by rw [e,List.length_take];omega⟩
 ·subst e1;have hi:i < zs.length:=by rw [he];exact (List.getElem?_eq_some_iff.mp hx).1
  have hz':zs[i]? = some zs[i]:=List.getElem?_eq_getElem hi;exact hs i x zs[i] (fun y H4=>N (ys ++ [y]) H4) hx hz' (hN _ _ ⟨rfl,by rw [e2,List.take_add_one,hz'];rfl⟩)
 ·subst e1;rw [e2,← he,List.take_length];exact hd p hp
theorem Fc.tup_zs {K:PySem.W.Frag} {a:Addr} {xs zs:List V} {g:TG} {te:TE} {σb:St} {Q:VK} {H:Hp} (hl:SqT K H a xs) (hz:xs.length ≤ sizeLine) (he:zs.length=xs.length)
  (hs:∀ (i:Nat) (x z:V) (N:V→Hp→Prop),xs[i]? = some x→zs[i]? = some z→N z H→g x σb H fun σ2 H2=>Sub σb σ2∧te σ2 H2 N) (hd:∀ p,H p=none→Q (.ref p) (upd H p (.lst zs))):Fc (Itt K a) g zy te σb Q H:=by
 refine EK (xs:=xs) (fun i ys H'=>H'=H∧ys=zs.take i) hz ⟨rfl,rfl⟩ (fun i ys H' hi ⟨e0,e⟩=>?_) (fun i x ys H' hx ⟨e1,e2⟩ N hN=>?_) (fun ys H' ⟨e1,e2⟩ p hp=>?_)
 ·subst e0;exact ⟨hl,by rw [e,List.length_take];omega⟩
 ·subst e1;have hi:i < zs.length:=by rw [he];exact (List.getElem?_eq_some_iff.mp hx).1
  have hz':zs[i]? = some zs[i]:=List.getElem?_eq_getElem hi;exact hs i x zs[i] (fun y H4=>N (ys ++ [y]) H4) hx hz' (hN _ _ ⟨rfl,by rw [e2,List.take_add_one,hz'];rfl⟩)
 ·subst e1;rw [e2,← he,List.take_length];exact hd p hp
theorem Sub.name {r:St} {v:Option V}:Sub (none :: r) (v :: r):=by
 refine ⟨rfl,fun i w h=>?_⟩;cases i with
 | zero=>cases h
 | succ i=>exact h
end L2
namespace L2
open PySem PySem.Spec PyProof.Rows
theorem xb {X:Cx} {i:Nat} {x:Str} {e:Expr} {te:TE} {pos pos':Pos} (hN:X.N.Nodup) (he:PE X e te) (hi:X.N[i]? = some x:=by rfl) (hx:Loc X.env.scope x:=by exact Or.inl rfl) (hs:swapsWith e (some (.Name x pos')) pos.line X.env=pure false:=by rfl) (hf:X.fn x=true∨X.env.scope.names.lookup x=some .local:=by first | exact .inl rfl | exact .inr rfl | assumption):PS X (.Assign [.Name x pos'] e pos) (UN te (Et i)):=Hr hN hi hx he hs hf
theorem lb {X:Cx} {pos:Pos} {i:Nat} {x:Str} (hN:X.N.Nodup) (hi:X.N[i]? = some x:=by rfl) (hx:Loc X.env.scope x:=by exact Or.inl rfl) (hf:X.fn x=true∨X.env.scope.names.lookup x=some .local:=by first | exact .inl rfl | exact .inr rfl | assumption):PG X (.Name x pos) (Et i):=Jv hN hi hx hf
theorem Zb {X:Cx} {a b:Expr} {ta tb:TE} {pos:Pos} {r:R2} (hr:IxR X r) (ha:PE X a ta) (hb:PE X b tb) (hs:yI b:=by exact fun _ _=>rfl):PE X (.Subscript a b pos) (tOp r ta tb):=iR hr ha hb hs
theorem ub {X:Cx} {k:Nat} {f:Addr} {fd:FuncData} {ps:List Str} {sp:Sp} {x:Str} {p pos:Pos} {e:Expr} {es:List Expr} {t:TA} (F:Gb X.prog X.w X.K X.mg X.base CX0 k f fd ps sp) (hr:vk k X.A) (hm:X.mg x=some (.ref f)) (hk:PySem.W.keepIn X.K (.ref f)=true) (hb:Xb X.K fd ps []) (ha:PA X (e :: es) t) (hg:Gl X x:=by rfl) (hdb:(x == ("__debug__" : Str))=false:=by decide) (he:starEach (e :: es) X.env=(false,eval e X.env) :: starEach es X.env:=by rfl) (hpl:(backTo pos (starEach es X.env)).any (·.1)=false:=by rfl):PE X (.Call (.Name x p) (e :: es) [] pos) (UI sp [] E0 t):=aN F hr hg hm hk hb .nil Rc ha hdb he hpl
end L2
local macro_rules | `(tactic| walk_at "RD")=>`(tactic| ((try dsimp only [L2.oN,L2.QQ,L2.Cx.nox,L2.Cx.wish,L2.Cx.block,L2.Cx.tr,L2.Cx.hn,L2.pF,L2.rP,L2.QP,L2.GG,L2.PK,L2.OF,L2.fC,L2.EG,L2.PL,L2.se,L2.Db,L2.BB,L2.kG,L2.Px,L2.oh,L2.eF,L2.BC,L2.jG,L2.iI,L2.IH,L2.LF,L2.aC,L2.pI,L2.ZK,L2.IK,L2.ZO,L2.fM,L2.bO,L2.zL,L2.dL,L2.kB,L2.hG,L2.wG,L2.Yu,L2.zE,L2.MF,L2.CB,L2.MH,L2.mH,L2.oC,L2.lB,L2.jB,L2.AL,L2.iu,L2.WB,L2.kL,L2.zF,L2.eC,L2.uE,L2.zI,L2.DI,L2.JA,L2.bF,L2.RL,L2.JF,L2.cM,L2.lu,L2.Ou,L2.Bs,L2.jF,L2.rB,L2.Uu,L2.EB,L2.Ey,L2.Tx,L2.fB,L2.WH,L2.JE,L2.yC,L2.Kw,L2.jx,L2.GA,L2.ZF,L2.FB,L2.yr,L2.iB,L2.Wu,L2.SB,L2.AA,L2.QF,L2.CA,L2.KA,L2.RF,L2.uI,L2.vC,L2.zA,L2.kC,L2.MG,L2.gH,L2.Sw,L2.NA,L2.KK,L2.LA,L2.ZA,L2.start,L2.rG,L2.tR,L2.dR,L2.CQ,L2.mR,L2.pR,L2.FQ,L2.rR,L2.gR,L2.jR,L2.YQ,L2.dBn,L2.dBs,L2.dJs,L2.dJn,Nat.reduceAdd,Nat.reduceSub,List.replicate]);(try simp only [L2.pF,L2.rP,L2.QP,L2.GG,L2.PK,L2.OF,L2.fC,L2.EG,L2.PL,L2.se,L2.Db,L2.BB,L2.kG,L2.Px,L2.oh,L2.eF,L2.BC,L2.jG,L2.iI,L2.IH,L2.LF,L2.aC,L2.pI,L2.ZK,L2.IK,L2.ZO,L2.fM,L2.bO,L2.zL,L2.dL,L2.kB,L2.hG,L2.wG,L2.Yu,L2.zE,L2.MF,L2.CB,L2.MH,L2.mH,L2.oC,L2.lB,L2.jB,L2.AL,L2.iu,L2.WB,L2.kL,L2.zF,L2.eC,L2.uE,L2.zI,L2.DI,L2.JA,L2.bF,L2.RL,L2.JF,L2.cM,L2.lu,L2.Ou,L2.Bs,L2.jF,L2.rB,L2.Uu,L2.EB,L2.Ey,L2.Tx,L2.fB,L2.WH,L2.JE,L2.yC,L2.Kw,L2.jx,L2.GA,L2.ZF,L2.FB,L2.yr,L2.iB,L2.Wu,L2.SB,L2.AA,L2.QF,L2.CA,L2.KA,L2.RF,L2.uI,L2.vC,L2.zA,L2.kC,L2.MG,L2.gH,L2.Sw,L2.NA,L2.KK,L2.LA,L2.ZA,L2.jM,L2.KN,L2.iQ,L2.iN,L2.DN,L2.start,L2.rG,List.map_cons,List.map_nil,Option.bind_none,Option.bind_some,Option.join_some,Option.join_none,List.length_cons,List.length_nil,Nat.reduceAdd,Nat.reduceSub,Nat.zero_add,List.replicate,List.cons_append,List.nil_append,List.append_nil,List.set_cons_zero,List.set_cons_succ,List.getElem?_cons_zero,List.getElem?_cons_succ,Option.some.injEq,L2.V.int.injEq,L2.V.bl.injEq,L2.V.str.injEq,L2.V.ref.injEq,L2.V.ty.injEq,exists_eq_left',exists_eq_left,exists_and_left,List.cons.injEq,and_true,true_and,and_assoc,Int.zero_add,reduceCtorEq,false_and,exists_false,and_false,ite_true,ite_false,if_true,if_false,Bool.false_eq_true,L2.eO,L2.tyV,false_or,or_false,Bool.not_true,Bool.not_false,decide_true,decide_false])))
local macro_rules | `(tactic| walk_at "B")=>`(tactic| first | rfl | (dsimp only [L2.Cx.block];done) | (dsimp only [L2.Cx.block];exact rfl))
local macro_rules | `(tactic| walk_at "F")=>`(tactic| exact ⟨rfl,rfl,rfl,by decide +kernel,rfl,by decide +kernel,by decide +kernel⟩)
namespace My
open PySem L2
noncomputable abbrev q5:List Str:=["self","name"]
noncomputable abbrev q8:List Str:=["self","name","start","end","off","near","least"]
noncomputable abbrev q9:List Str:=["order","one","other"]
noncomputable abbrev q10:List Str:=["crossing","one","other"]
noncomputable abbrev q11:List Str:=["plan","name","turn"]
noncomputable abbrev q12:List Str:=["spans","name"]
noncomputable abbrev q13:List Str:=["crossing","size","spans"]
noncomputable abbrev q14:List Str:=["word","signs","most"]
noncomputable abbrev q15:List Str:=["_law_script","_law_k","_law_many"]
noncomputable abbrev q16:List Str:=["_law_script"]
noncomputable abbrev q17:List Str:=["self","good"]
noncomputable abbrev q18:List Str:=["self","kind","name","start","end","off","near","least"]
noncomputable abbrev q19:List Str:=["wanted","size","order","one","other"]
noncomputable abbrev q20:List Str:=["wanted","size","rings","order"]
noncomputable abbrev q21:List Str:=["self","low","high"]
noncomputable abbrev q22:List Str:=["places","way","second"]
noncomputable abbrev q23:List Str:=["wanted","size","order","ring"]
noncomputable abbrev q24:List Str:=["word","most_figures"]
noncomputable abbrev q25:List Str:=["reader","places","start"]
noncomputable abbrev q26:List Str:=["sort","name","start","end","off","near","least"]
noncomputable abbrev q27:List Str:=["size","spans","name"]
noncomputable abbrev q28:List Str:=["self","row","told"]
noncomputable abbrev q29:List Str:=["self","choices"]
noncomputable abbrev q30:List Str:=["places","way","place"]
noncomputable abbrev q31:List Str:=["wanted","paths"]
noncomputable abbrev q32:List Str:=["wanted","order"]
noncomputable abbrev q33:List Str:=["wanted","size","order"]
noncomputable abbrev q34:List Str:=["wanted","size","rings"]
noncomputable abbrev q35:List Str:=["crossing","wants"]
noncomputable abbrev q36:List Str:=["word","low","high"]
noncomputable abbrev q37:List Str:=["reader","ways"]
noncomputable abbrev q38:List Str:=["reader","places","ways"]
noncomputable abbrev q39:List Str:=["plan","name"]
noncomputable abbrev q40:List Str:=["way","size","spans"]
noncomputable abbrev q41:List Str:=["crossing","spans"]
noncomputable abbrev q42:List Str:=["size","spans","place"]
noncomputable abbrev q43:List Str:=["crossing","one","other","since_one","since_other"]
noncomputable abbrev q44:List Str:=["crossing","size","rows"]
noncomputable abbrev q45:List Str:=["_law_script","_law_many"]
noncomputable abbrev q46:List Str:=["_law_script","_law_many","_law_places_here"]
noncomputable abbrev q47:List Str:=["_law_places_here","_law_ways_here"]
noncomputable abbrev q48:List Str:=["_law_script","_law_places_here","_law_many","_law_ways_here","_law_crossing","_law_first","_law_order","_law_wants","_law_told","_law_size","_law_rows","_law_plan","_law_cell","_law_far","_law_row","_law_turn","_law_due","_law_wait"]
noncomputable abbrev q49:List Str:=["self","crossing","wants"]
noncomputable abbrev q50:List Str:=["self","places","ways"]
noncomputable abbrev q51:List Str:=["self","crossing","size","spans"]
noncomputable abbrev q52:List Str:=["called","begin","turns","name"]
noncomputable abbrev q53:List Str:=["name","begin","turns"]
noncomputable abbrev q54:List Str:=["wanted","paths","found","path","nearby"]
noncomputable abbrev q55:List Str:=["wanted","found","paths"]
noncomputable abbrev q56:List Str:=["wanted","size","order","begins","want","one","other"]
noncomputable abbrev q57:List Str:=["size","spans","place","name","begin","turns","others"]
noncomputable abbrev q58:List Str:=["self","crossing","wants","ways","one","want","other","second"]
noncomputable abbrev q60:List Str:=["at","span","place"]
noncomputable abbrev q61:List Str:=["later","many","begin","size"]
noncomputable abbrev q62:List Str:=["name","turns","crossing"]
noncomputable def top (i:Nat):Stmt:=PySem.Challenge.pw_lampway_k66_rounds_let_by.main.body.getD i (.Pass ⟨0,0,0,0⟩)
noncomputable abbrev pC:Stmt:=top 2
theorem px:yb ["places","way","place","steps"] q30 (jb pC):=(by walk_at "F")
noncomputable abbrev Yp:Stmt:=top 3
theorem Rv:yb q22 q22 (jb Yp):=(by walk_at "F")
noncomputable abbrev KL:Stmt:=top 4
theorem gA:yb ["crossing","one","other","way","second"] q10 (jb KL):=(by walk_at "F")
noncomputable abbrev EO:Stmt:=top 5
theorem lH:yb ["crossing","one","other","way","second"] q10 (jb EO):=(by walk_at "F")
noncomputable abbrev Uj:Stmt:=top 9
theorem jg:yb ["wanted","order","other"] ["wanted"] (jb Uj):=(by walk_at "F")
noncomputable abbrev Ak:Stmt:=top 10
theorem nq:yb q9 q9 (jb Ak):=(by walk_at "F")
noncomputable abbrev Wp:Stmt:=top 11
theorem Vn:yb ["order","one","other","more"] q9 (jb Wp):=(by walk_at "F")
noncomputable abbrev ml:Stmt:=top 12
theorem Wj:yb ["wanted","size","order","one","other","step"] q19 (jb ml):=(by walk_at "F")
noncomputable abbrev Fp:Stmt:=top 13
theorem af:yb ["wanted","size","order","ring","total","place","one","other"] q23 (jb Fp):=(by walk_at "F")
noncomputable abbrev Sd:Stmt:=top 15
theorem Bd:yb q54 q31 (jb Sd):=(by walk_at "F")
noncomputable abbrev Kl:Stmt:=top 16
theorem Gj:yb q55 ["wanted"] (jb Kl):=(by walk_at "F")
noncomputable abbrev Wg:Stmt:=top 17
theorem Oe:yb ["wanted","order","one","other"] q32 (jb Wg):=(by walk_at "F")
noncomputable abbrev df:Stmt:=top 18
theorem Pd:yb q56 q33 (jb df):=(by walk_at "F")
noncomputable abbrev ky:Stmt:=top 19
theorem Fe:yb ["wanted","size","rings","order","ring","pair","one","other","begins","paper","second"] q20 (jb ky):=(by walk_at "F")
noncomputable abbrev Tn:Stmt:=top 20
theorem Ci:yb ["wanted","size","rings","want","turns"] q34 (jb Tn):=(by walk_at "F")
noncomputable abbrev Ij:Stmt:=top 21
theorem xg:yb ["wanted","total","want"] ["wanted"] (jb Ij):=(by walk_at "F")
noncomputable abbrev Nu:Stmt:=top 22
theorem xc:yb ["crossing","wants","wanted","rings","low","high","paper","begins","size","found","no_begins"] q35 (jb Nu):=(by walk_at "F")
noncomputable abbrev Wz:Stmt:=top 35
theorem gK:yb ["text"] ["text"] (jb Wz):=(by walk_at "F")
noncomputable abbrev Il:Stmt:=top 36
theorem Mv:yb q14 q14 (jb Il):=(by walk_at "F")
noncomputable abbrev Ws:Stmt:=top 37
theorem Nx:yb q24 q24 (jb Ws):=(by walk_at "F")
noncomputable abbrev bx:Stmt:=top 38
theorem av:yb ["word","low","high","number"] q36 (jb bx):=(by walk_at "F")
noncomputable abbrev Sy:Stmt:=top 39
theorem MC:yb ["word"] ["word"] (jb Sy):=(by walk_at "F")
noncomputable abbrev Xs:Stmt:=top 42
theorem ZD:yb ["text"] ["text"] (jb Xs):=(by walk_at "F")
noncomputable abbrev Js:Stmt:=top 56
theorem Tp:yb ["reader","places"] ["reader"] (jb Js):=(by walk_at "F")
noncomputable abbrev Kh:Stmt:=top 57
theorem ck:yb ["reader","ways","name"] q37 (jb Kh):=(by walk_at "F")
noncomputable abbrev Ru:Stmt:=top 58
theorem tz:yb q25 q25 (jb Ru):=(by walk_at "F")
noncomputable abbrev Bu:Stmt:=top 59
theorem Qz:yb q26 q26 (jb Bu):=(by walk_at "F")
noncomputable abbrev Fu:Stmt:=top 60
theorem Me:yb ["reader","places","ways","sort","name","start","end","off","near","least"] q38 (jb Fu):=(by walk_at "F")
noncomputable abbrev Lk:Stmt:=top 61
theorem Ce:yb ["text","rows","places","ways","reader"] ["text"] (jb Lk):=(by walk_at "F")
noncomputable abbrev nC:Stmt:=top 63
theorem ZE:yb q11 q11 (jb nC):=(by walk_at "F")
noncomputable abbrev gL:Stmt:=top 64
theorem NM:yb q11 q11 (jb gL):=(by walk_at "F")
noncomputable abbrev Zw:Stmt:=top 65
theorem Au:yb ["plan","name","wait"] q39 (jb Zw):=(by walk_at "F")
noncomputable abbrev zm:Stmt:=top 67
theorem ke:yb ["marks","size","steps","untils","place"] ["marks"] (jb zm):=(by walk_at "F")
noncomputable abbrev Im:Stmt:=top 68
theorem ls:yb ["marks"] ["marks"] (jb Im):=(by walk_at "F")
noncomputable abbrev yp:Stmt:=top 71
theorem rA:yb q12 q12 (jb yp):=(by walk_at "F")
noncomputable abbrev yl:Stmt:=top 72
theorem Jf:yb ["size","spans","name","marks","begin","turns","step"] q27 (jb yl):=(by walk_at "F")
noncomputable abbrev tG:Stmt:=top 73
theorem Tm:yb ["way","size","spans","shown","begin","turns","step"] q40 (jb tG):=(by walk_at "F")
noncomputable abbrev Km:Stmt:=top 74
theorem xk:yb ["crossing","spans","name"] q41 (jb Km):=(by walk_at "F")
noncomputable abbrev Qd:Stmt:=top 75
theorem Cc:yb q57 q42 (jb Qd):=(by walk_at "F")
noncomputable abbrev Pm:Stmt:=top 76
theorem Lc:yb ["crossing","size","spans","place","span","name","begin","turns","way","needed"] q13 (jb Pm):=(by walk_at "F")
noncomputable abbrev gj:Stmt:=top 77
theorem Ie:yb ["crossing","one","other","since_one","since_other","between","turn","steps"] q43 (jb gj):=(by walk_at "F")
noncomputable abbrev Nm:Stmt:=top 78
theorem Qe:yb ["crossing","size","spans","since","name","one","other"] q13 (jb Nm):=(by walk_at "F")
noncomputable abbrev Xm:Stmt:=top 79
theorem Kg:yb ["crossing","size","rows","spans","name","begin","turns"] q44 (jb Xm):=(by walk_at "F")
noncomputable abbrev Yr:Stmt:=top 81
theorem Uk:yb ["_law_script","_law_k","_law_many","_law_cell","_law_seed"] q15 (jb Yr):=(by walk_at "F")
noncomputable abbrev Yn:Stmt:=top 82
theorem Kt:yb q16 q16 (jb Yn):=(by walk_at "F")
noncomputable abbrev yk:Stmt:=top 83
theorem yc:yb ["_law_script","_law_many","_law_letters","_law_word","_law_size","_law_at","_law_first","_law_some","_law_k","_law_name","_law_sign"] q45 (jb yk):=(by walk_at "F")
noncomputable abbrev Sr:Stmt:=top 84
theorem ud:yb ["_law_script","_law_many","_law_places_here","_law_names_here","_law_one_end","_law_ways_here","_law_k","_law_start","_law_end","_law_numbers","_law_sort"] q46 (jb Sr):=(by walk_at "F")
noncomputable abbrev gn:Stmt:=top 85
theorem Dk:yb ["_law_places_here","_law_ways_here","_law_rows","_law_way"] q47 (jb gn):=(by walk_at "F")
noncomputable abbrev AF:Stmt:=top 86
theorem Kf:yb q48 q16 (jb AF):=(by walk_at "F")
noncomputable abbrev nh:Stmt:=zd (top 7) 0
theorem Mc:yb q58 q49 (jb nh):=(by walk_at "F")
noncomputable abbrev Qj:Stmt:=zd (top 41) 0
theorem ql:yb q28 q28 (jb Qj):=(by walk_at "F")
noncomputable abbrev Ti:Stmt:=zd (top 41) 1
theorem Bo:yb ["self"] ["self"] (jb Ti):=(by walk_at "F")
noncomputable abbrev Vg:Stmt:=zd (top 41) 2
theorem Bk:yb ["self"] ["self"] (jb Vg):=(by walk_at "F")
noncomputable abbrev Zj:Stmt:=zd (top 41) 4
theorem Mo:yb q17 q17 (jb Zj):=(by walk_at "F")
noncomputable abbrev gi:Stmt:=zd (top 41) 5
theorem Fh:yb ["self","choices","found"] q29 (jb gi):=(by walk_at "F")
noncomputable abbrev Jh:Stmt:=zd (top 41) 6
theorem Zg:yb ["self","low","high","found"] q21 (jb Jh):=(by walk_at "F")
noncomputable abbrev ji:Stmt:=zd (top 41) 7
theorem mn:yb ["self"] ["self"] (jb ji):=(by walk_at "F")
noncomputable abbrev uv:Stmt:=zd (top 44) 0
theorem js:yb q18 q18 (jb uv):=(by walk_at "F")
noncomputable abbrev so:Stmt:=zd (top 45) 0
theorem Rn:yb q8 q8 (jb so):=(by walk_at "F")
noncomputable abbrev Fm:Stmt:=zd (top 45) 1
theorem Gr:yb ["self"] ["self"] (jb Fm):=(by walk_at "F")
noncomputable abbrev On:Stmt:=zd (top 45) 2
theorem Yt:yb ["self"] ["self"] (jb On):=(by walk_at "F")
noncomputable abbrev Bm:Stmt:=zd (top 46) 0
theorem Wm:yb q8 q8 (jb Bm):=(by walk_at "F")
noncomputable abbrev Sk:Stmt:=zd (top 46) 1
theorem vq:yb ["self"] ["self"] (jb Sk):=(by walk_at "F")
noncomputable abbrev wm:Stmt:=zd (top 46) 2
theorem Ss:yb ["self"] ["self"] (jb wm):=(by walk_at "F")
noncomputable abbrev Dm:Stmt:=zd (top 47) 0
theorem bn:yb q8 q8 (jb Dm):=(by walk_at "F")
noncomputable abbrev il:Stmt:=zd (top 47) 1
theorem Bq:yb ["self"] ["self"] (jb il):=(by walk_at "F")
noncomputable abbrev ym:Stmt:=zd (top 47) 2
theorem Cs:yb ["self"] ["self"] (jb ym):=(by walk_at "F")
noncomputable abbrev Ck:Stmt:=zd (top 55) 0
theorem kf:yb ["self","places","ways","number","way"] q50 (jb Ck):=(by walk_at "F")
noncomputable abbrev Rg:Stmt:=zd (top 55) 1
theorem So:yb ["self"] ["self"] (jb Rg):=(by walk_at "F")
noncomputable abbrev Si:Stmt:=zd (top 55) 2
theorem Nn:yb q5 q5 (jb Si):=(by walk_at "F")
noncomputable abbrev Ui:Stmt:=zd (top 55) 3
theorem oo:yb q5 q5 (jb Ui):=(by walk_at "F")
noncomputable abbrev Ar:Stmt:=zd (top 70) 0
theorem nk:yb ["self","crossing","size","spans","name"] q51 (jb Ar):=(by walk_at "F")
set_option genInjectivity false in
set_option genInjectivity false in
structure Adr where
 {Nq xi Ay UH wf ie Oh ee Ng Md Pl Xd Ye Mi ah lh Tl yv Og Jj vo xn Kn Oj Tf Ul Nl Zl Of Gq zC Zn rf zg fg Jg DC og Hd Fg bf rg Bj Ef kh Th Mj sj yN Zf Ae wc bd Vc Oc vc Pc eg Sf yg qh tf Lf qg pf Pf vg Se Tc ce Nb Bh Sb Fb zo md Ac zc Vb Je:Addr}
 {Oq Xh jy dG uf ae Yh je Mg Kd Rl Yd Ve Oi fh gh Yl Nv Lg Kj Jn Mn Xn Ej Mf Ml Wl Ll Rf Jq KB Wn qf wg dg Hg OB Bg Td lg ff ug vj Df ph ei Dj xj sJ eh xf Gc Zd Fd Ud Ec Nd uh jh zi yj Ag yh Hi ng Lh Ji Wf Gd cf Ub Cj:FuncData}
 {Ow Hm Gx vm Np tm dr qv Fn Us:Value}
structure Txt (w:World) (K:PySem.W.Frag) (mg:Str→Option Value) (t:Adr):Prop where
 LB:mg "in_bow"=some (.ref t.Nq)
 Hq:Fun K "in_bow" "in_bow" pC t.Nq t.Oq
 cx:mg "bows_cross"=some (.ref t.xi)
 gl:Fun K "bows_cross" "bows_cross" Yp t.xi t.Xh
 fL:mg "meet"=some (.ref t.Ay)
 zB:Fun K "meet" "meet" KL t.Ay t.jy
 WN:mg "gap"=some (.ref t.UH)
 OJ:Fun K "gap" "gap" EO t.UH t.dG
 pq:mg "order_at_first"=some (.ref t.wf)
 Pg:Fun K "order_at_first" "order_at_first" Uj t.wf t.uf
 Yk:mg "in_some_order"=some (.ref t.ie)
 Nf:Fun K "in_some_order" "in_some_order" Ak t.ie t.ae
 Op:mg "with_ahead"=some (.ref t.Oh)
 si:Fun K "with_ahead" "with_ahead" Wp t.Oh t.Yh
 Al:mg "step_in_order"=some (.ref t.ee)
 Yf:Fun K "step_in_order" "step_in_order" ml t.ee t.je
 Vw:mg "ring_bears"=some (.ref t.Ng)
 Cl:Fun K "ring_bears" "ring_bears" Fp t.Ng t.Mg
 Hk:mg "paths_longer_by_one"=some (.ref t.Md)
 Re:Fun K "paths_longer_by_one" "paths_longer_by_one" Sd t.Md t.Kd
 DD:mg "rings_of"=some (.ref t.Pl)
 Ap:Fun K "rings_of" "rings_of" Kl t.Pl t.Rl
 om:mg "pair_without_order"=some (.ref t.Xd)
 jf:Fun K "pair_without_order" "pair_without_order" Wg t.Xd t.Yd
 Fo:mg "begins_in_order"=some (.ref t.Ye)
 gg:Fun K "begins_in_order" "begins_in_order" df t.Ye t.Ve
 Gs:mg "settled"=some (.ref t.Mi)
 Ni:Fun K "settled" "settled" ky t.Mi t.Oi
 wj:mg "settled_for"=some (.ref t.ah)
 Vf:Fun K "settled_for" "settled_for" Tn t.ah t.fh
 bw:mg "long_enough"=some (.ref t.lh)
 Lj:Fun K "long_enough" "long_enough" Ij t.lh t.gh
 JD:mg "shortest"=some (.ref t.Tl)
 Ep:Fun K "shortest" "shortest" Nu t.Tl t.Yl
 RM:mg "words"=some (.ref t.yv)
 bA:Fun K "words" "words" Wz t.yv t.Nv
 Pp:mg "is_made_of"=some (.ref t.Og)
 Qh:Fun K "is_made_of" "is_made_of" Il t.Og t.Lg
 pz:mg "is_number"=some (.ref t.Jj)
 wn:Fun K "is_number" "is_number" Ws t.Jj t.Kj
 gF:mg "figured"=some (.ref t.vo)
 mr:Fun K "figured" "figured" bx t.vo t.Jn
 lI:mg "is_name"=some (.ref t.xn)
 Fs:Fun K "is_name" "is_name" Sy t.xn t.Mn
 xI:mg "readers"=some (.ref t.Kn)
 Qs:Fun K "readers" "readers" Xs t.Kn t.Xn
 az:mg "read_ring"=some (.ref t.Oj)
 cn:Fun K "read_ring" "read_ring" Js t.Oj t.Ej
 jt:mg "read_new_name"=some (.ref t.Tf)
 Gh:Fun K "read_new_name" "read_new_name" Kh t.Tf t.Mf
 lD:mg "read_end"=some (.ref t.Ul)
 Dp:Fun K "read_end" "read_end" Ru t.Ul t.Ml
 YD:mg "made_way"=some (.ref t.Nl)
 qp:Fun K "made_way" "made_way" Bu t.Nl t.Wl
 LC:mg "read_way"=some (.ref t.Zl)
 jp:Fun K "read_way" "read_way" Fu t.Zl t.Ll
 Zs:mg "read_crossing"=some (.ref t.Of)
 zh:Fun K "read_crossing" "read_crossing" Lk t.Of t.Rf
 IJ:mg "colour"=some (.ref t.Gq)
 Cv:Fun K "colour" "colour" nC t.Gq t.Jq
 JL:mg "free"=some (.ref t.zC)
 EC:Fun K "free" "free" gL t.zC t.KB
 sG:mg "longest"=some (.ref t.Zn)
 As:Fun K "longest" "longest" Zw t.Zn t.Wn
 Lm:mg "until_marked"=some (.ref t.rf)
 Dg:Fun K "until_marked" "until_marked" zm t.rf t.qf
 cu:mg "since_marked"=some (.ref t.zg)
 Ai:Fun K "since_marked" "since_marked" Im t.zg t.wg
 am:mg "spans_of"=some (.ref t.fg)
 sh:Fun K "spans_of" "spans_of" yp t.fg t.dg
 Xp:mg "free_marks"=some (.ref t.Jg)
 Wh:Fun K "free_marks" "free_marks" yl t.Jg t.Hg
 gP:mg "lamp"=some (.ref t.DC)
 HG:Fun K "lamp" "lamp" tG t.DC t.OB
 Ot:mg "refuse_never"=some (.ref t.og)
 Ei:Fun K "refuse_never" "refuse_never" Km t.og t.Bg
 Pk:mg "turns_to_next_begin"=some (.ref t.Hd)
 Pe:Fun K "turns_to_next_begin" "turns_to_next_begin" Qd t.Hd t.Td
 tt:mg "refuse_short"=some (.ref t.Fg)
 Gi:Fun K "refuse_short" "refuse_short" Pm t.Fg t.lg
 Ko:mg "refuse_clash_of"=some (.ref t.bf)
 kg:Fun K "refuse_clash_of" "refuse_clash_of" gj t.bf t.ff
 Bt:mg "refuse_clash"=some (.ref t.rg)
 Ii:Fun K "refuse_clash" "refuse_clash" Nm t.rg t.ug
 yz:mg "made_plan"=some (.ref t.Bj)
 rn:Fun K "made_plan" "made_plan" Xm t.Bj t.vj
 fc:mg "_law_draw"=some (.ref t.Ef)
 Rb:Fun K "_law_draw" "_law_draw" Yr t.Ef t.Df
 Bv:mg "_law_places"=some (.ref t.kh)
 oj:Fun K "_law_places" "_law_places" Yn t.kh t.ph
 Gy:mg "_law_names"=some (.ref t.Th)
 Hl:Fun K "_law_names" "_law_names" yk t.Th t.ei
 Iz:mg "_law_ways"=some (.ref t.Mj)
 Rm:Fun K "_law_ways" "_law_ways" Sr t.Mj t.Dj
 qA:mg "_law_text"=some (.ref t.sj)
 jn:Fun K "_law_text" "_law_text" gn t.sj t.xj
 cR:mg "law"=some (.ref t.yN)
 sR:Fun K "law" "law" AF t.yN t.sJ
 EJ:mg "Wanted"=some (.ref t.Sb)
 eJ:PySem.W.findIn K (.ref t.Sb) "__init__"=some (some (.ref t.Zf))
 bo:Fun K "__init__" "Wanted.__init__" nh t.Zf t.eh
 qz:mg "RowReader"=some (.ref t.Fb)
 oE:PySem.W.findIn K (.ref t.Fb) "__init__"=some (some (.ref t.Ae))
 jk:Fun K "__init__" "RowReader.__init__" Qj t.Ae t.xf
 rD:PySem.W.findIn K (.ref t.Fb) "ahead"=some (some (.ref t.wc))
 Yi:Fun K "ahead" "RowReader.ahead" Ti t.wc t.Gc
 Ty:PySem.W.findIn K (.ref t.Fb) "has_more"=some (some (.ref t.bd))
 Yg:Fun K "has_more" "RowReader.has_more" Vg t.bd t.Zd
 mE:PySem.W.findIn K (.ref t.Fb) "take"=some (some (.ref t.Vc))
 ik:Fun K "take" "RowReader.take" Zj t.Vc t.Fd
 JB:PySem.W.findIn K (.ref t.Fb) "one_of"=some (some (.ref t.Oc))
 Vh:Fun K "one_of" "RowReader.one_of" gi t.Oc t.Ud
 Dz:PySem.W.findIn K (.ref t.Fb) "figures"=some (some (.ref t.vc))
 Hh:Fun K "figures" "RowReader.figures" Jh t.vc t.Ec
 GB:PySem.W.findIn K (.ref t.Fb) "finish"=some (some (.ref t.Pc))
 vi:Fun K "finish" "RowReader.finish" ji t.Pc t.Nd
 WM:mg "Way"=some (.ref t.zo)
 TN:PySem.W.findIn K (.ref t.zo) "__init__"=some (some (.ref t.eg))
 Zu:Fun K "__init__" "Way.__init__" uv t.eg t.uh
 YI:mg "CarWay"=some (.ref t.md)
 xK:PySem.W.findIn K (.ref t.md) "__init__"=some (some (.ref t.Sf))
 io:Fun K "__init__" "CarWay.__init__" so t.Sf t.jh
 II:PySem.W.findIn K (.ref t.md) "ready"=some (some (.ref t.yg))
 qm:Fun K "ready" "CarWay.ready" Fm t.yg t.zi
 mJ:PySem.W.findIn K (.ref t.md) "fade"=some (some (.ref t.qh))
 Bn:Fun K "fade" "CarWay.fade" On t.qh t.yj
 oF:mg "FootWay"=some (.ref t.Ac)
 NI:PySem.W.findIn K (.ref t.Ac) "__init__"=some (some (.ref t.tf))
 Em:Fun K "__init__" "FootWay.__init__" Bm t.tf t.Ag
 vI:PySem.W.findIn K (.ref t.Ac) "ready"=some (some (.ref t.Lf))
 Fl:Fun K "ready" "FootWay.ready" Sk t.Lf t.yh
 LI:PySem.W.findIn K (.ref t.Ac) "fade"=some (some (.ref t.qg))
 um:Fun K "fade" "FootWay.fade" wm t.qg t.Hi
 WF:mg "TramWay"=some (.ref t.zc)
 OI:PySem.W.findIn K (.ref t.zc) "__init__"=some (some (.ref t.pf))
 Mm:Fun K "__init__" "TramWay.__init__" Dm t.pf t.ng
 ME:PySem.W.findIn K (.ref t.zc) "ready"=some (some (.ref t.Pf))
 Jl:Fun K "ready" "TramWay.ready" il t.Pf t.Lh
 KI:PySem.W.findIn K (.ref t.zc) "fade"=some (some (.ref t.vg))
 Am:Fun K "fade" "TramWay.fade" ym t.vg t.Ji
 BD:mg "Crossing"=some (.ref t.Vb)
 KG:PySem.W.findIn K (.ref t.Vb) "__init__"=some (some (.ref t.Se))
 Gk:Fun K "__init__" "Crossing.__init__" Ck t.Se t.Wf
 nE:PySem.W.findIn K (.ref t.Vb) "names"=some (some (.ref t.Tc))
 Yj:Fun K "names" "Crossing.names" Rg t.Tc t.Gd
 aE:PySem.W.findIn K (.ref t.Vb) "number"=some (some (.ref t.ce))
 Qi:Fun K "number" "Crossing.number" Si t.ce t.cf
 CD:PySem.W.findIn K (.ref t.Vb) "called"=some (some (.ref t.Nb))
 Ki:Fun K "called" "Crossing.called" Ui t.Nb t.Ub
 oP:mg "Plan"=some (.ref t.Je)
 cN:PySem.W.findIn K (.ref t.Je) "__init__"=some (some (.ref t.Bh))
 Ir:Fun K "__init__" "Plan.__init__" Ar t.Bh t.Cj
 Zi:Cls K t.Sb
 zK:Mk K t.Sb t.Zf
 Qm:Yb K t.Sb "many"
 Vj:Yb K t.Sb "alones"
 Nk:Yb K t.Sb "steps"
 Eb:Cls K t.Fb
 Xz:Mk K t.Fb t.Ae
 Xe:xv K t.Fb "ahead" t.wc
 em:xv K t.Fb "has_more" t.bd
 Qg:xv K t.Fb "take" t.Vc
 Zh:xv K t.Fb "one_of" t.Oc
 Ic:xv K t.Fb "figures" t.vc
 Uh:xv K t.Fb "finish" t.Pc
 cq:Yb K t.Fb "row"
 fj:Yb K t.Fb "told"
 Xf:Yb K t.Fb "place"
 WR:Cls K t.zo
 ZM:Yb K t.zo "kind"
 UM:Yb K t.zo "name"
 yL:Yb K t.zo "start"
 RN:Yb K t.zo "end"
 VN:Yb K t.zo "off"
 xN:Yb K t.zo "near"
 VL:Yb K t.zo "least"
 Xr:Cls K t.md
 XI:Mk K t.md t.Sf
 Qt:xv K t.md "ready" t.yg
 Kv:xv K t.md "fade" t.qh
 At:Yb K t.md "kind"
 Vt:Yb K t.md "name"
 Er:Yb K t.md "start"
 wv:Yb K t.md "end"
 Ew:Yb K t.md "off"
 zt:Yb K t.md "near"
 Zq:Yb K t.md "least"
 Oo:Cls K t.Ac
 TH:Mk K t.Ac t.tf
 gr:xv K t.Ac "ready" t.Lf
 Nt:xv K t.Ac "fade" t.qg
 Cr:Yb K t.Ac "kind"
 xr:Yb K t.Ac "name"
 Aq:Yb K t.Ac "start"
 ut:Yb K t.Ac "end"
 Ht:Yb K t.Ac "off"
 Xq:Yb K t.Ac "near"
 iq:Yb K t.Ac "least"
 ip:Cls K t.zc
 WG:Mk K t.zc t.pf
 Rr:xv K t.zc "ready" t.Pf
 Jt:xv K t.zc "fade" t.vg
 br:Yb K t.zc "kind"
 ir:Yb K t.zc "name"
 yq:Yb K t.zc "start"
 xt:Yb K t.zc "end"
 eu:Yb K t.zc "off"
 Pr:Yb K t.zc "near"
 kq:Yb K t.zc "least"
 Mb:Cls K t.Vb
 QD:Mk K t.Vb t.Se
 ue:xv K t.Vb "names" t.Tc
 pp:xv K t.Vb "number" t.ce
 jc:xv K t.Vb "called" t.Nb
 Ph:Yb K t.Vb "places"
 pk:Yb K t.Vb "ways"
 Eh:Yb K t.Vb "numbers"
 Aj:Cls K t.Je
 xP:Mk K t.Je t.Bh
 Tj:Yb K t.Je "crossing"
 Rp:Yb K t.Je "size"
 Gw:Yb K t.Je "spans"
 Pn:Yb K t.Je "lamps"
 Jm:Yb K t.Je "untils"
 YJ:t.zo ≠ t.md
 HI:t.zo ≠ t.Ac
 MI:t.zo ≠ t.zc
 Vi:t.md ≠ t.Ac
 jj:t.md ≠ t.zc
 ii:t.Ac ≠ t.zc
 No:QR K t.zo "__init__" t.eg
 sI:mg "FIGURES"=some t.Ow
 XE:Vd (.str (Str.ofString "0123456789")) t.Ow
 au:mg "LEAST_PLACES"=some t.Hm
 Dt:Vd (.int 2) t.Hm
 tE:mg "LETTERS"=some t.Gx
 FH:Vd (.str (Str.ofString "abcdefghijklmnopqrstuvwxyz")) t.Gx
 Mt:mg "MOST_FIGURES"=some t.vm
 Xt:Vd (.int 3) t.vm
 Ix:mg "MOST_LEAST"=some t.Np
 Vx:Vd (.int 60) t.Np
 Wt:mg "MOST_LETTERS"=some t.tm
 du:Vd (.int 8) t.tm
 Jz:mg "MOST_NEAR"=some t.dr
 jA:Vd (.int 30) t.dr
 fD:mg "MOST_OFF"=some t.qv
 gE:Vd (.int 30) t.qv
 Dv:mg "MOST_PLACES"=some t.Fn
 sw:Vd (.int 99) t.Fn
 Wy:mg "MOST_WAYS"=some t.Us
 Xy:Vd (.int 12) t.Us
 MQ:mg "all"=none
 kQ:mg "dict"=none
 re:mg "enumerate"=none
 KQ:mg "int"=none
 Dn:mg "len"=none
 Ex:mg "list"=none
 vJ:mg "max"=none
 fR:mg "min"=none
 me:mg "range"=none
 lp:mg "reversed"=none
 UQ:mg "set"=none
 NN:mg "str"=none
 TQ:mg "sum"=none
 EQ:mg "zip"=none
 vO:∀ (s:Shared) (u:Value),BindsTo s t.sJ ⟨[u],[]⟩ [("_law_script",u)]
section
variable {w:World} {K:PySem.W.Frag} {mg:Str→Option Value} {t:Adr} (T:Txt w K mg t)
include T
theorem Txt.VB:Xb K t.Oq q30 []:=T.Hq.binds fun _ _ _ _ _ _=>us3 fun _ _ _=>rfl
theorem Txt.Yw:Xb K t.Xh q22 []:=T.gl.binds fun _ _ _ _ _ _=>us3 fun _ _ _=>rfl
theorem Txt.IL:Xb K t.jy q10 []:=T.zB.binds fun _ _ _ _ _ _=>us3 fun _ _ _=>rfl
theorem Txt.zO:Xb K t.dG q10 []:=T.OJ.binds fun _ _ _ _ _ _=>us3 fun _ _ _=>rfl
theorem Txt.gq:Xb K t.uf ["wanted"] []:=T.Pg.binds fun _ _ _ _ _ _=>us1 fun _=>rfl
theorem Txt.Kk:Xb K t.ae q9 []:=T.Nf.binds fun _ _ _ _ _ _=>us3 fun _ _ _=>rfl
theorem Txt.Gp:Xb K t.Yh q9 []:=T.si.binds fun _ _ _ _ _ _=>us3 fun _ _ _=>rfl
theorem Txt.El:Xb K t.je q19 []:=T.Yf.binds fun _ _ _ _ _ _=>us5 fun _ _ _ _ _=>rfl
theorem Txt.kx:Xb K t.Mg q23 []:=T.Cl.binds fun _ _ _ _ _ _=>us4 fun _ _ _ _=>rfl
theorem Txt.Zk:Xb K t.Kd q31 []:=T.Re.binds fun _ _ _ _ _ _=>us2 fun _ _=>rfl
theorem Txt.SC:Xb K t.Rl ["wanted"] []:=T.Ap.binds fun _ _ _ _ _ _=>us1 fun _=>rfl
theorem Txt.jm:Xb K t.Yd q32 []:=T.jf.binds fun _ _ _ _ _ _=>us2 fun _ _=>rfl
theorem Txt.ap:Xb K t.Ve q33 []:=T.gg.binds fun _ _ _ _ _ _=>us3 fun _ _ _=>rfl
theorem Txt.ar:Xb K t.Oi q20 []:=T.Ni.binds fun _ _ _ _ _ _=>us4 fun _ _ _ _=>rfl
theorem Txt.Fj:Xb K t.fh q34 []:=T.Vf.binds fun _ _ _ _ _ _=>us3 fun _ _ _=>rfl
theorem Txt.fw:Xb K t.gh ["wanted"] []:=T.Lj.binds fun _ _ _ _ _ _=>us1 fun _=>rfl
theorem Txt.NC:Xb K t.Yl q35 []:=T.Ep.binds fun _ _ _ _ _ _=>us2 fun _ _=>rfl
theorem Txt.EM:Xb K t.Nv ["text"] []:=T.bA.binds fun _ _ _ _ _ _=>us1 fun _=>rfl
theorem Txt.Lp:Xb K t.Lg q14 []:=T.Qh.binds fun _ _ _ _ _ _=>us3 fun _ _ _=>rfl
theorem Txt.Az:Xb K t.Kj q24 []:=T.wn.binds fun _ _ _ _ _ _=>us2 fun _ _=>rfl
theorem Txt.oI:Xb K t.Jn q36 []:=T.mr.binds fun _ _ _ _ _ _=>us3 fun _ _ _=>rfl
theorem Txt.YG:Xb K t.Mn ["word"] []:=T.Fs.binds fun _ _ _ _ _ _=>us1 fun _=>rfl
theorem Txt.JH:Xb K t.Xn ["text"] []:=T.Qs.binds fun _ _ _ _ _ _=>us1 fun _=>rfl
theorem Txt.Yz:Xb K t.Ej ["reader"] []:=T.cn.binds fun _ _ _ _ _ _=>us1 fun _=>rfl
theorem Txt.Es:Xb K t.Mf q37 []:=T.Gh.binds fun _ _ _ _ _ _=>us2 fun _ _=>rfl
theorem Txt.nD:Xb K t.Ml q25 []:=T.Dp.binds fun _ _ _ _ _ _=>us3 fun _ _ _=>rfl
theorem Txt.ND:Xb K t.Wl q26 []:=T.qp.binds fun _ _ _ _ _ _=>us7 fun _ _ _ _ _ _ _=>rfl
theorem Txt.xD:Xb K t.Ll q38 []:=T.jp.binds fun _ _ _ _ _ _=>us3 fun _ _ _=>rfl
theorem Txt.Yq:Xb K t.Rf ["text"] []:=T.zh.binds fun _ _ _ _ _ _=>us1 fun _=>rfl
theorem Txt.AJ:Xb K t.Jq q11 []:=T.Cv.binds fun _ _ _ _ _ _=>us3 fun _ _ _=>rfl
theorem Txt.cL:Xb K t.KB q11 []:=T.EC.binds fun _ _ _ _ _ _=>us3 fun _ _ _=>rfl
theorem Txt.bG:Xb K t.Wn q39 []:=T.As.binds fun _ _ _ _ _ _=>us2 fun _ _=>rfl
theorem Txt.rm:Xb K t.qf ["marks"] []:=T.Dg.binds fun _ _ _ _ _ _=>us1 fun _=>rfl
theorem Txt.Zt:Xb K t.wg ["marks"] []:=T.Ai.binds fun _ _ _ _ _ _=>us1 fun _=>rfl
theorem Txt.Xl:Xb K t.dg q12 []:=T.sh.binds fun _ _ _ _ _ _=>us2 fun _ _=>rfl
theorem Txt.Jp:Xb K t.Hg q27 []:=T.Wh.binds fun _ _ _ _ _ _=>us3 fun _ _ _=>rfl
theorem Txt.uO:Xb K t.OB q40 []:=T.HG.binds fun _ _ _ _ _ _=>us3 fun _ _ _=>rfl
theorem Txt.ot:Xb K t.Bg q41 []:=T.Ei.binds fun _ _ _ _ _ _=>us2 fun _ _=>rfl
theorem Txt.Bl:Xb K t.Td q42 []:=T.Pe.binds fun _ _ _ _ _ _=>us3 fun _ _ _=>rfl
theorem Txt.Ct:Xb K t.lg q13 []:=T.Gi.binds fun _ _ _ _ _ _=>us3 fun _ _ _=>rfl
theorem Txt.Io:Xb K t.ff q43 []:=T.kg.binds fun _ _ _ _ _ _=>us5 fun _ _ _ _ _=>rfl
theorem Txt.Ut:Xb K t.ug q13 []:=T.Ii.binds fun _ _ _ _ _ _=>us3 fun _ _ _=>rfl
theorem Txt.nz:Xb K t.vj q44 []:=T.rn.binds fun _ _ _ _ _ _=>us3 fun _ _ _=>rfl
theorem Txt.bc:Xb K t.Df q15 []:=T.Rb.binds fun _ _ _ _ _ _=>us3 fun _ _ _=>rfl
theorem Txt.Aw:Xb K t.ph q16 []:=T.oj.binds fun _ _ _ _ _ _=>us1 fun _=>rfl
theorem Txt.Rx:Xb K t.ei q45 []:=T.Hl.binds fun _ _ _ _ _ _=>us2 fun _ _=>rfl
theorem Txt.lz:Xb K t.Dj q46 []:=T.Rm.binds fun _ _ _ _ _ _=>us3 fun _ _ _=>rfl
theorem Txt.Rz:Xb K t.xj q47 []:=T.jn.binds fun _ _ _ _ _ _=>us2 fun _ _=>rfl
theorem Txt.Iv:Xb K t.eh q49 []:=T.bo.binds fun _ _ _ _ _ _=>us3 fun _ _ _=>rfl
theorem Txt.aq:Xb K t.xf q28 []:=T.jk.binds fun _ _ _ _ _ _=>us3 fun _ _ _=>rfl
theorem Txt.Ze:Xb K t.Gc ["self"] []:=T.Yi.binds fun _ _ _ _ _ _=>us1 fun _=>rfl
theorem Txt.mm:Xb K t.Zd ["self"] []:=T.Yg.binds fun _ _ _ _ _ _=>us1 fun _=>rfl
theorem Txt.Sg:Xb K t.Fd q17 []:=T.ik.binds fun _ _ _ _ _ _=>us2 fun _ _=>rfl
theorem Txt.Sh:Xb K t.Ud q29 []:=T.Vh.binds fun _ _ _ _ _ _=>us2 fun _ _=>rfl
theorem Txt.Hc:Xb K t.Ec q21 []:=T.Hh.binds fun _ _ _ _ _ _=>us3 fun _ _ _=>rfl
theorem Txt.Nh:Xb K t.Nd ["self"] []:=T.vi.binds fun _ _ _ _ _ _=>us1 fun _=>rfl
theorem Txt.bp:Xb K t.uh q18 []:=T.Zu.binds fun _ _ _ _ _ _=>us8 fun _ _ _ _ _ _ _ _=>rfl
theorem Txt.gw:Xb K t.jh q8 []:=T.io.binds fun _ _ _ _ _ _=>us7 fun _ _ _ _ _ _ _=>rfl
theorem Txt.yt:Xb K t.zi ["self"] []:=T.qm.binds fun _ _ _ _ _ _=>us1 fun _=>rfl
theorem Txt.Dw:Xb K t.yj ["self"] []:=T.Bn.binds fun _ _ _ _ _ _=>us1 fun _=>rfl
theorem Txt.Ft:Xb K t.Ag q8 []:=T.Em.binds fun _ _ _ _ _ _=>us7 fun _ _ _ _ _ _ _=>rfl
theorem Txt.Vs:Xb K t.yh ["self"] []:=T.Fl.binds fun _ _ _ _ _ _=>us1 fun _=>rfl
theorem Txt.bu:Xb K t.Hi ["self"] []:=T.um.binds fun _ _ _ _ _ _=>us1 fun _=>rfl
theorem Txt.Rt:Xb K t.ng q8 []:=T.Mm.binds fun _ _ _ _ _ _=>us7 fun _ _ _ _ _ _ _=>rfl
theorem Txt.Vq:Xb K t.Lh ["self"] []:=T.Jl.binds fun _ _ _ _ _ _=>us1 fun _=>rfl
theorem Txt.vt:Xb K t.Ji ["self"] []:=T.Am.binds fun _ _ _ _ _ _=>us1 fun _=>rfl
theorem Txt.zr:Xb K t.Wf q50 []:=T.Gk.binds fun _ _ _ _ _ _=>us3 fun _ _ _=>rfl
theorem Txt.Be:Xb K t.Gd ["self"] []:=T.Yj.binds fun _ _ _ _ _ _=>us1 fun _=>rfl
theorem Txt.Ho:Xb K t.cf q5 []:=T.Qi.binds fun _ _ _ _ _ _=>us2 fun _ _=>rfl
theorem Txt.kc:Xb K t.Ub q5 []:=T.Ki.binds fun _ _ _ _ _ _=>us2 fun _ _=>rfl
theorem Txt.Fz:Xb K t.Cj q51 []:=T.Ir.binds fun _ _ _ _ _ _=>us4 fun _ _ _ _=>rfl
end
noncomputable def nj (ns:List Int) (k m:Int):Int:=
 ((((if 0 < (ns.length:Int) then ns.getD (k % (ns.length:Int)).toNat 0 else 0) % 1000003 + 31 * k * k + 1) * 48271 % 999983 * 7919) % 524287) % m
theorem gf (ns:List Int) (k:Int) {m:Int} (h:0 < m):0 ≤ nj ns k m:=Int.emod_nonneg _ (by omega)
theorem lf (ns:List Int) (k:Int) {m:Int} (h:0 < m):nj ns k m < m:=Int.emod_lt_of_pos _ h
def Wd (K:PySem.W.Frag) (a:Addr) (ns:List Int):Sp:=fun vs H Q _=>∃ k m,vs=[.ref a,.int k,.int m]∧Sc K a ns H∧(0 ≤ k∧k < 1000000)∧0 < m∧Q (.int (nj ns k m)) H
section
variable {P:Program} {w:World} {K:PySem.W.Frag} {mg:Str→Option Value} {base:Heap} {t:Adr}
theorem Qv (T:Txt w K mg t) (a:Addr) (ns:List Int) (h63:ns.length ≤ 63):Gb P w K mg base CX0 1 t.Ef t.Df q15 (Wd K a ns):=by
 refine T.Rb.ok Uk (fun vs H Q E h=>?_) (fun _ _ _ s H vs Q E hr h=>?_)
 ·obtain ⟨k,m,rfl,_⟩:=h;rfl
 obtain ⟨k,m,rfl,S,⟨h0,h1⟩,hm,q⟩:=h;refine ⟨_,(cb (xb (i:=3) Uk.nd (Sl (Pb Kz (jd Bc rfl T.Dn Nc (ab (pv 0) gb)) qb (gc _)) (Zb He (pv 0) (Lb Te (pv 1) (jd Bc rfl T.Dn Nc (ab (pv 0) gb)))) qb))
   (cb (xb (i:=4) Uk.nd (Lb Dc (Lb Dc (Lb Te (pv 3) qb) (Lb Ri (Lb Ri qb (pv 1)) (pv 1))) qb))
   (ib (Cb (Lb Te (Lb Te (Lb Ri (Lb Te (Lb Ri (pv 4) qb) qb) qb) qb) (pv 2)))))),?_⟩
 walk_at "RD";refine ⟨_,.inl S.seq,?_⟩;rw [List.length_map];have hkk:(0:Int) ≤ k * k∧k * k < 1000000 * 1000000:=⟨Int.mul_nonneg h0 h0,Int.mul_lt_mul' (by omega) h1 h0 (by decide)⟩;have fin:∀ i:Int,(0:Int) < 1000003∧dM 31 k∧dM (31 * k) k∧dM (i % 1000003 + 31 * k * k + 1) 48271∧(0:Int) < 999983∧dM ((i % 1000003 + 31 * k * k + 1) * 48271 % 999983) 7919∧(0:Int) < 524287∧0 < m:=by
  intro i;refine ⟨by decide,.inl (by decide),.inr (by omega),.inr (by decide),by decide,.inr (by decide),by decide,hm⟩
 by_cases c:(0:Int) < (ns.length:Int)
 ·rw [if_pos (decide_eq_true c)];have hk:0 ≤ k % (ns.length:Int)∧k % (ns.length:Int) < (ns.length:Int):=⟨Int.emod_nonneg _ (by omega),Int.emod_lt_of_pos _ c⟩;refine ⟨_,.inl S.seq,by rw [List.length_map];exact c,_,S.seq,?_⟩;rw [List.length_map];have hj:(k % (ns.length:Int)).toNat < ns.length:=by omega
  refine ⟨.int ns[(k % (ns.length:Int)).toNat],?_,_,rfl,?_⟩
  ·have e:=Jb (xs:=ns.map V.int) (j:=(k % (ns.length:Int)).toNat) (v:=.int ns[(k % (ns.length:Int)).toNat]) (by rw [List.getElem?_map,List.getElem?_eq_getElem hj] <;> rfl);rwa [Int.toNat_of_nonneg hk.1] at e
  ·obtain ⟨f1,f2,f3,f4,f5,f6,f7,f8⟩:=fin ns[(k % (ns.length:Int)).toNat];refine ⟨f1,f2,f3,f4,f5,f6,f7,f8,?_⟩;have e:nj ns k m=(((ns[(k % (ns.length:Int)).toNat] % 1000003 + 31 * k * k + 1) * 48271 % 999983 * 7919) % 524287) % m:=by
    unfold nj;rw [if_pos c,List.getD_eq_getElem?_getD,List.getElem?_eq_getElem hj];rfl
   rw [← e];exact q
 ·rw [if_neg (by simpa using c)];obtain ⟨f1,f2,f3,f4,f5,f6,f7,f8⟩:=fin 0;refine ⟨f1,f2,f3,f4,f5,f6,f7,f8,?_⟩;have e:nj ns k m=(((0 % 1000003 + 31 * k * k + 1) * 48271 % 999983 * 7919) % 524287) % m:=by
   unfold nj;rw [if_neg c]
  rw [← e];exact q
end
theorem wQ {w:Str}:w=Str.ofString "" ↔ w.length=0:=by
 constructor
 ·rintro rfl;decide +kernel
 ·intro h;have e:w.cps=#[]:=Array.eq_empty_of_size_eq_zero h;have e2:(Str.ofString "").cps=#[]:=by decide +kernel
  cases w;cases h2:Str.ofString "";rw [h2] at e2;simp only at e e2;rw [e,e2]
noncomputable def inL (sg:Str) (c:Nat):Bool:=!(Builtin.Str.occurrences sg (Lw c) 0 sg.length 1).isEmpty
theorem Mz (sg:Str) (c:Nat):inL sg c=decide (c ∈ sg.cps.toList):=StrLaws.found_one sg c
noncomputable def made (w sg:Str) (m:Int):Bool:=if w=Str.ofString "" then false else if m < (w.length:Int) then false else w.cps.toList.all (inL sg)
def ms:Sp:=fun vs H Q _=>∃ w sg m,vs=[.str w,.str sg,.int m]∧w.length ≤ 1000∧NoT H∧Q (.bl (made w sg m)) H
def qJ:Sp:=fun vs H Q _=>∃ w sg m,vs=[.str w,.str sg,.int m]∧w.length ≤ 1000∧∀ H',Ib H H'→Q (.bl (made w sg m)) H'
section
variable {P:Program} {w:World} {K:PySem.W.Frag} {mg:Str→Option Value} {base:Heap} {t:Adr}
theorem iG (T:Txt w K mg t):Gb P w K mg base CX0 1 t.Og t.Lg q14 ms:=by
 refine Gb.forget (sp:=qJ) ?_ fun vs H Q E h=>?_
 ·refine T.Qh.ok Mv (fun vs H Q E h=>?_) (fun _ _ _ s H vs Q E hr h=>?_)
  ·obtain ⟨w,sg,m,rfl,_⟩:=h;rfl
  obtain ⟨w,sg,m,rfl,hz,q⟩:=h;have hz':w.length ≤ sizeLine:=Nat.le_trans hz (by decide);refine ⟨_,(cb (Le (PW.pt (cy (Pb fm (pv 0) vd (gc _)) (Vp (Pb Kz (jd Zx rfl T.Dn Nc (ab (pv 0) gb)) (pv 2) (gc _))))) (ib (Cb Uo)) qc)
   (ib (Cb (jd (RJ rfl) rfl T.MQ dD (ab (Bf rfl (vP (pv 0)) (ic (sc:=jb Il) rfl (by decide +kernel)) (N:=["sign","signs"]) (sel:=[none,some 1]) (uc (M:=q14) (by decide +kernel)) (Blk.of (fun _ _ _ _=>(lb (i:=0) (Ue (N:=["sign","signs"]) (by decide +kernel) rfl))) (fun _ _ _ _=>⟨_,pe,by walk_at "B"⟩) (fun _ _ _ _=>⟨_,(Qf uH (pv 0) (pv 1) (by with_unfolding_all rfl)),by walk_at "B"⟩))) gb))))),?_⟩
  walk_at "RD";refine ac (decide (w=Str.ofString "") || decide (m < (w.length:Int))) (fun Q hQ=>?_) (fun hb=>?_) (fun hb=>?_)
  ·walk_at "RD";by_cases c:w=Str.ofString ""
   ·rw [if_pos (decide_eq_true c)];rw [decide_eq_true c,Bool.true_or] at hQ;exact hQ
   ·rw [if_neg (by simpa using c)];rw [decide_eq_false c,Bool.false_or] at hQ;exact ⟨hz',hQ⟩
  ·walk_at "RD";have e:made w sg m=false:=by
    unfold made;simp only [Bool.or_eq_true,decide_eq_true_eq] at hb;by_cases c:w=Str.ofString ""
    ·rw [if_pos c]
    ·rw [if_neg c,if_pos (hb.resolve_left c)]
   have:=q H (Ib.refl H);rw [e] at this;exact this
  ·walk_at "RD";have e:made w sg m=w.cps.toList.all (inL sg):=by
    unfold made;simp only [Bool.or_eq_false_iff,decide_eq_false_iff_not] at hb;rw [if_neg hb.1,if_neg hb.2]
   refine Fc.its_map (fun x=>match x with | .str y=>.bl (!(Builtin.Str.occurrences sg y 0 sg.length 1).isEmpty) | _=>.non) (by rw [ao];exact hz') (fun i x N hx hN=>?_) (fun p hp=>?_)
   ·unfold Xj at hx;rw [List.getElem?_map] at hx;cases hc:w.cps.toList[i]? with
    | none=>rw [hc] at hx;cases hx
    | some c=>
     rw [hc] at hx;have hx':V.str (Lw c)=x:=Option.some.inj hx;subst hx';walk_at "RD";exact ⟨Sub.name,hN⟩
   ·refine ⟨p,rfl,w.cps.toList.map (inL sg),SqL.of ?_,?_⟩
    ·rw [db];unfold Xj;rw [List.map_map,List.map_map];rfl
    ·have:=q (upd H p (.lst (List.map (fun x=>match x with | .str y=>.bl (!(Builtin.Str.occurrences sg y 0 sg.length 1).isEmpty) | _=>.non) (Xj w)))) (fb hp);rw [e] at this;rw [List.all_map];exact this
 ·obtain ⟨w,sg,m,e,hz,nt,q⟩:=h;exact ⟨nt,w,sg,m,e,hz,fun H' sm=>⟨sm,q⟩⟩
end
noncomputable abbrev HN:Str:=Str.ofString "0123456789"
noncomputable def rq (c:Nat):Bool:=decide (48 ≤ c∧c ≤ 57)
theorem MJ (c:Nat):inL HN c=rq c:=by
 rw [Mz,show HN.cps.toList=List.range' 48 10 by decide +kernel];unfold rq;refine decide_eq_decide.mpr ?_;rw [List.mem_range'_1];exact and_congr_right fun _=>show c < 58↔c ≤ 57 from Nat.lt_succ_iff
noncomputable abbrev cs (w:Str):List Nat:=w.cps.toList
theorem VF (w:Str):(cs w).length=w.length:=by simp [cs,Str.length]
noncomputable def okB (w:Str):Bool:=decide (1 ≤ (cs w).length) && decide ((cs w).length ≤ 3) && (cs w).all rq && (decide ((cs w).length ≤ 1) || decide ((cs w).headD 0 ≠ 48))
noncomputable abbrev val (w:Str):Int:=((NumText.digitsVal (cs w):Nat):Int)
noncomputable def JI (w:Str) (lo hi:Int):V:=if okB w && !(decide (val w < lo) || decide (hi < val w)) then .int (val w) else .non
theorem jI {w:Str} {c:Nat}:w=⟨#[c]⟩↔cs w=[c]:=by
 constructor
 ·rintro rfl;rfl
 ·intro h;cases w with
  | mk a=>
   have e:a=#[c]:=Array.toList_inj.mp h;rw [e]
theorem jz:Str.ofString "0"=⟨#[48]⟩:=by decide +kernel
theorem Pw (w:Str):made w HN 3=(decide (1 ≤ (cs w).length) && decide ((cs w).length ≤ 3) && (cs w).all rq):=by
 unfold made;have e:(inL HN)=rq:=funext MJ;rw [e];by_cases h1:w=Str.ofString ""
 ·have h2:=wQ.mp h1;rw [if_pos h1,VF,h2];rfl
 ·have h2:¬ w.length=0:=fun z=>h1 (wQ.mpr z)
  rw [if_neg h1,VF];by_cases h3:(3:Int) < (w.length:Int)
  ·rw [if_pos h3,decide_eq_false (show ¬ w.length ≤ 3 by omega),Bool.and_false,Bool.false_and]
  ·rw [if_neg h3,decide_eq_true (show 1 ≤ w.length by omega),decide_eq_true (show w.length ≤ 3 by omega)];rfl
theorem Yv {l:List Nat} (h:l.all rq=true):NumText.AllDigits l:=fun c hc=>by
 have:=List.all_eq_true.mp h c hc;simpa [rq] using this
theorem pQ {w:Str} (h:okB w=true):(1 ≤ (cs w).length∧(cs w).length ≤ 3)∧(cs w).all rq=true:=by
 unfold okB at h;simp only [Bool.and_eq_true,decide_eq_true_eq] at h;exact h.1
def nI:Sp:=fun vs H Q _=>∃ w,vs=[.str w,.int 3]∧w.length ≤ 1000∧NoT H∧Q (.bl (okB w)) H
def TK:Sp:=fun vs H Q _=>∃ w lo hi,vs=[.str w,.int lo,.int hi]∧w.length ≤ 1000∧NoT H∧Q (JI w lo hi) H
section
variable {P:Program} {w:World} {K:PySem.W.Frag} {mg:Str→Option Value} {base:Heap} {t:Adr}
theorem iO (T:Txt w K mg t):Gb P w K mg base CX0 2 t.Jj t.Kj q24 nI:=by
 have g16:Gb P w K mg base CX0 1 t.Og t.Lg q14 ms:=iG T;refine T.wn.ok Nx (fun vs H Q E h=>?_) (fun _ _ _ s H vs Q E hr h=>?_)
 ·obtain ⟨w,rfl,_⟩:=h;rfl
 obtain ⟨w,rfl,hz,nt,q⟩:=h;have hz':w.length ≤ sizeLine:=Nat.le_trans hz (by decide);refine ⟨_,(cb (Le (Wq (Cm (ub g16 hr T.Pp T.Qh.kp T.Lp (ab (pv 0) (ab (Bi rfl T.sI T.XE) (ab (pv 1) gb)))))) (ib (Cb Uo)) qc)
   (ib (Cb (qN (Qf fm (pv 0) vd (gc _)) (Bx (Qf Os (Zb QG (pv 0) qb) vd (gc _))))))),?_⟩
 refine ac (!made w HN 3) (fun Q hQ=>?_) (fun hb=>?_) (fun hb=>?_)
 ·(walk_at "RD"; repeat (dsimp only [ms];walk_at "RD"));exact ⟨hz,nt,hQ⟩
 ·walk_at "RD";have e:okB w=false:=by
   have hb':made w HN 3=false:=by simpa using hb
   rw [Pw] at hb';unfold okB;rw [hb'];rfl
  rw [e] at q;exact q
 ·have hb':made w HN 3=true:=by simpa using hb
  rw [Pw] at hb';rw [se];dsimp only;refine VM (.bl (okB w)) (fun Q hQ=>?_) ?_
  case refine_2=>exact q
  walk_at "RD";have hb2:(1 ≤ (cs w).length∧(cs w).length ≤ 3)∧(cs w).all rq=true:=by
   simpa only [Bool.and_eq_true,decide_eq_true_eq] using hb'
  obtain ⟨c,r,hcr⟩:∃ c r,cs w=c :: r:=by
   cases h:cs w with
   | nil=>rw [h] at hb2;exact absurd hb2.1.1 (by decide)
   | cons c r=>exact ⟨c,r,rfl⟩
  have ok:okB w=(decide ((cs w).length ≤ 1) || decide ((cs w).headD 0 ≠ 48)):=by
   unfold okB;rw [hb',Bool.true_and]
  by_cases c0:w=Str.ofString "0"
  ·rw [if_pos (decide_eq_true c0)];have e:cs w=[48]:=by rw [c0,jz]
   rw [ok,e] at hQ;exact hQ
  ·rw [if_neg (by simpa using c0)];refine ⟨hz',c,?_,?_⟩
   ·have:=Jb (xs:=cs w) (j:=0) (v:=c) (by rw [hcr];rfl);exact this
   ·have e2:decide ((⟨#[c]⟩:Str)=Str.ofString "0")=decide (c=48):=by
     rw [jz];by_cases h48:c=48
     ·rw [h48];simp
     ·rw [decide_eq_false h48,decide_eq_false];intro z;have z2:=jI.mp z;exact h48 (List.cons.inj z2).1
    rw [e2];have e3:okB w = !decide (c=48):=by
     rw [ok,hcr];show (decide ((c :: r).length ≤ 1) || decide (c ≠ 48))=_;by_cases h48:c=48
     ·have hr:r ≠ []:=fun z=>c0 (by rw [jz];exact jI.mpr (by rw [hcr,z,h48]))
      have:¬ (c :: r).length ≤ 1:=by
       cases r with
       | nil=>exact absurd rfl hr
       | cons d r=>simp
      rw [decide_eq_false this,h48];rfl
     ·rw [decide_eq_true h48,Bool.or_true,decide_eq_false h48];rfl
    rw [← e3];exact hQ
theorem aP (T:Txt w K mg t):Gb P w K mg base CX0 3 t.vo t.Jn q36 TK:=by
 have g29:Gb P w K mg base CX0 2 t.Jj t.Kj q24 nI:=iO T;refine T.mr.ok av (fun vs H Q E h=>?_) (fun _ _ _ s H vs Q E hr h=>?_)
 ·obtain ⟨w,lo,hi,rfl,_⟩:=h;rfl
 obtain ⟨w,lo,hi,rfl,hz,nt,q⟩:=h;refine ⟨_,(cb (Le (Wq (Cm (ub g29 hr T.pz T.wn.kp T.Az (ab (pv 0) (ab (Bi rfl T.Mt T.Xt) gb))))) (ib (Cb Ug)) qc)
   (cb (xb (i:=3) av.nd (Ig BG rfl T.KQ OC (ab (pv 0) gb)))
   (cb (Le (PW.pt (cy (Pb Ms (pv 3) (pv 1) (gc _)) (Vp (Pb Kz (pv 3) (pv 2) (gc _))))) (ib (Cb Ug)) qc)
   (ib (Cb (pv 3)))))),?_⟩
 refine ac (!okB w) (fun Q hQ=>?_) (fun hb=>?_) (fun hb=>?_)
 ·(walk_at "RD"; repeat (dsimp only [nI];walk_at "RD"));exact ⟨hz,nt,hQ⟩
 ·walk_at "RD";have hb':okB w=false:=by simpa using hb
  have e:JI w lo hi=.non:=by unfold JI;rw [hb'];rfl
  rw [e] at q;exact q
 ·have hb':okB w=true:=by simpa using hb
  have h3:(1 ≤ (cs w).length∧(cs w).length ≤ 3)∧(cs w).all rq=true:=by
   have:=hb';unfold okB at this;simp only [Bool.and_eq_true,decide_eq_true_eq] at this;exact this.1
  have hl:=VF w;have hi':intText? w=some (val w):=intText_digits (Yv h3.2) (fun z=>by have z':cs w=[]:=z;rw [z'] at h3;exact absurd h3.1.1 (by decide)) (by omega);walk_at "RD";refine ⟨val w,hi',by omega,?_⟩;refine ac (decide (val w < lo) || decide (hi < val w)) (fun Q hQ=>?_) (fun hc=>?_) (fun hc=>?_)
  ·walk_at "RD";by_cases c:val w < lo
   ·rw [if_pos (decide_eq_true c)];rw [decide_eq_true c,Bool.true_or] at hQ;exact hQ
   ·rw [if_neg (by simpa using c)];rw [decide_eq_false c,Bool.false_or] at hQ;exact hQ
  ·walk_at "RD";have e:JI w lo hi=.non:=by unfold JI;rw [hb',hc];rfl
   rw [e] at q;exact q
  ·walk_at "RD";have e:JI w lo hi=.int (val w):=by unfold JI;rw [hb',hc];rfl
   rw [e] at q;exact q
end
theorem kr {n:Nat} (h:n < 1000):n.log2 < 1920:=by
 by_cases h0:n=0
 ·subst h0;decide
 ·rw [Nat.log2_lt h0];exact Nat.lt_of_lt_of_le h (Nat.le_trans (show 1000 ≤ 2 ^ 10 by decide) (Nat.pow_le_pow_right (by decide) (by decide)))
theorem vK:∀ n,n < 1000→(Nat.toDigits 10 n).length ≤ 3:=by decide +kernel
theorem yM {n:Int} (h0:0 ≤ n) (h1:n ≤ 999):(Str.ofString (toString n)).length ≤ 3:=by
 have e:=PySem.W.KIN.signs_num n.toNat;rw [Int.toNat_of_nonneg h0] at e;have l:(Str.ofString (toString n)).length=(Str.ofString (toString n)).cps.toList.length:=by simp [Str.length]
 rw [l,e,List.length_map];exact vK _ (by omega)
noncomputable abbrev Fi:Str:=Str.ofString "abcdefghijklmnopqrstuvwxyz"
def CI:Sp:=fun vs H Q _=>∃ w,vs=[.str w]∧w.length ≤ 1000∧NoT H∧Q (.bl (made w Fi 8)) H
section
variable {P:Program} {w:World} {K:PySem.W.Frag} {mg:Str→Option Value} {base:Heap} {t:Adr}
theorem gN (T:Txt w K mg t):Gb P w K mg base CX0 2 t.xn t.Mn ["word"] CI:=by
 have g16:Gb P w K mg base CX0 1 t.Og t.Lg q14 ms:=iG T;refine T.Fs.ok MC (fun vs H Q E h=>?_) (fun _ _ _ s H vs Q E hr h=>?_)
 ·obtain ⟨w,rfl,_⟩:=h;rfl
 obtain ⟨w,rfl,hz,nt,q⟩:=h;refine ⟨_,(ib (Cb (ub g16 hr T.Pp T.Qh.kp T.Lp (ab (pv 0) (ab (Bi rfl T.tE T.FH) (ab (Bi rfl T.Wt T.du) gb)))))),?_⟩;(walk_at "RD"; repeat (dsimp only [ms];walk_at "RD"));exact ⟨hz,nt,q⟩
end
noncomputable abbrev nl:Str:=Str.ofString "\n"
noncomputable abbrev bk:Str:=Str.ofString " "
theorem IQ:nl=⟨#[10]⟩:=by decide +kernel
theorem NO:bk=⟨#[32]⟩:=by decide +kernel
noncomputable def Pj (x:Str):List (List Str):=(Txt.split x nl).map fun r=>Txt.split r bk
theorem gu:∀ {ys:List Str} {y:Str},y ∈ ys→y.length ≤ (ys.map (·.length)).sum
 | [],_,h=>nomatch h
 | a :: r,y,h=>by
  rw [List.map_cons,List.sum_cons];rcases List.mem_cons.mp h with rfl | h
  ·omega
  ·have:=gu h;omega
theorem CN {x y r:Str} (hy:1 ≤ y.length) (h:r ∈ Txt.split x y):r.length ≤ x.length + 1:=by
 have h1:=PyProof.Rows.split_weight x y hy;have h2:=gu h;omega
theorem Uq {x y:Str} (hy:1 ≤ y.length):(Txt.split x y).length ≤ x.length + 1:=by
 have h1:=PyProof.Rows.split_weight x y hy;omega
theorem FK (x y:Str):Txt.split x y ≠ []:=by
 unfold Txt.split;split
 ·simp
 ·split
  ·simp
  ·rw [StrLaws.partsBetween_eq];obtain ⟨p,r,e⟩:=StrLaws.partsFrom_ne x y.length 0 (Builtin.Str.occurrences x y 0 x.length (x.length + 1));rw [e];simp
def LL (H0 H:Hp) (p:Addr) (rows:List (List Str)):Prop:=∃ qs:List Addr,H p=some (.lst (qs.map V.ref))∧H0 p=none∧p ∉ qs∧qs.length=rows.length∧∀ (i:Nat) (q:Addr) (r:List Str),qs[i]? = some q→rows[i]? = some r→H q=some (.lst (Qb r))∧H0 q=none
def mB:Sp:=fun vs H Q _=>∃ x,vs=[.str x]∧x.length ≤ 20000∧NoT H∧∀ p H',Ib H H'→NoT H'→LL H H' p (Pj x)→Q (.ref p) H'
theorem pB:nl.length=1:=by decide +kernel
theorem FA:bk.length=1:=by decide +kernel
section
variable {P:Program} {w:World} {K:PySem.W.Frag} {mg:Str→Option Value} {base:Heap} {t:Adr}
theorem wJ (T:Txt w K mg t):Gb P w K mg base CX0 1 t.yv t.Nv ["text"] mB:=by
 refine T.bA.ok gK (fun vs H Q E h=>?_) (fun _ _ _ s H vs Q E hr h=>?_)
 ·obtain ⟨x,rfl,_⟩:=h;rfl
 obtain ⟨x,rfl,hz,nt,q⟩:=h;have hzz:∀ n:Nat,n ≤ 40000→n ≤ sizeLine:=fun n h=>Nat.le_trans h (by decide)
 refine ⟨_,(ib (Cb (Bf rfl (ld (Bp PySem.F.plainAttrs_str PySem.F.slot_str_split PySem.F.type_str_split nB (pv 0) (ab vd gb))) (ic (sc:=jb Wz) rfl (by decide +kernel)) (N:=["row"]) (sel:=[none]) (uc (M:=["text"]) (by decide +kernel)) (Blk.of (fun _ _ _ _=>(lb (i:=0) (Ue (N:=["row"]) (by decide +kernel) rfl))) (fun _ _ _ _=>⟨_,pe,by walk_at "B"⟩) (fun _ _ _ _=>⟨_,(Bp PySem.F.plainAttrs_str PySem.F.slot_str_split PySem.F.type_str_split nB (pv 0) (ab vd gb)),by walk_at "B"⟩))))),?_⟩;walk_at "RD";have hy:1 ≤ nl.length:=by rw [pB];exact Nat.le_refl _
 have hy2:1 ≤ bk.length:=by rw [FA];exact Nat.le_refl _
 have hs:=Uq (x:=x) hy;have hs':(Qb (Txt.split x nl)).length ≤ sizeLine:=by unfold Qb;rw [List.length_map];exact hzz _ (by omega)
 refine ⟨by rw [pB];decide,hzz _ (by omega),hzz _ (show (Txt.split x nl).length ≤ 40000 by omega),fun p hp=>⟨⟨_,SqL.of db⟩,?_⟩⟩;refine Fc.list_mk (xs:=Qb (Txt.split x nl)) (fun v=>match v with | .str r=>.lst (Qb (Txt.split r bk)) | _=>.lst []) (SqL.of db) hs' (fun v=>by cases v <;> rfl) (fun i v H1 N hx sm nt1 hN=>?_) (fun qs H1 sm nt1 hl al p2 hp2=>?_)
 ·unfold Qb at hx;rw [List.getElem?_map] at hx;cases hr:(Txt.split x nl)[i]? with
  | none=>rw [hr] at hx;cases hx
  | some r=>
   rw [hr] at hx;have e:=Option.some.inj hx;subst e;have hm:=CN hy (List.mem_of_getElem? hr);have hs2:=Uq (x:=r) hy2;walk_at "RD";exact ⟨Sub.name,by rw [FA];decide,hzz _ (by omega),hzz _ (show (Txt.split r bk).length ≤ 40000 by omega),hN⟩
 ·have sm0:Ib H H1:=(fb hp).trans sm;refine q _ _ (sm0.updN (sm0.free hp2)) ((nt1 (nt.upd)).upd) ⟨qs,db,sm0.free hp2,fun hm=>?_,?_,fun i q' r h1 h2=>?_⟩
  ·obtain ⟨j,hj,e⟩:=List.getElem_of_mem hm;have hj2:j < (Qb (Txt.split x nl)).length:=by omega
   have:=al j p2 _ (by rw [List.getElem?_eq_getElem hj,e]) (List.getElem?_eq_getElem hj2);rw [hp2] at this;cases this.1
  ·rw [hl];unfold Pj Qb;rw [List.length_map,List.length_map]
  ·unfold Pj at h2;rw [List.getElem?_map] at h2;cases hr:(Txt.split x nl)[i]? with
   | none=>rw [hr] at h2;cases h2
   | some r0=>
    rw [hr] at h2;have e:=Option.some.inj h2;subst e;have z:=al i q' (.str r0) h1 (by unfold Qb;rw [List.getElem?_map,hr];rfl);refine ⟨by rw [wb (Ab z.1 hp2)];exact z.1,?_⟩;have:=z.2;by_cases hq:q'=p
    ·rw [hq];exact hp
    ·rwa [wb hq] at this
end
end My
namespace My
open PySem L2
structure WD where
 k:Nat
 name:Str
 start:Int
 fin:Int
 off:Int
 near:Int
 least:Int
noncomputable def fe:Nat→Str
 | 0=>Str.ofString "car"
 | 1=>Str.ofString "foot"
 | _=>Str.ofString "tram"
noncomputable def Adr.cw (t:Adr):Nat→Addr
 | 0=>t.md
 | 1=>t.Ac
 | _=>t.zc
noncomputable def Qo (d:WD):List (Str × V):=[(Str.ofString "kind",.str (fe d.k)),(Str.ofString "name",.str d.name),(Str.ofString "start",.int d.start),(Str.ofString "end",.int d.fin),(Str.ofString "off",.int d.off),(Str.ofString "near",.int d.near),(Str.ofString "least",.int d.least)]
noncomputable abbrev wq:List Str:=[Str.ofString "kind",Str.ofString "name",Str.ofString "start",Str.ofString "end",Str.ofString "off",Str.ofString "near",Str.ofString "least"]
theorem Cp (d:WD):(Qo d).map (·.1)=wq:=rfl
def ve (t:Adr) (H:Hp) (p:Addr) (d:WD):Prop:=d.k < 3∧∃ dx,H p=some (.ins (t.cw d.k) dx (Qo d))
theorem ve.same {t:Adr} {H H':Hp} {p:Addr} {d:WD} (h:ve t H p d) (s:Ib H H'):ve t H' p d:=⟨h.1,h.2.imp fun dx e=>s _ _ e⟩
def isW (t:Adr) (C:Addr):Prop:=∃ k,k < 3∧C=t.cw k
noncomputable def Jc (d:WD):Int:=match d.k with | 0=>1 | 1=>0 | _=>2
noncomputable def Ke (d:WD):Int:=match d.k with | 0=>2 | 1=>d.off | _=>1
section
variable {w:World} {K:PySem.W.Frag} {mg:Str→Option Value} {t:Adr}
theorem Txt.clw (T:Txt w K mg t):∀ k,Cls K (t.cw k)
 | 0=>T.Xr
 | 1=>T.Oo
 | _ + 2=>T.ip
theorem Txt.naw (T:Txt w K mg t) {f:Str} (hf:f ∈ wq):∀ k,Yb K (t.cw k) f:=by
 intro k;simp only [wq,List.mem_cons,List.not_mem_nil,or_false] at hf;rcases hf with rfl | rfl | rfl | rfl | rfl | rfl | rfl
 ·match k with
  | 0=>exact T.At
  | 1=>exact T.Cr
  | _ + 2=>exact T.br
 ·match k with
  | 0=>exact T.Vt
  | 1=>exact T.xr
  | _ + 2=>exact T.ir
 ·match k with
  | 0=>exact T.Er
  | 1=>exact T.Aq
  | _ + 2=>exact T.yq
 ·match k with
  | 0=>exact T.wv
  | 1=>exact T.ut
  | _ + 2=>exact T.xt
 ·match k with
  | 0=>exact T.Ew
  | 1=>exact T.Ht
  | _ + 2=>exact T.eu
 ·match k with
  | 0=>exact T.zt
  | 1=>exact T.Xq
  | _ + 2=>exact T.Pr
 ·match k with
  | 0=>exact T.Zq
  | 1=>exact T.iq
  | _ + 2=>exact T.kq
theorem Txt.cw_inj (T:Txt w K mg t) {j k:Nat} (hj:j < 3) (hk:k < 3) (e:t.cw j=t.cw k):j=k:=by
 match j,k,hj,hk with
 | 0,0,_,_=>rfl
 | 0,1,_,_=>exact absurd e T.Vi
 | 0,2,_,_=>exact absurd e T.jj
 | 1,0,_,_=>exact absurd e.symm T.Vi
 | 1,1,_,_=>rfl
 | 1,2,_,_=>exact absurd e T.ii
 | 2,0,_,_=>exact absurd e.symm T.jj
 | 2,1,_,_=>exact absurd e.symm T.ii
 | 2,2,_,_=>rfl
 | j + 3,_,h,_=>omega
 | _,k + 3,_,h=>omega
theorem ve.fld (T:Txt w K mg t) {H:Hp} {p:Addr} {d:WD} (h:ve t H p d) {f:Str} {v:V} (i:Nat) (hi:wq.findIdx? (· == f)=some i) (hv:(Qo d)[i]? = some (f,v)):yi K H p f v:=by
 obtain ⟨_,dx,e⟩:=h;have hm:f ∈ wq:=by
  obtain ⟨hlt,h1,_⟩:=List.findIdx?_eq_some_iff_getElem.mp hi;have:wq[i]=f:=by simpa using h1
  rw [← this];exact List.getElem_mem hlt
 exact ⟨_,dx,_,e,T.clw _,T.naw hm _,yd wq i (Cp d) hi hv⟩
theorem ve.f_name (T:Txt w K mg t) {H:Hp} {p:Addr} {d:WD} (h:ve t H p d):yi K H p (Str.ofString "name") (.str d.name):=h.fld T 1 (by decide +kernel) rfl
theorem ve.f_start (T:Txt w K mg t) {H:Hp} {p:Addr} {d:WD} (h:ve t H p d):yi K H p (Str.ofString "start") (.int d.start):=h.fld T 2 (by decide +kernel) rfl
theorem ve.f_end (T:Txt w K mg t) {H:Hp} {p:Addr} {d:WD} (h:ve t H p d):yi K H p (Str.ofString "end") (.int d.fin):=h.fld T 3 (by decide +kernel) rfl
theorem ve.f_off (T:Txt w K mg t) {H:Hp} {p:Addr} {d:WD} (h:ve t H p d):yi K H p (Str.ofString "off") (.int d.off):=h.fld T 4 (by decide +kernel) rfl
theorem ve.f_near (T:Txt w K mg t) {H:Hp} {p:Addr} {d:WD} (h:ve t H p d):yi K H p (Str.ofString "near") (.int d.near):=h.fld T 5 (by decide +kernel) rfl
theorem ve.f_least (T:Txt w K mg t) {H:Hp} {p:Addr} {d:WD} (h:ve t H p d):yi K H p (Str.ofString "least") (.int d.least):=h.fld T 6 (by decide +kernel) rfl
end
def Av (t:Adr):Sp:=fun vs H Q _=>∃ (p dx:Addr) (d:WD),vs=[.ref p,.str (fe d.k),.str d.name,.int d.start,.int d.fin,.int d.off,.int d.near,.int d.least]∧d.k < 3∧H p=some (.ins (t.cw d.k) dx [])∧Q .non (upd H p (.ins (t.cw d.k) dx (Qo d)))
def dm (t:Adr) (k:Nat):Sp:=fun vs H Q _=>∃ (p dx:Addr) (d:WD),vs=[.ref p,.str d.name,.int d.start,.int d.fin,.int d.off,.int d.near,.int d.least]∧d.k=k∧H p=some (.ins (t.cw d.k) dx [])∧Q .non (upd H p (.ins (t.cw d.k) dx (Qo d)))
section
variable {P:Program} {w:World} {K:PySem.W.Frag} {mg:Str→Option Value} {base:Heap} {t:Adr}
theorem mz (T:Txt w K mg t):Gb P w K mg base CX0 1 t.eg t.uh q18 (Av t):=by
 refine T.Zu.ok js (fun vs H Q E h=>?_) (fun _ _ _ s H vs Q E hr h=>?_)
 ·obtain ⟨p,dx,d,rfl,_⟩:=h;rfl
 obtain ⟨p,dx,d,rfl,hk,hp,q⟩:=h;refine ⟨_,(cb (mf (pv 0) (pv 1) rfl)
   (cb (mf (pv 0) (pv 2) rfl)
   (cb (mf (pv 0) (pv 3) rfl)
   (cb (mf (pv 0) (pv 4) rfl)
   (cb (mf (pv 0) (pv 5) rfl)
   (cb (mf (pv 0) (pv 6) rfl)
   (ib (mf (pv 0) (pv 7) rfl)))))))),?_⟩
 walk_at "RD";have na:∀ {f:Str},f ∈ wq→Yb K (t.cw d.k) f:=fun hf=>T.naw hf d.k
 refine ⟨_,_,_,hp,T.clw _,na (by decide +kernel),by decide,?_⟩;refine ⟨_,_,_,db,T.clw _,na (by decide +kernel),Co (n:=999) (by decide),?_⟩;refine ⟨_,_,_,db,T.clw _,na (by decide +kernel),Co (n:=999) (Co (n:=998) (by decide)),?_⟩;refine ⟨_,_,_,db,T.clw _,na (by decide +kernel),Co (n:=999) (Co (n:=998) (Co (n:=997) (by decide))),?_⟩;refine ⟨_,_,_,db,T.clw _,na (by decide +kernel),Co (n:=999) (Co (n:=998) (Co (n:=997) (Co (n:=996) (by decide)))),?_⟩;refine ⟨_,_,_,db,T.clw _,na (by decide +kernel),Co (n:=999) (Co (n:=998) (Co (n:=997) (Co (n:=996) (Co (n:=995) (by decide))))),?_⟩;refine ⟨_,_,_,db,T.clw _,na (by decide +kernel),Co (n:=999) (Co (n:=998) (Co (n:=997) (Co (n:=996) (Co (n:=995) (Co (n:=994) (by decide)))))),?_⟩;simp only [Dl];rw [show Rh (Str.ofString "kind") (V.str (fe d.k)) ([]:List (Str × V))=[(Str.ofString "kind",V.str (fe d.k))] from kd [] rfl (by decide +kernel),
  show Rh (Str.ofString "name") (V.str d.name) ([(Str.ofString "kind",V.str (fe d.k))]:List (Str × V))=[(Str.ofString "kind",V.str (fe d.k)),(Str.ofString "name",V.str d.name)] from kd [Str.ofString "kind"] rfl (by decide +kernel),
  show Rh (Str.ofString "start") (V.int d.start) ([(Str.ofString "kind",V.str (fe d.k)),(Str.ofString "name",V.str d.name)]:List (Str × V))=[(Str.ofString "kind",V.str (fe d.k)),(Str.ofString "name",V.str d.name),(Str.ofString "start",V.int d.start)] from kd [Str.ofString "kind",Str.ofString "name"] rfl (by decide +kernel),
  show Rh (Str.ofString "end") (V.int d.fin) ([(Str.ofString "kind",V.str (fe d.k)),(Str.ofString "name",V.str d.name),(Str.ofString "start",V.int d.start)]:List (Str × V))=[(Str.ofString "kind",V.str (fe d.k)),(Str.ofString "name",V.str d.name),(Str.ofString "start",V.int d.start),(Str.ofString "end",V.int d.fin)] from kd [Str.ofString "kind",Str.ofString "name",Str.ofString "start"] rfl (by decide +kernel),
  show Rh (Str.ofString "off") (V.int d.off) ([(Str.ofString "kind",V.str (fe d.k)),(Str.ofString "name",V.str d.name),(Str.ofString "start",V.int d.start),(Str.ofString "end",V.int d.fin)]:List (Str × V))=[(Str.ofString "kind",V.str (fe d.k)),(Str.ofString "name",V.str d.name),(Str.ofString "start",V.int d.start),(Str.ofString "end",V.int d.fin),(Str.ofString "off",V.int d.off)] from kd [Str.ofString "kind",Str.ofString "name",Str.ofString "start",Str.ofString "end"] rfl (by decide +kernel),
  show Rh (Str.ofString "near") (V.int d.near) ([(Str.ofString "kind",V.str (fe d.k)),(Str.ofString "name",V.str d.name),(Str.ofString "start",V.int d.start),(Str.ofString "end",V.int d.fin),(Str.ofString "off",V.int d.off)]:List (Str × V))=[(Str.ofString "kind",V.str (fe d.k)),(Str.ofString "name",V.str d.name),(Str.ofString "start",V.int d.start),(Str.ofString "end",V.int d.fin),(Str.ofString "off",V.int d.off),(Str.ofString "near",V.int d.near)] from kd [Str.ofString "kind",Str.ofString "name",Str.ofString "start",Str.ofString "end",Str.ofString "off"] rfl (by decide +kernel),
  show Rh (Str.ofString "least") (V.int d.least) ([(Str.ofString "kind",V.str (fe d.k)),(Str.ofString "name",V.str d.name),(Str.ofString "start",V.int d.start),(Str.ofString "end",V.int d.fin),(Str.ofString "off",V.int d.off),(Str.ofString "near",V.int d.near)]:List (Str × V))=[(Str.ofString "kind",V.str (fe d.k)),(Str.ofString "name",V.str d.name),(Str.ofString "start",V.int d.start),(Str.ofString "end",V.int d.fin),(Str.ofString "off",V.int d.off),(Str.ofString "near",V.int d.near),(Str.ofString "least",V.int d.least)] from kd [Str.ofString "kind",Str.ofString "name",Str.ofString "start",Str.ofString "end",Str.ofString "off",Str.ofString "near"] rfl (by decide +kernel)]
 exact q
theorem tM (T:Txt w K mg t):Gb P w K mg base CX0 2 t.Sf t.jh q8 (dm t 0):=by
 have g13:Gb P w K mg base CX0 1 t.eg t.uh q18 (Av t):=mz T;refine T.io.ok Rn (fun vs H Q E h=>?_) (fun _ _ _ s H vs Q E hr h=>?_)
 ·obtain ⟨p,dx,d,rfl,_⟩:=h;rfl
 obtain ⟨p,dx,d,rfl,hk,hp,q⟩:=h;refine ⟨_,(ib (gd (Xv rfl T.WM T.No g13 hr T.bp .nil Rc (ab (pv 0) (ab vd (ab (pv 1) (ab (pv 2) (ab (pv 3) (ab (pv 4) (ab (pv 5) (ab (pv 6) gb))))))))))),?_⟩;walk_at "RD";exact ⟨p,dx,d,by rw [hk];rfl,by omega,hp,q⟩
theorem sK (T:Txt w K mg t):Gb P w K mg base CX0 2 t.tf t.Ag q8 (dm t 1):=by
 have g13:Gb P w K mg base CX0 1 t.eg t.uh q18 (Av t):=mz T;refine T.Em.ok Wm (fun vs H Q E h=>?_) (fun _ _ _ s H vs Q E hr h=>?_)
 ·obtain ⟨p,dx,d,rfl,_⟩:=h;rfl
 obtain ⟨p,dx,d,rfl,hk,hp,q⟩:=h;refine ⟨_,(ib (gd (Xv rfl T.WM T.No g13 hr T.bp .nil Rc (ab (pv 0) (ab vd (ab (pv 1) (ab (pv 2) (ab (pv 3) (ab (pv 4) (ab (pv 5) (ab (pv 6) gb))))))))))),?_⟩;walk_at "RD";exact ⟨p,dx,d,by rw [hk];rfl,by omega,hp,q⟩
theorem uK (T:Txt w K mg t):Gb P w K mg base CX0 2 t.pf t.ng q8 (dm t 2):=by
 have g13:Gb P w K mg base CX0 1 t.eg t.uh q18 (Av t):=mz T;refine T.Mm.ok bn (fun vs H Q E h=>?_) (fun _ _ _ s H vs Q E hr h=>?_)
 ·obtain ⟨p,dx,d,rfl,_⟩:=h;rfl
 obtain ⟨p,dx,d,rfl,hk,hp,q⟩:=h;refine ⟨_,(ib (gd (Xv rfl T.WM T.No g13 hr T.bp .nil Rc (ab (pv 0) (ab vd (ab (pv 1) (ab (pv 2) (ab (pv 3) (ab (pv 4) (ab (pv 5) (ab (pv 6) gb))))))))))),?_⟩;walk_at "RD";exact ⟨p,dx,d,by rw [hk];rfl,by omega,hp,q⟩
end
def xh (t:Adr) (C:Addr):Sp:=fun vs H Q _=>∃ p d,vs=[.ref p]∧ve t H p d∧C=t.cw d.k∧Q (.int (Jc d)) H
def Hj (t:Adr) (C:Addr):Sp:=fun vs H Q _=>∃ p d,vs=[.ref p]∧ve t H p d∧C=t.cw d.k∧Q (.int (Ke d)) H
section
variable {P:Program} {w:World} {K:PySem.W.Frag} {mg:Str→Option Value} {base:Heap} {t:Adr}
theorem Mr (T:Txt w K mg t):Gb P w K mg base CX0 1 t.yg t.zi ["self"] (xh t (t.cw 0)):=by
 refine T.qm.ok Gr (fun vs H Q E h=>?_) (fun _ _ _ s H vs Q E hr h=>?_)
 ·obtain ⟨p,d,rfl,_⟩:=h;rfl
 obtain ⟨p,d,rfl,W,hC,q⟩:=h;have hk:=(T.cw_inj (by decide) W.1 hC).symm;refine ⟨_,(ib (Cb qb)),?_⟩;rw [show Jc d=1 by unfold Jc;simp only [hk]] at q;walk_at "RD";exact q
theorem jq (T:Txt w K mg t):Gb P w K mg base CX0 1 t.Lf t.yh ["self"] (xh t (t.cw 1)):=by
 refine T.Fl.ok vq (fun vs H Q E h=>?_) (fun _ _ _ s H vs Q E hr h=>?_)
 ·obtain ⟨p,d,rfl,_⟩:=h;rfl
 obtain ⟨p,d,rfl,W,hC,q⟩:=h;have hk:=(T.cw_inj (by decide) W.1 hC).symm;refine ⟨_,(ib (Cb qb)),?_⟩;rw [show Jc d=0 by unfold Jc;simp only [hk]] at q;walk_at "RD";exact q
theorem bq (T:Txt w K mg t):Gb P w K mg base CX0 1 t.Pf t.Lh ["self"] (xh t (t.cw 2)):=by
 refine T.Jl.ok Bq (fun vs H Q E h=>?_) (fun _ _ _ s H vs Q E hr h=>?_)
 ·obtain ⟨p,d,rfl,_⟩:=h;rfl
 obtain ⟨p,d,rfl,W,hC,q⟩:=h;have hk:=(T.cw_inj (by decide) W.1 hC).symm;refine ⟨_,(ib (Cb qb)),?_⟩;rw [show Jc d=2 by unfold Jc;simp only [hk]] at q;walk_at "RD";exact q
theorem vz (T:Txt w K mg t):GC P w K mg base CX0 1 (isW t) "ready" ["self"] (xh t):=by
 refine ⟨fun C hC=>?_⟩;obtain ⟨k,hk,rfl⟩:=hC
 match k,hk with
 | 0,_=>exact ⟨_,_,T.Xr,T.Qt,Mr T,T.yt⟩
 | 1,_=>exact ⟨_,_,T.Oo,T.gr,jq T,T.Vs⟩
 | 2,_=>exact ⟨_,_,T.ip,T.Rr,bq T,T.Vq⟩
theorem Tt (T:Txt w K mg t):Gb P w K mg base CX0 1 t.qh t.yj ["self"] (Hj t (t.cw 0)):=by
 refine T.Bn.ok Yt (fun vs H Q E h=>?_) (fun _ _ _ s H vs Q E hr h=>?_)
 ·obtain ⟨p,d,rfl,_⟩:=h;rfl
 obtain ⟨p,d,rfl,W,hC,q⟩:=h;have hk:=(T.cw_inj (by decide) W.1 hC).symm;refine ⟨_,(ib (Cb qb)),?_⟩;rw [show Ke d=2 by unfold Ke;simp only [hk]] at q;walk_at "RD";exact q
theorem Ps (T:Txt w K mg t):Gb P w K mg base CX0 1 t.qg t.Hi ["self"] (Hj t (t.cw 1)):=by
 refine T.um.ok Ss (fun vs H Q E h=>?_) (fun _ _ _ s H vs Q E hr h=>?_)
 ·obtain ⟨p,d,rfl,_⟩:=h;rfl
 obtain ⟨p,d,rfl,W,hC,q⟩:=h;have hk:=(T.cw_inj (by decide) W.1 hC).symm;refine ⟨_,(ib (Cb (Ob (pv 0) rfl))),?_⟩;rw [show Ke d=d.off by unfold Ke;simp only [hk]] at q;walk_at "RD";exact ⟨_,W.f_off T,q⟩
theorem ss (T:Txt w K mg t):Gb P w K mg base CX0 1 t.vg t.Ji ["self"] (Hj t (t.cw 2)):=by
 refine T.Am.ok Cs (fun vs H Q E h=>?_) (fun _ _ _ s H vs Q E hr h=>?_)
 ·obtain ⟨p,d,rfl,_⟩:=h;rfl
 obtain ⟨p,d,rfl,W,hC,q⟩:=h;have hk:=(T.cw_inj (by decide) W.1 hC).symm;refine ⟨_,(ib (Cb qb)),?_⟩;rw [show Ke d=1 by unfold Ke;simp only [hk]] at q;walk_at "RD";exact q
theorem VH (T:Txt w K mg t):GC P w K mg base CX0 1 (isW t) "fade" ["self"] (Hj t):=by
 refine ⟨fun C hC=>?_⟩;obtain ⟨k,hk,rfl⟩:=hC
 match k,hk with
 | 0,_=>exact ⟨_,_,T.Xr,T.Kv,Tt T,T.Dw⟩
 | 1,_=>exact ⟨_,_,T.Oo,T.Nt,Ps T,T.bu⟩
 | 2,_=>exact ⟨_,_,T.ip,T.Jt,ss T,T.vt⟩
end
noncomputable def jl (c:Nat):List (List Nat)→List Nat
 | []=>[]
 | [a]=>a
 | a :: b :: r=>a ++ c :: jl c (b :: r)
theorem gI {c:Nat}:∀ {a b X Y:List Nat},c ∉ a→c ∉ b→a ++ c :: X=b ++ c :: Y→a=b∧X=Y
 | [],[],X,Y,_,_,h=>⟨rfl,(List.cons.inj h).2⟩
 | [],d :: b,X,Y,_,hb,h=>absurd (List.cons.inj h).1 (fun z=>hb (by simp [← z]))
 | d :: a,[],X,Y,ha,_,h=>absurd (List.cons.inj h).1 (fun z=>ha (by simp [z]))
 | d :: a,e :: b,X,Y,ha,hb,h=>by
  obtain ⟨h1,h2⟩:=List.cons.inj h;obtain ⟨e1,e2⟩:=gI (fun z=>ha (List.mem_cons_of_mem _ z)) (fun z=>hb (List.mem_cons_of_mem _ z)) h2;exact ⟨by rw [h1,e1],e2⟩
theorem iL {c:Nat}:∀ {ps qs:List (List Nat)},(∀ p ∈ ps,c ∉ p)→(∀ q ∈ qs,c ∉ q)→ps ≠ []→qs ≠ []→jl c ps=jl c qs→ps=qs
 | [a],[b],_,_,_,_,h=>by rw [show a=b from h]
 | [a],b :: b' :: r,ha,_,_,_,h=>absurd (show c ∈ a by rw [show a=b ++ c :: jl c (b' :: r) from h];simp) (ha a (by simp))
 | a :: a' :: r,[b],_,hb,_,_,h=>absurd (show c ∈ b by rw [show b=a ++ c :: jl c (a' :: r) from h.symm];simp) (hb b (by simp))
 | a :: a' :: r,b :: b' :: s,ha,hb,_,_,h=>by
  obtain ⟨e1,e2⟩:=gI (ha a (by simp)) (hb b (by simp)) (show a ++ c :: jl c (a' :: r)=b ++ c :: jl c (b' :: s) from h);rw [e1,iL (fun p hp=>ha p (List.mem_cons_of_mem _ hp)) (fun q hq=>hb q (List.mem_cons_of_mem _ hq)) (by simp) (by simp) e2]
 | [],_,_,_,h,_,_=>absurd rfl h
 | _ :: _,[],_,_,_,h,_=>absurd rfl h
theorem bM {c d:Nat}:∀ {ps:List (List Nat)},d ∈ jl c ps→d=c∨∃ p ∈ ps,d ∈ p
 | [],h=>nomatch h
 | [a],h=>.inr ⟨a,by simp,h⟩
 | a :: b :: r,h=>by
  rcases List.mem_append.mp (show d ∈ a ++ c :: jl c (b :: r) from h) with h | h
  ·exact .inr ⟨a,by simp,h⟩
  ·rcases List.mem_cons.mp h with h | h
   ·exact .inl h
   ·rcases bM h with h | ⟨p,hp,h⟩
    ·exact .inl h
    ·exact .inr ⟨p,List.mem_cons_of_mem _ hp,h⟩
theorem ow (c:Nat):∀ ys:List Str,(Str.join ⟨#[c]⟩ ys).cps.toList=jl c (ys.map (·.cps.toList))
 | []=>rfl
 | [a]=>rfl
 | a :: b :: r=>by
  show (a ++ ⟨#[c]⟩ ++ Str.join ⟨#[c]⟩ (b :: r)).cps.toList=_;rw [Str.cps_append,Array.toList_append,Str.cps_append,Array.toList_append,ow c (b :: r)];simp [jl]
theorem eG {x y:Str} (h:x.cps.toList=y.cps.toList):x=y:=by
 cases x;cases y;exact congrArg Str.mk (Array.toList_inj.mp h)
theorem Lu {c:Nat} {ys:List Str} (hn:ys ≠ []) (hf:∀ y ∈ ys,c ∉ y.cps.toList):Txt.split (Str.join ⟨#[c]⟩ ys) ⟨#[c]⟩=ys:=by
 have e:=congrArg (·.cps.toList) (StrLaws.join_split (Str.join ⟨#[c]⟩ ys) ⟨#[c]⟩);simp only [ow] at e;have e2:=iL (c:=c) (ps:=(Txt.split (Str.join ⟨#[c]⟩ ys) ⟨#[c]⟩).map (·.cps.toList)) (qs:=ys.map (·.cps.toList)) (fun p hp=>by
  obtain ⟨y,hy,rfl⟩:=List.mem_map.mp hp;exact StrLaws.split_free _ c y hy) (fun p hp=>by
  obtain ⟨y,hy,rfl⟩:=List.mem_map.mp hp;exact hf y hy) (by simp [FK]) (by simpa using hn) e
 exact (List.map_inj_right fun x y h=>eG h).mp e2
noncomputable abbrev num (v:Int):Str:=Str.ofString (toString v)
theorem vN:∀ n,n < 1000→(decide (1 ≤ ((Nat.toDigits 10 n).map Char.toNat).length) && decide (((Nat.toDigits 10 n).map Char.toNat).length ≤ 3) && ((Nat.toDigits 10 n).map Char.toNat).all rq && (decide (((Nat.toDigits 10 n).map Char.toNat).length ≤ 1) || decide (((Nat.toDigits 10 n).map Char.toNat).headD 0 ≠ 48)) &&
  decide (NumText.digitsVal ((Nat.toDigits 10 n).map Char.toNat)=n))=true:=by decide +kernel
theorem MA {v:Int} (h0:0 ≤ v) (h1:v < 1000):okB (num v)=true∧val (num v)=v:=by
 have e:=PySem.W.KIN.signs_num v.toNat;rw [Int.toNat_of_nonneg h0] at e;have a:=vN v.toNat (by omega);rw [← e,Bool.and_eq_true,decide_eq_true_eq] at a;exact ⟨a.1,by show ((NumText.digitsVal (cs (num v)):Nat):Int)=v;rw [a.2];omega⟩
theorem Lo {v lo hi:Int} (h0:0 ≤ v) (h1:v < 1000) (hl:lo ≤ v) (hh:v ≤ hi):JI (num v) lo hi=.int v:=by
 obtain ⟨a,b⟩:=MA h0 h1;unfold JI;rw [a,b,decide_eq_false (by omega:¬ v < lo),decide_eq_false (by omega:¬ hi < v)];rfl
theorem bN {u v:Int} (h0:0 ≤ u) (h1:u < 1000) (h2:0 ≤ v) (h3:v < 1000) (e:num u=num v):u=v:=by
 rw [← (MA h0 h1).2,e,(MA h2 h3).2]
theorem UB {v:Int} (h0:0 ≤ v) (h1:v < 1000):∀ c ∈ (num v).cps.toList,48 ≤ c∧c ≤ 57:=fun c hc=>by
 have:=List.all_eq_true.mp (pQ (MA h0 h1).1).2 c hc;simpa [rq] using this
theorem OO:∀ c ∈ Fi.cps.toList,97 ≤ c∧c ≤ 122:=by decide +kernel
theorem XO:∀ k,k < 26→97 + k ∈ Fi.cps.toList:=by decide +kernel
theorem Rk {x:Str} (h:made x Fi 8=true):(1 ≤ x.length∧x.length ≤ 8)∧∀ c ∈ x.cps.toList,97 ≤ c∧c ≤ 122:=by
 unfold made at h;split at h
 ·cases h
 ·rename_i h1;split at h
  ·cases h
  ·rename_i h2;have h3:¬ x.length=0:=fun z=>h1 (wQ.mpr z)
   refine ⟨by omega,fun c hc=>?_⟩;have:=List.all_eq_true.mp h c hc;rw [Mz] at this;exact OO c (of_decide_eq_true this)
theorem Cy {x:Str} (h0:1 ≤ x.length) (h1:x.length ≤ 8) (h:∀ c ∈ x.cps.toList,97 ≤ c∧c ≤ 122):made x Fi 8=true:=by
 unfold made;rw [if_neg (fun z=>by have:=wQ.mp z;omega),if_neg (by omega)];refine List.all_eq_true.mpr fun c hc=>?_
 have:=h c hc;rw [Mz];have e:=XO (c - 97) (by omega);rw [show 97 + (c - 97)=c by omega] at e;exact decide_eq_true e
structure WOk (n:Int) (d:WD):Prop where
 k:d.k < 3
 nm:made d.name Fi 8=true
 st:0 ≤ d.start∧d.start < n
 fi:0 ≤ d.fin∧d.fin < n
 ne:d.start ≠ d.fin
 of:0 ≤ d.off∧d.off ≤ 30
 nr:0 ≤ d.near∧d.near ≤ 30
 le:1 ≤ d.least∧d.least ≤ 60
structure COk (n:Int) (ds:List WD):Prop where
 nn:2 ≤ n∧n ≤ 99
 ln:1 ≤ ds.length∧ds.length ≤ 12
 al:∀ d ∈ ds,WOk n d
 nd:(ds.map (·.name)).Nodup
noncomputable def Xi (d:WD):List Str:=[fe d.k,d.name,num d.start,num d.fin,num d.off,num d.near,num d.least]
noncomputable def Di (n:Int) (ds:List WD):List (List Str):=[Str.ofString "ring",num n] :: ds.map Xi
noncomputable def ww (n:Int) (ds:List WD):Str:=Str.join nl ((Di n ds).map (Str.join bk))
def iz (x:Str):Prop:=x.length ≤ 8∧(32:Nat) ∉ x.cps.toList∧(10:Nat) ∉ x.cps.toList
theorem Tu (k:Nat):iz (fe k):=by
 match k with
 | 0=>exact ⟨by decide +kernel,by decide +kernel,by decide +kernel⟩
 | 1=>exact ⟨by decide +kernel,by decide +kernel,by decide +kernel⟩
 | _ + 2=>exact ⟨show (Str.ofString "tram").length ≤ 8 by decide +kernel,show (32:Nat) ∉ (Str.ofString "tram").cps.toList by decide +kernel,show (10:Nat) ∉ (Str.ofString "tram").cps.toList by decide +kernel⟩
theorem De {v:Int} (h0:0 ≤ v) (h1:v < 1000):iz (num v):=
 ⟨Nat.le_trans (yM h0 (by omega)) (by decide),fun z=>by have:=UB h0 h1 _ z;omega,fun z=>by have:=UB h0 h1 _ z;omega⟩
theorem fv {x:Str} (h:made x Fi 8=true):iz x:=
 ⟨(Rk h).1.2,fun z=>by have:=(Rk h).2 _ z;omega,fun z=>by have:=(Rk h).2 _ z;omega⟩
theorem WOk.plain {n:Int} {d:WD} (h:WOk n d) (hn:n ≤ 99):∀ x ∈ Xi d,iz x:=fun x hx=>by
 have h1:=h.st;have h2:=h.fi;have h3:=h.of;have h4:=h.nr;have h5:=h.le;simp only [Xi,List.mem_cons,List.not_mem_nil,or_false] at hx;rcases hx with rfl | rfl | rfl | rfl | rfl | rfl | rfl
 ·exact Tu _
 ·exact fv h.nm
 ·exact De (by omega) (by omega)
 ·exact De (by omega) (by omega)
 ·exact De (by omega) (by omega)
 ·exact De (by omega) (by omega)
 ·exact De (by omega) (by omega)
theorem COk.plain {n:Int} {ds:List WD} (h:COk n ds):∀ r ∈ Di n ds,∀ x ∈ r,iz x:=fun r hr x hx=>by
 have hn:=h.nn;rcases List.mem_cons.mp hr with rfl | hr
 ·simp only [List.mem_cons,List.not_mem_nil,or_false] at hx;rcases hx with rfl | rfl
  ·exact ⟨by decide +kernel,by decide +kernel,by decide +kernel⟩
  ·exact De (by omega) (by omega)
 ·obtain ⟨d,hd,rfl⟩:=List.mem_map.mp hr;exact (h.al d hd).plain hn.2 x hx
theorem rF {rs:List (List Str)} (h0:rs ≠ []) (h1:∀ r ∈ rs,r ≠ []) (h2:∀ r ∈ rs,∀ x ∈ r,iz x):Pj (Str.join nl (rs.map (Str.join bk)))=rs:=by
 unfold Pj;rw [IQ,NO];rw [Lu (by simpa using h0) (fun y hy=>by
  obtain ⟨r,hr,rfl⟩:=List.mem_map.mp hy;rw [ow];intro z;rcases bM z with z | ⟨p,hp,z⟩
  ·cases z
  ·obtain ⟨x,hx,rfl⟩:=List.mem_map.mp hp;exact (h2 r hr x hx).2.2 z)]
 rw [List.map_map];have:∀ r ∈ rs,((fun r=>Txt.split r ⟨#[32]⟩) ∘ Str.join ⟨#[32]⟩) r=r:=fun r hr=>Lu (h1 r hr) fun x hx=>(h2 r hr x hx).2.1
 exact (List.map_congr_left this).trans (List.map_id rs)
theorem XC {n:Int} {ds:List WD} (h:COk n ds):Pj (ww n ds)=Di n ds:=rF (by simp [Di]) (fun r hr=>by
 rcases List.mem_cons.mp hr with rfl | hr
 ·simp
 ·obtain ⟨d,hd,rfl⟩:=List.mem_map.mp hr;simp [Xi]) h.plain
theorem mw (sep:Str) (B:Nat):∀ ys:List Str,(∀ y ∈ ys,y.length ≤ B)→(Str.join sep ys).length ≤ ys.length * (B + sep.length)
 | [],_=>by show (Str.empty).length ≤ _;exact Nat.zero_le _
 | [a],h=>by
  have:=h a (by simp);show a.length ≤ _;simp only [List.length_cons,List.length_nil];omega
 | a :: b :: r,h=>by
  have h1:=h a (by simp);have h2:=mw sep B (b :: r) fun y hy=>h y (List.mem_cons_of_mem _ hy)
  show (a ++ sep ++ Str.join sep (b :: r)).length ≤ _;rw [wz,wz,List.length_cons,Nat.succ_mul];omega
theorem xG {n:Int} {ds:List WD} (h:COk n ds):(ww n ds).length ≤ 1000:=by
 have h1:∀ y ∈ (Di n ds).map (Str.join bk),y.length ≤ 63:=fun y hy=>by
  obtain ⟨r,hr,rfl⟩:=List.mem_map.mp hy;have:=mw bk 8 r fun x hx=>(h.plain r hr x hx).1
  rw [FA] at this;have hl:r.length ≤ 7:=by
   rcases List.mem_cons.mp hr with rfl | hr
   ·simp
   ·obtain ⟨d,hd,rfl⟩:=List.mem_map.mp hr;simp [Xi]
  omega
 have h2:=mw nl 63 _ h1;rw [pB] at h2;have h3:((Di n ds).map (Str.join bk)).length ≤ 13:=by
  have:=h.ln;simp [Di];omega
 unfold ww;omega
end My
namespace My
open PySem L2
noncomputable abbrev Hx:List Str:=[Str.ofString "row",Str.ofString "told",Str.ofString "place"]
noncomputable def rdF (row:Int) (ta:Addr) (pl:Int):List (Str × V):=[(Str.ofString "row",.int row),(Str.ofString "told",.ref ta),(Str.ofString "place",.int pl)]
theorem uo (row:Int) (ta:Addr) (pl:Int):(rdF row ta pl).map (·.1)=Hx:=rfl
theorem dN (row:Int) (ta:Addr) (pl v:Int):Rh (Str.ofString "place") (.int v) (rdF row ta pl)=rdF row ta v:=by
 unfold rdF;simp only [Rh];rw [if_neg (by decide +kernel),if_neg (by decide +kernel)];rfl
def Ih (t:Adr) (H:Hp) (p:Addr) (row:Int) (ws:List Str) (pl:Nat):Prop:=
 (ws.length ≤ 1000∧∀ x ∈ ws,x.length ≤ 1000)∧∃ dx ta,H p=some (.ins t.Fb dx (rdF row ta pl))∧H ta=some (.lst (Qb ws))
def Kc (p:Addr) (H H':Hp):Prop:=∀ b u,b ≠ p→H b=some u→H' b=some u
theorem Kc.trans {p:Addr} {H H1 H2:Hp} (a:Kc p H H1) (b:Kc p H1 H2):Kc p H H2:=fun c u n e=>b c u n (a c u n e)
theorem Kc.of {p:Addr} {H H1:Hp} (a:Ib H H1):Kc p H H1:=fun c u _ e=>a c u e
theorem Kc.put {p:Addr} {H:Hp} {o:HO}:Kc p H (upd H p o):=fun c u n e=>by rw [wb n];exact e
theorem An (ws:List Str):(Qb ws).length=ws.length:=by unfold Qb;rw [List.length_map]
theorem SI {ws:List Str} {i:Nat} {x:Str} (h:ws[i]? = some x):(Qb ws)[i]? = some (.str x):=by unfold Qb;rw [List.getElem?_map,h];rfl
theorem uu (ws:List Str):(Qb ws).all Um=true:=by unfold Qb;simp [Um]
theorem YA (x:Str) (xs:List Str):inV (.str x) (Qb xs)=decide (x ∈ xs):=by
 unfold inV Qb;rw [List.any_map,Bool.eq_iff_iff];simp only [List.any_eq_true,Function.comp,eqV,beq_iff_eq,decide_eq_true_eq];constructor
 ·rintro ⟨y,hy,rfl⟩;exact hy
 ·intro h;exact ⟨x,h,rfl⟩
section
variable {w:World} {K:PySem.W.Frag} {mg:Str→Option Value} {t:Adr} {H H':Hp} {p:Addr} {row:Int} {ws:List Str} {pl:Nat}
theorem Ih.same (h:Ih t H p row ws pl) (s:Ib H H'):Ih t H' p row ws pl:=by
 obtain ⟨hz,dx,ta,e1,e2⟩:=h;exact ⟨hz,dx,ta,s _ _ e1,s _ _ e2⟩
theorem Ih.sameX {q:Addr} (h:Ih t H p row ws pl) (s:Kc q H H') (n:p ≠ q) (k:∃ C dx fs,H q=some (.ins C dx fs)):Ih t H' p row ws pl:=by
 obtain ⟨hz,dx,ta,e1,e2⟩:=h;obtain ⟨C,dq,fs,e3⟩:=k;exact ⟨hz,dx,ta,s _ _ n e1,s _ _ (Hf e2 e3 (by intro z;cases z)) e2⟩
theorem Ih.ins (h:Ih t H p row ws pl):∃ C dx fs,H p=some (.ins C dx fs):=by
 obtain ⟨hz,dx,ta,e1,e2⟩:=h;exact ⟨_,_,_,e1⟩
theorem Ih.no {m:Str} (row:Int) (ta:Addr) (pl:Int) (h:Hx.contains m=false):(rdF row ta pl).lookup m=none:=Tk Hx (uo ..) h
theorem vw (T:Txt w K mg t) {dx ta:Addr} {pl:Int} (e:H p=some (.ins t.Fb dx (rdF row ta pl))):yi K H p (Str.ofString "place") (.int pl):=
 ⟨_,dx,_,e,T.Eb,T.Xf,yd Hx 2 (uo ..) (by decide +kernel) rfl⟩
theorem pA (T:Txt w K mg t) {dx ta:Addr} {pl:Int} (e:H p=some (.ins t.Fb dx (rdF row ta pl))):yi K H p (Str.ofString "told") (.ref ta):=
 ⟨_,dx,_,e,T.Eb,T.fj,yd Hx 1 (uo ..) (by decide +kernel) rfl⟩
end
def vL (t:Adr):Sp:=fun vs H Q _=>∃ (p dx ta:Addr) (row:Int),vs=[.ref p,.int row,.ref ta]∧H p=some (.ins t.Fb dx [])∧Q .non (upd H p (.ins t.Fb dx (rdF row ta 0)))
def Hn (t:Adr):Sp:=fun vs H Q _=>∃ p row ws pl,vs=[.ref p]∧Ih t H p row ws pl∧pl ≤ ws.length∧Q (.str (ws.getD pl (Str.ofString ""))) H
def SF (t:Adr):Sp:=fun vs H Q _=>∃ p row ws pl,vs=[.ref p]∧Ih t H p row ws pl∧Q (.bl (decide (pl < ws.length))) H
def PQ (t:Adr) (H:Hp) (p:Addr) (row:Int) (ws:List Str) (pl:Nat) (R:Hp→Prop):Prop:=∀ H',Kc p H H'→(NoT H→NoT H')→Ih t H' p row ws pl→R H'
def dw (t:Adr):Sp:=fun vs H Q _=>∃ p row ws pl,vs=[.ref p,.bl true]∧Ih t H p row ws pl∧PQ t H p row ws (pl + 1) (Q .non)
def Uv (K:PySem.W.Frag) (t:Adr):Sp:=fun vs H Q _=>∃ p row ws pl x c xs,vs=[.ref p,.ref c]∧Ih t H p row ws pl∧ws[pl]? = some x∧SqL K H c (Qb xs)∧x ∈ xs∧PQ t H p row ws (pl + 1) (Q (.str x))
def Hw (t:Adr):Sp:=fun vs H Q _=>∃ p row ws pl x lo hi v,vs=[.ref p,.int lo,.int hi]∧Ih t H p row ws pl∧ws[pl]? = some x∧JI x lo hi=.int v∧NoT H∧PQ t H p row ws (pl + 1) (Q (.int v))
def oG (t:Adr):Sp:=fun vs H Q _=>∃ p row ws pl,vs=[.ref p]∧Ih t H p row ws pl∧pl=ws.length∧Q .non H
section
variable {P:Program} {w:World} {K:PySem.W.Frag} {mg:Str→Option Value} {base:Heap} {t:Adr}
theorem qP (T:Txt w K mg t):Gb P w K mg base CX0 1 t.Ae t.xf q28 (vL t):=by
 refine T.jk.ok ql (fun vs H Q E h=>?_) (fun _ _ _ s H vs Q E hr h=>?_)
 ·obtain ⟨p,dx,ta,row,rfl,_⟩:=h;rfl
 obtain ⟨p,dx,ta,row,rfl,hp,q⟩:=h;refine ⟨_,(cb (mf (pv 0) (pv 1) rfl)
   (cb (mf (pv 0) (pv 2) rfl)
   (ib (mf (pv 0) qb rfl)))),?_⟩
 walk_at "RD";refine ⟨_,_,_,hp,T.Eb,T.cq,by decide,?_⟩;refine ⟨_,_,_,db,T.Eb,T.fj,Co (n:=999) (by decide),?_⟩;refine ⟨_,_,_,db,T.Eb,T.Xf,Co (n:=999) (Co (n:=998) (by decide)),?_⟩;simp only [Dl];rw [show Rh (Str.ofString "row") (V.int row) ([]:List (Str × V))=[(Str.ofString "row",V.int row)] from kd [] rfl (by decide +kernel),
  show Rh (Str.ofString "told") (V.ref ta) ([(Str.ofString "row",V.int row)]:List (Str × V))=[(Str.ofString "row",V.int row),(Str.ofString "told",V.ref ta)] from kd [Str.ofString "row"] rfl (by decide +kernel),
  show Rh (Str.ofString "place") (V.int 0) ([(Str.ofString "row",V.int row),(Str.ofString "told",V.ref ta)]:List (Str × V))=[(Str.ofString "row",V.int row),(Str.ofString "told",V.ref ta),(Str.ofString "place",V.int 0)] from kd [Str.ofString "row",Str.ofString "told"] rfl (by decide +kernel)]
 exact q
theorem Kq (T:Txt w K mg t):Gb P w K mg base CX0 1 t.wc t.Gc ["self"] (Hn t):=by
 refine T.Yi.ok Bo (fun vs H Q E h=>?_) (fun _ _ _ s H vs Q E hr h=>?_)
 ·obtain ⟨p,row,ws,pl,rfl,_⟩:=h;rfl
 obtain ⟨p,row,ws,pl,rfl,⟨hz,dx,ta,e1,e2⟩,hle,q⟩:=h;refine ⟨_,(cb (Le (Pb fm (Ob (pv 0) rfl) (jd Bc rfl T.Dn Nc (ab (Ob (pv 0) rfl) gb)) (gc _)) (ib (Cb vd)) qc)
   (ib (Cb (Zb He (Ob (pv 0) rfl) (Ob (pv 0) rfl))))),?_⟩
 walk_at "RD";refine ac (decide ((pl:Int)=(ws.length:Int))) (fun Q hQ=>?_) (fun c=>?_) (fun c=>?_)
 ·walk_at "RD";refine ⟨_,vw T e1,_,pA T e1,_,rfl,_,.inl (SqL.of e2),rfl,?_⟩;rw [An];walk_at "RD";exact hQ
 ·walk_at "RD";have c':pl=ws.length:=by have:=of_decide_eq_true c;omega
  rw [show ws.getD pl (Str.ofString "")=Str.ofString "" by rw [List.getD_eq_getElem?_getD,List.getElem?_eq_none (by omega)];rfl] at q;exact q
 ·walk_at "RD";have c':pl < ws.length:=by have:=of_decide_eq_false c;omega
  have hx:ws[pl]? = some ws[pl]:=List.getElem?_eq_getElem c';rw [List.getD_eq_getElem?_getD,hx] at q;exact ⟨_,pA T e1,_,vw T e1,_,rfl,_,_,rfl,SqL.of e2,_,Jb (SI hx),q⟩
theorem SM (T:Txt w K mg t):Gb P w K mg base CX0 1 t.bd t.Zd ["self"] (SF t):=by
 refine T.Yg.ok Bk (fun vs H Q E h=>?_) (fun _ _ _ s H vs Q E hr h=>?_)
 ·obtain ⟨p,row,ws,pl,rfl,_⟩:=h;rfl
 obtain ⟨p,row,ws,pl,rfl,⟨hz,dx,ta,e1,e2⟩,q⟩:=h;refine ⟨_,(ib (Cb (Qf Ms (Ob (pv 0) rfl) (jd Bc rfl T.Dn Nc (ab (Ob (pv 0) rfl) gb)) (gc _)))),?_⟩;walk_at "RD";have e:decide (pl < ws.length)=decide ((pl:Int) < (ws.length:Int)):=by rw [Bool.eq_iff_iff];simp
 rw [e] at q;refine ⟨_,vw T e1,_,pA T e1,_,rfl,_,.inl (SqL.of e2),?_⟩;rw [An];exact ⟨_,rfl,q⟩
theorem Yy (T:Txt w K mg t):Gb P w K mg base CX0 1 t.Vc t.Fd q17 (dw t):=by
 refine T.ik.ok Mo (fun vs H Q E h=>?_) (fun _ _ _ s H vs Q E hr h=>?_)
 ·obtain ⟨p,row,ws,pl,rfl,_⟩:=h;rfl
 obtain ⟨p,row,ws,pl,rfl,⟨hz,dx,ta,e1,e2⟩,q⟩:=h;refine ⟨_,(cb (Le (Wq (Cm (pv 1))) (ib dh) qc)
   (ib (qH (pv 0) qb kP))),?_⟩
 walk_at "RD";refine ac false (fun Q hQ=>?_) (fun hc=>nomatch hc) (fun _=>?_)
 ·walk_at "RD";exact hQ
 ·walk_at "RD";refine ⟨_,_,_,e1,T.Eb,T.Xf,_,yd Hx 2 (uo ..) (by decide +kernel) rfl,_,rfl,_,_,e1,by rw [← List.length_map (f:=(·.1)),uo];decide,?_⟩;rw [dN];exact q _ Kc.put (fun n=>n.upd) ⟨hz,dx,ta,db,by rw [wb (Hf e2 e1 (by intro z;cases z))];exact e2⟩
theorem oB (T:Txt w K mg t):Gb P w K mg base CX0 2 t.Oc t.Ud q29 (Uv K t):=by
 have g10:Gb P w K mg base CX0 1 t.wc t.Gc ["self"] (Hn t):=Kq T;have g14:Gb P w K mg base CX0 1 t.Vc t.Fd q17 (dw t):=Yy T;refine T.Vh.ok Fh (fun vs H Q E h=>?_) (fun _ _ _ s H vs Q E hr h=>?_)
 ·obtain ⟨p,row,ws,pl,x,c,xs,rfl,_⟩:=h;rfl
 obtain ⟨p,row,ws,pl,x,c,xs,rfl,R,hx,hc,hm,q⟩:=h;refine ⟨_,(cb (xb (i:=2) Fh.nd (vf (pv 0) T.Eb T.Xe g10 hr T.Ze .nil Rc))
   (cb (gd (Ed (pv 0) T.Eb T.Qg g14 hr T.Sg .nil Rc (ab (Qf Vr (pv 2) (pv 1) (by with_unfolding_all rfl)) gb)))
   (ib (Cb (pv 2))))),?_⟩
 have hlt:pl < ws.length:=(List.getElem?_eq_some_iff.mp hx).1;have hg:ws.getD pl (Str.ofString "")=x:=by rw [List.getD_eq_getElem?_getD,hx];rfl
 obtain ⟨_,dx,ta,e1,e2⟩:=id R;walk_at "RD";refine ⟨_,_,e1,Ih.no _ _ _ (by decide +kernel),⟨p,row,ws,pl,rfl,R,by omega,?_⟩⟩;rw [hg];walk_at "RD";refine ⟨_,_,e1,Ih.no _ _ _ (by decide +kernel),_,.inl hc,rfl,uu xs,?_⟩;rw [YA,decide_eq_true hm];refine ⟨p,row,ws,pl,rfl,R,fun H' s1 s2 s3=>?_⟩;walk_at "RD";exact q H' s1 s2 s3
theorem Zz (T:Txt w K mg t):Gb P w K mg base CX0 4 t.vc t.Ec q21 (Hw t):=by
 have g10:Gb P w K mg base CX0 3 t.wc t.Gc ["self"] (Hn t):=(Kq T).mono (by decide);have g14:Gb P w K mg base CX0 3 t.Vc t.Fd q17 (dw t):=(Yy T).mono (by decide);have g30:Gb P w K mg base CX0 3 t.vo t.Jn q36 TK:=aP T;refine T.Hh.ok Zg (fun vs H Q E h=>?_) (fun _ _ _ s H vs Q E hr h=>?_)
 ·obtain ⟨p,row,ws,pl,x,lo,hi,v,rfl,_⟩:=h;rfl
 obtain ⟨p,row,ws,pl,x,lo,hi,v,rfl,R,hx,hv,nt,q⟩:=h;refine ⟨_,(cb (xb (i:=3) Zg.nd (ub g30 hr T.gF T.mr.kp T.oI (ab (vf (pv 0) T.Eb T.Xe g10 hr T.Ze .nil Rc) (ab (pv 1) (ab (pv 2) gb)))))
   (cb (gd (Ed (pv 0) T.Eb T.Qg g14 hr T.Sg .nil Rc (ab (Qf Vy (pv 3) Ug (gc _)) gb)))
   (ib (Cb (pv 3))))),?_⟩
 have hlt:pl < ws.length:=(List.getElem?_eq_some_iff.mp hx).1;have hg:ws.getD pl (Str.ofString "")=x:=by rw [List.getD_eq_getElem?_getD,hx];rfl
 obtain ⟨hz,dx,ta,e1,e2⟩:=id R;walk_at "RD";refine ⟨_,_,e1,Ih.no _ _ _ (by decide +kernel),⟨p,row,ws,pl,rfl,R,by omega,?_⟩⟩;rw [hg];walk_at "RD";refine ⟨x,lo,hi,rfl,hz.2 x (List.mem_of_getElem? hx),nt,?_⟩;rw [hv];walk_at "RD";refine ⟨_,_,e1,Ih.no _ _ _ (by decide +kernel),?_⟩;refine ⟨p,row,ws,pl,rfl,R,fun H' s1 s2 s3=>?_⟩;walk_at "RD";exact q H' s1 s2 s3
theorem UL (T:Txt w K mg t):Gb P w K mg base CX0 2 t.Pc t.Nd ["self"] (oG t):=by
 have g31:Gb P w K mg base CX0 1 t.bd t.Zd ["self"] (SF t):=SM T;refine T.vi.ok mn (fun vs H Q E h=>?_) (fun _ _ _ s H vs Q E hr h=>?_)
 ·obtain ⟨p,row,ws,pl,rfl,_⟩:=h;rfl
 obtain ⟨p,row,ws,pl,rfl,R,hl,q⟩:=h;obtain ⟨hz,dx,ta,e1,e2⟩:=id R;refine ⟨_,(ib (Le (Cm (vf (pv 0) T.Eb T.em g31 hr T.mm .nil Rc)) (ib dh) qc)),?_⟩;walk_at "RD";refine ac false (fun Q hQ=>?_) (fun hc=>nomatch hc) (fun _=>?_)
 ·walk_at "RD";refine ⟨_,_,e1,Ih.no _ _ _ (by decide +kernel),⟨p,row,ws,pl,rfl,R,?_⟩⟩;rw [decide_eq_false (by omega)];exact ⟨_,rfl,hQ⟩
 ·walk_at "RD";exact q
end
end My
namespace My
open PySem L2
theorem lc {α β:Type} {f:α→β} {l:List α} {i:Nat} {y:β} (h:(l.map f)[i]? = some y):∃ x,l[i]? = some x∧y=f x:=by
 rw [List.getElem?_map] at h;cases e:l[i]? with
 | none=>rw [e] at h;cases h
 | some x=>rw [e] at h;exact ⟨x,rfl,(Option.some.inj h).symm⟩
def nR (t:Adr) (H0 H:Hp) (p:Addr) (rows:List (List Str)):Prop:=∃ qs:List Addr,H p=some (.lst (qs.map V.ref))∧H0 p=none∧qs.length=rows.length∧∀ (i:Nat) (q:Addr) (r:List Str),qs[i]? = some q→rows[i]? = some r→Ih t H q i r 0∧H0 q=none
def xu (t:Adr):Sp:=fun vs H Q _=>∃ x,vs=[.str x]∧x.length ≤ 20000∧(∀ r ∈ Pj x,r.length ≤ 1000∧∀ y ∈ r,y.length ≤ 1000)∧NoT H∧∀ p H',Ib H H'→NoT H'→nR t H H' p (Pj x)→Q (.ref p) H'
section
variable {P:Program} {w:World} {K:PySem.W.Frag} {mg:Str→Option Value} {base:Heap} {t:Adr}
theorem qD (T:Txt w K mg t):Gb P w K mg base CX0 3 t.Kn t.Xn ["text"] (xu t):=by
 have g32:Gb P w K mg base CX0 2 t.yv t.Nv ["text"] mB:=(wJ T).mono (by decide);have g33:Gb P w K mg base CX0 1 t.Ae t.xf q28 (vL t):=qP T;refine T.Qs.ok ZD (fun vs H Q E h=>?_) (fun _ _ _ s H vs Q E hr h=>?_)
 ·obtain ⟨x,rfl,_⟩:=h;rfl
 obtain ⟨x,rfl,hz,hrow,nt,q⟩:=h;refine ⟨_,(ib (Cb (Bf rfl (Xk rfl T.re (ab (ub g32 hr T.RM T.bA.kp T.EM (ab (pv 0) gb)) gb)) (ic (sc:=jb Xs) rfl (by decide +kernel)) (N:=["row","told"]) (sel:=[none,none]) (uc (M:=["text"]) (by decide +kernel)) (Blk.of (fun _ _ _ _=>(Wc (K:=K) (n:=2) rfl rfl (Bb (lb (i:=0) (Ue (N:=["row","told"]) (by decide +kernel) rfl)) (Bb (lb (i:=1) (Ue (N:=["row","told"]) (by decide +kernel) rfl)) Uc)))) (fun _ _ _ _=>⟨_,pe,by walk_at "B"⟩) (fun _ _ _ _=>⟨_,(Ym T.Xz g33 hr rfl T.qz T.aq .nil Rc (ab (pv 0) (ab (pv 1) gb))),by walk_at "B"⟩))))),?_⟩;walk_at "RD";refine ⟨x,rfl,hz,nt,fun p H1 sm1 nt1 ⟨ps,hp,hp0,hpn,hpl,hpa⟩=>?_⟩;walk_at "RD";refine ⟨⟨_,SqL.of hp⟩,?_⟩;have hlen:ps.length ≤ sizeLine:=by
  rw [hpl];unfold Pj;rw [List.length_map];have:=Uq (x:=x) (y:=nl) (by rw [pB];exact Nat.le_refl _);exact Nat.le_trans (show _ ≤ 40000 by omega) (by decide)
 refine Fc.enum (xs:=ps.map V.ref) (fun i ys H2=>Ib H1 H2∧NoT H2∧∃ qs:List Addr,ys=qs.map V.ref∧qs.length=i∧∀ (j:Nat) (q:Addr) (r:List Str),qs[j]? = some q→(Pj x)[j]? = some r→Ih t H2 q j r 0∧H1 q=none)
  (by rw [List.length_map];exact hlen) ⟨Ib.refl H1,nt1,[],rfl,rfl,fun j q r h _=>by simp at h⟩ ?_ ?_ ?_
 ·rintro i ys H2 hi zzq;refine zzP fun zzM zzh=>?_
  obtain ⟨s2,n2,qs,rfl,hq,_⟩:=zzq;subst zzh;exact ⟨SqL.of (s2 _ _ hp),by rw [List.length_map];omega⟩
 ·rintro i v ys H2 p2 hv ⟨s2,n2,qs,rfl,hq,al⟩ hp2 N hN;rw [List.getElem?_map] at hv;cases hpi:ps[i]? with
  | none=>rw [hpi] at hv;cases hv
  | some pi=>
   rw [hpi] at hv;have e:=(Option.some.inj hv).symm;subst e;refine sf ?_;walk_at "RD";refine ⟨Sub.name2,fun a dx ha hd hne=>?_⟩;refine ⟨a,dx,pi,i,rfl,db,rfl,?_⟩;rw [Dl];have s3:Ib H2 (upd (upd (upd H2 p2 (.tup [.int i,.ref pi])) dx (.own a)) a (.ins t.Fb dx (rdF i pi 0))):=by
    have s':Ib H2 (upd H2 p2 (.tup [.int i,.ref pi])):=fb hp2;exact ((Ib.trans s' (fb hd)).updN (s'.free ha))
   obtain ⟨r,hr⟩:∃ r,(Pj x)[i]? = some r:=⟨(Pj x)[i]'(by rw [← hpl];exact (List.getElem?_eq_some_iff.mp hpi).1),List.getElem?_eq_getElem _⟩;have ha2:H2 a=none:=(fb hp2).free ha;refine hN _ _ ⟨s2.trans s3,((n2.upd).upd).upd,qs ++ [a],by rw [List.map_append];rfl,by rw [List.length_append,hq];rfl,fun j q' r' h1 h2=>?_⟩;by_cases hj:j < qs.length
   ·rw [List.getElem?_append_left hj] at h1;obtain ⟨z1,z2⟩:=al j q' r' h1 h2;exact ⟨z1.same s3,z2⟩
   ·rw [List.getElem?_append_right (by omega)] at h1;have hj0:j - qs.length=0:=by
     cases hh:j - qs.length with
     | zero=>rfl
     | succ n=>rw [hh] at h1;simp at h1
    rw [hj0] at h1;have e3:a=q':=by simpa using h1
    subst e3;have e4:j=i:=by omega
    subst e4;rw [hr] at h2;cases h2;refine ⟨⟨hrow r (List.mem_of_getElem? hr),dx,pi,db,?_⟩,s2.free ha2⟩;exact s3 _ _ (s2 _ _ (hpa j pi r hpi hr).1)
 ·rintro ys H2 ⟨s2,n2,qs,rfl,hq,al⟩ p2 hp2;refine q p2 _ ((sm1.trans s2).updN ((sm1.trans s2).free hp2)) (n2.upd) ⟨qs,db,(sm1.trans s2).free hp2,by rw [hq,List.length_map,hpl],fun i q' r h1 h2=>?_⟩;obtain ⟨z1,z2⟩:=al i q' r h1 h2;exact ⟨z1.same (fb hp2),sm1.free z2⟩
end
def mS (q:Addr) (H:Hp) (R:Hp→Prop):Prop:=∀ H',Kc q H H'→NoT H'→R H'
def RG (t:Adr):Sp:=fun vs H Q _=>∃ q row n,vs=[.ref q]∧Ih t H q row [Str.ofString "ring",num n] 0∧(2 ≤ n∧n ≤ 99)∧NoT H∧mS q H (Q (.int n))
def xl (t:Adr) (H:Hp) (wl:Addr) (ds:List WD):Prop:=∃ as:List Addr,H wl=some (.lst (as.map V.ref))∧as.length=ds.length∧∀ (i:Nat) (a:Addr) (d:WD),as[i]? = some a→ds[i]? = some d→ve t H a d
def Gu (t:Adr):Sp:=fun vs H Q _=>∃ q row ws pl wl ds x,vs=[.ref q,.ref wl]∧Ih t H q row ws pl∧ws[pl]? = some x∧made x Fi 8=true∧xl t H wl ds∧ds.length ≤ 12∧(∀ d ∈ ds,d.name ≠ x)∧NoT H ∧
 ∀ H',Kc q H H'→NoT H'→Ih t H' q row ws (pl + 1)→Q (.str x) H'
def lL (t:Adr):Sp:=fun vs H Q _=>∃ q row ws pl n st fi,vs=[.ref q,.int n,.int st]∧Ih t H q row ws pl∧ws[pl]? = some (num fi)∧(0 ≤ st∧st < n)∧(0 ≤ fi∧fi < n)∧st ≠ fi∧n ≤ 99∧NoT H ∧
 ∀ H',Kc q H H'→NoT H'→Ih t H' q row ws (pl + 1)→Q (.int fi) H'
def wB (t:Adr):Sp:=fun vs H Q _=>∃ d:WD,vs=[.str (fe d.k),.str d.name,.int d.start,.int d.fin,.int d.off,.int d.near,.int d.least]∧d.k < 3∧∀ x H',Ib H H'→(NoT H→NoT H')→ve t H' x d→H x=none→Q (.ref x) H'
def qL (t:Adr):Sp:=fun vs H Q _=>∃ q row n wl ds d,vs=[.ref q,.int n,.ref wl]∧Ih t H q row (Xi d) 0∧WOk n d∧(2 ≤ n∧n ≤ 99)∧xl t H wl ds∧ds.length ≤ 12∧(∀ e ∈ ds,e.name ≠ d.name)∧NoT H ∧
 ∀ x H',Kc q H H'→NoT H'→ve t H' x d→H x=none→Q (.ref x) H'
theorem xl.sameX {t:Adr} {H H':Hp} {q wl:Addr} {ds:List WD} {row:Int} {ws:List Str} {pl:Nat} (h:xl t H wl ds) (s:Kc q H H') (r:Ih t H q row ws pl):xl t H' wl ds:=by
 obtain ⟨as,e1,e2,al⟩:=h;obtain ⟨hz,dx,ta,e3,e4⟩:=r;refine ⟨as,s _ _ (Hf e1 e3 (by intro z;cases z)) e1,e2,fun i a d h1 h2=>?_⟩;obtain ⟨hk,dx',e5⟩:=al i a d h1 h2;refine ⟨hk,dx',s _ _ (fun z=>?_) e5⟩;subst z;rw [e5] at e3;have e6:=Option.some.inj e3;injection e6 with _ _ e8;have e9:(7:Nat)=3:=congrArg List.length e8;omega
theorem xl.same {t:Adr} {H H':Hp} {wl:Addr} {ds:List WD} (h:xl t H wl ds) (s:Ib H H'):xl t H' wl ds:=by
 obtain ⟨as,e1,e2,al⟩:=h;exact ⟨as,s _ _ e1,e2,fun i a d h1 h2=>(al i a d h1 h2).same s⟩
section
variable {P:Program} {w:World} {K:PySem.W.Frag} {mg:Str→Option Value} {base:Heap} {t:Adr}
theorem PN (T:Txt w K mg t):Gb P w K mg base CX0 5 t.Oj t.Ej ["reader"] (RG t):=by
 have g17:Gb P w K mg base CX0 4 t.Oc t.Ud q29 (Uv K t):=(oB T).mono (by decide);have g9:Gb P w K mg base CX0 4 t.vc t.Ec q21 (Hw t):=Zz T;have g18:Gb P w K mg base CX0 4 t.Pc t.Nd ["self"] (oG t):=(UL T).mono (by decide);refine T.cn.ok Tp (fun vs H Q E h=>?_) (fun _ _ _ s H vs Q E hr h=>?_)
 ·obtain ⟨q,row,n,rfl,_⟩:=h;rfl
 obtain ⟨q,row,n,rfl,R,hn,nt,qq⟩:=h;refine ⟨_,(cb (gd (Ed (pv 0) T.Eb T.Zh g17 hr T.Sh .nil Rc (ab (Pi (ab vd gb)) gb)))
   (cb (xb (i:=1) Tp.nd (Ed (pv 0) T.Eb T.Ic g9 hr T.Hc .nil Rc (ab (Bi rfl T.au T.Dt) (ab (Bi rfl T.Dv T.sw) gb))))
   (cb (gd (vf (pv 0) T.Eb T.Uh g18 hr T.Nh .nil Rc))
   (ib (Cb (pv 1)))))),?_⟩
 obtain ⟨_,dx,ta,e1,e2⟩:=id R;walk_at "RD";refine ⟨_,_,e1,Ih.no _ _ _ (by decide +kernel),by decide,fun p hp=>?_⟩;have s0:Ib H (upd H p (.lst [V.str (Str.ofString "ring")])):=fb hp;refine ⟨q,row,_,0,Str.ofString "ring",p,[Str.ofString "ring"],rfl,R.same s0,rfl,SqL.of db,by simp,fun H1 s1 n1 R1=>?_⟩;obtain ⟨_,dx1,ta1,f1,f2⟩:=id R1;walk_at "RD";refine ⟨_,_,f1,Ih.no _ _ _ (by decide +kernel),?_⟩;have nt1:=n1 nt.upd;refine ⟨q,row,_,1,num n,2,99,n,rfl,R1,rfl,Lo (by omega) (by omega) hn.1 hn.2,nt1,fun H2 s2 n2 R2=>?_⟩;obtain ⟨_,dx2,ta2,g1,g2⟩:=id R2;walk_at "RD";refine ⟨_,_,g1,Ih.no _ _ _ (by decide +kernel),?_⟩;refine ⟨q,row,_,2,rfl,R2,rfl,?_⟩;walk_at "RD";exact qq H2 (((Kc.of s0).trans s1).trans s2) (n2 nt1)
theorem jE (T:Txt w K mg t):Gb P w K mg base CX0 3 t.Tf t.Mf q37 (Gu t):=by
 have g10:Gb P w K mg base CX0 2 t.wc t.Gc ["self"] (Hn t):=(Kq T).mono (by decide);have g14:Gb P w K mg base CX0 2 t.Vc t.Fd q17 (dw t):=(Yy T).mono (by decide);have g34:Gb P w K mg base CX0 2 t.xn t.Mn ["word"] CI:=gN T;refine T.Gh.ok ck (fun vs H Q E h=>?_) (fun _ _ _ s H vs Q E hr h=>?_)
 ·obtain ⟨q,row,ws,pl,wl,ds,x,rfl,_⟩:=h;rfl
 obtain ⟨q,row,ws,pl,wl,ds,x,rfl,R,hx,hm,hW,hdl,hnew,nt,qq⟩:=h;refine ⟨_,(cb (xb (i:=2) ck.nd (vf (pv 0) T.Eb T.Xe g10 hr T.Ze .nil Rc))
   (cb (gd (Ed (pv 0) T.Eb T.Qg g14 hr T.Sg .nil Rc (ab (XL (ub g34 hr T.lI T.Fs.kp T.YG (ab (pv 2) gb)) (Bx (Qf Ip (pv 2) (Bf rfl (ld (pv 1)) (ic (sc:=jb Kh) rfl (by decide +kernel)) (N:=["way"]) (sel:=[none]) (uc (M:=["reader","ways","name"]) (by decide +kernel)) (Blk.of (fun _ _ _ _=>(lb (i:=0) (Ue (N:=["way"]) (by decide +kernel) rfl))) (fun _ _ _ _=>⟨_,pe,by walk_at "B"⟩) (fun _ _ _ _=>⟨_,(Ob (pv 0) rfl),by walk_at "B"⟩))) (by with_unfolding_all rfl)))) gb)))
   (ib (Cb (pv 2))))),?_⟩
 have hlt:pl < ws.length:=(List.getElem?_eq_some_iff.mp hx).1;have hg:ws.getD pl (Str.ofString "")=x:=by rw [List.getD_eq_getElem?_getD,hx];rfl
 obtain ⟨hz,dx,ta,e1,e2⟩:=id R;walk_at "RD";refine ⟨_,_,e1,Ih.no _ _ _ (by decide +kernel),⟨q,row,ws,pl,rfl,R,by omega,?_⟩⟩;rw [hg];walk_at "RD";refine ⟨_,_,e1,Ih.no _ _ _ (by decide +kernel),?_⟩;refine ⟨x,rfl,hz.2 x (List.mem_of_getElem? hx),nt,?_⟩;rw [hm];walk_at "RD";obtain ⟨as,w1,w2,al⟩:=hW;refine ⟨⟨_,SqL.of w1⟩,?_⟩;have hle:(as.map V.ref).length ≤ sizeLine:=by rw [List.length_map,w2];exact Nat.le_trans hdl (by decide)
 refine Fc.list_zs (xs:=as.map V.ref) (zs:=ds.map fun d=>V.str d.name) (SqL.of w1) hle (by rw [List.length_map,List.length_map,w2]) (fun i v z N hv hz' hN=>?_) (fun p hp=>?_)
 ·obtain ⟨a,ha,rfl⟩:=lc hv;obtain ⟨d,hd,rfl⟩:=lc hz';walk_at "RD";exact ⟨Sub.name,_,(al i a d ha hd).f_name T,hN⟩
 ·walk_at "RD";have e0:(ds.map fun d=>V.str d.name)=Qb (ds.map (·.name)):=by unfold Qb;rw [List.map_map];rfl
  rw [e0];refine ⟨_,.inl (SqL.of db),rfl,uu _,?_⟩;rw [YA,decide_eq_false (fun z=>by
   obtain ⟨d,hd,e⟩:=List.mem_map.mp z;exact hnew d hd e)]
  have s0:Ib H (upd H p (.lst (Qb (ds.map (·.name))))):=fb hp;exact ⟨q,row,ws,pl,rfl,R.same s0,fun H' s1 n1 R1=>qq H' ((Kc.of s0).trans s1) (n1 nt.upd) R1⟩
theorem AO (T:Txt w K mg t):Gb P w K mg base CX0 5 t.Ul t.Ml q25 (lL t):=by
 have g10:Gb P w K mg base CX0 4 t.wc t.Gc ["self"] (Hn t):=(Kq T).mono (by decide);have g9:Gb P w K mg base CX0 4 t.vc t.Ec q21 (Hw t):=Zz T;refine T.Dp.ok tz (fun vs H Q E h=>?_) (fun _ _ _ s H vs Q E hr h=>?_)
 ·obtain ⟨q,row,ws,pl,n,st,fi,rfl,_⟩:=h;rfl
 obtain ⟨q,row,ws,pl,n,st,fi,rfl,R,hx,hst,hfi,hne,hn,nt,qq⟩:=h;refine ⟨_,(cb (Le (Pb fm (vf (pv 0) T.Eb T.Xe g10 hr T.Ze .nil Rc) (Ig Jk rfl T.NN Vo (ab (pv 2) gb)) (gc _)) (ib dh) qc)
   (ib (Cb (Ed (pv 0) T.Eb T.Ic g9 hr T.Hc .nil Rc (ab qb (ab (Lb ci (pv 1) qb) gb)))))),?_⟩
 have hlt:pl < ws.length:=(List.getElem?_eq_some_iff.mp hx).1;have hg:ws.getD pl (Str.ofString "")=num fi:=by rw [List.getD_eq_getElem?_getD,hx];rfl
 obtain ⟨hz,dx,ta,e1,e2⟩:=id R;walk_at "RD";refine ac false (fun Q hQ=>?_) (fun hc=>nomatch hc) (fun _=>?_)
 ·walk_at "RD";refine ⟨_,_,e1,Ih.no _ _ _ (by decide +kernel),⟨q,row,ws,pl,rfl,R,by omega,?_⟩⟩;rw [hg];walk_at "RD";refine ⟨kr (by omega),?_⟩;rw [decide_eq_false (fun z=>hne (bN (by omega) (by omega) (by omega) (by omega) z).symm)];exact hQ
 ·walk_at "RD";refine ⟨_,_,e1,Ih.no _ _ _ (by decide +kernel),⟨q,row,ws,pl,num fi,0,n - 1,fi,rfl,R,hx,Lo (by omega) (by omega) (by omega) (by omega),nt,fun H1 s1 n1 R1=>?_⟩⟩;exact qq H1 s1 (n1 nt) R1
theorem sO {t:Adr} {H:Hp} {x dx:Addr} {d:WD} (hx:H x=none) (hd:H dx=none) (hk:d.k < 3) :
  Ib H (upd (upd (upd H dx (.own x)) x (.ins (t.cw d.k) dx [])) x (.ins (t.cw d.k) dx (Qo d)))∧(NoT H→NoT (upd (upd (upd H dx (.own x)) x (.ins (t.cw d.k) dx [])) x (.ins (t.cw d.k) dx (Qo d)))) ∧
   ve t (upd (upd (upd H dx (.own x)) x (.ins (t.cw d.k) dx [])) x (.ins (t.cw d.k) dx (Qo d))) x d:=
 ⟨(((Ib.refl H).updN hd).updN hx).updN hx,fun n=>((n.upd).upd).upd,hk,dx,db⟩
theorem RI (T:Txt w K mg t):Gb P w K mg base CX0 4 t.Nl t.Wl q26 (wB t):=by
 have g35:Gb P w K mg base CX0 2 t.Sf t.jh q8 (dm t 0):=tM T;have g36:Gb P w K mg base CX0 2 t.tf t.Ag q8 (dm t 1):=sK T;have g37:Gb P w K mg base CX0 2 t.pf t.ng q8 (dm t 2):=uK T;refine T.qp.ok Qz (fun vs H Q E h=>?_) (fun _ _ _ s H vs Q E hr h=>?_)
 ·obtain ⟨d,rfl,_⟩:=h;rfl
 obtain ⟨d,rfl,hk,q⟩:=h;refine ⟨_,(cb (Le (Pb fm (pv 0) vd (gc _)) (ib (Cb (Ym T.XI g35 hr rfl T.YI T.gw .nil Rc (ab (pv 1) (ab (pv 2) (ab (pv 3) (ab (pv 4) (ab (pv 5) (ab (pv 6) gb))))))))) qc)
   (cb (Le (Pb fm (pv 0) vd (gc _)) (ib (Cb (Ym T.TH g36 hr rfl T.oF T.Ft .nil Rc (ab (pv 1) (ab (pv 2) (ab (pv 3) (ab (pv 4) (ab (pv 5) (ab (pv 6) gb))))))))) qc)
   (ib (Cb (Ym T.WG g37 hr rfl T.WF T.Rt .nil Rc (ab (pv 1) (ab (pv 2) (ab (pv 3) (ab (pv 4) (ab (pv 5) (ab (pv 6) gb))))))))))),?_⟩
 have fin:∀ (x dx:Addr),H x=none→H dx=none→Q (.ref x) (upd (upd (upd H dx (.own x)) x (.ins (t.cw d.k) dx [])) x (.ins (t.cw d.k) dx (Qo d))):=fun x dx hx hd=>by
  obtain ⟨m1,m2,m3⟩:=sO (t:=t) (d:=d) hx hd hk;exact q x _ m1 m2 m3 hx
 obtain ⟨k,name,start,fi,off,near,least⟩:=d
 match k,hk with
 | 0,_=>
  (walk_at "RD"; repeat (dsimp only [fe];walk_at "RD"));refine ac true (fun Q hQ=>?_) (fun _=>?_) (fun hc=>nomatch hc)
  ·walk_at "RD";exact hQ
  ·walk_at "RD";exact fun x dx hx hd hne=>⟨x,dx,⟨0,name,start,fi,off,near,least⟩,rfl,rfl,db,rfl,fin x dx hx hd⟩
 | 1,_=>
  (walk_at "RD"; repeat (dsimp only [fe];walk_at "RD"));refine ac false (fun Q hQ=>?_) (fun hc=>nomatch hc) (fun _=>?_)
  ·walk_at "RD";rw [decide_eq_false (by decide +kernel)];exact hQ
  ·walk_at "RD";refine ac true (fun Q hQ=>?_) (fun _=>?_) (fun hc=>nomatch hc)
   ·walk_at "RD";exact hQ
   ·walk_at "RD";exact fun x dx hx hd hne=>⟨x,dx,⟨1,name,start,fi,off,near,least⟩,rfl,rfl,db,rfl,fin x dx hx hd⟩
 | 2,_=>
  (walk_at "RD"; repeat (dsimp only [fe];walk_at "RD"));refine ac false (fun Q hQ=>?_) (fun hc=>nomatch hc) (fun _=>?_)
  ·walk_at "RD";rw [decide_eq_false (by decide +kernel)];exact hQ
  ·walk_at "RD";refine ac false (fun Q hQ=>?_) (fun hc=>nomatch hc) (fun _=>?_)
   ·walk_at "RD";rw [decide_eq_false (by decide +kernel)];exact hQ
   ·walk_at "RD";exact fun x dx hx hd hne=>⟨x,dx,⟨2,name,start,fi,off,near,least⟩,rfl,rfl,db,rfl,fin x dx hx hd⟩
theorem qQ (T:Txt w K mg t):Gb P w K mg base CX0 6 t.Zl t.Ll q38 (qL t):=by
 have g17:Gb P w K mg base CX0 5 t.Oc t.Ud q29 (Uv K t):=(oB T).mono (by decide);have g9:Gb P w K mg base CX0 5 t.vc t.Ec q21 (Hw t):=(Zz T).mono (by decide);have g18:Gb P w K mg base CX0 5 t.Pc t.Nd ["self"] (oG t):=(UL T).mono (by decide);have g38:Gb P w K mg base CX0 5 t.Tf t.Mf q37 (Gu t):=(jE T).mono (by decide);have g39:Gb P w K mg base CX0 5 t.Ul t.Ml q25 (lL t):=AO T;have g40:Gb P w K mg base CX0 5 t.Nl t.Wl q26 (wB t):=(RI T).mono (by decide);refine T.jp.ok Me (fun vs H Q E h=>?_) (fun _ _ _ s H vs Q E hr h=>?_)
 ·obtain ⟨q,row,n,wl,ds,d,rfl,_⟩:=h;rfl
 obtain ⟨q,row,n,wl,ds,d,rfl,R,hd,hn,hW,hdl,hnew,nt,qq⟩:=h;refine ⟨_,(cb (xb (i:=3) Me.nd (Ed (pv 0) T.Eb T.Zh g17 hr T.Sh .nil Rc (ab (Pi (ab vd (ab vd (ab vd gb)))) gb)))
   (cb (xb (i:=4) Me.nd (ub g38 hr T.jt T.Gh.kp T.Es (ab (pv 0) (ab (pv 2) gb))))
   (cb (xb (i:=5) Me.nd (Ed (pv 0) T.Eb T.Ic g9 hr T.Hc .nil Rc (ab qb (ab (Lb ci (pv 1) qb) gb))))
   (cb (xb (i:=6) Me.nd (ub g39 hr T.lD T.Dp.kp T.nD (ab (pv 0) (ab (pv 1) (ab (pv 5) gb)))))
   (cb (xb (i:=7) Me.nd (Ed (pv 0) T.Eb T.Ic g9 hr T.Hc .nil Rc (ab qb (ab (Bi rfl T.fD T.gE) gb))))
   (cb (xb (i:=8) Me.nd (Ed (pv 0) T.Eb T.Ic g9 hr T.Hc .nil Rc (ab qb (ab (Bi rfl T.Jz T.jA) gb))))
   (cb (xb (i:=9) Me.nd (Ed (pv 0) T.Eb T.Ic g9 hr T.Hc .nil Rc (ab qb (ab (Bi rfl T.Ix T.Vx) gb))))
   (cb (gd (vf (pv 0) T.Eb T.Uh g18 hr T.Nh .nil Rc))
   (ib (Cb (ub g40 hr T.YD T.qp.kp T.ND (ab (pv 3) (ab (pv 4) (ab (pv 5) (ab (pv 6) (ab (pv 7) (ab (pv 8) (ab (pv 9) gb)))))))))))))))))),?_⟩
 have b1:=hd.st;have b2:=hd.fi;have b3:=hd.of;have b4:=hd.nr;have b5:=hd.le;obtain ⟨_,dx,ta,e1,e2⟩:=id R;walk_at "RD";refine ⟨_,_,e1,Ih.no _ _ _ (by decide +kernel),by decide,fun p hp=>?_⟩;have s0:Ib H (upd H p (.lst [V.str (Str.ofString "car"),V.str (Str.ofString "foot"),V.str (Str.ofString "tram")])):=fb hp;have hin:fe d.k ∈ [Str.ofString "car",Str.ofString "foot",Str.ofString "tram"]:=by
  have:=hd.k
  match d.k,this with
  | 0,_=>simp [fe]
  | 1,_=>simp [fe]
  | 2,_=>simp [fe]
 refine ⟨q,row,_,0,fe d.k,p,[Str.ofString "car",Str.ofString "foot",Str.ofString "tram"],rfl,R.same s0,rfl,SqL.of db,hin,fun H1 s1 n1 R1=>?_⟩;have x1:Kc q H H1:=(Kc.of s0).trans s1;have m1:=n1 nt.upd;walk_at "RD";refine ⟨q,row,_,1,wl,ds,d.name,rfl,R1,rfl,hd.nm,hW.sameX x1 R,hdl,hnew,m1,fun H2 s2 m2 R2=>?_⟩;obtain ⟨_,dx2,ta2,f2,g2⟩:=id R2;have x2:=x1.trans s2;walk_at "RD";refine ⟨_,_,f2,Ih.no _ _ _ (by decide +kernel),⟨q,row,_,2,num d.start,0,n - 1,d.start,rfl,R2,rfl,Lo (by omega) (by omega) (by omega) (by omega),m2,fun H3 s3 n3 R3=>?_⟩⟩;have x3:=x2.trans s3;have m3:=n3 m2;walk_at "RD";refine ⟨q,row,_,3,n,d.start,d.fin,rfl,R3,rfl,b1,b2,hd.ne,hn.2,m3,fun H4 s4 m4 R4=>?_⟩;obtain ⟨_,dx4,ta4,f4,g4⟩:=id R4;have x4:=x3.trans s4;walk_at "RD";refine ⟨_,_,f4,Ih.no _ _ _ (by decide +kernel),⟨q,row,_,4,num d.off,0,30,d.off,rfl,R4,rfl,Lo (by omega) (by omega) (by omega) (by omega),m4,fun H5 s5 n5 R5=>?_⟩⟩;obtain ⟨_,dx5,ta5,f5,g5⟩:=id R5;have x5:=x4.trans s5;have m5:=n5 m4;walk_at "RD";refine ⟨_,_,f5,Ih.no _ _ _ (by decide +kernel),⟨q,row,_,5,num d.near,0,30,d.near,rfl,R5,rfl,Lo (by omega) (by omega) (by omega) (by omega),m5,fun H6 s6 n6 R6=>?_⟩⟩;obtain ⟨_,dx6,ta6,f6,g6⟩:=id R6;have x6:=x5.trans s6;have m6:=n6 m5;walk_at "RD";refine ⟨_,_,f6,Ih.no _ _ _ (by decide +kernel),⟨q,row,_,6,num d.least,1,60,d.least,rfl,R6,rfl,Lo (by omega) (by omega) (by omega) (by omega),m6,fun H7 s7 n7 R7=>?_⟩⟩;obtain ⟨_,dx7,ta7,f7,g7⟩:=id R7;have x7:=x6.trans s7;have m7:=n7 m6;walk_at "RD";refine ⟨_,_,f7,Ih.no _ _ _ (by decide +kernel),⟨q,row,_,7,rfl,R7,rfl,?_⟩⟩;walk_at "RD";refine ⟨d,rfl,hd.k,fun x H8 s8 n8 w8 hx8=>?_⟩;refine qq x H8 (x7.trans (Kc.of s8)) (n8 m7) w8 ?_;cases hH:H x with
 | none=>rfl
 | some u=>
  by_cases hxq:x=q
  ·subst hxq;rw [f7] at hx8;cases hx8
  ·rw [x7 x u hxq hH] at hx8;cases hx8
end
end My
namespace My
open PySem L2
noncomputable abbrev AD:List Str:=[Str.ofString "places",Str.ofString "ways",Str.ofString "numbers"]
noncomputable def cF (n:Int) (wl nd:Addr):List (Str × V):=[(Str.ofString "places",.int n),(Str.ofString "ways",.ref wl),(Str.ofString "numbers",.ref nd)]
theorem aw (n:Int) (wl nd:Addr):(cF n wl nd).map (·.1)=AD:=rfl
noncomputable def nm (ds:List WD) (i:Nat):Str:=((ds[i]?).map (·.name)).getD (Str.ofString "")
noncomputable def kE (ds:List WD) (i:Nat):List (Key × V):=(List.range i).map fun j=>(Sum.inr (nm ds j),V.int j)
theorem yx {ds:List WD} {i:Nat} {d:WD} (h:ds[i]? = some d):nm ds i=d.name:=by unfold nm;rw [h];rfl
theorem PB {ds:List WD} (h:(ds.map (·.name)).Nodup) {i j:Nat} (hi:i < ds.length) (hj:j < ds.length) (e:nm ds i=nm ds j):i=j:=by
 rw [yx (List.getElem?_eq_getElem hi),yx (List.getElem?_eq_getElem hj)] at e;have:=(List.getElem_inj (xs:=ds.map (·.name)) (i:=i) (j:=j) (h₀:=by rw [List.length_map];exact hi) (h₁:=by rw [List.length_map];exact hj) h).mp (by rw [List.getElem_map,List.getElem_map];exact e);exact this
theorem nK {ds:List WD} (h:(ds.map (·.name)).Nodup) {i:Nat}:∀ {n:Nat},i < n→n ≤ ds.length→Ol (kE ds n) (Sum.inr (nm ds i))=some (.int i):=by
 intro n
 induction n with
 | zero=>intro hi _;omega
 | succ n ih=>
  intro hi hn;unfold kE Ol;rw [List.range_succ,List.map_append,List.find?_append];by_cases c:i < n
  ·have:=ih c (by omega);unfold kE Ol at this;cases e:List.find? (fun kv=>decide (kv.fst=Sum.inr (nm ds i))) (List.map (fun j=>((Sum.inr (nm ds j):Key),V.int j)) (List.range n)) with
   | none=>rw [e] at this;cases this
   | some p=>rw [e] at this;exact this
  ·have e:i=n:=by omega
   subst e;have no:List.find? (fun kv=>decide (kv.fst=Sum.inr (nm ds i))) (List.map (fun j=>((Sum.inr (nm ds j):Key),V.int j)) (List.range i))=none:=by
    rw [List.find?_eq_none];intro p hp;obtain ⟨j,hj,rfl⟩:=List.mem_map.mp hp;have hj':=List.mem_range.mp hj;simp only [decide_eq_true_eq];intro z;have:=PB h (by omega) (by omega) (Sum.inr.inj z);omega
   rw [no];simp
theorem KJ {ds:List WD} (h:(ds.map (·.name)).Nodup) {n:Nat} (hn:n < ds.length):xq (kE ds n) (Sum.inr (nm ds n)) (.int n)=kE ds (n + 1):=by
 unfold xq;have no:((kE ds n).any fun kv=>decide (kv.1=Sum.inr (nm ds n)))=false:=by
  rw [List.any_eq_false];intro p hp;obtain ⟨j,hj,rfl⟩:=List.mem_map.mp hp;have hj':=List.mem_range.mp hj;simp only [decide_eq_true_eq];intro z;have:=PB h (by omega) hn (Sum.inr.inj z);omega
 rw [no];unfold kE;rw [List.range_succ,List.map_append];rfl
theorem Ff {H H1 H2:Hp} {q:Addr} (a:Ib H H1) (b:Kc q H1 H2) (n:H q=none):Ib H H2:=fun c u e=>b c u (Ab e n) (a c u e)
theorem cP {t:Adr} {H:Hp} {p q:Addr} {i j:Int} {ws vs:List Str} {k l:Nat} (a:Ih t H p i ws k) (b:Ih t H q j vs l) (n:i ≠ j):p ≠ q:=fun z=>by
 subst z;obtain ⟨_,dx,ta,e1,_⟩:=a;obtain ⟨_,dx',ta',e2,_⟩:=b;rw [e1] at e2;have e3:=Option.some.inj e2;injection e3 with _ _ e4;unfold rdF at e4;injection e4 with e5 _;injection e5 with _ e6;injection e6 with e7;exact n e7
theorem DF {t:Adr} {H:Hp} {p q:Addr} {d:WD} {j:Int} {vs:List Str} {l:Nat} (a:ve t H p d) (b:Ih t H q j vs l):p ≠ q:=fun z=>by
 subst z;obtain ⟨_,dx,e1⟩:=a;obtain ⟨_,dx',ta',e2,_⟩:=b;rw [e1] at e2;have e3:=Option.some.inj e2;injection e3 with _ _ e4;exact absurd (congrArg List.length e4) (by show ¬ (7:Nat)=3;decide)
def Qc (t:Adr) (H:Hp) (c:Addr) (n:Int) (ds:List WD):Prop:=
 ((ds.map (·.name)).Nodup∧ds.length ≤ 12)∧∃ dx wl nd,H c=some (.ins t.Vb dx (cF n wl nd))∧xl t H wl ds∧H nd=some (.dK (kE ds ds.length))
theorem Qc.same {t:Adr} {H H':Hp} {c:Addr} {n:Int} {ds:List WD} (h:Qc t H c n ds) (s:Ib H H'):Qc t H' c n ds:=by
 obtain ⟨h0,dx,wl,nd,e1,e2,e3⟩:=h;exact ⟨h0,dx,wl,nd,s _ _ e1,e2.same s,s _ _ e3⟩
theorem Uy {m:Str} (n:Int) (wl nd:Addr) (h:AD.contains m=false):(cF n wl nd).lookup m=none:=Tk AD (aw ..) h
section
variable {w:World} {K:PySem.W.Frag} {mg:Str→Option Value} {t:Adr} {H:Hp} {c dx wl nd:Addr} {n:Int}
theorem QI (T:Txt w K mg t) (e:H c=some (.ins t.Vb dx (cF n wl nd))):yi K H c (Str.ofString "places") (.int n):=⟨_,dx,_,e,T.Mb,T.Ph,yd AD 0 (aw ..) (by decide +kernel) rfl⟩
theorem eM (T:Txt w K mg t) (e:H c=some (.ins t.Vb dx (cF n wl nd))):yi K H c (Str.ofString "ways") (.ref wl):=⟨_,dx,_,e,T.Mb,T.pk,yd AD 1 (aw ..) (by decide +kernel) rfl⟩
theorem Ts (T:Txt w K mg t) (e:H c=some (.ins t.Vb dx (cF n wl nd))):yi K H c (Str.ofString "numbers") (.ref nd):=⟨_,dx,_,e,T.Mb,T.Eh,yd AD 2 (aw ..) (by decide +kernel) rfl⟩
end
def FL (t:Adr):Sp:=fun vs H Q _=>∃ c dx n wl ds,vs=[.ref c,.int n,.ref wl]∧H c=some (.ins t.Vb dx [])∧xl t H wl ds∧(ds.map (·.name)).Nodup∧ds.length ≤ 12∧NoT H ∧
 ∀ H',Kc c H H'→NoT H'→Qc t H' c n ds→Q .non H'
def GO (t:Adr):Sp:=fun vs H Q _=>∃ n ds,vs=[.str (ww n ds)]∧COk n ds∧NoT H∧∀ c H',Ib H H'→NoT H'→Qc t H' c n ds→Q (.ref c) H'
def Iq (t:Adr):Sp:=fun vs H Q _=>∃ c n ds,vs=[.ref c]∧Qc t H c n ds∧∀ p,H p=none→Q (.ref p) (upd H p (.lst (Qb (ds.map (·.name)))))
def xy (t:Adr):Sp:=fun vs H Q _=>∃ c n ds,∃ i:Nat,∃ d,vs=[.ref c,.str d.name]∧Qc t H c n ds∧ds[i]? = some d∧Q (.int (i:Nat)) H
def Uf (t:Adr):Sp:=fun vs H Q _=>∃ c n ds,∃ i:Nat,∃ d,vs=[.ref c,.str d.name]∧Qc t H c n ds∧ds[i]? = some d∧∀ a,ve t H a d→Q (.ref a) H
section
variable {P:Program} {w:World} {K:PySem.W.Frag} {mg:Str→Option Value} {base:Heap} {t:Adr}
theorem OP (T:Txt w K mg t):Gb P w K mg base CX0 1 t.Se t.Wf q50 (FL t):=by
 refine T.Gk.ok kf (fun vs H Q E h=>?_) (fun _ _ _ s H vs Q E hr h=>?_)
 ·obtain ⟨c,dx,n,wl,ds,rfl,_⟩:=h;rfl
 obtain ⟨c,dx,n,wl,ds,rfl,hc,hW,hnd,hdl,nt,q⟩:=h;have hu:=rj hr;refine ⟨_,(cb (mf (pv 0) (pv 1) rfl)
   (cb (mf (pv 0) (pv 2) rfl)
   (cb (mf (pv 0) Fq rfl)
   (ib (ad PassesOwn.never rfl (Xk rfl T.re (ab (pv 2) gb)) (Wc (K:=K) (n:=2) rfl rfl (Bb (lb (i:=3) kf.nd) (Bb (lb (i:=4) kf.nd) Uc))) (ib (lw hu (Ob (pv 0) rfl) (Ob (pv 4) rfl) (pv 3) rfl))))))),?_⟩
 walk_at "RD";refine ⟨_,_,_,hc,T.Mb,T.Ph,by decide,?_⟩;refine ⟨_,_,_,db,T.Mb,T.pk,Co (n:=999) (by decide),fun nd hn=>?_⟩;simp only [Dl] at hn ⊢;rw [show Rh (Str.ofString "places") (V.int n) ([]:List (Str × V))=[(Str.ofString "places",V.int n)] from rfl,show Rh (Str.ofString "ways") (V.ref wl) [(Str.ofString "places",V.int n)]=[(Str.ofString "places",V.int n),(Str.ofString "ways",V.ref wl)] from kd [Str.ofString "places"] rfl (by decide +kernel)] at hn ⊢;have hnc:c ≠ nd:=fun z=>by subst z;rw [db] at hn;cases hn
 refine ⟨t.Vb,dx,[(Str.ofString "places",V.int n),(Str.ofString "ways",V.ref wl)],by rw [wb hnc];exact db,T.Mb,T.Eh,show (2:Nat) < 1000 by decide,?_⟩;rw [show Rh (Str.ofString "numbers") (V.ref nd) [(Str.ofString "places",V.int n),(Str.ofString "ways",V.ref wl)]=cF n wl nd from kd [Str.ofString "places",Str.ofString "ways"] rfl (by decide +kernel)];obtain ⟨as,w1,w2,al⟩:=hW;have hHn:H nd=none:=by rw [wb (Ne.symm hnc)] at hn;exact hn
 have sx:Kc c H (upd (upd (upd H c (.ins t.Vb dx [(Str.ofString "places",V.int n),(Str.ofString "ways",V.ref wl)])) nd (.dK [])) c (.ins t.Vb dx (cF n wl nd))):=fun b u hb e=>by
  rw [wb hb,wb (Ab e hHn),wb hb];exact e
 have hwc:wl ≠ c:=Hf w1 hc (by intro z;cases z);refine ⟨⟨_,SqL.of (sx _ _ hwc w1)⟩,?_⟩;refine rh.enum (xs:=as.map V.ref) (fun i σ H'=>(∃ x y,σ=[some (V.ref c),some (V.int n),some (V.ref wl),x,y])∧H' c=some (.ins t.Vb dx (cF n wl nd))∧H' nd=some (.dK (kE ds i))∧Kc c H H'∧NoT H') ?_ ?_ ?_ ?_
 ·exact ⟨⟨_,_,rfl⟩,db,by rw [wb (Ne.symm hnc),db];rfl,sx,((nt.upd).upd).upd⟩
 ·rintro i σ H' hi zzq;refine zzP fun zzM zzh=>?_
  obtain ⟨_,_,_,sx',_⟩:=zzq;subst zzh;exact SqL.of (sx' _ _ hwc w1)
 ·rintro i v σ H' p hv ⟨⟨x,y,rfl⟩,h1,h2,sx',nt'⟩ hp;obtain ⟨a,ha,rfl⟩:=lc hv;obtain ⟨hi,_⟩:=List.getElem?_eq_some_iff.mp ha;have hid:i < ds.length:=by omega
  have hd:ds[i]? = some ds[i]:=List.getElem?_eq_getElem hid;have Wa:ve t H a ds[i]:=al i a _ ha hd;have hac:a ≠ c:=by
   obtain ⟨_,dx',e⟩:=Wa;intro z;subst z;rw [hc] at e;have e2:=Option.some.inj e;injection e2 with _ _ e3;exact absurd (congrArg List.length e3) (by show ¬ (0:Nat)=7;decide)
  have Wa':ve t H' a ds[i]:=⟨Wa.1,Wa.2.imp fun dx' e=>sx' _ _ hac e⟩;have sp:Ib H' (upd H' p (.tup [.int i,.ref a])):=fb hp;refine sf ?_;walk_at "RD";refine ⟨_,Ts T (sp _ _ h1),_,(Wa'.same sp).f_name T,_,rfl,_,sE.k (k:=Sum.inr ds[i].name) (sp _ _ h2) (Nat.lt_of_le_of_lt (show (kE ds i).length ≤ 12 by unfold kE;rw [List.length_map,List.length_range];omega) (by decide)),?_⟩;rw [← yx hd,KJ hnd hid];refine ⟨⟨_,rfl⟩,?_,db,fun b u hb e=>?_,(nt'.upd).upd⟩
  ·rw [wb hnc];exact sp _ _ h1
  ·rw [wb (Ab e hHn)];exact sp _ _ (sx' b u hb e)
 ·rintro σ H' zzq;refine zzP fun zzM zzh=>?_
  obtain ⟨⟨x,y,rfl⟩,h1,h2,sx',nt'⟩:=zzq;subst zzh;walk_at "RD";rw [List.length_map,w2] at h2;refine q H' sx' nt' ⟨⟨hnd,hdl⟩,dx,wl,nd,h1,⟨as,sx' _ _ hwc w1,w2,fun i a d h3 h4=>?_⟩,h2⟩;have Wa:=al i a d h3 h4;have hac:a ≠ c:=by
   obtain ⟨_,dx',e⟩:=Wa;intro z;subst z;rw [hc] at e;have e2:=Option.some.inj e;injection e2 with _ _ e3;exact absurd (congrArg List.length e3) (by show ¬ (0:Nat)=7;decide)
  exact ⟨Wa.1,Wa.2.imp fun dx' e=>sx' _ _ hac e⟩
theorem wI (T:Txt w K mg t):Gb P w K mg base CX0 1 t.ce t.cf q5 (xy t):=by
 refine T.Qi.ok Nn (fun vs H Q E h=>?_) (fun _ _ _ s H vs Q E hr h=>?_)
 ·obtain ⟨c,n,ds,i,d,rfl,_⟩:=h;rfl
 obtain ⟨c,n,ds,i,d,rfl,⟨⟨hnd,hdl⟩,dx,wl,nd,e1,e2,e3⟩,hd,q⟩:=h;have hu:=rj hr;have hv:Ol (kE ds ds.length) (Sum.inr d.name)=some (.int i):=by
  rw [← yx hd];exact nK hnd (List.getElem?_eq_some_iff.mp hd).1 (Nat.le_refl _)
 have hg:jw H nd (.str d.name) (some (.int i)):=by rw [← hv];exact jw.k (k:=Sum.inr d.name) e3
 refine ⟨_,(cb (Le (Ly (FG hu (pv 1) (Ob (pv 0) rfl))) (ib dh) qc)
   (ib (Cb (Yo hu (Ob (pv 0) rfl) (pv 1) (fun _ _=>rfl))))),?_⟩
 walk_at "RD";refine ac false (fun Q hQ=>?_) (fun hc=>nomatch hc) (fun _=>?_)
 ·walk_at "RD";refine ⟨_,Ts T e1,_,rfl,_,hg,?_⟩;exact hQ
 ·walk_at "RD";exact ⟨_,Ts T e1,_,rfl,_,hg,q⟩
theorem Gg (T:Txt w K mg t):Gb P w K mg base CX0 2 t.Nb t.Ub q5 (Uf t):=by
 have g41:Gb P w K mg base CX0 1 t.ce t.cf q5 (xy t):=wI T;refine T.Ki.ok oo (fun vs H Q E h=>?_) (fun _ _ _ s H vs Q E hr h=>?_)
 ·obtain ⟨c,n,ds,i,d,rfl,_⟩:=h;rfl
 obtain ⟨c,n,ds,i,d,rfl,C,hd,q⟩:=h;obtain ⟨⟨hnd,hdl⟩,dx,wl,nd,e1,⟨as,w1,w2,al⟩,e3⟩:=id C;refine ⟨_,(ib (Cb (Zb He (Ob (pv 0) rfl) (Ed (pv 0) T.Mb T.pp g41 hr T.Ho .nil Rc (ab (pv 1) gb))))),?_⟩;walk_at "RD";refine ⟨_,eM T e1,_,_,e1,Uy _ _ _ (by decide +kernel),⟨c,n,ds,i,d,rfl,C,hd,?_⟩⟩;have hi:i < as.length:=by rw [w2];exact (List.getElem?_eq_some_iff.mp hd).1
 have ha:as[i]? = some as[i]:=List.getElem?_eq_getElem hi;walk_at "RD";refine ⟨_,SqL.of w1,_,Jb (show (as.map V.ref)[i]? = some (V.ref as[i]) by rw [List.getElem?_map,ha];rfl),?_⟩;exact q as[i] (al i _ d ha hd)
theorem HQ (T:Txt w K mg t):Gb P w K mg base CX0 7 t.Of t.Rf ["text"] (GO t):=by
 have g42:Gb P w K mg base CX0 6 t.Kn t.Xn ["text"] (xu t):=(qD T).mono (by decide);have g43:Gb P w K mg base CX0 6 t.Oj t.Ej ["reader"] (RG t):=(PN T).mono (by decide);have g44:Gb P w K mg base CX0 6 t.Zl t.Ll q38 (qL t):=qQ T;have g45:Gb P w K mg base CX0 5 t.Se t.Wf q50 (FL t):=(OP T).mono (by decide);refine T.zh.ok Ce (fun vs H Q E h=>?_) (fun _ _ _ s H vs Q E hr h=>?_)
 ·obtain ⟨n,ds,rfl,_⟩:=h;rfl
 obtain ⟨n,ds,rfl,hC,nt,qq⟩:=h;refine ⟨_,(cb (xb (i:=1) Ce.nd (ub g42 hr T.xI T.Qs.kp T.JH (ab (pv 0) gb)))
   (cb (xb (i:=2) Ce.nd (ub g43 hr T.az T.cn.kp T.Yz (ab (Zb He (pv 1) qb) gb)))
   (cb (xb (i:=3) Ce.nd (Pi gb))
   (cb (ad PassesOwn.never rfl (ld (En QN (pv 1) (Go qb) Bw)) (lb (i:=4) Ce.nd) (cb (Le (Pb fm (jd Bc rfl T.Dn Nc (ab (pv 3) gb)) (Bi rfl T.Wy T.Xy) (gc _)) (ib dh) qc)
   (ib (gd (Bp PySem.F.plainAttrs_list PySem.F.slot_list_append PySem.F.type_list_append Vk (pv 3) (ab (ub g44 hr T.LC T.jp.kp T.xD (ab (pv 4) (ab (pv 2) (ab (pv 3) gb)))) gb))))))
   (cb (Le (Wq (Ov (pv 3) (fun _=>rfl))) (ib dh) qc)
   (ib (Cb (Ym T.QD g45 hr rfl T.BD T.zr .nil Rc (ab (pv 2) (ab (pv 3) gb)))))))))),?_⟩
 have hrow:=XC hC;have hlen:=xG hC;have hnn:=hC.nn;have hln:=hC.ln;walk_at "RD";refine ⟨ww n ds,rfl,by omega,?_,nt,fun p H1 sm1 nt1 R=>?_⟩
 ·rw [hrow];intro r hr;refine ⟨?_,fun x hx=>Nat.le_trans (hC.plain r hr x hx).1 (by decide)⟩;rcases List.mem_cons.mp hr with rfl | hr
  ·show (2:Nat) ≤ 1000;decide
  ·obtain ⟨d,hd,rfl⟩:=List.mem_map.mp hr;show (7:Nat) ≤ 1000;decide
 rw [hrow] at R;obtain ⟨qs,hp,hp0,hql,hqa⟩:=R;have hql':qs.length=ds.length + 1:=by rw [hql];simp [Di]
 obtain ⟨q0,qr,rfl⟩:∃ q0 qr,qs=q0 :: qr:=by
  cases qs with
  | nil=>simp at hql'
  | cons a b=>exact ⟨a,b,rfl⟩
 obtain ⟨R0,hq0⟩:=hqa 0 q0 _ rfl rfl;walk_at "RD";refine ⟨_,SqL.of hp,_,Jb (j:=0) rfl,⟨q0,_,n,rfl,R0,hnn,nt1,fun H2 s2 nt2=>⟨Nat.zero_le _,fun wl hwl=>?_⟩⟩⟩;obtain ⟨C0,dq0,fq0,hins⟩:=R0.ins;have hpq:p ≠ q0:=Hf hp hins (by intro z;cases z);have hp2:H2 p=some (.lst ((q0 :: qr).map V.ref)):=s2 _ _ hpq hp;have swl:Ib H2 (upd H2 wl (.lst [])):=fb hwl;have hcut:YF ((q0 :: qr).map V.ref) (some 1) none=qr.map V.ref:=by
  unfold YF;simp [HT.sIx];exact List.take_of_length_le (by rw [List.length_map];exact Nat.le_refl _)
 refine ⟨_,SqL.of (swl _ _ hp2),fun pc hpc=>?_⟩;rw [hcut];have hpw:pc ≠ wl:=fun z=>by subst z;rw [db] at hpc;cases hpc
 have spc:Ib (upd H2 wl (.lst [])) (upd (upd H2 wl (.lst [])) pc (.lst (qr.map V.ref))):=fb hpc;refine ⟨⟨_,SqL.of db⟩,?_⟩;have sH2:Ib H H2:=Ff sm1 s2 hq0;have hqrl:qr.length=ds.length:=by simpa using hql'
 refine rh.list (xs:=qr.map V.ref) (fun i σ H'=>(∃ x,σ=[some (V.str (ww n ds)),some (V.ref p),some (V.int n),some (V.ref wl),x])∧NoT H'∧Ib H H'∧H' pc=some (.lst (qr.map V.ref))∧H wl=none∧xl t H' wl (ds.take i) ∧
  ∀ (j:Nat) (q:Addr) (d:WD),i ≤ j→qr[j]? = some q→ds[j]? = some d→Ih t H' q ((j + 1:Nat):Int) (Xi d) 0∧H q=none) ?_ ?_ ?_ ?_
 ·refine ⟨⟨_,rfl⟩,(nt2.upd).upd,(sH2.trans swl).trans spc,db,sH2.free hwl,⟨[],spc _ _ db,rfl,fun j a d h=>by simp at h⟩,fun j q d _ h1 h2=>?_⟩;have hr:(Di n ds)[j + 1]? = some (Xi d):=by
   unfold Di;rw [List.getElem?_cons_succ,List.getElem?_map,h2];rfl
  obtain ⟨Rj,hqj⟩:=hqa (j + 1) q _ (by rw [List.getElem?_cons_succ];exact h1) hr;refine ⟨((Rj.sameX s2 (cP Rj R0 (by omega)) R0.ins).same swl).same spc,hqj⟩
 ·rintro i σ H' hi zzq;refine zzP fun zzM zzh=>?_
  obtain ⟨_,_,_,h,_⟩:=zzq;subst zzh;exact SqL.of h
 ·rintro i v σ H' hv zzq;refine zzP fun zzM zzh=>?_
  obtain ⟨⟨x,rfl⟩,nt',sm',hpc',hwl0,W,Rs⟩:=zzq;obtain ⟨q,hq,rfl⟩:=lc hv;obtain ⟨hi,_⟩:=List.getElem?_eq_some_iff.mp hq;have hid:i < ds.length:=by omega
  have hd:ds[i]? = some ds[i]:=List.getElem?_eq_getElem hid;obtain ⟨Rq,hqn⟩:=Rs i q _ (Nat.le_refl _) hq hd;have htl:(ds.take i).length=i:=by rw [List.length_take];omega
  obtain ⟨as,w1,w2,al⟩:=id W;subst zzh;walk_at "RD";refine ac false (fun Q hQ=>?_) (fun hc=>nomatch hc) (fun _=>?_)
  ·walk_at "RD";refine ⟨_,.inl (SqL.of w1),?_⟩;rw [List.length_map,w2,htl];rw [decide_eq_false (by omega)] <;> exact hQ
  ·walk_at "RD";refine ⟨.inl ⟨_,SqL.of w1⟩,?_⟩;refine ⟨q,_,n,wl,ds.take i,ds[i],rfl,Rq,hC.al _ (List.getElem_mem hid),hnn,W,by omega,fun e he z=>?_,nt',fun y H3 s3 nt3 w3 hy3=>?_⟩
   ·obtain ⟨j,hj,rfl⟩:=List.getElem_of_mem he;rw [List.getElem_take] at z;have hj':j < i:=by omega
    have:=PB hC.nd (i:=j) (j:=i) (by omega) hid (by rw [yx (List.getElem?_eq_getElem (by omega)),yx hd];exact z);omega
   ·walk_at "RD";obtain ⟨Cq,dq,fq,hqi⟩:=Rq.ins;have hwq:wl ≠ q:=Hf w1 hqi (by intro z;cases z);have hw3:H3 wl=some (.lst (as.map V.ref)):=s3 _ _ hwq w1;have hsm3:Ib H H3:=Ff sm' s3 hqn;refine ⟨_,hw3,Nat.lt_of_le_of_lt (show (as.map V.ref).length ≤ 12 by rw [List.length_map];omega) (by decide),?_⟩;have hyw:y ≠ wl:=fun z=>by
     subst z;rw [w1] at hy3;cases hy3
    refine ⟨⟨_,rfl⟩,nt3.upd,fun b u e=>?_,?_,hwl0,⟨as ++ [y],by rw [db,List.map_append];rfl,?_,fun j a d h1 h2=>?_⟩,fun j q' d hj h1 h2=>?_⟩
    ·rw [wb (Ab e hwl0)];exact hsm3 _ _ e
    ·rw [wb hpw];exact s3 _ _ (Hf hpc' hqi (by intro z;cases z)) hpc'
    ·rw [List.length_append,w2,htl,List.length_take];show i + 1=_;omega
    ·by_cases hj:j < as.length
     ·rw [List.getElem?_append_left hj] at h1;have h2':(ds.take i)[j]? = some d:=by
       rw [List.getElem?_take_of_lt (by omega)];rw [List.getElem?_take_of_lt (by omega)] at h2;exact h2
      obtain ⟨hk,dx',e⟩:=al j a d h1 h2';have haq:a ≠ q:=DF ⟨hk,dx',e⟩ Rq;have haw:a ≠ wl:=Hf e w1 (by intro z;cases z);exact ⟨hk,dx',by rw [wb haw];exact s3 _ _ haq e⟩
     ·rw [List.getElem?_append_right (by omega)] at h1;have hj0:j - as.length=0:=by
       cases hh:j - as.length with
       | zero=>rfl
       | succ m=>rw [hh] at h1;simp at h1
      rw [hj0] at h1;have e3:y=a:=by simpa using h1
      subst e3;have e4:j=i:=by omega
      subst e4;rw [List.getElem?_take_of_lt (by omega),hd] at h2;cases h2;exact ⟨w3.1,w3.2.imp fun dx' e=>by rw [wb hyw];exact e⟩
    ·obtain ⟨Rj,hqj⟩:=Rs j q' d (by omega) h1 h2;have R3:=Rj.sameX s3 (cP Rj Rq (by omega)) Rq.ins;refine ⟨?_,hqj⟩;obtain ⟨hz,dx',ta,e1,e2⟩:=R3;refine ⟨hz,dx',ta,by rw [wb (Hf e1 hw3 (by intro z;cases z))];exact e1,?_⟩;rw [wb (fun z=>by
      subst z;rw [hw3] at e2;have e5:=Option.some.inj e2;injection e5 with e6;cases as with
      | nil=>exact absurd (congrArg List.length e6) (by show ¬ (0:Nat)=7;decide)
      | cons a r=>injection e6 with e7 _;cases e7)]
     exact e2
 ·rintro σ H' zzq;refine zzP fun zzM zzh=>?_
  obtain ⟨⟨x,rfl⟩,nt',sm',hpc',hwl0,W,Rs⟩:=zzq;subst zzh;rw [List.length_map,hqrl,List.take_length] at W;obtain ⟨as,w1,w2,al⟩:=id W;walk_at "RD";refine ac false (fun Q hQ=>?_) (fun hc=>nomatch hc) (fun _=>?_)
  ·walk_at "RD";refine ⟨true,.inl ⟨_,SqL.of w1,?_⟩,hQ⟩;cases as with
   | nil=>simp at w2;omega
   | cons a r=>rfl
  ·walk_at "RD";intro c dx hc hdx hne;have sc:Ib H' (upd (upd H' dx (.own c)) c (.ins t.Vb dx [])):=((Ib.refl H').updN hdx).updN hc;refine ⟨c,dx,n,wl,ds,rfl,db,W.same sc,hC.nd,hln.2,(nt'.upd).upd,fun H5 s5 nt5 C5=>⟨rfl,?_⟩⟩;exact qq c H5 (Ff (sm'.trans sc) s5 (sm'.free hc)) nt5 C5
end
section
variable {P:Program} {w:World} {K:PySem.W.Frag} {mg:Str→Option Value} {base:Heap} {t:Adr}
theorem Gv (T:Txt w K mg t):Gb P w K mg base CX0 1 t.Tc t.Gd ["self"] (Iq t):=by
 refine T.Yj.ok So (fun vs H Q E h=>?_) (fun _ _ _ s H vs Q E hr h=>?_)
 ·obtain ⟨c,n,ds,rfl,_⟩:=h;rfl
 obtain ⟨c,n,ds,rfl,⟨⟨hnd,hdl⟩,dx,wl,nd,e1,⟨as,w1,w2,al⟩,e3⟩,q⟩:=h;refine ⟨_,(ib (Cb (Bf rfl (ld (Ob (pv 0) rfl)) (ic (sc:=jb Rg) rfl (by decide +kernel)) (N:=["way"]) (sel:=[none]) (uc (M:=["self"]) (by decide +kernel)) (Blk.of (fun _ _ _ _=>(lb (i:=0) (Ue (N:=["way"]) (by decide +kernel) rfl))) (fun _ _ _ _=>⟨_,pe,by walk_at "B"⟩) (fun _ _ _ _=>⟨_,(Ob (pv 0) rfl),by walk_at "B"⟩))))),?_⟩;walk_at "RD";refine ⟨_,eM T e1,_,rfl,⟨_,SqL.of w1⟩,?_⟩;refine Fc.list_zs (xs:=as.map V.ref) (zs:=Qb (ds.map (·.name))) (SqL.of w1) (by rw [List.length_map,w2];exact Nat.le_trans hdl (by decide)) (by rw [An,List.length_map,List.length_map,w2]) (fun i v z N hv hz' hN=>?_) (fun p hp=>q p hp);obtain ⟨a,ha,rfl⟩:=lc hv;obtain ⟨x,hx,rfl⟩:=lc hz';obtain ⟨d,hd,rfl⟩:=lc hx;walk_at "RD";exact ⟨Sub.name,_,(al i a d ha hd).f_name T,hN⟩
end
end My
namespace My
open PySem L2
theorem bL {n s p:Int} (h0:0 ≤ s) (h1:s < n) (h2:0 ≤ p) (h3:p < n):(p - s) % n=if s ≤ p then p - s else p - s + n:=by
 split
 ·rename_i h;exact Int.emod_eq_of_lt (by omega) (by omega)
 ·rename_i h;have e:(p - s) % n=(p - s + n) % n:=(Int.add_emod_right ..).symm;rw [e];exact Int.emod_eq_of_lt (by omega) (by omega)
noncomputable def Ln (n s f p:Int):Bool:=decide (0 < (p - s) % n) && decide ((p - s) % n < (f - s) % n)
noncomputable def VI (n s f s2 f2:Int):Bool:=decide (f=f2) || (if (s2=s∨s2=f)∨(f2=s∨f2=f) then false else (Ln n s f s2 != Ln n s f f2))
theorem SJ {s f p:Int} (h1:p ≠ s) (h2:p ≠ f) (h3:s ≠ f):((decide (s < f) && decide (f < p) && !decide (s < p)) || (!decide (s < f) && !decide (f < p) && decide (s < p)))=false:=by
 by_cases a:s < f <;> by_cases b:f < p
 ·rw [decide_eq_true a,decide_eq_true b,decide_eq_true (show s < p by omega)];rfl
 ·rw [decide_eq_true a,decide_eq_false b];rfl
 ·rw [decide_eq_false a,decide_eq_true b];rfl
 ·rw [decide_eq_false a,decide_eq_false b,decide_eq_false (show ¬ s < p by omega)];rfl
theorem kD {s p:Int} (h:s ≠ p):decide (p < s) = !decide (s < p):=by
 by_cases a:s < p
 ·rw [decide_eq_true a,decide_eq_false (by omega)];rfl
 ·rw [decide_eq_false a,decide_eq_true (by omega)];rfl
theorem Tv {n s f p:Int} (hs:0 ≤ s∧s < n) (hf:0 ≤ f∧f < n) (hp:0 ≤ p∧p < n) (h1:p ≠ s) (h2:p ≠ f) (h3:s ≠ f):Ln n s f p=((decide (s < p) && decide (p < f)) || (decide (p < f) && decide (f < s)) || (decide (f < s) && decide (s < p))):=by
 unfold Ln;rw [bL hs.1 hs.2 hp.1 hp.2,bL hs.1 hs.2 hf.1 hf.2,decide_eq_true (show 0 < (if s ≤ p then p - s else p - s + n) by split <;> omega),Bool.true_and,kD h3];by_cases a:s < p <;> by_cases b:s < f
 ·rw [if_pos (by omega),if_pos (by omega),decide_eq_true a,decide_eq_true b,show decide (p - s < f - s)=decide (p < f) from decide_eq_decide.mpr (by omega)];cases decide (p < f) <;> rfl
 ·rw [if_pos (by omega),if_neg (by omega),decide_eq_true a,decide_eq_false b,decide_eq_true (show p - s < f - s + n by omega)];cases decide (p < f) <;> rfl
 ·rw [if_neg (by omega),if_pos (by omega),decide_eq_false a,decide_eq_true b,decide_eq_false (show ¬ p - s + n < f - s by omega)];cases decide (p < f) <;> rfl
 ·rw [if_neg (by omega),if_neg (by omega),decide_eq_false a,decide_eq_false b,show decide (p - s + n < f - s + n)=decide (p < f) from decide_eq_decide.mpr (by omega)];cases decide (p < f) <;> rfl
theorem OQ:∀ a b c d e g:Bool,((a && d && !b) || (!a && !d && b))=false→((a && e && !c) || (!a && !e && c))=false→((b && g && !c) || (!b && !g && c))=false→((d && g && !e) || (!d && !g && e))=false →
  (((b && !d) || (!d && !a) || (!a && b)) != ((c && !e) || (!e && !a) || (!a && c)))=(((!b && c) || (c && !g) || (!g && !b)) != ((!d && e) || (e && !g) || (!g && !d))):=by decide +kernel
theorem Qu {n s f s2 f2:Int} (hs:0 ≤ s∧s < n) (hf:0 ≤ f∧f < n) (hs2:0 ≤ s2∧s2 < n) (hf2:0 ≤ f2∧f2 < n) (hne:s ≠ f) (hne2:s2 ≠ f2):VI n s f s2 f2=VI n s2 f2 s f:=by
 unfold VI;by_cases e:f=f2
 ·rw [decide_eq_true e,decide_eq_true e.symm];rfl
 ·rw [decide_eq_false e,decide_eq_false (Ne.symm e)];by_cases c:(s2=s∨s2=f)∨(f2=s∨f2=f)
  ·have c':(s=s2∨s=f2)∨(f=s2∨f=f2):=by omega
   rw [if_pos c,if_pos c']
  ·have c':¬ ((s=s2∨s=f2)∨(f=s2∨f=f2)):=by omega
   rw [if_neg c,if_neg c'];have n1:s2 ≠ s:=by omega
   have n2:s2 ≠ f:=by omega
   have n3:f2 ≠ s:=by omega
   have n4:f2 ≠ f:=by omega
   rw [Bool.false_or,Bool.false_or,Tv hs hf hs2 n1 n2 hne,Tv hs hf hf2 n3 n4 hne,Tv hs2 hf2 hs n1.symm n3.symm hne2,Tv hs2 hf2 hf n2.symm n4.symm hne2,kD n1.symm,kD n2.symm,kD n4.symm,kD hne,kD hne2];exact OQ _ _ _ _ _ _ (SJ n1 n2 hne) (SJ n3 n4 hne) (SJ n3 hne2.symm n1.symm) (SJ n4 hne2.symm n2.symm)
noncomputable def VO:List Bool→Nat
 | []=>0
 | b :: r=>(if b then 1 else 0) + 2 * VO r
noncomputable abbrev mt (n:Int) (d e:WD):Bool:=VI n d.start d.fin e.start e.fin
def BL (t:Adr):Sp:=fun vs H Q _=>∃ a d n p,vs=[.int n,.ref a,.int p]∧ve t H a d∧0 < n∧Q (.bl (Ln n d.start d.fin p)) H
noncomputable def yO (n:Int) (d e:WD):Bool:=if (e.start=d.start∨e.start=d.fin)∨(e.fin=d.start∨e.fin=d.fin) then false else (Ln n d.start d.fin e.start != Ln n d.start d.fin e.fin)
def tF (t:Adr):Sp:=fun vs H Q _=>∃ a b d e n,vs=[.int n,.ref a,.ref b]∧ve t H a d∧ve t H b e∧0 < n∧NoT H∧Q (.bl (yO n d e)) H
def CJ (t:Adr):Sp:=fun vs H Q _=>∃ a b d e n,vs=[.int n,.ref a,.ref b]∧ve t H a d∧ve t H b e∧0 < n∧∀ H',Ib H H'→Q (.bl (yO n d e)) H'
def iA (t:Adr):Sp:=fun vs H Q _=>∃ c n ds,∃ i j:Nat,∃ d e,vs=[.ref c,.str d.name,.str e.name]∧Qc t H c n ds∧0 < n∧ds[i]? = some d∧ds[j]? = some e∧NoT H∧Q (.bl (mt n d e)) H
section
variable {P:Program} {w:World} {K:PySem.W.Frag} {mg:Str→Option Value} {base:Heap} {t:Adr}
theorem oQ (T:Txt w K mg t):Gb P w K mg base CX0 1 t.Nq t.Oq q30 (BL t):=by
 refine T.Hq.ok px (fun vs H Q E h=>?_) (fun _ _ _ s H vs Q E hr h=>?_)
 ·obtain ⟨a,d,n,p,rfl,_⟩:=h;rfl
 obtain ⟨a,d,n,p,rfl,W,hn,q⟩:=h;refine ⟨_,(cb (xb (i:=3) px.nd (Lb Te (Lb ci (pv 2) (Ob (pv 1) rfl)) (pv 0)))
   (ib (Cb (XL (Qf Ms qb (pv 3) (gc _)) (Bx (Qf Ms (pv 3) (Lb Te (Lb ci (Ob (pv 1) rfl) (Ob (pv 1) rfl)) (pv 0)) (gc _))))))),?_⟩
 walk_at "RD";refine ⟨_,W.f_start T,_,rfl,hn,?_⟩;unfold Ln at q;by_cases c:0 < (p - d.start) % n
 ·rw [if_pos (decide_eq_true c)];rw [decide_eq_true c,Bool.true_and] at q;exact ⟨_,W.f_end T,_,W.f_start T,_,rfl,_,rfl,hn,q⟩
 ·rw [if_neg (by simpa using c)];rw [decide_eq_false c,Bool.false_and] at q;exact q
theorem OR (x a b:Int):inV (.int x) [.int a,.int b]=decide (x=a∨x=b):=by
 unfold inV;simp only [List.any_cons,List.any_nil,eqV,Bool.or_false];rw [Bool.eq_iff_iff];simp only [Bool.or_eq_true,beq_iff_eq,decide_eq_true_eq];omega
theorem TM (T:Txt w K mg t):Gb P w K mg base CX0 2 t.xi t.Xh q22 (tF t):=by
 refine Gb.forget (sp:=CJ t) ?_ fun vs H Q E h=>?_
 ·have g26:Gb P w K mg base CX0 1 t.Nq t.Oq q30 (BL t):=oQ T;refine T.gl.ok Rv (fun vs H Q E h=>?_) (fun _ _ _ s H vs Q E hr h=>?_)
  ·obtain ⟨a,b,d,e,n,rfl,_⟩:=h;rfl
  obtain ⟨a,b,d,e,n,rfl,Wa,Wb,hn,q⟩:=h;refine ⟨_,(cb (Le (PW.pt (cy (Pb Vr (Ob (pv 2) rfl) (Pi (ab (Ob (pv 1) rfl) (ab (Ob (pv 1) rfl) gb))) (by with_unfolding_all rfl)) (Vp (Pb Vr (Ob (pv 2) rfl) (Pi (ab (Ob (pv 1) rfl) (ab (Ob (pv 1) rfl) gb))) (by with_unfolding_all rfl))))) (ib (Cb Uo)) qc)
   (ib (Cb (Qf Os (ub g26 hr T.LB T.Hq.kp T.VB (ab (pv 0) (ab (pv 1) (ab (Ob (pv 2) rfl) gb)))) (ub g26 hr T.LB T.Hq.kp T.VB (ab (pv 0) (ab (pv 1) (ab (Ob (pv 2) rfl) gb)))) (gc _))))),?_⟩
  walk_at "RD";refine wo (fun b H'=>Ib H H'∧b=decide ((e.start=d.start∨e.start=d.fin)∨(e.fin=d.start∨e.fin=d.fin))) (fun Q hQ=>?_) (fun H' ⟨sm,hb⟩=>?_) (fun H' ⟨sm,hb⟩=>?_)
  ·walk_at "RD";refine ⟨_,Wb.f_start T,_,Wa.f_start T,_,Wa.f_end T,by decide,fun p hp=>⟨_,.inl (SqL.of db),rfl,rfl,?_⟩⟩;have s1:Ib H (upd H p (.lst [.int d.start,.int d.fin])):=fb hp;rw [OR];by_cases c1:e.start=d.start∨e.start=d.fin
   ·rw [if_pos (decide_eq_true c1)];exact hQ _ _ ⟨s1,(decide_eq_true (.inl c1)).symm⟩
   ·rw [if_neg (by simpa using c1)];refine ⟨_,(Wb.same s1).f_end T,_,(Wa.same s1).f_start T,_,(Wa.same s1).f_end T,by decide,fun p2 hp2=>⟨_,.inl (SqL.of db),rfl,rfl,?_⟩⟩;rw [OR];refine hQ _ _ ⟨s1.trans (fb hp2),?_⟩;rw [Bool.eq_iff_iff,decide_eq_true_eq,decide_eq_true_eq];exact ⟨.inr,fun z=>z.resolve_left c1⟩
  ·walk_at "RD";have hb':=of_decide_eq_true hb.symm;have:=q H' sm;unfold yO at this;rw [if_pos hb'] at this;exact this
  ·walk_at "RD";have hb':=of_decide_eq_false hb.symm;refine ⟨_,(Wb.same sm).f_start T,⟨a,d,n,_,rfl,Wa.same sm,hn,?_⟩⟩;refine ⟨_,(Wb.same sm).f_end T,⟨a,d,n,_,rfl,Wa.same sm,hn,?_⟩⟩;refine ⟨rfl,?_⟩;have:=q H' sm;unfold yO at this;rw [if_neg hb'] at this;rw [show (!decide (V.bl (Ln n d.start d.fin e.start)=V.bl (Ln n d.start d.fin e.fin)))=(Ln n d.start d.fin e.start != Ln n d.start d.fin e.fin) by
    cases Ln n d.start d.fin e.start <;> cases Ln n d.start d.fin e.fin <;> rfl]
   exact this
 ·obtain ⟨a,b,d,e,n,h1,h2,h3,h4,nt,q⟩:=h;exact ⟨nt,a,b,d,e,n,h1,h2,h3,h4,fun H' sm=>⟨sm,q⟩⟩
theorem RQ (n:Int) (d e:WD):mt n d e=(decide (d.fin=e.fin) || yO n d e):=rfl
theorem qI (T:Txt w K mg t):Gb P w K mg base CX0 3 t.Ay t.jy q10 (iA t):=by
 have g8:Gb P w K mg base CX0 2 t.Nb t.Ub q5 (Uf t):=Gg T;have g46:Gb P w K mg base CX0 2 t.xi t.Xh q22 (tF t):=TM T;refine T.zB.ok gA (fun vs H Q E h=>?_) (fun _ _ _ s H vs Q E hr h=>?_)
 ·obtain ⟨c,n,ds,i,j,d,e,rfl,_⟩:=h;rfl
 obtain ⟨c,n,ds,i,j,d,e,rfl,C,hn,hd,he,nt,q⟩:=h;obtain ⟨_,dx,wl,nd,e1,e2,e3⟩:=id C;refine ⟨_,(cb (xb (i:=3) gA.nd (Ed (pv 0) T.Mb T.jc g8 hr T.kc .nil Rc (ab (pv 1) gb)))
   (cb (xb (i:=4) gA.nd (Ed (pv 0) T.Mb T.jc g8 hr T.kc .nil Rc (ab (pv 2) gb)))
   (ib (Cb (qN (Qf fm (Ob (pv 3) rfl) (Ob (pv 4) rfl) (gc _)) (Bx (ub g46 hr T.cx T.gl.kp T.Yw (ab (Ob (pv 0) rfl) (ab (pv 3) (ab (pv 4) gb)))))))))),?_⟩
 rw [RQ] at q;walk_at "RD";refine ⟨_,_,e1,Uy _ _ _ (by decide +kernel),⟨c,n,ds,i,d,rfl,C,hd,fun a Wa=>?_⟩⟩;walk_at "RD";refine ⟨_,_,e1,Uy _ _ _ (by decide +kernel),⟨c,n,ds,j,e,rfl,C,he,fun b Wb=>?_⟩⟩;walk_at "RD";refine ⟨_,Wa.f_end T,_,Wb.f_end T,rfl,?_⟩;walk_at "RD";by_cases c1:d.fin=e.fin
 ·rw [if_pos (decide_eq_true c1)];rw [decide_eq_true c1,Bool.true_or] at q;exact q
 ·rw [if_neg (by simpa using c1)];rw [decide_eq_false c1,Bool.false_or] at q;exact ⟨_,QI T e1,⟨a,b,d,e,n,rfl,Wa,Wb,hn,nt,q⟩⟩
end
def JG (t:Adr):Sp:=fun vs H Q _=>∃ c n ds,∃ i j:Nat,∃ d e,vs=[.ref c,.str d.name,.str e.name]∧Qc t H c n ds∧ds[i]? = some d∧ds[j]? = some e∧Q (.int (if d.off - e.near > 0 then d.off - e.near else 0)) H
section
variable {P:Program} {w:World} {K:PySem.W.Frag} {mg:Str→Option Value} {base:Heap} {t:Adr}
theorem eL (T:Txt w K mg t):Gb P w K mg base CX0 3 t.UH t.dG q10 (JG t):=by
 have g8:Gb P w K mg base CX0 2 t.Nb t.Ub q5 (Uf t):=Gg T;refine T.OJ.ok lH (fun vs H Q E h=>?_) (fun _ _ _ s H vs Q E hr h=>?_)
 ·obtain ⟨c,n,ds,i,j,d,e,rfl,_⟩:=h;rfl
 obtain ⟨c,n,ds,i,j,d,e,rfl,C,hd,he,q⟩:=h;obtain ⟨_,dx,wl,nd,e1,e2,e3⟩:=id C;refine ⟨_,(cb (xb (i:=3) lH.nd (Ed (pv 0) T.Mb T.jc g8 hr T.kc .nil Rc (ab (pv 1) gb)))
   (cb (xb (i:=4) lH.nd (Ed (pv 0) T.Mb T.jc g8 hr T.kc .nil Rc (ab (pv 2) gb)))
   (ib (Cb (jd (Fy rfl) rfl T.vJ Do (ab qb (ab (Lb ci (Ob (pv 3) rfl) (Ob (pv 4) rfl)) gb))))))),?_⟩
 walk_at "RD";refine ⟨_,_,e1,Uy _ _ _ (by decide +kernel),⟨c,n,ds,i,d,rfl,C,hd,fun a Wa=>?_⟩⟩;walk_at "RD";refine ⟨_,_,e1,Uy _ _ _ (by decide +kernel),⟨c,n,ds,j,e,rfl,C,he,fun b Wb=>?_⟩⟩;walk_at "RD";refine ⟨_,Wa.f_off T,_,Wb.f_near T,?_⟩;walk_at "RD";exact q
end
end My
namespace My
open PySem L2
structure SD where
 name:Str
 b:Int
 n:Int
noncomputable def sdO (d:SD):HO:=.tup [.str d.name,.int d.b,.int d.n]
noncomputable def prO (p:Int × Int):HO:=.tup [.int p.1,.int p.2]
noncomputable def ofN (x:Str) (sp:List SD):List (Int × Int):=(sp.filter fun d=>decide (d.name=x)).map fun d=>(d.b,d.n)
def LQ (H:Hp) (qs:List Addr) (os:List HO):Prop:=qs.length=os.length∧∀ (i:Nat) (q:Addr) (o:HO),qs[i]? = some q→os[i]? = some o→H q=some o
def LO (H:Hp) (p:Addr) (os:List HO):Prop:=∃ qs:List Addr,H p=some (.lst (qs.map V.ref))∧LQ H qs os
theorem LQ.same {H H':Hp} {qs:List Addr} {os:List HO} (h:LQ H qs os) (s:Ib H H'):LQ H' qs os:=⟨h.1,fun i q o h1 h2=>s _ _ (h.2 i q o h1 h2)⟩
theorem LO.same {H H':Hp} {p:Addr} {os:List HO} (h:LO H p os) (s:Ib H H'):LO H' p os:=by
 obtain ⟨qs,e,q⟩:=h;exact ⟨qs,s _ _ e,q.same s⟩
theorem LQ.nil (H:Hp):LQ H [] []:=⟨rfl,fun i q o h _=>by simp at h⟩
theorem LQ.app {H:Hp} {qs qs':List Addr} {os os':List HO} (h:LQ H qs os) (h':LQ H qs' os'):LQ H (qs ++ qs') (os ++ os'):=by
 refine ⟨by rw [List.length_append,List.length_append,h.1,h'.1],fun i q r h1 h2=>?_⟩;rw [List.getElem?_append] at h1 h2;rw [h.1] at h1;by_cases c:i < os.length
 ·rw [if_pos c] at h1 h2;exact h.2 i q r h1 h2
 ·rw [if_neg c] at h1 h2;exact h'.2 _ q r h1 h2
theorem LQ.one {H:Hp} {p:Addr} {o:HO} (e:H p=some o):LQ H [p] [o]:=⟨rfl,fun i q r' h1 h2=>by
 match i,h1,h2 with
 | 0,h1,h2=>cases h1;cases h2;exact e
 | i + 1,h1,_=>simp at h1⟩
theorem LQ.at {H:Hp} {qs:List Addr} {os:List HO} (h:LQ H qs os) {i:Nat} {q:Addr} (hq:qs[i]? = some q):∃ o,os[i]? = some o∧H q=some o:=by
 have hi:i < os.length:=by rw [← h.1];exact (List.getElem?_eq_some_iff.mp hq).1
 exact ⟨_,List.getElem?_eq_getElem hi,h.2 i q _ hq (List.getElem?_eq_getElem hi)⟩
theorem ZI (x:Str) (sp:List SD) (d:SD):ofN x (sp ++ [d])=ofN x sp ++ if d.name=x then [(d.b,d.n)] else []:=by
 unfold ofN;rw [List.filter_append,List.map_append];congr 1;by_cases c:d.name=x
 ·rw [if_pos c,List.filter_cons_of_pos (by simpa using c)];rfl
 ·rw [if_neg c,List.filter_cons_of_neg (by simpa using c)];rfl
theorem HE (x:Str) (sp:List SD):(ofN x sp).length ≤ sp.length:=by
 unfold ofN;rw [List.length_map];exact List.length_filter_le _ _
theorem dl {α:Type} {xs:List α} {i:Nat} {x:α} (h:xs[i]? = some x):xs.take (i + 1)=xs.take i ++ [x]:=by
 rw [List.take_add_one,h];rfl
noncomputable def pL {α:Type} (z:Int) (v:α) (l:List α) (i:Int):List α:=l.set (i % z).toNat v
noncomputable def kz {α:Type} (z:Int) (v:α) (b:Int):Nat→List α→List α
 | 0,l=>l
 | k + 1,l=>pL z v (kz z v b k l) (b + k)
noncomputable def Wv {α:Type} (z:Int) (v:α) (b:Int):Nat→List α→List α
 | 0,l=>l
 | k + 1,l=>pL z v (Wv z v b k l) (b - 1 - k)
theorem yB {α:Type} (z:Int) (v:α) (l:List α) (i:Int):(pL z v l i).length=l.length:=by unfold pL;rw [List.length_set]
theorem Cg {α:Type} (z:Int) (v:α) (b:Int) (k:Nat) (l:List α):(kz z v b k l).length=l.length:=by
 induction k with
 | zero=>rfl
 | succ k ih=>unfold kz;rw [yB,ih]
theorem Ah {α:Type} (z:Int) (v:α) (b:Int) (k:Nat) (l:List α):(Wv z v b k l).length=l.length:=by
 induction k with
 | zero=>rfl
 | succ k ih=>unfold Wv;rw [yB,ih]
noncomputable def fmF (z:Nat) (ps:List (Int × Int)):List Bool:=ps.foldl (fun l p=>kz z true p.1 p.2.toNat l) (List.replicate z false)
noncomputable def DH (z rd fd:Nat) (l:List Str) (p:Int × Int):List Str:=kz z (Str.ofString "fade") (p.1 + p.2) fd (kz z (Str.ofString "free") p.1 p.2.toNat (Wv z (Str.ofString "ready") p.1 rd l))
noncomputable def Nj (z rd fd:Nat) (ps:List (Int × Int)):List Str:=ps.foldl (DH z rd fd) (List.replicate z (Str.ofString "stop"))
theorem PM {z:Nat} {ps:List (Int × Int)} {i:Nat} {p:Int × Int} (h:ps[i]? = some p):fmF z (ps.take (i + 1))=kz z true p.1 p.2.toNat (fmF z (ps.take i)):=by
 unfold fmF;rw [dl h,List.foldl_append];rfl
theorem KH {z rd fd:Nat} {ps:List (Int × Int)} {i:Nat} {p:Int × Int} (h:ps[i]? = some p):Nj z rd fd (ps.take (i + 1))=DH z rd fd (Nj z rd fd (ps.take i)) p:=by
 unfold Nj;rw [dl h,List.foldl_append];rfl
theorem zj (z:Nat) (ps:List (Int × Int)):(fmF z ps).length=z:=by
 unfold fmF
 suffices h:∀ l:List Bool,l.length=z→(ps.foldl (fun l p=>kz z true p.1 p.2.toNat l) l).length=z from h _ (List.length_replicate ..)
 induction ps with
 | nil=>exact fun l h=>h
 | cons p ps ih=>exact fun l h=>ih _ (by rw [Cg];exact h)
theorem Ek (z rd fd:Nat) (ps:List (Int × Int)):(Nj z rd fd ps).length=z:=by
 unfold Nj
 suffices h:∀ l:List Str,l.length=z→(ps.foldl (DH z rd fd) l).length=z from h _ (List.length_replicate ..)
 induction ps with
 | nil=>exact fun l h=>h
 | cons p ps ih=>exact fun l h=>ih _ (by unfold DH;rw [Cg,Cg,Ah];exact h)
def SN (z:Int) (sp:List SD):Prop:=sp.length ≤ 100∧∀ d ∈ sp,0 ≤ d.b∧d.b < 1000∧0 ≤ d.n∧d.n < 1000
theorem Bz {x:Str} {sp:List SD} {p:Int × Int} (h:p ∈ ofN x sp):∃ d ∈ sp,d.name=x∧p=(d.b,d.n):=by
 unfold ofN at h;obtain ⟨d,hd,rfl⟩:=List.mem_map.mp h;have:=List.mem_filter.mp hd;exact ⟨d,this.1,by simpa using this.2,rfl⟩
theorem MP {m:Nat} (h:0 < m) (i:Int):ixN m (i % (m:Int))=some (i % (m:Int)).toNat:=by
 have h1:=Int.emod_nonneg i (show (m:Int) ≠ 0 by omega);have h2:=Int.emod_lt_of_pos i (show 0 < (m:Int) by omega);unfold ixN;rw [if_pos h1,if_pos h2]
theorem ZB {α β:Type} (f:α→β) {l:List α} {z:Nat} (h:l.length=z) (hz:0 < z) (i:Int):ixN (l.map f).length (i % (z:Int))=some (i % (z:Int)).toNat:=by
 rw [List.length_map,h];exact MP hz i
theorem Jr (d:WD):0 ≤ Jc d∧Jc d ≤ 2:=by
 unfold Jc;split <;> omega
theorem xA {d:WD} (h:0 ≤ d.off∧d.off ≤ 1000):0 ≤ Ke d∧Ke d ≤ 1000:=by
 unfold Ke;split <;> omega
theorem xQ {d:WD} {m:Str} (h:wq.contains m=false):(Qo d).lookup m=none:=Tk wq (Cp _) h
noncomputable def cg (l:List Bool):List V:=l.map V.bl
theorem Dq {α β:Type} (f:α→β) (z:Int) (v:α) (l:List α) (i:Int):(l.map f).set (i % z).toNat (f v)=(pL z v l i).map f:=by
 unfold pL;rw [List.map_set]
def ur:Sp:=fun vs H Q _=>∃ p x sp,vs=[.ref p,.str x]∧LO H p (List.map sdO sp)∧sp.length ≤ 100∧∀ r H',Ib H H'→(NoT H→NoT H')→LO H' r ((ofN x sp).map prO)→Q (.ref r) H'
def pM:Sp:=fun vs H Q _=>∃ (z:Nat) (p:Addr) (x:Str) (sp:List SD),vs=[.int z,.ref p,.str x]∧(0 < z∧z ≤ 1000)∧LO H p (List.map sdO sp)∧SN z sp∧∀ r H',Ib H H'→(NoT H→NoT H')→H r=none→H' r=some (.lst (cg (fmF z (ofN x sp))))→Q (.ref r) H'
def UG (t:Adr):Sp:=fun vs H Q _=>∃ (a:Addr) (d:WD) (z:Nat) (p:Addr) (sp:List SD),vs=[.ref a,.int z,.ref p]∧(0 < z∧z ≤ 1000)∧ve t H a d∧LO H p (List.map sdO sp)∧SN z sp∧(0 ≤ d.off∧d.off ≤ 1000)∧∀ r H',Ib H H'→(NoT H→NoT H')→H r=none→H' r=some (.lst (Qb (Nj z (Jc d).toNat (Ke d).toNat (ofN d.name sp))))→Q (.ref r) H'
noncomputable def Gf (m:List Bool):Nat→Int
 | 0=>0
 | k + 1=>if m[(2 * m.length - 1 - k) % m.length]? = some true then 0 else Gf m k + 1
noncomputable def Gm (m:List Bool):List Int:=(List.range m.length).map fun t=>Gf m (2 * m.length - t)
noncomputable def lv (m:List Bool) (k:Nat):List Int:=(List.range k).map fun j=>Gf m (m.length + j + 1)
theorem UD (m:List Bool):(lv m m.length).reverse=Gm m:=by
 unfold lv Gm;refine List.ext_getElem (by simp) (fun i h1 h2=>?_);simp at h1;simp;congr 1;omega
noncomputable def Su (m:List Bool):List Int:=(Gm m.reverse).reverse
def nw:Sp:=fun vs H Q _=>∃ (p:Addr) (m:List Bool),vs=[.ref p]∧H p=some (.lst (cg m))∧(0 < m.length∧m.length ≤ 1000)∧∀ r H',Ib H H'→(NoT H→NoT H')→H r=none→H' r=some (.lst ((Gm m).map V.int))→Q (.ref r) H'
def TB:Sp:=fun vs H Q _=>∃ (p:Addr) (m:List Bool),vs=[.ref p]∧H p=some (.lst (cg m))∧(0 < m.length∧m.length ≤ 1000)∧∀ r H',Ib H H'→(NoT H→NoT H')→H r=none→H' r=some (.lst ((Su m).map V.int))→Q (.ref r) H'
section
variable {P:Program} {w:World} {K:PySem.W.Frag} {mg:Str→Option Value} {base:Heap} {t:Adr}
theorem Lv (T:Txt w K mg t):Gb P w K mg base CX0 1 t.fg t.dg q12 ur:=by
 refine T.sh.ok rA (fun vs H Q E h=>?_) (fun _ _ _ s H vs Q E hr h=>?_)
 ·obtain ⟨p,x,sp,rfl,_⟩:=h;rfl
 obtain ⟨p,x,sp,rfl,⟨qs,l1,lq⟩,hl,q⟩:=h;refine ⟨_,(ib (Cb (Bf rfl (ld (pv 0)) (ic (sc:=jb yp) rfl (by decide +kernel)) (N:=q52) (sel:=[none,none,none,some 1]) (uc (M:=q12) (by decide +kernel)) (Blk.of (fun _ _ _ _=>(Wc (K:=K) (n:=3) rfl rfl (Bb (lb (i:=0) (Ue (N:=q52) (by decide +kernel) rfl)) (Bb (lb (i:=1) (Ue (N:=q52) (by decide +kernel) rfl)) (Bb (lb (i:=2) (Ue (N:=q52) (by decide +kernel) rfl)) Uc))))) (fun _ _ _ _=>⟨_,(Eo (Pb fm (pv 0) (pv 3) (gc _))),by walk_at "B"⟩) (fun _ _ _ _=>⟨_,(Ad (ab (pv 1) (ab (pv 2) gb))),by walk_at "B"⟩))))),?_⟩;walk_at "RD";have hql:qs.length=sp.length:=by rw [lq.1,List.length_map]
 refine ⟨⟨_,SqL.of l1⟩,?_⟩;refine Fc.list (xs:=qs.map V.ref) (fun i ys H'=>∃ os:List Addr,ys=os.map V.ref∧LQ H' os ((ofN x (sp.take i)).map prO)∧Ib H H'∧(NoT H→NoT H')) (Nat.le_trans (show (qs.map V.ref).length ≤ 100 by rw [List.length_map];omega) (by decide)) ⟨[],rfl,LQ.nil _,Ib.refl _,id⟩ ?_ ?_ ?_
 ·rintro i ys H' hi zzq;refine zzP fun zzM zzh=>?_
  obtain ⟨os,rfl,r,sm,_⟩:=zzq;subst zzh;refine ⟨(SqL.of l1).same sm,?_⟩;rw [List.length_map,r.1,List.length_map];exact Nat.le_trans (HE _ _) (by rw [List.length_take];omega)
 ·rintro i v ys H' hv ⟨os,rfl,r,sm,nt⟩ N hN;obtain ⟨qi,hqi,rfl⟩:=lc hv;obtain ⟨o,ho,e⟩:=lq.at hqi;obtain ⟨d,hd,rfl⟩:=lc ho;have e':=sm _ _ e;walk_at "RD";refine ⟨_,SqT.of e',rfl,_,_,rfl,_,_,rfl,_,_,rfl,rfl,Sub.name3,rfl,?_⟩;dsimp only at hN;rw [dl hd,ZI,List.map_append] at hN;by_cases c:d.name=x
  ·rw [if_pos c] at hN;rw [if_pos (by rw [c];exact decide_eq_true rfl)];refine ⟨by decide,fun p1 hp1=>hN _ _ ⟨os ++ [p1],by rw [List.map_append];rfl,(r.same (fb hp1)).app (LQ.one db),sm.trans (fb hp1),fun n=>(nt n).upd⟩⟩
  ·rw [if_neg c] at hN;rw [if_neg (by rw [decide_eq_true_eq];intro z;exact c (V.str.inj z))];exact hN _ _ ⟨os,rfl,by rw [List.map_nil,List.append_nil];exact r,sm,nt⟩
 ·rintro ys H' ⟨os,rfl,r,sm,nt⟩ p1 hp1;rw [List.take_of_length_le (by rw [List.length_map];omega)] at r;exact q _ _ (sm.trans (fb hp1)) (fun n=>(nt n).upd) ⟨os,db,r.same (fb hp1)⟩
theorem IP (T:Txt w K mg t):Gb P w K mg base CX0 2 t.Jg t.Hg q27 pM:=by
 have g11:Gb P w K mg base CX0 1 t.fg t.dg q12 ur:=Lv T;refine T.Wh.ok Jf (fun vs H Q E h=>?_) (fun _ _ _ s H vs Q E hr h=>?_)
 ·obtain ⟨z,p,x,sp,rfl,_⟩:=h;rfl
 obtain ⟨z,p,x,sp,rfl,hz,L,hs,q⟩:=h;refine ⟨_,(cb (Ee (i:=3) Jf.nd rfl (Or.inl rfl) rfl (Xc rfl T.me (ab (pv 0) gb)) (ic (sc:=jb yl) rfl (by decide +kernel)) (N:=["turn"]) (sel:=[none]) (uc (M:=["size","spans","name","marks","begin","turns","step"]) (by decide +kernel)) (Blk.of (fun _ _ _ _=>(lb (i:=0) (Ue (N:=["turn"]) (by decide +kernel) rfl))) (fun _ _ _ _=>⟨_,pe,by walk_at "B"⟩) (fun _ _ _ _=>⟨_,Uo,by walk_at "B"⟩)) rfl)
   (cb (ad PassesOwn.never rfl (ld (ub g11 hr T.am T.sh.kp T.Xl (ab (pv 1) (ab (pv 2) gb)))) (Wc (K:=K) (n:=2) rfl rfl (Bb (lb (i:=4) Jf.nd) (Bb (lb (i:=5) Jf.nd) Uc))) (ib (ad PassesOwn.never rfl (Xc rfl T.me (ab (pv 5) gb)) (lb (i:=6) Jf.nd) (ib (Qk Uo (oy (pv 3) (Lb Te (Lb Dc (pv 4) (pv 6)) (pv 0)) Qn))))))
   (ib (Cb (pv 3))))),?_⟩
 walk_at "RD";obtain ⟨hz0,hz1⟩:=hz;obtain ⟨hs1,hs2⟩:=hs;refine ⟨by omega,by omega,?_⟩;refine Fc.range_map (fun _=>V.bl false) (Nat.le_trans (show (z:Int).toNat ≤ 1000 by omega) (by decide)) (fun i N hi hN=>?_) (fun mk hmk=>?_)
 ·walk_at "RD";exact ⟨Sub.name,hN⟩
 rw [show (List.range (z:Int).toNat).map (fun _=>V.bl false)=cg (fmF z []) by
  unfold cg fmF;rw [List.foldl_nil,List.map_replicate];exact List.ext_getElem (by simp) (by simp)]
 refine ⟨p,x,sp,rfl,L.same (fb hmk),hs1,fun r H1 s1 nt1 L1=>⟨r,rfl,?_⟩⟩;obtain ⟨qs,l1,lq⟩:=L1;refine ⟨⟨_,SqL.of l1⟩,?_⟩;have hmk1:H1 mk=some (.lst (cg (fmF z []))):=s1 _ _ db;have hrm:r ≠ mk:=fun e=>by
  subst e;rw [l1] at hmk1;injection hmk1 with e1;injection e1 with e2;have e3:=congrArg List.length e2;cases qs with
  | nil=>simp [cg,zj] at e3;omega
  | cons a qs=>
   have:(cg (fmF z []))[0]? = some (V.ref a):=by rw [← e2];rfl
   unfold cg at this;rw [List.getElem?_map] at this;cases hh:(fmF z [])[0]? with
   | none=>rw [hh] at this;cases this
   | some b=>rw [hh] at this;cases this
 refine rh.list (xs:=qs.map V.ref) (fun i σ H'=>(∃ a b c,σ=[some (V.int z),some (V.ref p),some (V.str x),some (V.ref mk),a,b,c])∧Kc mk H1 H'∧(NoT H→NoT H')∧H' mk=some (.lst (cg (fmF z ((ofN x sp).take i))))) ?_ ?_ ?_ ?_
 ·exact ⟨⟨_,_,_,rfl⟩,fun b u _ e=>e,fun n=>nt1 n.upd,hmk1⟩
 ·rintro i σ H' hi zzq;refine zzP fun zzM zzh=>?_
  obtain ⟨_,sx,_,_⟩:=zzq;subst zzh;exact SqL.of (sx _ _ hrm l1)
 ·rintro i v σ H' hv zzq;refine zzP fun zzM zzh=>?_
  obtain ⟨⟨a,b,c,rfl⟩,sx,nt',hm⟩:=zzq;obtain ⟨qi,hqi,rfl⟩:=lc hv;obtain ⟨o,ho,e⟩:=lq.at hqi;obtain ⟨d,hd,rfl⟩:=lc ho;obtain ⟨sd,hsd,hsn,rfl⟩:=Bz (List.mem_of_getElem? hd);have hb:=hs2 sd hsd;have e':=sx _ _ (Hf e hmk1 (by intro z;cases z)) e;subst zzh;walk_at "RD";refine ⟨_,SqT.of e',rfl,_,_,rfl,_,_,rfl,rfl,_,rfl,(by dsimp only;omega),(by dsimp only;omega),?_⟩;rw [PM hd];refine rh.range (fun k σ H'=>(∃ c,σ=[some (V.int z),some (V.ref p),some (V.str x),some (V.ref mk),some (V.int sd.b),some (V.int sd.n),c])∧Kc mk H1 H'∧(NoT H→NoT H')∧H' mk=some (.lst (cg (kz z true sd.b k (fmF z ((ofN x sp).take i)))))) ?_ ?_ ?_
  ·exact ⟨⟨_,rfl⟩,sx,nt',hm⟩
  ·rintro k σ H2 hk zzq;refine zzP fun zzM zzh=>?_
   obtain ⟨⟨c,rfl⟩,sx2,nt2,hm2⟩:=zzq;subst zzh;walk_at "RD";refine ⟨by omega,_,hm2,_,ZB V.bl (by rw [Cg,zj]) hz0 _,⟨_,rfl⟩,fun b u hb e=>by rw [wb hb];exact sx2 _ _ hb e,fun n=>(nt2 n).upd,?_⟩;rw [db];unfold cg;rw [Dq V.bl];rfl
  ·rintro σ H2 zzq;refine zzP fun zzM zzh=>?_
   obtain ⟨⟨c,rfl⟩,sx2,nt2,hm2⟩:=zzq;subst zzh;exact ⟨⟨_,_,_,rfl⟩,sx2,nt2,hm2⟩
 ·rintro σ H' zzq;refine zzP fun zzM zzh=>?_
  obtain ⟨⟨a,b,c,rfl⟩,sx,nt',hm⟩:=zzq;subst zzh;walk_at "RD";rw [List.take_of_length_le (by rw [List.length_map,lq.1,List.length_map];exact Nat.le_refl _)] at hm;exact q _ _ (Ff ((fb hmk).trans s1) sx hmk) nt' hmk hm
theorem GM (T:Txt w K mg t):Gb P w K mg base CX0 2 t.DC t.OB q40 (UG t):=by
 have g11:Gb P w K mg base CX0 1 t.fg t.dg q12 ur:=Lv T;have V_Way_ready:GC P w K mg base CX0 1 (isW t) "ready" ["self"] (xh t):=vz T;have V_Way_fade:GC P w K mg base CX0 1 (isW t) "fade" ["self"] (Hj t):=VH T;refine T.HG.ok Tm (fun vs H Q E h=>?_) (fun _ _ _ s H vs Q E hr h=>?_)
 ·obtain ⟨a,d,z,p,sp,rfl,_⟩:=h;rfl
 obtain ⟨a,d,z,p,sp,rfl,⟨hz0,hz1⟩,W,L,⟨hs1,hs2⟩,hoff,q⟩:=h;refine ⟨_,(cb (Ee (i:=3) Tm.nd rfl (Or.inl rfl) rfl (Xc rfl T.me (ab (pv 1) gb)) (ic (sc:=jb tG) rfl (by decide +kernel)) (N:=["turn"]) (sel:=[none]) (uc (M:=["way","size","spans","shown","begin","turns","step"]) (by decide +kernel)) (Blk.of (fun _ _ _ _=>(lb (i:=0) (Ue (N:=["turn"]) (by decide +kernel) rfl))) (fun _ _ _ _=>⟨_,pe,by walk_at "B"⟩) (fun _ _ _ _=>⟨_,vd,by walk_at "B"⟩)) rfl)
   (cb (ad PassesOwn.never rfl (ld (ub g11 hr T.am T.sh.kp T.Xl (ab (pv 2) (ab (Ob (pv 0) rfl) gb)))) (Wc (K:=K) (n:=2) rfl rfl (Bb (lb (i:=4) Tm.nd) (Bb (lb (i:=5) Tm.nd) Uc))) (cb (ad PassesOwn.never rfl (Xc rfl T.me (ab (dj (pv 0) V_Way_ready hr Rc) gb)) (lb (i:=6) Tm.nd) (ib (Qk vd (oy (pv 3) (Lb Te (Lb ci (Lb ci (pv 4) qb) (pv 6)) (pv 1)) Qn))))
   (cb (ad PassesOwn.never rfl (Xc rfl T.me (ab (pv 5) gb)) (lb (i:=6) Tm.nd) (ib (Qk vd (oy (pv 3) (Lb Te (Lb Dc (pv 4) (pv 6)) (pv 1)) Qn))))
   (ib (ad PassesOwn.never rfl (Xc rfl T.me (ab (dj (pv 0) V_Way_fade hr Rc) gb)) (lb (i:=6) Tm.nd) (ib (Qk vd (oy (pv 3) (Lb Te (Lb Dc (Lb Dc (pv 4) (pv 5)) (pv 6)) (pv 1)) Qn))))))))
   (ib (Cb (pv 3))))),?_⟩
 walk_at "RD";refine ⟨by omega,by omega,?_⟩;refine Fc.range_map (fun _=>V.str (Str.ofString "stop")) (Nat.le_trans (show (z:Int).toNat ≤ 1000 by omega) (by decide)) (fun i N hi hN=>?_) (fun mk hmk=>?_)
 ·walk_at "RD";exact ⟨Sub.name,hN⟩
 rw [show (List.range (z:Int).toNat).map (fun _=>V.str (Str.ofString "stop"))=Qb (Nj z (Jc d).toNat (Ke d).toNat []) by
  unfold Qb Nj;rw [List.foldl_nil,List.map_replicate];exact List.ext_getElem (by simp) (by simp)]
 have hrd:=Jr d;have hfd:=xA hoff;obtain ⟨dk,dx,hway⟩:=id W;have w0:∀ {H':Hp},Kc mk (upd H mk (.lst (Qb (Nj z (Jc d).toNat (Ke d).toNat [])))) H'→H' a=some (.ins (t.cw d.k) dx (Qo d)):=fun sx=>sx _ _ (Ab hway hmk) ((fb hmk) _ _ hway)
 refine ⟨_,(W.same (fb hmk)).f_name T,p,d.name,sp,rfl,L.same (fb hmk),hs1,fun r H1 s1 nt1 L1=>⟨r,rfl,?_⟩⟩;obtain ⟨qs,l1,lq⟩:=L1;refine ⟨⟨_,SqL.of l1⟩,?_⟩;have hmk1:H1 mk=some (.lst (Qb (Nj z (Jc d).toNat (Ke d).toNat []))):=s1 _ _ db;have hrm:r ≠ mk:=fun e=>by
  subst e;rw [l1] at hmk1;injection hmk1 with e1;injection e1 with e2;have e3:=congrArg List.length e2;cases qs with
  | nil=>simp [Qb,Ek] at e3;omega
  | cons a qs=>
   have:(Qb (Nj z (Jc d).toNat (Ke d).toNat []))[0]? = some (V.ref a):=by rw [← e2];rfl
   unfold Qb at this;rw [List.getElem?_map] at this;cases hh:(Nj z (Jc d).toNat (Ke d).toNat [])[0]? with
   | none=>rw [hh] at this;cases this
   | some b=>rw [hh] at this;cases this
 have wx:∀ {H':Hp},Kc mk H1 H'→ve t H' a d:=fun sx=>⟨dk,dx,sx _ _ (Ab hway hmk) (s1 _ _ ((fb hmk) _ _ hway))⟩
 refine rh.list (xs:=qs.map V.ref) (fun i σ H'=>(∃ a1 b c,σ=[some (V.ref a),some (V.int z),some (V.ref p),some (V.ref mk),a1,b,c])∧Kc mk H1 H'∧(NoT H→NoT H')∧H' mk=some (.lst (Qb (Nj z (Jc d).toNat (Ke d).toNat ((ofN d.name sp).take i))))) ?_ ?_ ?_ ?_
 ·exact ⟨⟨_,_,_,rfl⟩,fun b u _ e=>e,fun n=>nt1 n.upd,hmk1⟩
 ·rintro i σ H' hi zzq;refine zzP fun zzM zzh=>?_
  obtain ⟨_,sx,_,_⟩:=zzq;subst zzh;exact SqL.of (sx _ _ hrm l1)
 ·rintro i v σ H' hv zzq;refine zzP fun zzM zzh=>?_
  obtain ⟨⟨a1,b,c,rfl⟩,sx,nt',hm⟩:=zzq;obtain ⟨qi,hqi,rfl⟩:=lc hv;obtain ⟨o,ho,e⟩:=lq.at hqi;obtain ⟨dd,hd,rfl⟩:=lc ho;obtain ⟨sd,hsd,hsn,rfl⟩:=Bz (List.mem_of_getElem? hd);have hb:=hs2 sd hsd;have e':=sx _ _ (Hf e hmk1 (by intro z;cases z)) e;have W1:=wx sx;obtain ⟨_,dx1,hw1⟩:=id W1;subst zzh;walk_at "RD";refine ⟨_,SqT.of e',rfl,_,_,rfl,_,_,rfl,rfl,_,_,_,hw1,⟨_,dk,rfl⟩,xQ (by decide +kernel),_,d,rfl,W1,rfl,_,rfl,by omega,by omega,?_⟩;rw [KH hd];refine rh.range (fun k σ H'=>(∃ c,σ=[some (V.ref a),some (V.int z),some (V.ref p),some (V.ref mk),some (V.int sd.b),some (V.int sd.n),c])∧Kc mk H1 H'∧(NoT H→NoT H')∧H' mk=some (.lst (Qb (Wv z (Str.ofString "ready") sd.b k (Nj z (Jc d).toNat (Ke d).toNat ((ofN d.name sp).take i)))))) ?_ ?_ ?_
  ·exact ⟨⟨_,rfl⟩,sx,nt',hm⟩
  ·rintro k σ H2 hk zzq;refine zzP fun zzM zzh=>?_
   obtain ⟨⟨c,rfl⟩,sx2,nt2,hm2⟩:=zzq;subst zzh;walk_at "RD";refine ⟨by omega,_,hm2,_,ZB V.str (by rw [Ah,Ek]) hz0 _,⟨_,rfl⟩,fun b u hb e=>by rw [wb hb];exact sx2 _ _ hb e,fun n=>(nt2 n).upd,?_⟩;rw [db];unfold Qb;rw [Dq V.str];rfl
  rintro σ H2 zzq;refine zzP fun zzM zzh=>?_
  obtain ⟨⟨c,rfl⟩,sx2,nt2,hm2⟩:=zzq;subst zzh;walk_at "RD";refine ⟨by omega,by omega,?_⟩;refine rh.range (fun k σ H'=>(∃ c,σ=[some (V.ref a),some (V.int z),some (V.ref p),some (V.ref mk),some (V.int sd.b),some (V.int sd.n),c])∧Kc mk H1 H'∧(NoT H→NoT H')∧H' mk=some (.lst (Qb (kz z (Str.ofString "free") sd.b k (Wv z (Str.ofString "ready") sd.b (Jc d).toNat (Nj z (Jc d).toNat (Ke d).toNat ((ofN d.name sp).take i))))))) ?_ ?_ ?_
  ·exact ⟨⟨_,rfl⟩,sx2,nt2,hm2⟩
  ·rintro k σ H2 hk zzq;refine zzP fun zzM zzh=>?_
   obtain ⟨⟨c,rfl⟩,sx2,nt2,hm2⟩:=zzq;subst zzh;walk_at "RD";refine ⟨by omega,_,hm2,_,ZB V.str (by rw [Cg,Ah,Ek]) hz0 _,⟨_,rfl⟩,fun b u hb e=>by rw [wb hb];exact sx2 _ _ hb e,fun n=>(nt2 n).upd,?_⟩;rw [db];unfold Qb;rw [Dq V.str];rfl
  rintro σ H3 zzq;refine zzP fun zzM zzh=>?_
  obtain ⟨⟨c,rfl⟩,sx3,nt3,hm3⟩:=zzq;have W3:=wx sx3;obtain ⟨_,dx3,hw3⟩:=id W3;subst zzh;walk_at "RD";refine ⟨_,_,_,hw3,⟨_,dk,rfl⟩,xQ (by decide +kernel),_,d,rfl,W3,rfl,_,rfl,by omega,by omega,?_⟩;refine rh.range (fun k σ H'=>(∃ c,σ=[some (V.ref a),some (V.int z),some (V.ref p),some (V.ref mk),some (V.int sd.b),some (V.int sd.n),c])∧Kc mk H1 H'∧(NoT H→NoT H')∧H' mk=some (.lst (Qb (kz z (Str.ofString "fade") (sd.b + sd.n) k (kz z (Str.ofString "free") sd.b sd.n.toNat (Wv z (Str.ofString "ready") sd.b (Jc d).toNat (Nj z (Jc d).toNat (Ke d).toNat ((ofN d.name sp).take i)))))))) ?_ ?_ ?_
  ·exact ⟨⟨_,rfl⟩,sx3,nt3,hm3⟩
  ·rintro k σ H2 hk zzq;refine zzP fun zzM zzh=>?_
   obtain ⟨⟨c,rfl⟩,sx2,nt2,hm2⟩:=zzq;subst zzh;walk_at "RD";refine ⟨by omega,_,hm2,_,ZB V.str (by rw [Cg,Cg,Ah,Ek]) hz0 _,⟨_,rfl⟩,fun b u hb e=>by rw [wb hb];exact sx2 _ _ hb e,fun n=>(nt2 n).upd,?_⟩;rw [db];unfold Qb;rw [Dq V.str];rfl
  ·rintro σ H2 zzq;refine zzP fun zzM zzh=>?_
   obtain ⟨⟨c,rfl⟩,sx2,nt2,hm2⟩:=zzq;subst zzh;exact ⟨⟨_,_,_,rfl⟩,sx2,nt2,hm2⟩
 ·rintro σ H' zzq;refine zzP fun zzM zzh=>?_
  obtain ⟨⟨a1,b,c,rfl⟩,sx,nt',hm⟩:=zzq;subst zzh;walk_at "RD";rw [List.take_of_length_le (by rw [List.length_map,lq.1,List.length_map];exact Nat.le_refl _)] at hm;exact q _ _ (Ff ((fb hmk).trans s1) sx hmk) nt' hmk hm
theorem uC (T:Txt w K mg t):Gb P w K mg base CX0 1 t.rf t.qf ["marks"] nw:=by
 refine T.Dg.ok ke (fun vs H Q E h=>?_) (fun _ _ _ s H vs Q E hr h=>?_)
 ·obtain ⟨p,m,rfl,_⟩:=h;rfl
 obtain ⟨p,m,rfl,hm,hl,q⟩:=h;refine ⟨_,(cb (xb (i:=1) ke.nd (jd Bc rfl T.Dn Nc (ab (pv 0) gb)))
   (cb (xb (i:=2) ke.nd qb)
   (cb (xb (i:=3) ke.nd (Pi gb))
   (cb (ad PassesOwn.never rfl (mF rfl T.me (ab (Lb ci (Lb Ri qb (pv 1)) qb) (ab (pK bC qb) (ab (pK bC qb) gb)))) (lb (i:=4) ke.nd) (cb (xb (i:=2) ke.nd (Sl (Cm (Zb He (pv 0) (Lb Te (pv 4) (pv 1)))) qb (Lb Dc (pv 2) qb)))
   (ib (Le (Pb Ms (pv 4) (pv 1) (gc _)) (ib (gd (Bp PySem.F.plainAttrs_list PySem.F.slot_list_append PySem.F.type_list_append Vk (pv 3) (ab (pv 2) gb)))) qc))))
   (ib (Cb (Po rfl rfl T.Ex rfl T.lp (ab (pv 3) gb)))))))),?_⟩
 walk_at "RD";refine ⟨_,.inl (SqL.of hm),Nat.zero_le _,fun u hu=>?_⟩;have hbl:(cg m).length=m.length:=by unfold cg;rw [List.length_map]
 rw [hbl];refine ⟨by unfold dM;omega,by omega,by omega,by omega,by omega,?_⟩;have hun:p ≠ u:=Ab hm hu;refine rh.of (n:=2 * m.length) (fun k σ H'=>(∃ x,σ=[some (V.ref p),some (V.int m.length),some (V.int (Gf m k)),some (V.ref u),x])∧Kc u H H'∧(NoT H→NoT H')∧H' u=some (.lst ((lv m (k - m.length)).map V.int))) ?_ (fun i σ H' hi _=>?_) (fun σ H' _=>?_) ?_ ?_
 ·exact ⟨⟨_,rfl⟩,fun b o hb e=>by rw [wb hb];exact e,fun n=>n.upd,by rw [db,Nat.zero_sub];rfl⟩
 ·show i < _;omega
 ·show _ ≤ 2 * m.length;omega
 ·rintro k σ H'' v H' hk ⟨⟨x,rfl⟩,sx,nt',hu'⟩ ⟨rfl,rfl⟩;have hjn:(2 * m.length - 1 - k) % m.length < m.length:=Nat.mod_lt _ hl.1;have hmj:m[(2 * m.length - 1 - k) % m.length]? = some m[(2 * m.length - 1 - k) % m.length]:=List.getElem?_eq_getElem hjn;have hj:((2 * m.length - 1 - k:Int)) % (m.length:Int)=(((2 * m.length - 1 - k) % m.length:Nat):Int):=by
   rw [Int.natCast_emod];congr 1;omega
  have hat:atI (cg m) ((2 * m.length - 1 - k:Int) % (m.length:Int))=some (V.bl m[(2 * m.length - 1 - k) % m.length]):=by
   rw [hj];exact Jb (by unfold cg;rw [List.getElem?_map,hmj];rfl)
  have hst:Gf m (k + 1)=if m[(2 * m.length - 1 - k) % m.length]=true then 0 else Gf m k + 1:=by
   show (if m[(2 * m.length - 1 - k) % m.length]? = some true then 0 else Gf m k + 1)=_;rw [hmj];simp
  simp only [oh,Db,List.set_cons_succ,List.set_cons_zero];refine zzC (fun σ H4=>H4=H'∧σ=[some (V.ref p),some (V.int m.length),some (V.int (Gf m (k + 1))),some (V.ref u),some (V.int (2 * m.length - 1 - k))]) (fun D' hD=>?_) fun zzM zzh=>?_
  ·walk_at "RD";refine ⟨by omega,_,SqL.of (sx _ _ hun hm),_,hat,_,rfl,?_⟩;rw [hst] at hD;by_cases c:m[(2 * m.length - 1 - k) % m.length]=true
   ·rw [if_pos c] at hD ⊢;exact hD _ _ ⟨rfl,rfl⟩
   ·rw [if_neg c] at hD ⊢;exact hD _ _ ⟨rfl,rfl⟩
  rintro σ H4 ⟨rfl,rfl⟩;subst zzh;dsimp only;refine ac (decide ((2 * m.length - 1 - k:Int) < m.length)) (fun Q hQ=>?_) (fun hc=>?_) (fun hc=>?_)
  ·walk_at "RD";exact hQ
  ·walk_at "RD";have hc':=of_decide_eq_true hc;refine ⟨.inl ⟨_,SqL.of hu'⟩,_,hu',Nat.lt_of_le_of_lt (show ((lv m (k - m.length)).map V.int).length ≤ 1000 by unfold lv;simp;omega) (by decide),⟨_,rfl⟩,fun b o hb e=>by rw [wb hb];exact sx _ _ hb e,fun n=>(nt' n).upd,?_⟩;rw [db,show k + 1 - m.length=k - m.length + 1 by omega];unfold lv;rw [List.range_succ,List.map_append,List.map_append];simp only [List.map_cons,List.map_nil];rw [show m.length + (k - m.length) + 1=k + 1 by omega]
  ·walk_at "RD";have hc':=of_decide_eq_false hc;refine ⟨⟨_,rfl⟩,sx,nt',?_⟩;rw [hu',show k - m.length=0 by omega,show k + 1 - m.length=0 by omega]
 ·rintro σ H' zzq;refine zzP fun zzM zzh=>?_
  obtain ⟨⟨x,rfl⟩,sx,nt',hu'⟩:=zzq;subst zzh;walk_at "RD";refine ⟨_,SqL.of hu',fun l hl'=>?_⟩;have hlu:l ≠ u:=fun z=>by subst z;rw [hu'] at hl';cases hl'
  refine q _ _ ((Ff (Ib.refl H) sx hu).trans (fb hl')) (fun n=>(nt' n).upd) ((Ff (Ib.refl H) sx hu).free hl') ?_;rw [db,show 2 * m.length - m.length=m.length by omega,← List.map_reverse,UD]
theorem VJ (T:Txt w K mg t):Gb P w K mg base CX0 2 t.zg t.wg ["marks"] TB:=by
 have g19:Gb P w K mg base CX0 1 t.rf t.qf ["marks"] nw:=uC T;refine T.Ai.ok ls (fun vs H Q E h=>?_) (fun _ _ _ s H vs Q E hr h=>?_)
 ·obtain ⟨p,m,rfl,_⟩:=h;rfl
 obtain ⟨p,m,rfl,hm,hl,q⟩:=h;refine ⟨_,(ib (Cb (Po rfl rfl T.Ex rfl T.lp (ab (ub g19 hr T.Lm T.Dg.kp T.rm (ab (Po rfl rfl T.Ex rfl T.lp (ab (pv 0) gb)) gb)) gb)))),?_⟩;walk_at "RD";refine ⟨_,SqL.of hm,fun l1 h1=>?_⟩;refine ⟨l1,m.reverse,rfl,by rw [db,cg,cg,List.map_reverse],by rw [List.length_reverse];exact hl,fun r H1 s1 nt1 hr1 hu=>⟨r,rfl,_,SqL.of hu,fun l2 h2=>?_⟩⟩;refine q _ _ (((fb h1).trans s1).trans (fb h2)) (fun n=>(nt1 n.upd).upd) (((fb h1).trans s1).free h2) ?_;rw [db,← List.map_reverse];rfl
end
end My
namespace My
open PySem L2
theorem ig {α:Type} {l:List α} {a x:α} {i:Nat} (h:(l ++ [a])[i]? = some x):(i < l.length∧l[i]? = some x)∨(i=l.length∧x=a):=by
 by_cases hi:i < l.length
 ·rw [List.getElem?_append_left hi] at h;exact .inl ⟨hi,h⟩
 ·rw [List.getElem?_append_right (by omega)] at h;have h0:i - l.length=0:=by
   cases hh:i - l.length with
   | zero=>rfl
   | succ m=>rw [hh] at h;simp at h
  rw [h0] at h;exact .inr ⟨by omega,(by simpa using h:a=x).symm⟩
def DOk (ds:List WD):Prop:=∀ d ∈ ds,0 ≤ d.off∧d.off ≤ 1000
noncomputable def Ox (ds:List WD) (sp:List SD):Option Str:=(ds.map (·.name)).find? fun x=>(ofN x sp).isEmpty
def Dx (t:Adr):Sp:=fun vs H Q _=>∃ c n ds p sp,vs=[.ref c,.ref p]∧Qc t H c n ds∧LO H p (List.map sdO sp)∧sp.length ≤ 100∧Ox ds sp=none∧∀ H',Ib H H'→(NoT H→NoT H')→Q .non H'
noncomputable def bE (z:Int) (sp:List SD) (k:Nat) (d:SD):Int:=(((ofN d.name (sp.eraseIdx k)).map fun p=>(p.1 - d.b) % z).min?).getD z
def aG:Sp:=fun vs H Q E=>∃ (z:Int) (p:Addr) (sp:List SD) (k:Nat) (d:SD),vs=[.int z,.ref p,.int k]∧0 < z∧LO H p (List.map sdO sp)∧sp.length ≤ 100∧sp[k]? = some d∧∀ H',Ib H H'→(NoT H→NoT H')→Q (.int (bE z sp k d)) H'
theorem OD {α:Type} (l:List α) (x:α) (k:Nat):(l ++ [x]).eraseIdx k=if k=l.length then l.eraseIdx k else l.eraseIdx k ++ [x]:=by
 by_cases h:k < l.length
 ·rw [if_neg (by omega),List.eraseIdx_append_of_lt_length h]
 ·rw [List.eraseIdx_append_of_length_le (by omega),List.eraseIdx_of_length_le (l:=l) (by omega)];by_cases h2:k=l.length
  ·rw [if_pos h2,h2,Nat.sub_self];simp
  ·rw [if_neg h2,List.eraseIdx_of_length_le (by simp;omega)]
noncomputable def wOf (ds:List WD) (x:Str):Option WD:=ds.find? fun d=>decide (d.name=x)
noncomputable def Xu (ds:List WD) (z:Int) (sp:List SD) (k:Nat) (s:SD):Bool:=(wOf ds s.name).any fun d=>decide (s.n < d.least) || decide (bE z sp k s < s.n + Ke d + Jc d)
noncomputable def lx (ds:List WD) (z:Int) (sp:List SD):Option (SD × Nat):=sp.zipIdx.find? fun e=>Xu ds z sp e.2 e.1
def Jy (t:Adr):Sp:=fun vs H Q _=>∃ (c:Addr) (n:Int) (ds:List WD) (z:Int) (p:Addr) (sp:List SD),vs=[.ref c,.int z,.ref p]∧Qc t H c n ds∧DOk ds∧(0 < z∧z ≤ 1000)∧LO H p (List.map sdO sp)∧SN z sp∧(∀ s ∈ sp,∃ d,wOf ds s.name=some d)∧lx ds z sp=none∧∀ H',Ib H H'→(NoT H→NoT H')→Q .non H'
theorem Nw {P:Program} {w:World} {K:PySem.W.Frag} {mg:Str→Option Value} {base:Heap} {CX:CXT} {j k:Nat} {OK:Addr→Prop} {m:Str} {ps:List Str} {SPV:Addr→Sp} (V:GC P w K mg base CX j OK m ps SPV) (h:j ≤ k):GC P w K mg base CX k OK m ps SPV:=⟨fun C hC=>by
 obtain ⟨f,fd,h1,h2,h3,h4⟩:=V.ok C hC;exact ⟨f,fd,h1,h2,h3.mono h,h4⟩⟩
theorem cG {ds:List WD} {x:Str} {d:WD} (h:wOf ds x=some d):d.name=x∧∃ i:Nat,ds[i]? = some d:=by
 unfold wOf at h;refine ⟨by simpa using List.find?_some h,?_⟩;obtain ⟨i,hi,e⟩:=List.getElem_of_mem (List.mem_of_find?_eq_some h);exact ⟨i,by rw [List.getElem?_eq_getElem hi,e]⟩
noncomputable def pE (d1 d2:WD):Int:=if d1.off - d2.near > 0 then d1.off - d2.near else 0
noncomputable def ju (g:Int) (m1 m2:List Int):Option ((Int × Int) × Nat):=(m1.zip m2).zipIdx.find? fun e=>decide (e.1.2=0) && decide (e.1.1 ≤ g)
def RK (t:Adr):Sp:=fun vs H Q _=>∃ (c:Addr) (n:Int) (ds:List WD) (d1 d2:WD) (p1 p2:Addr) (m1 m2:List Int),vs=[.ref c,.str d1.name,.str d2.name,.ref p1,.ref p2]∧Qc t H c n ds∧d1 ∈ ds∧d2 ∈ ds∧H p1=some (.lst (m1.map V.int))∧H p2=some (.lst (m2.map V.int))∧m1.length=m2.length∧m1.length ≤ 1000∧ju (pE d1 d2) m1 m2=none∧∀ H',Ib H H'→(NoT H→NoT H')→Q .non H'
noncomputable def fk (z:Nat) (sp:List SD) (x:Str):List Int:=Su (fmF z (ofN x sp))
noncomputable def Tr (n:Int) (z:Nat) (sp:List SD) (d1 d2:WD):Option Nat:=if d1.name ≠ d2.name∧mt n d1 d2=true then (ju (pE d1 d2) (fk z sp d1.name) (fk z sp d2.name)).map (·.2) else none
noncomputable def HF (n:Int) (z:Nat) (sp:List SD) (d1:WD) (ds:List WD):Option (WD × WD × Nat):=ds.findSome? fun d2=>(Tr n z sp d1 d2).map fun i=>(d1,d2,i)
noncomputable def Ny (n:Int) (z:Nat) (sp:List SD) (ds:List WD):Option (WD × WD × Nat):=ds.findSome? fun d1=>HF n z sp d1 ds
def vy (t:Adr):Sp:=fun vs H Q _=>∃ (c:Addr) (n:Int) (ds:List WD) (z:Nat) (p:Addr) (sp:List SD),vs=[.ref c,.int z,.ref p]∧Qc t H c n ds∧0 < n∧(0 < z∧z ≤ 1000)∧LO H p (List.map sdO sp)∧SN z sp∧NoT H∧Ny n z sp ds=none∧∀ H',Ib H H'→NoT H'→Q .non H'
theorem cj (m:List Bool):(Gm m).length=m.length:=by unfold Gm;simp
theorem Ql (z:Nat) (sp:List SD) (x:Str):(fk z sp x).length=z:=by
 unfold fk Su;rw [List.length_reverse,cj,List.length_reverse,zj]
noncomputable def nkv (ds:List WD) (rs:List Addr):List (Key × V):=(ds.zip rs).map fun e=>(Sum.inr e.1.name,V.ref e.2)
def NK (H:Hp) (p:Addr) (ds:List WD) (f:WD→HO) (n:Nat):Prop:=∃ rs:List Addr,rs.length=n∧H p=some (.dK (nkv ds rs))∧∀ (i:Nat) (r:Addr) (d:WD),rs[i]? = some r→ds[i]? = some d→H r=some (f d)
theorem WI {ds:List WD} (h:(ds.map (·.name)).Nodup) {i j:Nat} {d e:WD} (hi:ds[i]? = some d) (hj:ds[j]? = some e) (z:d.name=e.name):i=j:=
 PB h (List.getElem?_eq_some_iff.mp hi).1 (List.getElem?_eq_some_iff.mp hj).1 (by rw [yx hi,yx hj];exact z)
theorem dA {ds:List WD} {rs:List Addr} (h:(ds.map (·.name)).Nodup) {i:Nat} {d:WD} {r:Addr} (hd:ds[i]? = some d) (hr:rs[i]? = some r):Ol (nkv ds rs) (Sum.inr d.name)=some (.ref r):=by
 obtain ⟨h1,e1⟩:=List.getElem?_eq_some_iff.mp hd;obtain ⟨h2,e2⟩:=List.getElem?_eq_some_iff.mp hr;unfold Ol;have hf:List.find? (fun kv=>decide (kv.1=(Sum.inr d.name:Key))) (nkv ds rs)=some (Sum.inr d.name,.ref r):=by
  rw [List.find?_eq_some_iff_getElem];refine ⟨by simp,i,by unfold nkv;simp;omega,by unfold nkv;simp [e1,e2],fun j hj=>?_⟩;unfold nkv;simp;intro z;have:=WI h (List.getElem?_eq_getElem (show j < ds.length by omega)) hd z;omega
 rw [hf];rfl
theorem oA {ds:List WD} {rs:List Addr} (h:(ds.map (·.name)).Nodup) {d:WD} {r:Addr} (hd:ds[rs.length]? = some d):xq (nkv ds rs) (Sum.inr d.name) (.ref r)=nkv ds (rs ++ [r]):=by
 obtain ⟨h1,e1⟩:=List.getElem?_eq_some_iff.mp hd;unfold xq;have no:((nkv ds rs).any fun kv=>decide (kv.1=Sum.inr d.name))=false:=by
  rw [List.any_eq_false];intro p hp;unfold nkv at hp;obtain ⟨e,he,rfl⟩:=List.mem_map.mp hp;obtain ⟨j,hj,hje⟩:=List.getElem_of_mem he;simp only [decide_eq_true_eq];intro z;have z:=Sum.inr.inj z;rw [← hje] at z;simp at hj z;have:=WI h (List.getElem?_eq_getElem (show j < ds.length by omega)) hd z;omega
 rw [no,if_neg (by decide)];unfold nkv;refine List.ext_getElem (by simp;omega) (fun i h3 h4=>?_);simp at h3 h4;by_cases c:i < rs.length
 ·simp [List.getElem_append,c,show i < ds.length by omega];rw [dif_pos (by omega)]
 ·have:i=rs.length:=by omega
  subst this;simp [List.getElem_append,Nat.le_of_lt h1,e1]
section
variable {P:Program} {w:World} {K:PySem.W.Frag} {mg:Str→Option Value} {base:Heap} {t:Adr}
theorem EI (T:Txt w K mg t):Gb P w K mg base CX0 3 t.og t.Bg q41 (Dx t):=by
 have g11:Gb P w K mg base CX0 2 t.fg t.dg q12 ur:=(Lv T).mono (by decide);have g12:Gb P w K mg base CX0 2 t.Tc t.Gd ["self"] (Iq t):=(Gv T).mono (by decide);refine T.Ei.ok xk (fun vs H Q E h=>?_) (fun _ _ _ s H vs Q E hr h=>?_)
 ·obtain ⟨c,n,ds,p,sp,rfl,_⟩:=h;rfl
 obtain ⟨c,n,ds,p,sp,rfl,C,L,hs,hN,q⟩:=h;refine ⟨_,(ib (ad PassesOwn.never rfl (ld (vf (pv 0) T.Mb T.ue g12 hr T.Be .nil Rc)) (lb (i:=2) xk.nd) (ib (Le (Wq (Ov (ub g11 hr T.am T.sh.kp T.Xl (ab (pv 1) (ab (pv 2) gb))) (fun _=>rfl))) (ib dh) qc)))),?_⟩;walk_at "RD";obtain ⟨_,dx,wl,nd,e1,_,_⟩:=id C;refine ⟨_,_,e1,Uy _ _ _ (by decide +kernel),c,n,ds,rfl,C,fun pn hpn=>⟨pn,rfl,⟨_,SqL.of db⟩,?_⟩⟩;refine rh.list (xs:=Qb (ds.map (·.name))) (fun i σ H'=>(∃ y,σ=[some (V.ref c),some (V.ref p),y])∧Ib (upd H pn (.lst (Qb (ds.map (·.name))))) H'∧(NoT H→NoT H')) ?_ ?_ ?_ ?_
 ·exact ⟨⟨_,rfl⟩,Ib.refl _,fun n=>n.upd⟩
 ·rintro i σ H' hi ⟨_,sm,_⟩;exact SqL.of (sm _ _ db)
 ·rintro i v σ H' hv zzq;refine zzP fun zzM zzh=>?_
  obtain ⟨⟨y,rfl⟩,sm,nt⟩:=zzq;obtain ⟨x,hx,rfl⟩:=lc hv;have smH:Ib H H':=(fb hpn).trans sm;have hne:(ofN x sp).isEmpty=false:=by
   have:=List.find?_eq_none.mp hN x (List.mem_of_getElem? hx);simpa using this
  subst zzh;walk_at "RD";refine wo (fun b H2=>b=(ofN x sp).isEmpty∧Ib H' H2∧(NoT H'→NoT H2)) (fun Q hQ=>?_) (fun H2 r=>?_) (fun H2 r=>?_)
  ·walk_at "RD";refine ⟨p,x,sp,rfl,L.same smH,hs,fun r H2 s2 n2 ⟨qs,l1,l2⟩=>⟨!(ofN x sp).isEmpty,.inl ⟨_,SqL.of l1,?_⟩,?_⟩⟩
   ·have hl:=l2.1;cases qs with
    | nil=>cases h:ofN x sp with
     | nil=>rfl
     | cons a r=>rw [h] at hl;simp at hl
    | cons a r=>cases h:ofN x sp with
     | nil=>rw [h] at hl;simp at hl
     | cons a r=>rfl
   ·rw [Bool.not_not];exact hQ _ _ ⟨rfl,s2,n2⟩
  ·exact absurd (r.1.trans hne) (by decide)
  ·obtain ⟨r1,r2,r3⟩:=r;walk_at "RD";exact ⟨⟨_,rfl⟩,sm.trans r2,fun n=>r3 (nt n)⟩
 ·rintro σ H' zzq;refine zzP fun zzM zzh=>?_
  obtain ⟨⟨y,rfl⟩,sm,nt⟩:=zzq;subst zzh;exact q _ ((fb hpn).trans sm) nt
theorem uM (T:Txt w K mg t):Gb P w K mg base CX0 2 t.Hd t.Td q42 aG:=by
 have g11:Gb P w K mg base CX0 1 t.fg t.dg q12 ur:=Lv T;refine T.Pe.ok Cc (fun vs H Q E h=>?_) (fun _ _ _ s H vs Q E hr h=>?_)
 ·obtain ⟨z,p,sp,k,d,rfl,_⟩:=h;rfl
 obtain ⟨z,p,sp,k,d,rfl,hz,⟨qs,l1,lq⟩,hs,hk,q⟩:=h;refine ⟨_,(cb (Qk (Zb He (pv 1) (pv 2)) (Wc (K:=K) (n:=3) rfl rfl (Bb (lb (i:=3) Cc.nd) (Bb (Jv (i:=4) Cc.nd rfl (Or.inr rfl) (.inl rfl)) (Bb (lb (i:=5) Cc.nd) Uc)))))
   (cb (Ee (i:=6) Cc.nd rfl (Or.inl rfl) rfl (Xk rfl T.re (ab (pv 1) gb)) (ic (sc:=jb Qd) rfl (by decide +kernel)) (N:=q60) (sel:=[none,none,some 2]) (uc (M:=q57) (by decide +kernel)) (Blk.of (fun _ _ _ _=>(Wc (K:=K) (n:=2) rfl rfl (Bb (lb (i:=0) (Ue (N:=q60) (by decide +kernel) rfl)) (Bb (lb (i:=1) (Ue (N:=q60) (by decide +kernel) rfl)) Uc)))) (fun _ _ _ _=>⟨_,(Eo (Pb Os (pv 0) (pv 2) (gc _))),by walk_at "B"⟩) (fun _ _ _ _=>⟨_,(pv 1),by walk_at "B"⟩)) rfl)
   (ib (Cb (qM rfl rfl T.fR (ab (Bf rfl (ld (ub g11 hr T.am T.sh.kp T.Xl (ab (pv 6) (ab (pv 3) gb)))) (ic (sc:=jb Qd) rfl (by decide +kernel)) (N:=q61) (sel:=[none,none,some 4,some 0]) (uc (M:=q57) (by decide +kernel)) (Blk.of (fun _ _ _ _=>(Wc (K:=K) (n:=2) rfl rfl (Bb (lb (i:=0) (Ue (N:=q61) (by decide +kernel) rfl)) (Bb (lb (i:=1) (Ue (N:=q61) (by decide +kernel) rfl)) Uc)))) (fun _ _ _ _=>⟨_,pe,by walk_at "B"⟩) (fun _ _ _ _=>⟨_,(Lb Te (Lb ci (pv 0) (pv 2)) (pv 3)),by walk_at "B"⟩))) gb) (pv 0)))))),?_⟩
 walk_at "RD";have hql:qs.length=sp.length:=by rw [lq.1,List.length_map]
 obtain ⟨hkl,hkd⟩:=List.getElem?_eq_some_iff.mp hk;have hqk:qs[k]? = some qs[k]:=List.getElem?_eq_getElem (by omega);have ek:H qs[k]=some (sdO d):=lq.2 k _ _ hqk (by rw [List.getElem?_map,hk];rfl);refine ⟨_,SqL.of l1,_,Jb (by rw [List.getElem?_map,hqk];rfl),_,rfl,_,SqT.of ek,rfl,_,_,rfl,_,_,rfl,_,_,rfl,rfl,⟨_,SqL.of l1⟩,?_⟩;refine Fc.enum (xs:=qs.map V.ref) (fun i ys H'=>∃ os:List Addr,ys=os.map V.ref∧LQ H' os (((sp.take i).eraseIdx k).map sdO)∧Ib H H'∧(NoT H→NoT H')) (Nat.le_trans (show (qs.map V.ref).length ≤ 100 by rw [List.length_map];omega) (by decide)) ⟨[],rfl,by rw [List.take_zero];exact LQ.nil _,Ib.refl _,id⟩ ?_ ?_ ?_
 ·rintro i ys H' hi zzq;refine zzP fun zzM zzh=>?_
  obtain ⟨os,rfl,r,sm,_⟩:=zzq;subst zzh;refine ⟨(SqL.of l1).same sm,?_⟩;rw [List.length_map,r.1,List.length_map];exact Nat.le_trans (List.length_eraseIdx_le ..) (by rw [List.length_take];omega)
 ·rintro i v ys H' p1 hv ⟨os,rfl,r,sm,nt⟩ hp1 N hN;obtain ⟨qi,hqi,rfl⟩:=lc hv;obtain ⟨o,ho,e⟩:=lq.at hqi;obtain ⟨d',hd',rfl⟩:=lc ho;have e':=sm _ _ e;have s1:Ib H' (upd H' p1 (.tup [.int i,.ref qi])):=fb hp1;refine sf ?_;dsimp only at hN;have hil:(sp.take i).length=i:=by
   have:=(List.getElem?_eq_some_iff.mp hd').1;rw [List.length_take];omega
  rw [dl hd',OD,hil] at hN;walk_at "RD";refine ⟨Sub.name2,?_⟩;by_cases c:k=i
  ·rw [if_pos c] at hN;rw [if_neg (by subst c;simp)];exact hN _ _ ⟨os,rfl,r.same s1,sm.trans s1,fun n=>(nt n).upd⟩
  ·rw [if_neg c] at hN;rw [if_pos (by simp;omega)];refine hN _ _ ⟨os ++ [qi],by rw [List.map_append];rfl,?_,sm.trans s1,fun n=>(nt n).upd⟩;rw [List.map_append];exact (r.same s1).app (LQ.one (s1 _ _ e'))
 ·rintro ys H' ⟨os,rfl,r,sm,nt⟩ p1 hp1;rw [List.take_of_length_le (by rw [List.length_map];omega)] at r;walk_at "RD";have s1:Ib H' (upd H' p1 (.lst (os.map V.ref))):=fb hp1;refine ⟨p1,d.name,sp.eraseIdx k,rfl,⟨os,db,r.same s1⟩,Nat.le_trans (List.length_eraseIdx_le ..) hs,fun r2 H2 s2 n2 ⟨qs2,m1,m2⟩=>⟨r2,rfl,⟨_,SqL.of m1⟩,?_⟩⟩;have hln:(ofN d.name (sp.eraseIdx k)).length ≤ 100:=Nat.le_trans (HE _ _) (Nat.le_trans (List.length_eraseIdx_le ..) hs);have hml:qs2.length=(ofN d.name (sp.eraseIdx k)).length:=by rw [m2.1,List.length_map]
  refine Fc.list_zs (zs:=((ofN d.name (sp.eraseIdx k)).map fun p=>(p.1 - d.b) % z).map V.int) (SqL.of m1) (Nat.le_trans (show (qs2.map V.ref).length ≤ 100 by rw [List.length_map];omega) (by decide)) (by simp [hml]) (fun i v z' N hv hz' hN=>?_) (fun l hl=>?_)
  ·obtain ⟨qi,hqi,rfl⟩:=lc hv;obtain ⟨o,ho,e⟩:=m2.at hqi;obtain ⟨pr,hpr,rfl⟩:=lc ho;obtain ⟨y,hy,rfl⟩:=lc hz';obtain ⟨pr',hpr',rfl⟩:=lc hy;rw [hpr] at hpr';cases hpr';walk_at "RD";exact ⟨_,SqT.of e,rfl,_,_,rfl,_,_,rfl,rfl,Sub.name2,_,rfl,hz,hN⟩
  ·walk_at "RD";refine ⟨_,SqL.of db,?_⟩;have:=q (upd H2 l (.lst (((ofN d.name (sp.eraseIdx k)).map fun p=>(p.1 - d.b) % z).map V.int))) (((sm.trans s1).trans s2).trans (fb hl)) (fun n=>(n2 (nt n).upd).upd);unfold bE at this;cases hm:((ofN d.name (sp.eraseIdx k)).map fun p=>(p.1 - d.b) % z).min? with
   | none=>rw [hm] at this;exact this
   | some m=>rw [hm] at this;exact this
theorem tI (T:Txt w K mg t):Gb P w K mg base CX0 4 t.Fg t.lg q13 (Jy t):=by
 have g47:Gb P w K mg base CX0 3 t.Hd t.Td q42 aG:=(uM T).mono (by decide);have g8:Gb P w K mg base CX0 3 t.Nb t.Ub q5 (Uf t):=(Gg T).mono (by decide);have V_Way_ready:GC P w K mg base CX0 3 (isW t) "ready" ["self"] (xh t):=Nw (vz T) (by decide);have V_Way_fade:GC P w K mg base CX0 3 (isW t) "fade" ["self"] (Hj t):=Nw (VH T) (by decide);refine T.Gi.ok Lc (fun vs H Q E h=>?_) (fun _ _ _ s H vs Q E hr h=>?_)
 ·obtain ⟨c,n,ds,z,p,sp,rfl,_⟩:=h;rfl
 obtain ⟨c,n,ds,z,p,sp,rfl,C,hD,hz,⟨qs,l1,lq⟩,hs,hk,hN,q⟩:=h;refine ⟨_,(ib (ad PassesOwn.never rfl (Xk rfl T.re (ab (pv 2) gb)) (Wc (K:=K) (n:=2) rfl rfl (Bb (lb (i:=3) Lc.nd) (Bb (lb (i:=4) Lc.nd) Uc))) (cb (Qk (pv 4) (Wc (K:=K) (n:=3) rfl rfl (Bb (lb (i:=5) Lc.nd) (Bb (lb (i:=6) Lc.nd) (Bb (lb (i:=7) Lc.nd) Uc)))))
   (cb (xb (i:=8) Lc.nd (Ed (pv 0) T.Mb T.jc g8 hr T.kc .nil Rc (ab (pv 5) gb)))
   (cb (xb (i:=9) Lc.nd (Lb Dc (Lb Dc (pv 7) (dj (pv 8) V_Way_fade hr Rc)) (dj (pv 8) V_Way_ready hr Rc)))
   (ib (Le (PW.pt (cy (Pb Ms (pv 7) (Ob (pv 8) rfl) (gc _)) (Vp (Pb Ms (ub g47 hr T.Pk T.Pe.kp T.Bl (ab (pv 1) (ab (pv 2) (ab (pv 3) gb)))) (pv 9) (gc _))))) (ib dh) qc))))))),?_⟩
 walk_at "RD";have hql:qs.length=sp.length:=by rw [lq.1,List.length_map]
 refine ⟨⟨_,SqL.of l1⟩,?_⟩;refine rh.enum (xs:=qs.map V.ref) (fun i σ H'=>(∃ a b c1 d e f g,σ=[some (V.ref c),some (V.int z),some (V.ref p),a,b,c1,d,e,f,g])∧Ib H H'∧(NoT H→NoT H')) ?_ ?_ ?_ ?_
 ·exact ⟨⟨_,_,_,_,_,_,_,rfl⟩,Ib.refl _,id⟩
 ·rintro i σ H' hi ⟨_,sm,_⟩;exact SqL.of (sm _ _ l1)
 ·rintro i v σ H0 p1 hv ⟨⟨a1,a2,a3,a4,a5,a6,a7,rfl⟩,sm,nt⟩ hp1;obtain ⟨qi,hqi,rfl⟩:=lc hv;obtain ⟨o,ho,e⟩:=lq.at hqi;obtain ⟨sd,hsd,rfl⟩:=lc ho;obtain ⟨hi,hxi⟩:=List.getElem?_eq_some_iff.mp hsd;have hB0:Xu ds z sp i sd=false:=by
   have:=List.find?_eq_none.mp hN (sd,i) (by rw [List.mem_iff_getElem?];exact ⟨i,by rw [List.getElem?_zipIdx,hsd];simp⟩);simpa using this
  have s1:Ib H0 (upd H0 p1 (.tup [.int i,.ref qi])):=fb hp1;refine sf ?_;have nt1:NoT H→NoT (upd H0 p1 (.tup [.int i,.ref qi])):=fun n=>(nt n).upd
  generalize upd H0 p1 (.tup [.int i,.ref qi])=H' at s1 nt1 ⊢;have smH:Ib H H':=sm.trans s1;obtain ⟨d,hd⟩:=hk sd (List.mem_of_getElem? hsd);obtain ⟨hdn,j,hj⟩:=cG hd;have C':=C.same smH;obtain ⟨_,dx,wl,nd,e1,_,_⟩:=id C';have hB:Xu ds z sp i sd=(decide (sd.n < d.least) || decide (bE z sp i sd < sd.n + Ke d + Jc d)):=by
   unfold Xu;rw [hd];rfl
  walk_at "RD";refine ⟨_,SqT.of (smH _ _ e),rfl,_,_,rfl,_,_,rfl,_,_,rfl,rfl,_,_,e1,Uy _ _ _ (by decide +kernel),c,n,ds,j,d,by rw [hdn],C',hj,fun a W=>?_⟩;obtain ⟨dk,dxa,ha⟩:=id W;refine ⟨a,rfl,_,_,_,ha,⟨_,dk,rfl⟩,xQ (by decide +kernel),a,d,rfl,W,rfl,_,rfl,_,rfl,a,rfl,_,_,_,ha,⟨_,dk,rfl⟩,xQ (by decide +kernel),a,d,rfl,W,rfl,_,rfl,?_⟩;refine wo (fun b H2=>b=Xu ds z sp i sd∧Ib H' H2∧(NoT H'→NoT H2)) (fun Q hQ=>?_) (fun H2 r=>?_) (fun H2 r=>?_)
  ·rw [hB] at hQ;walk_at "RD";refine ⟨_,W.f_least T,_,rfl,?_⟩;by_cases c1:sd.n < d.least
   ·rw [decide_eq_true c1] at hQ;rw [if_pos (decide_eq_true c1)];exact hQ _ _ ⟨rfl,Ib.refl _,id⟩
   ·rw [decide_eq_false c1,Bool.false_or] at hQ;rw [if_neg (by simpa using c1)];exact ⟨z,p,sp,i,sd,rfl,hz.1,⟨qs,smH _ _ l1,lq.same smH⟩,hs.1,hsd,fun H2 s2 n2=>⟨_,rfl,hQ _ _ ⟨rfl,s2,n2⟩⟩⟩
  ·exact absurd (r.1.trans hB0) (by decide)
  ·obtain ⟨r1,r2,r3⟩:=r;exact ⟨⟨_,_,_,_,_,_,_,rfl⟩,smH.trans r2,fun n=>r3 (nt1 n)⟩
 ·rintro σ H' ⟨_,sm,nt⟩;exact q _ sm nt
theorem FO (T:Txt w K mg t):Gb P w K mg base CX0 4 t.bf t.ff q43 (RK t):=by
 have g20:Gb P w K mg base CX0 3 t.UH t.dG q10 (JG t):=eL T;refine T.kg.ok Ie (fun vs H Q E h=>?_) (fun _ _ _ s H vs Q E hr h=>?_)
 ·obtain ⟨c,n,ds,d1,d2,p1,p2,m1,m2,rfl,_⟩:=h;rfl
 obtain ⟨c,n,ds,d1,d2,p1,p2,m1,m2,rfl,C,h1,h2,L1,L2,hl,hm,hN,q⟩:=h;refine ⟨_,(cb (xb (i:=5) Ie.nd (ub g20 hr T.WN T.OJ.kp T.zO (ab (pv 0) (ab (pv 1) (ab (pv 2) gb)))))
   (ib (ad PassesOwn.never rfl (Xk rfl T.re (ab (pv 3) gb)) (Wc (K:=K) (n:=2) rfl rfl (Bb (lb (i:=6) Ie.nd) (Bb (lb (i:=7) Ie.nd) Uc))) (ib (Le (PW.pt (lC (Pb fm (Zb He (pv 4) (pv 6)) qb (gc _)) (Iw (Pb aR (pv 7) (pv 5) (gc _))))) (ib dh) qc))))),?_⟩
 walk_at "RD";obtain ⟨j1,hj1,ej1⟩:=List.getElem_of_mem h1;obtain ⟨j2,hj2,ej2⟩:=List.getElem_of_mem h2;refine ⟨c,n,ds,j1,j2,d1,d2,rfl,C,by rw [List.getElem?_eq_getElem hj1,ej1],by rw [List.getElem?_eq_getElem hj2,ej2],⟨_,SqL.of L1⟩,?_⟩;rw [show (if d1.off - d2.near > 0 then d1.off - d2.near else 0)=pE d1 d2 from rfl];refine rh.enum (xs:=m1.map V.int) (fun i σ H'=>(∃ a b,σ=[some (V.ref c),some (V.str d1.name),some (V.str d2.name),some (V.ref p1),some (V.ref p2),some (V.int (pE d1 d2)),a,b])∧Ib H H'∧(NoT H→NoT H')) ?_ ?_ ?_ ?_
 ·exact ⟨⟨_,_,rfl⟩,Ib.refl _,id⟩
 ·rintro i σ H' hi ⟨_,sm,_⟩;exact SqL.of (sm _ _ L1)
 ·rintro i v σ H0 p3 hv ⟨⟨a1,a2,rfl⟩,sm,nt⟩ hp3;obtain ⟨x1,hx1,rfl⟩:=lc hv;obtain ⟨hi,ex1⟩:=List.getElem?_eq_some_iff.mp hx1;have hi2:i < m2.length:=by omega
  have hx2:m2[i]? = some m2[i]:=List.getElem?_eq_getElem hi2;have hB0:(decide (m2[i]=0) && decide (x1 ≤ pE d1 d2))=false:=by
   have:=List.find?_eq_none.mp hN ((x1,m2[i]),i) (by rw [List.mem_iff_getElem?];exact ⟨i,by rw [List.getElem?_zipIdx,List.getElem?_zip_eq_some (z:=(x1,m2[i])) |>.mpr ⟨hx1,hx2⟩];simp⟩);simpa using this
  have s1:Ib H0 (upd H0 p3 (.tup [.int i,.int x1])):=fb hp3;refine sf ?_;have nt1:NoT H→NoT (upd H0 p3 (.tup [.int i,.int x1])):=fun n=>(nt n).upd
  generalize upd H0 p3 (.tup [.int i,.int x1])=H' at s1 nt1 ⊢;have smH:Ib H H':=sm.trans s1;walk_at "RD";refine ac (decide (m2[i]=0) && decide (x1 ≤ pE d1 d2)) (fun Q hQ=>?_) (fun c1=>?_) (fun c1=>?_)
  ·walk_at "RD";refine ⟨_,SqL.of (smH _ _ L2),_,Jb (by rw [List.getElem?_map,hx2];rfl),rfl,?_⟩;by_cases c0:m2[i]=0
   ·rw [decide_eq_true c0,Bool.true_and] at hQ;rw [if_pos (by rw [c0];exact decide_eq_true rfl)];exact hQ
   ·rw [decide_eq_false c0,Bool.false_and] at hQ;rw [if_neg (by rw [decide_eq_true_eq];exact fun e=>c0 (V.int.inj e))];exact hQ
  ·exact absurd (c1.symm.trans hB0) (by decide)
  ·exact ⟨⟨_,_,rfl⟩,smH,nt1⟩
 ·rintro σ H' ⟨_,sm,nt⟩;exact q _ sm nt
theorem xE (T:Txt w K mg t):Gb P w K mg base CX0 5 t.rg t.ug q13 (vy t):=by
 have g48:Gb P w K mg base CX0 4 t.zg t.wg ["marks"] TB:=(VJ T).mono (by decide);have g21:Gb P w K mg base CX0 4 t.Jg t.Hg q27 pM:=(IP T).mono (by decide);have g12:Gb P w K mg base CX0 4 t.Tc t.Gd ["self"] (Iq t):=(Gv T).mono (by decide);have g22:Gb P w K mg base CX0 4 t.Ay t.jy q10 (iA t):=(qI T).mono (by decide);have g49:Gb P w K mg base CX0 4 t.bf t.ff q43 (RK t):=FO T;refine T.Ii.ok Qe (fun vs H Q E h=>?_) (fun _ _ _ s H vs Q E hr h=>?_)
 ·obtain ⟨c,n,ds,z,p,sp,rfl,_⟩:=h;rfl
 obtain ⟨c,n,ds,z,p,sp,rfl,C,hn,hz,L,hs,nt0,hN,q⟩:=h;have hu:=rj hr;refine ⟨_,(cb (xb (i:=3) Qe.nd Fq)
   (cb (ad PassesOwn.never rfl (ld (vf (pv 0) T.Mb T.ue g12 hr T.Be .nil Rc)) (lb (i:=4) Qe.nd) (ib (lw hu (pv 3) (pv 4) (ub g48 hr T.cu T.Ai.kp T.Zt (ab (ub g21 hr T.Xp T.Wh.kp T.Jp (ab (pv 1) (ab (pv 2) (ab (pv 4) gb)))) gb)) rfl)))
   (ib (ad PassesOwn.never rfl (ld (vf (pv 0) T.Mb T.ue g12 hr T.Be .nil Rc)) (lb (i:=5) Qe.nd) (ib (ad PassesOwn.never rfl (ld (vf (pv 0) T.Mb T.ue g12 hr T.Be .nil Rc)) (lb (i:=6) Qe.nd) (ib (Le (PW.pt (lC (Pb Os (pv 5) (pv 6) (gc _)) (Iw (Cm (ub g22 hr T.fL T.zB.kp T.IL (ab (pv 0) (ab (pv 5) (ab (pv 6) gb)))))))) (ib (gd (ub g49 hr T.Ko T.kg.kp T.Io (ab (pv 0) (ab (pv 5) (ab (pv 6) (ab (Yo hu (pv 3) (pv 5) (fun _ _=>rfl)) (ab (Yo hu (pv 3) (pv 6) (fun _ _=>rfl)) gb)))))))) qc)))))))),?_⟩
 walk_at "RD";intro pd hpd;obtain ⟨⟨hnd,hdl⟩,dx,wl,nd,e1,_,_⟩:=id C;have s0:Ib H (upd H pd (.dK [])):=fb hpd;refine ⟨_,_,s0 _ _ e1,Uy _ _ _ (by decide +kernel),c,n,ds,rfl,C.same s0,fun pn hpn=>⟨pn,rfl,⟨_,SqL.of db⟩,?_⟩⟩;have hpp:pn ≠ pd:=fun e=>by subst e;rw [db] at hpn;cases hpn
 refine rh.list (xs:=Qb (ds.map (·.name))) (fun i σ H'=>(∃ y,σ=[some (V.ref c),some (V.int z),some (V.ref p),some (V.ref pd),y,none,none])∧Ib H H'∧NoT H'∧H' pn=some (.lst (Qb (ds.map (·.name))))∧NK H' pd ds (fun d=>.lst ((fk z sp d.name).map V.int)) i) ?_ ?_ ?_ ?_
 ·exact ⟨⟨_,rfl⟩,s0.trans (fb hpn),(nt0.upd).upd,db,[],rfl,by rw [wb (Ne.symm hpp),db];simp [nkv],fun i r d h=>by simp at h⟩
 ·rintro i σ H' hi zzq;refine zzP fun zzM zzh=>?_
  obtain ⟨_,_,_,h,_⟩:=zzq;subst zzh;exact SqL.of h
 ·rintro i v σ H' hv zzq;refine zzP fun zzM zzh=>?_
  obtain ⟨⟨y,rfl⟩,sm,nt,hpn',rs,hrl,hpd',hrs⟩:=zzq;obtain ⟨x,hx,rfl⟩:=lc hv;obtain ⟨d,hd,rfl⟩:=lc hx;subst zzh;walk_at "RD";refine ⟨z,p,d.name,sp,rfl,hz,L.same sm,hs,fun r1 H1 s1 n1 hr1 h1=>⟨r1,_,rfl,h1,by rw [zj];exact hz,fun r2 H2 s2 n2 hr2 h2=>?_⟩⟩;have s12:=s1.trans s2;have hp2:=s12 _ _ hpd';refine ⟨_,sE.k (k:=Sum.inr d.name) hp2 (Nat.lt_of_le_of_lt (show (nkv ds rs).length ≤ 12 by unfold nkv;rw [List.length_map,List.length_zip];omega) (by decide)),?_⟩;have hdi:ds[rs.length]? = some d:=by rw [hrl];exact hd
  rw [oA hnd hdi];have hne:∀ {b:Addr} {ys:List V},H2 b=some (.lst ys)→b ≠ pd:=fun e=>Hf e hp2 (by intro z;cases z)
  refine ⟨⟨_,rfl⟩,fun b u e=>?_,(n2 (n1 nt)).upd,?_,rs ++ [r2],by rw [List.length_append,hrl];rfl,db,fun j r e hj he=>?_⟩
  ·rw [wb (Ab e hpd)];exact s12 _ _ (sm _ _ e)
  ·rw [wb hpp];exact s12 _ _ hpn'
  ·rcases ig hj with ⟨_,z2⟩ | ⟨z1,rfl⟩
   ·have:=s12 _ _ (hrs j r e z2 he);rw [wb (hne this)];exact this
   ·rw [z1] at he;rw [hdi] at he;cases he;rw [wb (hne h2)];exact h2
 rintro σ H1 zzq;refine zzP fun zzM zzh=>?_
 obtain ⟨⟨y,rfl⟩,sm1,nt1,hpn1,N1⟩:=zzq;have hsl:(Qb (ds.map (·.name))).length=ds.length:=by unfold Qb;simp
 subst zzh;rw [hsl] at N1;obtain ⟨rs,hrl,hpd1,hrs⟩:=N1;have C1:=C.same sm1;walk_at "RD";refine ⟨_,_,sm1 _ _ e1,Uy _ _ _ (by decide +kernel),c,n,ds,rfl,C1,fun p2 hp2=>⟨p2,rfl,⟨_,SqL.of db⟩,?_⟩⟩;refine rh.list (xs:=Qb (ds.map (·.name))) (fun i σ H'=>(∃ y u v,σ=[some (V.ref c),some (V.int z),some (V.ref p),some (V.ref pd),y,u,v])∧Ib H1 H'∧NoT H'∧H' p2=some (.lst (Qb (ds.map (·.name))))) ?_ ?_ ?_ ?_
 ·exact ⟨⟨_,_,_,rfl⟩,fb hp2,nt1.upd,db⟩
 ·rintro i σ H' hi zzq;refine zzP fun zzM zzh=>?_
  obtain ⟨_,_,_,h⟩:=zzq;subst zzh;exact SqL.of h
 ·rintro i v σ H2 hv zzq;refine zzP fun zzM zzh=>?_
  obtain ⟨⟨y,u,v',rfl⟩,sm2,nt2,hpn2⟩:=zzq;obtain ⟨x,hx,rfl⟩:=lc hv;obtain ⟨d1,hd1,rfl⟩:=lc hx;obtain ⟨hi,hxi⟩:=List.getElem?_eq_some_iff.mp hd1;have hA:HF n z sp d1 ds=none:=List.findSome?_eq_none_iff.mp hN d1 (List.mem_of_getElem? hd1);have C2:=C1.same sm2;subst zzh;walk_at "RD";refine ⟨_,_,sm2 _ _ (sm1 _ _ e1),Uy _ _ _ (by decide +kernel),c,n,ds,rfl,C2,fun p3 hp3=>⟨p3,rfl,⟨_,SqL.of db⟩,?_⟩⟩;refine rh.list (xs:=Qb (ds.map (·.name))) (fun j σ H'=>(∃ y v,σ=[some (V.ref c),some (V.int z),some (V.ref p),some (V.ref pd),y,some (V.str d1.name),v])∧Ib H2 H'∧NoT H'∧H' p3=some (.lst (Qb (ds.map (·.name))))) ?_ ?_ ?_ ?_
  ·exact ⟨⟨_,_,rfl⟩,fb hp3,nt2.upd,db⟩
  ·rintro i σ H' hi zzq;refine zzP fun zzM zzh=>?_
   obtain ⟨_,_,_,h⟩:=zzq;subst zzh;exact SqL.of h
  ·rintro j v σ H3 hv zzq;refine zzP fun zzM zzh=>?_
   obtain ⟨⟨y,v',rfl⟩,sm3,nt3,hpn3⟩:=zzq;obtain ⟨x,hx,rfl⟩:=lc hv;obtain ⟨d2,hd2,rfl⟩:=lc hx;obtain ⟨hj,hxj⟩:=List.getElem?_eq_some_iff.mp hd2;have hB:(Tr n z sp d1 d2).map (fun i=>(d1,d2,i))=none:=List.findSome?_eq_none_iff.mp hA d2 (List.mem_of_getElem? hd2);have hB:Tr n z sp d1 d2=none:=by simpa using hB
   have C3:=C2.same sm3;have sm13:=sm2.trans sm3;subst zzh;walk_at "RD";refine ac (decide (d1.name ≠ d2.name) && mt n d1 d2) (fun Q hQ=>?_) (fun c1=>?_) (fun c1=>?_)
   ·walk_at "RD";by_cases c0:d1.name=d2.name
    ·rw [decide_eq_false (fun z=>z c0),Bool.false_and] at hQ;rw [if_neg (by simp [c0])];exact hQ
    ·rw [decide_eq_true c0,Bool.true_and] at hQ;rw [if_pos (by simp [c0])];exact ⟨c,n,ds,i,j,d1,d2,rfl,C3,hn,hd1,hd2,nt3,_,rfl,hQ⟩
   ·rw [Bool.and_eq_true] at c1;have c2:Tr n z sp d1 d2=(ju (pE d1 d2) (fk z sp d1.name) (fk z sp d2.name)).map (·.2):=by
     unfold Tr;rw [if_pos ⟨of_decide_eq_true c1.1,c1.2⟩]
    rw [c2] at hB;have hB:ju (pE d1 d2) (fk z sp d1.name) (fk z sp d2.name)=none:=by simpa using hB
    have hr1:rs[i]? = some rs[i]:=List.getElem?_eq_getElem (by omega);have hr2:rs[j]? = some rs[j]:=List.getElem?_eq_getElem (by omega);have g1:jw H3 pd (.str d1.name) (some (.ref rs[i])):=by rw [← dA hnd hd1 hr1];exact jw.k (k:=Sum.inr d1.name) (sm13 _ _ hpd1)
    have g2:jw H3 pd (.str d2.name) (some (.ref rs[j])):=by rw [← dA hnd hd2 hr2];exact jw.k (k:=Sum.inr d2.name) (sm13 _ _ hpd1)
    walk_at "RD";refine ⟨_,g1,_,g2,c,n,ds,d1,d2,_,_,_,_,rfl,C3,List.mem_of_getElem? hd1,List.mem_of_getElem? hd2,sm13 _ _ (hrs i _ _ hr1 hd1),sm13 _ _ (hrs j _ _ hr2 hd2),by rw [Ql,Ql],by rw [Ql];exact hz.2,hB,fun H4 s4 n4=>⟨(by first | exact ⟨_,_,rfl⟩ | exact ⟨_,rfl⟩ | simp),sm3.trans s4,n4 nt3,s4 _ _ hpn3⟩⟩
   ·exact ⟨⟨_,_,rfl⟩,sm3,nt3,hpn3⟩
  ·rintro σ H' zzq;refine zzP fun zzM zzh=>?_
   obtain ⟨⟨y,v',rfl⟩,sm3,nt3,_⟩:=zzq;subst zzh;exact ⟨⟨_,_,_,rfl⟩,sm2.trans sm3,nt3,sm3 _ _ hpn2⟩
 ·rintro σ H' zzq;refine zzP fun zzM zzh=>?_
  obtain ⟨_,sm,nt,_⟩:=zzq;subst zzh;exact q _ (sm1.trans sm) nt
end
end My
namespace My
open PySem L2
noncomputable abbrev EH:List Str:=[Str.ofString "crossing",Str.ofString "size",Str.ofString "spans",Str.ofString "lamps",Str.ofString "untils"]
noncomputable def plF (c:Addr) (z:Int) (p lm un:Addr):List (Str × V):=[(Str.ofString "crossing",.ref c),(Str.ofString "size",.int z),(Str.ofString "spans",.ref p),(Str.ofString "lamps",.ref lm),(Str.ofString "untils",.ref un)]
theorem Mq (c:Addr) (z:Int) (p lm un:Addr):(plF c z p lm un).map (·.1)=EH:=rfl
noncomputable def Vz (z:Nat) (sp:List SD) (d:WD):List Str:=Nj z (Jc d).toNat (Ke d).toNat (ofN d.name sp)
noncomputable def Xg (z:Nat) (sp:List SD) (x:Str):List Int:=Gm (fmF z (ofN x sp))
structure ko (t:Adr) (H:Hp) (a c:Addr) (n:Int) (ds:List WD) (z:Nat) (sp:List SD):Prop where
 at_:∃ dx p lm un,H a=some (.ins t.Je dx (plF c z p lm un))∧Qc t H c n ds∧LO H p (List.map sdO sp)∧NK H lm ds (fun d=>.lst (Qb (Vz z sp d))) ds.length∧NK H un ds (fun d=>.lst ((Xg z sp d.name).map V.int)) ds.length
def UK (t:Adr):Sp:=fun vs H Q _=>∃ (a dx c:Addr) (n:Int) (ds:List WD) (z:Nat) (p:Addr) (sp:List SD),vs=[.ref a,.ref c,.int z,.ref p]∧H a=some (.ins t.Je dx [])∧Qc t H c n ds∧DOk ds∧(0 < z∧z ≤ 1000)∧LO H p (List.map sdO sp)∧SN z sp∧NoT H ∧
 ∀ H',Kc a H H'→NoT H'→ko t H' a c n ds z sp→Q .non H'
def uB (t:Adr):Sp:=fun vs H Q _=>∃ (c:Addr) (n:Int) (ds:List WD) (z:Nat) (p:Addr) (sp:List SD),vs=[.ref c,.int z,.ref p]∧Qc t H c n ds∧0 < n∧DOk ds∧(0 < z∧z ≤ 1000)∧LO H p (List.map sdO sp)∧SN z sp∧(∀ s ∈ sp,∃ d,wOf ds s.name=some d)∧NoT H∧Ox ds sp=none∧lx ds z sp=none∧Ny n z sp ds=none ∧
 ∀ a H',Ib H H'→NoT H'→ko t H' a c n ds z sp→Q (.ref a) H'
section
variable {w:World} {K:PySem.W.Frag} {mg:Str→Option Value} {t:Adr} {H:Hp} {a c dx p lm un:Addr} {z:Int}
theorem xC (T:Txt w K mg t) (e:H a=some (.ins t.Je dx (plF c z p lm un))):yi K H a (Str.ofString "lamps") (.ref lm):=⟨_,dx,_,e,T.Aj,T.Pn,yd EH 3 (Mq ..) (by decide +kernel) rfl⟩
theorem Hs (T:Txt w K mg t) (e:H a=some (.ins t.Je dx (plF c z p lm un))):yi K H a (Str.ofString "untils") (.ref un):=⟨_,dx,_,e,T.Aj,T.Jm,yd EH 4 (Mq ..) (by decide +kernel) rfl⟩
end
theorem mI {H:Hp} {a b C C' dx dx':Addr} {fs:List (Str × V)} (ha:H a=some (.ins C dx [])) (hb:H b=some (.ins C' dx' fs)) (hf:fs ≠ []):b ≠ a:=fun z=>by
 subst z;rw [hb] at ha;have e:=Option.some.inj ha;injection e with _ _ e3;exact hf e3
theorem Qc.sameX {t:Adr} {H H':Hp} {a c C dx:Addr} {n:Int} {ds:List WD} (h:Qc t H c n ds) (s:Kc a H H') (ha:H a=some (.ins C dx [])):Qc t H' c n ds:=by
 obtain ⟨h0,dx',wl,nd,e1,⟨as,w1,w2,al⟩,e3⟩:=h;refine ⟨h0,dx',wl,nd,s _ _ (mI ha e1 (by unfold cF;simp)) e1,⟨as,s _ _ (Hf w1 ha (by intro z;cases z)) w1,w2,fun i b d hb hd=>?_⟩,s _ _ (Hf e3 ha (by intro z;cases z)) e3⟩;obtain ⟨k,dxb,eb⟩:=al i b d hb hd;exact ⟨k,dxb,s _ _ (mI ha eb (by unfold Qo;simp)) eb⟩
theorem LO.sameX {H H':Hp} {a p C dx:Addr} {sp:List SD} (h:LO H p (List.map sdO sp)) (s:Kc a H H') (ha:H a=some (.ins C dx [])):LO H' p (List.map sdO sp):=by
 obtain ⟨qs,l1,l2⟩:=h;refine ⟨qs,s _ _ (Hf l1 ha (by intro z;cases z)) l1,l2.1,fun i q o hq ho=>?_⟩;have e:=l2.2 i q o hq ho;refine s _ _ (Hf e ha ?_) e;obtain ⟨d,_,rfl⟩:=lc ho;intro z;cases z
section
variable {P:Program} {w:World} {K:PySem.W.Frag} {mg:Str→Option Value} {base:Heap} {t:Adr}
theorem bP (T:Txt w K mg t):Gb P w K mg base CX0 4 t.Bh t.Cj q51 (UK t):=by
 have g50:Gb P w K mg base CX0 3 t.DC t.OB q40 (UG t):=(GM T).mono (by decide);have g19:Gb P w K mg base CX0 3 t.rf t.qf ["marks"] nw:=(uC T).mono (by decide);have g21:Gb P w K mg base CX0 3 t.Jg t.Hg q27 pM:=(IP T).mono (by decide);have g12:Gb P w K mg base CX0 3 t.Tc t.Gd ["self"] (Iq t):=(Gv T).mono (by decide);have g8:Gb P w K mg base CX0 3 t.Nb t.Ub q5 (Uf t):=(Gg T).mono (by decide);refine T.Ir.ok nk (fun vs H Q E h=>?_) (fun _ _ _ s H vs Q E hr h=>?_)
 ·obtain ⟨a,dx,c,n,ds,z,p,sp,rfl,_⟩:=h;rfl
 obtain ⟨a,dx,c,n,ds,z,p,sp,rfl,ha,C,hD,hz,L,hs,nt0,q⟩:=h;have hu:=rj hr;refine ⟨_,(cb (mf (pv 0) (pv 1) rfl)
   (cb (mf (pv 0) (pv 2) rfl)
   (cb (mf (pv 0) (pv 3) rfl)
   (cb (mf (pv 0) Fq rfl)
   (cb (mf (pv 0) Fq rfl)
   (ib (ad PassesOwn.never rfl (ld (vf (pv 1) T.Mb T.ue g12 hr T.Be .nil Rc)) (lb (i:=4) nk.nd) (cb (lw hu (Ob (pv 0) rfl) (pv 4) (ub g50 hr T.gP T.HG.kp T.uO (ab (Ed (pv 1) T.Mb T.jc g8 hr T.kc .nil Rc (ab (pv 4) gb)) (ab (pv 2) (ab (pv 3) gb)))) rfl)
   (ib (lw hu (Ob (pv 0) rfl) (pv 4) (ub g19 hr T.Lm T.Dg.kp T.rm (ab (ub g21 hr T.Xp T.Wh.kp T.Jp (ab (pv 2) (ab (pv 3) (ab (pv 4) gb)))) gb)) rfl)))))))))),?_⟩
 walk_at "RD";refine ⟨_,_,_,ha,T.Aj,T.Tj,by decide,?_⟩;refine ⟨_,_,_,db,T.Aj,T.Rp,Co (n:=999) (by decide),?_⟩;refine ⟨_,_,_,db,T.Aj,T.Gw,Co (n:=999) (Co (n:=998) (by decide)),fun lm hlm=>?_⟩;simp only [Dl] at hlm ⊢;rw [show Rh (Str.ofString "crossing") (V.ref c) ([]:List (Str × V))=[(Str.ofString "crossing",V.ref c)] from rfl,show Rh (Str.ofString "size") (V.int z) [(Str.ofString "crossing",V.ref c)]=[(Str.ofString "crossing",V.ref c),(Str.ofString "size",V.int z)] from kd [Str.ofString "crossing"] rfl (by decide +kernel),show Rh (Str.ofString "spans") (V.ref p) [(Str.ofString "crossing",V.ref c),(Str.ofString "size",V.int z)]=[(Str.ofString "crossing",V.ref c),(Str.ofString "size",V.int z),(Str.ofString "spans",V.ref p)] from kd [Str.ofString "crossing",Str.ofString "size"] rfl (by decide +kernel)] at hlm ⊢;have hla:a ≠ lm:=fun z=>by subst z;rw [db] at hlm;cases hlm
 have hHl:H lm=none:=by rw [wb (Ne.symm hla)] at hlm;exact hlm
 refine ⟨t.Je,dx,[(Str.ofString "crossing",V.ref c),(Str.ofString "size",V.int z),(Str.ofString "spans",V.ref p)],by rw [wb hla];exact db,T.Aj,T.Pn,show (3:Nat) < 1000 by decide,fun un hun=>?_⟩;rw [show Rh (Str.ofString "lamps") (V.ref lm) [(Str.ofString "crossing",V.ref c),(Str.ofString "size",V.int z),(Str.ofString "spans",V.ref p)]=[(Str.ofString "crossing",V.ref c),(Str.ofString "size",V.int z),(Str.ofString "spans",V.ref p),(Str.ofString "lamps",V.ref lm)] from kd [Str.ofString "crossing",Str.ofString "size",Str.ofString "spans"] rfl (by decide +kernel)] at hun ⊢;have hua:a ≠ un:=fun z=>by subst z;rw [db] at hun;cases hun
 have hul:un ≠ lm:=fun z=>by subst z;rw [wb (Ne.symm hua),db] at hun;cases hun
 have hHu:H un=none:=by rw [wb (Ne.symm hua),wb hul,wb (Ne.symm hua)] at hun;exact hun
 refine ⟨t.Je,dx,[(Str.ofString "crossing",V.ref c),(Str.ofString "size",V.int z),(Str.ofString "spans",V.ref p),(Str.ofString "lamps",V.ref lm)],by rw [wb hua];exact db,T.Aj,T.Jm,show (4:Nat) < 1000 by decide,?_⟩;rw [show Rh (Str.ofString "untils") (V.ref un) [(Str.ofString "crossing",V.ref c),(Str.ofString "size",V.int z),(Str.ofString "spans",V.ref p),(Str.ofString "lamps",V.ref lm)]=plF c z p lm un from kd [Str.ofString "crossing",Str.ofString "size",Str.ofString "spans",Str.ofString "lamps"] rfl (by decide +kernel)];have hf:∃ H5:Hp,H5=upd (upd (upd (upd (upd H a (.ins t.Je dx [(Str.ofString "crossing",V.ref c),(Str.ofString "size",V.int z),(Str.ofString "spans",V.ref p)])) lm (.dK [])) a (.ins t.Je dx [(Str.ofString "crossing",V.ref c),(Str.ofString "size",V.int z),(Str.ofString "spans",V.ref p),(Str.ofString "lamps",V.ref lm)])) un (.dK [])) a (.ins t.Je dx (plF c z p lm un)):=⟨_,rfl⟩;obtain ⟨H5,h5⟩:=hf;rw [← h5];have g1:H5 a=some (.ins t.Je dx (plF c z p lm un)):=by rw [h5,db]
 have g2:H5 lm=some (.dK []):=by rw [h5,wb (Ne.symm hla),wb (Ne.symm hul),wb (Ne.symm hla),db]
 have g3:H5 un=some (.dK []):=by rw [h5,wb (Ne.symm hua),db]
 have g4:Kc a H H5:=fun b u hb e=>by rw [h5,wb hb,wb (Ab e hHu),wb hb,wb (Ab e hHl),wb hb];exact e
 have g5:NoT H5:=by rw [h5];exact ((((nt0.upd).upd).upd).upd).upd
 clear h5;have C5:=C.sameX g4 ha;obtain ⟨⟨hnd,hdl⟩,dxc,wl,nd,e1,_,_⟩:=id C5;refine ⟨_,_,e1,Uy _ _ _ (by decide +kernel),c,n,ds,rfl,C5,fun pn hpn=>⟨pn,rfl,⟨_,SqL.of db⟩,?_⟩⟩;refine rh.list (xs:=Qb (ds.map (·.name))) (fun i σ H'=>(∃ y,σ=[some (V.ref a),some (V.ref c),some (V.int z),some (V.ref p),y])∧Kc a H H'∧NoT H'∧H' a=some (.ins t.Je dx (plF c z p lm un))∧H' pn=some (.lst (Qb (ds.map (·.name))))∧NK H' lm ds (fun d=>.lst (Qb (Vz z sp d))) i∧NK H' un ds (fun d=>.lst ((Xg z sp d.name).map V.int)) i) ?_ ?_ ?_ ?_
 ·have sn:=fb (o:=.lst (Qb (ds.map (·.name)))) hpn;exact ⟨⟨_,rfl⟩,g4.trans (Kc.of sn),g5.upd,sn _ _ g1,db,⟨[],rfl,by rw [sn _ _ g2];simp [nkv],fun i r d h=>by simp at h⟩,⟨[],rfl,by rw [sn _ _ g3];simp [nkv],fun i r d h=>by simp at h⟩⟩
 ·rintro i σ H' hi zzq;refine zzP fun zzM zzh=>?_
  obtain ⟨_,_,_,_,h,_⟩:=zzq;subst zzh;exact SqL.of h
 ·rintro i v σ H' hv zzq;refine zzP fun zzM zzh=>?_
  obtain ⟨⟨y,rfl⟩,sx,nt,ha',hpn',⟨rl,hrl,hlm',hrs⟩,⟨ru,hru,hun',hus⟩⟩:=zzq;obtain ⟨x,hx,rfl⟩:=lc hv;obtain ⟨d,hd,rfl⟩:=lc hx;have C':=C.sameX sx ha;have L':=L.sameX sx ha;obtain ⟨_,dxc',wl',nd',e1',_,_⟩:=id C';subst zzh;walk_at "RD";refine ⟨_,_,e1',Uy _ _ _ (by decide +kernel),c,n,ds,i,d,rfl,C',hd,fun wa W=>?_⟩;have hdi:ds[rl.length]? = some d:=by rw [hrl];exact hd
  have hdj:ds[ru.length]? = some d:=by rw [hru];exact hd
  refine ⟨wa,d,z,p,sp,rfl,hz,W,L',hs,hD d (List.mem_of_getElem? hd),fun r1 H1 s1 n1 hr1 h1=>⟨_,xC T (s1 _ _ ha'),lm,rfl,_,sE.k (k:=Sum.inr d.name) (s1 _ _ hlm') (Nat.lt_of_le_of_lt (show (nkv ds rl).length ≤ 12 by unfold nkv;rw [List.length_map,List.length_zip];omega) (by decide)),?_⟩⟩;rw [oA hnd hdi];have kl:∀ {b:Addr} {u:HO},H' b=some u→b ≠ lm→upd H1 lm (.dK (nkv ds (rl ++ [r1]))) b=some u:=fun e h=>by rw [wb h];exact s1 _ _ e
  have k1:Kc a H (upd H1 lm (.dK (nkv ds (rl ++ [r1])))):=fun b u hb e=>kl (sx b u hb e) (Ab e hHl)
  refine ⟨z,p,d.name,sp,rfl,hz,L.sameX k1 ha,hs,fun r3 H3 s3 n3 hr3 h3=>⟨r3,_,rfl,h3,by rw [zj];exact hz,fun r4 H4 s4 n4 hr4 h4=>?_⟩⟩;have s34:=s3.trans s4;have un2:H4 un=some (.dK (nkv ds ru)):=s34 _ _ (kl hun' hul);have a2:H4 a=some (.ins t.Je dx (plF c z p lm un)):=s34 _ _ (kl ha' hla);refine ⟨_,Hs T a2,un,rfl,_,sE.k (k:=Sum.inr d.name) un2 (Nat.lt_of_le_of_lt (show (nkv ds ru).length ≤ 12 by unfold nkv;rw [List.length_map,List.length_zip];omega) (by decide)),?_⟩;rw [oA hnd hdj];have ku:∀ {b:Addr} {u:HO},upd H1 lm (.dK (nkv ds (rl ++ [r1]))) b=some u→b ≠ un→upd H4 un (.dK (nkv ds (ru ++ [r4]))) b=some u:=fun e h=>by rw [wb h];exact s34 _ _ e
  have nel:∀ {b:Addr} {ys:List V},H' b=some (.lst ys)→b ≠ lm:=fun e=>Hf e hlm' (by intro z;cases z)
  have neu:∀ {b:Addr} {ys:List V},H' b=some (.lst ys)→b ≠ un:=fun e=>Hf e hun' (by intro z;cases z)
  have r1l:r1 ≠ lm:=Hf h1 (s1 _ _ hlm') (by intro z;cases z);have r1u:r1 ≠ un:=Hf h1 (s1 _ _ hun') (by intro z;cases z);have r4u:r4 ≠ un:=Hf h4 un2 (by intro z;cases z);refine ⟨⟨_,rfl⟩,fun b u hb e=>ku (k1 b u hb e) (Ab e hHu),(n4 (n3 (n1 nt).upd)).upd,ku (kl ha' hla) hua,ku (kl hpn' (nel hpn')) (neu hpn'),⟨rl ++ [r1],by rw [List.length_append,hrl];rfl,ku db (Ne.symm hul),fun j r e hj he=>?_⟩,⟨ru ++ [r4],by rw [List.length_append,hru];rfl,db,fun j r e hj he=>?_⟩⟩
  ·rcases ig hj with ⟨_,z2⟩ | ⟨z1,rfl⟩
   ·have:=hrs j r e z2 he;exact ku (kl this (nel this)) (neu this)
   ·rw [z1,hdi] at he;cases he;exact ku (by rw [wb r1l];exact h1) r1u
  ·rcases ig hj with ⟨_,z2⟩ | ⟨z1,rfl⟩
   ·have:=hus j r e z2 he;exact ku (kl this (nel this)) (neu this)
   ·rw [z1,hdj] at he;cases he;rw [wb r4u];exact h4
 ·rintro σ H' zzq;refine zzP fun zzM zzh=>?_
  obtain ⟨_,sx,nt,ha',_,N1,N2⟩:=zzq;have hsl:(Qb (ds.map (·.name))).length=ds.length:=by unfold Qb;simp
  subst zzh;rw [hsl] at N1 N2;exact q _ sx nt ⟨dx,p,lm,un,ha',C.sameX sx ha,L.sameX sx ha,N1,N2⟩
theorem PJ (T:Txt w K mg t):Gb P w K mg base CX0 6 t.Bj t.vj q44 (uB t):=by
 have g8:Gb P w K mg base CX0 5 t.Nb t.Ub q5 (Uf t):=(Gg T).mono (by decide);have g51:Gb P w K mg base CX0 4 t.Bh t.Cj q51 (UK t):=bP T;have g52:Gb P w K mg base CX0 5 t.og t.Bg q41 (Dx t):=(EI T).mono (by decide);have g53:Gb P w K mg base CX0 5 t.Fg t.lg q13 (Jy t):=(tI T).mono (by decide);have g54:Gb P w K mg base CX0 5 t.rg t.ug q13 (vy t):=xE T;refine T.rn.ok Kg (fun vs H Q E h=>?_) (fun _ _ _ s H vs Q E hr h=>?_)
 ·obtain ⟨c,n,ds,z,p,sp,rfl,_⟩:=h;rfl
 obtain ⟨c,n,ds,z,p,sp,rfl,C,hn,hD,hz,L,hs,hw,nt0,hN,hS,hC,q1⟩:=h;refine ⟨_,(cb (Ee (i:=3) Kg.nd rfl (Or.inl rfl) rfl (ld (pv 2)) (ic (sc:=jb Xm) rfl (by decide +kernel)) (N:=q53) (sel:=[none,none,none]) (uc (M:=["crossing","size","rows","spans","name","begin","turns"]) (by decide +kernel)) (Blk.of (fun _ _ _ _=>(Wc (K:=K) (n:=3) rfl rfl (Bb (lb (i:=0) (Ue (N:=q53) (by decide +kernel) rfl)) (Bb (lb (i:=1) (Ue (N:=q53) (by decide +kernel) rfl)) (Bb (lb (i:=2) (Ue (N:=q53) (by decide +kernel) rfl)) Uc))))) (fun _ _ _ _=>⟨_,pe,by walk_at "B"⟩) (fun _ _ _ _=>⟨_,(Ad (ab (pv 0) (ab (pv 1) (ab (pv 2) gb)))),by walk_at "B"⟩)) rfl)
   (cb (ad PassesOwn.never rfl (ld (pv 3)) (Wc (K:=K) (n:=3) rfl rfl (Bb (lb (i:=4) Kg.nd) (Bb (lb (i:=5) Kg.nd) (Bb (lb (i:=6) Kg.nd) Uc)))) (ib (gd (Ed (pv 0) T.Mb T.jc g8 hr T.kc .nil Rc (ab (pv 4) gb)))))
   (cb (gd (ub g52 hr T.Ot T.Ei.kp T.ot (ab (pv 0) (ab (pv 3) gb))))
   (cb (gd (ub g53 hr T.tt T.Gi.kp T.Ct (ab (pv 0) (ab (pv 1) (ab (pv 3) gb)))))
   (cb (gd (ub g54 hr T.Bt T.Ii.kp T.Ut (ab (pv 0) (ab (pv 1) (ab (pv 3) gb)))))
   (ib (Cb (Ym T.xP g51 hr rfl T.oP T.Fz .nil Rc (ab (pv 0) (ab (pv 1) (ab (pv 3) gb))))))))))),?_⟩
 walk_at "RD";obtain ⟨qs,l1,lq⟩:=L;have hql:qs.length=sp.length:=by rw [lq.1,List.length_map]
 have hs1:=hs.1;refine ⟨⟨_,SqL.of l1⟩,?_⟩;refine Fc.list (xs:=qs.map V.ref) (fun i ys H'=>∃ os:List Addr,ys=os.map V.ref∧LQ H' os ((sp.take i).map sdO)∧Ib H H'∧NoT H') (Nat.le_trans (show (qs.map V.ref).length ≤ 100 by rw [List.length_map];omega) (by decide)) ⟨[],rfl,by rw [List.take_zero];exact LQ.nil _,Ib.refl _,nt0⟩ ?_ ?_ ?_
 ·rintro i ys H' hi zzq;refine zzP fun zzM zzh=>?_
  obtain ⟨os,rfl,r,sm,_⟩:=zzq;subst zzh;refine ⟨(SqL.of l1).same sm,?_⟩;rw [List.length_map,r.1,List.length_map,List.length_take];omega
 ·rintro i v ys H' hv ⟨os,rfl,r,sm,nt⟩ N hN;obtain ⟨qi,hqi,rfl⟩:=lc hv;obtain ⟨o,ho,e⟩:=lq.at hqi;obtain ⟨d,hd,rfl⟩:=lc ho;have e':=sm _ _ e;dsimp only at hN;rw [dl hd,List.map_append] at hN;walk_at "RD";refine ⟨_,SqT.of e',rfl,_,_,rfl,_,_,rfl,_,_,rfl,rfl,Sub.name3,by decide,fun p1 hp1=>?_⟩;exact hN _ _ ⟨os ++ [p1],by rw [List.map_append];rfl,(r.same (fb hp1)).app (LQ.one db),sm.trans (fb hp1),nt.upd⟩
 rintro ys H1 ⟨os,rfl,r,sm1,nt1⟩ p1 hp1;rw [List.take_of_length_le (by rw [List.length_map];omega)] at r;have s2:Ib H1 (upd H1 p1 (.lst (os.map V.ref))):=fb hp1;have nt2:NoT (upd H1 p1 (.lst (os.map V.ref))):=nt1.upd;have L2:LO (upd H1 p1 (.lst (os.map V.ref))) p1 (List.map sdO sp):=⟨os,db,r.same s2⟩;have sm2:=sm1.trans s2;generalize upd H1 p1 (.lst (os.map V.ref))=H2 at s2 nt2 L2 sm2 ⊢;have C2:=C.same sm2;obtain ⟨_,dxc,wl,nd,e1,_,_⟩:=id C2;obtain ⟨qs2,m1,mq⟩:=id L2;have hql2:qs2.length=sp.length:=by rw [mq.1,List.length_map]
 walk_at "RD";refine ⟨⟨_,SqL.of m1⟩,?_⟩;refine rh.list (xs:=qs2.map V.ref) (fun i σ H'=>(∃ x y z',σ=[some (V.ref c),some (V.int z),some (V.ref p),some (V.ref p1),x,y,z'])∧H'=H2) ?_ ?_ ?_ ?_
 ·exact ⟨⟨_,_,_,rfl⟩,rfl⟩
 ·rintro i σ H' hi ⟨_,rfl⟩;exact SqL.of m1
 ·rintro i v σ H' hv zzq;refine zzP fun zzM zzh=>?_
  obtain ⟨⟨x,y,z',rfl⟩,rfl⟩:=zzq;obtain ⟨qi,hqi,rfl⟩:=lc hv;obtain ⟨o,ho,e⟩:=mq.at hqi;obtain ⟨sd,hsd,rfl⟩:=lc ho;obtain ⟨d,hd⟩:=hw sd (List.mem_of_getElem? hsd);obtain ⟨hdn,j,hj⟩:=cG hd;subst zzh;walk_at "RD";exact ⟨_,SqT.of e,rfl,_,_,rfl,_,_,rfl,_,_,rfl,rfl,_,_,e1,Uy _ _ _ (by decide +kernel),c,n,ds,j,d,by rw [hdn],C2,hj,fun a W=>⟨(by first | exact ⟨_,_,_,rfl⟩ | exact ⟨_,_,rfl⟩ | exact ⟨_,rfl⟩ | simp),rfl⟩⟩
 rintro σ H' zzq;refine zzP fun zzM zzh=>?_
 obtain ⟨⟨x,y,z',rfl⟩,rfl⟩:=zzq;subst zzh;walk_at "RD";refine ⟨c,n,ds,p1,sp,rfl,C2,L2,hs1,hN,fun H3 s3 n3=>?_⟩;have nt3:=n3 nt2;have C3:=C2.same s3;have L3:=L2.same s3;walk_at "RD";refine ⟨c,n,ds,z,p1,sp,rfl,C3,hD,⟨by omega,by omega⟩,L3,hs,hw,hS,fun H4 s4 n4=>?_⟩;have nt4:=n4 nt3;have C4:=C3.same s4;have L4:=L3.same s4;walk_at "RD";refine ⟨c,n,ds,z,p1,sp,rfl,C4,hn,hz,L4,hs,nt4,hC,fun H5 s5 nt5=>?_⟩;have C5:=C4.same s5;have L5:=L4.same s5;walk_at "RD";intro a dx ha hdx hne;have sc:Ib H5 (upd (upd H5 dx (.own a)) a (.ins t.Je dx [])):=((Ib.refl H5).updN hdx).updN ha;refine ⟨a,dx,c,n,ds,z,p1,sp,rfl,db,C5.same sc,hD,hz,L5.same sc,hs,(nt5.upd).upd,fun H6 s6 nt6 PA=>⟨rfl,?_⟩⟩;have sm5:=((sm2.trans s3).trans s4).trans s5;exact q1 a H6 (Ff (sm5.trans sc) s6 (sm5.free ha)) nt6 PA
end
end My
namespace My
open PySem L2
theorem yn {α:Type} (z:Nat) (v:α) (b:Int) (hz:0 < z) (l:List α) (hl:l.length=z):∀ (k:Nat) (i:Nat),i < z→(kz z v b k l)[i]? = if ∃ j,j < k∧(b + (j:Int)) % (z:Int)=(i:Int) then some v else l[i]?
 | 0,i,hi=>by rw [if_neg (fun ⟨j,hj,_⟩=>by omega)];rfl
 | k + 1,i,hi=>by
  have ih:=yn z v b hz l hl k i hi;have h0:=Int.emod_nonneg (b + (k:Int)) (show (z:Int) ≠ 0 by omega);have h1:=Int.emod_lt_of_pos (b + (k:Int)) (show 0 < (z:Int) by omega);unfold kz pL;by_cases c:(b + (k:Int)) % (z:Int)=(i:Int)
  ·rw [show ((b + (k:Int)) % (z:Int)).toNat=i by omega,List.getElem?_set_self (by rw [Cg,hl];exact hi),if_pos ⟨k,by omega,c⟩]
  ·rw [List.getElem?_set_ne (by omega),ih];by_cases e:∃ j,j < k∧(b + (j:Int)) % (z:Int)=(i:Int)
   ·obtain ⟨j,hj,ej⟩:=e;rw [if_pos ⟨j,hj,ej⟩,if_pos ⟨j,by omega,ej⟩]
   ·rw [if_neg e,if_neg];rintro ⟨j,hj,ej⟩;by_cases hjk:j=k
    ·subst hjk;exact c ej
    ·exact e ⟨j,by omega,ej⟩
theorem Qq {z b i:Int} {n:Int} (hz:0 < z) (hi:0 ≤ i∧i < z) (hn:0 ≤ n∧n ≤ z):(∃ j:Nat,j < n.toNat∧(b + (j:Int)) % z=i)↔(i - b) % z < n:=by
 have h0:=Int.emod_nonneg (i - b) (show z ≠ 0 by omega);have h1:=Int.emod_lt_of_pos (i - b) hz;constructor
 ·rintro ⟨j,hj,e⟩;have:(i - b) % z=j:=by
   rw [← e,Int.emod_sub_emod,show b + (j:Int) - b=j by omega];exact Int.emod_eq_of_lt (by omega) (by omega)
  omega
 ·intro h;refine ⟨((i - b) % z).toNat,by omega,?_⟩;rw [Int.toNat_of_nonneg h0,Int.add_emod_emod,show b + (i - b)=i by omega];exact Int.emod_eq_of_lt hi.1 hi.2
theorem CL {z:Nat} (hz:0 < z) {b n:Int} (hn:0 ≤ n∧n ≤ z) {i:Nat} (hi:i < z):(fmF z [(b,n)])[i]? = some (decide (((i:Int) - b) % (z:Int) < n)):=by
 unfold fmF;rw [List.foldl_cons,List.foldl_nil,yn z true b hz _ (List.length_replicate ..) _ _ hi];have:=Qq (z:=z) (b:=b) (i:=i) (n:=n) (by omega) ⟨by omega,by omega⟩ hn;by_cases c:((i:Int) - b) % (z:Int) < n
 ·rw [if_pos (this.mpr c),decide_eq_true c]
 ·rw [if_neg (fun e=>c (this.mp e)),decide_eq_false c,List.getElem?_replicate,if_pos hi]
theorem mh (m:List Bool):∀ k,0 ≤ Gf m k
 | 0=>by show (0:Int) ≤ 0;decide
 | k + 1=>by
  have:=mh m k;unfold Gf;split <;> omega
theorem Ux (m:List Bool) (g:Int) (hg:0 ≤ g):∀ k:Nat,Gf m k ≤ g↔(∃ j:Nat,(j:Int) ≤ g∧j < k∧m[(2 * m.length - 1 - (k - 1 - j)) % m.length]? = some true)∨(k:Int) ≤ g
 | 0=>by
  constructor
  ·intro _;exact .inr (by omega)
  ·intro _;exact hg
 | k + 1=>by
  by_cases c:m[(2 * m.length - 1 - k) % m.length]? = some true
  ·have e:Gf m (k + 1)=0:=by unfold Gf;rw [if_pos c]
   rw [e];exact ⟨fun _=>.inl ⟨0,by omega,by omega,by rw [show k + 1 - 1 - 0=k by omega];exact c⟩,fun _=>hg⟩
  ·have e:Gf m (k + 1)=Gf m k + 1:=by
    show (if m[(2 * m.length - 1 - k) % m.length]? = some true then 0 else Gf m k + 1)=_;rw [if_neg c]
   rw [e];by_cases hg1:1 ≤ g
   ·have ih:=Ux m (g - 1) (by omega) k;constructor
    ·intro h;rcases ih.mp (by omega) with ⟨j,h1,h2,h3⟩ | h
     ·exact .inl ⟨j + 1,by omega,by omega,by rw [show k + 1 - 1 - (j + 1)=k - 1 - j by omega];exact h3⟩
     ·exact .inr (by omega)
    ·rintro (⟨j,h1,h2,h3⟩ | h)
     ·by_cases hj:j=0
      ·subst hj;rw [show k + 1 - 1 - 0=k by omega] at h3;exact absurd h3 c
      ·have:=ih.mpr (.inl ⟨j - 1,by omega,by omega,by rw [show k - 1 - (j - 1)=k + 1 - 1 - j by omega];exact h3⟩);omega
     ·have:=ih.mpr (.inr (by omega));omega
   ·have:=mh m k;constructor
    ·intro h;omega
    ·rintro (⟨j,h1,h2,h3⟩ | h)
     ·have hj:j=0:=by omega
      subst hj;rw [show k + 1 - 1 - 0=k by omega] at h3;exact absurd h3 c
     ·omega
theorem rC {m:List Bool} {t:Nat} (ht:t < m.length):(Gm m)[t]? = some (Gf m (2 * m.length - t)):=by
 unfold Gm;rw [List.getElem?_map,List.getElem?_range ht];rfl
theorem wA {m:List Bool} (hm:∃ i,i < m.length∧m[i]? = some true) {t:Nat} (ht:t < m.length) (g:Int) (hg:0 ≤ g):Gf m (2 * m.length - t) ≤ g↔∃ j:Nat,(j:Int) ≤ g∧m[(t + j) % m.length]? = some true:=by
 have pos:∀ j,j < 2 * m.length - t→(2 * m.length - 1 - (2 * m.length - t - 1 - j))=t + j:=fun j hj=>by omega
 rw [Ux m g hg];constructor
 ·rintro (⟨j,h1,h2,h3⟩ | h)
  ·rw [pos j h2] at h3;exact ⟨j,h1,h3⟩
  ·obtain ⟨i,hi,e⟩:=hm;refine ⟨(i + m.length - t) % m.length,?_,?_⟩
   ·have:=Nat.mod_lt (i + m.length - t) (show 0 < m.length by omega);omega
   ·rw [Nat.add_mod_mod,show t + (i + m.length - t)=i + m.length by omega,Nat.add_mod_right,Nat.mod_eq_of_lt hi];exact e
 ·rintro ⟨j,h1,h2⟩;have hj:=Nat.mod_lt j (show 0 < m.length by omega);have hle:=Nat.mod_le j m.length;refine .inl ⟨j % m.length,by omega,by omega,?_⟩;rw [pos _ (by omega),Nat.add_mod_mod];exact h2
theorem OM {m:List Bool} (hm:∃ i,i < m.length∧m[i]? = some true):∃ i,i < m.reverse.length∧m.reverse[i]? = some true:=by
 obtain ⟨i,hi,e⟩:=hm;refine ⟨m.length - 1 - i,by rw [List.length_reverse];omega,?_⟩;rw [List.getElem?_reverse (by omega),show m.length - 1 - (m.length - 1 - i)=i by omega];exact e
theorem fJ {m:List Bool} {t:Nat} (ht:t < m.length):∃ v,(Su m)[t]? = some v∧0 ≤ v∧((∃ i,i < m.length∧m[i]? = some true)→∀ g:Int,0 ≤ g→(v ≤ g↔∃ j:Nat,(j:Int) ≤ g∧m[(((t:Int) - (j:Int)) % (m.length:Int)).toNat]? = some true)):=by
 have hr:m.reverse.length=m.length:=List.length_reverse;have h1:m.length - 1 - t < m.reverse.length:=by omega
 refine ⟨Gf m.reverse (2 * m.reverse.length - (m.length - 1 - t)),?_,mh _ _,fun hm g hg=>?_⟩
 ·unfold Su;rw [List.getElem?_reverse (by rw [cj];omega),cj,hr];have:=rC h1;rw [hr] at this;exact this
 ·rw [wA (OM hm) h1 g hg];have key:∀ j:Nat,m.reverse[(m.length - 1 - t + j) % m.reverse.length]? = m[(((t:Int) - (j:Int)) % (m.length:Int)).toNat]?:=fun j=>by
   rw [hr];have hlt:=Nat.mod_lt (m.length - 1 - t + j) (show 0 < m.length by omega);rw [List.getElem?_reverse (by omega)];congr 1;have h0:=Int.emod_nonneg ((t:Int) - (j:Int)) (show (m.length:Int) ≠ 0 by omega);have e:((t:Int) - (j:Int)) % (m.length:Int)=((m.length - 1 - (m.length - 1 - t + j) % m.length:Nat):Int):=by
    have d:=Nat.div_add_mod (m.length - 1 - t + j) m.length;generalize (m.length - 1 - t + j) / m.length=q at d;generalize (m.length - 1 - t + j) % m.length=r at d hlt ⊢;have e2:(t:Int) - (j:Int)=((m.length - 1 - r:Nat):Int) + (m.length:Int) * (-(q:Int)):=by
     have d':(m.length:Int) * (q:Int) + (r:Int)=((m.length - 1 - t + j:Nat):Int):=by rw [← d];push_cast;rfl
     rw [Int.mul_neg];omega
    rw [e2,Int.add_mul_emod_self_left];exact Int.emod_eq_of_lt (by omega) (by omega)
   omega
  constructor
  ·rintro ⟨j,h2,h3⟩;exact ⟨j,h2,by rw [← key j];exact h3⟩
  ·rintro ⟨j,h2,h3⟩;exact ⟨j,h2,by rw [key j];exact h3⟩
theorem Wx {z:Nat} (hz:0 < z) {b n:Int} (hn:1 ≤ n∧n ≤ z) {t:Nat} (ht:t < z):∃ v,(Su (fmF z [(b,n)]))[t]? = some v∧0 ≤ v∧∀ g:Int,0 ≤ g→(v ≤ g↔∃ j:Nat,(j:Int) ≤ g∧((t:Int) - (j:Int) - b) % (z:Int) < n):=by
 have hl:(fmF z [(b,n)]).length=z:=zj _ _;obtain ⟨v,h1,h2,h3⟩:=fJ (m:=fmF z [(b,n)]) (t:=t) (by rw [hl];exact ht);refine ⟨v,h1,h2,fun g hg=>?_⟩;have hb0:=Int.emod_nonneg b (show (z:Int) ≠ 0 by omega);have hb1:=Int.emod_lt_of_pos b (show 0 < (z:Int) by omega);have hm:∃ i,i < (fmF z [(b,n)]).length∧(fmF z [(b,n)])[i]? = some true:=by
  refine ⟨(b % (z:Int)).toNat,by rw [hl];omega,?_⟩;rw [CL hz ⟨by omega,hn.2⟩ (by omega),Int.toNat_of_nonneg hb0,decide_eq_true];rw [Int.emod_sub_emod,Int.sub_self,Int.zero_emod];omega
 rw [h3 hm g hg,hl];have key:∀ j:Nat,(fmF z [(b,n)])[(((t:Int) - (j:Int)) % (z:Int)).toNat]? = some (decide (((t:Int) - (j:Int) - b) % (z:Int) < n)):=fun j=>by
  have c0:=Int.emod_nonneg ((t:Int) - (j:Int)) (show (z:Int) ≠ 0 by omega);have c1:=Int.emod_lt_of_pos ((t:Int) - (j:Int)) (show 0 < (z:Int) by omega);rw [CL hz ⟨by omega,hn.2⟩ (by omega),Int.toNat_of_nonneg c0,Int.emod_sub_emod]
 constructor
 ·rintro ⟨j,g1,g2⟩;rw [key j] at g2;exact ⟨j,g1,of_decide_eq_true (Option.some.inj g2)⟩
 ·rintro ⟨j,g1,g2⟩;exact ⟨j,g1,by rw [key j,decide_eq_true g2]⟩
end My
namespace My
open PySem L2
def Ku (H:Hp) (wl:Addr) (ws:List (WD × Int)):Prop:=∃ qs:List Addr,H wl=some (.lst (qs.map V.ref))∧qs.length=ws.length∧∀ (i:Nat) (q:Addr) (p:WD × Int),qs[i]? = some q→ws[i]? = some p→H q=some (.tup [.str p.1.name,.int p.2])
noncomputable def Cf (i j:Nat):List Key:=[Sum.inl (i:Int),Sum.inl (j:Int)]
noncomputable def ay (d e:WD):Int:=if d.off - e.near > 0 then d.off - e.near else 0
noncomputable def Li (n:Int) (ws:List (WD × Int)) (i m:Nat):List (List Key × V):=
 (List.range m).filterMap fun j=>match ws[i]?,ws[j]? with
  | some p,some q=>if i ≠ j∧mt n p.1 q.1=true then some (Cf i j,V.int (p.2 + ay p.1 q.1)) else none
  | _,_=>none
noncomputable def bg (n:Int) (ws:List (WD × Int)) (i:Nat):List (List Key × V):=(List.range i).flatMap fun k=>Li n ws k ws.length
theorem UC (n:Int) (ws:List (WD × Int)) (i:Nat):Li n ws i 0=[]:=rfl
theorem Cw {n:Int} {ws:List (WD × Int)} {i m:Nat} {p q:WD × Int} (hi:ws[i]? = some p) (hm:ws[m]? = some q) (h:¬ (i ≠ m∧mt n p.1 q.1=true)):Li n ws i (m + 1)=Li n ws i m:=by
 unfold Li;rw [List.range_succ,List.filterMap_append];simp only [List.filterMap_cons,List.filterMap_nil,hi,hm,if_neg h,List.append_nil]
theorem Uw {n:Int} {ws:List (WD × Int)} {i m:Nat} {p q:WD × Int} (hi:ws[i]? = some p) (hm:ws[m]? = some q) (h:i ≠ m∧mt n p.1 q.1=true):Li n ws i (m + 1)=Li n ws i m ++ [(Cf i m,V.int (p.2 + ay p.1 q.1))]:=by
 unfold Li;rw [List.range_succ,List.filterMap_append];simp only [List.filterMap_cons,List.filterMap_nil,hi,hm,if_pos h]
theorem fu (n:Int) (ws:List (WD × Int)) (i:Nat):bg n ws (i + 1)=bg n ws i ++ Li n ws i ws.length:=by
 unfold bg;rw [List.range_succ,List.flatMap_append];simp
theorem cr {n:Int} {ws:List (WD × Int)} {i m:Nat} {x:List Key × V} (h:x ∈ Li n ws i m):∃ j p q,j < m∧ws[i]? = some p∧ws[j]? = some q∧i ≠ j∧mt n p.1 q.1=true∧x=(Cf i j,V.int (p.2 + ay p.1 q.1)):=by
 unfold Li at h;obtain ⟨j,hj,e⟩:=List.mem_filterMap.mp h;have hj':=List.mem_range.mp hj;cases hp:ws[i]? with
 | none=>simp [hp] at e
 | some p=>
  cases hq:ws[j]? with
  | none=>simp [hp,hq] at e
  | some q=>
   simp only [hp,hq] at e;split at e
   ·rename_i c;exact ⟨j,p,q,hj',rfl,hq,c.1,c.2,(Option.some.inj e).symm⟩
   ·cases e
theorem Py {n:Int} {ws:List (WD × Int)} {i:Nat} {x:List Key × V} (h:x ∈ bg n ws i):∃ k,k < i∧x ∈ Li n ws k ws.length:=by
 unfold bg at h;obtain ⟨k,hk,e⟩:=List.mem_flatMap.mp h;exact ⟨k,List.mem_range.mp hk,e⟩
theorem lj {i j i' j':Nat} (h:Cf i j=Cf i' j'):i=i'∧j=j':=by
 unfold Cf at h;simp only [List.cons.injEq,Sum.inl.injEq,and_true] at h;omega
theorem Ju {kvs:List (List Key × V)} {k:List Key} {v:V} (h:∀ x ∈ kvs,x.1 ≠ k):xq kvs k v=kvs ++ [(k,v)]:=by
 unfold xq;rw [if_neg];intro z;obtain ⟨x,hx,e⟩:=List.any_eq_true.mp z;exact h x hx (of_decide_eq_true e)
theorem WJ {n:Int} {ws:List (WD × Int)} {i m:Nat} {p q:WD × Int} (hi:ws[i]? = some p) (hm:ws[m]? = some q) (h:i ≠ m∧mt n p.1 q.1=true) :
  xq (bg n ws i ++ Li n ws i m) (Cf i m) (V.int (p.2 + ay p.1 q.1))=bg n ws i ++ Li n ws i (m + 1):=by
 rw [Uw hi hm h,Ju,List.append_assoc];intro x hx e;rcases List.mem_append.mp hx with z | z
 ·obtain ⟨k,hk,z⟩:=Py z;obtain ⟨j,p',q',_,_,_,_,_,rfl⟩:=cr z;have:=lj e;omega
 ·obtain ⟨j,p',q',hj,_,_,_,_,rfl⟩:=cr z;have:=lj e;omega
theorem Ky (n:Int) (ws:List (WD × Int)) (i m:Nat):(Li n ws i m).length ≤ m:=by
 unfold Li;exact Nat.le_trans (List.length_filterMap_le _ _) (by simp)
theorem Lx (n:Int) (ws:List (WD × Int)) (i:Nat):(bg n ws i).length ≤ i * ws.length:=by
 induction i with
 | zero=>simp [bg]
 | succ i ih=>
  rw [fu,List.length_append,Nat.succ_mul];have:=Ky n ws i ws.length;omega
noncomputable def Dd (p:WD × Int):Int:=p.2 + Ke p.1 + Jc p.1
noncomputable def Sm (m:Int) (al sd:Addr):List (Str × V):=[(Str.ofString "many",.int m),(Str.ofString "alones",.ref al),(Str.ofString "steps",.ref sd)]
theorem aL {d:WD} {m:Str} (h:wq.contains m=false):(Qo d).lookup m=none:=Tk wq (Cp _) h
theorem oH {P:Program} {w:World} {K:PySem.W.Frag} {mg:Str→Option Value} {base:Heap} {CX:CXT} {j k:Nat} {OK:Addr→Prop} {m:Str} {ps:List Str} {SPV:Addr→Sp} (V:GC P w K mg base CX j OK m ps SPV) (h:j ≤ k):GC P w K mg base CX k OK m ps SPV:=⟨fun C hC=>by
 obtain ⟨f,fd,h1,h2,h3,h4⟩:=V.ok C hC;exact ⟨f,fd,h1,h2,h3.mono h,h4⟩⟩
theorem Qw {H:Hp} {p b C D dx dy:Addr} {x:Str × V} {fs:List (Str × V)} (hp:H p=some (.ins C dx [])) (hb:H b=some (.ins D dy (x :: fs))):b ≠ p:=fun z=>by
 subst z;rw [hp] at hb;cases hb
theorem gO {t:Adr} {H H':Hp} {p a C dx:Addr} {d:WD} (hp:H p=some (.ins C dx [])) (sx:Kc p H H') (h:ve t H a d):ve t H' a d:=by
 obtain ⟨h1,dy,e⟩:=h;exact ⟨h1,dy,sx _ _ (Qw hp e) e⟩
theorem CG {t:Adr} {H H':Hp} {p c C dx:Addr} {n:Int} {ds:List WD} (hp:H p=some (.ins C dx [])) (sx:Kc p H H') (h:Qc t H c n ds):Qc t H' c n ds:=by
 obtain ⟨h0,dy,wl,nd,e1,⟨as,w1,w2,w3⟩,e3⟩:=h;exact ⟨h0,dy,wl,nd,sx _ _ (Qw hp e1) e1,⟨as,sx _ _ (Hf w1 hp (by intro z;cases z)) w1,w2,fun i a d h1 h2=>gO hp sx (w3 i a d h1 h2)⟩,sx _ _ (Hf e3 hp (by intro z;cases z)) e3⟩
theorem UJ {K:PySem.W.Frag} {a b:Addr} {xs ys:List V} {g:TG} {σb:St} {H:Hp} {tc:TT} {te:TE} {Q:VK} (Pv:Nat→List V→Hp→Prop) (n:Nat) (hn:n=min xs.length ys.length) (hz:n ≤ sizeLine) (h0:Pv 0 [] H) (hl:∀ i zs H,i ≤ n→Pv i zs H→(SqL K H a xs∧SqL K H b ys)∧zs.length ≤ i)
  (hs:∀ i x y zs H p,xs[i]? = some x→ys[i]? = some y→Pv i zs H→H p=none→Eg Pv g tc te σb i (.ref p) zs (upd H p (.tup [x,y]))) (hd:∀ zs H,Pv n zs H→∀ p,H p=none→Q (.ref p) (upd H p (.lst zs))):Fc (Itz K a b) g tc te σb Q H:=by
 refine Fc.of (n:=n) Pv hz h0 (fun i zs H hi p=>?_) (fun zs H p=>?_) (fun i zs H hi p=>(hl i zs H (Nat.le_of_lt hi) p).2) (fun i zs H v H' hi p y=>?_) hd
 ·obtain ⟨⟨z1,z2⟩,_⟩:=hl i zs H (Nat.le_of_lt hi) p;exact ⟨xs,ys,xs[i],ys[i],z1,z2,by rw [List.getElem?_eq_getElem (by omega)],by rw [List.getElem?_eq_getElem (by omega)]⟩
 ·obtain ⟨⟨z1,z2⟩,_⟩:=hl n zs H (Nat.le_refl _) p;exact ⟨xs,ys,z1,z2,by omega⟩
 ·obtain ⟨q,x,y,hq,rfl,hx,hy,rfl⟩:=y;obtain ⟨⟨z1,z2⟩,_⟩:=hl i zs H (Nat.le_of_lt hi) p;exact hs i x y zs H q (hx xs z1) (hy ys z2) p hq
section
variable (P:Program) (w:World)
def Ld (t:Adr) (H:Hp) (p:Addr) (n:Int) (ws:List (WD × Int)):Prop:=∃ dx al sd,H p=some (.ins t.Sb dx (Sm ws.length al sd))∧H al=some (.lst (ws.map fun p=>V.int (Dd p)))∧vn P w H sd (bg n ws ws.length)
def eB (t:Adr):Sp:=fun vs H Q _=>∃ p dx c wl n ds ws,vs=[.ref p,.ref c,.ref wl]∧H p=some (.ins t.Sb dx [])∧Qc t H c n ds∧0 < n∧Ku H wl ws∧(∀ q ∈ ws,∃ i:Nat,ds[i]? = some q.1)∧ws.length ≤ 20∧(∀ q ∈ ws,0 ≤ q.2∧q.2 ≤ 100000)∧NoT H ∧
 ∀ H',Kc p H H'→NoT H'→Ld P w t H' p n ws→Q .non H'
end
noncomputable def Pq:List Str:=[Str.ofString "many",Str.ofString "alones",Str.ofString "steps"]
theorem Jo (m:Int) (al sd:Addr):(Sm m al sd).map (·.1)=Pq:=rfl
section
variable {P:Program} {w:World} {K:PySem.W.Frag} {mg:Str→Option Value} {base:Heap} {t:Adr}
theorem We (T:Txt w K mg t) {H:Hp} {p dx al sd:Addr} {m:Int} (e:H p=some (.ins t.Sb dx (Sm m al sd))):yi K H p (Str.ofString "steps") (.ref sd):=⟨_,dx,_,e,T.Zi,T.Nk,yd Pq 2 (Jo ..) (by decide +kernel) rfl⟩
theorem Ys (T:Txt w K mg t) {H:Hp} {p dx al sd:Addr} {m:Int} (e:H p=some (.ins t.Sb dx (Sm m al sd))):yi K H p (Str.ofString "alones") (.ref al):=⟨_,dx,_,e,T.Zi,T.Vj,yd Pq 1 (Jo ..) (by decide +kernel) rfl⟩
theorem iK (T:Txt w K mg t):Gb P w K mg base CX0 4 t.Zf t.eh q49 (eB P w t):=by
 have g8:Gb P w K mg base CX0 3 t.Nb t.Ub q5 (Uf t):=(Gg T).mono (by decide);have V_Way_ready:GC P w K mg base CX0 3 (isW t) "ready" ["self"] (xh t):=oH (vz T) (by decide);have V_Way_fade:GC P w K mg base CX0 3 (isW t) "fade" ["self"] (Hj t):=oH (VH T) (by decide);have g22:Gb P w K mg base CX0 3 t.Ay t.jy q10 (iA t):=qI T;have g20:Gb P w K mg base CX0 3 t.UH t.dG q10 (JG t):=eL T;refine T.bo.ok Mc (fun vs H Q E h=>?_) (fun _ _ _ s H vs Q E hr h=>?_)
 ·obtain ⟨p,dx,c,wl,n,ds,ws,rfl,_⟩:=h;rfl
 obtain ⟨p,dx,c,wl,n,ds,ws,rfl,hp,C,hn,W,hds,hlen,hb,nt,q⟩:=h;have hu:=rj hr;refine ⟨_,(cb (Ee (i:=3) Mc.nd rfl (Or.inl rfl) rfl (ld (pv 2)) (ic (sc:=jb nh) rfl (by decide +kernel)) (N:=q62) (sel:=[none,none,some 1]) (uc (M:=q58) (by decide +kernel)) (Blk.of (fun _ _ _ _=>(Wc (K:=K) (n:=2) rfl rfl (Bb (lb (i:=0) (Ue (N:=q62) (by decide +kernel) rfl)) (Bb (lb (i:=1) (Ue (N:=q62) (by decide +kernel) rfl)) Uc)))) (fun _ _ _ _=>⟨_,pe,by walk_at "B"⟩) (fun _ _ _ _=>⟨_,(Ed (pv 2) T.Mb T.jc g8 hr T.kc .nil Rc (ab (pv 0) gb)),by walk_at "B"⟩)) rfl)
   (cb (mf (pv 0) (jd Bc rfl T.Dn Nc (ab (pv 2) gb)) rfl)
   (cb (mf (pv 0) (Bf rfl (UO rfl T.EQ (ab (pv 2) (ab (pv 3) gb))) (ic (sc:=jb nh) rfl (by decide +kernel)) (N:=["want","way"]) (sel:=[none,none]) (uc (M:=q58) (by decide +kernel)) (Blk.of (fun _ _ _ _=>(Wc (K:=K) (n:=2) rfl rfl (Bb (lb (i:=0) (Ue (N:=["want","way"]) (by decide +kernel) rfl)) (Bb (lb (i:=1) (Ue (N:=["want","way"]) (by decide +kernel) rfl)) Uc)))) (fun _ _ _ _=>⟨_,pe,by walk_at "B"⟩) (fun _ _ _ _=>⟨_,(Lb Dc (Lb Dc (Zb Zc (pv 0) qb) (dj (pv 1) V_Way_fade hr Rc)) (dj (pv 1) V_Way_ready hr Rc)),by walk_at "B"⟩))) rfl)
   (cb (mf (pv 0) PF rfl)
   (ib (ad PassesOwn.never rfl (Xk rfl T.re (ab (pv 2) gb)) (Wc (K:=K) (n:=2) rfl rfl (Bb (lb (i:=4) Mc.nd) (Bb (lb (i:=5) Mc.nd) Uc))) (ib (ad PassesOwn.never rfl (Xk rfl T.re (ab (pv 2) gb)) (Wc (K:=K) (n:=2) rfl rfl (Bb (lb (i:=6) Mc.nd) (Bb (lb (i:=7) Mc.nd) Uc))) (ib (Le (PW.pt (lC (Pb Os (pv 4) (pv 6) (gc _)) (Iw (Cm (ub g22 hr T.fL T.zB.kp T.IL (ab (pv 1) (ab (Zb Zc (pv 5) qb) (ab (Zb Zc (pv 7) qb) gb)))))))) (ib (xz hu (Ob (pv 0) rfl) (Ad (ab (pv 4) (ab (pv 6) gb))) (Lb Dc (Zb Zc (pv 5) qb) (ub g20 hr T.WN T.OJ.kp T.zO (ab (pv 1) (ab (Zb Zc (pv 5) qb) (ab (Zb Zc (pv 7) qb) gb))))) rfl)) qc)))))))))),?_⟩
 obtain ⟨qs,w1,w2,al⟩:=id W;have hql:(qs.map V.ref).length ≤ sizeLine:=Nat.le_trans (show (qs.map V.ref).length ≤ 20 by rw [List.length_map,w2];exact hlen) (by decide);obtain ⟨_,dxc,wlc,ndc,ec1,ec2,ec3⟩:=id C;walk_at "RD";refine ⟨⟨_,SqL.of w1⟩,?_⟩;refine Fc.list (xs:=qs.map V.ref) (fun i ys H'=>H'=H∧∃ as:List Addr,ys=as.map V.ref∧as.length=i∧∀ (j:Nat) (a:Addr) (q:WD × Int),as[j]? = some a→ws[j]? = some q→ve t H a q.1) hql ⟨rfl,[],rfl,rfl,fun j a q h=>by simp at h⟩ (fun i ys H' _ ⟨e,as,e1,e2,_⟩=>by subst e e1;exact ⟨SqL.of w1,by rw [List.length_map,e2];exact Nat.le_refl _⟩) ?_ ?_
 ·rintro i x ys H' hx ⟨rfl,as,rfl,e2,e3⟩ N hN;obtain ⟨qi,hqi,rfl⟩:=lc hx;have hi:i < ws.length:=by rw [← w2];exact (List.getElem?_eq_some_iff.mp hqi).1
  have hwi:ws[i]? = some ws[i]:=List.getElem?_eq_getElem hi;have hq:=al i qi _ hqi hwi;obtain ⟨k,hk⟩:=hds _ (List.mem_of_getElem? hwi);refine yo (SqT.of hq) ?_;walk_at "RD";refine ⟨Sub.name2,_,_,ec1,Uy _ _ _ (by decide +kernel),⟨c,n,ds,k,_,rfl,C,hk,fun a Wa=>?_⟩⟩;show N (as.map V.ref ++ [V.ref a]) H';rw [show as.map V.ref ++ [V.ref a]=(as ++ [a]).map V.ref by rw [List.map_append];rfl];refine hN _ _ ⟨rfl,as ++ [a],rfl,by rw [List.length_append,e2];rfl,fun j b q h1 h2=>?_⟩;rcases ig h1 with z | z
  ·exact e3 j b q z.2 h2
  ·obtain ⟨z1,rfl⟩:=z;rw [z1,e2,hwi] at h2;cases h2;exact Wa
 ·rintro ys H' ⟨rfl,as,rfl,e2,e3⟩ pw hpw;rw [List.length_map,w2] at e2;walk_at "RD";have s1:Ib H' (upd H' pw (.lst (as.map V.ref))):=fb hpw;have hpp:pw ≠ p:=fun z=>by subst z;rw [hp] at hpw;cases hpw
  refine ⟨_,.inl (SqL.of (s1 _ _ w1)),_,_,_,s1 _ _ hp,T.Zi,T.Qm,by decide,?_⟩;have sx2:Kc p H' (upd (upd H' pw (.lst (as.map V.ref))) p (.ins t.Sb dx [(Str.ofString "many",V.int (ws.length:Int))])):=fun b u hb e=>by rw [wb hb];exact s1 _ _ e
  have e2p:(upd (upd H' pw (.lst (as.map V.ref))) p (.ins t.Sb dx [(Str.ofString "many",V.int (ws.length:Int))])) p=some (.ins t.Sb dx [(Str.ofString "many",V.int (ws.length:Int))]):=db;have e2w:(upd (upd H' pw (.lst (as.map V.ref))) p (.ins t.Sb dx [(Str.ofString "many",V.int (ws.length:Int))])) pw=some (.lst (as.map V.ref)):=by rw [wb hpp];exact db
  have nt2:NoT (upd (upd H' pw (.lst (as.map V.ref))) p (.ins t.Sb dx [(Str.ofString "many",V.int (ws.length:Int))])):=(nt.upd).upd;rw [show Rh (Str.ofString "many") (V.int ((qs.map V.ref).length:Int)) ([]:List (Str × V))=[(Str.ofString "many",V.int (ws.length:Int))] by rw [List.length_map,w2];rfl];generalize upd (upd H' pw (.lst (as.map V.ref))) p (.ins t.Sb dx [(Str.ofString "many",V.int (ws.length:Int))])=H2 at sx2 e2p e2w nt2 ⊢;have wl2:H2 wl=some (.lst (qs.map V.ref)):=sx2 _ _ (Hf w1 hp (by intro z;cases z)) w1;refine ⟨⟨_,SqL.of wl2⟩,⟨_,SqL.of e2w⟩,?_⟩;refine UJ (xs:=qs.map V.ref) (ys:=as.map V.ref) (fun i zs H3=>Ib H2 H3∧NoT H3∧zs=(ws.take i).map fun p=>V.int (Dd p)) ws.length (by rw [List.length_map,List.length_map,w2,e2];simp) (Nat.le_trans hlen (by decide)) ⟨Ib.refl _,nt2,rfl⟩ (fun i zs H3 hi ⟨sm,_,e⟩=>⟨⟨(SqL.of wl2).same sm,(SqL.of e2w).same sm⟩,by rw [e,List.length_map,List.length_take];omega⟩) ?_ ?_
  ·rintro i x y zs H3 r hx hy ⟨sm,nt3,rfl⟩ hr3 N hN;obtain ⟨qi,hqi,rfl⟩:=lc hx;obtain ⟨ai,hai,rfl⟩:=lc hy;have hi:i < ws.length:=by rw [← w2];exact (List.getElem?_eq_some_iff.mp hqi).1
   have hwi:ws[i]? = some ws[i]:=List.getElem?_eq_getElem hi;have hq:H2 qi=some (.tup [.str ws[i].1.name,.int ws[i].2]):=sx2 _ _ (Hf (al i qi _ hqi hwi) hp (by intro z;cases z)) (al i qi _ hqi hwi);have Wa:ve t H3 ai ws[i].1:=(gO hp sx2 (e3 i ai _ hai hwi)).same sm;have sm4:Ib H3 (upd H3 r (.tup [.ref qi,.ref ai])):=fb hr3;have Wb:=Wa.same sm4;refine sf ?_;walk_at "RD";obtain ⟨dk,dxw,hway⟩:=id Wb;refine ⟨Sub.name2,_,SqT.of (sm4 _ _ (sm _ _ hq)),_,Jb (j:=1) rfl,_,_,_,hway,⟨_,dk,rfl⟩,aL (by decide +kernel),_,_,rfl,Wb,rfl,_,rfl,_,rfl,_,_,_,hway,⟨_,dk,rfl⟩,aL (by decide +kernel),_,_,rfl,Wb,rfl,_,rfl,?_⟩;refine hN _ _ ⟨sm.trans sm4,nt3.upd,?_⟩;rw [List.take_add_one,hwi,List.map_append];rfl
  ·rintro zs H3 ⟨sm,nt3,rfl⟩ pa hpa;rw [List.take_length];walk_at "RD";have s4:Ib H3 (upd H3 pa (.lst (ws.map fun p=>V.int (Dd p)))):=fb hpa;have hpap:pa ≠ p:=fun z=>by subst z;rw [sm _ _ e2p] at hpa;cases hpa
   refine ⟨_,_,_,s4 _ _ (sm _ _ e2p),T.Zi,T.Vj,(show (1:Nat) < 1000 by decide),fun sd o hsd hD=>?_⟩;rw [show Rh (Str.ofString "alones") (V.ref pa) [(Str.ofString "many",V.int (ws.length:Int))]=[(Str.ofString "many",V.int (ws.length:Int)),(Str.ofString "alones",V.ref pa)] from kd [Str.ofString "many"] rfl (by decide +kernel)] at hsd hD ⊢;have hsp:sd ≠ p:=fun z=>by subst z;rw [db] at hsd;cases hsd
   have hsn:H3 sd=none:=by
    rw [wb hsp] at hsd;by_cases z:sd=pa
    ·subst z;exact hpa
    ·rw [wb z] at hsd;exact hsd
   have hsa:sd ≠ pa:=fun z=>by subst z;rw [wb hsp,db] at hsd;cases hsd
   refine ⟨t.Sb,dx,[(Str.ofString "many",V.int (ws.length:Int)),(Str.ofString "alones",V.ref pa)],by rw [wb (Ne.symm hsp)];exact db,T.Zi,T.Nk,show (2:Nat) < 1000 by decide,?_⟩;rw [show Rh (Str.ofString "steps") (V.ref sd) [(Str.ofString "many",V.int (ws.length:Int)),(Str.ofString "alones",V.ref pa)]=Sm ws.length pa sd from kd [Str.ofString "many",Str.ofString "alones"] rfl (by decide +kernel)];have sx7:Kc p H' (upd (upd (upd (upd H3 pa (.lst (ws.map fun p=>V.int (Dd p)))) p (.ins t.Sb dx [(Str.ofString "many",V.int (ws.length:Int)),(Str.ofString "alones",V.ref pa)])) sd (.ext (AtO sd o))) p (.ins t.Sb dx (Sm ws.length pa sd))):=fun b u hb e=>by
    have e4:=sm _ _ (sx2 _ _ hb e);rw [wb hb,wb (Ab e4 hsn),wb hb];exact s4 _ _ e4
   have e7p:(upd (upd (upd (upd H3 pa (.lst (ws.map fun p=>V.int (Dd p)))) p (.ins t.Sb dx [(Str.ofString "many",V.int (ws.length:Int)),(Str.ofString "alones",V.ref pa)])) sd (.ext (AtO sd o))) p (.ins t.Sb dx (Sm ws.length pa sd))) p=some (.ins t.Sb dx (Sm ws.length pa sd)):=db;have e7a:(upd (upd (upd (upd H3 pa (.lst (ws.map fun p=>V.int (Dd p)))) p (.ins t.Sb dx [(Str.ofString "many",V.int (ws.length:Int)),(Str.ofString "alones",V.ref pa)])) sd (.ext (AtO sd o))) p (.ins t.Sb dx (Sm ws.length pa sd))) pa=some (.lst (ws.map fun p=>V.int (Dd p))):=by
    rw [wb hpap,wb (Ne.symm hsa),wb hpap];exact db
   have nt7:NoT (upd (upd (upd (upd H3 pa (.lst (ws.map fun p=>V.int (Dd p)))) p (.ins t.Sb dx [(Str.ofString "many",V.int (ws.length:Int)),(Str.ofString "alones",V.ref pa)])) sd (.ext (AtO sd o))) p (.ins t.Sb dx (Sm ws.length pa sd))):=(((nt3.upd).upd).upd).upd;have D7:=uJ (u:=.ins t.Sb dx (Sm ws.length pa sd)) hD (Ne.symm hsp) (fun xs z=>by rw [wb (Ne.symm hsp),db] at z;cases z);generalize upd (upd (upd (upd H3 pa (.lst (ws.map fun p=>V.int (Dd p)))) p (.ins t.Sb dx [(Str.ofString "many",V.int (ws.length:Int)),(Str.ofString "alones",V.ref pa)])) sd (.ext (AtO sd o))) p (.ins t.Sb dx (Sm ws.length pa sd))=H7 at sx7 e7p e7a nt7 D7 ⊢;have hwp:wl ≠ p:=Hf w1 hp (by intro z;cases z);have hpsn:H' sd=none:=by
    cases e:H' sd with
    | none=>rfl
    | some u=>
     have:=sm _ _ (sx2 _ _ hsp e);rw [hsn] at this;cases this
   refine ⟨⟨_,SqL.of (sx7 _ _ hwp w1)⟩,?_⟩;refine rh.enum (xs:=qs.map V.ref) (fun i σ H8=>(∃ a b c' d,σ=[some (V.ref p),some (V.ref c),some (V.ref wl),some (V.ref pw),a,b,c',d])∧Kc p H' H8∧NoT H8∧H8 p=some (.ins t.Sb dx (Sm ws.length pa sd))∧H8 pa=some (.lst (ws.map fun p=>V.int (Dd p)))∧vn P w H8 sd (bg n ws i)) ?_ ?_ ?_ ?_
   ·exact ⟨⟨_,_,_,_,rfl⟩,sx7,nt7,e7p,e7a,D7⟩
   ·rintro i σ H8 hi ⟨_,sx8,_⟩;exact SqL.of (sx8 _ _ hwp w1)
   ·rintro i v σ H8 r hv ⟨⟨a,b,c',d,rfl⟩,sx8,nt8,e8p,e8a,D8⟩ hr8;obtain ⟨qi,hqi,rfl⟩:=lc hv;have hi:i < ws.length:=by rw [← w2];exact (List.getElem?_eq_some_iff.mp hqi).1
    have hwi:ws[i]? = some ws[i]:=List.getElem?_eq_getElem hi;have eqi:∀ {H9:Hp},Kc p H' H9→H9 qi=some (.tup [.str ws[i].1.name,.int ws[i].2]):=fun sx=>sx _ _ (Hf (al i qi _ hqi hwi) hp (by intro z;cases z)) (al i qi _ hqi hwi)
    obtain ⟨ki,hki⟩:=hds _ (List.mem_of_getElem? hwi);refine sf ?_;walk_at "RD";have s9:Ib H8 (upd H8 r (.tup [.int i,.ref qi])):=fb hr8;refine ⟨⟨_,SqL.of (s9 _ _ (sx8 _ _ hwp w1))⟩,?_⟩;refine rh.enum (xs:=qs.map V.ref) (fun j σ H9=>(∃ c' d,σ=[some (V.ref p),some (V.ref c),some (V.ref wl),some (V.ref pw),some (V.int (i:Int)),some (V.ref qi),c',d])∧Kc p H' H9∧NoT H9∧H9 p=some (.ins t.Sb dx (Sm ws.length pa sd))∧H9 pa=some (.lst (ws.map fun p=>V.int (Dd p)))∧vn P w H9 sd (bg n ws i ++ Li n ws i j)) ?_ ?_ ?_ ?_
    ·exact ⟨⟨_,_,rfl⟩,sx8.trans (Kc.of s9),nt8.upd,s9 _ _ e8p,s9 _ _ e8a,by rw [UC,List.append_nil];exact Tb D8 s9⟩
    ·rintro j σ H9 hj ⟨_,sx9,_⟩;exact SqL.of (sx9 _ _ hwp w1)
    ·rintro j v σ H9 r2 hv ⟨⟨c2,d2,rfl⟩,sx9,nt9,e9p,e9a,D9⟩ hr9;obtain ⟨qj,hqj,rfl⟩:=lc hv;have hj:j < ws.length:=by rw [← w2];exact (List.getElem?_eq_some_iff.mp hqj).1
     have hwj:ws[j]? = some ws[j]:=List.getElem?_eq_getElem hj;obtain ⟨kj,hkj⟩:=hds _ (List.mem_of_getElem? hwj);have s10:Ib H9 (upd H9 r2 (.tup [.int j,.ref qj])):=fb hr9;have sx10:=sx9.trans (Kc.of (p:=p) s10);have eqj:∀ {H9:Hp},Kc p H' H9→H9 qj=some (.tup [.str ws[j].1.name,.int ws[j].2]):=fun sx=>sx _ _ (Hf (al j qj _ hqj hwj) hp (by intro z;cases z)) (al j qj _ hqj hwj)
     have nt10:NoT (upd H9 r2 (.tup [.int j,.ref qj])):=nt9.upd;have e10p:=s10 _ _ e9p;have e10a:=s10 _ _ e9a;have D10:=Tb D9 s10;refine sf ?_;simp only [List.set_cons_succ,List.set_cons_zero];generalize upd H9 r2 (.tup [.int j,.ref qj])=H10 at sx10 nt10 e10p e10a D10 ⊢;by_cases hij:i=j
     ·refine ac false (fun Q hQ=>?_) (fun z=>nomatch z) (fun _=>?_)
      ·walk_at "RD";rw [if_neg (by simp [hij])];exact hQ
      ·simp only [se];exact ⟨⟨_,_,rfl⟩,sx10,nt10,e10p,e10a,by rw [Cw hwi hwj (fun z=>z.1 hij)];exact D10⟩
     refine ac (mt n ws[i].1 ws[j].1) (fun Q hQ=>?_) (fun hm=>?_) (fun hm=>?_)
     ·walk_at "RD";rw [if_pos (by simp;omega)];exact ⟨_,SqT.of (eqi sx10),_,Jb (j:=0) rfl,_,SqT.of (eqj sx10),_,Jb (j:=0) rfl,c,n,ds,ki,kj,_,_,rfl,CG hp sx10 C,hn,hki,hkj,nt10,_,rfl,hQ⟩
     ·walk_at "RD";refine ⟨_,SqT.of (eqi sx10),_,Jb (j:=1) rfl,_,SqT.of (eqi sx10),_,Jb (j:=0) rfl,_,SqT.of (eqj sx10),_,Jb (j:=0) rfl,c,n,ds,ki,kj,_,_,rfl,CG hp sx10 C,hki,hkj,_,rfl,_,rfl,_,We T e10p,by decide,fun tp htp=>⟨sd,rfl,_,Tb D10 (fb htp),Cf i j,(show upd H10 tp (.tup [V.int (i:Int),V.int (j:Int)]) tp=some (HO.tup [V.int (i:Int),V.int (j:Int)]) from db),?_,fun o hD2=>⟨⟨_,rfl⟩,?_,(nt10.upd).upd,?_,?_,?_⟩⟩⟩
      ·have a1:=Lx n ws i;have a2:=Ky n ws i j;have a3:=Nat.mul_le_mul (show i ≤ 20 by omega) hlen;exact Nat.lt_of_le_of_lt (show (bg n ws i ++ Li n ws i j).length ≤ 420 by rw [List.length_append];omega) (by decide)
      ·intro b u hb e;have e1:=sx10 _ _ hb e;rw [wb (Ab e hpsn),wb (Ab e1 htp)];exact e1
      ·rw [wb (Ne.symm hsp),wb (Ab e10p htp)];exact e10p
      ·rw [wb (Ne.symm hsa),wb (Ab e10a htp)];exact e10a
      ·rw [← WJ hwi hwj ⟨hij,hm⟩];exact hD2
     ·simp only [se];exact ⟨⟨_,_,rfl⟩,sx10,nt10,e10p,e10a,by rw [Cw hwi hwj (fun z=>by rw [hm] at z;exact nomatch z.2)];exact D10⟩
    ·rintro σ H9 zzq;refine zzP fun zzM zzh=>?_
     obtain ⟨⟨c2,d2,rfl⟩,sx9,nt9,e9p,e9a,D9⟩:=zzq;subst zzh;rw [List.length_map,w2,← fu] at D9;exact ⟨⟨_,_,_,_,rfl⟩,sx9,nt9,e9p,e9a,D9⟩
   ·rintro σ H8 zzq;refine zzP fun zzM zzh=>?_
    obtain ⟨⟨a,b,c',d,rfl⟩,sx8,nt8,e8p,e8a,D8⟩:=zzq;subst zzh;rw [List.length_map,w2] at D8;walk_at "RD";exact q _ sx8 nt8 ⟨dx,pa,sd,e8p,e8a,D8⟩
end
theorem dF {H H':Hp} {wl:Addr} {ws:List (WD × Int)} (h:Ku H wl ws) (s:Ib H H'):Ku H' wl ws:=by
 obtain ⟨qs,w1,w2,w3⟩:=h;exact ⟨qs,s _ _ w1,w2,fun i q p h1 h2=>s _ _ (w3 i q p h1 h2)⟩
theorem aK {n:Int} {ws:List (WD × Int)} {i j:Nat} {p q:WD × Int} (hi:ws[i]? = some p) (hj:ws[j]? = some q) (hij:i ≠ j) (hm:mt n p.1 q.1=true):(Cf i j,V.int (p.2 + ay p.1 q.1)) ∈ bg n ws ws.length:=by
 unfold bg;refine List.mem_flatMap.mpr ⟨i,List.mem_range.mpr (List.getElem?_eq_some_iff.mp hi).1,?_⟩;unfold Li;refine List.mem_filterMap.mpr ⟨j,List.mem_range.mpr (List.getElem?_eq_some_iff.mp hj).1,?_⟩;simp only [hi,hj,if_pos (And.intro hij hm)]
end My
namespace My
open PySem L2
section
open PySem.Spec PyProof.Rows
section
variable {prog:Program} {w:World} {A:Around} {R:Result→Shared→Prop} {I:Addr} {fp wr:List Addr} {n:Nat} {P:Nat→Value→Prop} {St:Nat→Heap→Prop}
theorem pG (W:Walks prog w A.in1 I fp wr n P St) (bt:Nat→Nat→Bool) (hcmp:CmpOf prog w A.in1 .Gt P bt) (S:Addr) (hSf:S ∉ fp) (dv:Value) (kn:Str) :
  ∀ (k j:Nat) (s:Shared) (acc:Array Value) (c:Nat),n - j=k→j ≤ n→St j s.heap→mL P bt j acc →
  s.heap.get? S=some { cls:=.type "list",dict:=none,data:=.seq acc c,slots:=#[] } →
  (∀ v h' tk,(n=0∧v=dv)∨(0 < n∧P (argBest bt (n - 1)) v)→(∀ b o,b ∉ wr→b ≠ S→s.heap.get? b=some o→h'.get? b=some o)→R (.ok (.ret v)) { s with heap:=h',toks:=tk }) →
  codeAny (model prog w) A (.builtin "max.loop" ⟨[.ref I,.none,.ref S],[(kn,dv)]⟩) R s:=by
 have hSw:S ∉ wr:=fun h=>hSf (W.sub _ h)
 have hname:(toString "max" ++ toString ".loop" : String) = "max.loop" := by decide
 intro k
 induction k with
 | zero=>
  intro j s acc c hk hj hst hB hS hR;have hin:j=n:=by omega
  refine codeAny_builtin PySem.F.entry_max_loop ?_;rw [Around.under_plainId PySem.F.plain_max_loop _];show wpAny _ A.in1 (seqItems? (.ref S) >>= _) _ _ s;refine wpAny_bind (wpAny_seqItems hS rfl ?_);show wpAny _ A.in1 (tryCatch (pyNext (.ref I)) _ >>= _) _ _ s;refine wpAny_bind (wpAny_tryCatch (W.done s _ _ (hin ▸ hst) fun h' tk hk'=>?_));have hS':=hk' S _ hSw hS;rcases hB with ⟨h0,rfl⟩ | ⟨vb,i,hi,rfl,hP⟩
  ·show wpAny _ A.in1 (rule _ >>= _) _ _ _;refine wpAny_bind (wpAny_rule (wpAny_pure ?_));exact hR dv h' tk (.inl ⟨by omega,rfl⟩) fun b o hbw hbS e=>hk' b o hbw e
  ·show wpAny _ A.in1 (updateSeq S (fun _=>#[]) >>= _) _ _ _;refine wpAny_bind ?_;refine wpAny_updateSeq hS' rfl (wpAny_bind (wpAny_letGo (wpAny_pure ?_)));refine hR vb _ tk (.inr ⟨by omega,by rw [show n - 1=i by omega];exact hP⟩) fun b o hbw hbS e=>(Heap.get?_update_other _ _ (Ne.symm hbS)).trans (hk' b o hbw e)
 | succ k ih=>
  intro j s acc c hk hj hst hB hS hR;have hlt:j < n:=by omega
  refine codeAny_builtin PySem.F.entry_max_loop ?_;rw [Around.under_plainId PySem.F.plain_max_loop _];show wpAny _ A.in1 (seqItems? (.ref S) >>= _) _ _ s;refine wpAny_bind (wpAny_seqItems hS rfl ?_);show wpAny _ A.in1 (tryCatch (pyNext (.ref I)) _ >>= _) _ _ s;refine wpAny_bind (wpAny_tryCatch (W.item j s _ _ hlt hst fun v h' tk hP hst' hk'=>?_));have hS':=hk' S _ hSw hS;have put:∀ h'':Heap,h''=h'.update S (Obj.mapSeq (fun _=>#[v,v]))→St (j + 1) h'':=fun h'' e=>by
   subst e;exact W.frame _ _ _ hst' fun b hbf o e=>(Heap.get?_update_other _ _ (fun h:S=b=>hSf (by rw [h];exact hbf))).trans e
  rcases hB with ⟨h0,rfl⟩ | ⟨vb,i,hi,rfl,hPb⟩
  ·show wpAny _ A.in1 (updateSeq S (fun _=>#[v,v]) >>= _) _ _ _;refine wpAny_bind ?_;refine wpAny_updateSeq hS' rfl ?_;rw [hname];refine wpAny_pure ⟨plainId_quiet PySem.F.plain_max_loop _,ih (j + 1) _ #[v,v] _ (by omega) hlt (put _ rfl) (.inr ⟨v,j,rfl,rfl,by subst h0;exact hP⟩) (Heap.get?_update_self _ hS' rfl) fun v' h'' tk'' hP' hk''=>?_⟩;exact hR v' h'' tk'' hP' fun b o hbw hbS e=>hk'' b o hbw hbS ((Heap.get?_update_other _ _ (Ne.symm hbS)).trans (hk' b o hbw e))
  ·subst hi;show wpAny _ A.in1 (tryCatch (holding [v,v] (richCompare .Gt v vb >>= _)) _ >>= _) _ _ _;refine wpAny_bind (wpAny_tryCatch (wpAny_holding (wpAny_bind (hcmp (i + 1) (argBest bt i) v vb _ _ _ hP hPb ?_))));refine wpAny_bind (wpAny_holding (wpAny_truthy_bool ?_));refine wpAny_bind (wpAny_letGo (wpAny_pure ?_));cases hb:bt (i + 1) (argBest bt i) with
   | true=>
    simp only [if_true];refine wpAny_bind ?_;refine wpAny_updateSeq hS' rfl (wpAny_bind (wpAny_letGo ?_));rw [hname];refine wpAny_pure ⟨plainId_quiet PySem.F.plain_max_loop _,ih (i + 1 + 1) _ #[v,v] _ (by omega) hlt (put _ rfl) (.inr ⟨v,i + 1,rfl,rfl,by simp only [argBest,hb,if_true];exact hP⟩) (Heap.get?_update_self _ hS' rfl) fun v' h'' tk'' hP' hk''=>?_⟩;exact hR v' h'' tk'' hP' fun b o hbw hbS e=>hk'' b o hbw hbS ((Heap.get?_update_other _ _ (Ne.symm hbS)).trans (hk' b o hbw e))
   | false=>
    simp only [Bool.false_eq_true,if_false];refine wpAny_bind (wpAny_letGo ?_);rw [hname];refine wpAny_pure ⟨plainId_quiet PySem.F.plain_max_loop _,ih (i + 1 + 1) _ #[vb,vb] c (by omega) hlt hst' (.inr ⟨vb,i + 1,rfl,rfl,by simp only [argBest,hb,Bool.false_eq_true,if_false];exact hPb⟩) hS' fun v' h'' tk'' hP' hk''=>?_⟩;exact hR v' h'' tk'' hP' fun b o hbw hbS e=>hk'' b o hbw hbS (hk' b o hbw e)
end
section
variable {prog:Program} {w:World} {A:Around} {E:Value→Shared→Prop} {s:Shared}
theorem IF (a d:Value):argsOk "max" ⟨[a],[(Str.ofString "default",d)]⟩:=by unfold argsOk;kernel_rfl
theorem wH {l:Addr} {its:Array Value} {dv:Value} {Q:Value→Shared→Prop} (hh:A.handled=none) (hl:s.heap.IsList l its) (ks:List Int) (hk:its.size=ks.length) (hv:∀ (i:Nat) (v:Value),its[i]? = some v→∃ t,v=Value.int (ks.getD i 0) t)
  (hQ:∀ v h' tk,(ks=[]∧v=dv)∨(∃ m t,ks.max? = some m∧v=.int m t)→(∀ b o,s.heap.get? b=some o→h'.get? b=some o)→Q v { s with heap:=h',toks:=tk }) :
  wpAny (model prog w) A (call (.builtin "max") [.ref l] [(Str.ofString "default",dv)]) Q E s:=by
 have hname:(toString "max" ++ toString ".loop" : String) = "max.loop" := by decide
 have hlt:l < s.heap.objs.size:=by obtain ⟨_,e,_⟩:=hl;exact Heap.lt_size e
 refine wpAny_call (codeAny_call_builtin PySem.F.plain_max PySem.F.entry_max ?_);simp only [checkBuiltinCall,PySem.F.kind_max];have key:wpAny (model prog w) A.in1 (Builtin.«max» ⟨[.ref l],[(Str.ofString "default",dv)]⟩) (fun fin s'=>match fin with
   | .done f=>(match (Except.ok f:Result) with | .ok (.ret v)=>Q v s' | .ok _=>False | .error e=>E e s')
   | .again c'=>c'.quiet=true∧codeAny (model prog w) A c' (fun r s'=>match r with | .ok (.ret v)=>Q v s' | .ok _=>False | .error e=>E e s') s') E s:=by
  show wpAny _ A.in1 (Builtin.Builtins.bindParams "max" ["key","default"] 0 ⟨[],[(Str.ofString "default",dv)]⟩ >>= _) _ _ s;refine wpAny_bind (wpAny_of_eq (show Builtin.Builtins.bindParams "max" ["key","default"] 0 ⟨[],[(Str.ofString "default",dv)]⟩=pure [none,some dv] from rfl) ?_);refine wpAny_bind (wpAny_pure ?_);refine wpAny_bind (wpAny_pyIter_list hl ?_);refine wpAny_bind (wpAny_newObj_type ?_);rw [hname];have W:=Walks.list (prog:=prog) (w:=w) (A:=A.in1) hh s.heap.objs.size l (Nat.ne_of_lt hlt) its;have hz1:(s.heap.push { cls:=.type "list_iterator",data:=.fields #[.ref l,.int 0 0] }).objs.size=s.heap.objs.size + 1:=Heap.size_push ..;refine wpAny_pure ⟨plainId_quiet PySem.F.plain_max_loop _,pG W _ (CmpOf.ints_gt (fun i=>ks.getD i 0) fun i v h=>hv i v h) _ ?_ dv _ its.size 0 _ #[] _ rfl (Nat.zero_le _) ?_ (.inl ⟨rfl,rfl⟩) (Heap.get?_push_size _ rfl) fun v h' tk hP hk'=>?_⟩
  ·show (s.heap.push _).objs.size ∉ _;rw [hz1];simp only [List.mem_cons,List.not_mem_nil,or_false,not_or];exact ⟨Nat.succ_ne_self _,Ne.symm (Nat.ne_of_lt (Nat.lt_succ_of_lt hlt))⟩
  ·exact W.frame 0 (s.heap.push { cls:=.type "list_iterator",data:=.fields #[.ref l,.int 0 0] }) _ ⟨⟨_,Heap.get?_push_size _ rfl,rfl,rfl⟩,hl.push _⟩ fun b _ o e=>Heap.get?_push_of_some _ e
  ·refine hQ v h' tk ?_ fun b o e=>hk' b o (fun hm=>?_) ?_ (Heap.get?_push_of_some _ (Heap.get?_push_of_some _ e))
   ·rcases hP with ⟨h0,h1⟩ | ⟨h0,h1⟩
    ·exact .inl ⟨List.length_eq_zero_iff.mp (by omega),h1⟩
    ·obtain ⟨t,e⟩:=hv _ v h1;have hb:=argBest_gt (fun i=>ks.getD i 0) (its.size - 1);refine .inr ⟨_,t,?_,e⟩;rw [List.max?_eq_some_iff];have hi:argBest (fun i j=>decide (ks.getD i 0 > ks.getD j 0)) (its.size - 1) < ks.length:=by omega
     refine ⟨?_,fun b hb'=>?_⟩
     ·rw [List.getD_eq_getElem?_getD,List.getElem?_eq_getElem hi];exact List.getElem_mem hi
     ·obtain ⟨j,hj,rfl⟩:=List.getElem_of_mem hb';have:=hb.2 j (by omega);rw [List.getD_eq_getElem?_getD (i:=j),List.getElem?_eq_getElem hj] at this;exact this
   ·rw [List.mem_singleton.mp hm] at e;exact absurd (Heap.lt_size e) (Nat.lt_irrefl _)
   ·rw [hz1];exact Nat.ne_of_lt (Nat.lt_succ_of_lt (Heap.lt_size e))
 cases hsig:Manifest.signature? "max" with
 | none=>exact wpAny_pure key
 | some sig=>
  have ha:=IF (.ref l) dv;have ha':Bind.checkArgs "max" sig ⟨[.ref l],[(Str.ofString "default",dv)]⟩=pure ():=by simpa only [argsOk,hsig] using ha
  simp only [ha'];exact wpAny_pure key
end
section
variable {X:Cx}
noncomputable def YN (K:PySem.W.Frag) (ta:TA) (td:TE):TE:=fun σ H Q=>ta σ H fun vs H1=>td σ H1 fun y H2=>∃ l ks,vs=[.ref l]∧SqL K H2 l (List.map V.int ks)∧Q (match ks.max? with | some m=>.int m | none=>y) H2
theorem uN {a d:Expr} {ta:TA} {td:TE} {p kp pos:Pos} (hc:X.calm=true) (hg:Gl X "max") (hm:X.mg "max"=none) (ha:PA X [a] ta) (hd:PE X d td)
  (he:∀ pos,backTo pos (starEach [a] X.env)=(false,eval a X.env) :: backTo pos (starEach [] X.env):=by intro _;rfl) (hpl:∀ pos,(backTo pos (starEach [a] X.env)).any (·.1)=false:=by intro _;rfl) :
  PE X (.Call (.Name "max" p) [a] [⟨some "default",d,kp⟩] pos) (YN X.K ta td):=by
 intro pins s σ H Q I h;refine wpAny_Call_Name_kw (Sj I hg hm (show bootBuiltins "max"=some (.builtin "max") by decide +kernel) ?_);refine callWith_kw (id := "max") (thn (ha pos pins s σ H _ I h) fun us s1 ⟨vs,H1,I1,r1,q1⟩=>?_) (he:=he pos) (hplain:=hpl pos);refine kws_cons (thn (hd pins s1 σ H1 _ I1 q1) fun v s2 ⟨y,H2,I2,r2,q2⟩=>kws_nil ?_);obtain ⟨l,ks,rfl,hq,q⟩:=q2;cases r1 with
 | cons r rr=>
  cases rr;cases r;obtain ⟨its,rv,pl,hz⟩:=I2.list hq;have hl:=rv.length;rw [List.length_map] at hl;refine wH (I2.ok.hd hc) pl.isList ks (by rw [List.size_toArray];omega) (fun i v hv=>?_) fun v' h' tk hv' hk=>⟨_,H2,I2.kept hk,?_,q⟩
  ·rw [List.getElem?_toArray] at hv;have hi:i < ks.length:=by have:=(List.getElem?_eq_some_iff.mp hv).1;omega
   obtain ⟨w,hw,rw'⟩:=rv.get (show (ks.map V.int)[i]? = some (.int ks[i]) by rw [List.getElem?_map,List.getElem?_eq_getElem hi];rfl);rw [hv] at hw;cases hw;rw [List.getD_eq_getElem?_getD,List.getElem?_eq_getElem hi];exact rw'
  ·rcases hv' with ⟨rfl,rfl⟩ | ⟨m,t,hm,rfl⟩
   ·exact r2
   ·rw [hm];exact ⟨t,rfl⟩
end
end
section
open PySem.Spec PyProof.Rows
variable {prog:Program} {w:World} {A:Around} {E:Value→Shared→Prop} {s:Shared}
theorem GH {it t:Addr} {i:Nat} {its:Array Value} {Q:Value→Shared→Prop} (hh:A.handled=none) (hi:s.heap.IsTupleIter it t i) (ht:s.heap.IsTuple t its)
  (h1:∀ x h',its[i]? = some x→h'.IsTupleIter it t (i + 1)→Heap.SameBut it s.heap h'→Q x { s with heap:=h' })
  (h2:∀ h' e,its[i]? = none→Heap.ExtBut it s.heap h'→(∃ o,h'.get? e=some o∧o.cls=.type "StopIteration")→E (.ref e) { s with heap:=h' }) :
  wpAny (model prog w) A (Builtin.SmallTypes.nextOf (.ref it)) Q E s:=by
 have ty:=hi.typeIs;obtain ⟨⟨c1,d1,dt1,sl1⟩,e1,c1',f1⟩:=id hi;obtain ⟨⟨c2,d2,dt2,sl2⟩,e2,c2',n2,f2⟩:=id ht;simp only at c1' f1 c2' f2;subst c1' f1 c2' f2;obtain ⟨hp,g,d,tk,os⟩:=s;refine wpAny_bind (wpAny_callSpecial?_slot (name:=Str.ofString "__next__") ty PySem.F.slot_tuple_iterator_next (wpAny_call_entry PySem.F.slot_tuple_iterator_next ty PySem.F.entry_tuple_iterator_next ?_ (PySem.F.args_tuple_iterator_next_1 _)));unfold Builtin.«tuple_iterator.__next__»;have key:∀ y,its[i]? = y→its[(i:Int).toNat]? = y:=fun y z=>z
 cases hx:its[i]? with
 | some x=>
  wp_walk
  rw [key _ hx]
  wp_walk
  refine ⟨x,rfl,wpAny_pure (h1 x _ hx ⟨_,Heap.get?_update_self _ e1 rfl,rfl,rfl⟩ (Heap.SameBut.update ..))⟩
 | none=>
  wp_walk
  rw [key _ hx];have hh1:A.in1.handled=none:=hh;unfold Builtin.SmallTypes.stopIteration
  wp_walk
  exact wpAny_raiseNew_none hh1 (h2 _ _ hx (((Heap.SameBut.update ..).extBut.push _).push _) ⟨_,Heap.get?_push_size _ rfl,rfl⟩)
theorem QK (hh:A.handled=none) {it l:Addr} (ne:l ≠ it) (its:Array Value):Draws prog w A it [it,l] its.size (fun i v=>its[i]? = some v) (fun i h=>h.IsTuple l its∧h.IsTupleIter it l i):=by
 refine { live:=?_,frame:=?_,item:=?_,done:=?_ }
 ·rintro i h zzq;refine zzP fun zzM zzh=>?_
  obtain ⟨_,o,ho,_⟩:=zzq;subst zzh;exact ⟨o,ho⟩
 ·rintro i h h' ⟨a,b⟩ k;refine ⟨a.at ?_,b.at ?_⟩
  ·exact k l (by simp)
  ·exact k it (by simp)
 ·rintro i s Q E lt ⟨a,b⟩ q;refine GH hh b a (fun x h' ex b' sb=>q x h' s.toks ex ⟨a.extBut sb.extBut ne,b'⟩ sb) fun h' e en=>?_
  rw [Array.getElem?_eq_getElem lt] at en;cases en
 ·rintro s Q E ⟨a,b⟩ q;refine GH hh b a (fun x h' ex=>?_) fun h' e _=>q h' e
  rw [Array.getElem?_eq_none (Nat.le_refl _)] at ex;cases ex
theorem GK (l:Addr) (o:Obj) (its:Array Value) (n:Nat) (hc:o.cls=.type "tuple") (hd:o.data=.seq its n) :
  Meets (Builtin.«enumerate.__new__» ⟨[.type "enumerate",.ref l],[]⟩) (fun _ R s=>s.heap.get? l=some o∧∀ hq,hq=(s.heap.push { cls:=.type "tuple_iterator",data:=.fields #[.ref l,.int 0 0] }) →
   R (.ok (.ret (.ref hq.objs.size))) { s with heap:=hq.push { cls:=.type "enumerate",data:=.fields #[.none,.bool false,.ref s.heap.objs.size,rawInt 0,.none,.none] } }):=by
 refine .of_wp fun prog w A R s ⟨e,q⟩=>?_
 have T:s.heap.IsTuple l its:=⟨o,e,hc,n,hd⟩;replace q:=q _ rfl;obtain ⟨c,dc,dt,sl⟩:=o;simp only at hc hd;subst hc hd;obtain ⟨hp,g,d,tk,os⟩:=s;have sb:=sub_enumerate;have go:∀ {A:Around} {E:Value→Shared→Prop} {Q:Value→Shared→Prop},Q (.ref hp.objs.size) ⟨hp.push { cls:=.type "tuple_iterator",data:=.fields #[.ref l,.int 0 0] },g,d,tk,os⟩→wpAny (model prog w) A (pyIter (.ref l)) Q E ⟨hp,g,d,tk,os⟩:=fun h=>wpAny_pyIter_tuple T h
 wp_walk using AutoSeq1.wpAny_loadPart' e
 refine wpAny_stack_any fun st=>wpAny_pure ?_
 generalize hb:List.drop 1 st=b;dsimp only;split
 ·split
  all_goals wp_walk using AutoSeq1.wpAny_loadPart' e,go
  all_goals exact ⟨_,rfl,q⟩
 ·wp_walk using AutoSeq1.wpAny_loadPart' e,go
  exact ⟨_,rfl,q⟩
theorem YH {l:Addr} {its:Array Value} {Q:Value→Shared→Prop} (T:s.heap.IsTuple l its)
  (h:∀ h',IsEnum h' (s.heap.objs.size + 1) s.heap.objs.size 0 .none→h'.IsTupleIter s.heap.objs.size l 0→(∀ b o,s.heap.get? b=some o→h'.get? b=some o)→Q (.ref (s.heap.objs.size + 1)) { s with heap:=h' }) :
  wpAny (model prog w) A (call (.type "enumerate") [.ref l]) Q E s:=by
 obtain ⟨o,e,c,n,d⟩:=T;refine callType_new PySem.F.called_enumerate (by decide) (PySem.F.typeCall_enumerate_1 _) (PySem.F.newCall_enumerate_1 _) (fun obj=>PySem.F.args_object_init_2 obj _) PySem.F.entry_enumerate_new (GK l o its n c d) ⟨e,fun hq eq=>?_⟩;have sz:hq.objs.size=s.heap.objs.size + 1:=by rw [eq];exact Heap.size_push ..
 have at1:hq.get? s.heap.objs.size=some { cls:=.type "tuple_iterator",data:=.fields #[.ref l,.int 0 0] }:=by rw [eq];exact Heap.get?_push_size _ rfl
 have up:∀ b o,s.heap.get? b=some o→hq.get? b=some o:=fun b o z=>by rw [eq];exact Heap.get?_push_of_some _ z
 have at2:=Heap.get?_push_size hq (o:={ cls:=.type "enumerate",data:=.fields #[.none,.bool false,.ref s.heap.objs.size,rawInt 0,.none,.none] }) rfl;show _∧_;rw [sz] at at2 ⊢;exact ⟨⟨_,at2,rfl⟩,h _ at2 ⟨_,Heap.get?_push_of_some _ at1,rfl,rfl⟩ fun b o z=>Heap.get?_push_of_some _ (up b o z)⟩
theorem pJ {l a:Addr} {its:Array Value} {ns:List Int} {led:Bool} {Q:Value→Shared→Prop} (hh:A.handled=none) (T:s.heap.IsTuple l its) (hi:IntsAre its.toList ns) (hb:its.size + 1 < scanBound) (la:l ≠ a)
  (ha:s.heap.get? a=some { cls:=.type "set",dict:=none,data:=.set #[] 0 (.fresh 0 0 led) })
  (h:∀ (h':Heap) (tk:Nat),h'.SetOf (intKind prog w) a (fun k=>(firstMet (fun i=>ns.getD i 0) its.size).any (· == k)) (firstMet (fun i=>ns.getD i 0) its.size).length→(∀ b o,b ≠ a→s.heap.get? b=some o→h'.get? b=some o)→Q .none { s with heap:=h',toks:=tk }) :
  codeAny (model prog w) A (.call (.builtin "set.__init__") ⟨[.ref a,.ref l],[]⟩) (wants Q E) s:=by
 refine codeAny_call_builtin PySem.F.called_set.init.plain PySem.F.entry_set_init (check_set_init_1 ⟨_,ha,rfl⟩ ?_);have lt:l < s.heap.objs.size:=by obtain ⟨o,e,_⟩:=T;exact Heap.lt_size e
 have lt2:=Heap.lt_size ha;obtain ⟨⟨c,dc,dt,sl⟩,e,hc,n,hd⟩:=id T;simp only at hc hd;subst hc hd;obtain ⟨hp,g,d,tk,os⟩:=s;have s0:(Value.type "tuple" == Value.type "dict")=false:=by decide
 have s1:isSubtype (.type "tuple") (.type "set")=pure false:=by rw [isSubtype_type];kernel_rfl
 have s2:isSubtype (.type "tuple") (.type "frozenset")=pure false:=by rw [isSubtype_type];kernel_rfl
 have go:∀ {A:Around} {E:Value→Shared→Prop} {Q:Value→Shared→Prop},Q (.ref hp.objs.size) ⟨hp.push { cls:=.type "tuple_iterator",data:=.fields #[.ref l,.int 0 0] },g,d,tk,os⟩→wpAny (model prog w) A (pyIter (.ref l)) Q E ⟨hp,g,d,tk,os⟩:=fun h=>wpAny_pyIter_tuple T h
 have k2:A.in1.in1.handled=none:=by simp [hh]
 have nl:l ≠ hp.objs.size:=Nat.ne_of_lt lt;have nS:a ∉ [hp.objs.size,l]:=by
  simp only [List.mem_cons,List.not_mem_nil,or_false,not_or];exact ⟨Nat.ne_of_lt lt2,Ne.symm la⟩
 unfold Builtin.«set.__init__» noKeywords Builtin.Frozenset.updateFrom
 wp_walk using go
 refine codeAny_set_update_loopS ((Walks.tuple k2 _ l nl its).toS) _ nS (fun i=>ns.getD i 0) (fun i v z=>hi.int_at i v (by rw [Array.getElem?_toList];exact z)) hb _ 0 _ rfl (Nat.zero_le _) ⟨⟨_,Heap.get?_push_size _ rfl,rfl,rfl⟩,T.push _⟩ ?_ fun s' m S'=>?_
 ·refine SetOf_congr ((setObjOf_fresh (knd:=intKind prog w) led).setOf (Heap.get?_push_of_some _ ha) (by unfold scanBound;omega)) (fun _=>rfl) rfl
 ·obtain ⟨h',g',d',tk',os'⟩:=s';obtain rfl:g'=g:=m.gens;obtain rfl:d'=d:=m.drawn;obtain rfl:os'=os:=m.os;refine wpAny_pure (wpAny_pure (h h' tk' S' fun b o nb z=>m.heap b o ?_ (Heap.get?_push_of_some _ z)));simp only [List.mem_cons,List.not_mem_nil,or_false,not_or];exact ⟨nb,Nat.ne_of_lt (Heap.lt_size z)⟩
theorem AK {l:Addr} {its:Array Value} {ns:List Int} {Q:Value→Shared→Prop} (hh:A.handled=none) (T:s.heap.IsTuple l its) (hi:IntsAre its.toList ns) (hb:its.size + 1 < scanBound)
  (h:∀ (h':Heap) (tk:Nat),h'.SetOf (intKind prog w) s.heap.objs.size (fun k=>(firstMet (fun i=>ns.getD i 0) its.size).any (· == k)) (firstMet (fun i=>ns.getD i 0) its.size).length→(∀ b o,s.heap.get? b=some o→h'.get? b=some o)→Q (.ref s.heap.objs.size) { s with heap:=h',toks:=tk }) :
  wpAny (model prog w) A (call (.type "set") [.ref l]) Q E s:=by
 have lt:l < s.heap.objs.size:=by obtain ⟨o,e,_⟩:=T;exact Heap.lt_size e
 have ft:=PySem.F.called_set;have f0:=PySem.F.typeCall_set_1 (.ref l);have f1:=ft.made;have f2:=ft.sub;have f3:=ft.notType;have f4:=ft.canCreate;have f5:=ft.init.lookup;obtain ⟨mc,mt,f6⟩:=ft.mro;refine wpAny_call (codeAny_of_tree (wpAny_pure ⟨Code.quiet_builtin _ (by decide +kernel),codeAny_builtin PySem.F.entry_type_call ?_⟩));rw [Around.under_plain (weight_type_call_type _ _ _) rfl]
 wp_walk
 refine codeAny_mono (code_set_new_1 (.ref l) (E:=E) (Q₁:=fun o s1=>∃ led:Bool,o=.ref s.heap.objs.size∧s1 = { s with heap:=s.heap.push { cls:=.type "set",dict:=none,data:=.set #[] 0 (.fresh 0 0 led) } }) fun led=>⟨led,rfl,rfl⟩) ?_;rintro (er | (_ | _ | _ | v)) s1 z
 ·exact z
 ·exact z.elim
 ·exact z.elim
 ·exact z.elim
 obtain ⟨led,rfl,rfl⟩:=z;have at0:(s.heap.push { cls:=.type "set",dict:=none,data:=.set #[] 0 (.fresh 0 0 led) }).get? s.heap.objs.size=some { cls:=.type "set",dict:=none,data:=.set #[] 0 (.fresh 0 0 led) }:=Heap.get?_push_size _ rfl;have f7:=ft.init.bind (.ref s.heap.objs.size);have ty:Shared.TypeIs { s with heap:=s.heap.push { cls:=.type "set",dict:=none,data:=.set #[] 0 (.fresh 0 0 led) } } (.ref s.heap.objs.size) "set" := ⟨_,at0,rfl⟩
 wp_walk
 refine codeAny_mono (pJ (E:=E) (Q:=fun v s2=>v=.none∧Q (.ref s.heap.objs.size) s2) (show A.in1.handled=none by simp [hh]) (T.push _) hi hb (Nat.ne_of_lt lt) at0 fun h' tk S' k=>⟨rfl,h h' tk S' fun b o z=>k b o (Nat.ne_of_lt (Heap.lt_size z)) (Heap.get?_push_of_some _ z)⟩) ?_;rintro (er | (_ | _ | _ | v)) s2 z
 ·exact z
 ·exact z.elim
 ·exact z.elim
 ·exact z.elim
 obtain ⟨rfl,z⟩:=z;exact wpAny_pure (wpAny_pure z)
end
section
open PySem.Spec PyProof.Rows
noncomputable def Iet (K:PySem.W.Frag) (a:Addr):It:=
 ⟨fun i H=>∃ xs x,SqT K H a xs∧xs[i]? = some x,fun i H v H'=>∃ p y,H p=none∧v=.ref p∧(∀ xs,SqT K H a xs→xs[i]? = some y)∧H'=upd H p (.tup [.int i,y]),fun i H=>∃ xs,SqT K H a xs∧xs.length=i⟩
theorem dE {P:Program} {w:World} {K:PySem.W.Frag} {es:List Expr} {k} {pos:Pos} (a e it:Addr) (hne:e ≠ it) (hea:e ≠ a) (hai:a ≠ it) :
  mG P w K (.Tuple es k pos) (Iet K a) [e,it] e (fun i h=>∃ old,IsEnum h e it ((i:Nat):Int) old∧h.IsTupleIter it a i) where
 mem:=by simp
 obj:=fun i h ⟨old,he,hi⟩ b hb=>by
  simp only [List.mem_cons,List.not_mem_nil,or_false] at hb;rcases hb with rfl | rfl
  ·exact ⟨_,he,fun v z=>by
    have z':Data.fields _=Data.cell v:=z;cases z'⟩
  ·obtain ⟨o,q,c,d⟩:=hi;exact ⟨o,q,fun v z=>by rw [d] at z;cases z⟩
 keep:=fun i h h' ⟨old,he,hi⟩ k=>⟨old,k e (by simp) _ he,hi.at fun o q=>k it (by simp) o q⟩
 item:=by
  intro X hP hw hK hc i pins s σ H E I hf ⟨old,he,hi⟩ hg;subst hP hw hK;obtain ⟨xs,x,hq,hx⟩:=hg;obtain ⟨its,rv,p,hz⟩:=I.tuple hq;obtain ⟨u,hu,ru⟩:=rv.get hx;have hlt:i < its.toArray.size:=by
   rw [List.size_toArray];exact (List.getElem?_eq_some_iff.mp hu).1
  refine wpAny_pyNext_enum_itemD (QK (A:=X.A.in1) (it:=it) (I.ok.hd hc) hai its.toArray) he ⟨p,hi⟩ hlt hne (by simp [hne,hea]) fun y h1 tk hy he1 hi1 ht1 hz1 hk1=>⟨_,rfl,?_⟩
  obtain rfl:y=u:=by
   rw [List.getElem?_toArray,hu] at hy;exact (Option.some.inj hy).symm
  refine wpAny_letOwnedTupleGo_enum he1 fun h2 he2 hs2=>?_
  replace hs2:Heap.SameBut e h1 h2:=hs2;have hel:e < s.heap.objs.size:=Heap.lt_size he;have hk:∀ b o,b ∉ [e,it]→s.heap.get? b=some o→h2.get? b=some o:=fun b o hb q=>by
   simp only [List.mem_cons,List.not_mem_nil,or_false,not_or] at hb;exact hs2.extBut _ _ hb.1 (hk1 b o hb.1 hb.2 q)
  have I1:Inv X pins σ H { s with heap:=h2,toks:=tk + 1 }:=I.turnedL hk hf;have fo:zw X pins H s.heap.objs.size:=I.fpOk (Nat.le_refl _) (I.hok.fresh (Nat.le_refl _));have ht2:h2.get? s.heap.objs.size=some { cls:=.type "tuple",data:=.seq #[.int i tk,y] }:=(hs2.2 _ (Nat.ne_of_gt hel)).trans ht1;have I2:=I1.adopt (o:=.tup [.int i,x]) fo ⟨⟨by show 2 ≤ sizeLine;decide,_,ht2,rfl⟩,[.int i tk,y],.cons ⟨_,rfl⟩ (.cons ru .nil),⟨_,ht2,rfl,_,rfl⟩⟩;refine ⟨.ref s.heap.objs.size,_,I2,rfl,⟨_,x,fo.1,rfl,fun ys hy=>by rw [I.tuple_inj hy hq];exact hx,rfl⟩,⟨y,?_,?_⟩,fun b hb=>?_⟩
  ·have e1:((i + 1:Nat):Int)=(i:Int) + 1:=by omega
   rw [e1];exact he2
  ·exact hi1.2.extBut hs2.extBut (Ne.symm hne)
  ·have hlt:b < s.heap.objs.size:=by
    simp only [List.mem_cons,List.not_mem_nil,or_false] at hb;rcases hb with rfl | rfl
    ·exact hel
    ·obtain ⟨o,q,_⟩:=hi;exact Heap.lt_size q
   rw [wb (Nat.ne_of_lt hlt)];exact (hf b hb).1
 done:=by
  intro X hP hw hK hc i pins s σ H E I hf ⟨old,he,hi⟩ hg;subst hP hw hK;obtain ⟨xs,hq,hx⟩:=hg;obtain ⟨its,rv,p,hz⟩:=I.tuple hq;have hl:=rv.length;obtain rfl:i=its.toArray.size:=by rw [List.size_toArray];omega
  exact wpAny_pyNext_enum_endD (QK (A:=X.A.in1) (it:=it) (I.ok.hd hc) hai its.toArray) he ⟨p,hi⟩ fun h' eb=>⟨rfl,I.turnedL (t':=s.toks) (fun b o hb q=>eb b o (fun z=>hb (by simp [z])) q) hf⟩
 self:=fun _ _ _ _ _ ⟨_,he,_⟩ h=>wpAny_pyIter_enum he h
variable {X:Cx}
noncomputable def SK (K:PySem.W.Frag) (ta:TA):TI:=fun σ H R=>ta σ H fun vs H1=>∃ a,vs=[.ref a]∧(∃ xs,SqT K H1 a xs)∧R (Iet K a) H1
theorem lK {es:List Expr} {k} {tpos:Pos} {a:Expr} {ta:TA} {p pos:Pos} (hg:Gl X "enumerate") (hm:X.mg "enumerate"=none) (ha:PA X [a] ta) (hs:starEach [a] X.env=[(false,eval a X.env)]:=by rfl) :
  PI X (.Tuple es k tpos) (.Call (.Name "enumerate" p) [a] [] pos) (SK X.K ta):=by
 intro pins s σ H R I h;refine Call_ (Sj I hg hm L2.Om (PyProof.Rows.callWith_type1 (thn (ha pos pins s σ H _ I h) fun us s1 ⟨vs,H1,I1,r1,q1⟩=>?_) hs rfl));obtain ⟨a,e,⟨xs,hq⟩,q⟩:=q1;subst e;cases r1 with
 | cons r rr=>
  cases rr;cases r;obtain ⟨its,rv,pl,hz⟩:=I1.tuple hq;have hal:a < s1.heap.objs.size:=by obtain ⟨_,e,_⟩:=pl;exact Heap.lt_size e
  refine YH pl fun h' hE hI hk=>wpAny_pyIter_enum hE ?_
  refine ⟨s1.heap.objs.size + 1,[s1.heap.objs.size + 1,s1.heap.objs.size],_,_,H1,rfl,I1.kept (t':=s1.toks) hk,dE a _ _ (Nat.succ_ne_self _) (Nat.ne_of_gt (Nat.lt_succ_of_lt hal)) (Nat.ne_of_lt hal),⟨_,hE,hI⟩,fun b hb=>?_,q⟩;have hb':s1.heap.objs.size ≤ b:=by
   simp only [List.mem_cons,List.not_mem_nil,or_false] at hb;rcases hb with rfl | rfl
   ·exact Nat.le_succ _
   ·exact Nat.le_refl _
  exact I1.fpOk hb' (I1.hok.fresh hb')
end
section
open PySem.Spec PyProof.Rows
theorem aF {ns:List Int}:∀ {σ:List Int},(ns.foldl step_dedup σ).length=σ.length + ns.length↔ns.Nodup∧∀ x ∈ ns,x ∉ σ:=by
 induction ns with
 | nil=>intro σ;simp
 | cons x ns ih=>
  intro σ;rw [List.foldl_cons,show step_dedup σ x=if σ.any (· == x) then σ else σ ++ [x] from rfl];by_cases hx:x ∈ σ
  ·rw [if_pos (by simpa using hx)];have:=foldl_step_dedup_length_le σ ns;constructor
   ·intro h;rw [List.length_cons] at h;omega
   ·intro h;exact absurd hx (h.2 x (List.mem_cons_self ..))
  ·rw [if_neg (by simpa using hx)];have e:=@ih (σ ++ [x]);rw [List.length_append,List.length_singleton] at e;rw [List.length_cons,show σ.length + (ns.length + 1)=σ.length + 1 + ns.length by omega,List.nodup_cons];refine e.trans ⟨fun h=>⟨⟨fun hm=>h.2 x hm (by simp),h.1⟩,fun y hy=>?_⟩,fun h=>⟨h.1.2,fun y hy hm=>?_⟩⟩
   ·rcases List.mem_cons.mp hy with rfl | hy
    ·exact hx
    ·exact fun z=>h.2 y hy (by simp [z])
   ·rcases List.mem_append.mp hm with z | z
    ·exact h.2 y (List.mem_cons_of_mem _ hy) z
    ·rw [List.mem_singleton.mp z] at hy;exact h.1.1 hy
theorem Lz (ns:List Int):(firstMet (fun i=>ns.getD i 0) ns.length).length < ns.length↔¬ ns.Nodup:=by
 have e:firstMet (fun i=>ns.getD i 0) ns.length=ns.foldl step_dedup []:=by
  unfold firstMet;congr 1;refine List.ext_getElem? fun i=>?_
  rw [List.getElem?_map];by_cases hi:i < ns.length
  ·rw [List.getElem?_range hi];show some (ns.getD i 0)=_;rw [List.getD_eq_getElem?_getD,List.getElem?_eq_getElem hi];rfl
  ·rw [List.getElem?_eq_none (by simpa using hi),List.getElem?_eq_none (by omega)];rfl
 have h1:=@aF ns [];have h2:=foldl_step_dedup_length_le [] ns;rw [e];simp only [List.length_nil,Nat.zero_add,List.not_mem_nil,not_false_eq_true,implies_true,and_true] at h1 h2;rw [← h1];omega
variable {prog:Program} {w:World} {A:Around} {E:Value→Shared→Prop} {s:Shared}
theorem RC {α:Type} {f:α→Int} {c:Int} {l:List α} (h:(l.map f).Nodup):(l.filter fun x=>f x == c).length ≤ 1:=by
 induction l with
 | nil=>simp
 | cons x l ih=>
  rw [List.map_cons,List.nodup_cons] at h;rw [List.filter_cons];split
  ·rename_i hx;have hx':f x=c:=by simpa using hx
   rw [List.filter_eq_nil_iff.mpr (fun y hy z=>h.1 (by rw [hx',← (show f y=c by simpa using z)];exact List.mem_map_of_mem hy))];exact Nat.le_refl _
  ·exact ih h.2
theorem aJ {a:Addr} {o:Obj} {es:Array DictEntry} {ep:Nat} {Q:Value→Shared→Prop} (ha:(a == sysModules)=false) (r:SL s.heap a o es ep) (hk:∀ e ∈ es,∃ b,e.key=.ref b∧s.TypeIs (.ref b) "tuple") (hh:(es.toList.map (·.hash)).Nodup) (hz:es.size ≤ sizeLine)
  (h:∀ h' o' ep',h'.get? s.heap.objs.size=some o'→o'.ExactDict→o'.data=.dict es ep'→(∀ b q,s.heap.get? b=some q→h'.get? b=some q)→Q (.ref s.heap.objs.size) { s with heap:=h' }) :
  wpAny (model prog w) A (call (.type "dict") [.ref a]) Q E s:=by
 refine callType_codes (Q₁:=fun obj s₁=>obj=.ref s.heap.objs.size∧s₁ = { s with heap:=s.heap.push { cls:=.type "dict",data:=.dict #[] } }) PySem.F.kt_called_dict (PySem.F.kt_typeCall_dict_1 _) PySem.F.entry_dict_init (kt_code_dict_new _ ⟨rfl,rfl⟩) ?_;rintro obj s₁ ⟨rfl,rfl⟩;have hn:(s.heap.push { cls:=.type "dict",data:=.dict #[] }).get? s.heap.objs.size=some { cls:=.type "dict",data:=.dict #[] }:=Heap.get?_push_size _ rfl;have ho:(s.heap.push { cls:=.type "dict",data:=.dict #[] }).get? a=some o:=Heap.get?_push_of_some _ r.at_;have tn:Shared.TypeIs { s with heap:=s.heap.push { cls:=.type "dict",data:=.dict #[] } } (.ref s.heap.objs.size) "dict" := ⟨_,hn,rfl⟩;have to:Shared.TypeIs { s with heap:=s.heap.push { cls:=.type "dict",data:=.dict #[] } } (.ref a) "dict" := ⟨_,ho,r.ex.1⟩;have hne:s.heap.objs.size ≠ a:=fun e=>absurd (Heap.lt_size r.at_) (by rw [e];exact Nat.lt_irrefl _)
 refine ⟨tn,PySem.F.args_dict_init_2 _ _,?_⟩;unfold Builtin.«dict.__init__»;refine wpAny_bind ?_;unfold Builtin.Dict.selfAndRest;refine wpAny_bind (wpAny_notOrdered_dict tn ?_);show wpAny _ _ (pure (s.heap.objs.size,[Value.ref a])) _ _ _;refine wpAny_pure ?_;show wpAny _ _ (Builtin.Dict.updateFrom "dict.__init__" s.heap.objs.size (.ref a) [] .none) _ _ _;unfold Builtin.Dict.updateFrom;refine wpAny_bind (wpAny_typeOf to ?_);rw [if_neg (by decide)];refine wpAny_bind ?_;unfold Builtin.Dict.merge;refine wpAny_bind ?_;unfold Builtin.Dict.readDirectly;refine wpAny_bind (wpAny_isInstance to isSubtype_dict_dict ?_);simp only [Bool.not_true,Bool.false_eq_true,if_false];refine wpAny_bind (wpAny_specialOf to PySem.F.slot_dict_iter.lookup (wpAny_pure ?_));simp only [beq_self_eq_true,if_true];refine wpAny_bind (wpAny_pure ?_);unfold Builtin.Dict.mergeDict;rw [if_neg (by simpa using hne)];unfold Builtin.Dict.showsAll;rw [if_neg (by rw [ha];exact Bool.false_ne_true)];refine wpAny_bind (wpAny_pure (wpAny_bind (wpAny_dictEntries ho r.dat ?_)));by_cases he:es=#[]
 ·subst he;dsimp only;rw [if_neg (by simp)];refine wpAny_bind (wpAny_dictEpoch ho r.dat (wpAny_bind (wpAny_dictEntries ho r.dat (wpAny_bind ?_))));rw [Std.Legacy.Range.forIn_eq_forIn_range'];refine wpAny_pure (wpAny_pure ?_);exact wpAny_bind (wpAny_pure (wpAny_pure ⟨rfl,h _ _ _ hn ⟨rfl,rfl,rfl⟩ rfl fun b q e=>Heap.get?_push_of_some _ e⟩))
 ·have hf:(decide (es.size ≤ 8) && es.all fun e=>(keyPart e.key).isSome)=false:=by
   rw [Bool.and_eq_false_iff];refine .inr (Bool.eq_false_iff.mpr fun z=>?_);rw [Array.all_eq_true_iff_forall_mem] at z;have h0:0 < es.size:=Nat.pos_of_ne_zero fun q=>he (Array.eq_empty_of_size_eq_zero q)
   obtain ⟨b,hb,_⟩:=hk _ (Array.getElem_mem h0);have:=z _ (Array.getElem_mem h0);rw [hb] at this;cases this
  dsimp only;rw [hf,if_pos (show (!false)=true from rfl)];refine wpAny_bind (wpAny_dictEntries hn rfl ?_);rw [if_pos (show Array.isEmpty (#[]:Array DictEntry)=true from rfl)];refine wpAny_bind ?_;unfold Builtin.Dict.entriesForEmpty;refine wpAny_bind (wpAny_dictEntries ho r.dat (wpAny_bind ?_));rw [← Array.forIn_toList];refine wpAny_forIn_list _ (fun aA _ s'=>s' = { s with heap:=s.heap.push { cls:=.type "dict",data:=.dict #[] } }∧∀ e ∈ aA,e ∈ es) _ ?_ ?_ _ _ ⟨rfl,fun e he=>Array.mem_toList_iff.mp he⟩
  ·rintro e aA u s' ⟨rfl,hm⟩;obtain ⟨b,hb,ob,hob,hoc⟩:=hk e (hm e (List.mem_cons_self ..));have tb:Shared.TypeIs { s with heap:=s.heap.push { cls:=.type "dict",data:=.dict #[] } } (.ref b) "tuple" := ⟨ob,Heap.get?_push_of_some _ hob,hoc⟩;unfold Builtin.Dict.quietEq;rw [hb];refine wpAny_bind (wpAny_bind (wpAny_specialOf tb PySem.F.slot_tuple_eq.lookup (wpAny_pure ?_)));rw [if_pos (by decide +kernel),if_neg (Nat.not_lt.mpr ?_)]
   ·exact wpAny_pure ⟨rfl,fun e he=>hm e (List.mem_cons_of_mem _ he)⟩
   ·rw [← Array.length_toList,Array.toList_filter];exact RC hh
  ·rintro u s' ⟨rfl,_⟩;refine wpAny_pure ?_;rw [if_pos (by simp [he])];refine wpAny_bind (wpAny_updateDictKeysTo hn rfl (wpAny_pure ?_) (by omega));refine wpAny_bind (wpAny_pure (wpAny_pure ⟨rfl,?_⟩));refine h _ _ _ (Heap.get?_update_self _ hn (Obj.isFreed_of_dict (Obj.data_mapDictKeys rfl _))) ((show Obj.ExactDict { cls:=.type "dict",data:=.dict #[] } from ⟨rfl,rfl,rfl⟩).mapDictKeys _) (Obj.data_mapDictKeys rfl _) fun b q e=>?_
   exact (Heap.get?_update_other _ _ (fun z=>absurd (Heap.lt_size e) (by rw [← z];exact Nat.lt_irrefl _))).trans (Heap.get?_push_of_some _ e)
end
section
open PySem.Spec PyProof.Rows
variable {X:Cx}
noncomputable def MM (P:Program) (w:World) (k:List Key):Int:=(tupleKind (Ge P w)).hash k
theorem CH (hc:X.calm=true):rk X (.type "set") (fun xs H Q=>∃ r ns,xs=[.ref r]∧H r=some (.tup (List.map V.int ns))∧ns.length ≤ 1000∧∀ p S n,(n < ns.length↔¬ ns.Nodup)→n ≤ 1000→H p=none→Q (.ref p) (upd H p (.set S n))):=by
 intro pins s σ H xs us Q I r h;obtain ⟨t,ns,rfl,et,hl,q⟩:=h;obtain ⟨u,rfl,ru⟩:=qo r;cases ru;obtain ⟨its,rv,pl,hz⟩:=I.tuple (SqT.of et);have hi:=jv rv;have hlen:=hi.length;have hb:its.toArray.size=ns.length:=by rw [List.size_toArray,hlen]
 refine AK (I.ok.hd hc) pl (by simpa using hi) (by rw [hb];show ns.length + 1 < 4096;omega) fun h' tk hS hk=>?_
 rw [hb] at hS;refine ⟨.ref s.heap.objs.size,_,I.laid (a:=s.heap.objs.size) (o:=.set _ _) (t':=tk) hk (Nat.le_refl _) hS,rfl,q _ _ _ (Lz ns) (Nat.le_trans (firstMet_length_le _ _) hl) (I.hok.fresh (Nat.le_refl _))⟩
theorem JC:bootBuiltins "set"=some (.type "set"):=by decide +kernel
theorem uF:rk X (.builtin "len") (fun xs H Q=>∃ p S n,xs=[.ref p]∧H p=some (.set S n)∧n ≤ 1000∧Q (.int (n:Nat)) H):=by
 intro pins s σ H xs us Q I r h;obtain ⟨p,S,n,rfl,e,hn,q⟩:=h;obtain ⟨u,rfl,ru⟩:=qo r;cases ru;obtain ⟨o,es,ep,t,h1,h2,h3,_,_,_,h4,h5⟩:=(show s.heap.SetOf (intKind X.prog X.w) p S n from I.hok p _ e);refine call_len_set h1 h2 h3 h4 (by omega) ⟨.int (n:Nat),H,I.tok _,⟨_,by rw [h5]⟩,q⟩
theorem vG {R:(List Key × V)→(List Key × Addr × Value)→Prop} {kvs:List (List Key × V)} {xs:List (List Key × Addr × Value)} (h:Paired (fun p q=>p.1=q.1∧R p q) kvs xs) (f:List Key→Int):(kvs.map fun p=>f p.1)=xs.map fun x=>f x.1:=by
 induction h with
 | nil=>rfl
 | cons z _ ih=>rw [List.map_cons,List.map_cons,ih,z.1]
theorem MD:rk X (.type "dict") (fun xs H Q=>∃ d kvs,xs=[.ref d]∧vn X.prog X.w H d kvs∧(kvs.map fun p=>MM X.prog X.w p.1).Nodup∧∀ p o,H p=none→vn X.prog X.w (upd H p (.ext (AtO p o))) p kvs→Q (.ref p) (upd H p (.ext (AtO p o)))):=by
 intro pins s σ H xs us Q I r h;obtain ⟨d,kvs,rfl,⟨o,es,ep,xs,D⟩,hn,q⟩:=h;obtain ⟨u,rfl,ru⟩:=qo r;cases ru;have hlen:=Tq D.ks;have hsz:es.size=xs.length:=size_of_entries D.ent;refine aJ D.ns (Lq I.hok D) (fun e he=>?_) ?_ (by have:=D.sz;omega) fun h' o' ep' g1 g2 g3 g4=>?_
 ·obtain ⟨x,hx,rfl⟩:=List.mem_map.mp (D.ent ▸ Array.mem_toList_iff.mpr he);obtain ⟨i,hi⟩:=List.getElem?_of_mem hx;have hi':i < kvs.length:=by rw [hlen];exact (List.getElem?_eq_some_iff.mp hi).1
  obtain ⟨y,hy,z⟩:=ZG D.ks (List.getElem?_eq_getElem hi');rw [hi] at hy;cases hy;obtain ⟨ob,its,n,h1,h2,_⟩:=Ls I.hok z.2.1;exact ⟨x.2.1,rfl,ob,h1,h2⟩
 ·rw [D.ent,List.map_map];rw [vG D.ks (fun k=>MM X.prog X.w k)] at hn;exact hn
 ·have hp:H s.heap.objs.size=none:=I.hok.fresh (Nat.le_refl _);have S1:Ib H (upd H s.heap.objs.size (.ext (AtO s.heap.objs.size o'))):=fb hp;refine ⟨.ref s.heap.objs.size,_,I.laid (a:=s.heap.objs.size) (o:=.ext (AtO s.heap.objs.size o')) (t':=s.toks) g4 (Nat.le_refl _) ⟨g1,⟨o',g1⟩,fun _ _ q k=>k o' q⟩,rfl,q _ _ hp ⟨o',es,ep',xs,db,g2,g3,D.ent,D.nd,Paired.mapP D.ks fun p q z=>⟨z.1,S1 _ _ z.2.1,z.2.2⟩,D.sz,beq_eq_false_iff_ne.mpr (Ne.symm (Nat.ne_of_lt I.big))⟩⟩
end
noncomputable def hsh (p:Nat × Nat):Int:=reduceHash (Builtin.Tuple.tupleHashOf [hashInt (p.1:Int),hashInt (p.2:Int)])
noncomputable def prs:List (Nat × Nat):=(List.range 6).flatMap fun i=>(List.range 6).map fun j=>(i,j)
theorem nO:(prs.map hsh).Nodup:=by decide +kernel
theorem GF {p:Nat × Nat} (h1:p.1 < 6) (h2:p.2 < 6):p ∈ prs:=List.mem_flatMap.mpr ⟨p.1,List.mem_range.mpr h1,List.mem_map.mpr ⟨p.2,List.mem_range.mpr h2,rfl⟩⟩
theorem tN {α:Type} {f:α→Int} {l:List α} (h:(l.map f).Nodup):∀ x ∈ l,∀ y ∈ l,f x=f y→x=y:=by
 induction l with
 | nil=>intro x hx;cases hx
 | cons a l ih=>
  rw [List.map_cons,List.nodup_cons] at h;intro x hx y hy e;rcases List.mem_cons.mp hx with hx | hx <;> rcases List.mem_cons.mp hy with hy | hy
  ·rw [hx,hy]
  ·rw [hx] at e;exact absurd (e ▸ List.mem_map_of_mem hy) h.1
  ·rw [hy] at e;exact absurd (e ▸ List.mem_map_of_mem hx) h.1
  ·exact ih h.2 x hx y hy e
end My
namespace My
open PySem L2
structure Sys where
 m:Nat
 e:Nat→Nat→Bool
 st:Nat→Nat→Int
 al:Nat→Int
structure Sys.Ok (S:Sys):Prop where
 lt:∀ {i j},S.e i j=true→i < S.m∧j < S.m∧i ≠ j
 sy:∀ {i j},S.e i j=true→S.e j i=true
 s1:∀ {i j},S.e i j=true→1 ≤ S.st i j
 a1:∀ {i},i < S.m→1 ≤ S.al i
noncomputable abbrev Od:=List (Nat × Nat)
noncomputable def inO (o:Od) (i j:Nat):Bool:=decide ((i,j) ∈ o) || decide ((j,i) ∈ o)
noncomputable def wtO (S:Sys) (z:Int) (o:Od) (i j:Nat):Int:=if (j,i) ∈ o then S.st i j - z else S.st i j
noncomputable def pwO (S:Sys) (z:Int) (o:Od):List Nat→Int
 | []=>0
 | [_]=>0
 | x :: y :: r=>wtO S z o x y + pwO S z o (y :: r)
noncomputable def Vu (o:Od):List Nat→Bool
 | []=>true
 | [_]=>true
 | x :: y :: r=>inO o x y && Vu o (y :: r)
noncomputable def Fk (S:Sys) (z:Int) (o:Od) (r:List Nat):Bool:=decide (2 ≤ r.length) && decide r.Nodup && Vu o (r ++ r.take 1) && decide (0 < pwO S z o (r ++ r.take 1))
inductive Pap where
 | alone (k:Nat)
 | ring (r:List Nat)
 | case (i j:Nat) (p q:Pap)
noncomputable def zk (S:Sys) (z:Int) (o:Od):Pap→Bool
 | .alone k=>decide (z < S.al k)
 | .ring r=>Fk S z o r
 | .case i j p q=>S.e i j && !inO o i j && zk S z (o ++ [(i,j)]) p && zk S z (o ++ [(j,i)]) q
noncomputable def FD (m:Nat):Nat→Pap→Prop
 | _,.alone k=>k < m
 | _,.ring r=>∀ k ∈ r,k < m
 | 0,.case _ _ _ _=>False
 | d + 1,.case i j p q=>i < m∧j < m∧FD m d p∧FD m d q
def sk (S:Sys) (z:Int) (b:Nat→Int):Prop:=(∀ k,k < S.m→S.al k ≤ z)∧∀ i j,S.e i j=true→S.st i j ≤ (b j - b i) % z
noncomputable def cB (z:Int) (b:Nat→Int) (i:Nat):Int:=(b i - b 0) % z
def YM (S:Sys) (z:Int) (b:Nat→Int) (o:Od):Prop:=∀ q ∈ o,S.e q.1 q.2=true∧cB z b q.1 < cB z b q.2
section
variable {S:Sys} {z:Int} {b:Nat→Int} {o:Od}
theorem Ax (hz:0 < z) (i:Nat):0 ≤ cB z b i∧cB z b i < z:=⟨Int.emod_nonneg _ (by omega),Int.emod_lt_of_pos _ hz⟩
theorem wC (i j:Nat):(b j - b i) % z=(cB z b j - cB z b i) % z:=by
 unfold cB;rw [show b j - b i=(b j - b 0) - (b i - b 0) by omega,Int.sub_emod]
theorem mdU {x y:Int} (h:x ≤ y) (hx:0 ≤ x) (hy:y < z):(y - x) % z=y - x:=Int.emod_eq_of_lt (by omega) (by omega)
theorem mdD {x y:Int} (h:y < x) (hx:x < z) (hy:0 ≤ y):(y - x) % z=y - x + z:=by
 rw [← Int.add_emod_right];exact Int.emod_eq_of_lt (by omega) (by omega)
theorem sk.ne (k:S.Ok) (D:sk S z b) {i j:Nat} (h:S.e i j=true):cB z b i ≠ cB z b j:=fun q=>by
 have h1:=D.2 i j h;have h2:=k.s1 h;rw [wC,q,Int.sub_self,Int.zero_emod] at h1;omega
theorem sk.step (k:S.Ok) (hz:0 < z) (D:sk S z b) (C:YM S z b o) {i j:Nat} (h:inO o i j=true):wtO S z o i j ≤ cB z b j - cB z b i:=by
 have r1:=Ax (b:=b) hz i;have r2:=Ax (b:=b) hz j;unfold wtO;split
 ·rename_i hm;obtain ⟨e,l⟩:S.e j i=true∧cB z b j < cB z b i:=C _ hm;have:=D.2 i j (k.sy e);rw [wC,mdD l r1.2 r2.1] at this;omega
 ·rename_i hm;have hm':(i,j) ∈ o:=by simpa [inO,hm] using h
  obtain ⟨e,l⟩:S.e i j=true∧cB z b i < cB z b j:=C _ hm';have:=D.2 i j e;rw [wC,mdU (Int.le_of_lt l) r1.1 r2.2] at this;exact this
theorem sk.path (k:S.Ok) (hz:0 < z) (D:sk S z b) (C:YM S z b o):∀ (r:List Nat) (x y:Nat),Vu o (x :: r ++ [y])=true→pwO S z o (x :: r ++ [y]) ≤ cB z b y - cB z b x:=by
 intro r
 induction r with
 | nil=>
  intro x y h;have h':inO o x y=true:=by simpa [Vu] using h
  have:=D.step k hz C h';show wtO S z o x y + 0 ≤ _;omega
 | cons u r ih=>
  intro x y h;have h':inO o x u=true∧Vu o (u :: r ++ [y])=true:=by simpa [Vu] using h
  have h1:=D.step k hz C h'.1;have h2:=ih u y h'.2;show wtO S z o x u + pwO S z o (u :: r ++ [y]) ≤ _;omega
theorem sk.no_ring (k:S.Ok) (hz:0 < z) (D:sk S z b) (C:YM S z b o) (r:List Nat):Fk S z o r=false:=by
 rw [Bool.eq_false_iff];intro h;cases r with
 | nil=>simp [Fk] at h
 | cons x r=>
  unfold Fk at h;simp only [Bool.and_eq_true,decide_eq_true_eq] at h;have:=D.path k hz C r x x h.1.2;have h2:=h.2;rw [show (x :: r) ++ (x :: r).take 1=x :: r ++ [x] from rfl] at h2;omega
theorem sk.cons (C:YM S z b o) {i j:Nat} (h:S.e i j=true) (hl:cB z b i < cB z b j):YM S z b (o ++ [(i,j)]):=fun q hq=>by
 rcases List.mem_append.mp hq with hq | hq
 ·exact C q hq
 ·rw [List.mem_singleton.mp hq];exact ⟨h,hl⟩
theorem sk.sound (k:S.Ok) (hz:0 < z) (D:sk S z b) (hk:∀ i,S.m ≤ i→S.al i ≤ z):∀ (p:Pap) (o:Od),YM S z b o→zk S z o p=false:=by
 intro p
 induction p with
 | alone i=>
  intro o _;have:S.al i ≤ z:=by
   by_cases h:i < S.m
   ·exact D.1 i h
   ·exact hk i (by omega)
  simp [zk];omega
 | ring r=>exact fun o C=>D.no_ring k hz C r
 | case i j p q ihp ihq=>
  intro o C;unfold zk;cases he:S.e i j with
  | false=>rfl
  | true=>
   rcases Int.lt_or_lt_of_ne (D.ne k he) with h | h
   ·rw [ihp _ (sk.cons C he h),Bool.and_false,Bool.false_and]
   ·rw [ihq _ (sk.cons C (k.sy he) h),Bool.and_false]
noncomputable def fE (S:Sys):Nat→Od
 | 0=>[]
 | k + 1=>fE S k ++ (if S.e 0 (k + 1) then [(0,k + 1)] else [])
noncomputable def Ry (S:Sys):Od:=fE S (S.m - 1)
theorem Vl {k:Nat} {q:Nat × Nat} (h:q ∈ fE S k):q.1=0∧0 < q.2∧q.2 ≤ k∧S.e 0 q.2=true:=by
 induction k with
 | zero=>cases h
 | succ k ih=>
  unfold fE at h;rcases List.mem_append.mp h with h | h
  ·have:=ih h;exact ⟨this.1,this.2.1,by omega,this.2.2.2⟩
  ·split at h
   ·rename_i he;rw [List.mem_singleton.mp h];exact ⟨rfl,Nat.succ_pos _,Nat.le_refl _,he⟩
   ·cases h
theorem kN:∀ k,(fE S k).Nodup:=by
 intro k
 induction k with
 | zero=>exact List.nodup_nil
 | succ k ih=>
  unfold fE;split
  ·rw [List.nodup_append];refine ⟨ih,by simp,fun x hx y hy e=>?_⟩;have:=Vl hx;rw [List.mem_singleton.mp hy] at e;rw [e] at this;omega
  ·simpa using ih
theorem sk.cons0 (k:S.Ok) (hz:0 < z) (D:sk S z b):YM S z b (Ry S):=fun q hq=>by
 obtain ⟨h1,h2,h3,h4⟩:=Vl hq;rw [h1];refine ⟨h4,?_⟩;have hn:=D.ne k h4;have h0:cB z b 0=0:=by unfold cB;rw [Int.sub_self,Int.zero_emod]
 have:=Ax (b:=b) hz q.2;omega
theorem sk.more (hz:0 < z) (D:sk S z b) {y:Int} (h:z ≤ y):sk S y (cB z b):=by
 refine ⟨fun i hi=>Int.le_trans (D.1 i hi) h,fun i j e=>?_⟩;have r1:=Ax (b:=b) hz i;have r2:=Ax (b:=b) hz j;have:=D.2 i j e;rw [wC] at this;rcases Int.lt_or_le (cB z b j) (cB z b i) with q | q
 ·rw [mdD q r1.2 r2.1] at this;rw [mdD q (by omega) r2.1];omega
 ·rw [mdU q r1.1 r2.2] at this;rw [mdU q r1.1 (by omega)];exact this
theorem QE (k:S.Ok) (hk:∀ i,S.m ≤ i→S.al i ≤ z) {y:Int} {p:Pap} (h:zk S z (Ry S) p=true) (hy:0 < y) (hl:y ≤ z):¬ sk S y b:=fun D=>by
 have D2:=D.more hy hl;rw [D2.sound k (by omega) hk p _ (D2.cons0 k (by omega))] at h;cases h
end
section
variable {S:Sys} {z:Int} {o:Od}
noncomputable def chF (S:Sys):List Nat→Prop
 | []=>True
 | [_]=>True
 | x :: y :: r=>S.e x y=true∧chF S (y :: r)
theorem ak:∀ (a:List Nat) (x:Nat) (r:List Nat),pwO S z o (a ++ x :: r)=pwO S z o (a ++ [x]) + pwO S z o (x :: r):=by
 intro a
 induction a with
 | nil=>intro x r;simp [pwO]
 | cons u a ih=>
  intro x r;cases a with
  | nil=>simp [pwO]
  | cons v a=>
   have:=ih x r;simp only [List.cons_append,pwO] at this ⊢;omega
theorem Mh:∀ (a:List Nat) (x:Nat) (r:List Nat),chF S (a ++ x :: r)↔chF S (a ++ [x])∧chF S (x :: r):=by
 intro a
 induction a with
 | nil=>intro x r;simp [chF]
 | cons u a ih=>
  intro x r;cases a with
  | nil=>simp [chF]
  | cons v a=>
   have:=ih x r;simp only [List.cons_append,chF] at this ⊢;rw [this,and_assoc]
theorem Yx:∀ {l:List Nat},¬ l.Nodup→∃ a x b c,l=a ++ x :: (b ++ x :: c):=by
 intro l
 induction l with
 | nil=>intro h;exact absurd List.nodup_nil h
 | cons y t ih=>
  intro h;by_cases hy:y ∈ t
  ·obtain ⟨b,c,rfl⟩:=List.append_of_mem hy;exact ⟨[],y,b,c,rfl⟩
  ·obtain ⟨a,x,b,c,rfl⟩:=ih (fun q=>h (List.nodup_cons.mpr ⟨hy,q⟩));exact ⟨y :: a,x,b,c,rfl⟩
theorem LJ:∀ {l:List Nat},l ≠ []→∃ y ∈ l,∀ x ∈ l,y ≤ x:=by
 intro l
 induction l with
 | nil=>intro h;exact absurd rfl h
 | cons x l ih=>
  intro _;by_cases hl:l=[]
  ·subst hl;exact ⟨x,by simp,by simp⟩
  ·obtain ⟨y,hy,h⟩:=ih hl;by_cases q:x ≤ y
   ·refine ⟨x,List.mem_cons_self ..,fun u hu=>?_⟩;rcases List.mem_cons.mp hu with rfl | hu
    ·exact Nat.le_refl _
    ·exact Nat.le_trans q (h u hu)
   ·refine ⟨y,List.mem_cons_of_mem _ hy,fun u hu=>?_⟩;rcases List.mem_cons.mp hu with rfl | hu
    ·omega
    ·exact h u hu
def Mp (S:Sys) (z:Int) (o:Od):Prop:=∀ x t,(x :: t).Nodup→(∀ y ∈ t,x < y)→t ≠ []→chF S (x :: t ++ [x])→pwO S z o (x :: t ++ [x]) ≤ 0
theorem Mp.simple (k:S.Ok) (R:Mp S z o) {x:Nat} {t:List Nat} (nd:(x :: t).Nodup) (h:chF S (x :: t ++ [x])):pwO S z o (x :: t ++ [x]) ≤ 0:=by
 have ht:t ≠ []:=fun q=>by
  subst q;exact (k.lt h.1).2.2 rfl
 obtain ⟨y,hy,hl⟩:=LJ (l:=x :: t) (by simp);obtain ⟨a,c,e⟩:=List.append_of_mem hy;cases a with
 | nil=>
  cases e;refine R x t nd (fun u hu=>?_) ht h;have:=hl u (List.mem_cons_of_mem _ hu);have:u ≠ x:=fun q=>(List.nodup_cons.mp nd).1 (q ▸ hu)
  omega
 | cons x' a=>
  rw [List.cons_append,List.cons.injEq] at e;obtain ⟨rfl,rfl⟩:=e;have e1:x :: (a ++ y :: c) ++ [x]=(x :: a) ++ y :: (c ++ [x]):=by simp
  have e2:y :: (c ++ x :: a) ++ [y]=(y :: c) ++ x :: (a ++ [y]):=by simp
  rw [e1,Mh] at h;have nd':(y :: (c ++ x :: a)).Nodup:=by
   have:=(List.perm_append_comm (l₁:=x :: a) (l₂:=y :: c)).nodup_iff.mp nd;simpa using this
  have:=R y (c ++ x :: a) nd' (fun u hu=>by
   have h1:=hl u (by
    rcases List.mem_append.mp hu with q | q
    ·simp [q]
    ·rcases List.mem_cons.mp q with rfl | q
     ·simp
     ·simp [q])
   have h2:u ≠ y:=fun q=>(List.nodup_cons.mp nd').1 (q ▸ hu)
   omega) (by simp) (by rw [e2,Mh];exact ⟨by simpa using h.2,by simpa using h.1⟩)
  rw [e2,ak] at this;rw [e1,ak];simp only [List.cons_append] at this ⊢;omega
theorem Mp.closed (k:S.Ok) (R:Mp S z o):∀ (n:Nat) (x:Nat) (t:List Nat),t.length ≤ n→chF S (x :: t ++ [x])→pwO S z o (x :: t ++ [x]) ≤ 0:=by
 intro n
 induction n with
 | zero=>
  intro x t hn h;have:t=[]:=List.length_eq_zero_iff.mp (by omega);subst this;exact absurd rfl (k.lt h.1).2.2
 | succ n ih=>
  intro x t hn h;by_cases nd:(x :: t).Nodup
  ·exact R.simple k nd h
  ·obtain ⟨a,y,b,c,e⟩:=Yx nd;have hlen:=congrArg List.length e;simp only [List.length_cons,List.length_append] at hlen;rw [e,show a ++ y :: (b ++ y :: c) ++ [x]=a ++ y :: (b ++ y :: (c ++ [x])) by simp,Mh] at h;obtain ⟨h1,h2⟩:=h;rw [show y :: (b ++ y :: (c ++ [x]))=(y :: b) ++ y :: (c ++ [x]) by simp,Mh] at h2;obtain ⟨h2,h3⟩:=h2;have i1:=ih y b (by omega) h2;rw [e,show a ++ y :: (b ++ y :: c) ++ [x]=a ++ y :: (b ++ y :: (c ++ [x])) by simp,ak,show y :: (b ++ y :: (c ++ [x]))=(y :: b) ++ y :: (c ++ [x]) by simp,ak (y :: b)];have i2:pwO S z o (a ++ [y]) + pwO S z o (y :: (c ++ [x])) ≤ 0:=by
    rw [← ak];cases a with
    | nil=>
     cases e;exact ih x c (by simp at hn;omega) h3
    | cons x' a=>
     rw [List.cons_append,List.cons.injEq] at e;obtain ⟨rfl,rfl⟩:=e;refine ih x (a ++ y :: c) (by simp at hn ⊢;omega) ?_ |> fun q=>by simpa using q
     rw [show x :: (a ++ y :: c) ++ [x]=(x :: a) ++ y :: (c ++ [x]) by simp,Mh];exact ⟨h1,h3⟩
   omega
theorem Mp.cut (k:S.Ok) (R:Mp S z o) (v:Nat):∀ (n:Nat) (l:List Nat),l.length ≤ n→chF S (l ++ [v])→∃ l',chF S (l' ++ [v])∧(l' ++ [v]).Nodup∧pwO S z o (l ++ [v]) ≤ pwO S z o (l' ++ [v]):=by
 intro n
 induction n with
 | zero=>
  intro l hn h;have:l=[]:=List.length_eq_zero_iff.mp (by omega);subst this;exact ⟨[],h,by simp,Int.le_refl _⟩
 | succ n ih=>
  intro l hn h;by_cases nd:(l ++ [v]).Nodup
  ·exact ⟨l,h,nd,Int.le_refl _⟩
  ·obtain ⟨a,y,b,c,e⟩:=Yx nd;have hlen:=congrArg List.length e;simp only [List.length_cons,List.length_append,List.length_nil] at hlen;rw [e,Mh] at h;obtain ⟨h1,h2⟩:=h;rw [show y :: (b ++ y :: c)=(y :: b) ++ y :: c by simp,Mh] at h2;obtain ⟨h2,h3⟩:=h2;have i1:=R.closed k b.length y b (Nat.le_refl _) h2;obtain ⟨d,ed⟩:∃ d,a ++ y :: c=d ++ [v]:=by
    rcases List.eq_nil_or_concat c with rfl | ⟨c',u,rfl⟩
    ·have:l ++ [v]=(a ++ y :: b) ++ [y]:=by rw [e];simp
     have:=(List.append_inj' this rfl).2;cases this;exact ⟨a,by simp⟩
    ·have:l ++ [v]=(a ++ y :: (b ++ y :: c')) ++ [u]:=by rw [e];simp
     have:=(List.append_inj' this rfl).2;cases this;exact ⟨a ++ y :: c',by simp⟩
   have hd:=congrArg List.length ed;simp only [List.length_cons,List.length_append,List.length_nil] at hd;obtain ⟨l',g1,g2,g3⟩:=ih d (by omega) (by rw [← ed,Mh];exact ⟨h1,h3⟩);refine ⟨l',g1,g2,Int.le_trans ?_ g3⟩;rw [← ed,e,ak,show y :: (b ++ y :: c)=(y :: b) ++ y :: c by simp,ak (y :: b),ak a y c];simp only [List.cons_append] at i1 ⊢;omega
noncomputable def relax (S:Sys) (z:Int) (o:Od) (b:Nat→Int) (p:Nat × Nat):Nat→Int:=fun v=>if v=p.2 then max (b p.2) (b p.1 + wtO S z o p.1 p.2) else b v
theorem QA (b:Nat→Int) (p:Nat × Nat) (v:Nat):b v ≤ relax S z o b p v:=by
 unfold relax;split
 ·rename_i h;rw [h];exact Int.le_max_left ..
 ·exact Int.le_refl _
theorem BF:∀ (E:Od) (b:Nat→Int) (v:Nat),b v ≤ E.foldl (relax S z o) b v:=by
 intro E
 induction E with
 | nil=>intro b v;exact Int.le_refl _
 | cons p E ih=>intro b v;exact Int.le_trans (QA b p v) (ih _ v)
theorem fN:∀ (E:Od) (b:Nat→Int) {u v:Nat},(u,v) ∈ E→b u + wtO S z o u v ≤ E.foldl (relax S z o) b v:=by
 intro E
 induction E with
 | nil=>intro b u v h;cases h
 | cons p E ih=>
  intro b u v h;rcases List.mem_cons.mp h with rfl | h
  ·refine Int.le_trans ?_ (BF E _ v);show _ ≤ relax S z o b (u,v) v;unfold relax;rw [if_pos rfl];exact Int.le_max_right ..
  ·have:=QA (S:=S) (z:=z) (o:=o) b p u;exact Int.le_trans (by omega) (ih _ h)
def Wk (S:Sys) (z:Int) (o:Od) (b:Nat→Int):Prop:=∀ v,∃ l,chF S (l ++ [v])∧pwO S z o (l ++ [v])=b v
theorem Wk.relax {b:Nat→Int} (h:Wk S z o b) {p:Nat × Nat} (hp:S.e p.1 p.2=true):Wk S z o (relax S z o b p):=fun v=>by
 unfold My.relax;split
 ·rename_i hv;rcases Int.le_total (b p.1 + wtO S z o p.1 p.2) (b p.2) with q | q
  ·rw [Int.max_eq_left q,hv];exact h _
  ·rw [Int.max_eq_right q,hv];obtain ⟨l,h1,h2⟩:=h p.1;refine ⟨l ++ [p.1],?_,?_⟩
   ·rw [show l ++ [p.1] ++ [p.2]=l ++ p.1 :: [p.2] by simp,Mh];exact ⟨h1,hp,trivial⟩
   ·rw [show l ++ [p.1] ++ [p.2]=l ++ p.1 :: [p.2] by simp,ak,h2];simp [pwO]
 ·exact h v
theorem Wk.fold:∀ (E:Od) {b:Nat→Int},Wk S z o b→(∀ p ∈ E,S.e p.1 p.2=true)→Wk S z o (E.foldl (My.relax S z o) b):=by
 intro E
 induction E with
 | nil=>intro b h _;exact h
 | cons p E ih=>intro b h hE;exact ih (h.relax (hE p (List.mem_cons_self ..))) fun q hq=>hE q (List.mem_cons_of_mem _ hq)
noncomputable def Wr (S:Sys) (z:Int) (o:Od) (E:Od):Nat→Nat→Int
 | 0=>fun _=>0
 | k + 1=>E.foldl (relax S z o) (Wr S z o E k)
theorem xJ {E:Od} (hE:∀ p ∈ E,S.e p.1 p.2=true):∀ k,Wk S z o (Wr S z o E k):=by
 intro k
 induction k with
 | zero=>exact fun v=>⟨[],trivial,rfl⟩
 | succ k ih=>exact ih.fold E hE
theorem oK {E:Od} (hE:∀ i j,S.e i j=true→(i,j) ∈ E):∀ (k:Nat) (v:Nat) (l:List Nat),l.length ≤ k→chF S (l ++ [v])→pwO S z o (l ++ [v]) ≤ Wr S z o E k v:=by
 intro k
 induction k with
 | zero=>
  intro v l hl h;have:l=[]:=List.length_eq_zero_iff.mp (by omega);subst this;exact Int.le_refl _
 | succ k ih=>
  intro v l hl h;rcases List.eq_nil_or_concat l with rfl | ⟨l',u,rfl⟩
  ·exact Int.le_trans (ih v [] (Nat.zero_le _) h) (BF E _ v)
  ·rw [show l'.concat u ++ [v]=l' ++ u :: [v] by simp,Mh] at h;have h1:=ih u l' (by simpa using hl) h.1;have h2:=fN (S:=S) (z:=z) (o:=o) E (Wr S z o E k) (hE u v h.2.1);rw [show l'.concat u ++ [v]=l' ++ u :: [v] by simp,ak];show _ ≤ E.foldl (relax S z o) (Wr S z o E k) v;simp only [pwO];omega
theorem DP (k:S.Ok) {v:Nat} (hv:v < S.m):∀ {l:List Nat},chF S (l ++ [v])→∀ x ∈ l ++ [v],x < S.m:=by
 intro l
 induction l with
 | nil=>intro _ x hx;rw [List.mem_singleton.mp hx];exact hv
 | cons u l ih=>
  intro h x hx;have h':S.e u ((l ++ [v]).headD 0)=true∧chF S (l ++ [v]):=by
   cases l with
   | nil=>exact h
   | cons y l=>exact h
  rcases List.mem_cons.mp hx with rfl | hx
  ·exact (k.lt h'.1).1
  ·exact ih h'.2 x hx
theorem XH {m:Nat} {l:List Nat} (nd:l.Nodup) (h:∀ x ∈ l,x < m):l.length ≤ m:=by
 induction m generalizing l with
 | zero=>
  cases l with
  | nil=>exact Nat.le_refl _
  | cons x l=>exact absurd (h x (List.mem_cons_self ..)) (Nat.not_lt_zero _)
 | succ m ih=>
  by_cases q:m ∈ l
  ·have:=ih (nd.erase m) fun x hx=>by
    have h1:=h x (List.mem_of_mem_erase hx);have h2:=(nd.mem_erase_iff.mp hx).1;omega
   rw [List.length_erase_of_mem q] at this;omega
  ·have:=ih nd fun x hx=>by
    have h1:=h x hx;have h2:x ≠ m:=fun e=>q (e ▸ hx)
    omega
   omega
theorem yD (k:S.Ok) {E:Od} (hE:∀ p ∈ E,S.e p.1 p.2=true) (hF:∀ i j,S.e i j=true→(i,j) ∈ E) (R:Mp S z o) {i j:Nat} (h:S.e i j=true):Wr S z o E S.m i + wtO S z o i j ≤ Wr S z o E S.m j:=by
 obtain ⟨l,h1,h2⟩:=xJ (z:=z) (o:=o) hE S.m i;have c1:chF S ((l ++ [i]) ++ [j]):=by
  rw [show l ++ [i] ++ [j]=l ++ i :: [j] by simp,Mh];exact ⟨h1,h,trivial⟩
 obtain ⟨l',g1,g2,g3⟩:=R.cut k j _ (l ++ [i]) (Nat.le_refl _) c1;have hn:=XH g2 (DP k (k.lt h).2.1 g1);have:=oK (z:=z) (o:=o) hF S.m j l' (by simp at hn;omega) g1;rw [show l ++ [i] ++ [j]=l ++ i :: [j] by simp,ak,h2] at g3;simp only [pwO] at g3;omega
theorem qy (k:S.Ok) (hz:0 < z) (ha:∀ i,i < S.m→S.al i ≤ z) {b:Nat→Int} (ho:∀ i j,S.e i j=true→inO o i j=true) (hs:∀ i j,(i,j) ∈ o→(j,i) ∉ o) (h:∀ i j,S.e i j=true→b i + wtO S z o i j ≤ b j):sk S z b:=by
 refine ⟨ha,fun i j e=>?_⟩;have h1:=h i j e;have h2:=h j i (k.sy e);have s1:=k.s1 e;have s2:=k.s1 (k.sy e);unfold wtO at h1 h2;by_cases q:(j,i) ∈ o
 ·rw [if_pos q] at h1;rw [if_neg (hs _ _ q)] at h2;rw [← Int.add_emod_right,Int.emod_eq_of_lt (by omega) (by omega)];omega
 ·have q':(i,j) ∈ o:=by simpa [inO,q] using ho i j e
  rw [if_neg q] at h1;rw [if_pos q'] at h2;rw [Int.emod_eq_of_lt (by omega) (by omega)];omega
end
noncomputable def gm (p:List Nat):Nat:=p.getLast?.getD 0
noncomputable def ZC (S:Sys) (p:List Nat):List (List Nat):=((((List.range (S.m - (p.headD 0 + 1))).map fun k=>p.headD 0 + 1 + k).filter fun v=>S.e (gm p) v).filter fun v=>decide (v ∉ p)).map fun v=>p ++ [v]
noncomputable def lev (S:Sys):Nat→List (List Nat)
 | 0=>(List.range S.m).map fun k=>[k]
 | k + 1=>(lev S k).flatMap (ZC S)
noncomputable def clR (S:Sys) (p:List Nat):Bool:=S.e (gm p) (p.headD 0)
noncomputable def Ch (S:Sys):Nat→List (List Nat)
 | 0=>[]
 | k + 1=>Ch S k ++ (lev S (k + 1)).filter (clR S)
section
variable {S:Sys} {z:Int} {o:Od}
theorem yu (a:List Nat) (u:Nat):gm (a ++ [u])=u:=by unfold gm;simp
theorem aB {p q:List Nat}:q ∈ ZC S p↔∃ v,q=p ++ [v]∧p.headD 0 < v∧v < S.m∧S.e (gm p) v=true∧v ∉ p:=by
 unfold ZC;constructor
 ·intro h;obtain ⟨v,hv,rfl⟩:=List.mem_map.mp h;obtain ⟨hv,h2⟩:=List.mem_filter.mp hv;obtain ⟨hv,h1⟩:=List.mem_filter.mp hv;obtain ⟨k,hk,rfl⟩:=List.mem_map.mp hv;have:=List.mem_range.mp hk;exact ⟨_,rfl,by omega,by omega,h1,of_decide_eq_true h2⟩
 ·rintro ⟨v,rfl,h1,h2,h3,h4⟩;refine List.mem_map.mpr ⟨v,List.mem_filter.mpr ⟨List.mem_filter.mpr ⟨List.mem_map.mpr ⟨v - (p.headD 0 + 1),List.mem_range.mpr (by omega),by omega⟩,h3⟩,decide_eq_true h4⟩,rfl⟩
theorem YB:∀ (k:Nat) (p:List Nat),p ∈ lev S k→p.length=k + 1∧p.Nodup∧∀ x ∈ p,x < S.m:=by
 intro k
 induction k with
 | zero=>
  intro p h;obtain ⟨v,hv,rfl⟩:=List.mem_map.mp h;exact ⟨rfl,by simp,fun x hx=>by rw [List.mem_singleton.mp hx];exact List.mem_range.mp hv⟩
 | succ k ih=>
  intro p h;obtain ⟨q,hq,h⟩:=List.mem_flatMap.mp h;obtain ⟨v,rfl,h1,h2,h3,h4⟩:=aB.mp h;obtain ⟨i1,i2,i3⟩:=ih q hq;refine ⟨by rw [List.length_append,i1];rfl,?_,fun x hx=>?_⟩
  ·rw [List.nodup_append];exact ⟨i2,by simp,fun x hx y hy e=>h4 (by rw [← List.mem_singleton.mp hy,← e];exact hx)⟩
  ·rcases List.mem_append.mp hx with hx | hx
   ·exact i3 x hx
   ·rw [List.mem_singleton.mp hx];exact h2
theorem FM:lev S S.m=[]:=by
 refine List.eq_nil_iff_forall_not_mem.mpr fun p hp=>?_
 obtain ⟨h1,h2,h3⟩:=YB _ p hp;have:=XH h2 h3;omega
theorem vA {k:Nat} (h:lev S k=[]):∀ i,lev S (k + i)=[]:=by
 intro i
 induction i with
 | zero=>exact h
 | succ i ih=>show (lev S (k + i)).flatMap (ZC S)=[];rw [ih];rfl
theorem YE {p:List Nat} {v:Nat} (hp:p ≠ []) (h:chF S (p ++ [v])):S.e (gm p) v=true:=by
 rcases List.eq_nil_or_concat p with rfl | ⟨a,u,rfl⟩
 ·exact absurd rfl hp
 ·rw [List.concat_eq_append,List.append_assoc] at h;rw [List.concat_eq_append,yu];exact ((Mh a u [v]).mp h).2.1
theorem DM:∀ (n:Nat) (x:Nat) (t:List Nat),t.length=n→(x :: t).Nodup→(∀ y ∈ t,x < y)→chF S (x :: t)→(∀ y ∈ x :: t,y < S.m)→x :: t ∈ lev S n:=by
 intro n
 induction n with
 | zero=>
  intro x t hn _ _ _ h;have:t=[]:=List.length_eq_zero_iff.mp hn;subst this;exact List.mem_map.mpr ⟨x,List.mem_range.mpr (h x (List.mem_cons_self ..)),rfl⟩
 | succ n ih=>
  intro x t hn nd hl hc hm;rcases List.eq_nil_or_concat t with rfl | ⟨a,v,rfl⟩
  ·cases hn
  ·rw [List.concat_eq_append] at *;rw [← List.cons_append] at nd hc hm ⊢;rw [List.nodup_append] at nd;have hc':chF S (x :: a):=by
    rcases List.eq_nil_or_concat a with rfl | ⟨b,u,rfl⟩
    ·exact trivial
    ·rw [List.concat_eq_append,← List.cons_append] at hc ⊢;rw [List.append_assoc] at hc;exact ((Mh (x :: b) u [v]).mp hc).1
   refine List.mem_flatMap.mpr ⟨x :: a,ih x a (by simpa using hn) nd.1 (fun y hy=>hl y (by simp [hy])) hc' (fun y hy=>hm y (by simp only [List.mem_append];exact .inl hy)),aB.mpr ⟨v,rfl,hl v (by simp),hm v (by simp),YE (by simp) hc,fun h=>nd.2.2 v h v (by simp) rfl⟩⟩
theorem TD {r:List Nat}:∀ {k:Nat},r ∈ Ch S k→∃ i,i < k∧r ∈ lev S (i + 1):=by
 intro k
 induction k with
 | zero=>intro h;cases h
 | succ k ih=>
  intro h;rcases List.mem_append.mp h with h | h
  ·obtain ⟨i,hi,h⟩:=ih h;exact ⟨i,by omega,h⟩
  ·exact ⟨k,by omega,(List.mem_filter.mp h).1⟩
theorem wE {r:List Nat} {i k:Nat} (hi:i < k) (h:r ∈ lev S (i + 1)) (hc:clR S r=true):r ∈ Ch S k:=by
 induction k with
 | zero=>omega
 | succ k ih=>
  by_cases q:i < k
  ·exact List.mem_append_left _ (ih q)
  ·have:i=k:=by omega
   subst this;exact List.mem_append_right _ (List.mem_filter.mpr ⟨h,hc⟩)
theorem OE (k:S.Ok) {K:Nat} (hK:lev S K=[]) {x:Nat} {t:List Nat} (nd:(x :: t).Nodup) (hl:∀ y ∈ t,x < y) (ht:t ≠ []) (hc:chF S (x :: t ++ [x])):x :: t ∈ Ch S K:=by
 obtain ⟨a,u,e⟩:∃ a u,t=a ++ [u]:=by
  rcases List.eq_nil_or_concat t with q | ⟨a,u,q⟩
  ·exact absurd q ht
  ·exact ⟨a,u,by rw [q,List.concat_eq_append]⟩
 have hlast:=YE (p:=x :: t) (by simp) hc;have hx:=(k.lt hlast).2.1;have hc':chF S (x :: t):=by
  rw [e,← List.cons_append] at hc ⊢;rw [List.append_assoc] at hc;exact ((Mh (x :: a) u [x]).mp hc).1
 have hm:x :: t ∈ lev S t.length:=DM _ x t rfl nd hl hc' (fun y hy=>DP k hx hc y (List.mem_append_left _ hy));have h1:t.length < K:=by
  rcases Nat.lt_or_ge t.length K with q | q
  ·exact q
  ·have:=vA hK (t.length - K);rw [show K + (t.length - K)=t.length by omega] at this;rw [this] at hm;cases hm
 have h0:0 < t.length:=List.length_pos_iff.mpr ht;refine wE (i:=t.length - 1) (by omega) (by rw [show t.length - 1 + 1=t.length by omega];exact hm) hlast
theorem RH (ho:∀ i j,S.e i j=true→inO o i j=true):∀ (l:List Nat),chF S l→Vu o l=true:=by
 intro l
 induction l with
 | nil=>intro _;rfl
 | cons x l ih=>
  intro h;cases l with
  | nil=>rfl
  | cons y l=>
   have h':S.e x y=true∧chF S (y :: l):=h;show (inO o x y && Vu o (y :: l))=true;rw [ho _ _ h'.1,ih h'.2];rfl
theorem gD (k:S.Ok) {K:Nat} (hK:lev S K=[]) (ho:∀ i j,S.e i j=true→inO o i j=true) (h:∀ r ∈ Ch S K,Fk S z o r=false):Mp S z o:=fun x t nd hl ht hc=>by
 have hb:=h _ (OE k hK nd hl ht hc);have h0:0 < t.length:=List.length_pos_iff.mpr ht;unfold Fk at hb;rw [show (x :: t) ++ (x :: t).take 1=x :: t ++ [x] from rfl,RH ho _ hc,decide_eq_true (show 2 ≤ (x :: t).length by rw [List.length_cons];omega),decide_eq_true nd] at hb;simpa using hb
theorem yA (p:List Nat):(ZC S p).length ≤ S.m:=by
 unfold ZC;rw [List.length_map];refine Nat.le_trans (List.length_filter_le ..) (Nat.le_trans (List.length_filter_le ..) ?_);rw [List.length_map,List.length_range];omega
theorem AB {f:List Nat→List (List Nat)} {c:Nat} (h:∀ p,(f p).length ≤ c):∀ l:List (List Nat),(l.flatMap f).length ≤ l.length * c:=by
 intro l
 induction l with
 | nil=>simp
 | cons p l ih=>
  rw [List.flatMap_cons,List.length_append,List.length_cons,Nat.succ_mul];have:=h p;omega
theorem NF:∀ k,(lev S k).length ≤ S.m ^ (k + 1):=by
 intro k
 induction k with
 | zero=>simp [lev]
 | succ k ih=>
  show ((lev S k).flatMap (ZC S)).length ≤ _;refine Nat.le_trans (AB yA _) ?_;rw [Nat.pow_succ];exact Nat.mul_le_mul_right _ ih
end
structure rE (S:Sys) (o:Od):Prop where
 e:∀ p ∈ o,S.e p.1 p.2=true
 nd:o.Nodup
 as:∀ i j,(i,j) ∈ o→(j,i) ∉ o
theorem rE.len {S:Sys} {o:Od} (h:rE S o) (k:S.Ok) (hm:S.m ≤ 6):o.length ≤ 36:=by
 have h1:(o.map fun p=>p.1 * 6 + p.2).Nodup:=by
  have:∀ l:Od,l.Nodup→(∀ p ∈ l,p.1 < 6∧p.2 < 6)→(l.map fun p=>p.1 * 6 + p.2).Nodup:=by
   intro l
   induction l with
   | nil=>intro _ _;exact List.nodup_nil
   | cons p l ih=>
    intro nd hl;rw [List.nodup_cons] at nd;rw [List.map_cons,List.nodup_cons];refine ⟨fun hx=>?_,ih nd.2 fun q hq=>hl q (List.mem_cons_of_mem _ hq)⟩;obtain ⟨q,hq,e⟩:=List.mem_map.mp hx;have a1:=hl p (List.mem_cons_self ..);have a2:=hl q (List.mem_cons_of_mem _ hq);exact nd.1 (by rw [show p=q from Prod.ext (by omega) (by omega)];exact hq)
  exact this o h.nd fun p hp=>by have:=k.lt (h.e p hp);omega
 have:=XH (m:=36) h1 fun x hx=>by
  obtain ⟨p,hp,rfl⟩:=List.mem_map.mp hx;have:=k.lt (h.e p hp);omega
 rw [List.length_map] at this;exact this
theorem rE.in_e {S:Sys} {o:Od} (h:rE S o) (k:S.Ok) {i j:Nat} (q:inO o i j=true):S.e i j=true:=by
 unfold inO at q;rcases Bool.or_eq_true_iff.mp q with q | q
 ·exact h.e _ (of_decide_eq_true q)
 ·exact k.sy (h.e _ (of_decide_eq_true q))
theorem rE.put {S:Sys} {o:Od} (h:rE S o) (k:S.Ok) {i j:Nat} (he:S.e i j=true) (hn:inO o i j=false):rE S (o ++ [(i,j)]):=by
 unfold inO at hn;rw [Bool.or_eq_false_iff,decide_eq_false_iff_not,decide_eq_false_iff_not] at hn;refine ⟨fun p hp=>?_,?_,fun a b hab hba=>?_⟩
 ·rcases List.mem_append.mp hp with hp | hp
  ·exact h.e p hp
  ·rw [List.mem_singleton.mp hp];exact he
 ·rw [List.nodup_append];exact ⟨h.nd,by simp,fun x hx y hy e=>hn.1 (by rw [← List.mem_singleton.mp hy,← e];exact hx)⟩
 ·have hne:=(k.lt he).2.2;rcases List.mem_append.mp hab with x | x <;> rcases List.mem_append.mp hba with y | y
  ·exact h.as a b x y
  ·cases List.mem_singleton.mp y;exact hn.2 x
  ·cases List.mem_singleton.mp x;exact hn.2 y
  ·cases List.mem_singleton.mp x;cases List.mem_singleton.mp y;exact hne rfl
theorem Fv (o:Od) (i j:Nat):inO o i j=inO o j i:=Bool.or_comm ..
noncomputable def lO (m:Nat):Od:=(List.range m).flatMap fun j=>(List.range j).map fun i=>(i,j)
theorem UA {m i j:Nat} (h:i < j) (hj:j < m):(i,j) ∈ lO m:=List.mem_flatMap.mpr ⟨j,List.mem_range.mpr hj,List.mem_map.mpr ⟨i,List.mem_range.mpr h,rfl⟩⟩
noncomputable def unO (S:Sys) (o:Od):Nat:=(lO S.m).countP fun p=>S.e p.1 p.2 && !inO o p.1 p.2
theorem qB {α:Type} {p q:α→Bool} (h:∀ x,q x=true→p x=true):∀ {l:List α} {y:α},y ∈ l→p y=true→q y=false→l.countP q < l.countP p:=by
 intro l
 induction l with
 | nil=>intro y hy;cases hy
 | cons x l ih=>
  intro y hy h1 h2;rw [List.countP_cons,List.countP_cons];have hle:l.countP q ≤ l.countP p:=List.countP_mono_left fun x _=>h x
  rcases List.mem_cons.mp hy with rfl | hy
  ·rw [h1,h2];simp;omega
  ·have:=ih hy h1 h2;by_cases hq:q x=true
   ·rw [h x hq,hq];simp;exact this
   ·rw [Bool.not_eq_true] at hq;rw [hq];simp;omega
section
variable {S:Sys} {o:Od}
theorem XM (i j a b:Nat) (h:inO o a b=true):inO (o ++ [(i,j)]) a b=true:=by
 unfold inO at h ⊢;simp only [Bool.or_eq_true,decide_eq_true_eq,List.mem_append] at h ⊢;exact h.imp .inl .inl
theorem gG (i j:Nat):inO (o ++ [(i,j)]) i j=true:=by
 unfold inO;simp
theorem kA (k:S.Ok) {i j:Nat} (he:S.e i j=true) (hn:inO o i j=false):unO S (o ++ [(i,j)]) < unO S o:=by
 have hl:=k.lt he;unfold unO;have hmono:∀ p:Nat × Nat,(S.e p.1 p.2 && !inO (o ++ [(i,j)]) p.1 p.2)=true→(S.e p.1 p.2 && !inO o p.1 p.2)=true:=fun p h=>by
  rw [Bool.and_eq_true,Bool.not_eq_true'] at h ⊢;refine ⟨h.1,?_⟩;rw [Bool.eq_false_iff];intro q;rw [XM i j _ _ q] at h;cases h.2
 rcases Nat.lt_or_gt_of_ne hl.2.2 with q | q
 ·exact qB hmono (UA q hl.2.1) (by simp [he,hn]) (by simp [gG])
 ·refine qB hmono (UA q hl.1) (by simp [k.sy he,Fv o j i,hn]) (by simp [Fv _ j i,gG])
theorem LN (k:S.Ok) {i j:Nat} (he:S.e i j=true) (hn:inO o i j=false):0 < unO S o:=Nat.lt_of_le_of_lt (Nat.zero_le _) (kA k he hn)
theorem ZJ:∀ k,(fE S k).length ≤ k:=by
 intro k
 induction k with
 | zero=>exact Nat.le_refl _
 | succ k ih=>
  unfold fE;rw [List.length_append];split <;> simp <;> omega
theorem FN {k j:Nat} (h0:0 < j) (hj:j ≤ k) (he:S.e 0 j=true):(0,j) ∈ fE S k:=by
 induction k with
 | zero=>omega
 | succ k ih=>
  unfold fE;by_cases q:j ≤ k
  ·exact List.mem_append_left _ (ih q)
  ·have:j=k + 1:=by omega
   subst this;rw [if_pos he];exact List.mem_append_right _ (by simp)
theorem wK (k:S.Ok) (hm:S.m ≤ 6):unO S (Ry S) ≤ 10∧(S.m ≤ 5→unO S (Ry S) ≤ 6):=by
 have h:unO S (Ry S) ≤ (lO S.m).countP fun p=>decide (p.1 ≠ 0):=by
  refine List.countP_mono_left fun p _ hp=>?_
  rw [Bool.and_eq_true,Bool.not_eq_true'] at hp;refine decide_eq_true fun q=>?_
  rw [q] at hp;have hl:=k.lt hp.1;have:inO (Ry S) 0 p.2=true:=by
   unfold inO;rw [decide_eq_true (show (0,p.2) ∈ Ry S from FN (by omega) (by omega) hp.1)];rfl
  rw [this] at hp;cases hp.2
 have h6:∀ m,m ≤ 6→((lO m).countP fun p=>decide (p.1 ≠ 0)) ≤ 10∧(m ≤ 5→((lO m).countP fun p=>decide (p.1 ≠ 0)) ≤ 6):=by decide +kernel
 exact ⟨Nat.le_trans h (h6 _ hm).1,fun q=>Nat.le_trans h ((h6 _ hm).2 q)⟩
theorem sN:rE S (Ry S) where
 e:=fun p hp=>by
  obtain ⟨h1,h2,h3,h4⟩:=Vl hp;rw [h1];exact h4
 nd:=kN _
 as:=fun i j h1 h2=>by
  have a:=Vl h1;have b:=Vl h2;have:i=0:=a.1;have:0 < i:=b.2.1;omega
noncomputable def uq (f:Nat→Int):Nat→Int
 | 0=>0
 | k + 1=>uq f k + f k
theorem zG {f:Nat→Int} {m:Nat} (h:∀ i,i < m→0 ≤ f i):∀ (d i:Nat),i + d ≤ m→uq f i ≤ uq f (i + d):=by
 intro d
 induction d with
 | zero=>intro i _;exact Int.le_refl _
 | succ d ih=>
  intro i hi;have h1:=ih i (by omega);have h2:=h (i + d) (by omega);show _ ≤ uq f (i + d) + f (i + d);omega
theorem mo {f:Nat→Int} {m:Nat} (h:∀ i,i < m→0 ≤ f i) {i j:Nat} (hij:i < j) (hj:j ≤ m):uq f i + f i ≤ uq f j:=by
 have:=zG h (j - (i + 1)) (i + 1) (by omega);rw [show i + 1 + (j - (i + 1))=j by omega] at this;exact this
theorem CM (k:S.Ok) {mx:Nat→Int} (h0:∀ i,0 ≤ mx i) (h:∀ i j,S.e i j=true→S.st i j ≤ mx i):sk S (uq (fun i=>S.al i + mx i) S.m) (uq fun i=>S.al i + mx i):=by
 have hf:∀ i,i < S.m→0 ≤ S.al i + mx i:=fun i hi=>by have:=k.a1 hi;have:=h0 i;omega
 have hs:∀ i,0 + i ≤ S.m→0 ≤ uq (fun i=>S.al i + mx i) i:=fun i hi=>by
  have:=zG hf i 0 hi;simpa [uq] using this
 refine ⟨fun i hi=>?_,fun i j e=>?_⟩
 ·have h1:=mo hf (i:=i) (j:=S.m) hi (Nat.le_refl _);have h2:=hs i (by omega);have h3:=h0 i;omega
 ·have hl:=k.lt e;have hi:=mo hf (i:=i) (j:=S.m) hl.1 (Nat.le_refl _);have hj:=mo hf (i:=j) (j:=S.m) hl.2.1 (Nat.le_refl _);have ai:=k.a1 hl.1;have aj:=k.a1 hl.2.1;have mi:=h0 i;have mj:=h0 j;have hs':=h i j e;have pi:=hs i (by omega);have pj:=hs j (by omega);rcases Nat.lt_or_gt_of_ne hl.2.2 with q | q
  ·have g:=mo hf q (by omega);rw [mdU (by omega) pi (by omega)];omega
  ·have g:=mo hf q (by omega);rw [mdD (by omega) (by omega) pj];omega
end
end My
namespace My
open PySem L2
noncomputable def Kb (n:Int) (ws:List (WD × Int)):Sys where
 m:=ws.length
 e:=fun i j=>match ws[i]?,ws[j]? with
  | some p,some q=>decide (i ≠ j) && mt n p.1 q.1
  | _,_=>false
 st:=fun i j=>match ws[i]?,ws[j]? with
  | some p,some q=>p.2 + ay p.1 q.1
  | _,_=>0
 al:=fun i=>match ws[i]? with
  | some p=>Dd p
  | none=>0
theorem mv {n:Int} {ws:List (WD × Int)} {i j:Nat} (h:(Kb n ws).e i j=true):∃ p q,ws[i]? = some p∧ws[j]? = some q∧i ≠ j∧mt n p.1 q.1=true:=by
 unfold Kb at h;cases hp:ws[i]? with
 | none=>simp [hp] at h
 | some p=>
  cases hq:ws[j]? with
  | none=>simp [hp,hq] at h
  | some q=>exact ⟨p,q,rfl,rfl,by simpa [hp,hq] using h⟩
theorem vh {n:Int} {ws:List (WD × Int)} {i j:Nat} {p q:WD × Int} (hi:ws[i]? = some p) (hj:ws[j]? = some q):(Kb n ws).e i j=(decide (i ≠ j) && mt n p.1 q.1)∧(Kb n ws).st i j=p.2 + ay p.1 q.1:=by
 refine ⟨?_,?_⟩ <;> simp only [Kb,hi,hj]
def RB (n:Int) (ws:List (WD × Int)):Prop:=(∀ p ∈ ws,WOk n p.1∧1 ≤ p.2∧p.2 ≤ 1000)∧ws.length ≤ 6∧ws ≠ []
theorem AN (d e:WD):0 ≤ ay d e:=by unfold ay;split <;> omega
theorem jC {n:Int} {d:WD} (o:WOk n d):0 ≤ Ke d + Jc d:=by
 have h:=o.of;unfold Ke Jc;rcases d with ⟨k,_⟩
 match k with
 | 0=>simp
 | 1=>simpa using h.1
 | k + 2=>simp
theorem RB.ok {n:Int} {ws:List (WD × Int)} (h:RB n ws):(Kb n ws).Ok where
 lt:=fun e=>by
  obtain ⟨p,q,h1,h2,h3,_⟩:=mv e;exact ⟨(List.getElem?_eq_some_iff.mp h1).1,(List.getElem?_eq_some_iff.mp h2).1,h3⟩
 sy:=fun e=>by
  obtain ⟨p,q,h1,h2,h3,h4⟩:=mv e;obtain ⟨op,_⟩:=h.1 p (List.mem_of_getElem? h1);obtain ⟨oq,_⟩:=h.1 q (List.mem_of_getElem? h2);have hm':mt n q.1 p.1=true:=by rw [← h4];exact (Qu op.st op.fi oq.st oq.fi op.ne oq.ne).symm
  rw [(vh h2 h1).1,hm'];simp [Ne.symm h3]
 s1:=fun e=>by
  obtain ⟨p,q,h1,h2,h3,h4⟩:=mv e;rw [(vh h1 h2).2];have:=(h.1 p (List.mem_of_getElem? h1)).2.1;have:=AN p.1 q.1;omega
 a1:=fun {i} hi=>by
  have hp:ws[i]? = some ws[i]:=List.getElem?_eq_getElem hi;obtain ⟨o,l,_⟩:=h.1 _ (List.mem_of_getElem? hp);have e:(Kb n ws).al i=Dd ws[i]:=by
   show (match ws[i]? with | some p=>Dd p | none=>0)=_;rw [hp]
  rw [e];have h1:=jC o;unfold Dd;omega
noncomputable def xw (o:Od):List (List Key × V):=o.map fun p=>(Cf p.1 p.2,V.bl true)
theorem Mw (o:Od):(xw o).length=o.length:=List.length_map ..
theorem Nr (o:Od) (i j:Nat):(Ol (xw o) (Cf i j)).isSome=decide ((i,j) ∈ o):=by
 induction o with
 | nil=>rfl
 | cons p o ih=>
  unfold xw at ih ⊢;rw [List.map_cons];by_cases h:p=(i,j)
  ·subst h;rw [xo rfl];simp
  ·rw [Ao fun e=>h (Prod.ext (lj e).1 (lj e).2),ih];simp [Ne.symm h]
theorem Ww {o:Od} {i j:Nat} (h:(i,j) ∉ o):xq (xw o) (Cf i j) (V.bl true)=xw (o ++ [(i,j)]):=by
 rw [Ju]
 ·unfold xw;rw [List.map_append];rfl
 ·intro x hx e;obtain ⟨p,hp,rfl⟩:=List.mem_map.mp hx;obtain ⟨e1,e2⟩:=lj e;subst e1 e2;exact h hp
theorem VD (P:Program) (w:World) {o:Od} (nd:o.Nodup) (h:∀ p ∈ o,p.1 < 6∧p.2 < 6):((xw o).map fun p=>MM P w p.1).Nodup:=by
 unfold xw;rw [List.map_map];show (o.map hsh).Nodup
 induction o with
 | nil=>exact List.nodup_nil
 | cons p o ih=>
  rw [List.nodup_cons] at nd;rw [List.map_cons,List.nodup_cons];refine ⟨fun hm=>?_,ih nd.2 fun q hq=>h q (List.mem_cons_of_mem _ hq)⟩;obtain ⟨q,hq,e⟩:=List.mem_map.mp hm;have h1:=h p (List.mem_cons_self ..);have h2:=h q (List.mem_cons_of_mem _ hq);have:=tN nO q (GF h2.1 h2.2) p (GF h1.1 h1.2) e;exact nd.1 (this ▸ hq)
theorem QB {k:List Key} {v:V}:∀ {kvs:List (List Key × V)},Ol kvs k=some v→(k,v) ∈ kvs
 | [],h=>nomatch h
 | p :: r,h=>by
  by_cases e:p.1=k
  ·rw [xo e] at h;cases h;rw [← e];exact List.mem_cons_self ..
  ·rw [Ao e] at h;exact List.mem_cons_of_mem _ (QB h)
theorem sC {n:Int} {ws:List (WD × Int)} (i j:Nat):Ol (bg n ws ws.length) (Cf i j)=if (Kb n ws).e i j then some (V.int ((Kb n ws).st i j)) else none:=by
 have key:∀ v,Ol (bg n ws ws.length) (Cf i j)=some v→(Kb n ws).e i j=true∧v=V.int ((Kb n ws).st i j):=fun v h=>by
  obtain ⟨k,_,hx⟩:=Py (QB h);obtain ⟨j',p,q,_,h1,h2,h3,h4,e⟩:=cr hx;obtain ⟨rfl,rfl⟩:=lj (congrArg Prod.fst e);have e2:v=V.int (p.2 + ay p.1 q.1):=congrArg Prod.snd e;rw [(vh h1 h2).1,(vh h1 h2).2,h4,e2];simp [h3]
 cases he:(Kb n ws).e i j with
 | true=>
  obtain ⟨p,q,h1,h2,h3,h4⟩:=mv he;have hm:=aK h1 h2 h3 h4;cases hv:Ol (bg n ws ws.length) (Cf i j) with
  | none=>exact absurd (List.mem_map_of_mem (f:=(·.1)) hm) (JJ hv)
  | some v=>rw [(key v hv).2];rfl
 | false=>
  cases hv:Ol (bg n ws ws.length) (Cf i j) with
  | none=>rfl
  | some v=>rw [(key v hv).1] at he;cases he
theorem DA {n:Int} {ws:List (WD × Int)} {i j:Nat} (h:(Kb n ws).e i j=true):Ol (bg n ws ws.length) (Cf i j)=some (V.int ((Kb n ws).st i j)):=by rw [sC,h];rfl
theorem Ez {n:Int} {ws:List (WD × Int)} (i j:Nat):(Ol (bg n ws ws.length) (Cf i j)).isSome=(Kb n ws).e i j:=by
 rw [sC];cases (Kb n ws).e i j <;> rfl
def km (P:Program) (w:World) (H:Hp) (a:Addr) (o:Od):Prop:=vn P w H a (xw o)
section
variable (P:Program) (w:World)
def IG:Sp:=fun vs H Q _=>∃ a i j o,vs=[.ref a,.int (i:Nat),.int (j:Nat)]∧km P w H a o∧NoT H∧Q (.bl (inO o i j)) H
def WL (S:Sys):Sp:=fun vs H Q _=>∃ a i j o,vs=[.ref a,.int (i:Nat),.int (j:Nat)]∧km P w H a o∧rE S o∧S.Ok∧S.m ≤ 6∧(i,j) ∉ o∧NoT H ∧
 ∀ r H',Ib H H'→NoT H'→km P w H' r (o ++ [(i,j)])→Q (.ref r) H'
def FF (t:Adr):Sp:=fun vs H Q _=>∃ wp z a i j o n ws,vs=[.ref wp,.int z,.ref a,.int (i:Nat),.int (j:Nat)]∧Ld P w t H wp n ws∧km P w H a o∧(Kb n ws).e i j=true∧NoT H∧Q (.int (wtO (Kb n ws) z o i j)) H
def jL (t:Adr):Sp:=fun vs H Q _=>∃ wp n ws,vs=[.ref wp]∧Ld P w t H wp n ws∧RB n ws∧NoT H ∧
 ∀ r H',Ib H H'→NoT H'→km P w H' r (Ry (Kb n ws))→Q (.ref r) H'
end
theorem Ld.same {P:Program} {w:World} {t:Adr} {H H':Hp} {p:Addr} {n:Int} {ws:List (WD × Int)} (h:Ld P w t H p n ws) (s:Ib H H'):Ld P w t H' p n ws:=by
 obtain ⟨dx,al,sd,e1,e2,e3⟩:=h;exact ⟨dx,al,sd,s _ _ e1,s _ _ e2,Tb e3 s⟩
section
variable {P:Program} {w:World} {K:PySem.W.Frag} {mg:Str→Option Value} {base:Heap} {t:Adr}
theorem Wi (T:Txt w K mg t) {H:Hp} {p dx al sd:Addr} {m:Int} (e:H p=some (.ins t.Sb dx (Sm m al sd))):yi K H p (Str.ofString "many") (.int m):=⟨_,dx,_,e,T.Zi,T.Qm,yd Pq 0 (Jo ..) (by decide +kernel) rfl⟩
theorem OL (T:Txt w K mg t):Gb P w K mg base CX0 1 t.ie t.ae q9 (IG P w):=by
 have key:Gb P w K mg base CX0 1 t.ie t.ae q9 (fun vs H Q _=>∃ a i j o,vs=[.ref a,.int (i:Nat),.int (j:Nat)]∧km P w H a o∧∀ H',Ib H H'→Q (.bl (inO o i j)) H'):=by
  refine T.Nf.ok nq (fun vs H Q E h=>?_) (fun _ _ _ s H vs Q E hr h=>?_)
  ·obtain ⟨a,i,j,o,rfl,_⟩:=h;rfl
  obtain ⟨a,i,j,o,rfl,D,q⟩:=h;have hu:=rj hr;refine ⟨_,(ib (Cb (qN (YL (Du hu (Ad (ab (pv 1) (ab (pv 2) gb))) (pv 0))) (Bx (YL (Du hu (Ad (ab (pv 2) (ab (pv 1) gb))) (pv 0))))))),?_⟩;walk_at "RD";refine ⟨by decide,fun p hp=>⟨_,Tb D (fb hp),Cf i j,db,?_⟩⟩;rw [Nr];by_cases h:(i,j) ∈ o
  ·rw [if_pos (decide_eq_true h)];have:=q _ (fb (o:=.tup [V.int (i:Int),V.int (j:Int)]) hp);rw [show inO o i j=true by unfold inO;rw [decide_eq_true h];rfl] at this;exact this
  ·rw [if_neg (by rw [decide_eq_false h];exact Bool.false_ne_true)];refine ⟨by decide,fun p2 hp2=>⟨_,Tb (Tb D (fb hp)) (fb hp2),Cf j i,db,?_⟩⟩;rw [Nr];have:=q _ ((fb (o:=.tup [V.int (i:Int),V.int (j:Int)]) hp).trans (fb (o:=.tup [V.int (j:Int),V.int (i:Int)]) hp2));rw [show inO o i j=decide ((j,i) ∈ o) by unfold inO;rw [decide_eq_false h];rfl] at this;exact this
 exact key.forget fun vs H Q E h=>by
  obtain ⟨a,i,j,o,e,D,nt,q⟩:=h;exact ⟨nt,a,i,j,o,e,D,fun H' sm=>⟨sm,q⟩⟩
theorem ML (T:Txt w K mg t):Gb P w K mg base CX0 1 t.ee t.je q19 (FF P w t):=by
 have key:Gb P w K mg base CX0 1 t.ee t.je q19 (fun vs H Q _=>∃ wp z a i j o n ws,vs=[.ref wp,.int z,.ref a,.int (i:Nat),.int (j:Nat)]∧Ld P w t H wp n ws∧km P w H a o∧(Kb n ws).e i j=true∧∀ H',Ib H H'→Q (.int (wtO (Kb n ws) z o i j)) H'):=by
  refine T.Yf.ok Wj (fun vs H Q E h=>?_) (fun _ _ _ s H vs Q E hr h=>?_)
  ·obtain ⟨wp,z,a,i,j,o,n,ws,rfl,_⟩:=h;rfl
  obtain ⟨wp,z,a,i,j,o,n,ws,rfl,⟨dx,al,sd,e1,e2,D⟩,O,he,q⟩:=h;have hu:=rj hr;refine ⟨_,(cb (xb (i:=5) Wj.nd (tH hu (Ob (pv 0) rfl) (Ad (ab (pv 3) (ab (pv 4) gb))) (fun _ _=>rfl)))
   (ib (Cb (Sl (Ly (Du hu (Ad (ab (pv 4) (ab (pv 3) gb))) (pv 2))) (Lb ci (pv 5) (pv 1)) (pv 5))))),?_⟩
  walk_at "RD";refine ⟨_,We T e1,by decide,fun p hp=>⟨sd,rfl,_,Tb D (fb hp),Cf i j,db,_,DA he,by decide,fun p2 hp2=>⟨_,Tb (Tb O (fb hp)) (fb hp2),Cf j i,db,?_⟩⟩⟩;rw [Nr];have:=q _ ((fb (o:=.tup [V.int (i:Int),V.int (j:Int)]) hp).trans (fb (o:=.tup [V.int (j:Int),V.int (i:Int)]) hp2));unfold wtO at this;by_cases h:(j,i) ∈ o
  ·rw [if_pos (decide_eq_true h)];rw [if_pos h] at this;exact ⟨_,rfl,this⟩
  ·rw [if_neg (by rw [decide_eq_false h];exact Bool.false_ne_true)];rw [if_neg h] at this;exact this
 exact key.forget fun vs H Q E h=>by
  obtain ⟨wp,z,a,i,j,o,n,ws,e,W,O,he,nt,q⟩:=h;exact ⟨nt,wp,z,a,i,j,o,n,ws,e,W,O,he,fun H' sm=>⟨sm,q⟩⟩
theorem KO (T:Txt w K mg t) (S:Sys):Gb P w K mg base CX0 1 t.Oh t.Yh q9 (WL P w S):=by
 refine T.si.ok Vn (fun vs H Q E h=>?_) (fun _ _ _ s H vs Q E hr h=>?_)
 ·obtain ⟨a,i,j,o,rfl,_⟩:=h;rfl
 obtain ⟨a,i,j,o,rfl,O,ok,k,hm,hn,nt,q⟩:=h;have hu:=rj hr;refine ⟨_,(cb (xb (i:=3) Vn.nd (Ig MD rfl T.kQ Nz (ab (pv 0) gb)))
   (cb (xz hu (pv 3) (Ad (ab (pv 1) (ab (pv 2) gb))) Uo rfl)
   (ib (Cb (pv 3))))),?_⟩
 walk_at "RD";refine ⟨_,O,VD P w ok.nd (fun p hp=>by have:=k.lt (ok.e p hp);omega),fun p ob hp D1=>⟨by decide,fun p2 hp2=>⟨_,Tb D1 (fb hp2),Cf i j,db,?_,fun o2 D2=>?_⟩⟩⟩
 ·rw [Mw];exact Nat.lt_of_le_of_lt (ok.len k hm) (by decide)
 ·rw [Ww hn] at D2;exact q _ _ (fun b u e=>by rw [wb (Ab e hp)];exact fb hp2 _ _ (fb hp _ _ e)) ((nt.upd).upd).upd D2
theorem QO (T:Txt w K mg t):Gb P w K mg base CX0 1 t.wf t.uf ["wanted"] (jL P w t):=by
 refine T.Pg.ok jg (fun vs H Q E h=>?_) (fun _ _ _ s H vs Q E hr h=>?_)
 ·obtain ⟨wp,n,ws,rfl,_⟩:=h;rfl
 obtain ⟨wp,n,ws,rfl,W,ok,nt,q⟩:=h;obtain ⟨dx,al,sd,e1,e2,D⟩:=id W;have hu:=rj hr;refine ⟨_,(cb (xb (i:=1) jg.nd PF)
   (cb (ad PassesOwn.never rfl (Kx rfl T.me (ab qb (ab (Ob (pv 0) rfl) gb))) (lb (i:=2) jg.nd) (ib (Le (Ly (Du hu (Ad (ab qb (ab (pv 2) gb))) (Ob (pv 0) rfl))) (ib (xz hu (pv 1) (Ad (ab qb (ab (pv 2) gb))) Uo rfl)) qc)))
   (ib (Cb (pv 1))))),?_⟩
 walk_at "RD";intro p ob hp D0;have hl:=ok.2.1;have sA:Ib H (upd H p (.ext (AtO p ob))):=fb hp;refine ⟨_,Wi T (sA _ _ e1),_,rfl,by decide,by decide,by omega,by omega,?_⟩;rw [show ((ws.length:Int) - 1).toNat=ws.length - 1 by omega];refine rh.range (fun i σ H'=>Ib H H'∧NoT H'∧km P w H' p (fE (Kb n ws) i)∧∃ x,σ=[some (.ref wp),some (.ref p),x]) ⟨sA,nt.upd,D0,_,rfl⟩ ?_ ?_
 ·rintro i σ H1 hi zzq;refine zzP fun zzM zzh=>?_
  obtain ⟨s1,n1,O1,x,rfl⟩:=zzq;subst zzh;simp only [oh,List.set_cons_succ,List.set_cons_zero];rw [show (1:Int) + (i:Nat)=((i + 1:Nat):Int) by omega];refine wo (fun b H2=>b=(Kb n ws).e 0 (i + 1)∧Ib H1 H2∧NoT H2) (fun Q hQ=>?_) (fun H2 r2=>?_) (fun H2 r2=>?_)
  ·walk_at "RD";refine ⟨by decide,fun p2 hp2=>⟨_,We T (fb hp2 _ _ (s1 _ _ e1)),sd,rfl,_,Tb (Tb D s1) (fb hp2),Cf 0 (i + 1),db,?_⟩⟩;rw [Ez];exact hQ _ _ ⟨rfl,fb hp2,n1.upd⟩
  ·obtain ⟨r1,r2,r3⟩:=r2;walk_at "RD";refine ⟨by decide,fun p2 hp2=>⟨_,Tb (Tb O1 r2) (fb hp2),Cf 0 (i + 1),db,?_,fun o2 D2=>⟨?_,(r3.upd).upd,?_⟩⟩⟩
   ·rw [Mw];have:=ZJ (S:=Kb n ws) i;exact Nat.lt_of_le_of_lt (show _ ≤ 6 by omega) (by decide)
   ·exact fun b u e=>by rw [wb (Ab e hp)];exact fb hp2 _ _ (r2 _ _ (s1 _ _ e))
   ·rw [Ww (fun hm=>by have:=(Vl hm).2.2.1;simp only at this;omega)] at D2;refine ⟨?_,_,rfl⟩;show km P w _ p (fE (Kb n ws) i ++ _);rw [← r1,if_pos rfl];exact D2
  ·obtain ⟨r1,r2,r3⟩:=r2;simp only [se];refine ⟨s1.trans r2,r3,?_,_,rfl⟩;show km P w H2 p (fE (Kb n ws) i ++ _);rw [← r1];rw [if_neg Bool.false_ne_true,List.append_nil];exact Tb O1 r2
 ·rintro σ H1 zzq;refine zzP fun zzM zzh=>?_
  obtain ⟨s1,n1,O1,x,rfl⟩:=zzq;subst zzh;walk_at "RD";exact q _ _ s1 n1 O1
end
end My
namespace My
open PySem L2
noncomputable def ag (r:List Nat):List V:=r.map fun k:Nat=>V.int (k:Int)
theorem ye (r:List Nat):(ag r).length=r.length:=List.length_map ..
theorem iE (r:List Nat):ag r=List.map V.int (r.map fun k:Nat=>(k:Int)):=by unfold ag;rw [List.map_map];rfl
theorem bK (r:List Nat):(r.map fun k:Nat=>(k:Int)).Nodup↔r.Nodup:=by
 induction r with
 | nil=>simp
 | cons x r ih=>
  rw [List.map_cons,List.nodup_cons,List.nodup_cons,ih];refine and_congr_left fun _=>not_congr ⟨fun h=>?_,fun h=>List.mem_map.mpr ⟨x,h,rfl⟩⟩
  obtain ⟨y,hy,e⟩:=List.mem_map.mp h;rw [← Int.ofNat.inj e];exact hy
theorem sB {r:List Nat} {i:Nat} {v:V} (h:(ag r)[i]? = some v):∃ k,r[i]? = some k∧v=V.int (k:Int):=by
 unfold ag at h;rw [List.getElem?_map] at h;cases hr:r[i]? with
 | none=>rw [hr] at h;cases h
 | some k=>rw [hr] at h;exact ⟨k,rfl,(Option.some.inj h).symm⟩
noncomputable def nH (r:List Nat) (i:Nat):Nat:=(r[(i + 1) % r.length]?).getD 0
noncomputable def lE (r:List Nat) (i:Nat):List Nat:=(r ++ r.take 1).take (i + 1)
theorem kF {r:List Nat} (h:r ≠ []):lE r 0=[r.headD 0]:=by
 cases r with
 | nil=>exact absurd rfl h
 | cons x r=>rfl
theorem AC {r:List Nat} (h:r ≠ []):lE r r.length=r ++ r.take 1:=by
 unfold lE;rw [List.take_of_length_le];cases r with
 | nil=>exact absurd rfl h
 | cons x r=>simp
theorem cQ {r:List Nat} {i:Nat} (hi:i < r.length):(r ++ r.take 1)[i + 1]? = some (nH r i):=by
 unfold nH;by_cases h:i + 1 < r.length
 ·rw [List.getElem?_append_left h,Nat.mod_eq_of_lt h,List.getElem?_eq_getElem h];rfl
 ·have e:i + 1=r.length:=by omega
  rw [List.getElem?_append_right (by omega),e,Nat.mod_self,Nat.sub_self];cases r with
  | nil=>simp at hi
  | cons x r=>rfl
theorem BJ {l:List Nat} {i a b:Nat} (h1:l[i]? = some a) (h2:l[i + 1]? = some b):l.take (i + 2)=l.take i ++ a :: [b]∧l.take (i + 1)=l.take i ++ [a]:=by
 have e1:l.take (i + 1)=l.take i ++ [a]:=by rw [List.take_add_one,h1];rfl
 refine ⟨?_,e1⟩;rw [show i + 2=(i + 1) + 1 from rfl,List.take_add_one,h2,e1];simp
theorem bH {r:List Nat} {i k:Nat} (h:r[i]? = some k):∃ a,lE r i=a ++ [k]∧lE r (i + 1)=a ++ k :: [nH r i]:=by
 have hi:=(List.getElem?_eq_some_iff.mp h).1;have h1:(r ++ r.take 1)[i]? = some k:=by rw [List.getElem?_append_left hi];exact h
 obtain ⟨e1,e2⟩:=BJ h1 (cQ hi);exact ⟨_,e2,e1⟩
theorem VE (o:Od):∀ (a:List Nat) (x:Nat) (r:List Nat),Vu o (a ++ x :: r)=(Vu o (a ++ [x]) && Vu o (x :: r)):=by
 intro a
 induction a with
 | nil=>intro x r;simp [Vu]
 | cons u a ih=>
  intro x r;cases a with
  | nil=>simp [Vu]
  | cons v a=>
   have:=ih x r;simp only [List.cons_append,Vu] at this ⊢;rw [this,Bool.and_assoc]
theorem CK (o:Od) {r:List Nat} {i:Nat} (hi:i ≤ r.length) (h:Vu o (lE r i)=false):Vu o (r ++ r.take 1)=false:=by
 unfold lE at h;cases hx:(r ++ r.take 1)[i]? with
 | none=>
  rw [List.take_of_length_le (by have:=List.getElem?_eq_none_iff.mp hx;omega)] at h;exact h
 | some x=>
  have hl:=(List.getElem?_eq_some_iff.mp hx).1;rw [List.take_add_one,hx] at h;have e:r ++ r.take 1=(r ++ r.take 1).take i ++ x :: (r ++ r.take 1).drop (i + 1):=by
   conv=>lhs;rw [← List.take_append_drop i (r ++ r.take 1)]
   rw [List.drop_eq_getElem_cons hl];rw [(List.getElem?_eq_some_iff.mp hx).2]
  rw [e,VE];have h':Vu o ((r ++ r.take 1).take i ++ [x])=false:=h;rw [h',Bool.false_and]
section
variable (P:Program) (w:World)
def sP (t:Adr):Sp:=fun vs H Q _=>∃ wp z a rp o r n ws,vs=[.ref wp,.int z,.ref a,.ref rp]∧Ld P w t H wp n ws∧km P w H a o∧H rp=some (.tup (ag r))∧r.length ≤ 12∧rE (Kb n ws) o∧RB n ws∧NoT H∧Q (.bl (Fk (Kb n ws) z o r)) H
end
section
variable {P:Program} {w:World} {K:PySem.W.Frag} {mg:Str→Option Value} {base:Heap} {t:Adr}
theorem XQ (T:Txt w K mg t):Gb P w K mg base CX0 2 t.Ng t.Mg q23 (sP P w t):=by
 have key:Gb P w K mg base CX0 2 t.Ng t.Mg q23 (fun vs H Q _=>∃ wp z a rp o r n ws,vs=[.ref wp,.int z,.ref a,.ref rp]∧Ld P w t H wp n ws∧km P w H a o∧H rp=some (.tup (ag r))∧r.length ≤ 12∧rE (Kb n ws) o∧RB n ws∧NoT H∧∀ H',Ib H H'→Q (.bl (Fk (Kb n ws) z o r)) H'):=by
  have g23:Gb P w K mg base CX0 1 t.ie t.ae q9 (IG P w):=OL T;have g24:Gb P w K mg base CX0 1 t.ee t.je q19 (FF P w t):=ML T;refine T.Cl.ok af (fun vs H Q E h=>?_) (fun _ _ _ s H vs Q E hr h=>?_)
  ·obtain ⟨wp,z,a,rp,o,r,n,ws,rfl,_⟩:=h;rfl
  obtain ⟨wp,z,a,rp,o,r,n,ws,rfl,W,O,hrp,hlen,ok,wk,nt,q⟩:=h;refine ⟨_,(cb (Le (PW.pt (cy (Pb Ms (jd Bc rfl T.Dn Nc (ab (pv 3) gb)) qb (gc _)) (Vp (Pb Ms (jd uF rfl T.Dn Nc (ab (Ig (CH rfl) rfl T.UQ JC (ab (pv 3) gb)) gb)) (jd Bc rfl T.Dn Nc (ab (pv 3) gb)) (gc _))))) (ib (Cb Uo)) qc)
   (cb (xb (i:=4) af.nd qb)
   (cb (ad PassesOwn.never rfl (lK rfl T.re (ab (pv 3) gb)) (Wc (K:=K) (n:=2) rfl rfl (Bb (lb (i:=5) af.nd) (Bb (lb (i:=6) af.nd) Uc))) (cb (xb (i:=7) af.nd (Zb Zc (pv 3) (Lb Te (Lb Dc (pv 5) qb) (jd Bc rfl T.Dn Nc (ab (pv 3) gb)))))
   (cb (Le (Wq (Cm (ub g23 hr T.Yk T.Nf.kp T.Kk (ab (pv 2) (ab (pv 6) (ab (pv 7) gb)))))) (ib (Cb Uo)) qc)
   (ib (uL (i:=4) af.nd rfl (Or.inl rfl) (ub g24 hr T.Al T.Yf.kp T.El (ab (pv 0) (ab (pv 1) (ab (pv 2) (ab (pv 6) (ab (pv 7) gb)))))) HL)))))
   (ib (Cb (Qf Kz (pv 4) qb (gc _))))))),?_⟩
  have hlen2:(ag r).length ≤ 1000:=by rw [ye];omega
  simp only [Db];refine wo (fun b H'=>Ib H H'∧NoT H'∧b = !(decide (2 ≤ r.length) && decide r.Nodup)) (fun Q hQ=>?_) (fun H1 zz=>?_) (fun H1 zz=>?_)
  ·walk_at "RD";refine ⟨_,.inr (SqT.of hrp),?_⟩;rw [ye];by_cases h2:2 ≤ r.length
   ·rw [if_neg (by rw [decide_eq_true_eq];omega)];refine ⟨_,(iE r) ▸ hrp,by rw [List.length_map];omega,fun p S k hk hk2 hp=>⟨S,k,db,hk2,_,.inr ((SqT.of hrp).same (fb hp)),hQ _ _ ⟨fb hp,nt.upd,?_⟩⟩⟩;rw [List.length_map,bK] at hk;rw [ye,decide_eq_true h2,Bool.true_and];by_cases hd:r.Nodup
    ·rw [decide_eq_true hd];exact decide_eq_false fun g=>hk.mp (by omega) hd
    ·rw [decide_eq_false hd];have:=hk.mpr hd;exact decide_eq_true (by omega)
   ·rw [if_pos (by rw [decide_eq_true_eq];omega)];refine hQ _ _ ⟨Ib.refl _,nt,?_⟩;rw [decide_eq_false h2];rfl
  ·obtain ⟨s1,n1,zb⟩:=zz;walk_at "RD";have hc:(decide (2 ≤ r.length) && decide r.Nodup)=false:=by rw [← Bool.not_not (decide (2 ≤ r.length) && decide r.Nodup),← zb];rfl
   have:=q H1 s1;rw [show Fk (Kb n ws) z o r=false by unfold Fk;rw [hc];rfl] at this;exact this
  obtain ⟨s1,n1,zb⟩:=zz;have hc:(decide (2 ≤ r.length) && decide r.Nodup)=true:=by rw [← Bool.not_not (decide (2 ≤ r.length) && decide r.Nodup),← zb];rfl
  rw [Bool.and_eq_true,decide_eq_true_eq,decide_eq_true_eq] at hc;have hne:r ≠ []:=fun g=>by rw [g] at hc;exact absurd hc.1 (by decide)
  simp only [se,Db];(walk_at "RD"; repeat (dsimp only [SK];walk_at "RD"));have rp1:=s1 _ _ hrp;refine ⟨⟨_,SqT.of rp1⟩,?_⟩;refine rh.of (n:=r.length) (fun i σ H'=>Ib H1 H'∧NoT H'∧Vu o (lE r i)=true∧∃ x y u,σ=[some (.ref wp),some (.int z),some (.ref a),some (.ref rp),some (.int (pwO (Kb n ws) z o (lE r i))),x,y,u]) ?_ ?_ ?_ ?_ ?_
  ·rw [kF hne];exact ⟨Ib.refl _,n1,rfl,_,_,_,rfl⟩
  ·rintro i σ H2 hi ⟨s2,_⟩;exact ⟨_,_,SqT.of (s2 _ _ rp1),List.getElem?_eq_getElem (by rw [ye];exact hi)⟩
  ·rintro σ H2 ⟨s2,_⟩;exact ⟨_,SqT.of (s2 _ _ rp1),ye r⟩
  ·rintro i σ H2 v H3 hi ⟨s2,n2,al,x,y,u,rfl⟩ ⟨p,y',hp,rfl,hy,rfl⟩;have hy':=hy _ (SqT.of (s2 _ _ rp1));obtain ⟨k,hk,rfl⟩:=sB hy';obtain ⟨pr,ep1,ep2⟩:=bH hk;have s3:=s2.trans (fb (o:=.tup [.int i,.int (k:Int)]) hp);have n3:NoT (upd H2 p (.tup [.int i,.int (k:Int)])):=n2.upd;refine sf ?_;simp only [Db,List.set_cons_succ,List.set_cons_zero];generalize upd H2 p (.tup [.int i,.int (k:Int)])=H4 at s3 n3 ⊢;have rp4:=s3 _ _ rp1;have W4:=W.same (s1.trans s3);have O4:km P w H4 a o:=Tb O (s1.trans s3);have hm:(i + 1) % r.length < r.length:=Nat.mod_lt _ (by omega);walk_at "RD";refine ⟨_,.inr (SqT.of rp4),by rw [ye];omega,_,SqT.of rp4,V.int (nH r i:Nat),?_,?_⟩
   ·rw [ye,show ((i:Int) + 1) % (r.length:Int)=(((i + 1) % r.length:Nat):Int) by rw [Int.natCast_emod];rfl];refine Jb ?_;unfold ag nH;rw [List.getElem?_map,List.getElem?_eq_getElem hm];rfl
   have eA:Vu o (lE r (i + 1))=inO o k (nH r i):=by rw [ep2,VE,← ep1,al];simp [Vu]
   have eP:pwO (Kb n ws) z o (lE r (i + 1))=pwO (Kb n ws) z o (lE r i) + wtO (Kb n ws) z o k (nH r i):=by rw [ep2,ak,← ep1];simp [pwO]
   refine ac (!inO o k (nH r i)) (fun Q hQ=>?_) (fun hb=>?_) (fun hb=>?_)
   ·walk_at "RD";exact ⟨a,k,nH r i,o,rfl,O4,n3,_,rfl,hQ⟩
   ·walk_at "RD";have:=q H4 (s1.trans s3);rw [show Fk (Kb n ws) z o r=false by unfold Fk;rw [CK o (i:=i + 1) (by omega) (by rw [eA];simpa using hb),Bool.and_false,Bool.false_and]] at this;exact this
   ·have hb':inO o k (nH r i)=true:=by simpa using hb
    simp only [se];walk_at "RD";refine ⟨wp,z,a,k,nH r i,o,n,ws,rfl,W4,O4,ok.in_e wk.ok hb',n3,?_⟩;exact ⟨_,_,rfl,rfl,s3,n3,by rw [eA];exact hb',by rw [eP],_,rfl⟩
  ·rintro σ H2 zzq;refine zzP fun zzM zzh=>?_
   obtain ⟨s2,n2,al,x,y,u,rfl⟩:=zzq;subst zzh;rw [AC hne] at al;walk_at "RD";have:=q H2 (s1.trans s2);rw [show Fk (Kb n ws) z o r=decide (0 < pwO (Kb n ws) z o (r ++ r.take 1)) by unfold Fk;rw [decide_eq_true hc.1,decide_eq_true hc.2,al];rfl] at this;rw [AC hne];exact this
 exact key.forget fun vs H Q E h=>by
  obtain ⟨wp,z,a,rp,o,r,n,ws,e,W,O,hrp,hlen,ok,wk,nt,q⟩:=h;exact ⟨nt,wp,z,a,rp,o,r,n,ws,e,W,O,hrp,hlen,ok,wk,nt,fun H' sm=>⟨sm,q⟩⟩
end
end My
namespace My
open PySem L2
def Jd (H:Hp) (qs:List Addr) (ps:List (List Nat)):Prop:=qs.length=ps.length∧∀ (i:Nat) (q:Addr) (p:List Nat),qs[i]? = some q→ps[i]? = some p→H q=some (.tup (ag p))
def uz (H:Hp) (l:Addr) (ps:List (List Nat)):Prop:=∃ qs:List Addr,H l=some (.lst (qs.map V.ref))∧Jd H qs ps
theorem Jd.same {H H':Hp} {qs:List Addr} {ps:List (List Nat)} (h:Jd H qs ps) (s:Ib H H'):Jd H' qs ps:=⟨h.1,fun i q p h1 h2=>s _ _ (h.2 i q p h1 h2)⟩
theorem Jd.nil (H:Hp):Jd H [] []:=⟨rfl,fun i q p h=>by simp at h⟩
theorem Jd.app {H:Hp} {qs rs:List Addr} {ps us:List (List Nat)} (h:Jd H qs ps) (g:Jd H rs us):Jd H (qs ++ rs) (ps ++ us):=by
 refine ⟨by rw [List.length_append,List.length_append,h.1,g.1],fun i q p h1 h2=>?_⟩;by_cases hi:i < qs.length
 ·rw [List.getElem?_append_left hi] at h1;rw [List.getElem?_append_left (by rw [← h.1];exact hi)] at h2;exact h.2 i q p h1 h2
 ·rw [List.getElem?_append_right (by omega)] at h1;rw [List.getElem?_append_right (by rw [← h.1];omega),← h.1] at h2;exact g.2 _ q p h1 h2
theorem Jd.one {H:Hp} {q:Addr} {p:List Nat} (h:H q=some (.tup (ag p))):Jd H [q] [p]:=by
 refine ⟨rfl,fun i q' p' h1 h2=>?_⟩;cases i with
 | zero=>cases h1;cases h2;exact h
 | succ i=>simp at h1
theorem Jd.put {H:Hp} {qs:List Addr} {ps:List (List Nat)} {f:Addr} {xs:List V} {o:HO} (h:Jd H qs ps) (hf:H f=some (.lst xs)):Jd (upd H f o) qs ps:=
 ⟨h.1,fun i q p h1 h2=>by
  have e:=h.2 i q p h1 h2;rw [wb (fun z=>by rw [z,hf] at e;cases e)];exact e⟩
theorem uz.same {H H':Hp} {l:Addr} {ps:List (List Nat)} (h:uz H l ps) (s:Ib H H'):uz H' l ps:=by
 obtain ⟨qs,e,t⟩:=h;exact ⟨qs,s _ _ e,t.same s⟩
noncomputable def Wo (S:Sys) (p:List Nat) (i:Nat):List Nat:=((List.range i).map fun k=>p.headD 0 + 1 + k).filter fun v=>S.e (gm p) v
theorem ou (S:Sys) (p:List Nat) (i:Nat):Wo S p (i + 1)=Wo S p i ++ (if S.e (gm p) (p.headD 0 + 1 + i) then [p.headD 0 + 1 + i] else []):=by
 unfold Wo;rw [List.range_succ,List.map_append,List.filter_append,List.map_cons,List.map_nil,List.filter_cons,List.filter_nil]
theorem Mx (S:Sys) (p:List Nat) (i:Nat):(Wo S p i).length ≤ i:=by
 unfold Wo;refine Nat.le_trans (List.length_filter_le ..) ?_;rw [List.length_map,List.length_range];exact Nat.le_refl _
theorem Mu {p:List Nat} (h:p ≠ []):atI (ag p) (-1)=some (.int (gm p:Nat)):=by
 have h0:0 < p.length:=List.length_pos_iff.mpr h;obtain ⟨a,u,rfl⟩:∃ a u,p=a ++ [u]:=by
  rcases List.eq_nil_or_concat p with q | ⟨a,u,q⟩
  ·exact absurd q h
  ·exact ⟨a,u,by rw [q,List.concat_eq_append]⟩
 rw [yu];unfold atI ixN;rw [ye,if_neg (by decide),if_pos (by omega)];rw [List.length_append] at h0 ⊢;rw [show ((-1:Int) + ((a.length + [u].length:Nat):Int)).toNat=a.length by simp;omega];unfold ag;rw [Option.bind_some,List.getElem?_map,List.getElem?_append_right (Nat.le_refl _),Nat.sub_self];rfl
theorem QH (b:Nat) (l:List Nat):inV (.int (b:Int)) (ag l)=decide (b ∈ l):=by
 unfold inV ag;rw [List.any_map,Bool.eq_iff_iff];simp only [List.any_eq_true,Function.comp,eqV,beq_iff_eq,decide_eq_true_eq];constructor
 ·rintro ⟨y,hy,e⟩;rw [← Int.ofNat.inj e];exact hy
 ·intro h;exact ⟨b,h,rfl⟩
theorem XG {S:Sys} {ps:List (List Nat)} {i:Nat} {p:List Nat} (h:ps[i]? = some p):(ps.take (i + 1)).flatMap (ZC S)=(ps.take i).flatMap (ZC S) ++ ZC S p:=by
 rw [List.take_add_one,h,List.flatMap_append];simp
section
variable (P:Program) (w:World)
def GL (t:Adr):Sp:=fun vs H Q _=>∃ wp pl n ws ps,vs=[.ref wp,.ref pl]∧Ld P w t H wp n ws∧uz H pl ps∧(∀ p ∈ ps,p ≠ []∧p.length ≤ 6∧∀ x ∈ p,x < ws.length)∧ps.length ≤ 280000∧RB n ws∧NoT H ∧
 ∀ r H',Ib H H'→NoT H'→H r=none→uz H' r (ps.flatMap (ZC (Kb n ws)))→Q (.ref r) H'
end
section
variable {P:Program} {w:World} {K:PySem.W.Frag} {mg:Str→Option Value} {base:Heap} {t:Adr}
theorem lQ (T:Txt w K mg t):Gb P w K mg base CX0 1 t.Md t.Kd q31 (GL P w t):=by
 refine T.Re.ok Bd (fun vs H Q E h=>?_) (fun _ _ _ s H vs Q E hr h=>?_)
 ·obtain ⟨wp,pl,n,ws,ps,rfl,_⟩:=h;rfl
 obtain ⟨wp,pl,n,ws,ps,rfl,W,L,hps,hpl,wk,nt,q⟩:=h;obtain ⟨dx,al,sd,e1,e2,D⟩:=id W;obtain ⟨qs,l1,l2,l3⟩:=id L;have hu:=rj hr;have hws:=wk.2.1;refine ⟨_,(cb (xb (i:=2) Bd.nd (Pi gb))
   (cb (ad PassesOwn.never rfl (ld (pv 1)) (Jv (i:=3) Bd.nd rfl (Or.inr rfl)) (cb (Ee (i:=4) Bd.nd rfl (Or.inl rfl) rfl (Kx rfl T.me (ab (Lb Dc (Zb Zc (pv 3) qb) qb) (ab (Ob (pv 0) rfl) gb))) (ic (sc:=jb Sd) rfl (by decide +kernel)) (N:=["want","path","wanted"]) (sel:=[none,some 3,some 0]) (uc (M:=q54) (by decide +kernel)) (Blk.of (fun _ _ _ _=>(lb (i:=0) (Ue (N:=["want","path","wanted"]) (by decide +kernel) rfl))) (fun _ _ _ _=>⟨_,(Eo (Ly (Du hu (Ad (ab (Zb Zc (pv 1) (pK bC qb)) (ab (pv 0) gb))) (Ob (pv 2) rfl)))),by walk_at "B"⟩) (fun _ _ _ _=>⟨_,(pv 0),by walk_at "B"⟩)) rfl)
   (ib (gd (Bp PySem.F.plainAttrs_list PySem.F.slot_list_extend PySem.F.type_list_extend iy (pv 2) (ab (Bf rfl (ld (pv 4)) (ic (sc:=jb Sd) rfl (by decide +kernel)) (N:=["want","path"]) (sel:=[none,some 3]) (uc (M:=q54) (by decide +kernel)) (Blk.of (fun _ _ _ _=>(lb (i:=0) (Ue (N:=["want","path"]) (by decide +kernel) rfl))) (fun _ _ _ _=>⟨_,(Eo (Pb Ip (pv 0) (pv 1) (by with_unfolding_all rfl))),by walk_at "B"⟩) (fun _ _ _ _=>⟨_,(Lb Zy (pv 1) (Ad (ab (pv 0) gb))),by walk_at "B"⟩))) gb))))))
   (ib (Cb (pv 2))))),?_⟩
 walk_at "RD";refine ⟨by decide,fun f hf=>⟨⟨_,SqL.of ((fb hf) _ _ l1)⟩,?_⟩⟩;refine rh.list (xs:=qs.map V.ref) (fun i σ H'=>Ib H H'∧NoT H'∧uz H' f ((ps.take i).flatMap (ZC (Kb n ws)))∧∃ x y,σ=[some (.ref wp),some (.ref pl),some (.ref f),x,y]) ?_ ?_ ?_ ?_
 ·exact ⟨fb hf,nt.upd,⟨[],db,Jd.nil _⟩,_,_,rfl⟩
 ·rintro i σ H' hi ⟨s1,_⟩;exact SqL.of (s1 _ _ l1)
 ·rintro i v σ H1 hv zzq;refine zzP fun zzM zzh=>?_
  obtain ⟨s1,n1,⟨fs,f1,f2⟩,x,y,rfl⟩:=zzq;obtain ⟨qi,hqi,rfl⟩:=lc hv;have hi:i < ps.length:=by rw [← l2];exact (List.getElem?_eq_some_iff.mp hqi).1
  have hpi:ps[i]? = some ps[i]:=List.getElem?_eq_getElem hi;have hq:=l3 i qi _ hqi hpi;obtain ⟨hne,hp6,hpw⟩:=hps _ (List.mem_of_getElem? hpi);subst zzh;generalize ps[i]=p at hpi hq hne hp6 hpw;have D1:=Tb D s1;simp only [Db];walk_at "RD";have hh:p.headD 0 < ws.length:=by
   cases p with
   | nil=>exact absurd rfl hne
   | cons x p=>exact hpw x (List.mem_cons_self ..)
  refine ⟨_,SqT.of (s1 _ _ hq),V.int (p.headD 0:Nat),?_,_,rfl,_,Wi T (s1 _ _ e1),_,rfl,by omega,by omega,by omega,by omega,?_⟩
  ·cases p with
   | nil=>exact absurd rfl hne
   | cons x p=>exact Jb (j:=0) rfl
  rw [show ((ws.length:Int) - ((p.headD 0:Nat) + 1)).toNat=ws.length - (p.headD 0 + 1) by omega];refine Fc.range (fun i ys H'=>Ib H1 H'∧NoT H'∧ys=ag (Wo (Kb n ws) p i)) (Nat.le_trans (show ws.length - (p.headD 0 + 1) ≤ 6 by omega) (by decide)) ⟨Ib.refl _,n1,rfl⟩ (fun i ys H' hi ⟨_,_,e⟩=>by rw [e,ye];exact Mx ..) ?_ ?_
  ·rintro k ys H2 hk ⟨s2,n2,rfl⟩ N hN;walk_at "RD";rw [show (p.headD 0:Int) + 1 + (k:Int)=((p.headD 0 + 1 + k:Nat):Int) by omega];refine ⟨Sub.name,_,SqT.of ((s1.trans s2) _ _ hq),_,Mu hne,by decide,fun tp htp=>⟨_,We T (fb htp _ _ ((s1.trans s2) _ _ e1)),sd,rfl,_,Tb (Tb D (s1.trans s2)) (fb htp),Cf (gm p) (p.headD 0 + 1 + k),db,?_⟩⟩;rw [Ez];have s4:=s2.trans (fb (o:=.tup [V.int ((gm p:Nat):Int),V.int ((p.headD 0 + 1 + k:Nat):Int)]) htp);cases he:(Kb n ws).e (gm p) (p.headD 0 + 1 + k) with
   | true=>
    refine hN _ _ ⟨s4,n2.upd,?_⟩;rw [ou,he];unfold ag;rw [if_pos rfl,List.map_append];rfl
   | false=>
    refine hN _ _ ⟨s4,n2.upd,?_⟩;rw [ou,he,if_neg Bool.false_ne_true,List.append_nil]
  ·rintro ys H2 ⟨s2,n2,rfl⟩ nr hnr;have s3:=s2.trans (fb (o:=.lst (ag (Wo (Kb n ws) p (ws.length - (p.headD 0 + 1))))) hnr);have n3:NoT (upd H2 nr (.lst (ag (Wo (Kb n ws) p (ws.length - (p.headD 0 + 1)))))):=n2.upd;have e3:(upd H2 nr (.lst (ag (Wo (Kb n ws) p (ws.length - (p.headD 0 + 1)))))) nr=some (.lst (ag (Wo (Kb n ws) p (ws.length - (p.headD 0 + 1))))):=db;generalize upd H2 nr (.lst (ag (Wo (Kb n ws) p (ws.length - (p.headD 0 + 1)))))=H3 at s3 n3 e3 ⊢;have hnl:=Mx (Kb n ws) p (ws.length - (p.headD 0 + 1));rw [XG hpi];refine ⟨.inl ⟨_,SqL.of (s3 _ _ f1)⟩,nr,rfl,⟨_,SqL.of e3⟩,?_⟩;rw [show ZC (Kb n ws) p=((Wo (Kb n ws) p (ws.length - (p.headD 0 + 1))).filter fun v=>decide (v ∉ p)).map fun v=>p ++ [v] from rfl];generalize Wo (Kb n ws) p (ws.length - (p.headD 0 + 1))=nr at e3 hnl ⊢;refine Fc.list (xs:=ag nr) (fun i ys H'=>Ib H3 H'∧NoT H'∧∃ rs:List Addr,ys=rs.map V.ref∧Jd H' rs (((nr.take i).filter fun v=>decide (v ∉ p)).map fun v=>p ++ [v])) (by rw [ye];exact Nat.le_trans (show nr.length ≤ 6 by omega) (by decide)) ⟨Ib.refl _,n3,[],rfl,Jd.nil _⟩ ?_ ?_ ?_
   ·rintro i ys H' hi zzq;refine zzP fun zzM zzh=>?_
    obtain ⟨s4,n4,rs,rfl,t4⟩:=zzq;subst zzh;refine ⟨SqL.of (s4 _ _ e3),?_⟩;rw [List.length_map,t4.1,List.length_map];refine Nat.le_trans (List.length_filter_le ..) ?_;rw [List.length_take];omega
   ·rintro k v ys H4 hv ⟨s4,n4,rs,rfl,t4⟩ N hN;obtain ⟨u,hu',rfl⟩:=sB hv;walk_at "RD";have q4:=(s1.trans (s3.trans s4)) _ _ hq;refine ⟨Sub.name,_,.inr (SqT.of q4),rfl,?_,?_⟩
    ·refine List.all_eq_true.mpr fun x hx=>?_
     obtain ⟨y,_,rfl⟩:=List.mem_map.mp hx;rfl
    have et:nr.take (k + 1)=nr.take k ++ [u]:=by rw [List.take_add_one,hu'];rfl
    rw [QH];by_cases hup:u ∈ p
    ·rw [decide_eq_true hup,if_neg (by decide)];refine hN _ _ ⟨s4,n4,rs,rfl,?_⟩;rw [et,List.filter_append,List.filter_cons,decide_eq_false (fun z=>z hup),if_neg Bool.false_ne_true,List.filter_nil,List.append_nil];exact t4
    ·rw [decide_eq_false hup,if_pos (by decide)];refine ⟨by decide,fun tp htp=>⟨_,SqT.of (fb htp _ _ q4),_,SqT.of db,(fun z=>hne (by unfold ag at z;exact List.map_eq_nil_iff.mp z)),Nat.le_trans (show (ag p).length + 1 ≤ 7 by rw [ye];omega) (by decide),(fun z=>by cases z),fun _ tq htq=>hN _ _ ⟨?_,?_,rs ++ [tq],by rw [List.map_append];rfl,?_⟩⟩⟩
     ·exact (s4.trans (fb htp)).trans (fb htq)
     ·exact (n4.upd).upd
     ·rw [et,List.filter_append,List.filter_cons,decide_eq_true hup,if_pos rfl,List.filter_nil,List.map_append];refine (t4.same ((fb htp).trans (fb htq))).app (Jd.one ?_);rw [db];unfold ag;rw [List.map_append];rfl
   ·rintro ys H4 ⟨s4,n4,rs,rfl,t4⟩ rl hrl;have s5:=(s3.trans s4).trans (fb (o:=.lst (rs.map V.ref)) hrl);have f5:=s5 _ _ f1;rw [ye,List.take_length] at t4;have hfl:fs.length ≤ 280000 * 6:=by
     rw [f2.1];refine Nat.le_trans (AB (c:=6) (fun p=>Nat.le_trans (yA p) hws) _) (Nat.mul_le_mul_right _ ?_);rw [List.length_take];omega
    have hrs:rs.length ≤ 6:=by
     rw [t4.1,List.length_map];exact Nat.le_trans (List.length_filter_le ..) (by omega)
    refine ⟨_,rfl,_,f5,_,db,?_,?_,?_,⟨fs ++ rs,by rw [db,List.map_append],?_⟩,_,rfl⟩
    ·rw [List.length_map,List.length_map];exact Nat.le_trans (show fs.length + rs.length ≤ 1680006 by omega) (by decide)
    ·exact (s1.trans s5).updN hf
    ·exact (n4.upd).upd
    ·exact ((f2.same s5).app (t4.same (fb hrl))).put f5
 ·rintro σ H1 zzq;refine zzP fun zzM zzh=>?_
  obtain ⟨s1,n1,L1,x,y,rfl⟩:=zzq;subst zzh;walk_at "RD";rw [List.length_map,l2,List.take_length] at L1;exact q f H1 s1 n1 hf L1
end
theorem jD {S:Sys} (hm:S.m ≤ 6):∀ k,k ≤ 6→(Ch S k).length ≤ k * 279936:=by
 intro k
 induction k with
 | zero=>intro _;exact Nat.le_refl _
 | succ k ih=>
  intro hk;unfold Ch;rw [List.length_append];have h1:=ih (by omega);have h2:=Nat.le_trans (List.length_filter_le (clR S) (lev S (k + 1))) (NF (S:=S) (k + 1));have h3:S.m ^ (k + 1 + 1) ≤ 6 ^ 7:=Nat.le_trans (Nat.pow_le_pow_left hm _) (Nat.pow_le_pow_right (by decide) (by omega));omega
theorem Jd.at {H:Hp} {qs:List Addr} {ps:List (List Nat)} (h:Jd H qs ps) {i:Nat} {q:Addr} (hq:qs[i]? = some q):∃ p,ps[i]? = some p∧H q=some (.tup (ag p)):=by
 have hi:i < ps.length:=by rw [← h.1];exact (List.getElem?_eq_some_iff.mp hq).1
 exact ⟨_,List.getElem?_eq_getElem hi,h.2 i q _ hq (List.getElem?_eq_getElem hi)⟩
section
variable (P:Program) (w:World)
def xL (t:Adr):Sp:=fun vs H Q _=>∃ wp n ws,vs=[.ref wp]∧Ld P w t H wp n ws∧RB n ws∧NoT H ∧
 ∀ r H' k,Ib H H'→NoT H'→lev (Kb n ws) k=[]→k ≤ 6→uz H' r (Ch (Kb n ws) k)→Q (.ref r) H'
end
section
variable {P:Program} {w:World} {K:PySem.W.Frag} {mg:Str→Option Value} {base:Heap} {t:Adr}
theorem RP (T:Txt w K mg t):Gb P w K mg base CX0 2 t.Pl t.Rl ["wanted"] (xL P w t):=by
 have g55:Gb P w K mg base CX0 1 t.Md t.Kd q31 (GL P w t):=lQ T;refine T.Ap.ok Gj (fun vs H Q E h=>?_) (fun _ _ _ s H vs Q E hr h=>?_)
 ·obtain ⟨wp,n,ws,rfl,_⟩:=h;rfl
 obtain ⟨wp,n,ws,rfl,W,wk,nt,q⟩:=h;obtain ⟨dx,al,sd,e1,e2,D⟩:=id W;have hu:=rj hr;have hws:=wk.2.1;have hm:(Kb n ws).m ≤ 6:=hws;refine ⟨_,(cb (xb (i:=1) Gj.nd (Pi gb))
   (cb (Ee (i:=2) Gj.nd rfl (Or.inl rfl) rfl (Xc rfl T.me (ab (Ob (pv 0) rfl) gb)) (ic (sc:=jb Kl) rfl (by decide +kernel)) (N:=["want"]) (sel:=[none]) (uc (M:=q55) (by decide +kernel)) (Blk.of (fun _ _ _ _=>(lb (i:=0) (Ue (N:=["want"]) (by decide +kernel) rfl))) (fun _ _ _ _=>⟨_,pe,by walk_at "B"⟩) (fun _ _ _ _=>⟨_,(Ad (ab (pv 0) gb)),by walk_at "B"⟩)) rfl)
   (cb (iC PassesOwn.never (Ov (pv 2) (fun _=>rfl)) (cb (xb (i:=2) Gj.nd (ub g55 hr T.Hk T.Re.kp T.Zk (ab (pv 0) (ab (pv 2) gb))))
   (ib (gd (Bp PySem.F.plainAttrs_list PySem.F.slot_list_extend PySem.F.type_list_extend iy (pv 1) (ab (Bf rfl (ld (pv 2)) (ic (sc:=jb Kl) rfl (by decide +kernel)) (N:=["path","wanted"]) (sel:=[none,some 0]) (uc (M:=q55) (by decide +kernel)) (Blk.of (fun _ _ _ _=>(lb (i:=0) (Ue (N:=["path","wanted"]) (by decide +kernel) rfl))) (fun _ _ _ _=>⟨_,(Eo (Ly (Du hu (Ad (ab (Zb Zc (pv 0) (pK bC qb)) (ab (Zb Zc (pv 0) qb) gb))) (Ob (pv 1) rfl)))),by walk_at "B"⟩) (fun _ _ _ _=>⟨_,(pv 0),by walk_at "B"⟩))) gb))))))
   (ib (Cb (pv 1)))))),?_⟩
 walk_at "RD";refine ⟨by decide,fun f hf=>⟨_,Wi T ((fb hf) _ _ e1),_,rfl,by omega,by omega,?_⟩⟩;rw [show ((ws.length:Int)).toNat=ws.length by omega];have sA:Ib H (upd H f (.lst [])):=fb hf;have nA:NoT (upd H f (.lst [])):=nt.upd;have fA:(upd H f (.lst [])) f=some (.lst []):=db;generalize upd H f (.lst [])=HA at sA nA fA ⊢;refine Fc.range (fun i ys H'=>Ib HA H'∧NoT H'∧∃ rs:List Addr,ys=rs.map V.ref∧Jd H' rs ((List.range i).map fun k=>[k])) (Nat.le_trans hws (by decide)) ⟨Ib.refl _,nA,[],rfl,Jd.nil _⟩ (fun i ys H' hi ⟨_,_,rs,e,t'⟩=>by rw [e,List.length_map,t'.1,List.length_map,List.length_range];exact Nat.le_refl _) ?_ ?_
 ·rintro i ys H1 hi ⟨s1,n1,rs,rfl,t1⟩ N hN;walk_at "RD";refine ⟨Sub.name,by decide,fun tp htp=>hN _ _ ⟨s1.trans (fb htp),n1.upd,rs ++ [tp],by rw [List.map_append];rfl,?_⟩⟩;rw [List.range_succ,List.map_append];refine (t1.same (fb htp)).app (Jd.one ?_);rw [db];rfl
 rintro ys H1 ⟨s1,n1,rs,rfl,t1⟩ pl hpl;have s2:=s1.trans (fb (o:=.lst (rs.map V.ref)) hpl);have n2:NoT (upd H1 pl (.lst (rs.map V.ref))):=n1.upd;have L2':uz (upd H1 pl (.lst (rs.map V.ref))) pl (lev (Kb n ws) 0):=⟨rs,db,t1.same (fb hpl)⟩;generalize upd H1 pl (.lst (rs.map V.ref))=H2 at s2 n2 L2' ⊢;refine ⟨fun j σ H'=>∃ k pl',j=6 - k∧k ≤ 6∧Ib H H'∧NoT H'∧uz H' f (Ch (Kb n ws) k)∧uz H' pl' (lev (Kb n ws) k)∧pl' ≠ f∧σ=[some (.ref wp),some (.ref f),some (.ref pl')],⟨6,0,pl,rfl,Nat.zero_le _,sA.trans s2,n2,⟨[],s2 _ _ fA,Jd.nil _⟩,L2',Ne.symm (Ab (s1 _ _ fA) hpl),rfl⟩,?_⟩;rintro j σ H3 zzq;refine zzP fun zzM zzh=>?_
 obtain ⟨k,pl',rfl,hk,s3,n3,F3,L3,hne,rfl⟩:=zzq;obtain ⟨qs,q1,q2⟩:=id L3;obtain ⟨fs,f1,f2⟩:=id F3;subst zzh;walk_at "RD";refine ⟨!(qs.map V.ref).isEmpty,.inl ⟨_,SqL.of q1,rfl⟩,?_⟩;by_cases he:lev (Kb n ws) k=[]
 ·have hq0:qs=[]:=List.length_eq_zero_iff.mp (by rw [q2.1,he];rfl);rw [hq0,if_neg (by decide)];exact q f H3 k s3 n3 he hk F3
 have hq0:qs ≠ []:=fun z=>by
  have:=q2.1;rw [z] at this;exact he (List.length_eq_zero_iff.mp this.symm)
 have hk6:k < 6:=by
  rcases Nat.lt_or_ge k 6 with z | z
  ·exact z
  ·have:=vA (FM (S:=Kb n ws)) (k - (Kb n ws).m);rw [show (Kb n ws).m + (k - (Kb n ws).m)=k by omega] at this;exact absurd this he
 rw [if_pos (by cases qs with | nil=>exact absurd rfl hq0 | cons x l=>rfl)];have hlen:∀ k,k ≤ 6→(lev (Kb n ws) k).length ≤ 279936:=fun k hk=>Nat.le_trans (NF k) (Nat.le_trans (Nat.pow_le_pow_left hm _) (Nat.pow_le_pow_right (n:=6) (by decide) (show k + 1 ≤ 7 by omega)))
 refine ⟨fun σ' H'=>∃ x,Ib H H'∧NoT H'∧uz H' f (Ch (Kb n ws) (k + 1))∧uz H' x (lev (Kb n ws) (k + 1))∧x ≠ f∧σ'=[some (.ref wp),some (.ref f),some (.ref x)],fun σ' H' z=>?_,?_⟩
 ·obtain ⟨x,z1,z2,z3,z4,z5,z6⟩:=z;exact ⟨6 - (k + 1),by omega,k + 1,rfl,by omega,z1,z2,z3,x,z4,z5,z6⟩
 refine ⟨wp,pl',n,ws,lev (Kb n ws) k,rfl,W.same s3,L3,fun p hp=>?_,?_,wk,n3,fun r H4 s4 n4 hr4 L4=>?_⟩
 ·obtain ⟨g1,g2,g3⟩:=YB _ _ hp;refine ⟨?_,by omega,g3⟩;intro z;rw [z] at g1;cases g1
 ·have:=hlen k hk;omega
 obtain ⟨us,u1,u2⟩:=id L4;have f4:=s4 _ _ f1;have hrf:r ≠ f:=fun z=>by rw [z,f1] at hr4;cases hr4
 refine ⟨.inl ⟨_,SqL.of f4⟩,r,rfl,⟨_,SqL.of u1⟩,?_⟩;have L4':Jd H4 us (lev (Kb n ws) (k + 1)):=u2;have hul:us.length ≤ 279936:=by rw [L4'.1];exact hlen _ (by omega)
 refine Fc.list (xs:=us.map V.ref) (fun i ys H'=>Ib H4 H'∧NoT H'∧∃ rs:List Addr,ys=rs.map V.ref∧Jd H' rs (((lev (Kb n ws) (k + 1)).take i).filter (clR (Kb n ws)))) (by rw [List.length_map];exact Nat.le_trans hul (by decide)) ⟨Ib.refl _,n4,[],rfl,Jd.nil _⟩ ?_ ?_ ?_
 ·rintro i ys H' hi zzq;refine zzP fun zzM zzh=>?_
  obtain ⟨s5,n5,rs',rfl,t5⟩:=zzq;subst zzh;refine ⟨SqL.of (s5 _ _ u1),?_⟩;rw [List.length_map,t5.1];refine Nat.le_trans (List.length_filter_le ..) ?_;rw [List.length_take];omega
 ·rintro i v ys H5 hv ⟨s5,n5,rs',rfl,t5⟩ N hN;obtain ⟨qi,hqi,rfl⟩:=lc hv;obtain ⟨p,hp,hpq⟩:=L4'.at hqi;obtain ⟨g1,g2,g3⟩:=YB _ _ (List.mem_of_getElem? hp);have hpne:p ≠ []:=fun z=>by rw [z] at g1;cases g1
  have hp5:=s5 _ _ hpq;have s45:=s3.trans (s4.trans s5);have ef:((lev (Kb n ws) (k + 1)).take (i + 1)).filter (clR (Kb n ws))=((lev (Kb n ws) (k + 1)).take i).filter (clR (Kb n ws)) ++ (if clR (Kb n ws) p then [p] else []):=by
   rw [List.take_add_one,hp,List.filter_append];show _ ++ List.filter _ [p]=_;rw [List.filter_cons,List.filter_nil]
  walk_at "RD";refine ⟨Sub.name,_,SqT.of hp5,_,Mu hpne,_,SqT.of hp5,V.int (p.headD 0:Nat),?_,by decide,fun tp htp=>⟨_,We T (fb htp _ _ (s45 _ _ e1)),sd,rfl,_,Tb (Tb D s45) (fb htp),Cf (gm p) (p.headD 0),db,?_⟩⟩
  ·cases p with
   | nil=>exact absurd rfl hpne
   | cons x p=>exact Jb (j:=0) rfl
  rw [Ez];have s6:=s5.trans (fb (o:=.tup [V.int ((gm p:Nat):Int),V.int ((p.headD 0:Nat):Int)]) htp);have t6:=t5.same (fb (o:=.tup [V.int ((gm p:Nat):Int),V.int ((p.headD 0:Nat):Int)]) htp);cases hc:(Kb n ws).e (gm p) (p.headD 0) with
  | true=>
   refine hN _ _ ⟨s6,n5.upd,rs' ++ [qi],by rw [List.map_append];rfl,?_⟩;rw [ef,show clR (Kb n ws) p=true from hc,if_pos rfl];exact t6.app (Jd.one (s6 _ _ hpq))
  | false=>
   refine hN _ _ ⟨s6,n5.upd,rs',rfl,?_⟩;rw [ef,show clR (Kb n ws) p=false from hc,if_neg Bool.false_ne_true,List.append_nil];exact t6
 ·rintro ys H5 ⟨s5,n5,rs',rfl,t5⟩ rl hrl;rw [List.length_map,L4'.1,List.take_length] at t5;have sr:=fb (o:=.lst (rs'.map V.ref)) hrl;have f5:=sr _ _ (s5 _ _ f4);have hfl:fs.length ≤ 6 * 279936:=by rw [f2.1];exact Nat.le_trans (jD hm k hk) (Nat.mul_le_mul_right _ hk)
  have hrs:rs'.length ≤ 279936:=by
   rw [t5.1];exact Nat.le_trans (List.length_filter_le ..) (hlen _ (by omega))
  refine ⟨_,rfl,_,f5,_,db,?_,r,?_,(n5.upd).upd,⟨fs ++ rs',by rw [db,List.map_append],?_⟩,⟨us,?_,?_⟩,hrf,rfl⟩
  ·rw [List.length_map,List.length_map];exact Nat.le_trans (show fs.length + rs'.length ≤ 1959552 by omega) (by decide)
  ·exact (((s3.trans s4).trans s5).trans sr).updN hf
  ·exact ((f2.same ((s4.trans s5).trans sr)).app (t5.same sr)).put f5
  ·rw [wb hrf];exact sr _ _ (s5 _ _ u1)
  ·exact ((L4'.same s5).same sr).put f5
end
end My
namespace My
open PySem L2
noncomputable def Af (S:Sys):Od:=(List.range S.m).flatMap fun i=>((List.range S.m).filter fun j=>S.e i j).map fun j=>(i,j)
theorem el {S:Sys} {i j:Nat} (h:(i,j) ∈ Af S):S.e i j=true:=by
 obtain ⟨k,_,h⟩:=List.mem_flatMap.mp h;obtain ⟨l,hl,e⟩:=List.mem_map.mp h;cases e;exact (List.mem_filter.mp hl).2
theorem Sv {S:Sys} (k:S.Ok) {i j:Nat} (h:S.e i j=true):(i,j) ∈ Af S:=
 List.mem_flatMap.mpr ⟨i,List.mem_range.mpr (k.lt h).1,List.mem_map.mpr ⟨j,List.mem_filter.mpr ⟨List.mem_range.mpr (k.lt h).2.1,h⟩,rfl⟩⟩
theorem HM {n:Int} {ws:List (WD × Int)} {i:Nat} (hi:i < ws.length):∀ k,k ≤ ws.length→Li n ws i k=((List.range k).filter fun j=>(Kb n ws).e i j).map fun j=>(Cf i j,V.int ((Kb n ws).st i j)):=by
 have hp:ws[i]? = some ws[i]:=List.getElem?_eq_getElem hi;intro k
 induction k with
 | zero=>intro _;rfl
 | succ k ih=>
  intro hk;have hq:ws[k]? = some ws[k]:=List.getElem?_eq_getElem (by omega);have hs:=vh (n:=n) hp hq;rw [List.range_succ,List.filter_append,List.map_append,← ih (by omega),List.filter_cons,List.filter_nil];by_cases h:i ≠ k∧mt n ws[i].1 ws[k].1=true
  ·rw [Uw hp hq h,hs.1,decide_eq_true h.1,h.2,if_pos (by rfl),List.map_cons,List.map_nil,hs.2]
  ·rw [Cw hp hq h,hs.1,if_neg (by simpa using h),List.map_nil,List.append_nil]
theorem jH {α β:Type} {f g:α→List β}:∀ {l:List α},(∀ x ∈ l,f x=g x)→l.flatMap f=l.flatMap g:=by
 intro l
 induction l with
 | nil=>intro _;rfl
 | cons x l ih=>intro h;rw [List.flatMap_cons,List.flatMap_cons,h x (List.mem_cons_self ..),ih fun y hy=>h y (List.mem_cons_of_mem _ hy)]
theorem vp (n:Int) (ws:List (WD × Int)):bg n ws ws.length=(Af (Kb n ws)).map fun p=>(Cf p.1 p.2,V.int ((Kb n ws).st p.1 p.2)):=by
 unfold bg Af;rw [List.map_flatMap];refine jH fun i hi=>?_
 rw [HM (List.mem_range.mp hi) _ (Nat.le_refl _),List.map_map];rfl
theorem aH {n:Int} {ws:List (WD × Int)} (h:ws.length ≤ 6):(Af (Kb n ws)).length ≤ 36:=by
 have:=Lx n ws ws.length;rw [vp,List.length_map] at this;exact Nat.le_trans this (Nat.mul_le_mul h h)
theorem iw {H:Hp} {n:Int} {ws:List (WD × Int)} {xs:List (List Key × Addr × Value)} (r:Paired (fun (p:List Key × V) (q:List Key × Addr × Value)=>p.1=q.1∧H q.2.1=some (.tup (p.1.map kV))∧Vd p.2 q.2.2) (bg n ws ws.length) xs) {i:Nat} {k:List Key} {b:Addr} {u:Value} (hx:xs[i]? = some (k,b,u)):∃ x y,(Af (Kb n ws))[i]? = some (x,y)∧H b=some (.tup [.int (x:Nat),.int (y:Nat)]):=by
 rw [vp] at r;have hi:i < ((Af (Kb n ws)).map fun p=>(Cf p.1 p.2,V.int ((Kb n ws).st p.1 p.2))).length:=by rw [Tq r];exact (List.getElem?_eq_some_iff.mp hx).1
 obtain ⟨q,hq,z1,z2,z3⟩:=ZG r (List.getElem?_eq_getElem hi);rw [hx] at hq;cases hq;rw [List.length_map] at hi;refine ⟨(Af (Kb n ws))[i].1,(Af (Kb n ws))[i].2,List.getElem?_eq_getElem hi,?_⟩;rw [List.getElem_map] at z2;exact z2
section
variable (P:Program) (w:World)
def JK (t:Adr):Sp:=fun vs H Q _=>∃ wp a n ws o,vs=[.ref wp,.ref a]∧Ld P w t H wp n ws∧km P w H a o∧RB n ws∧NoT H ∧
 (∀ r i j H',Ib H H'→NoT H'→H' r=some (.tup [.int (i:Nat),.int (j:Nat)])→(Kb n ws).e i j=true→inO o i j=false→Q (.ref r) H')∧((∀ i j,(Kb n ws).e i j=true→inO o i j=true)→Q .non H)
noncomputable def kt (S:Sys) (b:Nat→Int):List V:=(List.range S.m).map fun v=>V.int (b v)
def LK (t:Adr):Sp:=fun vs H Q _=>∃ wp z a n ws o,vs=[.ref wp,.int z,.ref a]∧Ld P w t H wp n ws∧km P w H a o∧RB n ws∧0 < z∧NoT H ∧
 ∀ r H',Ib H H'→NoT H'→H r=none→H' r=some (.lst (kt (Kb n ws) fun v=>Wr (Kb n ws) z o (Af (Kb n ws)) ws.length v % z))→Q (.ref r) H'
end
theorem EE {S:Sys} {b:Nat→Int} {i:Nat} (h:i < S.m):(kt S b)[i]? = some (V.int (b i)):=by
 unfold kt;rw [List.getElem?_map,List.getElem?_range h];rfl
theorem XJ {S:Sys} {b c:Nat→Int} {i:Nat} {x:Int} (h1:c i=x) (h2:∀ j,j ≠ i→c j=b j):(kt S b).set i (V.int x)=kt S c:=by
 refine List.ext_getElem? fun j=>?_
 unfold kt;rw [List.getElem?_set];by_cases hj:i=j
 ·subst hj;rw [if_pos rfl,List.length_map,List.length_range];by_cases hl:i < S.m
  ·rw [if_pos hl,List.getElem?_map,List.getElem?_range hl,← h1];rfl
  ·rw [if_neg hl,List.getElem?_map,List.getElem?_eq_none (by rw [List.length_range];omega)];rfl
 ·rw [if_neg hj,List.getElem?_map,List.getElem?_map];by_cases hl:j < S.m
  ·rw [List.getElem?_range hl];show some (V.int (b j))=some (V.int (c j));rw [h2 j (Ne.symm hj)]
  ·rw [List.getElem?_eq_none (by rw [List.length_range];omega)];rfl
theorem JP {n j:Nat} (h:j < n):ixN n (j:Int)=some j:=by unfold ixN;simp;omega
theorem OH {S:Sys} {z:Int} {o:Od} (b:Nat→Int) (i j:Nat):relax S z o b (i,j) j=if b i + wtO S z o i j > b j then b i + wtO S z o i j else b j:=by
 have e:relax S z o b (i,j) j=max (b j) (b i + wtO S z o i j):=if_pos rfl;rw [e,Int.max_def];split <;> split <;> omega
theorem RD {S:Sys} {z:Int} {o:Od} (b:Nat→Int) (i j:Nat) {k:Nat} (h:k ≠ j):relax S z o b (i,j) k=b k:=if_neg h
noncomputable def eS (z:Int):V→V
 | .int x=>.int (x % z)
 | v=>v
theorem DK (S:Sys) (b:Nat→Int) (z:Int):(kt S b).map (eS z)=kt S fun v=>b v % z:=by
 unfold kt;rw [List.map_map];rfl
section
variable {P:Program} {w:World} {K:PySem.W.Frag} {mg:Str→Option Value} {base:Heap} {t:Adr}
theorem nQ (T:Txt w K mg t):Gb P w K mg base CX0 2 t.Xd t.Yd q32 (JK P w t):=by
 have g23:Gb P w K mg base CX0 1 t.ie t.ae q9 (IG P w):=OL T;refine T.jf.ok Oe (fun vs H Q E h=>?_) (fun _ _ _ s H vs Q E hr h=>?_)
 ·obtain ⟨wp,a,n,ws,o,rfl,_⟩:=h;rfl
 obtain ⟨wp,a,n,ws,o,rfl,W,O,wk,nt,q1,q2⟩:=h;obtain ⟨dx,al,sd,e1,e2,D⟩:=id W;have hu:=rj hr;refine ⟨_,(cb (ad PassesOwn.never rfl (DE (Ob (pv 0) rfl)) (Wc (K:=K) (n:=2) rfl rfl (Bb (lb (i:=2) Oe.nd) (Bb (lb (i:=3) Oe.nd) Uc))) (ib (Le (Wq (Cm (ub g23 hr T.Yk T.Nf.kp T.Kk (ab (pv 1) (ab (pv 2) (ab (pv 3) gb)))))) (ib (Cb (Ad (ab (pv 2) (ab (pv 3) gb))))) qc)))
   (ib (Cb Ug))),?_⟩
 walk_at "RD";refine ⟨_,We T e1,_,rfl,_,D,fun ob es ep xs r=>?_⟩;have hxl:xs.length=(Af (Kb n ws)).length:=by rw [← Tq r.ks,vp,List.length_map]
 refine rh.of (n:=(bg n ws ws.length).length) (fun i σ H'=>H'=H∧(∀ l p,l < i→(Af (Kb n ws))[l]? = some p→inO o p.1 p.2=true)∧∃ x y,σ=[some (.ref wp),some (.ref a),x,y]) ?_ ?_ ?_ ?_ ?_
 ·exact ⟨rfl,fun l p hl=>absurd hl (Nat.not_lt_zero _),_,_,rfl⟩
 ·rintro i σ H' hi ⟨rfl,_⟩;exact ⟨r.at_,hi⟩
 ·rintro σ H' ⟨rfl,_⟩;exact ⟨r.at_,Nat.le_refl _⟩
 ·rintro i σ H' v H2 hi ⟨rfl,hin,x,y,rfl⟩ ⟨rfl,k,b,u,hxs,rfl⟩;obtain ⟨i1,j1,hp,hb⟩:=iw r.ks hxs;refine yo (SqT.of hb) ?_;simp only [List.set_cons_succ,List.set_cons_zero];refine ac (!inO o i1 j1) (fun Q hQ=>?_) (fun hb=>?_) (fun hb=>?_)
  ·walk_at "RD";exact ⟨a,i1,j1,o,rfl,O,nt,_,rfl,hQ⟩
  ·walk_at "RD";refine ⟨by decide,fun tp htp=>q1 tp i1 j1 _ (fb htp) nt.upd db (el (List.mem_of_getElem? hp)) (by simpa using hb)⟩
  ·simp only [se];refine ⟨trivial,fun l p hl hlp=>?_,_,_,rfl⟩;rcases Nat.lt_or_ge l i with z | z
   ·exact hin l p z hlp
   ·have:l=i:=by omega
    subst this;rw [hp] at hlp;cases hlp;simpa using hb
 ·rintro σ H' zzq;refine zzP fun zzM zzh=>?_
  obtain ⟨rfl,hin,x,y,rfl⟩:=zzq;subst zzh;walk_at "RD";refine q2 fun i j he=>?_
  obtain ⟨l,hl⟩:=List.getElem?_of_mem (Sv wk.ok he);refine hin l _ ?_ hl;rw [vp,List.length_map];exact (List.getElem?_eq_some_iff.mp hl).1
theorem bQ (T:Txt w K mg t):Gb P w K mg base CX0 2 t.Ye t.Ve q33 (LK P w t):=by
 have g24:Gb P w K mg base CX0 1 t.ee t.je q19 (FF P w t):=ML T;refine T.gg.ok Pd (fun vs H Q E h=>?_) (fun _ _ _ s H vs Q E hr h=>?_)
 ·obtain ⟨wp,z,a,n,ws,o,rfl,_⟩:=h;rfl
 obtain ⟨wp,z,a,n,ws,o,rfl,W,O,wk,hz,nt,q⟩:=h;obtain ⟨dx,al,sd,e1,e2,D⟩:=id W;have hu:=rj hr;have hws:=wk.2.1;refine ⟨_,(cb (Ee (i:=3) Pd.nd rfl (Or.inl rfl) rfl (Xc rfl T.me (ab (Ob (pv 0) rfl) gb)) (ic (sc:=jb df) rfl (by decide +kernel)) (N:=["want"]) (sel:=[none]) (uc (M:=q56) (by decide +kernel)) (Blk.of (fun _ _ _ _=>(lb (i:=0) (Ue (N:=["want"]) (by decide +kernel) rfl))) (fun _ _ _ _=>⟨_,pe,by walk_at "B"⟩) (fun _ _ _ _=>⟨_,qb,by walk_at "B"⟩)) rfl)
   (cb (ad PassesOwn.never rfl (Xc rfl T.me (ab (Ob (pv 0) rfl) gb)) (lb (i:=4) Pd.nd) (ib (ad PassesOwn.never rfl (DE (Ob (pv 0) rfl)) (Wc (K:=K) (n:=2) rfl rfl (Bb (lb (i:=5) Pd.nd) (Bb (lb (i:=6) Pd.nd) Uc))) (ib (Qk (jd (Fy rfl) rfl T.vJ Do (ab (Zb He (pv 3) (pv 6)) (ab (Lb Dc (Zb He (pv 3) (pv 5)) (ub g24 hr T.Al T.Yf.kp T.El (ab (pv 0) (ab (pv 1) (ab (pv 2) (ab (pv 5) (ab (pv 6) gb))))))) gb))) (oy (pv 3) (pv 6) Qn))))))
   (ib (Cb (Bf rfl (ld (pv 3)) (ic (sc:=jb df) rfl (by decide +kernel)) (N:=["begin","size"]) (sel:=[none,some 1]) (uc (M:=q56) (by decide +kernel)) (Blk.of (fun _ _ _ _=>(lb (i:=0) (Ue (N:=["begin","size"]) (by decide +kernel) rfl))) (fun _ _ _ _=>⟨_,pe,by walk_at "B"⟩) (fun _ _ _ _=>⟨_,(Lb Te (pv 0) (pv 1)),by walk_at "B"⟩))))))),?_⟩
 walk_at "RD";refine ⟨_,Wi T e1,_,rfl,by omega,by omega,?_⟩;rw [show ((ws.length:Int)).toNat=ws.length by omega];refine Fc.range_map (fun _=>V.int 0) (Nat.le_trans hws (by decide)) (fun i N hi hN=>?_) (fun b hb=>?_)
 ·walk_at "RD";exact ⟨Sub.name,hN⟩
 walk_at "RD";have sb:=fb (o:=.lst ((List.range ws.length).map fun _=>V.int 0)) hb;refine ⟨_,Wi T (sb _ _ e1),_,rfl,by omega,by omega,?_⟩;rw [show ((ws.length:Int)).toNat=ws.length by omega];refine rh.range (fun i σ H'=>Ib H H'∧NoT H'∧H' b=some (.lst (kt (Kb n ws) (Wr (Kb n ws) z o (Af (Kb n ws)) i)))∧∃ x y u,σ=[some (.ref wp),some (.int z),some (.ref a),some (.ref b),x,y,u]) ⟨sb,nt.upd,db,_,_,_,rfl⟩ ?_ ?_
 ·rintro i σ H1 hi zzq;refine zzP fun zzM zzh=>?_
  obtain ⟨s1,n1,b1,x,y,u,rfl⟩:=zzq;subst zzh;walk_at "RD";refine ⟨_,We T (s1 _ _ e1),_,rfl,_,Tb D s1,fun ob es ep xs r=>?_⟩;have hsd:sd ≠ b:=fun z=>by have g:=r.at_;rw [z,b1] at g;cases g
  refine rh.of (n:=(bg n ws ws.length).length) (fun j σ H'=>Kc b H1 H'∧Ib H H'∧NoT H'∧H' b=some (.lst (kt (Kb n ws) (((Af (Kb n ws)).take j).foldl (relax (Kb n ws) z o) (Wr (Kb n ws) z o (Af (Kb n ws)) i))))∧∃ x y u,σ=[some (.ref wp),some (.int z),some (.ref a),some (.ref b),x,y,u]) ?_ ?_ ?_ ?_ ?_
  ·exact ⟨Kc.of (Ib.refl _),s1,n1,b1,_,_,_,rfl⟩
  ·rintro j σ H' hj ⟨sx,_⟩;exact ⟨sx _ _ hsd r.at_,hj⟩
  ·rintro σ H' ⟨sx,_⟩;exact ⟨sx _ _ hsd r.at_,Nat.le_refl _⟩
  ·rintro j σ H' v H2 hj ⟨sx,s2,n2,b2,x,y,u,rfl⟩ ⟨rfl,k,bb,u',hxs,rfl⟩;obtain ⟨i1,j1,hp,hbb⟩:=iw r.ks hxs;have he:=el (List.mem_of_getElem? hp);have hlt:=wk.ok.lt he;refine yo (SqT.of (sx _ _ (fun z=>by rw [z,b1] at hbb;cases hbb) hbb)) ?_;simp only [List.set_cons_succ,List.set_cons_zero];walk_at "RD";have hj1:j1 < (kt (Kb n ws) (((Af (Kb n ws)).take j).foldl (relax (Kb n ws) z o) (Wr (Kb n ws) z o (Af (Kb n ws)) i))).length:=by unfold kt;rw [List.length_map,List.length_range];exact hlt.2.1
   refine ⟨_,SqL.of b2,_,Jb (j:=j1) (EE hlt.2.1),_,SqL.of b2,_,Jb (j:=i1) (EE hlt.1),wp,z,a,i1,j1,o,n,ws,rfl,W.same s2,Tb O s2,he,n2,_,rfl,_,rfl,_,rfl,_,b2,j1,JP hj1,fun c u hc e=>by rw [wb hc];exact sx _ _ hc e,s2.updN hb,n2.upd,?_,?_⟩
   ·rw [db];refine congrArg (fun l=>some (HO.lst l)) (XJ ?_ fun k hk=>?_)
    ·rw [List.take_add_one,hp,List.foldl_append];exact OH _ i1 j1
    ·rw [List.take_add_one,hp,List.foldl_append];exact RD _ i1 j1 hk
   ·exact ⟨_,rfl⟩
  ·rintro σ H' zzq;refine zzP fun zzM zzh=>?_
   obtain ⟨sx,s2,n2,b2,x,y,u,rfl⟩:=zzq;subst zzh;rw [vp,List.length_map,List.take_length] at b2;exact ⟨s2,n2,b2,_,_,_,rfl⟩
 ·rintro σ H1 zzq;refine zzP fun zzM zzh=>?_
  obtain ⟨s1,n1,b1,x,y,u,rfl⟩:=zzq;subst zzh;walk_at "RD";refine ⟨⟨_,SqL.of b1⟩,?_⟩;refine Fc.list_map (eS z) (SqL.of b1) (by unfold kt;rw [List.length_map,List.length_range];exact Nat.le_trans hws (by decide)) (fun i x N hx hN=>?_) (fun p hp=>?_)
  ·unfold kt at hx;obtain ⟨y,_,rfl⟩:=List.mem_map.mp (List.mem_of_getElem? hx);walk_at "RD";exact ⟨Sub.name,hz,hN⟩
  ·rw [DK];exact q p _ (s1.trans (fb hp)) n1.upd (s1.free hp) db
end
end My
namespace My
open PySem L2
section
open PySem.Spec PyProof.Rows
theorem kJ {X:Cx} (hc:X.calm=true):rk X (.builtin "sum") (fun xs H Q=>∃ l ks,xs=[.ref l]∧SqL X.K H l (List.map V.int ks)∧(∀ k ∈ ks,0 ≤ k∧k ≤ 1000000000)∧ks.length ≤ 1000∧Q (.int ks.sum) H):=by
 intro pins s σ H xs us Q I r h;obtain ⟨l,ks,rfl,hq,hk,hl,q⟩:=h;obtain ⟨u,rfl,ru⟩:=qo r;cases ru;obtain ⟨its,rv,pl,hz⟩:=I.list hq;obtain ⟨xs,e1,e2⟩:=nv rv;have hil:its.toArray=intItems xs.toArray:=by rw [e1];unfold intItems;simp
 have hls:s.heap.IsList l (intItems xs.toArray):=by rw [← hil];exact pl.isList
 have hxl:xs.length=ks.length:=by rw [← e2,List.length_map]
 have hn:∀ i,i < ks.length→ks[i]? = some (numAt xs.toArray i):=fun i hi=>by
  rw [numAt_eq,List.getD_eq_getElem?_getD];show ks[i]? = some (((xs.map (·.1))[i]?).getD 0);rw [e2,List.getElem?_eq_getElem hi];rfl
 have hps:∀ n,n ≤ ks.length→preSum (numAt xs.toArray) n=(ks.take n).sum∧0 ≤ (ks.take n).sum∧(ks.take n).sum ≤ 1000000000 * (n:Int):=fun n=>by
  induction n with
  | zero=>intro _;exact ⟨by simp [preSum],by simp,by simp⟩
  | succ n ih=>
   intro hn';obtain ⟨i1,i2,i3⟩:=ih (by omega);have e:=hn n (by omega);have hv:=hk _ (List.mem_of_getElem? e);have es:(ks.take (n + 1)).sum=(ks.take n).sum + numAt xs.toArray n:=by
    rw [List.take_add_one,e,List.sum_append];simp
   refine ⟨?_,by omega,by omega⟩;show preSum (numAt xs.toArray) n + numAt xs.toArray n=_;rw [i1,es]
 have hsz:xs.toArray.size=ks.length:=by rw [List.size_toArray,hxl]
 refine sum_intList (I.ok.hd hc) hls (fun j hj=>?_) fun h' tk t' k=>⟨.int ks.sum,H,I.kept k,⟨t',?_⟩,q⟩
 ·rw [hsz] at hj;have e:=hn j hj;have hv:=hk _ (List.mem_of_getElem? e);obtain ⟨p1,p2,p3⟩:=hps (j + 1) (by omega);unfold InLong;rw [p1];omega
 ·rw [hsz,(hps _ (Nat.le_refl _)).1,List.take_length]
end
noncomputable def my (H:Hp):Pap→Addr→Prop
 | .alone k,a=>H a=some (.tup [.str (Str.ofString "alone"),.int (k:Nat)])
 | .ring r,a=>∃ b,H a=some (.tup [.str (Str.ofString "ring"),.ref b])∧H b=some (.tup (ag r))
 | .case i j p q,a=>∃ b c,H a=some (.tup [.str (Str.ofString "case"),.int (i:Nat),.int (j:Nat),.ref b,.ref c])∧my H p b∧my H q c
theorem my.same {H H':Hp} (s:Ib H H'):∀ {p:Pap} {a:Addr},my H p a→my H' p a:=by
 intro p
 induction p with
 | alone k=>intro a h;exact s _ _ h
 | ring r=>intro a ⟨b,h1,h2⟩;exact ⟨b,s _ _ h1,s _ _ h2⟩
 | case i j p q ihp ihq=>intro a ⟨b,c,h1,h2,h3⟩;exact ⟨b,c,s _ _ h1,ihp h2,ihq h3⟩
theorem sk.mod {S:Sys} {z:Int} {b:Nat→Int} (D:sk S z b):sk S z fun v=>b v % z:=⟨D.1,fun i j e=>by
 have:=D.2 i j e;show _ ≤ (b j % z - b i % z) % z;rw [← Int.sub_emod];exact this⟩
def uQ (S:Sys) (z:Int) (o:Od) (d:Nat) (H H':Hp) (bv pv:V):Prop:=(∃ b pb,bv=.ref pb∧pv=.non∧H pb=none∧H' pb=some (.lst (kt S b))∧(∀ v,0 ≤ b v∧b v < z)∧sk S z b)∨(∃ p pa,bv=.non∧pv=.ref pa∧my H' p pa∧zk S z o p=true∧FD S.m d p)
section
variable (P:Program) (w:World)
def GQ (t:Adr) (d:Nat) (vs:List V) (H:Hp) (z:Int) (n:Int) (ws:List (WD × Int)) (o:Od):Prop:=∃ wp rl a k,vs=[.ref wp,.int z,.ref rl,.ref a]∧Ld P w t H wp n ws∧uz H rl (Ch (Kb n ws) k)∧lev (Kb n ws) k=[]∧k ≤ 6∧km P w H a o∧rE (Kb n ws) o∧RB n ws∧unO (Kb n ws) o ≤ d∧(∀ i,i < ws.length→(Kb n ws).al i ≤ z)∧NoT H
def CC (t:Adr) (d:Nat):Sp:=fun vs H Q _=>∃ z n ws o,GQ P w t d vs H z n ws o∧∀ r bv pv H',Ib H H'→NoT H'→H' r=some (.tup [bv,pv])→uQ (Kb n ws) z o d H H' bv pv→Q (.ref r) H'
noncomputable def JM (t:Adr):Nat→Sp
 | 0=>fun _ _ _ _=>False
 | d + 1=>CC P w t d
end
section
variable {P:Program} {w:World} {K:PySem.W.Frag} {mg:Str→Option Value} {base:Heap} {t:Adr}
theorem xB (T:Txt w K mg t) (d:Nat) (g15:Gb P w K mg base CX0 (d + 2) t.Mi t.Oi q20 (JM P w t d)):Gb P w K mg base CX0 (d + 3) t.Mi t.Oi q20 (CC P w t d):=by
 refine T.Ni.ok Fe (fun vs H Q E h=>?_) (fun _ _ _ s H vs Q E hr h=>?_)
 ·obtain ⟨z,n,ws,o,⟨wp,rl,a,k,rfl,_⟩,_⟩:=h;rfl
 obtain ⟨z,n,ws,o,⟨wp,rl,a,k,rfl,W,R,hk0,hk6,O,od,wk,hd,ha,nt⟩,q⟩:=h;have hu:=rj hr;have hws:=wk.2.1;have hm:(Kb n ws).m ≤ 6:=hws;have hz:0 < z:=by
  have h0:0 < ws.length:=List.length_pos_iff.mpr wk.2.2;have:=ha 0 h0;have:=wk.ok.a1 (i:=0) h0;omega
 obtain ⟨qs,r1,r2⟩:=id R;have g56:Gb P w K mg base CX0 (d + 2) t.Ng t.Mg q23 (sP P w t):=(XQ T).mono (by omega);have g57:Gb P w K mg base CX0 (d + 2) t.Xd t.Yd q32 (JK P w t):=(nQ T).mono (by omega);have g58:Gb P w K mg base CX0 (d + 2) t.Ye t.Ve q33 (LK P w t):=(bQ T).mono (by omega);have g27:Gb P w K mg base CX0 (d + 2) t.Oh t.Yh q9 (WL P w (Kb n ws)):=(KO T _).mono (by omega);refine ⟨_,(cb (ad PassesOwn.never rfl (ld (pv 2)) (lb (i:=4) Fe.nd) (ib (Le (Cm (ub g56 hr T.Vw T.Cl.kp T.kx (ab (pv 0) (ab (pv 1) (ab (pv 3) (ab (pv 4) gb)))))) (ib (Cb (Ad (ab Ug (ab (Ad (ab vd (ab (pv 4) gb))) gb))))) qc)))
   (cb (xb (i:=5) Fe.nd (ub g57 hr T.om T.jf.kp T.jm (ab (pv 0) (ab (pv 3) gb))))
   (cb (Le (Pb lG (pv 5) Ug (gc _)) (ib (Cb (Ad (ab (ub g58 hr T.Fo T.gg.kp T.ap (ab (pv 0) (ab (pv 1) (ab (pv 3) gb)))) (ab Ug gb))))) qc)
   (cb (Qk (pv 5) (Wc (K:=K) (n:=2) rfl rfl (Bb (lb (i:=6) Fe.nd) (Bb (lb (i:=7) Fe.nd) Uc))))
   (cb (Qk (ub g15 hr T.Gs T.Ni.kp T.ar (ab (pv 0) (ab (pv 1) (ab (pv 2) (ab (ub g27 hr T.Op T.si.kp T.Gp (ab (pv 3) (ab (pv 6) (ab (pv 7) gb)))) gb))))) (Wc (K:=K) (n:=2) rfl rfl (Bb (lb (i:=8) Fe.nd) (Bb (lb (i:=9) Fe.nd) Uc))))
   (cb (Le (Pb Vy (pv 8) Ug (gc _)) (ib (Cb (Ad (ab (pv 8) (ab Ug gb))))) qc)
   (cb (Qk (ub g15 hr T.Gs T.Ni.kp T.ar (ab (pv 0) (ab (pv 1) (ab (pv 2) (ab (ub g27 hr T.Op T.si.kp T.Gp (ab (pv 3) (ab (pv 7) (ab (pv 6) gb)))) gb))))) (Wc (K:=K) (n:=2) rfl rfl (Bb (lb (i:=8) Fe.nd) (Bb (lb (i:=10) Fe.nd) Uc))))
   (cb (Le (Pb Vy (pv 8) Ug (gc _)) (ib (Cb (Ad (ab (pv 8) (ab Ug gb))))) qc)
   (ib (Cb (Ad (ab Ug (ab (Ad (ab vd (ab (pv 6) (ab (pv 7) (ab (pv 9) (ab (pv 10) gb)))))) gb))))))))))))),?_⟩
 simp only [Db];refine rc (fun σ' H'=>H'=H∧(∀ r ∈ Ch (Kb n ws) k,Fk (Kb n ws) z o r=false)∧∃ x,σ'=[some (.ref wp),some (.int z),some (.ref rl),some (.ref a),x,none,none,none,none,none,none]) (fun D' hD hrt _ _=>?_) ?_
 ·walk_at "RD";refine ⟨⟨_,SqL.of r1⟩,?_⟩;refine rh.list (xs:=qs.map V.ref) (fun i σ H'=>H'=H∧(∀ (l:Nat) r,l < i→(Ch (Kb n ws) k)[l]? = some r→Fk (Kb n ws) z o r=false)∧∃ x,σ=[some (.ref wp),some (.int z),some (.ref rl),some (.ref a),x,none,none,none,none,none,none]) ⟨rfl,fun l r hl=>absurd hl (Nat.not_lt_zero _),_,rfl⟩ (fun i σ H' _ z=>by rw [z.1];exact SqL.of r1) ?_ ?_
  ·rintro i v σ H1 hv zzq;refine zzP fun zzM zzh=>?_
   obtain ⟨rfl,hno,x,rfl⟩:=zzq;obtain ⟨qi,hqi,rfl⟩:=lc hv;obtain ⟨r,hr1,hr2⟩:=r2.at hqi;obtain ⟨l,hl,hlev⟩:=TD (List.mem_of_getElem? hr1);obtain ⟨g1,g2,g3⟩:=YB _ _ hlev;subst zzh;simp only [oh,List.set_cons_succ,List.set_cons_zero];refine ac (Fk (Kb n ws) z o r) (fun Q hQ=>?_) (fun hb=>?_) (fun hb=>?_)
   ·walk_at "RD";exact ⟨wp,z,a,qi,o,r,n,ws,rfl,W,O,hr2,by omega,od,wk,nt,_,rfl,hQ⟩
   ·walk_at "RD";rw [hrt];refine ⟨by decide,fun p1 hp1=>⟨by decide,fun p2 hp2=>?_⟩⟩;have s2:=(fb (o:=.tup [.str (Str.ofString "ring"),.ref qi]) hp1).trans (fb (o:=.tup [V.non,.ref p1]) hp2);exact q p2 .non (.ref p1) _ s2 ((nt.upd).upd) db (.inr ⟨.ring r,p1,rfl,rfl,⟨qi,fb hp2 _ _ db,s2 _ _ hr2⟩,hb,by cases d <;> exact g3⟩)
   ·simp only [se];refine ⟨trivial,fun l' r' hl' hr'=>?_,_,rfl⟩;rcases Nat.lt_or_ge l' i with y | y
    ·exact hno l' r' y hr'
    ·have:l'=i:=by omega
     subst this;rw [hr1] at hr';cases hr';exact hb
  ·rintro σ H1 zzq;refine zzP fun zzM zzh=>?_
   obtain ⟨rfl,hno,x,rfl⟩:=zzq;subst zzh;refine hD _ _ ⟨rfl,fun r hr=>?_,x,rfl⟩;obtain ⟨l,hl⟩:=List.getElem?_of_mem hr;refine hno l r ?_ hl;rw [List.length_map,r2.1];exact (List.getElem?_eq_some_iff.mp hl).1
 rintro σ1 H1 zzq;refine zzP fun zzM zzh=>?_
 obtain ⟨rfl,hno,x,rfl⟩:=zzq;subst zzh;simp only [Db];refine rc (fun σ' H'=>Ib H1 H'∧NoT H'∧((H'=H1∧(∀ i j,(Kb n ws).e i j=true→inO o i j=true)∧σ'=[some (.ref wp),some (.int z),some (.ref rl),some (.ref a),x,some .non,none,none,none,none,none])∨∃ pr i j,H' pr=some (.tup [.int (i:Nat),.int (j:Nat)])∧(Kb n ws).e i j=true∧inO o i j=false∧σ'=[some (.ref wp),some (.int z),some (.ref rl),some (.ref a),x,some (.ref pr),none,none,none,none,none])) (fun D' hD hrt _ _=>?_) ?_
 ·walk_at "RD";exact ⟨wp,a,n,ws,o,rfl,W,O,wk,nt,fun r i j H' s2 n2 e he hi=>hD _ _ ⟨s2,n2,.inr ⟨r,i,j,e,he,hi,rfl⟩⟩,fun hi=>hD _ _ ⟨Ib.refl _,nt,.inl ⟨rfl,hi,rfl⟩⟩⟩
 rintro σ2 H2 ⟨s2,n2,(⟨rfl,hall,rfl⟩ | ⟨pr,i,j,hpr,he,hio,rfl⟩)⟩
 ·simp only [Db];refine ac true (fun Q hQ=>?_) (fun _=>?_) (fun z=>nomatch z)
  ·walk_at "RD";exact hQ
  ·walk_at "RD";refine ⟨wp,z,a,n,ws,o,rfl,W,O,wk,hz,nt,fun r H3 s3 n3 hr3 e3=>⟨by decide,fun p hp=>q p (.ref r) .non _ (s3.trans (fb hp)) n3.upd db (.inl ⟨_,r,rfl,rfl,hr3,fb hp _ _ e3,fun v=>⟨Int.emod_nonneg _ (by omega),Int.emod_lt_of_pos _ hz⟩,?_⟩)⟩⟩;exact (qy wk.ok hz ha hall od.as fun i j e=>yD wk.ok (fun p hp=>el hp) (fun i j h=>Sv wk.ok h) (gD wk.ok hk0 hall hno) e).mod
 simp only [Db];refine ac false (fun Q hQ=>?_) (fun z=>nomatch z) (fun _=>?_)
 ·walk_at "RD";exact hQ
 simp only [se,Db];obtain ⟨d',rfl⟩:∃ d',d=d' + 1:=⟨d - 1,by have:=LN wk.ok he hio;omega⟩;have hio':=hio;unfold inO at hio';rw [Bool.or_eq_false_iff,decide_eq_false_iff_not,decide_eq_false_iff_not] at hio';have hio2:inO o j i=false:=by rw [Fv];exact hio
 refine AM (.ref pr) (fun Q hQ=>by walk_at "RD";exact hQ) (yo (SqT.of hpr) ?_);simp only [Db,List.set_cons_succ,List.set_cons_zero];refine rc (fun σ' H'=>∃ Ha bv pv,Ib H2 Ha∧Ib Ha H'∧NoT H'∧uQ (Kb n ws) z (o ++ [(i,j)]) d' Ha H' bv pv∧σ'=[some (.ref wp),some (.int z),some (.ref rl),some (.ref a),x,some (.ref pr),some (.int (i:Nat)),some (.int (j:Nat)),some bv,some pv,none]) (fun D' hD hrt _ _=>?_) ?_
 ·walk_at "RD";refine ⟨a,i,j,o,rfl,Tb O s2,od,wk.ok,hm,hio'.1,n2,fun r3 H3 s3 n3 O3=>?_⟩;have s23:=s2.trans s3;refine ⟨z,n,ws,o ++ [(i,j)],⟨wp,rl,r3,k,rfl,W.same s23,R.same s23,hk0,hk6,O3,od.put wk.ok he hio,wk,by have:=kA (o:=o) wk.ok he hio;omega,ha,n3⟩,fun r4 bv pv H4 s4 n4 e4 SP=>?_⟩;exact ⟨r4,rfl,_,SqT.of e4,rfl,_,_,rfl,_,_,rfl,rfl,hD _ _ ⟨H3,bv,pv,s3,s4,n4,SP,rfl⟩⟩
 rintro σ3 H4 zzq;refine zzP fun zzM zzh=>?_
 obtain ⟨Ha,bv,pv,sa,s4,n4,SP,rfl⟩:=zzq;subst zzh;simp only [Db];have s24:=s2.trans (sa.trans s4);rcases SP with ⟨b,pb,rfl,rfl,hb0,hb1,hb2,hb3⟩ | ⟨p1,pa,rfl,rfl,hp1,hp2,hp3⟩
 ·refine ac true (fun Q hQ=>?_) (fun _=>?_) (fun z=>nomatch z)
  ·walk_at "RD";exact hQ
  ·walk_at "RD";exact ⟨by decide,fun p hp=>q p _ _ _ (s24.trans (fb hp)) n4.upd db (.inl ⟨b,pb,rfl,rfl,(s2.trans sa).free hb0,fb hp _ _ hb1,hb2,hb3⟩)⟩
 refine ac false (fun Q hQ=>?_) (fun z=>nomatch z) (fun _=>?_)
 ·walk_at "RD";exact hQ
 simp only [se,Db];refine rc (fun σ' H'=>∃ Hb bv pv,Ib H4 Hb∧Ib Hb H'∧NoT H'∧uQ (Kb n ws) z (o ++ [(j,i)]) d' Hb H' bv pv∧σ'=[some (.ref wp),some (.int z),some (.ref rl),some (.ref a),x,some (.ref pr),some (.int (i:Nat)),some (.int (j:Nat)),some bv,some (.ref pa),some pv]) (fun D' hD hrt _ _=>?_) ?_
 ·walk_at "RD";refine ⟨a,j,i,o,rfl,Tb O s24,od,wk.ok,hm,hio'.2,n4,fun r5 H5 s5 n5 O5=>?_⟩;have s25:=s24.trans s5;have hei:=wk.ok.sy he;refine ⟨z,n,ws,o ++ [(j,i)],⟨wp,rl,r5,k,rfl,W.same s25,R.same s25,hk0,hk6,O5,od.put wk.ok hei hio2,wk,by have:=kA (o:=o) wk.ok hei hio2;omega,ha,n5⟩,fun r6 bv pv H6 s6 n6 e6 SP=>?_⟩;exact ⟨r6,rfl,_,SqT.of e6,rfl,_,_,rfl,_,_,rfl,rfl,hD _ _ ⟨H5,bv,pv,s5,s6,n6,SP,rfl⟩⟩
 rintro σ5 H6 zzq;refine zzP fun zzM zzh=>?_
 obtain ⟨Hb,bv,pv,sb,s6,n6,SP,rfl⟩:=zzq;subst zzh;simp only [Db];have s46:=sb.trans s6;have s26:=s24.trans s46;rcases SP with ⟨b,pb,rfl,rfl,hb0,hb1,hb2,hb3⟩ | ⟨p2,pa2,rfl,rfl,hq1,hq2,hq3⟩
 ·refine ac true (fun Q hQ=>?_) (fun _=>?_) (fun z=>nomatch z)
  ·walk_at "RD";exact hQ
  ·walk_at "RD";exact ⟨by decide,fun p hp=>q p _ _ _ (s26.trans (fb hp)) n6.upd db (.inl ⟨b,pb,rfl,rfl,(s24.trans sb).free hb0,fb hp _ _ hb1,hb2,hb3⟩)⟩
 refine ac false (fun Q hQ=>?_) (fun z=>nomatch z) (fun _=>?_)
 ·walk_at "RD";exact hQ
 simp only [se];walk_at "RD";refine ⟨by decide,fun p3 hp3'=>⟨by decide,fun p4 hp4=>?_⟩⟩;have t1:=fb (o:=.tup [.str (Str.ofString "case"),.int (i:Nat),.int (j:Nat),.ref pa,.ref pa2]) hp3';have t2:=fb (o:=.tup [V.non,.ref p3]) hp4;have hl:=wk.ok.lt he;refine q p4 .non (.ref p3) _ (s26.trans (t1.trans t2)) ((n6.upd).upd) db (.inr ⟨.case i j p1 p2,p3,rfl,rfl,⟨pa,pa2,t2 _ _ db,(hp1.same s46).same (t1.trans t2),hq1.same (t1.trans t2)⟩,?_,hl.1,hl.2.1,hp3,hq3⟩);show ((Kb n ws).e i j && !inO o i j && zk (Kb n ws) z (o ++ [(i,j)]) p1 && zk (Kb n ws) z (o ++ [(j,i)]) p2)=true;rw [he,hio,hp2,hq2];rfl
theorem sL (T:Txt w K mg t):∀ d,Gb P w K mg base CX0 (d + 3) t.Mi t.Oi q20 (CC P w t d)
 | 0=>xB T 0 (T.Ni.ok Fe (fun vs H Q E h=>h.elim) (fun cdv A outer s H vs Q E hr h=>h.elim))
 | d + 1=>xB T (d + 1) (sL T d)
end
section
variable (P:Program) (w:World)
def IE (t:Adr):Sp:=fun vs H Q _=>∃ wp z rl k n ws,vs=[.ref wp,.int z,.ref rl]∧Ld P w t H wp n ws∧uz H rl (Ch (Kb n ws) k)∧lev (Kb n ws) k=[]∧k ≤ 6∧RB n ws∧NoT H ∧
 ∀ r bv pv H',Ib H H'→NoT H'→H' r=some (.tup [bv,pv])→uQ (Kb n ws) z (Ry (Kb n ws)) (unO (Kb n ws) (Ry (Kb n ws))) H H' bv pv→Q (.ref r) H'
def UF (t:Adr):Sp:=fun vs H Q _=>∃ wp n ws,vs=[.ref wp]∧Ld P w t H wp n ws∧RB n ws∧NoT H∧∀ z b H',Ib H H'→NoT H'→sk (Kb n ws) z b→z ≤ 20000→Q (.int z) H'
end
section
variable {P:Program} {w:World} {K:PySem.W.Frag} {mg:Str→Option Value} {base:Heap} {t:Adr}
theorem cJ {k:Nat} {f:Addr} {fd:FuncData} {ps:List Str} {sp:Nat→Sp} {m:Nat} (F:∀ n,n ≤ m→Gb P w K mg base CX0 k f fd ps (sp n)):Gb P w K mg base CX0 k f fd ps (fun vs H Q E=>∃ n,n ≤ m∧sp n vs H Q E):=
 ⟨fun vs H Q E ⟨n,hn,h⟩=>(F n hn).len vs H Q E h,fun A outer s H args us vs Q E hr he hb hv ⟨n,hn,h⟩=>(F n hn).run A outer s H args us vs Q E hr he hb hv h⟩
theorem eI {n:Int} {ws:List (WD × Int)} {i:Nat} {p:WD × Int} (h:ws[i]? = some p):(Kb n ws).al i=Dd p:=by
 show (match ws[i]? with | some p=>Dd p | none=>0)=_;rw [h]
theorem JN (T:Txt w K mg t):Gb P w K mg base CX0 14 t.ah t.fh q34 (IE P w t):=by
 have g15:Gb P w K mg base CX0 13 t.Mi t.Oi q20 (fun vs H Q E=>∃ n,n ≤ 10∧CC P w t n vs H Q E):=cJ fun n hn=>(sL T n).mono (by omega)
 have g59:Gb P w K mg base CX0 13 t.wf t.uf ["wanted"] (jL P w t):=(QO T).mono (by decide);refine T.Vf.ok Ci (fun vs H Q E h=>?_) (fun _ _ _ s H vs Q E hr h=>?_)
 ·obtain ⟨wp,z,rl,k,n,ws,rfl,_⟩:=h;rfl
 obtain ⟨wp,z,rl,k,n,ws,rfl,W,R,hk0,hk6,wk,nt,q⟩:=h;obtain ⟨dx,al,sd,e1,e2,D⟩:=id W;have hu:=rj hr;have hws:=wk.2.1;refine ⟨_,(cb (ad PassesOwn.never rfl (Xk rfl T.re (ab (Ob (pv 0) rfl) gb)) (Wc (K:=K) (n:=2) rfl rfl (Bb (lb (i:=3) Ci.nd) (Bb (lb (i:=4) Ci.nd) Uc))) (ib (Le (Pb Kz (pv 4) (pv 1) (gc _)) (ib (Cb (Ad (ab Ug (ab (Ad (ab vd (ab (pv 3) gb))) gb))))) qc)))
   (ib (Cb (ub g15 hr T.Gs T.Ni.kp T.ar (ab (pv 0) (ab (pv 1) (ab (pv 2) (ab (ub g59 hr T.pq T.Pg.kp T.gq (ab (pv 0) gb)) gb)))))))),?_⟩
 walk_at "RD";refine ⟨_,Ys T e1,_,rfl,⟨_,SqL.of e2⟩,?_⟩;refine rh.enum (xs:=ws.map fun p=>V.int (Dd p)) (fun i σ H'=>Ib H H'∧NoT H'∧(∀ l,l < i→(Kb n ws).al l ≤ z)∧∃ x y,σ=[some (.ref wp),some (.int z),some (.ref rl),x,y]) ⟨Ib.refl _,nt,fun l hl=>absurd hl (Nat.not_lt_zero _),_,_,rfl⟩ (fun i σ H' _ ⟨s1,_⟩=>SqL.of (s1 _ _ e2)) ?_ ?_
 ·rintro i v σ H1 tp hv ⟨s1,n1,hal,x,y,rfl⟩ htp;obtain ⟨p,hp,rfl⟩:=lc hv;have hai:=eI (n:=n) hp;have hil:=(List.getElem?_eq_some_iff.mp hp).1;refine sf ?_;simp only [List.set_cons_succ,List.set_cons_zero];have s2:=s1.trans (fb (o:=.tup [.int i,.int (Dd p)]) htp);have n2:NoT (upd H1 tp (.tup [.int i,.int (Dd p)])):=n1.upd;generalize upd H1 tp (.tup [.int i,.int (Dd p)])=H2 at s2 n2 ⊢;refine ac (decide (z < Dd p)) (fun Q hQ=>?_) (fun hb=>?_) (fun hb=>?_)
  ·walk_at "RD";exact hQ
  ·walk_at "RD";refine ⟨by decide,fun p1 hp1=>⟨by decide,fun p2 hp2=>?_⟩⟩;have t1:=fb (o:=.tup [.str (Str.ofString "alone"),.int (i:Nat)]) hp1;have t2:=fb (o:=.tup [V.non,.ref p1]) hp2;refine q p2 .non (.ref p1) _ (s2.trans (t1.trans t2)) ((n2.upd).upd) db (.inr ⟨.alone i,p1,rfl,rfl,t2 _ _ db,?_,?_⟩)
   ·show decide (z < (Kb n ws).al i)=true;rw [hai];exact hb
   ·unfold FD;exact hil
  ·simp only [se];refine ⟨s2,n2,fun l hl=>?_,_,_,rfl⟩;rcases Nat.lt_or_ge l i with y | y
   ·exact hal l y
   ·have:l=i:=by omega
    subst this;rw [hai];have:=of_decide_eq_false hb;omega
 ·rintro σ H1 zzq;refine zzP fun zzM zzh=>?_
  obtain ⟨s1,n1,hal,x,y,rfl⟩:=zzq;subst zzh;rw [List.length_map] at hal;walk_at "RD";refine ⟨wp,n,ws,rfl,W.same s1,wk,n1,fun r H2 s2 n2 O2=>?_⟩;have s12:=s1.trans s2;refine ⟨unO (Kb n ws) (Ry (Kb n ws)),(wK wk.ok hws).1,z,n,ws,Ry (Kb n ws),⟨wp,rl,r,k,rfl,W.same s12,R.same s12,hk0,hk6,O2,sN,wk,Nat.le_refl _,hal,n2⟩,fun r3 bv pv H3 s3 n3 e3 SP=>q r3 bv pv H3 (s12.trans s3) n3 e3 ?_⟩;rcases SP with ⟨b,pb,h1,h2,h3,h4⟩ | h
  ·exact .inl ⟨b,pb,h1,h2,s12.free h3,h4⟩
  ·exact .inr h
noncomputable def vD:List Int→Int
 | []=>0
 | x :: l=>max x (vD l)
theorem NB:∀ l,0 ≤ vD l
 | []=>Int.le_refl _
 | x :: l=>Int.le_trans (NB l) (Int.le_max_right ..)
theorem kH:∀ {l:List Int} {x:Int},x ∈ l→x ≤ vD l
 | y :: l,x,h=>by
  rcases List.mem_cons.mp h with rfl | h
  ·exact Int.le_max_left ..
  ·exact Int.le_trans (kH h) (Int.le_max_right ..)
theorem OG:∀ {l:List Int} {m:Int},0 ≤ m→(∀ x ∈ l,x ≤ m)→vD l ≤ m
 | [],m,h,_=>h
 | x :: l,m,h,g=>Int.max_le.mpr ⟨g x (List.mem_cons_self ..),OG h fun y hy=>g y (List.mem_cons_of_mem _ hy)⟩
theorem xx:∀ (l:List Int) (x:Int),0 ≤ x→l.foldl max x=max x (vD l)
 | [],x,h=>(Int.max_eq_left h).symm
 | y :: l,x,h=>by
  rw [List.foldl_cons,xx l _ (Int.le_trans h (Int.le_max_left ..))];exact Int.max_assoc ..
theorem lN (l:List Int) (h:∀ x ∈ l,0 ≤ x):(l.max? = none∧vD l=0)∨l.max? = some (vD l):=by
 cases l with
 | nil=>exact .inl ⟨rfl,rfl⟩
 | cons x l=>
  rw [List.max?_cons',xx l x (h x (List.mem_cons_self ..))];exact .inr rfl
noncomputable def stL (S:Sys) (i:Nat) (l:Od):List Int:=(l.filter fun p=>decide (p.1=i)).map fun p=>S.st p.1 p.2
theorem mO {S:Sys} (k:S.Ok) {i j:Nat} (h:S.e i j=true):S.st i j ∈ stL S i (Af S):=List.mem_map.mpr ⟨(i,j),List.mem_filter.mpr ⟨Sv k h,decide_eq_true rfl⟩,rfl⟩
theorem nG {S:Sys} {i:Nat} {x:Int} (h:x ∈ stL S i (Af S)):∃ j,S.e i j=true∧x=S.st i j:=by
 obtain ⟨⟨a,b⟩,hp,rfl⟩:=List.mem_map.mp h;obtain ⟨h1,h2⟩:=List.mem_filter.mp hp;have:a=i:=of_decide_eq_true h2;subst this;exact ⟨b,el h1,rfl⟩
theorem jK {f:Nat→Int} {c:Int} (hc:0 ≤ c):∀ {m:Nat},(∀ i,i < m→f i ≤ c)→uq f m ≤ m * c:=by
 intro m
 induction m with
 | zero=>intro _;simp [uq]
 | succ m ih=>
  intro h;have h1:=ih fun i hi=>h i (by omega)
  have h2:=h m (by omega);show uq f m + f m ≤ _;rw [show ((m + 1:Nat):Int) * c=m * c + c by rw [Int.natCast_add,Int.add_mul];simp];omega
theorem dC (f g:Nat→Int):∀ m,uq (fun i=>f i + g i) m=uq f m + uq g m:=by
 intro m
 induction m with
 | zero=>rfl
 | succ m ih=>
  show uq _ m + (f m + g m)=(uq f m + f m) + (uq g m + g m);rw [ih];omega
theorem pO {n:Int} {ws:List (WD × Int)}:∀ k,k ≤ ws.length→((ws.take k).map Dd).sum=uq (Kb n ws).al k:=by
 intro k
 induction k with
 | zero=>intro _;rfl
 | succ k ih=>
  intro hk;have hp:ws[k]? = some ws[k]:=List.getElem?_eq_getElem (by omega);show _=uq (Kb n ws).al k + (Kb n ws).al k;rw [List.take_add_one,hp,List.map_append,List.sum_append,ih (by omega),eI hp];simp
theorem NH {n:Int} {d:WD} (o:WOk n d):Ke d + Jc d ≤ 100:=by
 have h:=o.of;unfold Ke Jc;rcases d with ⟨k,_⟩
 match k with
 | 0=>simp
 | 1=>simp at h ⊢;omega
 | k + 2=>simp
theorem NP {n:Int} {d e:WD} (o:WOk n d) (p:WOk n e):ay d e ≤ 100:=by
 have h1:=o.of;have h2:=p.nr;unfold ay;split <;> omega
theorem nM (T:Txt w K mg t):Gb P w K mg base CX0 2 t.lh t.gh ["wanted"] (UF P w t):=by
 refine T.Lj.ok xg (fun vs H Q E h=>?_) (fun _ _ _ s H vs Q E hr h=>?_)
 ·obtain ⟨wp,n,ws,rfl,_⟩:=h;rfl
 obtain ⟨wp,n,ws,rfl,W,wk,nt,q⟩:=h;obtain ⟨dx,al,sd,e1,e2,D⟩:=id W;have hu:=rj hr;have hws:=wk.2.1;refine ⟨_,(cb (xb (i:=1) xg.nd (jd (kJ rfl) rfl T.TQ PD (ab (Ob (pv 0) rfl) gb)))
   (cb (ad PassesOwn.never rfl (Xc rfl T.me (ab (Ob (pv 0) rfl) gb)) (Jv (i:=2) xg.nd rfl (Or.inr rfl)) (ib (uL (i:=1) xg.nd rfl (Or.inl rfl) (uN rfl rfl T.vJ (ab (Bf rfl (DE (Ob (pv 0) rfl)) (ic (sc:=jb Ij) rfl (by decide +kernel)) (N:=["pair","wanted","want"]) (sel:=[none,some 0,some 2]) (uc (M:=["wanted","total","want"]) (by decide +kernel)) (Blk.of (fun _ _ _ _=>(lb (i:=0) (Ue (N:=["pair","wanted","want"]) (by decide +kernel) rfl))) (fun _ _ _ _=>⟨_,(Eo (Pb fm (Zb Zc (pv 0) qb) (pv 2) (gc _))),by walk_at "B"⟩) (fun _ _ _ _=>⟨_,(tH hu (Ob (pv 1) rfl) (pv 0) (fun _ _=>rfl)),by walk_at "B"⟩))) gb) qb) HL)))
   (ib (Cb (pv 1))))),?_⟩
 walk_at "RD";have e2':H al=some (.lst ((ws.map Dd).map V.int)):=by rw [List.map_map];exact e2
 refine ⟨_,Ys T e1,_,rfl,_,SqL.of e2',?_,by rw [List.length_map];omega,_,Wi T e1,_,rfl,by omega,by omega,?_⟩
 ·intro k hk;obtain ⟨p,hp,rfl⟩:=List.mem_map.mp hk;obtain ⟨h1,h2,h3⟩:=wk.1 p hp;have h4:=jC h1;have h5:=NH h1;unfold Dd;omega
 rw [show ((ws.length:Int)).toNat=ws.length by omega];refine rh.range (fun i σ H'=>Ib H H'∧NoT H'∧∃ x,σ=[some (.ref wp),some (.int ((ws.map Dd).sum + uq (fun i=>vD (stL (Kb n ws) i (Af (Kb n ws)))) i)),x]) ⟨Ib.refl _,nt,_,by rw [show uq _ 0=0 from rfl,Int.add_zero]⟩ ?_ ?_
 ·rintro i σ H1 hi zzq;refine zzP fun zzM zzh=>?_
  obtain ⟨s1,n1,x,rfl⟩:=zzq;subst zzh;(walk_at "RD"; repeat (dsimp only [YN];walk_at "RD"));refine ⟨_,We T (s1 _ _ e1),sd,rfl,_,Tb D s1,fun ob es ep xs r=>?_⟩;have hsl:(Af (Kb n ws)).length ≤ 36:=aH hws;have hal:(bg n ws ws.length).length=(Af (Kb n ws)).length:=by rw [vp,List.length_map]
  refine Fc.of (n:=(bg n ws ws.length).length) (fun j ys H'=>H'=H1∧ys=(stL (Kb n ws) i ((Af (Kb n ws)).take j)).map V.int) (by rw [hal];exact Nat.le_trans hsl (by decide)) ⟨rfl,rfl⟩ ?_ ?_ ?_ ?_ ?_
  ·rintro j ys H' hj ⟨rfl,_⟩;exact ⟨r.at_,hj⟩
  ·rintro ys H' ⟨rfl,_⟩;exact ⟨r.at_,Nat.le_refl _⟩
  ·rintro j ys H' hj ⟨_,rfl⟩;unfold stL;rw [List.length_map,List.length_map];refine Nat.le_trans (List.length_filter_le ..) ?_;rw [List.length_take];omega
  ·rintro j ys H' v H2 hj ⟨rfl,rfl⟩ ⟨rfl,k,bb,u',hxs,rfl⟩ N hN;obtain ⟨i1,j1,hp,hbb⟩:=iw r.ks hxs;have he:=el (List.mem_of_getElem? hp);have ef:stL (Kb n ws) i ((Af (Kb n ws)).take (j + 1))=stL (Kb n ws) i ((Af (Kb n ws)).take j) ++ (if i1=i then [(Kb n ws).st i1 j1] else []):=by
    unfold stL;rw [List.take_add_one,hp,List.filter_append,List.map_append];show _ ++ List.map _ (List.filter _ [(i1,j1)])=_;rw [List.filter_cons,List.filter_nil];by_cases h:i1=i
    ·rw [if_pos h,if_pos (decide_eq_true h)];rfl
    ·rw [if_neg h,if_neg (by simpa using h)];rfl
   walk_at "RD";refine ⟨Sub.name,_,SqT.of hbb,_,Jb (j:=0) rfl,rfl,?_⟩;by_cases h:i1=i
   ·rw [if_pos (by rw [h];exact decide_eq_true rfl)];refine ⟨_,We T (s1 _ _ e1),sd,rfl,_,Tb D s1,Cf i1 j1,hbb,_,DA he,hN _ _ ⟨rfl,?_⟩⟩;rw [ef,if_pos h,List.map_append];rfl
   ·rw [if_neg (by rw [decide_eq_true_eq];exact fun g=>h (Int.ofNat.inj (V.int.inj g)))];refine hN _ _ ⟨rfl,?_⟩;rw [ef,if_neg h,List.append_nil]
  ·rintro ys H' ⟨rfl,rfl⟩ l hl;rw [hal,List.take_length];refine ⟨l,rfl,_,SqL.of db,?_⟩;have hS:uq (fun i=>vD (stL (Kb n ws) i (Af (Kb n ws)))) (i + 1)=uq (fun i=>vD (stL (Kb n ws) i (Af (Kb n ws)))) i + vD (stL (Kb n ws) i (Af (Kb n ws))):=rfl;rcases lN (stL (Kb n ws) i (Af (Kb n ws))) (fun x hx=>by
    obtain ⟨j,he,rfl⟩:=nG hx;have:=wk.ok.s1 he
    omega) with ⟨g1,g2⟩ | g1
   ·rw [g1];exact ⟨_,_,rfl,rfl,s1.trans (fb hl),n1.upd,by rw [hS,g2,← Int.add_assoc],_,rfl⟩
   ·rw [g1];exact ⟨_,_,rfl,rfl,s1.trans (fb hl),n1.upd,by rw [hS,← Int.add_assoc],_,rfl⟩
 ·rintro σ H1 zzq;refine zzP fun zzM zzh=>?_
  obtain ⟨s1,n1,x,rfl⟩:=zzq;subst zzh;walk_at "RD";have hT:=CM wk.ok (mx:=fun i=>vD (stL (Kb n ws) i (Af (Kb n ws)))) (fun i=>NB _) fun i j e=>kH (mO wk.ok e)
  rw [dC] at hT;have hs:=pO (n:=n) (ws:=ws) ws.length (Nat.le_refl _);rw [List.take_length] at hs;rw [hs];refine q _ _ H1 s1 n1 hT ?_;rw [← dC];refine Int.le_trans (jK (c:=3000) (by decide) fun i hi=>?_) (show (ws.length:Int) * 3000 ≤ 20000 by omega);have hp:ws[i]? = some ws[i]:=List.getElem?_eq_getElem hi;obtain ⟨h1,h2,h3⟩:=wk.1 _ (List.mem_of_getElem? hp);have h5:=NH h1;have h6:(Kb n ws).al i ≤ 1100:=by
   rw [eI hp];unfold Dd;omega
  have h7:vD (stL (Kb n ws) i (Af (Kb n ws))) ≤ 1100:=by
   refine OG (by decide) fun x hx=>?_
   obtain ⟨j,he,rfl⟩:=nG hx;obtain ⟨p,p',g1,g2,_⟩:=mv he;rw [(vh g1 g2).2];have g3:=wk.1 p (List.mem_of_getElem? g1);have g4:=wk.1 p' (List.mem_of_getElem? g2);have:=NP g3.1 g4.1;omega
  omega
end
end My
namespace My
open PySem L2
theorem tL {n:Int} {ws:List (WD × Int)} {z:Int} (hz:0 ≤ z):∀ i,(Kb n ws).m ≤ i→(Kb n ws).al i ≤ z:=fun i hi=>by
 have e:(Kb n ws).al i=0:=by
  show (match ws[i]? with | some p=>Dd p | none=>0)=0;rw [List.getElem?_eq_none hi]
 rw [e];exact hz
structure Hz (S:Sys) (H H':Hp) (z:Int) (pb pa:Addr) (b:Nat→Int) (p:Pap):Prop where
 z1:1 ≤ z
 zl:z ≤ 20000
 nb:H pb=none
 eb:H' pb=some (.lst (kt S b))
 rb:∀ v,0 ≤ b v∧b v < z
 does:sk S z b
 pap:my H' p pa
 bear:zk S (z - 1) (Ry S) p=true
 form:FD S.m (unO S (Ry S)) p
theorem Hz.least {n:Int} {ws:List (WD × Int)} (k:(Kb n ws).Ok) {H H':Hp} {z:Int} {pb pa:Addr} {b:Nat→Int} {p:Pap} (h:Hz (Kb n ws) H H' z pb pa b p) {y:Int} (hy:0 < y) (hl:y < z) (c:Nat→Int):¬ sk (Kb n ws) y c:=
 QE k (tL (by have:=h.z1;omega)) h.bear hy (by omega)
def ShI (n:Int) (ws:List (WD × Int)) (H H3:Hp) (c wl x rl:Addr) (j:Nat) (σ:St) (H':Hp):Prop:=∃ lo hi pa pb p b y1 y2 y3,j=(hi - lo).toNat∧0 ≤ lo∧lo < hi∧hi ≤ 20000∧Ib H3 H'∧NoT H'∧H pb=none∧H' pb=some (.lst (kt (Kb n ws) b))∧(∀ v,0 ≤ b v∧b v < hi)∧sk (Kb n ws) hi b∧my H' p pa∧zk (Kb n ws) lo (Ry (Kb n ws)) p=true∧FD (Kb n ws).m (unO (Kb n ws) (Ry (Kb n ws))) p∧σ=[some (.ref c),some (.ref wl),some (.ref x),some (.ref rl),some (.int lo),some (.int hi),some (.ref pa),some (.ref pb),y1,y2,y3]
section
variable (P:Program) (w:World)
def nN (t:Adr) (vs:List V) (H:Hp) (n:Int) (ws:List (WD × Int)):Prop:=∃ c wl ds,vs=[.ref c,.ref wl]∧Qc t H c n ds∧0 < n∧Ku H wl ws∧(∀ q ∈ ws,∃ i:Nat,ds[i]? = some q.1)∧RB n ws∧NoT H
def gB (t:Adr):Sp:=fun vs H Q _=>∃ n ws,nN t vs H n ws∧∀ r z pb pa b p H',Ib H H'→NoT H'→H' r=some (.tup [.int z,.ref pb,.ref pa])→Hz (Kb n ws) H H' z pb pa b p→Q (.ref r) H'
end
section
variable {P:Program} {w:World} {K:PySem.W.Frag} {mg:Str→Option Value} {base:Heap} {t:Adr}
theorem yK (T:Txt w K mg t):Gb P w K mg base CX0 15 t.Tl t.Yl q35 (gB t):=by
 have g60:Gb P w K mg base CX0 13 t.Zf t.eh q49 (eB P w t):=(iK T).mono (by decide);have g61:Gb P w K mg base CX0 14 t.Pl t.Rl ["wanted"] (xL P w t):=(RP T).mono (by decide);have g62:Gb P w K mg base CX0 14 t.lh t.gh ["wanted"] (UF P w t):=(nM T).mono (by decide);have g25:Gb P w K mg base CX0 14 t.ah t.fh q34 (IE P w t):=JN T;refine T.Ep.ok xc (fun vs H Q E h=>?_) (fun _ _ _ s H vs Q E hr h=>?_)
 ·obtain ⟨n,ws,⟨c,wl,ds,rfl,_⟩,_⟩:=h;rfl
 obtain ⟨n,ws,⟨c,wl,ds,rfl,C,hn,W,hds,wk,nt⟩,q⟩:=h;have hu:=rj hr;have hlen:ws.length ≤ 20:=by have:=wk.2.1;omega
 have hb:∀ q ∈ ws,0 ≤ q.2∧q.2 ≤ 100000:=fun q hq=>by have:=wk.1 q hq;omega
 have h0:0 < ws.length:=List.length_pos_iff.mpr wk.2.2;refine ⟨_,(cb (xb (i:=2) xc.nd (Ym T.zK g60 hr rfl T.EJ T.Iv .nil Rc (ab (pv 0) (ab (pv 1) gb))))
   (cb (xb (i:=3) xc.nd (ub g61 hr T.DD T.Ap.kp T.SC (ab (pv 2) gb)))
   (cb (xb (i:=4) xc.nd qb)
   (cb (xb (i:=5) xc.nd (ub g62 hr T.bw T.Lj.kp T.fw (ab (pv 2) gb)))
   (cb (xb (i:=6) xc.nd (Zb Zc (ub g25 hr T.wj T.Vf.kp T.Fj (ab (pv 2) (ab (pv 4) (ab (pv 3) gb)))) qb))
   (cb (xb (i:=7) xc.nd (Zb Zc (ub g25 hr T.wj T.Vf.kp T.Fj (ab (pv 2) (ab (pv 5) (ab (pv 3) gb)))) qb))
   (cb (iC PassesOwn.never (Pb Kz (Lb ci (pv 5) (pv 4)) qb (gc _)) (cb (xb (i:=8) xc.nd (Lb IM (Lb Dc (pv 4) (pv 5)) qb))
   (cb (Qk (ub g25 hr T.wj T.Vf.kp T.Fj (ab (pv 2) (ab (pv 8) (ab (pv 3) gb)))) (Wc (K:=K) (n:=2) rfl rfl (Bb (lb (i:=9) xc.nd) (Bb (lb (i:=10) xc.nd) Uc))))
   (ib (Le (Pb lG (pv 9) Ug (gc _)) (cb (xb (i:=4) xc.nd (pv 8))
   (ib (xb (i:=6) xc.nd (pv 10)))) (cb (xb (i:=5) xc.nd (pv 8))
   (ib (xb (i:=7) xc.nd (pv 9)))))))))
   (ib (Cb (Ad (ab (pv 5) (ab (pv 7) (ab (pv 6) gb))))))))))))),?_⟩
 refine zzS (fun σ' H'=>∃ x,Ib H H'∧NoT H'∧Ld P w t H' x n ws∧σ'=[some (.ref c),some (.ref wl),some (.ref x),none,none,none,none,none,none,none,none]) (fun D' hD=>?_) fun zzM zzh=>?_
 ·walk_at "RD";intro x dx hx hdx hne;have s1:Ib H (upd (upd H dx (.own x)) x (.ins t.Sb dx [])):=(fb hdx).trans (fb (by rw [wb (Ne.symm hne)];exact hx));refine ⟨x,dx,c,wl,n,ds,ws,rfl,db,C.same s1,hn,dF W s1,hds,hlen,hb,(nt.upd).upd,fun H2 sx2 nt2 WA=>⟨rfl,?_⟩⟩;exact hD _ _ ⟨x,fun b u e=>sx2 b u (Ab e hx) (s1 _ _ e),nt2,WA,rfl⟩
 rintro σ1 H1 ⟨x,s1,n1,W1,rfl⟩;subst zzh;refine zzS (fun σ' H'=>∃ rl k,Ib H1 H'∧NoT H'∧lev (Kb n ws) k=[]∧k ≤ 6∧uz H' rl (Ch (Kb n ws) k)∧σ'=[some (.ref c),some (.ref wl),some (.ref x),some (.ref rl),none,none,none,none,none,none,none]) (fun D' hD=>?_) fun zzM zzh=>?_
 ·walk_at "RD";exact ⟨x,n,ws,rfl,W1,wk,n1,fun r H' k s2 n2 hk0 hk6 L=>hD _ _ ⟨r,k,s2,n2,hk0,hk6,L,rfl⟩⟩
 rintro σ2 H2 ⟨rl,k,s2,n2,hk0,hk6,R,rfl⟩;have W2:=W1.same s2;subst zzh;simp only [Db];walk_at "RD";refine ⟨x,n,ws,rfl,W2,wk,n2,fun hi bh H3 s3 n3 Dh hhi=>?_⟩;have W3:=W2.same s3;have R3:=R.same s3;have h1:1 ≤ hi:=by
  have:=Dh.1 0 h0;have:=wk.ok.a1 (i:=0) h0;omega
 refine ⟨x,0,rl,k,n,ws,rfl,W3,R3,hk0,hk6,wk,n3,fun r4 bv pv H4 s4 n4 e4 SP=>?_⟩;rcases SP with ⟨b,pb,_,_,_,_,_,hb3⟩ | ⟨p0,pa0,rfl,rfl,hp1,hp2,hp3⟩
 ·have g1:=hb3.1 0 h0;have g2:=wk.ok.a1 (i:=0) h0;omega
 refine ⟨r4,rfl,_,SqT.of e4,_,Jb (j:=1) rfl,?_⟩;refine ⟨x,hi,rl,k,n,ws,rfl,W3.same s4,R3.same s4,hk0,hk6,wk,n4,fun r5 bv pv H5 s5 n5 e5 SP=>?_⟩;rcases SP with ⟨b0,pb0,rfl,rfl,hb0,hb1,hb2,hb3⟩ | ⟨p1,pa1,_,_,_,g2,_⟩
 case inr=>exact absurd Dh (QE wk.ok (tL (by omega)) g2 (by omega) (Int.le_refl _))
 refine ⟨r5,rfl,_,SqT.of e5,_,Jb (j:=0) rfl,?_⟩;have s35:=s4.trans s5;have s03:=s1.trans (s2.trans s3);refine ⟨ShI n ws H H3 c wl x rl,⟨_,0,hi,pa0,pb0,p0,b0,_,_,_,rfl,Int.le_refl _,by omega,hhi,s35,n5,(s03.trans s4).free hb0,hb1,hb2,hb3,hp1.same s5,hp2,hp3,rfl⟩,?_⟩;rintro j σ H6 zzq;refine zzP fun zzM zzh=>?_
 obtain ⟨lo,hi',pa,pb,p,b,y1,y2,y3,rfl,hlo,hlt,hh,s6,n6,c1,c2,c3,c4,c5,c6,c7,rfl⟩:=zzq;have s06:=s03.trans s6;subst zzh;walk_at "RD";by_cases hw:1 < hi' - lo
 ·rw [if_pos (decide_eq_true hw)];have d1:=Int.ediv_mul_le (lo + hi') (show (2:Int) ≠ 0 by decide);have d2:=Int.lt_ediv_add_one_mul_self (lo + hi') (show (0:Int) < 2 by decide);generalize hsz:(lo + hi') / 2=sz at d1 d2 ⊢;have hs1:lo < sz:=by omega
  have hs2:sz < hi':=by omega
  refine ⟨fun σ' H'=>∃ m',m' < (hi' - lo).toNat∧ShI n ws H H3 c wl x rl m' σ' H',fun σ' H' g=>g,?_⟩;walk_at "RD";refine ⟨by unfold gS;omega,x,sz,rl,k,n,ws,rfl,W3.same s6,R3.same s6,hk0,hk6,wk,n6,fun r7 bv pv H7 s7 n7 e7 SP=>⟨r7,rfl,_,SqT.of e7,rfl,_,_,rfl,_,_,rfl,rfl,?_⟩⟩;have s37:=s6.trans s7;rcases SP with ⟨b7,pb7,rfl,rfl,f0,f1,f2,f3⟩ | ⟨p7,pa7,rfl,rfl,f1,f2,f3⟩
  ·refine ac false (fun Q hQ=>?_) (fun z=>nomatch z) (fun _=>?_)
   ·walk_at "RD";exact hQ
   ·walk_at "RD";exact ⟨(sz - lo).toNat,by omega,lo,sz,pa,pb7,p,b7,_,_,_,rfl,hlo,hs1,by omega,s37,n7,s06.free f0,f1,f2,f3,c5.same s7,c6,c7,rfl⟩
  ·refine ac true (fun Q hQ=>?_) (fun _=>?_) (fun z=>nomatch z)
   ·walk_at "RD";exact hQ
   ·walk_at "RD";exact ⟨(hi' - sz).toNat,by omega,sz,hi',pa7,pb,p7,b,_,_,_,rfl,by omega,hs2,hh,s37,n7,c1,s7 _ _ c2,c3,c4,f1,f2,f3,rfl⟩
 ·rw [if_neg (by simpa using hw)];walk_at "RD";refine ⟨by decide,fun r hr=>q r hi' pb pa b p _ (s06.trans (fb hr)) n6.upd db ⟨by omega,hh,c1,fb hr _ _ c2,c3,c4,c5.same (fb hr),?_,c7⟩⟩;rw [show hi' - 1=lo by omega];exact c6
end
end My
namespace My
open PySem L2
theorem yy {α:Type} (z:Nat) (v:α) (b:Int) (hz:0 < z) (l:List α) (hl:l.length=z):∀ (k:Nat) (i:Nat),i < z→(Wv z v b k l)[i]? = if ∃ j,j < k∧(b - 1 - (j:Int)) % (z:Int)=(i:Int) then some v else l[i]?
 | 0,i,hi=>by rw [if_neg (fun ⟨j,hj,_⟩=>by omega)];rfl
 | k + 1,i,hi=>by
  have ih:=yy z v b hz l hl k i hi;have h0:=Int.emod_nonneg (b - 1 - (k:Int)) (show (z:Int) ≠ 0 by omega);have h1:=Int.emod_lt_of_pos (b - 1 - (k:Int)) (show 0 < (z:Int) by omega);unfold Wv pL;by_cases c:(b - 1 - (k:Int)) % (z:Int)=(i:Int)
  ·rw [show ((b - 1 - (k:Int)) % (z:Int)).toNat=i by omega,List.getElem?_set_self (by rw [Ah,hl];exact hi),if_pos ⟨k,by omega,c⟩]
  ·rw [List.getElem?_set_ne (by omega),ih];by_cases e:∃ j,j < k∧(b - 1 - (j:Int)) % (z:Int)=(i:Int)
   ·obtain ⟨j,hj,ej⟩:=e;rw [if_pos ⟨j,hj,ej⟩,if_pos ⟨j,by omega,ej⟩]
   ·rw [if_neg e,if_neg];rintro ⟨j,hj,ej⟩;by_cases hjk:j=k
    ·subst hjk;exact c ej
    ·exact e ⟨j,by omega,ej⟩
theorem BK {z b i:Int} {n:Int} (hz:0 < z) (hi:0 ≤ i∧i < z) (hn:0 ≤ n∧n ≤ z):(∃ j:Nat,j < n.toNat∧(b - 1 - (j:Int)) % z=i)↔z - n ≤ (i - b) % z:=by
 have h0:=Int.emod_nonneg (i - b) (show z ≠ 0 by omega);have h1:=Int.emod_lt_of_pos (i - b) hz;constructor
 ·rintro ⟨j,hj,e⟩;have:(i - b) % z=z - 1 - j:=by
   rw [← e,Int.emod_sub_emod,show b - 1 - (j:Int) - b=(z - 1 - j) + z * (-1) by omega,Int.add_mul_emod_self_left];exact Int.emod_eq_of_lt (by omega) (by omega)
  omega
 ·intro h;refine ⟨(z - 1 - (i - b) % z).toNat,by omega,?_⟩;rw [Int.toNat_of_nonneg (by omega),show b - 1 - (z - 1 - (i - b) % z)=(b + (i - b) % z) + z * (-1) by omega,Int.add_mul_emod_self_left,Int.add_emod_emod,show b + (i - b)=i by omega];exact Int.emod_eq_of_lt hi.1 hi.2
noncomputable def jr (z rd fd b n t:Int):Str:=if (t - b) % z < n then Str.ofString "free" else if (t - b) % z < n + fd then Str.ofString "fade" else if z - rd ≤ (t - b) % z then Str.ofString "ready" else Str.ofString "stop"
theorem nJ {z:Nat} (hz:0 < z) {rd fd:Nat} {b n:Int} (hn:0 ≤ n∧n + fd + rd ≤ z) {i:Nat} (hi:i < z):(Nj z rd fd [(b,n)])[i]? = some (jr z rd fd b n i):=by
 unfold Nj DH;rw [List.foldl_cons,List.foldl_nil];have s0:=Int.emod_nonneg ((i:Int) - b) (show (z:Int) ≠ 0 by omega);have s1:=Int.emod_lt_of_pos ((i:Int) - b) (show 0 < (z:Int) by omega);rw [yn z _ _ hz _ (by rw [Cg,Ah,List.length_replicate]) _ _ hi,yn z _ _ hz _ (by rw [Ah,List.length_replicate]) _ _ hi,yy z _ _ hz _ (List.length_replicate ..) _ _ hi];have m1:=Qq (z:=z) (b:=b + n) (i:=i) (n:=fd) (by omega) ⟨by omega,by omega⟩ ⟨by omega,by omega⟩;have m2:=Qq (z:=z) (b:=b) (i:=i) (n:=n) (by omega) ⟨by omega,by omega⟩ ⟨by omega,by omega⟩;have m3:=BK (z:=z) (b:=b) (i:=i) (n:=rd) (by omega) ⟨by omega,by omega⟩ ⟨by omega,by omega⟩;rw [Int.toNat_natCast] at m1 m3;have f1:((i:Int) - (b + n)) % (z:Int) < fd↔n ≤ ((i:Int) - b) % (z:Int)∧((i:Int) - b) % (z:Int) < n + fd:=by
  have e:((i:Int) - (b + n)) % (z:Int)=(((i:Int) - b) % (z:Int) - n) % (z:Int):=by
   rw [Int.emod_sub_emod,show (i:Int) - (b + n)=(i:Int) - b - n by omega]
  rw [e];by_cases c:n ≤ ((i:Int) - b) % (z:Int)
  ·rw [Int.emod_eq_of_lt (by omega) (by omega)];omega
  ·rw [show ((i:Int) - b) % (z:Int) - n=(((i:Int) - b) % (z:Int) - n + z) + (z:Int) * (-1) by omega,Int.add_mul_emod_self_left,Int.emod_eq_of_lt (by omega) (by omega)];omega
 unfold jr;by_cases c1:((i:Int) - b) % (z:Int) < n
 ·rw [if_neg (fun h=>by have:=f1.mp (m1.mp h);omega),if_pos (m2.mpr c1),if_pos c1]
 ·by_cases c2:((i:Int) - b) % (z:Int) < n + fd
  ·rw [if_pos (m1.mpr (f1.mpr ⟨by omega,c2⟩)),if_neg c1,if_pos c2]
  ·rw [if_neg (fun h=>by have:=f1.mp (m1.mp h);omega),if_neg (fun h=>c1 (m2.mp h)),if_neg c1,if_neg c2];by_cases c3:(z:Int) - rd ≤ ((i:Int) - b) % (z:Int)
   ·rw [if_pos (m3.mpr c3),if_pos c3]
   ·rw [if_neg (fun h=>c3 (m3.mp h)),if_neg c3,List.getElem?_replicate,if_pos hi]
theorem ED (z rd fd b n t:Int):jr z rd fd b n (t % z)=jr z rd fd b n t:=by
 unfold jr;rw [Int.emod_sub_emod]
theorem fz {n:Int} {z:Nat} (hz:0 < z) {ds:List WD} {sp:List SD} (h1:∀ d ∈ ds,∃ s:SD,ofN d.name sp=[(s.b,s.n)]∧1 ≤ s.n∧s.n ≤ z∧∀ e ∈ ds,d.name ≠ e.name→mt n d e=true→∀ s':SD,ofN e.name sp=[(s'.b,s'.n)]→∀ (t j:Nat),t < z→(j:Int) ≤ pE d e→((t:Int) - s'.b) % z < s'.n→((t:Int) - j - s.b) % z < s.n→False):Ny n z sp ds=none:=by
 unfold Ny;refine List.findSome?_eq_none_iff.mpr fun d hd=>?_
 unfold HF;refine List.findSome?_eq_none_iff.mpr fun e he=>?_
 suffices h:Tr n z sp d e=none by rw [h];rfl
 unfold Tr;split
 ·rename_i hc;obtain ⟨s,e1,g1,g2,al⟩:=h1 d hd;obtain ⟨s',e2,g3,g4,_⟩:=h1 e he
  suffices h:ju (pE d e) (fk z sp d.name) (fk z sp e.name)=none by rw [h];rfl
  unfold ju;refine List.find?_eq_none.mpr fun x hx=>?_
  obtain ⟨⟨x1,x2⟩,t⟩:=x;have h3:=List.mem_zipIdx_iff_getElem?.mp hx;rw [List.getElem?_zip_eq_some] at h3;dsimp only at h3 ⊢;rw [Bool.and_eq_true,decide_eq_true_eq,decide_eq_true_eq];rintro ⟨z2,z1⟩;have ht:t < z:=by
   have:=(List.getElem?_eq_some_iff.mp h3.1).1;rwa [Ql] at this
  unfold fk at h3;rw [e1,e2] at h3;have hg:0 ≤ pE d e:=by unfold pE;split <;> omega
  obtain ⟨v1,k1,_,q1⟩:=Wx (z:=z) hz (b:=s.b) (n:=s.n) ⟨g1,g2⟩ ht;obtain ⟨v2,k2,_,q2⟩:=Wx (z:=z) hz (b:=s'.b) (n:=s'.n) ⟨g3,g4⟩ ht;rw [h3.1] at k1;rw [h3.2] at k2;cases k1;cases k2;obtain ⟨j,hj,hb⟩:=(q1 _ hg).mp z1;obtain ⟨j',hj',hb'⟩:=(q2 0 (by omega)).mp (by omega);have:j'=0:=by omega
  subst this;exact al e he hc.1 hc.2 s' e2 t j ht hj (by simpa using hb') hb
 ·rfl
theorem PH {z:Int} {ds:List WD} {sp:List SD} (hu:∀ (i j:Nat) (s e:SD),sp[i]? = some s→sp[j]? = some e→s.name=e.name→i=j) (h:∀ s ∈ sp,∃ d,wOf ds s.name=some d∧d.least ≤ s.n∧s.n + Ke d + Jc d ≤ z):lx ds z sp=none:=by
 unfold lx;refine List.find?_eq_none.mpr fun e he=>?_
 obtain ⟨s,k⟩:=e;have hk:sp[k]? = some s:=by simpa using List.mem_zipIdx_iff_getElem?.mp he
 obtain ⟨d,hw,hl,hr⟩:=h s (List.mem_of_getElem? hk);intro c;unfold Xu at c;dsimp only at c;rw [hw] at c;have c:(decide (s.n < d.least) || decide (bE z sp k s < s.n + Ke d + Jc d))=true:=c;rw [decide_eq_false (show ¬ s.n < d.least by omega),Bool.false_or,decide_eq_true_eq] at c;have hn:ofN s.name (sp.eraseIdx k)=[]:=by
  cases e:ofN s.name (sp.eraseIdx k) with
  | nil=>rfl
  | cons p ps=>
   have hp:p ∈ ofN s.name (sp.eraseIdx k):=by rw [e];exact List.mem_cons_self ..
   obtain ⟨x,hx,en,_⟩:=Bz hp;obtain ⟨j,hj,ej⟩:=List.mem_eraseIdx_iff_getElem?.mp hx;exact absurd (hu j k x s ej hk en) hj
 unfold bE at c;rw [hn] at c;have c:z < s.n + Ke d + Jc d:=c;omega
theorem jQ {sp:List SD} (hu:∀ (i j:Nat) (s e:SD),sp[i]? = some s→sp[j]? = some e→s.name=e.name→i=j) {i:Nat} {s:SD} (hs:sp[i]? = some s):ofN s.name sp=[(s.b,s.n)]:=by
 have:∀ (l:List SD) (i:Nat),(∀ (a b:Nat) (s e:SD),l[a]? = some s→l[b]? = some e→s.name=e.name→a=b)→l[i]? = some s→l.filter (fun d=>decide (d.name=s.name))=[s]:=fun l=>by
  induction l with
  | nil=>intro i _ h;simp at h
  | cons x l ih=>
   intro i hu h
   match i,h with
   | 0,h=>
    cases (show x=s by simpa using h);rw [List.filter_cons_of_pos (by simp),List.filter_eq_nil_iff.mpr];intro e he z;obtain ⟨j,hj⟩:=List.getElem?_of_mem he;have:=hu (j + 1) 0 e s (by rw [List.getElem?_cons_succ];exact hj) rfl (of_decide_eq_true z);omega
   | i + 1,h=>
    rw [List.getElem?_cons_succ] at h;rw [List.filter_cons_of_neg]
    ·exact ih i (fun a b s e ha hb en=>by have:=hu (a + 1) (b + 1) s e (by rw [List.getElem?_cons_succ];exact ha) (by rw [List.getElem?_cons_succ];exact hb) en;omega) h
    ·intro z;have:=hu 0 (i + 1) x s rfl (by rw [List.getElem?_cons_succ];exact h) (of_decide_eq_true z);omega
 unfold ofN;rw [this sp i hu hs];rfl
theorem fF {z:Nat} (hz:0 < z):∀ (ps:List (Int × Int)),(∀ p ∈ ps,0 ≤ p.2∧p.2 ≤ z)→∀ (l:List Bool),l.length=z→∀ {i:Nat},i < z →
  (ps.foldl (fun l p=>kz z true p.1 p.2.toNat l) l)[i]? = some ((ps.any fun p=>decide (((i:Int) - p.1) % (z:Int) < p.2)) || l[i]?.getD false)
 | [],_,l,hl,i,hi=>by
  rw [List.foldl_nil,List.any_nil,Bool.false_or,List.getElem?_eq_getElem (by omega)];rfl
 | p :: ps,h,l,hl,i,hi=>by
  have hp:=h p (List.mem_cons_self ..);rw [List.foldl_cons,fF hz ps (fun q hq=>h q (List.mem_cons_of_mem _ hq)) _ (by rw [Cg,hl]) hi,yn z true p.1 hz l hl _ _ hi,List.any_cons];have:=Qq (z:=z) (b:=p.1) (i:=i) (n:=p.2) (by omega) ⟨by omega,by omega⟩ hp;by_cases c:((i:Int) - p.1) % (z:Int) < p.2
  ·rw [if_pos (this.mpr c),decide_eq_true c];simp
  ·rw [if_neg (fun e=>c (this.mp e)),decide_eq_false c,Bool.false_or]
theorem lP {z:Nat} (hz:0 < z) {ps:List (Int × Int)} (h:∀ p ∈ ps,0 ≤ p.2∧p.2 ≤ z) {i:Nat} (hi:i < z):(fmF z ps)[i]? = some (ps.any fun p=>decide (((i:Int) - p.1) % (z:Int) < p.2)):=by
 unfold fmF;rw [fF hz ps h _ (List.length_replicate ..) hi,List.getElem?_replicate,if_pos hi];simp
noncomputable def ij (z t:Int) (p:Int × Int):Int:=if (t - p.1) % z < p.2 then 0 else z - (t - p.1) % z
noncomputable def AE (z t:Int) (ps:List (Int × Int)):Int:=ps.foldl (fun b p=>min b (ij z t p)) z
theorem Ik {z t:Int} (hz:0 < z) (p:Int × Int):0 ≤ ij z t p∧ij z t p ≤ z:=by
 have h0:=Int.emod_nonneg (t - p.1) (show z ≠ 0 by omega);have h1:=Int.emod_lt_of_pos (t - p.1) hz;unfold ij;split <;> omega
theorem FC {z t g:Int} (hz:0 < z) {p:Int × Int} (hp:1 ≤ p.2∧p.2 ≤ z) (hg:0 ≤ g):ij z t p ≤ g↔∃ j:Nat,(j:Int) ≤ g∧(t + (j:Int) - p.1) % z < p.2:=by
 have h0:=Int.emod_nonneg (t - p.1) (show z ≠ 0 by omega);have h1:=Int.emod_lt_of_pos (t - p.1) hz;have step:∀ j:Int,(t + j - p.1) % z=((t - p.1) % z + j) % z:=fun j=>by
  rw [Int.emod_add_emod,show t + j - p.1=t - p.1 + j by omega]
 unfold ij;by_cases c:(t - p.1) % z < p.2
 ·rw [if_pos c];exact ⟨fun _=>⟨0,by omega,by rw [step,Int.natCast_zero,Int.add_zero,Int.emod_emod_of_dvd _ (Int.dvd_refl _)];exact c⟩,fun _=>hg⟩
 ·rw [if_neg c];constructor
  ·intro h;refine ⟨(z - (t - p.1) % z).toNat,by omega,?_⟩;rw [step,Int.toNat_of_nonneg (by omega),show (t - p.1) % z + (z - (t - p.1) % z)=z by omega,Int.emod_self];omega
  ·rintro ⟨j,hj,h⟩;by_cases d:(t - p.1) % z + j < z
   ·rw [step,Int.emod_eq_of_lt (by omega) d] at h;omega
   ·omega
theorem Zv (z t g:Int):∀ (ps:List (Int × Int)) (b:Int),ps.foldl (fun b p=>min b (ij z t p)) b ≤ g↔b ≤ g∨∃ p ∈ ps,ij z t p ≤ g
 | [],b=>by simp
 | p :: ps,b=>by
  rw [List.foldl_cons,Zv z t g ps];simp only [List.mem_cons,exists_eq_or_imp];rw [show min b (ij z t p) ≤ g↔b ≤ g∨ij z t p ≤ g by omega,or_assoc]
theorem ly {z t:Int} (hz:0 < z) (ps:List (Int × Int)):0 ≤ AE z t ps:=by
 have:¬ AE z t ps ≤ -1:=fun h=>by
  rcases (Zv z t (-1) ps z).mp h with h | ⟨p,_,h⟩
  ·omega
  ·have:=Ik (t:=t) hz p;omega
 omega
theorem VC {z:Nat} (hz:0 < z) {ps:List (Int × Int)} (h:∀ p ∈ ps,1 ≤ p.2∧p.2 ≤ z) (hne:ps ≠ []) {t:Nat} (ht:t < z):(Gm (fmF z ps))[t]? = some (AE z t ps):=by
 have hl:(fmF z ps).length=z:=zj _ _;have hh:∀ p ∈ ps,0 ≤ p.2∧p.2 ≤ z:=fun p hp=>⟨by have:=h p hp;omega,(h p hp).2⟩
 have key:∀ j:Nat,(fmF z ps)[(t + j) % z]? = some (ps.any fun p=>decide (((t:Int) + (j:Int) - p.1) % (z:Int) < p.2)):=fun j=>by
  rw [lP hz hh (Nat.mod_lt _ hz)];congr 2;funext p;rw [Int.natCast_emod,Int.emod_sub_emod,Int.natCast_add]
 obtain ⟨p0,r0,rfl⟩:=List.exists_cons_of_ne_nil hne;have hm:∃ i,i < (fmF z (p0 :: r0)).length∧(fmF z (p0 :: r0))[i]? = some true:=by
  have hb0:=Int.emod_nonneg p0.1 (show (z:Int) ≠ 0 by omega);have hb1:=Int.emod_lt_of_pos p0.1 (show 0 < (z:Int) by omega);refine ⟨(p0.1 % (z:Int)).toNat,by rw [hl];omega,?_⟩;rw [lP hz hh (by omega),List.any_cons,Int.toNat_of_nonneg hb0,Int.emod_sub_emod,Int.sub_self,Int.zero_emod,decide_eq_true (by have:=h p0 (List.mem_cons_self ..);omega),Bool.true_or]
 rw [rC (by rw [hl];exact ht)];congr 1;have ul:=wA hm (t:=t) (by rw [hl];exact ht);rw [hl] at ul ⊢;have all:∀ g:Int,0 ≤ g→(Gf (fmF z (p0 :: r0)) (2 * z - t) ≤ g↔AE z t (p0 :: r0) ≤ g):=fun g hg=>by
  rw [ul g hg];unfold AE;rw [Zv];constructor
  ·rintro ⟨j,hj,e⟩;rw [key j,Option.some.injEq,List.any_eq_true] at e;obtain ⟨p,hp,e⟩:=e;exact .inr ⟨p,hp,(FC (by omega) (h p hp) hg).mpr ⟨j,hj,of_decide_eq_true e⟩⟩
  ·intro e;have e:∃ p ∈ p0 :: r0,ij z t p ≤ g:=by
    rcases e with e | e
    ·exact ⟨p0,List.mem_cons_self ..,by have:=(Ik (z:=z) (t:=t) (by omega) p0).2;omega⟩
    ·exact e
   obtain ⟨p,hp,e⟩:=e;obtain ⟨j,hj,e⟩:=(FC (by omega) (h p hp) hg).mp e;exact ⟨j,hj,by rw [key j,Option.some.injEq,List.any_eq_true];exact ⟨p,hp,decide_eq_true e⟩⟩
 have a1:=mh (fmF z (p0 :: r0)) (2 * z - t);have a2:=ly (z:=z) (t:=t) (by omega) (p0 :: r0);have b1:=(all _ a2).mpr (Int.le_refl _);have b2:=(all _ a1).mp (Int.le_refl _);omega
theorem nF {l:List Int} {m:Int} {i:Nat} (h:l[i]? = some m) (h2:∀ j,j < i→l[j]? ≠ some m):l.idxOf m=i:=by
 have hm:m ∈ l:=List.mem_of_getElem? h;have hlt:=List.idxOf_lt_length_iff.mpr hm;have e:l[l.idxOf m]? = some m:=by rw [List.getElem?_eq_getElem hlt,List.getElem_idxOf]
 by_cases c:l.idxOf m < i
 ·exact absurd e (h2 _ c)
 ·by_cases d:i < l.idxOf m
  ·have:=List.not_of_lt_findIdx (p:=(· == m)) (xs:=l) (i:=i) d;have hi:=(List.getElem?_eq_some_iff.mp h);simp [hi.2] at this
  ·omega
theorem AS {ds:List WD} {sp:List SD} (h:∀ d ∈ ds,∃ s ∈ sp,s.name=d.name):Ox ds sp=none:=by
 unfold Ox;refine List.find?_eq_none.mpr fun x hx=>?_
 obtain ⟨d,hd,rfl⟩:=List.mem_map.mp hx;obtain ⟨s,hs,e⟩:=h d hd;intro z;have:ofN d.name sp=[]:=by simpa using z
 have m:(s.b,s.n) ∈ ofN d.name sp:=List.mem_map.mpr ⟨s,List.mem_filter.mpr ⟨hs,by simpa using e⟩,rfl⟩;rw [this] at m;cases m
end My
namespace My
open PySem L2
section
variable {w:World} {K:PySem.W.Frag} {mg:Str→Option Value} {t:Adr} {H:Hp} {a c dx p lm un:Addr} {z:Int}
theorem Dr (T:Txt w K mg t) (e:H a=some (.ins t.Je dx (plF c z p lm un))):yi K H a (Str.ofString "crossing") (.ref c):=⟨_,dx,_,e,T.Aj,T.Tj,yd EH 0 (Mq ..) (by decide +kernel) rfl⟩
theorem yG (T:Txt w K mg t) (e:H a=some (.ins t.Je dx (plF c z p lm un))):yi K H a (Str.ofString "size") (.int z):=⟨_,dx,_,e,T.Aj,T.Rp,yd EH 1 (Mq ..) (by decide +kernel) rfl⟩
end
theorem NK.get {H:Hp} {p:Addr} {ds:List WD} {f:WD→HO} (h:NK H p ds f ds.length) (nd:(ds.map (·.name)).Nodup) {i:Nat} {d:WD} (hd:ds[i]? = some d):∃ r,jw H p (.str d.name) (some (.ref r))∧H r=some (f d):=by
 obtain ⟨rs,hl,hp,al⟩:=h;have hi:i < rs.length:=by rw [hl];exact (List.getElem?_eq_some_iff.mp hd).1
 have hr:rs[i]? = some rs[i]:=List.getElem?_eq_getElem hi;refine ⟨rs[i],?_,al i _ d hr hd⟩;have:=jw.k (k:=Sum.inr d.name) hp;rw [dA nd hd hr] at this;exact this
noncomputable def Kr (z:Nat) (sp:List SD) (d:WD) (turn:Int):Str:=((Vz z sp d)[(turn % (z:Int)).toNat]?).getD (Str.ofString "")
noncomputable def Iy (z:Nat) (sp:List SD) (d:WD) (turn:Int):Bool:=decide (Kr z sp d turn=Str.ofString "free")
def By (t:Adr):Sp:=fun vs H Q _=>∃ (pl c:Addr) (n:Int) (ds:List WD) (z:Nat) (sp:List SD) (i:Nat) (d:WD) (turn:Int),vs=[.ref pl,.str d.name,.int turn]∧ko t H pl c n ds z sp∧0 < z∧ds[i]? = some d∧Q (.str (Kr z sp d turn)) H
def UE (t:Adr):Sp:=fun vs H Q _=>∃ (pl c:Addr) (n:Int) (ds:List WD) (z:Nat) (sp:List SD) (i:Nat) (d:WD) (turn:Int),vs=[.ref pl,.str d.name,.int turn]∧ko t H pl c n ds z sp∧0 < z∧ds[i]? = some d∧Q (.bl (Iy z sp d turn)) H
def aO (t:Adr):Sp:=fun vs H Q _=>∃ (pl c:Addr) (n:Int) (ds:List WD) (z:Nat) (sp:List SD) (i:Nat) (d:WD) (m:Int),vs=[.ref pl,.str d.name]∧ko t H pl c n ds z sp∧z ≤ 1000∧ds[i]? = some d∧(m ∈ Xg z sp d.name∧∀ k ∈ Xg z sp d.name,k ≤ m)∧∀ p,H p=none→Q (.ref p) (upd H p (.tup [.int m,.int ((Xg z sp d.name).idxOf m:Nat)]))
theorem fO {z:Nat} {sp:List SD} {x:Str}:(Xg z sp x).length=z:=by
 unfold Xg;rw [cj,zj]
section
variable {P:Program} {w:World} {K:PySem.W.Frag} {mg:Str→Option Value} {base:Heap} {t:Adr}
theorem wF (T:Txt w K mg t):Gb P w K mg base CX0 3 t.Gq t.Jq q11 (By t):=by
 have g8:Gb P w K mg base CX0 2 t.Nb t.Ub q5 (Uf t):=Gg T;refine T.Cv.ok ZE (fun vs H Q E h=>?_) (fun _ _ _ s H vs Q E hr h=>?_)
 ·obtain ⟨pl,c,n,ds,z,sp,i,d,turn,rfl,_⟩:=h;rfl
 obtain ⟨pl,c,n,ds,z,sp,i,d,turn,rfl,PA,hz,hd,q⟩:=h;obtain ⟨dx,p,lm,un,hpl,C,_,NL,_⟩:=PA.at_;obtain ⟨⟨hnd,_⟩,dxc,wl,nd,e1,_,_⟩:=id C;have hu:=rj hr;refine ⟨_,(cb (gd (Ed (Ob (pv 0) rfl) T.Mb T.jc g8 hr T.kc .nil Rc (ab (pv 1) gb)))
   (ib (Cb (Zb He (Yo hu (Ob (pv 0) rfl) (pv 1) (fun _ _=>rfl)) (Lb Te (pv 2) (Ob (pv 0) rfl)))))),?_⟩
 walk_at "RD";refine ⟨_,Dr T hpl,_,rfl,_,_,e1,Uy _ _ _ (by decide +kernel),c,n,ds,i,d,rfl,C,hd,fun a W=>?_⟩;obtain ⟨r,hg,hr'⟩:=NL.get hnd hd;have h0:=Int.emod_nonneg turn (show (z:Int) ≠ 0 by omega);have h1:=Int.emod_lt_of_pos turn (show (0:Int) < z by omega);have hlen:(Vz z sp d).length=z:=Ek _ _ _ _;have hj:(turn % (z:Int)).toNat < (Vz z sp d).length:=by rw [hlen];omega
 walk_at "RD";refine ⟨_,xC T hpl,_,rfl,_,hg,_,yG T hpl,_,rfl,by omega,_,rfl,_,SqL.of hr',.str (Kr z sp d turn),?_,q⟩;have e:=Jb (xs:=Qb (Vz z sp d)) (j:=(turn % (z:Int)).toNat) (v:=.str (Kr z sp d turn)) (by unfold Qb Kr;rw [List.getElem?_map,List.getElem?_eq_getElem hj];rfl);rwa [Int.toNat_of_nonneg h0] at e
theorem pN (T:Txt w K mg t):Gb P w K mg base CX0 4 t.zC t.KB q11 (UE t):=by
 have g63:Gb P w K mg base CX0 3 t.Gq t.Jq q11 (By t):=wF T;refine T.EC.ok NM (fun vs H Q E h=>?_) (fun _ _ _ s H vs Q E hr h=>?_)
 ·obtain ⟨pl,c,n,ds,z,sp,i,d,turn,rfl,_⟩:=h;rfl
 obtain ⟨pl,c,n,ds,z,sp,i,d,turn,rfl,PA,hz,hd,q⟩:=h;refine ⟨_,(ib (Cb (Qf fm (ub g63 hr T.IJ T.Cv.kp T.AJ (ab (pv 0) (ab (pv 1) (ab (pv 2) gb)))) vd (gc _)))),?_⟩;walk_at "RD";refine ⟨pl,c,n,ds,z,sp,i,d,turn,rfl,PA,hz,hd,rfl,?_⟩;rw [show decide (V.str (Kr z sp d turn)=V.str (Str.ofString "free"))=Iy z sp d turn by unfold Iy;simp];exact q
theorem oR (T:Txt w K mg t):Gb P w K mg base CX0 3 t.Zn t.Wn q39 (aO t):=by
 have g8:Gb P w K mg base CX0 2 t.Nb t.Ub q5 (Uf t):=Gg T;refine T.As.ok Au (fun vs H Q E h=>?_) (fun _ _ _ s H vs Q E hr h=>?_)
 ·obtain ⟨pl,c,n,ds,z,sp,i,d,m,rfl,_⟩:=h;rfl
 obtain ⟨pl,c,n,ds,z,sp,i,d,m,rfl,PA,hz,hd,hm,q⟩:=h;obtain ⟨dx,p,lm,un,hpl,C,_,_,NU⟩:=PA.at_;obtain ⟨⟨hnd,_⟩,dxc,wl,nd,e1,_,_⟩:=id C;have hu:=rj hr;refine ⟨_,(cb (gd (Ed (Ob (pv 0) rfl) T.Mb T.jc g8 hr T.kc .nil Rc (ab (pv 1) gb)))
   (cb (xb (i:=2) Au.nd (jd (fG rfl) rfl T.vJ Do (ab (Yo hu (Ob (pv 0) rfl) (pv 1) (fun _ _=>rfl)) gb)))
   (ib (Cb (Ad (ab (pv 2) (ab (Bp PySem.F.plainAttrs_list PySem.F.slot_list_index PySem.F.type_list_index rH (Yo hu (Ob (pv 0) rfl) (pv 1) (fun _ _=>rfl)) (ab (pv 2) gb)) gb))))))),?_⟩
 walk_at "RD";refine ⟨_,Dr T hpl,_,rfl,_,_,e1,Uy _ _ _ (by decide +kernel),c,n,ds,i,d,rfl,C,hd,fun a W=>?_⟩;obtain ⟨r,hg,hr'⟩:=NU.get hnd hd;walk_at "RD";exact ⟨_,Hs T hpl,_,rfl,_,hg,_,rfl,_,SqL.of hr',m,hm.1,hm.2,_,Hs T hpl,_,rfl,_,hg,.inl ⟨_,SqL.of hr'⟩,_,rfl,_,SqL.of hr',hm.1,by rw [fO];exact hz,by decide,q⟩
end
theorem NK.same {H H':Hp} {p:Addr} {ds:List WD} {f:WD→HO} {n:Nat} (h:NK H p ds f n) (s:Ib H H'):NK H' p ds f n:=by
 obtain ⟨rs,hl,hp,al⟩:=h;exact ⟨rs,hl,s _ _ hp,fun i r d h1 h2=>s _ _ (al i r d h1 h2)⟩
theorem ko.same {t:Adr} {H H':Hp} {a c:Addr} {n:Int} {ds:List WD} {z:Nat} {sp:List SD} (h:ko t H a c n ds z sp) (s:Ib H H'):ko t H' a c n ds z sp:=by
 obtain ⟨dx,p,lm,un,e,C,L,N1,N2⟩:=h.at_;exact ⟨dx,p,lm,un,s _ _ e,C.same s,L.same s,N1.same s,N2.same s⟩
noncomputable def spW (ws:List (WD × Int)) (b:Nat→Int):List SD:=ws.zipIdx.map fun e=>⟨e.1.1.name,b e.2,e.1.2⟩
theorem BA (ws:List (WD × Int)) (b:Nat→Int) (i:Nat):(spW ws b)[i]? = (ws[i]?).map fun p=>⟨p.1.name,b i,p.2⟩:=by
 unfold spW;rw [List.getElem?_map,List.getElem?_zipIdx];cases ws[i]? with
 | none=>rfl
 | some p=>simp
theorem Gz (ws:List (WD × Int)) (b:Nat→Int):(spW ws b).length=ws.length:=by unfold spW;simp
theorem Iu {ws:List (WD × Int)} {b:Nat→Int} {i:Nat} {s:SD} (h:(spW ws b)[i]? = some s):∃ p,ws[i]? = some p∧s=⟨p.1.name,b i,p.2⟩:=by
 rw [BA] at h;cases e:ws[i]? with
 | none=>rw [e] at h;cases h
 | some p=>rw [e] at h;cases h;exact ⟨p,rfl,rfl⟩
structure W66 (n:Int) (ds:List WD) (ws:List (WD × Int)):Prop where
 ln:ws.length=ds.length
 al:∀ p ∈ ws,p.1 ∈ ds∧WOk n p.1∧p.1.least ≤ p.2∧p.2 ≤ 67
 inj:∀ (i j:Nat) (p q:WD × Int),ws[i]? = some p→ws[j]? = some q→p.1.name=q.1.name→i=j
 sur:∀ d ∈ ds,∃ (i:Nat) (p:WD × Int),ws[i]? = some p∧p.1=d
theorem W66.does {n:Int} {ws:List (WD × Int)} (al:∀ p ∈ ws,WOk n p.1∧p.2 ≤ 67) (hl:ws.length ≤ 6):sk (Kb n ws) 600 (fun i=>100 * (i:Int)):=by
 refine ⟨fun k hk=>?_,fun i j e=>?_⟩
 ·have hp:ws[k]? = some ws[k]:=List.getElem?_eq_getElem hk;rw [eI hp];have a:=al _ (List.mem_of_getElem? hp);have r:=Jr ws[k].1;have o:=a.1.of;have f:Ke ws[k].1 ≤ 30:=by unfold Ke;split <;> omega
  unfold Dd;omega
 ·obtain ⟨p,q,g1,g2,g3,g4⟩:=mv e;have l1:=(List.getElem?_eq_some_iff.mp g1).1;have l2:=(List.getElem?_eq_some_iff.mp g2).1;have a:=al _ (List.mem_of_getElem? g1);have a':=al _ (List.mem_of_getElem? g2);have o:=a.1.of;have o':=a'.1.nr;have g:ay p.1 q.1 ≤ 30:=by unfold ay;split <;> omega
  rw [(vh g1 g2).2];dsimp only;by_cases c:i < j
  ·rw [Int.emod_eq_of_lt (by omega) (by omega)];omega
  ·rw [← Int.add_emod_right,Int.emod_eq_of_lt (by omega) (by omega)];omega
section
variable {n:Int} {ds:List WD} {ws:List (WD × Int)} {z:Nat} {b:Nat→Int}
theorem W66.uni (h:W66 n ds ws):∀ (i j:Nat) (s e:SD),(spW ws b)[i]? = some s→(spW ws b)[j]? = some e→s.name=e.name→i=j:=fun i j s e hs he hn=>by
 obtain ⟨p,hp,rfl⟩:=Iu hs;obtain ⟨q,hq,rfl⟩:=Iu he;exact h.inj i j p q hp hq hn
theorem W66.of (h:W66 n ds ws) {i:Nat} {p:WD × Int} (hp:ws[i]? = some p):ofN p.1.name (spW ws b)=[(b i,p.2)]:=
 jQ (s:=⟨p.1.name,b i,p.2⟩) h.uni (by rw [BA,hp];rfl)
theorem W66.wof (h:W66 n ds ws) (nd:(ds.map (·.name)).Nodup) {i:Nat} {p:WD × Int} (hp:ws[i]? = some p):wOf ds p.1.name=some p.1:=by
 have hm:=(h.al p (List.mem_of_getElem? hp)).1;cases e:wOf ds p.1.name with
 | none=>
  have:=List.find?_eq_none.mp e p.1 hm;simp at this
 | some d=>
  obtain ⟨g1,j,g2⟩:=cG e;obtain ⟨k,hk⟩:=List.getElem?_of_mem hm;have:=WI nd g2 hk g1;subst this;rw [g2] at hk;exact hk
theorem W66.room (h:W66 n ds ws) (D:sk (Kb n ws) z b) {i:Nat} {p:WD × Int} (hp:ws[i]? = some p):1 ≤ p.2∧(0 ≤ Ke p.1∧0 ≤ Jc p.1)∧p.2 + Ke p.1 + Jc p.1 ≤ z:=by
 have a:=h.al p (List.mem_of_getElem? hp);have d:=D.1 i (List.getElem?_eq_some_iff.mp hp).1;rw [eI hp] at d;have r:=Jr p.1;have f:=xA (d:=p.1) (by have:=a.2.1.of;omega);have l:=a.2.1.le;unfold Dd at d;omega
theorem W66.never (h:W66 n ds ws):Ox ds (spW ws b)=none:=AS fun d hd=>by
 obtain ⟨i,p,hp,rfl⟩:=h.sur d hd;exact ⟨⟨p.1.name,b i,p.2⟩,List.mem_of_getElem? (i:=i) (by rw [BA,hp];rfl),rfl⟩
theorem W66.short (h:W66 n ds ws) (nd:(ds.map (·.name)).Nodup) (D:sk (Kb n ws) z b):lx ds z (spW ws b)=none:=PH h.uni fun s hs=>by
 obtain ⟨i,hi⟩:=List.getElem?_of_mem hs;obtain ⟨p,hp,rfl⟩:=Iu hi;exact ⟨p.1,h.wof nd hp,(h.al p (List.mem_of_getElem? hp)).2.2.1,(h.room D hp).2.2⟩
theorem kI {x z:Int} (h:0 ≤ x) (hz:0 < z):x % z ≤ x:=by
 by_cases c:x < z
 ·rw [Int.emod_eq_of_lt h c];exact Int.le_refl _
 ·have:=Int.emod_lt_of_pos x hz;omega
theorem sM {z bi bj ti tj g t:Int} (hz:0 < z) (h1:ti + g ≤ (bj - bi) % z) (h2:tj ≤ (bi - bj) % z) (hti:1 ≤ ti) {j:Int} (hj:0 ≤ j∧j ≤ g) (c2:(t - bj) % z < tj) (c1:(t - j - bi) % z < ti):False:=by
 have a0:=Int.emod_nonneg (t - bj) (show z ≠ 0 by omega);have b0:=Int.emod_nonneg (t - j - bi) (show z ≠ 0 by omega);have e:(bj - bi) % z=((t - j - bi) % z + j - (t - bj) % z) % z:=by
  rw [Int.sub_emod_emod,show (t - j - bi) % z + j - (t - bj)=(t - j - bi) % z + (j - (t - bj)) by omega,Int.emod_add_emod,show t - j - bi + (j - (t - bj))=bj - bi by omega]
 have e':(bi - bj) % z=((t - bj) % z - (t - j - bi) % z - j) % z:=by
  rw [show (t - bj) % z - (t - j - bi) % z - j=(t - bj) % z - j - (t - j - bi) % z by omega,Int.sub_emod_emod,show (t - bj) % z - j - (t - j - bi)=(t - bj) % z + (- j - (t - j - bi)) by omega,Int.emod_add_emod,show t - bj + (- j - (t - j - bi))=bi - bj by omega]
 generalize (t - bj) % z=u at *;generalize (t - j - bi) % z=v at *;by_cases c:u ≤ v + j
 ·have:(v + j - u) % z ≤ v + j - u:=kI (by omega) hz;omega
 ·have:(u - v - j) % z ≤ u - v - j:=kI (by omega) hz;omega
theorem W66.clash (h:W66 n ds ws) (hz:0 < z) (D:sk (Kb n ws) z b):Ny n z (spW ws b) ds=none:=fz hz fun d hd=>by
 obtain ⟨i,p,hp,rfl⟩:=h.sur d hd;have r:=h.room D hp;refine ⟨⟨p.1.name,b i,p.2⟩,h.of hp,r.1,by show p.2 ≤ _;omega,fun e he hne hm s' hs' t j ht hj c2 c1=>?_⟩;obtain ⟨k,q,hq,rfl⟩:=h.sur e he;rw [h.of hq] at hs';have hs1:b k=s'.b:=by injection hs' with e1;injection e1
 have hs2:q.2=s'.n:=by injection hs' with e1;injection e1
 have hik:i ≠ k:=fun z=>by
  subst z;rw [hp] at hq;cases hq;exact hne rfl
 have d1:=D.2 i k (by rw [(vh hp hq).1,hm,decide_eq_true hik];rfl);have op:=(h.al p (List.mem_of_getElem? hp)).2.1;have oq:=(h.al q (List.mem_of_getElem? hq)).2.1;have hm':mt n q.1 p.1=true:=by rw [← hm];exact (Qu op.st op.fi oq.st oq.fi op.ne oq.ne).symm
 have d2:=D.2 k i (by rw [(vh hq hp).1,hm',decide_eq_true (Ne.symm hik)];rfl);rw [(vh hp hq).2] at d1;rw [(vh hq hp).2] at d2;have g2:0 ≤ ay q.1 p.1:=by unfold ay;split <;> omega
 rw [← hs1,← hs2] at c2;exact sM (z:=z) (g:=ay p.1 q.1) (by omega) d1 (by omega) r.1 ⟨by omega,hj⟩ c2 c1
theorem W66.free (h:W66 n ds ws) (hz:0 < z) (D:sk (Kb n ws) z b) {i:Nat} {p:WD × Int} (hp:ws[i]? = some p) (turn:Int):Iy z (spW ws b) p.1 turn=decide ((turn - b i) % (z:Int) < p.2):=by
 have m0:=Int.emod_nonneg turn (show (z:Int) ≠ 0 by omega);have m1:=Int.emod_lt_of_pos turn (show (0:Int) < z by omega);have r:=h.room D hp;have key:=nJ (z:=z) (by omega) (rd:=(Jc p.1).toNat) (fd:=(Ke p.1).toNat) (b:=b i) (n:=p.2) (by omega) (i:=(turn % (z:Int)).toNat) (by omega);unfold Iy Kr Vz;rw [h.of hp,key,Int.toNat_of_nonneg m0,ED];show decide (jr _ _ _ _ _ _=_)=_;unfold jr;by_cases c:(turn - b i) % (z:Int) < p.2
 ·rw [if_pos c,decide_eq_true c,decide_eq_true rfl]
 ·rw [if_neg c,decide_eq_false c];refine decide_eq_false ?_;split
  ·decide
  ·split <;> decide
theorem W66.until (h:W66 n ds ws) (hz:0 < z) (D:sk (Kb n ws) z b) {i:Nat} {p:WD × Int} (hp:ws[i]? = some p) {t:Nat} (ht:t < z):(Xg z (spW ws b) p.1.name)[t]? = some (ij z t (b i,p.2)):=by
 have r:=h.room D hp;unfold Xg;rw [h.of hp,VC hz (fun q hq=>by rw [List.mem_singleton.mp hq];exact ⟨r.1,by show p.2 ≤ _;omega⟩) (by simp) ht];congr 1;show min (z:Int) (ij z t (b i,p.2))=_;have:=Ik (z:=z) (t:=t) (by omega) (b i,p.2);omega
noncomputable def loV (z:Int) (b n:Int):Int:=if n < z then (b + n) % z else 0
theorem W66.long (h:W66 n ds ws) (hz:0 < z) (D:sk (Kb n ws) z b) {i:Nat} {p:WD × Int} (hp:ws[i]? = some p):((z:Int) - p.2 ∈ Xg z (spW ws b) p.1.name∧∀ k ∈ Xg z (spW ws b) p.1.name,k ≤ (z:Int) - p.2)∧(((Xg z (spW ws b) p.1.name).idxOf ((z:Int) - p.2):Nat):Int)=loV z (b i) p.2:=by
 have r:=h.room D hp;have hl:(Xg z (spW ws b) p.1.name).length=z:=by unfold Xg;rw [cj,zj]
 have at_:∀ t:Nat,t < z→(Xg z (spW ws b) p.1.name)[t]? = some (ij z t (b i,p.2)):=fun t ht=>h.until hz D hp ht
 have v0:0 ≤ loV z (b i) p.2∧loV z (b i) p.2 < z:=by
  unfold loV;split
  ·exact ⟨Int.emod_nonneg _ (by omega),Int.emod_lt_of_pos _ (by omega)⟩
  ·omega
 have w1:∀ t:Nat,t < z→ij z t (b i,p.2) ≤ (z:Int) - p.2:=fun t ht=>by
  unfold ij;dsimp only;split <;> omega
 have w2:ij z (loV z (b i) p.2) (b i,p.2)=(z:Int) - p.2:=by
  unfold ij loV;dsimp only;by_cases c:p.2 < z
  ·rw [if_pos c,Int.emod_sub_emod,show b i + p.2 - b i=p.2 by omega,Int.emod_eq_of_lt (by omega) c,if_neg (by omega)]
  ·have:=Int.emod_lt_of_pos (0 - b i) (show (0:Int) < z by omega);rw [if_neg c,if_pos (by omega)];omega
 have w3:∀ t:Nat,t < z→(t:Int) < loV z (b i) p.2→ij z t (b i,p.2) ≠ (z:Int) - p.2:=fun t ht hlt e=>by
  unfold loV at hlt;by_cases c:p.2 < z
  ·rw [if_pos c] at hlt;unfold ij at e;dsimp only at e;split at e
   ·omega
   ·have e2:((t:Int) - b i) % z=p.2:=by omega
    have:(b i + p.2) % (z:Int)=t:=by
     rw [← e2,Int.add_emod_emod,show b i + ((t:Int) - b i)=t by omega,Int.emod_eq_of_lt (by omega) (by omega)]
    omega
  ·rw [if_neg c] at hlt;omega
 have e0:(Xg z (spW ws b) p.1.name)[(loV z (b i) p.2).toNat]? = some ((z:Int) - p.2):=by
  rw [at_ _ (by omega),Int.toNat_of_nonneg v0.1,w2]
 refine ⟨⟨List.mem_of_getElem? e0,fun k hk=>?_⟩,?_⟩
 ·obtain ⟨t,ht⟩:=List.getElem?_of_mem hk;have hlt:t < z:=by rw [← hl];exact (List.getElem?_eq_some_iff.mp ht).1
  rw [at_ t hlt] at ht;cases ht;exact w1 t hlt
 ·rw [nF e0 fun j hj e=>?_]
  ·omega
  ·rw [at_ j (by omega)] at e;exact w3 j (by omega) (by omega) (Option.some.inj e)
end
end My
namespace My
open PySem L2
theorem Rw (x:Str) {a b:Nat} (hab:a ≤ b) (hb:b ≤ x.cps.toList.length):(Txt.slice x (some (a:Int)) (some (b:Int))).cps.toList=(x.cps.toList.drop a).take (b - a):=by
 have hx:x.length=x.cps.toList.length:=by simp [Str.length]
 have e:=StrLaws.sliceText_nat x hab (by rw [hx];exact hb);rw [show Txt.slice x (some (a:Int)) (some (b:Int))=StrLaws.sliceText x (some (a:Int)) (some (b:Int)) from rfl,e]
theorem RA (x:Str) {b:Nat} (hb:b ≤ x.cps.toList.length):(Txt.slice x none (some (b:Int))).cps.toList=x.cps.toList.take b:=by
 have:Txt.slice x none (some (b:Int))=Txt.slice x (some ((0:Nat):Int)) (some (b:Int)):=by
  show StrLaws.sliceText x none (some (b:Int))=StrLaws.sliceText x (some ((0:Nat):Int)) (some (b:Int));unfold StrLaws.sliceText;rw [StrLaws.sliceIdx_none_lo];rfl
 rw [this,Rw x (Nat.zero_le _) hb,List.drop_zero,Nat.sub_zero]
noncomputable def nmA (l:List Nat) (k:Nat):List Nat:=l.take (k + 1)
noncomputable def nmB (l:List Nat) (at_ size f k:Nat):List Nat:=l.take at_ ++ [97 + (f + 7 * k) % 26] ++ (l.drop (at_ + 1)).take (size - (at_ + 1))
theorem lF {l:List Nat} (hl:l.length=8) (al:∀ c ∈ l,97 ≤ c∧c ≤ 122) {k:Nat} (hk:k < 8):(nmA l k).length=k + 1∧∀ c ∈ nmA l k,97 ≤ c∧c ≤ 122:=by
 unfold nmA;exact ⟨by rw [List.length_take];omega,fun c hc=>al c (List.mem_of_mem_take hc)⟩
theorem qO {l:List Nat} (hl:l.length=8) (al:∀ c ∈ l,97 ≤ c∧c ≤ 122) {a z f k:Nat} (ha:a < z) (hz:z ≤ 8):(nmB l a z f k).length=z∧∀ c ∈ nmB l a z f k,97 ≤ c∧c ≤ 122:=by
 unfold nmB;refine ⟨by rw [List.length_append,List.length_append,List.length_take,List.length_take,List.length_drop,List.length_singleton];omega,fun c hc=>?_⟩;rcases List.mem_append.mp hc with hc | hc
 ·rcases List.mem_append.mp hc with hc | hc
  ·exact al c (List.mem_of_mem_take hc)
  ·rw [List.mem_singleton.mp hc];omega
 ·exact al c (List.mem_of_mem_drop (List.mem_of_mem_take hc))
theorem GN {l:List Nat} (hl:l.length=8) {a z f i j:Nat} (ha:a < z) (hz:z ≤ 8) (hi:i < 8) (hj:j < 8) (e:nmB l a z f i=nmB l a z f j):i=j:=by
 have h1:∀ k,(nmB l a z f k)[a]? = some (97 + (f + 7 * k) % 26):=fun k=>by
  unfold nmB;rw [List.append_assoc,List.getElem?_append_right (by rw [List.length_take];omega),List.length_take,show a - min a l.length=0 by omega];rfl
 have h2:=h1 i;rw [e,h1 j] at h2;have:=Option.some.inj h2;omega
theorem jN {x:Str} {l:List Nat} (e:x.cps.toList=l) (h0:1 ≤ l.length) (h1:l.length ≤ 8) (al:∀ c ∈ l,97 ≤ c∧c ≤ 122):made x Fi 8=true:=by
 have hx:x.length=x.cps.toList.length:=by simp [Str.length]
 exact Cy (by rw [hx,e];exact h0) (by rw [hx,e];exact h1) (by rw [e];exact al)
def Nms (m:Nat) (xs:List Str):Prop:=xs.length=m∧xs.Nodup∧∀ x ∈ xs,made x Fi 8=true
theorem nL {i:Int} (h0:0 ≤ i) (h1:i < 26):∃ c:Nat,atI (Str.ofString "abcdefghijklmnopqrstuvwxyz").cps.toList i=some c∧c=97 + i.toNat:=by
 have:∀ k,k < 26→atI (Str.ofString "abcdefghijklmnopqrstuvwxyz").cps.toList ((k:Nat):Int)=some (97 + k):=by decide +kernel
 refine ⟨97 + i.toNat,?_,rfl⟩;have e:=this i.toNat (by omega);rwa [Int.toNat_of_nonneg h0] at e
theorem rO:∀ ys:List Str,(Str.join ⟨#[]⟩ ys).cps.toList=(ys.map (·.cps.toList)).flatten
 | []=>rfl
 | [a]=>by
  show a.cps.toList=_;simp
 | a :: b :: r=>by
  show (a ++ ⟨#[]⟩ ++ Str.join ⟨#[]⟩ (b :: r)).cps.toList=_;rw [Str.cps_append,Array.toList_append,Str.cps_append,Array.toList_append,rO (b :: r)];simp
theorem Cu (f:Nat→Nat) (n:Nat):(Txt.join (Str.ofString "") ((List.range n).map fun i=>Lw (f i))).cps.toList=(List.range n).map f:=by
 rw [show Txt.join (Str.ofString "") ((List.range n).map fun i=>Lw (f i))=Str.join ⟨#[]⟩ ((List.range n).map fun i=>Lw (f i)) from StrLaws.glued_eq_join _ _,rO,List.map_map];have:((fun x:Str=>x.cps.toList) ∘ fun i=>Lw (f i))=fun i=>[f i]:=rfl
 rw [this]
 induction (List.range n) with
 | nil=>rfl
 | cons a l ih=>rw [List.map_cons,List.flatten_cons,ih];rfl
def ox (K:PySem.W.Frag) (a:Addr) (ns:List Int):Sp:=fun vs H Q _=>∃ m:Nat,vs=[.ref a,.int m]∧Sc K a ns H∧(1 ≤ m∧m ≤ 8)∧∀ p xs H',Ib H H'→Sc K a ns H'→H p=none→H' p=some (.lst (Qb xs))→Nms m xs→Q (.ref p) H'
section
variable {P:Program} {w:World} {K:PySem.W.Frag} {mg:Str→Option Value} {base:Heap} {t:Adr}
theorem vF (T:Txt w K mg t) (a:Addr) (ns:List Int) (h63:ns.length ≤ 63):Gb P w K mg base CX0 2 t.Th t.ei q45 (ox K a ns):=by
 have g0:Gb P w K mg base CX0 1 t.Ef t.Df q15 (Wd K a ns):=Qv T a ns h63;refine T.Hl.ok yc (fun vs H Q E h=>?_) (fun _ _ _ s H vs Q E hr h=>?_)
 ·obtain ⟨m,rfl,_⟩:=h;rfl
 obtain ⟨m,rfl,S,hm,q⟩:=h;have hL:(Str.ofString "abcdefghijklmnopqrstuvwxyz").length=26:=by decide +kernel
 refine ⟨_,(cb (Hr (i:=2) yc.nd rfl (Or.inr rfl) vd)
   (cb (xb (i:=3) yc.nd (Bp PySem.F.plainAttrs_str PySem.F.slot_str_join PySem.F.type_str_join cz vd (ab (Bf rfl (Xc rfl T.me (ab qb gb)) (ic (sc:=jb yk) rfl (by decide +kernel)) (N:=["_law_k","_law_letters","_law_script"]) (sel:=[none,some 2,some 0]) (uc (M:=["_law_script","_law_many","_law_letters","_law_word","_law_size","_law_at","_law_first","_law_some","_law_k","_law_name","_law_sign"]) (by decide +kernel)) (Blk.of (fun _ _ _ _=>(lb (i:=0) (Ue (N:=["_law_k","_law_letters","_law_script"]) (by decide +kernel) rfl))) (fun _ _ _ _=>⟨_,pe,by walk_at "B"⟩) (fun _ _ _ _=>⟨_,(Zb QG (pv 1) (ub g0 hr T.fc T.Rb.kp T.bc (ab (pv 2) (ab (Lb Dc qb (pv 0)) (ab qb gb))))),by walk_at "B"⟩))) gb)))
   (cb (xb (i:=4) yc.nd (Lb Dc qb (ub g0 hr T.fc T.Rb.kp T.bc (ab (pv 0) (ab qb (ab qb gb))))))
   (cb (xb (i:=5) yc.nd (ub g0 hr T.fc T.Rb.kp T.bc (ab (pv 0) (ab qb (ab (pv 4) gb)))))
   (cb (xb (i:=6) yc.nd (ub g0 hr T.fc T.Rb.kp T.bc (ab (pv 0) (ab qb (ab qb gb)))))
   (cb (xb (i:=7) yc.nd (Pi gb))
   (cb (ad PassesOwn.never rfl (Xc rfl T.me (ab (pv 1) gb)) (lb (i:=8) yc.nd) (cb (xb (i:=9) yc.nd (En FI (pv 3) Bw (Go (Lb Dc (pv 8) qb))))
   (cb (Le (Pb fm (ub g0 hr T.fc T.Rb.kp T.bc (ab (pv 0) (ab qb (ab qb gb)))) qb (gc _)) (cb (xb (i:=10) yc.nd (Zb QG (pv 2) (Lb Te (Lb Dc (pv 6) (Lb Ri qb (pv 8))) qb)))
   (ib (xb (i:=9) yc.nd (Lb Xo (Lb Xo (En FI (pv 3) Bw (Go (pv 5))) (pv 10)) (En FI (pv 3) (Go (Lb Dc (pv 5) qb)) (Go (pv 4))))))) qc)
   (ib (gd (Bp PySem.F.plainAttrs_list PySem.F.slot_list_append PySem.F.type_list_append Vk (pv 7) (ab (pv 9) gb)))))))
   (cb (Le (Pb fm (ub g0 hr T.fc T.Rb.kp T.bc (ab (pv 0) (ab qb (ab qb gb)))) qb (gc _)) (ib (gd (yP PySem.F.plainAttrs_list PySem.F.slot_list_reverse PySem.F.type_list_reverse iD (pv 7)))) qc)
   (ib (Cb (pv 7))))))))))),?_⟩
 refine zzS (fun σ' H'=>H'=H∧σ'=[some (.ref a),some (.int m),some (.str (Str.ofString "abcdefghijklmnopqrstuvwxyz")),none,none,none,none,none,none,none,none]) (fun D' hD=>?_) fun zzM zzh=>?_
 ·walk_at "RD";exact hD _ _ ⟨rfl,rfl⟩
 rintro σ1 H1 ⟨rfl,rfl⟩;subst zzh;refine zzS (fun σ' H'=>Ib H1 H'∧Sc K a ns H'∧∃ wd:Str,wd.cps.toList.length=8∧(∀ c ∈ wd.cps.toList,97 ≤ c∧c ≤ 122)∧σ'=[some (.ref a),some (.int m),some (.str (Str.ofString "abcdefghijklmnopqrstuvwxyz")),some (.str wd),none,none,none,none,none,none,none]) (fun D' hD=>?_) fun zzM zzh=>?_
 ·walk_at "RD";refine ⟨by decide,by decide,?_⟩;refine Fc.range_map (n:=8) (fun i=>V.str (Lw (97 + (nj ns (100 + (i:Int)) 26).toNat))) (by decide) (fun i N hi hN=>?_) (fun p hp=>?_)
  ·have d1:=gf ns (100 + (i:Int)) (m:=26) (by decide);have d2:=lf ns (100 + (i:Int)) (m:=26) (by decide);obtain ⟨c,hc,rfl⟩:=nL d1 d2;(walk_at "RD"; repeat (dsimp only [Wd];walk_at "RD"));exact ⟨Sub.name,S,by omega,by omega,by decide,by rw [hL];decide,_,hc,hN⟩
  ·have e:(List.range 8).map (fun i:Nat=>V.str (Lw (97 + (nj ns (100 + (i:Int)) 26).toNat)))=Qb ((List.range 8).map fun i:Nat=>Lw (97 + (nj ns (100 + (i:Int)) 26).toNat)):=by unfold Qb;rw [List.map_map];rfl
   refine ⟨p,rfl,(List.range 8).map fun i:Nat=>Lw (97 + (nj ns (100 + (i:Int)) 26).toNat),by rw [← e];exact SqL.of db,?_,?_⟩
   ·have h1:(List.map (fun x:Str=>x.length) ((List.range 8).map fun i:Nat=>Lw (97 + (nj ns (100 + (i:Int)) 26).toNat))).sum=8:=by
     rw [List.map_map];rfl
    rw [h1,List.length_map,List.length_range];decide +kernel
   ·refine hD _ _ ⟨fb hp,S.new hp,_,?_,fun c hc=>?_,rfl⟩
    ·rw [Cu (fun i:Nat=>97 + (nj ns (100 + (i:Int)) 26).toNat) 8,List.length_map,List.length_range]
    ·rw [Cu (fun i:Nat=>97 + (nj ns (100 + (i:Int)) 26).toNat) 8] at hc;obtain ⟨i,_,rfl⟩:=List.mem_map.mp hc;have d1:=gf ns (100 + (i:Int)) (m:=26) (by decide);have d2:=lf ns (100 + (i:Int)) (m:=26) (by decide);omega
 rintro σ2 H2 ⟨s2,S2,wd,hwl,hwa,rfl⟩;have hwn:wd.length=8:=by
  have:wd.length=wd.cps.toList.length:=by simp [Str.length]
  omega
 obtain ⟨z,hzz,hz1⟩:∃ z:Nat,1 + nj ns 112 8=(z:Nat)∧(1 ≤ z∧z ≤ 8):=by
  have d1:=gf ns 112 (m:=8) (by decide);have d2:=lf ns 112 (m:=8) (by decide);exact ⟨(1 + nj ns 112 8).toNat,by omega,by omega⟩
 subst zzh;refine zzS (fun σ' H'=>H'=H2∧σ'=[some (.ref a),some (.int m),some (.str (Str.ofString "abcdefghijklmnopqrstuvwxyz")),some (.str wd),some (.int (z:Nat)),none,none,none,none,none,none]) (fun D' hD=>?_) fun zzM zzh=>?_
 ·(walk_at "RD"; repeat (dsimp only [Wd];walk_at "RD"));rw [hzz];exact ⟨S2,by omega,by omega,by decide,hD _ _ ⟨rfl,rfl⟩⟩
 rintro σ3 H3 ⟨rfl,rfl⟩;obtain ⟨at_,hat,hat1⟩:∃ at_:Nat,nj ns 113 (z:Int)=(at_:Nat)∧at_ < z:=by
  have d1:=gf ns 113 (m:=(z:Int)) (by omega);have d2:=lf ns 113 (m:=(z:Int)) (by omega);exact ⟨(nj ns 113 (z:Int)).toNat,by omega,by omega⟩
 subst zzh;refine zzS (fun σ' H'=>H'=H3∧σ'=[some (.ref a),some (.int m),some (.str (Str.ofString "abcdefghijklmnopqrstuvwxyz")),some (.str wd),some (.int (z:Nat)),some (.int (at_:Nat)),none,none,none,none,none]) (fun D' hD=>?_) fun zzM zzh=>?_
 ·(walk_at "RD"; repeat (dsimp only [Wd];walk_at "RD"));rw [hat];exact ⟨S2,by omega,by omega,by omega,hD _ _ ⟨rfl,rfl⟩⟩
 rintro σ4 H4 ⟨rfl,rfl⟩;obtain ⟨f,hf,hf1⟩:∃ f:Nat,nj ns 114 26=(f:Nat)∧f < 26:=by
  have d1:=gf ns 114 (m:=26) (by decide);have d2:=lf ns 114 (m:=26) (by decide);exact ⟨(nj ns 114 26).toNat,by omega,by omega⟩
 subst zzh;refine zzS (fun σ' H'=>H'=H4∧σ'=[some (.ref a),some (.int m),some (.str (Str.ofString "abcdefghijklmnopqrstuvwxyz")),some (.str wd),some (.int (z:Nat)),some (.int (at_:Nat)),some (.int (f:Nat)),none,none,none,none]) (fun D' hD=>?_) fun zzM zzh=>?_
 ·(walk_at "RD"; repeat (dsimp only [Wd];walk_at "RD"));rw [hf];exact ⟨S2,by omega,by omega,by decide,hD _ _ ⟨rfl,rfl⟩⟩
 rintro σ5 H5 ⟨rfl,rfl⟩;subst zzh;refine zzS (fun σ' H'=>Sc K a ns H'∧Ib H5 H'∧∃ rl,H5 rl=none∧H' rl=some (.lst [])∧σ'=[some (.ref a),some (.int m),some (.str (Str.ofString "abcdefghijklmnopqrstuvwxyz")),some (.str wd),some (.int (z:Nat)),some (.int (at_:Nat)),some (.int (f:Nat)),some (.ref rl),none,none,none]) (fun D' hD=>?_) fun zzM zzh=>?_
 ·walk_at "RD";exact ⟨Nat.zero_le _,fun rl hrl=>hD _ _ ⟨S2.new hrl,fb hrl,rl,hrl,db,rfl⟩⟩
 rintro σ6 H6 ⟨S6,s6,rl,hrl,w6,rfl⟩;obtain ⟨b,hb⟩:∃ b:Bool,decide (nj ns 110 2=1)=b:=⟨_,rfl⟩;subst zzh;obtain ⟨g,hg⟩:∃ g:Nat→List Nat,g=fun k=>if b=true then nmB wd.cps.toList at_ z f k else nmA wd.cps.toList k:=⟨_,rfl⟩
 refine zzS (fun σ' H'=>Sc K a ns H'∧Ib H5 H'∧(∃ xs:List Str,H' rl=some (.lst (Qb xs))∧xs.map (·.cps.toList)=(List.range m).map g)∧∃ x8 x9 x10,σ'=[some (.ref a),some (.int m),some (.str (Str.ofString "abcdefghijklmnopqrstuvwxyz")),some (.str wd),some (.int (z:Nat)),some (.int (at_:Nat)),some (.int (f:Nat)),some (.ref rl),x8,x9,x10]) (fun D' hD=>?_) fun zzM zzh=>?_
 ·walk_at "RD";refine ⟨by omega,by omega,?_⟩;refine rh.range (fun i σ H'=>Sc K a ns H'∧Ib H5 H'∧(∃ xs:List Str,H' rl=some (.lst (Qb xs))∧xs.map (·.cps.toList)=(List.range i).map g)∧∃ x8 x9 x10,σ=[some (.ref a),some (.int m),some (.str (Str.ofString "abcdefghijklmnopqrstuvwxyz")),some (.str wd),some (.int (z:Nat)),some (.int (at_:Nat)),some (.int (f:Nat)),some (.ref rl),x8,x9,x10]) ⟨S6,s6,⟨[],w6,rfl⟩,_,_,_,rfl⟩ ?_ ?_
  ·rintro i σ H' hi zzq;refine zzP fun zzM zzh=>?_
   obtain ⟨S7,s7,⟨xs,w7,hxs⟩,x8,x9,x10,rfl⟩:=zzq;have hi8:i < 8:=by have:i < (m:Int).toNat:=hi;omega
   have hxl:xs.length=i:=by have:=congrArg List.length hxs;rwa [List.length_map,List.length_map,List.length_range] at this
   subst zzh;simp only [oh,Db,List.set_cons_succ,List.set_cons_zero,Int.zero_add];refine zzC (fun σ' H''=>H''=H'∧σ'=[some (.ref a),some (.int m),some (.str (Str.ofString "abcdefghijklmnopqrstuvwxyz")),some (.str wd),some (.int (z:Nat)),some (.int (at_:Nat)),some (.int (f:Nat)),some (.ref rl),some (.int (i:Nat)),some (.str (Txt.slice wd none (some ((i + 1:Nat):Int)))),x10]) (fun D' hD=>?_) fun zzM zzh=>?_
   ·walk_at "RD";exact ⟨by rw [hwn];decide,hD _ _ ⟨rfl,by rw [Int.natCast_add];rfl⟩⟩
   rintro σA HA ⟨rfl,rfl⟩;subst zzh;simp only [Db];refine zzC (fun σ' H''=>H''=HA∧∃ nm:Str,nm.cps.toList=g i∧∃ x10,σ'=[some (.ref a),some (.int m),some (.str (Str.ofString "abcdefghijklmnopqrstuvwxyz")),some (.str wd),some (.int (z:Nat)),some (.int (at_:Nat)),some (.int (f:Nat)),some (.ref rl),some (.int (i:Nat)),some (.str nm),x10]) (fun D' hD=>?_) fun zzM zzh=>?_
   ·refine ac b (fun Q hQ=>?_) (fun hbt=>?_) (fun hbf=>?_)
    ·(walk_at "RD"; repeat (dsimp only [Wd];walk_at "RD"));rw [hb];exact ⟨S7,by omega,by omega,by decide,hQ⟩
    ·have hgi:g i=nmB wd.cps.toList at_ z f i:=by rw [hg];exact if_pos hbt
     obtain ⟨c,hc,rfl⟩:=nL (i:=((f:Int) + 7 * (i:Int)) % 26) (Int.emod_nonneg _ (by decide)) (Int.emod_lt_of_pos _ (by decide));have hbig:∀ k:Nat,k ≤ 1000→k ≤ sizeLine:=fun k h=>Nat.le_trans h (by decide)
     have l1:=Txt.slice_le wd none (some (at_:Int));have l2:=Txt.slice_le wd (some ((at_:Int) + 1)) (some (z:Int));have l3:(Lw (97 + (((f:Int) + 7 * (i:Int)) % 26).toNat)).length=1:=rfl;walk_at "RD";refine ⟨.inl ⟨by decide,by decide⟩,by decide,by rw [hL];decide,_,hc,by rw [hwn];decide,hbig _ (by show _ + (Lw (97 + (((f:Int) + 7 * (i:Int)) % 26).toNat)).length ≤ 1000;omega),by rw [hwn];decide,hbig _ (by show (_ ++ Lw (97 + (((f:Int) + 7 * (i:Int)) % 26).toNat)).length + _ ≤ 1000;rw [wz];omega),?_⟩;refine hD _ _ ⟨rfl,_,?_,_,rfl⟩;rw [hgi];unfold nmB;rw [Str.cps_append,Array.toList_append,Str.cps_append,Array.toList_append,RA wd (by omega),show ((at_:Int) + 1)=((at_ + 1:Nat):Int) by omega,Rw wd (by omega) (by omega),show (((f:Int) + 7 * (i:Int)) % 26).toNat=(f + 7 * i) % 26 by omega]
    ·have hgi:g i=nmA wd.cps.toList i:=by rw [hg];exact if_neg (by rw [hbf];decide)
     walk_at "RD";exact hD _ _ ⟨rfl,_,by rw [hgi,RA wd (by omega)];rfl,_,rfl⟩
   rintro σB HB ⟨rfl,nm,hnm,x10,rfl⟩;subst zzh;walk_at "RD";refine ⟨.inl ⟨_,SqL.of w7⟩,_,w7,Nat.lt_of_le_of_lt (show (Qb xs).length ≤ 8 by unfold Qb;rw [List.length_map];omega) (by decide),S7.set w7 (fun _ _ z=>by cases z),s7.updN hrl,⟨xs ++ [nm],?_,?_⟩,?_⟩
   ·rw [db];unfold Qb;rw [List.map_append];rfl
   ·rw [List.map_append,hxs,List.range_succ,List.map_append,List.map_cons,List.map_nil,hnm];rfl
   ·repeat (first | exact ⟨_,rfl⟩ | refine ⟨⟨_,rfl⟩,?_⟩)
  ·rintro σ H' zzq;refine zzP fun zzM zzh=>?_
   obtain ⟨S7,s7,⟨xs,w7,hxs⟩,x8,x9,x10,rfl⟩:=zzq;subst zzh;exact hD _ _ ⟨S7,s7,⟨xs,w7,by rw [hxs,show (m:Int).toNat=m by omega]⟩,x8,x9,x10,rfl⟩
 rintro σ7 H7 ⟨S7,s7,⟨xs,w7,hxs⟩,x8,x9,x10,rfl⟩;have hxl:xs.length=m:=by have:=congrArg List.length hxs;rwa [List.length_map,List.length_map,List.length_range] at this
 have gok:∀ k,k < m→(1 ≤ (g k).length∧(g k).length ≤ 8)∧∀ c ∈ g k,97 ≤ c∧c ≤ 122:=fun k hk=>by
  rw [hg];dsimp only;split
  ·have:=qO hwl hwa (f:=f) (k:=k) hat1 hz1.2;exact ⟨by omega,this.2⟩
  ·have:=lF hwl hwa (k:=k) (by omega);exact ⟨by omega,this.2⟩
 have ginj:∀ i j,i < m→j < m→g i=g j→i=j:=fun i j hi hj e=>by
  rw [hg] at e
  try dsimp only at e
  split at e
  ·exact GN hwl hat1 hz1.2 (by omega) (by omega) e
  ·have h1:=lF hwl hwa (k:=i) (by omega);have h2:=lF hwl hwa (k:=j) (by omega);rw [e] at h1;omega
 have hat':∀ (i:Nat) (x:Str),xs[i]? = some x→i < m∧x.cps.toList=g i:=fun i x hx=>by
  have hi:i < m:=by rw [← hxl];exact (List.getElem?_eq_some_iff.mp hx).1
  have e:=congrArg (fun l=>l[i]?) hxs
  try dsimp only at e
  rw [List.getElem?_map,hx,List.getElem?_map,List.getElem?_range hi] at e;exact ⟨hi,Option.some.inj e⟩
 have N:Nms m xs:=by
  refine ⟨hxl,List.pairwise_iff_getElem.mpr fun i j hi hj hij e=>?_,fun x hx=>?_⟩
  ·obtain ⟨a1,a2⟩:=hat' i _ (List.getElem?_eq_getElem hi);obtain ⟨b1,b2⟩:=hat' j _ (List.getElem?_eq_getElem hj);rw [e,b2] at a2;have:=ginj i j a1 b1 a2.symm;omega
  ·obtain ⟨i,hi⟩:=List.getElem?_of_mem hx;obtain ⟨a1,a2⟩:=hat' i _ hi;have:=gok i a1;exact jN a2 this.1.1 this.1.2 this.2
 subst zzh;refine zzS (fun σ' H'=>Sc K a ns H'∧Ib H5 H'∧(∃ xs:List Str,H' rl=some (.lst (Qb xs))∧Nms m xs)∧∃ x8 x9 x10,σ'=[some (.ref a),some (.int m),some (.str (Str.ofString "abcdefghijklmnopqrstuvwxyz")),some (.str wd),some (.int (z:Nat)),some (.int (at_:Nat)),some (.int (f:Nat)),some (.ref rl),x8,x9,x10]) (fun D' hD=>?_) fun zzM zzh=>?_
 ·refine ac (decide (nj ns 111 2=1)) (fun Q hQ=>?_) (fun _=>?_) (fun _=>?_)
  ·(walk_at "RD"; repeat (dsimp only [Wd];walk_at "RD"));exact ⟨S7,by omega,by omega,by decide,hQ⟩
  ·walk_at "RD";refine ⟨.inl ⟨_,SqL.of w7⟩,_,w7,hD _ _ ⟨S7.set w7 (fun _ _ z=>by cases z),s7.updN hrl,⟨xs.reverse,by rw [db];unfold Qb;rw [List.map_reverse],by rw [List.length_reverse];exact N.1,List.pairwise_reverse.mpr (N.2.1.imp fun h=>Ne.symm h),fun x hx=>N.2.2 x (List.mem_reverse.mp hx)⟩,_,_,_,rfl⟩⟩
  ·walk_at "RD";exact hD _ _ ⟨S7,s7,⟨xs,w7,N⟩,_,_,_,rfl⟩
 rintro σ8 H8 ⟨S8,s8,⟨ys,w8,N8⟩,y8,y9,y10,rfl⟩;subst zzh;walk_at "RD";exact q rl ys H8 (s2.trans s8) S8 (s2.free hrl) w8 N8
end
end My
namespace My
open PySem L2
noncomputable abbrev EL (d:WD):List V:=[.str (fe d.k),.str d.name,.int d.start,.int d.fin,.int d.off,.int d.near,.int d.least]
def LW (H:Hp) (wl:Addr) (ds:List WD):Prop:=∃ qs:List Addr,H wl=some (.lst (qs.map V.ref))∧qs.length=ds.length∧∀ (i:Nat) (q:Addr) (d:WD),qs[i]? = some q→ds[i]? = some d→H q=some (.tup (EL d))
theorem LW.same {H H':Hp} {wl:Addr} {ds:List WD} (h:LW H wl ds) (s:Ib H H'):LW H' wl ds:=by
 obtain ⟨qs,e1,e2,al⟩:=h;exact ⟨qs,s _ _ e1,e2,fun i q d h1 h2=>s _ _ (al i q d h1 h2)⟩
theorem LW.snoc {H:Hp} {wl p:Addr} {ds:List WD} {d:WD} {qs:List Addr} (l1:H wl=some (.lst (qs.map V.ref))) (l2:qs.length=ds.length)
  (al:∀ (i:Nat) (q:Addr) (d:WD),qs[i]? = some q→ds[i]? = some d→H q=some (.tup (EL d))) (hp:H p=none) :
  LW (upd (upd H p (.tup (EL d))) wl (.lst (qs.map V.ref ++ [.ref p]))) wl (ds ++ [d]):=by
 have hpw:p ≠ wl:=(Ab l1 hp).symm;refine ⟨qs ++ [p],by rw [db,List.map_append];rfl,by rw [List.length_append,List.length_append,l2];rfl,fun i q e h1 h2=>?_⟩;rcases ig h1 with ⟨z1,z2⟩ | ⟨z1,rfl⟩
 ·rcases ig h2 with ⟨y1,y2⟩ | ⟨y1,_⟩
  ·have:=al i q e z2 y2;rw [wb (Hf this l1 (by intro z;cases z)),wb (Ab this hp)];exact this
  ·omega
 ·rcases ig h2 with ⟨y1,y2⟩ | ⟨y1,rfl⟩
  ·omega
  ·rw [wb hpw,db]
theorem VP {n s j:Int} (h0:0 ≤ s) (h1:s < n) (h2:0 ≤ j) (h3:j < n - 1):s ≠ (s + 1 + j) % n:=by
 by_cases c:s + 1 + j < n
 ·rw [Int.emod_eq_of_lt (by omega) c];omega
 ·rw [show s + 1 + j=(s + 1 + j - n) + n * 1 by omega,Int.add_mul_emod_self_left,Int.emod_eq_of_lt (by omega) (by omega)];omega
theorem IN {i:Int} (h0:0 ≤ i) (h1:i < 3):atI [V.str (Str.ofString "car"),V.str (Str.ofString "foot"),V.str (Str.ofString "tram")] i=some (.str (fe i.toNat)):=by
 have:i=0∨i=1∨i=2:=by omega
 rcases this with rfl | rfl | rfl
 ·exact Jb (j:=0) rfl
 ·exact Jb (j:=1) rfl
 ·exact Jb (j:=2) rfl
structure xM (n:Int) (ds:List WD):Prop where
 al:∀ d ∈ ds,WOk n d∧True
 nd:(ds.map (·.name)).Nodup
theorem xM.cok {n:Int} {ds:List WD} (h:xM n ds) (hn:2 ≤ n∧n ≤ 99) (hl:1 ≤ ds.length∧ds.length ≤ 12):COk n ds:=⟨hn,hl,fun d hd=>(h.al d hd).1,h.nd⟩
def dB (K:PySem.W.Frag) (a:Addr) (ns:List Int):Sp:=fun vs H Q _=>∃ (m:Nat) (n:Int),vs=[.ref a,.int m,.int n]∧Sc K a ns H∧(1 ≤ m∧m ≤ 8)∧(4 ≤ n∧n ≤ 99)∧∀ p ds H',Ib H H'→Sc K a ns H'→H p=none→LW H' p ds→ds.length=m→xM n ds→Q (.ref p) H'
section
variable {P:Program} {w:World} {K:PySem.W.Frag} {mg:Str→Option Value} {base:Heap} {t:Adr}
theorem zJ (T:Txt w K mg t) (a:Addr) (ns:List Int) (h63:ns.length ≤ 63):Gb P w K mg base CX0 3 t.Mj t.Dj q46 (dB K a ns):=by
 have g0:Gb P w K mg base CX0 2 t.Ef t.Df q15 (Wd K a ns):=(Qv T a ns h63).mono (by decide);have g64:Gb P w K mg base CX0 2 t.Th t.ei q45 (ox K a ns):=vF T a ns h63;refine T.Rm.ok ud (fun vs H Q E h=>?_) (fun _ _ _ s H vs Q E hr h=>?_)
 ·obtain ⟨m,n,rfl,_⟩:=h;rfl
 obtain ⟨m,n,rfl,S,hm,hn,q⟩:=h;refine ⟨_,(cb (xb (i:=3) ud.nd (ub g64 hr T.Gy T.Hl.kp T.Rx (ab (pv 0) (ab (pv 1) gb))))
   (cb (xb (i:=4) ud.nd (ub g0 hr T.fc T.Rb.kp T.bc (ab (pv 0) (ab qb (ab (pv 2) gb)))))
   (cb (xb (i:=5) ud.nd (Pi gb))
   (cb (ad PassesOwn.never rfl (Xc rfl T.me (ab (pv 1) gb)) (lb (i:=6) ud.nd) (cb (xb (i:=7) ud.nd (ub g0 hr T.fc T.Rb.kp T.bc (ab (pv 0) (ab (Lb Dc qb (Lb Ri qb (pv 6))) (ab (pv 2) gb)))))
   (cb (xb (i:=8) ud.nd (Lb Te (Lb Dc (Lb Dc (pv 7) qb) (ub g0 hr T.fc T.Rb.kp T.bc (ab (pv 0) (ab (Lb Dc qb (Lb Ri qb (pv 6))) (ab (Lb ci (pv 2) qb) gb))))) (pv 2)))
   (cb (Le (PW.pt (lC (Pb fm (ub g0 hr T.fc T.Rb.kp T.bc (ab (pv 0) (ab qb (ab qb gb)))) qb (gc _)) (Iw (Pb Os (pv 7) (pv 4) (gc _))))) (ib (xb (i:=8) ud.nd (pv 4))) qc)
   (cb (xb (i:=9) ud.nd (Ad (ab (pv 7) (ab (pv 8) (ab (ub g0 hr T.fc T.Rb.kp T.bc (ab (pv 0) (ab (Lb Dc qb (Lb Ri qb (pv 6))) (ab qb gb)))) (ab (ub g0 hr T.fc T.Rb.kp T.bc (ab (pv 0) (ab (Lb Dc qb (Lb Ri qb (pv 6))) (ab qb gb)))) gb))))))
   (cb (xb (i:=10) ud.nd (Zb He (Pi (ab vd (ab vd (ab vd gb)))) (ub g0 hr T.fc T.Rb.kp T.bc (ab (pv 0) (ab (Lb Dc qb (Lb Ri qb (pv 6))) (ab qb gb))))))
   (ib (gd (Bp PySem.F.plainAttrs_list PySem.F.slot_list_append PySem.F.type_list_append Vk (pv 5) (ab (Lb Zy (Lb Zy (Ad (ab (pv 10) (ab (Zb He (pv 3) (pv 6)) gb))) (pv 9)) (Ad (ab (Lb Dc qb (ub g0 hr T.fc T.Rb.kp T.bc (ab (pv 0) (ab (Lb Dc qb (Lb Ri qb (pv 6))) (ab qb gb))))) gb))) gb))))))))))
   (ib (Cb (pv 5))))))),?_⟩
 refine zzS (fun σ' H'=>Ib H H'∧Sc K a ns H'∧∃ nl xs,H' nl=some (.lst (Qb xs))∧Nms m xs∧σ'=[some (.ref a),some (.int m),some (.int n),some (.ref nl),none,none,none,none,none,none,none]) (fun D' hD=>?_) fun zzM zzh=>?_
 ·walk_at "RD";exact ⟨m,rfl,S,hm,fun p xs H' s1 S1 _ e N=>hD _ _ ⟨s1,S1,p,xs,e,N,rfl⟩⟩
 rintro σ1 H1 ⟨s1,S1,nl,xs,en,N,rfl⟩;subst zzh;refine zzS (fun σ' H'=>H'=H1∧∃ oe:Int,(0 ≤ oe∧oe < n)∧σ'=[some (.ref a),some (.int m),some (.int n),some (.ref nl),some (.int oe),none,none,none,none,none,none]) (fun D' hD=>?_) fun zzM zzh=>?_
 ·have d1:=gf ns 115 (m:=n) (by omega);have d2:=lf ns 115 (m:=n) (by omega);(walk_at "RD"; repeat (dsimp only [Wd];walk_at "RD"));exact ⟨S1,by omega,by omega,by omega,hD _ _ ⟨rfl,_,⟨d1,d2⟩,rfl⟩⟩
 rintro σ2 H2 ⟨rfl,oe,hoe,rfl⟩;subst zzh;refine zzS (fun σ' H'=>Sc K a ns H'∧Ib H2 H'∧∃ wl,H2 wl=none∧H' wl=some (.lst [])∧σ'=[some (.ref a),some (.int m),some (.int n),some (.ref nl),some (.int oe),some (.ref wl),none,none,none,none,none]) (fun D' hD=>?_) fun zzM zzh=>?_
 ·walk_at "RD";exact ⟨Nat.zero_le _,fun wl hwl=>hD _ _ ⟨S1.new hwl,fb hwl,wl,hwl,db,rfl⟩⟩
 rintro σ3 H3 ⟨S3,s3,wl,hwl,w3,rfl⟩;subst zzh;walk_at "RD";refine ⟨by omega,by omega,?_⟩;refine rh.range (fun i σ H'=>Sc K a ns H'∧Ib H2 H'∧(∃ ds,LW H' wl ds∧ds.length=i∧(∀ d ∈ ds,WOk n d)∧∀ (j:Nat) (d:WD),ds[j]? = some d→xs[j]? = some d.name)∧∃ x6 x7 x8 x9 x10,σ=[some (.ref a),some (.int m),some (.int n),some (.ref nl),some (.int oe),some (.ref wl),x6,x7,x8,x9,x10]) ⟨S3,s3,⟨[],⟨[],w3,rfl,fun i q d h=>by simp at h⟩,rfl,fun d h=>by simp at h,fun j d h=>by simp at h⟩,_,_,_,_,_,rfl⟩ ?_ ?_
 ·rintro i σ H' hi zzq;refine zzP fun zzM zzh=>?_
  obtain ⟨S4,s4,⟨ds,L4,hdl,hok,hnm⟩,x6,x7,x8,x9,x10,rfl⟩:=zzq;have him:i < m:=by have:i < (m:Int).toNat:=hi;omega
  have hxi:xs[i]? = some (xs[i]'(by rw [N.1];exact him)):=List.getElem?_eq_getElem _;subst zzh;generalize xs[i]'(by rw [N.1];exact him)=nm at hxi;have en4:=s4 _ _ en;have hnat:atI (Qb xs) ((i:Nat):Int)=some (.str nm):=Jb (by unfold Qb;rw [List.getElem?_map,hxi];rfl);simp only [oh,Db,List.set_cons_succ,List.set_cons_zero,Int.zero_add];refine zzC (fun σ' H''=>H''=H'∧∃ st:Int,(0 ≤ st∧st < n)∧σ'=[some (.ref a),some (.int m),some (.int n),some (.ref nl),some (.int oe),some (.ref wl),some (.int (i:Nat)),some (.int st),x8,x9,x10]) (fun D' hD=>?_) fun zzM zzh=>?_
  ·have d1:=gf ns (120 + 7 * (i:Int)) (m:=n) (by omega);have d2:=lf ns (120 + 7 * (i:Int)) (m:=n) (by omega);(walk_at "RD"; repeat (dsimp only [Wd];walk_at "RD"));exact ⟨.inl ⟨by decide,by decide⟩,S4,by omega,by omega,by omega,hD _ _ ⟨rfl,_,⟨d1,d2⟩,rfl⟩⟩
  rintro σA HA ⟨rfl,st,hst,rfl⟩;subst zzh;simp only [Db];refine zzC (fun σ' H''=>H''=HA∧∃ fi:Int,(0 ≤ fi∧fi < n)∧st ≠ fi∧σ'=[some (.ref a),some (.int m),some (.int n),some (.ref nl),some (.int oe),some (.ref wl),some (.int (i:Nat)),some (.int st),some (.int fi),x9,x10]) (fun D' hD=>?_) fun zzM zzh=>?_
  ·have d1:=gf ns (121 + 7 * (i:Int)) (m:=n - 1) (by omega);have d2:=lf ns (121 + 7 * (i:Int)) (m:=n - 1) (by omega);have m0:=Int.emod_nonneg (st + 1 + nj ns (121 + 7 * (i:Int)) (n - 1)) (show n ≠ 0 by omega);have m1:=Int.emod_lt_of_pos (st + 1 + nj ns (121 + 7 * (i:Int)) (n - 1)) (show 0 < n by omega);(walk_at "RD"; repeat (dsimp only [Wd];walk_at "RD"));exact ⟨.inl ⟨by decide,by decide⟩,S4,by omega,by omega,by omega,by omega,hD _ _ ⟨rfl,_,⟨m0,m1⟩,VP hst.1 hst.2 d1 (by omega),rfl⟩⟩
  rintro σB HB ⟨rfl,fi,hfi,hne,rfl⟩;subst zzh;simp only [Db];refine zzC (fun σ' H''=>H''=HB∧∃ fi:Int,(0 ≤ fi∧fi < n)∧st ≠ fi∧σ'=[some (.ref a),some (.int m),some (.int n),some (.ref nl),some (.int oe),some (.ref wl),some (.int (i:Nat)),some (.int st),some (.int fi),x9,x10]) (fun D' hD=>?_) fun zzM zzh=>?_
  ·refine ac (decide (nj ns 116 3=0) && decide (st ≠ oe)) (fun Q hQ=>?_) (fun hb=>?_) (fun hb=>?_)
   ·(walk_at "RD"; repeat (dsimp only [Wd];walk_at "RD"));refine ⟨S4,by omega,by omega,by decide,?_⟩;by_cases c0:nj ns 116 3=0
    ·rw [if_pos (decide_eq_true c0)];rw [decide_eq_true c0,Bool.true_and,show decide (st ≠ oe) = !decide (st=oe) from decide_not] at hQ;exact hQ
    ·rw [if_neg (by simpa using c0)];rw [decide_eq_false c0,Bool.false_and] at hQ;exact hQ
   ·rw [Bool.and_eq_true] at hb;walk_at "RD";exact hD _ _ ⟨rfl,oe,hoe,of_decide_eq_true hb.2,rfl⟩
   ·walk_at "RD";exact hD _ _ ⟨rfl,fi,hfi,hne,rfl⟩
  rintro σC HC ⟨rfl,fi2,hfi2,hne2,rfl⟩;subst zzh;simp only [Db];refine zzC (fun σ' H''=>Ib HC H''∧Sc K a ns H''∧∃ nu,∃ of2 ne2:Int,(0 ≤ of2∧of2 ≤ 30)∧(0 ≤ ne2∧ne2 ≤ 30)∧H'' nu=some (.tup [.int st,.int fi2,.int of2,.int ne2])∧σ'=[some (.ref a),some (.int m),some (.int n),some (.ref nl),some (.int oe),some (.ref wl),some (.int (i:Nat)),some (.int st),some (.int fi2),some (.ref nu),x10]) (fun D' hD=>?_) fun zzM zzh=>?_
  ·have d1:=gf ns (123 + 7 * (i:Int)) (m:=9) (by decide);have d2:=lf ns (123 + 7 * (i:Int)) (m:=9) (by decide);have d3:=gf ns (125 + 7 * (i:Int)) (m:=6) (by decide);have d4:=lf ns (125 + 7 * (i:Int)) (m:=6) (by decide);(walk_at "RD"; repeat (dsimp only [Wd];walk_at "RD"));exact ⟨.inl ⟨by decide,by decide⟩,S4,by omega,by omega,by decide,.inl ⟨by decide,by decide⟩,S4,by omega,by omega,by decide,by decide,fun p hp=>hD _ _ ⟨fb hp,S4.new hp,p,_,_,by omega,by omega,db,rfl⟩⟩
  rintro σD HD ⟨sD,SD,nu,of2,ne2,hof2,hne2',eD,rfl⟩;subst zzh;simp only [Db];refine zzC (fun σ' H''=>Ib HD H''∧Sc K a ns H''∧∃ k:Nat,k < 3∧σ'=[some (.ref a),some (.int m),some (.int n),some (.ref nl),some (.int oe),some (.ref wl),some (.int (i:Nat)),some (.int st),some (.int fi2),some (.ref nu),some (.str (fe k))]) (fun D' hD=>?_) fun zzM zzh=>?_
  ·have d1:=gf ns (122 + 7 * (i:Int)) (m:=3) (by decide);have d2:=lf ns (122 + 7 * (i:Int)) (m:=3) (by decide);(walk_at "RD"; repeat (dsimp only [Wd];walk_at "RD"));exact ⟨by decide,fun p hp=>⟨.inl ⟨by decide,by decide⟩,SD.new hp,by omega,by omega,by decide,_,SqL.of db,_,IN d1 d2,hD _ _ ⟨fb hp,SD.new hp,_,by omega,rfl⟩⟩⟩
  rintro σH HH ⟨sH0,SH,k,hk,rfl⟩;have sH:=sD.trans sH0;have enH:=sH _ _ en4;have eH:=sH0 _ _ eD;have LH:=L4.same sH;have d1:=gf ns (126 + 7 * (i:Int)) (m:=4) (by decide);have d2:=lf ns (126 + 7 * (i:Int)) (m:=4) (by decide);have hle:1 ≤ 1 + nj ns (126 + 7 * (i:Int)) 4∧1 + nj ns (126 + 7 * (i:Int)) 4 ≤ 4:=by omega
  obtain ⟨qs,l1,l2,al⟩:=LH;subst zzh;(walk_at "RD"; repeat (dsimp only [Wd];walk_at "RD"));refine ⟨.inl ⟨_,SqL.of l1⟩,_,SqL.of enH,_,hnat,by decide,fun p hp=>?_⟩;refine ⟨_,SqT.of db,_,SqT.of ((fb hp) _ _ eH),by simp,show (6:Nat) ≤ sizeLine by decide,⟨fun z=>absurd z (by simp),fun _ p2 hp2=>⟨.inl ⟨by decide,by decide⟩,(SH.new hp).new hp2,by omega,by omega,by decide,by decide,fun p3 hp3=>?_⟩⟩⟩;refine ⟨_,SqT.of ((fb hp3) _ _ db),_,SqT.of db,by simp,show (7:Nat) ≤ sizeLine by decide,⟨fun z=>absurd z (by simp),fun _ p4 hp4=>?_⟩⟩;have s3':=((fb (o:=.tup [.str (fe k),.str nm]) hp).trans (fb (o:=.tup ([.str (fe k),.str nm] ++ [.int st,.int fi2,.int of2,.int ne2])) hp2)).trans (fb (o:=.tup [.int (1 + nj ns (126 + 7 * (i:Int)) 4)]) hp3);have S3':=((SH.new (o:=.tup [.str (fe k),.str nm]) hp).new (o:=.tup ([.str (fe k),.str nm] ++ [.int st,.int fi2,.int of2,.int ne2])) hp2).new (o:=.tup [.int (1 + nj ns (126 + 7 * (i:Int)) 4)]) hp3;generalize upd (upd (upd HH p _) p2 _) p3 _=HJ at s3' S3' hp4 ⊢;rw [show ([V.str (fe k),V.str nm] ++ [V.int st,V.int fi2,V.int of2,V.int ne2] ++ [V.int (1 + nj ns (126 + 7 * (i:Int)) 4)])=EL ⟨k,nm,st,fi2,of2,ne2,1 + nj ns (126 + 7 * (i:Int)) 4⟩ from rfl];have l1':=s3' _ _ l1;have hwp:wl ≠ p4:=Ab l1' hp4;have L':=LW.snoc (d:=⟨k,nm,st,fi2,of2,ne2,1 + nj ns (126 + 7 * (i:Int)) 4⟩) l1' l2 (fun j q d h1 h2=>s3' _ _ (al j q d h1 h2)) hp4;refine ⟨_,by rw [wb hwp];exact l1',Nat.lt_of_le_of_lt (show (qs.map V.ref).length ≤ 8 by rw [List.length_map];omega) (by decide),(S3'.new hp4).set (by rw [wb hwp];exact l1') (fun _ _ z=>by cases z),(((s4.trans sH).trans s3').trans (fb hp4)).updN hwl,⟨ds ++ [⟨k,nm,st,fi2,of2,ne2,1 + nj ns (126 + 7 * (i:Int)) 4⟩],L',by rw [List.length_append,hdl];rfl,fun d hd=>?_,fun j d hd=>?_⟩,?_⟩
  ·rcases List.mem_append.mp hd with hd | hd
   ·exact hok d hd
   ·rw [List.mem_singleton.mp hd];exact ⟨hk,N.2.2 nm (List.mem_of_getElem? hxi),⟨hst.1,hst.2⟩,⟨hfi2.1,hfi2.2⟩,hne2,hof2,hne2',⟨hle.1,by dsimp only;omega⟩⟩
  ·rcases ig hd with ⟨_,z⟩ | ⟨z,rfl⟩
   ·exact hnm j d z
   ·rw [z,hdl];exact hxi
  ·repeat (first | exact ⟨_,rfl⟩ | refine ⟨⟨_,rfl⟩,?_⟩)
 ·rintro σ H' zzq;refine zzP fun zzM zzh=>?_
  obtain ⟨S4,s4,⟨ds,L4,hdl,hok,hnm⟩,x6,x7,x8,x9,x10,rfl⟩:=zzq;subst zzh;rw [show (m:Int).toNat=m by omega] at hdl;walk_at "RD";refine q wl ds H' (s1.trans s4) S4 (s1.free hwl) L4 hdl ⟨fun d hd=>⟨hok d hd,trivial⟩,?_⟩;have e:ds.map (·.name)=xs:=by
   refine List.ext_getElem? fun j=>?_
   rw [List.getElem?_map];cases h:ds[j]? with
   | some d=>exact (hnm j d h).symm
   | none=>
    have:ds.length ≤ j:=List.getElem?_eq_none_iff.mp h;exact (List.getElem?_eq_none_iff.mpr (by rw [N.1];omega)).symm
  rw [e];exact N.2.1
end
end My
namespace My
open PySem L2
theorem kM {X:Cx} {body:List Stmt} {h0:ExceptHandler} {hs:List ExceptHandler} {tb:TS} {pos:Pos} (hx:X.xe=fun _ _=>False) (hb:PSs X body tb):PS X (.Try body (h0 :: hs) [] [] pos) tb:=by
 intro pins s σ H D I h;refine wpAny_Try_except (wpAny_mono (hb pins s σ H D I h) (fun f s1 q=>?_) fun e s1 q=>?_)
 ·cases f with
  | next=>exact wpAny_execs_nil q
  | brk=>exact q
  | cont=>exact q
  | ret u=>exact q
 ·rw [hx] at q;exact q.elim
end My
namespace My
open PySem L2
def qu (K:PySem.W.Frag) (a:Addr) (ns:List Int):Sp:=fun vs H Q _=>vs=[.ref a]∧Sc K a ns H∧∀ n:Int,(4 ≤ n∧n ≤ 99)→Q (.int n) H
section
variable {P:Program} {w:World} {K:PySem.W.Frag} {mg:Str→Option Value} {base:Heap} {t:Adr}
theorem cE (T:Txt w K mg t) (a:Addr) (ns:List Int) (h63:ns.length ≤ 63):Gb P w K mg base CX0 2 t.kh t.ph q16 (qu K a ns):=by
 have g0:Gb P w K mg base CX0 1 t.Ef t.Df q15 (Wd K a ns):=Qv T a ns h63;refine T.oj.ok Kt (fun vs H Q E h=>?_) (fun _ _ _ s H vs Q E hr h=>?_)
 ·obtain ⟨rfl,_⟩:=h;rfl
 obtain ⟨rfl,S,q⟩:=h;have d1:=gf ns 0 (m:=13) (by decide);have d2:=lf ns 0 (m:=13) (by decide);refine ⟨_,(ib (Cb (Sl (Pb fm (ub g0 hr T.fc T.Rb.kp T.bc (ab (pv 0) (ab qb (ab qb gb)))) qb (gc _)) qb (Lb Dc qb (ub g0 hr T.fc T.Rb.kp T.bc (ab (pv 0) (ab qb (ab qb gb)))))))),?_⟩;walk_at "RD";refine ⟨_,_,rfl,S,by decide,by decide,?_⟩;refine ⟨rfl,?_⟩;by_cases z:nj ns 1 6=0
 ·rw [if_pos (by rw [z];rfl)];exact q 99 (by decide)
 ·rw [if_neg (by simpa using z)];exact ⟨_,_,rfl,S,by decide,by decide,_,rfl,q _ (by omega)⟩
end
theorem rN (n:Int):Str.ofString "ring " ++ num n=Str.join bk [Str.ofString "ring",num n]:=by
 apply eG;have e1:(Str.ofString "ring ").cps.toList=[114,105,110,103,32]:=by decide +kernel
 have e2:(Str.ofString "ring").cps.toList=[114,105,110,103]:=by decide +kernel
 rw [NO,ow];simp only [Str.cps_append,Array.toList_append,List.map_cons,List.map_nil,jl,e1,e2,List.cons_append,List.nil_append]
theorem rL {B:Nat}:∀ {ys:List Str},(∀ y ∈ ys,y.length ≤ B)→(ys.map (·.length)).sum ≤ ys.length * B
 | [],_=>by simp
 | a :: r,h=>by
  have h1:=h a (by simp);have h2:=rL (B:=B) (ys:=r) fun y hy=>h y (List.mem_cons_of_mem _ hy)
  rw [List.map_cons,List.sum_cons,List.length_cons,Nat.succ_mul];omega
theorem vM {n:Int} {ds:List WD} (h:COk n ds):∀ y ∈ (Di n ds).map (Str.join bk),y.length ≤ 63:=fun y hy=>by
 obtain ⟨r,hr,rfl⟩:=List.mem_map.mp hy;have:=mw bk 8 r fun x hx=>(h.plain r hr x hx).1
 rw [FA] at this;have hl:r.length ≤ 7:=by
  rcases List.mem_cons.mp hr with rfl | hr
  ·simp
  ·obtain ⟨d,hd,rfl⟩:=List.mem_map.mp hr;simp [Xi]
 omega
def vB (K:PySem.W.Frag):Sp:=fun vs H Q _=>∃ n wl ds,vs=[.int n,.ref wl]∧LW H wl ds∧xM n ds∧(2 ≤ n∧n ≤ 99)∧(1 ≤ ds.length∧ds.length ≤ 12)∧NoT H∧Q (.str (ww n ds)) H
def fH (K:PySem.W.Frag):Sp:=fun vs H Q _=>∃ n wl ds,vs=[.int n,.ref wl]∧LW H wl ds∧xM n ds∧(2 ≤ n∧n ≤ 99)∧(1 ≤ ds.length∧ds.length ≤ 12)∧∀ H',Ib H H'→Q (.str (ww n ds)) H'
section
variable {P:Program} {w:World} {K:PySem.W.Frag} {mg:Str→Option Value} {base:Heap} {t:Adr}
theorem rJ (T:Txt w K mg t):Gb P w K mg base CX0 1 t.sj t.xj q47 (vB K):=by
 refine Gb.forget (sp:=fH K) ?_ fun vs H Q E h=>?_
 ·refine T.jn.ok Dk (fun vs H Q E h=>?_) (fun _ _ _ s H vs Q E hr h=>?_)
  ·obtain ⟨n,wl,ds,rfl,_⟩:=h;rfl
  obtain ⟨n,wl,ds,rfl,L,D,hn,hl,q⟩:=h;refine ⟨_,(cb (xb (i:=2) Dk.nd (Pi (ab (Lb Xo vd (Ig Jk rfl T.NN Vo (ab (pv 0) gb))) gb)))
   (cb (ad PassesOwn.never rfl (ld (pv 1)) (lb (i:=3) Dk.nd) (ib (gd (Bp PySem.F.plainAttrs_list PySem.F.slot_list_append PySem.F.type_list_append Vk (pv 2) (ab (Bp PySem.F.plainAttrs_str PySem.F.slot_str_join PySem.F.type_str_join cz vd (ab (Lb fP (Pi (ab (Zb Zc (pv 3) qb) (ab (Zb Zc (pv 3) qb) gb))) (Bf rfl (sQ (En jP (pv 3) (Go qb) Bw)) (ic (sc:=jb gn) rfl (by decide +kernel)) (N:=["_law_number"]) (sel:=[none]) (uc (M:=["_law_places_here","_law_ways_here","_law_rows","_law_way"]) (by decide +kernel)) (Blk.of (fun _ _ _ _=>(lb (i:=0) (Ue (N:=["_law_number"]) (by decide +kernel) rfl))) (fun _ _ _ _=>⟨_,pe,by walk_at "B"⟩) (fun _ _ _ _=>⟨_,(Ig Jk rfl T.NN Vo (ab (pv 0) gb)),by walk_at "B"⟩)))) gb)) gb)))))
   (ib (Cb (Bp PySem.F.plainAttrs_str PySem.F.slot_str_join PySem.F.type_str_join cz vd (ab (pv 2) gb)))))),?_⟩
  have hC:=D.cok hn hl;obtain ⟨qs,l1,l2,al⟩:=L;have hlen:∀ x:Str,iz x→x.length ≤ 8:=fun x h=>h.1
  have hbig:∀ k:Nat,k ≤ 1000→k ≤ sizeLine:=fun k h=>Nat.le_trans h (by decide)
  have hr5:(Str.ofString "ring ").length=5:=by decide +kernel
  have hb1:(Str.ofString " ").length=1:=by decide +kernel
  walk_at "RD";have hn8:(Str.ofString (toString n)).length ≤ 8:=(De (v:=n) (by omega) (by omega)).1;refine ⟨kr (by omega),hbig _ (by rw [hr5];omega),by decide,fun rl hrl'=>?_⟩;rw [rN];have s0:Ib H (upd H rl (.lst [V.str (Str.join bk [Str.ofString "ring",num n])])):=fb hrl';refine ⟨⟨_,SqL.of (s0 _ _ l1)⟩,?_⟩;refine rh.list (xs:=qs.map V.ref) (fun i σ H'=>Ib H H'∧H' rl=some (.lst (Qb ((Di n (ds.take i)).map (Str.join bk))))∧∃ x,σ=[some (.int n),some (.ref wl),some (.ref rl),x]) ?_ ?_ ?_ ?_
  ·exact ⟨s0,db,none,rfl⟩
  ·rintro i σ H' hi ⟨sm,_,_⟩;exact SqL.of (sm _ _ l1)
  ·rintro i v σ H' hv zzq;refine zzP fun zzM zzh=>?_
   obtain ⟨sm,hr,x,rfl⟩:=zzq;obtain ⟨q',hq,rfl⟩:=lc hv;have hid:i < ds.length:=by rw [← l2];exact (List.getElem?_eq_some_iff.mp hq).1
   have hd:ds[i]? = some ds[i]:=List.getElem?_eq_getElem hid;have hT:SqT K H' q' (EL ds[i]):=SqT.of (sm _ _ (al i q' _ hq hd));have hw:=(D.al _ (List.mem_of_getElem? hd)).1;have b1:=hw.st;have b2:=hw.fi;have b3:=hw.of;have b4:=hw.nr;have b5:=hw.le;have z1:=hlen _ (Tu ds[i].k);have z2:=hlen _ (fv hw.nm);have z3:(num ds[i].start).length ≤ 8:=hlen _ (De (v:=ds[i].start) (by omega) (by omega));have z4:(num ds[i].fin).length ≤ 8:=hlen _ (De (v:=ds[i].fin) (by omega) (by omega));have z5:(num ds[i].off).length ≤ 8:=hlen _ (De (v:=ds[i].off) (by omega) (by omega));have z7:(num ds[i].least).length ≤ 8:=hlen _ (De (v:=ds[i].least) (by omega) (by omega));have z6:(num ds[i].near).length ≤ 8:=hlen _ (De (v:=ds[i].near) (by omega) (by omega));subst zzh;walk_at "RD";refine ⟨.inl ⟨_,SqL.of hr⟩,?_⟩;have at0:atI (EL ds[i]) 0=some (.str (fe ds[i].k)):=Jb (j:=0) rfl;have at1:atI (EL ds[i]) 1=some (.str ds[i].name):=Jb (j:=1) rfl;have hcut:YF (EL ds[i]) (some 2) none=[.int ds[i].start,.int ds[i].fin,.int ds[i].off,.int ds[i].near,.int ds[i].least]:=rfl;refine ⟨_,hT,_,at0,_,hT,_,at1,by decide,fun p0 hp0=>?_⟩;have s1:Ib H' (upd H' p0 (.lst [.str (fe ds[i].k),.str ds[i].name])):=fb hp0;have hr1:=s1 _ _ hr;have hp01:(upd H' p0 (.lst [.str (fe ds[i].k),.str ds[i].name])) p0=some (.lst [.str (fe ds[i].k),.str ds[i].name]):=db;have sm1:=sm.trans s1;have hT1:=hT.same s1;generalize upd H' p0 (.lst [.str (fe ds[i].k),.str ds[i].name])=H1 at hr1 hp01 sm1 hT1 ⊢;refine ⟨_,hT1,(show ¬ (HT.sIx 7 0 (some 2)=0∧HT.sIx 7 7 none=7) by decide),fun p hp=>⟨⟨_,SqT.of db⟩,?_⟩⟩;rw [hcut];refine Fc.tup_zs (xs:=[.int ds[i].start,.int ds[i].fin,.int ds[i].off,.int ds[i].near,.int ds[i].least]) (zs:=Qb [num ds[i].start,num ds[i].fin,num ds[i].off,num ds[i].near,num ds[i].least]) (SqT.of db) (hbig _ (show 5 ≤ 1000 by decide)) rfl (fun j v z N hv hz hN=>?_) (fun p2 hp2=>?_)
   ·have key:∃ a:Int,v=.int a∧z=.str (num a)∧0 ≤ a∧a < 100:=by
     match j,hv,hz with
     | 0,hv,hz=>cases hv;cases hz;exact ⟨_,rfl,rfl,b1.1,by omega⟩
     | 1,hv,hz=>cases hv;cases hz;exact ⟨_,rfl,rfl,b2.1,by omega⟩
     | 2,hv,hz=>cases hv;cases hz;exact ⟨_,rfl,rfl,b3.1,by omega⟩
     | 3,hv,hz=>cases hv;cases hz;exact ⟨_,rfl,rfl,b4.1,by omega⟩
     | 4,hv,hz=>cases hv;cases hz;exact ⟨_,rfl,rfl,by omega,by omega⟩
     | k + 5,hv,hz=>simp at hv
    obtain ⟨a,rfl,rfl,ha0,ha1⟩:=key;walk_at "RD";exact ⟨Sub.name,kr (by omega),hN⟩
   ·have s2:Ib H1 (upd (upd H1 p (.tup [.int ds[i].start,.int ds[i].fin,.int ds[i].off,.int ds[i].near,.int ds[i].least])) p2 (.lst (Qb [num ds[i].start,num ds[i].fin,num ds[i].off,num ds[i].near,num ds[i].least]))):=(fb hp).trans (fb hp2);have e2:(upd (upd H1 p (.tup [.int ds[i].start,.int ds[i].fin,.int ds[i].off,.int ds[i].near,.int ds[i].least])) p2 (.lst (Qb [num ds[i].start,num ds[i].fin,num ds[i].off,num ds[i].near,num ds[i].least]))) p2=some (.lst (Qb [num ds[i].start,num ds[i].fin,num ds[i].off,num ds[i].near,num ds[i].least])):=db;generalize upd (upd H1 p (.tup [.int ds[i].start,.int ds[i].fin,.int ds[i].off,.int ds[i].near,.int ds[i].least])) p2 (.lst (Qb [num ds[i].start,num ds[i].fin,num ds[i].off,num ds[i].near,num ds[i].least]))=H2 at s2 e2 ⊢;refine ⟨_,rfl,_,s2 _ _ hp01,_,e2,hbig _ (show 2 + 5 ≤ 1000 by decide),fun p3 hp3=>?_⟩;have hr3:(upd H2 p3 (.lst ([V.str (fe ds[i].k),V.str ds[i].name] ++ Qb [num ds[i].start,num ds[i].fin,num ds[i].off,num ds[i].near,num ds[i].least]))) rl=some (.lst (Qb ((Di n (ds.take i)).map (Str.join bk)))):=by
     rw [wb (Ab (s2 _ _ hr1) hp3)];exact s2 _ _ hr1
    refine ⟨Xi ds[i],SqL.of db,?_,_,hr3,?_,?_,?_,_,rfl⟩
    ·rw [hb1];simp only [Xi,List.map_cons,List.map_nil,List.sum_cons,List.sum_nil,List.length_cons,List.length_nil];omega
    ·rw [An,List.length_map];exact Nat.lt_of_le_of_lt (show (Di n (ds.take i)).length ≤ 13 by unfold Di;rw [List.length_cons,List.length_map,List.length_take];omega) (by decide)
    ·exact fun b u e=>by rw [wb (Ab e hrl')];exact (fb hp3) _ _ (s2 _ _ (sm1 _ _ e))
    ·rw [db,show Txt.join (Str.ofString " ") (Xi ds[i])=Str.join bk (Xi ds[i]) from StrLaws.glued_eq_join _ _];congr 2;unfold Di Qb;simp;rw [List.take_add_one,List.getElem?_map,hd];rfl
  ·rintro σ H' zzq;refine zzP fun zzM zzh=>?_
   obtain ⟨sm,hr,x,rfl⟩:=zzq;subst zzh;walk_at "RD";rw [List.length_map,l2,List.take_length] at hr;refine ⟨_,SqL.of hr,?_,?_⟩
   ·have h63:∀ y ∈ (Di n ds).map (Str.join bk),y.length ≤ 63:=vM hC;have h13:((Di n ds).map (Str.join bk)).length ≤ 13:=by
     unfold Di;rw [List.length_map,List.length_cons,List.length_map];omega
    have:=rL h63;rw [show (Str.ofString "\n").length=1 by decide +kernel];omega
   ·have:=q H' sm;unfold ww at this;rw [show Txt.join (Str.ofString "\n") ((Di n ds).map (Str.join bk))=Str.join nl ((Di n ds).map (Str.join bk)) from StrLaws.glued_eq_join _ _];exact this
 ·obtain ⟨n,wl,ds,h1,h2,h3,h4,h5,nt,q⟩:=h;exact ⟨nt,n,wl,ds,h1,h2,h3,h4,h5,fun H' sm=>⟨sm,q⟩⟩
end
end My
namespace My
open PySem L2
theorem dH {H H':Hp} {p:Addr} {qs:List Addr} {ws:List (WD × Int)} (s:Ib H H') (hp:H' p=some (.lst (qs.map V.ref))) (hl:qs.length=ws.length) (al:∀ (i:Nat) (q:Addr) (p:WD × Int),qs[i]? = some q→ws[i]? = some p→H q=some (.tup [.str p.1.name,.int p.2])):Ku H' p ws:=
 ⟨qs,hp,hl,fun i q p h1 h2=>s _ _ (al i q p h1 h2)⟩
theorem qC {f m k:Nat} (hf:f < m) (hk:k < m):(f + k) % m=if f + k < m then f + k else f + k - m:=by
 split
 ·exact Nat.mod_eq_of_lt (by assumption)
 ·rw [Nat.mod_eq_sub_mod (by omega),Nat.mod_eq_of_lt (by omega)]
theorem zM {f m j:Nat} (hf:f < m) (hj:j < m):∃ k,k < m∧j=(f + k) % m:=by
 by_cases h:f ≤ j
 ·exact ⟨j - f,by omega,by rw [qC hf (by omega)];split <;> omega⟩
 ·exact ⟨j + m - f,by omega,by rw [qC hf (by omega)];split <;> omega⟩
theorem KM {f m i k:Nat} (hf:f < m) (hi:i < m) (hk:k < m) (e:(f + i) % m=(f + k) % m):i=k:=by
 rw [qC hf hi,qC hf hk] at e;split at e <;> split at e <;> omega
theorem W66.mk' {n:Int} {ds:List WD} {ws:List (WD × Int)} {m f:Nat} (D:xM n ds) (hm:ds.length=m) (hf:f < m) (hl:ws.length=m) (al:∀ (j:Nat) (p:WD × Int),ws[j]? = some p→ds[(f + j) % m]? = some p.1∧p.1.least ≤ p.2∧p.2 ≤ p.1.least + 7):W66 n ds ws:=by
 refine ⟨by omega,fun p hp=>?_,fun i j p q hp hq e=>?_,fun d hd=>?_⟩
 ·obtain ⟨j,hj⟩:=List.getElem?_of_mem hp;have a:=al j p hj;have hm':=List.mem_of_getElem? a.1;have o:=(D.al _ hm').1;have:=o.le;exact ⟨hm',o,by omega,by omega⟩
 ·have hi:=(List.getElem?_eq_some_iff.mp hp).1;have hj:=(List.getElem?_eq_some_iff.mp hq).1;exact KM hf (by omega) (by omega) (WI D.nd (al i p hp).1 (al j q hq).1 e)
 ·obtain ⟨j,hj⟩:=List.getElem?_of_mem hd;have hjl:=(List.getElem?_eq_some_iff.mp hj).1;obtain ⟨k,hk,e⟩:=zM hf (show j < m by omega);have hk':ws[k]? = some ws[k]:=List.getElem?_eq_getElem (by omega);have a:=(al k _ hk').1;rw [← e,hj] at a;exact ⟨k,_,hk',(Option.some.inj a).symm⟩
noncomputable def kO (f m:Nat) (i:Nat):List V:=(List.range i).map fun k=>V.int (((f + k) % m:Nat):Int)
section
variable {P:Program} {w:World} {K:PySem.W.Frag} {mg:Str→Option Value} {base:Heap} {t:Adr}
theorem aQ (T:Txt w K mg t):Gb P w K mg base CX0 18 t.yN t.sJ q16 (fQ K):=by
 refine T.sR.ok Kf (fun vs H Q E h=>?_) (fun _ _ _ s H vs Q E hr h=>?_)
 ·obtain ⟨a,ns,rfl,_⟩:=h;rfl
 obtain ⟨a,ns,rfl,S0,h63,q⟩:=h;have hU:=hr.units;have g0:Gb P w K mg base CX0 17 t.Ef t.Df q15 (Wd K a ns):=(Qv T a ns h63).mono (by decide);have g65:Gb P w K mg base CX0 17 t.kh t.ph q16 (qu K a ns):=(cE T a ns h63).mono (by decide);have g66:Gb P w K mg base CX0 17 t.Mj t.Dj q46 (dB K a ns):=(zJ T a ns h63).mono (by decide);have g67:Gb P w K mg base CX0 17 t.sj t.xj q47 (vB K):=(rJ T).mono (by decide);have g68:Gb P w K mg base CX0 17 t.Of t.Rf ["text"] (GO t):=(HQ T).mono (by decide);have g69:Gb P w K mg base CX0 17 t.Tl t.Yl q35 (gB t):=(yK T).mono (by decide);have g70:Gb P w K mg base CX0 17 t.Bj t.vj q44 (uB t):=(PJ T).mono (by decide);have g28:Gb P w K mg base CX0 17 t.zC t.KB q11 (UE t):=(pN T).mono (by decide);have g71:Gb P w K mg base CX0 17 t.Zn t.Wn q39 (aO t):=(oR T).mono (by decide);refine ⟨_,(cb (xb (i:=1) Kf.nd (ub g65 hr T.Bv T.oj.kp T.Aw (ab (pv 0) gb)))
   (cb (Hr (i:=2) Kf.nd rfl (Or.inr rfl) (Lb Dc qb (ub g0 hr T.fc T.Rb.kp T.bc (ab (pv 0) (ab qb (ab qb gb))))))
   (cb (Hr (i:=3) Kf.nd rfl (Or.inr rfl) (ub g66 hr T.Iz T.Rm.kp T.lz (ab (pv 0) (ab (pv 2) (ab (pv 1) gb)))))
   (cb (xb (i:=4) Kf.nd (ub g68 hr T.Zs T.zh.kp T.Yq (ab (ub g67 hr T.qA T.jn.kp T.Rz (ab (pv 1) (ab (pv 3) gb))) gb)))
   (cb (Hr (i:=5) Kf.nd rfl (Or.inr rfl) (ub g0 hr T.fc T.Rb.kp T.bc (ab (pv 0) (ab qb (ab (pv 2) gb)))))
   (cb (Ee (i:=6) Kf.nd rfl (Or.inl rfl) rfl (Xc rfl T.me (ab (pv 2) gb)) (ic (sc:=jb AF) rfl (by decide +kernel)) (N:=["_law_k","_law_first","_law_many"]) (sel:=[none,some 5,some 2]) (uc (M:=q48) (by decide +kernel)) (Blk.of (fun _ _ _ _=>(lb (i:=0) (Ue (N:=["_law_k","_law_first","_law_many"]) (by decide +kernel) rfl))) (fun _ _ _ _=>⟨_,pe,by walk_at "B"⟩) (fun _ _ _ _=>⟨_,(Lb Te (Lb Dc (pv 1) (pv 0)) (pv 2)),by walk_at "B"⟩)) rfl)
   (cb (Hr (i:=7) Kf.nd rfl (Or.inr rfl) (Bf rfl (ld (pv 6)) (ic (sc:=jb AF) rfl (by decide +kernel)) (N:=["_law_k","_law_ways_here","_law_script"]) (sel:=[none,some 3,some 0]) (uc (M:=q48) (by decide +kernel)) (Blk.of (fun _ _ _ _=>(lb (i:=0) (Ue (N:=["_law_k","_law_ways_here","_law_script"]) (by decide +kernel) rfl))) (fun _ _ _ _=>⟨_,pe,by walk_at "B"⟩) (fun _ _ _ _=>⟨_,(Ad (ab (Zb Zc (Zb He (pv 1) (pv 0)) qb) (ab (Lb Dc (Zb Zc (Zb He (pv 1) (pv 0)) qb) (ub g0 hr T.fc T.Rb.kp T.bc (ab (pv 2) (ab (Lb Dc qb (pv 0)) (ab qb gb))))) gb))),by walk_at "B"⟩))))
   (cb (Hr (i:=8) Kf.nd rfl (Or.inr rfl) (ub g69 hr T.JD T.Ep.kp T.NC (ab (pv 4) (ab (Ig Up rfl T.Ex dn (ab (pv 7) gb)) gb))))
   (cb (xb (i:=9) Kf.nd (Zb Zc (pv 8) qb))
   (cb (Ee (i:=10) Kf.nd rfl (Or.inl rfl) rfl (Xc rfl T.me (ab (pv 2) gb)) (ic (sc:=jb AF) rfl (by decide +kernel)) (N:=["_law_k","_law_wants","_law_told"]) (sel:=[none,some 7,some 8]) (uc (M:=q48) (by decide +kernel)) (Blk.of (fun _ _ _ _=>(lb (i:=0) (Ue (N:=["_law_k","_law_wants","_law_told"]) (by decide +kernel) rfl))) (fun _ _ _ _=>⟨_,pe,by walk_at "B"⟩) (fun _ _ _ _=>⟨_,(Ad (ab (Zb Zc (Zb He (pv 1) (pv 0)) qb) (ab (Zb He (Zb Zc (pv 2) qb) (pv 0)) (ab (Zb Zc (Zb He (pv 1) (pv 0)) qb) gb)))),by walk_at "B"⟩)) rfl)
   (cb (xb (i:=11) Kf.nd Ug)
   (cb (kM rfl (ib (xb (i:=11) Kf.nd (ub g70 hr T.yz T.rn.kp T.nz (ab (pv 4) (ab (pv 9) (ab (Ig Up rfl T.Ex dn (ab (pv 10) gb)) gb)))))))
   (cb (Le (PW.pt (cy (Pb lG (pv 11) Ug (gc _)) (Vp (Pb Os (Ob (pv 11) rfl) (pv 9) (gc _))))) (ib (Cb Uo)) qc)
   (cb (xb (i:=12) Kf.nd (Sl (Pb Kz (jd Bc rfl T.Dn Nc (ab (pv 0) gb)) qb (gc _)) (Zb He (pv 0) (Lb Te qb (jd Bc rfl T.Dn Nc (ab (pv 0) gb)))) qb))
   (cb (xb (i:=13) Kf.nd (Lb Te (pv 12) (Lb tP qb qb)))
   (cb (ad PassesOwn.never rfl (ld (pv 10)) (lb (i:=14) Kf.nd) (cb (ad PassesOwn.never rfl (Xc rfl T.me (ab (pv 9) gb)) (lb (i:=15) Kf.nd) (cb (xb (i:=16) Kf.nd (Qf Ms (Lb Te (Lb ci (pv 15) (Zb Zc (pv 14) qb)) (pv 9)) (Zb Zc (pv 14) qb) (gc _)))
   (ib (Le (PW.pt (cy (Pb Os (ub g28 hr T.JL T.EC.kp T.cL (ab (pv 11) (ab (Zb Zc (pv 14) qb) (ab (pv 15) gb)))) (pv 16) (gc _)) (Vp (Pb Os (ub g28 hr T.JL T.EC.kp T.cL (ab (pv 11) (ab (Zb Zc (pv 14) qb) (ab (Lb Dc (pv 15) (Lb Ri (pv 13) (pv 9))) gb)))) (pv 16) (gc _))))) (ib (Cb Uo)) qc))))
   (cb (xb (i:=17) Kf.nd (ub g71 hr T.sG T.As.kp T.bG (ab (pv 11) (ab (Zb Zc (pv 14) qb) gb))))
   (ib (Le (PW.pt (cy (Pb Os (Zb Zc (pv 17) qb) (Lb ci (pv 9) (Zb Zc (pv 14) qb)) (gc _)) (Vp (Pb Os (Zb Zc (pv 17) qb) (Sl (Pb Ms (Zb Zc (pv 14) qb) (pv 9) (gc _)) (Lb Te (Lb Dc (Zb Zc (pv 14) qb) (Zb Zc (pv 14) qb)) (pv 9)) qb) (gc _))))) (ib (Cb Uo)) qc)))))
   (ib (Cb Uo)))))))))))))))))),?_⟩
 refine zzS (fun σ' H'=>H'=H∧∃ n:Int,(4 ≤ n∧n ≤ 99)∧σ'=[some (.ref a),some (.int n),none,none,none,none,none,none,none,none,none,none,none,none,none,none,none,none]) (fun D' hD=>?_) fun zzM zzh=>?_
 ·walk_at "RD";exact ⟨rfl,S0,fun n hn=>hD _ _ ⟨rfl,n,hn,rfl⟩⟩
 rintro σ1 H1 ⟨rfl,n,hn,rfl⟩;subst zzh;refine zzS (fun σ' H'=>H'=H1∧∃ m:Nat,(1 ≤ m∧m ≤ 5)∧σ'=[some (.ref a),some (.int n),some (.int (m:Nat)),none,none,none,none,none,none,none,none,none,none,none,none,none,none,none]) (fun D' hD=>?_) fun zzM zzh=>?_
 ·have d1:=gf ns 2 (m:=5) (by decide);have d2:=lf ns 2 (m:=5) (by decide);obtain ⟨m,hm⟩:∃ m:Nat,1 + nj ns 2 5=(m:Int):=⟨(1 + nj ns 2 5).toNat,by omega⟩;(walk_at "RD"; repeat (dsimp only [Wd];walk_at "RD"));rw [hm];exact ⟨S0,by decide,by decide,by decide,hD _ _ ⟨rfl,m,by omega,rfl⟩⟩
 rintro σ1 H1 ⟨rfl,m,hm,rfl⟩;subst zzh;refine zzS (fun σ' H'=>Ib H1 H'∧Sc K a ns H'∧∃ wl ds,LW H' wl ds∧ds.length=m∧xM n ds∧σ'=[some (.ref a),some (.int n),some (.int (m:Nat)),some (.ref wl),none,none,none,none,none,none,none,none,none,none,none,none,none,none]) (fun D' hD=>?_) fun zzM zzh=>?_
 ·walk_at "RD";exact ⟨m,n,rfl,S0,by omega,by omega,fun p ds H' s2 S2 _ L hl D=>hD _ _ ⟨s2,S2,p,ds,L,hl,D,rfl⟩⟩
 rintro σ2 H2 ⟨s2,S2,wl,ds,hW,hdl,D,rfl⟩;subst zzh;refine zzS (fun σ' H'=>Ib H2 H'∧Sc K a ns H'∧∃ c,Qc t H' c n ds∧σ'=[some (.ref a),some (.int n),some (.int (m:Nat)),some (.ref wl),some (.ref c),none,none,none,none,none,none,none,none,none,none,none,none,none]) (fun D' hD=>?_) fun zzM zzh=>?_
 ·walk_at "RD";refine ⟨n,wl,ds,rfl,hW,D,by omega,by omega,S2.nt,n,ds,rfl,D.cok (by omega) (by omega),S2.nt,fun c H' s3 n3 C3=>hD _ _ ⟨s3,S2.same s3 n3,c,C3,rfl⟩⟩
 rintro σ3 H3 ⟨s3,S3,c,C3,rfl⟩;have hW3:=hW.same s3;subst zzh;refine zzS (fun σ' H'=>H'=H3∧∃ f:Nat,f < m∧σ'=[some (.ref a),some (.int n),some (.int (m:Nat)),some (.ref wl),some (.ref c),some (.int (f:Nat)),none,none,none,none,none,none,none,none,none,none,none,none]) (fun D' hD=>?_) fun zzM zzh=>?_
 ·have d1:=gf ns 3 (m:=m) (by omega);have d2:=lf ns 3 (m:=m) (by omega);obtain ⟨f,hf⟩:∃ f:Nat,nj ns 3 m=(f:Int):=⟨(nj ns 3 m).toNat,by omega⟩;(walk_at "RD"; repeat (dsimp only [Wd];walk_at "RD"));rw [hf];exact ⟨S3,by omega,by omega,by omega,hD _ _ ⟨rfl,f,by omega,rfl⟩⟩
 rintro σ4 H4 ⟨rfl,f,hf,rfl⟩;subst zzh;refine zzS (fun σ' H'=>Ib H4 H'∧Sc K a ns H'∧∃ ol,H' ol=some (.lst (kO f m m))∧σ'=[some (.ref a),some (.int n),some (.int (m:Nat)),some (.ref wl),some (.ref c),some (.int (f:Nat)),some (.ref ol),none,none,none,none,none,none,none,none,none,none,none]) (fun D' hD=>?_) fun zzM zzh=>?_
 ·walk_at "RD";refine ⟨by omega,by omega,?_⟩;rw [show (m:Int).toNat=m by omega];refine Fc.range_map (fun k=>V.int (((f + k) % m:Nat):Int)) (Nat.le_trans hm.2 (by decide)) (fun i N hi hN=>?_) (fun p hp=>hD _ _ ⟨fb hp,S3.new hp,p,db,rfl⟩);walk_at "RD";refine ⟨Sub.name,by omega,?_⟩;rw [show ((f:Int) + (i:Int)) % (m:Int)=(((f + i) % m:Nat):Int) by rw [Int.natCast_emod,Int.natCast_add]];exact hN
 rintro σ5 H5 ⟨s5,S5,ol,e5,rfl⟩;have hW5:=hW3.same s5;subst zzh;refine zzS (fun σ' H'=>Ib H5 H'∧Sc K a ns H'∧∃ tl ws,Ku H' tl ws∧W66 n ds ws∧σ'=[some (.ref a),some (.int n),some (.int (m:Nat)),some (.ref wl),some (.ref c),some (.int (f:Nat)),some (.ref ol),some (.ref tl),none,none,none,none,none,none,none,none,none,none]) (fun D' hD=>?_) fun zzM zzh=>?_
 ·walk_at "RD";obtain ⟨qs,w1,w2,w3⟩:=id hW5;refine ⟨⟨_,SqL.of e5⟩,?_⟩;have hol:(kO f m m).length=m:=by unfold kO;rw [List.length_map,List.length_range]
  refine Fc.list (xs:=kO f m m) (fun i ys H'=>Ib H5 H'∧Sc K a ns H'∧∃ (qw:List Addr) (ws:List (WD × Int)),ys=qw.map V.ref∧qw.length=i∧ws.length=i∧(∀ (j:Nat) (p:WD × Int),ws[j]? = some p→ds[(f + j) % m]? = some p.1∧p.1.least ≤ p.2∧p.2 ≤ p.1.least + 7)∧∀ (j:Nat) (q:Addr) (p:WD × Int),qw[j]? = some q→ws[j]? = some p→H' q=some (.tup [.str p.1.name,.int p.2])) (by rw [hol];exact Nat.le_trans hm.2 (by decide)) ⟨Ib.refl _,S5,[],[],rfl,rfl,rfl,fun j p h=>by simp at h,fun j q p h=>by simp at h⟩ ?_ ?_ ?_
  ·rintro i ys H' hi zzq;refine zzP fun zzM zzh=>?_
   obtain ⟨s6,_,qw,ws,rfl,hq,_⟩:=zzq;subst zzh;exact ⟨SqL.of (s6 _ _ e5),by rw [List.length_map,hq];exact Nat.le_refl _⟩
  ·rintro i v ys H' hv zzq;refine zzP fun zzM zzh=>?_
   obtain ⟨s6,S6,qw,ws,rfl,hq,hwl,hws,al⟩:=zzq;have hi:i < m:=by rw [← hol];exact (List.getElem?_eq_some_iff.mp hv).1
   have hvi:v=V.int (((f + i) % m:Nat):Int):=by
    unfold kO at hv;rw [List.getElem?_map,List.getElem?_range hi] at hv;exact (Option.some.inj hv).symm
   subst zzh;subst hvi;have hk:(f + i) % m < m:=Nat.mod_lt _ (by omega);have hdk:ds[(f + i) % m]? = some (ds[(f + i) % m]'(by omega)):=List.getElem?_eq_getElem _;have hqk:qs[(f + i) % m]? = some (qs[(f + i) % m]'(by omega)):=List.getElem?_eq_getElem _;generalize ds[(f + i) % m]'(by omega)=d at hdk;generalize qs[(f + i) % m]'(by omega)=qd at hqk;have eqd:=s6 _ _ (w3 _ _ _ hqk hdk);have hat:atI (qs.map V.ref) (((f + i) % m:Nat):Int)=some (.ref qd):=Jb (by rw [List.getElem?_map,hqk];rfl);have d1:=gf ns (60 + (((f + i) % m:Nat):Int)) (m:=8) (by decide);have d2:=lf ns (60 + (((f + i) % m:Nat):Int)) (m:=8) (by decide);generalize hke:(f + i) % m=k at *;intro N hN;(walk_at "RD"; repeat (dsimp only [Wd];walk_at "RD"));refine ⟨Sub.name,_,SqL.of (s6 _ _ w1),_,hat,_,rfl,_,SqT.of eqd,_,Jb (j:=1) rfl,_,SqL.of (s6 _ _ w1),_,hat,_,rfl,_,SqT.of eqd,_,Jb (j:=6) rfl,S6,by omega,by omega,by decide,_,rfl,by decide,fun p hp=>hN _ _ ⟨s6.trans (fb hp),S6.new hp,qw ++ [p],ws ++ [(d,d.least + nj ns (60 + (k:Int)) 8)],by rw [List.map_append];rfl,by rw [List.length_append,hq];rfl,by rw [List.length_append,hwl];rfl,fun j x hx=>?_,fun j q x h1 h2=>?_⟩⟩
   ·rcases ig hx with ⟨_,g⟩ | ⟨g,rfl⟩
    ·exact hws j x g
    ·rw [g,hwl,hke];exact ⟨hdk,by dsimp only;omega,by dsimp only;omega⟩
   ·rcases ig h1 with ⟨g1,g2⟩ | ⟨g1,rfl⟩
    ·rcases ig h2 with ⟨g3,g4⟩ | ⟨g3,_⟩
     ·exact (fb hp) _ _ (al j q x g2 g4)
     ·omega
    ·rcases ig h2 with ⟨g3,g4⟩ | ⟨g3,rfl⟩
     ·omega
     ·exact db
  ·rintro ys H' ⟨s6,S6,qw,ws,rfl,hq,hwl,hws,al⟩ p hp;rw [hol] at hq hwl;exact hD _ _ ⟨s6.trans (fb hp),S6.new hp,p,ws,⟨qw,db,by rw [hq,hwl],fun j q x h1 h2=>(fb hp) _ _ (al j q x h1 h2)⟩,W66.mk' D hdl hf hwl hws,rfl⟩
 rintro σ6 H6 ⟨s6,S6,tl,ws,hT,W,rfl⟩;obtain ⟨qt,t1,t2,t3⟩:=id hT;have C6:=C3.same (s5.trans s6);have hwl:ws.length=m:=by rw [W.ln,hdl]
 have wk:RB n ws:=⟨fun p hp=>⟨(W.al p hp).2.1,by have:=W.al p hp;have:=this.2.1.le;omega⟩,by omega,fun z=>by rw [z] at hwl;simp at hwl;omega⟩;have hin:∀ q ∈ ws,∃ i:Nat,ds[i]? = some q.1:=fun p hp=>List.getElem?_of_mem (W.al p hp).1
 subst zzh;refine zzS (fun σ' H'=>Ib H6 H'∧Sc K a ns H'∧∃ r,∃ z:Nat,∃ pb pa b,(0 < z∧z ≤ 600)∧H' r=some (.tup [.int z,.ref pb,.ref pa])∧H' pb=some (.lst (kt (Kb n ws) b))∧(∀ v,0 ≤ b v∧b v < z)∧sk (Kb n ws) z b∧σ'=[some (.ref a),some (.int n),some (.int (m:Nat)),some (.ref wl),some (.ref c),some (.int (f:Nat)),some (.ref ol),some (.ref tl),some (.ref r),none,none,none,none,none,none,none,none,none]) (fun D' hD=>?_) fun zzM zzh=>?_
 ·walk_at "RD";refine ⟨_,.inl (SqL.of t1),fun l hl=>⟨n,ws,⟨c,l,ds,rfl,C6.same (fb hl),by omega,dH (fb hl) db t2 t3,hin,wk,S6.nt.upd⟩,fun r z pb pa b p H' s7 n7 e7 SA=>?_⟩⟩;have z1:=SA.z1;have hz:z ≤ 600:=by
   by_cases g:z ≤ 600
   ·exact g
   ·exact absurd (W66.does (n:=n) (ws:=ws) (fun p hp=>⟨(W.al p hp).2.1,(W.al p hp).2.2.2⟩) (by omega)) (SA.least wk.ok (by decide) (by omega) _)
  obtain ⟨zn,rfl⟩:∃ zn:Nat,z=(zn:Int):=⟨z.toNat,by omega⟩;exact hD _ _ ⟨(fb hl).trans s7,(S6.new hl).same s7 n7,r,zn,pb,pa,b,by omega,e7,SA.eb,SA.rb,SA.does,rfl⟩
 rintro σ7 H7 ⟨s7,S7,r,z,pb,pa,b,hz,r7,eb7,rb,DO,rfl⟩;have C7:=C6.same s7;subst zzh;refine zzS (fun σ' H'=>H'=H7∧σ'=[some (.ref a),some (.int n),some (.int (m:Nat)),some (.ref wl),some (.ref c),some (.int (f:Nat)),some (.ref ol),some (.ref tl),some (.ref r),some (.int (z:Nat)),none,none,none,none,none,none,none,none]) (fun D' hD=>?_) fun zzM zzh=>?_
 ·walk_at "RD";exact ⟨_,SqT.of r7,_,Jb (j:=0) rfl,hD _ _ ⟨rfl,rfl⟩⟩
 rintro σ8 H8 ⟨rfl,rfl⟩;subst zzh;refine zzS (fun σ' H'=>Ib H8 H'∧Sc K a ns H'∧∃ rl,LO H' rl ((spW ws b).map sdO)∧σ'=[some (.ref a),some (.int n),some (.int (m:Nat)),some (.ref wl),some (.ref c),some (.int (f:Nat)),some (.ref ol),some (.ref tl),some (.ref r),some (.int (z:Nat)),some (.ref rl),none,none,none,none,none,none,none]) (fun D' hD=>?_) fun zzM zzh=>?_
 ·walk_at "RD";refine ⟨by omega,by omega,?_⟩;rw [show (m:Int).toNat=m by omega];have ebg:kt (Kb n ws) b=(List.range m).map fun i=>V.int (b i):=by unfold kt;rw [show (Kb n ws).m=m from hwl]
  refine Fc.range (fun i ys H'=>Ib H8 H'∧Sc K a ns H'∧∃ qw:List Addr,ys=qw.map V.ref∧qw.length=i∧∀ (j:Nat) (q:Addr) (p:WD × Int),qw[j]? = some q→ws[j]? = some p→H' q=some (sdO ⟨p.1.name,b j,p.2⟩)) (Nat.le_trans hm.2 (by decide)) ⟨Ib.refl _,S7,[],rfl,rfl,fun j q p h=>by simp at h⟩ ?_ ?_ ?_
  ·rintro i ys H' hi zzq;refine zzP fun zzM zzh=>?_
   obtain ⟨_,_,qw,rfl,hq,_⟩:=zzq;subst zzh;rw [List.length_map,hq];exact Nat.le_refl _
  ·rintro i ys H' hi zzq;refine zzP fun zzM zzh=>?_
   obtain ⟨s9,S9,qw,rfl,hq,al⟩:=zzq;have s79:=s7.trans s9;have hwi:ws[i]? = some (ws[i]'(by omega)):=List.getElem?_eq_getElem _;have hqi:qt[i]? = some (qt[i]'(by omega)):=List.getElem?_eq_getElem _;subst zzh;generalize ws[i]'(by omega)=p at hwi;generalize qt[i]'(by omega)=qd at hqi;have eqd:=s79 _ _ (t3 _ _ _ hqi hwi);have hat:atI (qt.map V.ref) ((i:Nat):Int)=some (.ref qd):=Jb (by rw [List.getElem?_map,hqi];rfl);have hbt:atI (kt (Kb n ws) b) ((i:Nat):Int)=some (.int (b i)):=by rw [ebg];exact Jb (by rw [List.getElem?_map,List.getElem?_range hi];rfl)
   intro N hN;walk_at "RD";refine ⟨Sub.name,_,SqL.of (s79 _ _ t1),_,hat,_,rfl,_,SqT.of eqd,_,Jb (j:=0) rfl,_,SqT.of (s9 _ _ r7),_,Jb (j:=1) rfl,_,rfl,_,SqL.of (s9 _ _ eb7),_,hbt,_,SqL.of (s79 _ _ t1),_,hat,_,rfl,_,SqT.of eqd,_,Jb (j:=1) rfl,by decide,fun p' hp=>hN _ _ ⟨s9.trans (fb hp),S9.new hp,qw ++ [p'],by rw [List.map_append];rfl,by rw [List.length_append,hq];rfl,fun j q x h1 h2=>?_⟩⟩;rcases ig h1 with ⟨g1,g2⟩ | ⟨g1,rfl⟩
   ·exact (fb hp) _ _ (al j q x g2 h2)
   ·rw [g1,hq,hwi] at h2;cases h2;rw [g1,hq];exact db
  ·rintro ys H' ⟨s9,S9,qw,rfl,hq,al⟩ p hp;refine hD _ _ ⟨s9.trans (fb hp),S9.new hp,p,⟨qw,db,⟨by rw [List.length_map,Gz];omega,fun j q o h1 h2=>?_⟩⟩,rfl⟩;obtain ⟨sd,hsd,rfl⟩:=lc h2;obtain ⟨x,hx,rfl⟩:=Iu hsd;exact (fb hp) _ _ (al j q x h1 hx)
 rintro σ9 H9 ⟨s9,S9,rl,L9,rfl⟩;have C9:=C7.same s9;obtain ⟨qr,q1,q2⟩:=id L9;have hql:qr.length=ws.length:=by rw [q2.1,List.length_map,Gz]
 subst zzh;refine zzS (fun σ' H'=>H'=H9∧σ'=[some (.ref a),some (.int n),some (.int (m:Nat)),some (.ref wl),some (.ref c),some (.int (f:Nat)),some (.ref ol),some (.ref tl),some (.ref r),some (.int (z:Nat)),some (.ref rl),some .non,none,none,none,none,none,none]) (fun D' hD=>?_) fun zzM zzh=>?_
 ·walk_at "RD";exact hD _ _ ⟨rfl,rfl⟩
 rintro σ10 H10 ⟨rfl,rfl⟩;subst zzh;refine zzS (fun σ' H'=>Ib H10 H'∧Sc K a ns H'∧∃ pl,ko t H' pl c n ds z (spW ws b)∧σ'=[some (.ref a),some (.int n),some (.int (m:Nat)),some (.ref wl),some (.ref c),some (.int (f:Nat)),some (.ref ol),some (.ref tl),some (.ref r),some (.int (z:Nat)),some (.ref rl),some (.ref pl),none,none,none,none,none,none]) (fun D' hD=>?_) fun zzM zzh=>?_
 ·walk_at "RD";have hD30:DOk ds:=fun d hd=>by have:=(D.al d hd).1.of;omega
  refine ⟨_,.inl (SqL.of q1),fun l hl=>⟨c,n,ds,z,l,spW ws b,rfl,C9.same (fb hl),by omega,hD30,by omega,⟨qr,db,q2.same (fb hl)⟩,⟨by rw [Gz];omega,fun sd hsd=>?_⟩,fun sd hsd=>?_,S9.nt.upd,W.never,W.short D.nd DO,W.clash hz.1 DO,fun pl H' s' n' PA=>hD _ _ ⟨(fb hl).trans s',(S9.new hl).same s' n',pl,PA,rfl⟩⟩⟩
  ·obtain ⟨i,hi⟩:=List.getElem?_of_mem hsd;obtain ⟨p,hp,rfl⟩:=Iu hi;have:=rb i;have a:=W.al p (List.mem_of_getElem? hp);have:=a.2.1.le;dsimp only;omega
  ·obtain ⟨i,hi⟩:=List.getElem?_of_mem hsd;obtain ⟨p,hp,rfl⟩:=Iu hi;exact ⟨p.1,W.wof D.nd hp⟩
 rintro σ11 H11 ⟨s11,S11,pl,PA,rfl⟩;obtain ⟨dx,p,lm,un,hpl,_⟩:=id PA.at_;subst zzh;refine zzS (fun σ' H'=>H'=H11∧σ'=[some (.ref a),some (.int n),some (.int (m:Nat)),some (.ref wl),some (.ref c),some (.int (f:Nat)),some (.ref ol),some (.ref tl),some (.ref r),some (.int (z:Nat)),some (.ref rl),some (.ref pl),none,none,none,none,none,none]) (fun D' hD=>?_) fun zzM zzh=>?_
 ·refine ac false (fun Q hQ=>?_) (fun z=>nomatch z) (fun _=>?_)
  ·walk_at "RD";refine ⟨_,yG T hpl,rfl,?_⟩;rw [decide_eq_true rfl];exact hQ
  ·simp only [se];exact hD _ _ ⟨rfl,rfl⟩
 rintro σ12 H12 ⟨rfl,rfl⟩;subst zzh;refine zzS (fun σ' H'=>H'=H12∧∃ u:Int,σ'=[some (.ref a),some (.int n),some (.int (m:Nat)),some (.ref wl),some (.ref c),some (.int (f:Nat)),some (.ref ol),some (.ref tl),some (.ref r),some (.int (z:Nat)),some (.ref rl),some (.ref pl),some (.int u),none,none,none,none,none]) (fun D' hD=>?_) fun zzM zzh=>?_
 ·walk_at "RD";refine ⟨_,.inl S11.seq,?_⟩;rw [List.length_map];by_cases c0:0 < ns.length
  ·rw [if_pos (decide_eq_true (by omega))];have hlt:=Nat.mod_lt 4 c0;have hat:atI (ns.map V.int) (4 % (ns.length:Int))=some (.int (ns[4 % ns.length]'hlt)):=by
    rw [show (4:Int)=((4:Nat):Int) from rfl,← Int.natCast_emod];exact Jb (by rw [List.getElem?_map,List.getElem?_eq_getElem hlt];rfl)
   refine ⟨_,.inl S11.seq,?_⟩;rw [List.length_map];exact ⟨by omega,_,S11.seq,_,hat,hD _ _ ⟨rfl,_,rfl⟩⟩
  ·rw [if_neg (by simpa using c0)];exact hD _ _ ⟨rfl,_,rfl⟩
 rintro σ13 H13 ⟨rfl,u,rfl⟩;subst zzh;refine zzS (fun σ' H'=>H'=H13∧∃ fa:Int,(0 ≤ fa∧fa < 10 ^ (58:Int).toNat)∧σ'=[some (.ref a),some (.int n),some (.int (m:Nat)),some (.ref wl),some (.ref c),some (.int (f:Nat)),some (.ref ol),some (.ref tl),some (.ref r),some (.int (z:Nat)),some (.ref rl),some (.ref pl),some (.int u),some (.int fa),none,none,none,none]) (fun D' hD=>?_) fun zzM zzh=>?_
 ·walk_at "RD";exact ⟨⟨by decide,by decide,by decide⟩,Int.pow_pos (by decide),hD _ _ ⟨rfl,_,⟨Int.emod_nonneg _ (Int.ne_of_gt (Int.pow_pos (by decide))),Int.emod_lt_of_pos _ (Int.pow_pos (by decide))⟩,rfl⟩⟩
 rintro σ14 H14 ⟨rfl,fa,hfa,rfl⟩;subst zzh;dsimp only;refine zzS (fun σ' H'=>Ib H14 H'∧∃ x14 x15 x16 x17,σ'=[some (.ref a),some (.int n),some (.int (m:Nat)),some (.ref wl),some (.ref c),some (.int (f:Nat)),some (.ref ol),some (.ref tl),some (.ref r),some (.int (z:Nat)),some (.ref rl),some (.ref pl),some (.int u),some (.int fa),x14,x15,x16,x17]) (fun D' hD=>?_) fun zzM zzh=>?_
 ·walk_at "RD";refine ⟨⟨_,SqL.of (s11 _ _ q1)⟩,?_⟩;refine rh.list (xs:=qr.map V.ref) (fun i σ H'=>Ib H14 H'∧∃ x14 x15 x16 x17,σ=[some (.ref a),some (.int n),some (.int (m:Nat)),some (.ref wl),some (.ref c),some (.int (f:Nat)),some (.ref ol),some (.ref tl),some (.ref r),some (.int (z:Nat)),some (.ref rl),some (.ref pl),some (.int u),some (.int fa),x14,x15,x16,x17]) ⟨Ib.refl _,_,_,_,_,rfl⟩ ?_ ?_ ?_
  ·rintro i σ H' hi ⟨sm,_⟩;exact SqL.of (sm _ _ (s11 _ _ q1))
  ·rintro i v σ H' hv zzq;refine zzP fun zzM zzh=>?_
   obtain ⟨sm,x14,x15,x16,x17,rfl⟩:=zzq;obtain ⟨qi,hqi,rfl⟩:=lc hv;have hid:i < ws.length:=by rw [← hql];exact (List.getElem?_eq_some_iff.mp hqi).1
   have hp:ws[i]? = some ws[i]:=List.getElem?_eq_getElem hid;subst zzh;generalize ws[i]=p at hp;have ht:H' qi=some (.tup [.str p.1.name,.int (b i),.int p.2]):=sm _ _ (s11 _ _ (q2.2 i qi _ hqi (by rw [List.getElem?_map,BA,hp];rfl)));have PA':=PA.same sm;obtain ⟨k,hk⟩:=List.getElem?_of_mem (W.al p (List.mem_of_getElem? hp)).1;have hfr:=W.free hz.1 DO hp;have hlo:=W.long hz.1 DO hp;simp only [oh,Db,List.set_cons_succ,List.set_cons_zero];refine zzC (fun σ' H2=>H2=H'∧∃ x15 x16,σ'=[some (.ref a),some (.int n),some (.int (m:Nat)),some (.ref wl),some (.ref c),some (.int (f:Nat)),some (.ref ol),some (.ref tl),some (.ref r),some (.int (z:Nat)),some (.ref rl),some (.ref pl),some (.int u),some (.int fa),some (.ref qi),x15,x16,x17]) (fun D' hD=>?_) fun zzM zzh=>?_
   ·walk_at "RD";refine ⟨by omega,by omega,?_⟩;rw [show (z:Int).toNat=z by omega];refine rh.range (fun j σ H3=>H3=H'∧∃ x15 x16,σ=[some (.ref a),some (.int n),some (.int (m:Nat)),some (.ref wl),some (.ref c),some (.int (f:Nat)),some (.ref ol),some (.ref tl),some (.ref r),some (.int (z:Nat)),some (.ref rl),some (.ref pl),some (.int u),some (.int fa),some (.ref qi),x15,x16,x17]) ⟨rfl,_,_,rfl⟩ ?_ ?_
    ·rintro j σ H3 hj zzq;refine zzP fun zzM zzh=>?_
     obtain ⟨rfl,x15,x16,rfl⟩:=zzq;subst zzh;simp only [oh,Db,List.set_cons_succ,List.set_cons_zero,Int.zero_add];refine zzC (fun σ' H4=>H4=H3∧σ'=[some (.ref a),some (.int n),some (.int (m:Nat)),some (.ref wl),some (.ref c),some (.int (f:Nat)),some (.ref ol),some (.ref tl),some (.ref r),some (.int (z:Nat)),some (.ref rl),some (.ref pl),some (.int u),some (.int fa),some (.ref qi),some (.int (j:Nat)),some (.bl (decide (((j:Int) - b i) % (z:Int) < p.2))),x17]) (fun D' hD=>?_) fun zzM zzh=>?_
     ·walk_at "RD";exact ⟨_,SqT.of ht,_,Jb (j:=1) rfl,_,rfl,by omega,_,SqT.of ht,_,Jb (j:=2) rfl,_,rfl,hD _ _ ⟨rfl,rfl⟩⟩
     rintro σ4 H4 ⟨rfl,rfl⟩;subst zzh;dsimp only;refine ac false (fun Q hQ=>?_) (fun cc=>nomatch cc) (fun _=>?_)
     ·walk_at "RD";refine ⟨_,SqT.of ht,_,Jb (j:=0) rfl,pl,c,n,ds,z,spW ws b,k,p.1,_,rfl,PA',hz.1,hk,rfl,?_⟩;rw [hfr,decide_eq_true rfl,if_neg (by decide)];refine ⟨_,SqT.of ht,_,Jb (j:=0) rfl,.inr ⟨by omega,by omega⟩,pl,c,n,ds,z,spW ws b,k,p.1,_,rfl,PA',hz.1,hk,rfl,?_⟩;rw [hfr,show ((j:Int) + fa * (z:Int) - b i) % (z:Int)=((j:Int) - b i) % (z:Int) by rw [show (j:Int) + fa * (z:Int) - b i=(j:Int) - b i + fa * (z:Int) by omega,Int.add_mul_emod_self_right],decide_eq_true rfl];exact hQ
     ·walk_at "RD"
      repeat (first | exact ⟨_,rfl⟩ | refine ⟨⟨_,rfl⟩,?_⟩)
    ·rintro σ H3 zzq;refine zzP fun zzM zzh=>?_
     obtain ⟨rfl,x15,x16,rfl⟩:=zzq;subst zzh;exact hD _ _ ⟨rfl,_,_,rfl⟩
   rintro σ2 H2 ⟨rfl,x15',x16',rfl⟩;subst zzh;simp only [Db];refine zzC (fun σ' H3=>Ib H2 H3∧∃ wt,H3 wt=some (.tup [.int ((z:Int) - p.2),.int (loV z (b i) p.2)])∧σ'=[some (.ref a),some (.int n),some (.int (m:Nat)),some (.ref wl),some (.ref c),some (.int (f:Nat)),some (.ref ol),some (.ref tl),some (.ref r),some (.int (z:Nat)),some (.ref rl),some (.ref pl),some (.int u),some (.int fa),some (.ref qi),x15',x16',some (.ref wt)]) (fun D' hD=>?_) fun zzM zzh=>?_
   ·walk_at "RD";refine ⟨_,SqT.of ht,_,Jb (j:=0) rfl,pl,c,n,ds,z,spW ws b,k,p.1,(z:Int) - p.2,rfl,PA',by omega,hk,hlo.1,fun wt hwt=>?_⟩;rw [hlo.2];exact hD _ _ ⟨fb hwt,wt,db,rfl⟩
   rintro σ3 H3 ⟨s3',wt,ew,rfl⟩;subst zzh;dsimp only;refine ac false (fun Q hQ=>?_) (fun cc=>nomatch cc) (fun _=>?_)
   ·walk_at "RD";have ht3:=s3' _ _ ht;refine ⟨_,SqT.of ew,_,Jb (j:=0) rfl,_,SqT.of ht3,_,Jb (j:=2) rfl,_,rfl,rfl,?_⟩;rw [decide_eq_true rfl,if_neg (by decide)];refine ⟨_,SqT.of ew,_,Jb (j:=1) rfl,_,SqT.of ht3,_,Jb (j:=2) rfl,_,rfl,?_⟩;by_cases c0:p.2 < z
    ·rw [if_pos (decide_eq_true c0)];refine ⟨_,SqT.of ht3,_,Jb (j:=1) rfl,_,SqT.of ht3,_,Jb (j:=2) rfl,_,rfl,_,rfl,?_⟩;refine ⟨by omega,rfl,?_⟩;rw [show loV z (b i) p.2=(b i + p.2) % (z:Int) by unfold loV;rw [if_pos c0],decide_eq_true rfl];exact hQ
    ·rw [if_neg (by simpa using c0)];refine ⟨rfl,?_⟩;rw [show loV z (b i) p.2=0 by unfold loV;rw [if_neg c0],decide_eq_true rfl];exact hQ
   ·walk_at "RD";exact ⟨sm.trans s3',by repeat (first | exact ⟨_,rfl⟩ | refine ⟨⟨_,rfl⟩,?_⟩)⟩
  ·rintro σ H' zzq;refine zzP fun zzM zzh=>?_
   obtain ⟨sm,x14,x15,x16,x17,rfl⟩:=zzq;subst zzh;exact hD _ _ ⟨sm,_,_,_,_,rfl⟩
 rintro σ15 H15 ⟨_,x14,x15,x16,x17,rfl⟩;subst zzh;walk_at "RD";exact q _
end
end My
structure PySem.W.Fast:Prop where(tw16833465159202584329 tw11479410854099939464 tw11823517630609616148 tw11682933933395319861 tw612993538586100214 tw9554439715026473277 tw18318369949246628457 tw12223262985721832895 tw15146849404611728945 tw17445267150470885947 tw15752638751161270718 tw15777909278206843968 tw840539705611154475 tw7466186394367664339 tw2973471665228922607 tw5199731971656049244 tw11951847604198138417 tw8755956145928820379 tw11597337604160749718 tw5829122546998654930 tw16604728665373200278 tw9464599811391816217 tw4874710624625706060 tw12081373790522445150 tw4031226347020259066 tw9755530873174587092 tw15681367906090289607 tw16980120345316816802 tw5363584137359640654 tw5373172989784243268 tw920602599418378170 tw16190495414274165716 tw8446216944593493176 tw15007017158997795763 tw16148392636012532856 tw15925596068367752451 tw10677385677767590827 tw4067991282924763939 tw1398356169980067457 tw8697515654975313465 tw9724274149187848562 tw8469344214257373014 tw17557845716197210571 tw14679618981734099682 tw898222216840488486 tw16769611679339682284 tw3575592751248099086 tw8176734275535381750 tw13159540113713480677 tw6419104811630539787 tw3100830630437094248 tw9834704790892522315 tw14700188195798128186 tw6286484409330759881 tw13103587374470766039 tw6112309060250289911 tw15260053456031604107 tw17817270304164421690 tw18113889460471051747 tw10450547388886305092 tw10673453774790294297 tw11834700028653095334 tw9976382685545514566 tw12826000399517019137 tw8785266021806150622 tw5672104480183668341 tw18073879233759881812 tw3307350662709840470 tw9320279166732584668 tw5469448408191547540 tw6528433358437507072 tw18071446812042489552 tw13074295753498875385 tw2792340006850173467 tw14982618856256398264 tw2831222149076299125 tw9835571458750770549 tw11617892960660982133 tw14880570669776600765 tw6085268596528525816 tw701385131884400639 tw5426447031573843447 tw5688167268955210937 tw17726840266477979158 tw1199042232072746525 tw13970617783371412214 tw330378318480675988 tw6114211620676953428 tw3901605506656069980 tw7254241712813185204 tw12522955905549637180 tw16023641475113662371 tw3388628332453235203 tw18368832460389413308 tw6587670863412304406 tw16094803027250979513 tw3719728864733741012 tw8577568593170591721 tw16496650498658343248 tw12891651973522640966 tw17388955518664132972 tw15366499804910790184 tw13911832159945746393 tw3587722598715873174 tw1028670015601955952 tw16092902963101470357 tw416755390027717672 tw4240524211570372836 tw15160999180097774557 tw7462496680195205590 tw4329675600526441450 tw16743111886281103597 tw9351318461576325755 tw8331103630542593775 tw5639254783798428690 tw16651630074455044745 tw18167903586135915000 tw11938719500762592549 tw3202751059202367484 tw12387133669146761877 tw17598301978843550552 tw6984072017145619885 tw11934974730876700205 tw2209741725301881309 tw17447418607856029152 tw15645880597381006161 tw3938259539171447260 tw14816944905321293597 tw11614512286521781972 tw17724030447430324788 tw14907659466342481454 tw7171236863456560171 tw274744930749410249 tw5073420687368215510 tw15849596540360040687 tw7855146854100064964 tw1269454632239880759 tw7837905695771347710 tw4806940024873473244 tw12121302577085400215 tw16585592677976098357 tw10092772494813162496 tw12230743304643197873 tw13449614365845878961 tw10665275636835912988 tw6016608791162515897 tw14639635563988140681 tw14908618079613979010 tw2468356071894022454 tw11336062687543617994 tw12822987346547802506 tw8928619755663050850 tw9749914748620919153 tw8618983852252520105 tw1520794249629023015 tw6180625943980189744 tw9536712534389831970 tw13724390722384501126 tw10844071157392725444 tw9222582398363070029 tw6035080979928047221 tw959330568802076458 tw7688204581232531505 tw11286779913847862479 tw7369599430984508574 tw4458166097459547578 tw10390789515244886972 tw16882021936659954151 tw7134033419806713305 tw13085932621619790288 tw17156809997872522201 tw13460210029170676259 tw14563040830155046728 tw16556081891328931219 tw615581784461704419 tw4795261689915592377 tw10581340694350224874 tw9158390998150895900 tw991882812344180859 tw4984779837224259307 tw9577629445300198426 tw16415418577115371519 tw7237406209215976018 tw3468251635475456399 tw13591961622154382787 tw18416445730756035117 tw2150334961392550362 tw8011736592173507377 tw13663293610970711116 tw7069464373574700901 tw12250039786932887132 tw7344364503056553829 tw10517014590143464160 tw12910428723135706621 tw9151991172197255594 tw11496149619837780955 tw10912231501853169338 tw133696388225096510 tw13341339887422964641 tw1055409216559174230 tw12735292271089144104 tw6534548570721838683 tw17693530208271700990 tw4753055924428593158 tw2004446340378459472 tw13817140324009913823 tw1657941183112427222 tw4302077217603458888 tw18366953237670894455 tw7694374735359812297 tw14239971998905812163 tw9715844621904464124 tw15192691381832497079 tw8880785251165306571 tw4615111174142213612 tw3969090428675193942 tw16500408001107468984 tw3224461528107344978 tw17971380732295708636 tw336451945206305224 tw11659611230442821876 tw14268087226247890538 tw4620646995993552335 tw11503680726427403180 tw6168968361649729453 tw4695518662832866533 tw17969919481219834526 tw7787247187940854925 tw12745860691942920725 tw823933458583335202 tw3501427998578537900 tw3551545426284964061 tw17185197477833924466 tw1824994258791691630 tw17753678028038769636 tw16901880128135230013 tw10966100700312361065 tw10272577508134128040 tw201096319276479843 tw9327832898130698393 tw7109422695080415924 tw10563181594272473062 tw9312619418520644206 tw16434138690606448646 tw16442291014365676770 tw11565057142499203490 tw16593239800397942464 tw15958038158855803098 tw2514408937650449475 tw3497127175222334646 tw15289784488651854140 tw12179802285007608222 tw8672050691860252046 tw5443776399072357385 tw1659812354171170307 tw6250392825973947943 tw2903675452918694222 tw2871604631828216915 tw5582671084273320565 tw2443841233413893097 tw13087675674118560938 tw16301823476013818324 tw3994623538341484312 tw13126278352778547327 tw13205808715941201270 tw5690270124172324900 tw16879442554408954939 tw13795936000130426022 tw7072067580771992289 tw1046781729529226621 tw17674133997594339029 tw3224396763435867660 tw7983188688159953385 tw15796783247082583820 tw2528748280034121374 tw12283965811521241573 tw13374917833898303033 tw12619435474549171583 tw17954504791191067215 tw11868026335178920832 tw4075173695702607660 tw2297308153563584249 tw5223024202978546094 tw96043607685030187 tw11115562973987827458 tw15323449082974958532 tw13357055984454431133 tw5631896515970886047 tw11272192406096201770 tw10832013609866606477 tw607185657203900646 tw4412857114730286058 tw3376643452288775031 tw3765098780880510991 tw13353070503174911483 tw12986486014538088312 tw16235470170625374518 tw17730358791207007093 tw2994040707461168189 tw13995851742304319626 tw12743143090024533912 tw3746125419050230050 tw1796160968550732353 tw16752963640487190815 tw748817102205423820 tw9486090171674474200 tw18436784631667984953 tw9985596883137499857 tw5461605008390902314 tw14594420625153457376 tw14100125362139033187 tw10065088993632517165 tw197833230502293725 tw12454558451844966751 tw11795350020854177230 tw4328516800680206176 tw16866637748492643719 tw6898819574585034848 tw7926866575919291544 tw13766445740172990363 tw90058797944915621 tw12140073349551538691 tw15189199040043178869 tw14788374835062629630 tw10283713446738043604 tw14359812494472672715 tw10118660120204090639 tw8380221932388408358 tw95647441969419985 tw6307711603289592603 tw5405926749021264724 tw14891606860854987011 tw17854031999390227289 tw47363686107779754 tw2063287977422079147 tw17228258947214741807 tw10582941517359937111 tw13005108959488157572 tw18135720072649425438 tw11819599621939967275 tw14784926573607080967 tw6741413817635699490 tw11726408658927980840 tw18275879200644034777 tw16855947795530325119 tw13633484149946569681 tw11819680165103251184 tw1328607012496083438 tw9564072544449683293 tw8803974115450839630 tw6244879898137930196 tw12243061739788462212 tw1575781298537202927 tw11405918967278517068 tw5066762443398032565 tw16537722448134250662 tw10754762931611606654 tw12250894566520419046 tw8326914571635053032 tw2330578821288412265 tw17659324199261372644 tw9126875465225162977 tw13576192447044388407 tw34848477218315383 tw17106788269947708534 tw17205395898712164725 tw18237662171529373671 tw10967238226921761495 tw16883903999908711519 tw6083126090517894899 tw7099408282867107249 tw15796495295910435082 tw6462857678632795433 tw8160757852912709724 tw1054979996166270959 tw3476444346541886346 tw9622944997512229046 tw8838779839771750342 tw10440177586918050430 tw10897386925893973985 tw5538984952513056286 tw10634766331489588967 tw13963796648247917268 tw4171309661865946545 tw17347572445674864584 tw10783981481272238540 tw4995333037098299615 tw8892791086426015760 tw9825591668013047964 tw4299000960035101300 tw8430326282139631648 tw7243969671491293820 tw7283038049681240106 tw15690393519850864001 tw16228879443674673137 tw3273823234996620011 tw8314586673890570451 tw5301974090700285135 tw4586350578902114700 tw9810215484028630171 tw9176309958109131899 tw5403587044588549003 tw8386163132685437619 tw1459461009947910423 tw1112156747999776969 tw1542224144100057109 tw9603029624213669744 tw16539250578215077286 tw6618296254360567897 tw11904139792550787298 tw8928439063631674482 tw6575297168709984593 tw15211589651000363319 tw10364615072921683669 tw408920928826313163 tw3047787005614459169 tw12992136483835816479 tw10000383658004208559 tw16602417166418493083 tw12072125146436300165 tw9569353461993753854 tw15999950224784512889 tw11529656564399045535 tw14302163531366891940 tw16019594224362822348 tw10092057480987219727 tw18095557899900858536 tw2397005191146030205 tw666418115196154175 tw3162390421961173985 tw6652996960392479076 tw17541191448039883610 tw11214723005259123427 tw12169898445269014991 tw699202386411201399 tw1886868320765467803 tw14658600663589162133 tw11351886201512075352 tw16634570865023659514 tw7948048754912035658 tw7761733645092276251 tw9516939129080307292 tw17708976220066285299 tw14508423919699494740 tw5704403445883932863 tw15834776958346504125 tw8746883807954008004 tw17204668208079880896 tw12185000074316688084 tw1912553792970077592 tw11797536049966808756 tw12922714401372979187 tw408752149959034913 tw7259279347483887395 tw17646637498567912999 tw9439919943616551967 tw10793507573704717714 tw7141565796295254999 tw12151825940749909057 tw11678121384630499848 tw14247082796319795262 tw5997811493684997858 tw17358987054850946644 tw11556322815974823888 tw13383555609309702853 tw15296988179756002364 tw5305514782607171752 tw18069706278943688065 tw3432050277275299925 tw16790947615866783682 tw12939722125807243978 tw15713694412000249222 tw5609720564076108315 tw10026643218572642307 tw11500948731922609444 tw13598191015554834203 tw16892202000877242133 tw2716642397664733559 tw3344945173570816302 tw17653192082003487679 tw3252721907633749427 tw12943740539050452185 tw7537533659820859659 tw9379124667554509696 tw2968538634268759587 tw17795508657170777741 tw4569192239674369954 tw2329566993360729816 tw9654803653234907840 tw8147044966282764282 tw16156906981249478341 tw12401874934956864544 tw590027753021308538 tw16911778275569098863 tw14586588480744357865 tw1043388632177389647 tw17927939270854795667 tw2231704096006975354 tw10482882612181236429 tw12959249427271842788 tw1895592634931246604 tw11518631204459409594 tw12478808164766024486 tw7373135559069076759 tw2336548989076970368 tw17274680145551767124 tw6164646081058109623 tw869904934888707965 tw2436562086845530166 tw8288181166163412145 tw2421628141341986759 tw603069561322842271 tw5365079391177086941 tw14900244861354587893:True)
open PySem PySem.W PyProof.Rows
set_option maxRecDepth 100000 in
set_option maxHeartbeats 0 in
theorem PySem.Challenge.cw_lampway_k66_rounds_let_by_holds : PySem.Challenge.rw_lampway_k66_rounds_let_by.Holds := by
 w_on;o_law;k_head;(case hw=>w_witness2)
 k_fill
 refine L2.FJ (l:=PySem.Challenge.rw_lampway_k66_rounds_let_by) (n:=63) (k:=18) (x := "_law_script") (CX:=L2.CX0) (sp:=L2.fQ) rfl (by decide) rfl ⟨rfl,by decide,by decide⟩ (fun w h Y=>PySem.W.kIn_of Y) ?F ?S ?C
 case F=>
  intro w mg fa h KX G hmg;have T:∃ t,My.Txt w (L2.KOf KX) mg t:=by
   dsimp only [L2.KOf];refine' ⟨My.Adr.mk,⟨?mqaa,?Fqab,?mqac,?Fqad,?mqae,?Fqaf,?mqag,?Fqah,?mqai,?Fqaj,?mqak,?Fqal,?mqam,?Fqan,?mqao,?Fqap,?mqaq,?Fqar,?mqas,?Fqat,?mqau,?Fqav,?mqaw,?Fqax,?mqay,?Fqaz,?mqba,?Fqbb,?mqbc,?Fqbd,?mqbe,?Fqbf,?mqbg,?Fqbh,?mqbi,?Fqbj,?mqbk,?Fqbl,?mqbm,?Fqbn,?mqbo,?Fqbp,?mqbq,?Fqbr,?mqbs,?Fqbt,?mqbu,?Fqbv,?mqbw,?Fqbx,?mqby,?Fqbz,?mqca,?Fqcb,?mqcc,?Fqcd,?mqce,?Fqcf,?mqcg,?Fqch,?mqci,?Fqcj,?mqck,?Fqcl,?mqcm,?Fqcn,?mqco,?Fqcp,?mqcq,?Fqcr,?mqcs,?Fqct,?mqcu,?Fqcv,?mqcw,?Fqcx,?mqcy,?Fqcz,?mqda,?Fqdb,?mqdc,?Fqdd,?mqde,?Fqdf,?mqdg,?Fqdh,?mqdi,?Fqdj,?mqdk,?Fqdl,?mqdm,?Fqdn,?mqdo,?Fqdp,?mqdq,?Fqdr,?mqds,?Fqdt,?mqdu,?eqdv,?Fqdw,?mqdx,?eqdy,?Fqdz,?eqea,?Fqeb,?eqec,?Fqed,?eqee,?Fqef,?eqeg,?Fqeh,?eqei,?Fqej,?eqek,?Fqel,?mqem,?eqen,?Fqeo,?mqep,?eqeq,?Fqer,?eqes,?Fqet,?eqeu,?Fqev,?mqew,?eqex,?Fqey,?eqez,?Fqfa,?eqfb,?Fqfc,?mqfd,?eqfe,?Fqff,?eqfg,?Fqfh,?eqfi,?Fqfj,?mqfk,?eqfl,?Fqfm,?eqfn,?Fqfo,?eqfp,?Fqfq,?eqfr,?Fqfs,?mqft,?eqfu,?Fqfv,?sqfw,?sqfx,?nqfy,?nqfz,?nqga,?sqgb,?sqgc,?sqgd,?sqge,?sqgf,?sqgg,?sqgh,?sqgi,?nqgj,?nqgk,?nqgl,?sqgm,?nqgn,?nqgo,?nqgp,?nqgq,?nqgr,?nqgs,?nqgt,?sqgu,?sqgv,?sqgw,?sqgx,?nqgy,?nqgz,?nqha,?nqhb,?nqhc,?nqhd,?nqhe,?sqhf,?sqhg,?sqhh,?sqhi,?nqhj,?nqhk,?nqhl,?nqhm,?nqhn,?nqho,?nqhp,?sqhq,?sqhr,?sqhs,?sqht,?nqhu,?nqhv,?nqhw,?nqhx,?nqhy,?nqhz,?nqia,?sqib,?sqic,?sqid,?sqie,?sqif,?nqig,?nqih,?nqii,?sqij,?sqik,?nqil,?nqim,?nqin,?nqio,?nqip,?dqiq,?dqir,?dqis,?dqit,?dqiu,?dqiv,?sqiw,?mqix,?vqiy,?mqiz,?vqja,?mqjb,?vqjc,?mqjd,?vqje,?mqjf,?vqjg,?mqjh,?vqji,?mqjj,?vqjk,?mqjl,?vqjm,?mqjn,?vqjo,?mqjp,?vqjq,?bqjr,?bqjs,?bqjt,?bqju,?bqjv,?bqjw,?bqjx,?bqjy,?bqjz,?bqka,?bqkb,?bqkc,?bqkd,?bqke,?lqkf⟩⟩
   case mqaa | mqac | mqae | mqag | mqai | mqak | mqam | mqao | mqaq | mqas | mqau | mqaw | mqay | mqba | mqbc | mqbe | mqbg | mqbi | mqbk | mqbm | mqbo | mqbq | mqbs | mqbu | mqbw | mqby | mqca | mqcc | mqce | mqcg | mqci | mqck | mqcm | mqco | mqcq | mqcs | mqcu | mqcw | mqcy | mqda | mqdc | mqde | mqdg | mqdi | mqdk | mqdm | mqdo | mqdq | mqds | mqdu | mqdx | mqem | mqep | mqew | mqfd | mqfk | mqft | mqix | mqiz | mqjb | mqjd | mqjf | mqjh | mqjj | mqjl | mqjn | mqjp=>(try dsimp only);refine' PySem.W.mg_of KX G ?z;case z=>k_is
   case eqdv | eqdy | eqea | eqec | eqee | eqeg | eqei | eqek | eqen | eqeq | eqes | eqeu | eqex | eqez | eqfb | eqfe | eqfg | eqfi | eqfl | eqfn | eqfp | eqfr | eqfu=>(try dsimp only);k_is
   case sqfw | sqfx | sqgb | sqgc | sqgd | sqge | sqgf | sqgg | sqgh | sqgi | sqgm | sqgu | sqgv | sqgw | sqgx | sqhf | sqhg | sqhh | sqhi | sqhq | sqhr | sqhs | sqht | sqib | sqic | sqid | sqie | sqif | sqij | sqik | sqiw=>(try dsimp only);constructor <;> k_is
   case Fqab | Fqad | Fqaf | Fqah | Fqaj | Fqal | Fqan | Fqap | Fqar | Fqat | Fqav | Fqax | Fqaz | Fqbb | Fqbd | Fqbf | Fqbh | Fqbj | Fqbl | Fqbn | Fqbp | Fqbr | Fqbt | Fqbv | Fqbx | Fqbz | Fqcb | Fqcd | Fqcf | Fqch | Fqcj | Fqcl | Fqcn | Fqcp | Fqcr | Fqct | Fqcv | Fqcx | Fqcz | Fqdb | Fqdd | Fqdf | Fqdh | Fqdj | Fqdl | Fqdn | Fqdp | Fqdr | Fqdt | Fqdw | Fqdz | Fqeb | Fqed | Fqef | Fqeh | Fqej | Fqel | Fqeo | Fqer | Fqet | Fqev | Fqey | Fqfa | Fqfc | Fqff | Fqfh | Fqfj | Fqfm | Fqfo | Fqfq | Fqfs | Fqfv=>(try dsimp only);refine' L2.BP ?x ?y ?z;(case x=>k_is);(case y=>k_is);(case z=>k_is)
   case nqfy | nqfz | nqga | nqgj | nqgk | nqgl | nqgn | nqgo | nqgp | nqgq | nqgr | nqgs | nqgt | nqgy | nqgz | nqha | nqhb | nqhc | nqhd | nqhe | nqhj | nqhk | nqhl | nqhm | nqhn | nqho | nqhp | nqhu | nqhv | nqhw | nqhx | nqhy | nqhz | nqia | nqig | nqih | nqii | nqil | nqim | nqin | nqio | nqip=>(try dsimp only);unfold L2.Yb;k_is
   case dqiq | dqir | dqis | dqit | dqiu | dqiv=>(try dsimp only);decide
   case vqiy | vqja | vqjc | vqje | vqjg | vqji | vqjk | vqjm | vqjo | vqjq=>(try dsimp only);exact ⟨_,rfl⟩
   case bqjr | bqjs | bqjt | bqju | bqjv | bqjw | bqjx | bqjy | bqjz | bqka | bqkb | bqkc | bqkd | bqke=>(try dsimp only);refine' PySem.W.mg_none_of KX G ?z;case z=>k_is
   case lqkf=>(try dsimp only);exact fun _ _=>.of_eq rfl
  obtain ⟨t,T⟩:=T;have e0:=hmg.symm.trans T.cR;cases e0;exact ⟨t.sJ,T.vO,fun base kb nb=>My.aQ T⟩
 case S=>exact fun K H a ns hl hO hS=>⟨a,ns,rfl,L2.Sc.of_only hO hS,hl,fun _=>rfl⟩
 case C=>exact fun _ _ _ _ z=>z
