import PyProof.Rows.All
import Wide.All
import OpenK.AllK
import Wide.FinOn
import Lean
import PyProof.EqAt
import PyProof.EqKinds
import PyProof.TupleCall
import KE.KTryMore
import PyProof.NsDelKeeps
import PySem.Challenge.RW_lampway_k13_a_plan_refused
set_option Elab.async false
set_option linter.all false
set_option maxRecDepth 100000
namespace L2
open PySem PySem.Spec PyProof.Rows
abbrev Key:=Sum Int Str
def TL:Key→Value→Bool
 | .inl k,v=>Value.isInt k v
 | .inr x,v=>Value.isStrOf x v
def Y1 (w:World):Key→Int
 | .inl k=>hashInt k
 | .inr x=>hashStr w x
theorem Ff:∀ {k:Key} {v:Value},TL k v=true→(∃ i t,k=Sum.inl i∧v=Value.int i t)∨(∃ x t,k=Sum.inr x∧v=Value.str x t)
 | .inl i,v,h=>by
  obtain ⟨t,e⟩:=Value.isInt_shape (k:=i) (v:=v) h
  exact .inl ⟨i,t,rfl,e⟩
 | .inr x,v,h=>by
  obtain ⟨t,e⟩:=Value.isStrOf_shape (x:=x) (v:=v) h
  exact .inr ⟨x,t,rfl,e⟩
theorem jQ (i:Int) (t:Tok):TL (.inl i) (.int i t)=true:=by simp [TL,Value.isInt]
theorem vP (x:Str) (t:Tok):TL (.inr x) (.str x t)=true:=by simp [TL,Value.isStrOf]
theorem sY (a b:Int):decide ((Sum.inl a:Key)=Sum.inl b)=(a == b):=by
 by_cases e:a=b
 ·subst e;simp
 ·have h:¬ (Sum.inl a:Key)=Sum.inl b:=fun q=>e (Sum.inl.inj q)
  rw [decide_eq_false h]
  exact (beq_eq_false_iff_ne.mpr e).symm
theorem LY (a b:Str):decide ((Sum.inr a:Key)=Sum.inr b)=decide (a=b):=by
 by_cases e:a=b
 ·subst e;simp
 ·have h:¬ (Sum.inr a:Key)=Sum.inr b:=fun q=>e (Sum.inr.inj q)
  rw [decide_eq_false h,decide_eq_false e]
theorem NY (a:Int) (b:Str):decide ((Sum.inl a:Key)=Sum.inr b)=false:=decide_eq_false (fun q=>nomatch q)
theorem tY (a:Str) (b:Int):decide ((Sum.inr a:Key)=Sum.inl b)=false:=decide_eq_false (fun q=>nomatch q)
def zh (prog:Program) (w:World):PySem.KeyKind prog w Key where
 is:=TL
 hash:=Y1 w
 inj:=fun v a b ha hb=>by
  rcases Ff ha with ⟨i,t,rfl,rfl⟩ | ⟨x,t,rfl,rfl⟩
  ·rcases Ff hb with ⟨j,u,rfl,e⟩ | ⟨y,u,rfl,e⟩
   ·injection e with e1 _;rw [e1]
   ·exact nomatch e
  ·rcases Ff hb with ⟨j,u,rfl,e⟩ | ⟨y,u,rfl,e⟩
   ·exact nomatch e
   ·injection e with e1 _;rw [e1]
 byValue:=fun k v h=>by
  rcases Ff h with ⟨i,t,rfl,rfl⟩ | ⟨x,t,rfl,rfl⟩ <;> rfl
 pyHash:=fun hv h=>by
  rcases Ff hv with ⟨i,t,rfl,rfl⟩ | ⟨x,t,rfl,rfl⟩
  ·exact wpAny_pyHash_int h
  ·exact wpAny_pyHash_str h
 eqBool:=fun hu hv h=>by
  rcases Ff hu with ⟨i,t,rfl,rfl⟩ | ⟨x,t,rfl,rfl⟩
  ·rcases Ff hv with ⟨j,u,rfl,rfl⟩ | ⟨y,u,rfl,rfl⟩
   ·rw [sY] at h;exact wpAny_eqBool_int h
   ·rw [NY] at h;exact SeqAt.EqAt.int_str i t y u _ _ _ _ h
  ·rcases Ff hv with ⟨j,u,rfl,rfl⟩ | ⟨y,u,rfl,rfl⟩
   ·rw [tY] at h;exact SeqAt.EqAt.str_int x t j u _ _ _ _ h
   ·rw [LY] at h;exact wpAny_eqBool_str h
 «strs»:=fun k x t v h=>by
  rcases Ff h with ⟨i,u,rfl,e⟩ | ⟨y,u,rfl,e⟩
  ·exact nomatch e
  ·injection e with e1 _
   subst e1
   cases v <;> rfl
theorem WJ (prog:Program) (w:World) (i:Int) (t:Tok):(zh prog w).is (.inl i) (.int i t)=true:=jQ i t
theorem XJ (prog:Program) (w:World) (x:Str) (t:Tok):(zh prog w).is (.inr x) (.str x t)=true:=vP x t
end L2
namespace L2
open PySem PySem.Spec PyProof.Rows
inductive V where
 | non | bl (b:Bool) | int (i:Int) | str (x:Str) | byt (b:Array UInt8) | flt (b:UInt64) | ref (a:Addr) | ty (n:String)
 deriving DecidableEq
def cf:V→Value→Prop
 | .non,u=>u=Value.none
 | .bl b,u=>u=Value.bool b
 | .int i,u=>∃ t,u=Value.int i t
 | .str x,u=>∃ t,u=Value.str x t
 | .byt b,u=>∃ t,u=Value.bytes b t
 | .flt b,u=>∃ t,u=Value.float b t
 | .ref a,u=>u=Value.ref a
 | .ty n,u=>u=Value.type n
abbrev Ae:List V→List Value→Prop:=Paired cf
theorem Ae.length {xs:List V} {us:List Value} (r:Ae xs us):xs.length=us.length:=Paired.length r
theorem Ae.get:∀ {xs:List V} {us:List Value} {i:Nat} {x:V},Ae xs us→xs[i]? = some x→∃ u,us[i]? = some u∧cf x u
 | _,_,_,_,.nil,e=>by simp at e
 | _,_,0,_,.cons r _,e=>by simp at e;subst e;exact ⟨_,rfl,r⟩
 | _,_,i + 1,x,.cons _ t,e=>by
  obtain ⟨u,h1,h2⟩:=Ae.get (i:=i) (x:=x) t (by simpa using e)
  exact ⟨u,by simpa using h1,h2⟩
theorem Ae.set {x:V} {u:Value} (r:cf x u):∀ {xs:List V} {us:List Value} (i:Nat),Ae xs us→Ae (xs.set i x) (us.set i u)
 | _,_,_,.nil=>.nil
 | _,_,0,.cons _ t=>.cons r t
 | _,_,i + 1,.cons q t=>.cons q (Ae.set r i t)
theorem Ae.append:∀ {xs ys:List V} {us ws:List Value},Ae xs us→Ae ys ws→Ae (xs ++ ys) (us ++ ws)
 | _,_,_,_,.nil,s=>s
 | _,_,_,_,.cons r t,s=>.cons r (Ae.append t s)
theorem Ae.take:∀ {xs:List V} {us:List Value} (n:Nat),Ae xs us→Ae (xs.take n) (us.take n)
 | _,_,0,_=>.nil
 | _,_,_ + 1,.nil=>.nil
 | _,_,n + 1,.cons r t=>.cons r (Ae.take n t)
theorem Ae.drop:∀ {xs:List V} {us:List Value} (n:Nat),Ae xs us→Ae (xs.drop n) (us.drop n)
 | _,_,0,r=>r
 | _,_,_ + 1,.nil=>.nil
 | _,_,n + 1,.cons _ t=>Ae.drop n t
theorem Ae.none_of:∀ {xs:List V} {us:List Value} {i:Nat},Ae xs us→xs[i]? = none→us[i]? = none:=fun {xs us i} r e=>by
 have h1:=r.length
 have h2:xs.length ≤ i:=List.getElem?_eq_none_iff.mp e
 exact List.getElem?_eq_none_iff.mpr (by omega)
def aC:Option V→Option Value→Prop
 | some v,some u=>cf v u
 | none,none=>True
 | _,_=>False
def KV {κ:Type}:List (κ × V)→List (κ × Value)→Prop:=Paired fun (p:κ × V) (q:κ × Value)=>p.1=q.1∧cf p.2 q.2
def kV:Key→V
 | .inl i=>.int i
 | .inr x=>.str x
inductive HO where
  | lst (xs:List V)
  | tup (xs:List V)
  | dK (kvs:List (Key × V)) | dT (kvs:List (List Key × V))
  | set (S:Int→Bool) (n:Nat)
  | ins (C dx:Addr) (fs:List (Str × V))
  | own (x:Addr)
  | xd (fs:List (Str × V))
  | met (f x:Addr)
  | rng (lo hi:Int)
  | frz (o:Obj) (u:HO)
  | tbl (ps:Array Value)
  | ext (φ:Heap→Prop)
abbrev Hp:=Addr→Option HO
def upd (H:Hp) (a:Addr) (o:HO):Hp:=fun b=>if b=a then some o else H b
theorem fb {H:Hp} {a:Addr} {o:HO}:upd H a o a=some o:=by unfold upd;rw [if_pos rfl]
theorem rb {H:Hp} {a b:Addr} {o:HO} (h:b ≠ a):upd H a o b=H b:=by unfold upd;rw [if_neg h]
theorem vn {H:Hp} {a:Addr} {o u:HO}:upd (upd H a o) a u=upd H a u:=by
 funext b;unfold upd;split <;> rfl
theorem Fg {H:Hp} {a b:Addr} {o u:HO} (h:H a=some o) (h':H b=some u) (d:o ≠ u):a ≠ b:=by
 intro e;subst e;rw [h] at h';exact d (Option.some.inj h')
theorem zb {H:Hp} {a b:Addr} {o:HO} (h:H a=some o) (h':H b=none):a ≠ b:=by
 intro e;subst e;rw [h] at h';cases h'
section
variable (P:Program) (w:World)
def Ve (H:Hp) (h:Heap) (a:Addr):HO→Prop
 | .lst xs=>xs.length ≤ sizeLine∧∃ (its:List Value) (n:Nat),Ae xs its∧h.get? a=some { cls:=.type "list",data:=.seq its.toArray n }
 | .tup xs=>xs.length ≤ sizeLine∧∃ its:List Value,Ae xs its∧IsTup h a its.toArray
 | .dK kvs=>kvs.length ≤ sizeLine∧(a == sysModules)=false∧∃ vs,KV kvs vs∧h.DictOf (zh P w) a vs
 | .dT kvs=>kvs.length ≤ sizeLine∧(a == sysModules)=false∧∃ xs:List (List Key × Addr × Value),
   Paired (fun (p:List Key × V) (q:List Key × Addr × Value)=>p.1=q.1∧H q.2.1=some (.tup (p.1.map kV))∧cf p.2 q.2.2) kvs xs ∧
   ∃ o es ep,h.get? a=some o∧o.ExactDict∧o.data=.dict es ep∧es.toList=xs.map (entryOfKey (tupleKind (zh P w)))∧(xs.map (·.1)).Nodup
 | .set S n=>h.SetOf (intKind P w) a S n
 | .ins C dx fs=>H dx=some (.own a)∧fs.length ≤ 1000∧dx ≠ a∧h.get? a=some (PySem.W.instObj C dx) ∧
   ∃ mA,h.Ns1 dx mA∧(∀ f,aC (fs.lookup f) (mA f))∧PySem.Within mA (fs.map (·.1))
 | .own _=>∃ o,h.get? a=some o
 | .xd fs=>∃ mA,h.Ns1 a mA∧∀ f,aC (fs.lookup f) (mA f)
 | .rng lo hi=>∃ t u v,h.get? a=some { cls:=.type "range",data:=.fields #[.int lo t,.int hi u,.int 1 v] }
 | .frz o u=>h.get? a=some o∧Ve H h a u
 | .tbl ps=>h.get? a=some { cls:=.none,data:=.fields ps }
 | .met f x=>h.get? a=some (PySem.W.methodObj (.ref f) (.ref x))
 | .ext φ=>φ h∧(∃ o,h.get? a=some o)∧∀ h1 h2:Heap,φ h1→(∀ o,h1.get? a=some o→h2.get? a=some o)→φ h2
def HOk (H:Hp) (h:Heap):Prop:=∀ a o,H a=some o→Ve P w H h a o
end
section
variable {P:Program} {w:World} {H H':Hp} {h h':Heap} {a:Addr} {o:HO}
theorem Ve.lt (x:Ve P w H h a o):a < h.objs.size:=by
 cases o with
 | lst xs=>obtain ⟨_,_,_,_,e⟩:=x;exact Heap.lt_size e
 | tup xs=>obtain ⟨_,_,_,p⟩:=x;exact p.lt
 | dK kvs=>obtain ⟨_,_,_,_,o,_,_,e,_⟩:=x;exact Heap.lt_size e
 | dT kvs=>obtain ⟨_,_,_,_,o,_,_,e,_⟩:=x;exact Heap.lt_size e
 | set S n=>obtain ⟨o,_,_,_,e,_⟩:=x;exact Heap.lt_size e
 | ins C dx fs=>obtain ⟨_,_,_,e,_⟩:=x;exact Heap.lt_size e
 | own y=>obtain ⟨_,e⟩:=x;exact Heap.lt_size e
 | xd fs=>obtain ⟨_,⟨_,_,_,e,_⟩,_⟩:=x;exact Heap.lt_size e
 | rng lo hi=>obtain ⟨_,_,_,e⟩:=x;exact Heap.lt_size e
 | frz ob u=>obtain ⟨e,_⟩:=x;exact Heap.lt_size e
 | tbl ps=>exact Heap.lt_size (show h.get? a=some _ from x)
 | met f y=>exact Heap.lt_size (show h.get? a=some _ from x)
 | ext φ=>obtain ⟨_,⟨_,e⟩,_⟩:=x;exact Heap.lt_size e
theorem Paired.mapP {α β:Type} {F G:α→β→Prop}:∀ {l₁:List α} {l₂:List β},Paired F l₁ l₂→(∀ a b,F a b→G a b)→Paired G l₁ l₂
 | _,_,.nil,_=>.nil
 | _,_,.cons r t,f=>.cons (f _ _ r) (Paired.mapP t f)
theorem Ve.stay (x:Ve P w H h a o) (k:∀ b u,(b=a∨H b=some (.own a))→h.get? b=some u→h'.get? b=some u)
  (ho:∀ b,H b=some (.own a)→H' b=some (.own a)) (ht:∀ b xs,H b=some (.tup xs)→H' b=some (.tup xs)):Ve P w H' h' a o:=by
 induction o with
 | lst xs=>obtain ⟨z,its,n,r,e⟩:=x;exact ⟨z,its,n,r,k _ _ (.inl rfl) e⟩
 | tup xs=>obtain ⟨z,its,r,ob,e,c⟩:=x;exact ⟨z,its,r,ob,k _ _ (.inl rfl) e,c⟩
 | dK kvs=>obtain ⟨z,y,vs,r,ob,es,ep,e,c⟩:=x;exact ⟨z,y,vs,r,ob,es,ep,k _ _ (.inl rfl) e,c⟩
 | dT kvs=>
  obtain ⟨z,y,xs,r,ob,es,ep,e,c⟩:=x
  exact ⟨z,y,xs,Paired.mapP r fun p q z=>⟨z.1,ht _ _ z.2.1,z.2.2⟩,ob,es,ep,k _ _ (.inl rfl) e,c⟩
 | set S n=>obtain ⟨ob,es,ep,t,e,c⟩:=x;exact ⟨ob,es,ep,t,k _ _ (.inl rfl) e,c⟩
 | ins C dx fs=>
  obtain ⟨d,z,ne,e,mA,⟨od,es,ep,e2,c⟩,r⟩:=x
  exact ⟨ho _ d,z,ne,k _ _ (.inl rfl) e,mA,⟨od,es,ep,k _ _ (.inr d) e2,c⟩,r⟩
 | own y=>obtain ⟨ob,e⟩:=x;exact ⟨ob,k _ _ (.inl rfl) e⟩
 | xd fs=>obtain ⟨mA,⟨od,es,ep,e,c⟩,r⟩:=x;exact ⟨mA,⟨od,es,ep,k _ _ (.inl rfl) e,c⟩,r⟩
 | rng lo hi=>obtain ⟨t,u,v,e⟩:=x;exact ⟨t,u,v,k _ _ (.inl rfl) e⟩
 | frz ob u ih=>obtain ⟨e,q⟩:=x;exact ⟨k _ _ (.inl rfl) e,ih q⟩
 | tbl ps=>
  have e:h.get? a=some { cls:=.none,data:=.fields ps }:=x
  show h'.get? a=some { cls:=.none,data:=.fields ps }
  exact k a _ (.inl rfl) e
 | met f y=>
  have e:h.get? a=some (PySem.W.methodObj (.ref f) (.ref y)):=x
  show h'.get? a=some (PySem.W.methodObj (.ref f) (.ref y))
  exact k a _ (.inl rfl) e
 | ext φ=>obtain ⟨p,⟨o,e⟩,st⟩:=x;exact ⟨st _ _ p fun o q=>k _ _ (.inl rfl) q,⟨o,k _ _ (.inl rfl) e⟩,st⟩
theorem HOk.lt (x:HOk P w H h) (e:H a=some o):a < h.objs.size:=(x a o e).lt
theorem HOk.fresh (x:HOk P w H h) (e:h.objs.size ≤ a):H a=none:=by
 cases q:H a with
 | none=>rfl
 | some u=>exact absurd (Nat.lt_of_lt_of_le (x.lt q) e) (Nat.lt_irrefl _)
theorem HOk.kept (x:HOk P w H h) (k:∀ b u,h.get? b=some u→h'.get? b=some u):HOk P w H h':=fun a o e=>
 (x a o e).stay (fun b u _ q=>k b u q) (fun _ q=>q) fun _ _ q=>q
theorem HOk.laid (x:HOk P w H h) (k:∀ b u,h.get? b=some u→h'.get? b=some u) (hp:h.objs.size ≤ a) (new:Ve P w (upd H a o) h' a o):HOk P w (upd H a o) h':=fun b u e=>by
 have hn:=x.fresh hp
 by_cases hb:b=a
 ·subst hb;rw [fb] at e;cases e;exact new
 ·rw [rb hb] at e
  exact (x b u e).stay (fun c v _ q=>k c v q) (fun c q=>by rw [rb (zb q hn)];exact q) fun c xs q=>by rw [rb (zb q hn)];exact q
end
def Rd (H:Hp) (a:Addr) (u:HO):Prop:=H a=some u∨∃ o,H a=some (.frz o u)
theorem Rd.of {H:Hp} {a:Addr} {u:HO} (h:H a=some u):Rd H a u:=.inl h
theorem Rd.ok {P:Program} {w:World} {H:Hp} {h:Heap} {a:Addr} {u:HO} (r:Rd H a u) (x:HOk P w H h):Ve P w H h a u:=by
 rcases r with r | ⟨o,r⟩
 ·exact x a u r
 ·obtain ⟨_,q⟩:=x a _ r
  exact q
def Mut:Option HO→Prop
 | some (.lst _)=>True
 | some (.dK _)=>True
 | some (.dT _)=>True
 | some (.set _ _)=>True
 | some (.ins _ _ _)=>True
 | some (.ext _)=>True
 | _=>False
section
variable {P:Program} {w:World} {H:Hp} {h h':Heap} {x e:Addr} {o':HO}
theorem HOk.write (ok:HOk P w H h) (mu:Mut (H x)) (he:e=x∨H e=some (.own x)) (k:∀ b u,b ≠ e→h.get? b=some u→h'.get? b=some u) (heo:∃ u,h'.get? e=some u)
  (new:Ve P w (upd H x o') h' x o'):HOk P w (upd H x o') h':=fun b u q=>by
 have nown:∀ c y,H c=some (.own y)→c ≠ x:=fun c y r z=>by subst z;rw [r] at mu;exact mu
 have ntup:∀ c xs,H c=some (.tup xs)→c ≠ x:=fun c xs r z=>by subst z;rw [r] at mu;exact mu
 by_cases hb:b=x
 ·subst hb;rw [fb] at q;cases q;exact new
 ·rw [rb hb] at q
  by_cases hbe:b=e
  ·have q':H b=some (.own x):=by
    rcases he with z | z
    ·exact absurd (hbe.trans z) hb
    ·rw [hbe];exact z
   rw [q] at q';cases q'
   obtain ⟨v,hv⟩:=heo
   exact ⟨v,by rw [hbe];exact hv⟩
  ·refine (ok b u q).stay (fun c v hc r=>k c v ?_ r) (fun c r=>by rw [rb (nown c b r)];exact r) fun c xs r=>by rw [rb (ntup c xs r)];exact r
   rcases hc with rfl | hc
   ·exact hbe
   ·rintro rfl
    rcases he with z | z
    ·exact nown c b hc z
    ·rw [hc] at z;cases z;exact hb rfl
end
structure Un (fs ex:List Addr) (H H':Hp) (h h':Heap):Prop where
 keep:∀ b o,h.get? b=some o→H b=none→b ∉ fs→b ∉ ex→h'.get? b=some o
 slot:∀ b o,h.get? b=some o→H b=none→b ∈ fs→b ∉ ex→∃ sl,h'.get? b=some { o with slots:=sl }
 free:∀ b o,h.get? b=some o→H b=none→b ∉ ex→H' b=none
 there:∀ b o,h.get? b=some o→b ∉ ex→∃ o',h'.get? b=some o'
 tups:∀ b xs,H b=some (.tup xs)→H' b=some (.tup xs)
 frzs:∀ b o u,H b=some (.frz o u)→H' b=some (.frz o u)
 tbls:∀ b ps,H b=some (.tbl ps)→∃ more,H' b=some (.tbl (ps ++ more))
section
variable {fs fs' ex ex':List Addr} {H H1 H2:Hp} {h h1 h2 h':Heap} {a x e:Addr} {o:HO}
theorem Un.any (u:Un fs ex H H1 h h1) {b:Addr} {ob:Obj} (q:h.get? b=some ob) (n:H b=none) (hx:b ∉ ex):∃ sl,h1.get? b=some { ob with slots:=sl }:=by
 by_cases hb:b ∈ fs
 ·exact u.slot b ob q n hb hx
 ·exact ⟨ob.slots,u.keep b ob q n hb hx⟩
theorem Un.trans (a:Un fs ex H H1 h h1) (b:Un fs ex H1 H2 h1 h2):Un fs ex H H2 h h2 where
 keep:=fun c ob q n hc hx=>b.keep c ob (a.keep c ob q n hc hx) (a.free c ob q n hx) hc hx
 slot:=fun c ob q n hc hx=>by
  obtain ⟨sl,e1⟩:=a.slot c ob q n hc hx
  obtain ⟨sl',e2⟩:=b.slot c _ e1 (a.free c ob q n hx) hc hx
  exact ⟨sl',e2⟩
 free:=fun c ob q n hx=>by
  obtain ⟨o',e1⟩:=a.there c ob q hx
  exact b.free c o' e1 (a.free c ob q n hx) hx
 there:=fun c ob q hx=>by
  obtain ⟨o',e1⟩:=a.there c ob q hx
  exact b.there c o' e1 hx
 tups:=fun c xs q=>b.tups c xs (a.tups c xs q)
 frzs:=fun c ob xs q=>b.frzs c ob xs (a.frzs c ob xs q)
 tbls:=fun c ps q=>by
  obtain ⟨m1,e1⟩:=a.tbls c ps q
  obtain ⟨m2,e2⟩:=b.tbls c _ e1
  exact ⟨m1 ++ m2,by rw [e2,Array.append_assoc]⟩
theorem Un.kept (k:∀ b u,h.get? b=some u→h'.get? b=some u):Un fs ex H H h h':=
 ⟨fun b ob q _ _ _=>k b ob q,fun b ob q _ _ _=>⟨ob.slots,k b ob q⟩,fun _ _ _ n _=>n,fun b ob q _=>⟨ob,k b ob q⟩,fun _ _ q=>q,fun _ _ _ q=>q,fun _ ps q=>⟨#[],by rw [q];simp⟩⟩
theorem Un.refl:Un fs ex H H h h:=Un.kept fun _ _ q=>q
theorem Un.laid (k:∀ b u,h.get? b=some u→h'.get? b=some u) (hp:h.objs.size ≤ a) (hn:H a=none):Un fs ex H (upd H a o) h h' where
 keep:=fun b u q _ _ _=>k b u q
 slot:=fun b u q _ _ _=>⟨u.slots,k b u q⟩
 free:=fun b u q n _=>by rw [rb (Nat.ne_of_lt (Nat.lt_of_lt_of_le (Heap.lt_size q) hp))];exact n
 there:=fun b u q _=>⟨u,k b u q⟩
 tups:=fun b xs q=>by rw [rb (zb q hn)];exact q
 frzs:=fun b u xs q=>by rw [rb (zb q hn)];exact q
 tbls:=fun b ps q=>⟨#[],by rw [rb (zb q hn),q];simp⟩
theorem Un.write (mu:Mut (H x)) (he:e=x∨H e=some (.own x)) (k:∀ b u,b ≠ e→h.get? b=some u→h'.get? b=some u) (heo:∃ u,h'.get? e=some u):Un fs ex H (upd H x o) h h':=by
 have hx:∀ b,H b=none→b ≠ x:=fun b n z=>by subst z;rw [n] at mu;exact mu
 have hb:∀ b,H b=none→b ≠ e:=fun b n z=>by
  subst z
  rcases he with r | r
  ·exact hx b n r
  ·rw [n] at r;cases r
 have hm:∀ b u,H b=some u→¬ Mut (some u)→b ≠ x:=fun b u q nm z=>by subst z;rw [q] at mu;exact nm mu
 refine ⟨fun b u q n _ _=>k b u (hb b n) q,fun b u q n _ _=>⟨u.slots,k b u (hb b n) q⟩,fun b u q n _=>by rw [rb (hx b n)];exact n,fun b u q _=>?_,
  fun b xs q=>by rw [rb (hm b _ q fun z=>z)];exact q,fun b u xs q=>by rw [rb (hm b _ q fun z=>z)];exact q,fun b ps q=>⟨#[],by rw [rb (hm b _ q fun z=>z),q];simp⟩⟩
 by_cases hbe:b=e
 ·subst hbe;exact heo
 ·exact ⟨u,k b u hbe q⟩
theorem Un.mono (u:Un fs ex H H1 h h1) (hs:∀ b ∈ fs,b ∈ fs') (hx:∀ b ∈ ex,b ∈ ex'):Un fs' ex' H H1 h h1:=
 ⟨fun b ob q n hb he=>u.keep b ob q n (fun z=>hb (hs b z)) fun z=>he (hx b z),fun _ _ q n _ he=>u.any q n fun z=>he (hx _ z),fun b ob q n he=>u.free b ob q n fun z=>he (hx b z),fun b ob q he=>u.there b ob q fun z=>he (hx b z),u.tups,u.frzs,u.tbls⟩
end
def trk (h:Heap) (H:Hp):List Addr:=(List.range h.objs.size).filter fun a=>(H a).isSome
def aS (h:Heap) (H:Hp):Heap:=PySem.W.hideAll h (trk h H)
theorem KN (h:Heap) (H:Hp):(aS h H).objs.size=h.objs.size:=PySem.W.hideAll_size _ _
theorem YR {h:Heap} {H:Hp} {b:Addr} {o:Obj} (e:h.get? b=some o) (n:H b=none):(aS h H).get? b=some o:=
 PySem.W.hideAll_get _ e fun hm=>by
  have q:(H b).isSome=true:=(List.mem_filter.mp hm).2
  rw [n] at q;simp at q
theorem aW {h:Heap} {H:Hp} {b:Addr} {o:Obj} (e:(aS h H).get? b=some o):h.get? b=some o∧H b=none:=by
 have e':h.get? b=some o:=PySem.W.of_hideAll (trk h H) e
 refine ⟨e',?_⟩
 cases q:H b with
 | none=>rfl
 | some x=>
  have hm:b ∈ trk h H:=List.mem_filter.mpr ⟨List.mem_range.mpr (Heap.lt_size e'),by simp [q]⟩
  have z:(aS h H).get? b=none:=PySem.W.hideAll_none (trk h H) hm
  rw [z] at e;cases e
def rV (g h:Heap) (L:Addr):List (Addr × Obj):=(List.range h.objs.size).filterMap fun a=>if a=L∨(g.get? a).isSome=true then none else (h.get? a).map fun o=>(a,o)
def rest (g h:Heap) (L d:Addr):List (Addr × Obj):=(rV g h L).filter fun p=>decide (p.1 ≠ d)
end L2
namespace L2
open PySem PySem.Spec PyProof.Rows
structure Mod (K:PySem.W.Frag) (mg:Str→Option Value) (base:Heap):Prop where
 kin:K.In base
 glob:base.Ns mainGlobals mg
 blt:∃ mb,base.Ns builtinsNs mb∧∀ x:Str,x ≠ "__name__" → mb x=bootBuiltins x
 nolimit:base.NoLimit
structure Cx where
 prog:Program
 w:World
 K:PySem.W.Frag
 mg:Str→Option Value
 base:Heap
 A:Around
 N:List Str
 s₀:Shared
 H₀:Hp
 env:Env
 outer:List Env
 stack:List Env
 ex:List Addr
 fn:Str→Bool
 calm:Bool
 pn:List (Addr × Obj)
 xe:Value→Shared→Prop
def frs (l:List Env):List Addr:=l.filterMap (·.frame)
abbrev Cx.fs (X:Cx):List Addr:=frs X.outer
def Vis (sc:Scope) (x:Str):Prop:=sc.names.lookup x=some .local∨sc.names.lookup x=some .cell∨sc.names.lookup x=some .free
def Loc (sc:Scope) (x:Str):Prop:=sc.names.lookup x=some .local∨sc.names.lookup x=some .cell
def F2 (env:Env) (h:Heap) (m:Str→Option Value) (x:Str) (u:Value):Prop:=
 (env.kindOf x=some .local∧m x=some u)∨((env.kindOf x=some .cell∨env.kindOf x=some .free)∧∃ c,env.cells.lookup x=some c∧h.IsCell c (some u))
structure Cx.Ok (X:Cx):Prop where
 mod:Mod X.K X.mg X.base
 kind:X.env.scope.kind=.function
 glob:X.env.globals=mainGlobals
 blt:X.env.builtins=builtinsNs
 above:X.s₀.heap.objs.size ≤ X.env.locals
 inj:∀ x y c,X.env.cells.lookup x=some c→X.env.cells.lookup y=some c→x=y
 has:∀ x,(X.env.kindOf x=some .cell∨X.env.kindOf x=some .free)→∃ c,X.env.cells.lookup x=some c
 cab:∀ x c,X.fn x=true→X.env.cells.lookup x=some c→X.s₀.heap.objs.size ≤ c
 hd:X.calm=true→X.A.handled=none
 frames:X.A.frames=some X.stack
 stk:X.stack=X.outer∨(X.stack=X.env :: X.outer∧X.env.frame=some X.env.locals)
 exf:∀ b ∈ X.ex,b ≠ X.env.locals∧∀ x c,X.env.cells.lookup x=some c→c ≠ b
 bs:∀ b o,X.base.get? b=some o→X.s₀.heap.get? b=some o∧X.H₀ b=none
 bsz:X.base.objs.size ≤ X.s₀.heap.objs.size
 noex:∀ b o,X.base.get? b=some o→b ∉ X.ex
 exfs:∀ b ∈ X.ex,b ∉ X.fs
 funs:X.s₀.heap.FunFrames X.base X.outer
 frf:∀ b ∈ X.fs,X.H₀ b=none
structure Inv (X:Cx) (pins:List (Addr × Obj)) (σ:List (Option V)) (H:Hp) (s:Shared):Prop where
 ok:X.Ok
 os:s.os=X.s₀.os
 bare:AllBare s.gens
 base:Un X.fs X.ex X.H₀ H X.s₀.heap s.heap
 loc:∃ m,s.heap.Ns X.env.locals m∧∀ (i:Nat) (x:Str) (v:V),X.N[i]? = some x→σ[i]? = some (some v)→Vis X.env.scope x→∃ u,cf v u∧F2 X.env s.heap m x u
 cell:∀ x c,X.env.cells.lookup x=some c→∃ v,s.heap.IsCell c v
 free:H X.env.locals=none
 freeC:∀ x c,X.env.cells.lookup x=some c→H c=none
 pin:∀ p ∈ X.pn ++ pins,s.heap.get? p.1=some p.2∧H p.1=none∧p.1 ≠ X.env.locals∧p.1 ∉ X.fs∧∀ v,p.2.data ≠ .cell v
 hok:HOk X.prog X.w H s.heap
 len:σ.length=X.N.length
section
variable {X:Cx} {pins:List (Addr × Obj)} {σ:List (Option V)} {H H':Hp} {s:Shared} {h':Heap}
theorem Cx.Ok.nofr (ok:X.Ok) {b:Addr} {o:Obj} (e:X.base.get? b=some o):b ∉ X.fs:=fun hb=>by
 have:=(ok.funs.mem hb).1
 rw [e] at this;cases this
theorem Inv.bs (I:Inv X pins σ H s):∀ b o,X.base.get? b=some o→s.heap.get? b=some o∧H b=none:=fun b o e=>
 ⟨I.base.keep b o (I.ok.bs b o e).1 (I.ok.bs b o e).2 (I.ok.nofr e) (I.ok.noex b o e),I.base.free b o (I.ok.bs b o e).1 (I.ok.bs b o e).2 (I.ok.noex b o e)⟩
theorem Inv.bk (I:Inv X pins σ H s):∀ b o,X.base.get? b=some o→s.heap.get? b=some o:=fun b o e=>(I.bs b o e).1
theorem Inv.mod (I:Inv X pins σ H s):Mod X.K X.mg X.base:=I.ok.mod
theorem Inv.kIn (I:Inv X pins σ H s):X.K.In s.heap:=I.ok.mod.kin.keeps I.bk
theorem Inv.nolimit (I:Inv X pins σ H s):s.heap.NoLimit:=I.ok.mod.nolimit.keeps I.bk
theorem Inv.fr (I:Inv X pins σ H s):∃ m,Fr X.base X.env.locals s.heap m:=
 let ⟨m,hn,_⟩:=I.loc
 ⟨m,hn,I.bk,Nat.le_trans I.ok.bsz I.ok.above⟩
theorem Inv.lt (I:Inv X pins σ H s):X.env.locals < s.heap.objs.size:=let ⟨_,hn,_⟩:=I.loc;hn.lt
theorem Inv.sz (I:Inv X pins σ H s):X.s₀.heap.objs.size ≤ s.heap.objs.size:=Nat.le_trans I.ok.above (Nat.le_of_lt I.lt)
theorem Inv.nofs (I:Inv X pins σ H s) {a:Addr} (h:s.heap.objs.size ≤ a):a ∉ X.fs:=fun hb=>by
 obtain ⟨_,o,ho,_⟩:=I.ok.funs.mem hb
 exact absurd (Nat.lt_of_lt_of_le (Heap.lt_size ho) (Nat.le_trans I.sz h)) (Nat.lt_irrefl _)
theorem Inv.cne (I:Inv X pins σ H s):∀ x c,X.env.cells.lookup x=some c→c ≠ X.env.locals:=fun x c e z=>by
 obtain ⟨v,o,ho,hd⟩:=I.cell x c e
 obtain ⟨m,⟨o',es,ep,ho',hd',_⟩,_⟩:=I.loc
 rw [z,ho'] at ho;cases ho;rw [hd'] at hd;cases hd
theorem Inv.funs (I:Inv X pins σ H s):s.heap.FunFrames X.base X.outer:=by
 have all:∀ (l:List Env),(∀ b ∈ frs l,b ∈ X.fs)→X.s₀.heap.FunFrames X.base l→s.heap.FunFrames X.base l:=by
  intro l
  induction l with
  | nil=>intro _ _;trivial
  | cons env r ih=>
   intro hs hl
   obtain ⟨hk,⟨L,o,hf,hn,ho,hd⟩,hr⟩:=hl
   have hL:L ∈ X.fs:=hs L (by unfold frs;rw [List.filterMap_cons,hf];exact List.mem_cons_self)
   obtain ⟨sl,e⟩:=I.base.slot L o ho (I.ok.frf L hL) hL fun z=>I.ok.exfs L z hL
   exact ⟨hk,⟨L,_,hf,hn,e,hd⟩,ih (fun b hb=>hs b (by unfold frs;rw [List.filterMap_cons,hf];exact List.mem_cons_of_mem _ hb)) hr⟩
 exact all X.outer (fun _ hb=>hb) I.ok.funs
theorem Inv.stack (I:Inv X pins σ H s):s.heap.FunFrames X.base X.stack:=by
 rcases I.ok.stk with e | ⟨e,hf⟩
 ·rw [e];exact I.funs
 ·rw [e]
  obtain ⟨m,hn,_⟩:=I.loc
  refine .cons (by rw [I.ok.kind];decide) hf hn ?_ I.funs
  exact Heap.get?_none_of_le (Nat.le_trans I.ok.bsz I.ok.above)
theorem Inv.stkSub (I:Inv X pins σ H s):∀ b ∈ frs X.stack,b ∈ X.env.locals :: X.fs:=fun b hb=>by
 rcases I.ok.stk with e | ⟨e,hf⟩
 ·rw [e] at hb;exact List.mem_cons_of_mem _ hb
 ·rw [e] at hb
  unfold frs at hb
  rw [List.filterMap_cons,hf] at hb
  exact hb
theorem Inv.stkFree (I:Inv X pins σ H s):∀ b ∈ frs X.stack,H b=none:=fun b hb=>by
 rcases List.mem_cons.mp (I.stkSub b hb) with e | hb
 ·rw [e];exact I.free
 ·obtain ⟨_,o,ho,_⟩:=I.ok.funs.mem hb
  exact I.base.free b o ho (I.ok.frf b hb) fun z=>I.ok.exfs b z hb
theorem Inv.step {g':Array GenState} {t':Nat} {d':Drawn} {ch:List Addr} (I:Inv X pins σ H s)
  (hch:∀ b ∈ ch,(b ∈ X.ex∨X.s₀.heap.objs.size ≤ b)∧b ≠ X.env.locals∧(∀ x c,X.env.cells.lookup x=some c→c ≠ b)∧∀ p ∈ X.pn ++ pins,p.1 ≠ b)
  (keep:∀ b o,b ≠ X.env.locals→b ∉ X.fs→b ∉ ch→s.heap.get? b=some o→H b=none→h'.get? b=some o)
  (slot:∀ b o,b ≠ X.env.locals→b ∈ X.fs→b ∉ ch→s.heap.get? b=some o→H b=none→∃ sl,h'.get? b=some { o with slots:=sl }) (free:∀ b o,b ∉ ch→s.heap.get? b=some o→H b=none→H' b=none)
  (there:∀ b o,b ∉ ch→s.heap.get? b=some o→∃ o',h'.get? b=some o')
  (tups:∀ b xs,H b=some (.tup xs)→H' b=some (.tup xs)) (frzs:∀ b o u,H b=some (.frz o u)→H' b=some (.frz o u)) (tbls:∀ b ps,H b=some (.tbl ps)→∃ more,H' b=some (.tbl (ps ++ more)))
  (ns:∀ m,s.heap.Ns X.env.locals m→h'.Ns X.env.locals m) (hok:HOk X.prog X.w H' h') (hg:AllBare g') :
  Inv X pins σ H' { s with heap:=h',gens:=g',drawn:=d',toks:=t' }:=by
 have neL:∀ b o,X.s₀.heap.get? b=some o→b ≠ X.env.locals:=fun b o e=>Nat.ne_of_lt (Nat.lt_of_lt_of_le (Heap.lt_size e) I.ok.above)
 have neC:∀ b o,X.s₀.heap.get? b=some o→b ∉ X.ex→b ∉ ch:=fun b o e hx hb=>by
  rcases (hch b hb).1 with z | z
  ·exact hx z
  ·exact absurd (Nat.lt_of_lt_of_le (Heap.lt_size e) z) (Nat.lt_irrefl _)
 have cellK:∀ x c,X.env.cells.lookup x=some c→∀ v,s.heap.IsCell c v→h'.IsCell c v:=fun x c e v ⟨o,ho,hd⟩=>by
  have nch:c ∉ ch:=fun z=>(hch c z).2.2.1 x c e rfl
  by_cases hc:c ∈ X.fs
  ·obtain ⟨sl,q⟩:=slot c o (I.cne x c e) hc nch ho (I.freeC x c e)
   exact ⟨_,q,hd⟩
  ·exact ⟨o,keep c o (I.cne x c e) hc nch ho (I.freeC x c e),hd⟩
 refine ⟨I.ok,I.os,hg,⟨fun b o e n hb hx=>?_,fun b o e n hb hx=>?_,fun b o e n hx=>?_,fun b o e hx=>?_,fun b xs e=>tups b xs (I.base.tups b xs e),fun b o xs e=>frzs b o xs (I.base.frzs b o xs e),fun b ps e=>?_⟩,?_,fun x c e=>?_,?_,fun x c e=>?_,fun p hp=>?_,hok,I.len⟩
 ·exact keep b o (neL b o e) hb (neC b o e hx) (I.base.keep b o e n hb hx) (I.base.free b o e n hx)
 ·obtain ⟨sl,e1⟩:=I.base.slot b o e n hb hx
  obtain ⟨sl',e2⟩:=slot b _ (neL b o e) hb (neC b o e hx) e1 (I.base.free b o e n hx)
  exact ⟨sl',e2⟩
 ·obtain ⟨o',e1⟩:=I.base.there b o e hx
  exact free b o' (neC b o e hx) e1 (I.base.free b o e n hx)
 ·obtain ⟨o',e1⟩:=I.base.there b o e hx
  exact there b o' (neC b o e hx) e1
 ·obtain ⟨m1,e1⟩:=I.base.tbls b ps e
  obtain ⟨m2,e2⟩:=tbls b _ e1
  exact ⟨m1 ++ m2,by rw [e2,Array.append_assoc]⟩
 ·obtain ⟨m,hn,hl⟩:=I.loc
  refine ⟨m,ns m hn,fun i x v e1 e2 e3=>?_⟩
  obtain ⟨u,r,l⟩:=hl i x v e1 e2 e3
  refine ⟨u,r,?_⟩
  rcases l with l | ⟨k,c,e,z⟩
  ·exact .inl l
  ·exact .inr ⟨k,c,e,cellK x c e _ z⟩
 ·obtain ⟨v,z⟩:=I.cell x c e
  exact ⟨v,cellK x c e v z⟩
 ·obtain ⟨m,⟨o,_,_,ho,_⟩,_⟩:=I.loc
  exact free _ o (fun z=>(hch _ z).2.1 rfl) ho I.free
 ·obtain ⟨v,o,ho,hd⟩:=I.cell x c e
  exact free c o (fun z=>(hch c z).2.2.1 x c e rfl) ho (I.freeC x c e)
 ·obtain ⟨e,n,ne,nf,d⟩:=I.pin p hp
  have nch:p.1 ∉ ch:=fun z=>(hch p.1 z).2.2.2 p hp rfl
  exact ⟨keep p.1 p.2 ne nf nch e n,free p.1 p.2 nch e n,ne,nf,d⟩
theorem Inv.un {t':Nat} (I:Inv X pins σ H s) (u:Un X.fs [] H H' s.heap h') (hok:HOk X.prog X.w H' h'):Inv X pins σ H' { s with heap:=h',toks:=t' }:=by
 obtain ⟨m,⟨o,es,ep,ho,r⟩,_⟩:=id I.loc
 obtain ⟨sl,hL⟩:=u.any ho I.free (by simp)
 exact I.step (g':=s.gens) (d':=s.drawn) (ch:=[]) (fun _ z=>nomatch z) (fun b o _ hb _ e n=>u.keep b o e n hb (by simp)) (fun b o _ hb _ e n=>u.slot b o e n hb (by simp)) (fun b o _ e n=>u.free b o e n (by simp)) (fun b o _ e=>u.there b o e (by simp)) u.tups u.frzs u.tbls (fun m' hm=>by
  obtain ⟨o',es',ep',ho',r'⟩:=hm
  rw [ho] at ho';cases ho'
  exact ⟨_,es',ep',hL,r'⟩) hok I.bare
theorem Inv.call {g':Array GenState} {t':Nat} {d':Drawn} {ch:List Addr} (I:Inv X pins σ H s) (u:Un (frs X.stack) ch H H' s.heap h') (hok:HOk X.prog X.w H' h') (hg:AllBare g')
  (hch:∀ b ∈ ch,(b ∈ X.ex∨X.s₀.heap.objs.size ≤ b)∧b ≠ X.env.locals∧(∀ x c,X.env.cells.lookup x=some c→c ≠ b)∧∀ p ∈ X.pn ++ pins,p.1 ≠ b) :
  Inv X pins σ H' { s with heap:=h',gens:=g',drawn:=d',toks:=t' }:=by
 obtain ⟨m,⟨o,es,ep,ho,r⟩,_⟩:=id I.loc
 obtain ⟨sl,hL⟩:=u.any ho I.free fun z=>(hch _ z).2.1 rfl
 exact I.step (ch:=ch) hch (fun b o hL hb hc e n=>u.keep b o e n (fun z=>(List.mem_cons.mp (I.stkSub b z)).elim hL hb) hc) (fun b o _ _ hc e n=>u.any e n hc) (fun b o hc e n=>u.free b o e n hc) (fun b o hc e=>u.there b o e hc) u.tups u.frzs u.tbls (fun m' hm=>by
  obtain ⟨o',es',ep',ho',r'⟩:=hm
  rw [ho] at ho';cases ho'
  exact ⟨_,es',ep',hL,r'⟩) hok hg
theorem Inv.turned {t':Nat} {it:Addr} (I:Inv X pins σ H s) (k:∀ b o,b ≠ it→s.heap.get? b=some o→h'.get? b=some o) (hn:H it=none) (hL:it ≠ X.env.locals)
  (h1:it ∈ X.ex∨X.s₀.heap.objs.size ≤ it) (h2:∀ x c,X.env.cells.lookup x=some c→c ≠ it) (h3:∀ p ∈ X.pn ++ pins,p.1 ≠ it):Inv X pins σ H { s with heap:=h',toks:=t' }:=by
 have nit:∀ b u,H b=some u→b ≠ it:=fun b u e z=>by rw [z,hn] at e;cases e
 refine I.step (g':=s.gens) (d':=s.drawn) (ch:=[it]) (fun b hb=>?_) (fun b o _ _ hc e _=>k b o (fun z=>hc (by simp [z])) e) (fun b o _ _ hc e _=>⟨o.slots,k b o (fun z=>hc (by simp [z])) e⟩) (fun _ _ _ _ n=>n)
  (fun b o hc e=>⟨o,k b o (fun z=>hc (by simp [z])) e⟩) (fun _ _ e=>e) (fun _ _ _ e=>e) (fun b ps e=>⟨#[],by rw [e];simp⟩) (fun m hm=>?_) (fun b u e=>?_) I.bare
 ·have e:b=it:=by simpa using hb
  subst e
  exact ⟨h1,hL,h2,h3⟩
 ·obtain ⟨o,es,ep,ho,r⟩:=hm
  exact ⟨o,es,ep,k _ o (Ne.symm hL) ho,r⟩
 ·refine (I.hok b u e).stay (fun c v hc q=>k c v ?_ q) (fun _ q=>q) fun _ _ q=>q
  rcases hc with z | z
  ·rw [z];exact nit b u e
  ·exact nit c _ z
theorem Inv.tok (I:Inv X pins σ H s) (t:Nat):Inv X pins σ H { s with toks:=t }:=I.un (h':=s.heap) (t':=t) Un.refl I.hok
theorem Inv.kept {t':Nat} (I:Inv X pins σ H s) (k:∀ b u,s.heap.get? b=some u→h'.get? b=some u):Inv X pins σ H { s with heap:=h',toks:=t' }:=I.un (Un.kept k) (I.hok.kept k)
theorem Inv.laid {a:Addr} {o:HO} {t':Nat} (I:Inv X pins σ H s) (k:∀ b u,s.heap.get? b=some u→h'.get? b=some u) (hp:s.heap.objs.size ≤ a) (new:Ve X.prog X.w (upd H a o) h' a o) :
  Inv X pins σ (upd H a o) { s with heap:=h',toks:=t' }:=I.un (Un.laid k hp (I.hok.fresh hp)) (I.hok.laid k hp new)
theorem Inv.write {x e:Addr} {o:HO} {t':Nat} (I:Inv X pins σ H s) (mu:Mut (H x)) (he:e=x∨H e=some (.own x)) (k:∀ b u,b ≠ e→s.heap.get? b=some u→h'.get? b=some u) (heo:∃ u,h'.get? e=some u)
  (new:Ve X.prog X.w (upd H x o) h' x o):Inv X pins σ (upd H x o) { s with heap:=h',toks:=t' }:=I.un (Un.write mu he k heo) (I.hok.write mu he k heo new)
theorem Inv.weak {σ':List (Option V)} (I:Inv X pins σ H s) (hl:σ'.length=σ.length) (w:∀ (i:Nat) v,σ'[i]? = some (some v)→σ[i]? = some (some v)):Inv X pins σ' H s:=
 ⟨I.ok,I.os,I.bare,I.base,let ⟨m,hn,hl'⟩:=I.loc;⟨m,hn,fun i x v e1 e2 e3=>hl' i x v e1 (w i v e2) e3⟩,I.cell,I.free,I.freeC,I.pin,I.hok,hl.trans I.len⟩
theorem Inv.pins_of {pins':List (Addr × Obj)} (I:Inv X pins σ H s) (h:∀ p ∈ pins',s.heap.get? p.1=some p.2∧H p.1=none∧p.1 ≠ X.env.locals∧p.1 ∉ X.fs∧∀ v,p.2.data ≠ .cell v):Inv X pins' σ H s:=
 ⟨I.ok,I.os,I.bare,I.base,I.loc,I.cell,I.free,I.freeC,fun p hp=>(List.mem_append.mp hp).elim (fun z=>I.pin p (List.mem_append_left _ z)) (h p),I.hok,I.len⟩
theorem JF {N:List Str} (hN:N.Nodup) {i j:Nat} {x:Str} (a:N[i]? = some x) (b:N[j]? = some x):i=j:=by
 obtain ⟨h1,e1⟩:=List.getElem?_eq_some_iff.mp a
 obtain ⟨h2,e2⟩:=List.getElem?_eq_some_iff.mp b
 exact (List.getElem_inj hN).mp (e1.trans e2.symm)
theorem jG {M:Model} {A:Around} {E:Value→Shared→Prop} {i:Nat} {x:Str} {v:V} {u:Value} {Q:Unit→Shared→Prop} (I:Inv X pins σ H s) (hN:X.N.Nodup) (hi:X.N[i]? = some x) (hx:Loc X.env.scope x) (r:cf v u)
  (h:∀ s',Inv X pins (σ.set i (some v)) H s'→(∃ a,Heap.SameBut a s.heap s'.heap∧(a=X.env.locals∨X.env.cells.lookup x=some a))→Q () s') (hf:X.fn x=true∨X.env.scope.names.lookup x=some .local:=by first | exact .inl rfl | exact .inr rfl | assumption):wpAny M A (storeName X.env x u) Q E s:=by
 obtain ⟨m,hn,hl⟩:=id I.loc
 have hcls:(X.env.scope.kind == .class || (X.env.scope.kind == .module && X.env.locals != X.env.globals))=false:=by rw [I.ok.kind];rfl
 have hiσ:i < σ.length:=by rw [I.len];exact (List.getElem?_eq_some_iff.mp hi).1
 have cne:=I.cne
 have tracked:∀ {a:Addr} {h':Heap},(∃ o,s.heap.get? a=some o∧H a=none)→Heap.SameBut a s.heap h'→HOk X.prog X.w H h':=fun {a h'} ha hs b ob e=>by
  obtain ⟨_,_,hfree⟩:=ha
  refine (I.hok b ob e).stay (fun c w' hc q=>(hs.2 c ?_).trans q) (fun _ q=>q) fun _ _ q=>q
  rintro rfl
  rcases hc with rfl | hc
  ·rw [hfree] at e;cases e
  ·rw [hfree] at hc;cases hc
 rcases hx with hk | hk
 ·refine wpAny_storeName_local hk hn (fun h' hn' hs=>?_) hcls
  obtain ⟨oL,_,_,hoL,_⟩:=id hn
  refine h _ ⟨I.ok,I.os,I.bare,⟨fun b o e n hb hx=>?_,fun b o e n hb hx=>?_,I.base.free,fun b o e hx=>?_,I.base.tups,I.base.frzs,I.base.tbls⟩,⟨_,hn',fun j y v' e1 e2 e3=>?_⟩,fun y c e=>?_,I.free,I.freeC,fun p hp=>?_,tracked ⟨oL,hoL,I.free⟩ hs,by simpa using I.len⟩ ⟨_,hs,.inl rfl⟩
  ·exact (hs.2 b (Nat.ne_of_lt (Nat.lt_of_lt_of_le (Heap.lt_size e) I.ok.above))).trans (I.base.keep b o e n hb hx)
  ·obtain ⟨sl,e1⟩:=I.base.slot b o e n hb hx
   exact ⟨sl,(hs.2 b (Nat.ne_of_lt (Nat.lt_of_lt_of_le (Heap.lt_size e) I.ok.above))).trans e1⟩
  ·obtain ⟨o',e1⟩:=I.base.there b o e hx
   exact ⟨o',(hs.2 b (Nat.ne_of_lt (Nat.lt_of_lt_of_le (Heap.lt_size e) I.ok.above))).trans e1⟩
  ·by_cases hj:j=i
   ·subst hj
    rw [hi] at e1;cases e1
    rw [List.getElem?_set_self hiσ] at e2
    cases e2
    exact ⟨u,r,.inl ⟨hk,by simp⟩⟩
   ·rw [List.getElem?_set_ne (Ne.symm hj)] at e2
    obtain ⟨u',r',q⟩:=hl j y v' e1 e2 e3
    refine ⟨u',r',?_⟩
    rcases q with ⟨k,e⟩ | ⟨k,c,e,z⟩
    ·refine .inl ⟨k,?_⟩
     have:y ≠ x:=fun e=>hj (JF hN e1 (e ▸ hi))
     simp [this,e]
    ·exact .inr ⟨k,c,e,z.sameBut hs (cne y c e)⟩
  ·obtain ⟨w',z⟩:=I.cell y c e
   exact ⟨w',z.sameBut hs (cne y c e)⟩
  ·obtain ⟨e,n,ne,nf,d⟩:=I.pin p hp
   exact ⟨(hs.2 p.1 ne).trans e,n,ne,nf,d⟩
 ·have hfn:X.fn x=true:=by
   rcases hf with z | z
   ·exact z
   ·rw [z] at hk;cases hk
  obtain ⟨c,hc⟩:=I.ok.has x (.inl hk)
  obtain ⟨w',z⟩:=I.cell x c hc
  refine wpAny_storeName_cell I.ok.kind hk hc z (fun h' hc' hs=>?_)
  obtain ⟨oc,hoc,hocd⟩:=id z
  refine h { s with heap:=h' } ⟨I.ok,I.os,I.bare,⟨fun b o e n hb hx=>?_,fun b o e n hb hx=>?_,I.base.free,fun b o e hx=>?_,I.base.tups,I.base.frzs,I.base.tbls⟩,⟨m,hn.sameBut hs (Ne.symm (cne x c hc)),fun j y v' e1 e2 e3=>?_⟩,fun y c' e=>?_,I.free,I.freeC,fun p hp=>?_,tracked ⟨oc,hoc,I.freeC x c hc⟩ hs,by simpa using I.len⟩ ⟨c,hs,.inr hc⟩
  ·exact (hs.2 b (Nat.ne_of_lt (Nat.lt_of_lt_of_le (Heap.lt_size e) (I.ok.cab x c hfn hc)))).trans (I.base.keep b o e n hb hx)
  ·obtain ⟨sl,e1⟩:=I.base.slot b o e n hb hx
   exact ⟨sl,(hs.2 b (Nat.ne_of_lt (Nat.lt_of_lt_of_le (Heap.lt_size e) (I.ok.cab x c hfn hc)))).trans e1⟩
  ·obtain ⟨o',e1⟩:=I.base.there b o e hx
   exact ⟨o',(hs.2 b (Nat.ne_of_lt (Nat.lt_of_lt_of_le (Heap.lt_size e) (I.ok.cab x c hfn hc)))).trans e1⟩
  ·by_cases hj:j=i
   ·subst hj
    rw [hi] at e1;cases e1
    rw [List.getElem?_set_self hiσ] at e2
    cases e2
    exact ⟨u,r,.inr ⟨.inl hk,c,hc,hc'⟩⟩
   ·rw [List.getElem?_set_ne (Ne.symm hj)] at e2
    obtain ⟨u',r',q⟩:=hl j y v' e1 e2 e3
    refine ⟨u',r',?_⟩
    rcases q with q | ⟨k,c',e,z'⟩
    ·exact .inl q
    ·refine .inr ⟨k,c',e,z'.sameBut hs ?_⟩
     rintro rfl
     exact hj (JF hN e1 (I.ok.inj _ _ _ e hc ▸ hi))
  ·by_cases hcc:c'=c
   ·subst hcc;exact ⟨_,hc'⟩
   ·obtain ⟨w2,z2⟩:=I.cell y c' e
    exact ⟨w2,z2.sameBut hs hcc⟩
  ·obtain ⟨e,n,ne,nf,d⟩:=I.pin p hp
   refine ⟨(hs.2 p.1 ?_).trans e,n,ne,nf,d⟩
   intro q
   rw [q,hoc] at e
   have q':oc=p.2:=Option.some.inj e
   exact d w' (by rw [← q'];exact hocd)
theorem Xy {M:Model} {A:Around} {E:Value→Shared→Prop} {i:Nat} {x:Str} {v:V} {u:Value} {Q:Unit→Shared→Prop} (I:Inv X pins σ H s) (hN:X.N.Nodup) (hi:X.N[i]? = some x) (hx:Loc X.env.scope x) (r:cf v u)
  (h:∀ s',Inv X pins (σ.set i (some v)) H s'→Q () s') (hf:X.fn x=true∨X.env.scope.names.lookup x=some .local:=by first | exact .inl rfl | exact .inr rfl | assumption):wpAny M A (storeName X.env x u) Q E s:=
 jG I hN hi hx r (fun s' I' _=>h s' I') hf
theorem Inv.call' {s':Shared} {ch:List Addr} (I:Inv X pins σ H s) (ho:s'.os=s.os) (u:Un (frs X.stack) ch H H' s.heap s'.heap) (hok:HOk X.prog X.w H' s'.heap) (hg:AllBare s'.gens)
  (hch:∀ b ∈ ch,(b ∈ X.ex∨X.s₀.heap.objs.size ≤ b)∧b ≠ X.env.locals∧(∀ x c,X.env.cells.lookup x=some c→c ≠ b)∧∀ p ∈ X.pn ++ pins,p.1 ≠ b):Inv X pins σ H' s':=by
 obtain ⟨h',g',d',t',o'⟩:=s'
 have e:o'=s.os:=ho
 subst e
 exact I.call (g':=g') (t':=t') (d':=d') u hok hg hch
end
abbrev XK:=Value→Option Addr→Hp→Prop
abbrev St:=List (Option V)
abbrev VK:=V→Hp→Prop
abbrev TE:=St→Hp→VK→Prop
abbrev TT:=St→Hp→(Bool→Hp→Prop)→Prop
abbrev TA:=St→Hp→(List V→Hp→Prop)→Prop
structure Ui where
 nx:St→Hp→Prop
 rt:VK
 bk:St→Hp→Prop:=fun _ _=>False
 ct:St→Hp→Prop:=fun _ _=>False
abbrev TS:=Ui→St→Hp→Prop
def EP (X:Cx) (pins:List (Addr × Obj)) (σ:St) (Q:VK) (u:Value) (s':Shared):Prop:=∃ v H',Inv X pins σ H' s'∧cf v u∧Q v H'
def TP (X:Cx) (pins:List (Addr × Obj)) (σ:St) (Q:Bool→Hp→Prop) (b:Bool) (s':Shared):Prop:=∃ H',Inv X pins σ H' s'∧Q b H'
def AP (X:Cx) (pins:List (Addr × Obj)) (σ:St) (Q:List V→Hp→Prop) (us:List Value) (s':Shared):Prop:=∃ vs H',Inv X pins σ H' s'∧Ae vs us∧Q vs H'
def SP (X:Cx) (pins:List (Addr × Obj)) (D:Ui) (f:Flow) (s':Shared):Prop:=
 match f with
 | .next=>∃ σ' H',Inv X pins σ' H' s'∧D.nx σ' H'
 | .brk=>∃ σ' H',Inv X pins σ' H' s'∧D.bk σ' H'
 | .cont=>∃ σ' H',Inv X pins σ' H' s'∧D.ct σ' H'
 | .ret u=>∃ v σ' H',Inv X pins σ' H' s'∧cf v u∧D.rt v H'
def PE (X:Cx) (e:Expr) (t:TE):Prop:=
 ∀ (pins:List (Addr × Obj)) (s:Shared) (σ:St) (H:Hp) (Q:VK),Inv X pins σ H s→t σ H Q→wpAny (model X.prog X.w) X.A (eval e X.env) (EP X pins σ Q) X.xe s
def PT (X:Cx) (e:Expr) (t:TT):Prop:=
 ∀ (pins:List (Addr × Obj)) (s:Shared) (σ:St) (H:Hp) (Q:Bool→Hp→Prop),Inv X pins σ H s→t σ H Q→wpAny (model X.prog X.w) X.A (isTrue e X.env (eval e X.env)) (TP X pins σ Q) X.xe s
def PW (X:Cx) (e:Expr) (t:TT):Prop:=
 ∀ (whole:Sem Value) (pins:List (Addr × Obj)) (s:Shared) (σ:St) (H:Hp) (Q:Bool→Hp→Prop),Inv X pins σ H s→t σ H Q→wpAny (model X.prog X.w) X.A (isTrue e X.env whole) (TP X pins σ Q) X.xe s
theorem PW.pt {X:Cx} {e:Expr} {t:TT} (h:PW X e t):PT X e t:=h _
def PA (X:Cx) (es:List Expr) (t:TA):Prop:=
 ∀ (pos:Pos) (pins:List (Addr × Obj)) (s:Shared) (σ:St) (H:Hp) (Q:List V→Hp→Prop),Inv X pins σ H s→t σ H Q→wpAny (model X.prog X.w) X.A (spliced (backTo pos (starEach es X.env))) (AP X pins σ Q) X.xe s
def PS (X:Cx) (st:Stmt) (t:TS):Prop:=
 ∀ (pins:List (Addr × Obj)) (s:Shared) (σ:St) (H:Hp) (D:Ui),Inv X pins σ H s→t D σ H→wpAny (model X.prog X.w) X.A (exec st X.env) (SP X pins D) X.xe s
def PSs (X:Cx) (st:List Stmt) (t:TS):Prop:=
 ∀ (pins:List (Addr × Obj)) (s:Shared) (σ:St) (H:Hp) (D:Ui),Inv X pins σ H s→t D σ H→wpAny (model X.prog X.w) X.A (execs st X.env) (SP X pins D) X.xe s
theorem thn {α:Type} {t:Sem α} {Q Q':α→Shared→Prop} {M:Model} {A:Around} {E:Value→Shared→Prop} {s:Shared} (h:wpAny M A t Q E s) (hQ:∀ a s,Q a s→Q' a s):wpAny M A t Q' E s:=wpAny_mono h hQ fun _ _ x=>x
end L2
namespace L2
open PySem PySem.Spec PyProof.Rows
section
variable {X:Cx}
def RZ (i:Nat):TE:=fun σ H Q=>∃ v,σ[i]? = some (some v)∧Q v H
def tC (v:V):TE:=fun _ H Q=>Q v H
theorem fX {i:Nat} {x:Str} {pos:Pos} (hN:X.N[i]? = some x) (hv:Vis X.env.scope x) (hd:(x == ("__debug__" : Str))=false:=by decide) (hcd:(x == ("__classdict__" : Str))=false:=by decide):PE X (.Name x pos) (RZ i):=by
 intro pins s σ H Q I h
 obtain ⟨v,e,h⟩:=h
 obtain ⟨m,hn,hl⟩:=I.loc
 obtain ⟨u,r,l⟩:=hl i x v hN e hv
 have fin:EP X pins σ Q u s:=⟨v,H,I,r,h⟩
 rcases l with ⟨hk,hm⟩ | ⟨hk,c,hc,hcell⟩
 ·exact wpAny_Name (wpAny_loadName_local I.ok.kind hk hn hm fin) hd
 ·rcases hk with hk | hk
  ·exact wpAny_Name (wpAny_loadName_cell I.ok.kind hk hc hcell fin) hd
  ·exact wpAny_Name (wpAny_loadName_free I.ok.kind hk hc hcell fin hcd) hd
theorem Ab {i j pos}:PE X (.Constant (.int i) j pos) (tC (.int i)):=fun _ _ _ H _ I h=>wpAny_Constant_int ⟨.int i,H,I.tok _,⟨_,rfl⟩,h⟩
theorem BJ {b j pos}:PE X (.Constant (.bool b) j pos) (tC (.bl b)):=fun _ _ _ H _ I h=>Constant_bool ⟨.bl b,H,I,rfl,h⟩
theorem cK {j pos}:PE X (.Constant .none j pos) (tC .non):=fun _ _ _ H _ I h=>Constant_none ⟨.non,H,I,rfl,h⟩
theorem Yb {x j pos}:PE X (.Constant (.str x) j pos) (tC (.str x)):=fun _ _ _ H _ I h=>Calls.Constant_str ⟨.str x,H,I.tok _,⟨_,rfl⟩,h⟩
def Gl (X:Cx) (x:Str):Prop:=X.env.kindOf x=some .globalImplicit
theorem lp {E:Value→Shared→Prop} {pins:List (Addr × Obj)} {s:Shared} {σ:St} {H:Hp} {x:Str} {u:Value} {pos:Pos} {Q:Value→Shared→Prop} (I:Inv X pins σ H s) (hg:Gl X x) (hm:X.mg x=some u) (h:Q u s)
  (hd:(x == ("__debug__" : Str))=false:=by decide):wpAny (model X.prog X.w) X.A (eval (.Name x pos) X.env) Q E s:=
 Calls.Name_function_global I.ok.kind hg (Calls.loadGlobal_global (by rw [I.ok.glob];exact I.mod.glob.keeps I.bk) hm h) hd
theorem Yu {E:Value→Shared→Prop} {pins:List (Addr × Obj)} {s:Shared} {σ:St} {H:Hp} {x:Str} {u:Value} {pos:Pos} {Q:Value→Shared→Prop} (I:Inv X pins σ H s) (hg:Gl X x) (hm:X.mg x=none) (hv:bootBuiltins x=some u) (h:Q u s)
  (hn:x ≠ "__name__" := by decide) (hd:(x == ("__debug__" : Str))=false:=by decide):wpAny (model X.prog X.w) X.A (eval (.Name x pos) X.env) Q E s:=by
 obtain ⟨mb,h1,h2⟩:=I.mod.blt
 exact Calls.Name_function_global I.ok.kind hg (Calls.loadGlobal_builtin (by rw [I.ok.glob];exact I.mod.glob.keeps I.bk) hm (by rw [I.ok.blt];exact h1.keeps I.bk) ((h2 x hn).trans hv) h) hd
theorem Uh {x:Str} {v:V} {u:Value} {pos:Pos} (hg:Gl X x) (hm:X.mg x=some u) (r:cf v u) (hd:(x == ("__debug__" : Str))=false:=by decide):PE X (.Name x pos) (tC v):=
 fun _ _ _ H _ I h=>lp I hg hm ⟨v,H,I,r,h⟩ hd
theorem wQ {x:Str} {v:V} {u:Value} {pos:Pos} (hg:Gl X x) (hm:X.mg x=none) (hv:bootBuiltins x=some u) (r:cf v u) (hn:x ≠ "__name__" := by decide) (hd:(x == ("__debug__" : Str))=false:=by decide):PE X (.Name x pos) (tC v):=
 fun _ _ _ H _ I h=>Yu I hg hm hv ⟨v,H,I,r,h⟩ hn hd
def t2I (ta tb:TE) (k:Int→Int→Hp→Prop):St→Hp→Prop:=fun σ H=>ta σ H fun x H1=>tb σ H1 fun y H2=>∃ i j,x=.int i∧y=.int j∧k i j H2
def O1 (ta tb:TE):TE:=fun σ H Q=>t2I ta tb (fun i j H2=>Q (.int (i + j)) H2) σ H
def Q1 (ta tb:TE):TE:=fun σ H Q=>t2I ta tb (fun i j H2=>Q (.int (i - j)) H2) σ H
def G1 (ta tb:TE):TE:=fun σ H Q=>t2I ta tb (fun i j H2=>(-(2 ^ 64) < i∧i < 2 ^ 64)∧Q (.int (i * j)) H2) σ H
variable {a b:Expr} {ta tb:TE} {pos:Pos}
def PC (X:Cx) (op:CmpOp) (a b:Expr) (t:TE):Prop:=
 ∀ (pins:List (Addr × Obj)) (s:Shared) (σ:St) (H:Hp) (Q:VK),Inv X pins σ H s→t σ H Q →
  wpAny (model X.prog X.w) X.A (eval a X.env) (fun v s₁=>wpAny (model X.prog X.w) X.A (eval b X.env) (fun u s₂=>wpAny (model X.prog X.w) X.A (compareOp op v u) (EP X pins σ Q) X.xe s₂) X.xe s₁) X.xe s
theorem SQ (b:Expr) {op:CmpOp} (h:op ≠ .In) (h2:op ≠ .NotIn):behindInMarks op b=false:=by
 have e1:(op == CmpOp.In)=false:=by cases op <;> first | rfl | exact absurd rfl h
 have e2:(op == CmpOp.NotIn)=false:=by cases op <;> first | rfl | exact absurd rfl h2
 cases b <;> simp [behindInMarks,e1,e2]
def J1 (p:Int→Int→Bool) (ta tb:TE):TE:=fun σ H Q=>t2I ta tb (fun i j H2=>Q (.bl (p i j)) H2) σ H
def T1 (ta:TE):TE:=fun σ H Q=>ta σ H fun x H1=>Q (.bl (decide (x=.non))) H1
def IZ (ta:TE):TE:=fun σ H Q=>ta σ H fun x H1=>Q (.bl (!decide (x=.non))) H1
def tB (t:TE):TT:=fun σ H Q=>t σ H fun x H1=>∃ c,x=.bl c∧Q c H1
theorem BW {op:CmpOp} {t:TE} (h:PC X op a b t) (h1:behindInMarks op b=false:=by first | exact SQ _ (by decide) (by decide) | rfl):PT X (.Compare a [op] [b] pos) (tB t):=by
 intro pins s σ H Q I hw
 refine wpAny_isTrue_Compare1 (thn (h pins s σ H _ I hw) fun v s1 h1=>thn h1 fun u s2 h2=>thn h2 fun c s3 ⟨x,H1,I1,r1,q1⟩=>?_) h1
 obtain ⟨d,rfl,q⟩:=q1
 cases r1
 exact wpAny_truthy_bool ⟨H1,I1,q⟩
theorem vp {e:Expr} {t:TE} (h:PE X e t) (he:∀ whole,isTrue e X.env whole=(do let v ← whole;standAt e.pos;holding [v] (truthy v)):=by intro _;rfl):PT X e (tB t):=by
 intro pins s σ H Q I hw
 refine isTrue_plain (thn (h pins s σ H _ I hw) fun v s1 ⟨x,H1,I1,r1,q1⟩=>?_) (he _)
 obtain ⟨d,rfl,q⟩:=q1
 cases r1
 exact wpAny_truthy_bool ⟨H1,I1,q⟩
variable {tA tB':TT} {rest:List Expr}
def i0 (t u:TT):TT:=fun σ H Q=>t σ H fun c H1=>if c=true then u σ H1 Q else Q false H1
def tOr (t u:TT):TT:=fun σ H Q=>t σ H fun c H1=>if c=true then Q true H1 else u σ H1 Q
def z0 (t:TT):TT:=fun σ H Q=>t σ H fun c H1=>Q (!c) H1
theorem YB (ha:PT X a tA):PW X (.BoolOp .And [a] pos) tA:=by
 intro wh pins s σ H Q I h
 refine isTrue_and (thn (ha pins s σ H Q I h) fun c s1 e=>?_)
 cases c with
 | true=>exact isTrue_and_nil e
 | false=>exact e
theorem OD (ha:PT X a tA):PW X (.BoolOp .Or [a] pos) tA:=by
 intro wh pins s σ H Q I h
 refine isTrue_or (thn (ha pins s σ H Q I h) fun c s1 e=>?_)
 cases c with
 | false=>exact isTrue_or_nil e
 | true=>exact e
theorem AH (ha:PT X a tA) (hb:PW X (.BoolOp .And (b :: rest) pos) tB'):PW X (.BoolOp .And (a :: b :: rest) pos) (i0 tA tB'):=by
 intro wh pins s σ H Q I h
 refine isTrue_and (thn (ha pins s σ H _ I h) fun c s1 ⟨H1,I1,q1⟩=>?_)
 cases c with
 | true=>exact hb wh pins s1 σ H1 Q I1 q1
 | false=>exact ⟨H1,I1,q1⟩
theorem NM (ha:PT X a tA) (hb:PW X (.BoolOp .Or (b :: rest) pos) tB'):PW X (.BoolOp .Or (a :: b :: rest) pos) (tOr tA tB'):=by
 intro wh pins s σ H Q I h
 refine isTrue_or (thn (ha pins s σ H _ I h) fun c s1 ⟨H1,I1,q1⟩=>?_)
 cases c with
 | true=>exact ⟨H1,I1,q1⟩
 | false=>exact hb wh pins s1 σ H1 Q I1 q1
theorem KB (ha:PT X a tA):PT X (.UnaryOp .Not a pos) (z0 tA):=by
 intro pins s σ H Q I h
 exact isTrue_not (ha pins s σ H (fun c H1=>Q (!c) H1) I h)
def MX (ta tb:TE):TE:=fun σ H Q=>ta σ H fun x H1=>∃ c,x=.bl c∧if c=true then tb σ H1 Q else Q (.bl false) H1
def F0 (ta tb:TE):TE:=fun σ H Q=>ta σ H fun x H1=>∃ c,x=.bl c∧if c=true then Q (.bl true) H1 else tb σ H1 Q
def lZ (ta:TE):TE:=fun σ H Q=>ta σ H fun x H1=>∃ c,x=.bl c∧Q (.bl (!c)) H1
theorem iL {op} {t:TE} (h:PE X a t):PE X (.BoolOp op [a] pos) t:=fun pins s σ H Q I hw=>BoolOp_one (h pins s σ H Q I hw)
theorem JS (ha:PE X a ta) (hb:PE X (.BoolOp .And (b :: rest) pos) tb):PE X (.BoolOp .And (a :: b :: rest) pos) (MX ta tb):=by
 intro pins s σ H Q I h
 refine BoolOp_and (thn (ha pins s σ H _ I h) fun v s1 ⟨x,H1,I1,r1,q1⟩=>?_)
 obtain ⟨c,rfl,q1⟩:=q1
 cases r1
 refine wpAny_truthy_bool ?_
 cases c with
 | true=>exact hb pins s1 σ H1 Q I1 q1
 | false=>exact ⟨.bl false,H1,I1,rfl,q1⟩
theorem SX (ha:PE X a ta) (hb:PE X (.BoolOp .Or (b :: rest) pos) tb):PE X (.BoolOp .Or (a :: b :: rest) pos) (F0 ta tb):=by
 intro pins s σ H Q I h
 refine BoolOp_or (thn (ha pins s σ H _ I h) fun v s1 ⟨x,H1,I1,r1,q1⟩=>?_)
 obtain ⟨c,rfl,q1⟩:=q1
 cases r1
 refine wpAny_truthy_bool ?_
 cases c with
 | false=>exact hb pins s1 σ H1 Q I1 q1
 | true=>exact ⟨.bl true,H1,I1,rfl,q1⟩
def tIf (t:TT) (ta tb:TE):TE:=fun σ H Q=>t σ H fun c H1=>if c=true then ta σ H1 Q else tb σ H1 Q
theorem rK {c:Expr} (hc:PT X c tA) (ha:PE X a ta) (hb:PE X b tb):PE X (.IfExp c a b pos) (tIf tA ta tb):=by
 intro pins s σ H Q I h
 refine wpAny_IfExp (thn (hc pins s σ H _ I h) fun d s1 ⟨H1,I1,q1⟩=>?_)
 cases d with
 | true=>exact ha pins s1 σ H1 Q I1 q1
 | false=>exact hb pins s1 σ H1 Q I1 q1
end
end L2
namespace L2
open PySem PySem.Spec PyProof.Rows
def SqL (K:PySem.W.Frag) (H:Hp) (a:Addr) (xs:List V):Prop:=
 Rd H a (.lst xs) ∨
  ∃ (o:Obj) (its:Array Value) (n:Nat),K.lookup a=some o∧o.cls=.type "list" ∧ o.dict=none∧o.data=.seq its n∧its.size ≤ sizeLine∧Ae xs its.toList
def SqT (K:PySem.W.Frag) (H:Hp) (a:Addr) (xs:List V):Prop:=
 Rd H a (.tup xs) ∨
  ∃ (o:Obj) (its:Array Value) (n:Nat),K.lookup a=some o∧o.cls=.type "tuple" ∧ o.data=.seq its n∧its.size ≤ sizeLine∧Ae xs its.toList
def Z1:Value→Option V
 | .none=>some .non
 | .bool b=>some (.bl b)
 | .int i _=>some (.int i)
 | .str x _=>some (.str x)
 | .bytes b _=>some (.byt b)
 | .float b _=>some (.flt b)
 | .ref a=>some (.ref a)
 | .type n=>some (.ty n)
 | _=>none
theorem cf.abs {x:V} {u:Value} (r:cf x u):Z1 u=some x:=by
 cases x with
 | non=>cases r;rfl
 | bl _=>cases r;rfl
 | int _=>obtain ⟨t,rfl⟩:=r;rfl
 | str _=>obtain ⟨t,rfl⟩:=r;rfl
 | byt _=>obtain ⟨t,rfl⟩:=r;rfl
 | flt _=>obtain ⟨t,rfl⟩:=r;rfl
 | ref _=>cases r;rfl
 | ty _=>cases r;rfl
theorem cf.inj {x y:V} {u:Value} (r:cf x u) (q:cf y u):x=y:=Option.some.inj (r.abs.symm.trans q.abs)
theorem Ae.inj:∀ {xs ys:List V} {us:List Value},Ae xs us→Ae ys us→xs=ys
 | _,_,_,.nil,.nil=>rfl
 | _,_,_,.cons r t,.cons r' t'=>by rw [r.inj r',Ae.inj t t']
section
variable {X:Cx} {pins:List (Addr × Obj)} {σ:St} {H:Hp} {s:Shared} {a:Addr} {xs ys:List V}
theorem SqL.of {K:PySem.W.Frag} (h:H a=some (.lst xs)):SqL K H a xs:=.inl (.inl h)
theorem SqT.of {K:PySem.W.Frag} (h:H a=some (.tup xs)):SqT K H a xs:=.inl (.inl h)
theorem Inv.list (I:Inv X pins σ H s) (h:SqL X.K H a xs):∃ its:List Value,Ae xs its∧PlainL s.heap a its.toArray∧xs.length ≤ sizeLine:=by
 rcases h with h | ⟨o,its,n,hk,hc,hd,hs,hz,r⟩
 ·obtain ⟨z,its,n,r,e⟩:=h.ok I.hok
  exact ⟨its,r,⟨_,n,e,rfl,rfl,rfl⟩,z⟩
 ·refine ⟨its.toList,r,⟨o,n,I.kIn a o hk,hc,hd,by simpa using hs⟩,?_⟩
  have e:=r.length
  simp only [Array.length_toList] at e
  omega
theorem Inv.tuple (I:Inv X pins σ H s) (h:SqT X.K H a xs):∃ its:List Value,Ae xs its∧IsTup s.heap a its.toArray∧xs.length ≤ sizeLine:=by
 rcases h with h | ⟨o,its,n,hk,hc,hs,hz,r⟩
 ·obtain ⟨z,its,r,p⟩:=h.ok I.hok
  exact ⟨its,r,p,z⟩
 ·refine ⟨its.toList,r,⟨o,I.kIn a o hk,hc,n,by simpa using hs⟩,?_⟩
  have e:=r.length
  simp only [Array.length_toList] at e
  omega
theorem Inv.list_inj (I:Inv X pins σ H s) (h:SqL X.K H a xs) (h':SqL X.K H a ys):xs=ys:=by
 obtain ⟨its,r,⟨o,n,e,_,_,d⟩,_⟩:=I.list h
 obtain ⟨its',r',⟨o',n',e',_,_,d'⟩,_⟩:=I.list h'
 rw [e] at e';cases e'
 rw [d] at d'
 injection d' with d1 _
 have:its=its':=by simpa using congrArg Array.toList d1
 subst this
 exact r.inj r'
theorem Inv.tuple_inj (I:Inv X pins σ H s) (h:SqT X.K H a xs) (h':SqT X.K H a ys):xs=ys:=by
 obtain ⟨its,r,⟨o,e,_,n,d⟩,_⟩:=I.tuple h
 obtain ⟨its',r',⟨o',e',_,n',d'⟩,_⟩:=I.tuple h'
 rw [e] at e';cases e'
 rw [d] at d'
 injection d' with d1 _
 have:its=its':=by simpa using congrArg Array.toList d1
 subst this
 exact r.inj r'
end
abbrev Cx.wish (X:Cx) (E:Value→Shared→Prop):Cx:={ X with xe:=E }
abbrev Cx.nox (X:Cx):Cx:=X.wish fun _ _=>False
theorem Cx.Ok.wish {X:Cx} (ok:X.Ok) (E:Value→Shared→Prop):(X.wish E).Ok:=
 ⟨ok.mod,ok.kind,ok.glob,ok.blt,ok.above,ok.inj,ok.has,ok.cab,ok.hd,ok.frames,ok.stk,ok.exf,ok.bs,ok.bsz,ok.noex,ok.exfs,ok.funs,ok.frf⟩
theorem Cx.Ok.unwish {X:Cx} {E:Value→Shared→Prop} (ok:(X.wish E).Ok):X.Ok:=
 ⟨ok.mod,ok.kind,ok.glob,ok.blt,ok.above,ok.inj,ok.has,ok.cab,ok.hd,ok.frames,ok.stk,ok.exf,ok.bs,ok.bsz,ok.noex,ok.exfs,ok.funs,ok.frf⟩
section
variable {X:Cx} {pins:List (Addr × Obj)} {σ:St} {H:Hp} {s:Shared} {E:Value→Shared→Prop}
theorem Inv.wish (I:Inv X pins σ H s) (E:Value→Shared→Prop):Inv (X.wish E) pins σ H s:=⟨I.ok.wish E,I.os,I.bare,I.base,I.loc,I.cell,I.free,I.freeC,I.pin,I.hok,I.len⟩
theorem Inv.unwish (I:Inv (X.wish E) pins σ H s):Inv X pins σ H s:=⟨I.ok.unwish,I.os,I.bare,I.base,I.loc,I.cell,I.free,I.freeC,I.pin,I.hok,I.len⟩
theorem SP.unwish {D:Ui} {f:Flow} {s':Shared} (h:SP (X.wish E) pins D f s'):SP X pins D f s':=by
 cases f with
 | next=>obtain ⟨σ',H',I,q⟩:=h;exact ⟨σ',H',I.unwish,q⟩
 | brk=>obtain ⟨σ',H',I,q⟩:=h;exact ⟨σ',H',I.unwish,q⟩
 | cont=>obtain ⟨σ',H',I,q⟩:=h;exact ⟨σ',H',I.unwish,q⟩
 | ret u=>obtain ⟨v,σ',H',I,r,q⟩:=h;exact ⟨v,σ',H',I.unwish,r,q⟩
theorem PE.nox {e:Expr} {t:TE} (h:PE X.nox e t):PE X e t:=fun pins s σ H Q I hw=>
 wpAny_mono (h pins s σ H Q (I.wish _) hw) (fun _ _ ⟨v,H',I',r,q⟩=>⟨v,H',I'.unwish,r,q⟩) fun _ _ z=>False.elim z
theorem PT.nox {e:Expr} {t:TT} (h:PT X.nox e t):PT X e t:=fun pins s σ H Q I hw=>
 wpAny_mono (h pins s σ H Q (I.wish _) hw) (fun _ _ ⟨H',I',q⟩=>⟨H',I'.unwish,q⟩) fun _ _ z=>False.elim z
theorem PSs.nox {st:List Stmt} {t:TS} (h:PSs X.nox st t):PSs X st t:=fun pins s σ H D I hw=>
 wpAny_mono (h pins s σ H D (I.wish _) hw) (fun _ _ q=>q.unwish) fun _ _ z=>False.elim z
end
section
variable {X:Cx} {st:Stmt} {rest:List Stmt} {t u:TS} {e:Expr} {te:TE} {pos:Pos}
def AY:TS:=fun D σ H=>D.nx σ H
def M0 (t u:TS):TS:=fun D σ H=>t { D with nx:=u D } σ H
theorem zc:PSs X [] AY:=fun _ _ σ H _ I h=>wpAny_execs_nil ⟨σ,H,I,h⟩
theorem gb (h1:PS X st t) (h2:PSs X rest u):PSs X (st :: rest) (M0 t u):=by
 intro pins s σ H D I h
 refine wpAny_execs_cons (thn (h1 pins s σ H { D with nx:=u D } I h) fun f s1 q=>?_)
 cases f with
 | next=>
  obtain ⟨σ',H',I',q⟩:=q
  exact h2 pins s1 σ' H' D I' q
 | ret v=>exact q
 | brk=>exact q
 | cont=>exact q
theorem qb (h1:PS X st t):PSs X [st] t:=by
 intro pins s σ H D I h
 refine wpAny_execs_cons (thn (h1 pins s σ H D I h) fun f s1 q=>?_)
 cases f with
 | next=>exact wpAny_execs_nil q
 | ret v=>exact q
 | brk=>exact q
 | cont=>exact q
def bY:TS:=fun D σ H=>D.bk σ H
def MZ:TS:=fun D σ H=>D.ct σ H
theorem Inv.quiet {pins:List (Addr × Obj)} {σ:St} {H:Hp} {s:Shared} (I:Inv X pins σ H s):interactive X.env=false:=by simp [interactive,I.ok.kind]
def cX (te:TE):TS:=fun D σ H=>te σ H fun _ H1=>D.nx σ H1
theorem bd (he:PE X e te) (hs:swapsWith e none pos.line X.env=pure false:=by rfl):PS X (.Expr e pos) (cX te):=by
 intro pins s σ H D I h
 exact wpAny_Expr_any (thn (he pins s σ H _ I h) fun v s1 ⟨x,H1,I1,r1,q1⟩=>⟨σ,H1,I1,q1⟩) I.quiet hs
def uZ (te:TE):TS:=fun D σ H=>te σ H D.rt
theorem Rb (he:PE X e te):PS X (.Return (some e) pos) (uZ te):=by
 intro pins s σ H D I h
 exact wpAny_Return_some (thn (he pins s σ H _ I h) fun v s1 ⟨x,H1,I1,r1,q1⟩=>⟨x,σ,H1,I1,r1,q1⟩)
def SZ:TS:=fun D _ H=>D.rt .non H
def nZ (c:TT) (t u:TS):TS:=fun D σ H=>c σ H fun b H1=>if b=true then t D σ H1 else u D σ H1
theorem Xf {c:Expr} {a b:List Stmt} {tc:TT} (hc:PT X c tc) (ha:PSs X a t) (hb:PSs X b u):PS X (.If c a b pos) (nZ tc t u):=by
 intro pins s σ H D I h
 refine wpAny_If (thn (hc pins s σ H _ I h) fun d s1 ⟨H1,I1,q1⟩=>?_)
 cases d with
 | true=>exact ha pins s1 σ H1 D I1 q1
 | false=>exact hb pins s1 σ H1 D I1 q1
def MT:TS:=fun _ _ _=>False
theorem br:PS X st MT:=fun _ _ _ _ _ _ h=>h.elim
end
abbrev TG:=V→St→Hp→(St→Hp→Prop)→Prop
abbrev TGs:=List V→St→Hp→(St→Hp→Prop)→Prop
def PG (X:Cx) (target:Expr) (t:TG):Prop:=
 ∀ (pins:List (Addr × Obj)) (s:Shared) (σ:St) (H:Hp) (v:V) (u:Value) (Q:St→Hp→Prop),Inv X pins σ H s→cf v u→t v σ H Q →
  wpAny (model X.prog X.w) X.A (assign target X.env u) (fun _ s'=>∃ σ' H',Inv X pins σ' H' s'∧Q σ' H') X.xe s
def PGs (X:Cx) (ts:List Expr) (t:TGs):Prop:=
 ∀ (pins:List (Addr × Obj)) (s:Shared) (σ:St) (H:Hp) (vs:List V) (us:List Value) (Q:St→Hp→Prop),Inv X pins σ H s→Ae vs us→t vs σ H Q →
  wpAny (model X.prog X.w) X.A (assignInOrder ((assignEach ts X.env).map (·.2)) us) (fun _ s'=>∃ σ' H',Inv X pins σ' H' s'∧Q σ' H') X.xe s
abbrev wW:=V→V→V→Hp→(Hp→Prop)→Prop
def O0 (X:Cx) (t:wW):Prop:=
 ∀ (pins:List (Addr × Obj)) (s:Shared) (σ:St) (H:Hp) (o i v:V) (ov iv u:Value) (Q:Hp→Prop),Inv X pins σ H s→cf o ov→cf i iv→cf v u→t o i v H Q →
  wpAny (model X.prog X.w) X.A (setItem ov iv u) (fun _ s'=>∃ H',Inv X pins σ H' s'∧Q H') X.xe s
abbrev TIp:=V→V→Hp→VK→Prop
section
variable {X:Cx} {pos:Pos}
def NF (i:Nat):TG:=fun v σ H Q=>Q (σ.set i (some v)) H
theorem Kb {i:Nat} {x:Str} (hN:X.N.Nodup) (hi:X.N[i]? = some x) (hx:Loc X.env.scope x) (hf:X.fn x=true∨X.env.scope.names.lookup x=some .local:=by first | exact .inl rfl | exact .inr rfl | assumption):PG X (.Name x pos) (NF i):=by
 intro pins s σ H v u Q I r h
 exact wpAny_assign_Name (Xy I hN hi hx r (fun s' I'=>⟨_,H,I',h⟩) hf)
def ZY:TGs:=fun vs σ H Q=>vs=[]∧Q σ H
def RM (t:TG) (u:TGs):TGs:=fun vs σ H Q=>∃ v r,vs=v :: r∧t v σ H fun σ' H'=>u r σ' H' Q
theorem Xh:PGs X [] ZY:=by
 intro pins s σ H vs us Q I r h
 obtain ⟨e,h⟩:=h
 subst e
 cases r
 exact assignInOrder_nil ⟨σ,H,I,h⟩
theorem ic {e:Expr} {es:List Expr} {t:TG} {u:TGs} (h1:PG X e t) (h2:PGs X es u)
  (hs:(assignEach (e :: es) X.env).map (·.2)=assign e X.env :: (assignEach es X.env).map (·.2):=by rfl):PGs X (e :: es) (RM t u):=by
 intro pins s σ H vs us Q I r h
 obtain ⟨v,vr,e1,h⟩:=h
 subst e1
 cases r with
 | cons r rr=>
  rw [hs]
  refine assignInOrder_cons (thn (h1 pins s σ H _ _ _ I r h) fun _ s1 ⟨σ1,H1,I1,q1⟩=>?_)
  exact h2 pins s1 σ1 H1 _ _ Q I1 rr q1
def GW (K:PySem.W.Frag) (n:Nat) (t:TGs):TG:=fun v σ H Q=>∃ a xs,v=.ref a∧SqT K H a xs∧xs.length=n∧t xs σ H Q
theorem YW {es:List Expr} {k:Nat} {t:TGs} {n:Nat} (hc:X.calm=true) (h:PGs X es t)
  (hn:(assignEach es X.env).length=n:=by rfl) (hst:(assignEach es X.env).findIdx? (·.1)=none:=by rfl):PG X (.Tuple es k pos) (GW X.K n t):=by
 intro pins s σ H v u Q I r hw
 obtain ⟨a,xs,e1,hq,hl,hw⟩:=hw
 subst e1
 cases r
 obtain ⟨its,rv,ht,hz⟩:=I.tuple hq
 refine assign_Tuple_tuple (I.ok.hd hc) ht (by simp [hn,← hl,rv.length]) hst fun h' hx=>?_
 have I1:Inv X pins σ H { s with heap:=h' }:=I.kept (t':=s.toks) fun b o e=>hx b o (Nat.ne_of_lt (Heap.lt_size e)) e
 exact h pins _ σ H xs _ Q I1 (by simpa using rv) hw
def X0 (to ti:TE) (t:wW):TG:=fun v σ H Q=>to σ H fun o H1=>ti σ H1 fun i H2=>t o i v H2 fun H3=>Q σ H3
theorem Cv {o i:Expr} {to ti:TE} {t:wW} (ho:PE X o to) (hi:PE X i ti) (hs:O0 X t)
  (ha:∀ v,assign (.Subscript o i pos) X.env v=(do
   let ov ← holding [v] (eval o X.env)
   let iv ← holding [v,ov] (eval i X.env)
   standAt pos
   holding [v,ov,iv] (setItem ov iv v)
   release [v,ov,iv] []):=by intro _;rfl):PG X (.Subscript o i pos) (X0 to ti t):=by
 intro pins s σ H v u Q I r h
 rw [ha]
 refine wpAny_bind (wpAny_holding (thn (ho pins s σ H _ I h) fun ov s1 ⟨x,H1,I1,r1,q1⟩=>?_))
 refine wpAny_bind (wpAny_holding (thn (hi pins s1 σ H1 _ I1 q1) fun iv s2 ⟨y,H2,I2,r2,q2⟩=>?_))
 refine wpAny_bind (wpAny_standAt (wpAny_bind (wpAny_holding (thn (hs pins s2 σ H2 x y v ov iv u _ I2 r1 r2 r q2) fun _ s3 ⟨H3,I3,q3⟩=>?_))))
 exact wpAny_release ⟨σ,H3,I3,q3⟩
def fZ (te:TE) (g:TG):TS:=fun D σ H=>te σ H fun x H1=>g x σ H1 D.nx
theorem Lp {tg e:Expr} {te:TE} {g:TG} (he:PE X e te) (hg:PG X tg g) (hs:swapsWithSole [tg] e pos.line X.env=pure false:=by rfl) (hw:swappedStores [tg] e X.env=pure none:=by rfl)
  (h1:(assignEach [tg] X.env).map (·.2)=[assign tg X.env]:=by rfl):PS X (.Assign [tg] e pos) (fZ te g):=by
 intro pins s σ H D I h
 refine wpAny_Assign_stores (thn (he pins s σ H _ I h) fun v s1 ⟨x,H1,I1,r1,q1⟩=>?_) hs hw
 rw [h1]
 exact thn (hg pins s1 σ H1 x v _ I1 r1 q1) fun _ s2 q=>q
theorem Pb {i:Nat} {x:Str} {e:Expr} {te:TE} {pos':Pos} (hN:X.N.Nodup) (hi:X.N[i]? = some x) (hx:Loc X.env.scope x) (he:PE X e te) (hs:swapsWith e (some (.Name x pos')) pos.line X.env=pure false:=by rfl) (hf:X.fn x=true∨X.env.scope.names.lookup x=some .local:=by first | exact .inl rfl | exact .inr rfl | assumption) :
  PS X (.Assign [.Name x pos'] e pos) (fZ te (NF i)):=by
 intro pins s σ H D I h
 refine wpAny_Assign_Name (thn (he pins s σ H _ I h) fun v s1 ⟨y,H1,I1,r1,q1⟩=>?_) hs
 exact Xy I1 hN hi hx r1 (fun s2 I2=>⟨_,H1,I2,q1⟩) hf
def X1 (i j:Nat) (ta:TA):TS:=fun D σ H=>ta σ H fun vs H1=>∃ v w,vs=[v,w]∧D.nx ((σ.set i (some v)).set j (some w)) H1
def K1 (i:Nat) (te:TE) (ti:TIp):TS:=fun D σ H=>∃ x,σ[i]? = some (some x)∧te σ H fun y H1=>ti x y H1 fun z H2=>D.nx (σ.set i (some z)) H2
def QZ (to ti te:TE) (tget:V→V→Hp→VK→Prop) (tip:TIp) (tset:wW):TS:=fun D σ H=>to σ H fun o H1=>ti σ H1 fun i H2=>tget o i H2 fun x H3=>te σ H3 fun y H4=>tip x y H4 fun z H5=>tset o i z H5 fun H6=>D.nx σ H6
end
section
variable {X:Cx} {pos:Pos}
end
structure It where
 go:Nat→Hp→Prop
 yld:Nat→Hp→V→Hp→Prop
 stop:Nat→Hp→Prop
def rH (X:Cx) (pins:List (Addr × Obj)) (H:Hp) (b:Addr):Prop:=
 H b=none∧b ≠ X.env.locals∧b ∉ X.fs∧(b ∈ X.ex∨X.s₀.heap.objs.size ≤ b)∧(∀ x c,X.env.cells.lookup x=some c→c ≠ b)∧∀ p ∈ X.pn ++ pins,p.1 ≠ b
theorem Inv.fpOk {X:Cx} {pins:List (Addr × Obj)} {σ:St} {H H':Hp} {s:Shared} {b:Addr} (I:Inv X pins σ H s) (hb:s.heap.objs.size ≤ b) (hn:H' b=none):rH X pins H' b:=by
 refine ⟨hn,Nat.ne_of_gt (Nat.lt_of_lt_of_le I.lt hb),I.nofs hb,.inr (Nat.le_trans I.sz hb),fun x c e z=>?_,fun p hp z=>?_⟩
 ·obtain ⟨v,q⟩:=I.cell x c e
  exact absurd (Nat.lt_of_lt_of_le q.lt (by rw [z];exact hb)) (Nat.lt_irrefl _)
 ·exact absurd (Nat.lt_of_lt_of_le (Heap.lt_size (I.pin p hp).1) (by rw [z];exact hb)) (Nat.lt_irrefl _)
structure LS (P:Program) (w:World) (K:PySem.W.Frag) (tg:Expr) (J:It) (fp:List Addr) (it:Addr) (tn:Nat→Heap→Prop):Prop where
 mem:it ∈ fp
 obj:∀ i h,tn i h→∀ b ∈ fp,∃ o,h.get? b=some o∧∀ v,o.data ≠ .cell v
 keep:∀ i h h',tn i h→(∀ b ∈ fp,∀ o,h.get? b=some o→h'.get? b=some o)→tn i h'
 item:∀ (X:Cx),X.prog=P→X.w=w→X.K=K→X.calm=true→∀ (i:Nat) (pins:List (Addr × Obj)) (s:Shared) (σ:St) (H:Hp) (E:Value→Shared→Prop),Inv X pins σ H s→(∀ b ∈ fp,rH X pins H b)→tn i s.heap→J.go i H →
  wpAny (model P w) X.A (pyNext (.ref it)) (fun r s1=>∃ u,r=some u ∧
   wpAny (model P w) X.A (letOwnedTupleGo tg (.ref it) u) (fun _ s2=>∃ x H',Inv X pins σ H' s2∧cf x u∧J.yld i H x H'∧tn (i + 1) s2.heap∧∀ b ∈ fp,H' b=none) E s1) E s
 done:∀ (X:Cx),X.prog=P→X.w=w→X.K=K→X.calm=true→∀ (i:Nat) (pins:List (Addr × Obj)) (s:Shared) (σ:St) (H:Hp) (E:Value→Shared→Prop),Inv X pins σ H s→(∀ b ∈ fp,rH X pins H b)→tn i s.heap→J.stop i H →
  wpAny (model P w) X.A (pyNext (.ref it)) (fun r s1=>r=none∧Inv X pins σ H s1) E s
 self:∀ (A:Around) (i:Nat) (s:Shared) (Q:Value→Shared→Prop) (E:Value→Shared→Prop),tn i s.heap→Q (.ref it) s→wpAny (model P w) A (pyIter (.ref it)) Q E s
abbrev TI:=St→Hp→(It→Hp→Prop)→Prop
def PIE (X:Cx) (pins:List (Addr × Obj)) (σ:St) (tg:Expr) (R:It→Hp→Prop) (itv:Value) (s2:Shared):Prop:=
 ∃ (it:Addr) (fp:List Addr) (tn:Nat→Heap→Prop) (J:It) (H':Hp),itv=.ref it∧Inv X pins σ H' s2∧LS X.prog X.w X.K tg J fp it tn∧tn 0 s2.heap∧(∀ b ∈ fp,rH X pins H' b)∧R J H'
def PI (X:Cx) (tg iter:Expr) (wi:TI):Prop:=
 ∀ (pins:List (Addr × Obj)) (s:Shared) (σ:St) (H:Hp) (R:It→Hp→Prop),Inv X pins σ H s→wi σ H R →
  wpAny (model X.prog X.w) X.A (eval iter X.env) (fun v s1=>wpAny (model X.prog X.w) X.A (pyIter v) (PIE X pins σ tg R) X.xe s1) X.xe s
theorem wO {M:Model} {A:Around} {E:Value→Shared→Prop} {s:Shared} {tg:Expr} {it:Addr} {u:Value} {o:Obj} {n:String} {vs:Array Value} {Q:Unit→Shared→Prop} (ho:s.heap.get? it=some o) (hc:o.cls=.type n) (hd:o.data=.fields vs)
    (hn:["enumerate","zip","dict_itemiterator","dict_reverseitemiterator","odict_iterator","itertools.zip_longest","itertools.pairwise"].contains n=false) (hQ:Q () s):wpAny M A (letOwnedTupleGo tg (.ref it) u) Q E s:=by
  unfold letOwnedTupleGo
  cases tg <;> first
    | exact wpAny_pure hQ
    | (cases u <;> first
        | exact wpAny_pure hQ
        | (refine wpAny_bind (wpAny_load ho ?_)
           rw [hc,hd]
           show wpAny M A (if (["enumerate","zip","dict_itemiterator","dict_reverseitemiterator","odict_iterator","itertools.zip_longest","itertools.pairwise"].contains n && vs[0]? == some (rawInt _))=true then _ else _) Q E s
           rw [if_neg (by intro h;rw [hn,Bool.false_and] at h;cases h)]
           exact wpAny_pure hQ))
def Itl (K:PySem.W.Frag) (a:Addr):It:=
 ⟨fun i H=>∃ xs x,SqL K H a xs∧xs[i]? = some x,fun i H x H'=>H'=H∧∀ xs,SqL K H a xs→xs[i]? = some x,fun i H=>∃ xs,SqL K H a xs∧xs.length ≤ i⟩
def Itt (K:PySem.W.Frag) (a:Addr):It:=
 ⟨fun i H=>∃ xs x,SqT K H a xs∧xs[i]? = some x,fun i H x H'=>H'=H∧∀ xs,SqT K H a xs→xs[i]? = some x,fun i H=>∃ xs,SqT K H a xs∧xs.length ≤ i⟩
def Itr (lo:Int) (n:Nat):It:=⟨fun i _=>i < n,fun i H x H'=>H'=H∧x=.int (lo + i),fun i _=>n ≤ i⟩
theorem RN {P:Program} {w:World} {K:PySem.W.Frag} {tg:Expr} (a it:Addr):LS P w K tg (Itl K a) [it] it (fun i h=>h.IsListIter it a i) where
 mem:=by simp
 obj:=fun i h st b hb=>by
  have e:b=it:=by simpa using hb
  subst e
  obtain ⟨o,e,c,d⟩:=st
  exact ⟨o,e,fun v z=>by rw [d] at z;cases z⟩
 keep:=fun i h h' st k=>st.at fun o e=>k it (by simp) o e
 item:=by
  intro X hP hw hK hc i pins s σ H E I hf st hg
  subst hP hw hK
  obtain ⟨xs,x,hq,hx⟩:=hg
  obtain ⟨its,rv,p,hz⟩:=I.list hq
  obtain ⟨u,hu,ru⟩:=rv.get hx
  obtain ⟨f0,f1,f2,f3,f4,f5⟩:=hf it (by simp)
  refine wpAny_pyNext_list_item st p.isList (x:=u) (by simpa using hu) fun h' st' sb=>?_
  have I1:Inv X pins σ H { s with heap:=h' }:=I.turned (t':=s.toks) (fun b o hb e=>(sb.2 b hb).trans e) f0 f1 f3 f4 f5
  obtain ⟨o,e,c,d⟩:=id st'
  exact ⟨u,rfl,wO (s:={ s with heap:=h' }) e c d (by decide) ⟨x,H,I1,ru,⟨rfl,fun ys hy=>by rw [I.list_inj hy hq];exact hx⟩,st',fun b hb=>(hf b hb).1⟩⟩
 done:=by
  intro X hP hw hK hc i pins s σ H E I hf st hg
  subst hP hw hK
  obtain ⟨xs,hq,hx⟩:=hg
  obtain ⟨its,rv,p,hz⟩:=I.list hq
  obtain ⟨f0,f1,f2,f3,f4,f5⟩:=hf it (by simp)
  have hl:=rv.length
  exact wpAny_pyNext_list_end (I.ok.hd hc) st p.isList (by simp;omega) fun h' eb=>⟨rfl,I.turned (t':=s.toks) (fun b o hb e=>eb b o hb e) f0 f1 f3 f4 f5⟩
 self:=fun _ _ _ _ _ st h=>wpAny_pyIter_listiter st h
theorem GL {P:Program} {w:World} {K:PySem.W.Frag} {tg:Expr} (a it:Addr):LS P w K tg (Itt K a) [it] it (fun i h=>h.IsTupleIter it a i) where
 mem:=by simp
 obj:=fun i h st b hb=>by
  have e:b=it:=by simpa using hb
  subst e
  obtain ⟨o,e,c,d⟩:=st
  exact ⟨o,e,fun v z=>by rw [d] at z;cases z⟩
 keep:=fun i h h' st k=>st.at fun o e=>k it (by simp) o e
 item:=by
  intro X hP hw hK hc i pins s σ H E I hf st hg
  subst hP hw hK
  obtain ⟨xs,x,hq,hx⟩:=hg
  obtain ⟨its,rv,p,hz⟩:=I.tuple hq
  obtain ⟨u,hu,ru⟩:=rv.get hx
  obtain ⟨f0,f1,f2,f3,f4,f5⟩:=hf it (by simp)
  refine wpAny_pyNext_tuple_item st (show s.heap.IsTuple a its.toArray from p) (x:=u) (by simpa using hu) fun h' st' sb=>?_
  have I1:Inv X pins σ H { s with heap:=h' }:=I.turned (t':=s.toks) (fun b o hb e=>(sb.2 b hb).trans e) f0 f1 f3 f4 f5
  obtain ⟨o,e,c,d⟩:=id st'
  exact ⟨u,rfl,wO (s:={ s with heap:=h' }) e c d (by decide) ⟨x,H,I1,ru,⟨rfl,fun ys hy=>by rw [I.tuple_inj hy hq];exact hx⟩,st',fun b hb=>(hf b hb).1⟩⟩
 done:=by
  intro X hP hw hK hc i pins s σ H E I hf st hg
  subst hP hw hK
  obtain ⟨xs,hq,hx⟩:=hg
  obtain ⟨its,rv,p,hz⟩:=I.tuple hq
  obtain ⟨f0,f1,f2,f3,f4,f5⟩:=hf it (by simp)
  have hl:=rv.length
  exact wpAny_pyNext_tuple_end (I.ok.hd hc) st (show s.heap.IsTuple a its.toArray from p) (by simp;omega) fun h' eb=>⟨rfl,I.turned (t':=s.toks) (fun b o hb e=>eb b o hb e) f0 f1 f3 f4 f5⟩
 self:=fun _ _ _ _ _ st h=>wpAny_pyIter_tupleiter st h
theorem nM {P:Program} {w:World} {K:PySem.W.Frag} {tg:Expr} (it:Addr) (lo:Int) (n:Nat):LS P w K tg (Itr lo n) [it] it (fun i h=>IsRangeIter h it (lo + (i:Nat) * 1) ((n:Int) - (i:Nat)) 1) where
 mem:=by simp
 obj:=fun i h st b hb=>by
  have e:b=it:=by simpa using hb
  subst e
  exact ⟨_,st,fun v z=>by
   have z':Data.fields _=Data.cell v:=z
   cases z'⟩
 keep:=fun i h h' st k=>k it (by simp) _ st
 item:=by
  intro X hP hw hK hc i pins s σ H E I hf st hg
  subst hP hw hK
  obtain ⟨f0,f1,f2,f3,f4,f5⟩:=hf it (by simp)
  have W:=Walks.range (prog:=X.prog) (w:=X.w) (I.ok.hd hc) it lo 1 n
  refine W.item i s _ _ hg st fun v h' tk hv st' kk=>?_
  obtain ⟨t,rfl⟩:=hv
  have I1:Inv X pins σ H { s with heap:=h',toks:=tk }:=I.turned (fun b o hb e=>kk b o (by simpa using hb) e) f0 f1 f3 f4 f5
  refine ⟨_,rfl,wO (s:={ s with heap:=h',toks:=tk }) (n := "range_iterator") st' rfl rfl (by decide) ⟨.int (lo + i),H,I1,⟨t,?_⟩,⟨rfl,rfl⟩,st',fun b hb=>(hf b hb).1⟩⟩
  rw [Int.mul_one]
 done:=by
  intro X hP hw hK hc i pins s σ H E I hf st hg
  subst hP hw hK
  obtain ⟨f0,f1,f2,f3,f4,f5⟩:=hf it (by simp)
  exact wpAny_pyNext_range_end (I.ok.hd hc) st (by have:n ≤ i:=hg;omega) fun h' eb=>⟨rfl,I.turned (t':=s.toks) (fun b o hb e=>eb b o hb e) f0 f1 f3 f4 f5⟩
 self:=fun _ _ _ _ _ st h=>wpAny_pyIter_rangeiter st h
end L2
namespace L2
open PySem PySem.Spec PyProof.Rows
section
variable {X:Cx} {tg:Expr}
def DW (K:PySem.W.Frag) (tl:TE):TI:=fun σ H R=>tl σ H fun x H1=>∃ a,x=.ref a∧(∃ xs,SqL K H1 a xs)∧R (Itl K a) H1
def I0 (K:PySem.W.Frag) (tl:TE):TI:=fun σ H R=>tl σ H fun x H1=>∃ a,x=.ref a∧(∃ xs,SqT K H1 a xs)∧R (Itt K a) H1
theorem Af {l:Expr} {tl:TE} (hl:PE X l tl):PI X tg l (DW X.K tl):=by
 intro pins s σ H R I h
 refine thn (hl pins s σ H _ I h) fun v s1 ⟨x,H1,I1,r1,q1⟩=>?_
 obtain ⟨a,e,⟨xs,hq⟩,q⟩:=q1
 subst e
 cases r1
 obtain ⟨its,rv,p,hz⟩:=I1.list hq
 refine wpAny_pyIter_list p.isList ?_
 refine ⟨s1.heap.objs.size,[s1.heap.objs.size],_,_,H1,rfl,I1.kept (t':=s1.toks) fun b o e=>Heap.get?_push_of_some _ e,RN a _,⟨_,Heap.get?_push_size _ rfl,rfl,rfl⟩,fun b hb=>?_,q⟩
 have e:b=s1.heap.objs.size:=by simpa using hb
 subst e
 exact I1.fpOk (Nat.le_refl _) (I1.hok.fresh (Nat.le_refl _))
theorem FW {l:Expr} {tl:TE} (hl:PE X l tl):PI X tg l (I0 X.K tl):=by
 intro pins s σ H R I h
 refine thn (hl pins s σ H _ I h) fun v s1 ⟨x,H1,I1,r1,q1⟩=>?_
 obtain ⟨a,e,⟨xs,hq⟩,q⟩:=q1
 subst e
 cases r1
 obtain ⟨its,rv,p,hz⟩:=I1.tuple hq
 refine wpAny_pyIter_tuple (show s1.heap.IsTuple a its.toArray from p) ?_
 refine ⟨s1.heap.objs.size,[s1.heap.objs.size],_,_,H1,rfl,I1.kept (t':=s1.toks) fun b o e=>Heap.get?_push_of_some _ e,GL a _,⟨_,Heap.get?_push_size _ rfl,rfl,rfl⟩,fun b hb=>?_,q⟩
 have e:b=s1.heap.objs.size:=by simpa using hb
 subst e
 exact I1.fpOk (Nat.le_refl _) (I1.hok.fresh (Nat.le_refl _))
theorem oR {pins:List (Addr × Obj)} {σ:St} {H:Hp} {s:Shared} {R:It→Hp→Prop} {E:Value→Shared→Prop} {lo hi:Int} {t u v:Tok} {tk:Nat} (I:Inv X pins σ H s) (h1:-(2 ^ 62) ≤ lo) (h2:lo < 2 ^ 62) (h3:-(2 ^ 62) ≤ hi) (h4:hi < 2 ^ 62)
  (q:R (Itr lo (hi - lo).toNat) H):wpAny (model X.prog X.w) X.A (pyIter (.ref s.heap.objs.size)) (PIE X pins σ tg R) E { s with heap:=s.heap.push { cls:=.type "range",data:=.fields #[.int lo t,.int hi u,.int 1 v] },toks:=tk }:=by
 refine wpAny_pyIter_range (IsRange.new ..) (small_one h1 h2 h3 h4) ?_
 have I1:Inv X pins σ H { s with heap:=s.heap.push { cls:=.type "range",data:=.fields #[.int lo t,.int hi u,.int 1 v] },toks:=tk }:=I.kept fun b o e=>Heap.get?_push_of_some _ e
 refine ⟨(s.heap.push { cls:=.type "range",data:=.fields #[.int lo t,.int hi u,.int 1 v] }).objs.size,[(s.heap.push { cls:=.type "range",data:=.fields #[.int lo t,.int hi u,.int 1 v] }).objs.size],_,_,H,rfl,
  I1.kept (t':=tk) fun b o e=>Heap.get?_push_of_some _ e,nM _ lo (hi - lo).toNat,?_,fun b hb=>?_,q⟩
 ·have e1:lo + ((0:Nat):Int) * 1=lo:=by simp
  have e2:(((hi - lo).toNat:Nat):Int) - ((0:Nat):Int)=Builtin.Range.rangeSize lo hi 1:=by rw [rangeSize_one];split <;> omega
  show IsRangeIter _ _ (lo + ((0:Nat):Int) * 1) ((((hi - lo).toNat:Nat):Int) - ((0:Nat):Int)) 1
  rw [e1,e2]
  exact Heap.get?_push_size _ rfl
 ·have e:b=(s.heap.push { cls:=.type "range",data:=.fields #[.int lo t,.int hi u,.int 1 v] }).objs.size:=by simpa using hb
  subst e
  exact I1.fpOk (Nat.le_refl _) (I1.hok.fresh (Nat.le_refl _))
def cY (ta:TA):TI:=fun σ H R=>ta σ H fun vs H1=>∃ j:Int,vs=[.int j]∧-(2 ^ 62) ≤ j∧j < 2 ^ 62∧R (Itr 0 j.toNat) H1
def tZ (ta:TA):TI:=fun σ H R=>ta σ H fun vs H1=>∃ i j:Int,vs=[.int i,.int j]∧(-(2 ^ 62) ≤ i∧i < 2 ^ 62∧-(2 ^ 62) ≤ j∧j < 2 ^ 62)∧R (Itr i (j - i).toNat) H1
theorem Eh {a:Expr} {ta:TA} {p pos:Pos} (hg:Gl X "range") (hm:X.mg "range"=none) (ha:PA X [a] ta) (hs:starEach [a] X.env=[(false,eval a X.env)]:=by rfl):PI X tg (.Call (.Name "range" p) [a] [] pos) (cY ta):=by
 intro pins s σ H R I h
 refine Call_ (Yu I hg hm boot_range (PyProof.Rows.callWith_type1 (thn (ha pos pins s σ H _ I h) fun us s1 ⟨vs,H1,I1,r1,q1⟩=>?_) hs rfl))
 obtain ⟨j,e,q1,q2,q⟩:=q1
 subst e
 cases r1 with
 | cons r rr=>
  cases rr
  obtain ⟨t,rfl⟩:=r
  exact call_range_1 (oR I1 (by omega) (by omega) q1 q2 (by simpa using q))
def Z0 (wi:TI) (g:TG) (tb:TS):TS:=fun D σ H=>wi σ H fun J H1=>∃ W:Nat→Nat→St→Hp→Prop,(∃ m,W 0 m σ H1)∧∀ i m σ H,W i m σ H →
 (J.stop i H∧D.nx σ H)∨(J.go i H∧∃ N:St→Hp→Prop,(∀ σ' H',N σ' H'→∃ m',m' < m∧W (i + 1) m' σ' H')∧∀ x H',J.yld i H x H'→g x σ H' fun σ2 H2=>tb { D with nx:=N,ct:=N,bk:=D.nx } σ2 H2)
def iH (fp:List Addr) (h:Heap):List (Addr × Obj):=fp.filterMap fun b=>(h.get? b).map fun o=>(b,o)
theorem gr {fp:List Addr} {h:Heap} {b:Addr} {o:Obj} (hb:b ∈ fp) (e:h.get? b=some o):(b,o) ∈ iH fp h:=List.mem_filterMap.mpr ⟨b,hb,by rw [e];rfl⟩
theorem tN {fp:List Addr} {h:Heap} {p:Addr × Obj} (hp:p ∈ iH fp h):p.1 ∈ fp∧h.get? p.1=some p.2:=by
 obtain ⟨b,hb,e⟩:=List.mem_filterMap.mp hp
 cases q:h.get? b with
 | none=>rw [q] at e;cases e
 | some o=>
  rw [q] at e
  have e':(b,o)=p:=Option.some.inj e
  subst e'
  exact ⟨hb,q⟩
theorem Inv.pinned {pins:List (Addr × Obj)} {σ:St} {H:Hp} {s:Shared} {fp:List Addr} (I:Inv X pins σ H s) (hf:∀ b ∈ fp,rH X pins H b) (ho:∀ b ∈ fp,∃ o,s.heap.get? b=some o∧∀ v,o.data ≠ .cell v):Inv X (pins ++ iH fp s.heap) σ H s:=
 I.pins_of fun p hp=>(List.mem_append.mp hp).elim (fun z=>I.pin p (List.mem_append_right _ z)) fun z=>by
  obtain ⟨hb,e⟩:=tN z
  obtain ⟨f0,f1,f2,_⟩:=hf p.1 hb
  obtain ⟨o,e',d⟩:=ho p.1 hb
  rw [e] at e';cases e'
  exact ⟨e,f0,f1,f2,d⟩
theorem Inv.unpinned {pins pl:List (Addr × Obj)} {σ:St} {H:Hp} {s:Shared} (I:Inv X (pins ++ pl) σ H s):Inv X pins σ H s:=I.pins_of fun p hp=>I.pin p (List.mem_append_right _ (List.mem_append_left _ hp))
theorem Mg {iter:Expr} {body:List Stmt} {wi:TI} {g:TG} {tb:TS} {pos:Pos} (hp:PassesOwn (model X.prog X.w) X.A X.env X.xe) (hc:X.calm=true) (hi:PI X tg iter wi) (hg:PG X tg g) (hb:PSs X body tb)
  (hs:∀ x,foldedSetIterable iter X.env x=pure x:=by intro _;rfl):PS X (.For tg iter body [] pos) (Z0 wi g tb):=by
 intro pins s σ H D I h
 refine wpAny_For (thn (hi pins s σ H _ I h) fun v s1 h1=>thn h1 fun itv s2 h2=>?_) hs
 obtain ⟨it,fp,tn,J,H2,e,I2,T,st2,f2,W,⟨m0,w0⟩,turn⟩:=h2
 subst e
 -- what stays true of the iterator's objects through the loop
 have stat:∀ {H':Hp},(∀ b ∈ fp,H' b=none)→∀ b ∈ fp,rH X pins H' b:=fun hn b hb=>⟨hn b hb,(f2 b hb).2⟩
 refine codeAny_forLoop_any (fun n s'=>∃ i σ' H',Inv X pins σ' H' s'∧tn i s'.heap∧(∀ b ∈ fp,H' b=none)∧W i n σ' H') ?_ m0 ⟨0,σ,H2,I2,st2,fun b hb=>(f2 b hb).1,w0⟩
 rintro n s3 ⟨i,σ3,H3,I3,st3,fr3,w3⟩
 rcases turn i n σ3 H3 w3 with ⟨stop,qn⟩ | ⟨go,N,hN,step⟩
 ·refine wpAny_passesOwn hp (thn (T.done X rfl rfl rfl hc i pins s3 σ3 H3 X.xe I3 (stat fr3) st3 stop) fun r s4 ⟨hr,I4⟩=>?_)
  subst hr
  exact wpAny_execs_nil ⟨σ3,H3,I4,qn⟩
 ·refine wpAny_passesOwn hp (thn (T.item X rfl rfl rfl hc i pins s3 σ3 H3 X.xe I3 (stat fr3) st3 go) fun r s4 ⟨u,hr,h4⟩=>?_)
  subst hr
  refine wpAny_passesOwn hp (thn h4 fun _ s5 ⟨x,H5,I5,r5,y5,st5,fr5⟩=>?_)
  have I5':=I5.pinned (stat fr5) (T.obj _ _ st5)
  refine wpAny_passesOwn hp (thn (hg _ s5 σ3 H5 x u _ I5' r5 (step x H5 y5)) fun _ s6 ⟨σ6,H6,I6,q6⟩=>?_)
  refine wpAny_passesOwn hp (thn (hb _ s6 σ6 H6 _ I6 q6) fun f s7 q7=>?_)
  have again:∀ {σ7:St} {H7:Hp},Inv X (pins ++ iH fp s5.heap) σ7 H7 s7→N σ7 H7→∃ m,m < n∧∃ i σ' H',Inv X pins σ' H' s7∧tn i s7.heap∧(∀ b ∈ fp,H' b=none)∧W i m σ' H':=fun {σ7 H7} I7 n7=>by
   obtain ⟨m',hm,w7⟩:=hN σ7 H7 n7
   refine ⟨m',hm,i + 1,σ7,H7,I7.unpinned,T.keep _ _ _ st5 fun b hb o e=>(I7.pin (b,o) (List.mem_append_right _ (List.mem_append_right _ (gr hb e)))).1,fun b hb=>?_,w7⟩
   obtain ⟨o,e,d⟩:=T.obj _ _ st5 b hb
   exact (I7.pin (b,o) (List.mem_append_right _ (List.mem_append_right _ (gr hb e)))).2.1
  cases f with
  | next=>obtain ⟨σ7,H7,I7,n7⟩:=q7;exact again I7 n7
  | cont=>obtain ⟨σ7,H7,I7,n7⟩:=q7;exact again I7 n7
  | brk=>obtain ⟨σ7,H7,I7,q7⟩:=q7;exact ⟨σ7,H7,I7.unpinned,q7⟩
  | ret v=>obtain ⟨x7,σ7,H7,I7,r7,q7⟩:=q7;exact ⟨x7,σ7,H7,I7.unpinned,r7,q7⟩
end
theorem HR {K:PySem.W.Frag} {a:Addr} {xs:List V} {g:TG} {tb:TS} {D:Ui} {σ:St} {H:Hp} (Pv:Nat→St→Hp→Prop) (h0:Pv 0 σ H) (hl:∀ i σ H,i ≤ xs.length→Pv i σ H→SqL K H a xs)
  (hs:∀ i x σ H,xs[i]? = some x→Pv i σ H→g x σ H fun σ2 H2=>tb { D with nx:=Pv (i + 1),ct:=Pv (i + 1),bk:=D.nx } σ2 H2) (hd:∀ σ H,Pv xs.length σ H→D.nx σ H) :
  ∃ W:Nat→Nat→St→Hp→Prop,(∃ m,W 0 m σ H)∧∀ i m σ H,W i m σ H →
   ((Itl K a).stop i H∧D.nx σ H)∨((Itl K a).go i H∧∃ N:St→Hp→Prop,(∀ σ' H',N σ' H'→∃ m',m' < m∧W (i + 1) m' σ' H')∧∀ x H',(Itl K a).yld i H x H'→g x σ H' fun σ2 H2=>tb { D with nx:=N,ct:=N,bk:=D.nx } σ2 H2):=by
 refine ⟨fun i m σ H=>m=xs.length - i∧i ≤ xs.length∧Pv i σ H,⟨xs.length,by simp,Nat.zero_le _,h0⟩,?_⟩
 rintro i m σ H ⟨rfl,hi,p⟩
 have q:=hl i σ H hi p
 by_cases hlt:i < xs.length
 ·refine .inr ⟨⟨xs,xs[i],q,by simp [hlt]⟩,Pv (i + 1),fun σ' H' p'=>⟨xs.length - (i + 1),by omega,rfl,hlt,p'⟩,fun x H' y=>?_⟩
  obtain ⟨e,y⟩:=y
  subst e
  exact hs i x σ _ (y xs q) p
 ·have e:i=xs.length:=by omega
  subst e
  exact .inl ⟨⟨xs,q,Nat.le_refl _⟩,hd σ H p⟩
theorem nV {K:PySem.W.Frag} {a:Addr} {xs:List V} {g:TG} {tb:TS} {D:Ui} {σ:St} {H:Hp} (Pv:Nat→St→Hp→Prop) (h0:Pv 0 σ H) (hl:∀ i σ H,i ≤ xs.length→Pv i σ H→SqT K H a xs)
  (hs:∀ i x σ H,xs[i]? = some x→Pv i σ H→g x σ H fun σ2 H2=>tb { D with nx:=Pv (i + 1),ct:=Pv (i + 1),bk:=D.nx } σ2 H2) (hd:∀ σ H,Pv xs.length σ H→D.nx σ H) :
  ∃ W:Nat→Nat→St→Hp→Prop,(∃ m,W 0 m σ H)∧∀ i m σ H,W i m σ H →
   ((Itt K a).stop i H∧D.nx σ H)∨((Itt K a).go i H∧∃ N:St→Hp→Prop,(∀ σ' H',N σ' H'→∃ m',m' < m∧W (i + 1) m' σ' H')∧∀ x H',(Itt K a).yld i H x H'→g x σ H' fun σ2 H2=>tb { D with nx:=N,ct:=N,bk:=D.nx } σ2 H2):=by
 refine ⟨fun i m σ H=>m=xs.length - i∧i ≤ xs.length∧Pv i σ H,⟨xs.length,by simp,Nat.zero_le _,h0⟩,?_⟩
 rintro i m σ H ⟨rfl,hi,p⟩
 have q:=hl i σ H hi p
 by_cases hlt:i < xs.length
 ·refine .inr ⟨⟨xs,xs[i],q,by simp [hlt]⟩,Pv (i + 1),fun σ' H' p'=>⟨xs.length - (i + 1),by omega,rfl,hlt,p'⟩,fun x H' y=>?_⟩
  obtain ⟨e,y⟩:=y
  subst e
  exact hs i x σ _ (y xs q) p
 ·have e:i=xs.length:=by omega
  subst e
  exact .inl ⟨⟨xs,q,Nat.le_refl _⟩,hd σ H p⟩
theorem PP {lo:Int} {n:Nat} {g:TG} {tb:TS} {D:Ui} {σ:St} {H:Hp} (Pv:Nat→St→Hp→Prop) (h0:Pv 0 σ H)
  (hs:∀ i σ H,i < n→Pv i σ H→g (.int (lo + i)) σ H fun σ2 H2=>tb { D with nx:=Pv (i + 1),ct:=Pv (i + 1),bk:=D.nx } σ2 H2) (hd:∀ σ H,Pv n σ H→D.nx σ H) :
  ∃ W:Nat→Nat→St→Hp→Prop,(∃ m,W 0 m σ H)∧∀ i m σ H,W i m σ H →
   ((Itr lo n).stop i H∧D.nx σ H)∨((Itr lo n).go i H∧∃ N:St→Hp→Prop,(∀ σ' H',N σ' H'→∃ m',m' < m∧W (i + 1) m' σ' H')∧∀ x H',(Itr lo n).yld i H x H'→g x σ H' fun σ2 H2=>tb { D with nx:=N,ct:=N,bk:=D.nx } σ2 H2):=by
 refine ⟨fun i m σ H=>m=n - i∧i ≤ n∧Pv i σ H,⟨n,by simp,Nat.zero_le _,h0⟩,?_⟩
 rintro i m σ H ⟨rfl,hi,p⟩
 by_cases hlt:i < n
 ·refine .inr ⟨hlt,Pv (i + 1),fun σ' H' p'=>⟨n - (i + 1),by omega,rfl,hlt,p'⟩,fun x H' y=>?_⟩
  obtain ⟨e,y⟩:=y
  subst e y
  exact hs i σ _ hlt p
 ·have e:i=n:=by omega
  subst e
  exact .inl ⟨Nat.le_refl _,hd σ H p⟩
end L2
namespace L2
open PySem PySem.Spec PyProof.Rows
abbrev R2:=V→V→Hp→VK→Prop
def OpR (X:Cx) (f:Value→Value→Sem Value) (r:R2):Prop:=
 ∀ (pins:List (Addr × Obj)) (s:Shared) (σ:St) (H:Hp) (x y:V) (v u:Value) (Q:VK),Inv X pins σ H s→cf x v→cf y u→r x y H Q →
  wpAny (model X.prog X.w) X.A (f v u) (EP X pins σ Q) X.xe s
def UnR (X:Cx) (f:Value→Sem Value) (r:V→Hp→VK→Prop):Prop:=
 ∀ (pins:List (Addr × Obj)) (s:Shared) (σ:St) (H:Hp) (x:V) (v:Value) (Q:VK),Inv X pins σ H s→cf x v→r x H Q →
  wpAny (model X.prog X.w) X.A (f v) (EP X pins σ Q) X.xe s
def Qs (X:Cx) (f:Value) (r:List V→Hp→VK→Prop):Prop:=
 ∀ (pins:List (Addr × Obj)) (s:Shared) (σ:St) (H:Hp) (xs:List V) (us:List Value) (Q:VK),Inv X pins σ H s→Ae xs us→r xs H Q →
  wpAny (model X.prog X.w) X.A (call f us) (EP X pins σ Q) X.xe s
def o2 (X:Cx) (r:V→Hp→(Bool→Hp→Prop)→Prop):Prop:=
 ∀ (pins:List (Addr × Obj)) (s:Shared) (σ:St) (H:Hp) (x:V) (v:Value) (Q:Bool→Hp→Prop),Inv X pins σ H s→cf x v→r x H Q →
  wpAny (model X.prog X.w) X.A (truthy v) (TP X pins σ Q) X.xe s
def tOp (r:R2) (ta tb:TE):TE:=fun σ H Q=>ta σ H fun x H1=>tb σ H1 fun y H2=>r x y H2 Q
def tUn (r:V→Hp→VK→Prop) (ta:TE):TE:=fun σ H Q=>ta σ H fun x H1=>r x H1 Q
def rI (C:Int→Int→Prop) (g:Int→Int→V):R2:=fun x y H Q=>∃ i j,x=.int i∧y=.int j∧C i j∧Q (g i j) H
def rI0 (g:Int→Int→V):R2:=fun x y H Q=>∃ i j,x=.int i∧y=.int j∧Q (g i j) H
def rU (g:Int→V):V→Hp→VK→Prop:=fun x H Q=>∃ i,x=.int i∧Q (g i) H
section
variable {X:Cx} {a b c:Expr} {ta tb tc:TE} {pos:Pos}
theorem HZ (ha:PE X a ta) (hb:PE X b tb) {pins:List (Addr × Obj)} {s:Shared} {σ:St} {H:Hp} {R:V→V→Hp→Prop} (I:Inv X pins σ H s)
  (h:ta σ H fun x H1=>tb σ H1 fun y H2=>R x y H2) {Q:Value→Shared→Prop} {f:Value→Value→Sem Value}
  (hf:∀ v u s2 x y H2,Inv X pins σ H2 s2→cf x v→cf y u→R x y H2→wpAny (model X.prog X.w) X.A (f v u) Q X.xe s2) :
  wpAny (model X.prog X.w) X.A (eval a X.env) (fun v s₁=>wpAny (model X.prog X.w) X.A (eval b X.env) (fun u s₂=>wpAny (model X.prog X.w) X.A (f v u) Q X.xe s₂) X.xe s₁) X.xe s:=by
 refine thn (ha pins s σ H _ I h) fun v s1 ⟨x,H1,I1,r1,q1⟩=>?_
 refine thn (hb pins s1 σ H1 _ I1 q1) fun u s2 ⟨y,H2,I2,r2,q2⟩=>?_
 exact hf v u s2 x y H2 I2 r1 r2 q2
theorem Yc {op:Operator} {r:R2} (ho:OpR X (binaryOp op) r) (ha:PE X a ta) (hb:PE X b tb):PE X (.BinOp a op b pos) (tOp r ta tb):=by
 intro pins s σ H Q I h
 exact wpAny_BinOp (HZ ha hb I h fun v u s2 x y H2 I2 rx ry q=>ho pins s2 σ H2 x y v u Q I2 rx ry q)
theorem fH {op:UnaryOp} {r:V→Hp→VK→Prop} (ho:UnR X (unaryOp op) r) (ha:PE X a ta):PE X (.UnaryOp op a pos) (tUn r ta):=by
 intro pins s σ H Q I h
 exact UnaryOp_ (thn (ha pins s σ H _ I h) fun v s1 ⟨x,H1,I1,r1,q1⟩=>ho pins s1 σ H1 x v Q I1 r1 q1)
theorem opI {f:Value→Value→Sem Value} {C:Int→Int→Prop} {g:Int→Int→Int}
  (rule:∀ (i j:Int) (t u:Tok) (s:Shared) (Q:Value→Shared→Prop) (E:Value→Shared→Prop),C i j→Q (.int (g i j) s.toks) { s with toks:=s.toks + 1 }→wpAny (model X.prog X.w) X.A (f (.int i t) (.int j u)) Q E s) :
  OpR X f (rI C fun i j=>.int (g i j)):=by
 intro pins s σ H x y v u Q I rx ry h
 obtain ⟨i,j,rfl,rfl,hc,q⟩:=h
 obtain ⟨t,rfl⟩:=rx
 obtain ⟨t',rfl⟩:=ry
 exact rule i j t t' s _ _ hc ⟨.int (g i j),H,I.tok _,⟨_,rfl⟩,q⟩
theorem B0 {f:Value→Value→Sem Value} {g:Int→Int→Int}
  (rule:∀ (i j:Int) (t u:Tok) (s:Shared) (Q:Value→Shared→Prop) (E:Value→Shared→Prop),Q (.int (g i j) s.toks) { s with toks:=s.toks + 1 }→wpAny (model X.prog X.w) X.A (f (.int i t) (.int j u)) Q E s) :
  OpR X f (rI0 fun i j=>.int (g i j)):=by
 intro pins s σ H x y v u Q I rx ry h
 obtain ⟨i,j,rfl,rfl,q⟩:=h
 obtain ⟨t,rfl⟩:=rx
 obtain ⟨t',rfl⟩:=ry
 exact rule i j t t' s _ _ ⟨.int (g i j),H,I.tok _,⟨_,rfl⟩,q⟩
theorem CZ {f:Value→Value→Sem Value} {g:Int→Int→Bool}
  (rule:∀ (i j:Int) (t u:Tok) (s:Shared) (Q:Value→Shared→Prop) (E:Value→Shared→Prop),Q (.bool (g i j)) s→wpAny (model X.prog X.w) X.A (f (.int i t) (.int j u)) Q E s) :
  OpR X f (rI0 fun i j=>.bl (g i j)):=by
 intro pins s σ H x y v u Q I rx ry h
 obtain ⟨i,j,rfl,rfl,q⟩:=h
 obtain ⟨t,rfl⟩:=rx
 obtain ⟨t',rfl⟩:=ry
 exact rule i j t t' s _ _ ⟨.bl (g i j),H,I,rfl,q⟩
def D2 (i j:Int):Prop:=0 < j∧j < 1073741824
def cQ (i j:Int):Prop:=(-(2 ^ 64) < i∧i < 2 ^ 64)∨(-(2 ^ 64) < j∧j < 2 ^ 64)
theorem cQ.ok {i j:Int} (h:cQ i j):IntMulOk i j:=by
 rcases h with ⟨h1,h2⟩ | ⟨h1,h2⟩
 ·exact .of_left (intBits_le_64 h1 h2)
 ·exact .of_right (intBits_le_64 h1 h2)
theorem xh:OpR X (binaryOp .Add) (rI0 fun i j=>.int (i + j)):=B0 fun _ _ _ _ _ _ _ q=>add_int q
theorem Tn:OpR X (binaryOp .Sub) (rI0 fun i j=>.int (i - j)):=B0 fun _ _ _ _ _ _ _ q=>sub_int q
theorem Fx:OpR X (binaryOp .Mult) (rI cQ fun i j=>.int (i * j)):=opI fun _ _ _ _ _ _ _ hc q=>mul_int q hc.ok
theorem gJ:OpR X (binaryOp .FloorDiv) (rI D2 fun i j=>.int (i / j)):=opI fun i j _ _ _ _ _ hc q=>by
 have h1:(0:Int) < j:=hc.1
 have h2:j < 1073741824:=hc.2
 exact floordiv_int (by omega) (by rw [Int.fdiv_eq_ediv_of_nonneg i (by omega)];exact q) (.inl (PyProof.noPylong_small (by omega)))
theorem ik:OpR X (binaryOp .Mod) (rI (fun _ j=>0 < j) fun i j=>.int (i % j)):=opI fun i j _ _ _ _ _ hc q=>by
 have h1:(0:Int) < j:=hc
 exact mod_int' (by omega) (by rw [Int.fmod_eq_emod_of_nonneg i (by omega)];exact q)
theorem unI {f:Value→Sem Value} {g:Int→Int}
  (rule:∀ (i:Int) (t:Tok) (s:Shared) (Q:Value→Shared→Prop) (E:Value→Shared→Prop),Q (.int (g i) s.toks) { s with toks:=s.toks + 1 }→wpAny (model X.prog X.w) X.A (f (.int i t)) Q E s) :
  UnR X f (rU fun i=>.int (g i)):=by
 intro pins s σ H x v Q I rx h
 obtain ⟨i,rfl,q⟩:=h
 obtain ⟨t,rfl⟩:=rx
 exact rule i t s _ _ ⟨.int (g i),H,I.tok _,⟨_,rfl⟩,q⟩
theorem Gx:UnR X (unaryOp .USub) (rU fun i=>.int (-i)):=unI fun _ _ _ _ _ q=>neg_int q
end
def rX:V→V→Bool
 | .non,.non=>true | .non,.int _=>true | .int _,.non=>true | .non,.bl _=>true | .bl _,.non=>true | .non,.str _=>true | .str _,.non=>true
 | .int _,.int _=>true | .bl _,.bl _=>true | .str _,.str _=>true | .byt _,.byt _=>true
 | .int _,.str _=>true | .str _,.int _=>true | .bl _,.str _=>true | .str _,.bl _=>true
 | _,_=>false
def rEq:R2:=fun x y H Q=>rX x y=true∧Q (.bl (decide (x=y))) H
def rNe:R2:=fun x y H Q=>rX x y=true∧Q (.bl (!decide (x=y))) H
theorem xP {i j:Int}:decide (V.int i=V.int j)=(i == j):=by
 rw [Bool.eq_iff_iff]
 simp
theorem FS {i j:Bool}:decide (V.bl i=V.bl j)=(i == j):=by
 rw [Bool.eq_iff_iff]
 simp
theorem LP {i j:Str}:decide (V.str i=V.str j)=(i == j):=by
 rw [Bool.eq_iff_iff]
 simp
theorem jN {i j:Array UInt8}:decide (V.byt i=V.byt j)=(i.toList == j.toList):=by
 rw [Bool.eq_iff_iff]
 cases i
 cases j
 simp
section
variable {X:Cx} {a b c:Expr} {ta tb tc:TE} {pos:Pos}
theorem Be {pins:List (Addr × Obj)} {σ:St} {H:Hp} {s:Shared} {Q:VK} {k k':Bool} (I:Inv X pins σ H s) (q:Q (.bl k) H) (e:k=k'):EP X pins σ Q (.bool k') s:=by
 subst e
 exact ⟨.bl k,H,I,rfl,q⟩
theorem Fj:OpR X (compareOp .Eq) rEq:=by
 intro pins s σ H x y v u Q I rx ry h
 obtain ⟨hs,q⟩:=h
 cases x with
 | non=>
  cases rx
  cases y with
  | non=>cases ry;exact PySem.EqNone.eq_none_none (Be I q (by simp))
  | bl j=>cases ry;exact PySem.EqNone.eq_none_bool (Be I q (by simp))
  | int j=>obtain ⟨t',rfl⟩:=ry;exact PySem.EqNone.eq_none_int (Be I q (by simp))
  | str j=>obtain ⟨t',rfl⟩:=ry;exact PySem.EqNone.eq_none_str (Be I q (by simp))
  | _=>exact absurd (show false=true from hs) Bool.false_ne_true
 | bl i=>
  cases rx
  cases y with
  | non=>cases ry;exact PySem.EqNone.eq_bool_none (Be I q (by simp))
  | bl j=>cases ry;exact eq_bool (Be I q FS)
  | str j=>obtain ⟨t',rfl⟩:=ry;exact PySem.EqMixed.eq_bool_str (Be I q (by simp))
  | _=>exact absurd (show false=true from hs) Bool.false_ne_true
 | int i=>
  obtain ⟨t,rfl⟩:=rx
  cases y with
  | non=>cases ry;exact PySem.EqNone.eq_int_none (Be I q (by simp))
  | int j=>obtain ⟨t',rfl⟩:=ry;exact eq_int (Be I q xP)
  | str j=>obtain ⟨t',rfl⟩:=ry;exact PySem.EqMixed.eq_int_str (Be I q (by simp))
  | _=>exact absurd (show false=true from hs) Bool.false_ne_true
 | str i=>
  obtain ⟨t,rfl⟩:=rx
  cases y with
  | non=>cases ry;exact PySem.EqNone.eq_str_none (Be I q (by simp))
  | bl j=>cases ry;exact PySem.EqMixed.eq_str_bool (Be I q (by simp))
  | int j=>obtain ⟨t',rfl⟩:=ry;exact PySem.EqMixed.eq_str_int (Be I q (by simp))
  | str j=>obtain ⟨t',rfl⟩:=ry;exact eq_str (Be I q LP)
  | _=>exact absurd (show false=true from hs) Bool.false_ne_true
 | byt i=>
  obtain ⟨t,rfl⟩:=rx
  cases y with
  | byt j=>obtain ⟨t',rfl⟩:=ry;exact PySem.W.eq_bytes (Be I q jN)
  | _=>exact absurd (show false=true from hs) Bool.false_ne_true
 | _=>cases y <;> exact absurd (show false=true from hs) Bool.false_ne_true
theorem EN:OpR X (compareOp .NotEq) rNe:=by
 intro pins s σ H x y v u Q I rx ry h
 obtain ⟨hs,q⟩:=h
 cases x with
 | non=>
  cases rx
  cases y with
  | non=>cases ry;exact PySem.EqNone.ne_none_none (Be I q (by simp))
  | bl j=>cases ry;exact PySem.EqNone.ne_none_bool (Be I q (by simp))
  | int j=>obtain ⟨t',rfl⟩:=ry;exact PySem.EqNone.ne_none_int (Be I q (by simp))
  | str j=>obtain ⟨t',rfl⟩:=ry;exact PySem.EqNone.ne_none_str (Be I q (by simp))
  | _=>exact absurd (show false=true from hs) Bool.false_ne_true
 | bl i=>
  cases rx
  cases y with
  | non=>cases ry;exact PySem.EqNone.ne_bool_none (Be I q (by simp))
  | bl j=>cases ry;exact ne_bool (Be I q (congrArg not FS))
  | str j=>obtain ⟨t',rfl⟩:=ry;exact PySem.EqMixed.ne_bool_str (Be I q (by simp))
  | _=>exact absurd (show false=true from hs) Bool.false_ne_true
 | int i=>
  obtain ⟨t,rfl⟩:=rx
  cases y with
  | non=>cases ry;exact PySem.EqNone.ne_int_none (Be I q (by simp))
  | int j=>obtain ⟨t',rfl⟩:=ry;exact ne_int (Be I q (congrArg not xP))
  | str j=>obtain ⟨t',rfl⟩:=ry;exact PySem.EqMixed.ne_int_str (Be I q (by simp))
  | _=>exact absurd (show false=true from hs) Bool.false_ne_true
 | str i=>
  obtain ⟨t,rfl⟩:=rx
  cases y with
  | non=>cases ry;exact PySem.EqNone.ne_str_none (Be I q (by simp))
  | bl j=>cases ry;exact PySem.EqMixed.ne_str_bool (Be I q (by simp))
  | int j=>obtain ⟨t',rfl⟩:=ry;exact PySem.EqMixed.ne_str_int (Be I q (by simp))
  | str j=>obtain ⟨t',rfl⟩:=ry;exact ne_str (Be I q (congrArg not LP))
  | _=>exact absurd (show false=true from hs) Bool.false_ne_true
 | byt i=>
  obtain ⟨t,rfl⟩:=rx
  cases y with
  | byt j=>obtain ⟨t',rfl⟩:=ry;exact PySem.W.ne_bytes (Be I q (congrArg not jN))
  | _=>exact absurd (show false=true from hs) Bool.false_ne_true
 | _=>cases y <;> exact absurd (show false=true from hs) Bool.false_ne_true
theorem lE:OpR X (compareOp .Lt) (rI0 fun i j=>.bl (decide (i < j))):=CZ fun _ _ _ _ _ _ _ q=>lt_int q
theorem YZ:OpR X (compareOp .LtE) (rI0 fun i j=>.bl (decide (i ≤ j))):=CZ fun _ _ _ _ _ _ _ q=>le_int q
theorem DN:OpR X (compareOp .Gt) (rI0 fun i j=>.bl (decide (j < i))):=CZ fun _ _ _ _ _ _ _ q=>gt_int q
theorem pO:OpR X (compareOp .In) (fun x y H Q=>∃ i j,x=.str i∧y=.str j∧Q (.bl (!(Builtin.Str.occurrences j i 0 j.length 1).isEmpty)) H):=by
 intro pins s σ H x y v u Q I rx ry h
 obtain ⟨i,j,rfl,rfl,q⟩:=h
 obtain ⟨t,rfl⟩:=rx
 obtain ⟨t',rfl⟩:=ry
 exact in_str (Be I q rfl)
theorem MO:OpR X (compareOp .IsNot) (fun x y H Q=>y=.non∧Q (.bl (!decide (x=.non))) H):=by
 intro pins s σ H x y v u Q I rx ry h
 obtain ⟨rfl,q⟩:=h
 cases ry
 refine isnot_none_gen (Be I q ?_)
 cases x <;> first
  | (cases rx;rfl)
  | (obtain ⟨t,rfl⟩:=rx;rfl)
theorem OpR.or {f:Value→Value→Sem Value} {r r':R2} (h:OpR X f r) (h':OpR X f r'):OpR X f (fun x y H Q=>r x y H Q∨r' x y H Q):=by
 intro pins s σ H x y v u Q I rx ry q
 rcases q with q | q
 ·exact h pins s σ H x y v u Q I rx ry q
 ·exact h' pins s σ H x y v u Q I rx ry q
theorem Bc (b:Expr) {op:CmpOp} (h:op ≠ .In:=by decide) (h2:op ≠ .NotIn:=by decide):behindInMarks op b=false:=by
 have e1:(op == CmpOp.In)=false:=by cases op <;> first | rfl | exact absurd rfl h
 have e2:(op == CmpOp.NotIn)=false:=by cases op <;> first | rfl | exact absurd rfl h2
 cases b <;> simp [behindInMarks,e1,e2]
theorem qh {op:CmpOp} {r:R2} (ho:OpR X (compareOp op) r) (ha:PE X a ta) (hb:PE X b tb) (hm:behindInMarks op b=false):PE X (.Compare a [op] [b] pos) (tOp r ta tb):=by
 intro pins s σ H Q I h
 exact wpAny_Compare1 (HZ ha hb I h fun v u s2 x y H2 I2 rx ry q=>ho pins s2 σ H2 x y v u Q I2 rx ry q) hm
def kX (t:TE):TT:=fun σ H Q=>t σ H fun x H'=>∃ k,x=.bl k∧Q k H'
theorem fc {op:CmpOp} {r:R2} (ho:OpR X (compareOp op) r) (ha:PE X a ta) (hb:PE X b tb) (hm:behindInMarks op b=false):PT X (.Compare a [op] [b] pos) (kX (tOp r ta tb)):=by
 intro pins s σ H Q I h
 refine wpAny_isTrue_Compare1 (thn (ha pins s σ H _ I h) fun v s1 ⟨x,H1,I1,r1,q1⟩=>thn (hb pins s1 σ H1 _ I1 q1) fun u s2 ⟨y,H2,I2,r2,q2⟩=>
  thn (ho pins s2 σ H2 x y v u _ I2 r1 r2 q2) fun c s3 ⟨z,H3,I3,r3,k,e,q3⟩=>?_) hm
 subst e
 cases r3
 exact wpAny_truthy_bool ⟨H3,I3,q3⟩
def aY (r r':R2) (ta tb tc:TE):TE:=fun σ H Q=>ta σ H fun x H1=>tb σ H1 fun y H2=>r x y H2 fun z H3=>∃ k,z=.bl k ∧
 (if k=true then tc σ H3 fun w' H4=>r' y w' H4 Q else Q (.bl false) H3)
def V0 (K:PySem.W.Frag) (x:V) (H:Hp) (k:Bool):Prop:=
 match x with
 | .non=>k=false
 | .bl b=>k=b
 | .int i=>k=(i != 0)
 | .str y=>y.length ≤ sizeLine∧k=((y.length:Int) != 0)
 | .byt y=>y.size ≤ sizeLine∧k=((y.size:Int) != 0)
 | .ref p=>(∃ xs,SqL K H p xs∧k = !xs.isEmpty)∨(∃ xs,SqT K H p xs∧k = !xs.isEmpty)∨∃ kvs,H p=some (.dK kvs)∧k = !kvs.isEmpty
 | _=>False
theorem yL {κ:Type} {kvs:List (κ × V)} {vs:List (κ × Value)} (r:KV kvs vs):(!vs.isEmpty) = !kvs.isEmpty:=by
 cases r <;> rfl
theorem dE {xs:List V} {its:List Value} (r:Ae xs its):(!its.toArray.isEmpty) = !xs.isEmpty:=by
 cases r <;> simp
theorem iB:(sizeLine:Nat) < 2 ^ 63:=by rw [sizeLine_eq];decide
theorem zX:o2 X (fun x H Q=>∃ k,V0 X.K x H k∧Q k H):=by
 intro pins s σ H x v Q I rx h
 obtain ⟨k,e,q⟩:=h
 have hl:=iB
 have hs:sizeLine=16777216:=sizeLine_eq
 cases x with
 | non=>
  cases rx
  have e':k=false:=e
  subst e'
  exact truthy_none ⟨H,I,q⟩
 | bl b=>
  cases rx
  have e':k=b:=e
  subst e'
  exact wpAny_truthy_bool ⟨H,I,q⟩
 | int i=>
  obtain ⟨t,rfl⟩:=rx
  have e':k=(i != 0):=e
  subst e'
  exact PySem.P.truthy_int ⟨H,I,q⟩
 | str y=>
  obtain ⟨t,rfl⟩:=rx
  obtain ⟨hy,e'⟩:y.length ≤ sizeLine∧k=((y.length:Int) != 0):=e
  subst e'
  exact PySem.P.truthy_str (by omega) ⟨H,I.tok _,q⟩
 | byt y=>
  obtain ⟨t,rfl⟩:=rx
  obtain ⟨hy,e'⟩:y.size ≤ sizeLine∧k=((y.size:Int) != 0):=e
  subst e'
  exact PySem.W.truthy_bytes (by omega) ⟨H,I.tok _,q⟩
 | ref p=>
  cases rx
  have e':(∃ xs,SqL X.K H p xs∧k = !xs.isEmpty)∨(∃ xs,SqT X.K H p xs∧k = !xs.isEmpty)∨∃ kvs,H p=some (.dK kvs)∧k = !kvs.isEmpty:=e
  rcases e' with ⟨xs,hx,e'⟩ | ⟨xs,hx,e'⟩ | ⟨kvs,hx,e'⟩
  ·subst e'
   obtain ⟨its,r,pl,hz⟩:=I.list hx
   have hlen:=r.length
   exact wpAny_truthy_list pl.isList (by simp only [List.size_toArray];omega) ⟨H,I.tok _,by rw [dE r];exact q⟩
  ·subst e'
   obtain ⟨its,r,pl,hz⟩:=I.tuple hx
   have hlen:=r.length
   exact truthy_tuple pl (by simp only [List.size_toArray];omega) ⟨H,I.tok _,by rw [dE r];exact q⟩
  ·subst e'
   obtain ⟨hz,hS,vs,r,m⟩:kvs.length ≤ sizeLine∧(p == sysModules)=false∧∃ vs,KV kvs vs∧s.heap.DictOf (zh X.prog X.w) p vs:=I.hok p _ hx
   have hlen:kvs.length=vs.length:=Paired.length r
   exact wpAny_truthy_dict hS m (by omega) ⟨H,I.tok _,by rw [yL r];exact q⟩
 | _=>exact (show False from e).elim
theorem AK (ha:PE X a ta) (he:∀ whole,isTrue a X.env whole=(do let v ← whole;standAt a.pos;holding [v] (truthy v))) :
  PT X a (fun σ H Q=>ta σ H fun x H'=>∃ k,V0 X.K x H' k∧Q k H'):=by
 intro pins s σ H Q I h
 exact isTrue_plain (thn (ha pins s σ H _ I h) fun v s1 ⟨x,H1,I1,r1,q1⟩=>zX pins s1 σ H1 x v Q I1 r1 q1) (he _)
theorem gM:OpR X (binaryOp .Add) (fun x y H Q=>∃ i j,x=.str i∧y=.str j∧i.length + j.length ≤ sizeLine∧Q (.str (i ++ j)) H):=by
 intro pins s σ H x y v u Q I rx ry h
 obtain ⟨i,j,rfl,rfl,hz,q⟩:=h
 obtain ⟨t,rfl⟩:=rx
 obtain ⟨t',rfl⟩:=ry
 exact add_str (fun t' tk=>⟨.str (i ++ j),H,I.tok _,⟨_,rfl⟩,q⟩) hz
theorem MG {x:V} {us:List Value} (r:Ae [x] us):∃ u,us=[u]∧cf x u:=by
 cases r with
 | cons r1 r2=>cases r2;exact ⟨_,rfl,r1⟩
theorem xR {x y:V} {us:List Value} (r:Ae [x,y] us):∃ u w',us=[u,w']∧cf x u∧cf y w':=by
 cases r with
 | cons r1 r2=>
  cases r2 with
  | cons r3 r4=>cases r4;exact ⟨_,_,rfl,r1,r3⟩
theorem xO (hc:X.calm=true):Qs X (.builtin "max") (fun xs H Q=>∃ i j,xs=[.int i,.int j]∧Q (.int (if j > i then j else i)) H):=by
 intro pins s σ H xs us Q I r h
 obtain ⟨i,j,rfl,q⟩:=h
 obtain ⟨u,w',rfl,⟨t,rfl⟩,⟨t',rfl⟩⟩:=xR r
 refine max_two_ints (I.ok.hd hc) fun h' tk k=>⟨_,H,I.kept k,?_,q⟩
 by_cases hj:j > i
 ·rw [if_pos hj,if_pos hj];exact ⟨_,rfl⟩
 ·rw [if_neg hj,if_neg hj];exact ⟨_,rfl⟩
theorem qg:Qs X (.type "str") (fun xs H Q=>∃ i,xs=[.int i]∧i.natAbs.log2 < 1920∧Q (.str (toString i)) H):=by
 intro pins s σ H xs us Q I r h
 obtain ⟨i,rfl,hz,q⟩:=h
 obtain ⟨u,rfl,t,rfl⟩:=MG r
 exact PySem.P.str_of_int hz ⟨.str _,H,I.tok _,⟨_,rfl⟩,q⟩
end
end L2
namespace L2
open PySem PySem.Spec PyProof.Rows
structure qW (h:Heap) (x dx C:Addr) (mA:Str→Option Value):Prop where
 obj:h.get? x=some (PySem.W.instObj C dx)
 ns:h.Ns1 dx mA
 ne:dx ≠ x
theorem OA {h:Heap} {dx:Addr} {mA:Str→Option Value} (n:h.Ns1 dx mA):∃ od,h.get? dx=some od∧∀ name,PySem.W.lookIn name od=some (mA name):=by
 obtain ⟨o,es,ep,ho,hd,hk,_,hm⟩:=n
 refine ⟨o,ho,fun name=>?_⟩
 have e:=hm name
 unfold nsFind findBy at e
 rw [← Array.find?_toList] at e
 unfold PySem.W.lookIn
 rw [hd]
 dsimp only
 split
 ·rename_i y q
  rw [q] at e
  exact congrArg some e
 ·rename_i q
  rw [q] at e
  have a:es.toList.any (·.refKey)=false:=by
   rw [List.any_eq_false]
   intro y hy
   obtain ⟨z,t,hkey⟩:=hk y (Array.mem_toList_iff.mp hy)
   simp [DictEntry.refKey,hkey]
  have a':¬ es.toList.any (·.refKey)=true:=by rw [a];exact Bool.false_ne_true
  rw [if_neg a']
  exact congrArg some e
theorem qW.look {h:Heap} {x dx C:Addr} {mA:Str→Option Value} (I:qW h x dx C mA):∃ od,PySem.W.InstAt h x (PySem.W.instObj C dx) C (some od)∧∀ name,PySem.W.lookIn name od=some (mA name):=
 let ⟨od,ho,hl⟩:=OA I.ns
 ⟨od,⟨I.obj,rfl,rfl,ho⟩,hl⟩
section
variable {prog:Program} {w:World} {A:Around} {E:Value→Shared→Prop} {s:Shared} {K:PySem.W.Frag} {x dx C f:Addr} {mA:Str→Option Value} {name:Str} {v:Value}
theorem XT {expr:Bool} {Q:Value→Shared→Prop} (X:K.In s.heap) (I:qW s.heap x dx C mA) (hg:PySem.W.plainGet K C name=true) (hh:PySem.W.hasDictIn K C=true)
  (ha:PySem.W.findIn K (.ref C) name=some none) (hv:mA name=some v) (hv':PySem.W.handedIn v=true) (h:Q v { s with toks:=s.toks + 1 }) :
  wpAny (model prog w) A (getAttr (.ref x) name expr) Q E s:=by
 obtain ⟨od,J,hl⟩:=I.look
 exact PySem.W.get_value X J (PySem.W.plainGet_of hg).1 (PySem.W.findObj_own hh ha rfl (by rw [hl,hv])) hv' h
theorem NR {pl:Sem Bool} {Q:Value × List Value→Shared→Prop} (X:K.In s.heap) (I:qW s.heap x dx C mA) (hg:PySem.W.plainGet K C name=true)
  (hf:PySem.W.findIn K (.ref C) name=some (some (.ref f))) (ht:PySem.W.isFn K (.ref f)=true) (hv:mA name=none) (h:Q (.ref f,[.ref x]) s) :
  wpAny (model prog w) A (getMethod (.ref x) name pl) Q E s:=by
 obtain ⟨od,J,hl⟩:=I.look
 exact PySem.W.method_fn X J (PySem.W.plainGet_of hg).1 (PySem.W.plainGet_of hg).2 hf (beq_iff_eq.mp ht) (by show (PySem.W.lookIn name od).map (·.isSome)=some false;rw [hl,hv];rfl) h
theorem IV {ns:List Str} {Q:Unit→Shared→Prop} (X:K.In s.heap) (I:qW s.heap x dx C mA)
  (hs:PySem.W.findIn K (.ref C) "__setattr__"=some (some (.builtin "object.__setattr__"))) (hp:PySem.W.plainOver K C=true) (ht:PySem.W.takerIn K C name=some none) (hh:PySem.W.hasDictIn K C=true)
  (hw:PySem.Within mA ns) (hsz:ns.length ≤ sizeLine)
  (h:∀ h',qW h' x dx C (fun y=>if y=name then some v else mA y)→Heap.SameBut dx s.heap h'→Q () { s with heap:=h',toks:=s.toks + 2 }) :
  wpAny (model prog w) A (setAttr (.ref x) name v) Q E s:=by
 obtain ⟨od,J,hl⟩:=I.look
 refine PySem.W.set_plain X J hs (PySem.W.osa_open (s:={ s with toks:=s.toks + 1 }) (r:=none) X J hp ht fun b=>?_)
 obtain ⟨cd,hc,hd'⟩:=PySem.W.any_some hh
 have hx:s.heap.get? x=some ⟨.ref C,some dx,.plain,#[]⟩:=I.obj
 refine wpAny_bind (wpAny_pure (wpAny_bind (wpAny_bind (wpAny_loadPart hx (wpAny_bind (PySem.W.Looks.here (s:={ s with toks:=s.toks + 1 }) (PySem.W.looks_clsIn X hc) ?_))))))
 rw [hd']
 refine wpAny_pure (a:=some dx) (wpAny_bind (wpAny_pure (wpAny_bind ?_)))
 refine wpAny_nsSet1 (s:={ s with toks:=s.toks + 1 }) I.ns fun h' hn2 hs2=>?_
 obtain ⟨oD,esD,epD,hoD,hdD,hcD⟩:=hn2.count (PySem.Within.cons name v hw)
 refine wpAny_bind (wpAny_lookBehind hoD (by rw [hdD];exact pastItsLine_dict (Nat.le_trans hcD (by rw [List.length_cons];omega))) ?_)
 exact wpAny_pure (h _ ⟨(hs2.2 _ (Ne.symm I.ne)).trans I.obj,hn2,I.ne⟩ hs2)
theorem dS {R:Result→Shared→Prop} {vs:List Value} {kw:List (Str × Value)} (X:K.In s.heap) (hm:PySem.W.makesIn K C=true)
  (hi:PySem.W.findIn K (.ref C) "__init__"=some (some (.ref f))) (hf:PySem.W.typeIn K (.ref f)=some (.type "function"))
  (h:codeAny (model prog w) (A.under (.builtin "type.__call__" ⟨.ref C :: vs,kw⟩)) (.call (.ref f) ⟨.ref (s.heap.objs.size + 1) :: vs,kw⟩) (PySem.W.InitBack (s.heap.objs.size + 1) R)
   { s with heap:=(s.heap.push PySem.W.emptyDict).push (PySem.W.instObj C s.heap.objs.size) }) :
  codeAny (model prog w) A (.call (.ref C) ⟨vs,kw⟩) R s:=by
 obtain ⟨hh,g,d,t,os⟩:=s
 exact PySem.W.make_core (PySem.W.makes_of X hm) (PySem.W.looks_findIn X hi) (fun self=>PySem.W.bind_fn X self hf) (.inl rfl) h
end
def dj (f:Str) (v:V):List (Str × V)→List (Str × V)
 | []=>[(f,v)]
 | (g,x) :: r=>if g=f then (g,v) :: r else (g,x) :: dj f v r
theorem wt (f g:Str) (v:V):∀ fs:List (Str × V),(dj f v fs).lookup g=if g=f then some v else fs.lookup g
 | []=>by
  show List.lookup g [(f,v)]=_
  by_cases h:g=f
  ·have hb:(g == f)=true:=beq_iff_eq.mpr h
   simp only [List.lookup,hb,if_pos h]
  ·have hb:(g == f)=false:=beq_eq_false_iff_ne.mpr h
   simp only [List.lookup,hb,if_neg h]
 | (k,x) :: r=>by
  have ih:=wt f g v r
  rw [show dj f v ((k,x) :: r)=(if k=f then (k,v) :: r else (k,x) :: dj f v r) from rfl]
  by_cases hk:k=f
  ·rw [if_pos hk]
   by_cases h:g=k
   ·have hb:(g == k)=true:=beq_iff_eq.mpr h
    simp only [List.lookup,hb,if_pos (h.trans hk)]
   ·have hb:(g == k)=false:=beq_eq_false_iff_ne.mpr h
    simp only [List.lookup,hb,if_neg (fun e:g=f=>h (e.trans hk.symm))]
  ·rw [if_neg hk]
   by_cases h:g=k
   ·have hb:(g == k)=true:=beq_iff_eq.mpr h
    simp only [List.lookup,hb,if_neg (fun e:g=f=>hk (h.symm.trans e))]
   ·have hb:(g == k)=false:=beq_eq_false_iff_ne.mpr h
    simp only [List.lookup,hb]
    exact ih
theorem Go (f:Str) (v:V):∀ fs:List (Str × V),f ∈ (dj f v fs).map (·.1)∧∀ g,g ∈ fs.map (·.1)→g ∈ (dj f v fs).map (·.1)
 | []=>⟨by simp [dj],fun g h=>by simp at h⟩
 | (k,x) :: r=>by
  obtain ⟨i1,i2⟩:=Go f v r
  rw [show dj f v ((k,x) :: r)=(if k=f then (k,v) :: r else (k,x) :: dj f v r) from rfl]
  by_cases hk:k=f
  ·rw [if_pos hk]
   subst hk
   exact ⟨by simp,fun g h=>by simpa using h⟩
  ·rw [if_neg hk]
   refine ⟨?_,fun g h=>?_⟩
   ·rw [List.map_cons]
    exact List.mem_cons_of_mem _ i1
   ·rw [List.map_cons] at h ⊢
    rcases List.mem_cons.mp h with e | e
    ·exact List.mem_cons.mpr (.inl e)
    ·exact List.mem_cons_of_mem _ (i2 g e)
theorem ot (f:Str) (v:V):∀ fs:List (Str × V),(dj f v fs).length ≤ fs.length + 1
 | []=>by simp [dj]
 | (k,x) :: r=>by
  have ih:=ot f v r
  rw [show dj f v ((k,x) :: r)=(if k=f then (k,v) :: r else (k,x) :: dj f v r) from rfl]
  by_cases hk:k=f
  ·rw [if_pos hk,List.length_cons,List.length_cons];omega
  ·rw [if_neg hk,List.length_cons,List.length_cons];omega
theorem aC.some_of {v:V} {o:Option Value} (r:aC (some v) o):∃ u,o=some u∧cf v u:=by
 cases o with
 | none=>exact (show False from r).elim
 | some u=>exact ⟨u,rfl,r⟩
theorem aC.none_of {o:Option Value} (r:aC none o):o=none:=by
 cases o with
 | none=>rfl
 | some u=>exact (show False from r).elim
theorem cG {v:V} {u:Value} (r:cf v u):PySem.W.handedIn u=true:=by
 cases v with
 | non=>cases (show u=Value.none from r);rfl
 | bl b=>cases (show u=Value.bool b from r);rfl
 | int i=>obtain ⟨t,e⟩:=(show ∃ t,u=Value.int i t from r);cases e;rfl
 | str x=>obtain ⟨t,e⟩:=(show ∃ t,u=Value.str x t from r);cases e;rfl
 | byt b=>obtain ⟨t,e⟩:=(show ∃ t,u=Value.bytes b t from r);cases e;rfl
 | flt b=>obtain ⟨t,e⟩:=(show ∃ t,u=Value.float b t from r);cases e;rfl
 | ref a=>cases (show u=Value.ref a from r);rfl
 | ty n=>cases (show u=Value.type n from r);rfl
section
variable {P:Program} {w:World} {H H':Hp} {h h':Heap} {a C dx:Addr} {fs fs':List (Str × V)}
theorem fF (hok:HOk P w H h) (e:H a=some (.ins C dx fs)):∃ mA,qW h a dx C mA∧(∀ f,aC (fs.lookup f) (mA f))∧PySem.Within mA (fs.map (·.1))∧fs.length ≤ 1000∧H dx=some (.own a):=by
 obtain ⟨d,z,ne,ob,mA,n,r,q⟩:=(show Ve P w H h a (.ins C dx fs) from hok a _ e)
 exact ⟨mA,⟨ob,n,ne⟩,r,q,z,d⟩
end
structure Cls (K:PySem.W.Frag) (C:Addr):Prop where
 pg:PySem.W.plainGet K C Str.empty=true
 hd:PySem.W.hasDictIn K C=true
 po:PySem.W.plainOver K C=true
 sa:PySem.W.findIn K (.ref C) "__setattr__"=some (some (.builtin "object.__setattr__"))
theorem Cls.get {K:PySem.W.Frag} {C:Addr} (c:Cls K C) (f:Str):PySem.W.plainGet K C f=true:=c.pg
def Mb (K:PySem.W.Frag) (C:Addr) (f:Str):Prop:=PySem.W.findIn K (.ref C) f=some none
theorem Mb.taker {K:PySem.W.Frag} {C:Addr} {f:Str} (n:Mb K C f):PySem.W.takerIn K C f=some none:=by
 unfold PySem.W.takerIn
 rw [show PySem.W.findIn K (.ref C) f=some none from n]
 rfl
structure Con (K:PySem.W.Frag) (C:Addr) (f:Str) (v:V) (u:Value):Prop where
 at_:PySem.W.findIn K (.ref C) f=some (some u)
 rel:cf v u
 get:PySem.W.specialIn K u "__get__"=some none
 cp:PySem.W.copiedNames.contains f=false
structure UD (K:PySem.W.Frag) (C:Addr) (m:Str) (f:Addr):Prop where
 at_:PySem.W.findIn K (.ref C) m=some (some (.ref f))
 fn:PySem.W.isFn K (.ref f)=true
 kp:PySem.W.keepIn K (.ref f)=true
section
variable {X:Cx} {pins:List (Addr × Obj)} {σ:St} {H:Hp} {s:Shared} {a C dx:Addr} {fs:List (Str × V)} {f:Str} {v:V} {A:Around} {E:Value→Shared→Prop}
theorem KD {b:Bool} {Q:Value→Shared→Prop} (I:Inv X pins σ H s) (e:H a=some (.ins C dx fs)) (c:Cls X.K C) (n:Mb X.K C f) (l:fs.lookup f=some v)
  (h:∀ u s',Inv X pins σ H s'→cf v u→Q u s'):wpAny (model X.prog X.w) A (getAttr (.ref a) f b) Q E s:=by
 obtain ⟨mA,O,r,_,_,_⟩:=fF I.hok e
 obtain ⟨u,hu,ru⟩:=aC.some_of (v:=v) (o:=mA f) (by rw [← l];exact r f)
 exact XT I.kIn O (c.get f) c.hd n hu (cG ru) (h u _ (I.tok _) ru)
theorem aw {m:Str} {g:Addr} {pl:Sem Bool} {Q:Value × List Value→Shared→Prop} (I:Inv X pins σ H s) (e:H a=some (.ins C dx fs)) (c:Cls X.K C) (k:UD X.K C m g) (l:fs.lookup m=none)
  (h:Q (.ref g,[.ref a]) s):wpAny (model X.prog X.w) A (getMethod (.ref a) m pl) Q E s:=by
 obtain ⟨mA,O,r,_,_,_⟩:=fF I.hok e
 have hn:mA m=none:=aC.none_of (by rw [← l];exact r m)
 exact NR I.kIn O (c.get m) k.at_ k.fn hn h
theorem mD {y:V} {u:Value} {Q:Unit→Shared→Prop} (I:Inv X pins σ H s) (e:H a=some (.ins C dx fs)) (c:Cls X.K C) (n:Mb X.K C f) (hl:fs.length < 1000) (ry:cf y u)
  (h:∀ s',Inv X pins σ (upd H a (.ins C dx (dj f y fs))) s'→Q () s'):wpAny (model X.prog X.w) A (setAttr (.ref a) f u) Q E s:=by
 obtain ⟨mA,O,r,wi,_,ho⟩:=fF I.hok e
 have hz:(fs.map (·.1)).length ≤ sizeLine:=by rw [List.length_map,sizeLine_eq];omega
 refine IV I.kIn O c.sa c.po n.taker c.hd wi hz fun h' O' sb=>h _ ?_
 have hd:∃ o,h'.get? dx=some o:=let ⟨o,_,_,e',_⟩:=O'.ns;⟨o,e'⟩
 refine I.write (x:=a) (e:=dx) (by rw [e];exact True.intro) (.inr ho) (fun b q hb z=>(sb.2 b hb).trans z) hd ?_
 refine ⟨by rw [rb O.ne];exact ho,?_,O.ne,O'.obj,_,O'.ns,fun g=>?_,fun g hg=>?_⟩
 ·have:=ot f y fs;omega
 ·show aC ((dj f y fs).lookup g) (if g=f then some u else mA g)
  rw [wt]
  by_cases q:g=f
  ·rw [if_pos q,if_pos q];exact ry
  ·rw [if_neg q,if_neg q];exact r g
 ·by_cases q:g=f
  ·rw [q];exact (Go f y fs).1
  ·refine (Go f y fs).2 g (wi g fun z=>hg ?_)
   show (if g=f then some u else mA g)=none
   rw [if_neg q];exact z
theorem Inv.made (I:Inv X pins σ H s):Inv X pins σ (upd (upd H s.heap.objs.size (.own (s.heap.objs.size + 1))) (s.heap.objs.size + 1) (.ins C s.heap.objs.size []))
  { s with heap:=(s.heap.push PySem.W.emptyDict).push (PySem.W.instObj C s.heap.objs.size) }:=by
 have e1:(s.heap.push PySem.W.emptyDict).get? s.heap.objs.size=some PySem.W.emptyDict:=Heap.get?_push_size s.heap rfl
 have e2:((s.heap.push PySem.W.emptyDict).push (PySem.W.instObj C s.heap.objs.size)).get? (s.heap.objs.size + 1)=some (PySem.W.instObj C s.heap.objs.size):=by
  have:=Heap.get?_push_size (s.heap.push PySem.W.emptyDict) (o:=PySem.W.instObj C s.heap.objs.size) rfl
  rwa [Heap.size_push] at this
 have e3:(s.heap.push PySem.W.emptyDict).Ns s.heap.objs.size (fun _=>none):=⟨PySem.W.emptyDict,#[],_,e1,rfl,(fun e he=>absurd he (by simp)),fun _=>rfl⟩
 have I1:=I.laid (a:=s.heap.objs.size) (o:=.own (s.heap.objs.size + 1)) (h':=s.heap.push PySem.W.emptyDict) (t':=s.toks) (fun b u q=>Heap.get?_push_of_some _ q) (Nat.le_refl _) ⟨_,e1⟩
 refine I1.laid (a:=s.heap.objs.size + 1) (o:=.ins C s.heap.objs.size []) (t':=s.toks) (fun b u q=>Heap.get?_push_of_some _ q) (Nat.le_of_eq (Heap.size_push _ _)) ?_
 have ne:s.heap.objs.size ≠ s.heap.objs.size + 1:=Nat.ne_of_lt (Nat.lt_succ_self _)
 refine ⟨by rw [rb ne,fb],Nat.zero_le _,ne,e2,fun _=>none,(Heap.Ns1.of_empty e3).at fun o q=>Heap.get?_push_of_some _ q,fun _=>True.intro,fun y hy=>absurd rfl hy⟩
theorem rO {prog:Program} {w:World} {env:Env} {e:Expr} {f:Str} {pos:Pos} {s:Shared} {Q:Value→Shared→Prop} (hb:attributeBase e f env (eval e env)=eval e env)
  (h:wpAny (model prog w) A (eval e env) (fun o s₁=>wpAny (model prog w) A (getAttr o f true) Q E s₁) E s):wpAny (model prog w) A (eval (.Attribute e f pos) env) Q E s:=
 Attribute_any_ h (by rw [arm_eval_Attribute,hb])
end
def JZ (K:PySem.W.Frag) (ta:TE) (f:Str):TE:=fun σ H Q=>ta σ H fun x H1=>∃ a C dx fs v,x=.ref a∧H1 a=some (.ins C dx fs)∧Cls K C∧Mb K C f∧fs.lookup f=some v∧Q v H1
def Q2 (K:PySem.W.Frag) (ta:TE) (f:Str):TE:=fun σ H Q=>ta σ H fun x H1=>∃ a C dx fs v u,x=.ref a∧H1 a=some (.ins C dx fs)∧Cls K C∧Con K C f v u∧fs.lookup f=none∧Q v H1
def v1 (K:PySem.W.Frag) (ta tv:TE) (f:Str):TS:=fun D σ H=>tv σ H fun y H1=>ta σ H1 fun x H2=>∃ a C dx fs,x=.ref a∧H2 a=some (.ins C dx fs)∧Cls K C∧Mb K C f∧fs.length < 1000 ∧
 D.nx σ (upd H2 a (.ins C dx (dj f y fs)))
def N0 (X:Cx) (op:Operator) (rd:V→V→Hp→VK→Prop):Prop:=
 ∀ (pins:List (Addr × Obj)) (s:Shared) (σ:St) (H:Hp) (x y:V) (u v:Value) (Q:VK),Inv X pins σ H s→cf x u→cf y v→rd x y H Q→wpAny (model X.prog X.w) X.A (inplaceOp op u v) (EP X pins σ Q) X.xe s
def fQ (K:PySem.W.Frag) (ta tv:TE) (rd:V→V→Hp→VK→Prop) (f:Str):TS:=fun D σ H=>ta σ H fun x H1=>∃ a C dx fs v,x=.ref a∧H1 a=some (.ins C dx fs)∧Cls K C∧Mb K C f∧fs.lookup f=some v ∧
 tv σ H1 fun y H2=>rd v y H2 fun z H3=>∃ dx' fs',H3 a=some (.ins C dx' fs')∧fs'.length < 1000∧D.nx σ (upd H3 a (.ins C dx' (dj f z fs')))
section
variable {X:Cx} {o e value:Expr} {f:Str} {pos pos' tpos:Pos} {ta tv:TE}
theorem Kd (he:PE X e ta) (hb:attributeBase e f X.env (eval e X.env)=eval e X.env):PE X (.Attribute e f pos) (JZ X.K ta f):=by
 intro pins s σ H Q I h
 refine rO hb (thn (he pins s σ H _ I h) fun u s1 ⟨x,H1,I1,rx,a,C,dx,fs,v,ex,ea,c,n,l,q⟩=>?_)
 subst ex
 obtain rfl:u=Value.ref a:=rx
 exact KD I1 ea c n l fun u' s2 I2 ru=>⟨v,H1,I2,ru,q⟩
theorem Jh (ha:PE X o ta) (hv:PE X value tv) (hs:swapsWith value (some (.Attribute o f pos')) pos.line X.env=pure false):PS X (.Assign [.Attribute o f pos'] value pos) (v1 X.K ta tv f):=by
 intro pins s σ H D I h
 refine plainObj_wpAny_Assign_Attribute (thn (hv pins s σ H _ I h) fun u s1 ⟨y,H1,I1,ry,q⟩=>thn (ha pins s1 σ H1 _ I1 q) fun ov s2 ⟨x,H2,I2,rx,a,C,dx,fs,ex,ea,c,n,l,q2⟩=>?_) hs
 subst ex
 obtain rfl:ov=Value.ref a:=rx
 exact mD I2 ea c n l ry fun s3 I3=>⟨σ,_,I3,q2⟩
theorem DG {op:Operator} {rd:V→V→Hp→VK→Prop} (ha:PE X o ta) (hv:PE X value tv) (hop:N0 X op rd):PS X (.AugAssign (.Attribute o f tpos) op value pos) (fQ X.K ta tv rd f):=by
 intro pins s σ H D I h
 refine wpAny_AugAssign_AttributeAny (thn (ha pins s σ H _ I h) fun ov s1 ⟨x,H1,I1,rx,a,C,dx,fs,v,ex,ea,c,n,l,q⟩=>?_)
 subst ex
 obtain rfl:ov=Value.ref a:=rx
 refine KD I1 ea c n l fun u s2 I2 ru=>thn (hv pins s2 σ H1 _ I2 q) fun w3 s3 ⟨y,H2,I3,ry,q3⟩=>thn (hop pins s3 σ H2 v y u w3 _ I3 ru ry q3) fun w4 s4 ⟨z,H3,I4,rz,dx',fs',ea',l',q4⟩=>?_
 exact mD I4 ea' c n l' rz fun s5 I5=>⟨σ,_,I5,q4⟩
def B1:V→V→Hp→VK→Prop:=fun x y H Q=>∃ i j,x=.int i∧y=.int j∧Q (.int (i + j)) H
def O2:V→V→Hp→VK→Prop:=fun x y H Q=>∃ i j,x=.int i∧y=.int j∧Q (.int (i - j)) H
theorem XS:N0 X .Add B1:=by
 rintro pins s σ H x y u v Q I rx ry ⟨i,j,rfl,rfl,q⟩
 obtain ⟨t,rfl⟩:=(show ∃ t,u=Value.int i t from rx)
 obtain ⟨t',rfl⟩:=(show ∃ t',v=Value.int j t' from ry)
 exact PyProof.Rows.iadd_int ⟨.int (i + j),H,I.tok _,⟨_,rfl⟩,q⟩
end
section
variable {X:Cx} {pins:List (Addr × Obj)} {σ:St} {H:Hp} {s:Shared} {A:Around} {E:Value→Shared→Prop} {Q:Value→Shared→Prop} {c:Value} {b:Bool}
inductive jK (K:PySem.W.Frag) (H:Hp):V→Value→Prop where
 | non:jK K H .non (.type "NoneType")
 | bl (x:Bool):jK K H (.bl x) (.type "bool")
 | int (i:Int):jK K H (.int i) (.type "int")
 | str (x:Str):jK K H (.str x) (.type "str")
 | flt (x:UInt64):jK K H (.flt x) (.type "float")
 | lst {a:Addr} {xs:List V} (e:H a=some (.lst xs)):jK K H (.ref a) (.type "list")
 | frz {a:Addr} {o:Obj} {xs:List V} (e:H a=some (.frz o (.lst xs))):jK K H (.ref a) (.type "list")
 | tup {a:Addr} {xs:List V} (e:H a=some (.tup xs)):jK K H (.ref a) (.type "tuple")
 | dK {a:Addr} {kvs:List (Key × V)} (e:H a=some (.dK kvs)):jK K H (.ref a) (.type "dict")
 | dT {a:Addr} {kvs:List (List Key × V)} (e:H a=some (.dT kvs)):jK K H (.ref a) (.type "dict")
 | ins {a C dx:Addr} {fs:List (Str × V)} (e:H a=some (.ins C dx fs)) (cl:Cls K C) (ha:PySem.W.findIn K (.ref C) "__class__"=some (some (.builtin "object.__class__")))
   (hn:PySem.W.specialIn K (.builtin "object.__class__") "__get__"=some (some (.builtin "getset_descriptor.__get__"))) (htk:PySem.W.takesIn K (.builtin "object.__class__")=some true)
   (hm:PySem.W.mroIn K C (.type "object")=some true):jK K H (.ref a) (.ref C)
theorem eQ {x:V} {u t:Value} (I:Inv X pins σ H s) (rx:cf x u) (ty:jK X.K H x t) (e:PySem.W.kitOne X.K t c=some b) (h:∀ tk,Q (.bool b) { s with toks:=tk }) :
  wpAny (model X.prog X.w) A (call (.builtin "isinstance") [u,c]) Q E s:=by
 cases ty with
 | non=>cases (show u=Value.none from rx);exact PySem.W.kia_one PySem.W.kitx_none I.kIn True.intro e (fun z=>nomatch z) h
 | bl y=>cases (show u=Value.bool y from rx);exact PySem.W.kia_one PySem.W.kitx_bool I.kIn True.intro e (fun z=>nomatch z) h
 | int i=>obtain ⟨t,q⟩:=(show ∃ t,u=Value.int i t from rx);cases q;exact PySem.W.kia_one PySem.W.kitx_int I.kIn True.intro e (fun z=>nomatch z) h
 | str y=>obtain ⟨t,q⟩:=(show ∃ t,u=Value.str y t from rx);cases q;exact PySem.W.kia_one PySem.W.kitx_str I.kIn True.intro e (fun z=>nomatch z) h
 | flt y=>obtain ⟨t,q⟩:=(show ∃ t,u=Value.float y t from rx);cases q;exact PySem.W.kia_one PySem.W.kitx_float I.kIn True.intro e (fun z=>nomatch z) h
 | @lst a xs ea=>
  cases (show u=Value.ref a from rx)
  obtain ⟨_,_,n,_,h1⟩:=(show Ve X.prog X.w H s.heap a (.lst xs) from I.hok a _ ea)
  exact PySem.W.kia_one PySem.W.kitx_list I.kIn ⟨_,h1,rfl⟩ e (fun z=>nomatch z) h
 | @frz a ob xs ea=>
  cases (show u=Value.ref a from rx)
  obtain ⟨_,_,_,n,_,h1⟩:=(show Ve X.prog X.w H s.heap a (.frz ob (.lst xs)) from I.hok a _ ea)
  exact PySem.W.kia_one PySem.W.kitx_list I.kIn ⟨_,h1,rfl⟩ e (fun z=>nomatch z) h
 | @tup a xs ea=>
  cases (show u=Value.ref a from rx)
  obtain ⟨_,_,_,p⟩:=(show Ve X.prog X.w H s.heap a (.tup xs) from I.hok a _ ea)
  obtain ⟨o,h1,h2,_⟩:=p
  exact PySem.W.kia_one PySem.W.kitx_tuple I.kIn ⟨o,h1,h2⟩ e (fun z=>nomatch z) h
 | @dK a kvs ea=>
  cases (show u=Value.ref a from rx)
  obtain ⟨_,_,vs,_,p⟩:=(show Ve X.prog X.w H s.heap a (.dK kvs) from I.hok a _ ea)
  obtain ⟨o,es,ep,h1,h2,_⟩:=p
  exact PySem.W.kia_one PySem.W.kitx_dict I.kIn ⟨o,h1,h2.1⟩ e (fun z=>nomatch z) h
 | @dT a kvs ea=>
  cases (show u=Value.ref a from rx)
  obtain ⟨_,_,xs,_,o,es,ep,h1,h2,_⟩:=(show Ve X.prog X.w H s.heap a (.dT kvs) from I.hok a _ ea)
  exact PySem.W.kia_one PySem.W.kitx_dict I.kIn ⟨o,h1,h2.1⟩ e (fun z=>nomatch z) h
 | @ins a C dx fs ea cl ha hn htk hm=>
  cases (show u=Value.ref a from rx)
  obtain ⟨mA,O,_⟩:=fF I.hok ea
  obtain ⟨od,J,_⟩:=O.look
  exact PySem.W.kia_one (PySem.W.kitx_own (cl.get _) cl.hd ha hn htk hm) I.kIn J e (fun z=>nomatch z) h
end
end L2
namespace L2
open PySem PySem.Spec PyProof.Rows
structure Hm (k:Nat) (A:Around):Prop where
 hd:A.handled=none
 dp:A.depth + 3 * k + 5 < recursionLimit
 un:A.units + 16 * k + 200 < cLine
theorem Hm.mono {j k:Nat} {A:Around} (r:Hm k A) (h:j ≤ k):Hm j A:=⟨r.hd,by have:=r.dp;omega,by have:=r.un;omega⟩
theorem Hm.deeper {k:Nat} {A:Around} (r:Hm (k + 1) A) (env:Env):Hm k (A.deeper env):=
 ⟨r.hd,by have:=r.dp;show A.depth + 1 + 3 * k + 5 < _;omega,by have:=r.un;show A.units + 3 + 16 * k + 200 < _;omega⟩
theorem Hm.in1 {k:Nat} {A:Around} (r:Hm (k + 1) A):Hm k A.in1:=
 ⟨r.hd,by have:=r.dp;show A.depth + 3 * k + 5 < _;omega,by have:=r.un;show A.units + 1 + 16 * k + 200 < _;omega⟩
theorem mL {A:Around} {C:Addr} {us:List Value} {kw:List (Str × Value)}:(A.under (.builtin "type.__call__" ⟨.ref C :: us,kw⟩)).depth=A.depth + 1:=by
 first | rfl | simp [Around.under,Code.weight,Code.isCreation,Code.isGuard,Code.isCaller,Code.frames,Code.isFrame,guardIds]
theorem kM {A:Around} {C:Addr} {us:List Value} {kw:List (Str × Value)}:(A.under (.builtin "type.__call__" ⟨.ref C :: us,kw⟩)).units=A.units + 1:=by
 first | rfl | simp [Around.under,Code.cUnits,Code.frames,Code.isFrame]
theorem Hm.make {k:Nat} {A:Around} (r:Hm (k + 1) A) (C:Addr) (us:List Value) (kw:List (Str × Value)):Hm k (A.under (.builtin "type.__call__" ⟨.ref C :: us,kw⟩)):=
 ⟨r.hd,by have:=r.dp;rw [mL];omega,by have:=r.un;rw [kM];omega⟩
theorem Hm.depth {k:Nat} {A:Around} (r:Hm k A):A.depth < recursionLimit:=by have:=r.dp;omega
theorem Hm.units {k:Nat} {A:Around} (r:Hm k A):A.units + 64 < cLine:=by have:=r.un;omega
def dZ:TA:=fun _ H Q=>Q [] H
def dY (ta:TE) (tr:TA):TA:=fun σ H Q=>ta σ H fun x H1=>tr σ H1 fun xs H2=>Q (x :: xs) H2
section
variable {X:Cx} {e:Expr} {es:List Expr} {te:TE} {t:TA} {pos:Pos}
theorem ib:PA X [] dZ:=fun _ _ _ _ H Q I h=>Calls.spliced_nil ⟨[],H,I,.nil,h⟩
theorem cb (ha:PE X e te) (hr:PA X es t) (hs:starEach (e :: es) X.env=(false,eval e X.env) :: starEach es X.env:=by rfl):PA X (e :: es) (dY te t):=by
 intro pos pins s σ H Q I h
 rw [hs]
 show wpAny _ _ (spliced ((false,eval e X.env) :: backTo pos (starEach es X.env))) _ _ s
 refine Calls.spliced_cons (thn (ha pins s σ H _ I h) fun u s1 ⟨x,H1,I1,r1,q1⟩=>?_)
 exact thn (hr pos pins s1 σ H1 _ I1 q1) fun us s2 ⟨xs,H2,I2,r2,q2⟩=>⟨x :: xs,H2,I2,.cons r1 r2,q2⟩
def K0 (t:TA):TE:=fun σ H Q=>t σ H fun xs H1=>xs.length ≤ sizeLine∧∀ p,H1 p=none→Q (.ref p) (upd H1 p (.tup xs))
def P0 (t:TA):TE:=fun σ H Q=>t σ H fun xs H1=>xs.length ≤ sizeLine∧∀ p,H1 p=none→Q (.ref p) (upd H1 p (.lst xs))
theorem Eo {x1} (h:PA X es t):PE X (.Tuple es x1 pos) (K0 t):=by
 intro pins s σ H Q I hq
 refine wpAny_Tuple_spliced (thn (h pos pins s σ H _ I hq) fun us s1 ⟨xs,H1,I1,r,z,q⟩=>⟨by rw [← r.length];exact z,?_⟩)
 have hf:H1 s1.heap.objs.size=none:=I1.hok.fresh (Nat.le_refl _)
 refine ⟨.ref s1.heap.objs.size,upd H1 s1.heap.objs.size (.tup xs),I1.laid (t':=s1.toks) (fun b u e=>Heap.get?_push_of_some _ e) (Nat.le_refl _) ?_,rfl,q _ hf⟩
 exact ⟨z,us,r,⟨_,Heap.get?_push_size _ rfl,rfl,_,rfl⟩⟩
theorem mf (h:PA X es t):PE X (.List es pos) (P0 t):=by
 intro pins s σ H Q I hq
 refine wpAny_List_spliced (thn (h pos pins s σ H _ I hq) fun us s1 ⟨xs,H1,I1,r,z,q⟩=>⟨by rw [← r.length];exact z,?_⟩)
 have hf:H1 s1.heap.objs.size=none:=I1.hok.fresh (Nat.le_refl _)
 refine ⟨.ref s1.heap.objs.size,upd H1 s1.heap.objs.size (.lst xs),I1.laid (t':=s1.toks) (fun b u e=>Heap.get?_push_of_some _ e) (Nat.le_refl _) ?_,rfl,q _ hf⟩
 exact ⟨z,us,0,r,Heap.get?_push_size _ rfl⟩
end
abbrev Sp:=List V→Hp→VK→XK→Prop
abbrev CXT:=List Env→Hp→Shared→XK→Value→Shared→Prop
structure TN (P:Program) (w:World) (K:PySem.W.Frag) (mg:Str→Option Value) (base:Heap) (A:Around) (outer:List Env) (s:Shared) (H:Hp):Prop where
 frames:A.frames=some outer
 mod:Mod K mg base
 bs:∀ b o,base.get? b=some o→s.heap.get? b=some o∧H b=none
 bsz:base.objs.size ≤ s.heap.objs.size
 funs:s.heap.FunFrames base outer
 frf:∀ b ∈ frs outer,H b=none
 hok:HOk P w H s.heap
 bare:AllBare s.gens
def CE (outer:List Env) (P:Program) (w:World) (H:Hp) (s:Shared) (Q:VK) (u:Value) (s':Shared):Prop:=
 ∃ v H',s'.os=s.os∧AllBare s'.gens∧Un (frs outer) [] H H' s.heap s'.heap∧HOk P w H' s'.heap∧cf v u∧Q v H'
def CR (CX:CXT) (outer:List Env) (P:Program) (w:World) (H:Hp) (s:Shared) (Q:VK) (E:XK) (r:Result) (s':Shared):Prop:=
 match r with
 | .ok (.ret u)=>CE outer P w H s Q u s'
 | .ok _=>False
 | .error e=>CX outer H s E e s'
structure Nb (P:Program) (w:World) (K:PySem.W.Frag) (mg:Str→Option Value) (base:Heap) (CX:CXT) (k:Nat) (f:Addr) (fd:FuncData) (ps:List Str) (sp:Sp):Prop where
 len:∀ vs H Q E,sp vs H Q E→vs.length=ps.length
 run:∀ (A:Around) (outer:List Env) (s:Shared) (H:Hp) (args:Args) (us:List Value) (vs:List V) (Q:VK) (E:XK),Hm k A→TN P w K mg base A outer s H→BindsTo s fd args (ps.zip us)→Ae vs us→sp vs H Q E →
  codeAny (model P w) A (.call (.ref f) args) (CR CX outer P w H s Q E) s
theorem Nb.mono {P:Program} {w:World} {K:PySem.W.Frag} {mg:Str→Option Value} {base:Heap} {CX:CXT} {j k:Nat} {f:Addr} {fd:FuncData} {ps:List Str} {sp:Sp} (F:Nb P w K mg base CX j f fd ps sp) (h:j ≤ k) :
  Nb P w K mg base CX k f fd ps sp:=⟨F.len,fun A outer s H args us vs Q E hr=>F.run A outer s H args us vs Q E (hr.mono h)⟩
theorem Nb.imp {P:Program} {w:World} {K:PySem.W.Frag} {mg:Str→Option Value} {base:Heap} {CX:CXT} {k:Nat} {f:Addr} {fd:FuncData} {ps:List Str} {sp sp':Sp} (F:Nb P w K mg base CX k f fd ps sp)
  (h:∀ vs H Q E,sp' vs H Q E→sp vs H Q E):Nb P w K mg base CX k f fd ps sp':=
 ⟨fun vs H Q E q=>F.len vs H Q E (h _ _ _ _ q),fun A outer s H args us vs Q E hr he hb hv hs=>F.run A outer s H args us vs Q E hr he hb hv (h _ _ _ _ hs)⟩
theorem TN.make {P:Program} {w:World} {K:PySem.W.Frag} {mg:Str→Option Value} {base:Heap} {A:Around} {outer:List Env} {s:Shared} {H:Hp} (e:TN P w K mg base A outer s H) (C:Addr) (us:List Value) (kw:List (Str × Value)) :
  TN P w K mg base (A.under (.builtin "type.__call__" ⟨.ref C :: us,kw⟩)) outer s H:=⟨by first | exact e.frames | (simpa [Around.under,Code.envs,Code.isFrame,pushEnvs] using e.frames),e.mod,e.bs,e.bsz,e.funs,e.frf,e.hok,e.bare⟩
theorem TN.in1 {P:Program} {w:World} {K:PySem.W.Frag} {mg:Str→Option Value} {base:Heap} {A:Around} {outer:List Env} {s:Shared} {H:Hp} (e:TN P w K mg base A outer s H) :
  TN P w K mg base A.in1 outer s H:=⟨e.frames,e.mod,e.bs,e.bsz,e.funs,e.frf,e.hok,e.bare⟩
section
variable {X:Cx} {pins:List (Addr × Obj)} {σ:St} {H:Hp} {s s':Shared}
theorem Inv.env0 (I:Inv X pins σ H s):TN X.prog X.w X.K X.mg X.base X.A X.stack s H:=
 ⟨I.ok.frames,I.ok.mod,I.bs,Nat.le_trans I.ok.bsz I.sz,I.stack,I.stkFree,I.hok,I.bare⟩
theorem Inv.after {Q:VK} {u:Value} (I:Inv X pins σ H s) (h:CE X.stack X.prog X.w H s Q u s'):EP X pins σ Q u s':=by
 obtain ⟨v,H',os,bare,un,hok,r,q⟩:=h
 obtain ⟨hh,g,d,t,os'⟩:=s'
 obtain rfl:os'=s.os:=os
 exact ⟨v,H',I.call (h':=hh) (g':=g) (d':=d) (t':=t) (ch:=[]) un hok bare (fun b z=>absurd z (by simp)),r,q⟩
end
def kW (sp:Sp) (dvs:List V) (E:XK) (t:TA):TE:=fun σ H Q=>t σ H fun vs H1=>sp (vs ++ dvs) H1 Q E
def eW (C:Addr) (m:Str) (sp:Sp) (dvs:List V) (E:XK) (ta:TE) (t:TA):TE:=fun σ H Q=>ta σ H fun x H1=>∃ a dx fs,x=.ref a∧H1 a=some (.ins C dx fs)∧fs.lookup m=none ∧
 t σ H1 fun vs H2=>sp (x :: (vs ++ dvs)) H2 Q E
def IW (C:Addr) (sp:Sp) (dvs:List V) (E:XK) (t:TA):TE:=fun σ H Q=>t σ H fun vs H1=>∀ x dx,H1 x=none→H1 dx=none→dx ≠ x →
 sp (.ref x :: (vs ++ dvs)) (upd (upd H1 dx (.own x)) x (.ins C dx [])) (fun v H2=>v=.non∧Q (.ref x) H2) E
def gc (K:PySem.W.Frag) (fd:FuncData) (ps:List Str) (ds:List Value):Prop:=
 ∀ (s:Shared) (us:List Value),K.In s.heap→(us ++ ds).length=ps.length→BindsTo s fd ⟨us,[]⟩ (ps.zip (us ++ ds))
theorem gc.all {K:PySem.W.Frag} {fd:FuncData} {ps:List Str} (h:∀ us:List Value,us.length=ps.length→bindArgs fd ⟨us,[]⟩=pure (ps.zip us)):gc K fd ps []:=fun s us _ hl=>by
 rw [List.append_nil] at hl ⊢
 exact .of_eq (h us hl)
def Rr (CX:CXT) (X:Cx) (E:XK):Prop:=∀ (pins:List (Addr × Obj)) (σ:St) (H:Hp) (s:Shared) (e:Value) (s':Shared),Inv X pins σ H s→CX X.stack H s E e s'→X.xe e s'
section
variable {X:Cx} {CX:CXT} {k:Nat} {f C:Addr} {fd:FuncData} {ps:List Str} {sp:Sp} {dvs:List V} {ds:List Value} {E:XK} {x m:Str} {p pos apos:Pos} {e o:Expr} {es:List Expr} {ta:TE} {t:TA}
theorem wH {pins:List (Addr × Obj)} {σ:St} {H:Hp} {s:Shared} {Q:VK} {us:List Value} {vs:List V} (F:Nb X.prog X.w X.K X.mg X.base CX k f fd ps sp) (hr:Hm k X.A) (hb:gc X.K fd ps ds) (hd:Ae dvs ds) (hx:Rr CX X E)
  (I:Inv X pins σ H s) (r:Ae vs us) (h:sp (vs ++ dvs) H Q E):wpAny (model X.prog X.w) X.A (call (.ref f) us) (EP X pins σ Q) X.xe s:=by
 have r2:Ae (vs ++ dvs) (us ++ ds):=r.append hd
 have hl:(us ++ ds).length=ps.length:=by rw [← r2.length];exact F.len _ _ _ _ h
 refine wpAny_call (codeAny_mono (F.run X.A X.stack s H ⟨us,[]⟩ (us ++ ds) (vs ++ dvs) Q E hr I.env0 (hb s us I.kIn hl) r2 h) fun r s' hq=>?_)
 cases r with
 | error e=>exact hx pins σ H s e s' I hq
 | ok fl=>
  cases fl with
  | ret u=>exact I.after hq
  | next=>exact False.elim hq
  | brk=>exact False.elim hq
  | cont=>exact False.elim hq
theorem Fb (F:Nb X.prog X.w X.K X.mg X.base CX k f fd ps sp) (hr:Hm k X.A) (hg:Gl X x) (hm:X.mg x=some (.ref f)) (hk:PySem.W.keepIn X.K (.ref f)=true) (hb:gc X.K fd ps ds) (hd:Ae dvs ds) (hx:Rr CX X E)
  (ha:PA X (e :: es) t) (hdb:(x == ("__debug__" : Str))=false:=by decide) (he:starEach (e :: es) X.env=(false,eval e X.env) :: starEach es X.env:=by rfl) (hpl:(backTo pos (starEach es X.env)).any (·.1)=false:=by rfl) :
  PE X (.Call (.Name x p) (e :: es) [] pos) (kW sp dvs E t):=by
 intro pins s σ H Q I h
 refine wpAny_Call_Name_kw (lp I hg hm ?_ hdb)
 refine PySem.W.callWith_K (h₀:=X.base) I.ok.mod.kin hk (thn (ha pos pins s σ H _ I h) fun us s1 ⟨vs,H1,I1,r,q⟩=>⟨I1.kIn,?_⟩) he hpl
 exact wH F hr hb hd hx I1 r q
theorem Td {pl:Sem Bool} (he:PE X o ta) (c:Cls X.K C) (hm:UD X.K C m f) (F:Nb X.prog X.w X.K X.mg X.base CX k f fd ps sp) (hr:Hm k X.A) (hb:gc X.K fd ps ds) (hd:Ae dvs ds) (hx:Rr CX X E) (ha:PA X (e :: es) t)
  (hst:starEach (e :: es) X.env=(false,eval e X.env) :: starEach es X.env:=by rfl) (hpl:(backTo pos (starEach es X.env)).any (·.1)=false:=by rfl)
  (ht:eval (.Call (.Attribute o m apos) (e :: es) [] pos) X.env=(do
   let ov ← eval o X.env
   standAt apos.atName
   let (f,first) ← holding [ov] (getMethod ov m pl)
   callWith pos f first (backTo pos (starEach (e :: es) X.env)) (backToKw pos (keywordEach [] X.env))):=by rfl) :
  PE X (.Call (.Attribute o m apos) (e :: es) [] pos) (eW C m sp dvs E ta t):=by
 intro pins s σ H Q I h
 refine PySem.W.methodCall_KW (pl:=pl) (thn (he pins s σ H _ I h) fun u s1 ⟨x,H1,I1,rx,a,dx,fs,ex,ea,l,q⟩=>?_) ht
 subst ex
 obtain rfl:u=Value.ref a:=rx
 refine aw I1 ea c hm l ?_
 refine PySem.W.callWith_K (first:=[.ref a]) (h₀:=X.base) I.ok.mod.kin hm.kp (thn (ha pos pins s1 σ H1 _ I1 q) fun us s2 ⟨vs,H2,I2,r,q2⟩=>⟨I2.kIn,?_⟩) hst hpl
 exact wH (us:=.ref a :: us) (vs:=.ref a :: vs) F hr hb hd hx I2 (.cons rfl r) q2
theorem oe {pl:Sem Bool} (he:PE X o ta) (c:Cls X.K C) (hm:UD X.K C m f) (F:Nb X.prog X.w X.K X.mg X.base CX k f fd ps sp) (hr:Hm k X.A) (hb:gc X.K fd ps ds) (hd:Ae dvs ds) (hx:Rr CX X E)
  (ht:eval (.Call (.Attribute o m apos) [] [] pos) X.env=(do
   let ov ← eval o X.env
   standAt apos.atName
   let (f,first) ← holding [ov] (getMethod ov m pl)
   callWith pos f first (backTo pos (starEach [] X.env)) (backToKw pos (keywordEach [] X.env))):=by rfl) :
  PE X (.Call (.Attribute o m apos) [] [] pos) (eW C m sp dvs E ta dZ):=by
 intro pins s σ H Q I h
 refine PySem.W.methodCall_KW (pl:=pl) (thn (he pins s σ H _ I h) fun u s1 ⟨x,H1,I1,rx,a,dx,fs,ex,ea,l,q⟩=>?_) ht
 subst ex
 obtain rfl:u=Value.ref a:=rx
 refine aw I1 ea c hm l ?_
 exact PySem.W.callWith_K0 (first:=[.ref a]) I1.kIn hm.kp (wH (us:=[.ref a]) (vs:=[.ref a]) F hr hb hd hx I1 (.cons rfl .nil) q)
structure Mk (K:PySem.W.Frag) (C f:Addr):Prop where
 makes:PySem.W.makesIn K C=true
 init:PySem.W.findIn K (.ref C) "__init__"=some (some (.ref f))
 fn:PySem.W.isFn K (.ref f)=true
 kp:PySem.W.keepIn K (.ref C)=true
theorem AS {pins:List (Addr × Obj)} {σ:St} {H:Hp} {s:Shared} {Q:VK} {us:List Value} {vs:List V} (M:Mk X.K C f) (F:Nb X.prog X.w X.K X.mg X.base CX k f fd ps sp) (hr:Hm (k + 1) X.A) (hb:gc X.K fd ps ds) (hd:Ae dvs ds)
  (hx:Rr CX X E) (I:Inv X pins σ H s) (r:Ae vs us)
  (h:∀ x dx,H x=none→H dx=none→dx ≠ x→sp (.ref x :: (vs ++ dvs)) (upd (upd H dx (.own x)) x (.ins C dx [])) (fun v H2=>v=.non∧Q (.ref x) H2) E) :
  wpAny (model X.prog X.w) X.A (call (.ref C) us) (EP X pins σ Q) X.xe s:=by
 have hq:=h (s.heap.objs.size + 1) s.heap.objs.size (I.hok.fresh (Nat.le_succ _)) (I.hok.fresh (Nat.le_refl _)) (Nat.ne_of_lt (Nat.lt_succ_self _))
 have I2:=Inv.made (C:=C) I
 have r2:Ae (V.ref (s.heap.objs.size + 1) :: (vs ++ dvs)) (Value.ref (s.heap.objs.size + 1) :: (us ++ ds)):=.cons rfl (r.append hd)
 have hl:(Value.ref (s.heap.objs.size + 1) :: us ++ ds).length=ps.length:=by
  have e:=r2.length
  rw [F.len _ _ _ _ hq] at e
  exact e.symm
 refine wpAny_call (dS (f:=f) I.kIn M.makes M.init (beq_iff_eq.mp M.fn) (codeAny_mono (F.run _ X.stack _ _ ⟨Value.ref (s.heap.objs.size + 1) :: us,[]⟩ (Value.ref (s.heap.objs.size + 1) :: (us ++ ds)) _ _ E (hr.make C us [])
  (I2.env0.make C us []) (hb _ (Value.ref (s.heap.objs.size + 1) :: us) I2.kIn hl) r2 hq) fun r s' hq'=>?_))
 cases r with
 | error e=>exact hx pins σ _ _ e s' I2 hq'
 | ok fl=>
  cases fl with
  | ret u=>
   obtain ⟨v,H',I3,rv,ev,q3⟩:=I2.after hq'
   subst ev
   exact ⟨rv,⟨V.ref (s.heap.objs.size + 1),H',I3,rfl,q3⟩⟩
  | next=>exact False.elim hq'
  | brk=>exact False.elim hq'
  | cont=>exact False.elim hq'
theorem Gw (M:Mk X.K C f) (F:Nb X.prog X.w X.K X.mg X.base CX k f fd ps sp) (hr:Hm (k + 1) X.A) (hg:Gl X x) (hm:X.mg x=some (.ref C)) (hb:gc X.K fd ps ds) (hd:Ae dvs ds) (hx:Rr CX X E)
  (ha:PA X (e :: es) t) (hdb:(x == ("__debug__" : Str))=false:=by decide) (he:starEach (e :: es) X.env=(false,eval e X.env) :: starEach es X.env:=by rfl) (hpl:(backTo pos (starEach es X.env)).any (·.1)=false:=by rfl) :
  PE X (.Call (.Name x p) (e :: es) [] pos) (IW C sp dvs E t):=by
 intro pins s σ H Q I h
 refine wpAny_Call_Name_kw (lp I hg hm ?_ hdb)
 refine PySem.W.callWith_K (h₀:=X.base) I.ok.mod.kin M.kp (thn (ha pos pins s σ H _ I h) fun us s1 ⟨vs,H1,I1,r,q⟩=>⟨I1.kIn,?_⟩) he hpl
 exact AS M F hr hb hd hx I1 r q
end
def PK (X:Cx) (kws:List Keyword) (t:TA):Prop:=
 ∀ (pos:Pos) (pins:List (Addr × Obj)) (s:Shared) (σ:St) (H:Hp) (Q:List V→Hp→Prop),Inv X pins σ H s→t σ H Q→wpAny (model X.prog X.w) X.A (evalAll ((backToKw pos (keywordEach kws X.env)).map (·.2))) (AP X pins σ Q) X.xe s
section
variable {X:Cx} {CX:CXT} {k:Nat} {f C:Addr} {fd:FuncData} {ps ks:List Str} {sp:Sp} {E:XK} {x m:Str} {p pos apos kpos:Pos} {e o:Expr} {es:List Expr} {kws:List Keyword} {te ta:TE} {t tk:TA} {nm:Option Str}
structure Q0 (K:PySem.W.Frag) (fd:FuncData) (ps ks:List Str) (g:List Value→List Value→List Value) (gV:List V→List V→List V):Prop where
 to:∀ (s:Shared) (us ws:List Value),K.In s.heap→(g us ws).length=ps.length→BindsTo s fd ⟨us,ks.zip ws⟩ (ps.zip (g us ws))
 rel:∀ {vs:List V} {us:List Value} {zs:List V} {ws:List Value},Ae vs us→Ae zs ws→Ae (gV vs zs) (g us ws)
def LW (sp:Sp) (gV:List V→List V→List V) (E:XK) (t tk:TA):TE:=fun σ H Q=>t σ H fun vs H1=>tk σ H1 fun zs H2=>sp (gV vs zs) H2 Q E
variable {g:List Value→List Value→List Value} {gV:List V→List V→List V}
end
structure Db (N P:List Str) (sc:Scope):Prop where
 kind:sc.kind=.function
 co:sc.isCoroutine=false
 gen:sc.isGenerator=false
 nd:N.Nodup
 pre:N.take P.length=P
 par:∀ x ∈ P,sc.names.lookup x=some .local∨sc.names.lookup x=some .cell
 nofree:∀ y ∈ sc.names,y.2 ≠ .free
theorem QH {kindOf:Str→Option NameKind} {x:Str}:∀ {binds:List (Str × Value)} {m:Str→Option Value},(∀ v,(x,v) ∉ binds)→bindL kindOf binds m x=m x
 | [],_,_=>rfl
 | (n,v) :: r,m,h=>by
  unfold bindL
  rw [QH fun w hw=>h w (List.mem_cons_of_mem _ hw)]
  split
  ·have:x ≠ n:=by rintro rfl;exact h v List.mem_cons_self
   simp [this]
  ·rfl
theorem LF {kindOf:Str→Option NameKind} {x:Str}:∀ {binds:List (Str × Value)} {m:Str→Option Value},(∀ v,(x,v) ∉ binds)→bindC kindOf binds m x=m x
 | [],_,_=>rfl
 | (n,v) :: r,m,h=>by
  unfold bindC
  rw [LF fun w hw=>h w (List.mem_cons_of_mem _ hw)]
  split
  ·rfl
  ·have:x ≠ n:=by rintro rfl;exact h v List.mem_cons_self
   simp [this]
theorem ZG {kindOf:Str→Option NameKind} {x:Str} {v:Value}:∀ {P:List Str} {vs:List Value} {i:Nat} {m:Str→Option Value},P.Nodup→P[i]? = some x→vs[i]? = some v→kindOf x=some .local →
  bindL kindOf (P.zip vs) m x=some v
 | [],_,_,_,_,h,_,_=>by simp at h
 | _ :: _,[],_,_,_,_,h,_=>by simp at h
 | p :: P,w :: vs,0,m,nd,h1,h2,hk=>by
  simp at h1 h2;subst h1;subst h2
  show bindL kindOf ((p,w) :: P.zip vs) m p=_
  unfold bindL
  rw [QH fun v hv=>(List.nodup_cons.mp nd).1 (List.of_mem_zip hv).1,if_pos hk]
  simp
 | p :: P,w :: vs,i + 1,m,nd,h1,h2,hk=>by
  show bindL kindOf ((p,w) :: P.zip vs) m x=_
  unfold bindL
  exact ZG (i:=i) (List.nodup_cons.mp nd).2 (by simpa using h1) (by simpa using h2) hk
theorem dH {kindOf:Str→Option NameKind} {x:Str} {v:Value}:∀ {P:List Str} {vs:List Value} {i:Nat} {m:Str→Option Value},P.Nodup→P[i]? = some x→vs[i]? = some v→kindOf x ≠ some .local →
  bindC kindOf (P.zip vs) m x=some v
 | [],_,_,_,_,h,_,_=>by simp at h
 | _ :: _,[],_,_,_,_,h,_=>by simp at h
 | p :: P,w :: vs,0,m,nd,h1,h2,hk=>by
  simp at h1 h2;subst h1;subst h2
  show bindC kindOf ((p,w) :: P.zip vs) m p=_
  unfold bindC
  rw [LF fun v hv=>(List.nodup_cons.mp nd).1 (List.of_mem_zip hv).1,if_neg hk]
  simp
 | p :: P,w :: vs,i + 1,m,nd,h1,h2,hk=>by
  show bindC kindOf ((p,w) :: P.zip vs) m x=_
  unfold bindC
  exact dH (i:=i) (List.nodup_cons.mp nd).2 (by simpa using h1) (by simpa using h2) hk
def start (N:List Str) (vs:List V):St:=vs.map some ++ List.replicate (N.length - vs.length) none
def jP (CX:CXT) (P:Program) (w:World) (K:PySem.W.Frag) (mg:Str→Option Value) (base:Heap) (N:List Str) (qual:Str) (scope:Scope) (f:Addr) (cd:Value) (A:Around) (outer:List Env) (s:Shared) (H:Hp) (E:XK):Cx where
 prog:=P
 w:=w
 K:=K
 mg:=mg
 base:=base
 A:=A.deeper (envOfC qual scope s.heap.objs.size f cd)
 N:=N
 s₀:=s
 H₀:=H
 env:=envOfC qual scope s.heap.objs.size f cd
 outer:=outer
 stack:=envOfC qual scope s.heap.objs.size f cd :: outer
 ex:=[]
 calm:=true
 fn:=fun _=>true
 pn:=[]
 xe:=fun e s'=>wpAny (model P w) (A.deeper (envOfC qual scope s.heap.objs.size f cd)) (leaving (envOfC qual scope s.heap.objs.size f cd) e) (fun _ s''=>CX outer H s E e s'') (fun e' s''=>CX outer H s E e' s'') s'
theorem bK {sc:Scope} {n:Nat} {x:Str} (h:sc.names.lookup x=some .cell):∃ c,(cellsFrom n sc.names []).lookup x=some c:=by
 have q:=PySem.W.cellsFrom_some sc.names n [] (.inl h)
 exact Option.isSome_iff_exists.mp q
theorem GP {CX:CXT} {P:Program} {w:World} {K:PySem.W.Frag} {mg:Str→Option Value} {base:Heap} {N ps:List Str} {qual:Str} {scope:Scope} {f:Addr} {cd:Value} {A:Around} {outer:List Env} {s s1:Shared} {H:Hp} {E:XK} {us:List Value} {vs:List V}
  (S:Db N ps scope) (hd:A.handled=none) (e0:TN P w K mg base A outer s H) (hl:vs.length=ps.length) (r:Ae vs us)
  (x:InCallC s s.heap.objs.size (bindL (envOfC qual scope s.heap.objs.size f cd).kindOf (ps.zip us) fun _=>none) (cellsFrom (s.heap.objs.size + 1) scope.names []) (bindC (envOfC qual scope s.heap.objs.size f cd).kindOf (ps.zip us) fun _=>none) s1) :
  Inv (jP CX P w K mg base N qual scope f cd A outer s H E) [] (start N vs) H s1:=by
 have hpl:ps.length ≤ N.length:=by have:=congrArg List.length S.pre;rw [List.length_take] at this;omega
 obtain ⟨h1,tk,rfl,hk⟩:=x.done
 have noA:∀ b:Addr,b ∉ (jP CX P w K mg base N qual scope f cd A outer s H E).ex:=fun b z=>absurd (show b ∈ ([]:List Addr) from z) (by simp)
 refine ⟨⟨e0.mod,S.kind,rfl,rfl,Nat.le_refl _,fun y z c h1 h2=>?_,fun y hy=>?_,fun y c _ h=>?_,fun _=>hd,Around.frames_deeper e0.frames,.inr ⟨rfl,rfl⟩,fun b z=>absurd z (noA b),e0.bs,e0.bsz,fun b _ _=>noA b,fun b z=>absurd z (noA b),e0.funs,e0.frf⟩,
  rfl,e0.bare,Un.kept hk,⟨_,x.toInCall.ns,fun i y v h1 h2 h3=>?_⟩,fun y c h=>⟨_,x.cell y c h⟩,e0.hok.fresh (Nat.le_refl _),fun y c h=>?_,fun p hp=>absurd (show p ∈ ([]:List (Addr × Obj)) from hp) (by simp),e0.hok.kept hk,?_⟩
 ·exact name_of_addr x.apart (PySem.mem_of_lookup h1) (PySem.mem_of_lookup h2)
 ·have hy:scope.names.lookup y=some .cell∨scope.names.lookup y=some .free:=hy
  rcases hy with hy | hy
  ·exact bK hy
  ·exact absurd rfl (S.nofree _ (PySem.mem_of_lookup hy))
 ·exact Nat.le_of_lt (x.above y c (PySem.mem_of_lookup h))
 ·have hi:i < vs.length:=by
   unfold start at h2
   by_cases hi:i < vs.length
   ·exact hi
   ·rw [List.getElem?_append_right (by simpa using hi)] at h2
    rw [List.getElem?_replicate] at h2
    split at h2 <;> cases h2
  have ha:vs[i]? = some v:=by
   unfold start at h2
   rw [List.getElem?_append_left (by simpa using hi),List.getElem?_map] at h2
   cases e:vs[i]? with
   | none=>rw [e] at h2;cases h2
   | some a=>rw [e] at h2;cases h2;rfl
  obtain ⟨u,hu,rv⟩:=r.get ha
  have hp:ps[i]? = some y:=by
   rw [← S.pre,List.getElem?_take_of_lt (by omega)];exact h1
  have ndP:ps.Nodup:=by rw [← S.pre];exact S.nd.sublist (List.take_sublist _ _)
  refine ⟨u,rv,?_⟩
  rcases S.par y (List.mem_of_getElem? hp) with k | k
  ·exact .inl ⟨k,ZG ndP hp hu k⟩
  ·obtain ⟨c,e⟩:=bK (n:=s.heap.objs.size + 1) k
   refine .inr ⟨.inl k,c,e,?_⟩
   have q:=x.cell y c e
   rw [dH ndP hp hu (by show scope.names.lookup y ≠ _;rw [k];decide)] at q
   exact q
 ·exact e0.hok.fresh (Nat.le_of_lt (x.above y c (PySem.mem_of_lookup h)))
 ·unfold start
  show _=N.length
  rw [List.length_append,List.length_map,List.length_replicate]
  omega
theorem UX {CX:CXT} {P:Program} {w:World} {K:PySem.W.Frag} {mg:Str→Option Value} {base:Heap} {k:Nat} {f:Addr} {name qual:Str} {params:Arguments} {body:List Stmt} {scope:Scope} {dV kV doc pm cdv ct oc:Value} {an od:Option Addr}
  {osl:Array (Option Value)} {N ps:List Str} {sp:Sp} (lk:K.lookup f=some ⟨oc,od,.func (PySem.W.fnOf name qual params body scope dV kV doc pm an cdv ct),osl⟩) (hcd:PySem.W.codeIn K cdv qual=true) (S:Db N ps scope)
  (len:∀ vs H Q E,sp vs H Q E→vs.length=ps.length)
  (hbody:∀ (A:Around) (outer:List Env) (s:Shared) (H:Hp) (vs:List V) (Q:VK) (E:XK),Hm k (A.deeper (envOfC qual scope s.heap.objs.size f cdv))→sp vs H Q E →
   ∃ t,PSs (jP CX P w K mg base N qual scope f cdv A outer s H E) body t∧t { nx:=fun _ H'=>Q .non H',rt:=Q } (start N vs) H) :
  Nb P w K mg base CX (k + 1) f (PySem.W.fnOf name qual params body scope dV kV doc pm an cdv ct) ps sp:=by
 refine ⟨len,fun A outer s H args us vs Q E hr e0 hb r hsp=>?_⟩
 have hl:=len _ _ _ _ hsp
 have KX:K.In s.heap:=e0.mod.kin.keeps fun b o e=>(e0.bs b o e).1
 have lim:s.heap.NoLimit:=e0.mod.nolimit.keeps fun b o e=>(e0.bs b o e).1
 have hkind:∀ y ∈ ps.zip us,scope.names.lookup y.1=some .local∨(scope.names.lookup y.1=some .cell∧((cellsFrom (s.heap.objs.size + 1) scope.names []).lookup y.1).isSome=true):=fun ⟨n,v⟩ hy=>by
  rcases S.par n (List.of_mem_zip hy).1 with q | q
  ·exact .inl q
  ·exact .inr ⟨q,PySem.W.cellsFrom_some _ _ _ (.inl q)⟩
 refine codeAny_call_function hr.depth (KX _ _ lk) rfl S.co S.gen rfl (PySem.W.codeRec_of KX hcd) (hb _ _ _ _ ?_)
 refine wpAny_newFunctionEnv_cells S.kind hkind fun env he s1 x=>?_
 subst he
 refine ⟨lim.keeps x.toInCall.keep,codeAny_func ?_⟩
 obtain ⟨t,ht,hq⟩:=hbody A outer s H vs Q E (hr.deeper _) hsp
 have I:Inv (jP CX P w K mg base N qual scope f cdv A outer s H E) [] (start N vs) H s1:=GP S hr.hd e0 hl r x
 refine wpAny_mono (ht [] s1 (start N vs) H _ I hq) (fun fl s' hs=>?_) fun e s' hs=>hs
 have fin:∀ {σ':St} {H':Hp} {v:V} {u:Value},Inv (jP CX P w K mg base N qual scope f cdv A outer s H E) [] σ' H' s'→cf v u→Q v H'→CE outer P w H s Q u s':=
  fun {σ' H' v u} J rv q=>⟨v,H',J.os,J.bare,J.base,J.hok,rv,q⟩
 cases fl with
 | ret u=>
  obtain ⟨v,σ',H',J,rv,q⟩:=hs
  exact fin J rv q
 | next=>
  obtain ⟨σ',H',J,q⟩:=hs
  exact fin (v:=V.non) (u:=Value.none) J rfl q
 | brk=>
  obtain ⟨_,_,_,q⟩:=hs
  exact False.elim q
 | cont=>
  obtain ⟨_,_,_,q⟩:=hs
  exact False.elim q
end L2
namespace L2
open PySem PySem.Spec PyProof.Rows
section
variable {X:Cx} {x:Str} {p pos:Pos} {e:Expr} {es:List Expr} {t:TA} {id T:String} {r:List V→Hp→VK→Prop}
def tCB (r:List V→Hp→VK→Prop) (t:TA):TE:=fun σ H Q=>t σ H fun vs H1=>r vs H1 Q
theorem pe (hc:Qs X (.builtin id) r) (hg:Gl X x) (hm:X.mg x=none) (hv:bootBuiltins x=some (.builtin id)) (ha:PA X (e :: es) t) (hn:x ≠ "__name__" := by decide) (hdb:(x == ("__debug__" : Str))=false:=by decide)
  (he:starEach (e :: es) X.env=(false,eval e X.env) :: starEach es X.env:=by rfl) (hpl:(backTo pos (starEach es X.env)).any (·.1)=false:=by rfl):PE X (.Call (.Name x p) (e :: es) [] pos) (tCB r t):=by
 intro pins s σ H Q I h
 refine wpAny_Call_Name_kw (Yu I hg hm hv ?_ hn hdb)
 exact PyProof.Rows.callWith_builtin1 (thn (ha pos pins s σ H _ I h) fun us s1 ⟨vs,H1,I1,r1,q1⟩=>hc pins s1 σ H1 vs us Q I1 r1 q1) he hpl
theorem Kf (hc:Qs X (.type T) r) (hg:Gl X x) (hm:X.mg x=none) (hv:bootBuiltins x=some (.type T)) (ha:PA X (e :: es) t) (hn:x ≠ "__name__" := by decide) (hdb:(x == ("__debug__" : Str))=false:=by decide)
  (he:starEach (e :: es) X.env=(false,eval e X.env) :: starEach es X.env:=by rfl) (hpl:(backTo pos (starEach es X.env)).any (·.1)=false:=by rfl):PE X (.Call (.Name x p) (e :: es) [] pos) (tCB r t):=by
 intro pins s σ H Q I h
 refine wpAny_Call_Name_kw (Yu I hg hm hv ?_ hn hdb)
 exact PyProof.Rows.callWith_type1 (thn (ha pos pins s σ H _ I h) fun us s1 ⟨vs,H1,I1,r1,q1⟩=>hc pins s1 σ H1 vs us Q I1 r1 q1) he hpl
end
end L2
namespace HT
open PySem PyProof.Rows
def lexLt:List Int→List Int→Bool
 | [],[]=>false
 | [],_ :: _=>true
 | _ :: _,[]=>false
 | x :: xs,y :: ys=>if x=y then lexLt xs ys else decide (x < y)
section
open PySem.SeqAt
open PySem.AutoSeq1 (wpAny_loadPart')
open PySem.MeetsSeq PySem.MeetsSeq2 PySem.MeetsSeq3
end
section
variable {prog:Program} {w:World} {A:Around} {E:Value→Shared→Prop} {s:Shared}
def sIx (n d:Nat):Option Int→Nat
 | none=>d
 | some v=>if v < 0 then (v + (n:Int)).toNat else min v.toNat n
theorem sIx_none (n d:Nat):sIx n d none=d:=rfl
theorem sIx_nat (n d k:Nat):sIx n d (some (k:Int))=min k n:=by
 show (if (k:Int) < 0 then ((k:Int) + (n:Int)).toNat else min (k:Int).toNat n)=min k n
 rw [if_neg (by omega),Int.toNat_natCast]
end
end HT
namespace L2
open PySem PySem.Spec PyProof.Rows
abbrev TO:=St→Hp→(Option Int→Hp→Prop)→Prop
def PO (X:Cx) (e:Option Expr) (t:TO):Prop:=
 ∀ (pins:List (Addr × Obj)) (s:Shared) (σ:St) (H:Hp) (Q:Option Int→Hp→Prop),Inv X pins σ H s→t σ H Q →
  wpAny (model X.prog X.w) X.A (evalPart e X.env) (fun u s'=>∃ o H',Inv X pins σ H' s'∧IsPart u o∧Q o H') X.xe s
def eO:TO:=fun _ H Q=>Q none H
def XX (t:TE):TO:=fun σ H Q=>t σ H fun x H1=>∃ i,x=.int i∧Q (some i) H1
section
variable {X:Cx} {e:Expr} {te:TE} {lo hi:Option Expr} {tl th:TO} {pos p2:Pos}
theorem qt:PO X none eO:=by
 intro pins s σ H Q I h
 rw [evalPart_none]
 exact wpAny_pure ⟨none,H,I,.none,h⟩
theorem Ft (h:PE X e te):PO X (some e) (XX te):=by
 intro pins s σ H Q I hw
 rw [evalPart_some]
 refine thn (h pins s σ H _ I hw) fun u s1 ⟨x,H1,I1,r1,q1⟩=>?_
 obtain ⟨i,rfl,q⟩:=q1
 obtain ⟨t,rfl⟩:=r1
 exact ⟨some i,H1,I1,.int i t,q⟩
def SlR (X:Cx) (r:V→Option Int→Option Int→Hp→VK→Prop):Prop:=
 ∀ (pins:List (Addr × Obj)) (s:Shared) (σ:St) (H:Hp) (x:V) (v vl vu:Value) (lo hi:Option Int) (sl:Addr) (Q:VK),Inv X pins σ H s→cf x v→s.heap.IsSliceOf sl vl vu .none→IsPart vl lo→IsPart vu hi→r x lo hi H Q →
  ∃ T id,typeLookup (.type T) "__getitem__"=pure (some (.builtin id))∧s.TypeIs v T∧wpAny (model X.prog X.w) X.A (getItem v (.ref sl)) (EP X pins σ Q) X.xe s
theorem SlR.or {r r':V→Option Int→Option Int→Hp→VK→Prop} (h:SlR X r) (h':SlR X r'):SlR X (fun x lo hi H Q=>r x lo hi H Q∨r' x lo hi H Q):=by
 intro pins s σ H x v vl vu lo hi sl Q I rx hs pl pu q
 rcases q with q | q
 ·exact h pins s σ H x v vl vu lo hi sl Q I rx hs pl pu q
 ·exact h' pins s σ H x v vl vu lo hi sl Q I rx hs pl pu q
def tSl (r:V→Option Int→Option Int→Hp→VK→Prop) (te:TE) (tl th:TO):TE:=fun σ H Q=>te σ H fun x H1=>tl σ H1 fun l H2=>th σ H2 fun u H3=>r x l u H3 Q
theorem En {r:V→Option Int→Option Int→Hp→VK→Prop} (hr:SlR X r) (he:PE X e te) (hl:PO X lo tl) (hu:PO X hi th):PE X (.Subscript e (.Slice lo hi none p2) pos) (tSl r te tl th):=by
 intro pins s σ H Q I h
 refine Subscript_ (thn (he pins s σ H _ I h) fun v s1 ⟨x,H1,I1,r1,q1⟩=>?_)
 refine wpAny_Slice (thn (hl pins s1 σ H1 _ I1 q1) fun vl s2 ⟨l,H2,I2,pl,q2⟩=>thn (hu pins s2 σ H2 _ I2 q2) fun vu s3 ⟨u,H3,I3,pu,q3⟩=>?_)
 rw [evalPart_none]
 refine wpAny_pure ?_
 have I4:Inv X pins σ H3 { s3 with heap:=s3.heap.push { cls:=.type "slice",data:=.fields #[vl,vu,.none] } }:=I3.kept (t':=s3.toks) fun b ob q=>Heap.get?_push_of_some _ q
 obtain ⟨T,id,hT,ht,hg⟩:=hr pins { s3 with heap:=s3.heap.push { cls:=.type "slice",data:=.fields #[vl,vu,.none] } } σ H3 x v vl vu l u s3.heap.objs.size Q I4 r1 (Heap.IsSliceOf.new ..) pl pu q3
 show wpAny (model X.prog X.w) X.A (subscriptTail e (.Slice lo hi none p2) v (.ref s3.heap.objs.size)) (EP X pins σ Q) X.xe { s3 with heap:=s3.heap.push { cls:=.type "slice",data:=.fields #[vl,vu,.none] } }
 exact tail_any (ops:=[.ref s3.heap.objs.size,v]) ht hT hg (by with_unfolding_all rfl)
def cI (xs:List V) (lo hi:Option Int):List V:=(xs.drop (HT.sIx xs.length 0 lo)).take (HT.sIx xs.length xs.length hi - HT.sIx xs.length 0 lo)
theorem CI (xs:List V) (lo hi:Option Int):(cI xs lo hi).length ≤ xs.length:=by
 unfold cI
 rw [List.length_take,List.length_drop]
 omega
def K2 (K:PySem.W.Frag):V→Option Int→Option Int→Hp→VK→Prop:=fun x lo hi H Q=>∃ a xs,x=.ref a∧SqT K H a xs ∧
 ¬ (HT.sIx xs.length 0 lo=0∧HT.sIx xs.length xs.length hi=xs.length)∧∀ p,H p=none→Q (.ref p) (upd H p (.tup (cI xs lo hi)))
def P1 (K:PySem.W.Frag):R2:=fun x y H Q=>∃ a b ns ms,x=.ref a∧y=.ref b∧SqT K H a (ns.map V.int)∧SqT K H b (ms.map V.int)∧Q (.bl (HT.lexLt ns ms)) H
def rZ (K:PySem.W.Frag):R2:=fun x y H Q=>∃ a b xs ys,x=.ref a∧y=.ref b∧SqT K H a xs∧SqT K H b ys∧xs ≠ []∧xs.length + ys.length ≤ sizeLine ∧
 (ys=[]→Q (.ref a) H)∧(ys ≠ []→∀ p,H p=none→Q (.ref p) (upd H p (.tup (xs ++ ys))))
end
end L2
namespace L2
open PySem PySem.Spec PyProof.Rows
def ixN (n:Nat) (i:Int):Option Nat:=if 0 ≤ i then (if i < n then some i.toNat else none) else if -(n:Int) ≤ i then some (i + n).toNat else none
def atI {α:Type} (xs:List α) (i:Int):Option α:=(ixN xs.length i).bind fun j=>xs[j]?
theorem dP {n:Nat} {i:Int} {j:Nat} (h:ixN n i=some j):seqIndex? i n=some j∧j < n∧-(n:Int) ≤ i∧i < n:=by
 unfold ixN at h
 by_cases h0:0 ≤ i
 ·rw [if_pos h0] at h
  by_cases h1:i < n
  ·rw [if_pos h1] at h
   have e:i.toNat=j:=Option.some.inj h
   exact ⟨by rw [seqIndex_of h0 h1,e],by omega,by omega,h1⟩
  ·rw [if_neg h1] at h;cases h
 ·rw [if_neg h0] at h
  by_cases h1:-(n:Int) ≤ i
  ·rw [if_pos h1] at h
   have e:(i + n).toNat=j:=Option.some.inj h
   exact ⟨by rw [seqIndex_neg (by omega) h1,e],by omega,h1,by omega⟩
  ·rw [if_neg h1] at h;cases h
theorem NI {α:Type} {xs:List α} {i:Int} {v:α} (h:atI xs i=some v):∃ j,seqIndex? i xs.length=some j∧xs[j]? = some v∧j < xs.length∧-(xs.length:Int) ≤ i∧i < xs.length:=by
 unfold atI at h
 cases e:ixN xs.length i with
 | none=>rw [e] at h;cases h
 | some j=>
  rw [e] at h
  obtain ⟨h1,h2,h3,h4⟩:=dP e
  exact ⟨j,h1,h,h2,h3,h4⟩
theorem Me {α:Type} {xs:List α} {j:Nat} {v:α} (h:xs[j]? = some v):atI xs (j:Int)=some v:=by
 have hj:j < xs.length:=(List.getElem?_eq_some_iff.mp h).1
 have e:ixN xs.length (j:Int)=some j:=by
  unfold ixN
  rw [if_pos (by omega),if_pos (by omega)];simp
 unfold atI;rw [e];exact h
def zV (b:Expr):Prop:=∀ o i,subscripted b false o i=operate [o,i] (getItem o i)
def IxR (X:Cx) (r:R2):Prop:=
 ∀ (value slice:Expr) (pins:List (Addr × Obj)) (s:Shared) (σ:St) (H:Hp) (x y:V) (v u:Value) (Q:VK),Inv X pins σ H s→cf x v→cf y u→r x y H Q →
  subscripted slice false v u=operate [v,u] (getItem v u)→wpAny (model X.prog X.w) X.A (subscriptTail value slice v u) (EP X pins σ Q) X.xe s
def MtR (X:Cx) (id:String) (r:V→List V→Hp→VK→Prop):Prop:=
 ∀ (pins:List (Addr × Obj)) (s:Shared) (σ:St) (H:Hp) (x:V) (xs:List V) (v:Value) (us:List Value) (Q:VK),Inv X pins σ H s→cf x v→Ae xs us→r x xs H Q →
  wpAny (model X.prog X.w) X.A (call (.builtin id) (v :: us)) (EP X pins σ Q) X.xe s
section
variable {X:Cx} {a b:Expr} {ta tb:TE} {pos:Pos}
theorem IxR.or {r r':R2} (h:IxR X r) (h':IxR X r'):IxR X (fun x y H Q=>r x y H Q∨r' x y H Q):=by
 intro value slice pins s σ H x y v u Q I rx ry q hs
 rcases q with q | q
 ·exact h value slice pins s σ H x y v u Q I rx ry q hs
 ·exact h' value slice pins s σ H x y v u Q I rx ry q hs
theorem MtR.or {id:String} {r r':V→List V→Hp→VK→Prop} (h:MtR X id r) (h':MtR X id r'):MtR X id (fun x xs H Q=>r x xs H Q∨r' x xs H Q):=by
 intro pins s σ H x xs v us Q I rx rs q
 rcases q with q | q
 ·exact h pins s σ H x xs v us Q I rx rs q
 ·exact h' pins s σ H x xs v us Q I rx rs q
theorem Xg {r:R2} (hr:IxR X r) (ha:PE X a ta) (hb:PE X b tb) (hs:zV b):PE X (.Subscript a b pos) (tOp r ta tb):=by
 intro pins s σ H Q I h
 exact Subscript_ (HZ ha hb I h fun v u s2 x y H2 I2 rx ry q=>hr a b pins s2 σ H2 x y v u Q I2 rx ry q (hs _ _))
def hZ (K:PySem.W.Frag):R2:=fun x y H Q=>∃ p xs i v,x=.ref p∧y=.int i∧SqL K H p xs∧atI xs i=some v∧Q v H
def cZ (K:PySem.W.Frag):R2:=fun x y H Q=>∃ p xs i v,x=.ref p∧y=.int i∧SqT K H p xs∧atI xs i=some v∧Q v H
def iZ:R2:=fun x y H Q=>∃ z i c,x=.str z∧y=.int i∧z.length ≤ sizeLine∧atI z.cps.toList i=some c∧Q (.str ⟨#[c]⟩) H
theorem ke:IxR X (hZ X.K):=by
 intro value slice pins s σ H x y v u Q I rx ry h hs
 obtain ⟨p,xs,i,z,rfl,rfl,hq,he,q⟩:=h
 cases rx
 obtain ⟨t,rfl⟩:=ry
 obtain ⟨its,r,pl,hz⟩:=I.list hq
 obtain ⟨j,h1,h2,h3,h4,h5⟩:=NI he
 obtain ⟨w,ew,rw'⟩:=r.get h2
 have hl:=r.length
 have hn:=iB
 have fin:EP X pins σ Q w s:=⟨z,H,I,rw',q⟩
 by_cases h0:0 ≤ i
 ·have hj:i.toNat=j:=by
   rw [seqIndex_of h0 h5] at h1
   exact Option.some.inj h1
  exact item_listR pl.isList h0 (by omega) (by rw [hj];simpa using ew) fin hs
 ·have hj:(i + (its.toArray.size:Int)).toNat=j:=by
   rw [seqIndex_neg (by omega) h4] at h1
   rw [List.size_toArray,← hl]
   exact Option.some.inj h1
  exact subscriptTail_builtinR (x:=w) pl.isList.typeIs slot_list_getitem.lookup
   (wpAny_getItem_list_neg (Q:=fun r s'=>r=w∧EP X pins σ Q r s') pl.isList (by omega) (by rw [List.size_toArray] <;> omega) (by omega) (by rw [hj];simpa using ew) ⟨rfl,fin⟩) hs
theorem WK:IxR X (cZ X.K):=by
 intro value slice pins s σ H x y v u Q I rx ry h hs
 obtain ⟨p,xs,i,z,rfl,rfl,hq,he,q⟩:=h
 cases rx
 obtain ⟨t,rfl⟩:=ry
 obtain ⟨its,r,pl,hz⟩:=I.tuple hq
 obtain ⟨j,h1,h2,h3,h4,h5⟩:=NI he
 obtain ⟨w,ew,rw'⟩:=r.get h2
 have hl:=r.length
 have hn:=iB
 have fin:EP X pins σ Q w s:=⟨z,H,I,rw',q⟩
 exact subscriptTail_builtinR (x:=w) pl.typeIs slot_tuple_getitem.lookup
  (getItem_tuple (j:=j) (Q:=fun r s'=>r=w∧EP X pins σ Q r s') pl (by omega) (by omega) (by rw [List.size_toArray,← hl];exact h1) (by simpa using ew) ⟨rfl,fin⟩) hs
theorem QW:IxR X iZ:=by
 intro value slice pins s σ H x y v u Q I rx ry h hs
 obtain ⟨z,i,c,rfl,rfl,hz,he,q⟩:=h
 obtain ⟨t,rfl⟩:=rx
 obtain ⟨t',rfl⟩:=ry
 obtain ⟨j,h1,h2,h3,h4,h5⟩:=NI he
 have hl:z.cps.toList.length=z.length:=by simp [Str.length]
 rw [hl] at h1 h4 h5
 have hn:=iB
 exact tail_any (typeIs_str s z t) slot_str_getitem.lookup (getItem_str (c:=c) (by
  have e1:decide (i < -(2 ^ 63:Int))=false:=decide_eq_false (by omega)
  have e2:decide (i ≥ 2 ^ 63)=false:=decide_eq_false (by omega)
  rw [e1,e2,Bool.or_false]) (by rw [h1];simpa using h2) ⟨.str ⟨#[c]⟩,H,I.tok _,⟨_,rfl⟩,q⟩) hs
def rIx (K:PySem.W.Frag):R2:=fun x y H Q=>hZ K x y H Q∨cZ K x y H Q∨iZ x y H Q
theorem jM (its:List Value) (n j:Nat) (u:Value):Obj.mapSeq (·.setIfInBounds j u) { cls:=.type "list",data:=.seq its.toArray n } = { cls:=.type "list",data:=.seq (its.set j u).toArray n }:=by
 simp [Obj.mapSeq]
theorem Inv.lst {pins:List (Addr × Obj)} {σ:St} {H:Hp} {s:Shared} {p:Addr} {xs:List V} (I:Inv X pins σ H s) (h:H p=some (.lst xs)) :
  ∃ (its:List Value) (n:Nat),Ae xs its∧s.heap.get? p=some { cls:=.type "list",data:=.seq its.toArray n }∧xs.length ≤ sizeLine:=by
 obtain ⟨z,its,n,r,e⟩:=I.hok p _ h
 exact ⟨its,n,r,e,z⟩
theorem Inv.lstUpd {pins:List (Addr × Obj)} {σ:St} {H:Hp} {s:Shared} {p:Addr} {xs ys:List V} {its its':List Value} {n n':Nat} {f:Obj→Obj} (I:Inv X pins σ H s) (h:H p=some (.lst xs))
  (ho:s.heap.get? p=some { cls:=.type "list",data:=.seq its.toArray n }) (hf:f { cls:=.type "list",data:=.seq its.toArray n } = { cls:=.type "list",data:=.seq its'.toArray n' }) (r:Ae ys its') (hz:ys.length ≤ sizeLine) (t:Nat) :
  Inv X pins σ (upd H p (.lst ys)) { s with heap:=s.heap.update p f,toks:=t }:=by
 have e:(s.heap.update p f).get? p=some { cls:=.type "list",data:=.seq its'.toArray n' }:=by
  rw [Heap.get?_update_self f ho (by rw [hf] <;> rfl),hf]
 refine I.write (x:=p) (e:=p) (by rw [h];trivial) (.inl rfl) (fun b u hb q=>(Heap.get?_update_other _ _ (Ne.symm hb)).trans q) ⟨_,e⟩ ?_
 exact ⟨hz,its',n',r,e⟩
def nY:V→V→V→Hp→(Hp→Prop)→Prop:=fun o i v H Q=>∃ p xs k j,o=.ref p∧i=.int k∧H p=some (.lst xs)∧ixN xs.length k=some j∧Q (upd H p (.lst (xs.set j v)))
theorem gj:O0 X nY:=by
 intro pins s σ H o i v ov iv u Q I ro ri rv h
 obtain ⟨p,xs,k,j,rfl,rfl,hp,hj,q⟩:=h
 cases ro
 obtain ⟨t,rfl⟩:=ri
 obtain ⟨its,n,r,ho,hz⟩:=I.lst hp
 obtain ⟨h1,h2,h3,h4⟩:=dP hj
 have hl:=r.length
 have hn:=iB
 have I':Inv X pins σ (upd H p (.lst (xs.set j v))) { s with heap:=s.heap.update p (Obj.mapSeq (·.setIfInBounds j u)) }:=
  I.lstUpd hp ho (jM its n j u) (r.set rv j) (by rw [List.length_set];exact hz) s.toks
 by_cases h0:0 ≤ k
 ·have hk:k.toNat=j:=by
   rw [seqIndex_of h0 h4] at h1
   exact Option.some.inj h1
  exact PySem.W.ki_setAt ho h0 (by omega) (by rw [List.size_toArray,← hl];exact h4) (by rw [hk];exact ⟨_,I',q⟩)
 ·have hk:(k + (its.toArray.size:Int)).toNat=j:=by
   rw [seqIndex_neg (by omega) h3] at h1
   rw [List.size_toArray,← hl]
   exact Option.some.inj h1
  exact PySem.W.ki_setBack ho (by omega) (by rw [List.size_toArray,← hl];exact h3) (by omega) (by rw [hk];exact ⟨_,I',q⟩)
theorem WF (lo hi:Option Int) (n:Nat):(sliceBounds lo hi none n).1=((HT.sIx n 0 lo:Nat):Int)∧(sliceBounds lo hi none n).2.1=((HT.sIx n n hi:Nat):Int)∧(sliceBounds lo hi none n).2.2=1:=by
 refine ⟨?_,?_,rfl⟩
 ·cases lo with
  | none=>simp [sliceBounds,HT.sIx]
  | some i=>
   simp only [sliceBounds,HT.sIx,Option.getD_none,show (1:Int) > 0 by decide,if_true]
   by_cases h:i < 0
   ·simp only [h,if_true] <;> omega
   ·simp only [h,if_false] <;> omega
 ·cases hi with
  | none=>simp [sliceBounds,HT.sIx]
  | some i=>
   simp only [sliceBounds,HT.sIx,Option.getD_none,show (1:Int) > 0 by decide,if_true]
   by_cases h:i < 0
   ·simp only [h,if_true] <;> omega
   ·simp only [h,if_false] <;> omega
theorem vE (its:List Value) (lo hi:Option Int):slicePick its.toArray lo hi none=((its.drop (HT.sIx its.length 0 lo)).take (HT.sIx its.length its.length hi - HT.sIx its.length 0 lo)).toArray:=by
 obtain ⟨h1,h2,h3⟩:=WF lo hi its.toArray.size
 unfold slicePick
 rw [h1,h2,h3]
 simp only [sliceRange_one,pick_run,List.size_toArray] <;> rfl
def A0 (K:PySem.W.Frag):V→Option Int→Option Int→Hp→VK→Prop:=fun x lo hi H Q=>∃ a xs,x=.ref a∧SqL K H a xs∧∀ p,H p=none→Q (.ref p) (upd H p (.lst (cI xs lo hi)))
theorem Ts:SlR X (A0 X.K):=by
 intro pins s σ H x v vl vu lo hi sl Q I rx hs pl pu h
 obtain ⟨a,xs,rfl,hx,q⟩:=h
 cases rx
 obtain ⟨its,r,ht,hz⟩:=I.list hx
 have hlen:=r.length
 refine ⟨"list",_,slot_list_getitem.lookup,ht.isList.typeIs,?_⟩
 refine wpAny_getItem_list_slice ht.isList hs pl pu .none (by simp) ?_ (by rw [List.size_toArray] <;> omega)
 rw [vE,← hlen]
 refine ⟨.ref s.heap.objs.size,_,I.laid (t':=s.toks) (o:=.lst (cI xs lo hi)) (fun b ob q=>Heap.get?_push_of_some _ q) (Nat.le_refl _) ?_,rfl,q _ (I.hok.fresh (Nat.le_refl _))⟩
 exact ⟨Nat.le_trans (CI xs lo hi) hz,_,0,(r.drop (HT.sIx xs.length 0 lo)).take (HT.sIx xs.length xs.length hi - HT.sIx xs.length 0 lo),Heap.get?_push_size _ rfl⟩
def wo:V→Bool
 | .non=>true
 | .bl _=>true
 | .int _=>true
 | .str _=>true
 | _=>false
def eqV:V→V→Bool
 | .non,.non=>true
 | .bl a,.bl b=>a == b
 | .bl a,.int b=>(if a then 1 else 0) == b
 | .int a,.bl b=>a == (if b then 1 else 0)
 | .int a,.int b=>a == b
 | .str a,.str b=>a == b
 | _,_=>false
theorem iT {A:Around} {s:Shared} {y x:V} {u v:Value} (ry:cf y u) (rx:cf x v) (fy:wo y=true) (fx:wo x=true):SeqAt.EqAt A s u v (eqV y x):=by
 cases y with
 | non=>
  cases ry
  cases x with
  | non=>cases rx;exact SeqAt.EqAt.same _
  | bl b=>cases rx;exact SeqAt.EqAt.none_bool b
  | int b=>obtain ⟨t,rfl⟩:=rx;exact SeqAt.EqAt.none_int b t
  | str b=>obtain ⟨t,rfl⟩:=rx;exact SeqAt.EqAt.none_str b t
  | _=>exact absurd (show false=true from fx) Bool.false_ne_true
 | bl a=>
  cases ry
  cases x with
  | non=>cases rx;exact SeqAt.EqAt.bool_none a
  | bl b=>cases rx;exact SeqAt.EqAt.bool_bool a b
  | int b=>obtain ⟨t,rfl⟩:=rx;exact SeqAt.EqAt.bool_int a b t
  | str b=>obtain ⟨t,rfl⟩:=rx;exact SeqAt.EqAt.bool_str a b t
  | _=>exact absurd (show false=true from fx) Bool.false_ne_true
 | int a=>
  obtain ⟨t',rfl⟩:=ry
  cases x with
  | non=>cases rx;exact SeqAt.EqAt.int_none a t'
  | bl b=>cases rx;exact SeqAt.EqAt.int_bool a t' b
  | int b=>obtain ⟨t,rfl⟩:=rx;exact SeqAt.EqAt.int_int a t' b t
  | str b=>obtain ⟨t,rfl⟩:=rx;exact SeqAt.EqAt.int_str a t' b t
  | _=>exact absurd (show false=true from fx) Bool.false_ne_true
 | str a=>
  obtain ⟨t',rfl⟩:=ry
  cases x with
  | non=>cases rx;exact SeqAt.EqAt.str_none a t'
  | bl b=>cases rx;exact SeqAt.EqAt.str_bool a t' b
  | int b=>obtain ⟨t,rfl⟩:=rx;exact SeqAt.EqAt.str_int a t' b t
  | str b=>obtain ⟨t,rfl⟩:=rx;exact SeqAt.EqAt.str_str a t' b t
  | _=>exact absurd (show false=true from fx) Bool.false_ne_true
 | _=>exact absurd (show false=true from fy) Bool.false_ne_true
def eqU (x:V) (u:Value):Bool:=match u with
 | .none=>eqV .non x
 | .bool b=>eqV (.bl b) x
 | .int i _=>eqV (.int i) x
 | .str z _=>eqV (.str z) x
 | _=>false
theorem sT {x y:V} {u:Value} (r:cf y u) (f:wo y=true):eqU x u=eqV y x:=by
 cases y with
 | non=>cases r;rfl
 | bl b=>cases r;rfl
 | int i=>obtain ⟨t,rfl⟩:=r;rfl
 | str z=>obtain ⟨t,rfl⟩:=r;rfl
 | _=>exact absurd (show false=true from f) Bool.false_ne_true
theorem rA {x:V}:∀ {xs:List V} {us:List Value},Ae xs us→xs.all wo=true→us.any (eqU x)=xs.any fun y=>eqV y x
 | _,_,.nil,_=>rfl
 | y :: xs,u :: us,.cons r t,f=>by
  rw [List.all_cons,Bool.and_eq_true] at f
  rw [List.any_cons,List.any_cons,sT r f.1,rA t f.2]
theorem Bu {A:Around} {s:Shared} {x:V} {v:Value} (rx:cf x v) (fx:wo x=true):∀ {xs:List V} {us:List Value},Ae xs us→xs.all wo=true→∀ u ∈ us,SeqAt.EqAt A s u v (eqU x u)
 | _,_,.nil,_=>fun u hu=>by cases hu
 | y :: xs,u :: us,.cons r t,f=>fun u' hu=>by
  rw [List.all_cons,Bool.and_eq_true] at f
  rcases List.mem_cons.mp hu with rfl | hu
  ·rw [sT r f.1];exact iT r rx f.1 fx
  ·exact Bu rx fx t f.2 u' hu
def inV (x:V) (xs:List V):Bool:=xs.any fun y=>eqV y x
def rIn (K:PySem.W.Frag) (neg:Bool):R2:=fun x y H Q=>∃ p xs,y=.ref p∧(SqL K H p xs∨SqT K H p xs)∧wo x=true∧xs.all wo=true∧Q (.bl (if neg then !inV x xs else inV x xs)) H
theorem au:OpR X (compareOp .In) (rIn X.K false):=by
 intro pins s σ H x y v u Q I rx ry h
 obtain ⟨p,xs,rfl,hq,fx,fs,q⟩:=h
 cases ry
 rcases hq with hq | hq
 ·obtain ⟨its,r,pl,hz⟩:=I.list hq
  refine SeqAt.in_listAt (eqU x) pl.isList (fun w hw=>Bu rx fx r fs w (by simpa using hw)) ⟨.bl _,H,I,rfl,?_⟩
  rw [show its.toArray.any (eqU x)=its.any (eqU x) by simp,rA r fs]
  exact q
 ·obtain ⟨its,r,pl,hz⟩:=I.tuple hq
  refine SeqAt.in_tupleAt (eqU x) pl (fun w hw=>Bu rx fx r fs w (by simpa using hw)) ⟨.bl _,H,I,rfl,?_⟩
  rw [show its.toArray.any (eqU x)=its.any (eqU x) by simp,rA r fs]
  exact q
theorem TH:OpR X (compareOp .NotIn) (rIn X.K true):=by
 intro pins s σ H x y v u Q I rx ry h
 obtain ⟨p,xs,rfl,hq,fx,fs,q⟩:=h
 cases ry
 rcases hq with hq | hq
 ·obtain ⟨its,r,pl,hz⟩:=I.list hq
  refine SeqAt.notIn_listAt (eqU x) pl.isList (fun w hw=>Bu rx fx r fs w (by simpa using hw)) ⟨.bl _,H,I,rfl,?_⟩
  rw [show its.toArray.any (eqU x)=its.any (eqU x) by simp,rA r fs]
  exact q
 ·obtain ⟨its,r,pl,hz⟩:=I.tuple hq
  refine SeqAt.notIn_tupleAt (eqU x) pl (fun w hw=>Bu rx fx r fs w (by simpa using hw)) ⟨.bl _,H,I,rfl,?_⟩
  rw [show its.toArray.any (eqU x)=its.any (eqU x) by simp,rA r fs]
  exact q
theorem Qc:Qs X (.builtin "len") (fun xs H Q=>∃ p ys,xs=[.ref p]∧(SqL X.K H p ys∨SqT X.K H p ys)∧Q (.int ys.length) H):=by
 intro pins s σ H xs us Q I r h
 obtain ⟨p,ys,rfl,hq,q⟩:=h
 obtain ⟨u,rfl,rx⟩:=MG r
 cases rx
 have hn:=iB
 rcases hq with hq | hq
 ·obtain ⟨its,r',pl,hz⟩:=I.list hq
  have hlen:=r'.length
  exact Calls.call_len_list pl.isList (by simp only [List.size_toArray] <;> omega) ⟨.int ys.length,H,I.tok _,⟨s.toks + 1,by rw [List.size_toArray,hlen]⟩,q⟩
 ·obtain ⟨its,r',pl,hz⟩:=I.tuple hq
  have hlen:=r'.length
  exact len_tuple pl (by simp only [List.size_toArray] <;> omega) ⟨.int ys.length,H,I.tok _,⟨s.toks + 1,by rw [List.size_toArray,hlen]⟩,q⟩
theorem kH:Qs X (.builtin "len") (fun xs H Q=>∃ z,xs=[.str z]∧z.length ≤ sizeLine∧Q (.int z.length) H):=by
 intro pins s σ H xs us Q I r h
 obtain ⟨z,rfl,hz,q⟩:=h
 obtain ⟨u,rfl,t,rfl⟩:=MG r
 have hn:=iB
 exact len_str (by omega) ⟨.int z.length,H,I.tok _,⟨_,rfl⟩,q⟩
theorem Qs.or {f:Value} {r r':List V→Hp→VK→Prop} (h:Qs X f r) (h':Qs X f r'):Qs X f (fun xs H Q=>r xs H Q∨r' xs H Q):=by
 intro pins s σ H xs us Q I rs q
 rcases q with q | q
 ·exact h pins s σ H xs us Q I rs q
 ·exact h' pins s σ H xs us Q I rs q
theorem vx:Qs X (.type "list") (fun xs H Q=>∃ p ys,xs=[.ref p]∧(SqL X.K H p ys∨SqT X.K H p ys)∧∀ l,H l=none→Q (.ref l) (upd H l (.lst ys))):=by
 intro pins s σ H xs us Q I r h
 obtain ⟨p,ys,rfl,hq,q⟩:=h
 obtain ⟨u,rfl,rx⟩:=MG r
 cases rx
 have fin:∀ (its:List Value),Ae ys its→ys.length ≤ sizeLine→∀ (h':Heap) (c':Nat),(∀ b o',s.heap.get? b=some o'→h'.get? b=some o') →
   h'.get? s.heap.objs.size=some { cls:=.type "list",dict:=none,data:=.seq its.toArray c',slots:=#[] }→EP X pins σ Q (.ref s.heap.objs.size) { s with heap:=h' }:=fun its r' hz h' c' kp e=>
  ⟨.ref s.heap.objs.size,_,I.laid (t':=s.toks) kp (Nat.le_refl _) (show Ve X.prog X.w _ h' _ (.lst ys) from ⟨hz,its,c',r',e⟩),rfl,q _ (I.hok.fresh (Nat.le_refl _))⟩
 rcases hq with hq | hq
 ·obtain ⟨its,r',pl,hz⟩:=I.list hq
  have hlen:=r'.length
  obtain ⟨o,ho,hc,n,hd⟩:=pl.isList
  exact call_list_seq p (.inl rfl) ho hc hd (fun h' c' kp e=>fin its r' hz h' c' kp e) (by simp only [List.size_toArray] <;> omega)
 ·obtain ⟨its,r',pl,hz⟩:=I.tuple hq
  have hlen:=r'.length
  obtain ⟨o,ho,hc,n,hd⟩:=pl
  exact call_list_seq p (.inr rfl) ho hc hd (fun h' c' kp e=>fin its r' hz h' c' kp e) (by simp only [List.size_toArray] <;> omega)
def tyV (K:PySem.W.Frag) (T:String) (x:V) (H:Hp):Prop:=match x with
 | .str _=>T = "str"
 | .int _=>T = "int"
 | .ref p=>(T = "list" ∧ ∃ xs,SqL K H p xs)∨(T = "tuple" ∧ ∃ o,K.lookup p=some o∧o.cls=.type "tuple" ∧ o.dict=none) ∨
   (T = "dict" ∧ ((∃ kvs,H p=some (.dK kvs))∨∃ kvs,H p=some (.dT kvs)))∨(T = "set" ∧ ∃ S n,H p=some (.set S n))
 | _=>False
theorem HX {pins:List (Addr × Obj)} {σ:St} {H:Hp} {s:Shared} {T:String} {x:V} {v:Value} (I:Inv X pins σ H s) (r:cf x v) (ty:tyV X.K T x H) :
  s.TypeIs v T∧∀ a,v=.ref a→∃ ob,s.heap.get? a=some ob∧ob.dict=none:=by
 cases x with
 | str z=>
  obtain ⟨t,rfl⟩:=r
  cases (show T = "str" from ty)
  exact ⟨typeIs_str s z t,fun _ e=>nomatch e⟩
 | int i=>
  obtain ⟨t,rfl⟩:=r
  cases (show T = "int" from ty)
  exact ⟨typeIs_int s i t,fun _ e=>nomatch e⟩
 | ref p=>
  cases r
  rcases ty with ⟨rfl,xs,hq⟩ | ⟨rfl,o,hk,hc,hd⟩ | ⟨rfl,hk⟩ | ⟨rfl,S,n,hk⟩
  ·obtain ⟨its,_,pl,_⟩:=I.list hq
   refine ⟨pl.isList.typeIs,fun a e=>?_⟩
   cases e
   obtain ⟨o,n,e,c,hd,_⟩:=pl
   exact ⟨o,e,hd⟩
  ·refine ⟨⟨o,I.kIn p o hk,hc⟩,fun a e=>?_⟩
   cases e
   exact ⟨o,I.kIn _ o hk,hd⟩
  ·have z:∃ o,s.heap.get? p=some o∧o.ExactDict:=by
    rcases hk with ⟨kvs,hk⟩ | ⟨kvs,hk⟩
    ·obtain ⟨_,_,_,_,o,_,_,e,ex,_⟩:=I.hok p _ hk
     exact ⟨o,e,ex⟩
    ·obtain ⟨_,_,_,_,o,_,_,e,ex,_⟩:=I.hok p _ hk
     exact ⟨o,e,ex⟩
   obtain ⟨o,e,ex⟩:=z
   refine ⟨⟨o,e,ex.1⟩,fun a e2=>?_⟩
   cases e2
   exact ⟨o,e,ex.2.1⟩
  ·obtain ⟨o,_,_,_,e,ex,_⟩:=I.hok p _ hk
   refine ⟨⟨o,e,ex.1⟩,fun a e2=>?_⟩
   cases e2
   exact ⟨o,e,ex.2.1⟩
 | _=>exact False.elim ty
def G2 (K:PySem.W.Frag) (T:String) (r:V→List V→Hp→VK→Prop) (to:TE):TE:=fun σ H Q=>to σ H fun x H1=>tyV K T x H1∧r x [] H1 Q
def tBM (K:PySem.W.Frag) (T:String) (r:V→List V→Hp→VK→Prop) (to:TE) (t:TA):TE:=fun σ H Q=>to σ H fun x H1=>tyV K T x H1∧t σ H1 fun xs H2=>r x xs H2 Q
variable {o e:Expr} {es:List Expr} {to:TE} {t:TA} {name:Str} {apos cpos:Pos} {T id:String} {r:V→List V→Hp→VK→Prop}
theorem sH (pa:PlainAttrs T) (slot:Slot T name id) (hty:typeOf (.builtin id)=pure (.type "method_descriptor")) (hm:MtR X id r) (ho:PE X o to) (ha:PA X (e :: es) t)
  (hbase:attributeBase o name X.env (eval o X.env)=eval o X.env:=by rfl)
  (hfew:((backTo cpos (starEach (e :: es) X.env)).all (fun x=>!x.1) && (backToKw cpos (keywordEach [] X.env)).all (fun x=>x.1.isSome)
   && decide ((e :: es).length + ([]:List Keyword).length + (if ([]:List Keyword).isEmpty then 0 else 1) < 30))=true:=by rfl)
  (hline:(apos.endLine == cpos.line)=true:=by rfl) (hs:starEach (e :: es) X.env=(false,eval e X.env) :: starEach es X.env:=by rfl) (hplain:(backTo cpos (starEach es X.env)).any (·.1)=false:=by rfl) :
  PE X (.Call (.Attribute o name apos) (e :: es) [] cpos) (tBM X.K T r to t):=by
 intro pins s σ H Q I h
 refine wpAny_Call_method_late hbase hfew hline rfl (thn (ho pins s σ H _ I h) fun v s1 ⟨x,H1,I1,r1,ty,q1⟩=>?_)
 obtain ⟨h1,h2⟩:=HX I1 r1 ty
 refine ⟨T,id,pa,slot,hty,h1,h2,?_⟩
 have hA:=ha cpos pins s1 σ H1 _ I1 q1
 rw [hs] at hA ⊢
 refine Calls.callWith_builtin (by show (false || (backTo cpos (starEach es X.env)).any (·.1))=false;rw [hplain] <;> rfl) (Calls.evalArgs_plain ?_)
 exact thn hA fun us s2 ⟨vs,H2,I2,r2,q2⟩=>hm pins s2 σ H2 x vs v us Q I2 r1 r2 q2
end
end L2
namespace L2
open PySem PySem.Spec PyProof.Rows
def MtM (X:Cx) (id:String) (r:V→List V→Hp→VK→Prop):Prop:=
 ∀ (pins:List (Addr × Obj)) (s:Shared) (σ:St) (H:Hp) (x:V) (xs:List V) (v:Value) (us:List Value) (Q:VK),Inv X pins σ H s→cf x v→Ae xs us→r x xs H Q →
  wpAny (model X.prog X.w) X.A (call (.builtin id) (v :: us)) (EP X pins σ Q) X.xe s
theorem Ae.one:∀ {x:V} {us:List Value},Ae [x] us→∃ u,us=[u]∧cf x u
 | _,_,.cons r .nil=>⟨_,rfl,r⟩
theorem Ae.zero:∀ {us:List Value},Ae [] us→us=[]
 | _,.nil=>rfl
theorem Ae.dropLast {xs:List V} {us:List Value} (h:Ae xs us):Ae xs.dropLast us.dropLast:=by
 induction h with
 | nil=>exact .nil
 | cons r t ih=>
  cases t with
  | nil=>exact .nil
  | cons q t'=>exact .cons r ih
theorem Ae.eraseIdx:∀ {xs:List V} {us:List Value} (i:Nat),Ae xs us→Ae (xs.eraseIdx i) (us.eraseIdx i)
 | _,_,_,.nil=>.nil
 | _,_,0,.cons _ t=>t
 | _,_,i + 1,.cons r t=>.cons r (Ae.eraseIdx i t)
theorem Ae.reverse {xs:List V} {us:List Value} (h:Ae xs us):Ae xs.reverse us.reverse:=by
 induction h with
 | nil=>exact .nil
 | cons r t ih=>rw [List.reverse_cons,List.reverse_cons];exact Ae.append ih (.cons r .nil)
section
variable {X:Cx} {pins:List (Addr × Obj)} {σ:St} {H:Hp} {s:Shared} {l b:Addr} {xs ys zs:List V}
theorem Inv.lset {its its':List Value} {n:Nat} {f:Array Value→Array Value} {t':Nat} (I:Inv X pins σ H s) (hH:H l=some (.lst xs))
  (e:s.heap.get? l=some { cls:=.type "list",data:=.seq its.toArray n }) (hf:f its.toArray=its'.toArray) (hv:Ae ys its') (hz:ys.length ≤ sizeLine) :
  Inv X pins σ (upd H l (.lst ys)) { s with heap:=s.heap.update l (Obj.mapSeq f),toks:=t' }:=by
 have q:=PySem.IsL.update e f
 rw [hf] at q
 refine I.write (x:=l) (e:=l) (by rw [hH];exact trivial) (.inl rfl) (fun b' u hb hu=>(Heap.get?_update_other s.heap (Obj.mapSeq f) (Ne.symm hb)).trans hu) ⟨_,q⟩ ?_
 exact ⟨hz,its',_,hv,q⟩
theorem Inv.lnew {its:List Value} {t':Nat} (I:Inv X pins σ H s) (hv:Ae ys its) (hz:ys.length ≤ sizeLine) :
  Inv X pins σ (upd H s.heap.objs.size (.lst ys)) { s with heap:=s.heap.push { cls:=.type "list",data:=.seq its.toArray },toks:=t' }:=
 I.laid (fun _ _ q=>Heap.get?_push_of_some _ q) (Nat.le_refl _) ⟨hz,its,0,hv,Heap.get?_push_size _ rfl⟩
theorem Inv.fresh (I:Inv X pins σ H s):H s.heap.objs.size=none:=I.hok.fresh (Nat.le_refl _)
theorem Inv.lstM (I:Inv X pins σ H s) (hH:H l=some (.lst xs)):xs.length ≤ sizeLine∧∃ (its:List Value) (n:Nat),Ae xs its∧xs.length=its.length∧s.heap.get? l=some { cls:=.type "list",data:=.seq its.toArray n }:=by
 obtain ⟨z,its,n,r,e⟩:=I.hok l _ hH
 exact ⟨z,its,n,r,r.length,e⟩
end
section
variable {X:Cx}
def ZN:V→List V→Hp→VK→Prop:=fun x vs H Q=>∃ l xs y,x=.ref l∧vs=[y]∧H l=some (.lst xs)∧xs.length < sizeLine∧Q .non (upd H l (.lst (xs ++ [y])))
theorem Eu:MtM X "list.append" ZN:=by
 intro pins s σ H x vs v us Q I rx rv h
 obtain ⟨l,xs,y,rfl,rfl,hH,hz,q⟩:=h
 cases rx
 obtain ⟨u,rfl,ru⟩:=rv.one
 obtain ⟨z,its,n,r,hl,e⟩:=I.lstM hH
 refine call_meets F.slot_list_append ⟨_,e,rfl⟩ F.entry_list_append (F.args_list_append_2 _ _) (PySem.list_append l its.toArray n u (by rw [List.size_toArray];omega)) ⟨e,?_⟩
 refine ⟨.non,_,I.lset (its':=its ++ [u]) hH e (by simp) (r.append (.cons ru .nil)) ?_,rfl,q⟩
 rw [List.length_append,List.length_singleton]
 omega
def wU:V→List V→Hp→VK→Prop:=fun x vs H Q=>∃ l b xs zs,x=.ref l∧vs=[.ref b]∧H l=some (.lst xs)∧H b=some (.lst zs)∧xs.length + zs.length ≤ sizeLine∧Q .non (upd H l (.lst (xs ++ zs)))
def F1:V→List V→Hp→VK→Prop:=fun x vs H Q=>∃ l xs y,x=.ref l∧vs=[]∧H l=some (.lst xs)∧xs[xs.length - 1]? = some y∧Q y (upd H l (.lst xs.dropLast))
def aX:V→List V→Hp→VK→Prop:=fun x vs H Q=>∃ l xs i k y,x=.ref l∧vs=[.int i]∧H l=some (.lst xs)∧-(2 ^ 63) ≤ i∧i < 2 ^ 63∧seqIndex? i xs.length=some k∧xs[k]? = some y∧Q y (upd H l (.lst (xs.eraseIdx k)))
def bR:V→List V→Hp→VK→Prop:=fun x vs H Q=>∃ l xs,x=.ref l∧vs=[]∧H l=some (.lst xs)∧Q .non (upd H l (.lst xs.reverse))
def RW:V→List V→Hp→VK→Prop:=fun x vs H Q=>∃ l xs,x=.ref l∧vs=[]∧H l=some (.lst xs)∧Q .non (upd H l (.lst []))
def T0:R2:=fun x y H Q=>∃ l b xs zs,x=.ref l∧y=.ref b∧H l=some (.lst xs)∧H b=some (.lst zs)∧xs.length + zs.length ≤ sizeLine∧∀ p,H p=none→Q (.ref p) (upd H p (.lst (xs ++ zs)))
theorem Ez:OpR X (binaryOp .Add) T0:=by
 intro pins s σ H x y v u Q I rx ry h
 obtain ⟨l,b,xs,zs,rfl,rfl,hH,hB,hz,q⟩:=h
 cases rx
 cases ry
 obtain ⟨z,its,n,r,hl,e⟩:=I.lstM hH
 obtain ⟨z2,its2,n2,r2,hl2,e2⟩:=I.lstM hB
 refine PySem.P.add_list e e2 ?_ (by rw [List.size_toArray,List.size_toArray];omega)
 have ea:its.toArray ++ its2.toArray=(its ++ its2).toArray:=by simp
 rw [ea]
 exact ⟨.ref _,_,I.lnew (t':=s.toks) (r.append r2) (by rw [List.length_append];omega),rfl,q _ I.fresh⟩
def B2:R2:=fun x y H Q=>∃ l k xs,x=.ref l∧y=.int k∧H l=some (.lst xs)∧-(2 ^ 63) ≤ k∧k < 2 ^ 63∧xs.length * k.toNat ≤ sizeLine ∧
 ∀ p,H p=none→Q (.ref p) (upd H p (.lst (List.replicate k.toNat xs).flatten))
end
section
variable {prog:Program} {w:World} {A:Around} {E:Value→Shared→Prop} {s:Shared}
end
section
variable {X:Cx}
end
end L2
namespace L2
open PySem PySem.Spec PyProof.Rows
section
variable {κ:Type} [DecidableEq κ]
def Yw (kvs:List (κ × V)) (k:κ):Option V:=(kvs.find? fun kv=>decide (kv.1=k)).map (·.2)
def yH (kvs:List (κ × V)) (k:κ) (v:V):List (κ × V):=
 if (kvs.any fun kv=>decide (kv.1=k))=true then kvs.map (fun kv=>if kv.1=k then (kv.1,v) else kv) else kvs ++ [(k,v)]
def RF (kvs:List (κ × V)) (k:κ):List (κ × V):=kvs.filter fun kv=>decide (kv.1 ≠ k)
theorem WE {p:κ × V} {r:List (κ × V)} {k:κ} (e:p.1=k):Yw (p :: r) k=some p.2:=by simp [Yw,List.find?_cons,e]
theorem rF {p:κ × V} {r:List (κ × V)} {k:κ} (e:¬ p.1=k):Yw (p :: r) k=Yw r k:=by simp [Yw,List.find?_cons,e]
theorem sK (k:κ):∀ kvs:List (κ × V),(kvs.any fun kv=>decide (kv.1=k))=(Yw kvs k).isSome
 | []=>rfl
 | p :: r=>by
  rw [List.any_cons]
  by_cases e:p.1=k
  ·simp only [WE e,decide_eq_true e,Bool.true_or,Option.isSome_some]
  ·rw [rF e,decide_eq_false e,Bool.false_or];exact sK k r
theorem Oz (kvs:List (κ × V)) (k:κ) (v:V):(yH kvs k v).length ≤ kvs.length + 1:=by
 unfold yH
 split
 ·rw [List.length_map];omega
 ·rw [List.length_append,List.length_cons,List.length_nil];omega
theorem aC.isSome_eq {o:Option V} {u:Option Value} (r:aC o u):o.isSome=u.isSome:=by
 cases o with
 | none=>cases u with
  | none=>rfl
  | some _=>exact (show False from r).elim
 | some _=>cases u with
  | none=>exact (show False from r).elim
  | some _=>rfl
theorem aC.getD {o:Option V} {u:Option Value} {d:V} {d':Value} (r:aC o u) (rd:cf d d'):cf (o.getD d) (u.getD d'):=by
 cases o with
 | none=>cases u with
  | none=>exact rd
  | some _=>exact (show False from r).elim
 | some _=>cases u with
  | none=>exact (show False from r).elim
  | some _=>exact r
theorem KV.val {kvs:List (κ × V)} {vs:List (κ × Value)} (r:KV kvs vs) (k:κ):aC (Yw kvs k) (valueAt vs k):=by
 unfold KV at r
 induction r with
 | nil=>exact True.intro
 | @cons p q ps qs h t ih=>
  obtain ⟨h1,h2⟩:=h
  by_cases e:p.1=k
  ·have e':q.1=k:=h1.symm.trans e
   have b:valueAt (q :: qs) k=some q.2:=by simp [valueAt,List.find?_cons,e']
   rw [WE e,b];exact h2
  ·have e':¬ q.1=k:=fun z=>e (h1.trans z)
   have b:valueAt (q :: qs) k=valueAt qs k:=by simp [valueAt,List.find?_cons,e']
   rw [rF e,b];exact ih
theorem KV.any {kvs:List (κ × V)} {vs:List (κ × Value)} (r:KV kvs vs) (k:κ):(kvs.any fun kv=>decide (kv.1=k))=vs.any fun kv=>decide (kv.1=k):=by
 unfold KV at r
 induction r with
 | nil=>rfl
 | cons h t ih=>rw [List.any_cons,List.any_cons,ih,h.1]
theorem KV.repl {kvs:List (κ × V)} {vs:List (κ × Value)} (r:KV kvs vs) (k:κ) {y:V} {u:Value} (ry:cf y u) :
  KV (kvs.map fun kv=>if kv.1=k then (kv.1,y) else kv) (vs.map fun kv=>if kv.1=k then (kv.1,u) else kv):=by
 unfold KV at r ⊢
 induction r with
 | nil=>exact .nil
 | @cons p q ps qs h t ih=>
  rw [List.map_cons,List.map_cons]
  refine .cons ?_ ih
  obtain ⟨h1,h2⟩:=h
  by_cases e:p.1=k
  ·rw [if_pos e,if_pos (h1.symm.trans e)];exact ⟨h1,ry⟩
  ·rw [if_neg e,if_neg (fun z=>e (h1.trans z))];exact ⟨h1,h2⟩
theorem KV.put {kvs:List (κ × V)} {vs:List (κ × Value)} (r:KV kvs vs) (k:κ) {y:V} {u:Value} (ry:cf y u):KV (yH kvs k y) (stored vs k u):=by
 unfold yH stored
 rw [r.any k]
 by_cases e:(vs.any fun kv=>decide (kv.1=k))=true
 ·rw [if_pos e,if_pos e];exact r.repl k ry
 ·rw [if_neg e,if_neg e];exact Paired.snoc r ⟨rfl,ry⟩
theorem KV.drop {kvs:List (κ × V)} {vs:List (κ × Value)} (r:KV kvs vs) (k:κ):KV (RF kvs k) (without vs k):=by
 unfold KV at r ⊢
 unfold RF without
 induction r with
 | nil=>exact .nil
 | @cons p q ps qs h t ih=>
  obtain ⟨h1,h2⟩:=h
  rw [List.filter_cons,List.filter_cons]
  by_cases e:p.1=k
  ·have a:¬ decide (p.1 ≠ k)=true:=by simp [e]
   have b:¬ decide (q.1 ≠ k)=true:=by simp [h1.symm.trans e]
   rw [if_neg a,if_neg b];exact ih
  ·have e':¬ q.1=k:=fun z=>e (h1.trans z)
   have a:decide (p.1 ≠ k)=true:=by simp [e]
   have b:decide (q.1 ≠ k)=true:=by simp [e']
   rw [if_pos a,if_pos b];exact .cons ⟨h1,h2⟩ ih
theorem KV.length {kvs:List (κ × V)} {vs:List (κ × Value)} (r:KV kvs vs):kvs.length=vs.length:=Paired.length r
end
theorem rS {P:Program} {w:World} {k:Key} {u:Value} (r:cf (kV k) u):(zh P w).is k u=true:=by
 cases k with
 | inl i=>obtain ⟨t,e⟩:=(show ∃ t,u=Value.int i t from r);subst e;exact WJ P w i t
 | inr x=>obtain ⟨t,e⟩:=(show ∃ t,u=Value.str x t from r);subst e;exact XJ P w x t
theorem gH {P:Program} {w:World}:∀ {ks:List Key} {us:List Value},Ae (ks.map kV) us→ItemsAre (zh P w) ks us
 | [],_,r=>by rw [List.map_nil] at r;cases r;exact .nil
 | k :: ks,_,r=>by
  rw [List.map_cons] at r
  cases r with
  | cons h t=>exact .cons (rS h) (gH t)
abbrev KT (H:Hp):List (List Key × V)→List (List Key × Addr × Value)→Prop:=Paired fun p q=>p.1=q.1∧H q.2.1=some (.tup (p.1.map kV))∧cf p.2 q.2.2
theorem KT.val {H:Hp} {kvs:List (List Key × V)} {xs:List (List Key × Addr × Value)} (r:KT H kvs xs) (k:List Key):aC (Yw kvs k) ((atKey xs k).map (·.2)):=by
 induction r with
 | nil=>exact True.intro
 | @cons p q ps qs h t ih=>
  obtain ⟨h1,_,h2⟩:=h
  by_cases e:p.1=k
  ·have e':q.1=k:=h1.symm.trans e
   have b:atKey (q :: qs) k=some q.2:=by simp [atKey,List.find?_cons,e']
   rw [WE e,b];exact h2
  ·have e':¬ q.1=k:=fun z=>e (h1.trans z)
   have b:atKey (q :: qs) k=atKey qs k:=by simp [atKey,List.find?_cons,e']
   rw [rF e,b];exact ih
theorem KT.repl {H:Hp} {kvs:List (List Key × V)} {xs:List (List Key × Addr × Value)} (r:KT H kvs xs) (k:List Key) {y:V} {u:Value} (ry:cf y u) :
  KT H (kvs.map fun kv=>if kv.1=k then (kv.1,y) else kv) (xs.map (putAt k u)):=by
 induction r with
 | nil=>exact .nil
 | @cons p q ps qs h t ih=>
  rw [List.map_cons,List.map_cons]
  refine .cons ?_ ih
  obtain ⟨h1,h2,h3⟩:=h
  unfold putAt
  by_cases e:p.1=k
  ·rw [if_pos e,if_pos (h1.symm.trans e)];exact ⟨h1,h2,ry⟩
  ·rw [if_neg e,if_neg (fun z=>e (h1.trans z))];exact ⟨h1,h2,h3⟩
theorem KT.put {H:Hp} {kvs:List (List Key × V)} {xs:List (List Key × Addr × Value)} (r:KT H kvs xs) (k:List Key) {b:Addr} {y:V} {u:Value} (hb:H b=some (.tup (k.map kV))) (ry:cf y u) :
  KT H (yH kvs k y) (storedH xs k b u):=by
 have e:(kvs.any fun kv=>decide (kv.1=k))=(atKey xs k).isSome:=by
  rw [sK,(r.val k).isSome_eq,Option.isSome_map]
 unfold yH storedH
 rw [e]
 by_cases q:(atKey xs k).isSome=true
 ·rw [if_pos q,if_pos q];exact r.repl k ry
 ·rw [if_neg q,if_neg q];exact Paired.snoc r ⟨rfl,hb,ry⟩
theorem KT.keeps {H H':Hp} {kvs:List (List Key × V)} {xs:List (List Key × Addr × Value)} (r:KT H kvs xs) (ht:∀ b ys,H b=some (.tup ys)→H' b=some (.tup ys)):KT H' kvs xs:=
 Paired.mapP r fun _ _ z=>⟨z.1,ht _ _ z.2.1,z.2.2⟩
section
variable {P:Program} {w:World} {H:Hp} {h:Heap} {a:Addr}
theorem wX {u:HO} (ok:HOk P w H h) (e:Rd H a u):Ve P w H h a u:=e.ok ok
theorem gR {kvs:List (Key × V)} (ok:HOk P w H h) (e:Rd H a (.dK kvs)):kvs.length ≤ sizeLine∧(a == sysModules)=false∧∃ vs,KV kvs vs∧h.DictOf (zh P w) a vs:=
 show Ve P w H h a (.dK kvs) from wX ok e
theorem xZ {kvs:List (Key × V)} (ok:HOk P w H h) (e:H a=some (.dK kvs)):kvs.length ≤ sizeLine∧(a == sysModules)=false∧∃ vs,KV kvs vs∧h.DictOf (zh P w) a vs:=gR ok (.inl e)
theorem eK {ks:List Key} (ok:HOk P w H h) (e:H a=some (.tup (ks.map kV))):(tupleKind (zh P w)).is h ks a:=by
 obtain ⟨_,its,r,o,h1,h2,n,h3⟩:=(show Ve P w H h a (.tup (ks.map kV)) from ok a _ e)
 exact ⟨o,its.toArray,n,h1,h2,h3,by simpa using gH r⟩
theorem ER {kvs:List (List Key × V)} (ok:HOk P w H h) (e:Rd H a (.dT kvs)):kvs.length ≤ sizeLine∧(a == sysModules)=false ∧
  ∃ xs,KT H kvs xs∧h.DictOfH (tupleKind (zh P w)) a xs:=by
 obtain ⟨z,y,xs,r,o,es,ep,h1,h2,h3,h4,h5⟩:=(show Ve P w H h a (.dT kvs) from wX ok e)
 refine ⟨z,y,xs,r,o,es,ep,h1,h2,h3,h4,fun x hx=>?_,h5⟩
 have all:∀ {l:List (List Key × V)} {m:List (List Key × Addr × Value)},KT H l m→∀ x ∈ m,(tupleKind (zh P w)).is h x.1 x.2.1:=by
  intro l m q
  induction q with
  | nil=>intro x hx;exact nomatch hx
  | @cons p q ps qs hq t ih=>
   intro x hx
   rcases List.mem_cons.mp hx with e | hx
   ·subst e
    exact eK ok (by rw [← hq.1];exact hq.2.1)
   ·exact ih x hx
 exact all r x hx
theorem KZ {kvs:List (List Key × V)} (ok:HOk P w H h) (e:H a=some (.dT kvs)):kvs.length ≤ sizeLine∧(a == sysModules)=false ∧
  ∃ xs,KT H kvs xs∧h.DictOfH (tupleKind (zh P w)) a xs:=ER ok (.inl e)
end
def Ny (H:Hp) (a:Addr) (y:V) (r:Option V):Prop:=
 (∃ kvs k,Rd H a (.dK kvs)∧y=kV k∧r=Yw kvs k)∨∃ kvs k b,Rd H a (.dT kvs)∧y=.ref b∧H b=some (.tup (k.map kV))∧r=Yw kvs k
def rM (H:Hp) (a:Addr) (y v:V) (H':Hp):Prop:=
 (∃ kvs k,H a=some (.dK kvs)∧y=kV k∧kvs.length < sizeLine∧H'=upd H a (.dK (yH kvs k v))) ∨
 ∃ kvs k b,H a=some (.dT kvs)∧y=.ref b∧H b=some (.tup (k.map kV))∧kvs.length < sizeLine∧H'=upd H a (.dT (yH kvs k v))
theorem Ny.k {H:Hp} {a:Addr} {kvs:List (Key × V)} {k:Key} (e:H a=some (.dK kvs)):Ny H a (kV k) (Yw kvs k):=.inl ⟨kvs,k,.inl e,rfl,rfl⟩
theorem Ny.t {H:Hp} {a b:Addr} {kvs:List (List Key × V)} {k:List Key} (e:H a=some (.dT kvs)) (eb:H b=some (.tup (k.map kV))):Ny H a (.ref b) (Yw kvs k):=.inr ⟨kvs,k,b,.inl e,rfl,eb,rfl⟩
theorem rM.k {H:Hp} {a:Addr} {kvs:List (Key × V)} {k:Key} {v:V} (e:H a=some (.dK kvs)) (hl:kvs.length < sizeLine):rM H a (kV k) v (upd H a (.dK (yH kvs k v))):=.inl ⟨kvs,k,e,rfl,hl,rfl⟩
theorem rM.t {H:Hp} {a b:Addr} {kvs:List (List Key × V)} {k:List Key} {v:V} (e:H a=some (.dT kvs)) (eb:H b=some (.tup (k.map kV))) (hl:kvs.length < sizeLine) :
  rM H a (.ref b) v (upd H a (.dT (yH kvs k v))):=.inr ⟨kvs,k,b,e,rfl,eb,hl,rfl⟩
section
variable {X:Cx} {pins:List (Addr × Obj)} {σ:St} {H:Hp} {s:Shared} {a:Addr} {y v:V} {u r:Value} {o:Option V} {A:Around} {E:Value→Shared→Prop}
theorem Inv.big (I:Inv X pins σ H s):sysModules < s.heap.objs.size:=by
 have h:mainGlobals < s.heap.objs.size:=(I.mod.glob.keeps I.bk).lt
 exact Nat.lt_trans (by decide) h
theorem UO {Q:Value→Shared→Prop} (hu:A.units + 1 < cLine) (I:Inv X pins σ H s) (g:Ny H a y (some v)) (ry:cf y u) (h:∀ w' s',Inv X pins σ H s'→cf v w'→Q w' s') :
  wpAny (model X.prog X.w) A (getItem (.ref a) u) Q E s:=by
 rcases g with ⟨kvs,k,e,ey,l⟩ | ⟨kvs,k,b,e,ey,eb,l⟩
 ·subst ey
  obtain ⟨z,hd,vs,rel,dd⟩:=gR I.hok e
  obtain ⟨w',hw,rw'⟩:=aC.some_of (v:=v) (o:=valueAt vs k) (by rw [l];exact rel.val k)
  exact wpAny_getItem_of (rS ry) dd.mapOf hw (h w' _ (I.tok _) rw')
 ·subst ey
  cases (show u=Value.ref b from ry)
  obtain ⟨z,hd,xs,rel,dd⟩:=ER I.hok e
  obtain ⟨w',hw,rw'⟩:=aC.some_of (v:=v) (o:=(atKey xs k).map (·.2)) (by rw [l];exact rel.val k)
  obtain ⟨p,hp,hp2⟩:=Option.map_eq_some_iff.mp hw
  refine wpAny_getItem_heap (tupleKind_room_in1 hu) (eK I.hok eb) dd hp ?_
  rw [hp2]
  exact h w' _ (I.tok _) rw'
theorem sW {Q:Value→Shared→Prop} (hu:A.units + 1 < cLine) (I:Inv X pins σ H s) (g:Ny H a y o) (ry:cf y u) (h:∀ s',Inv X pins σ H s'→Q (.bool (!o.isSome)) s') :
  wpAny (model X.prog X.w) A (compareOp .NotIn u (.ref a)) Q E s:=by
 rcases g with ⟨kvs,k,e,ey,l⟩ | ⟨kvs,k,b,e,ey,eb,l⟩
 ·subst ey
  obtain ⟨z,hd,vs,rel,dd⟩:=gR I.hok e
  refine wpAny_notIn_of (rS ry) hd dd.mapOf ?_
  rw [← (rel.val k).isSome_eq,← l]
  exact h _ (I.tok _)
 ·subst ey
  cases (show u=Value.ref b from ry)
  obtain ⟨z,hd,xs,rel,dd⟩:=ER I.hok e
  refine wpAny_notIn_heap (tupleKind_room_in1 hu) (eK I.hok eb) hd dd ?_
  have q:=(rel.val k).isSome_eq
  rw [Option.isSome_map] at q
  rw [← q,← l]
  exact h _ (I.tok _)
theorem yP {h':Heap} {t':Nat} {ob:HO} (I:Inv X pins σ H s) (mu:Mut (H a)) (hs:Heap.SameBut a s.heap h') (he:∃ q,h'.get? a=some q) (new:Ve X.prog X.w (upd H a ob) h' a ob) :
  Inv X pins σ (upd H a ob) { s with heap:=h',toks:=t' }:=
 I.write (x:=a) (e:=a) mu (.inl rfl) (fun b q hb z=>(hs.2 b hb).trans z) he new
theorem OX {P:Program} {w:World} {H':Hp} {h':Heap} {kvs:List (Key × V)} {vs:List (Key × Value)} (z:kvs.length ≤ sizeLine) (hd:(a == sysModules)=false) (rel:KV kvs vs) (dd:h'.DictOf (zh P w) a vs) :
  Ve P w H' h' a (.dK kvs):=⟨z,hd,vs,rel,dd⟩
theorem BN {H':Hp} {Q:Unit→Shared→Prop} (hu:A.units + 1 < cLine) (I:Inv X pins σ H s) (g:rM H a y v H') (ry:cf y u) (rv:cf v r) (h:∀ s',Inv X pins σ H' s'→Q () s') :
  wpAny (model X.prog X.w) A (setItem (.ref a) u r) Q E s:=by
 rcases g with ⟨kvs,k,e,ey,l,eH⟩ | ⟨kvs,k,b,e,ey,eb,l,eH⟩
 ·subst ey eH
  obtain ⟨z,hd,vs,rel,dd⟩:=xZ I.hok e
  have hz:vs.length ≤ sizeLine:=by rw [← rel.length];exact z
  have hl:(yH kvs k v).length ≤ sizeLine:=by have:=Oz kvs k v;omega
  refine wpAny_setItem_pairs (hsz:=hz) (rS ry) dd fun h' dd' hs=>h _ ?_
  have he:∃ q,h'.get? a=some q:=let ⟨q,_,_,hq,_⟩:=dd';⟨q,hq⟩
  exact yP I (by rw [e];exact True.intro) hs he (OX hl hd (rel.put k rv) dd')
 ·subst ey eH
  cases (show u=Value.ref b from ry)
  obtain ⟨z,hd,xs,rel,dd⟩:=KZ I.hok e
  have hz:xs.length ≤ sizeLine:=by rw [← Paired.length rel];exact z
  have hl:(yH kvs k v).length ≤ sizeLine:=by have:=Oz kvs k v;omega
  refine wpAny_setItem_heap (hsz:=hz) (tupleKind_room_in1 hu) (eK I.hok eb) dd fun h' dd' hs=>h _ ?_
  obtain ⟨q,es,ep,hq,h2,h3,h4,_,h5⟩:=dd'
  refine yP I (by rw [e];exact True.intro) hs ⟨q,hq⟩ ⟨hl,hd,_,(rel.put k eb rv).keeps fun c ys ec=>?_,q,es,ep,hq,h2,h3,h4,h5⟩
  rw [rb (Fg ec e (fun z=>nomatch z))]
  exact ec
end
section
variable {X:Cx} {pins:List (Addr × Obj)} {σ:St} {H:Hp} {s:Shared} {a:Addr} {kvs:List (Key × V)} {k:Key} {u:Value} {A:Around} {E:Value→Shared→Prop}
end
def Y0 (i:Expr):Prop:=∀ ov iv,subscripted i false ov iv=operate [ov,iv] (getItem ov iv)
theorem AU {prog:Program} {w:World} {A:Around} {E:Value→Shared→Prop} {s:Shared} {env:Env} {value slice:Expr} {pos:Pos} {T id:String} {Q:Value→Shared→Prop}
  (hl:typeLookup (.type T) "__getitem__"=pure (some (.builtin id))) (hs:Y0 slice)
  (h:wpAny (model prog w) A (eval value env) (fun o s₁=>wpAny (model prog w) A (eval slice env) (fun i s₂=>s₂.TypeIs o T∧wpAny (model prog w) A (getItem o i) Q E s₂) E s₁) E s) :
  wpAny (model prog w) A (eval (.Subscript value slice pos) env) Q E s:=by
 refine Subscript_ (wpAny_mono h (fun o s₁ h₁=>wpAny_mono h₁ (fun i s₂ h₂=>?_) fun _ _ x=>x) fun _ _ x=>x)
 obtain ⟨hT,h₂⟩:=h₂
 unfold subscriptTail
 refine wpAny_bind ?_
 rw [getitemInPython_of_ne hT.not_modules]
 refine wpAny_bind (wpAny_specialOf hT hl ?_)
 have fin:wpAny (model prog w) A (subscripted slice false o i) (fun r s₃=>wpAny (model prog w) A (letTemporaryGo value o r >>= fun _=>pure r) Q E s₃) E s₂:=by
  rw [hs o i]
  exact wpAny_operating (wpAny_mono h₂ (fun r s₃ h₃=>wpAny_bind (wpAny_letTemporaryGo (wpAny_pure h₃))) fun _ _ x=>x)
 first
  | exact wpAny_pure (wpAny_bind fin)
  | exact wpAny_bind (wpAny_pure (wpAny_bind fin))
  | exact wpAny_bind fin
theorem UJ {X:Cx} {pins:List (Addr × Obj)} {σ:St} {H:Hp} {s:Shared} {a:Addr} {y:V} {o:Option V} (I:Inv X pins σ H s) (g:Ny H a y o):s.TypeIs (.ref a) "dict" := by
 rcases g with ⟨kvs,k,e,_,_⟩ | ⟨kvs,k,b,e,_,_,_⟩
 ·obtain ⟨_,_,vs,_,dd⟩:=gR I.hok e
  exact dd.typeIs
 ·obtain ⟨_,_,xs,_,dd⟩:=ER I.hok e
  exact dd.typeIs
def BY (td ty:TE):TE:=fun σ H Q=>td σ H fun x H1=>ty σ H1 fun y H2=>∃ a v,x=.ref a∧Ny H2 a y (some v)∧Q v H2
def U1 (ty td:TE):TE:=fun σ H Q=>ty σ H fun y H1=>td σ H1 fun x H2=>∃ a o,x=.ref a∧Ny H2 a y o∧Q (.bl o.isSome) H2
def vQ (ty td:TE):TE:=fun σ H Q=>ty σ H fun y H1=>td σ H1 fun x H2=>∃ a o,x=.ref a∧Ny H2 a y o∧Q (.bl (!o.isSome)) H2
def FX (td ty tv:TE):TS:=fun D σ H=>tv σ H fun v H1=>td σ H1 fun x H2=>ty σ H2 fun y H3=>∃ a H4,x=.ref a∧rM H3 a y v H4∧D.nx σ H4
def qZ (td ty tv:TE) (rd:V→V→Hp→VK→Prop):TS:=fun D σ H=>td σ H fun x H1=>ty σ H1 fun y H2=>∃ a v,x=.ref a∧Ny H2 a y (some v) ∧
 tv σ H2 fun y2 H3=>rd v y2 H3 fun z H4=>∃ H5,rM H4 a y z H5∧D.nx σ H5
def kZ (td ty:TE):TS:=fun D σ H=>td σ H fun x H1=>ty σ H1 fun y H2=>∃ a kvs k,x=.ref a∧H2 a=some (.dK kvs)∧y=kV k∧(Yw kvs k).isSome=true∧D.nx σ (upd H2 a (.dK (RF kvs k)))
section
variable {X:Cx} {o i e value:Expr} {pos pos' tpos:Pos} {td ty tv:TE}
theorem II (hu:X.A.units + 1 < cLine) (ho:PE X o td) (hi:PE X i ty) (hs:Y0 i):PE X (.Subscript o i pos) (BY td ty):=by
 intro pins s σ H Q I h
 refine AU PySem.F.slot_dict_getitem.lookup hs (thn (ho pins s σ H _ I h) fun u s1 ⟨x,H1,I1,rx,q1⟩=>thn (hi pins s1 σ H1 _ I1 q1) fun iv s2 ⟨y,H2,I2,ry,a,v,ex,g,q2⟩=>?_)
 subst ex
 obtain rfl:u=Value.ref a:=rx
 exact ⟨UJ I2 g,UO hu I2 g ry fun w' s3 I3 rw'=>⟨v,H2,I3,rw',q2⟩⟩
theorem ON (hu:X.A.units + 1 < cLine) (hi:PE X i ty) (ho:PE X o td):PC X .NotIn i o (vQ ty td):=by
 intro pins s σ H Q I h
 refine thn (hi pins s σ H _ I h) fun iv s1 ⟨y,H1,I1,ry,q1⟩=>thn (ho pins s1 σ H1 _ I1 q1) fun u s2 ⟨x,H2,I2,rx,a,ov,ex,g,q2⟩=>?_
 subst ex
 obtain rfl:u=Value.ref a:=rx
 exact sW hu I2 g ry fun s3 I3=>⟨.bl (!ov.isSome),H2,I3,rfl,q2⟩
theorem uF (hu:X.A.units + 1 < cLine) (ho:PE X o td) (hi:PE X i ty) (hv:PE X value tv) (hs:swapsWith value (some (.Subscript o i pos')) pos.line X.env=pure false) :
  PS X (.Assign [.Subscript o i pos'] value pos) (FX td ty tv):=by
 intro pins s σ H D I h
 refine wpAny_Assign_Subscript (thn (hv pins s σ H _ I h) fun r s1 ⟨v,H1,I1,rv,q1⟩=>thn (ho pins s1 σ H1 _ I1 q1) fun u s2 ⟨x,H2,I2,rx,q2⟩=>thn (hi pins s2 σ H2 _ I2 q2) fun iv s3 ⟨y,H3,I3,ry,a,H4,ex,g,q3⟩=>?_) hs
 subst ex
 obtain rfl:u=Value.ref a:=rx
 exact BN hu I3 g ry rv fun s4 I4=>⟨σ,H4,I4,q3⟩
end
theorem YQ {P:Program} {w:World} {H:Hp} (h:Heap) (hb:sysModules < h.objs.size):Ve P w H (h.push { cls:=.type "dict",data:=.dict #[] }) h.objs.size (.dK []):=
 ⟨Nat.zero_le _,beq_eq_false_iff_ne.mpr (Ne.symm (Nat.ne_of_lt hb)),[],.nil,Heap.DictOf.new h⟩
def aT:TE:=fun _ H Q=>∀ p,H p=none→Q (.ref p) (upd H p (.dK []))
def yY:TE:=fun _ H Q=>∀ p,H p=none→Q (.ref p) (upd H p (.dT []))
section
variable {X:Cx} {pos:Pos}
theorem fz:PE X (.Dict [] [] pos) aT:=fun pins s σ H Q I h=>
 wpAny_Dict_empty ⟨.ref s.heap.objs.size,_,I.laid (a:=s.heap.objs.size) (o:=.dK []) (t':=s.toks) (fun _ _ q=>Heap.get?_push_of_some _ q) (Nat.le_refl _) (YQ s.heap I.big),rfl,h _ (I.hok.fresh (Nat.le_refl _))⟩
end
def OO:List (TE × TE)→St→Hp→(List (V × V)→Hp→Prop)→Prop
 | [],_,H,Q=>Q [] H
 | (tk,tv) :: r,σ,H,Q=>tk σ H fun x H1=>tv σ H1 fun y H2=>OO r σ H2 fun ps H3=>Q ((x,y) :: ps) H3
def RT (kvs more:List (Key × V)):List (Key × V):=more.foldl (fun acc kv=>yH acc kv.1 kv.2) kvs
def yZ (trs:List (TE × TE)):TE:=fun σ H Q=>∀ p,H p=none→OO trs σ (upd H p (.dK [])) fun ps H2=>H2 p=some (.dK [])∧∃ kvs:List (Key × V),ps=kvs.map (fun kv=>(kV kv.1,kv.2))∧kvs.length ≤ 15∧Q (.ref p) (upd H2 p (.dK (RT [] kvs)))
structure M1 (X:Cx) (o:Expr) (m:Str) (apos:Pos) (e:Expr) (cpos:Pos):Prop where
 base:attributeBase o m X.env (eval o X.env)=eval o X.env
 few:((backTo cpos (starEach [e] X.env)).all (fun x=>!x.1) && (backToKw cpos (keywordEach [] X.env)).all (fun x=>x.1.isSome)
  && decide (([e]:List Expr).length + ([]:List Keyword).length + (if ([]:List Keyword).isEmpty then 0 else 1) < 30))=true
 line:(apos.endLine == cpos.line)=true
 trees:backTo cpos (starEach [e] X.env)=[(false,eval e X.env)]
structure M2 (X:Cx) (o:Expr) (m:Str) (apos:Pos) (e f:Expr) (cpos:Pos):Prop where
 base:attributeBase o m X.env (eval o X.env)=eval o X.env
 few:((backTo cpos (starEach [e,f] X.env)).all (fun x=>!x.1) && (backToKw cpos (keywordEach [] X.env)).all (fun x=>x.1.isSome)
  && decide (([e,f]:List Expr).length + ([]:List Keyword).length + (if ([]:List Keyword).isEmpty then 0 else 1) < 30))=true
 line:(apos.endLine == cpos.line)=true
 trees:backTo cpos (starEach [e,f] X.env)=[(false,eval e X.env),(false,eval f X.env)]
def IsD (H:Hp) (a:Addr):Prop:=(∃ kvs,Rd H a (.dK kvs))∨∃ kvs,Rd H a (.dT kvs)
section
variable {X:Cx} {pins:List (Addr × Obj)} {σ:St} {H:Hp} {s:Shared} {a:Addr} {y d:V} {u r:Value} {o:Option V} {A:Around} {E:Value→Shared→Prop}
end
def vX (td ty:TE):TE:=fun σ H Q=>td σ H fun x H1=>∃ a,x=.ref a∧IsD H1 a∧ty σ H1 fun y H2=>∃ o,Ny H2 a y o∧Q (o.getD .non) H2
def UY (td ty tx:TE):TE:=fun σ H Q=>td σ H fun x H1=>∃ a,x=.ref a∧IsD H1 a∧ty σ H1 fun y H2=>tx σ H2 fun z H3=>∃ o,Ny H3 a y o∧Q (o.getD z) H3
def NW (td ty:TE):TE:=fun σ H Q=>td σ H fun x H1=>∃ a,x=.ref a∧IsD H1 a∧ty σ H1 fun y H2=>∃ kvs k v,H2 a=some (.dK kvs)∧y=kV k∧Yw kvs k=some v∧Q v (upd H2 a (.dK (RF kvs k)))
def RY (td ty tx:TE):TE:=fun σ H Q=>td σ H fun x H1=>∃ a,x=.ref a∧IsD H1 a∧ty σ H1 fun y H2=>tx σ H2 fun z H3=>∃ kvs k,H3 a=some (.dK kvs)∧y=kV k ∧
 (∀ v,Yw kvs k=some v→Q v (upd H3 a (.dK (RF kvs k))))∧(Yw kvs k=none→Q z H3)
section
variable {X:Cx} {o e f:Expr} {apos cpos:Pos} {td ty tx:TE}
end
section
variable {X:Cx} {pins:List (Addr × Obj)} {σ:St} {H:Hp} {s:Shared} {a:Addr} {kvs:List (Key × V)} {A:Around} {E:Value→Shared→Prop}
end
section
variable {X:Cx} {pins:List (Addr × Obj)} {σ:St} {H:Hp} {s:Shared} {a:Addr} {y:V} {u:Value} {A:Around} {E:Value→Shared→Prop}
end
end L2
namespace Att
open PySem PySem.W PySem.Calls PyProof.Rows
theorem VB {P:Params} {h:Heap}:∀ (ns:List Int) (vs:List Value),WellAll P h vs (ns.map WData.int)→IntsAre vs ns:=by
 intro ns
 induction ns with
 | nil=>
  intro vs w
  rw [List.map_nil] at w
  cases w
  exact .nil
 | cons n ns ih=>
  intro vs w
  rw [List.map_cons] at w
  cases w with
  | cons a b=>
   cases a
   exact .cons _ _ (ih _ b)
theorem EO {l:OpenLaw} {n:Nat} (hn:l.most=some n) {P:Params} {h:Heap} {args:List WData} {vals:List Value}
  (hpre:l.row.toRowW.claim.pre args=true) (hwl:WellAll P h vals args) :
  ∃ a vs ns,vals=[Value.ref a]∧args=[WData.list (ns.map WData.int)]∧h.get? a=some { cls:=.type "list",data:=.seq vs.toArray }∧IntsAre vs ns∧ns.length ≤ n:=by
 have hsh:WShape.hasAll [] args [.list .int]=true:=(pre_splitW hpre).1
 have hc:l.pre.holds [] { args:=args }=true:=(pre_splitW hpre).2
 obtain ⟨d,r,rfl,h1,h2⟩:=hasAllW_cons hsh
 obtain rfl:=hasAllW_nil h2
 obtain ⟨xs,rfl,h3⟩:=hasW_list h1
 obtain ⟨ns,rfl⟩:=items_int h3
 have hlen:ns.length ≤ n:=by
  unfold OpenLaw.pre at hc
  have h4:(WTm.not (.lt (.lit (.int (n:Int))) (.len (.arg 0)))).holds [] { args:=[.list (ns.map .int)] }=true:=by
   have h4:=(holds_andW hc).1
   rw [hn] at h4
   exact h4
  have h5:=condW_of h4 (w_not (w_lt w_lit (w_len_list (w_arg rfl))))
  rw [List.length_map] at h5
  refine Nat.le_of_not_lt fun q=>?_
  have q':(n:Int) < ((ns.length:Nat):Int):=by omega
  first
   | (rw [decide_eq_true q'] at h5;exact absurd h5 (by decide))
   | (simp at h5;omega)
 cases hwl with
 | cons w1 w2=>
  cases w2
  cases w1 with
  | list ho hall=>exact ⟨_,_,ns,rfl,rfl,ho,VB ns _ hall,hlen⟩
theorem DO (l:OpenLaw) (args:List WData):l.row.toRowW.claim.post args (.bool true) args=true:=
 postW_of (r:=l.row.toRowW) (X:=(true == true))
  (show WShape.has [] (.bool true) .bool=true by first | rfl | decide | simp [WShape.has,WShape.arms,WShape.armsAll])
  (show (WTm.eq .res (.lit (.bool true))).value [] { args:=args,res:=some (.bool true),after:=args }=some (.bool (true == true)) from w_eq_bool (w_res rfl) w_lit) rfl
theorem attach_call {l:OpenLaw} {n:Nat} {q:Program} {loose:List Str} {XP:(Str→Option Value)→Heap→Prop} {YP:World→Heap→Prop} {d:DefRec}
  (hn:l.most=some n) (hdf:d.params.defaults=[])
  (call:∀ (w:World) (s₀ s₁:Shared) (mg mb:Str→Option Value) (fa:Addr) (o:Obj) (pm cd doc:Value) (a:Addr) (vs:List Value) (ns:List Int),
   Ground q loose [] XP w s₀ mg mb s₁.heap→YP w s₁.heap →
   s₁.heap.get? fa=some o→o.data=.func (docDef d.name d.params d.body d.scope pm cd doc)→s₁.heap.CodeRec cd d.name→mg d.name=some (.ref fa) →
   s₁.heap.get? a=some { cls:=.type "list",data:=.seq vs.toArray }→IntsAre vs ns→ns.length ≤ n→s₁.gens=#[] →
   codeAny (model l.prog w) callerA (.call (.ref fa) ⟨[.ref a],[]⟩) (fun r s'=>r=.ok (.ret (.bool true))∧OldK s₁.heap s'.heap∧s'.os=s₁.os∧AllBare s'.gens) s₁) :
  WalkO q loose XP YP l.row.toRowW d [] (fun f vs=>PySem.call f vs):=by
 intro w s₀ s₁ mg mb G Y fa o pm cd doc dV kV ho hd hcd hD hmg hg args vals as hpre hlay hrd hwl hlo
 obtain rfl:dV=.none:=Dflts.none hD hdf
 obtain rfl:kV=.none:=Dflts.noKw hD
 obtain ⟨a,vs,ns,rfl,rfl,hobj,hints,hlen⟩:=EO hn hpre hwl
 refine enter_call (codeAny_mono (call w s₀ s₁ mg mb fa o pm cd doc a vs ns G Y ho (fd_plain hd) hcd hmg hobj hints hlen hg) fun r s' hq=>?_)
 obtain ⟨rfl,h2,h3,h4⟩:=hq
 exact ⟨.inl ⟨.bool true,.bool true,[],rfl,fun _=>rfl,.bool true,DO l _,fun _=>⟨List.Pairwise.nil,fun _ hm=>(nomatch hm)⟩⟩,h2,h3,h4⟩
section
variable {prog:Program} {w:World} {A:Around} {E:Value→Shared→Prop} {s:Shared} {K:Frag}
end
end Att
namespace L2
open PySem PySem.Spec PyProof.Rows
theorem FG:∀ {vs:List Value} {ns:List Int},IntsAre vs ns→Ae (ns.map V.int) vs
 | _,_,.nil=>.nil
 | _,_,.cons n t h=>.cons ⟨t,rfl⟩ (FG h)
def jY (H:Hp):Prop:=∀ b,H b=none∨∃ o xs,H b=some (.frz o (.lst xs))
theorem IR {P:Program} {w:World} {K:PySem.W.Frag} {mg mb:Str→Option Value} {CX:CXT} {k:Nat} {fa a:Addr} {fd:FuncData} {x:Str} {sp:Sp} {s₁:Shared} {vs:List Value} {ns:List Int}
  (KX:K.In s₁.heap) (hns:s₁.heap.Ns mainGlobals mg) (hb:s₁.heap.Ns builtinsNs mb) (hbb:∀ x:Str,x ≠ "__name__" → mb x=bootBuiltins x) (hlim:s₁.heap.NoLimit) (hg:s₁.gens=#[])
  (ha:s₁.heap.get? a=some { cls:=.type "list",data:=.seq vs.toArray }) (hi:IntsAre vs ns) (hl:ns.length ≤ sizeLine) (hr:Hm k callerA)
  (F:∀ base:Heap,K.In base→base.Ns mainGlobals mg→Nb P w K mg base CX k fa fd [x] sp) (hbind:∀ (s:Shared) (u:Value),BindsTo s fd ⟨[u],[]⟩ [(x,u)])
  (hsp:∀ H:Hp,jY H→SqL K H a (ns.map V.int)→sp [.ref a] H (fun v _=>v=.bl true) fun _ _ _=>False)
  (hCX:∀ H e s',CX [] H s₁ (fun _ _ _=>False) e s'→False) :
  codeAny (model P w) callerA (.call (.ref fa) ⟨[.ref a],[]⟩) (fun r s'=>r=.ok (.ret (.bool true))∧OldK s₁.heap s'.heap∧s'.os=s₁.os∧AllBare s'.gens) s₁:=by
 have rv:=FG hi
 have lenV:=hi.length
 -- from an abstract heap in which nothing but the script may be tracked
 have core:∀ H:Hp,jY H→SqL K H a (ns.map V.int)→HOk P w H s₁.heap→(∀ b,H b ≠ none→b=a)→(H a ≠ none→K.lookup a=none) →
   codeAny (model P w) callerA (.call (.ref fa) ⟨[.ref a],[]⟩) (fun r s'=>r=.ok (.ret (.bool true))∧OldK s₁.heap s'.heap∧s'.os=s₁.os∧AllBare s'.gens) s₁:=by
  intro H hO hS hok hA hK
  have base_of:∀ {b:Addr} {o:Obj},s₁.heap.get? b=some o→H b=none→(aS s₁.heap H).get? b=some o:=fun e n=>YR e n
  have noA:∀ {b:Addr} {o:Obj} {es:Array DictEntry} {ep:Nat},s₁.heap.get? b=some o→o.data=.dict es ep→H b=none:=fun {b o es ep} e d=>by
   cases q:H b with
   | none=>rfl
   | some u=>
    have e':b=a:=hA b (by rw [q];simp)
    subst e'
    rw [ha] at e;cases e
    have d':Data.seq vs.toArray _=Data.dict es ep:=d
    cases d'
  have nsK:∀ {b:Addr} {m:Str→Option Value},s₁.heap.Ns b m→(aS s₁.heap H).Ns b m:=fun {b m} ⟨o,es,ep,e,d,r⟩=>⟨o,es,ep,base_of e (noA e d),d,r⟩
  have hKb:K.In (aS s₁.heap H):=fun b o e=>base_of (KX b o e) (by
   cases q:H b with
   | none=>rfl
   | some u=>
    have e':b=a:=hA b (by rw [q];simp)
    subst e'
    rw [hK (by rw [q];simp)] at e;cases e)
  have hM:Mod K mg (aS s₁.heap H):=⟨hKb,nsK hns,⟨mb,nsK hb,hbb⟩,let ⟨mc,h1,h2⟩:=hlim;⟨mc,nsK h1,h2⟩⟩
  have e0:TN P w K mg (aS s₁.heap H) callerA [] s₁ H:=⟨rfl,hM,fun b o e=>aW e,Nat.le_of_eq (KN _ _),trivial,fun b hb=>absurd (show b ∈ ([]:List Addr) from hb) (by simp),hok,.of_eq hg⟩
  refine codeAny_mono ((F _ hKb (nsK hns)).run callerA [] s₁ H ⟨[.ref a],[]⟩ [.ref a] [.ref a] _ _ hr e0 (hbind s₁ (.ref a)) (.cons rfl .nil) (hsp H hO hS)) fun r s' h=>?_
  cases r with
  | error e=>exact (hCX H e s' h).elim
  | ok fl=>
   cases fl with
   | next=>exact False.elim h
   | brk=>exact False.elim h
   | cont=>exact False.elim h
   | ret u=>
    obtain ⟨v,H',os,bare,un,hok',r',q⟩:=h
    have q':v=.bl true:=q
    subst q'
    obtain rfl:u=Value.bool true:=r'
    refine ⟨rfl,OldK.of_keep fun b o e=>?_,os,bare⟩
    cases q:H b with
    | none=>exact un.keep b o e q (by intro z;exact absurd (show b ∈ ([]:List Addr) from z) (by simp)) (by simp)
    | some u=>
     rcases hO b with z | ⟨ob,xs,z⟩
     ·rw [q] at z;cases z
     ·have z2:=un.frzs b ob _ z
      obtain ⟨e1,_⟩:=hok b _ z
      obtain ⟨e2,_⟩:=hok' b _ z2
      rw [e] at e1;cases e1
      exact e2
 cases hk:K.lookup a with
 | some o=>
  -- the script is one of the module's own objects
  have e:=KX a o hk
  rw [ha] at e
  cases e
  refine core (fun _=>none) (fun _=>.inl rfl) (.inr ⟨_,vs.toArray,_,hk,rfl,rfl,rfl,by rw [List.size_toArray,lenV];exact hl,by simpa using rv⟩) (fun b u z=>by have z':(none:Option HO)=some u:=z;cases z') (fun b z=>absurd rfl z) fun z=>absurd rfl z
 | none=>
  refine core (fun b=>if b=a then some (.frz { cls:=.type "list",data:=.seq vs.toArray } (.lst (ns.map V.int))) else none) (fun b=>?_) (.inl (.inr ⟨{ cls:=.type "list",data:=.seq vs.toArray },if_pos rfl⟩)) (fun b u z=>?_) (fun b z=>?_) fun _=>hk
  ·by_cases hb:b=a
   ·exact .inr ⟨_,_,if_pos hb⟩
   ·exact .inl (if_neg hb)
  ·by_cases hb:b=a
   ·have z':=(if_pos hb).symm.trans z
    cases z'
    subst hb
    exact ⟨ha,by rw [List.length_map];exact hl,vs,_,rv,ha⟩
   ·have z':=(if_neg hb).symm.trans z
    cases z'
  ·by_cases hb:b=a
   ·exact hb
   ·exact absurd (if_neg hb) z
end L2
namespace L2
open PySem PySem.Spec PyProof.Rows
abbrev KOf {K:PySem.W.Frag} {h:Heap} (_:K.In h):PySem.W.Frag:=K
theorem UV {l:PySem.W.OpenLaw} {n k:Nat} {q:Program} {loose:List Str} {XP:(Str→Option Value)→Heap→Prop} {YP:World→Heap→Prop} {d:DefRec} {K:Params→PySem.W.Frag} {CX:World→CXT} {sp:World→Sp} {x:Str}
  (hn:l.most=some n) (hn2:n ≤ sizeLine) (hdf:d.params.defaults=[]) (hr:Hm k callerA)
  (hY:∀ (w:World) (h:Heap),YP w h→(K w.params).In h)
  (F:∀ (w:World) (mg:Str→Option Value) (fa:Addr) (h:Heap),(K w.params).In h→h.Ns mainGlobals mg→mg d.name=some (.ref fa) →
   ∃ fd:FuncData,(∀ (s:Shared) (u:Value),BindsTo s fd ⟨[u],[]⟩ [(x,u)]) ∧
    ∀ base:Heap,(K w.params).In base→base.Ns mainGlobals mg→Nb l.prog w (K w.params) mg base (CX w) k fa fd [x] (sp w))
  (hsp:∀ (w:World) (H:Hp) (a:Addr) (ns:List Int),ns.length ≤ n→jY H→SqL (K w.params) H a (ns.map V.int)→sp w [.ref a] H (fun v _=>v=.bl true) fun _ _ _=>False)
  (hCX:∀ (w:World) (H:Hp) (s:Shared) (e:Value) (s':Shared),CX w [] H s (fun _ _ _=>False) e s'→False) :
  PySem.W.WalkO q loose XP YP l.row.toRowW d [] (fun f vs=>PySem.call f vs):=by
 refine Att.attach_call hn hdf fun w s₀ s₁ mg mb fa o pm cd doc a vs ns G Y ho hd hcd hmg hobj hints hlen hg=>?_
 have KX:=hY w _ Y
 obtain ⟨fd,hb,hF⟩:=F w mg fa _ KX G.T.g hmg
 exact IR KX G.T.g G.T.b G.T.builtins G.T.nolimit hg hobj hints (Nat.le_trans hlen hn2) hr hF hb (fun H hO hS=>hsp w H a ns hlen hO hS) fun H e s'=>hCX w H s₁ e s'
theorem qS {l:PySem.W.OpenLaw} {n k:Nat} {q:Program} {loose:List Str} {XP:(Str→Option Value)→Heap→Prop} {YP:World→Heap→Prop} {d:DefRec} {K:Params→PySem.W.Frag} {CX:CXT} {sp:PySem.W.Frag→Sp} {x:Str}
  (hn:l.most=some n) (hn2:n ≤ sizeLine) (hdf:d.params.defaults=[]) (hr:Hm k callerA)
  (hY:∀ (w:World) (h:Heap),YP w h→(K w.params).In h)
  (F:∀ (w:World) (mg:Str→Option Value) (fa:Addr) (h:Heap),(K w.params).In h→h.Ns mainGlobals mg→mg d.name=some (.ref fa) →
   ∃ fd:FuncData,(∀ (s:Shared) (u:Value),BindsTo s fd ⟨[u],[]⟩ [(x,u)]) ∧
    ∀ base:Heap,(K w.params).In base→base.Ns mainGlobals mg→Nb l.prog w (K w.params) mg base CX k fa fd [x] (sp (K w.params)))
  (hsp:∀ (K:PySem.W.Frag) (H:Hp) (a:Addr) (ns:List Int),ns.length ≤ n→jY H→SqL K H a (ns.map V.int)→sp K [.ref a] H (fun v _=>v=.bl true) fun _ _ _=>False)
  (hCX:∀ (H:Hp) (s:Shared) (e:Value) (s':Shared),CX [] H s (fun _ _ _=>False) e s'→False) :
  PySem.W.WalkO q loose XP YP l.row.toRowW d [] (fun f vs=>PySem.call f vs):=
 UV (K:=K) (CX:=fun _=>CX) (sp:=fun w=>sp (K w.params)) hn hn2 hdf hr hY F (fun w H a ns h1 h2 h3=>hsp (K w.params) H a ns h1 h2 h3) fun _ H s e s'=>hCX H s e s'
end L2
namespace L2
open PySem PySem.Spec PyProof.Rows
def Pd (s:Stmt) (j:Nat):Stmt:=match s with
 | .ClassDef _ _ _ body _ _ _ _ _ _ _=>body.getD j (.Pass ⟨0,0,0,0⟩)
 | _=>.Pass ⟨0,0,0,0⟩
def lb (s:Stmt):Arguments:=match s with
 | .FunctionDef _ a _ _ _ _ _ _ _ _=>a
 | _=>{ posonlyargs:=[],args:=[],vararg:=none,kwonlyargs:=[],kw_defaults:=[],kwarg:=none,defaults:=[] }
def jb (s:Stmt):List Stmt:=match s with
 | .FunctionDef _ _ b _ _ _ _ _ _ _=>b
 | _=>[]
def db (s:Stmt):Scope:=match s with
 | .FunctionDef _ _ _ _ _ _ sc _ _ _=>sc
 | _=>{ kind:=.function,names:=[],isGenerator:=false,isCoroutine:=false }
abbrev CX0:CXT:=fun _ _ _ _ _ _=>False
abbrev E0:XK:=fun _ _ _=>False
theorem Ob {X:Cx}:Rr CX0 X E0:=fun _ _ _ _ _ _ _ h=>h.elim
structure Fun (K:PySem.W.Frag) (x qual:Str) (st:Stmt) (f:Addr) (fd:FuncData):Prop where
 ex:∃ (oc:Value) (od:Option Addr) (kV doc pm:Value) (an:Option Addr) (cdv ct:Value) (osl:Array (Option Value)),
  fd=PySem.W.fnOf x qual (lb st) (jb st) (db st) .none kV doc pm an cdv ct∧K.lookup f=some ⟨oc,od,.func fd,osl⟩∧PySem.W.codeIn K cdv qual=true
 kp:PySem.W.keepIn K (.ref f)=true
section
variable {P:Program} {w:World} {K:PySem.W.Frag} {mg:Str→Option Value} {base:Heap}
theorem Fun.ok {x qual:Str} {st:Stmt} {f:Addr} {fd:FuncData} {N ps:List Str} {k:Nat} {sp:Sp} (F:Fun K x qual st f fd) (S:Db N ps (db st)) (len:∀ vs H Q E,sp vs H Q E→vs.length=ps.length)
  (hbody:∀ (cdv:Value) (A:Around) (outer:List Env) (s:Shared) (H:Hp) (vs:List V) (Q:VK) (E:XK),Hm k (A.deeper (envOfC qual (db st) s.heap.objs.size f cdv))→sp vs H Q E →
   ∃ t,PSs (jP CX0 P w K mg base N qual (db st) f cdv A outer s H E).nox (jb st) t∧t { nx:=fun _ H'=>Q .non H',rt:=Q } (start N vs) H):Nb P w K mg base CX0 (k + 1) f fd ps sp:=by
 obtain ⟨oc,od,kV,doc,pm,an,cdv,ct,osl,rfl,lk,hcd⟩:=F.ex
 refine UX lk hcd S len fun A outer s H vs Q E hr hsp=>?_
 obtain ⟨t,h,q⟩:=hbody cdv A outer s H vs Q E hr hsp
 exact ⟨t,h.nox,q⟩
theorem Fun.binds {x qual:Str} {st:Stmt} {f:Addr} {fd:FuncData} {ps:List Str} (F:Fun K x qual st f fd)
  (h:∀ (kV doc pm:Value) (an:Option Addr) (cdv ct:Value) (us:List Value),us.length=ps.length→bindArgs (PySem.W.fnOf x qual (lb st) (jb st) (db st) .none kV doc pm an cdv ct) ⟨us,[]⟩=pure (ps.zip us)):gc K fd ps []:=by
 obtain ⟨oc,od,kV,doc,pm,an,cdv,ct,osl,rfl,lk,hcd⟩:=F.ex
 exact .all (h kV doc pm an cdv ct)
theorem ub {x qual:Str} {st:Stmt} {f:Addr} {oc:Value} {od an:Option Addr} {osl:Array (Option Value)} {kV doc pm cdv ct:Value} (l:K.lookup f=some ⟨oc,od,.func (PySem.W.fnOf x qual (lb st) (jb st) (db st) .none kV doc pm an cdv ct),osl⟩)
  (c:PySem.W.codeIn K cdv qual=true) (k:PySem.W.keepIn K (.ref f)=true):Fun K x qual st f (PySem.W.fnOf x qual (lb st) (jb st) (db st) .none kV doc pm an cdv ct):=⟨⟨oc,od,kV,doc,pm,an,cdv,ct,osl,rfl,l,c⟩,k⟩
end
theorem ZQ {A:Around} {k:Nat} (hr:Hm k A):A.units + 1 < cLine:=Nat.lt_of_le_of_lt (Nat.add_le_add_left (by decide:1 ≤ 64) _) hr.units
section
variable {X:Cx}
theorem pv (i:Nat) {x:Str} {pos:Pos} (hN:X.N[i]? = some x:=by rfl) (hv:Vis X.env.scope x:=by first | exact Or.inl rfl | exact Or.inr (Or.inl rfl) | exact Or.inr (Or.inr rfl)) (hd:(x == ("__debug__" : Str))=false:=by decide)
  (hcd:(x == ("__classdict__" : Str))=false:=by decide):PE X (.Name x pos) (RZ i):=fX hN hv hd hcd
end
def Ac (H H':Hp):Prop:=∀ b o,H b=some o→H' b=some o
theorem Ac.refl (H:Hp):Ac H H:=fun _ _ h=>h
theorem Ac.trans {H H1 H2:Hp} (a:Ac H H1) (b:Ac H1 H2):Ac H H2:=fun c o h=>b c o (a c o h)
theorem Ac.free {H H':Hp} (e:Ac H H') {l:Addr} (h:H' l=Option.none):H l=Option.none:=by
 cases q:H l with
 | none=>rfl
 | some o=>
  rw [e l o q] at h
  cases h
theorem Ac.seq {K:PySem.W.Frag} {H H':Hp} {a:Addr} {xs:List V} (e:Ac H H') (h:SqL K H a xs):SqL K H' a xs:=by
 rcases h with (h | ⟨o,h⟩) | h
 ·exact .inl (.inl (e _ _ h))
 ·exact .inl (.inr ⟨o,e _ _ h⟩)
 ·exact .inr h
section
variable {κ:Type} [DecidableEq κ]
end
end L2
set_option maxHeartbeats 4000000
namespace L2
open PySem PySem.Spec PyProof.Rows
def KF (cells:List (Str × Addr)):List (Str × NameKind)→List (Str × Addr)→List (Str × Addr)
 | [],acc=>acc
 | (n,k) :: r,acc=>if k == .free then (match cells.lookup n with | some c=>KF cells r ((n,c) :: acc) | none=>KF cells r acc) else KF cells r acc
theorem RJ {env:Env}:∀ (names:List (Str × NameKind)) (acc:List (Str × Addr)),(∀ y ∈ names,y.2=.free→∃ c,env.cells.lookup y.1=some c) →
  (forIn names acc (fun (x:Str × NameKind) (cs:List (Str × Addr))=>(if (x.2 == .free)=true then do let a ← cellOf env x.1;pure (ForInStep.yield ((x.1,a) :: cs)) else pure (ForInStep.yield cs):Sem (ForInStep (List (Str × Addr))))))=pure (KF env.cells names acc)
 | [],acc,_=>rfl
 | (n,k) :: r,acc,h=>by
  have hr:∀ y ∈ r,y.2=.free→∃ c,env.cells.lookup y.1=some c:=fun y hy=>h y (List.mem_cons_of_mem _ hy)
  rw [List.forIn_cons]
  by_cases hk:(k == NameKind.free)=true
  ·have e:k=.free:=by simpa using hk
   obtain ⟨c,hc⟩:=h (n,k) List.mem_cons_self e
   have hc':env.cells.lookup n=some c:=hc
   simp only [KF,hk,if_true,hc',cellOf]
   exact RJ r _ hr
  ·simp only [KF,hk]
   exact RJ r _ hr
theorem pP {scope:Scope} {env:Env} (h:∀ y ∈ scope.names,y.2=.free→∃ c,env.cells.lookup y.1=some c):closureFor scope env=pure (KF env.cells scope.names []):=by
 unfold closureFor
 exact congrArg (fun t=>t >>= pure) (RJ scope.names [] h)
theorem kz {cells:List (Str × Addr)}:∀ (names:List (Str × NameKind)) (acc:List (Str × Addr)) {x:Str} {c:Addr},(KF cells names acc).lookup x=some c→acc.lookup x=some c∨cells.lookup x=some c
 | [],acc,x,c,h=>.inl h
 | (n,k) :: r,acc,x,c,h=>by
  unfold KF at h
  split at h
  ·cases q:cells.lookup n with
   | none=>rw [q] at h;exact kz r acc h
   | some d=>
    rw [q] at h
    rcases kz r _ h with z | z
    ·rw [List.lookup_cons] at z
     by_cases hx:(x == n)=true
     ·rw [hx] at z
      have e:x=n:=by simpa using hx
      subst e
      right;rw [q];exact z
     ·have hx':(x == n)=false:=by simpa using hx
      rw [hx'] at z;exact .inl z
    ·exact .inr z
  ·exact kz r acc h
theorem nu {cells:List (Str × Addr)}:∀ (names:List (Str × NameKind)) (acc:List (Str × Addr)) {x:Str} {c:Addr},acc.lookup x=some c→cells.lookup x=some c→(KF cells names acc).lookup x=some c
 | [],acc,x,c,h,_=>h
 | (n,k) :: r,acc,x,c,h,hc=>by
  unfold KF
  split
  ·cases q:cells.lookup n with
   | none=>exact nu r acc h hc
   | some d=>
    refine nu r _ ?_ hc
    rw [List.lookup_cons]
    by_cases hx:(x == n)=true
    ·have e:x=n:=by simpa using hx
     subst e
     rw [hx];rw [q] at hc;exact hc
    ·have hx':(x == n)=false:=by simpa using hx
     rw [hx'];exact h
  ·exact nu r acc h hc
theorem yv {cells:List (Str × Addr)}:∀ (names:List (Str × NameKind)) (acc:List (Str × Addr)) {x:Str} {c:Addr},(x,NameKind.free) ∈ names→cells.lookup x=some c→(KF cells names acc).lookup x=some c
 | [],_,_,_,h,_=>nomatch h
 | (n,k) :: r,acc,x,c,h,hc=>by
  rcases List.mem_cons.mp h with e | h
  ·cases e
   unfold KF
   rw [if_pos (by decide),hc]
   refine nu r _ ?_ hc
   rw [List.lookup_cons];simp
  ·unfold KF
   split
   ·cases q:cells.lookup n with
    | none=>exact yv r acc h hc
    | some d=>exact yv r _ h hc
   ·exact yv r acc h hc
theorem Uv {α:Type}:∀ {l:List (Str × α)} {x:Str} {a:α},l.lookup x=some a→(x,a) ∈ l
 | [],_,_,h=>by simp at h
 | (n,b) :: r,x,a,h=>by
  rw [List.lookup_cons] at h
  by_cases hx:(x == n)=true
  ·have e:x=n:=by simpa using hx
   subst e
   rw [hx] at h
   have e2:b=a:=Option.some.inj h
   subst e2
   exact List.mem_cons_self
  ·have hx':(x == n)=false:=by simpa using hx
   rw [hx'] at h
   exact List.mem_cons_of_mem _ (Uv h)
theorem FJ {env:Env} {scope:Scope} {x:Str} {k:NameKind} (h:(relabel scope env).names.lookup x=some k) (hk:k=.cell∨k=.free) (hc:∀ y ∈ scope.names,y.2 ≠ .cell):(x,NameKind.free) ∈ scope.names:=by
 have h1:=Uv h
 obtain ⟨⟨n,j⟩,hm,e⟩:=List.mem_map.mp h1
 have e':(if (j == NameKind.free && env.scope.kind == .function && env.kindOf n == some .cell)=true then (n,NameKind.cell) else (n,j))=(x,k):=e
 split at e'
 ·rename_i hcond
  have e1:n=x:=(Prod.mk.inj e').1
  subst e1
  have hj:j=.free:=by
   simp only [Bool.and_eq_true] at hcond
   simpa using hcond.1.1
  subst hj
  exact hm
 ·have e1:n=x:=(Prod.mk.inj e').1
  have e2:j=k:=(Prod.mk.inj e').2
  subst e1;subst e2
  rcases hk with z | z
  ·exact absurd z (hc _ hm)
  ·subst z;exact hm
theorem kt {env:Env} {scope:Scope} {x:Str} (h:scope.names.lookup x=some .free):(relabel scope env).names.lookup x=some .cell∨(relabel scope env).names.lookup x=some .free:=by
 have all:∀ (names:List (Str × NameKind)),names.lookup x=some .free →
   (names.map fun (n,k)=>if (k == NameKind.free && env.scope.kind == .function && env.kindOf n == some .cell) then (n,NameKind.cell) else (n,k)).lookup x=some .cell ∨
   (names.map fun (n,k)=>if (k == NameKind.free && env.scope.kind == .function && env.kindOf n == some .cell) then (n,NameKind.cell) else (n,k)).lookup x=some .free:=by
  intro names
  induction names with
  | nil=>intro h;simp at h
  | cons p r ih=>
   obtain ⟨n,k⟩:=p
   intro h
   rw [List.map_cons]
   by_cases hx:(x == n)=true
   ·simp only [List.lookup_cons,hx] at h
    have hk:k=.free:=Option.some.inj h
    subst hk
    by_cases hc:(NameKind.free == NameKind.free && env.scope.kind == .function && env.kindOf n == some .cell)=true
    ·left;simp only [if_pos hc,List.lookup_cons,hx]
    ·right;simp only [if_neg hc,List.lookup_cons,hx]
   ·have hx':(x == n)=false:=by simpa using hx
    simp only [List.lookup_cons,hx'] at h
    by_cases hc:(k == NameKind.free && env.scope.kind == .function && env.kindOf n == some .cell)=true
    ·simp only [if_pos hc,List.lookup_cons,hx'];exact ih h
    ·simp only [if_neg hc,List.lookup_cons,hx'];exact ih h
 exact all scope.names h
abbrev Cx.block (X:Cx) (scope:Scope) (C:Addr) (N:List Str) (s:Shared) (H:Hp) (fp:List Addr):Cx where
 prog:=X.prog
 w:=X.w
 K:=X.K
 mg:=X.mg
 base:=X.base
 A:=X.A
 N:=N
 s₀:=s
 H₀:=H
 env:=compEnvC scope (KF X.env.cells scope.names []) C X.env
 outer:=X.stack
 stack:=X.stack
 ex:=fp
 fn:=fun _=>false
 calm:=X.calm
 pn:=[]
 xe:=fun _ _=>False
structure Kx (env:Env) (scope:Scope):Prop where
 kind:scope.kind=.function
 nocell:∀ y ∈ scope.names,y.2 ≠ .cell
 fr:∀ y ∈ scope.names,y.2=.free→env.kindOf y.1=some .cell∨env.kindOf y.1=some .free
 loc:∀ x ∈ scope.names,x.2=.local→scope.names.lookup x.1=some .local
def blk (sel:List (Option Nat)) (σ:St):St:=sel.map fun o=>o.bind fun j=>(σ[j]?).join
def zO (M:List Str) (scope:Scope) (N:List Str) (sel:List (Option Nat)):Prop:=
 sel.length=N.length∧∀ (i j:Nat) (x:Str),sel[i]? = some (some j)→N[i]? = some x→M[j]? = some x∧scope.names.lookup x=some .free
section
variable {X:Cx} {pins:List (Addr × Obj)} {σ:St} {H:Hp} {s:Shared} {scope:Scope} {fp:List Addr} {C:Addr} {N:List Str}
theorem Kx.cells (S:Kx X.env scope) (ok:X.Ok):∀ y ∈ scope.names,y.2=.free→∃ c,X.env.cells.lookup y.1=some c:=fun y hy e=>ok.has y.1 (S.fr y hy e)
theorem CD {x:Str} {c:Addr} (h:(KF X.env.cells scope.names []).lookup x=some c):X.env.cells.lookup x=some c:=by
 rcases kz _ _ h with z | z
 ·simp at z
 ·exact z
theorem HK (I:Inv X pins σ H s) (S:Kx X.env scope) (hf:∀ b ∈ fp,rH X pins H b) (hs:∀ b ∈ fp,b < s.heap.objs.size) (hC:s.heap.objs.size ≤ C):(X.block scope C N s H fp).Ok where
 mod:=I.ok.mod
 kind:=S.kind
 glob:=I.ok.glob
 blt:=I.ok.blt
 above:=hC
 inj:=fun x y c h1 h2=>I.ok.inj x y c (CD h1) (CD h2)
 has:=fun x h=>by
  have hk:∃ k,(relabel scope X.env).names.lookup x=some k∧(k=.cell∨k=.free):=by
   rcases h with h | h
   ·exact ⟨_,h,.inl rfl⟩
   ·exact ⟨_,h,.inr rfl⟩
  obtain ⟨k,h1,h2⟩:=hk
  have hm:=FJ h1 h2 S.nocell
  obtain ⟨c,hc⟩:=S.cells I.ok _ hm rfl
  exact ⟨c,yv _ _ hm hc⟩
 cab:=fun _ _ h _=>nomatch h
 hd:=I.ok.hd
 frames:=I.ok.frames
 stk:=.inl rfl
 exf:=fun b hb=>⟨Nat.ne_of_lt (Nat.lt_of_lt_of_le (hs b hb) hC),fun x c e=>(hf b hb).2.2.2.2.1 x c (CD e)⟩
 bs:=I.bs
 bsz:=Nat.le_trans I.ok.bsz I.sz
 noex:=fun b o e hb=>by
  rcases (hf b hb).2.2.2.1 with z | z
  ·exact I.ok.noex b o e z
  ·exact absurd (Nat.lt_of_lt_of_le (Nat.lt_of_lt_of_le (Heap.lt_size e) I.ok.bsz) z) (Nat.lt_irrefl _)
 exfs:=fun b hb hz=>by
  rcases List.mem_cons.mp (I.stkSub b hz) with z | z
  ·exact (hf b hb).2.1 z
  ·exact (hf b hb).2.2.1 z
 funs:=I.stack
 frf:=I.stkFree
theorem VP {h':Heap} {t':Nat} {m:Str→Option Value} {sel:List (Option Nat)} (I:Inv X pins σ H s) (S:Kx X.env scope) (hf:∀ b ∈ fp,rH X pins H b) (hs:∀ b ∈ fp,b < s.heap.objs.size) (hC:s.heap.objs.size ≤ C)
  (k:∀ b o,s.heap.get? b=some o→h'.get? b=some o) (hn:h'.Ns C m) (hsel:zO X.N scope N sel):Inv (X.block scope C N s H fp) [] (blk sel σ) H { s with heap:=h',toks:=t' } where
 ok:=HK I S hf hs hC
 os:=rfl
 bare:=I.bare
 base:=Un.kept k
 loc:=by
  refine ⟨m,hn,fun i x v e1 e2 e3=>?_⟩
  obtain ⟨m0,hn0,hl⟩:=I.loc
  obtain ⟨j,ej,eσ⟩:∃ j,sel[i]? = some (some j)∧σ[j]? = some (some v):=by
   unfold blk at e2
   rw [List.getElem?_map] at e2
   cases q:sel[i]? with
   | none=>rw [q] at e2;cases e2
   | some o=>
    rw [q] at e2
    cases o with
    | none=>cases e2
    | some j=>
     refine ⟨j,rfl,?_⟩
     have e2':(σ[j]?).join=some v:=Option.some.inj e2
     cases r:σ[j]? with
     | none=>rw [r] at e2';cases e2'
     | some z=>rw [r] at e2';exact congrArg some e2'
  obtain ⟨eN,hfr⟩:=hsel.2 i j x ej e1
  have hm:=Uv hfr
  have hk:=S.fr _ hm rfl
  have hv:Vis X.env.scope x:=hk.elim (fun z=>.inr (.inl z)) fun z=>.inr (.inr z)
  obtain ⟨u,r,l⟩:=hl j x v eN eσ hv
  refine ⟨u,r,?_⟩
  rcases l with ⟨hloc,_⟩ | ⟨_,c,hc,hcell⟩
  ·rcases hk with z | z <;> (have z':X.env.kindOf x=_:=z;rw [hloc] at z';cases z')
  ·refine .inr ⟨?_,c,yv _ _ hm hc,?_⟩
   ·exact kt hfr
   ·obtain ⟨o,ho,hd⟩:=hcell
    exact ⟨o,k _ _ ho,hd⟩
 cell:=fun x c e=>by
  obtain ⟨v,o,ho,hd⟩:=I.cell x c (CD e)
  exact ⟨v,o,k _ _ ho,hd⟩
 free:=I.hok.fresh hC
 freeC:=fun x c e=>I.freeC x c (CD e)
 pin:=fun p hp=>nomatch hp
 hok:=I.hok.kept k
 len:=by unfold blk;rw [List.length_map];exact hsel.1
theorem Inv.adopt {a:Addr} {o:HO} (I:Inv X pins σ H s) (fo:rH X pins H a) (new:Ve X.prog X.w (upd H a o) s.heap a o):Inv X pins σ (upd H a o) s:=by
 obtain ⟨hn,hL,hfs,hex,hcl,hpn⟩:=fo
 refine I.step (g':=s.gens) (d':=s.drawn) (t':=s.toks) (h':=s.heap) (ch:=[a]) (fun b hb=>?_) (fun b o _ _ _ e _=>e) (fun b o _ _ _ e _=>⟨o.slots,e⟩) (fun b o hb e n=>?_) (fun b o _ e=>⟨o,e⟩)
  (fun b xs e=>?_) (fun b o u e=>?_) (fun b ps e=>⟨#[],?_⟩) (fun m hm=>hm) (fun b u e=>?_) I.bare
 ·have e:b=a:=by simpa using hb
  subst e
  exact ⟨hex,hL,hcl,hpn⟩
 ·rw [rb (fun z=>hb (by simp [z]))];exact n
 ·rw [rb (zb e hn)];exact e
 ·rw [rb (zb e hn)];exact e
 ·rw [rb (zb e hn),e];simp
 ·by_cases hb:b=a
  ·subst hb;rw [fb] at e;cases e;exact new
  ·rw [rb hb] at e
   exact (I.hok b u e).stay (fun c v _ q=>q) (fun c q=>by rw [rb (zb q hn)];exact q) fun c xs q=>by rw [rb (zb q hn)];exact q
end
theorem Hr {prog:Program} {w:World} {A:Around} {R:Result→Shared→Prop} {s:Shared} {elt target iter:Expr} {ifs:List Expr} {scope:Scope} {pos:Pos} {it acc:Value} {env:Env} (I:Nat→Shared→Prop)
  (turn:∀ n s,I n s→wpAny (model prog w) A (pyNext it) (fun r s₁=>match r with
   | none=>R (.ok .next) s₁
   | some v=>wpAny (model prog w) A (letOwnedTupleGo target it v) (fun _ s₀=>wpAny (model prog w) A (assign target env v) (fun _ s₂=>
     wpAny (model prog w) A (forIn ifs true fun c r=>if r=true then do let ok ← isTrue c env (eval c env);pure (ForInStep.yield ok) else pure (ForInStep.yield r)) (fun ok s₃=>
      if ok=true then wpAny (model prog w) A (eval elt env) (fun x s₄=>
       wpAny (model prog w) A (call (.builtin "list.append") [acc,x]) (fun _ s₅=>∃ m,m < n∧I m s₅) (fun _ _=>False) s₄) (fun _ _=>False) s₃
      else ∃ m,m < n∧I m s₃) (fun _ _=>False) s₂) (fun _ _=>False) s₀) (fun _ _=>False) s₁) (fun _ _=>False) s)
  (n:Nat) (h:I n s) :
  codeAny (model prog w) A (.compLoop (.ListComp elt [⟨target,iter,ifs,0⟩] scope pos) 0 it acc env) R s:=by
 refine codeAny_loop rfl I (fun n s hI=>?_) n h
 show wpAny _ A ((compTurn (.ListComp elt [⟨target,iter,ifs,0⟩] scope pos) 0 it acc env).onRaise (fun x=>do noteFrame x env;theTreesLotGoes x)) _ _ s
 refine wpAny_noted (wpAny_noRaise ?_)
 rw [compTurn_list]
 refine wpAny_bind (wpAny_standAt (wpAny_bind (wpAny_mono (turn n s hI) (fun r s₁ h₁=>?_) fun _ _ h'=>h')))
 cases r with
 | none=>exact wpAny_pure h₁
 | some v=>
  refine wpAny_bind (wpAny_mono h₁ (fun _ s₀ h₀=>?_) fun _ _ h'=>h')
  refine wpAny_bind (wpAny_mono h₀ (fun _ s₂ h₂=>wpAny_bind (wpAny_mono h₂ (fun ok s₃ h₃=>?_) fun _ _ h'=>h')) fun _ _ h'=>h')
  cases ok with
  | false=>exact wpAny_pure ⟨rfl,h₃⟩
  | true=>
   exact wpAny_bind (wpAny_bind (wpAny_mono h₃ (fun x s₄ h₄=>wpAny_bind (wpAny_mono h₄ (fun _ s₅ h₅=>wpAny_pure (wpAny_pure ⟨rfl,h₅⟩)) fun _ _ h'=>h')) fun _ _ h'=>h'))
def PTs (X:Cx) (ifs:List Expr) (t:TT):Prop:=
 ∀ (pins:List (Addr × Obj)) (s:Shared) (σ:St) (H:Hp) (Q:Bool→Hp→Prop),Inv X pins σ H s→t σ H Q →
  wpAny (model X.prog X.w) X.A (forIn ifs true fun c r=>if r=true then do let ok ← isTrue c X.env (eval c X.env);pure (ForInStep.yield ok) else pure (ForInStep.yield r)) (TP X pins σ Q) X.xe s
def HL:TT:=fun _ H Q=>Q true H
theorem Mi {X:Cx}:PTs X [] HL:=fun _ _ _ H _ I h=>wpAny_tests_nil ⟨H,I,h⟩
theorem YE {X:Cx} {c:Expr} {t:TT} (h:PT X c t):PTs X [c] t:=fun pins s σ H Q I q=>wpAny_tests_one (h pins s σ H Q I q)
def Sub (σ σ':St):Prop:=σ'.length=σ.length∧∀ (i:Nat) (v:V),σ[i]? = some (some v)→σ'[i]? = some (some v)
theorem Sub.refl (σ:St):Sub σ σ:=⟨rfl,fun _ _ h=>h⟩
theorem Sub.set {σ σ':St} {i:Nat} {x:Option V} (h:Sub σ σ') (e:σ[i]? = some none):Sub σ (σ'.set i x):=by
 refine ⟨by rw [List.length_set];exact h.1,fun j v q=>?_⟩
 have hj:i ≠ j:=fun z=>by subst z;rw [e] at q;cases q
 rw [List.getElem?_set_ne hj]
 exact h.2 j v q
def uI (J:It) (g:TG) (tc:TT) (te:TE) (σb:St) (Q:VK) (W:Nat→Nat→List V→Hp→Prop):Prop:=∀ i m ys H,W i m ys H →
 (J.stop i H∧∀ p,H p=none→Q (.ref p) (upd H p (.lst ys))) ∨
 (J.go i H∧ys.length < sizeLine∧∀ x H',J.yld i H x H'→g x σb H' fun σ2 H2=>Sub σb σ2∧tc σ2 H2 fun c H3=>if c=true then te σ2 H3 fun y H4=>∃ m',m' < m∧W (i + 1) m' (ys ++ [y]) H4 else ∃ m',m' < m∧W (i + 1) m' ys H3)
def HV (wi:TI) (g:TG) (tc:TT) (te:TE) (sel:List (Option Nat)):TE:=fun σ H Q=>wi σ H fun J H1=>∃ W:Nat→Nat→List V→Hp→Prop,(∃ m,W 0 m [] H1)∧uI J g tc te (blk sel σ) Q W
section
variable {X:Cx} {elt tg iter:Expr} {ifs:List Expr} {scope:Scope} {pos:Pos} {wi:TI} {g:TG} {tc:TT} {te:TE} {N:List Str} {sel:List (Option Nat)}
structure Blk (X:Cx) (scope:Scope) (N:List Str) (tg elt:Expr) (ifs:List Expr) (g:TG) (tc:TT) (te:TE):Prop where
 tgt:∀ C s H fp,PG (X.block scope C N s H fp) tg g
 tests:∀ C s H fp,PTs (X.block scope C N s H fp) ifs tc
 elem:∀ C s H fp,PE (X.block scope C N s H fp) elt te
theorem Blk.of {X:Cx} {scope:Scope} {N:List Str} {tg elt:Expr} {ifs:List Expr} {g:TG} {tc:TT} {te:TE} (h1:∀ C s H fp,PG (X.block scope C N s H fp) tg g)
  (h2:∀ C s H fp,∃ t,PTs (X.block scope C N s H fp) ifs t∧t=tc) (h3:∀ C s H fp,∃ t,PE (X.block scope C N s H fp) elt t∧t=te):Blk X scope N tg elt ifs g tc te:=
 ⟨h1,fun C s H fp=>by obtain ⟨t,h,rfl⟩:=h2 C s H fp;exact h,fun C s H fp=>by obtain ⟨t,h,rfl⟩:=h3 C s H fp;exact h⟩
theorem LH {pins:List (Addr × Obj)} {s₂:Shared} {σ:St} {H₂:Hp} {Q:VK} {it:Addr} {fp:List Addr} {tn:Nat→Heap→Prop} {J:It} {W:Nat→Nat→List V→Hp→Prop} {E:Value→Shared→Prop} {RR:Value→Addr→Result→Shared→Prop}
  (hc:X.calm=true) (S:Kx X.env scope) (hsel:zO X.N scope N sel) (B:Blk X scope N tg elt ifs g tc te) (I2:Inv X pins σ H₂ s₂) (T:LS X.prog X.w X.K tg J fp it tn) (st2:tn 0 s₂.heap) (f2:∀ b ∈ fp,rH X pins H₂ b)
  (w0:∃ m,W 0 m [] H₂) (hW:uI J g tc te (blk sel σ) Q W)
  (fin:∀ D C ys H' s',Inv X pins σ (upd H' D (.lst ys)) s'→(∃ m,s'.heap.Ns C m)→rH X pins (upd H' D (.lst ys)) C→Q (.ref D) (upd H' D (.lst ys))→RR (.ref D) C (.ok .next) s') :
  wpAny (model X.prog X.w) X.A (newList []) (fun acc s₃=>wpAny (model X.prog X.w) X.A (newFunctionEnv scope X.env.globals (KF X.env.cells scope.names []) [] X.env.qual none .none (some X.env)) (fun cenv s₄=>
   codeAny (model X.prog X.w) X.A (.compStart (.ListComp elt [⟨tg,iter,ifs,0⟩] scope pos) 0 (.ref it) acc { cenv with scope:=relabel scope X.env }) (RR acc cenv.locals) s₄) E s₃) E s₂:=by
 refine wpAny_newObj_type (wpAny_newFunctionEnv S.nocell (by intro y hy;simp at hy) (fun h₁ hns₁ hsb₁=>?_) S.kind)
 dsimp only at hns₁ hsb₁ ⊢
 generalize hH2:s₂.heap.push { cls:=.type "list",dict:=none,data:=.seq ([]:List Value).toArray }=H2 at hns₁ hsb₁ ⊢
 have hC:H2.objs.size=s₂.heap.objs.size + 1:=by rw [← hH2,Heap.size_push]
 have hDC:s₂.heap.objs.size ≠ H2.objs.size:=by rw [hC];exact Nat.ne_of_lt (Nat.lt_succ_self _)
 have hCle:s₂.heap.objs.size ≤ H2.objs.size:=by rw [hC];exact Nat.le_succ _
 have below:∀ b,b < s₂.heap.objs.size→b ≠ H2.objs.size∧b ≠ s₂.heap.objs.size:=fun b hb=>⟨by rw [hC];exact Nat.ne_of_lt (Nat.lt_succ_of_lt hb),Nat.ne_of_lt hb⟩
 have old:∀ b o,s₂.heap.get? b=some o→h₁.get? b=some o:=fun b o e=>hsb₁.extBut b o (below b (Heap.lt_size e)).1 (Heap.get?_push_of_some _ (hH2 ▸ Heap.get?_push_of_some _ e))
 have hacc:h₁.get? s₂.heap.objs.size=some { cls:=.type "list",data:=.seq ([]:List Value).toArray }:=hsb₁.extBut _ _ hDC (Heap.get?_push_of_some _ (hH2 ▸ Heap.get?_push_size _ rfl))
 have fps:∀ b ∈ fp,b < s₂.heap.objs.size:=fun b hb=>by
  obtain ⟨o,e,_⟩:=T.obj _ _ st2 b hb
  exact Heap.lt_size e
 generalize hCe:H2.objs.size=C at *
 generalize hDe:s₂.heap.objs.size=D at *
 have st1:tn 0 h₁:=T.keep _ _ _ st2 fun b _ o e=>old b o e
 have IB0:Inv (X.block scope C N s₂ H₂ fp) [] (blk sel σ) H₂ { s₂ with heap:=h₁,toks:=s₂.toks + ([]:List (Str × Value)).length }:=
  VP I2 S f2 (fun b hb=>by rw [hDe];exact fps b hb) (by rw [hDe];exact hCle) old hns₁ hsel
 have hDfs:D ∉ (X.block scope C N s₂ H₂ fp).fs:=fun z=>by
  have z':=I2.stkSub D z
  rcases List.mem_cons.mp z' with e | e
  ·exact absurd I2.lt (by rw [← e,hDe];exact Nat.lt_irrefl _)
  ·exact I2.nofs (by rw [hDe];exact Nat.le_refl _) e
 have loop:∀ s₃:Shared,s₃ = { s₂ with heap:=h₁,toks:=s₂.toks + ([]:List (Str × Value)).length } →
   codeAny (model X.prog X.w) X.A (.compLoop (.ListComp elt [⟨tg,iter,ifs,0⟩] scope pos) 0 (.ref it) (.ref D) (compEnvC scope (KF X.env.cells scope.names []) C X.env)) (RR (.ref D) C) s₃:=by
  rintro s₃ rfl
  obtain ⟨m0,w0⟩:=w0
  refine Hr (fun k s'=>∃ i ys us n H',Inv (X.block scope C N s₂ H₂ fp) [(D,{ cls:=.type "list",data:=.seq us n })] (blk sel σ) H' s'∧(∃ vs:List Value,us=vs.toArray∧Ae ys vs)∧ys.length ≤ sizeLine∧tn i s'.heap∧(∀ b ∈ fp,H' b=none)∧W i k ys H') ?_ m0
   ⟨0,[],_,0,H₂,IB0.pins_of fun p hp=>?_,⟨[],rfl,.nil⟩,Nat.zero_le _,st1,fun b hb=>(f2 b hb).1,w0⟩
  ·rintro k s' ⟨i,ys,us,n,H',IB,⟨vs,rfl,rv⟩,hyz,st,fr,w⟩
   have fpB:∀ {pl:List (Addr × Obj)} {H'':Hp},(∀ p ∈ pl,p.1=D)→(∀ b ∈ fp,H'' b=none)→∀ b ∈ fp,rH (X.block scope C N s₂ H₂ fp) pl H'' b:=fun {pl H''} hp hn b hb=>
    ⟨hn b hb,(below b (fps b hb)).1,(HK (N:=N) (C:=C) I2 S f2 (fun b hb=>by rw [hDe];exact fps b hb) (by rw [hDe];exact hCle)).exfs b hb,.inl hb,fun x c e=>(f2 b hb).2.2.2.2.1 x c (CD e),fun p hpp z=>by
     have hpp':p ∈ pl:=by simpa using hpp
     exact (below b (fps b hb)).2 (by rw [← z];exact hp p hpp')⟩
   have hD1:∀ p ∈ [((D,{ cls:=.type "list",data:=.seq vs.toArray n }):Addr × Obj)],p.1=D:=fun p hp=>by
    have e:p=(D,{ cls:=.type "list",data:=.seq vs.toArray n }):=by simpa using hp
    rw [e]
   rcases hW i k ys H' w with ⟨stop,qn⟩ | ⟨go,hlen,step⟩
   ·refine thn (T.done (X.block scope C N s₂ H₂ fp) rfl rfl rfl hc i _ s' _ H' _ IB (fpB hD1 fr) st stop) fun r s4 ⟨hr,I4⟩=>?_
    subst hr
    -- the block is left
    have pD:=I4.pin (D,{ cls:=.type "list",data:=.seq vs.toArray n }) (by simp)
    have hDn:H' D=none:=pD.2.1
    have IX:Inv X pins σ H' s4:=I2.call' (ch:=fp) I4.os I4.base I4.hok I4.bare fun b hb=>⟨(f2 b hb).2.2.2.1,(f2 b hb).2.1,(f2 b hb).2.2.2.2.1,(f2 b hb).2.2.2.2.2⟩
    have foD:rH X pins H' D:=I2.fpOk (by rw [hDe];exact Nat.le_refl _) hDn
    have IA:Inv X pins σ (upd H' D (.lst ys)) s4:=IX.adopt foD ⟨hyz,vs,n,rv,pD.1⟩
    obtain ⟨mC,hnC,_⟩:=I4.loc
    refine fin D C ys H' s4 IA ⟨mC,hnC⟩ (I2.fpOk (by rw [hDe];exact hCle) ?_) (qn D hDn)
    rw [rb (Ne.symm hDC)]
    exact I4.free
   ·refine thn (T.item (X.block scope C N s₂ H₂ fp) rfl rfl rfl hc i _ s' _ H' _ IB (fpB hD1 fr) st go) fun r s4 ⟨u,hr,h4⟩=>?_
    subst hr
    refine thn h4 fun _ s5 ⟨x,H5,I5,r5,y5,st5,fr5⟩=>?_
    have I5':=I5.pinned (fpB hD1 fr5) (T.obj _ _ st5)
    refine thn (B.tgt C s₂ H₂ fp _ s5 _ H5 x u _ I5' r5 (step x H5 y5)) fun _ s6 ⟨σ6,H6,I6,sb,q6⟩=>?_
    refine thn (B.tests C s₂ H₂ fp _ s6 σ6 H6 _ I6 q6) fun c s7 ⟨H7,I7,q7⟩=>?_
    have again:∀ {σ8:St} {H8:Hp} {s8:Shared},Inv (X.block scope C N s₂ H₂ fp) ([(D,{ cls:=.type "list",data:=.seq vs.toArray n })] ++ iH fp s5.heap) σ8 H8 s8→tn (i + 1) s8.heap∧(∀ b ∈ fp,H8 b=none):=fun {σ8 H8 s8} I8=>by
     refine ⟨T.keep _ _ _ st5 fun b hb o e=>(I8.pin (b,o) (List.mem_append_right _ (List.mem_append_right _ (gr hb e)))).1,fun b hb=>?_⟩
     obtain ⟨o,e,d⟩:=T.obj _ _ st5 b hb
     exact (I8.pin (b,o) (List.mem_append_right _ (List.mem_append_right _ (gr hb e)))).2.1
    have back:∀ {H8:Hp} {s8:Shared} {pl:List (Addr × Obj)},Inv (X.block scope C N s₂ H₂ fp) pl σ6 H8 s8→Inv (X.block scope C N s₂ H₂ fp) pl (blk sel σ) H8 s8:=fun {H8 s8 pl} I8=>I8.weak sb.1.symm sb.2
    cases c with
    | false=>
     obtain ⟨m',hm,w'⟩:=q7
     obtain ⟨t1,t2⟩:=again I7
     exact ⟨m',hm,i + 1,ys,_,n,H7,back I7.unpinned,⟨vs,rfl,rv⟩,hyz,t1,t2,w'⟩
    | true=>
     refine thn (B.elem C s₂ H₂ fp _ s7 σ6 H7 _ I7 q7) fun v s8 ⟨y,H8,I8,r8,m',hm,w'⟩=>?_
     obtain ⟨t1,t2⟩:=again I8
     have pD:=I8.pin (D,{ cls:=.type "list",data:=.seq vs.toArray n }) (by simp)
     refine append_at (hsz:=by have:=rv.length;rw [List.size_toArray];omega) pD.1 fun h9 hs9 hD9=>?_
     have IB':Inv (X.block scope C N s₂ H₂ fp) [] (blk sel σ) H8 s8:=(back I8).pins_of fun p hp=>nomatch hp
     have foD:rH (X.block scope C N s₂ H₂ fp) [] H8 D:=⟨pD.2.1,hDC,hDfs,.inr (by show s₂.heap.objs.size ≤ D;rw [hDe];exact Nat.le_refl _),(fun x c e z=>by
      obtain ⟨cv,o,ho,hd⟩:=I8.cell x c e
      rw [z,pD.1] at ho
      cases ho
      cases hd),(fun p hp=>nomatch hp)⟩
     have I9:Inv (X.block scope C N s₂ H₂ fp) [] (blk sel σ) H8 { s8 with heap:=h9 }:=IB'.turned (t':=s8.toks) (it:=D) (fun b o hb e=>(hs9.2 b hb).trans e) foD.1 foD.2.1 foD.2.2.2.1 foD.2.2.2.2.1 foD.2.2.2.2.2
     refine ⟨m',hm,i + 1,ys ++ [y],vs.toArray.push v,n + 1,H8,I9.pins_of fun p hp=>?_,⟨vs ++ [v],by simp,Paired.snoc rv r8⟩,by rw [List.length_append,List.length_singleton];omega,T.keep _ _ _ t1 fun b hb o e=>(hs9.2 b (below b (fps b hb)).2).trans e,t2,w'⟩
     have e:p=(D,{ cls:=.type "list",data:=.seq (vs.toArray.push v) (n + 1) }):=by simpa using hp
     subst e
     exact ⟨hD9,pD.2.1,hDC,hDfs,fun v z=>by cases z⟩
  ·have e:p=(D,{ cls:=.type "list",data:=.seq ([]:List Value).toArray }):=by simpa using hp
   subst e
   exact ⟨hacc,I2.hok.fresh (by rw [hDe];exact Nat.le_refl _),hDC,hDfs,fun v z=>by cases z⟩
 exact codeAny_compStart_list (loop _ rfl) (T.self _ 0 _ _ _ st1 (loop _ rfl))
theorem yn (hc:X.calm=true) (hi:PI X tg iter wi) (S:Kx X.env scope) (hsel:zO X.N scope N sel) (B:Blk X scope N tg elt ifs g tc te)
  (hs:∀ x,foldedSetIterable iter X.env x=pure x:=by intro _;rfl):PE X (.ListComp elt [⟨tg,iter,ifs,0⟩] scope pos) (HV wi g tc te sel):=by
 intro pins s σ H Q I h
 rw [eval_ListComp]
 refine wpAny_comprehension_free (use:=none) rfl hs (pP (S.cells I.ok)) S.kind S.loc ?_
 refine thn (hi pins s σ H _ I h) fun v s1 h1=>thn h1 fun itv s2 h2=>?_
 obtain ⟨it,fp,tn,J,H2,e,I2,T,st2,f2,W,w0,hW⟩:=h2
 subst e
 refine LH (RR:=fun acc C=>compPost (model X.prog X.w) X.A X.xe none (EP X pins σ Q) acc C) hc S hsel B I2 T st2 f2 w0 hW fun D C ys H' s' I' ⟨m,hm⟩ fo q=>?_
 exact ⟨m,hm,fun h' hsb=>⟨.ref D,_,I'.turned (t':=s'.toks) (it:=C) (fun b o hb e=>(hsb.2 b hb).trans e) fo.1 fo.2.1 fo.2.2.2.1 fo.2.2.2.2.1 fo.2.2.2.2.2,rfl,q⟩⟩
theorem Qh {i:Nat} {y:Str} {py spos:Pos} (hN:X.N.Nodup) (hi:X.N[i]? = some y) (hx:Loc X.env.scope y) (hc:X.calm=true) (hit:PI X tg iter wi) (S:Kx X.env scope) (hsel:zO X.N scope N sel) (B:Blk X scope N tg elt ifs g tc te)
  (hsw:swapsWith (.ListComp elt [⟨tg,iter,ifs,0⟩] scope pos) (some (.Name y py)) spos.line X.env=pure true) (hf:X.fn y=true∨X.env.scope.names.lookup y=some .local:=by first | exact .inl rfl | exact .inr rfl | assumption)
  (hs:∀ x,foldedSetIterable iter X.env x=pure x:=by intro _;rfl):PS X (.Assign [.Name y py] (.ListComp elt [⟨tg,iter,ifs,0⟩] scope pos) spos) (fZ (HV wi g tc te sel) (NF i)):=by
 intro pins s σ H D I h
 rw [exec_Assign_Name_used _ _ _ _ hsw]
 refine wpAny_bind (wpAny_standAt (wpAny_bind ?_))
 show wpAny _ X.A (do let _ ← comprehension (.ListComp elt [⟨tg,iter,ifs,0⟩] scope pos) scope X.env _ (newList []) false (eval iter X.env) (some (assign (.Name y py) X.env))) _ _ s
 refine wpAny_bind (wpAny_mono (wpAny_comprehension_free (use:=some (assign (.Name y py) X.env)) (Q:=fun _ s'=>SP X pins D .next s') rfl hs (pP (S.cells I.ok)) S.kind S.loc ?_) (fun _ s' hq=>wpAny_pure (wpAny_pure hq)) fun _ _ e=>e)
 refine thn (hit pins s σ H _ I h) fun v s1 h1=>thn h1 fun itv s2 h2=>?_
 obtain ⟨it,fp,tn,J,H2,e,I2,T,st2,f2,W,w0,hW⟩:=h2
 subst e
 refine LH (RR:=fun acc C=>compPost (model X.prog X.w) X.A X.xe (some (assign (.Name y py) X.env)) (fun _ s'=>SP X pins D .next s') acc C) hc S hsel B I2 T st2 f2 w0 hW fun Da C ys H' s' I' ⟨m,hm⟩ fo q=>?_
 show wpAny _ X.A (assign (.Name y py) X.env (.ref Da)) _ _ _
 refine wpAny_assign_Name (jG I' hN hi hx (show cf (.ref Da) (.ref Da) from rfl) (fun s3 I3 ⟨a,hsb,ha⟩=>?_) hf)
 have hCa:C ≠ a:=by
  rcases ha with z | z
  ·rw [z];exact fo.2.1
  ·exact fun w=>fo.2.2.2.2.1 y a z w.symm
 refine ⟨m,hm.sameBut hsb hCa,fun h' hsb'=>⟨_,_,I3.turned (t':=s3.toks) (it:=C) (fun b o hb e=>(hsb'.2 b hb).trans e) fo.1 fo.2.1 fo.2.2.2.1 fo.2.2.2.2.1 fo.2.2.2.2.2,q⟩⟩
end
def Gk (Pv:Nat→List V→Hp→Prop) (g:TG) (tc:TT) (te:TE) (σb:St) (i:Nat) (x:V) (ys:List V) (H:Hp):Prop:=
 ∀ N:List V→Hp→Prop,(∀ ys' H',Pv (i + 1) ys' H'→N ys' H')→g x σb H fun σ2 H2=>Sub σb σ2∧tc σ2 H2 fun c H3=>if c=true then te σ2 H3 fun y H4=>N (ys ++ [y]) H4 else N ys H3
theorem aO {K:PySem.W.Frag} {a:Addr} {xs:List V} {g:TG} {tc:TT} {te:TE} {σb:St} {Q:VK} {H:Hp} (Pv:Nat→List V→Hp→Prop) (hz:xs.length ≤ sizeLine) (h0:Pv 0 [] H) (hl:∀ i ys H,i ≤ xs.length→Pv i ys H→SqL K H a xs∧ys.length ≤ i)
  (hs:∀ i x ys H,xs[i]? = some x→Pv i ys H→Gk Pv g tc te σb i x ys H) (hd:∀ ys H,Pv xs.length ys H→∀ p,H p=none→Q (.ref p) (upd H p (.lst ys))) :
  ∃ W:Nat→Nat→List V→Hp→Prop,(∃ m,W 0 m [] H)∧uI (Itl K a) g tc te σb Q W:=by
 refine ⟨fun i m ys H=>m=xs.length - i∧i ≤ xs.length∧Pv i ys H,⟨xs.length,by simp,Nat.zero_le _,h0⟩,?_⟩
 rintro i m ys H ⟨rfl,hi,p⟩
 have q:=(hl i ys H hi p).1
 have hyl:=(hl i ys H hi p).2
 by_cases hlt:i < xs.length
 ·refine .inr ⟨⟨xs,xs[i],q,by simp [hlt]⟩,by omega,fun x H' y=>?_⟩
  obtain ⟨e,y⟩:=y
  subst e
  exact hs i x ys _ (y xs q) p (fun ys' H'=>∃ m',m' < xs.length - i∧m'=xs.length - (i + 1)∧i + 1 ≤ xs.length∧Pv (i + 1) ys' H') fun ys' H' r=>⟨xs.length - (i + 1),by omega,rfl,hlt,r⟩
 ·have e:i=xs.length:=by omega
  subst e
  exact .inl ⟨⟨xs,q,Nat.le_refl _⟩,hd ys H p⟩
theorem xM {lo:Int} {n:Nat} {g:TG} {tc:TT} {te:TE} {σb:St} {Q:VK} {H:Hp} (Pv:Nat→List V→Hp→Prop) (hz:n ≤ sizeLine) (h0:Pv 0 [] H) (hl:∀ i ys H,i ≤ n→Pv i ys H→ys.length ≤ i)
  (hs:∀ i ys H,i < n→Pv i ys H→Gk Pv g tc te σb i (.int (lo + i)) ys H) (hd:∀ ys H,Pv n ys H→∀ p,H p=none→Q (.ref p) (upd H p (.lst ys))) :
  ∃ W:Nat→Nat→List V→Hp→Prop,(∃ m,W 0 m [] H)∧uI (Itr lo n) g tc te σb Q W:=by
 refine ⟨fun i m ys H=>m=n - i∧i ≤ n∧Pv i ys H,⟨n,by simp,Nat.zero_le _,h0⟩,?_⟩
 rintro i m ys H ⟨rfl,hi,p⟩
 have hyl:=hl i ys H hi p
 by_cases hlt:i < n
 ·refine .inr ⟨hlt,by omega,fun x H' y=>?_⟩
  obtain ⟨e,y⟩:=y
  subst e y
  exact hs i ys _ hlt p (fun ys' H'=>∃ m',m' < n - i∧m'=n - (i + 1)∧i + 1 ≤ n∧Pv (i + 1) ys' H') fun ys' H' r=>⟨n - (i + 1),by omega,rfl,hlt,r⟩
 ·have e:i=n:=by omega
  subst e
  exact .inl ⟨Nat.le_refl _,hd ys H p⟩
end L2
namespace L2
open PySem PySem.Spec PyProof.Rows
def Its (xs:List V):It:=⟨fun i _=>i < xs.length,fun i H x H'=>H'=H∧xs[i]? = some x,fun i _=>xs.length ≤ i⟩
theorem AD {P:Program} {w:World} {K:PySem.W.Frag} {tg:Expr} {it:Addr} {xs:List V} {PV:Nat→Value→Prop} {St:Nat→Heap→Prop} (hW:∀ A:Around,A.handled=none→Walks P w A it [it] [it] xs.length PV St)
  (hP:∀ i v,PV i v→∃ x,xs[i]? = some x∧cf x v)
  (hgo:∀ i h,St i h→∃ o n vs,h.get? it=some o∧o.cls=.type n∧o.data=.fields vs∧["enumerate","zip","dict_itemiterator","dict_reverseitemiterator","odict_iterator","itertools.zip_longest","itertools.pairwise"].contains n=false)
  (hfr:∀ i h h',St i h→(∀ o,h.get? it=some o→h'.get? it=some o)→St i h')
  (hself:∀ (A:Around) (i:Nat) (s:Shared) (Q:Value→Shared→Prop) (E:Value→Shared→Prop),St i s.heap→Q (.ref it) s→wpAny (model P w) A (pyIter (.ref it)) Q E s) :
  LS P w K tg (Its xs) [it] it (fun i h=>i ≤ xs.length∧St i h) where
 mem:=by simp
 obj:=fun i h st b hb=>by
  have e:b=it:=by simpa using hb
  subst e
  obtain ⟨o,n,vs,e,_,d,_⟩:=hgo i h st.2
  exact ⟨o,e,fun v z=>by rw [d] at z;cases z⟩
 keep:=fun i h h' st k=>⟨st.1,hfr i h h' st.2 fun o e=>k it (by simp) o e⟩
 item:=by
  intro X hP' hw hK hc i pins s σ H E I hf st hg
  subst hP' hw hK
  obtain ⟨f0,f1,f2,f3,f4,f5⟩:=hf it (by simp)
  refine (hW X.A (I.ok.hd hc)).item i s _ _ hg st.2 fun v h' tk hv st' kk=>?_
  obtain ⟨x,hx,rx⟩:=hP i v hv
  have I1:Inv X pins σ H { s with heap:=h',toks:=tk }:=I.turned (fun b o hb e=>kk b o (by simpa using hb) e) f0 f1 f3 f4 f5
  obtain ⟨o,n,vs,e,c,d,nm⟩:=hgo _ _ st'
  exact ⟨v,rfl,wO (s:={ s with heap:=h',toks:=tk }) e c d nm ⟨x,H,I1,rx,⟨rfl,hx⟩,⟨hg,st'⟩,fun b hb=>(hf b hb).1⟩⟩
 done:=by
  intro X hP' hw hK hc i pins s σ H E I hf st hg
  subst hP' hw hK
  obtain ⟨f0,f1,f2,f3,f4,f5⟩:=hf it (by simp)
  have e:i=xs.length:=Nat.le_antisymm st.1 hg
  subst e
  exact (hW X.A (I.ok.hd hc)).done s _ _ st.2 fun h' tk kk=>⟨rfl,I.turned (fun b o hb e=>kk b o (by simpa using hb) e) f0 f1 f3 f4 f5⟩
 self:=fun A i s Q E st h=>hself A i s Q E st.2 h
def jX (c:Nat):Str:=⟨#[c]⟩
def uo (x:Str):List V:=x.cps.toList.map fun c=>V.str (jX c)
theorem Gu (x:Str):(uo x).length=x.cps.size:=by unfold uo;simp
theorem KO {x:Str} {i c:Nat} (h:x.cps[i]? = some c):(uo x)[i]? = some (.str (jX c)):=by
 unfold uo
 rw [List.getElem?_map,Array.getElem?_toList,h]
 rfl
theorem vD {x:Str} {i:Nat} {v:Value} (h:SignAt x i v):∃ y,(uo x)[i]? = some y∧cf y v:=by
 obtain ⟨c,u,hc,rfl⟩:=h
 exact ⟨.str (jX c),KO hc,u,rfl⟩
section
variable {X:Cx} {tg:Expr}
def u0 (tl:TE):TI:=fun σ H R=>tl σ H fun x H1=>∃ z,x=.str z∧R (Its (uo z)) H1
theorem VX {l:Expr} {tl:TE} (hl:PE X l tl):PI X tg l (u0 tl):=by
 intro pins s σ H R I h
 refine thn (hl pins s σ H _ I h) fun v s1 ⟨x,H1,I1,r1,q1⟩=>?_
 obtain ⟨z,e,q⟩:=q1
 subst e
 obtain ⟨t,rfl⟩:=r1
 have fo:∀ b ∈ [s1.heap.objs.size],rH X pins H1 b:=fun b hb=>by
  have e:b=s1.heap.objs.size:=by simpa using hb
  subst e
  exact I1.fpOk (Nat.le_refl _) (I1.hok.fresh (Nat.le_refl _))
 have hz:=Gu z
 cases ha:z.cps.all (· < 128) with
 | false=>
  refine wpAny_pyIter_wide ha ⟨s1.heap.objs.size,[s1.heap.objs.size],fun i h=>i ≤ (uo z).length∧h.IsStrIter s1.heap.objs.size "str_iterator" z t i,_,H1,rfl,I1.kept (t':=s1.toks) fun b o e=>Heap.get?_push_of_some _ e,
   AD (fun A hA=>by rw [hz];exact Walks.strWide hA _ z t) (fun i v=>vD) (fun i h ⟨o,e,c,d⟩=>⟨o,_,_,e,c,d,by decide⟩) (fun i h h' ⟨o,e,r⟩ k=>⟨o,k o e,r⟩) (fun A i s Q E st q=>wpAny_pyIter_striter_wide st q),
   ⟨Nat.zero_le _,_,Heap.get?_push_size _ rfl,rfl,rfl⟩,fo,q⟩
 | true=>
  refine wpAny_pyIter_ascii ha ⟨s1.heap.objs.size,[s1.heap.objs.size],fun i h=>i ≤ (uo z).length∧h.IsStrIter s1.heap.objs.size "str_ascii_iterator" z t i,_,H1,rfl,I1.kept (t':=s1.toks) fun b o e=>Heap.get?_push_of_some _ e,
   AD (fun A hA=>by rw [hz];exact Walks.strAscii hA _ z t) (fun i v=>vD) (fun i h ⟨o,e,c,d⟩=>⟨o,_,_,e,c,d,by decide⟩) (fun i h h' ⟨o,e,r⟩ k=>⟨o,k o e,r⟩) (fun A i s Q E st q=>wpAny_pyIter_striter_ascii st q),
   ⟨Nat.zero_le _,_,Heap.get?_push_size _ rfl,rfl,rfl⟩,fo,q⟩
end
theorem ZU {xs:List V} {g:TG} {tb:TS} {D:Ui} {σ:St} {H:Hp} (Pv:Nat→St→Hp→Prop) (h0:Pv 0 σ H)
  (hs:∀ i x σ H,xs[i]? = some x→Pv i σ H→g x σ H fun σ2 H2=>tb { D with nx:=Pv (i + 1),ct:=Pv (i + 1),bk:=D.nx } σ2 H2) (hd:∀ σ H,Pv xs.length σ H→D.nx σ H) :
  ∃ W:Nat→Nat→St→Hp→Prop,(∃ m,W 0 m σ H)∧∀ i m σ H,W i m σ H →
   ((Its xs).stop i H∧D.nx σ H)∨((Its xs).go i H∧∃ N:St→Hp→Prop,(∀ σ' H',N σ' H'→∃ m',m' < m∧W (i + 1) m' σ' H')∧∀ x H',(Its xs).yld i H x H'→g x σ H' fun σ2 H2=>tb { D with nx:=N,ct:=N,bk:=D.nx } σ2 H2):=by
 refine ⟨fun i m σ H=>m=xs.length - i∧i ≤ xs.length∧Pv i σ H,⟨xs.length,by simp,Nat.zero_le _,h0⟩,?_⟩
 rintro i m σ H ⟨rfl,hi,p⟩
 by_cases hlt:i < xs.length
 ·refine .inr ⟨hlt,Pv (i + 1),fun σ' H' p'=>⟨xs.length - (i + 1),by omega,rfl,hlt,p'⟩,fun x H' y=>?_⟩
  obtain ⟨e,y⟩:=y
  subst e
  exact hs i x σ _ y p
 ·have e:i=xs.length:=by omega
  subst e
  exact .inl ⟨Nat.le_refl _,hd σ H p⟩
theorem WR {xs:List V} {g:TG} {tc:TT} {te:TE} {σb:St} {Q:VK} {H:Hp} (Pv:Nat→List V→Hp→Prop) (hz:xs.length ≤ sizeLine) (h0:Pv 0 [] H) (hl:∀ i ys H,i ≤ xs.length→Pv i ys H→ys.length ≤ i)
  (hs:∀ i x ys H,xs[i]? = some x→Pv i ys H→Gk Pv g tc te σb i x ys H) (hd:∀ ys H,Pv xs.length ys H→∀ p,H p=none→Q (.ref p) (upd H p (.lst ys))) :
  ∃ W:Nat→Nat→List V→Hp→Prop,(∃ m,W 0 m [] H)∧uI (Its xs) g tc te σb Q W:=by
 refine ⟨fun i m ys H=>m=xs.length - i∧i ≤ xs.length∧Pv i ys H,⟨xs.length,by simp,Nat.zero_le _,h0⟩,?_⟩
 rintro i m ys H ⟨rfl,hi,p⟩
 have hyl:=hl i ys H hi p
 by_cases hlt:i < xs.length
 ·refine .inr ⟨hlt,by omega,fun x H' y=>?_⟩
  obtain ⟨e,y⟩:=y
  subst e
  exact hs i x ys _ y p (fun ys' H'=>∃ m',m' < xs.length - i∧m'=xs.length - (i + 1)∧i + 1 ≤ xs.length∧Pv (i + 1) ys' H') fun ys' H' r=>⟨xs.length - (i + 1),by omega,rfl,hlt,r⟩
 ·have e:i=xs.length:=by omega
  subst e
  exact .inl ⟨Nat.le_refl _,hd ys H p⟩
section
variable {X:Cx}
def V1:V→Option Int→Option Int→Hp→VK→Prop:=fun x lo hi H Q=>∃ z,x=.str z∧z.length ≤ sizeLine∧Q (.str (Txt.slice z lo hi)) H
def Cb (ys:List Str):List V:=ys.map V.str
theorem aM:∀ {ys:List Str} {us:List Value},Ae (Cb ys) us→StrsAre us ys:=by
 intro ys
 induction ys with
 | nil=>intro us r;cases r;exact .nil
 | cons y ys ih=>
  intro us r
  cases r with
  | cons r1 r2=>
   obtain ⟨t,rfl⟩:=r1
   exact .cons y t (ih r2)
theorem QG:∀ (l:List (Str × Tok)),Ae (Cb (l.map (·.1))) (strValues l)
 | []=>.nil
 | (x,t) :: r=>.cons ⟨t,rfl⟩ (QG r)
def lY (K:PySem.W.Frag):V→List V→Hp→VK→Prop:=fun x vs H Q=>∃ sep p ys,x=.str sep∧vs=[.ref p]∧SqL K H p (Cb ys)∧(ys.map (·.length)).sum + ys.length * sep.length ≤ 16777216∧Q (.str (Txt.join sep ys)) H
theorem NN:MtR X "str.join" (lY X.K):=by
 intro pins s σ H x xs v us Q I rx rv h
 obtain ⟨sep,p,ys,rfl,rfl,hq,hz,q⟩:=h
 obtain ⟨t,rfl⟩:=rx
 obtain ⟨u,rfl,ru⟩:=MG rv
 cases ru
 obtain ⟨its,r,pl,_⟩:=I.list hq
 exact join_list pl.isList (by simpa using aM r) hz fun t' k=>⟨.str _,H,I.tok _,⟨_,rfl⟩,q⟩
end
theorem vM {prog:Program} {w:World} {A:Around} {E:Value→Shared→Prop} {s:Shared} {x y:Str} {t u:Tok} {Q:Value→Shared→Prop} (hy:(y.length == 0)=false)
  (h:∀ l k,l.map (·.1)=Txt.split x y→Q (.ref s.heap.objs.size) { s with heap:=s.heap.push { cls:=.type "list",data:=.seq (strValues l).toArray },toks:=k }) (hsz:x.length + 2 ≤ sizeLine) :
  wpAny (model prog w) A (call (.builtin "str.split") [.str x t,.str y u]) Q E s:=by
 have hn:(Builtin.Str.partsBetween x (Builtin.Str.occurrences x y 0 x.length (x.length + 1)) y.length).length ≤ sizeLine:=by
  have e1:=StrLaws.occ_length_le x y 0 x.length (x.length + 1)
  rw [length_partsBetween];omega
 cases h1:(decide (x.length < y.length) || decide (Builtin.Str.strKind x < Builtin.Str.strKind y))
 ·cases hf:(Builtin.Str.occurrences x y 0 x.length (x.length + 1)).isEmpty
  ·refine call_meets F.slot_str_split (typeIs_str _ _ _) F.entry_str_split (F.args_str_split_2 _ _) (meets_str_split_sep x y t u h1 hy hf (by omega) hn) ?_
   show wants Q E _ { s with toks:=_,heap:=s.heap.push { cls:=.type "list",data:=.seq (strsFrom s.toks (Builtin.Str.partsBetween x (Builtin.Str.occurrences x y 0 x.length (x.length + 1)) y.length)).toArray } }
   rw [strsFrom_eq]
   exact h (numbered s.toks _) _ ((numbered_texts _ _).trans ((if_neg (ne_true_of_eq_false h1)).trans (if_neg (ne_true_of_eq_false hf))).symm)
  ·exact call_meets F.slot_str_split (typeIs_str _ _ _) F.entry_str_split (F.args_str_split_2 _ _) (meets_str_split_not_found x y t u h1 hy hf)
    (h [(x,t)] s.toks ((if_neg (ne_true_of_eq_false h1)).trans (if_pos hf)).symm)
 ·exact call_meets F.slot_str_split (typeIs_str _ _ _) F.entry_str_split (F.args_str_split_2 _ _) (meets_str_split_cannot_occur x y t u h1)
   (h [(x,t)] s.toks (if_pos h1).symm)
section
variable {X:Cx}
def IT:V→List V→Hp→VK→Prop:=fun x vs H Q=>∃ z y,x=.str z∧vs=[.str y]∧y.length ≠ 0∧z.length + 2 ≤ sizeLine∧(Txt.split z y).length ≤ sizeLine∧∀ p,H p=none→Q (.ref p) (upd H p (.lst (Cb (Txt.split z y))))
theorem uK:MtR X "str.split" IT:=by
 intro pins s σ H x xs v us Q I rx rv h
 obtain ⟨z,y,rfl,rfl,hy,hz,hn,q⟩:=h
 obtain ⟨t,rfl⟩:=rx
 obtain ⟨u,rfl,ru⟩:=MG rv
 obtain ⟨tu,rfl⟩:=ru
 refine vM (by simpa using hy) (fun l k hl=>?_) hz
 refine ⟨.ref s.heap.objs.size,_,I.laid (t':=k) (o:=.lst (Cb (Txt.split z y))) (fun b o e=>Heap.get?_push_of_some _ e) (Nat.le_refl _) ⟨by unfold Cb;rw [List.length_map];exact hn,strValues l,0,by rw [← hl];exact QG l,Heap.get?_push_size _ rfl⟩,rfl,q _ (I.hok.fresh (Nat.le_refl _))⟩
def dW:V→List V→Hp→VK→Prop:=fun x vs H Q=>∃ z y i rest,x=.str z∧vs=[.str y]∧Builtin.Str.occurrences z y 0 z.length 1=i :: rest∧Q (.int (i:Nat)) H
theorem sA:Qs X (.type "int") (fun xs H Q=>∃ z n,xs=[.str z]∧intText? z=some n∧z.length ≤ 640∧Q (.int n) H):=by
 intro pins s σ H xs us Q I r h
 obtain ⟨z,n,rfl,hn,hz,q⟩:=h
 obtain ⟨u,rfl,t,rfl⟩:=MG r
 exact PySem.W.KIN.call_text hn hz ⟨.int n,H,I.tok _,⟨_,rfl⟩,q⟩
theorem VH:∀ {bs:List Bool} {us:List Value},Ae (bs.map V.bl) us→us=bs.map Value.bool
 | [],_,.nil=>rfl
 | b :: bs,_,.cons r t=>by
  have e:_=Value.bool b:=r
  rw [e,VH t];rfl
theorem vJ {A:Around} (bs:List Bool):TruthOf X.prog X.w A (fun i v=>(bs.map Value.bool).toArray[i]? = some v) (fun i=>bs.getD i true):=by
 intro i v s Q E hP hQ
 have e:(bs.map Value.bool)[i]? = some v:=by simpa using hP
 rw [List.getElem?_map] at e
 cases q:bs[i]? with
 | none=>rw [q] at e;cases e
 | some b=>
  rw [q] at e
  have e':Value.bool b=v:=Option.some.inj e
  subst e'
  refine wpAny_truthy_bool ?_
  have:bs.getD i true=b:=by simp [List.getD,q]
  have hQ':Q (bs.getD i true) s:=hQ
  rw [this] at hQ'
  exact hQ'
theorem gP (bs:List Bool):(List.range bs.length).all (fun i=>bs.getD i true)=bs.all id:=by
 rw [Bool.eq_iff_iff]
 simp only [List.all_eq_true,List.mem_range,id]
 constructor
 ·intro h b hb
  obtain ⟨i,hi,e⟩:=List.mem_iff_getElem.mp hb
  have:=h i hi
  simp [List.getD,hi,e] at this
  exact this
 ·intro h i hi
  simp [List.getD,hi]
  exact h _ (List.getElem_mem hi)
theorem cR (hc:X.calm=true):Qs X (.builtin "all") (fun xs H Q=>∃ (p:Addr) (bs:List Bool),xs=[.ref p]∧SqL X.K H p (bs.map V.bl)∧Q (.bl (bs.all id)) H):=by
 intro pins s σ H xs us Q I r h
 obtain ⟨p,bs,rfl,hq,q⟩:=h
 obtain ⟨u,rfl,ru⟩:=MG r
 cases ru
 obtain ⟨its,rv,pl,_⟩:=I.list hq
 have e:=VH rv
 subst e
 refine call_all_walk (wpAny_pyIter_list pl.isList ?_)
 have hne:p ≠ s.heap.objs.size:=Nat.ne_of_lt (by obtain ⟨o,_,ho,_⟩:=pl;exact Heap.lt_size ho)
 refine ⟨s.heap.objs.size,_,_,_,_,_,fun i=>bs.getD i true,rfl,Walks.list (show X.A.in1.handled=none from I.ok.hd hc) _ p hne (bs.map Value.bool).toArray,⟨⟨_,Heap.get?_push_size _ rfl,rfl,rfl⟩,pl.isList.at fun o e=>Heap.get?_push_of_some _ e⟩,vJ bs,fun h' tk kk=>?_⟩
 refine ⟨.bl (bs.all id),H,I.kept fun b o e=>kk b o (by simpa using Nat.ne_of_lt (Heap.lt_size e)) (Heap.get?_push_of_some _ e),?_,q⟩
 show Value.bool _=Value.bool _
 rw [show (bs.map Value.bool).toArray.size=bs.length by simp,gP]
theorem YK:Qs X (.builtin "isinstance") (fun xs H Q=>∃ x T t b,xs=[x,.ty T]∧jK X.K H x t∧PySem.W.kitOne X.K t (.type T)=some b∧Q (.bl b) H):=by
 intro pins s σ H xs us Q I r h
 obtain ⟨x,T,t,b,rfl,ty,e,q⟩:=h
 obtain ⟨u,u2,rfl,rx,r2⟩:=xR r
 cases r2
 exact eQ I rx ty e fun tk=>⟨.bl b,H,I.tok _,rfl,q⟩
end
end L2
namespace L2
open PySem PySem.Spec PyProof.Rows
theorem vj {X:Cx} {N:List Str} (h:N.Nodup) (e:X.N=N):X.N.Nodup:=e ▸ h
def fP (sc scope:Scope):Bool:=
 (scope.kind == .function) && scope.names.all (fun y=>y.2 != .cell) && scope.names.all (fun y=>y.2 != .free || sc.names.lookup y.1 == some .cell || sc.names.lookup y.1 == some .free) &&
  scope.names.all (fun y=>y.2 != .local || scope.names.lookup y.1 == some .local)
theorem ue {env:Env} {sc scope:Scope} (he:env.scope=sc) (h:fP sc scope=true):Kx env scope:=by
 subst he
 unfold fP at h
 simp only [Bool.and_eq_true,List.all_eq_true] at h
 obtain ⟨⟨⟨h1,h2⟩,h3⟩,h4⟩:=h
 refine ⟨by simpa using h1,fun y hy e=>?_,fun y hy e=>?_,fun y hy e=>?_⟩
 ·have:=h2 y hy
  rw [e] at this
  exact absurd this (by decide)
 ·have:=h3 y hy
  rw [e] at this
  simp only [Bool.or_eq_true] at this
  rcases this with (z | z) | z
  ·exact absurd z (by decide)
  ·exact .inl (show env.scope.names.lookup y.1=some .cell by simpa using z)
  ·exact .inr (show env.scope.names.lookup y.1=some .free by simpa using z)
 ·have:=h4 y hy
  rw [e] at this
  simp only [Bool.or_eq_true] at this
  rcases this with z | z
  ·exact absurd z (by decide)
  ·simpa using z
def t0 (M:List Str) (scope:Scope) (N:List Str) (sel:List (Option Nat)):Bool:=
 sel.length == N.length && (sel.zip N).all fun p=>match p.1 with | none=>true | some j=>M[j]? == some p.2 && scope.names.lookup p.2 == some .free
theorem qf {M:List Str} {scope:Scope} {N:List Str} {sel:List (Option Nat)} (h:t0 M scope N sel=true):zO M scope N sel:=by
 unfold t0 at h
 simp only [Bool.and_eq_true,List.all_eq_true] at h
 refine ⟨by simpa using h.1,fun i j x e1 e2=>?_⟩
 have hm:(some j,x) ∈ sel.zip N:=by
  rw [List.mem_iff_getElem?]
  exact ⟨i,by rw [List.getElem?_zip_eq_some];exact ⟨e1,e2⟩⟩
 have:=h.2 _ hm
 simp only [Bool.and_eq_true] at this
 exact ⟨by simpa using this.1,by simpa using this.2⟩
def noT:HO→Bool
 | .dT _=>false
 | .frz _ u=>noT u
 | _=>true
def NoT (H:Hp):Prop:=∀ b o,H b=some o→noT o=true
theorem Ve.back {P:Program} {w:World} {H H':Hp} {h h':Heap} {a:Addr}:∀ (o:HO),noT o=true→Ve P w H' h' a o→Ve P w H h a o→Ve P w H h' a o
 | .lst _,_,x,_=>x
 | .tup _,_,x,_=>x
 | .dK _,_,x,_=>x
 | .dT _,e,_,_=>absurd e (by unfold noT;decide)
 | .set _ _,_,x,_=>x
 | .ins _ _ _,_,x,y=>⟨y.1,x.2⟩
 | .own _,_,x,_=>x
 | .xd _,_,x,_=>x
 | .met _ _,_,x,_=>x
 | .rng _ _,_,x,_=>x
 | .frz ob u,e,x,y=>⟨x.1,Ve.back u (by unfold noT at e;exact e) x.2 y.2⟩
 | .tbl _,_,x,_=>x
 | .ext _,_,x,_=>x
section
variable {P:Program} {w:World} {K:PySem.W.Frag} {mg:Str→Option Value} {base:Heap}
theorem Nb.forget {k:Nat} {f:Addr} {fd:FuncData} {ps:List Str} {sp sp':Sp} (F:Nb P w K mg base CX0 k f fd ps sp)
  (h:∀ vs H Q E,sp' vs H Q E→NoT H∧sp vs H (fun v H'=>Ac H H'∧Q v H) E):Nb P w K mg base CX0 k f fd ps sp':=by
 refine ⟨fun vs H Q E q=>F.len vs H _ E (h vs H Q E q).2,fun A outer s H args us vs Q E hr he hb hv hs=>?_⟩
 obtain ⟨nt,q⟩:=h vs H Q E hs
 refine codeAny_mono (F.run A outer s H args us vs _ E hr he hb hv q) fun r s' hq=>?_
 cases r with
 | error e=>exact hq
 | ok fl=>
  cases fl with
  | next=>exact hq
  | brk=>exact hq
  | cont=>exact hq
  | ret u=>
   obtain ⟨v,H',os,bare,un,hok,rv,sm,q'⟩:=hq
   exact ⟨v,H,os,bare,⟨un.keep,un.slot,fun _ _ _ n _=>n,un.there,fun _ _ z=>z,fun _ _ _ z=>z,fun _ ps z=>⟨#[],by rw [z];simp⟩⟩,fun a o e=>(hok a o (sm a o e)).back o (nt a o e) (he.hok a o e),rv,q'⟩
end
theorem pb {H:Hp} {p:Addr} {o:HO} (h:H p=none):Ac H (upd H p o):=fun b u q=>by rw [rb (zb q h)];exact q
theorem Ac.updN {H H1:Hp} {p:Addr} {o:HO} (s:Ac H H1) (h:H p=none):Ac H (upd H1 p o):=fun b u q=>by rw [rb (zb q h)];exact s b u q
structure Sc (K:PySem.W.Frag) (a:Addr) (ns:List Int) (H:Hp):Prop where
 sq:(∃ o,H a=some (.frz o (.lst (ns.map V.int))))∨∃ (o:Obj) (its:Array Value) (n:Nat),K.lookup a=some o∧o.cls=.type "list" ∧ o.dict=none∧o.data=.seq its n∧its.size ≤ sizeLine∧Ae (ns.map V.int) its.toList
 nt:NoT H
section
variable {K:PySem.W.Frag} {a p:Addr} {ns:List Int} {H H':Hp} {o:HO}
theorem Sc.seq (s:Sc K a ns H):SqL K H a (ns.map V.int):=by
 rcases s.sq with ⟨o,h⟩ | h
 ·exact .inl (.inr ⟨o,h⟩)
 ·exact .inr h
theorem Sc.new (s:Sc K a ns H) (hp:H p=none) (ho:noT o=true:=by rfl):Sc K a ns (upd H p o):=by
 refine ⟨?_,fun b u e=>?_⟩
 ·rcases s.sq with ⟨ob,h⟩ | h
  ·exact .inl ⟨ob,by rw [rb (zb h hp)];exact h⟩
  ·exact .inr h
 ·by_cases hb:b=p
  ·subst hb;rw [fb] at e;cases e;exact ho
  ·rw [rb hb] at e;exact s.nt b u e
theorem Sc.set {u:HO} (s:Sc K a ns H) (hp:H p=some u) (hu:∀ ob z,u ≠ .frz ob z) (ho:noT o=true:=by rfl):Sc K a ns (upd H p o):=by
 refine ⟨?_,fun b x e=>?_⟩
 ·rcases s.sq with ⟨ob,h⟩ | h
  ·refine .inl ⟨ob,?_⟩
   have hne:a ≠ p:=fun z=>by subst z;rw [hp] at h;exact hu _ _ (Option.some.inj h)
   rw [rb hne];exact h
  ·exact .inr h
 ·by_cases hb:b=p
  ·subst hb;rw [fb] at e;cases e;exact ho
  ·rw [rb hb] at e;exact s.nt b x e
theorem Sc.of_only (hO:jY H) (hS:SqL K H a (ns.map V.int)):Sc K a ns H:=by
 refine ⟨?_,fun b u e=>?_⟩
 ·rcases hS with (h | ⟨o,h⟩) | h
  ·rcases hO a with z | ⟨ob,xs,z⟩
   ·rw [h] at z;cases z
   ·rw [h] at z;cases z
  ·exact .inl ⟨o,h⟩
  ·exact .inr h
 ·rcases hO b with z | ⟨ob,xs,z⟩
  ·rw [e] at z;cases z
  ·rw [e] at z;cases z;rfl
end
def dX (K:PySem.W.Frag):Sp:=fun vs H Q _=>∃ (a:Addr) (ns:List Int),vs=[.ref a]∧Sc K a ns H∧ns.length ≤ 63∧∀ H',Q (.bl true) H'
theorem Vd:bootBuiltins "len"=some (.builtin "len"):=PySem.boot_len
theorem uM:bootBuiltins "all"=some (.builtin "all"):=by decide +kernel
theorem PL:bootBuiltins "max"=some (.builtin "max"):=by decide +kernel
theorem Ph:bootBuiltins "isinstance"=some (.builtin "isinstance"):=by decide +kernel
theorem zr:bootBuiltins "int"=some (.type "int"):=by decide +kernel
theorem Wh:bootBuiltins "str"=some (.type "str"):=by decide +kernel
theorem dI:bootBuiltins "bool"=some (.type "bool"):=by decide +kernel
theorem ft:bootBuiltins "list"=some (.type "list"):=by decide +kernel
theorem Rd.same {H H':Hp} {a:Addr} {o:HO} (h:Rd H a o) (s:Ac H H'):Rd H' a o:=by
 rcases h with h | ⟨ob,h⟩
 ·exact .inl (s _ _ h)
 ·exact .inr ⟨ob,s _ _ h⟩
theorem SqL.same {K:PySem.W.Frag} {H H':Hp} {a:Addr} {xs:List V} (h:SqL K H a xs) (s:Ac H H'):SqL K H' a xs:=by
 rcases h with h | h
 ·exact .inl (h.same s)
 ·exact .inr h
theorem SqT.same {K:PySem.W.Frag} {H H':Hp} {a:Addr} {xs:List V} (h:SqT K H a xs) (s:Ac H H'):SqT K H' a xs:=by
 rcases h with h | h
 ·exact .inl (h.same s)
 ·exact .inr h
theorem NoT.upd {H:Hp} {p:Addr} {o:HO} (h:NoT H) (ho:noT o=true:=by rfl):NoT (upd H p o):=fun b u e=>by
 by_cases hb:b=p
 ·subst hb;rw [fb] at e;cases e;exact ho
 ·rw [rb hb] at e;exact h b u e
theorem Sc.same {K:PySem.W.Frag} {a:Addr} {ns:List Int} {H H':Hp} (s:Sc K a ns H) (sm:Ac H H') (nt:NoT H'):Sc K a ns H':=by
 refine ⟨?_,nt⟩
 rcases s.sq with ⟨o,h⟩ | h
 ·exact .inl ⟨o,sm _ _ h⟩
 ·exact .inr h
end L2
namespace L2
open PySem PySem.Spec PyProof.Rows
structure D1 (K:PySem.W.Frag) (C:Addr) (m:Str) (f:Addr):Prop where
 rd:PySem.W.readsIn K C (.type "type")=true
 fd:PySem.W.findCls K (.ref C) (.type "type") m=some (.val (.ref f))
 ga:PySem.W.specialIn K (.ref C) "__getattribute__"=some (some (.builtin "type.__getattribute__"))
 kp:PySem.W.keepIn K (.ref f)=true
structure aR (P:Program) (w:World) (K:PySem.W.Frag) (mg:Str→Option Value) (base:Heap) (CX:CXT) (k:Nat) (OK:Addr→Prop) (m:Str) (ps:List Str) (SPV:Addr→Sp):Prop where
 ok:∀ C,OK C→∃ f fd,Cls K C∧UD K C m f∧Nb P w K mg base CX k f fd ps (SPV C)∧gc K fd ps []
def NT (OK:Addr→Prop) (m:Str) (SPV:Addr→Sp) (E:XK) (ta:TE) (t:TA):TE:=fun σ H Q=>ta σ H fun x H1=>∃ a C dx fs,x=.ref a∧H1 a=some (.ins C dx fs)∧OK C∧fs.lookup m=none ∧
 t σ H1 fun vs H2=>SPV C (x :: vs) H2 Q E
section
variable {X:Cx} {CX:CXT} {k:Nat} {f C:Addr} {fd:FuncData} {ps:List Str} {sp:Sp} {dvs:List V} {ds:List Value} {E:XK} {x m:Str} {p pos apos:Pos} {e o:Expr} {es:List Expr} {ta:TE} {t:TA}
theorem qE {pl:Sem Bool} (hg:Gl X x) (hm:X.mg x=some (.ref C)) (c:D1 X.K C m f) (F:Nb X.prog X.w X.K X.mg X.base CX k f fd ps sp) (hr:Hm k X.A) (hb:gc X.K fd ps ds) (hd:Ae dvs ds) (hx:Rr CX X E) (ha:PA X (e :: es) t)
  (hdb:(x == ("__debug__" : Str))=false:=by decide) (hst:starEach (e :: es) X.env=(false,eval e X.env) :: starEach es X.env:=by rfl) (hpl:(backTo pos (starEach es X.env)).any (·.1)=false:=by rfl)
  (ht:eval (.Call (.Attribute (.Name x p) m apos) (e :: es) [] pos) X.env=(do
   let ov ← eval (.Name x p) X.env
   standAt apos.atName
   let (f,first) ← holding [ov] (getMethod ov m pl)
   callWith pos f first (backTo pos (starEach (e :: es) X.env)) (backToKw pos (keywordEach [] X.env))):=by rfl) :
  PE X (.Call (.Attribute (.Name x p) m apos) (e :: es) [] pos) (kW sp dvs E t):=by
 intro pins s σ H Q I h
 refine PySem.W.methodCall_KW (pl:=pl) (lp I hg hm ?_ hdb) ht
 refine PySem.W.method_cls I.kIn c.ga (PySem.W.cls_value I.kIn c.rd c.fd rfl ?_)
 have I1:=I.tok (s.toks + 1)
 refine PySem.W.callWith_K (first:=[]) (h₀:=X.base) I.ok.mod.kin c.kp (thn (ha pos pins _ σ H _ I1 h) fun us s2 ⟨vs,H2,I2,r,q2⟩=>⟨I2.kIn,?_⟩) hst hpl
 exact wH F hr hb hd hx I2 r q2
variable {OK:Addr→Prop} {SPV:Addr→Sp}
theorem Iu {pl:Sem Bool} (he:PE X o ta) (V:aR X.prog X.w X.K X.mg X.base CX k OK m ps SPV) (hr:Hm k X.A) (hx:Rr CX X E)
  (ht:eval (.Call (.Attribute o m apos) [] [] pos) X.env=(do
   let ov ← eval o X.env
   standAt apos.atName
   let (f,first) ← holding [ov] (getMethod ov m pl)
   callWith pos f first (backTo pos (starEach [] X.env)) (backToKw pos (keywordEach [] X.env))):=by rfl) :
  PE X (.Call (.Attribute o m apos) [] [] pos) (NT OK m SPV E ta dZ):=by
 intro pins s σ H Q I h
 refine PySem.W.methodCall_KW (pl:=pl) (thn (he pins s σ H _ I h) fun u s1 ⟨x,H1,I1,rx,a,C,dx,fs,ex,ea,ok,l,q⟩=>?_) ht
 subst ex
 obtain rfl:u=Value.ref a:=rx
 obtain ⟨f,fd,c,hm,F,hb⟩:=V.ok C ok
 refine aw I1 ea c hm l ?_
 exact PySem.W.callWith_K0 (first:=[.ref a]) I1.kIn hm.kp (wH (us:=[.ref a]) (vs:=[.ref a]) (dvs:=[]) F hr hb .nil hx I1 (.cons rfl .nil) q)
end
abbrev SVs:=List (Str × V)
def mY (kvs:SVs) (ty:TE):TE:=fun σ H Q=>ty σ H fun y H1=>∃ x v,y=.str x∧kvs.lookup x=some v∧Q v H1
section
variable {X:Cx} {x:Str} {p pos:Pos} {i:Expr} {ty:TE} {u:Value} {kvs:List (Str × V)}
end
def Op (K:PySem.W.Frag) (H:Hp) (a:Addr) (f:Str) (v:V):Prop:=∃ C dx fs,H a=some (.ins C dx fs)∧Cls K C∧Mb K C f∧fs.lookup f=some v
theorem Yd {f:Str} {v:V}:∀ {fs:List (Str × V)} (ks:List Str),fs.map (·.1)=ks→ks.contains f=false→dj f v fs=fs ++ [(f,v)]
 | [],_,_,_=>rfl
 | (g,y) :: r,ks,e,h=>by
  cases e
  rw [List.map_cons,List.contains_cons] at h
  have h1:=(Bool.or_eq_false_iff.mp h)
  have hne:¬ g=f:=fun z=>by
   have:=h1.1
   rw [z] at this
   simp at this
  show (if g=f then _ else _)=_
  rw [if_neg hne,Yd _ rfl h1.2]
  rfl
theorem Mv {f:Str} {v:V} {fs:List (Str × V)} {n:Nat} (h:fs.length < n):(dj f v fs).length < n + 1:=Nat.lt_of_le_of_lt (ot f v fs) (by omega)
theorem af {f:Str} {v:V}:∀ {fs:List (Str × V)} (ks:List Str) (i:Nat),fs.map (·.1)=ks→ks.findIdx? (· == f)=some i→fs[i]? = some (f,v)→fs.lookup f=some v
 | [],_,_,_,_,h=>by simp at h
 | (g,y) :: r,ks,i,e,h,hv=>by
  cases e
  rw [List.map_cons,List.findIdx?_cons] at h
  rw [List.lookup]
  by_cases e:g=f
  ·subst e
   rw [beq_self_eq_true,if_pos rfl] at h
   cases h
   have:(g,y)=(g,v):=by simpa using hv
   cases this
   rw [beq_self_eq_true]
  ·rw [beq_eq_false_iff_ne.mpr e,if_neg (by decide)] at h
   obtain ⟨j,hj,rfl⟩:=Option.map_eq_some_iff.mp h
   rw [beq_eq_false_iff_ne.mpr (fun z=>e z.symm)]
   exact af _ j rfl hj (by simpa using hv)
theorem Hv {f:Str}:∀ {fs:List (Str × V)} (ks:List Str),fs.map (·.1)=ks→ks.contains f=false→fs.lookup f=none
 | [],_,_,_=>rfl
 | (g,y) :: r,ks,e,h=>by
  cases e
  rw [List.map_cons,List.contains_cons] at h
  have h1:=(Bool.or_eq_false_iff.mp h)
  rw [List.lookup,h1.1]
  exact Hv _ rfl h1.2
end L2
namespace L2
open PySem PySem.Spec PyProof.Rows
theorem Inv.turnedL {X:Cx} {pins:List (Addr × Obj)} {σ:St} {H:Hp} {s:Shared} {h':Heap} {t':Nat} {fp:List Addr} (I:Inv X pins σ H s) (k:∀ b o,b ∉ fp→s.heap.get? b=some o→h'.get? b=some o)
  (hf:∀ b ∈ fp,rH X pins H b):Inv X pins σ H { s with heap:=h',toks:=t' }:=by
 have nit:∀ b u,H b=some u→b ∉ fp:=fun b u e z=>by rw [(hf b z).1] at e;cases e
 refine I.step (g':=s.gens) (d':=s.drawn) (ch:=fp) (fun b hb=>?_) (fun b o _ _ hc e _=>k b o hc e) (fun b o _ _ hc e _=>⟨o.slots,k b o hc e⟩) (fun _ _ _ _ n=>n)
  (fun b o hc e=>⟨o,k b o hc e⟩) (fun _ _ e=>e) (fun _ _ _ e=>e) (fun b ps e=>⟨#[],by rw [e];simp⟩) (fun m hm=>?_) (fun b u e=>?_) I.bare
 ·obtain ⟨f0,f1,f2,f3,f4,f5⟩:=hf b hb
  exact ⟨f3,f1,f4,f5⟩
 ·obtain ⟨o,es,ep,ho,r⟩:=hm
  exact ⟨o,es,ep,k _ o (fun z=>(hf _ z).2.1 rfl) ho,r⟩
 ·refine (I.hok b u e).stay (fun c v hc q=>k c v ?_ q) (fun _ q=>q) fun _ _ q=>q
  rcases hc with z | z
  ·rw [z];exact nit b u e
  ·exact nit c _ z
def Ite (K:PySem.W.Frag) (a:Addr):It:=
 ⟨fun i H=>∃ xs x,SqL K H a xs∧xs[i]? = some x,fun i H v H'=>∃ p y,H p=none∧v=.ref p∧(∀ xs,SqL K H a xs→xs[i]? = some y)∧H'=upd H p (.tup [.int i,y]),fun i H=>∃ xs,SqL K H a xs∧xs.length ≤ i⟩
theorem fN {P:Program} {w:World} {K:PySem.W.Frag} {es:List Expr} {k} {pos:Pos} (a e it:Addr) (hne:e ≠ it) :
  LS P w K (.Tuple es k pos) (Ite K a) [e,it] e (fun i h=>∃ old,IsEnum h e it ((i:Nat):Int) old∧h.IsListIter it a i) where
 mem:=by simp
 obj:=fun i h ⟨old,he,hi⟩ b hb=>by
  simp only [List.mem_cons,List.not_mem_nil,or_false] at hb
  rcases hb with rfl | rfl
  ·exact ⟨_,he,fun v z=>by
    have z':Data.fields _=Data.cell v:=z
    cases z'⟩
  ·obtain ⟨o,q,c,d⟩:=hi
   exact ⟨o,q,fun v z=>by rw [d] at z;cases z⟩
 keep:=fun i h h' ⟨old,he,hi⟩ k=>⟨old,k e (by simp) _ he,hi.at fun o q=>k it (by simp) o q⟩
 item:=by
  intro X hP hw hK hc i pins s σ H E I hf ⟨old,he,hi⟩ hg
  subst hP hw hK
  obtain ⟨xs,x,hq,hx⟩:=hg
  obtain ⟨its,rv,p,hz⟩:=I.list hq
  obtain ⟨u,hu,ru⟩:=rv.get hx
  refine wpAny_pyNext_enum_item he hi p.isList (x:=u) (by simpa using hu) hne fun h1 he1 hi1 ht1 hz1 hk1=>⟨_,rfl,?_⟩
  refine wpAny_letOwnedTupleGo_enum he1 fun h2 he2 hs2=>?_
  replace hs2:Heap.SameBut e h1 h2:=hs2
  have hel:e < s.heap.objs.size:=Heap.lt_size he
  have hk:∀ b o,b ∉ [e,it]→s.heap.get? b=some o→h2.get? b=some o:=fun b o hb q=>by
   simp only [List.mem_cons,List.not_mem_nil,or_false,not_or] at hb
   exact hs2.extBut _ _ hb.1 (hk1 b o hb.1 hb.2 q)
  have I1:Inv X pins σ H { s with heap:=h2,toks:=s.toks + 1 }:=I.turnedL hk hf
  have fo:rH X pins H s.heap.objs.size:=I.fpOk (Nat.le_refl _) (I.hok.fresh (Nat.le_refl _))
  have ht2:h2.get? s.heap.objs.size=some { cls:=.type "tuple",data:=.seq #[.int i s.toks,u] }:=(hs2.2 _ (Nat.ne_of_gt hel)).trans ht1
  have I2:=I1.adopt (o:=.tup [.int i,x]) fo ⟨by show 2 ≤ sizeLine;decide,[.int i s.toks,u],.cons ⟨_,rfl⟩ (.cons ru .nil),⟨_,ht2,rfl,_,rfl⟩⟩
  refine ⟨.ref s.heap.objs.size,_,I2,rfl,⟨_,x,fo.1,rfl,fun ys hy=>by rw [I.list_inj hy hq];exact hx,rfl⟩,⟨u,?_,?_⟩,fun b hb=>?_⟩
  ·have e1:((i + 1:Nat):Int)=(i:Int) + 1:=by omega
   rw [e1];exact he2
  ·exact hi1.extBut hs2.extBut (Ne.symm hne)
  ·have hlt:b < s.heap.objs.size:=by
    simp only [List.mem_cons,List.not_mem_nil,or_false] at hb
    rcases hb with rfl | rfl
    ·exact hel
    ·obtain ⟨o,q,_⟩:=hi
     exact Heap.lt_size q
   rw [rb (Nat.ne_of_lt hlt)];exact (hf b hb).1
 done:=by
  intro X hP hw hK hc i pins s σ H E I hf ⟨old,he,hi⟩ hg
  subst hP hw hK
  obtain ⟨xs,hq,hx⟩:=hg
  obtain ⟨its,rv,p,hz⟩:=I.list hq
  have hl:=rv.length
  exact wpAny_pyNext_enum_end (I.ok.hd hc) he hi p.isList (by simp;omega) fun h' eb=>⟨rfl,I.turnedL (t':=s.toks) (fun b o hb q=>eb b o (fun z=>hb (by simp [z])) q) hf⟩
 self:=fun _ _ _ _ _ ⟨_,he,_⟩ h=>wpAny_pyIter_enum he h
theorem CC:bootBuiltins "enumerate"=some (.type "enumerate"):=by decide +kernel
theorem gE:bootBuiltins "reversed"=some (.type "reversed"):=by decide +kernel
def Itz (K:PySem.W.Frag) (a b:Addr):It:=
  ⟨fun i H=>∃ xs ys x y,SqL K H a xs∧SqL K H b ys∧xs[i]? = some x∧ys[i]? = some y,
   fun i H v H'=>∃ p x y,H p=none∧v=.ref p∧(∀ xs,SqL K H a xs→xs[i]? = some x)∧(∀ ys,SqL K H b ys→ys[i]? = some y)∧H'=upd H p (.tup [x,y]),
   fun i H=>∃ xs ys,SqL K H a xs∧SqL K H b ys∧(xs.length ≤ i∨ys.length ≤ i)⟩
def Itv (K:PySem.W.Frag) (a:Addr) (n:Nat):It:=
 ⟨fun i H=>i < n∧∃ xs,SqL K H a xs∧xs.length=n,fun i H x H'=>H'=H∧∀ xs,SqL K H a xs→xs[n - 1 - i]? = some x,fun i _=>n ≤ i⟩
section
variable {X:Cx}
def PY (K:PySem.W.Frag) (ta:TA):TI:=fun σ H R=>ta σ H fun vs H1=>∃ a,vs=[.ref a]∧(∃ xs,SqL K H1 a xs)∧R (Ite K a) H1
theorem bB {es:List Expr} {k} {tpos:Pos} {a:Expr} {ta:TA} {p pos:Pos} (hg:Gl X "enumerate") (hm:X.mg "enumerate"=none) (ha:PA X [a] ta) (hs:starEach [a] X.env=[(false,eval a X.env)]:=by rfl) :
  PI X (.Tuple es k tpos) (.Call (.Name "enumerate" p) [a] [] pos) (PY X.K ta):=by
 intro pins s σ H R I h
 refine Call_ (Yu I hg hm CC (PyProof.Rows.callWith_type1 (thn (ha pos pins s σ H _ I h) fun us s1 ⟨vs,H1,I1,r1,q1⟩=>?_) hs rfl))
 obtain ⟨a,e,⟨xs,hq⟩,q⟩:=q1
 subst e
 cases r1 with
 | cons r rr=>
  cases rr
  cases r
  obtain ⟨its,rv,pl,hz⟩:=I1.list hq
  refine call_enumerate_list pl.isList fun h' hE hI hsz hk=>wpAny_pyIter_enum hE ?_
  refine ⟨s1.heap.objs.size + 1,[s1.heap.objs.size + 1,s1.heap.objs.size],_,_,H1,rfl,I1.kept (t':=s1.toks) hk,fN a _ _ (Nat.succ_ne_self _),⟨_,hE,hI⟩,fun b hb=>?_,q⟩
  have hb':s1.heap.objs.size ≤ b:=by
   simp only [List.mem_cons,List.not_mem_nil,or_false] at hb
   rcases hb with rfl | rfl
   ·exact Nat.le_succ _
   ·exact Nat.le_refl _
  exact I1.fpOk hb' (I1.hok.fresh hb')
def E2 (K:PySem.W.Frag) (ta:TA):TI:=fun σ H R=>ta σ H fun vs H1=>∃ a b,vs=[.ref a,.ref b]∧(∃ xs,SqL K H1 a xs)∧(∃ ys,SqL K H1 b ys)∧R (Itz K a b) H1
def J2 (K:PySem.W.Frag) (ta:TA):TI:=fun σ H R=>ta σ H fun vs H1=>∃ a xs,vs=[.ref a]∧SqL K H1 a xs∧R (Itv K a xs.length) H1
end
theorem Rh {X:Cx} {es:List Expr} {k:Nat} {pos:Pos} {t:TGs} {n:Nat} {K:PySem.W.Frag} (hK:X.K=K) (hc:X.calm=true) (h:PGs X es t)
  (hn:(assignEach es X.env).length=n:=by rfl) (hst:(assignEach es X.env).findIdx? (·.1)=none:=by rfl):PG X (.Tuple es k pos) (GW K n t):=by
 subst hK
 exact YW hc h hn hst
section
variable {X:Cx}
def FU:V→List V→Hp→VK→Prop:=fun x vs H Q=>∃ l xs i y,x=.ref l∧vs=[.int i,y]∧H l=some (.lst xs)∧0 ≤ i∧i < 2 ^ 62∧i ≤ (xs.length:Int)∧xs.length < sizeLine∧Q .non (upd H l (.lst (xs.take i.toNat ++ y :: xs.drop i.toNat)))
theorem PH {P:Nat→Value→Prop} {f:Nat→V} (hP:∀ i v,P i v→cf (f i) v):∀ (l:List Value) (k:Nat),(∀ j v,l[j]? = some v→P (k + j) v)→Ae ((List.range l.length).map fun i=>f (k + i)) l
 | [],_,_=>.nil
 | v :: r,k,h=>by
  rw [List.length_cons,List.range_succ_eq_map,List.map_cons,List.map_map]
  refine .cons (hP _ _ (h 0 v rfl)) ?_
  have:=PH hP r (k + 1) fun j w hj=>by
   have:=h (j + 1) w (by simpa using hj)
   rwa [show k + 1 + j=k + (j + 1) by omega]
  have e:(fun i=>f (k + 1 + i))=((fun i=>f (k + i)) ∘ Nat.succ):=funext fun i=>by
   show f (k + 1 + i)=f (k + (i + 1))
   rw [show k + 1 + i=k + (i + 1) by omega]
  rwa [e] at this
theorem bM {P:Nat→Value→Prop} {f:Nat→V} (hP:∀ i v,P i v→cf (f i) v) {acc:Array Value} {n:Nat} (h:ItemsOf P acc n):Ae ((List.range n).map f) acc.toList:=by
 have:=PH hP acc.toList 0 fun j v hj=>by
  rw [Nat.zero_add]
  exact h.2 j v (by rw [← Array.getElem?_toList];exact hj)
 rw [show acc.toList.length=n by rw [Array.length_toList];exact h.1] at this
 simpa using this
end
end L2
namespace L2
open PySem PySem.Spec PyProof.Rows
inductive EqH (K:PySem.W.Frag) (H:Hp):Nat→V→V→Bool→Prop
 | flat {k:Nat} {x y:V} (hx:wo x=true) (hy:wo y=true):EqH K H k x y (eqV x y)
 | lst {k:Nat} {p q:Addr} {xs ys:List V} {e:Nat→Bool} (hp:SqL K H p xs) (hq:SqL K H q ys) (hl:xs.length=ys.length) (he:∀ (j:Nat) (x y:V),xs[j]? = some x→ys[j]? = some y→EqH K H k x y (e j)):EqH K H (k + 1) (.ref p) (.ref q) ((List.range xs.length).all e)
 | lstN {k:Nat} {p q:Addr} {xs ys:List V} (hp:SqL K H p xs) (hq:SqL K H q ys) (hl:xs.length ≠ ys.length):EqH K H (k + 1) (.ref p) (.ref q) false
 | tup {k:Nat} {p q:Addr} {xs ys:List V} {e:Nat→Bool} (hp:SqT K H p xs) (hq:SqT K H q ys) (he:∀ (j:Nat) (x y:V),xs[j]? = some x→ys[j]? = some y→EqH K H k x y (e j)):EqH K H (k + 1) (.ref p) (.ref q) ((List.range (min xs.length ys.length)).all e && xs.length == ys.length)
theorem aL {x:V} (h:wo x=true):eqV x x=true:=by
 cases x <;> first | rfl | (simp [eqV];done) | cases h
theorem QD {n:Nat} {e:Nat→Bool} (h:∀ j,j < n→e j=true):(List.range n).all e=true:=by
 rw [List.all_eq_true]
 exact fun j hj=>h j (List.mem_range.mp hj)
section
variable {X:Cx} {pins:List (Addr × Obj)} {σ:St} {H:Hp} {s:Shared}
theorem EqH.self (I:Inv X pins σ H s) {k:Nat} {x y:V} {b:Bool} (h:EqH X.K H k x y b) (e:x=y):b=true:=by
 induction h with
 | flat hx hy=>subst e;exact aL hx
 | @lst k p q xs ys f hp hq hl he ih=>
  injection e with e
  subst e
  have:=I.list_inj hp hq
  subst this
  refine QD fun j hj=>?_
  exact ih j xs[j] xs[j] (List.getElem?_eq_getElem hj) (List.getElem?_eq_getElem hj) rfl
 | lstN hp hq hl=>
  injection e with e
  subst e
  have:=I.list_inj hp hq
  subst this
  exact absurd rfl hl
 | @tup k p q xs ys f hp hq he ih=>
  injection e with e
  subst e
  have:=I.tuple_inj hp hq
  subst this
  rw [Bool.and_eq_true]
  refine ⟨QD fun j hj=>?_,by simp⟩
  have hj':j < xs.length:=by omega
  exact ih j xs[j] xs[j] (List.getElem?_eq_getElem hj') (List.getElem?_eq_getElem hj') rfl
theorem Pt (A:Around):A.in1.units=A.units + 1:=rfl
theorem JK (I:Inv X pins σ H s) {k:Nat} {x y:V} {b:Bool} (h:EqH X.K H k x y b):∀ (A:Around) (v u:Value),A.units + k < cLine→cf x v→cf y u →
  SeqAt.EqAt A s v u b∧(∀ p q,x=.ref p→y=.ref q→SeqAt.RcAt A s v u b):=by
 induction h with
 | flat hx hy=>
  intro A v u hu rx ry
  refine ⟨iT rx ry hx hy,fun p q e _=>?_⟩
  subst e
  cases hx
 | @lst k p q xs ys f hp hq hl he ih=>
  intro A v u hu rx ry
  cases rx
  cases ry
  obtain ⟨its,r,pl,hz⟩:=I.list hp
  obtain ⟨jts,r',pl',hz'⟩:=I.list hq
  have l1:=r.length
  have l2:=r'.length
  have rc:SeqAt.RcAt A s (.ref p) (.ref q) ((List.range xs.length).all f):=by
   have:=SeqAt.RcAt.lists (A:=A) (e:=f) pl.isList pl'.isList (by simp only [List.size_toArray];omega) (by omega) fun j h1 h2=>by
    simp only [List.size_toArray] at h1 h2
    have hj:j < xs.length:=by omega
    have hj':j < ys.length:=by omega
    obtain ⟨a,ha,ra⟩:=r.get (List.getElem?_eq_getElem hj)
    obtain ⟨c,hc,rc⟩:=r'.get (List.getElem?_eq_getElem hj')
    have ea:its.toArray[j]=a:=by
     have:=List.getElem?_eq_getElem h1
     rw [ha] at this
     simpa using (Option.some.inj this).symm
    have ec:jts.toArray[j]=c:=by
     have:=List.getElem?_eq_getElem h2
     rw [hc] at this
     simpa using (Option.some.inj this).symm
    rw [ea,ec]
    exact (ih j _ _ (List.getElem?_eq_getElem hj) (List.getElem?_eq_getElem hj') A.in1 a c (by rw [Pt];omega) ra rc).1
   rwa [List.size_toArray,← l1] at this
  refine ⟨?_,fun _ _ _ _=>rc⟩
  by_cases hne:p=q
  ·have hb:=(EqH.lst hp hq hl he).self I (congrArg V.ref hne)
   rw [hb,hne]
   exact SeqAt.EqAt.same _
  ·exact SeqAt.EqAt.of_refs hne rc
 | @lstN k p q xs ys hp hq hl=>
  intro A v u hu rx ry
  cases rx
  cases ry
  obtain ⟨its,r,pl,hz⟩:=I.list hp
  obtain ⟨jts,r',pl',hz'⟩:=I.list hq
  have l1:=r.length
  have l2:=r'.length
  have rc:SeqAt.RcAt A s (.ref p) (.ref q) false:=SeqAt.RcAt.lists_lengths pl.isList pl'.isList (by simp only [List.size_toArray,bne_iff_ne,ne_eq];omega) (by omega)
  refine ⟨SeqAt.EqAt.of_refs (fun e=>hl ?_) rc,fun _ _ _ _=>rc⟩
  subst e
  rw [I.list_inj hp hq]
 | @tup k p q xs ys f hp hq he ih=>
  intro A v u hu rx ry
  cases rx
  cases ry
  obtain ⟨its,r,pl,hz⟩:=I.tuple hp
  obtain ⟨jts,r',pl',hz'⟩:=I.tuple hq
  have l1:=r.length
  have l2:=r'.length
  have rc:SeqAt.RcAt A s (.ref p) (.ref q) ((List.range (min xs.length ys.length)).all f && xs.length == ys.length):=by
   have:=SeqAt.RcAt.tuples (A:=A) (e:=f) pl pl' (by omega) fun j h1 h2=>by
    simp only [List.size_toArray] at h1 h2
    have hj:j < xs.length:=by omega
    have hj':j < ys.length:=by omega
    obtain ⟨a,ha,ra⟩:=r.get (List.getElem?_eq_getElem hj)
    obtain ⟨c,hc,rc⟩:=r'.get (List.getElem?_eq_getElem hj')
    have ea:its.toArray[j]=a:=by
     have:=List.getElem?_eq_getElem h1
     rw [ha] at this
     simpa using (Option.some.inj this).symm
    have ec:jts.toArray[j]=c:=by
     have:=List.getElem?_eq_getElem h2
     rw [hc] at this
     simpa using (Option.some.inj this).symm
    rw [ea,ec]
    exact (ih j _ _ (List.getElem?_eq_getElem hj) (List.getElem?_eq_getElem hj') A.in1 a c (by rw [Pt];omega) ra rc).1
   rwa [List.size_toArray,List.size_toArray,← l1,← l2] at this
  refine ⟨?_,fun _ _ _ _=>rc⟩
  by_cases hne:p=q
  ·have hb:=(EqH.tup hp hq he).self I (congrArg V.ref hne)
   rw [hb,hne]
   exact SeqAt.EqAt.same _
  ·exact SeqAt.EqAt.of_refs hne rc
end
section
variable {X:Cx} {pins:List (Addr × Obj)} {σ:St} {H:Hp} {s:Shared}
theorem CH (I:Inv X pins σ H s) {k:Nat} {A:Around} {xs ys:List V} {its jts:List Value} {f:Nat→Bool} (hu:A.units + k < cLine) (r:Ae xs its) (r':Ae ys jts)
  (he:∀ (j:Nat) (x y:V),xs[j]? = some x→ys[j]? = some y→EqH X.K H k x y (f j)):∀ j (h1:j < its.toArray.size) (h2:j < jts.toArray.size),SeqAt.EqAt A s its.toArray[j] jts.toArray[j] (f j):=fun j h1 h2=>by
 simp only [List.size_toArray] at h1 h2
 have l1:=r.length
 have l2:=r'.length
 have hj:j < xs.length:=by omega
 have hj':j < ys.length:=by omega
 obtain ⟨a,ha,ra⟩:=r.get (List.getElem?_eq_getElem hj)
 obtain ⟨c,hc,rc⟩:=r'.get (List.getElem?_eq_getElem hj')
 have ea:its.toArray[j]=a:=by
  have:=List.getElem?_eq_getElem h1
  rw [ha] at this
  simpa using (Option.some.inj this).symm
 have ec:jts.toArray[j]=c:=by
  have:=List.getElem?_eq_getElem h2
  rw [hc] at this
  simpa using (Option.some.inj this).symm
 rw [ea,ec]
 exact (JK I (he j _ _ (List.getElem?_eq_getElem hj) (List.getElem?_eq_getElem hj')) A a c hu ra rc).1
theorem GY (I:Inv X pins σ H s) {k:Nat} {p q:Addr} {b:Bool} (h:EqH X.K H k (.ref p) (.ref q) b) (A:Around) (hu:A.units + k < cLine):SeqAt.RcNeAt A s (.ref p) (.ref q) (!b):=by
 cases h with
 | flat hx hy=>cases hx
 | @lst k _ _ xs ys f hp hq hl he=>
  obtain ⟨its,r,pl,hz⟩:=I.list hp
  obtain ⟨jts,r',pl',hz'⟩:=I.list hq
  have l1:=r.length
  have l2:=r'.length
  have:=SeqAt.RcNeAt.lists (A:=A) (e:=f) pl.isList pl'.isList (by simp only [List.size_toArray];omega) (by omega) (CH I (A:=A.in1) (k:=k) (by rw [Pt];omega) r r' he)
  rwa [List.size_toArray,← l1] at this
 | @lstN k _ _ xs ys hp hq hl=>
  obtain ⟨its,r,pl,hz⟩:=I.list hp
  obtain ⟨jts,r',pl',hz'⟩:=I.list hq
  have l1:=r.length
  have l2:=r'.length
  exact SeqAt.RcNeAt.lists_lengths pl.isList pl'.isList (by simp only [List.size_toArray,bne_iff_ne,ne_eq];omega) (by omega)
 | @tup k _ _ xs ys f hp hq he=>
  obtain ⟨its,r,pl,hz⟩:=I.tuple hp
  obtain ⟨jts,r',pl',hz'⟩:=I.tuple hq
  have l1:=r.length
  have l2:=r'.length
  have:=SeqAt.RcNeAt.tuples (A:=A) (e:=f) pl pl' (by omega) (CH I (A:=A.in1) (k:=k) (by rw [Pt];omega) r r' he)
  rwa [List.size_toArray,List.size_toArray,← l1,← l2] at this
end
section
variable {X:Cx}
def J0 (K:PySem.W.Frag):R2:=fun x y H Q=>∃ p q b,x=.ref p∧y=.ref q∧EqH K H 8 (.ref p) (.ref q) b∧Q (.bl (!b)) H
theorem gY (hU:X.A.units + 64 < cLine):OpR X (compareOp .NotEq) (J0 X.K):=by
 intro pins s σ H x y v u Q I rx ry h
 obtain ⟨p,q,b,rfl,rfl,hE,q'⟩:=h
 cases rx
 cases ry
 exact GY I hE X.A (by omega) _ _ _ _ ⟨.bl (!b),H,I,rfl,q'⟩
def D0 (K:PySem.W.Frag):R2:=fun x y H Q=>∃ p q b,x=.ref p∧y=.ref q∧EqH K H 8 (.ref p) (.ref q) b∧Q (.bl b) H
theorem DT (hU:X.A.units + 64 < cLine):OpR X (compareOp .Eq) (D0 X.K):=by
 intro pins s σ H x y v u Q I rx ry h
 obtain ⟨p,q,b,rfl,rfl,hE,q'⟩:=h
 exact (JK I hE X.A v u (by omega) rx ry).2 p q rfl rfl _ _ _ _ ⟨.bl b,H,I,rfl,q'⟩
end
theorem EqH.mono {K:PySem.W.Frag} {H:Hp} {j k:Nat} {x y:V} {b:Bool} (h:EqH K H j x y b):j ≤ k→EqH K H k x y b:=by
 induction h generalizing k with
 | flat hx hy=>exact fun _=>.flat hx hy
 | lst hp hq hl he ih=>
  intro hk
  obtain ⟨m,rfl⟩:∃ m,k=m + 1:=⟨k - 1,by omega⟩
  exact .lst hp hq hl fun j x y h1 h2=>ih j x y h1 h2 (by omega)
 | lstN hp hq hl=>
  intro hk
  obtain ⟨m,rfl⟩:∃ m,k=m + 1:=⟨k - 1,by omega⟩
  exact .lstN hp hq hl
 | tup hp hq he ih=>
  intro hk
  obtain ⟨m,rfl⟩:∃ m,k=m + 1:=⟨k - 1,by omega⟩
  exact .tup hp hq fun j x y h1 h2=>ih j x y h1 h2 (by omega)
def jZ:V→V→Bool
 | .int _,.int _=>true
 | .str _,.str _=>true
 | .bl _,.bl _=>true
 | .non,.non=>true
 | _,_=>false
theorem EI {x y:V} (h:jZ x y=true):wo x=true∧wo y=true∧eqV x y=decide (x=y):=by
 cases x <;> cases y <;> first | (exfalso;simp [jZ] at h;done) | (refine ⟨rfl,rfl,?_⟩;rfl) | (refine ⟨rfl,rfl,?_⟩;rw [Bool.eq_iff_iff];simp [eqV];done)
theorem EqH.flats {K:PySem.W.Frag} {H:Hp} {k:Nat} {p q:Addr} {xs ys:List V} (hp:SqL K H p xs) (hq:SqL K H q ys) (h:∀ x ∈ xs,∀ y ∈ ys,jZ x y=true):EqH K H (k + 1) (.ref p) (.ref q) (decide (xs=ys)):=by
 by_cases hl:xs.length=ys.length
 ·have hd:decide (xs=ys)=(List.range xs.length).all fun j=>eqV (xs.getD j .non) (ys.getD j .non):=by
   rw [Bool.eq_iff_iff,decide_eq_true_eq,List.all_eq_true]
   constructor
   ·rintro rfl j hj
    have hj':=List.mem_range.mp hj
    have hm:xs.getD j .non ∈ xs:=by rw [List.getD_eq_getElem?_getD,List.getElem?_eq_getElem hj'];exact List.getElem_mem hj'
    rw [(EI (h _ hm _ hm)).2.2,decide_eq_true rfl]
   ·intro z
    refine List.ext_getElem hl fun j h1 h2=>?_
    have:=z j (List.mem_range.mpr h1)
    rw [List.getD_eq_getElem?_getD,List.getD_eq_getElem?_getD,List.getElem?_eq_getElem h1,List.getElem?_eq_getElem h2] at this
    have w:eqV xs[j] ys[j]=true:=this
    rw [(EI (h _ (List.getElem_mem h1) _ (List.getElem_mem h2))).2.2,decide_eq_true_eq] at w
    exact w
  rw [hd]
  refine .lst hp hq hl fun j x y h1 h2=>?_
  have e:=EI (h x (List.mem_of_getElem? h1) y (List.mem_of_getElem? h2))
  rw [List.getD_eq_getElem?_getD,List.getD_eq_getElem?_getD,h1,h2]
  exact .flat e.1 e.2.1
 ·rw [decide_eq_false (fun z=>hl (by rw [z]))]
  exact .lstN hp hq hl
end L2
namespace L2
open PySem PySem.Spec PyProof.Rows PySem.Builtin PySem.Builtin.ObjectAttr
theorem YS {H:Hp} {a:Addr} {o:HO} (h:H a=some o):upd H a o=H:=by
 funext b
 unfold upd
 by_cases e:b=a
 ·rw [if_pos e,e,h]
 ·rw [if_neg e]
abbrev bmV:List Value:=[.type "ValueError",.type "Exception",.type "BaseException",.type "object"]
def Jv (K:PySem.W.Frag) (C fI:Addr):Bool:=
 match K.lookup C with
 | some ⟨.type "type",_,.cls cd,sl⟩=>
  match cd.mro,sl.toList with
  | .ref D :: tl,[_,_,_,_,some (.builtin n),_]=>
   (D == C) && (n == "ValueError.__new__") && (cd.hasDel == false) && (cd.hasDict == true) && PySem.W.tailIn K bmV tl && PySem.W.nsOkIn K cd.ns && (PySem.W.nsIn K cd.ns "__init__" == some (some (.ref fI)))
  | _,_=>false
 | _=>false
theorem kU {K:PySem.W.Frag} {h:Heap} {N:Addr} {mN:Str→Option Value} {x:Str} {v:Value} (KX:K.In h) (G:h.Ns N mN) (e:PySem.W.nsIn K N x=some (some v)):mN x=some v:=by
 obtain ⟨ob,rows,ep,e1,e2,_,look⟩:=G
 unfold PySem.W.nsIn at e
 split at e
 ·rename_i ho
  have z:=KX _ _ ho
  rw [e1] at z
  cases z
  cases e2
  split at e
  ·rename_i en he
   cases e
   rw [← look]
   unfold nsFind findBy
   rw [← Array.find?_toList,he];rfl
  ·split at e <;> cases e
 ·cases e
theorem nE {K:PySem.W.Frag} {h:Heap} {C fI:Addr} (KX:K.In h) (e:Jv K C fI=true) :
  ∃ tl N nm q bs sn sub ab co dd k0 k1 k2 k3 k5 mN,h.get? C=some (excClassObj nm q C N bs tl true sn sub ab co dd k0 k1 k2 k3 k5 "ValueError.__new__")∧h.Ns N mN∧mN "__init__"=some (.ref fI)∧OwnTail h bmV tl:=by
 unfold Jv at e
 split at e
 ·rename_i dd cd sl ho
  split at e
  ·rename_i D tl k0 k1 k2 k3 n k5 hm hs
   simp only [Bool.and_eq_true,beq_iff_eq] at e
   obtain ⟨⟨⟨⟨⟨⟨e1,e2⟩,e3⟩,e4⟩,e5⟩,e6⟩,e7⟩:=e
   obtain ⟨nm,bs,mro,ns,qn,hd,sn,sub,ab,co,del⟩:=cd
   simp only at hm e3 e4 e6 e7
   subst hm e1 e2 e3 e4
   obtain ⟨l⟩:=sl
   simp only at hs
   subst hs
   have G:h.Ns ns (h.nsMap ns):=.of_isNs (PySem.W.isNs_of_in KX e6)
   exact ⟨tl,ns,nm,qn,bs,sn,sub,ab,co,dd,k0,k1,k2,k3,k5,h.nsMap ns,KX _ _ ho,G,kU KX G e7,PySem.W.tail_of_in KX e5⟩
  ·cases e
 ·cases e
section
variable {P:Program} {w:World} {A:Around} {h:Heap} {g:Array GenState} {d:Drawn} {t:Nat} {os:OsState} {K:PySem.W.Frag} {C fI:Addr} {R:Result→Shared→Prop}
theorem ZO {us:List Value} (KX:K.In h) (e:Jv K C fI=true) (hf:PySem.W.typeIn K (.ref fI)=some (.type "function")) (hz:us.length ≤ sizeLine)
  (hq:∀ h' x,h.objs.size ≤ x→Heap.MadeExcOf h h' x (.ref C) us→codeAny (model P w) (A.under (.builtin "type.__call__" ⟨.ref C :: us,[]⟩)) (.call (.ref fI) ⟨.ref x :: us,[]⟩) (PySem.W.InitBack x R) ⟨h',g,d,t,os⟩) :
  codeAny (model P w) A (.call (.ref C) ⟨us,[]⟩) R ⟨h,g,d,t,os⟩:=by
 obtain ⟨tl,N,nm,q,bs,sn,sub,ab,co,dd,k0,k1,k2,k3,k5,mN,hC,hN,hi,T⟩:=nE KX e
 have F:=PySem.F.excBase_ValueError
 have f1:=tc_lookup
 have f2:=tc_bind (.ref C)
 have ty:(⟨h,g,d,t,os⟩:Shared).TypeIs (.ref C) "type" := ⟨_,hC,rfl⟩
 refine codeAny_of_tree ?_
 show wpAny _ _ (callAny (.ref C) _) _ _ _
 repeat (any_goals (first | assumption | with_reducible refine wpAny_loadPart_at hC ?_ | wp_step))
 refine ⟨rfl,?_⟩
 refine codeAny_call_builtin_at (Code.quiet_builtin _ (by decide +kernel)) entry_typeCall (wpAny_check_type_call_sub hC ?_)
 repeat (first | with_reducible refine wpAny_loadPart_at hC ?_ | with_reducible refine wpAny_madeBy_exc hC ?_ | wp_step)
 refine codeAny_call_builtin_code (Code.quiet_builtin _ F.quiet) (wpAny_check_new_subT F T hC ?_)
 refine codeAny_exc_new_subT (rest:=us) F T hC ?_ hz
 show wpAny _ _ _ _ _ _
 generalize hh:(h.push { cls:=.type "tuple",data:=.seq us.toArray }).push { cls:=.ref C,data:=.fields #[.ref h.objs.size,.none,.none,.none,.bool false,.none] }=h2
 have k:∀ b o,h.get? b=some o→h2.get? b=some o:=fun b o z=>by rw [← hh];exact Heap.get?_push_of_some _ (Heap.get?_push_of_some _ z)
 have hx:h2.get? (h.objs.size + 1)=some { cls:=.ref C,data:=.fields #[.ref h.objs.size,.none,.none,.none,.bool false,.none] }:=by rw [← hh];heap_get
 have ht:h2.get? h.objs.size=some { cls:=.type "tuple",data:=.seq us.toArray }:=by rw [← hh];exact Heap.get?_push_of_some _ (Heap.get?_push_at rfl rfl)
 have M:Heap.MadeExcOf h h2 (h.objs.size + 1) (.ref C) us:=⟨k,Heap.get?_none_of_le (Nat.le_succ _),h.objs.size,hx,Heap.get?_none_of_le (Nat.le_refl _),ht⟩
 have cC:(Value.ref C :: tl).contains (.ref C)=true:=by simp
 unfold isInstance
 repeat (first | with_reducible refine wpAny_loadPart_at hx ?_ | wp_step)
 refine wpAny_isSubtype_exc (k _ _ hC) ?_
 rw [cC]
 repeat wp_step
 show wpAny _ _ (typeLookup (.ref C) _) _ _ _
 refine wpAny_typeLookup_tail (k _ _ hC) (hN.keeps k) (T.keeps k) F.mroIs F.init.lookup ?_
 rw [hi]
 refine wpAny_holding (wpAny_bind ((PySem.W.bind_fn (KX.keeps k) _ hf).here (wpAny_bind (wpAny_call ?_))))
 refine codeAny_mono (hq h2 _ (Nat.le_succ _) M) fun r s' z=>?_
 rcases r with e | (v | _ | _ | _) <;> first | exact z | exact z.elim | skip
 obtain ⟨rfl,z⟩:=z
 exact wpAny_pure (wpAny_pure z)
end
def fG:List Value→Bool
 | .ref _ :: r=>fG r
 | l=>l == bmV
theorem Rp (self:Value):refuseLoop self "__setattr__" bmV=pure ():=by kernel_rfl
theorem qy (self:Value):∀ {l:List Value},fG l=true→refuseLoop self "__setattr__" l=pure ()
 | .ref c :: r,e=>by rw [refuseLoop_ref];exact qy self (l:=r) e
 | [],e=>by cases e
 | .type n :: r,e=>by rw [show Value.type n :: r=bmV from beq_iff_eq.mp e];exact Rp self
 | .none :: r,e=>by rw [show Value.none :: r=bmV from beq_iff_eq.mp e];exact Rp self
 | .bool b :: r,e=>by rw [show Value.bool b :: r=bmV from beq_iff_eq.mp e];exact Rp self
 | .int b c :: r,e=>by rw [show Value.int b c :: r=bmV from beq_iff_eq.mp e];exact Rp self
 | .str b c :: r,e=>by rw [show Value.str b c :: r=bmV from beq_iff_eq.mp e];exact Rp self
 | .bytes b c :: r,e=>by rw [show Value.bytes b c :: r=bmV from beq_iff_eq.mp e];exact Rp self
 | .float b c :: r,e=>by rw [show Value.float b c :: r=bmV from beq_iff_eq.mp e];exact Rp self
 | .builtin b :: r,e=>by rw [show Value.builtin b :: r=bmV from beq_iff_eq.mp e];exact Rp self
theorem zB (T:String) (h:bmV.contains (.type T)=true):∀ {l:List Value},fG l=true→l.contains (.type T)=true
 | .ref c :: r,e=>by rw [List.contains_cons,zB T h (l:=r) e,Bool.or_true]
 | [],e=>by cases e
 | .type n :: r,e=>by rw [show Value.type n :: r=bmV from beq_iff_eq.mp e];exact h
 | .none :: r,e=>by rw [show Value.none :: r=bmV from beq_iff_eq.mp e];exact h
 | .bool b :: r,e=>by rw [show Value.bool b :: r=bmV from beq_iff_eq.mp e];exact h
 | .int b c :: r,e=>by rw [show Value.int b c :: r=bmV from beq_iff_eq.mp e];exact h
 | .str b c :: r,e=>by rw [show Value.str b c :: r=bmV from beq_iff_eq.mp e];exact h
 | .bytes b c :: r,e=>by rw [show Value.bytes b c :: r=bmV from beq_iff_eq.mp e];exact h
 | .float b c :: r,e=>by rw [show Value.float b c :: r=bmV from beq_iff_eq.mp e];exact h
 | .builtin b :: r,e=>by rw [show Value.builtin b :: r=bmV from beq_iff_eq.mp e];exact h
structure ZD (K:PySem.W.Frag) (C:Addr):Prop where
 hd:PySem.W.hasDictIn K C=true
 ov:((PySem.W.clsIn K C).any fun cd=>fG cd.mro)=true
 sa:PySem.W.findIn K (.ref C) "__setattr__"=some (some (.builtin "object.__setattr__"))
 ga:PySem.W.findIn K (.ref C) "__getattribute__"=some (some (.builtin "BaseException.__getattribute__"))
 gt:PySem.W.findIn K (.ref C) "__getattr__"=some none
 ex:∃ fI,Jv K C fI=true
def XF (x C:Addr) (od:Option Addr):Heap→Prop:=fun h=>∃ vs sl,h.get? x=some ⟨.ref C,od,.fields vs,sl⟩∧1 < vs.size∧vs[1]? = some .none
def XD (dx:Addr) (fs:List (Str × V)):Heap→Prop:=fun h=>∃ mA,h.Ns1 dx mA∧(∀ f,aC (fs.lookup f) (mA f))∧PySem.Within mA (fs.map (·.1))
theorem XF.at {x C:Addr} {od:Option Addr} {h h':Heap} (z:XF x C od h) (k:∀ o,h.get? x=some o→h'.get? x=some o):XF x C od h':=let ⟨vs,sl,e,r⟩:=z;⟨vs,sl,k _ e,r⟩
theorem XD.at {dx:Addr} {fs:List (Str × V)} {h h':Heap} (z:XD dx fs h) (k:∀ o,h.get? dx=some o→h'.get? dx=some o):XD dx fs h':=let ⟨mA,e,r⟩:=z;⟨mA,e.at k,r⟩
theorem XF.ok {P:Program} {w:World} {H:Hp} {h:Heap} {x C:Addr} {od:Option Addr} (z:XF x C od h):Ve P w H h x (.ext (XF x C od)):=by
 obtain ⟨vs,sl,e,r⟩:=id z
 exact ⟨z,⟨_,e⟩,fun h1 h2 q k=>q.at k⟩
theorem XD.ok {P:Program} {w:World} {H:Hp} {h:Heap} {dx:Addr} {fs:List (Str × V)} (z:XD dx fs h):Ve P w H h dx (.ext (XD dx fs)):=by
 obtain ⟨mA,⟨o,es,ep,e,_⟩,_⟩:=id z
 exact ⟨z,⟨_,e⟩,fun h1 h2 q k=>q.at k⟩
section
variable {prog:Program} {w:World} {A:Around} {E:Value→Shared→Prop} {K:PySem.W.Frag} {C x:Addr} {s:Shared} {R:Result→Shared→Prop}
theorem d0 {ox:Obj} {od:Option Obj} {name:Str} {tk:Tok} {v:Value} (KX:K.In s.heap) (J:PySem.W.InstAt s.heap x ox C od) (c:ZD K C) (ht:Mb K C name)
  (h:wpAny (model prog w) A.in1 (storeInOwnDict (.ref x) (.ref C) (.str name tk) name v false)
   (fun fin s'=>match fin with | .done f=>R (.ok f) s' | .again c'=>c'.quiet=true∧codeAny (model prog w) A c' R s') (fun e s'=>R (.error e) s') s) :
  codeAny (model prog w) A (.call (.builtin "object.__setattr__") ⟨[.ref x,.str name tk,v],[]⟩) R s:=by
 have G:=PySem.F.store_object
 obtain ⟨cd,hc,ho⟩:=PySem.W.any_some c.ov
 have ne:cd.mro.isEmpty=false:=by
  cases q:cd.mro with
  | nil=>rw [q] at ho;cases ho
  | cons _ _=>rfl
 have sub:PySem.W.Looks (model prog w) s.heap (isInstance (.ref x) (.type "object")) true:=
  J.type.andThen (PySem.W.looks_mroIn KX (by unfold PySem.W.mroIn;rw [hc,Option.bind_some,if_neg (by rw [ne];decide),zB "object" (by decide) ho]))
 refine codeAny_call_builtin G.slot.plain G.entry (@PySem.W.check_slot (model prog w) _ _ s "object.__setattr__" "object" "__setattr__" (.ref x) [.str name tk,v] [] _ G.kind G.split sub (G.args (.ref x) (.str name tk) v) ?_)
 have hm:PySem.W.Looks (model prog w) s.heap (mroOf (.ref C)) cd.mro:=(PySem.W.looks_clsIn KX hc).andThen .now
 rw [PySem.W.osa_eq,refuse_eq]
 refine wpAny_bind (wpAny_bind (J.type.here (wpAny_bind (hm.here ?_))))
 rw [qy _ ho]
 exact wpAny_pure (wpAny_bind (J.type.here (wpAny_bind ((PySem.W.looks_findIn KX ht).here (wpAny_bind (wpAny_pure h))))))
end
section
variable {X:Cx} {pins:List (Addr × Obj)} {σ:St} {H:Hp} {s:Shared} {x C dx:Addr} {fs:List (Str × V)} {f:Str} {y:V} {u:Value} {A:Around} {E:Value→Shared→Prop} {Q:Unit→Shared→Prop}
theorem VR (I:Inv X pins σ H s) (e:H x=some (.ext (XF x C none))) (c:ZD X.K C) (n:Mb X.K C f) (ry:cf y u)
  (h:∀ dx s',H dx=none→dx ≠ x→Inv X pins σ (upd (upd H x (.ext (XF x C (some dx)))) dx (.ext (XD dx [(f,y)]))) s'→Q () s'):wpAny (model X.prog X.w) A (setAttr (.ref x) f u) Q E s:=by
 obtain ⟨vs,sl,hx,z1,z2⟩:=(show Ve X.prog X.w H s.heap x (.ext (XF x C none)) from I.hok _ _ e).1
 have J:PySem.W.InstAt s.heap x ⟨.ref C,none,.fields vs,sl⟩ C none:=⟨hx,rfl,rfl,True.intro⟩
 refine PySem.W.set_plain I.kIn J c.sa (d0 (s:={ s with toks:=s.toks + 1 }) I.kIn J c n ?_)
 obtain ⟨cd,hc,hd'⟩:=PySem.W.any_some c.hd
 refine wpAny_bind (wpAny_pure (wpAny_bind (wpAny_bind (wpAny_loadPart hx (wpAny_bind (PySem.W.Looks.here (s:={ s with toks:=s.toks + 1 }) (PySem.W.looks_clsIn I.kIn hc) ?_))))))
 rw [hd']
 show wpAny _ _ (alloc PySem.W.emptyDict >>= fun d=>(update x fun o=>{ o with dict:=some d }) >>= fun _=>dictMade (.ref C) x d) _ _ _
 refine wpAny_bind (wpAny_alloc (wpAny_bind ?_))
 have hx1:(s.heap.push PySem.W.emptyDict).get? x=some ⟨.ref C,none,.fields vs,sl⟩:=Heap.get?_push_of_some _ hx
 have lx:x < s.heap.objs.size:=Heap.lt_size hx
 refine wpAny_update hx1 (wpAny_pure ?_)
 have e1:(s.heap.push PySem.W.emptyDict).get? s.heap.objs.size=some PySem.W.emptyDict:=Heap.get?_push_size s.heap rfl
 have e3:(s.heap.push PySem.W.emptyDict).Ns s.heap.objs.size (fun _=>none):=⟨PySem.W.emptyDict,#[],_,e1,rfl,(fun e he=>absurd he (by simp)),fun _=>rfl⟩
 generalize hg2:(s.heap.push PySem.W.emptyDict).update x (fun o=>{ o with dict:=some s.heap.objs.size })=h2
 have nx:s.heap.objs.size ≠ x:=Nat.ne_of_gt lx
 have k2:∀ b,b ≠ x→h2.get? b=(s.heap.push PySem.W.emptyDict).get? b:=fun b hb=>by rw [← hg2];exact Heap.get?_update_other _ _ (Ne.symm hb)
 have x2:h2.get? x=some ⟨.ref C,some s.heap.objs.size,.fields vs,sl⟩:=by rw [← hg2];exact Heap.get?_update_self _ hx1 rfl
 have n2:h2.Ns1 s.heap.objs.size (fun _=>none):=(Heap.Ns1.of_empty e3).at fun o q=>(k2 _ nx).trans q
 refine wpAny_bind (wpAny_pure (wpAny_bind ?_))
 refine wpAny_nsSet1 (s:={ s with heap:=h2,toks:=s.toks + 1 }) n2 fun h3 n3 s3=>?_
 have wi:PySem.Within (fun a=>if a=f then some u else none) [f]:=PySem.Within.cons f u (fun a ha=>absurd rfl ha)
 obtain ⟨oD,esD,epD,hoD,hdD,hcD⟩:=n3.count wi
 refine wpAny_bind (wpAny_lookBehind hoD (by rw [hdD];exact pastItsLine_dict (Nat.le_trans hcD (by rw [sizeLine_eq];show 1 ≤ _;decide))) ?_)
 refine wpAny_pure (h s.heap.objs.size _ (I.hok.fresh (Nat.le_refl _)) nx ?_)
 have k3:∀ b o,b ≠ x→s.heap.get? b=some o→h3.get? b=some o:=fun b o hb q=>
  (s3.2 b (fun z=>by rw [z] at q;exact absurd (Heap.lt_size q) (Nat.lt_irrefl _))).trans ((k2 b hb).trans (Heap.get?_push_of_some _ q))
 have x3:h3.get? x=some ⟨.ref C,some s.heap.objs.size,.fields vs,sl⟩:=(s3.2 x (Ne.symm nx)).trans x2
 generalize hgA:s.heap.update x (fun o=>{ o with dict:=some s.heap.objs.size })=hA
 have kA:∀ b,b ≠ x→hA.get? b=s.heap.get? b:=fun b hb=>by rw [← hgA];exact Heap.get?_update_other _ _ (Ne.symm hb)
 have xA:hA.get? x=some ⟨.ref C,some s.heap.objs.size,.fields vs,sl⟩:=by rw [← hgA];exact Heap.get?_update_self _ hx rfl
 have szA:hA.objs.size=s.heap.objs.size:=by rw [← hgA];exact Heap.size_update _ _ _
 have IA:=I.write (x:=x) (e:=x) (o:=.ext (XF x C (some s.heap.objs.size))) (h':=hA) (t':=s.toks) (by rw [e];exact True.intro) (.inl rfl) (fun b o hb q=>(kA b hb).trans q) ⟨_,xA⟩ (XF.ok ⟨vs,sl,xA,z1,z2⟩)
 refine IA.laid (a:=s.heap.objs.size) (h':=h3) (fun b o q=>?_) (Nat.le_of_eq szA) (XD.ok ⟨_,n3,fun g=>?_,wi⟩)
 ·by_cases hb:b=x
  ·subst hb;rw [xA] at q;rw [x3,← q]
  ·rw [kA b hb] at q;exact k3 b o hb q
 ·show aC (List.lookup g [(f,y)]) (if g=f then some u else none)
  by_cases hq:g=f
  ·rw [if_pos hq,hq,List.lookup_cons_self];exact ry
  ·rw [if_neg hq,List.lookup_cons,beq_false_of_ne hq];exact True.intro
theorem XO (I:Inv X pins σ H s) (e:H x=some (.ext (XF x C (some dx)))) (ed:H dx=some (.ext (XD dx fs))) (c:ZD X.K C) (n:Mb X.K C f) (hl:fs.length < 1000) (ry:cf y u)
  (h:∀ s',Inv X pins σ (upd H dx (.ext (XD dx (dj f y fs)))) s'→Q () s'):wpAny (model X.prog X.w) A (setAttr (.ref x) f u) Q E s:=by
 obtain ⟨vs,sl,hx,z1,z2⟩:=(show Ve X.prog X.w H s.heap x (.ext (XF x C (some dx))) from I.hok _ _ e).1
 obtain ⟨mA,n1,r,wi⟩:=(show Ve X.prog X.w H s.heap dx (.ext (XD dx fs)) from I.hok _ _ ed).1
 obtain ⟨od,ho,hlk⟩:=OA n1
 have J:PySem.W.InstAt s.heap x ⟨.ref C,some dx,.fields vs,sl⟩ C (some od):=⟨hx,rfl,rfl,ho⟩
 refine PySem.W.set_plain I.kIn J c.sa (d0 (s:={ s with toks:=s.toks + 1 }) I.kIn J c n ?_)
 obtain ⟨cd,hc,hd'⟩:=PySem.W.any_some c.hd
 refine wpAny_bind (wpAny_pure (wpAny_bind (wpAny_bind (wpAny_loadPart hx (wpAny_bind (PySem.W.Looks.here (s:={ s with toks:=s.toks + 1 }) (PySem.W.looks_clsIn I.kIn hc) ?_))))))
 rw [hd']
 refine wpAny_pure (a:=some dx) (wpAny_bind (wpAny_pure (wpAny_bind ?_)))
 refine wpAny_nsSet1 (s:={ s with toks:=s.toks + 1 }) n1 fun h3 n3 s3=>?_
 obtain ⟨oD,esD,epD,hoD,hdD,hcD⟩:=n3.count (PySem.Within.cons f u wi)
 refine wpAny_bind (wpAny_lookBehind hoD (by rw [hdD];exact pastItsLine_dict (Nat.le_trans hcD (by rw [List.length_cons,List.length_map,sizeLine_eq];omega))) ?_)
 refine wpAny_pure (h _ ?_)
 refine I.write (x:=dx) (e:=dx) (by rw [ed];exact True.intro) (.inl rfl) (fun b o hb q=>(s3.2 b hb).trans q) ⟨_,hoD⟩ (XD.ok ⟨_,n3,fun g=>?_,fun g hg=>?_⟩)
 ·show aC ((dj f y fs).lookup g) (if g=f then some u else mA g)
  rw [wt]
  by_cases q:g=f
  ·rw [if_pos q,if_pos q];exact ry
  ·rw [if_neg q,if_neg q];exact r g
 ·by_cases q:g=f
  ·rw [q];exact (Go f y fs).1
  ·refine (Go f y fs).2 g (wi g fun z=>hg ?_)
   show (if g=f then some u else mA g)=none
   rw [if_neg q];exact z
def XA (x C:Addr) (od:Option Addr):Heap→Prop:=fun h=>∃ vs sl,h.get? x=some ⟨.ref C,od,.fields vs,sl⟩
theorem XA.at {x C:Addr} {od:Option Addr} {h h':Heap} (z:XA x C od h) (k:∀ o,h.get? x=some o→h'.get? x=some o):XA x C od h':=let ⟨vs,sl,e⟩:=z;⟨vs,sl,k _ e⟩
theorem XA.ok {P:Program} {w:World} {H:Hp} {h:Heap} {x C:Addr} {od:Option Addr} (z:XA x C od h):Ve P w H h x (.ext (XA x C od)):=by
 obtain ⟨vs,sl,e⟩:=id z
 exact ⟨z,⟨_,e⟩,fun h1 h2 q k=>q.at k⟩
theorem A2 {b:Bool} {Q:Value→Shared→Prop} (I:Inv X pins σ H s) (e:H x=some (.ext (XA x C (some dx)))) (ed:H dx=some (.ext (XD dx fs))) (c:ZD X.K C) (n:Mb X.K C f) (l:fs.lookup f=some y)
  (h:∀ u s',Inv X pins σ H s'→cf y u→Q u s'):wpAny (model X.prog X.w) A (getAttr (.ref x) f b) Q E s:=by
 obtain ⟨vs,sl,hx⟩:=(show Ve X.prog X.w H s.heap x (.ext (XA x C (some dx))) from I.hok _ _ e).1
 obtain ⟨mA,n1,r,wi⟩:=(show Ve X.prog X.w H s.heap dx (.ext (XD dx fs)) from I.hok _ _ ed).1
 obtain ⟨od,ho,hlk⟩:=OA n1
 obtain ⟨u,hu,ru⟩:=aC.some_of (v:=y) (o:=mA f) (by rw [← l];exact r f)
 have J:PySem.W.InstAt s.heap x ⟨.ref C,some dx,.fields vs,sl⟩ C (some od):=⟨hx,rfl,rfl,ho⟩
 have fin:=h u _ (I.tok (s.toks + 1)) ru
 have KX:=I.kIn
 clear h
 obtain ⟨cd,hc,hd'⟩:=PySem.W.any_some c.hd
 obtain ⟨cd',hc',hov⟩:=PySem.W.any_some c.ov
 rw [hc] at hc'
 cases hc'
 have hh:=cG ru
 obtain ⟨hp,g,d,t,os⟩:=s
 have L0:=J.type (M:=model X.prog X.w)
 have L1:=PySem.W.looks_findIn (M:=model X.prog X.w) KX c.ga
 have L2:=PySem.W.looks_findIn (M:=model X.prog X.w) KX c.gt
 have L3:=PySem.W.looks_findIn (M:=model X.prog X.w) KX n
 have L4:=PySem.W.looks_own (M:=model X.prog X.w) (name:=f) (r:=some u) KX J hc (by unfold PySem.W.ownOf;rw [if_pos hd'];show PySem.W.lookIn f od=_;rw [hlk,hu])
 have FB:=PySem.F.excAttr_ValueError
 have f3:=FB.ga.bind (.ref x)
 have hx0:(b && onTheHeap (Value.builtin "BaseException.__getattribute__"))=false:=by cases b <;> rfl
 have hx2:(Value.builtin "BaseException.__getattribute__" == Value.builtin "object.__getattribute__")=false:=by decide +kernel
 have hx1:(onTheHeap (Value.ref C) && Value.builtin "BaseException.__getattribute__" == Value.builtin "object.__getattribute__")=false:=by rw [hx2];rfl
 unfold getAttr getAttrBy
 refine wpAny_bind (wpAny_mkText (wpAny_holding (wpAny_bind (L0.at (wpAny_bind (L1.at ?_))))))
 dsimp only
 rw [if_neg (by rw [hx1];decide)]
 unfold getAttrByItsOwn
 repeat (any_goals (first | assumption | with_reducible refine PySem.W.Looks.at (by assumption) ?_ | wp_step))
 have ne:cd.mro.isEmpty=false:=by
  cases q:cd.mro with
  | nil=>rw [q] at hov;cases hov
  | cons _ _=>rfl
 have sub:PySem.W.Looks (model X.prog X.w) hp (isInstance (.ref x) (.type "BaseException")) true:=
  L0.andThen (PySem.W.looks_mroIn KX (by unfold PySem.W.mroIn;rw [hc,Option.bind_some,if_neg (by rw [ne];decide),zB "BaseException" (by decide) hov]))
 refine codeAny_call_builtin FB.ga.plain PySem.F.entry_bexc_ga (@PySem.W.check_slot (model X.prog X.w) _ _ ⟨hp,g,d,t + 1,os⟩ "BaseException.__getattribute__" "BaseException" "__getattribute__" (.ref x) [.str f t] [] _ (by decide +kernel) (by decide +kernel) sub (PySem.F.args_bexc_ga (.ref x) (.str f t)) ?_)
 unfold Builtin.«object.__getattribute__»
 repeat (any_goals (first | assumption | with_reducible refine PySem.W.Looks.at (by assumption) ?_ | wp_step))
 show wpAny _ _ (handedOut u) _ _ _
 rw [PySem.W.handedOut_of hh]
 exact wpAny_pure fin
end
abbrev TJ:=St→Hp→(Hp→Prop)→Prop
def PJ (X:Cx) (es:List Expr) (n:Nat) (t:TJ):Prop:=
 ∀ (pins:List (Addr × Obj)) (s:Shared) (σ:St) (H:Hp) (Q:Hp→Prop) (acc:Str) (R:Str→Shared→Prop),Inv X pins σ H s→acc.length + n ≤ sizeLine→t σ H Q →
  (∀ out H' s',Inv X pins σ H' s'→out.length ≤ sizeLine→Q H'→R out s')→Joins (model X.prog X.w) X.A X.xe (evalEach es X.env) acc R s
def tJ0:TJ:=fun _ H Q=>Q H
def tJI (te:TE) (t:TJ):TJ:=fun σ H Q=>te σ H fun v H1=>∃ i,v=.int i∧i.natAbs.log2 < 1920∧t σ H1 Q
def tJS (te:TE) (t:TJ):TJ:=fun σ H Q=>te σ H fun v H1=>∃ x,v=.str x∧x.length ≤ 1000∧t σ H1 Q
def tJR (te:TE) (t:TJ):TJ:=fun σ H Q=>te σ H fun v H1=>∃ x,v=.str x∧x.length ≤ 1000∧(∀ c ∈ x.cps.toList,c < 16 ^ 8)∧t σ H1 Q
def qN (t:TJ):TE:=fun σ H Q=>t σ H fun H1=>∀ y:Str,Q (.str y) H1
section
variable {X:Cx} {e:Expr} {es:List Expr} {n:Nat} {t:TJ} {te:TE} {pos:Pos}
theorem eL:PJ X [] 0 tJ0:=fun pins s σ H Q acc R I hl q h=>h acc H s I hl q
theorem lj {c:Str} {k:Nat} (h:PJ X es n t):PJ X (.Constant (.str c) k pos :: es) (n + c.length) t:=fun pins s σ H Q acc R I hl q hR=>by
 show wpAny _ _ _ _ _ _
 refine Calls.Constant_str ⟨c,_,rfl,by rw [strLen_append];omega,h pins _ σ H Q _ R (I.tok _) (by rw [strLen_append];omega) q hR⟩
theorem vK (he:PE X e te) (h:PJ X es n t):PJ X (.FormattedValue e (-1) none pos :: es) (n + 2000) (tJI te t):=fun pins s σ H Q acc R I hl q hR=>by
 show wpAny _ _ _ _ _ _
 refine wpAny_FormattedValue_plain (thn (he pins s σ H _ I q) fun u s1 ⟨v,H1,I1,r,i,ev,hi,q1⟩=>?_)
 subst ev
 obtain ⟨tk,rfl⟩:=(show ∃ tk,u=Value.int i tk from r)
 have hz:=int_text_fits hi
 have hz2:(Str.ofString (toString i)).length ≤ 2000:=by
  have e:=int_text_length_le (k:=1920) (by decide) hi
  rw [PySem.ofString_length];omega
 refine wpAny_formatField_int hi ⟨_,_,rfl,by rw [strLen_append];omega,h pins _ σ H1 Q _ R (I1.tok _) (by rw [strLen_append];omega) q1 hR⟩
theorem zE (he:PE X e te) (h:PJ X es n t):PJ X (.FormattedValue e 114 none pos :: es) (n + 11000) (tJR te t):=fun pins s σ H Q acc R I hl q hR=>by
 show wpAny _ _ _ _ _ _
 refine wpAny_FormattedValue_repr (thn (he pins s σ H _ I q) fun u s1 ⟨v,H1,I1,r,x,ev,hx,hc,q1⟩=>?_)
 subst ev
 obtain ⟨tk,rfl⟩:=(show ∃ tk,u=Value.str x tk from r)
 have hz:=PySem.StrLaws.reprText_len x hc
 refine wpAny_pyReprObj_str ?_ (by rw [sizeLine_eq];omega)
 exact formatField_str (fun t' tk'=>⟨_,_,rfl,by rw [strLen_append];omega,h pins _ σ H1 Q _ R ((I1.tok _).tok _) (by rw [strLen_append];omega) q1 hR⟩) (by rw [sizeLine_eq];omega)
theorem Nu {e2:Expr} (h:PJ X (e :: e2 :: es) n t) (hn:n ≤ sizeLine):PE X (.JoinedStr (e :: e2 :: es) pos) (qN t):=by
 intro pins s σ H Q I q
 refine wpAny_JoinedStr (h pins s σ H _ _ _ I (by show 0 + n ≤ _;omega) q fun out H' s' I' hl q'=>⟨hl,?_⟩)
 exact ⟨.str out,H',I'.tok _,⟨_,rfl⟩,q' out⟩
end
structure y0 (K:PySem.W.Frag) (L:Addr) (m:Str):Prop where
 rd:PySem.W.readsIn K L (.type "type")=true
 fd:PySem.W.findCls K (.ref L) (.type "type") m=some (.val (.builtin "ValueError.__init__"))
 ga:PySem.W.specialIn K (.ref L) "__getattribute__"=some (some (.builtin "type.__getattribute__"))
def jT (K:PySem.W.Frag) (t:TA):TE:=fun σ H Q=>t σ H fun vs H1=>∃ x C od v,vs=[.ref x,v]∧H1 x=some (.ext (XF x C od))∧ZD K C∧Q .non H1
section
variable {X:Cx} {L:Addr} {x:Str} {p pos apos:Pos} {e:Expr} {es:List Expr} {t:TA}
theorem dN {pins:List (Addr × Obj)} {σ:St} {H:Hp} {s:Shared} {a C:Addr} {od:Option Addr} {u:Value} {A:Around} {E:Value→Shared→Prop} {Q:Value→Shared→Prop} (I:Inv X pins σ H s) (ea:H a=some (.ext (XF a C od))) (c:ZD X.K C)
  (h:∀ s',Inv X pins σ H s'→Q .none s'):wpAny (model X.prog X.w) A (call (.builtin "ValueError.__init__") [.ref a,u]) Q E s:=by
 obtain ⟨vs,sl,hx,z1,z2⟩:=(show Ve X.prog X.w H s.heap a (.ext (XF a C od)) from I.hok _ _ ea).1
 obtain ⟨fI,hfI⟩:=c.ex
 obtain ⟨tl,N,nm,q,bs,sn,sub,ab,co,dd,k0,k1,k2,k3,k5,mN,hC,hN,hi,T⟩:=nE I.kIn hfI
 have F:=PySem.F.excBase_ValueError
 obtain ⟨v0,h0⟩:∃ v0,vs[0]? = some v0:=⟨vs[0]'(by omega),Array.getElem?_eq_getElem (by omega)⟩
 obtain ⟨hh,g,d,tt,os⟩:=s
 refine wpAny_call (codeAny_call_builtin F.init.plain F.initEntry (wpAny_check_init_subT F T hC hx rfl ?_))
 show wpAny _ _ (newTuple [u] >>= fun tp=>(do
  let old ← field (.ref a) 0
  setField (.ref a) 0 tp
  if let .ref _:=old then letGo [old] []) >>= fun _=>ret .none) _ _ _
 have hx1:(hh.push { cls:=.type "tuple",data:=.seq [u].toArray }).get? a=some ⟨.ref C,od,.fields vs,sl⟩:=Heap.get?_push_of_some _ hx
 refine wpAny_bind (wpAny_newTuple (wpAny_bind (wpAny_bind (wpAny_field hx1 rfl h0 (wpAny_bind (wpAny_setField hx1 rfl (by omega) ?_))))))
 have x2:=Heap.get?_update_self (h:=hh.push { cls:=.type "tuple",data:=.seq [u].toArray }) (Obj.mapFields (·.setIfInBounds 0 (.ref hh.objs.size))) hx1 rfl
 have fin:∀ s',s'=(⟨(hh.push { cls:=.type "tuple",data:=.seq [u].toArray }).update a (Obj.mapFields (·.setIfInBounds 0 (.ref hh.objs.size))),g,d,tt,os⟩:Shared)→Q .none s':=by
  rintro s' rfl
  refine h _ ?_
  have I1:Inv X pins σ H ⟨hh.push { cls:=.type "tuple",data:=.seq [u].toArray },g,d,tt,os⟩:=I.kept (t':=tt) fun b o q=>Heap.get?_push_of_some _ q
  have:=I1.write (x:=a) (e:=a) (o:=.ext (XF a C od)) (h':=(hh.push { cls:=.type "tuple",data:=.seq [u].toArray }).update a (Obj.mapFields (·.setIfInBounds 0 (.ref hh.objs.size)))) (t':=tt) (by rw [ea];exact True.intro) (.inl rfl)
   (fun b o hb q=>(Heap.get?_update_other _ _ (Ne.symm hb)).trans q) ⟨_,x2⟩ (XF.ok ⟨vs.setIfInBounds 0 (.ref hh.objs.size),sl,x2,by simpa using z1,by rw [Array.getElem?_setIfInBounds_ne (by decide)];exact z2⟩)
  rwa [YS ea] at this
 cases v0 with
 | ref b=>exact wpAny_bind (wpAny_holding (wpAny_point (wpAny_pure (wpAny_pure (fin _ rfl)))))
 | _=>exact wpAny_pure (wpAny_pure (fin _ rfl))
theorem az {pl:Sem Bool} {m:Str} (hg:Gl X x) (hm:X.mg x=some (.ref L)) (c:y0 X.K L m) (ha:PA X (e :: es) t)
  (hdb:(x == ("__debug__" : Str))=false:=by decide) (hst:starEach (e :: es) X.env=(false,eval e X.env) :: starEach es X.env:=by rfl) (hpl:(backTo pos (starEach es X.env)).any (·.1)=false:=by rfl)
  (ht:eval (.Call (.Attribute (.Name x p) m apos) (e :: es) [] pos) X.env=(do
   let ov ← eval (.Name x p) X.env
   standAt apos.atName
   let (f,first) ← holding [ov] (getMethod ov m pl)
   callWith pos f first (backTo pos (starEach (e :: es) X.env)) (backToKw pos (keywordEach [] X.env))):=by rfl) :
  PE X (.Call (.Attribute (.Name x p) m apos) (e :: es) [] pos) (jT X.K t):=by
 intro pins s σ H Q I h
 refine PySem.W.methodCall_KW (pl:=pl) (lp I hg hm ?_ hdb) ht
 refine PySem.W.method_cls I.kIn c.ga (PySem.W.cls_value I.kIn c.rd c.fd rfl ?_)
 refine PyProof.Rows.callWith_builtin1 (thn (ha pos pins _ σ H _ (I.tok (s.toks + 1)) h) fun us s2 ⟨vs,H2,I2,r,a,C,od,v,ev,ea,cc,q⟩=>?_) hst hpl
 subst ev
 obtain ⟨u1,u2,rfl,r1,r2⟩:=xR r
 obtain rfl:u1=Value.ref a:=r1
 exact dN I2 ea cc fun s3 I3=>⟨.non,H2,I3,rfl,q⟩
end
structure MkX (K:PySem.W.Frag) (C fI:Addr):Prop where
 e:Jv K C fI=true
 fn:PySem.W.typeIn K (.ref fI)=some (.type "function")
 kp:PySem.W.keepIn K (.ref C)=true
def AT (C:Addr) (sp:Sp) (t:TA):TE:=fun σ H Q=>t σ H fun vs H1=>vs.length ≤ sizeLine∧∀ x,H1 x=none→sp (.ref x :: vs) (upd H1 x (.ext (XF x C none))) (fun v H2=>v=.non∧Q (.ref x) H2) (fun _ _ _=>False)
def vT (K:PySem.W.Frag) (ta tv:TE) (f:Str):TS:=fun D σ H=>tv σ H fun y H1=>ta σ H1 fun x H2=>∃ a C,x=.ref a∧H2 a=some (.ext (XF a C none))∧ZD K C∧Mb K C f ∧
 ∀ dx,H2 dx=none→dx ≠ a→D.nx σ (upd (upd H2 a (.ext (XF a C (some dx)))) dx (.ext (XD dx [(f,y)])))
def SS (K:PySem.W.Frag) (ta tv:TE) (f:Str):TS:=fun D σ H=>tv σ H fun y H1=>ta σ H1 fun x H2=>∃ a C dx fs,x=.ref a∧H2 a=some (.ext (XF a C (some dx)))∧H2 dx=some (.ext (XD dx fs))∧ZD K C∧Mb K C f∧fs.length < 1000 ∧
 D.nx σ (upd H2 dx (.ext (XD dx (dj f y fs))))
def lX (K:PySem.W.Frag) (ta:TE) (f:Str):TE:=fun σ H Q=>ta σ H fun x H1=>∃ a C dx fs v,x=.ref a∧H1 a=some (.ext (XA a C (some dx)))∧H1 dx=some (.ext (XD dx fs))∧ZD K C∧Mb K C f∧fs.lookup f=some v∧Q v H1
section
variable {X:Cx} {k:Nat} {f C:Addr} {fd:FuncData} {ps:List Str} {sp:Sp} {x g:Str} {p pos pos' apos:Pos} {e o value:Expr} {es:List Expr} {ta tv:TE} {t:TA}
theorem tO {pins:List (Addr × Obj)} {σ:St} {H:Hp} {s:Shared} {Q:VK} {us:List Value} {vs:List V} (M:MkX X.K C f) (F:Nb X.prog X.w X.K X.mg X.base (fun _ _ _ _ _ _=>False) k f fd ps sp) (hr:Hm (k + 1) X.A) (hb:gc X.K fd ps [])
  (I:Inv X pins σ H s) (r:Ae vs us) (hz:vs.length ≤ sizeLine) (h:∀ x,H x=none→sp (.ref x :: vs) (upd H x (.ext (XF x C none))) (fun v H2=>v=.non∧Q (.ref x) H2) (fun _ _ _=>False)) :
  wpAny (model X.prog X.w) X.A (call (.ref C) us) (EP X pins σ Q) X.xe s:=by
 obtain ⟨hh,g,d,tt,os⟩:=s
 refine wpAny_call (ZO (fI:=f) I.kIn M.e M.fn (by rw [← r.length];exact hz) fun h' x hx Mx=>?_)
 obtain ⟨tp,ox,_,_⟩:=Mx.there
 have I2:=I.laid (a:=x) (o:=.ext (XF x C none)) (h':=h') (t':=tt) Mx.keeps hx (XF.ok ⟨_,_,ox,Nat.lt_of_lt_of_eq (show 1 < 6 by decide) rfl,rfl⟩)
 have hq:=h x (I.hok.fresh hx)
 have r2:Ae (V.ref x :: vs) (Value.ref x :: us):=.cons rfl r
 have hl:((Value.ref x :: us) ++ []).length=ps.length:=by
  rw [List.append_nil,← r2.length]
  exact F.len _ _ _ _ hq
 have hb2:=hb ⟨h',g,d,tt,os⟩ (Value.ref x :: us) I2.kIn hl
 rw [List.append_nil] at hb2
 refine codeAny_mono (F.run _ X.stack _ _ ⟨Value.ref x :: us,[]⟩ (Value.ref x :: us) _ _ _ (hr.make C us []) (I2.env0.make C us []) hb2 r2 hq) fun r s' hq'=>?_
 rcases r with e | (u | _ | _ | _) <;> first | exact False.elim hq' | skip
 obtain ⟨v,H',I3,rv,ev,q3⟩:=I2.after hq'
 subst ev
 exact ⟨rv,⟨V.ref x,H',I3,rfl,q3⟩⟩
theorem cz (M:MkX X.K C f) (F:Nb X.prog X.w X.K X.mg X.base (fun _ _ _ _ _ _=>False) k f fd ps sp) (hr:Hm (k + 1) X.A) (hg:Gl X x) (hm:X.mg x=some (.ref C)) (hb:gc X.K fd ps [])
  (ha:PA X (e :: es) t) (hdb:(x == ("__debug__" : Str))=false:=by decide) (he:starEach (e :: es) X.env=(false,eval e X.env) :: starEach es X.env:=by rfl) (hpl:(backTo pos (starEach es X.env)).any (·.1)=false:=by rfl) :
  PE X (.Call (.Name x p) (e :: es) [] pos) (AT C sp t):=by
 intro pins s σ H Q I h
 refine wpAny_Call_Name_kw (lp I hg hm ?_ hdb)
 exact PySem.W.callWith_K (h₀:=X.base) I.ok.mod.kin M.kp (thn (ha pos pins s σ H _ I h) fun us s1 ⟨vs,H1,I1,r,hz,q⟩=>⟨I1.kIn,tO M F hr hb I1 r hz q⟩) he hpl
theorem iz (ha:PE X o ta) (hv:PE X value tv) (hs:swapsWith value (some (.Attribute o g pos')) pos.line X.env=pure false):PS X (.Assign [.Attribute o g pos'] value pos) (vT X.K ta tv g):=by
 intro pins s σ H D I h
 refine plainObj_wpAny_Assign_Attribute (thn (hv pins s σ H _ I h) fun u s1 ⟨y,H1,I1,ry,q⟩=>thn (ha pins s1 σ H1 _ I1 q) fun ov s2 ⟨x,H2,I2,rx,a,C,ex,ea,c,n,q2⟩=>?_) hs
 subst ex
 obtain rfl:ov=Value.ref a:=rx
 exact VR I2 ea c n ry fun dx s3 hd hne I3=>⟨σ,_,I3,q2 dx hd hne⟩
theorem gz (ha:PE X o ta) (hv:PE X value tv) (hs:swapsWith value (some (.Attribute o g pos')) pos.line X.env=pure false):PS X (.Assign [.Attribute o g pos'] value pos) (SS X.K ta tv g):=by
 intro pins s σ H D I h
 refine plainObj_wpAny_Assign_Attribute (thn (hv pins s σ H _ I h) fun u s1 ⟨y,H1,I1,ry,q⟩=>thn (ha pins s1 σ H1 _ I1 q) fun ov s2 ⟨x,H2,I2,rx,a,C,dx,fs,ex,ea,ed,c,n,hl,q2⟩=>?_) hs
 subst ex
 obtain rfl:ov=Value.ref a:=rx
 exact XO I2 ea ed c n hl ry fun s3 I3=>⟨σ,_,I3,q2⟩
theorem HP (he:PE X e ta) (hb:attributeBase e g X.env (eval e X.env)=eval e X.env):PE X (.Attribute e g pos) (lX X.K ta g):=by
 intro pins s σ H Q I h
 refine rO hb (thn (he pins s σ H _ I h) fun u s1 ⟨x,H1,I1,rx,a,C,dx,fs,v,ex,ea,ed,c,n,l,q⟩=>?_)
 subst ex
 obtain rfl:u=Value.ref a:=rx
 exact A2 I1 ea ed c n l fun u s2 I2 ru=>⟨v,H1,I2,ru,q⟩
end
end L2
namespace L2
open PySem PySem.Spec PyProof.Rows PySem.Builtin PySem.Builtin.ObjectAttr
def FlA (x C:Addr) (od:Option Addr) (T:Addr) (fl:Value) (h:Heap):Prop:=
 T ≠ x∧∃ vs sl oT ts,h.get? x=some ⟨.ref C,od,.fields vs,sl⟩∧vs[1]? = some (.ref T)∧h.get? T=some oT∧oT.data=.fields ts∧ts[3]? = some fl
theorem FlA.xa {x C T:Addr} {od:Option Addr} {fl:Value} {h:Heap} (z:FlA x C od T fl h):XA x C od h:=let ⟨_,vs,sl,_,_,e,_⟩:=z;⟨vs,sl,e⟩
structure Kp (fs:List Addr) (x:Addr) (To:Option Addr) (h h':Heap):Prop where
 keep:∀ b o,h.get? b=some o→b ∉ fs→b ≠ x→some b ≠ To→h'.get? b=some o
 slot:∀ b o,h.get? b=some o→b ∈ fs→∃ sl,h'.get? b=some { o with slots:=sl }
 there:∀ b o,h.get? b=some o→∃ o',h'.get? b=some o'
section
variable {M:Model} {A:Around} {E:Value→Shared→Prop} {s:Shared}
theorem nofr {base h:Heap} {l:List Env} {b:Addr} {o:Obj} {vs:Array Value} (hl:h.FunFrames base l) (e:h.get? b=some o) (d:o.data=.fields vs):b ∉ frs l:=fun hm=>by
 obtain ⟨_,o',e',nf⟩:=hl.mem hm
 rw [e] at e'
 cases e'
 exact nf vs d
theorem TR {env env':Env} {L:Addr} (hf:env.frame=some L) (hf':env'.frame=some L):PySem.frameOf env'=PySem.frameOf env:=by
 unfold PySem.frameOf
 rw [hf',hf]
theorem CT {base:Heap} {env env':Env} {outer:List Env} {L x C:Addr} {od:Option Addr} {vs:Array Value} {sl:Array (Option Value)} {head:Value} {hn:Bool} {Q:Unit→Shared→Prop}
  (hfr:A.frames=some (env :: outer)) (hl:s.heap.FunFrames base (env :: outer)) (hf:env.frame=some L) (hf':env'.frame=some L) (he:s.heap.get? x=some ⟨.ref C,od,.fields vs,sl⟩) (hz:1 < vs.size)
  (h:∀ h' T,Kp (frs (env :: outer)) x none s.heap h'→s.heap.objs.size ≤ T→FlA x C od T (rawInt L) h'→Q () { s with heap:=h' }) :
  wpAny M A (do let a ← PySem.frameOf env';let pl ← entryPlaceOf L hn;let b ← EntryCells.newEntry head a .none (rawInt L) .none pl;setField (.ref x) 1 b) Q E s:=by
 have nx:x ∉ frs (env :: outer):=nofr hl he rfl
 rw [TR hf hf']
 refine wpAny_bind (wpAny_frameOf_fun hfr hl hf fun h1 S=>wpAny_bind (wpAny_entryPlaceOf fun pl hp=>?_))
 unfold EntryCells.newEntry newFields
 refine wpAny_bind (wpAny_newObj_type ?_ (hp.sizeOk5 _ _ _ _ _))
 have e1:h1.get? x=some ⟨.ref C,od,.fields vs,sl⟩:=(S.2.1 x nx).trans he
 obtain ⟨ts,hts,h3⟩:∃ ts:Array Value,([head,.ref L,.none,rawInt L,.none] ++ (if pl.isEmpty then List.replicate 6 Value.none else pl)).toArray=ts∧ts[3]? = some (rawInt L):=⟨_,rfl,by simp⟩
 rw [hts]
 have e2:=Heap.get?_push_of_some (h:=h1) { cls:=.type "traceback",dict:=none,data:=.fields ts } e1
 have ne:h1.objs.size ≠ x:=Nat.ne_of_gt (Heap.lt_size e1)
 have sz:h1.objs.size=s.heap.objs.size:=S.1
 refine wpAny_setField e2 rfl hz (h _ h1.objs.size ⟨fun b o q n1 n2 _=>?_,fun b o q n1=>?_,fun b o q=>?_⟩ (Nat.le_of_eq sz.symm) ⟨ne,vs.setIfInBounds 1 (.ref h1.objs.size),sl,{ cls:=.type "traceback",dict:=none,data:=.fields ts },ts,Heap.get?_update_self _ e2 rfl,by simp [hz],?_,rfl,h3⟩)
 ·rw [Heap.get?_update_other _ _ (Ne.symm n2)]
  exact Heap.get?_push_of_some _ ((S.2.1 b n1).trans q)
 ·obtain ⟨sl',e3⟩:=S.2.2 b o q
  have nb:x ≠ b:=fun z=>nx (by rw [z];exact n1)
  exact ⟨sl',(Heap.get?_update_other _ _ nb).trans (Heap.get?_push_of_some _ e3)⟩
 ·by_cases hb:b=x
  ·rw [hb];exact ⟨_,Heap.get?_update_self _ e2 rfl⟩
  ·obtain ⟨sl',e3⟩:=S.2.2 b o q
   exact ⟨_,by rw [Heap.get?_update_other _ _ (Ne.symm hb)];exact Heap.get?_push_of_some _ e3⟩
 ·exact (Heap.get?_update_other _ _ (Ne.symm ne)).trans (Heap.get?_push_size h1 rfl)
theorem uL {base:Heap} {env env':Env} {outer:List Env} {L x C:Addr} {od:Option Addr} {vs:Array Value} {sl:Array (Option Value)} {Q:Unit→Shared→Prop}
  (hfr:A.frames=some (env :: outer)) (hl:s.heap.FunFrames base (env :: outer)) (hf:env.frame=some L) (hf':env'.frame=some L) (he:s.heap.get? x=some ⟨.ref C,od,.fields vs,sl⟩) (h1:vs[1]? = some .none)
  (h:∀ h' T,Kp (frs (env :: outer)) x none s.heap h'→s.heap.objs.size ≤ T→FlA x C od T (rawInt L) h'→Q () { s with heap:=h' }) :
  wpAny M A (noteFrame (.ref x) env') Q E s:=by
 unfold noteFrame
 simp only [hf']
 refine wpAny_bind (wpAny_field he rfl h1 ?_)
 rw [if_neg (by decide)]
 exact CT hfr hl hf hf' he (Array.getElem?_eq_some_iff.mp h1).1 h
theorem kO {base:Heap} {env env':Env} {outer:List Env} {L x C T:Addr} {od:Option Addr} {fl:Value} {Q:Unit→Shared→Prop}
  (hfr:A.frames=some (env :: outer)) (hl:s.heap.FunFrames base (env :: outer)) (hf:env.frame=some L) (hf':env'.frame=some L) (z:FlA x C od T fl s.heap) (hne:¬ (fl == rawInt L)=true)
  (h:∀ h' T',Kp (frs (env :: outer)) x (some T) s.heap h'→s.heap.objs.size ≤ T'→FlA x C od T' (rawInt L) h'→Q () { s with heap:=h' }) :
  wpAny M A (noteFrame (.ref x) env') Q E s:=by
 obtain ⟨ne,vs,sl,oT,ts,he,h1,hT,hd,h3⟩:=z
 unfold noteFrame
 simp only [hf']
 refine wpAny_bind (wpAny_field he rfl h1 ?_)
 rw [if_pos (show (Value.ref T != Value.none)=true from by simp)]
 refine wpAny_bind (wpAny_field hT hd h3 ?_)
 rw [if_neg hne]
 refine wpAny_bind (wpAny_setField hT hd (Array.getElem?_eq_some_iff.mp h3).1 ?_)
 have nT:T ∉ frs (env :: outer):=nofr hl hT hd
 have oth:∀ b,b ≠ T→(s.heap.update T (Obj.mapFields (·.setIfInBounds 3 Value.none))).get? b=s.heap.get? b:=fun b hb=>Heap.get?_update_other _ _ (Ne.symm hb)
 have tT:∃ o',(s.heap.update T (Obj.mapFields (·.setIfInBounds 3 Value.none))).get? T=some o':=⟨_,Heap.get?_update_self _ hT (Obj.isFreed_of_fields (Obj.data_mapFields hd _))⟩
 have hl2:(s.heap.update T (Obj.mapFields (·.setIfInBounds 3 Value.none))).FunFrames base (env :: outer):=hl.of_keeps fun b o e nf=>⟨o,(oth b fun q=>by rw [q,hT] at e;cases e;exact nf ts hd).trans e,rfl⟩
 refine CT (s:={ s with heap:=s.heap.update T (Obj.mapFields (·.setIfInBounds 3 Value.none)) }) hfr hl2 hf hf' ((oth x (Ne.symm ne)).trans he) (Array.getElem?_eq_some_iff.mp h1).1 fun h' T' k w f=>h h' T' ⟨fun b o q n1 n2 n3=>?_,fun b o q n1=>?_,fun b o q=>?_⟩ ?_ f
 ·exact k.keep b o ((oth b fun y=>n3 (by rw [y])).trans q) n1 n2 (fun y=>by cases y)
 ·exact k.slot b o ((oth b fun y=>nT (y ▸ n1)).trans q) n1
 ·by_cases hb:b=T
  ·subst hb
   obtain ⟨o',e'⟩:=tT
   exact k.there _ _ e'
  ·exact k.there b o ((oth b hb).trans q)
 ·exact Nat.le_trans (Nat.le_of_eq (Heap.size_update _ _ _).symm) w
theorem flight {x C T:Addr} {od:Option Addr} {fl:Value} {fs:List Addr} {Q:Unit→Shared→Prop} (o:Option Addr) (z:FlA x C od T fl s.heap) (nT:T ∉ fs)
  (h:∀ h',Kp fs x (some T) s.heap h'→FlA x C od T (o.elim .none fun f=>rawInt f) h'→Q () { s with heap:=h' }):wpAny M A (setFlight (.ref x) o) Q E s:=by
 obtain ⟨ne,vs,sl,oT,ts,he,h1,hT,hd,h3⟩:=z
 have z3:3 < ts.size:=(Array.getElem?_eq_some_iff.mp h3).1
 have oth:∀ b,b ≠ T→(s.heap.update T (Obj.mapFields (·.setIfInBounds 3 (o.elim Value.none fun f=>rawInt f)))).get? b=s.heap.get? b:=fun b hb=>Heap.get?_update_other _ _ (Ne.symm hb)
 have tT:=Heap.get?_update_self (Obj.mapFields (·.setIfInBounds 3 (o.elim Value.none fun f=>rawInt f))) hT (Obj.isFreed_of_fields (Obj.data_mapFields hd _))
 unfold setFlight
 refine wpAny_bind (wpAny_field he rfl h1 ?_)
 rw [if_pos (show (Value.ref T != Value.none)=true from by simp)]
 refine wpAny_setField hT hd z3 (h _ ⟨fun b o q _ _ n3=>(oth b fun y=>n3 (by rw [y])).trans q,fun b o q n1=>⟨o.slots,(oth b fun y=>nT (y ▸ n1)).trans q⟩,fun b o q=>?_⟩
  ⟨ne,vs,sl,_,_,(oth x (Ne.symm ne)).trans he,h1,tT,Obj.data_mapFields hd _,by simp [z3]⟩)
 by_cases hb:b=T
 ·subst hb;exact ⟨_,tT⟩
 ·exact ⟨o,(oth b hb).trans q⟩
end
section
variable {P:Program} {w:World} {H:Hp} {h h':Heap} {fs:List Addr} {x C T:Addr} {od:Option Addr} {fl:Value} {To:Option Addr} {o:HO}
theorem Kp.hok (k:Kp fs x To h h') (ok:HOk P w H h) (hfs:∀ b ∈ fs,H b=none) (hT:∀ t,To=some t→H t=none) (mu:Mut (H x)) (new:XA x C od h'):HOk P w (upd H x (.ext (XA x C od))) h':=fun b u q=>by
 have nown:∀ c y,H c=some (.own y)→c ≠ x:=fun c y r z=>by subst z;rw [r] at mu;exact mu
 have ntup:∀ c xs,H c=some (.tup xs)→c ≠ x:=fun c xs r z=>by subst z;rw [r] at mu;exact mu
 have kk:∀ c v,c ≠ x→H c ≠ none→h.get? c=some v→h'.get? c=some v:=fun c v n1 n2 r=>k.keep c v r (fun z=>n2 (hfs c z)) n1 fun z=>n2 (hT c z.symm)
 by_cases hb:b=x
 ·subst hb;rw [fb] at q;cases q;exact new.ok
 ·rw [rb hb] at q
  refine (ok b u q).stay (fun c v hc r=>?_) (fun c r=>by rw [rb (nown c b r)];exact r) fun c xs r=>by rw [rb (ntup c xs r)];exact r
  rcases hc with rfl | hc
  ·exact kk c v hb (by rw [q];exact fun z=>by cases z) r
  ·exact kk c v (nown c b hc) (by rw [hc];exact fun z=>by cases z) r
theorem Kp.un (k:Kp fs x To h h') (hT:∀ t,To=some t→H t=none) (mu:Mut (H x)):Un fs To.toList H (upd H x o) h h':=by
 have hx:∀ b,H b=none→b ≠ x:=fun b n z=>by subst z;rw [n] at mu;exact mu
 have hm:∀ b u,H b=some u→¬ Mut (some u)→b ≠ x:=fun b u q nm z=>by subst z;rw [q] at mu;exact nm mu
 refine ⟨fun b u q n n1 n2=>k.keep b u q n1 (hx b n) fun z=>n2 (by rw [← z];simp),fun b u q n n1 n2=>k.slot b u q n1,fun b u q n _=>by rw [rb (hx b n)];exact n,fun b u q _=>k.there b u q,
  fun b xs q=>by rw [rb (hm b _ q fun z=>z)];exact q,fun b u xs q=>by rw [rb (hm b _ q fun z=>z)];exact q,fun b ps q=>⟨#[],by rw [rb (hm b _ q fun z=>z),q];simp⟩⟩
end
def CX1 (P:Program) (w:World):CXT:=fun outer H s E e s'=>
 ∃ x C od H' T,e=.ref x∧s'.os=s.os∧AllBare s'.gens∧Un (frs outer) [] H H' s.heap s'.heap∧HOk P w H' s'.heap∧H' x=some (.ext (XA x C od))∧s.heap.objs.size ≤ T∧H' T=none∧FlA x C od T .none s'.heap∧E (.ref C) od H'
def PN (X:Cx) (E:St→XK):Prop:=∀ (pins:List (Addr × Obj)) (σ:St) (H:Hp) (s:Shared) (x C:Addr) (od:Option Addr),Inv X pins σ H s→H x=some (.ext (XF x C od))→E σ (.ref C) od (upd H x (.ext (XA x C od)))→X.xe (.ref x) s
def OJ (CX:CXT) (X:Cx) (E:St→XK):Prop:=∀ (pins:List (Addr × Obj)) (σ:St) (H:Hp) (s:Shared) (e:Value) (s':Shared),Inv X pins σ H s→CX X.stack H s (E σ) e s'→X.xe e s'
structure Fr1 (X:Cx):Prop where
 st:X.stack=X.env :: X.outer
 fr:X.env.frame=some X.env.locals
def zY (X:Cx) (pins:List (Addr × Obj)) (T:Addr):Prop:=(T ∈ X.ex∨X.s₀.heap.objs.size ≤ T)∧T ≠ X.env.locals∧(∀ x c,X.env.cells.lookup x=some c→c ≠ T)∧∀ p ∈ X.pn ++ pins,p.1 ≠ T
def ZM (X:Cx) (pins:List (Addr × Obj)) (E:St→XK) (fl:Value) (e:Value) (s':Shared):Prop:=
 ∃ σ' H' x C od T,e=.ref x∧Inv X pins σ' H' s'∧H' x=some (.ext (XA x C od))∧H' T=none∧zY X pins T∧FlA x C od T fl s'.heap∧E σ' (.ref C) od H'
def xeR (X:Cx) (pins:List (Addr × Obj)) (E:St→XK) (e:Value) (s':Shared):Prop:=
 ∃ σ' H' x C od,e=.ref x∧Inv X pins σ' H' s'∧H' x=some (.ext (XF x C od))∧E σ' (.ref C) od (upd H' x (.ext (XA x C od)))
def xeT (X:Cx) (pins:List (Addr × Obj)) (E:St→XK) (e:Value) (s':Shared):Prop:=xeR X pins E e s'∨∃ fl,ZM X pins E fl e s'
def xeA (X:Cx) (E:St→XK) (e:Value) (s':Shared):Prop:=∃ pins,xeT X pins E e s'
section
variable {X:Cx} {pins:List (Addr × Obj)} {σ:St} {H:Hp} {s:Shared} {T x C:Addr} {od:Option Addr} {E:St→XK} {M:Model} {A:Around} {E':Value→Shared→Prop} {Q:Unit→Shared→Prop} {e fl:Value} {h':Heap}
theorem aZ (I:Inv X pins σ H s) (hT:s.heap.objs.size ≤ T):zY X pins T:=by
 have lt:∀ {b:Addr} {o:Obj},s.heap.get? b=some o→b ≠ T:=fun q z=>by
  subst z
  exact absurd (Nat.lt_of_lt_of_le (Heap.lt_size q) hT) (Nat.lt_irrefl _)
 refine ⟨.inr (Nat.le_trans I.sz hT),fun z=>?_,fun x c e=>?_,fun p hp=>lt (I.pin p hp).1⟩
 ·obtain ⟨m,⟨o,es,ep,ho,_⟩,_⟩:=I.loc
  exact lt ho z.symm
 ·obtain ⟨v,o,ho,_⟩:=I.cell x c e
  exact lt ho
theorem GV (I:Inv X pins σ H s) (k:Kp (frs X.stack) x (some T) s.heap h') (ex:H x=some (.ext (XA x C od))) (eT:H T=none) (nT:zY X pins T) (xa:XA x C od h'):Inv X pins σ H { s with heap:=h' }:=by
 have mu:Mut (H x):=by rw [ex];exact True.intro
 have z:∀ t,some T=some t→H t=none:=fun t z=>by cases z;exact eT
 have u1:=k.un (H:=H) (o:=.ext (XA x C od)) z mu
 have k1:=k.hok I.hok I.stkFree z mu xa
 rw [YS ex] at u1 k1
 exact I.call' (s':={ s with heap:=h' }) (ch:=[T]) rfl u1 k1 I.bare fun b hb=>by
  obtain rfl:b=T:=by simpa using hb
  exact nT
theorem GS (F:Fr1 X) (I:Inv X pins σ H s) (k:Kp (frs (X.env :: X.outer)) x (some T) s.heap h') (ex:H x=some (.ext (XA x C od))) (eT:H T=none) (nT:zY X pins T) (xa:XA x C od h'):Inv X pins σ H { s with heap:=h' }:=
 GV I (by rw [F.st];exact k) ex eT nT xa
theorem ZM.note (F:Fr1 X) (q:ZM X pins E fl e s) (hne:¬ (fl == rawInt X.env.locals)=true) (h:∀ s',ZM X pins E (rawInt X.env.locals) e s'→Q () s'):wpAny M X.A (noteFrame e X.env) Q E' s:=by
 obtain ⟨σ,H,x,C,od,T,rfl,I,ex,eT,nT,f,w⟩:=q
 have fs:s.heap.FunFrames X.base (X.env :: X.outer):=by rw [← F.st];exact I.stack
 exact kO (by rw [← F.st];exact I.ok.frames) fs F.fr F.fr f hne fun h' T' k w' f'=>h _ ⟨σ,H,x,C,od,T',rfl,GS F I k ex eT nT f'.xa,ex,I.hok.fresh w',aZ I w',f',w⟩
theorem ZM.noted (F:Fr1 X) (q:ZM X pins E (rawInt X.env.locals) e s) (h:Q () s):wpAny M X.A (noteFrame e X.env) Q E' s:=by
 obtain ⟨σ,H,x,C,od,T,rfl,I,ex,eT,nT,⟨ne,vs,sl,oT,ts,he,h1,hT,hd,h3⟩,w⟩:=q
 unfold noteFrame
 simp only [F.fr]
 refine wpAny_bind (wpAny_field he rfl h1 ?_)
 rw [if_pos (show (Value.ref T != Value.none)=true from by simp)]
 refine wpAny_bind (wpAny_field hT hd h3 ?_)
 rw [if_pos (show (rawInt X.env.locals == rawInt X.env.locals)=true from by simp)]
 exact wpAny_pure h
theorem xeR.note (F:Fr1 X) (q:xeR X pins E e s) (h:∀ s',ZM X pins E (rawInt X.env.locals) e s'→Q () s'):wpAny M X.A (noteFrame e X.env) Q E' s:=by
 obtain ⟨σ,H,x,C,od,rfl,I,ex,w⟩:=q
 have fs:s.heap.FunFrames X.base (X.env :: X.outer):=by rw [← F.st];exact I.stack
 obtain ⟨vs,sl,hx,z1,z2⟩:=(show Ve X.prog X.w H s.heap x (.ext (XF x C od)) from I.hok _ _ ex).1
 have mu:Mut (H x):=by rw [ex];exact True.intro
 refine uL (by rw [← F.st];exact I.ok.frames) fs F.fr F.fr hx z2 fun h' T k w' f=>h _ ?_
 have z:∀ t,none=some t→H t=none:=fun t z=>by cases z
 have u1:=k.un (H:=H) (o:=.ext (XA x C od)) z mu
 have k1:=k.hok I.hok (by rw [← F.st];exact I.stkFree) z mu f.xa
 rw [← F.st] at u1
 have I2:=I.call' (s':={ s with heap:=h' }) (ch:=[]) rfl u1 k1 I.bare fun b hb=>absurd hb (by simp)
 exact ⟨σ,_,x,C,od,T,rfl,I2,fb,by rw [rb f.1];exact I.hok.fresh w',aZ I w',f,w⟩
theorem xeT.note (F:Fr1 X) (q:xeT X pins E e s) (h:∀ s',ZM X pins E (rawInt X.env.locals) e s'→Q () s'):wpAny M X.A (noteFrame e X.env) Q E' s:=by
 rcases q with q | ⟨fl,q⟩
 ·exact q.note F h
 ·by_cases c:(fl == rawInt X.env.locals)=true
  ·rw [beq_iff_eq] at c
   subst c
   exact q.noted F (h _ q)
  ·exact q.note F c h
theorem ZM.flight (F:Fr1 X) (o:Option Addr) (q:ZM X pins E fl e s) (h:∀ s',ZM X pins E (o.elim .none fun f=>rawInt f) e s'→Q () s'):wpAny M A (setFlight e o) Q E' s:=by
 obtain ⟨σ,H,x,C,od,T,rfl,I,ex,eT,nT,f,w⟩:=q
 have fs:s.heap.FunFrames X.base (X.env :: X.outer):=by rw [← F.st];exact I.stack
 have nf:T ∉ frs (X.env :: X.outer):=by
  obtain ⟨_,_,_,oT,ts,_,_,e,d,_⟩:=id f
  exact nofr fs e d
 exact L2.flight o f nf fun h' k f'=>h _ ⟨σ,H,x,C,od,T,rfl,GS F I k ex eT nT f'.xa,ex,eT,nT,f',w⟩
theorem xeT.leave (F:Fr1 X) (q:xeT X pins E e s) (h:∀ s',ZM X pins E .none e s'→Q () s'):wpAny M X.A (leaving X.env e) Q E' s:=by
 unfold leaving
 exact wpAny_bind (q.note F fun s' q'=>q'.flight F none h)
theorem VI (F:Fr1 X):PassesOwn M X.A X.env (xeT X pins E):=fun e s' q=>by
 refine q.note F fun s2 q2=>?_
 show wpAny _ _ _ _ _ _
 obtain ⟨σ,H,x,C,od,T,rfl,I,ex,eT,nT,⟨ne,vs,sl,oT,ts,he,h1,hT,hd,h3⟩,w⟩:=id q2
 refine wpAny_bind (wpAny_field he rfl h1 ?_)
 rw [if_neg (show ¬ (Value.ref T == Value.none)=true from by simp)]
 rw [F.fr]
 exact q2.flight F _ fun s3 q3=>.inr ⟨_,q3⟩
theorem dg (F:Fr1 X):PassesOwn M X.A X.env (xeA X E):=fun e s' ⟨pins,q⟩=>by
 have z:=VI (M:=M) F e s' q
 refine wpAny_mono z (fun _ s2 q2=>?_) fun e2 s2 q2=>?_
 all_goals exact wpAny_mono q2 (fun _ s3 q3=>⟨pins,q3⟩) fun e3 s3 q3=>⟨pins,q3⟩
theorem SV:PN (X.wish (xeA X E)) E:=fun pins σ H s x C od I ex q=>⟨pins,.inl ⟨σ,H,x,C,od,rfl,I.unwish,ex,q⟩⟩
theorem YU {E0:XK} {s':Shared} (I:Inv X pins σ H s) (hq:CX1 X.prog X.w X.stack H s E0 e s') (h:∀ C od H',E0 C od H'→E σ C od H'):xeT X pins E e s':=by
 obtain ⟨x,C,od,H2,T,rfl,os,bare,un,hok,ex,hT,eT,fl,q⟩:=hq
 exact .inr ⟨_,σ,H2,x,C,od,T,rfl,I.call' os un hok bare (fun b z=>absurd z (by simp)),ex,eT,aZ I hT,fl,h _ _ _ q⟩
end
theorem Gf {X:Cx} {E:XK}:Rr (CX1 X.prog X.w) (X.wish (xeA X fun _=>E)) E:=fun pins σ H s e s' I hq=>⟨pins,YU I.unwish hq fun _ _ _ z=>z⟩
theorem DF {X:Cx} {E:XK}:PN (X.wish (xeA X fun _=>E)) (fun _=>E):=SV
section
variable {P:Program} {w:World} {K:PySem.W.Frag} {mg:Str→Option Value} {base:Heap} {N:List Str} {qual:Str} {scope:Scope} {f:Addr} {cd:Value} {A:Around} {outer:List Env} {s:Shared} {H:Hp} {E:XK}
theorem sV {e:Value} {s':Shared} (q:xeA (jP (CX1 P w) P w K mg base N qual scope f cd A outer s H E) (fun _=>E) e s'):(jP (CX1 P w) P w K mg base N qual scope f cd A outer s H E).xe e s':=by
 obtain ⟨pins,q⟩:=q
 refine q.leave ⟨rfl,rfl⟩ fun s2 q2=>?_
 obtain ⟨σ,H2,x,C,od,T,rfl,I,ex,eT,nT,fl,q⟩:=q2
 refine ⟨x,C,od,H2,T,rfl,I.os,I.bare,I.base,I.hok,ex,?_,eT,fl,q⟩
 rcases nT.1 with z | z
 ·exact absurd z (by show T ∉ ([]:List Addr);simp)
 ·exact z
end
def US (sp:Sp) (dvs:List V) (E:St→XK) (t:TA):TE:=fun σ H Q=>t σ H fun vs H1=>sp (vs ++ dvs) H1 Q (E σ)
def ZW (C:Addr) (m:Str) (sp:Sp) (dvs:List V) (E:St→XK) (ta:TE) (t:TA):TE:=fun σ H Q=>ta σ H fun x H1=>∃ a dx fs,x=.ref a∧H1 a=some (.ins C dx fs)∧fs.lookup m=none ∧
 t σ H1 fun vs H2=>sp (x :: (vs ++ dvs)) H2 Q (E σ)
section
variable {X:Cx} {CX:CXT} {k:Nat} {f C:Addr} {fd:FuncData} {ps:List Str} {sp:Sp} {dvs:List V} {ds:List Value} {E:St→XK} {x m:Str} {p pos apos:Pos} {e o:Expr} {es:List Expr} {ta:TE} {t:TA}
theorem qU {pins:List (Addr × Obj)} {σ:St} {H:Hp} {s:Shared} {Q:VK} {us:List Value} {vs:List V} (F:Nb X.prog X.w X.K X.mg X.base CX k f fd ps sp) (hr:Hm k X.A) (hb:gc X.K fd ps ds) (hd:Ae dvs ds) (hx:OJ CX X E)
  (I:Inv X pins σ H s) (r:Ae vs us) (h:sp (vs ++ dvs) H Q (E σ)):wpAny (model X.prog X.w) X.A (call (.ref f) us) (EP X pins σ Q) X.xe s:=by
 have r2:Ae (vs ++ dvs) (us ++ ds):=r.append hd
 have hl:(us ++ ds).length=ps.length:=by rw [← r2.length];exact F.len _ _ _ _ h
 refine wpAny_call (codeAny_mono (F.run X.A X.stack s H ⟨us,[]⟩ (us ++ ds) (vs ++ dvs) Q (E σ) hr I.env0 (hb s us I.kIn hl) r2 h) fun r s' hq=>?_)
 rcases r with e | (u | _ | _ | _)
 ·exact hx pins σ H s e s' I hq
 all_goals first | exact I.after hq | exact False.elim hq
theorem XQ (F:Nb X.prog X.w X.K X.mg X.base CX k f fd ps sp) (hr:Hm k X.A) (hg:Gl X x) (hm:X.mg x=some (.ref f)) (hk:PySem.W.keepIn X.K (.ref f)=true) (hb:gc X.K fd ps ds) (hd:Ae dvs ds) (hx:OJ CX X E)
  (ha:PA X (e :: es) t) (hdb:(x == ("__debug__" : Str))=false:=by decide) (he:starEach (e :: es) X.env=(false,eval e X.env) :: starEach es X.env:=by rfl) (hpl:(backTo pos (starEach es X.env)).any (·.1)=false:=by rfl) :
  PE X (.Call (.Name x p) (e :: es) [] pos) (US sp dvs E t):=by
 intro pins s σ H Q I h
 refine wpAny_Call_Name_kw (lp I hg hm ?_ hdb)
 exact PySem.W.callWith_K (h₀:=X.base) I.ok.mod.kin hk (thn (ha pos pins s σ H _ I h) fun us s1 ⟨vs,H1,I1,r,q⟩=>⟨I1.kIn,qU F hr hb hd hx I1 r q⟩) he hpl
end
abbrev Cx.tr (X:Cx) (pn:List (Addr × Obj)) (E:Value→Shared→Prop):Cx:={ X with pn:=X.pn ++ pn,xe:=E }
abbrev Cx.hn (X:Cx) (e:Value):Cx:={ X with A:=X.A.mark (some e),calm:=false,xe:=fun _ _=>False }
section
variable {X:Cx} {pins pins':List (Addr × Obj)} {σ:St} {H:Hp} {s:Shared} {E:Value→Shared→Prop} {e:Value}
theorem Cx.Ok.tr (ok:X.Ok) (pn:List (Addr × Obj)) (E:Value→Shared→Prop):(X.tr pn E).Ok:=
 ⟨ok.mod,ok.kind,ok.glob,ok.blt,ok.above,ok.inj,ok.has,ok.cab,ok.hd,ok.frames,ok.stk,ok.exf,ok.bs,ok.bsz,ok.noex,ok.exfs,ok.funs,ok.frf⟩
theorem Cx.Ok.untr {pn:List (Addr × Obj)} (ok:(X.tr pn E).Ok):X.Ok:=
 ⟨ok.mod,ok.kind,ok.glob,ok.blt,ok.above,ok.inj,ok.has,ok.cab,ok.hd,ok.frames,ok.stk,ok.exf,ok.bs,ok.bsz,ok.noex,ok.exfs,ok.funs,ok.frf⟩
theorem Cx.Ok.hn (ok:X.Ok) (e:Value):(X.hn e).Ok:=
 ⟨ok.mod,ok.kind,ok.glob,ok.blt,ok.above,ok.inj,ok.has,ok.cab,(fun z=>Bool.noConfusion z),ok.frames,ok.stk,ok.exf,ok.bs,ok.bsz,ok.noex,ok.exfs,ok.funs,ok.frf⟩
theorem Inv.tr (I:Inv X pins σ H s) (E:Value→Shared→Prop):Inv (X.tr pins E) [] σ H s:=⟨I.ok.tr pins E,I.os,I.bare,I.base,I.loc,I.cell,I.free,I.freeC,fun p hp=>I.pin p (by simpa using hp),I.hok,I.len⟩
theorem Inv.untr (I:Inv (X.tr pins E) pins' σ H s):Inv X pins σ H s:=⟨I.ok.untr,I.os,I.bare,I.base,I.loc,I.cell,I.free,I.freeC,fun p hp=>I.pin p (List.mem_append_left _ hp),I.hok,I.len⟩
theorem Inv.hn (I:Inv X pins σ H s) (e:Value):Inv (X.hn e) pins σ H s:=⟨I.ok.hn e,I.os,I.bare,I.base,I.loc,I.cell,I.free,I.freeC,I.pin,I.hok,I.len⟩
theorem Inv.unhn (ok:X.Ok) (I:Inv (X.hn e) pins σ H s):Inv X pins σ H s:=⟨ok,I.os,I.bare,I.base,I.loc,I.cell,I.free,I.freeC,I.pin,I.hok,I.len⟩
theorem SP.untr {D:Ui} {f:Flow} {s':Shared} (h:SP (X.tr pins E) pins' D f s'):SP X pins D f s':=by
 cases f with
 | next=>obtain ⟨σ',H',I,q⟩:=h;exact ⟨σ',H',I.untr,q⟩
 | brk=>obtain ⟨σ',H',I,q⟩:=h;exact ⟨σ',H',I.untr,q⟩
 | cont=>obtain ⟨σ',H',I,q⟩:=h;exact ⟨σ',H',I.untr,q⟩
 | ret u=>obtain ⟨v,σ',H',I,r,q⟩:=h;exact ⟨v,σ',H',I.untr,r,q⟩
end
theorem DU {X:Cx} {pins:List (Addr × Obj)} {E:St→XK}:OJ (CX1 X.prog X.w) (X.tr pins (xeT X pins E)) E:=by
 intro pins' σ H s e s' I hq
 obtain ⟨x,C,od,H2,T,rfl,os,bare,un,hok,ex,hT,eT,fl,q⟩:=hq
 have I2:=I.call' os un hok bare (fun b z=>absurd z (by simp))
 exact .inr ⟨_,σ,H2,x,C,od,T,rfl,I2.untr,ex,eT,aZ I.untr hT,fl,q⟩
theorem av {X:Cx} {pins:List (Addr × Obj)} {σ:St} {H:Hp} {s:Shared} {i:Nat} {n:Str} {pos:Pos} {A:Around} {E:Value→Shared→Prop} {Q:Unit→Shared→Prop} (I:Inv X pins σ H s) (hN:X.N.Nodup) (hi:X.N[i]? = some n)
  (hl:X.env.scope.names.lookup n=some .local) (h:∀ s',Inv X pins (σ.set i none) H s'→Q () s'):wpAny (model X.prog X.w) A (do bindName X.env n .none;unbindBehindTheSuite X.env n pos) Q E s:=by
 have hiσ:i < σ.length:=by rw [I.len];exact (List.getElem?_eq_some_iff.mp hi).1
 refine wpAny_bind (wpAny_bindName (Xy I hN hi (.inl hl) (v:=.non) (u:=.none) rfl (fun s1 I1=>?_) (.inr hl)))
 obtain ⟨m,hn,hlk⟩:=I1.loc
 have hk:X.env.kindOf n=some .local:=hl
 obtain ⟨u,ru,lk⟩:=hlk i n .non hi (List.getElem?_set_self hiσ) (.inl hl)
 have hmn:(m n).isSome=true:=by
  rcases lk with ⟨_,e⟩ | ⟨k,_⟩
  ·rw [e];rfl
  ·rcases k with k | k <;> (rw [hk] at k;cases k)
 have hp:(X.env.scope.kind == .class || (X.env.scope.kind == .module && X.env.locals != X.env.globals))=false:=by rw [I.ok.kind];rfl
 unfold unbindBehindTheSuite
 refine wpAny_onRaise ?_
 unfold unbindName
 refine wpAny_bind (wpAny_point (wpAny_bind ?_))
 unfold deleteName
 simp only [hk,hp]
 rw [if_neg (by decide)]
 refine wpAny_bind (wpAny_nsDel_keeps hn fun h2 v2 hn2 hs=>?_)
 rw [hmn]
 refine wpAny_pure (wpAny_point (h _ ?_))
 have neL:∀ b o,X.s₀.heap.get? b=some o→b ≠ X.env.locals:=fun b o e=>Nat.ne_of_lt (Nat.lt_of_lt_of_le (Heap.lt_size e) I1.ok.above)
 refine ⟨I1.ok,I1.os,I1.bare,⟨fun b o e n' hb hx=>(hs.2 b (neL b o e)).trans (I1.base.keep b o e n' hb hx),fun b o e n' hb hx=>?_,I1.base.free,fun b o e hx=>?_,I1.base.tups,I1.base.frzs,I1.base.tbls⟩,⟨_,hn2,fun j y v e1 e2 e3=>?_⟩,fun y c e=>?_,I1.free,I1.freeC,fun p hp=>?_,fun b u' e=>?_,by simpa using I.len⟩
 ·obtain ⟨sl,e1⟩:=I1.base.slot b o e n' hb hx
  exact ⟨sl,(hs.2 b (neL b o e)).trans e1⟩
 ·obtain ⟨o',e1⟩:=I1.base.there b o e hx
  exact ⟨o',(hs.2 b (neL b o e)).trans e1⟩
 ·by_cases hj:j=i
  ·subst hj
   rw [List.getElem?_set_self hiσ] at e2
   cases e2
  ·rw [List.getElem?_set_ne (Ne.symm hj)] at e2
   obtain ⟨u',r',q⟩:=hlk j y v e1 (by rw [List.getElem?_set_ne (Ne.symm hj)];exact e2) e3
   refine ⟨u',r',?_⟩
   rcases q with ⟨k,e⟩ | ⟨k,c,e,z⟩
   ·refine .inl ⟨k,?_⟩
    have:y ≠ n:=fun e=>hj (JF hN e1 (e ▸ hi))
    simp [this,e]
   ·exact .inr ⟨k,c,e,z.sameBut hs (I1.cne y c e)⟩
 ·obtain ⟨w',z⟩:=I1.cell y c e
  exact ⟨w',z.sameBut hs (I1.cne y c e)⟩
 ·obtain ⟨e,n',ne,nf,d⟩:=I1.pin p hp
  exact ⟨(hs.2 p.1 ne).trans e,n',ne,nf,d⟩
 ·have nL:∀ c,H c ≠ none→c ≠ X.env.locals:=fun c q z=>q (by rw [z];exact I1.free)
  refine (I1.hok b u' e).stay (fun c v hc q=>(hs.2 c (nL c ?_)).trans q) (fun _ q=>q) fun _ _ q=>q
  rcases hc with rfl | hc
  ·rw [e];exact fun z=>by cases z
  ·rw [hc];exact fun z=>by cases z
def Ui.gone (D:Ui) (i:Nat):Ui:={ nx:=fun σ H=>D.nx (σ.set i none) H,rt:=D.rt,bk:=fun σ H=>D.bk (σ.set i none) H,ct:=fun σ H=>D.ct (σ.set i none) H }
def FZ (K:PySem.W.Frag) (c:Addr) (i:Nat) (th:TS) (D:Ui):St→XK:=fun σ C od H=>∃ C',C=.ref C'∧PySem.W.exmOne K C (.ref c)=some true∧∀ x,H x=some (.ext (XA x C' od))→th (D.gone i) (σ.set i (some (.ref x))) H
def zZ (K:PySem.W.Frag) (c:Addr) (i:Nat) (tb:(St→XK)→TS) (th:TS):TS:=fun D σ H=>tb (FZ K c i th D) D σ H
section
variable {X:Cx} {body suite:List Stmt} {b0:Stmt} {x n:Str} {c:Addr} {i:Nat} {tb:(St→XK)→TS} {th:TS} {xp hp pos:Pos}
theorem OW (hb:∀ pins E,PSs (X.tr pins (xeT X pins E)) body (tb E)) (hg:Gl X x) (hm:X.mg x=some (.ref c)) (hh:∀ e,PSs (X.hn e) (b0 :: suite) th) (hN:X.N.Nodup) (hi:X.N[i]? = some n)
  (hl:X.env.scope.names.lookup n=some .local) (F:Fr1 X:=by exact ⟨rfl,rfl⟩) (hdb:(x == ("__debug__" : Str))=false:=by decide) :
  PS X (.Try body [.ExceptHandler (some (.Name x xp)) (some n) (b0 :: suite) hp] [] [] pos) (zZ X.K c i tb th):=by
 intro pins s σ H D I h
 refine wpAny_Try_except (wpAny_mono (hb pins _ [] s σ H D (I.tr _) h) (fun f s1 q=>?_) fun e s1 q=>?_)
 ·have q':=q.untr
  cases f with
  | next=>exact wpAny_execs_nil q'
  | brk=>exact q'
  | cont=>exact q'
  | ret u=>exact q'
 ·refine q.note F fun s2 q2=>q2.flight F none fun s3 q3=>?_
  obtain ⟨σ1,H1,a,C,od,T,rfl,I2,ea,eT,nT,fl,C',eC,em,w⟩:=id q3
  cases eC
  refine wpAny_handleBy_cons (codeAny_handlers_test (lp (I2.hn (.ref a)) hg hm ?_ hdb)) (fun z=>by cases z)
  have LT:PySem.W.Looks (model X.prog X.w) s3.heap (typeOf (.ref a)) (.ref C):=by
   obtain ⟨vs,sl,e⟩:=fl.xa
   exact (PySem.W.Looks.ld e).andThen .now
  refine (PySem.W.exm_one I2.kIn LT em).here ?_
  rw [if_pos rfl]
  refine codeAny_handlers_suite_as (q3.flight F none fun s4 q4=>?_)
  ·obtain ⟨σ1,H1,a',C,od,T,ea',I3,ea,eT,nT,fl,C',eC,em,w⟩:=q4
   cases eC
   cases ea'
   refine Xy (X:=X.hn (.ref a)) (I3.hn (.ref a)) hN hi (.inl hl) (v:=.ref a) (u:=.ref a) rfl (fun s5 I4=>?_) (.inr hl)
   refine wpAny_mono (hh (.ref a) pins s5 _ H1 (D.gone i) I4 (w a ea)) (fun f s5 q5=>?_) fun _ _ z=>False.elim z
   cases f with
   | next=>obtain ⟨σ',H',J,q⟩:=q5;exact av (J.unhn I.ok) hN hi hl fun s6 I6=>⟨_,_,I6,q⟩
   | brk=>obtain ⟨σ',H',J,q⟩:=q5;exact av (J.unhn I.ok) hN hi hl fun s6 I6=>⟨_,_,I6,q⟩
   | cont=>obtain ⟨σ',H',J,q⟩:=q5;exact av (J.unhn I.ok) hN hi hl fun s6 I6=>⟨_,_,I6,q⟩
   | ret u=>obtain ⟨v,σ',H',J,r,q⟩:=q5;exact av (J.unhn I.ok) hN hi hl fun s6 I6=>⟨v,_,_,I6,r,q⟩
end
theorem RU {X:Cx} {body suite:List Stmt} {b0:Stmt} {x n:Str} {c:Addr} {i:Nat} {tb:(St→XK)→TS} {th:TS} {xp hp pos:Pos} (hb:∀ pins E,∃ t,PSs (X.tr pins (xeT X pins E)) body t∧t=tb E) (hg:Gl X x) (hm:X.mg x=some (.ref c))
  (hh:∀ e,∃ t,PSs (X.hn e) (b0 :: suite) t∧t=th) (hN:X.N.Nodup) (hi:X.N[i]? = some n) (hl:X.env.scope.names.lookup n=some .local) (F:Fr1 X:=by exact ⟨rfl,rfl⟩)
  (hdb:(x == ("__debug__" : Str))=false:=by decide):PS X (.Try body [.ExceptHandler (some (.Name x xp)) (some n) (b0 :: suite) hp] [] [] pos) (zZ X.K c i tb th):=
 OW (fun pins E=>by obtain ⟨t,h,rfl⟩:=hb pins E;exact h) hg hm (fun e=>by obtain ⟨t,h,rfl⟩:=hh e;exact h) hN hi hl F hdb
theorem QU (K:PySem.W.Frag) (c:Addr) (i:Nat) (tb:(St→XK)→TS) (th:TS) (D:Ui) (σ:St) (H:Hp):zZ K c i tb th D σ H=tb (FZ K c i th D) D σ H:=rfl
theorem TV (K:PySem.W.Frag) (c:Addr) (i:Nat) (th:TS) (D:Ui) (σ:St) (C:Value) (od:Option Addr) (H:Hp) :
  FZ K c i th D σ C od H = ∃ C',C=.ref C'∧PySem.W.exmOne K C (.ref c)=some true∧∀ x,H x=some (.ext (XA x C' od))→th (D.gone i) (σ.set i (some (.ref x))) H:=rfl
theorem SU (D:Ui) (i:Nat) (σ:St) (H:Hp):(D.gone i).nx σ H=D.nx (σ.set i none) H:=rfl
theorem cW (D:Ui) (i:Nat) (v:V) (H:Hp):(D.gone i).rt v H=D.rt v H:=rfl
theorem OwnTail.has {h:Heap} {bm tl:List Value} {v:Value} (T:OwnTail h bm tl) (e:bm.contains v=true):tl.contains v=true:=by
 induction T with
 | base=>exact e
 | own _ _ _ _ ih=>rw [List.contains_cons,ih,Bool.or_true]
def ZS (K:PySem.W.Frag) (E:St→XK) (te:TE):TS:=fun D σ H=>te σ H fun v H1=>∃ x C od,v=.ref x∧H1 x=some (.ext (XF x C od))∧ZD K C∧E σ (.ref C) od (upd H1 x (.ext (XA x C od)))
theorem VL {M:Model} {A:Around} {E:Value→Shared→Prop} {s:Shared} {env:Env} {x:Sem Value} {Q:Flow→Shared→Prop} (hh:A.handled=none)
  (h:wpAny M A x (fun v s1=>∃ e C od vs sl nm q N bs bm hdct sn sub ab col dd k0 k1 k2 k3 k5 newId,v=.ref e∧bm.contains (.type "BaseException")=true ∧
   s1.heap.get? C=some (excClassObj nm q C N bs bm hdct sn sub ab col dd k0 k1 k2 k3 k5 newId)∧s1.heap.get? e=some ⟨.ref C,od,.fields vs,sl⟩∧vs[1]? = some .none∧E (.ref e) s1) E s) :
  wpAny M A (raiseStmt env (some x) none) Q E s:=by
 unfold raiseStmt
 refine wpAny_bind (wpAny_mono h (fun v s1 h1=>?_) fun _ _ x=>x)
 obtain ⟨e,C,od,vs,sl,nm,q,N,bs,bm,hdct,sn,sub,ab,col,dd,k0,k1,k2,k3,k5,newId,rfl,hb,hC,he,h1,hE⟩:=h1
 have hcB:(Value.ref C :: bm).contains (.type "BaseException")=true:=by rw [List.contains_cons,hb,Bool.or_true]
 obtain ⟨hp,g,d,tk,os⟩:=s1
 repeat (first | with_reducible refine wpAny_loadPart_at he ?_ | with_reducible refine wpAny_loadPart_at hC ?_ | (with_reducible refine wpAny_isSubtype_exc hC ?_;rw [hcB]) | (with_reducible refine wpAny_field he rfl h1 ?_) | wp_step)
 exact wpAny_raiseNew_none hh hE
section
variable {X:Cx} {e:Expr} {te:TE} {pos:Pos} {E:St→XK}
theorem jz (he:PE X e te) (hT:PN X E) (hc:X.calm=true:=by rfl):PS X (.Raise (some e) none pos) (ZS X.K E te):=by
 intro pins s σ H D I h
 rw [arm_exec_Raise]
 refine wpAny_bind (wpAny_standAt (VL (I.ok.hd hc) ?_))
 refine wpAny_bind (thn (he pins s σ H _ I h) fun u s1 ⟨v,H1,I1,r,x,C,od,ev,ex,c,q⟩=>wpAny_bind (wpAny_standAt (wpAny_pure ?_)))
 subst ev
 obtain rfl:u=Value.ref x:=r
 obtain ⟨vs,sl,hx,z1,z2⟩:=(show Ve X.prog X.w H1 s1.heap x (.ext (XF x C od)) from I1.hok _ _ ex).1
 obtain ⟨fI,hfI⟩:=c.ex
 obtain ⟨tl,N,nm,q',bs,sn,sub,ab,co,dd,k0,k1,k2,k3,k5,mN,hC,hN,hi,T⟩:=nE I1.kIn hfI
 exact ⟨x,C,od,vs,sl,nm,q',N,bs,tl,true,sn,sub,ab,co,dd,k0,k1,k2,k3,k5,_,rfl,L2.OwnTail.has T (by decide),hC,hx,z2,hT pins σ H1 s1 x C od I1 ex q⟩
theorem PS.nox {X:Cx} {st:Stmt} {t:TS} (h:PS X.nox st t):PS X st t:=fun pins s σ H D I hw=>
 wpAny_mono (h pins s σ H D (I.wish _) hw) (fun _ _ q=>q.unwish) fun _ _ z=>False.elim z
end
theorem Fun.okX {P:Program} {w:World} {K:PySem.W.Frag} {mg:Str→Option Value} {base:Heap} {x qual:Str} {st:Stmt} {f:Addr} {fd:FuncData} {N ps:List Str} {k:Nat} {sp:Sp} (F:Fun K x qual st f fd) (S:Db N ps (db st))
  (len:∀ vs H Q E,sp vs H Q E→vs.length=ps.length)
  (hbody:∀ (cdv:Value) (A:Around) (outer:List Env) (s:Shared) (H:Hp) (vs:List V) (Q:VK) (E:XK),Hm k (A.deeper (envOfC qual (db st) s.heap.objs.size f cdv))→sp vs H Q E →
   ∃ t,PSs ((jP (CX1 P w) P w K mg base N qual (db st) f cdv A outer s H E).wish (xeA (jP (CX1 P w) P w K mg base N qual (db st) f cdv A outer s H E) fun _=>E)) (jb st) t∧t { nx:=fun _ H'=>Q .non H',rt:=Q } (start N vs) H):Nb P w K mg base (CX1 P w) (k + 1) f fd ps sp:=by
 obtain ⟨oc,od,kV,doc,pm,an,cdv,ct,osl,rfl,lk,hcd⟩:=F.ex
 refine UX lk hcd S len fun A outer s H vs Q E hr hsp=>?_
 obtain ⟨t,h,q⟩:=hbody cdv A outer s H vs Q E hr hsp
 exact ⟨t,fun pins s1 σ H1 D I hw=>wpAny_mono (h pins s1 σ H1 D (I.wish _) hw) (fun _ _ q=>q.unwish) fun _ _ z=>sV z,q⟩
def xeB (B:Cx) (E:XK) (e:Value) (s':Shared):Prop:=
 ∃ pins fl σ' H' x C od T,e=.ref x∧Inv B pins σ' H' s'∧H' x=some (.ext (XA x C od))∧H' T=none∧zY B pins T∧B.s₀.heap.objs.size ≤ T∧FlA x C od T fl s'.heap∧E (.ref C) od H'
structure o1 (X:Cx) (scope:Scope) (N:List Str) (tg elt:Expr) (ifs:List Expr) (g:TG) (tc:TT) (te:XK→TE):Prop where
 tgt:∀ E C s H fp,PG ((X.block scope C N s H fp).wish (xeB (X.block scope C N s H fp) E)) tg g
 tests:∀ E C s H fp,PTs ((X.block scope C N s H fp).wish (xeB (X.block scope C N s H fp) E)) ifs tc
 elem:∀ E C s H fp,PE ((X.block scope C N s H fp).wish (xeB (X.block scope C N s H fp) E)) elt (te E)
theorem o1.of {X:Cx} {scope:Scope} {N:List Str} {tg elt:Expr} {ifs:List Expr} {g:TG} {tc:TT} {te:XK→TE} (h1:∀ E C s H fp,PG ((X.block scope C N s H fp).wish (xeB (X.block scope C N s H fp) E)) tg g)
  (h2:∀ E C s H fp,∃ t,PTs ((X.block scope C N s H fp).wish (xeB (X.block scope C N s H fp) E)) ifs t∧t=tc) (h3:∀ E C s H fp,∃ t,PE ((X.block scope C N s H fp).wish (xeB (X.block scope C N s H fp) E)) elt t∧t=te E):o1 X scope N tg elt ifs g tc te:=
 ⟨h1,fun E C s H fp=>by obtain ⟨t,h,rfl⟩:=h2 E C s H fp;exact h,fun E C s H fp=>by obtain ⟨t,h,e⟩:=h3 E C s H fp;rw [← e];exact h⟩
def mX (J:It) (g:TG) (tc:TT) (te:TE) (σb:St) (Q:VK) (H:Hp):Prop:=∃ W:Nat→Nat→List V→Hp→Prop,(∃ m,W 0 m [] H)∧uI J g tc te σb Q W
def JY (wi:TI) (g:TG) (tc:TT) (te:XK→TE) (sel:List (Option Nat)) (E:St→XK):TE:=fun σ H Q=>wi σ H fun J H1=>mX J g tc (te (E σ)) (blk sel σ) Q H1
section
variable {X:Cx} {elt tg iter:Expr} {ifs:List Expr} {scope:Scope} {pos:Pos} {wi:TI} {g:TG} {tc:TT} {te:XK→TE} {N:List Str} {sel:List (Option Nat)}
theorem FlA.but {x C T c:Addr} {od:Option Addr} {fl:Value} {h h':Heap} (z:FlA x C od T fl h) (n1:x ≠ c) (n2:T ≠ c) (k:∀ b,b ≠ c→h'.get? b=h.get? b):FlA x C od T fl h':=by
 obtain ⟨ne,vs,sl,oT,ts,he,h1,hT,hd,h3⟩:=z
 exact ⟨ne,vs,sl,oT,ts,(k _ n1).trans he,h1,(k _ n2).trans hT,hd,h3⟩
end
structure U0 (K:PySem.W.Frag) (C:Addr):Prop where
 cl:Cls K C
 ha:PySem.W.findIn K (.ref C) "__class__"=some (some (.builtin "object.__class__"))
 hn:PySem.W.specialIn K (.builtin "object.__class__") "__get__"=some (some (.builtin "getset_descriptor.__get__"))
 htk:PySem.W.takesIn K (.builtin "object.__class__")=some true
 hm:PySem.W.mroIn K C (.type "object")=some true
theorem U0.ty {K:PySem.W.Frag} {H:Hp} {C a dx:Addr} {fs:List (Str × V)} (c:U0 K C) (e:H a=some (.ins C dx fs)):jK K H (.ref a) (.ref C):=.ins e c.cl c.ha c.hn c.htk c.hm
theorem cN {X:Cx}:Qs X (.builtin "isinstance") (fun xs H Q=>∃ a C od,xs=[.ref a,.ref C]∧H a=some (.ext (XA a C od))∧Q (.bl true) H):=by
 intro pins s σ H xs us Q I r h
 obtain ⟨a,C,od,rfl,ea,q⟩:=h
 obtain ⟨u,u2,rfl,rx,r2⟩:=xR r
 cases (show u=Value.ref a from rx)
 cases (show u2=Value.ref C from r2)
 have xa:=(show Ve X.prog X.w H s.heap a (.ext (XA a C od)) from I.hok _ _ ea).1
 have ans:PySem.Answers (fun s=>XA a C od s.heap) (.ref a) (.ref C) true:=by
  intro dep tk prog w A R s hs
  obtain ⟨h0,g,d,tt,os⟩:=s
  obtain ⟨⟨vs,sl,ho⟩,hq⟩:=hs
  have LT:PySem.W.Looks (model prog w) h0 (typeOf (.ref a)) (.ref C):=(PySem.W.Looks.ld ho).andThen .now
  unfold Builtin.«isinstance.nested»
  refine wpAny_bind (LT.at ?_)
  rw [if_pos (by simp)]
  first
   | exact wpAny_bind (wpAny_rule (hq tt))
   | exact wpAny_bind (wpAny_rule (wpAny_pure (hq tt)))
   | exact wpAny_pure (hq tt)
 exact PySem.call_isinstance (S:=fun _ R s=>XA a C od s.heap∧∀ tk,R (.ok (.ret (.bool true))) { s with toks:=tk })
  (fun prog w A R s hs=>PySem.isinstance_outer (ans 0 _ prog w A R s hs) (fun z=>nomatch z)) ⟨xa,fun tk=>⟨.bl true,H,I.tok _,rfl,q⟩⟩
end L2
namespace L2
open PySem PySem.Spec PyProof.Rows
def Itd (hi:Int) (n:Nat):It:=⟨fun i _=>i < n,fun i H x H'=>H'=H∧x=.int (hi - i),fun i _=>n ≤ i⟩
theorem sP {P:Program} {w:World} {K:PySem.W.Frag} {tg:Expr} (it:Addr) (hi:Int) (n:Nat):LS P w K tg (Itd hi n) [it] it (fun i h=>IsRangeIter h it (hi + (i:Nat) * (-1)) ((n:Int) - (i:Nat)) (-1)) where
 mem:=by simp
 obj:=fun i h st b hb=>by
  have e:b=it:=by simpa using hb
  subst e
  exact ⟨_,st,fun v z=>by
   have z':Data.fields _=Data.cell v:=z
   cases z'⟩
 keep:=fun i h h' st k=>k it (by simp) _ st
 item:=by
  intro X hP hw hK hc i pins s σ H E I hf st hg
  subst hP hw hK
  obtain ⟨f0,f1,f2,f3,f4,f5⟩:=hf it (by simp)
  have W:=Walks.range (prog:=X.prog) (w:=X.w) (I.ok.hd hc) it hi (-1) n
  refine W.item i s _ _ hg st fun v h' tk hv st' kk=>?_
  obtain ⟨t,rfl⟩:=hv
  have I1:Inv X pins σ H { s with heap:=h',toks:=tk }:=I.turned (fun b o hb e=>kk b o (by simpa using hb) e) f0 f1 f3 f4 f5
  refine ⟨_,rfl,wO (s:={ s with heap:=h',toks:=tk }) (n := "range_iterator") st' rfl rfl (by decide) ⟨.int (hi - i),H,I1,⟨t,?_⟩,⟨rfl,rfl⟩,st',fun b hb=>(hf b hb).1⟩⟩
  congr 1
  omega
 done:=by
  intro X hP hw hK hc i pins s σ H E I hf st hg
  subst hP hw hK
  obtain ⟨f0,f1,f2,f3,f4,f5⟩:=hf it (by simp)
  exact wpAny_pyNext_range_end (I.ok.hd hc) st (by have:n ≤ i:=hg;omega) fun h' eb=>⟨rfl,I.turned (t':=s.toks) (fun b o hb e=>eb b o hb e) f0 f1 f3 f4 f5⟩
 self:=fun _ _ _ _ _ st h=>wpAny_pyIter_rangeiter st h
theorem Pr (a b:Int):Builtin.Range.rangeSize a b (-1)=if b < a then a - b else 0:=by
 unfold Builtin.Range.rangeSize
 rw [if_neg (show ¬ (-1:Int) > 0 by decide),show (- -1:Int)=1 by decide,Int.ediv_one]
 show (if b < a then a - b - 1 + 1 else 0)=_
 split <;> omega
theorem qL {a b:Int} (ha:-(2 ^ 62) ≤ a) (ha':a < 2 ^ 62) (hb:-(2 ^ 62) ≤ b) (hb':b < 2 ^ 62):Builtin.Range.small a b (-1)=true:=by
 unfold Builtin.Range.small
 rw [Pr]
 simp only [Builtin.Range.rangeFitsLong,Bool.and_eq_true,Bool.or_eq_true,decide_eq_true_eq,beq_iff_eq,show ¬ (-1:Int) > 0 by decide,if_false]
 split <;> omega
section
variable {X:Cx} {tg:Expr}
def HW (ta:TA):TI:=fun σ H R=>ta σ H fun vs H1=>∃ i j:Int,vs=[.int i,.int j,.int (-1)]∧(-1073741824 ≤ i∧i < 1073741824∧-1073741824 ≤ j∧j < 1073741824)∧R (Itd i (i - j).toNat) H1
theorem kP {a b c:Expr} {ta:TA} {p pos:Pos} (hg:Gl X "range") (hm:X.mg "range"=none) (ha:PA X [a,b,c] ta) (hs:starEach [a,b,c] X.env=[(false,eval a X.env),(false,eval b X.env),(false,eval c X.env)]:=by rfl) (hs2:starEach [b,c] X.env=[(false,eval b X.env),(false,eval c X.env)]:=by rfl) :
  PI X tg (.Call (.Name "range" p) [a,b,c] [] pos) (HW ta):=by
 intro pins s σ H R I h
 refine Call_ (Yu I hg hm boot_range (PyProof.Rows.callWith_type1 (thn (ha pos pins s σ H _ I h) fun us s1 ⟨vs,H1,I1,r1,q1⟩=>?_) (by rw [hs,hs2]) (by rw [hs2];rfl)))
 obtain ⟨i,j,e,⟨q1,q2,q3,q4⟩,q⟩:=q1
 subst e
 cases r1 with
 | cons r rr=>
  cases rr with
  | cons r' rr=>
   cases rr with
   | cons r'' rr=>
    cases rr
    obtain ⟨t,rfl⟩:=r
    obtain ⟨t',rfl⟩:=r'
    obtain ⟨t'',rfl⟩:=r''
    refine call_range_3 (by decide) ?_ (Or.inl (PyProof.noPylong_small (by omega)))
    refine wpAny_pyIter_range (IsRange.new ..) (qL (by omega) (by omega) (by omega) (by omega)) ?_
    have I2:Inv X pins σ H1 { s1 with heap:=s1.heap.push { cls:=.type "range",data:=.fields #[.int i t,.int j t',.int (-1) t''] },toks:=s1.toks }:=I1.kept fun b o e=>Heap.get?_push_of_some _ e
    refine ⟨(s1.heap.push { cls:=.type "range",data:=.fields #[.int i t,.int j t',.int (-1) t''] }).objs.size,[(s1.heap.push { cls:=.type "range",data:=.fields #[.int i t,.int j t',.int (-1) t''] }).objs.size],_,_,H1,rfl,
     I2.kept (t':=s1.toks) fun b o e=>Heap.get?_push_of_some _ e,sP _ i (i - j).toNat,?_,fun b hb=>?_,q⟩
    ·have e1:i + ((0:Nat):Int) * (-1)=i:=by simp
     have e2:(((i - j).toNat:Nat):Int) - ((0:Nat):Int)=Builtin.Range.rangeSize i j (-1):=by rw [Pr];split <;> omega
     show IsRangeIter _ _ (i + ((0:Nat):Int) * (-1)) ((((i - j).toNat:Nat):Int) - ((0:Nat):Int)) (-1)
     rw [e1,e2]
     exact Heap.get?_push_size _ rfl
    ·have e:b=(s1.heap.push { cls:=.type "range",data:=.fields #[.int i t,.int j t',.int (-1) t''] }).objs.size:=by simpa using hb
     subst e
     exact I2.fpOk (Nat.le_refl _) (I2.hok.fresh (Nat.le_refl _))
end
theorem vL:typeLookup (.type "list_reverseiterator") "__len__"=pure none:=by rw [typeLookup_type,builtinLookup_eq_fast];kernel_rfl
theorem YG:typeLookup (.type "list_reverseiterator") "__length_hint__"=pure (some (.builtin "list_reverseiterator.__length_hint__")):=by rw [typeLookup_type,builtinLookup_eq_fast];kernel_rfl
section
variable {prog:Program} {w:World} {A:Around} {E:Value→Shared→Prop} {s:Shared} {it l:Addr} {items:Array Value}
theorem FQ (hT:s.TypeIs (.ref it) "list_reverseiterator") {Q:Bool→Shared→Prop} (h:Q false s):wpAny (model prog w) A (Builtin.List.listLengthHint (.ref it)) Q E s:=by
 unfold Builtin.List.listLengthHint
 refine wpAny_bind (wpAny_specialOf hT vL ?_)
 show wpAny _ A (specialOf (Value.ref it) (Str.ofString "__length_hint__") >>= _) _ _ _
 refine wpAny_bind (wpAny_specialOf hT YG ?_)
 generalize hid:("list_reverseiterator.__length_hint__" : String)=id0
 wp_delta
 rw [show splitId id0=some ("list_reverseiterator","__length_hint__") from by subst hid;decide +kernel]
 subst hid
 refine wpAny_bind (wpAny_isInstance (T := "list_reverseiterator") (b:=true) hT (by rw [isSubtype_type];kernel_rfl) ?_)
 refine wpAny_ite_split (fun hab=>absurd hab (by decide)) (fun _=>?_)
 refine wpAny_ite_split (fun _=>?_) (fun hab=>absurd (by decide +kernel) hab)
 refine wpAny_ite_split (fun hab=>absurd hab (by decide +kernel)) (fun _=>?_)
 exact wpAny_pure h
abbrev LX (items:Array Value):Nat→Value→Prop:=fun i v=>items[items.size - 1 - i]? = some v
theorem TM {R:Result→Shared→Prop} (hh:A.handled=none) (hit:s.heap.IsRevIter it l ((items.size:Int) - 1 - ((0:Nat):Int))) (hl:s.heap.IsList l items) (hne:l ≠ it) (S:Addr) (hSi:S ≠ it) (hSl:S ≠ l) (res:Value) (c₀:Nat)
  (hS:s.heap.get? S=some { cls:=.type "list",data:=.seq #[] c₀ }) (hn:items.size ≤ sizeLine)
  (hR:∀ h' tk acc c,(∀ b o,b ≠ S→b ≠ it→s.heap.get? b=some o→h'.get? b=some o)→h'.get? S=some { cls:=.type "list",dict:=none,data:=.seq acc c,slots:=#[] }→ItemsOf (LX items) acc items.size→R (.ok (.ret res)) { s with heap:=h',toks:=tk }) :
  wpAny (model prog w) A.in1 (Builtin.List.listExtendWith (.ref S) (.ref it) res)
   (fun fin s'=>match fin with | .done f=>R (.ok f) s' | .again c'=>c'.quiet=true∧codeAny (model prog w) A c' R s') (fun e s'=>R (.error e) s') s:=by
 unfold Builtin.List.listExtendWith
 refine wpAny_bind (wpAny_typeOf hit.typeIs ?_)
 have h1:Builtin.List.listSameRef (.ref S) (.ref it)=false:=by simp [Builtin.List.listSameRef,hSi]
 have h2:(Value.type "list_reverseiterator" == Value.type "list")=false:=by decide
 have h3:(Value.type "list_reverseiterator" == Value.type "tuple")=false:=by decide
 simp only [h1,h2,h3,Bool.or_false,Bool.false_eq_true,if_false]
 refine wpAny_bind (wpAny_pyIter_revIter hit ?_)
 refine wpAny_bind (wpAny_holding (FQ hit.typeIs ?_))
 refine wpAny_ite_split (fun hab=>absurd hab (by decide +kernel)) (fun _=>?_)
 have W:=Walks.listRev (prog:=prog) (w:=w) (A:=A.in1) hh it l hne items
 have hSf:S ∉ [it,l]:=by simp only [List.mem_cons,List.not_mem_nil,or_false,not_or];exact ⟨hSi,hSl⟩
 refine wpAny_pure ⟨plainId_quiet PySem.F.plain_extend_loop _,codeAny_extend_loopS W.toS hn S hSf res items.size 0 s #[] c₀ rfl (Nat.zero_le _) ⟨Nat.zero_le _,hit,hl⟩ hS (ItemsOf.nil _) fun s' acc c hm hS' hacc=>?_⟩
 rw [Moved.eq_with hm]
 refine hR s'.heap s'.toks acc c (fun b o hb hi e=>hm.heap b o (fun hmem=>?_) e) hS' hacc
 rcases List.mem_cons.mp hmem with e' | hmem
 ·exact hb e'
 ·exact hi (List.mem_singleton.mp hmem)
theorem FE {Q:Value→Shared→Prop} (hh:A.handled=none) (hit:s.heap.IsRevIter it l ((items.size:Int) - 1 - ((0:Nat):Int))) (hl:s.heap.IsList l items) (hne:l ≠ it) (hn:items.size ≤ sizeLine)
  (hQ:∀ h' tk acc c,(∀ b o,b ≠ it→s.heap.get? b=some o→h'.get? b=some o)→h'.get? s.heap.objs.size=some { cls:=.type "list",dict:=none,data:=.seq acc c,slots:=#[] }→ItemsOf (LX items) acc items.size→Q (.ref s.heap.objs.size) { s with heap:=h',toks:=tk }) :
  wpAny (model prog w) A (call (.type "list") [.ref it]) Q E s:=by
 have li:it < s.heap.objs.size:=by obtain ⟨_,e,_⟩:=hit;exact Heap.lt_size e
 have ll:l < s.heap.objs.size:=by obtain ⟨_,e,_⟩:=hl;exact Heap.lt_size e
 refine callType_codes (Q₁:=fun obj s₁=>obj=.ref s.heap.objs.size∧s₁ = { s with heap:=s.heap.push { cls:=.type "list",data:=.seq #[] } }) PySem.F.called_list (PySem.F.typeCall_list_1 _) PySem.F.entry_list_init
  (code_list_new _ ⟨rfl,rfl⟩) fun obj s₁ h₁=>?_
 obtain ⟨rfl,rfl⟩:=h₁
 have hS:(s.heap.push { cls:=.type "list",data:=.seq #[] }).get? s.heap.objs.size=some { cls:=.type "list",data:=.seq #[] }:=Heap.get?_push_size _ rfl
 refine ⟨⟨_,hS,rfl⟩,PySem.F.args_list_init_2 _ _,?_⟩
 show wpAny _ _ (do let old ← Builtin.List.listItems (.ref s.heap.objs.size);Builtin.List.listUpdate (.ref s.heap.objs.size) (fun _=>#[]);letGo old.toList.reverse;Builtin.List.listExtendWith (.ref s.heap.objs.size) (.ref it) .none) _ _ _
 refine wpAny_bind ?_
 unfold Builtin.List.listItems
 refine wpAny_bind (wpAny_seqItems hS rfl (wpAny_pure ?_))
 show wpAny _ _ (updateSeq s.heap.objs.size (fun _=>#[]) >>= fun _=>letGo (#[]:Array Value).toList.reverse >>= fun _=>Builtin.List.listExtendWith (.ref s.heap.objs.size) (.ref it) .none) _ _ _
 refine wpAny_bind (wpAny_updateSeq hS rfl ?_)
 have hS₂:=Heap.get?_update_self (Obj.mapSeq (fun _=>(#[]:Array Value))) hS rfl
 have oth:∀ b o,s.heap.get? b=some o→((s.heap.push { cls:=.type "list",data:=.seq #[] }).update s.heap.objs.size (Obj.mapSeq (fun _=>(#[]:Array Value)))).get? b=some o:=
  fun b o e=>(Heap.get?_update_other _ _ (Ne.symm (Nat.ne_of_lt (Heap.lt_size e)))).trans (Heap.get?_push_of_some _ e)
 refine wpAny_bind (wpAny_letGo ?_)
 refine TM (A:=A.in1) hh (hit.at fun o e=>oth _ o e) (hl.at fun o e=>oth _ o e) hne _ (Ne.symm (Nat.ne_of_lt li)) (Ne.symm (Nat.ne_of_lt ll)) .none _ hS₂ hn fun h' tk acc c hk hS' hacc=>?_
 exact ⟨rfl,hQ h' tk acc c (fun b o hb e=>hk b o (Nat.ne_of_lt (Heap.lt_size e)) hb (oth b o e)) hS' hacc⟩
end
section
variable {X:Cx}
def cL (K:PySem.W.Frag) (ta:TA):TE:=fun σ H Q=>ta σ H fun vs H1=>∃ a xs,vs=[.ref a]∧SqL K H1 a xs∧∀ l,H1 l=none→Q (.ref l) (upd H1 l (.lst xs.reverse))
theorem nw {a:Expr} {ta:TA} {p q pos pos':Pos} (hc:X.calm=true) (hg:Gl X "list") (hm:X.mg "list"=none) (hg':Gl X "reversed") (hm':X.mg "reversed"=none) (ha:PA X [a] ta) (hs:starEach [a] X.env=[(false,eval a X.env)]:=by rfl)
  (hs2:starEach [Expr.Call (.Name "reversed" q) [a] [] pos'] X.env=(false,eval (Expr.Call (.Name "reversed" q) [a] [] pos') X.env) :: starEach [] X.env:=by rfl) :
  PE X (.Call (.Name "list" p) [.Call (.Name "reversed" q) [a] [] pos'] [] pos) (cL X.K ta):=by
 intro pins s σ H Q I h
 refine wpAny_Call_Name_kw (Yu I hg hm ft ?_)
 refine PyProof.Rows.callWith_type1 ?_ hs2 rfl
 rw [hs2]
 show wpAny _ _ (spliced ((false,eval (Expr.Call (.Name "reversed" q) [a] [] pos') X.env) :: [])) _ _ s
 refine Calls.spliced_cons ?_
 refine Call_ (Yu I hg' hm' gE (PyProof.Rows.callWith_type1 (thn (ha pos' pins s σ H _ I h) fun us s1 ⟨vs,H1,I1,r1,q1⟩=>?_) hs rfl))
 obtain ⟨a,xs,e,hq,q⟩:=q1
 subst e
 cases r1 with
 | cons r rr=>
  cases rr
  cases r
  obtain ⟨its,rv,pl,hz⟩:=I1.list hq
  have hl:=rv.length
  have hlt:a < s1.heap.objs.size:=by obtain ⟨_,e,_⟩:=pl.isList;exact Heap.lt_size e
  refine call_reversed_list pl.isList ?_
  refine Calls.spliced_nil ?_
  have hit:(s1.heap.push (revObj a ((its.toArray.size:Int) - 1))).IsRevIter s1.heap.objs.size a ((its.toArray.size:Int) - 1 - ((0:Nat):Int)):=by
   refine ⟨_,Heap.get?_push_size _ rfl,rfl,?_⟩
   simp only [revObj]
   simp
  have kp:∀ b o,s1.heap.get? b=some o→(s1.heap.push (revObj a ((its.toArray.size:Int) - 1))).get? b=some o:=fun b o e=>Heap.get?_push_of_some _ e
  refine FE (I1.ok.hd hc) hit (pl.isList.at fun o e=>kp _ o e) (Nat.ne_of_lt hlt) (by rw [List.size_toArray];omega) fun h' tk acc c hk e' hacc=>?_
  refine ⟨.ref _,_,I1.laid (o:=.lst xs.reverse) (t':=tk) (fun b u e=>hk b u (Nat.ne_of_lt (Heap.lt_size e)) (kp b u e)) (by rw [Heap.size_push];exact Nat.le_succ _) ⟨by rw [List.length_reverse];omega,acc.toList,c,?_,e'⟩,rfl,q _ (I1.hok.fresh (by rw [Heap.size_push];exact Nat.le_succ _))⟩
  have hv:=bM (f:=fun i=>xs.getD (xs.length - 1 - i) .non) (fun i v hv=>by
   have hv':its.toArray[its.toArray.size - 1 - i]? = some v:=hv
   rw [List.size_toArray,← hl,List.getElem?_toArray] at hv'
   have hj:=(List.getElem?_eq_some_iff.mp hv').1
   have hx:xs[xs.length - 1 - i]? = some xs[xs.length - 1 - i]:=List.getElem?_eq_getElem (by omega)
   obtain ⟨w,hw,rw'⟩:=rv.get hx
   rw [hv'] at hw
   cases hw
   rw [List.getD_eq_getElem?_getD,hx]
   exact rw') hacc
  have er:(List.range its.toArray.size).map (fun i=>xs.getD (xs.length - 1 - i) .non)=xs.reverse:=by
   rw [List.size_toArray,← hl]
   refine List.ext_getElem (by simp) fun i h1 h2=>?_
   rw [List.getElem_map,List.getElem_range,List.getElem_reverse,List.getD_eq_getElem?_getD,List.getElem?_eq_getElem (by simp at h2;omega)];rfl
  rw [er] at hv
  exact hv
end
section
variable {prog:Program} {w:World} {A:Around} {R:Result→Shared→Prop} {I:Addr} {fp wr:List Addr} {n:Nat} {P:Nat→Value→Prop} {St:Nat→Heap→Prop}
def TY (P:Nat→Value→Prop) (bt:Nat→Nat→Bool) (j:Nat) (acc:Array Value):Prop:=(j=0∧acc=#[])∨∃ vb i,j=i + 1∧acc=#[vb,vb]∧P (argBest bt i) vb
theorem iO (W:Walks prog w A.in1 I fp wr n P St) (bt:Nat→Nat→Bool) (hcmp:CmpOf prog w A.in1 .Lt P bt) (S:Addr) (hSf:S ∉ fp) (dv:Value) (kn:Str) :
  ∀ (k j:Nat) (s:Shared) (acc:Array Value) (c:Nat),n - j=k→j ≤ n→St j s.heap→TY P bt j acc →
  s.heap.get? S=some { cls:=.type "list",dict:=none,data:=.seq acc c,slots:=#[] } →
  (∀ v h' tk,(n=0∧v=dv)∨(0 < n∧P (argBest bt (n - 1)) v)→(∀ b o,b ∉ wr→b ≠ S→s.heap.get? b=some o→h'.get? b=some o)→R (.ok (.ret v)) { s with heap:=h',toks:=tk }) →
  codeAny (model prog w) A (.builtin "min.loop" ⟨[.ref I,.none,.ref S],[(kn,dv)]⟩) R s:=by
 have hSw:S ∉ wr:=fun h=>hSf (W.sub _ h)
 have hname:(toString "min" ++ toString ".loop" : String) = "min.loop" := by decide
 intro k
 induction k with
 | zero=>
  intro j s acc c hk hj hst hB hS hR
  have hin:j=n:=by omega
  refine codeAny_builtin PySem.F.entry_min_loop ?_
  rw [Around.under_plainId PySem.F.plain_min_loop _]
  show wpAny _ A.in1 (seqItems? (.ref S) >>= _) _ _ s
  refine wpAny_bind (wpAny_seqItems hS rfl ?_)
  show wpAny _ A.in1 (tryCatch (pyNext (.ref I)) _ >>= _) _ _ s
  refine wpAny_bind (wpAny_tryCatch (W.done s _ _ (hin ▸ hst) fun h' tk hk'=>?_))
  have hS':=hk' S _ hSw hS
  rcases hB with ⟨h0,rfl⟩ | ⟨vb,i,hi,rfl,hP⟩
  ·show wpAny _ A.in1 (rule _ >>= _) _ _ _
   refine wpAny_bind (wpAny_rule (wpAny_pure ?_))
   exact hR dv h' tk (.inl ⟨by omega,rfl⟩) fun b o hbw hbS e=>hk' b o hbw e
  ·show wpAny _ A.in1 (updateSeq S (fun _=>#[]) >>= _) _ _ _
   refine wpAny_bind ?_
   refine wpAny_updateSeq hS' rfl (wpAny_bind (wpAny_letGo (wpAny_pure ?_)))
   refine hR vb _ tk (.inr ⟨by omega,by rw [show n - 1=i by omega];exact hP⟩) fun b o hbw hbS e=>(Heap.get?_update_other _ _ (Ne.symm hbS)).trans (hk' b o hbw e)
 | succ k ih=>
  intro j s acc c hk hj hst hB hS hR
  have hlt:j < n:=by omega
  refine codeAny_builtin PySem.F.entry_min_loop ?_
  rw [Around.under_plainId PySem.F.plain_min_loop _]
  show wpAny _ A.in1 (seqItems? (.ref S) >>= _) _ _ s
  refine wpAny_bind (wpAny_seqItems hS rfl ?_)
  show wpAny _ A.in1 (tryCatch (pyNext (.ref I)) _ >>= _) _ _ s
  refine wpAny_bind (wpAny_tryCatch (W.item j s _ _ hlt hst fun v h' tk hP hst' hk'=>?_))
  have hS':=hk' S _ hSw hS
  have put:∀ h'':Heap,h''=h'.update S (Obj.mapSeq (fun _=>#[v,v]))→St (j + 1) h'':=fun h'' e=>by
   subst e
   exact W.frame _ _ _ hst' fun b hbf o e=>(Heap.get?_update_other _ _ (fun h:S=b=>hSf (by rw [h];exact hbf))).trans e
  rcases hB with ⟨h0,rfl⟩ | ⟨vb,i,hi,rfl,hPb⟩
  ·show wpAny _ A.in1 (updateSeq S (fun _=>#[v,v]) >>= _) _ _ _
   refine wpAny_bind ?_
   refine wpAny_updateSeq hS' rfl ?_
   rw [hname]
   refine wpAny_pure ⟨plainId_quiet PySem.F.plain_min_loop _,ih (j + 1) _ #[v,v] _ (by omega) hlt (put _ rfl) (.inr ⟨v,j,rfl,rfl,by subst h0;exact hP⟩) (Heap.get?_update_self _ hS' rfl) fun v' h'' tk'' hP' hk''=>?_⟩
   exact hR v' h'' tk'' hP' fun b o hbw hbS e=>hk'' b o hbw hbS ((Heap.get?_update_other _ _ (Ne.symm hbS)).trans (hk' b o hbw e))
  ·subst hi
   show wpAny _ A.in1 (tryCatch (holding [v,v] (richCompare .Lt v vb >>= _)) _ >>= _) _ _ _
   refine wpAny_bind (wpAny_tryCatch (wpAny_holding (wpAny_bind (hcmp (i + 1) (argBest bt i) v vb _ _ _ hP hPb ?_))))
   refine wpAny_bind (wpAny_holding (wpAny_truthy_bool ?_))
   refine wpAny_bind (wpAny_letGo (wpAny_pure ?_))
   cases hb:bt (i + 1) (argBest bt i) with
   | true=>
    simp only [if_true]
    refine wpAny_bind ?_
    refine wpAny_updateSeq hS' rfl (wpAny_bind (wpAny_letGo ?_))
    rw [hname]
    refine wpAny_pure ⟨plainId_quiet PySem.F.plain_min_loop _,ih (i + 1 + 1) _ #[v,v] _ (by omega) hlt (put _ rfl) (.inr ⟨v,i + 1,rfl,rfl,by simp only [argBest,hb,if_true];exact hP⟩) (Heap.get?_update_self _ hS' rfl) fun v' h'' tk'' hP' hk''=>?_⟩
    exact hR v' h'' tk'' hP' fun b o hbw hbS e=>hk'' b o hbw hbS ((Heap.get?_update_other _ _ (Ne.symm hbS)).trans (hk' b o hbw e))
   | false=>
    simp only [Bool.false_eq_true,if_false]
    refine wpAny_bind (wpAny_letGo ?_)
    rw [hname]
    refine wpAny_pure ⟨plainId_quiet PySem.F.plain_min_loop _,ih (i + 1 + 1) _ #[vb,vb] c (by omega) hlt hst' (.inr ⟨vb,i + 1,rfl,rfl,by simp only [argBest,hb,Bool.false_eq_true,if_false];exact hPb⟩) hS' fun v' h'' tk'' hP' hk''=>?_⟩
    exact hR v' h'' tk'' hP' fun b o hbw hbS e=>hk'' b o hbw hbS (hk' b o hbw e)
end
section
variable {prog:Program} {w:World} {A:Around} {E:Value→Shared→Prop} {s:Shared}
theorem wP (a d:Value):argsOk "min" ⟨[a],[(Str.ofString "default",d)]⟩:=by unfold argsOk;kernel_rfl
theorem WP {l:Addr} {its:Array Value} {dv:Value} {Q:Value→Shared→Prop} (hh:A.handled=none) (hl:s.heap.IsList l its) (ks:List Int) (hk:its.size=ks.length) (hv:∀ (i:Nat) (v:Value),its[i]? = some v→∃ t,v=Value.int (ks.getD i 0) t)
  (hQ:∀ v h' tk,(ks=[]∧v=dv)∨(∃ m t,ks.min? = some m∧v=.int m t)→(∀ b o,s.heap.get? b=some o→h'.get? b=some o)→Q v { s with heap:=h',toks:=tk }) :
  wpAny (model prog w) A (call (.builtin "min") [.ref l] [(Str.ofString "default",dv)]) Q E s:=by
 have hname:(toString "min" ++ toString ".loop" : String) = "min.loop" := by decide
 have hlt:l < s.heap.objs.size:=by obtain ⟨_,e,_⟩:=hl;exact Heap.lt_size e
 refine wpAny_call (codeAny_call_builtin PySem.F.plain_min PySem.F.entry_min ?_)
 simp only [checkBuiltinCall,PySem.F.kind_min]
 have key:wpAny (model prog w) A.in1 (Builtin.«min» ⟨[.ref l],[(Str.ofString "default",dv)]⟩) (fun fin s'=>match fin with
   | .done f=>(match (Except.ok f:Result) with | .ok (.ret v)=>Q v s' | .ok _=>False | .error e=>E e s')
   | .again c'=>c'.quiet=true∧codeAny (model prog w) A c' (fun r s'=>match r with | .ok (.ret v)=>Q v s' | .ok _=>False | .error e=>E e s') s') E s:=by
  show wpAny _ A.in1 (Builtin.Builtins.bindParams "min" ["key","default"] 0 ⟨[],[(Str.ofString "default",dv)]⟩ >>= _) _ _ s
  refine wpAny_bind (wpAny_of_eq (show Builtin.Builtins.bindParams "min" ["key","default"] 0 ⟨[],[(Str.ofString "default",dv)]⟩=pure [none,some dv] from rfl) ?_)
  refine wpAny_bind (wpAny_pure ?_)
  refine wpAny_bind (wpAny_pyIter_list hl ?_)
  refine wpAny_bind (wpAny_newObj_type ?_)
  rw [hname]
  have W:=Walks.list (prog:=prog) (w:=w) (A:=A.in1) hh s.heap.objs.size l (Nat.ne_of_lt hlt) its
  have hz1:(s.heap.push { cls:=.type "list_iterator",data:=.fields #[.ref l,.int 0 0] }).objs.size=s.heap.objs.size + 1:=Heap.size_push ..
  refine wpAny_pure ⟨plainId_quiet PySem.F.plain_min_loop _,iO W _ (CmpOf.ints_lt (fun i=>ks.getD i 0) fun i v h=>hv i v h) _ ?_ dv _ its.size 0 _ #[] _ rfl (Nat.zero_le _) ?_ (.inl ⟨rfl,rfl⟩) (Heap.get?_push_size _ rfl) fun v h' tk hP hk'=>?_⟩
  ·show (s.heap.push _).objs.size ∉ _
   rw [hz1]
   simp only [List.mem_cons,List.not_mem_nil,or_false,not_or]
   exact ⟨Nat.succ_ne_self _,Ne.symm (Nat.ne_of_lt (Nat.lt_succ_of_lt hlt))⟩
  ·exact W.frame 0 (s.heap.push { cls:=.type "list_iterator",data:=.fields #[.ref l,.int 0 0] }) _ ⟨⟨_,Heap.get?_push_size _ rfl,rfl,rfl⟩,hl.push _⟩ fun b _ o e=>Heap.get?_push_of_some _ e
  ·refine hQ v h' tk ?_ fun b o e=>hk' b o (fun hm=>?_) ?_ (Heap.get?_push_of_some _ (Heap.get?_push_of_some _ e))
   ·rcases hP with ⟨h0,h1⟩ | ⟨h0,h1⟩
    ·exact .inl ⟨List.length_eq_zero_iff.mp (by omega),h1⟩
    ·obtain ⟨t,e⟩:=hv _ v h1
     have hb:=argBest_lt (fun i=>ks.getD i 0) (its.size - 1)
     refine .inr ⟨_,t,?_,e⟩
     rw [List.min?_eq_some_iff]
     have hi:argBest (fun i j=>decide (ks.getD i 0 < ks.getD j 0)) (its.size - 1) < ks.length:=by omega
     refine ⟨?_,fun b hb'=>?_⟩
     ·rw [List.getD_eq_getElem?_getD,List.getElem?_eq_getElem hi]
      exact List.getElem_mem hi
     ·obtain ⟨j,hj,rfl⟩:=List.getElem_of_mem hb'
      have:=hb.2 j (by omega)
      rw [List.getD_eq_getElem?_getD (i:=j),List.getElem?_eq_getElem hj] at this
      exact this
   ·rw [List.mem_singleton.mp hm] at e
    exact absurd (Heap.lt_size e) (Nat.lt_irrefl _)
   ·rw [hz1]
    exact Nat.ne_of_lt (Nat.lt_succ_of_lt (Heap.lt_size e))
 cases hsig:Manifest.signature? "min" with
 | none=>exact wpAny_pure key
 | some sig=>
  have ha:=wP (.ref l) dv
  have ha':Bind.checkArgs "min" sig ⟨[.ref l],[(Str.ofString "default",dv)]⟩=pure ():=by simpa only [argsOk,hsig] using ha
  simp only [ha']
  exact wpAny_pure key
end
section
variable {X:Cx}
def pY (K:PySem.W.Frag) (ta:TA) (td:TE):TE:=fun σ H Q=>ta σ H fun vs H1=>td σ H1 fun y H2=>∃ l ks,vs=[.ref l]∧SqL K H2 l (List.map V.int ks)∧Q (match ks.min? with | some m=>.int m | none=>y) H2
theorem eV {a d:Expr} {ta:TA} {td:TE} {p kp pos:Pos} (hc:X.calm=true) (hg:Gl X "min") (hm:X.mg "min"=none) (ha:PA X [a] ta) (hd:PE X d td)
  (he:∀ pos,backTo pos (starEach [a] X.env)=(false,eval a X.env) :: backTo pos (starEach [] X.env):=by intro _;rfl) (hpl:∀ pos,(backTo pos (starEach [a] X.env)).any (·.1)=false:=by intro _;rfl) :
  PE X (.Call (.Name "min" p) [a] [⟨some "default",d,kp⟩] pos) (pY X.K ta td):=by
 intro pins s σ H Q I h
 refine wpAny_Call_Name_kw (Yu I hg hm (show bootBuiltins "min"=some (.builtin "min") by decide +kernel) ?_)
 refine callWith_kw (id := "min") (thn (ha pos pins s σ H _ I h) fun us s1 ⟨vs,H1,I1,r1,q1⟩=>?_) (he:=he pos) (hplain:=hpl pos)
 refine kws_cons (thn (hd pins s1 σ H1 _ I1 q1) fun v s2 ⟨y,H2,I2,r2,q2⟩=>kws_nil ?_)
 obtain ⟨l,ks,rfl,hq,q⟩:=q2
 cases r1 with
 | cons r rr=>
  cases rr
  cases r
  obtain ⟨its,rv,pl,hz⟩:=I2.list hq
  have hl:=rv.length
  rw [List.length_map] at hl
  refine WP (I2.ok.hd hc) pl.isList ks (by rw [List.size_toArray];omega) (fun i v hv=>?_) fun v' h' tk hv' hk=>⟨_,H2,I2.kept hk,?_,q⟩
  ·rw [List.getElem?_toArray] at hv
   have hi:i < ks.length:=by have:=(List.getElem?_eq_some_iff.mp hv).1;omega
   obtain ⟨w,hw,rw'⟩:=rv.get (show (ks.map V.int)[i]? = some (.int ks[i]) by rw [List.getElem?_map,List.getElem?_eq_getElem hi];rfl)
   rw [hv] at hw
   cases hw
   rw [List.getD_eq_getElem?_getD,List.getElem?_eq_getElem hi]
   exact rw'
  ·rcases hv' with ⟨rfl,rfl⟩ | ⟨m,t,hm,rfl⟩
   ·exact r2
   ·rw [hm];exact ⟨t,rfl⟩
end
end L2
namespace L2
open PySem PySem.Spec PyProof.Rows
structure U2 (K:PySem.W.Frag) (C:Addr):Prop where
 x:ZD K C
 ha:PySem.W.findIn K (.ref C) "__class__"=some (some (.builtin "object.__class__"))
 hn:PySem.W.specialIn K (.builtin "object.__class__") "__get__"=some (some (.builtin "getset_descriptor.__get__"))
 htk:PySem.W.takesIn K (.builtin "object.__class__")=some true
 hm:PySem.W.mroIn K C (.type "object")=some true
section
variable {prog:Program} {w:World} {A:Around} {E:Value→Shared→Prop} {s:Shared} {K:PySem.W.Frag} {x C:Addr} {od:Obj} {dx:Addr} {vs:Array Value} {sl:Array (Option Value)}
end
def E1 (K:PySem.W.Frag) (neg:Bool):R2:=fun x y H Q=>∃ p qs f,y=.ref p∧SqL K H p (List.map V.ref qs)∧(∀ q ∈ qs,EqH K H 8 (.ref q) x (f q))∧Q (.bl (if neg then !(qs.any f) else qs.any f)) H
section
variable {X:Cx}
end
theorem Nb.quiet {P:Program} {w:World} {K:PySem.W.Frag} {mg:Str→Option Value} {base:Heap} {k:Nat} {f:Addr} {fd:FuncData} {ps:List Str} {sp sp':Sp} (F:Nb P w K mg base (CX1 P w) k f fd ps sp)
  (h:∀ vs H Q E,sp' vs H Q E→sp vs H Q (fun _ _ _=>False)):Nb P w K mg base CX0 k f fd ps sp':=by
 refine ⟨fun vs H Q E q=>F.len vs H _ _ (h vs H Q E q),fun A outer s H args us vs Q E hr he hb hv hs=>?_⟩
 refine codeAny_mono (F.run A outer s H args us vs Q _ hr he hb hv (h vs H Q E hs)) fun r s' hq=>?_
 cases r with
 | error e=>
  obtain ⟨x,C,od,H',T,_,_,_,_,_,_,_,_,_,z⟩:=hq
  exact z.elim
 | ok fl=>cases fl <;> exact hq
end L2
namespace L2
open PySem PySem.Spec PyProof.Rows
structure uw (k:Nat) (A:Around):Prop where
 dp:A.depth + 3 * k + 5 < recursionLimit
 un:A.units + 16 * k + 200 < cLine
theorem Hm.h {k:Nat} {A:Around} (r:Hm k A):uw k A:=⟨r.dp,r.un⟩
theorem uw.mono {j k:Nat} {A:Around} (r:uw k A) (h:j ≤ k):uw j A:=⟨by have:=r.dp;omega,by have:=r.un;omega⟩
theorem uw.deeper {k:Nat} {A:Around} (r:uw (k + 1) A) (env:Env):uw k (A.deeper env):=
 ⟨by have:=r.dp;show A.depth + 1 + 3 * k + 5 < _;omega,by have:=r.un;show A.units + 3 + 16 * k + 200 < _;omega⟩
theorem uw.depth {k:Nat} {A:Around} (r:uw k A):A.depth < recursionLimit:=by have:=r.dp;omega
theorem uw.units {k:Nat} {A:Around} (r:uw k A):A.units + 64 < cLine:=by have:=r.un;omega
theorem Hm.hn {k:Nat} {X:Cx} {e:Value} (r:Hm k X.A):uw k (X.hn e).A:=⟨r.dp,r.un⟩
structure WV (P:Program) (w:World) (K:PySem.W.Frag) (mg:Str→Option Value) (base:Heap) (CX:CXT) (k:Nat) (f:Addr) (fd:FuncData) (ps:List Str) (sp:Sp):Prop where
 len:∀ vs H Q E,sp vs H Q E→vs.length=ps.length
 run:∀ (A:Around) (outer:List Env) (s:Shared) (H:Hp) (args:Args) (us:List Value) (vs:List V) (Q:VK) (E:XK),uw k A→TN P w K mg base A outer s H→BindsTo s fd args (ps.zip us)→Ae vs us→sp vs H Q E →
  codeAny (model P w) A (.call (.ref f) args) (CR CX outer P w H s Q E) s
theorem WV.mono {P:Program} {w:World} {K:PySem.W.Frag} {mg:Str→Option Value} {base:Heap} {CX:CXT} {j k:Nat} {f:Addr} {fd:FuncData} {ps:List Str} {sp:Sp} (F:WV P w K mg base CX j f fd ps sp) (h:j ≤ k) :
  WV P w K mg base CX k f fd ps sp:=⟨F.len,fun A outer s H args us vs Q E hr=>F.run A outer s H args us vs Q E (hr.mono h)⟩
section
variable {X:Cx} {CX:CXT} {k:Nat} {f C:Addr} {fd:FuncData} {ps:List Str} {sp:Sp} {dvs:List V} {ds:List Value} {E:XK} {x m:Str} {p pos apos:Pos} {e o:Expr} {es:List Expr} {ta:TE} {t:TA}
end
def LZ (CX:CXT) (P:Program) (w:World) (K:PySem.W.Frag) (mg:Str→Option Value) (base:Heap) (N:List Str) (qual:Str) (scope:Scope) (f:Addr) (cd:Value) (A:Around) (outer:List Env) (s:Shared) (H:Hp) (E:XK):Cx where
 prog:=P
 w:=w
 K:=K
 mg:=mg
 base:=base
 A:=A.deeper (envOfC qual scope s.heap.objs.size f cd)
 N:=N
 s₀:=s
 H₀:=H
 env:=envOfC qual scope s.heap.objs.size f cd
 outer:=outer
 stack:=envOfC qual scope s.heap.objs.size f cd :: outer
 ex:=[]
 calm:=false
 fn:=fun _=>true
 pn:=[]
 xe:=fun e s'=>wpAny (model P w) (A.deeper (envOfC qual scope s.heap.objs.size f cd)) (leaving (envOfC qual scope s.heap.objs.size f cd) e) (fun _ s''=>CX outer H s E e s'') (fun e' s''=>CX outer H s E e' s'') s'
section
variable {P:Program} {w:World} {K:PySem.W.Frag} {mg:Str→Option Value} {base:Heap}
end
end L2
namespace L2
open PySem PySem.Spec PyProof.Rows
theorem fW (i:Nat) (σ:St) (H:Hp) (Q:VK):RZ i σ H Q=(∃ v,σ[i]? = some (some v)∧Q v H):=rfl
theorem sZ (v:V) (x_0:St) (H:Hp) (Q:VK):tC v x_0 H Q=(Q v H):=rfl
theorem WU (ta tb:TE) (σ:St) (H:Hp) (Q:VK):O1 ta tb σ H Q=(t2I ta tb (fun i j H2=>Q (.int (i + j)) H2) σ H):=rfl
theorem pU (ta tb:TE) (σ:St) (H:Hp) (Q:VK):Q1 ta tb σ H Q=(t2I ta tb (fun i j H2=>Q (.int (i - j)) H2) σ H):=rfl
theorem lW (ta tb:TE) (σ:St) (H:Hp) (Q:VK):G1 ta tb σ H Q=(t2I ta tb (fun i j H2=>(-(2 ^ 64) < i∧i < 2 ^ 64)∧Q (.int (i * j)) H2) σ H):=rfl
theorem MV (p:Int→Int→Bool) (ta tb:TE) (σ:St) (H:Hp) (Q:VK):J1 p ta tb σ H Q=(t2I ta tb (fun i j H2=>Q (.bl (p i j)) H2) σ H):=rfl
theorem oW (ta:TE) (σ:St) (H:Hp) (Q:VK):T1 ta σ H Q=(ta σ H fun x H1=>Q (.bl (decide (x=.non))) H1):=rfl
theorem yS (ta:TE) (σ:St) (H:Hp) (Q:VK):IZ ta σ H Q=(ta σ H fun x H1=>Q (.bl (!decide (x=.non))) H1):=rfl
theorem PZ (t:TE) (σ:St) (H:Hp) (Q:(Bool→Hp→Prop)):tB t σ H Q=(t σ H fun x H1=>∃ c,x=.bl c∧Q c H1):=rfl
theorem VU (t u:TT) (σ:St) (H:Hp) (Q:(Bool→Hp→Prop)):i0 t u σ H Q=(t σ H fun c H1=>if c=true then u σ H1 Q else Q false H1):=rfl
theorem GX (t u:TT) (σ:St) (H:Hp) (Q:(Bool→Hp→Prop)):tOr t u σ H Q=(t σ H fun c H1=>if c=true then Q true H1 else u σ H1 Q):=rfl
theorem iV (t:TT) (σ:St) (H:Hp) (Q:(Bool→Hp→Prop)):z0 t σ H Q=(t σ H fun c H1=>Q (!c) H1):=rfl
theorem kR (ta tb:TE) (σ:St) (H:Hp) (Q:VK):MX ta tb σ H Q=(ta σ H fun x H1=>∃ c,x=.bl c∧if c=true then tb σ H1 Q else Q (.bl false) H1):=rfl
theorem LV (ta tb:TE) (σ:St) (H:Hp) (Q:VK):F0 ta tb σ H Q=(ta σ H fun x H1=>∃ c,x=.bl c∧if c=true then Q (.bl true) H1 else tb σ H1 Q):=rfl
theorem nR (ta:TE) (σ:St) (H:Hp) (Q:VK):lZ ta σ H Q=(ta σ H fun x H1=>∃ c,x=.bl c∧Q (.bl (!c)) H1):=rfl
theorem uY (t:TT) (ta tb:TE) (σ:St) (H:Hp) (Q:VK):tIf t ta tb σ H Q=(t σ H fun c H1=>if c=true then ta σ H1 Q else tb σ H1 Q):=rfl
theorem ez (D:Ui) (σ:St) (H:Hp):AY  D σ H=(D.nx σ H):=rfl
theorem Jd (t u:TS) (D:Ui) (σ:St) (H:Hp):M0 t u D σ H=(t { D with nx:=u D } σ H):=rfl
theorem mO (D:Ui) (σ:St) (H:Hp):bY  D σ H=(D.bk σ H):=rfl
theorem xS (D:Ui) (σ:St) (H:Hp):MZ  D σ H=(D.ct σ H):=rfl
theorem MQ (te:TE) (D:Ui) (σ:St) (H:Hp):cX te D σ H=(te σ H fun _ H1=>D.nx σ H1):=rfl
theorem jV (te:TE) (D:Ui) (σ:St) (H:Hp):uZ te D σ H=(te σ H D.rt):=rfl
theorem GR (D:Ui) (x_1:St) (H:Hp):SZ  D x_1 H=(D.rt .non H):=rfl
theorem xQ (x_0:Ui) (x_1:St) (x_2:Hp):MT  x_0 x_1 x_2=(False):=rfl
theorem jL (i:Nat) (v:V) (σ:St) (H:Hp) (Q:(St→Hp→Prop)):NF i v σ H Q=(Q (σ.set i (some v)) H):=rfl
theorem ZT (vs:List V) (σ:St) (H:Hp) (Q:(St→Hp→Prop)):ZY  vs σ H Q=(vs=[]∧Q σ H):=rfl
theorem KQ (t:TG) (u:TGs) (vs:List V) (σ:St) (H:Hp) (Q:(St→Hp→Prop)):RM t u vs σ H Q=(∃ v r,vs=v :: r∧t v σ H fun σ' H'=>u r σ' H' Q):=rfl
theorem LU (K:PySem.W.Frag) (n:Nat) (t:TGs) (v:V) (σ:St) (H:Hp) (Q:(St→Hp→Prop)):GW K n t v σ H Q=(∃ a xs,v=.ref a∧SqT K H a xs∧xs.length=n∧t xs σ H Q):=rfl
theorem IU (to ti:TE) (t:wW) (v:V) (σ:St) (H:Hp) (Q:(St→Hp→Prop)):X0 to ti t v σ H Q=(to σ H fun o H1=>ti σ H1 fun i H2=>t o i v H2 fun H3=>Q σ H3):=rfl
theorem YT (te:TE) (g:TG) (D:Ui) (σ:St) (H:Hp):fZ te g D σ H=(te σ H fun x H1=>g x σ H1 D.nx):=rfl
theorem tV (i j:Nat) (ta:TA) (D:Ui) (σ:St) (H:Hp):X1 i j ta D σ H=(ta σ H fun vs H1=>∃ v w,vs=[v,w]∧D.nx ((σ.set i (some v)).set j (some w)) H1):=rfl
theorem vV (i:Nat) (te:TE) (ti:TIp) (D:Ui) (σ:St) (H:Hp):K1 i te ti D σ H=(∃ x,σ[i]? = some (some x)∧te σ H fun y H1=>ti x y H1 fun z H2=>D.nx (σ.set i (some z)) H2):=rfl
theorem HQ (to ti te:TE) (tget:V→V→Hp→VK→Prop) (tip:TIp) (tset:wW) (D:Ui) (σ:St) (H:Hp):QZ to ti te tget tip tset D σ H=(to σ H fun o H1=>ti σ H1 fun i H2=>tget o i H2 fun x H3=>te σ H3 fun y H4=>tip x y H4 fun z H5=>tset o i z H5 fun H6=>D.nx σ H6):=rfl
theorem lS (K:PySem.W.Frag) (tl:TE) (σ:St) (H:Hp) (R:(It→Hp→Prop)):DW K tl σ H R=(tl σ H fun x H1=>∃ a,x=.ref a∧(∃ xs,SqL K H1 a xs)∧R (Itl K a) H1):=rfl
theorem JV (K:PySem.W.Frag) (tl:TE) (σ:St) (H:Hp) (R:(It→Hp→Prop)):I0 K tl σ H R=(tl σ H fun x H1=>∃ a,x=.ref a∧(∃ xs,SqT K H1 a xs)∧R (Itt K a) H1):=rfl
theorem eY (r:R2) (ta tb:TE) (σ:St) (H:Hp) (Q:VK):tOp r ta tb σ H Q=(ta σ H fun x H1=>tb σ H1 fun y H2=>r x y H2 Q):=rfl
theorem SY (r:V→Hp→VK→Prop) (ta:TE) (σ:St) (H:Hp) (Q:VK):tUn r ta σ H Q=(ta σ H fun x H1=>r x H1 Q):=rfl
theorem UZ (C:Int→Int→Prop) (g:Int→Int→V) (x:V) (y:V) (H:Hp) (Q:VK):rI C g x y H Q=(∃ i j,x=.int i∧y=.int j∧C i j∧Q (g i j) H):=rfl
theorem MY (g:Int→Int→V) (x:V) (y:V) (H:Hp) (Q:VK):rI0 g x y H Q=(∃ i j,x=.int i∧y=.int j∧Q (g i j) H):=rfl
theorem ZZ (g:Int→V) (x:V) (H:Hp) (Q:VK):rU g x H Q=(∃ i,x=.int i∧Q (g i) H):=rfl
theorem MW (x:V) (y:V) (H:Hp) (Q:VK):rEq  x y H Q=(rX x y=true∧Q (.bl (decide (x=y))) H):=rfl
theorem wY (x:V) (y:V) (H:Hp) (Q:VK):rNe  x y H Q=(rX x y=true∧Q (.bl (!decide (x=y))) H):=rfl
theorem iR (t:TE) (σ:St) (H:Hp) (Q:(Bool→Hp→Prop)):kX t σ H Q=(t σ H fun x H'=>∃ k,x=.bl k∧Q k H'):=rfl
theorem zN (r r':R2) (ta tb tc:TE) (σ:St) (H:Hp) (Q:VK):aY r r' ta tb tc σ H Q=(ta σ H fun x H1=>tb σ H1 fun y H2=>r x y H2 fun z H3=>∃ k,z=.bl k ∧
 (if k=true then tc σ H3 fun w' H4=>r' y w' H4 Q else Q (.bl false) H3)):=rfl
theorem QV (K:PySem.W.Frag) (ta:TE) (f:Str) (σ:St) (H:Hp) (Q:VK):Q2 K ta f σ H Q=(ta σ H fun x H1=>∃ a C dx fs v u,x=.ref a∧H1 a=some (.ins C dx fs)∧Cls K C∧Con K C f v u∧fs.lookup f=none∧Q v H1):=rfl
theorem EU (K:PySem.W.Frag) (ta tv:TE) (f:Str) (D:Ui) (σ:St) (H:Hp):v1 K ta tv f D σ H=(tv σ H fun y H1=>ta σ H1 fun x H2=>∃ a C dx fs,x=.ref a∧H2 a=some (.ins C dx fs)∧Cls K C∧Mb K C f∧fs.length < 1000 ∧
 D.nx σ (upd H2 a (.ins C dx (dj f y fs)))):=rfl
theorem mM (K:PySem.W.Frag) (ta tv:TE) (rd:V→V→Hp→VK→Prop) (f:Str) (D:Ui) (σ:St) (H:Hp):fQ K ta tv rd f D σ H=(ta σ H fun x H1=>∃ a C dx fs v,x=.ref a∧H1 a=some (.ins C dx fs)∧Cls K C∧Mb K C f∧fs.lookup f=some v ∧
 tv σ H1 fun y H2=>rd v y H2 fun z H3=>∃ dx' fs',H3 a=some (.ins C dx' fs')∧fs'.length < 1000∧D.nx σ (upd H3 a (.ins C dx' (dj f z fs')))):=rfl
theorem XV (x:V) (y:V) (H:Hp) (Q:VK):B1  x y H Q=(∃ i j,x=.int i∧y=.int j∧Q (.int (i + j)) H):=rfl
theorem GU (x:V) (y:V) (H:Hp) (Q:VK):O2  x y H Q=(∃ i j,x=.int i∧y=.int j∧Q (.int (i - j)) H):=rfl
theorem qV (x_0:St) (H:Hp) (Q:(List V→Hp→Prop)):dZ  x_0 H Q=(Q [] H):=rfl
theorem XR (ta:TE) (tr:TA) (σ:St) (H:Hp) (Q:(List V→Hp→Prop)):dY ta tr σ H Q=(ta σ H fun x H1=>tr σ H1 fun xs H2=>Q (x :: xs) H2):=rfl
theorem lU (t:TA) (σ:St) (H:Hp) (Q:VK):K0 t σ H Q=(t σ H fun xs H1=>xs.length ≤ sizeLine∧∀ p,H1 p=none→Q (.ref p) (upd H1 p (.tup xs))):=rfl
theorem sU (t:TA) (σ:St) (H:Hp) (Q:VK):P0 t σ H Q=(t σ H fun xs H1=>xs.length ≤ sizeLine∧∀ p,H1 p=none→Q (.ref p) (upd H1 p (.lst xs))):=rfl
theorem vR (sp:Sp) (dvs:List V) (E:XK) (t:TA) (σ:St) (H:Hp) (Q:VK):kW sp dvs E t σ H Q=(t σ H fun vs H1=>sp (vs ++ dvs) H1 Q E):=rfl
theorem dR (C:Addr) (m:Str) (sp:Sp) (dvs:List V) (E:XK) (ta:TE) (t:TA) (σ:St) (H:Hp) (Q:VK):eW C m sp dvs E ta t σ H Q=(ta σ H fun x H1=>∃ a dx fs,x=.ref a∧H1 a=some (.ins C dx fs)∧fs.lookup m=none ∧
 t σ H1 fun vs H2=>sp (x :: (vs ++ dvs)) H2 Q E):=rfl
theorem FR (C:Addr) (sp:Sp) (dvs:List V) (E:XK) (t:TA) (σ:St) (H:Hp) (Q:VK):IW C sp dvs E t σ H Q=(t σ H fun vs H1=>∀ x dx,H1 x=none→H1 dx=none→dx ≠ x →
 sp (.ref x :: (vs ++ dvs)) (upd (upd H1 dx (.own x)) x (.ins C dx [])) (fun v H2=>v=.non∧Q (.ref x) H2) E):=rfl
theorem IO (sp:Sp) (gV:List V→List V→List V) (E:XK) (t tk:TA) (σ:St) (H:Hp) (Q:VK):LW sp gV E t tk σ H Q=(t σ H fun vs H1=>tk σ H1 fun zs H2=>sp (gV vs zs) H2 Q E):=rfl
theorem YX (r:List V→Hp→VK→Prop) (t:TA) (σ:St) (H:Hp) (Q:VK):tCB r t σ H Q=(t σ H fun vs H1=>r vs H1 Q):=rfl
theorem IL (x_0:St) (H:Hp) (Q:(Option Int→Hp→Prop)):eO  x_0 H Q=(Q none H):=rfl
theorem CQ (t:TE) (σ:St) (H:Hp) (Q:(Option Int→Hp→Prop)):XX t σ H Q=(t σ H fun x H1=>∃ i,x=.int i∧Q (some i) H1):=rfl
theorem KY (r:V→Option Int→Option Int→Hp→VK→Prop) (te:TE) (tl th:TO) (σ:St) (H:Hp) (Q:VK):tSl r te tl th σ H Q=(te σ H fun x H1=>tl σ H1 fun l H2=>th σ H2 fun u H3=>r x l u H3 Q):=rfl
theorem AV (K:PySem.W.Frag) (x:V) (lo:Option Int) (hi:Option Int) (H:Hp) (Q:VK):K2 K x lo hi H Q=(∃ a xs,x=.ref a∧SqT K H a xs ∧
 ¬ (HT.sIx xs.length 0 lo=0∧HT.sIx xs.length xs.length hi=xs.length)∧∀ p,H p=none→Q (.ref p) (upd H p (.tup (cI xs lo hi)))):=rfl
theorem WT (K:PySem.W.Frag) (x:V) (y:V) (H:Hp) (Q:VK):P1 K x y H Q=(∃ a b ns ms,x=.ref a∧y=.ref b∧SqT K H a (ns.map V.int)∧SqT K H b (ms.map V.int)∧Q (.bl (HT.lexLt ns ms)) H):=rfl
theorem OR (K:PySem.W.Frag) (x:V) (y:V) (H:Hp) (Q:VK):rZ K x y H Q=(∃ a b xs ys,x=.ref a∧y=.ref b∧SqT K H a xs∧SqT K H b ys∧xs ≠ []∧xs.length + ys.length ≤ sizeLine ∧
 (ys=[]→Q (.ref a) H)∧(ys ≠ []→∀ p,H p=none→Q (.ref p) (upd H p (.tup (xs ++ ys))))):=rfl
theorem fV (K:PySem.W.Frag) (x:V) (y:V) (H:Hp) (Q:VK):hZ K x y H Q=(∃ p xs i v,x=.ref p∧y=.int i∧SqL K H p xs∧atI xs i=some v∧Q v H):=rfl
theorem gW (K:PySem.W.Frag) (x:V) (y:V) (H:Hp) (Q:VK):cZ K x y H Q=(∃ p xs i v,x=.ref p∧y=.int i∧SqT K H p xs∧atI xs i=some v∧Q v H):=rfl
theorem CU (x:V) (y:V) (H:Hp) (Q:VK):iZ  x y H Q=(∃ z i c,x=.str z∧y=.int i∧z.length ≤ sizeLine∧atI z.cps.toList i=some c∧Q (.str ⟨#[c]⟩) H):=rfl
theorem XW (K:PySem.W.Frag) (x:V) (y:V) (H:Hp) (Q:VK):rIx K x y H Q=(hZ K x y H Q∨cZ K x y H Q∨iZ x y H Q):=rfl
theorem lR (o:V) (i:V) (v:V) (H:Hp) (Q:(Hp→Prop)):nY  o i v H Q=(∃ p xs k j,o=.ref p∧i=.int k∧H p=some (.lst xs)∧ixN xs.length k=some j∧Q (upd H p (.lst (xs.set j v)))):=rfl
theorem NU (K:PySem.W.Frag) (x:V) (lo:Option Int) (hi:Option Int) (H:Hp) (Q:VK):A0 K x lo hi H Q=(∃ a xs,x=.ref a∧SqL K H a xs∧∀ p,H p=none→Q (.ref p) (upd H p (.lst (cI xs lo hi)))):=rfl
theorem rY (K:PySem.W.Frag) (neg:Bool) (x:V) (y:V) (H:Hp) (Q:VK):rIn K neg x y H Q=(∃ p xs,y=.ref p∧(SqL K H p xs∨SqT K H p xs)∧wo x=true∧xs.all wo=true∧Q (.bl (if neg then !inV x xs else inV x xs)) H):=rfl
theorem vW (K:PySem.W.Frag) (T:String) (r:V→List V→Hp→VK→Prop) (to:TE) (σ:St) (H:Hp) (Q:VK):G2 K T r to σ H Q=(to σ H fun x H1=>tyV K T x H1∧r x [] H1 Q):=rfl
theorem EW (K:PySem.W.Frag) (T:String) (r:V→List V→Hp→VK→Prop) (to:TE) (t:TA) (σ:St) (H:Hp) (Q:VK):tBM K T r to t σ H Q=(to σ H fun x H1=>tyV K T x H1∧t σ H1 fun xs H2=>r x xs H2 Q):=rfl
theorem JM (x:V) (vs:List V) (H:Hp) (Q:VK):ZN  x vs H Q=(∃ l xs y,x=.ref l∧vs=[y]∧H l=some (.lst xs)∧xs.length < sizeLine∧Q .non (upd H l (.lst (xs ++ [y])))):=rfl
theorem DM (x:V) (vs:List V) (H:Hp) (Q:VK):wU  x vs H Q=(∃ l b xs zs,x=.ref l∧vs=[.ref b]∧H l=some (.lst xs)∧H b=some (.lst zs)∧xs.length + zs.length ≤ sizeLine∧Q .non (upd H l (.lst (xs ++ zs)))):=rfl
theorem RV (x:V) (vs:List V) (H:Hp) (Q:VK):F1  x vs H Q=(∃ l xs y,x=.ref l∧vs=[]∧H l=some (.lst xs)∧xs[xs.length - 1]? = some y∧Q y (upd H l (.lst xs.dropLast))):=rfl
theorem bO (x:V) (vs:List V) (H:Hp) (Q:VK):aX  x vs H Q=(∃ l xs i k y,x=.ref l∧vs=[.int i]∧H l=some (.lst xs)∧-(2 ^ 63) ≤ i∧i < 2 ^ 63∧seqIndex? i xs.length=some k∧xs[k]? = some y∧Q y (upd H l (.lst (xs.eraseIdx k)))):=rfl
theorem AJ (x:V) (vs:List V) (H:Hp) (Q:VK):bR  x vs H Q=(∃ l xs,x=.ref l∧vs=[]∧H l=some (.lst xs)∧Q .non (upd H l (.lst xs.reverse))):=rfl
theorem oP (x:V) (vs:List V) (H:Hp) (Q:VK):RW  x vs H Q=(∃ l xs,x=.ref l∧vs=[]∧H l=some (.lst xs)∧Q .non (upd H l (.lst []))):=rfl
theorem VT (x:V) (y:V) (H:Hp) (Q:VK):T0  x y H Q=(∃ l b xs zs,x=.ref l∧y=.ref b∧H l=some (.lst xs)∧H b=some (.lst zs)∧xs.length + zs.length ≤ sizeLine∧∀ p,H p=none→Q (.ref p) (upd H p (.lst (xs ++ zs)))):=rfl
theorem aU (x:V) (y:V) (H:Hp) (Q:VK):B2  x y H Q=(∃ l k xs,x=.ref l∧y=.int k∧H l=some (.lst xs)∧-(2 ^ 63) ≤ k∧k < 2 ^ 63∧xs.length * k.toNat ≤ sizeLine ∧
 ∀ p,H p=none→Q (.ref p) (upd H p (.lst (List.replicate k.toNat xs).flatten))):=rfl
theorem jR (td ty:TE) (σ:St) (H:Hp) (Q:VK):BY td ty σ H Q=(td σ H fun x H1=>ty σ H1 fun y H2=>∃ a v,x=.ref a∧Ny H2 a y (some v)∧Q v H2):=rfl
theorem dU (ty td:TE) (σ:St) (H:Hp) (Q:VK):U1 ty td σ H Q=(ty σ H fun y H1=>td σ H1 fun x H2=>∃ a o,x=.ref a∧Ny H2 a y o∧Q (.bl o.isSome) H2):=rfl
theorem FM (ty td:TE) (σ:St) (H:Hp) (Q:VK):vQ ty td σ H Q=(ty σ H fun y H1=>td σ H1 fun x H2=>∃ a o,x=.ref a∧Ny H2 a y o∧Q (.bl (!o.isSome)) H2):=rfl
theorem eR (td ty tv:TE) (D:Ui) (σ:St) (H:Hp):FX td ty tv D σ H=(tv σ H fun v H1=>td σ H1 fun x H2=>ty σ H2 fun y H3=>∃ a H4,x=.ref a∧rM H3 a y v H4∧D.nx σ H4):=rfl
theorem UQ (td ty tv:TE) (rd:V→V→Hp→VK→Prop) (D:Ui) (σ:St) (H:Hp):qZ td ty tv rd D σ H=(td σ H fun x H1=>ty σ H1 fun y H2=>∃ a v,x=.ref a∧Ny H2 a y (some v) ∧
 tv σ H2 fun y2 H3=>rd v y2 H3 fun z H4=>∃ H5,rM H4 a y z H5∧D.nx σ H5):=rfl
theorem sR (td ty:TE) (D:Ui) (σ:St) (H:Hp):kZ td ty D σ H=(td σ H fun x H1=>ty σ H1 fun y H2=>∃ a kvs k,x=.ref a∧H2 a=some (.dK kvs)∧y=kV k∧(Yw kvs k).isSome=true∧D.nx σ (upd H2 a (.dK (RF kvs k)))):=rfl
theorem iQ (x_0:St) (H:Hp) (Q:VK):aT  x_0 H Q=(∀ p,H p=none→Q (.ref p) (upd H p (.dK []))):=rfl
theorem uN (x_0:St) (H:Hp) (Q:VK):yY  x_0 H Q=(∀ p,H p=none→Q (.ref p) (upd H p (.dT []))):=rfl
theorem oS (trs:List (TE × TE)) (σ:St) (H:Hp) (Q:VK):yZ trs σ H Q=(∀ p,H p=none→OO trs σ (upd H p (.dK [])) fun ps H2=>H2 p=some (.dK [])∧∃ kvs:List (Key × V),ps=kvs.map (fun kv=>(kV kv.1,kv.2))∧kvs.length ≤ 15∧Q (.ref p) (upd H2 p (.dK (RT [] kvs)))):=rfl
theorem eP (td ty:TE) (σ:St) (H:Hp) (Q:VK):vX td ty σ H Q=(td σ H fun x H1=>∃ a,x=.ref a∧IsD H1 a∧ty σ H1 fun y H2=>∃ o,Ny H2 a y o∧Q (o.getD .non) H2):=rfl
theorem cO (td ty tx:TE) (σ:St) (H:Hp) (Q:VK):UY td ty tx σ H Q=(td σ H fun x H1=>∃ a,x=.ref a∧IsD H1 a∧ty σ H1 fun y H2=>tx σ H2 fun z H3=>∃ o,Ny H3 a y o∧Q (o.getD z) H3):=rfl
theorem JO (td ty:TE) (σ:St) (H:Hp) (Q:VK):NW td ty σ H Q=(td σ H fun x H1=>∃ a,x=.ref a∧IsD H1 a∧ty σ H1 fun y H2=>∃ kvs k v,H2 a=some (.dK kvs)∧y=kV k∧Yw kvs k=some v∧Q v (upd H2 a (.dK (RF kvs k)))):=rfl
theorem DP (td ty tx:TE) (σ:St) (H:Hp) (Q:VK):RY td ty tx σ H Q=(td σ H fun x H1=>∃ a,x=.ref a∧IsD H1 a∧ty σ H1 fun y H2=>tx σ H2 fun z H3=>∃ kvs k,H3 a=some (.dK kvs)∧y=kV k ∧
 (∀ v,Yw kvs k=some v→Q v (upd H3 a (.dK (RF kvs k))))∧(Yw kvs k=none→Q z H3)):=rfl
theorem ZR (x_0:St) (H:Hp) (Q:(Bool→Hp→Prop)):HL  x_0 H Q=(Q true H):=rfl
theorem vU (tl:TE) (σ:St) (H:Hp) (R:(It→Hp→Prop)):u0 tl σ H R=(tl σ H fun x H1=>∃ z,x=.str z∧R (Its (uo z)) H1):=rfl
theorem bV (x:V) (lo:Option Int) (hi:Option Int) (H:Hp) (Q:VK):V1  x lo hi H Q=(∃ z,x=.str z∧z.length ≤ sizeLine∧Q (.str (Txt.slice z lo hi)) H):=rfl
theorem gS (K:PySem.W.Frag) (x:V) (vs:List V) (H:Hp) (Q:VK):lY K x vs H Q=(∃ sep p ys,x=.str sep∧vs=[.ref p]∧SqL K H p (Cb ys)∧(ys.map (·.length)).sum + ys.length * sep.length ≤ 16777216∧Q (.str (Txt.join sep ys)) H):=rfl
theorem aN (x:V) (vs:List V) (H:Hp) (Q:VK):IT  x vs H Q=(∃ z y,x=.str z∧vs=[.str y]∧y.length ≠ 0∧z.length + 2 ≤ sizeLine∧(Txt.split z y).length ≤ sizeLine∧∀ p,H p=none→Q (.ref p) (upd H p (.lst (Cb (Txt.split z y))))):=rfl
theorem UL (x:V) (vs:List V) (H:Hp) (Q:VK):dW  x vs H Q=(∃ z y i rest,x=.str z∧vs=[.str y]∧Builtin.Str.occurrences z y 0 z.length 1=i :: rest∧Q (.int (i:Nat)) H):=rfl
theorem yN (OK:Addr→Prop) (m:Str) (SPV:Addr→Sp) (E:XK) (ta:TE) (t:TA) (σ:St) (H:Hp) (Q:VK):NT OK m SPV E ta t σ H Q=(ta σ H fun x H1=>∃ a C dx fs,x=.ref a∧H1 a=some (.ins C dx fs)∧OK C∧fs.lookup m=none ∧
 t σ H1 fun vs H2=>SPV C (x :: vs) H2 Q E):=rfl
theorem wN (kvs:SVs) (ty:TE) (σ:St) (H:Hp) (Q:VK):mY kvs ty σ H Q=(ty σ H fun y H1=>∃ x v,y=.str x∧kvs.lookup x=some v∧Q v H1):=rfl
theorem DR (K:PySem.W.Frag) (ta:TA) (σ:St) (H:Hp) (R:(It→Hp→Prop)):PY K ta σ H R=(ta σ H fun vs H1=>∃ a,vs=[.ref a]∧(∃ xs,SqL K H1 a xs)∧R (Ite K a) H1):=rfl
theorem HU (K:PySem.W.Frag) (ta:TA) (σ:St) (H:Hp) (R:(It→Hp→Prop)):E2 K ta σ H R=(ta σ H fun vs H1=>∃ a b,vs=[.ref a,.ref b]∧(∃ xs,SqL K H1 a xs)∧(∃ ys,SqL K H1 b ys)∧R (Itz K a b) H1):=rfl
theorem BU (K:PySem.W.Frag) (ta:TA) (σ:St) (H:Hp) (R:(It→Hp→Prop)):J2 K ta σ H R=(ta σ H fun vs H1=>∃ a xs,vs=[.ref a]∧SqL K H1 a xs∧R (Itv K a xs.length) H1):=rfl
theorem UM (x:V) (vs:List V) (H:Hp) (Q:VK):FU  x vs H Q=(∃ l xs i y,x=.ref l∧vs=[.int i,y]∧H l=some (.lst xs)∧0 ≤ i∧i < 2 ^ 62∧i ≤ (xs.length:Int)∧xs.length < sizeLine∧Q .non (upd H l (.lst (xs.take i.toNat ++ y :: xs.drop i.toNat)))):=rfl
theorem iW (K:PySem.W.Frag) (x:V) (y:V) (H:Hp) (Q:VK):J0 K x y H Q=(∃ p q b,x=.ref p∧y=.ref q∧EqH K H 8 (.ref p) (.ref q) b∧Q (.bl (!b)) H):=rfl
theorem KU (K:PySem.W.Frag) (x:V) (y:V) (H:Hp) (Q:VK):D0 K x y H Q=(∃ p q b,x=.ref p∧y=.ref q∧EqH K H 8 (.ref p) (.ref q) b∧Q (.bl b) H):=rfl
theorem sX (x_0:St) (H:Hp) (Q:(Hp→Prop)):tJ0  x_0 H Q=(Q H):=rfl
theorem UW (te:TE) (t:TJ) (σ:St) (H:Hp) (Q:(Hp→Prop)):tJI te t σ H Q=(te σ H fun v H1=>∃ i,v=.int i∧i.natAbs.log2 < 1920∧t σ H1 Q):=rfl
theorem SW (te:TE) (t:TJ) (σ:St) (H:Hp) (Q:(Hp→Prop)):tJS te t σ H Q=(te σ H fun v H1=>∃ x,v=.str x∧x.length ≤ 1000∧t σ H1 Q):=rfl
theorem kY (te:TE) (t:TJ) (σ:St) (H:Hp) (Q:(Hp→Prop)):tJR te t σ H Q=(te σ H fun v H1=>∃ x,v=.str x∧x.length ≤ 1000∧(∀ c ∈ x.cps.toList,c < 16 ^ 8)∧t σ H1 Q):=rfl
theorem LM (t:TJ) (σ:St) (H:Hp) (Q:VK):qN t σ H Q=(t σ H fun H1=>∀ y:Str,Q (.str y) H1):=rfl
theorem nP (K:PySem.W.Frag) (t:TA) (σ:St) (H:Hp) (Q:VK):jT K t σ H Q=(t σ H fun vs H1=>∃ x C od v,vs=[.ref x,v]∧H1 x=some (.ext (XF x C od))∧ZD K C∧Q .non H1):=rfl
theorem LN (C:Addr) (sp:Sp) (t:TA) (σ:St) (H:Hp) (Q:VK):AT C sp t σ H Q=(t σ H fun vs H1=>vs.length ≤ sizeLine∧∀ x,H1 x=none→sp (.ref x :: vs) (upd H1 x (.ext (XF x C none))) (fun v H2=>v=.non∧Q (.ref x) H2) (fun _ _ _=>False)):=rfl
theorem bQ (K:PySem.W.Frag) (ta tv:TE) (f:Str) (D:Ui) (σ:St) (H:Hp):vT K ta tv f D σ H=(tv σ H fun y H1=>ta σ H1 fun x H2=>∃ a C,x=.ref a∧H2 a=some (.ext (XF a C none))∧ZD K C∧Mb K C f ∧
 ∀ dx,H2 dx=none→dx ≠ a→D.nx σ (upd (upd H2 a (.ext (XF a C (some dx)))) dx (.ext (XD dx [(f,y)])))):=rfl
theorem oO (K:PySem.W.Frag) (ta tv:TE) (f:Str) (D:Ui) (σ:St) (H:Hp):SS K ta tv f D σ H=(tv σ H fun y H1=>ta σ H1 fun x H2=>∃ a C dx fs,x=.ref a∧H2 a=some (.ext (XF a C (some dx)))∧H2 dx=some (.ext (XD dx fs))∧ZD K C∧Mb K C f∧fs.length < 1000 ∧
 D.nx σ (upd H2 dx (.ext (XD dx (dj f y fs))))):=rfl
theorem bS (K:PySem.W.Frag) (ta:TE) (f:Str) (σ:St) (H:Hp) (Q:VK):lX K ta f σ H Q=(ta σ H fun x H1=>∃ a C dx fs v,x=.ref a∧H1 a=some (.ext (XA a C (some dx)))∧H1 dx=some (.ext (XD dx fs))∧ZD K C∧Mb K C f∧fs.lookup f=some v∧Q v H1):=rfl
theorem bP (sp:Sp) (dvs:List V) (E:St→XK) (t:TA) (σ:St) (H:Hp) (Q:VK):US sp dvs E t σ H Q=(t σ H fun vs H1=>sp (vs ++ dvs) H1 Q (E σ)):=rfl
theorem rP (C:Addr) (m:Str) (sp:Sp) (dvs:List V) (E:St→XK) (ta:TE) (t:TA) (σ:St) (H:Hp) (Q:VK):ZW C m sp dvs E ta t σ H Q=(ta σ H fun x H1=>∃ a dx fs,x=.ref a∧H1 a=some (.ins C dx fs)∧fs.lookup m=none ∧
 t σ H1 fun vs H2=>sp (x :: (vs ++ dvs)) H2 Q (E σ)):=rfl
theorem IN (K:PySem.W.Frag) (E:St→XK) (te:TE) (D:Ui) (σ:St) (H:Hp):ZS K E te D σ H=(te σ H fun v H1=>∃ x C od,v=.ref x∧H1 x=some (.ext (XF x C od))∧ZD K C∧E σ (.ref C) od (upd H1 x (.ext (XA x C od)))):=rfl
theorem uS (ta:TA) (σ:St) (H:Hp) (R:(It→Hp→Prop)):HW ta σ H R=(ta σ H fun vs H1=>∃ i j:Int,vs=[.int i,.int j,.int (-1)]∧(-1073741824 ≤ i∧i < 1073741824∧-1073741824 ≤ j∧j < 1073741824)∧R (Itd i (i - j).toNat) H1):=rfl
theorem lJ (K:PySem.W.Frag) (ta:TA) (σ:St) (H:Hp) (Q:VK):cL K ta σ H Q=(ta σ H fun vs H1=>∃ a xs,vs=[.ref a]∧SqL K H1 a xs∧∀ l,H1 l=none→Q (.ref l) (upd H1 l (.lst xs.reverse))):=rfl
theorem mR (K:PySem.W.Frag) (ta:TA) (td:TE) (σ:St) (H:Hp) (Q:VK):pY K ta td σ H Q=(ta σ H fun vs H1=>td σ H1 fun y H2=>∃ l ks,vs=[.ref l]∧SqL K H2 l (List.map V.int ks)∧Q (match ks.min? with | some m=>.int m | none=>y) H2):=rfl
theorem NV (K:PySem.W.Frag) (neg:Bool) (x:V) (y:V) (H:Hp) (Q:VK):E1 K neg x y H Q=(∃ p qs f,y=.ref p∧SqL K H p (List.map V.ref qs)∧(∀ q ∈ qs,EqH K H 8 (.ref q) x (f q))∧Q (.bl (if neg then !(qs.any f) else qs.any f)) H):=rfl
def yq (J:It) (g:TG) (tb:TS) (D:Ui) (σ:St) (H:Hp):Prop:=∃ W:Nat→Nat→St→Hp→Prop,(∃ m,W 0 m σ H)∧∀ i m σ H,W i m σ H →
 (J.stop i H∧D.nx σ H)∨(J.go i H∧∃ N:St→Hp→Prop,(∀ σ' H',N σ' H'→∃ m',m' < m∧W (i + 1) m' σ' H')∧∀ x H',J.yld i H x H'→g x σ H' fun σ2 H2=>tb { D with nx:=N,ct:=N,bk:=D.nx } σ2 H2)
theorem FV (wi:TI) (g:TG) (tb:TS) (D:Ui) (σ:St) (H:Hp):Z0 wi g tb D σ H=wi σ H fun J H1=>yq J g tb D σ H1:=rfl
def yf (J:It) (g:TG) (tc:TT) (te:TE) (σb:St) (Q:VK) (H:Hp):Prop:=∃ W:Nat→Nat→List V→Hp→Prop,(∃ m,W 0 m [] H)∧uI J g tc te σb Q W
theorem UU (K:PySem.W.Frag) (ta:TE) (f:Str) (σ:St) (H:Hp) (Q:VK):JZ K ta f σ H Q=(ta σ H fun x H1=>∃ a v,x=.ref a∧Op K H1 a f v∧Q v H1):=by
 unfold JZ Op
 congr 1
 funext x H1
 apply propext
 constructor
 ·rintro ⟨a,C,dx,fs,v,h1,h2,h3,h4,h5,h6⟩;exact ⟨a,v,h1,⟨C,dx,fs,h2,h3,h4,h5⟩,h6⟩
 ·rintro ⟨a,v,h1,⟨C,dx,fs,h2,h3,h4,h5⟩,h6⟩;exact ⟨a,C,dx,fs,v,h1,h2,h3,h4,h5,h6⟩
theorem JP (wi:TI) (g:TG) (tc:TT) (te:XK→TE) (sel:List (Option Nat)) (E:St→XK) (σ:St) (H:Hp) (Q:VK):JY wi g tc te sel E σ H Q=wi σ H fun J H1=>yf J g tc (te (E σ)) (blk sel σ) Q H1:=rfl
theorem tS (wi:TI) (g:TG) (tc:TT) (te:TE) (sel:List (Option Nat)) (σ:St) (H:Hp) (Q:VK):HV wi g tc te sel σ H Q=wi σ H fun J H1=>yf J g tc te (blk sel σ) Q H1:=rfl
theorem zR (ta:TA) (σ:St) (H:Hp) (R:It→Hp→Prop):cY ta σ H R=(ta σ H fun vs H1=>∃ j:Int,vs=[.int j]∧-4611686018427387904 ≤ j∧j < 4611686018427387904∧R (Itr 0 j.toNat) H1):=rfl
theorem sS (ta:TA) (σ:St) (H:Hp) (R:It→Hp→Prop):tZ ta σ H R=(ta σ H fun vs H1=>∃ i j:Int,vs=[.int i,.int j]∧(-4611686018427387904 ≤ i∧i < 4611686018427387904∧-4611686018427387904 ≤ j∧j < 4611686018427387904)∧R (Itr i (j - i).toNat) H1):=rfl
theorem pV (sel:List (Option Nat)) (σ:St):blk sel σ=sel.map fun o=>o.bind fun j=>(σ[j]?).join:=rfl
theorem Cc {c:TT} {t u:TS} {D:Ui} {σ:St} {H:Hp} (b:Bool) (hc:∀ Q:Bool→Hp→Prop,Q b H→c σ H Q) (h1:b=true→t D σ H) (h2:b=false→u D σ H):nZ c t u D σ H:=by
 refine hc _ ?_
 cases b with
 | true=>exact h1 rfl
 | false=>exact h2 rfl
theorem Ou {c:TT} {t u:TS} {D:Ui} {σ:St} {H:Hp} (R:Bool→Hp→Prop) (hc:∀ Q:Bool→Hp→Prop,(∀ b H',R b H'→Q b H')→c σ H Q) (h1:∀ H',R true H'→t D σ H') (h2:∀ H',R false H'→u D σ H'):nZ c t u D σ H:=by
 refine hc _ fun b H' r=>?_
 cases b with
 | true=>exact h1 H' r
 | false=>exact h2 H' r
theorem Pf {t:TS} {D:Ui} {σ:St} {H:Hp} (R:St→Hp→Prop) (h:∀ D':Ui,(∀ σ H,R σ H→D'.nx σ H)→D'.rt=D.rt→D'.bk=D.bk→D'.ct=D.ct→t D' σ H) (hR:∀ σ H,R σ H→D.nx σ H):t D σ H:=h D hR rfl rfl rfl
theorem lV {te:TE} {D:Ui} {σ:St} {H:Hp} (v:V) (hc:∀ Q:VK,Q v H→te σ H Q) (h:D.rt v H):uZ te D σ H:=hc _ h
theorem sI (x y:Str):(x ++ y).length=x.length + y.length:=by
 show (x.cps ++ y.cps).size=_
 rw [Array.size_append];rfl
theorem yq.range {lo:Int} {n:Nat} {g:TG} {tb:TS} {D:Ui} {σ:St} {H:Hp} (Pv:Nat→St→Hp→Prop) (h0:Pv 0 σ H)
  (hs:∀ i σ H,i < n→Pv i σ H→g (.int (lo + i)) σ H fun σ2 H2=>tb { D with nx:=Pv (i + 1),ct:=Pv (i + 1),bk:=D.nx } σ2 H2) (hd:∀ σ H,Pv n σ H→D.nx σ H):yq (Itr lo n) g tb D σ H:=PP Pv h0 hs hd
theorem yq.list {K:PySem.W.Frag} {a:Addr} {xs:List V} {g:TG} {tb:TS} {D:Ui} {σ:St} {H:Hp} (Pv:Nat→St→Hp→Prop) (h0:Pv 0 σ H) (hl:∀ i σ H,i ≤ xs.length→Pv i σ H→SqL K H a xs)
  (hs:∀ i x σ H,xs[i]? = some x→Pv i σ H→g x σ H fun σ2 H2=>tb { D with nx:=Pv (i + 1),ct:=Pv (i + 1),bk:=D.nx } σ2 H2) (hd:∀ σ H,Pv xs.length σ H→D.nx σ H):yq (Itl K a) g tb D σ H:=HR Pv h0 hl hs hd
theorem yq.its {xs:List V} {g:TG} {tb:TS} {D:Ui} {σ:St} {H:Hp} (Pv:Nat→St→Hp→Prop) (h0:Pv 0 σ H)
  (hs:∀ i x σ H,xs[i]? = some x→Pv i σ H→g x σ H fun σ2 H2=>tb { D with nx:=Pv (i + 1),ct:=Pv (i + 1),bk:=D.nx } σ2 H2) (hd:∀ σ H,Pv xs.length σ H→D.nx σ H):yq (Its xs) g tb D σ H:=ZU Pv h0 hs hd
theorem yf.list {K:PySem.W.Frag} {a:Addr} {xs:List V} {g:TG} {tc:TT} {te:TE} {σb:St} {Q:VK} {H:Hp} (Pv:Nat→List V→Hp→Prop) (hz:xs.length ≤ sizeLine) (h0:Pv 0 [] H) (hl:∀ i ys H,i ≤ xs.length→Pv i ys H→SqL K H a xs∧ys.length ≤ i)
  (hs:∀ i x ys H,xs[i]? = some x→Pv i ys H→Gk Pv g tc te σb i x ys H) (hd:∀ ys H,Pv xs.length ys H→∀ p,H p=none→Q (.ref p) (upd H p (.lst ys))):yf (Itl K a) g tc te σb Q H:=aO Pv hz h0 hl hs hd
theorem yf.its {xs:List V} {g:TG} {tc:TT} {te:TE} {σb:St} {Q:VK} {H:Hp} (Pv:Nat→List V→Hp→Prop) (hz:xs.length ≤ sizeLine) (h0:Pv 0 [] H) (hl:∀ i ys H,i ≤ xs.length→Pv i ys H→ys.length ≤ i)
  (hs:∀ i x ys H,xs[i]? = some x→Pv i ys H→Gk Pv g tc te σb i x ys H) (hd:∀ ys H,Pv xs.length ys H→∀ p,H p=none→Q (.ref p) (upd H p (.lst ys))):yf (Its xs) g tc te σb Q H:=WR Pv hz h0 hl hs hd
theorem yf.range {lo:Int} {n:Nat} {g:TG} {tc:TT} {te:TE} {σb:St} {Q:VK} {H:Hp} (Pv:Nat→List V→Hp→Prop) (hz:n ≤ sizeLine) (h0:Pv 0 [] H) (hl:∀ i ys H,i ≤ n→Pv i ys H→ys.length ≤ i)
  (hs:∀ i ys H,i < n→Pv i ys H→Gk Pv g tc te σb i (.int (lo + i)) ys H) (hd:∀ ys H,Pv n ys H→∀ p,H p=none→Q (.ref p) (upd H p (.lst ys))):yf (Itr lo n) g tc te σb Q H:=xM Pv hz h0 hl hs hd
theorem wF {α β:Type} {xs:List α} {i:Nat} {x:α} (f:α→β) (h:xs[i]? = some x):(xs.take (i + 1)).map f=(xs.take i).map f ++ [f x]:=by
 rw [List.take_add_one,h,List.map_append];rfl
theorem yf.its_map {xs:List V} {g:TG} {te:TE} {σb:St} {Q:VK} {H:Hp} (f:V→V) (hz:xs.length ≤ sizeLine) (hs:∀ (i:Nat) (x:V) (N:V→Hp→Prop),xs[i]? = some x→N (f x) H→g x σb H fun σ2 H2=>Sub σb σ2∧te σ2 H2 N)
  (hd:∀ p,H p=none→Q (.ref p) (upd H p (.lst (xs.map f)))):yf (Its xs) g HL te σb Q H:=by
 refine yf.its (fun i ys H'=>H'=H∧ys=(xs.take i).map f) hz ⟨rfl,rfl⟩ (fun i ys H' hi ⟨_,e⟩=>?_) (fun i x ys H' hx ⟨e1,e2⟩ N hN=>?_) (fun ys H' ⟨e1,e2⟩ p hp=>?_)
 ·rw [e,List.length_map,List.length_take];omega
 ·subst e1
  exact hs i x (fun y H4=>N (ys ++ [y]) H4) hx (hN _ _ ⟨rfl,by rw [e2,wF f hx]⟩)
 ·subst e1
  rw [e2,List.take_length]
  exact hd p hp
theorem yf.range_map {lo:Int} {n:Nat} {g:TG} {te:TE} {σb:St} {Q:VK} {H:Hp} (f:Nat→V) (hz:n ≤ sizeLine) (hs:∀ (i:Nat) (N:V→Hp→Prop),i < n→N (f i) H→g (.int (lo + i)) σb H fun σ2 H2=>Sub σb σ2∧te σ2 H2 N)
  (hd:∀ p,H p=none→Q (.ref p) (upd H p (.lst ((List.range n).map f)))):yf (Itr lo n) g HL te σb Q H:=by
 refine yf.range (fun i ys H'=>H'=H∧ys=(List.range i).map f) hz ⟨rfl,rfl⟩ (fun i ys H' hi ⟨_,e⟩=>?_) (fun i ys H' hi ⟨e1,e2⟩ N hN=>?_) (fun ys H' ⟨e1,e2⟩ p hp=>?_)
 ·rw [e,List.length_map,List.length_range];exact Nat.le_refl _
 ·subst e1
  exact hs i (fun y H4=>N (ys ++ [y]) H4) hi (hN _ _ ⟨rfl,by rw [e2,List.range_succ,List.map_append];rfl⟩)
 ·subst e1
  rw [e2]
  exact hd p hp
theorem yf.list_mk {K:PySem.W.Frag} {a:Addr} {xs:List V} {g:TG} {te:TE} {σb:St} {Q:VK} {H:Hp} (f:V→HO) (hl:SqL K H a xs) (hz:xs.length ≤ sizeLine) (hn:∀ x,noT (f x)=true)
  (hs:∀ (i:Nat) (x:V) (H1:Hp) (N:V→Hp→Prop),xs[i]? = some x→Ac H H1→(NoT H→NoT H1)→(∀ q,H1 q=none→N (.ref q) (upd H1 q (f x)))→g x σb H1 fun σ2 H2=>Sub σb σ2∧te σ2 H2 N)
  (hd:∀ (qs:List Addr) (H1:Hp),Ac H H1→(NoT H→NoT H1)→qs.length=xs.length→(∀ (j:Nat) (q:Addr) (x:V),qs[j]? = some q→xs[j]? = some x→H1 q=some (f x)∧H q=none)→∀ p,H1 p=none→Q (.ref p) (upd H1 p (.lst (qs.map V.ref)))):yf (Itl K a) g HL te σb Q H:=by
 refine yf.list (fun i ys H'=>∃ qs:List Addr,ys=qs.map V.ref∧qs.length=i∧Ac H H'∧(NoT H→NoT H')∧∀ (j:Nat) (q:Addr) (x:V),qs[j]? = some q→xs[j]? = some x→H' q=some (f x)∧H q=none) hz
  ⟨[],rfl,rfl,Ac.refl H,id,fun j q x h _=>by simp at h⟩ ?_ ?_ ?_
 ·rintro i ys H' hi ⟨qs,e,e2,sm,_,_⟩
  exact ⟨hl.same sm,by rw [e,List.length_map];omega⟩
 ·rintro i x ys H' hx ⟨qs,e1,e2,sm,nt,al⟩ N hN
  refine hs i x H' (fun y H4=>N (ys ++ [y]) H4) hx sm nt fun q hq=>hN _ _ ⟨qs ++ [q],by rw [e1,List.map_append];rfl,by rw [List.length_append,e2];rfl,sm.updN (sm.free hq),fun n=>(nt n).upd (hn x),fun j q' x' h1 h2=>?_⟩
  by_cases hj:j < qs.length
  ·rw [List.getElem?_append_left hj] at h1
   obtain ⟨z1,z2⟩:=al j q' x' h1 h2
   exact ⟨by rw [rb (zb z1 hq)];exact z1,z2⟩
  ·rw [List.getElem?_append_right (by omega)] at h1
   have hj0:j - qs.length=0:=by
    cases hh:j - qs.length with
    | zero=>rfl
    | succ n=>rw [hh] at h1;simp at h1
   rw [hj0] at h1
   have e3:q=q':=by simpa using h1
   subst e3
   have e4:j=i:=by omega
   subst e4
   rw [hx] at h2
   cases h2
   exact ⟨fb,sm.free hq⟩
 ·rintro ys H' ⟨qs,e1,e2,sm,nt,al⟩ p hp
  subst e1
  exact hd qs H' sm nt e2 al p hp
theorem yq.of {J:It} {n:Nat} {g:TG} {tb:TS} {D:Ui} {σ:St} {H:Hp} (Pv:Nat→St→Hp→Prop) (h0:Pv 0 σ H) (hgo:∀ i σ H,i < n→Pv i σ H→J.go i H) (hst:∀ σ H,Pv n σ H→J.stop n H)
  (hs:∀ i σ H x H',i < n→Pv i σ H→J.yld i H x H'→g x σ H' fun σ2 H2=>tb { D with nx:=Pv (i + 1),ct:=Pv (i + 1),bk:=D.nx } σ2 H2) (hd:∀ σ H,Pv n σ H→D.nx σ H):yq J g tb D σ H:=by
 refine ⟨fun i m σ H=>m=n - i∧i ≤ n∧Pv i σ H,⟨n,by simp,Nat.zero_le _,h0⟩,?_⟩
 rintro i m σ H ⟨rfl,hi,p⟩
 by_cases hlt:i < n
 ·exact .inr ⟨hgo i σ H hlt p,Pv (i + 1),fun σ' H' p'=>⟨n - (i + 1),by omega,rfl,hlt,p'⟩,fun x H' y=>hs i σ H x H' hlt p y⟩
 ·have e:i=n:=by omega
  subst e
  exact .inl ⟨hst σ H p,hd σ H p⟩
theorem yf.of {J:It} {n:Nat} {g:TG} {tc:TT} {te:TE} {σb:St} {Q:VK} {H:Hp} (Pv:Nat→List V→Hp→Prop) (hz:n ≤ sizeLine) (h0:Pv 0 [] H) (hgo:∀ i ys H,i < n→Pv i ys H→J.go i H) (hst:∀ ys H,Pv n ys H→J.stop n H) (hl:∀ i ys H,i < n→Pv i ys H→ys.length ≤ i)
  (hs:∀ i ys H x H',i < n→Pv i ys H→J.yld i H x H'→Gk Pv g tc te σb i x ys H') (hd:∀ ys H,Pv n ys H→∀ p,H p=none→Q (.ref p) (upd H p (.lst ys))):yf J g tc te σb Q H:=by
 refine ⟨fun i m ys H=>m=n - i∧i ≤ n∧Pv i ys H,⟨n,by simp,Nat.zero_le _,h0⟩,?_⟩
 rintro i m ys H ⟨rfl,hi,p⟩
 by_cases hlt:i < n
 ·have hyl:=hl i ys H hlt p
  refine .inr ⟨hgo i ys H hlt p,by omega,fun x H' y=>?_⟩
  exact hs i ys H x H' hlt p y (fun ys' H'=>∃ m',m' < n - i∧m'=n - (i + 1)∧i + 1 ≤ n∧Pv (i + 1) ys' H') fun ys' H' r=>⟨n - (i + 1),by omega,rfl,hlt,r⟩
 ·have e:i=n:=by omega
  subst e
  exact .inl ⟨hst ys H p,hd ys H p⟩
section
variable {K:PySem.W.Frag} {a b:Addr} {xs ys:List V} {g:TG} {tb:TS} {D:Ui} {σ σb:St} {H:Hp} {tc:TT} {te:TE} {Q:VK}
theorem yq.enum (Pv:Nat→St→Hp→Prop) (h0:Pv 0 σ H) (hl:∀ i σ H,i ≤ xs.length→Pv i σ H→SqL K H a xs)
  (hs:∀ i x σ H p,xs[i]? = some x→Pv i σ H→H p=none→g (.ref p) σ (upd H p (.tup [.int i,x])) fun σ2 H2=>tb { D with nx:=Pv (i + 1),ct:=Pv (i + 1),bk:=D.nx } σ2 H2) (hd:∀ σ H,Pv xs.length σ H→D.nx σ H):yq (Ite K a) g tb D σ H:=by
 refine yq.of (n:=xs.length) Pv h0 (fun i σ H hi p=>⟨xs,xs[i],hl i σ H (Nat.le_of_lt hi) p,by simp [hi]⟩) (fun σ H p=>⟨xs,hl _ σ H (Nat.le_refl _) p,Nat.le_refl _⟩) (fun i σ H v H' hi p y=>?_) hd
 obtain ⟨q,x,hq,rfl,hx,rfl⟩:=y
 exact hs i x σ H q (hx xs (hl i σ H (Nat.le_of_lt hi) p)) p hq
theorem yq.zip (Pv:Nat→St→Hp→Prop) (h0:Pv 0 σ H) (hl:∀ i σ H,i ≤ xs.length→Pv i σ H→SqL K H a xs∧SqL K H b ys) (n:Nat) (hn:n=min xs.length ys.length)
  (hs:∀ i x y σ H p,xs[i]? = some x→ys[i]? = some y→Pv i σ H→H p=none→g (.ref p) σ (upd H p (.tup [x,y])) fun σ2 H2=>tb { D with nx:=Pv (i + 1),ct:=Pv (i + 1),bk:=D.nx } σ2 H2) (hd:∀ σ H,Pv n σ H→D.nx σ H):yq (Itz K a b) g tb D σ H:=by
 subst hn
 refine yq.of (n:=min xs.length ys.length) Pv h0 (fun i σ H hi p=>?_) (fun σ H p=>?_) (fun i σ H v H' hi p y=>?_) hd
 ·obtain ⟨z1,z2⟩:=hl i σ H (by omega) p
  exact ⟨xs,ys,xs[i],ys[i],z1,z2,by rw [List.getElem?_eq_getElem (by omega)],by rw [List.getElem?_eq_getElem (by omega)]⟩
 ·obtain ⟨z1,z2⟩:=hl _ σ H (by omega) p
  exact ⟨xs,ys,z1,z2,by omega⟩
 ·obtain ⟨q,x,y,hq,rfl,hx,hy,rfl⟩:=y
  obtain ⟨z1,z2⟩:=hl i σ H (by omega) p
  exact hs i x y σ H q (hx xs z1) (hy ys z2) p hq
theorem yf.enum (Pv:Nat→List V→Hp→Prop) (hz:xs.length ≤ sizeLine) (h0:Pv 0 [] H) (hl:∀ i ys H,i ≤ xs.length→Pv i ys H→SqL K H a xs∧ys.length ≤ i)
  (hs:∀ i x ys H p,xs[i]? = some x→Pv i ys H→H p=none→Gk Pv g tc te σb i (.ref p) ys (upd H p (.tup [.int i,x]))) (hd:∀ ys H,Pv xs.length ys H→∀ p,H p=none→Q (.ref p) (upd H p (.lst ys))):yf (Ite K a) g tc te σb Q H:=by
 refine yf.of (n:=xs.length) Pv hz h0 (fun i ys H hi p=>⟨xs,xs[i],(hl i ys H (Nat.le_of_lt hi) p).1,by simp [hi]⟩) (fun ys H p=>⟨xs,(hl _ ys H (Nat.le_refl _) p).1,Nat.le_refl _⟩) (fun i ys H hi p=>(hl i ys H (Nat.le_of_lt hi) p).2) (fun i zs H v H' hi p y=>?_) hd
 obtain ⟨q,x,hq,rfl,hx,rfl⟩:=y
 exact hs i x zs H q (hx xs (hl i zs H (Nat.le_of_lt hi) p).1) p hq
theorem DQ {i j:Nat} {p:Addr} {x y:V} {R:St→Hp→Prop} (h:SqT K H p [x,y]) (q:R ((σ.set i (some x)).set j (some y)) H):GW K 2 (RM (NF i) (RM (NF j) ZY)) (.ref p) σ H R:=
 ⟨p,_,rfl,h,rfl,x,_,rfl,y,_,rfl,rfl,q⟩
theorem gp {i j:Nat} {p:Addr} {x y:V} {R:St→Hp→Prop} (q:R ((σ.set i (some x)).set j (some y)) (upd H p (.tup [x,y]))):GW K 2 (RM (NF i) (RM (NF j) ZY)) (.ref p) σ (upd H p (.tup [x,y])) R:=
 DQ (.inl (.inl fb)) q
end
theorem Sub.name2 {r:St} {v w:Option V}:Sub (none :: none :: r) (v :: w :: r):=by
 refine ⟨rfl,fun i u h=>?_⟩
 match i with
 | 0=>cases h
 | 1=>cases h
 | i + 2=>exact h
theorem Sub.name3 {r:St} {v w z:Option V}:Sub (none :: none :: none :: r) (v :: w :: z :: r):=by
 refine ⟨rfl,fun i u h=>?_⟩
 match i with
 | 0=>cases h
 | 1=>cases h
 | 2=>cases h
 | i + 3=>exact h
theorem yf.list_zs {K:PySem.W.Frag} {a:Addr} {xs zs:List V} {g:TG} {te:TE} {σb:St} {Q:VK} {H:Hp} (hl:SqL K H a xs) (hz:xs.length ≤ sizeLine) (he:zs.length=xs.length)
  (hs:∀ (i:Nat) (x z:V) (N:V→Hp→Prop),xs[i]? = some x→zs[i]? = some z→N z H→g x σb H fun σ2 H2=>Sub σb σ2∧te σ2 H2 N) (hd:∀ p,H p=none→Q (.ref p) (upd H p (.lst zs))):yf (Itl K a) g HL te σb Q H:=by
 refine yf.list (fun i ys H'=>H'=H∧ys=zs.take i) hz ⟨rfl,rfl⟩ (fun i ys H' hi ⟨e0,e⟩=>?_) (fun i x ys H' hx ⟨e1,e2⟩ N hN=>?_) (fun ys H' ⟨e1,e2⟩ p hp=>?_)
 ·subst e0
  exact ⟨hl,by rw [e,List.length_take];omega⟩
 ·subst e1
  have hi:i < zs.length:=by rw [he];exact (List.getElem?_eq_some_iff.mp hx).1
  have hz':zs[i]? = some zs[i]:=List.getElem?_eq_getElem hi
  exact hs i x zs[i] (fun y H4=>N (ys ++ [y]) H4) hx hz' (hN _ _ ⟨rfl,by rw [e2,List.take_add_one,hz'];rfl⟩)
 ·subst e1
  rw [e2,← he,List.take_length]
  exact hd p hp
theorem Sub.name {r:St} {v:Option V}:Sub (none :: r) (v :: r):=by
 refine ⟨rfl,fun i w h=>?_⟩
 cases i with
 | zero=>cases h
 | succ i=>exact h
end L2
local macro_rules | `(tactic| walk_at "RD")=>`(tactic| ((try dsimp only [L2.jP,L2.LZ,L2.Cx.nox,L2.Cx.wish,L2.Cx.block,L2.Cx.tr,L2.Cx.hn]);(try simp only [L2.fW,L2.sZ,L2.WU,L2.pU,L2.lW,L2.MV,L2.oW,L2.yS,L2.PZ,L2.VU,L2.GX,L2.iV,L2.kR,L2.LV,L2.nR,L2.uY,L2.ez,L2.Jd,L2.mO,L2.xS,L2.MQ,L2.jV,L2.GR,L2.xQ,L2.jL,L2.ZT,L2.KQ,L2.LU,L2.IU,L2.YT,L2.tV,L2.vV,L2.HQ,L2.lS,L2.JV,L2.eY,L2.SY,L2.UZ,L2.MY,L2.ZZ,L2.MW,L2.wY,L2.iR,L2.zN,L2.QV,L2.EU,L2.mM,L2.XV,L2.GU,L2.qV,L2.XR,L2.lU,L2.sU,L2.vR,L2.dR,L2.FR,L2.IO,L2.YX,L2.IL,L2.CQ,L2.KY,L2.AV,L2.WT,L2.OR,L2.fV,L2.gW,L2.CU,L2.XW,L2.lR,L2.NU,L2.rY,L2.vW,L2.EW,L2.JM,L2.DM,L2.RV,L2.bO,L2.AJ,L2.oP,L2.VT,L2.aU,L2.jR,L2.dU,L2.FM,L2.eR,L2.UQ,L2.sR,L2.iQ,L2.uN,L2.oS,L2.eP,L2.cO,L2.JO,L2.DP,L2.ZR,L2.vU,L2.bV,L2.gS,L2.aN,L2.UL,L2.yN,L2.wN,L2.DR,L2.HU,L2.BU,L2.UM,L2.iW,L2.KU,L2.sX,L2.UW,L2.SW,L2.kY,L2.LM,L2.nP,L2.LN,L2.bQ,L2.oO,L2.bS,L2.bP,L2.rP,L2.IN,L2.uS,L2.lJ,L2.mR,L2.NV,L2.FV,L2.tS,L2.zR,L2.sS,L2.UU,L2.QU,L2.TV,L2.JP,L2.SU,L2.cW,L2.start,L2.pV,List.map_cons,List.map_nil,Option.bind_none,Option.bind_some,Option.join_some,Option.join_none,List.length_cons,List.length_nil,Nat.reduceAdd,Nat.reduceSub,Nat.zero_add,List.replicate,List.cons_append,List.nil_append,List.append_nil,List.set_cons_zero,List.set_cons_succ,List.getElem?_cons_zero,List.getElem?_cons_succ,Option.some.injEq,L2.V.int.injEq,L2.V.bl.injEq,L2.V.str.injEq,L2.V.ref.injEq,L2.V.ty.injEq,exists_eq_left',exists_eq_left,exists_and_left,List.cons.injEq,and_true,true_and,and_assoc,Int.zero_add,reduceCtorEq,false_and,exists_false,and_false,ite_true,ite_false,if_true,if_false,Bool.false_eq_true,L2.rX,L2.tyV,false_or,or_false,Bool.not_true,Bool.not_false,decide_true,decide_false])))
local macro_rules | `(tactic| walk_at "F")=>`(tactic| exact ⟨rfl,rfl,rfl,by decide +kernel,rfl,by decide +kernel,by decide +kernel⟩)
namespace My
open PySem L2
def top (i:Nat):Stmt:=PySem.Challenge.pw_lampway_k13_a_plan_refused.main.body.getD i (.Pass ⟨0,0,0,0⟩)
abbrev bi:Stmt:=top 9
theorem vG:Db ["places","way","place","steps"] ["places","way","place"] (db bi):=(by walk_at "F")
abbrev Ce:Stmt:=top 10
theorem oF:Db ["places","way","second"] ["places","way","second"] (db Ce):=(by walk_at "F")
abbrev Ds:Stmt:=top 11
theorem HI:Db ["crossing","one","other","way","second"] ["crossing","one","other"] (db Ds):=(by walk_at "F")
abbrev nC:Stmt:=top 12
theorem RP:Db ["crossing","one","other","way","second"] ["crossing","one","other"] (db nC):=(by walk_at "F")
abbrev Jj:Stmt:=top 18
theorem JR:Db ["text"] ["text"] (db Jj):=(by walk_at "F")
abbrev ge:Stmt:=top 19
theorem BE:Db ["word","signs","most"] ["word","signs","most"] (db ge):=(by walk_at "F")
abbrev ff:Stmt:=top 20
theorem mG:Db ["word","most_figures"] ["word","most_figures"] (db ff):=(by walk_at "F")
abbrev Ig:Stmt:=top 21
theorem uD:Db ["word","low","high","number"] ["word","low","high"] (db Ig):=(by walk_at "F")
abbrev Hg:Stmt:=top 22
theorem DL:Db ["word"] ["word"] (db Hg):=(by walk_at "F")
abbrev ig:Stmt:=top 25
theorem CL:Db ["text"] ["text"] (db ig):=(by walk_at "F")
abbrev vd:Stmt:=top 27
theorem uf:Db ["marks","size","steps","untils","place"] ["marks"] (db vd):=(by walk_at "F")
abbrev Dd:Stmt:=top 28
theorem mB:Db ["marks"] ["marks"] (db Dd):=(by walk_at "F")
abbrev zf:Stmt:=top 33
theorem CJ:Db ["spans","name"] ["spans","name"] (db zf):=(by walk_at "F")
abbrev fe:Stmt:=top 34
theorem Gh:Db ["size","spans","name","marks","begin","turns","step"] ["size","spans","name"] (db fe):=(by walk_at "F")
abbrev Yp:Stmt:=top 35
theorem Et:Db ["way","size","spans","shown","begin","turns","step"] ["way","size","spans"] (db Yp):=(by walk_at "F")
abbrev jf:Stmt:=top 36
theorem cy:Db ["reader","size"] ["reader"] (db jf):=(by walk_at "F")
abbrev Je:Stmt:=top 37
theorem yl:Db ["reader","crossing","size","spans","name","begin","turns"] ["reader","crossing","size","spans"] (db Je):=(by walk_at "F")
abbrev lf:Stmt:=top 38
theorem Ci:Db ["crossing","text","rows","size","spans","reader"] ["crossing","text"] (db lf):=(by walk_at "F")
abbrev yd:Stmt:=top 39
theorem Wo:Db ["crossing","spans","name"] ["crossing","spans"] (db yd):=(by walk_at "F")
abbrev Ib:Stmt:=top 40
theorem Md:Db ["size","spans","place","name","begin","turns","others"] ["size","spans","place"] (db Ib):=(by walk_at "F")
abbrev qd:Stmt:=top 41
theorem je:Db ["crossing","size","spans","place","span","name","begin","turns","way","needed"] ["crossing","size","spans"] (db qd):=(by walk_at "F")
abbrev yc:Stmt:=top 42
theorem Zf:Db ["crossing","one","other","since_one","since_other","between","turn","steps"] ["crossing","one","other","since_one","since_other"] (db yc):=(by walk_at "F")
abbrev zd:Stmt:=top 43
theorem jg:Db ["crossing","size","spans","since","name","one","other"] ["crossing","size","spans"] (db zd):=(by walk_at "F")
abbrev Ke:Stmt:=top 44
theorem Ji:Db ["crossing","size","rows","spans","name","begin","turns"] ["crossing","size","rows"] (db Ke):=(by walk_at "F")
abbrev ef:Stmt:=top 58
theorem Lx:Db ["reader","places"] ["reader"] (db ef):=(by walk_at "F")
abbrev Ec:Stmt:=top 59
theorem Rn:Db ["reader","ways","name"] ["reader","ways"] (db Ec):=(by walk_at "F")
abbrev Sf:Stmt:=top 60
theorem nI:Db ["reader","places","start"] ["reader","places","start"] (db Sf):=(by walk_at "F")
abbrev Rf:Stmt:=top 61
theorem iJ:Db ["sort","name","start","end","off","near","least"] ["sort","name","start","end","off","near","least"] (db Rf):=(by walk_at "F")
abbrev Tf:Stmt:=top 62
theorem og:Db ["reader","places","ways","sort","name","start","end","off","near","least"] ["reader","places","ways"] (db Tf):=(by walk_at "F")
abbrev Uc:Stmt:=top 63
theorem Mf:Db ["text","rows","places","ways","reader"] ["text"] (db Uc):=(by walk_at "F")
abbrev df:Stmt:=top 65
theorem Io:Db ["_law_script","_law_k","_law_many","_law_cell","_law_seed"] ["_law_script","_law_k","_law_many"] (db df):=(by walk_at "F")
abbrev kf:Stmt:=top 66
theorem Df:Db ["_law_script","_law_size","_law_rows_here","_law_k","_law_many","_law_i","_law_begin","_law_turns"] ["_law_script"] (db kf):=(by walk_at "F")
abbrev de:Stmt:=top 67
theorem Gs:Db ["_law_rows_here","_law_at","_law_word","_law_size"] ["_law_rows_here","_law_at","_law_word"] (db de):=(by walk_at "F")
abbrev Vf:Stmt:=top 68
theorem WI:Db ["_law_rows_here","_law_at","_law_word"] ["_law_rows_here","_law_at","_law_word"] (db Vf):=(by walk_at "F")
abbrev ud:Stmt:=top 69
theorem Dc:Db ["_law_script","_law_rows_here","_law_at","_law_word","_law_way","_law_row"] ["_law_script","_law_rows_here"] (db ud):=(by walk_at "F")
abbrev Id:Stmt:=top 70
theorem mh:Db ["_law_script","_law_rows_here","_law_name","_law_size","_law_left","_law_spans"] ["_law_script","_law_rows_here"] (db Id):=(by walk_at "F")
abbrev me:Stmt:=top 71
theorem Bh:Db ["_law_crossing","_law_rows_here","_law_told","e"] ["_law_crossing","_law_rows_here"] (db me):=(by walk_at "F")
abbrev oA:Stmt:=top 72
theorem cu:Db ["_law_script","_law_crossing","_law_rows_here","_law_found","_law_spoiled_here","_law_last","_law_told","_law_number"] ["_law_script"] (db oA):=(by walk_at "F")
abbrev ce:Stmt:=Pd (top 3) 0
theorem Tu:Db ["self","row","word"] ["self","row","word"] (db ce):=(by walk_at "F")
abbrev Fe:Stmt:=Pd (top 5) 0
theorem Dw:Db ["self","way"] ["self","way"] (db Fe):=(by walk_at "F")
abbrev De:Stmt:=Pd (top 6) 0
theorem tw:Db ["self","way","at"] ["self","way","at"] (db De):=(by walk_at "F")
abbrev Ee:Stmt:=Pd (top 7) 0
theorem Ov:Db ["self","way","other","at"] ["self","way","other","at"] (db Ee):=(by walk_at "F")
abbrev Ic:Stmt:=Pd (top 24) 0
theorem ip:Db ["self","row","told"] ["self","row","told"] (db Ic):=(by walk_at "F")
abbrev vc:Stmt:=Pd (top 24) 1
theorem Wu:Db ["self"] ["self"] (db vc):=(by walk_at "F")
abbrev Tb:Stmt:=Pd (top 24) 2
theorem up:Db ["self"] ["self"] (db Tb):=(by walk_at "F")
abbrev bc:Stmt:=Pd (top 24) 3
theorem Bt:Db ["self"] ["self"] (db bc):=(by walk_at "F")
abbrev Gc:Stmt:=Pd (top 24) 4
theorem um:Db ["self","good"] ["self","good"] (db Gc):=(by walk_at "F")
abbrev dc:Stmt:=Pd (top 24) 5
theorem Ef:Db ["self","choices","found"] ["self","choices"] (db dc):=(by walk_at "F")
abbrev Vb:Stmt:=Pd (top 24) 6
theorem pf:Db ["self","low","high","found"] ["self","low","high"] (db Vb):=(by walk_at "F")
abbrev ac:Stmt:=Pd (top 24) 7
theorem Wj:Db ["self"] ["self"] (db ac):=(by walk_at "F")
abbrev gf:Stmt:=Pd (top 32) 0
theorem Hn:Db ["self","crossing","size","spans","name"] ["self","crossing","size","spans"] (db gf):=(by walk_at "F")
abbrev Uf:Stmt:=Pd (top 46) 0
theorem kB:Db ["self","kind","name","start","end","off","near","least"] ["self","kind","name","start","end","off","near","least"] (db Uf):=(by walk_at "F")
abbrev Zd:Stmt:=Pd (top 47) 0
theorem nv:Db ["self","name","start","end","off","near","least"] ["self","name","start","end","off","near","least"] (db Zd):=(by walk_at "F")
abbrev Cd:Stmt:=Pd (top 47) 1
theorem dB:Db ["self"] ["self"] (db Cd):=(by walk_at "F")
abbrev ae:Stmt:=Pd (top 47) 2
theorem fD:Db ["self"] ["self"] (db ae):=(by walk_at "F")
abbrev Bd:Stmt:=Pd (top 48) 0
theorem yt:Db ["self","name","start","end","off","near","least"] ["self","name","start","end","off","near","least"] (db Bd):=(by walk_at "F")
abbrev Wc:Stmt:=Pd (top 48) 1
theorem zy:Db ["self"] ["self"] (db Wc):=(by walk_at "F")
abbrev Ed:Stmt:=Pd (top 48) 2
theorem Kz:Db ["self"] ["self"] (db Ed):=(by walk_at "F")
abbrev md:Stmt:=Pd (top 49) 0
theorem Us:Db ["self","name","start","end","off","near","least"] ["self","name","start","end","off","near","least"] (db md):=(by walk_at "F")
abbrev Vc:Stmt:=Pd (top 49) 1
theorem Ly:Db ["self"] ["self"] (db Vc):=(by walk_at "F")
abbrev Ad:Stmt:=Pd (top 49) 2
theorem KA:Db ["self"] ["self"] (db Ad):=(by walk_at "F")
abbrev Xc:Stmt:=Pd (top 57) 0
theorem Eg:Db ["self","places","ways","number","way"] ["self","places","ways"] (db Xc):=(by walk_at "F")
abbrev uc:Stmt:=Pd (top 57) 1
theorem bw:Db ["self"] ["self"] (db uc):=(by walk_at "F")
abbrev wc:Stmt:=Pd (top 57) 2
theorem gv:Db ["self","name"] ["self","name"] (db wc):=(by walk_at "F")
abbrev xc:Stmt:=Pd (top 57) 3
theorem lv:Db ["self","name"] ["self","name"] (db xc):=(by walk_at "F")
set_option genInjectivity false in
structure Adr where
 zv:Addr
 dz:FuncData
 Gi:Addr
 Sk:FuncData
 LG:Addr
 lL:FuncData
 tQ:Addr
 LR:FuncData
 PB:Addr
 ZE:FuncData
 lh:Addr
 Fi:FuncData
 uj:Addr
 Zm:FuncData
 jm:Addr
 np:FuncData
 Lo:Addr
 sv:FuncData
 Zl:Addr
 Fo:FuncData
 Qf:Addr
 Ug:FuncData
 Qg:Addr
 ni:FuncData
 Bg:Addr
 kh:FuncData
 fh:Addr
 yi:FuncData
 aG:Addr
 aK:FuncData
 Nj:Addr
 Om:FuncData
 Mj:Addr
 Ym:FuncData
 Zj:Addr
 cn:FuncData
 Lg:Addr
 ai:FuncData
 ie:Addr
 Te:FuncData
 Tg:Addr
 ii:FuncData
 Cf:Addr
 wg:FuncData
 Ng:Addr
 ji:FuncData
 Ak:Addr
 Mm:FuncData
 Cj:Addr
 Nm:FuncData
 gg:Addr
 vh:FuncData
 xm:Addr
 xr:FuncData
 Cm:Addr
 Br:FuncData
 Xl:Addr
 Cr:FuncData
 fg:Addr
 sh:FuncData
 ug:Addr
 bh:FuncData
 Ej:Addr
 gn:FuncData
 Fh:Addr
 kj:FuncData
 mm:Addr
 yr:FuncData
 Og:Addr
 si:FuncData
 Bi:Addr
 ul:FuncData
 Hi:Addr
 Kk:FuncData
 fS:Addr
 AO:FuncData
 bj:Addr
 ij:FuncData
 il:Addr
 El:FuncData
 Dk:Addr
 Hl:FuncData
 Uk:Addr
 Zk:FuncData
 Wg:Addr
 Vg:FuncData
 Lc:Addr
 Kc:FuncData
 ye:Addr
 ze:FuncData
 Ze:Addr
 Ue:FuncData
 Zc:Addr
 ad:FuncData
 Pc:Addr
 Nc:FuncData
 nc:Addr
 lc:FuncData
 Tc:Addr
 Rc:FuncData
 rn:Addr
 Tm:FuncData
 qj:Addr
 sj:FuncData
 mj:Addr
 nj:FuncData
 Sl:Addr
 Vl:FuncData
 wn:Addr
 bn:FuncData
 vi:Addr
 ki:FuncData
 uk:Addr
 Pj:FuncData
 Ol:Addr
 Tl:FuncData
 di:Addr
 ci:FuncData
 tj:Addr
 yj:FuncData
 Wl:Addr
 Rl:FuncData
 Hh:Addr
 Dh:FuncData
 qe:Addr
 re:FuncData
 zg:Addr
 Ag:FuncData
 jd:Addr
 gd:FuncData
 Bb:Addr
 Xd:Addr
 Cg:Addr
 Qb:Addr
 Gb:Addr
 Jb:Addr
 Eb:Addr
 Mc:Addr
 Lb:Addr
 qc:Addr
 Xb:Addr
 Ub:Addr
 UG:Value
 Xr:Value
 mH:Value
 Lr:Value
 jx:Value
 Es:Value
 uB:Value
 fE:Value
 qv:Value
 JA:Value
 jy:Value
 sB:Value
structure Txt (w:World) (K:PySem.W.Frag) (mg:Str→Option Value) (t:Adr):Prop where
 AR:Fun K "in_bow" "in_bow" bi t.zv t.dz
 BK:gc K t.dz ["places","way","place"] []
 YJ:mg "in_bow"=some (.ref t.zv)
 wK:PySem.W.keepIn K (.ref t.zv)=true
 EG:Fun K "bows_cross" "bows_cross" Ce t.Gi t.Sk
 uG:gc K t.Sk ["places","way","second"] []
 MF:mg "bows_cross"=some (.ref t.Gi)
 KG:PySem.W.keepIn K (.ref t.Gi)=true
 iX:Fun K "meet" "meet" Ds t.LG t.lL
 vY:gc K t.lL ["crossing","one","other"] []
 CY:mg "meet"=some (.ref t.LG)
 pX:PySem.W.keepIn K (.ref t.LG)=true
 EZ:Fun K "gap" "gap" nC t.tQ t.LR
 OZ:gc K t.LR ["crossing","one","other"] []
 TZ:mg "gap"=some (.ref t.tQ)
 wZ:PySem.W.keepIn K (.ref t.tQ)=true
 YV:Fun K "words" "words" Jj t.PB t.ZE
 nW:gc K t.ZE ["text"] []
 aV:mg "words"=some (.ref t.PB)
 uV:PySem.W.keepIn K (.ref t.PB)=true
 oH:Fun K "is_made_of" "is_made_of" ge t.lh t.Fi
 ux:gc K t.Fi ["word","signs","most"] []
 zx:mg "is_made_of"=some (.ref t.lh)
 ix:PySem.W.keepIn K (.ref t.lh)=true
 MI:Fun K "is_number" "is_number" ff t.uj t.Zm
 LI:gc K t.Zm ["word","most_figures"] []
 pI:mg "is_number"=some (.ref t.uj)
 wJ:PySem.W.keepIn K (.ref t.uj)=true
 BP:Fun K "figured" "figured" Ig t.jm t.np
 xG:gc K t.np ["word","low","high"] []
 pH:mg "figured"=some (.ref t.jm)
 GG:PySem.W.keepIn K (.ref t.jm)=true
 jO:Fun K "is_name" "is_name" Hg t.Lo t.sv
 UP:gc K t.sv ["word"] []
 nN:mg "is_name"=some (.ref t.Lo)
 YN:PySem.W.keepIn K (.ref t.Lo)=true
 KP:Fun K "readers" "readers" ig t.Zl t.Fo
 FH:gc K t.Fo ["text"] []
 HH:mg "readers"=some (.ref t.Zl)
 IG:PySem.W.keepIn K (.ref t.Zl)=true
 LC:Fun K "until_marked" "until_marked" vd t.Qf t.Ug
 Sr:gc K t.Ug ["marks"] []
 gs:mg "until_marked"=some (.ref t.Qf)
 Mr:PySem.W.keepIn K (.ref t.Qf)=true
 pC:Fun K "since_marked" "since_marked" Dd t.Qg t.ni
 HC:gc K t.ni ["marks"] []
 ZC:mg "since_marked"=some (.ref t.Qg)
 wC:PySem.W.keepIn K (.ref t.Qg)=true
 rL:Fun K "spans_of" "spans_of" zf t.Bg t.kh
 Gm:gc K t.kh ["spans","name"] []
 dm:mg "spans_of"=some (.ref t.Bg)
 qm:PySem.W.keepIn K (.ref t.Bg)=true
 tH:Fun K "free_marks" "free_marks" fe t.fh t.yi
 Mw:gc K t.yi ["size","spans","name"] []
 ay:mg "free_marks"=some (.ref t.fh)
 Ix:PySem.W.keepIn K (.ref t.fh)=true
 xY:Fun K "lamp" "lamp" Yp t.aG t.aK
 nX:gc K t.aK ["way","size","spans"] []
 BX:mg "lamp"=some (.ref t.aG)
 fY:PySem.W.keepIn K (.ref t.aG)=true
 bJ:Fun K "read_size" "read_size" jf t.Nj t.Om
 lI:gc K t.Om ["reader"] []
 vI:mg "read_size"=some (.ref t.Nj)
 ZI:PySem.W.keepIn K (.ref t.Nj)=true
 eI:Fun K "read_span" "read_span" Je t.Mj t.Ym
 KJ:gc K t.Ym ["reader","crossing","size","spans"] []
 tI:mg "read_span"=some (.ref t.Mj)
 AI:PySem.W.keepIn K (.ref t.Mj)=true
 EJ:Fun K "read_plan" "read_plan" lf t.Zj t.cn
 xI:gc K t.cn ["crossing","text"] []
 mJ:mg "read_plan"=some (.ref t.Zj)
 zJ:PySem.W.keepIn K (.ref t.Zj)=true
 GC:Fun K "refuse_never" "refuse_never" yd t.Lg t.ai
 jD:gc K t.ai ["crossing","spans"] []
 IC:mg "refuse_never"=some (.ref t.Lg)
 dD:PySem.W.keepIn K (.ref t.Lg)=true
 Po:Fun K "turns_to_next_begin" "turns_to_next_begin" Ib t.ie t.Te
 Qq:gc K t.Te ["size","spans","place"] []
 nq:mg "turns_to_next_begin"=some (.ref t.ie)
 pq:PySem.W.keepIn K (.ref t.ie)=true
 WC:Fun K "refuse_short" "refuse_short" qd t.Tg t.ii
 qC:gc K t.ii ["crossing","size","spans"] []
 bD:mg "refuse_short"=some (.ref t.Tg)
 RC:PySem.W.keepIn K (.ref t.Tg)=true
 Cw:Fun K "refuse_clash_of" "refuse_clash_of" yc t.Cf t.wg
 sw:gc K t.wg ["crossing","one","other","since_one","since_other"] []
 iw:mg "refuse_clash_of"=some (.ref t.Cf)
 fw:PySem.W.keepIn K (.ref t.Cf)=true
 XC:Fun K "refuse_clash" "refuse_clash" zd t.Ng t.ji
 gC:gc K t.ji ["crossing","size","spans"] []
 KC:mg "refuse_clash"=some (.ref t.Ng)
 OC:PySem.W.keepIn K (.ref t.Ng)=true
 XI:Fun K "made_plan" "made_plan" Ke t.Ak t.Mm
 BI:gc K t.Mm ["crossing","size","rows"] []
 DI:mg "made_plan"=some (.ref t.Ak)
 GJ:PySem.W.keepIn K (.ref t.Ak)=true
 qI:Fun K "read_ring" "read_ring" ef t.Cj t.Nm
 LJ:gc K t.Nm ["reader"] []
 fJ:mg "read_ring"=some (.ref t.Cj)
 kJ:PySem.W.keepIn K (.ref t.Cj)=true
 mz:Fun K "read_new_name" "read_new_name" Ec t.gg t.vh
 CB:gc K t.vh ["reader","ways"] []
 zA:mg "read_new_name"=some (.ref t.gg)
 Bz:PySem.W.keepIn K (.ref t.gg)=true
 WM:Fun K "read_end" "read_end" Sf t.xm t.xr
 yM:gc K t.xr ["reader","places","start"] []
 oM:mg "read_end"=some (.ref t.xm)
 OM:PySem.W.keepIn K (.ref t.xm)=true
 sL:Fun K "made_way" "made_way" Rf t.Cm t.Br
 SM:gc K t.Br ["sort","name","start","end","off","near","least"] []
 lM:mg "made_way"=some (.ref t.Cm)
 SL:PySem.W.keepIn K (.ref t.Cm)=true
 IM:Fun K "read_way" "read_way" Tf t.Xl t.Cr
 BM:gc K t.Cr ["reader","places","ways"] []
 HM:mg "read_way"=some (.ref t.Xl)
 BL:PySem.W.keepIn K (.ref t.Xl)=true
 Yz:Fun K "read_crossing" "read_crossing" Uc t.fg t.sh
 SB:gc K t.sh ["text"] []
 Lz:mg "read_crossing"=some (.ref t.fg)
 RA:PySem.W.keepIn K (.ref t.fg)=true
 aJ:Fun K "_law_draw" "_law_draw" df t.ug t.bh
 Od:gc K t.bh ["_law_script","_law_k","_law_many"] []
 Ud:mg "_law_draw"=some (.ref t.ug)
 Nd:PySem.W.keepIn K (.ref t.ug)=true
 yJ:Fun K "_law_rows" "_law_rows" kf t.Ej t.gn
 oJ:gc K t.gn ["_law_script"] []
 HJ:mg "_law_rows"=some (.ref t.Ej)
 NJ:PySem.W.keepIn K (.ref t.Ej)=true
 jF:Fun K "_law_beyond" "_law_beyond" de t.Fh t.kj
 LE:gc K t.kj ["_law_rows_here","_law_at","_law_word"] []
 EE:mg "_law_beyond"=some (.ref t.Fh)
 gF:PySem.W.keepIn K (.ref t.Fh)=true
 eM:Fun K "_law_low" "_law_low" Vf t.mm t.yr
 zM:gc K t.yr ["_law_rows_here","_law_at","_law_word"] []
 fM:mg "_law_low"=some (.ref t.mm)
 cM:PySem.W.keepIn K (.ref t.mm)=true
 iD:Fun K "_law_spoiled" "_law_spoiled" ud t.Og t.si
 aD:gc K t.si ["_law_script","_law_rows_here"] []
 QC:mg "_law_spoiled"=some (.ref t.Og)
 fC:PySem.W.keepIn K (.ref t.Og)=true
 xH:Fun K "_law_other" "_law_other" Id t.Bi t.ul
 WG:gc K t.ul ["_law_script","_law_rows_here"] []
 lG:mg "_law_other"=some (.ref t.Bi)
 IH:PySem.W.keepIn K (.ref t.Bi)=true
 nG:Fun K "_law_asked" "_law_asked" me t.Hi t.Kk
 px:gc K t.Kk ["_law_crossing","_law_rows_here"] []
 ly:mg "_law_asked"=some (.ref t.Hi)
 dy:PySem.W.keepIn K (.ref t.Hi)=true
 DZ:Fun K "law" "law" oA t.fS t.AO
 P2:gc K t.AO ["_law_script"] []
 NZ:mg "law"=some (.ref t.fS)
 T2:PySem.W.keepIn K (.ref t.fS)=true
 RE:Fun K "__init__" "NoText.__init__" ce t.bj t.ij
 NE:gc K t.ij ["self","row","word"] []
 oG:Fun K "__init__" "Never.__init__" Fe t.il t.El
 uH:gc K t.El ["self","way"] []
 yG:Fun K "__init__" "Short.__init__" De t.Dk t.Hl
 SH:gc K t.Hl ["self","way","at"] []
 zG:Fun K "__init__" "Clash.__init__" Ee t.Uk t.Zk
 tG:gc K t.Zk ["self","way","other","at"] []
 wy:Fun K "__init__" "RowReader.__init__" Ic t.Wg t.Vg
 yy:gc K t.Vg ["self","row","told"] []
 xw:Fun K "ahead" "RowReader.ahead" vc t.Lc t.Kc
 Ge:gc K t.Kc ["self"] []
 Dr:Fun K "has_more" "RowReader.has_more" Tb t.ye t.ze
 Xi:gc K t.ze ["self"] []
 Ju:Fun K "refuse" "RowReader.refuse" bc t.Ze t.Ue
 Tk:gc K t.Ue ["self"] []
 eo:Fun K "take" "RowReader.take" Gc t.Zc t.ad
 Lf:gc K t.ad ["self","good"] []
 Hk:Fun K "one_of" "RowReader.one_of" dc t.Pc t.Nc
 We:gc K t.Nc ["self","choices"] []
 Dj:Fun K "figures" "RowReader.figures" Vb t.nc t.lc
 jc:gc K t.lc ["self","low","high"] []
 ml:Fun K "finish" "RowReader.finish" ac t.Tc t.Rc
 Yf:gc K t.Rc ["self"] []
 RI:Fun K "__init__" "Plan.__init__" gf t.rn t.Tm
 cJ:gc K t.Tm ["self","crossing","size","spans"] []
 XL:Fun K "__init__" "Way.__init__" Uf t.qj t.sj
 dw:gc K t.sj ["self","kind","name","start","end","off","near","least"] []
 tE:Fun K "__init__" "CarWay.__init__" Zd t.mj t.nj
 UE:gc K t.nj ["self","name","start","end","off","near","least"] []
 VC:Fun K "ready" "CarWay.ready" Cd t.Sl t.Vl
 lD:gc K t.Vl ["self"] []
 iF:Fun K "fade" "CarWay.fade" ae t.wn t.bn
 eF:gc K t.bn ["self"] []
 oC:Fun K "__init__" "FootWay.__init__" Bd t.vi t.ki
 uC:gc K t.ki ["self","name","start","end","off","near","least"] []
 DA:Fun K "ready" "FootWay.ready" Wc t.uk t.Pj
 FA:gc K t.Pj ["self"] []
 cD:Fun K "fade" "FootWay.fade" Ed t.Ol t.Tl
 UC:gc K t.Tl ["self"] []
 lC:Fun K "__init__" "TramWay.__init__" md t.di t.ci
 SC:gc K t.ci ["self","name","start","end","off","near","least"] []
 Rz:Fun K "ready" "TramWay.ready" Vc t.tj t.yj
 Sz:gc K t.yj ["self"] []
 dC:Fun K "fade" "TramWay.fade" Ad t.Wl t.Rl
 MC:gc K t.Rl ["self"] []
 Pz:Fun K "__init__" "Crossing.__init__" Xc t.Hh t.Dh
 BB:gc K t.Dh ["self","places","ways"] []
 Wy:Fun K "names" "Crossing.names" uc t.qe t.re
 Pe:gc K t.re ["self"] []
 Qv:Fun K "number" "Crossing.number" wc t.zg t.Ag
 Vv:gc K t.Ag ["self","name"] []
 yw:Fun K "called" "Crossing.called" xc t.jd t.gd
 Wd:gc K t.gd ["self","name"] []
 VJ:mg "RowReader"=some (.ref t.Bb)
 yb:Cls K t.Bb
 JI:Mk K t.Bb t.Wg
 Ie:UD K t.Bb "ahead" t.Lc
 Si:UD K t.Bb "has_more" t.ye
 Ll:UD K t.Bb "refuse" t.Ze
 Jf:UD K t.Bb "take" t.Zc
 Re:UD K t.Bb "one_of" t.Pc
 kc:UD K t.Bb "figures" t.nc
 bg:UD K t.Bb "finish" t.Tc
 e27:Mb K t.Bb "row"
 e19:Mb K t.Bb "told"
 e10:Mb K t.Bb "place"
 WY:mg "Plan"=some (.ref t.Xd)
 Ct:Cls K t.Xd
 JX:Mk K t.Xd t.rn
 e47:Mb K t.Xd "crossing"
 e208:Mb K t.Xd "size"
 e157:Mb K t.Xd "spans"
 e94:Mb K t.Xd "lamps"
 e54:Mb K t.Xd "untils"
 mU:mg "Way"=some (.ref t.Cg)
 A1:Cls K t.Cg
 e305:Mb K t.Cg "kind"
 e325:Mb K t.Cg "name"
 e289:Mb K t.Cg "start"
 e355:Mb K t.Cg "end"
 e356:Mb K t.Cg "off"
 e314:Mb K t.Cg "near"
 e278:Mb K t.Cg "least"
 OQ:mg "CarWay"=some (.ref t.Qb)
 aB:Cls K t.Qb
 IQ:Mk K t.Qb t.mj
 yC:UD K t.Qb "ready" t.Sl
 AE:UD K t.Qb "fade" t.wn
 e107:Mb K t.Qb "kind"
 e108:Mb K t.Qb "name"
 e86:Mb K t.Qb "start"
 e167:Mb K t.Qb "end"
 e151:Mb K t.Qb "off"
 e109:Mb K t.Qb "near"
 e78:Mb K t.Qb "least"
 gO:mg "FootWay"=some (.ref t.Gb)
 Nv:Cls K t.Gb
 NP:Mk K t.Gb t.vi
 oz:UD K t.Gb "ready" t.uk
 gD:UD K t.Gb "fade" t.Ol
 e69:Mb K t.Gb "kind"
 e84:Mb K t.Gb "name"
 e53:Mb K t.Gb "start"
 e100:Mb K t.Gb "end"
 e110:Mb K t.Gb "off"
 e71:Mb K t.Gb "near"
 e51:Mb K t.Gb "least"
 fO:mg "TramWay"=some (.ref t.Jb)
 vw:Cls K t.Jb
 GN:Mk K t.Jb t.di
 EA:UD K t.Jb "ready" t.tj
 NC:UD K t.Jb "fade" t.Wl
 e75:Mb K t.Jb "kind"
 e74:Mb K t.Jb "name"
 e48:Mb K t.Jb "start"
 e102:Mb K t.Jb "end"
 e105:Mb K t.Jb "off"
 e72:Mb K t.Jb "near"
 e50:Mb K t.Jb "least"
 QM:mg "Crossing"=some (.ref t.Eb)
 Zb:Cls K t.Eb
 MM:Mk K t.Eb t.Hh
 Oe:UD K t.Eb "names" t.qe
 pw:UD K t.Eb "number" t.zg
 Qd:UD K t.Eb "called" t.jd
 e14:Mb K t.Eb "places"
 e26:Mb K t.Eb "ways"
 e12:Mb K t.Eb "numbers"
 wj:mg "LampError"=some (.ref t.Mc)
 Qm:y0 K t.Mc "__init__"
 IK:mg "NoText"=some (.ref t.Lb)
 Zq:ZD K t.Lb
 BO:MkX K t.Lb t.bj
 e95:Mb K t.Lb "row"
 e55:Mb K t.Lb "word"
 e21:PySem.W.exmOne K (.ref t.Lb) (.ref t.Mc)=some true
 e119:PySem.W.exmOne K (.ref t.Lb) (.ref t.Lb)=some true
 e153:PySem.W.exmOne K (.ref t.Lb) (.ref t.qc)=some false
 e136:PySem.W.exmOne K (.ref t.Lb) (.ref t.Xb)=some false
 e158:PySem.W.exmOne K (.ref t.Lb) (.ref t.Ub)=some false
 pW:mg "Never"=some (.ref t.qc)
 oI:ZD K t.qc
 nS:MkX K t.qc t.il
 e206:Mb K t.qc "way"
 e59:PySem.W.exmOne K (.ref t.qc) (.ref t.Mc)=some true
 e161:PySem.W.exmOne K (.ref t.qc) (.ref t.Lb)=some false
 e198:PySem.W.exmOne K (.ref t.qc) (.ref t.qc)=some true
 e197:PySem.W.exmOne K (.ref t.qc) (.ref t.Xb)=some false
 e194:PySem.W.exmOne K (.ref t.qc) (.ref t.Ub)=some false
 JU:mg "Short"=some (.ref t.Xb)
 kF:ZD K t.Xb
 cS:MkX K t.Xb t.Dk
 e204:Mb K t.Xb "way"
 e245:Mb K t.Xb "at"
 e65:PySem.W.exmOne K (.ref t.Xb) (.ref t.Mc)=some true
 e168:PySem.W.exmOne K (.ref t.Xb) (.ref t.Lb)=some false
 e182:PySem.W.exmOne K (.ref t.Xb) (.ref t.qc)=some false
 e184:PySem.W.exmOne K (.ref t.Xb) (.ref t.Xb)=some true
 e196:PySem.W.exmOne K (.ref t.Xb) (.ref t.Ub)=some false
 MU:mg "Clash"=some (.ref t.Ub)
 pz:ZD K t.Ub
 wR:MkX K t.Ub t.Uk
 e209:Mb K t.Ub "way"
 e104:Mb K t.Ub "other"
 e262:Mb K t.Ub "at"
 e63:PySem.W.exmOne K (.ref t.Ub) (.ref t.Mc)=some true
 e164:PySem.W.exmOne K (.ref t.Ub) (.ref t.Lb)=some false
 e187:PySem.W.exmOne K (.ref t.Ub) (.ref t.qc)=some false
 e201:PySem.W.exmOne K (.ref t.Ub) (.ref t.Xb)=some false
 e185:PySem.W.exmOne K (.ref t.Ub) (.ref t.Ub)=some true
 e229:t.Cg ≠ t.Qb
 e200:t.Cg ≠ t.Gb
 e190:t.Cg ≠ t.Jb
 e18:t.Qb ≠ t.Gb
 e17:t.Qb ≠ t.Jb
 e15:t.Gb ≠ t.Jb
 qw:D1 K t.Cg "__init__" t.qj
 e329:mg "FIGURES"=some t.UG
 MN:cf (.str (Str.ofString "0123456789")) t.UG
 e99:mg "LEAST_PLACES"=some t.Xr
 FC:cf (.int 2) t.Xr
 e345:mg "LETTERS"=some t.mH
 VO:cf (.str (Str.ofString "abcdefghijklmnopqrstuvwxyz")) t.mH
 e103:mg "MOST_FIGURES"=some t.Lr
 vC:cf (.int 3) t.Lr
 e207:mg "MOST_LEAST"=some t.jx
 GH:cf (.int 60) t.jx
 e101:mg "MOST_LETTERS"=some t.Es
 iC:cf (.int 8) t.Es
 e248:mg "MOST_NEAR"=some t.uB
 JJ:cf (.int 30) t.uB
 e301:mg "MOST_OFF"=some t.fE
 wM:cf (.int 30) t.fE
 e163:mg "MOST_PLACES"=some t.qv
 zF:cf (.int 99) t.qv
 e253:mg "MOST_SIZE"=some t.JA
 hJ:cf (.int 240) t.JA
 e202:mg "MOST_SPANS"=some t.jy
 nH:cf (.int 3) t.jy
 e268:mg "MOST_WAYS"=some t.sB
 pJ:cf (.int 12) t.sB
 e471:mg "all"=none
 e453:mg "bool"=none
 e38:mg "enumerate"=none
 e455:mg "int"=none
 e79:mg "isinstance"=none
 e311:mg "len"=none
 e378:mg "list"=none
 e473:mg "max"=none
 e477:mg "min"=none
 e146:mg "range"=none
 e178:mg "reversed"=none
 e416:mg "str"=none
 QX:∀ (s:Shared) (u:Value),BindsTo s t.AO ⟨[u],[]⟩ [("_law_script",u)]
theorem hX {w:World} {K:PySem.W.Frag} {h:Heap} {mg:Str→Option Value} (X:K.In h) (G:h.Ns mainGlobals mg)
  {bz:Addr} {JN lH UH SF Fz OH:Value} {ZP KH:Option Addr} {iP:Array (Option Value)}
  {zl:Addr} {GF Su ju Dv Dn Jt:Value} {IE Ot:Option Addr} {ME:Array (Option Value)}
  {bL:Addr} {yV qO lO QO tJ dO:Value} {jU aQ:Option Addr} {cV:Array (Option Value)}
  {uR:Addr} {oY qT ST OS vO pT:Value} {DX mT:Option Addr} {WX:Array (Option Value)}
  {yE:Addr} {BQ TK gL yK CF QK:Value} {wS oK:Option Addr} {iS:Array (Option Value)}
  {Yk:Addr} {BF Hu du xv Um Ev:Value} {pE Xt:Option Addr} {qF:Array (Option Value)}
  {xn:Addr} {ZF Ax yx Nw bp Tx:Value} {qG Jw:Option Addr} {bH:Array (Option Value)}
  {Fu:Addr} {sM ID cE sD Hw BD:Value} {AM aE:Option Addr} {EM:Array (Option Value)}
  {xu:Addr} {tM TD FD xD Yv qD:Value} {ZL ND:Option Addr} {qM:Array (Option Value)}
  {wu:Addr} {WL zD RD tD Aw VD:Value} {NL PD:Option Addr} {ML:Array (Option Value)}
  {ui:Addr} {GB Yo Oq Wp Lj cq:Value} {uz Pq:Option Addr} {fA:Array (Option Value)}
  {oi:Addr} {BA Mo Zo Bp vk zo:Value} {NB rq:Option Addr} {tz:Array (Option Value)}
  {ir:Addr} {sJ qA cB jB et Hz:Value} {DJ VA:Option Addr} {eJ:Array (Option Value)}
  {Jl:Addr} {vF fv zu Kt Xm bu:Value} {iE lu:Option Addr} {sE:Array (Option Value)}
  {ZK:Addr} {tU mP WN QP kI iN:Value} {rW kN:Option Addr} {DV:Array (Option Value)}
  {Km:Addr} {RG my iy Px Up Ex:Value} {NH Qx:Option Addr} {AG:Array (Option Value)}
  {Wm:Addr} {OG Sw Ox Zw Bo Ow:Value} {qH uy:Option Addr} {vH:Array (Option Value)}
  {mn:Addr} {SG Nx Bx Vw Wq Ux:Value} {BG Wx:Option Addr} {dG:Array (Option Value)}
  {ei:Addr} {DB ap xq gq xk Xp:Value} {HA aq:Option Addr} {Zz:Array (Option Value)}
  {Xe:Addr} {vo Lh Oh Ih Wf Mh:Value} {xo Kh:Option Addr} {yo:Array (Option Value)}
  {mi:Addr} {vB Gq Oo uq jk Qo:Value} {ZA Qp:Option Addr} {Xz:Array (Option Value)}
  {vg:Addr} {fu Ik Xk Ek nh Nk:Value} {Av Jk:Option Addr} {Vu:Array (Option Value)}
  {gi:Addr} {OB Ep Mp Ap ak Do:Value} {gA Ip:Option Addr} {LB:Array (Option Value)}
  {Pm:Addr} {MH Xx cx gx bq Pw:Value} {sG Rw:Option Addr} {zH:Array (Option Value)}
  {Cn:Addr} {cH Hx xx ky Np Tw:Value} {TF ny:Option Addr} {UF:Array (Option Value)}
  {ph:Addr} {Ty Yn ao Fn Ni Qn:Value} {Hy Sn:Option Addr} {Py:Array (Option Value)}
  {cr:Addr} {rJ iA nz YA vt fB:Value} {dJ dA:Option Addr} {aI:Array (Option Value)}
  {dr:Addr} {OI JB QA HB Dt Mz:Value} {QI NA:Option Addr} {xJ:Array (Option Value)}
  {Yq:Addr} {mI aA Dz AB Ss CA:Value} {jJ Wz:Option Addr} {SJ:Array (Option Value)}
  {Ah:Addr} {Oy ko qo Gn Ki Vn:Value} {Sy so:Option Addr} {Uy:Array (Option Value)}
  {Im:Addr} {PF ax Yx oy Bq Ww:Value} {CG gy:Option Addr} {wG:Array (Option Value)}
  {jn:Addr} {DH Zx qx kx Nq Qw:Value} {gG Lw:Option Addr} {RH:Array (Option Value)}
  {fj:Addr} {rC Yr Bs Tr Ql Jr:Value} {kC Ks:Option Addr} {xC:Array (Option Value)}
  {ur:Addr} {jI EB yA RB Ys vz:Value} {KI Tz:Option Addr} {SI:Array (Option Value)}
  {Zh:Addr} {Jz Ko Vp vq Tj Jp:Value} {eA No:Option Addr} {Nz:Array (Option Value)}
  {dl:Addr} {DE Du Gv wv dn Xu:Value} {bF uu:Option Addr} {aF:Array (Option Value)}
  {Fk:Addr} {lF Rt iu Lu An Ht:Value} {yF Zu:Option Addr} {xE:Array (Option Value)}
  {tR:Addr} {tX BT ES gT XN QS:Value} {xX WS:Option Addr} {NX:Array (Option Value)}
  {yg:Addr} {BC Qr Fs Ls Pl Ur:Value} {YC Kr:Option Addr} {zC:Array (Option Value)}
  {jh:Addr} {QE yu mv Fv Bn eu:Value} {HF qu:Option Addr} {rE:Array (Option Value)}
  {gh:Addr} {AF Mu Au Nt Jm su:Value} {mE Pu:Option Addr} {wE:Array (Option Value)}
  {eh:Addr} {mF Kv Uu Zt Vm gu:Value} {xF Ut:Option Addr} {HE:Array (Option Value)}
  {Nf:Addr} {Tv im ym Yl Yh om:Value} {zw cm:Option Addr} {lw:Array (Option Value)}
  {Bf:Addr} {Vt Cl Qk Pk yh ol:Value} {Ru Lk:Option Addr} {Yt:Array (Option Value)}
  {we:Addr} {pp Ii xi Ei eg Ai:Value} {oq Di:Option Addr} {jp:Array (Option Value)}
  {bf:Addr} {Xs Gj ck Bk ah yk:Value} {At Yj:Option Addr} {Ms:Array (Option Value)}
  {Hf:Addr} {Fw gm Dm Bm Vh Fm:Value} {mw Em:Option Addr} {ow:Array (Option Value)}
  {Qe:Addr} {Ps zj xj Vj Zg zk:Value} {Vs gk:Option Addr} {Os:Array (Option Value)}
  {Le:Addr} {Ir aj Yi Ti Gg Ri:Value} {Gr Wi:Option Addr} {Er:Array (Option Value)}
  {Ye:Addr} {xt fk Uj Ck dh Aj:Value} {ut Kj:Option Addr} {zt:Array (Option Value)}
  {Bj:Addr} {EH Jx bx Kw Zp sy:Value} {eG mx:Option Addr} {HG:Array (Option Value)}
  {pj:Addr} {XH UB pB GA Zs Gz:Value} {WH nA:Option Addr} {iI:Array (Option Value)}
  {oh:Addr} {AC Is ls Wr Nl Cs:Value} {TC Hs:Option Addr} {EC:Array (Option Value)}
  {Kg:Addr} {wz Tp Lq zq Ij Pp:Value} {QB Mq:Option Addr} {xB:Array (Option Value)}
  {uh:Addr} {JC Nr Zr Js Ul js:Value} {kD As:Option Addr} {jC:Array (Option Value)}
  {Sg:Addr} {MB Aq Tq Ho Hj Co:Value} {yB Uq:Option Addr} {xz:Array (Option Value)}
  {kg:Addr} {xy Xn Jn oo Qi On:Value} {Vy mo:Option Addr} {Ry:Array (Option Value)}
  {Jg:Addr} {TB So wq Kq Oj Jq:Value} {Vz Gp:Option Addr} {yz:Array (Option Value)}
  {Pg:Addr} {qB Ao yp Fp rk iq:Value} {WB wp:Option Addr} {uA:Array (Option Value)}
  {lg:Addr} {Ay jo Nn Zn Li io:Value} {Ey Mn:Option Addr} {By:Array (Option Value)}
  {Rg:Addr} {UA Cp jq kq Sj Iq:Value} {AA zp:Option Addr} {MA:Array (Option Value)}
  {ng:Addr} {Ky Ln Kn Pn Pi bo:Value} {Gy Wn:Option Addr} {Fy:Array (Option Value)}
  {Of:Addr} {Sv tm fm km Th am:Value} {Bw zm:Option Addr} {Xv:Array (Option Value)}
  {vf:Addr} {Qt Dl Bl Wk Ch Kl:Value} {Qu el:Option Addr} {ou:Array (Option Value)}
  {rf:Addr} {Tt gl Fl Al rh Rk:Value} {Ku Vk:Option Addr} {Wt:Array (Option Value)}
  {Bb:Addr}
  {Xd:Addr}
  {Cg:Addr}
  {Qb:Addr}
  {Gb:Addr}
  {Jb:Addr}
  {Eb:Addr}
  {Mc:Addr}
  {Lb:Addr}
  {qc:Addr}
  {Xb:Addr}
  {Ub:Addr}
  {LD:Tok}
  {Hq:Tok}
  {yD:Tok}
  {Ro:Tok}
  {bv:Tok}
  {Xo:Tok}
  {Uw:Tok}
  {oB:Tok}
  {Vr:Tok}
  {Vx:Tok}
  {Bv:Tok}
  {Iw:Tok}
  (e424:PySem.W.nsIn K mainGlobals "in_bow"=some (some (.ref bz)))
  (e384:K.lookup bz=some ⟨JN,ZP,.func (PySem.W.fnOf "in_bow" "in_bow" (lb bi) (jb bi) (db bi) .none lH UH SF KH Fz OH),iP⟩)
  (e381:PySem.W.codeIn K Fz "in_bow"=true)
  (e349:PySem.W.keepIn K (.ref bz)=true)
  (e321:PySem.W.nsIn K mainGlobals "bows_cross"=some (some (.ref zl)))
  (e228:K.lookup zl=some ⟨GF,IE,.func (PySem.W.fnOf "bows_cross" "bows_cross" (lb Ce) (jb Ce) (db Ce) .none Su ju Dv Ot Dn Jt),ME⟩)
  (e237:PySem.W.codeIn K Dn "bows_cross"=true)
  (e131:PySem.W.keepIn K (.ref zl)=true)
  (e458:PySem.W.nsIn K mainGlobals "meet"=some (some (.ref bL)))
  (e435:K.lookup bL=some ⟨yV,jU,.func (PySem.W.fnOf "meet" "meet" (lb Ds) (jb Ds) (db Ds) .none qO lO QO aQ tJ dO),cV⟩)
  (e430:PySem.W.codeIn K tJ "meet"=true)
  (e414:PySem.W.keepIn K (.ref bL)=true)
  (e470:PySem.W.nsIn K mainGlobals "gap"=some (some (.ref uR)))
  (e466:K.lookup uR=some ⟨oY,DX,.func (PySem.W.fnOf "gap" "gap" (lb nC) (jb nC) (db nC) .none qT ST OS mT vO pT),WX⟩)
  (e469:PySem.W.codeIn K vO "gap"=true)
  (e454:PySem.W.keepIn K (.ref uR)=true)
  (e437:PySem.W.nsIn K mainGlobals "words"=some (some (.ref yE)))
  (e406:K.lookup yE=some ⟨BQ,wS,.func (PySem.W.fnOf "words" "words" (lb Jj) (jb Jj) (db Jj) .none TK gL yK oK CF QK),iS⟩)
  (e403:PySem.W.codeIn K CF "words"=true)
  (e380:PySem.W.keepIn K (.ref yE)=true)
  (e306:PySem.W.nsIn K mainGlobals "is_made_of"=some (some (.ref Yk)))
  (e231:K.lookup Yk=some ⟨BF,pE,.func (PySem.W.fnOf "is_made_of" "is_made_of" (lb ge) (jb ge) (db ge) .none Hu du xv Xt Um Ev),qF⟩)
  (e235:PySem.W.codeIn K Um "is_made_of"=true)
  (e171:PySem.W.keepIn K (.ref Yk)=true)
  (e333:PySem.W.nsIn K mainGlobals "is_number"=some (some (.ref xn)))
  (e281:K.lookup xn=some ⟨ZF,qG,.func (PySem.W.fnOf "is_number" "is_number" (lb ff) (jb ff) (db ff) .none Ax yx Nw Jw bp Tx),bH⟩)
  (e277:PySem.W.codeIn K bp "is_number"=true)
  (e211:PySem.W.keepIn K (.ref xn)=true)
  (e391:PySem.W.nsIn K mainGlobals "figured"=some (some (.ref Fu)))
  (e352:K.lookup Fu=some ⟨sM,AM,.func (PySem.W.fnOf "figured" "figured" (lb Ig) (jb Ig) (db Ig) .none ID cE sD aE Hw BD),EM⟩)
  (e354:PySem.W.codeIn K Hw "figured"=true)
  (e300:PySem.W.keepIn K (.ref Fu)=true)
  (e396:PySem.W.nsIn K mainGlobals "is_name"=some (some (.ref xu)))
  (e357:K.lookup xu=some ⟨tM,ZL,.func (PySem.W.fnOf "is_name" "is_name" (lb Hg) (jb Hg) (db Hg) .none TD FD xD ND Yv qD),qM⟩)
  (e358:PySem.W.codeIn K Yv "is_name"=true)
  (e299:PySem.W.keepIn K (.ref xu)=true)
  (e400:PySem.W.nsIn K mainGlobals "readers"=some (some (.ref wu)))
  (e353:K.lookup wu=some ⟨WL,NL,.func (PySem.W.fnOf "readers" "readers" (lb ig) (jb ig) (db ig) .none zD RD tD PD Aw VD),ML⟩)
  (e359:PySem.W.codeIn K Aw "readers"=true)
  (e298:PySem.W.keepIn K (.ref wu)=true)
  (e258:PySem.W.nsIn K mainGlobals "until_marked"=some (some (.ref ui)))
  (e172:K.lookup ui=some ⟨GB,uz,.func (PySem.W.fnOf "until_marked" "until_marked" (lb vd) (jb vd) (db vd) .none Yo Oq Wp Pq Lj cq),fA⟩)
  (e132:PySem.W.codeIn K Lj "until_marked"=true)
  (e85:PySem.W.keepIn K (.ref ui)=true)
  (e263:PySem.W.nsIn K mainGlobals "since_marked"=some (some (.ref oi)))
  (e160:K.lookup oi=some ⟨BA,NB,.func (PySem.W.fnOf "since_marked" "since_marked" (lb Dd) (jb Dd) (db Dd) .none Mo Zo Bp rq vk zo),tz⟩)
  (e147:PySem.W.codeIn K vk "since_marked"=true)
  (e82:PySem.W.keepIn K (.ref oi)=true)
  (e376:PySem.W.nsIn K mainGlobals "spans_of"=some (some (.ref ir)))
  (e302:K.lookup ir=some ⟨sJ,DJ,.func (PySem.W.fnOf "spans_of" "spans_of" (lb zf) (jb zf) (db zf) .none qA cB jB VA et Hz),eJ⟩)
  (e318:PySem.W.codeIn K et "spans_of"=true)
  (e260:PySem.W.keepIn K (.ref ir)=true)
  (e323:PySem.W.nsIn K mainGlobals "free_marks"=some (some (.ref Jl)))
  (e243:K.lookup Jl=some ⟨vF,iE,.func (PySem.W.fnOf "free_marks" "free_marks" (lb fe) (jb fe) (db fe) .none fv zu Kt lu Xm bu),sE⟩)
  (e233:PySem.W.codeIn K Xm "free_marks"=true)
  (e137:PySem.W.keepIn K (.ref Jl)=true)
  (e459:PySem.W.nsIn K mainGlobals "lamp"=some (some (.ref ZK)))
  (e444:K.lookup ZK=some ⟨tU,rW,.func (PySem.W.fnOf "lamp" "lamp" (lb Yp) (jb Yp) (db Yp) .none mP WN QP kN kI iN),DV⟩)
  (e443:PySem.W.codeIn K kI "lamp"=true)
  (e418:PySem.W.keepIn K (.ref ZK)=true)
  (e338:PySem.W.nsIn K mainGlobals "read_size"=some (some (.ref Km)))
  (e269:K.lookup Km=some ⟨RG,NH,.func (PySem.W.fnOf "read_size" "read_size" (lb jf) (jb jf) (db jf) .none my iy Px Qx Up Ex),AG⟩)
  (e272:PySem.W.codeIn K Up "read_size"=true)
  (e213:PySem.W.keepIn K (.ref Km)=true)
  (e328:PySem.W.nsIn K mainGlobals "read_span"=some (some (.ref Wm)))
  (e286:K.lookup Wm=some ⟨OG,qH,.func (PySem.W.fnOf "read_span" "read_span" (lb Je) (jb Je) (db Je) .none Sw Ox Zw uy Bo Ow),vH⟩)
  (e276:PySem.W.codeIn K Bo "read_span"=true)
  (e203:PySem.W.keepIn K (.ref Wm)=true)
  (e335:PySem.W.nsIn K mainGlobals "read_plan"=some (some (.ref mn)))
  (e280:K.lookup mn=some ⟨SG,BG,.func (PySem.W.fnOf "read_plan" "read_plan" (lb lf) (jb lf) (db lf) .none Nx Bx Vw Wx Wq Ux),dG⟩)
  (e282:PySem.W.codeIn K Wq "read_plan"=true)
  (e214:PySem.W.keepIn K (.ref mn)=true)
  (e261:PySem.W.nsIn K mainGlobals "refuse_never"=some (some (.ref ei)))
  (e165:K.lookup ei=some ⟨DB,HA,.func (PySem.W.fnOf "refuse_never" "refuse_never" (lb yd) (jb yd) (db yd) .none ap xq gq aq xk Xp),Zz⟩)
  (e148:PySem.W.codeIn K xk "refuse_never"=true)
  (e77:PySem.W.keepIn K (.ref ei)=true)
  (e56:PySem.W.nsIn K mainGlobals "turns_to_next_begin"=some (some (.ref Xe)))
  (e24:K.lookup Xe=some ⟨vo,xo,.func (PySem.W.fnOf "turns_to_next_begin" "turns_to_next_begin" (lb Ib) (jb Ib) (db Ib) .none Lh Oh Ih Kh Wf Mh),yo⟩)
  (e25:PySem.W.codeIn K Wf "turns_to_next_begin"=true)
  (e11:PySem.W.keepIn K (.ref Xe)=true)
  (e257:PySem.W.nsIn K mainGlobals "refuse_short"=some (some (.ref mi)))
  (e128:K.lookup mi=some ⟨vB,ZA,.func (PySem.W.fnOf "refuse_short" "refuse_short" (lb qd) (jb qd) (db qd) .none Gq Oo uq Qp jk Qo),Xz⟩)
  (e170:PySem.W.codeIn K jk "refuse_short"=true)
  (e80:PySem.W.keepIn K (.ref mi)=true)
  (e141:PySem.W.nsIn K mainGlobals "refuse_clash_of"=some (some (.ref vg)))
  (e67:K.lookup vg=some ⟨fu,Av,.func (PySem.W.fnOf "refuse_clash_of" "refuse_clash_of" (lb yc) (jb yc) (db yc) .none Ik Xk Ek Jk nh Nk),Vu⟩)
  (e57:PySem.W.codeIn K nh "refuse_clash_of"=true)
  (e28:PySem.W.keepIn K (.ref vg)=true)
  (e255:PySem.W.nsIn K mainGlobals "refuse_clash"=some (some (.ref gi)))
  (e166:K.lookup gi=some ⟨OB,gA,.func (PySem.W.fnOf "refuse_clash" "refuse_clash" (lb zd) (jb zd) (db zd) .none Ep Mp Ap Ip ak Do),LB⟩)
  (e143:PySem.W.codeIn K ak "refuse_clash"=true)
  (e73:PySem.W.keepIn K (.ref gi)=true)
  (e348:PySem.W.nsIn K mainGlobals "made_plan"=some (some (.ref Pm)))
  (e270:K.lookup Pm=some ⟨MH,sG,.func (PySem.W.fnOf "made_plan" "made_plan" (lb Ke) (jb Ke) (db Ke) .none Xx cx gx Rw bq Pw),zH⟩)
  (e273:PySem.W.codeIn K bq "made_plan"=true)
  (e215:PySem.W.keepIn K (.ref Pm)=true)
  (e343:PySem.W.nsIn K mainGlobals "read_ring"=some (some (.ref Cn)))
  (e279:K.lookup Cn=some ⟨cH,TF,.func (PySem.W.fnOf "read_ring" "read_ring" (lb ef) (jb ef) (db ef) .none Hx xx ky ny Np Tw),UF⟩)
  (e284:PySem.W.codeIn K Np "read_ring"=true)
  (e212:PySem.W.keepIn K (.ref Cn)=true)
  (e223:PySem.W.nsIn K mainGlobals "read_new_name"=some (some (.ref ph)))
  (e117:K.lookup ph=some ⟨Ty,Hy,.func (PySem.W.fnOf "read_new_name" "read_new_name" (lb Ec) (jb Ec) (db Ec) .none Yn ao Fn Sn Ni Qn),Py⟩)
  (e114:PySem.W.codeIn K Ni "read_new_name"=true)
  (e45:PySem.W.keepIn K (.ref ph)=true)
  (e361:PySem.W.nsIn K mainGlobals "read_end"=some (some (.ref cr)))
  (e307:K.lookup cr=some ⟨rJ,dJ,.func (PySem.W.fnOf "read_end" "read_end" (lb Sf) (jb Sf) (db Sf) .none iA nz YA dA vt fB),aI⟩)
  (e312:PySem.W.codeIn K vt "read_end"=true)
  (e266:PySem.W.keepIn K (.ref cr)=true)
  (e364:PySem.W.nsIn K mainGlobals "made_way"=some (some (.ref dr)))
  (e319:K.lookup dr=some ⟨OI,QI,.func (PySem.W.fnOf "made_way" "made_way" (lb Rf) (jb Rf) (db Rf) .none JB QA HB NA Dt Mz),xJ⟩)
  (e313:PySem.W.codeIn K Dt "made_way"=true)
  (e251:PySem.W.keepIn K (.ref dr)=true)
  (e371:PySem.W.nsIn K mainGlobals "read_way"=some (some (.ref Yq)))
  (e315:K.lookup Yq=some ⟨mI,jJ,.func (PySem.W.fnOf "read_way" "read_way" (lb Tf) (jb Tf) (db Tf) .none aA Dz AB Wz Ss CA),SJ⟩)
  (e310:PySem.W.codeIn K Ss "read_way"=true)
  (e259:PySem.W.keepIn K (.ref Yq)=true)
  (e219:PySem.W.nsIn K mainGlobals "read_crossing"=some (some (.ref Ah)))
  (e112:K.lookup Ah=some ⟨Oy,Sy,.func (PySem.W.fnOf "read_crossing" "read_crossing" (lb Uc) (jb Uc) (db Uc) .none ko qo Gn so Ki Vn),Uy⟩)
  (e122:PySem.W.codeIn K Ki "read_crossing"=true)
  (e49:PySem.W.keepIn K (.ref Ah)=true)
  (e340:PySem.W.nsIn K mainGlobals "_law_draw"=some (some (.ref Im)))
  (e283:K.lookup Im=some ⟨PF,CG,.func (PySem.W.fnOf "_law_draw" "_law_draw" (lb df) (jb df) (db df) .none ax Yx oy gy Bq Ww),wG⟩)
  (e288:PySem.W.codeIn K Bq "_law_draw"=true)
  (e205:PySem.W.keepIn K (.ref Im)=true)
  (e337:PySem.W.nsIn K mainGlobals "_law_rows"=some (some (.ref jn)))
  (e275:K.lookup jn=some ⟨DH,gG,.func (PySem.W.fnOf "_law_rows" "_law_rows" (lb kf) (jb kf) (db kf) .none Zx qx kx Lw Nq Qw),RH⟩)
  (e271:PySem.W.codeIn K Nq "_law_rows"=true)
  (e210:PySem.W.keepIn K (.ref jn)=true)
  (e292:PySem.W.nsIn K mainGlobals "_law_beyond"=some (some (.ref fj)))
  (e193:K.lookup fj=some ⟨rC,kC,.func (PySem.W.fnOf "_law_beyond" "_law_beyond" (lb de) (jb de) (db de) .none Yr Bs Tr Ks Ql Jr),xC⟩)
  (e181:PySem.W.codeIn K Ql "_law_beyond"=true)
  (e106:PySem.W.keepIn K (.ref fj)=true)
  (e375:PySem.W.nsIn K mainGlobals "_law_low"=some (some (.ref ur)))
  (e324:K.lookup ur=some ⟨jI,KI,.func (PySem.W.fnOf "_law_low" "_law_low" (lb Vf) (jb Vf) (db Vf) .none EB yA RB Tz Ys vz),SI⟩)
  (e309:PySem.W.codeIn K Ys "_law_low"=true)
  (e246:PySem.W.keepIn K (.ref ur)=true)
  (e265:PySem.W.nsIn K mainGlobals "_law_spoiled"=some (some (.ref Zh)))
  (e135:K.lookup Zh=some ⟨Jz,eA,.func (PySem.W.fnOf "_law_spoiled" "_law_spoiled" (lb ud) (jb ud) (db ud) .none Ko Vp vq No Tj Jp),Nz⟩)
  (e145:PySem.W.codeIn K Tj "_law_spoiled"=true)
  (e81:PySem.W.keepIn K (.ref Zh)=true)
  (e308:PySem.W.nsIn K mainGlobals "_law_other"=some (some (.ref dl)))
  (e239:K.lookup dl=some ⟨DE,bF,.func (PySem.W.fnOf "_law_other" "_law_other" (lb Id) (jb Id) (db Id) .none Du Gv wv uu dn Xu),aF⟩)
  (e230:PySem.W.codeIn K dn "_law_other"=true)
  (e133:PySem.W.keepIn K (.ref dl)=true)
  (e322:PySem.W.nsIn K mainGlobals "_law_asked"=some (some (.ref Fk)))
  (e238:K.lookup Fk=some ⟨lF,yF,.func (PySem.W.fnOf "_law_asked" "_law_asked" (lb me) (jb me) (db me) .none Rt iu Lu Zu An Ht),xE⟩)
  (e236:PySem.W.codeIn K An "_law_asked"=true)
  (e127:PySem.W.keepIn K (.ref Fk)=true)
  (e474:PySem.W.nsIn K mainGlobals "law"=some (some (.ref tR)))
  (e468:K.lookup tR=some ⟨tX,xX,.func (PySem.W.fnOf "law" "law" (lb oA) (jb oA) (db oA) .none BT ES gT WS XN QS),NX⟩)
  (e467:PySem.W.codeIn K XN "law"=true)
  (e456:PySem.W.keepIn K (.ref tR)=true)
  (e415:PySem.W.nsIn K mainGlobals "NoText"=some (some (.ref Lb)))
  (e360:PySem.W.findIn K (.ref Lb) "__init__"=some (some (.ref yg)))
  (e188:K.lookup yg=some ⟨BC,YC,.func (PySem.W.fnOf "__init__" "NoText.__init__" (lb ce) (jb ce) (db ce) .none Qr Fs Ls Kr Pl Ur),zC⟩)
  (e199:PySem.W.codeIn K Pl "NoText.__init__"=true)
  (e192:PySem.W.keepIn K (.ref yg)=true)
  (e316:PySem.W.isFn K (.ref yg)=true)
  (e445:PySem.W.nsIn K mainGlobals "Never"=some (some (.ref qc)))
  (e377:PySem.W.findIn K (.ref qc) "__init__"=some (some (.ref jh)))
  (e242:K.lookup jh=some ⟨QE,HF,.func (PySem.W.fnOf "__init__" "Never.__init__" (lb Fe) (jb Fe) (db Fe) .none yu mv Fv qu Bn eu),rE⟩)
  (e241:PySem.W.codeIn K Bn "Never.__init__"=true)
  (e225:PySem.W.keepIn K (.ref jh)=true)
  (e341:PySem.W.isFn K (.ref jh)=true)
  (e439:PySem.W.nsIn K mainGlobals "Short"=some (some (.ref Xb)))
  (e383:PySem.W.findIn K (.ref Xb) "__init__"=some (some (.ref gh)))
  (e224:K.lookup gh=some ⟨AF,mE,.func (PySem.W.fnOf "__init__" "Short.__init__" (lb De) (jb De) (db De) .none Mu Au Nt Pu Jm su),wE⟩)
  (e232:PySem.W.codeIn K Jm "Short.__init__"=true)
  (e227:PySem.W.keepIn K (.ref gh)=true)
  (e347:PySem.W.isFn K (.ref gh)=true)
  (e450:PySem.W.nsIn K mainGlobals "Clash"=some (some (.ref Ub)))
  (e382:PySem.W.findIn K (.ref Ub) "__init__"=some (some (.ref eh)))
  (e234:K.lookup eh=some ⟨mF,xF,.func (PySem.W.fnOf "__init__" "Clash.__init__" (lb Ee) (jb Ee) (db Ee) .none Kv Uu Zt Ut Vm gu),HE⟩)
  (e226:PySem.W.codeIn K Vm "Clash.__init__"=true)
  (e240:PySem.W.keepIn K (.ref eh)=true)
  (e342:PySem.W.isFn K (.ref eh)=true)
  (e331:PySem.W.nsIn K mainGlobals "RowReader"=some (some (.ref Bb)))
  (e180:PySem.W.findIn K (.ref Bb) "__init__"=some (some (.ref Nf)))
  (e92:K.lookup Nf=some ⟨Tv,zw,.func (PySem.W.fnOf "__init__" "RowReader.__init__" (lb Ic) (jb Ic) (db Ic) .none im ym Yl cm Yh om),lw⟩)
  (e89:PySem.W.codeIn K Yh "RowReader.__init__"=true)
  (e87:PySem.W.keepIn K (.ref Nf)=true)
  (e218:PySem.W.isFn K (.ref Nf)=true)
  (e140:PySem.W.findIn K (.ref Bb) "ahead"=some (some (.ref Bf)))
  (e62:K.lookup Bf=some ⟨Vt,Ru,.func (PySem.W.fnOf "ahead" "RowReader.ahead" (lb vc) (jb vc) (db vc) .none Cl Qk Pk Lk yh ol),Yt⟩)
  (e60:PySem.W.codeIn K yh "RowReader.ahead"=true)
  (e31:PySem.W.keepIn K (.ref Bf)=true)
  (e179:PySem.W.isFn K (.ref Bf)=true)
  (e68:PySem.W.findIn K (.ref Bb) "has_more"=some (some (.ref we)))
  (e29:K.lookup we=some ⟨pp,oq,.func (PySem.W.fnOf "has_more" "RowReader.has_more" (lb Tb) (jb Tb) (db Tb) .none Ii xi Ei Di eg Ai),jp⟩)
  (e30:PySem.W.codeIn K eg "RowReader.has_more"=true)
  (e13:PySem.W.keepIn K (.ref we)=true)
  (e96:PySem.W.isFn K (.ref we)=true)
  (e126:PySem.W.findIn K (.ref Bb) "refuse"=some (some (.ref bf)))
  (e42:K.lookup bf=some ⟨Xs,At,.func (PySem.W.fnOf "refuse" "RowReader.refuse" (lb bc) (jb bc) (db bc) .none Gj ck Bk Yj ah yk),Ms⟩)
  (e41:PySem.W.codeIn K ah "RowReader.refuse"=true)
  (e23:PySem.W.keepIn K (.ref bf)=true)
  (e129:PySem.W.isFn K (.ref bf)=true)
  (e176:PySem.W.findIn K (.ref Bb) "take"=some (some (.ref Hf)))
  (e93:K.lookup Hf=some ⟨Fw,mw,.func (PySem.W.fnOf "take" "RowReader.take" (lb Gc) (jb Gc) (db Gc) .none gm Dm Bm Em Vh Fm),ow⟩)
  (e88:PySem.W.codeIn K Vh "RowReader.take"=true)
  (e36:PySem.W.keepIn K (.ref Hf)=true)
  (e216:PySem.W.isFn K (.ref Hf)=true)
  (e124:PySem.W.findIn K (.ref Bb) "one_of"=some (some (.ref Qe)))
  (e44:K.lookup Qe=some ⟨Ps,Vs,.func (PySem.W.fnOf "one_of" "RowReader.one_of" (lb dc) (jb dc) (db dc) .none zj xj Vj gk Zg zk),Os⟩)
  (e40:PySem.W.codeIn K Zg "RowReader.one_of"=true)
  (e20:PySem.W.keepIn K (.ref Qe)=true)
  (e155:PySem.W.isFn K (.ref Qe)=true)
  (e97:PySem.W.findIn K (.ref Bb) "figures"=some (some (.ref Le)))
  (e34:K.lookup Le=some ⟨Ir,Gr,.func (PySem.W.fnOf "figures" "RowReader.figures" (lb Vb) (jb Vb) (db Vb) .none aj Yi Ti Wi Gg Ri),Er⟩)
  (e35:PySem.W.codeIn K Gg "RowReader.figures"=true)
  (e16:PySem.W.keepIn K (.ref Le)=true)
  (e123:PySem.W.isFn K (.ref Le)=true)
  (e125:PySem.W.findIn K (.ref Bb) "finish"=some (some (.ref Ye)))
  (e39:K.lookup Ye=some ⟨xt,ut,.func (PySem.W.fnOf "finish" "RowReader.finish" (lb ac) (jb ac) (db ac) .none fk Uj Ck Kj dh Aj),zt⟩)
  (e43:PySem.W.codeIn K dh "RowReader.finish"=true)
  (e22:PySem.W.keepIn K (.ref Ye)=true)
  (e156:PySem.W.isFn K (.ref Ye)=true)
  (e464:PySem.W.nsIn K mainGlobals "Plan"=some (some (.ref Xd)))
  (e346:PySem.W.findIn K (.ref Xd) "__init__"=some (some (.ref Bj)))
  (e285:K.lookup Bj=some ⟨EH,eG,.func (PySem.W.fnOf "__init__" "Plan.__init__" (lb gf) (jb gf) (db gf) .none Jx bx Kw mx Zp sy),HG⟩)
  (e287:PySem.W.codeIn K Zp "Plan.__init__"=true)
  (e274:PySem.W.keepIn K (.ref Bj)=true)
  (e367:PySem.W.isFn K (.ref Bj)=true)
  (e472:PySem.W.nsIn K mainGlobals "Way"=some (some (.ref Cg)))
  (e407:PySem.W.findIn K (.ref Cg) "__init__"=some (some (.ref pj)))
  (e304:K.lookup pj=some ⟨XH,WH,.func (PySem.W.fnOf "__init__" "Way.__init__" (lb Uf) (jb Uf) (db Uf) .none UB pB GA nA Zs Gz),iI⟩)
  (e317:PySem.W.codeIn K Zs "Way.__init__"=true)
  (e267:PySem.W.keepIn K (.ref pj)=true)
  (e426:PySem.W.isFn K (.ref pj)=true)
  (e411:PySem.W.nsIn K mainGlobals "CarWay"=some (some (.ref Qb)))
  (e294:PySem.W.findIn K (.ref Qb) "__init__"=some (some (.ref oh)))
  (e191:K.lookup oh=some ⟨AC,TC,.func (PySem.W.fnOf "__init__" "CarWay.__init__" (lb Zd) (jb Zd) (db Zd) .none Is ls Wr Hs Nl Cs),EC⟩)
  (e195:PySem.W.codeIn K Nl "CarWay.__init__"=true)
  (e189:PySem.W.keepIn K (.ref oh)=true)
  (e320:PySem.W.isFn K (.ref oh)=true)
  (e249:PySem.W.findIn K (.ref Qb) "ready"=some (some (.ref Kg)))
  (e144:K.lookup Kg=some ⟨wz,QB,.func (PySem.W.fnOf "ready" "CarWay.ready" (lb Cd) (jb Cd) (db Cd) .none Tp Lq zq Mq Ij Pp),xB⟩)
  (e169:PySem.W.codeIn K Ij "CarWay.ready"=true)
  (e83:PySem.W.keepIn K (.ref Kg)=true)
  (e297:PySem.W.isFn K (.ref Kg)=true)
  (e295:PySem.W.findIn K (.ref Qb) "fade"=some (some (.ref uh)))
  (e183:K.lookup uh=some ⟨JC,kD,.func (PySem.W.fnOf "fade" "CarWay.fade" (lb ae) (jb ae) (db ae) .none Nr Zr Js As Ul js),jC⟩)
  (e186:PySem.W.codeIn K Ul "CarWay.fade"=true)
  (e98:PySem.W.keepIn K (.ref uh)=true)
  (e303:PySem.W.isFn K (.ref uh)=true)
  (e386:PySem.W.nsIn K mainGlobals "FootWay"=some (some (.ref Gb)))
  (e250:PySem.W.findIn K (.ref Gb) "__init__"=some (some (.ref Sg)))
  (e130:K.lookup Sg=some ⟨MB,yB,.func (PySem.W.fnOf "__init__" "FootWay.__init__" (lb Bd) (jb Bd) (db Bd) .none Aq Tq Ho Uq Hj Co),xz⟩)
  (e154:PySem.W.codeIn K Hj "FootWay.__init__"=true)
  (e152:PySem.W.keepIn K (.ref Sg)=true)
  (e291:PySem.W.isFn K (.ref Sg)=true)
  (e221:PySem.W.findIn K (.ref Gb) "ready"=some (some (.ref kg)))
  (e120:K.lookup kg=some ⟨xy,Vy,.func (PySem.W.fnOf "ready" "FootWay.ready" (lb Wc) (jb Wc) (db Wc) .none Xn Jn oo mo Qi On),Ry⟩)
  (e121:PySem.W.codeIn K Qi "FootWay.ready"=true)
  (e52:PySem.W.keepIn K (.ref kg)=true)
  (e256:PySem.W.isFn K (.ref kg)=true)
  (e254:PySem.W.findIn K (.ref Gb) "fade"=some (some (.ref Jg)))
  (e138:K.lookup Jg=some ⟨TB,Vz,.func (PySem.W.fnOf "fade" "FootWay.fade" (lb Ed) (jb Ed) (db Ed) .none So wq Kq Gp Oj Jq),yz⟩)
  (e134:PySem.W.codeIn K Oj "FootWay.fade"=true)
  (e76:PySem.W.keepIn K (.ref Jg)=true)
  (e290:PySem.W.isFn K (.ref Jg)=true)
  (e395:PySem.W.nsIn K mainGlobals "TramWay"=some (some (.ref Jb)))
  (e244:PySem.W.findIn K (.ref Jb) "__init__"=some (some (.ref Pg)))
  (e150:K.lookup Pg=some ⟨qB,WB,.func (PySem.W.fnOf "__init__" "TramWay.__init__" (lb md) (jb md) (db md) .none Ao yp Fp wp rk iq),uA⟩)
  (e139:PySem.W.codeIn K rk "TramWay.__init__"=true)
  (e173:PySem.W.keepIn K (.ref Pg)=true)
  (e296:PySem.W.isFn K (.ref Pg)=true)
  (e220:PySem.W.findIn K (.ref Jb) "ready"=some (some (.ref lg)))
  (e115:K.lookup lg=some ⟨Ay,Ey,.func (PySem.W.fnOf "ready" "TramWay.ready" (lb Vc) (jb Vc) (db Vc) .none jo Nn Zn Mn Li io),By⟩)
  (e113:PySem.W.codeIn K Li "TramWay.ready"=true)
  (e46:PySem.W.keepIn K (.ref lg)=true)
  (e247:PySem.W.isFn K (.ref lg)=true)
  (e264:PySem.W.findIn K (.ref Jb) "fade"=some (some (.ref Rg)))
  (e142:K.lookup Rg=some ⟨UA,AA,.func (PySem.W.fnOf "fade" "TramWay.fade" (lb Ad) (jb Ad) (db Ad) .none Cp jq kq zp Sj Iq),MA⟩)
  (e159:PySem.W.codeIn K Sj "TramWay.fade"=true)
  (e70:PySem.W.keepIn K (.ref Rg)=true)
  (e293:PySem.W.isFn K (.ref Rg)=true)
  (e363:PySem.W.nsIn K mainGlobals "Crossing"=some (some (.ref Eb)))
  (e217:PySem.W.findIn K (.ref Eb) "__init__"=some (some (.ref ng)))
  (e116:K.lookup ng=some ⟨Ky,Gy,.func (PySem.W.fnOf "__init__" "Crossing.__init__" (lb Xc) (jb Xc) (db Xc) .none Ln Kn Pn Wn Pi bo),Fy⟩)
  (e111:PySem.W.codeIn K Pi "Crossing.__init__"=true)
  (e118:PySem.W.keepIn K (.ref ng)=true)
  (e252:PySem.W.isFn K (.ref ng)=true)
  (e177:PySem.W.findIn K (.ref Eb) "names"=some (some (.ref Of)))
  (e91:K.lookup Of=some ⟨Sv,Bw,.func (PySem.W.fnOf "names" "Crossing.names" (lb uc) (jb uc) (db uc) .none tm fm km zm Th am),Xv⟩)
  (e90:PySem.W.codeIn K Th "Crossing.names"=true)
  (e37:PySem.W.keepIn K (.ref Of)=true)
  (e222:PySem.W.isFn K (.ref Of)=true)
  (e149:PySem.W.findIn K (.ref Eb) "number"=some (some (.ref vf)))
  (e66:K.lookup vf=some ⟨Qt,Qu,.func (PySem.W.fnOf "number" "Crossing.number" (lb wc) (jb wc) (db wc) .none Dl Bl Wk el Ch Kl),ou⟩)
  (e58:PySem.W.codeIn K Ch "Crossing.number"=true)
  (e33:PySem.W.keepIn K (.ref vf)=true)
  (e174:PySem.W.isFn K (.ref vf)=true)
  (e162:PySem.W.findIn K (.ref Eb) "called"=some (some (.ref rf)))
  (e64:K.lookup rf=some ⟨Tt,Ku,.func (PySem.W.fnOf "called" "Crossing.called" (lb xc) (jb xc) (db xc) .none gl Fl Al Vk rh Rk),Wt⟩)
  (e61:PySem.W.codeIn K rh "Crossing.called"=true)
  (e32:PySem.W.keepIn K (.ref rf)=true)
  (e175:PySem.W.isFn K (.ref rf)=true)
  (e334:PySem.W.plainGet K Bb Str.empty=true)
  (e350:PySem.W.hasDictIn K Bb=true)
  (e344:PySem.W.plainOver K Bb=true)
  (e332:PySem.W.findIn K (.ref Bb) "__setattr__"=some (some (.builtin "object.__setattr__")))
  (e336:PySem.W.makesIn K Bb=true)
  (e326:PySem.W.keepIn K (.ref Bb)=true)
  (e27:PySem.W.findIn K (.ref Bb) "row"=some none)
  (e19:PySem.W.findIn K (.ref Bb) "told"=some none)
  (e10:PySem.W.findIn K (.ref Bb) "place"=some none)
  (e463:PySem.W.plainGet K Xd Str.empty=true)
  (e465:PySem.W.hasDictIn K Xd=true)
  (e462:PySem.W.plainOver K Xd=true)
  (e461:PySem.W.findIn K (.ref Xd) "__setattr__"=some (some (.builtin "object.__setattr__")))
  (e457:PySem.W.makesIn K Xd=true)
  (e460:PySem.W.keepIn K (.ref Xd)=true)
  (e47:PySem.W.findIn K (.ref Xd) "crossing"=some none)
  (e208:PySem.W.findIn K (.ref Xd) "size"=some none)
  (e157:PySem.W.findIn K (.ref Xd) "spans"=some none)
  (e94:PySem.W.findIn K (.ref Xd) "lamps"=some none)
  (e54:PySem.W.findIn K (.ref Xd) "untils"=some none)
  (e476:PySem.W.plainGet K Cg Str.empty=true)
  (e475:PySem.W.hasDictIn K Cg=true)
  (e479:PySem.W.plainOver K Cg=true)
  (e478:PySem.W.findIn K (.ref Cg) "__setattr__"=some (some (.builtin "object.__setattr__")))
  (e305:PySem.W.findIn K (.ref Cg) "kind"=some none)
  (e325:PySem.W.findIn K (.ref Cg) "name"=some none)
  (e289:PySem.W.findIn K (.ref Cg) "start"=some none)
  (e355:PySem.W.findIn K (.ref Cg) "end"=some none)
  (e356:PySem.W.findIn K (.ref Cg) "off"=some none)
  (e314:PySem.W.findIn K (.ref Cg) "near"=some none)
  (e278:PySem.W.findIn K (.ref Cg) "least"=some none)
  (e408:PySem.W.plainGet K Qb Str.empty=true)
  (e419:PySem.W.hasDictIn K Qb=true)
  (e413:PySem.W.plainOver K Qb=true)
  (e417:PySem.W.findIn K (.ref Qb) "__setattr__"=some (some (.builtin "object.__setattr__")))
  (e420:PySem.W.makesIn K Qb=true)
  (e410:PySem.W.keepIn K (.ref Qb)=true)
  (e107:PySem.W.findIn K (.ref Qb) "kind"=some none)
  (e108:PySem.W.findIn K (.ref Qb) "name"=some none)
  (e86:PySem.W.findIn K (.ref Qb) "start"=some none)
  (e167:PySem.W.findIn K (.ref Qb) "end"=some none)
  (e151:PySem.W.findIn K (.ref Qb) "off"=some none)
  (e109:PySem.W.findIn K (.ref Qb) "near"=some none)
  (e78:PySem.W.findIn K (.ref Qb) "least"=some none)
  (e390:PySem.W.plainGet K Gb Str.empty=true)
  (e397:PySem.W.hasDictIn K Gb=true)
  (e394:PySem.W.plainOver K Gb=true)
  (e393:PySem.W.findIn K (.ref Gb) "__setattr__"=some (some (.builtin "object.__setattr__")))
  (e388:PySem.W.makesIn K Gb=true)
  (e389:PySem.W.keepIn K (.ref Gb)=true)
  (e69:PySem.W.findIn K (.ref Gb) "kind"=some none)
  (e84:PySem.W.findIn K (.ref Gb) "name"=some none)
  (e53:PySem.W.findIn K (.ref Gb) "start"=some none)
  (e100:PySem.W.findIn K (.ref Gb) "end"=some none)
  (e110:PySem.W.findIn K (.ref Gb) "off"=some none)
  (e71:PySem.W.findIn K (.ref Gb) "near"=some none)
  (e51:PySem.W.findIn K (.ref Gb) "least"=some none)
  (e387:PySem.W.plainGet K Jb Str.empty=true)
  (e392:PySem.W.hasDictIn K Jb=true)
  (e385:PySem.W.plainOver K Jb=true)
  (e398:PySem.W.findIn K (.ref Jb) "__setattr__"=some (some (.builtin "object.__setattr__")))
  (e399:PySem.W.makesIn K Jb=true)
  (e401:PySem.W.keepIn K (.ref Jb)=true)
  (e75:PySem.W.findIn K (.ref Jb) "kind"=some none)
  (e74:PySem.W.findIn K (.ref Jb) "name"=some none)
  (e48:PySem.W.findIn K (.ref Jb) "start"=some none)
  (e102:PySem.W.findIn K (.ref Jb) "end"=some none)
  (e105:PySem.W.findIn K (.ref Jb) "off"=some none)
  (e72:PySem.W.findIn K (.ref Jb) "near"=some none)
  (e50:PySem.W.findIn K (.ref Jb) "least"=some none)
  (e374:PySem.W.plainGet K Eb Str.empty=true)
  (e370:PySem.W.hasDictIn K Eb=true)
  (e366:PySem.W.plainOver K Eb=true)
  (e372:PySem.W.findIn K (.ref Eb) "__setattr__"=some (some (.builtin "object.__setattr__")))
  (e362:PySem.W.makesIn K Eb=true)
  (e373:PySem.W.keepIn K (.ref Eb)=true)
  (e14:PySem.W.findIn K (.ref Eb) "places"=some none)
  (e26:PySem.W.findIn K (.ref Eb) "ways"=some none)
  (e12:PySem.W.findIn K (.ref Eb) "numbers"=some none)
  (e351:PySem.W.nsIn K mainGlobals "LampError"=some (some (.ref Mc)))
  (e330:PySem.W.readsIn K Mc (.type "type")=true)
  (e327:PySem.W.findCls K (.ref Mc) (.type "type") "__init__"=some (.val (.builtin "ValueError.__init__")))
  (e339:PySem.W.specialIn K (.ref Mc) "__getattribute__"=some (some (.builtin "type.__getattribute__")))
  (e425:PySem.W.hasDictIn K Lb=true)
  (e421:((PySem.W.clsIn K Lb).any fun cd=>fG cd.mro)=true)
  (e412:PySem.W.findIn K (.ref Lb) "__setattr__"=some (some (.builtin "object.__setattr__")))
  (e423:PySem.W.findIn K (.ref Lb) "__getattribute__"=some (some (.builtin "BaseException.__getattribute__")))
  (e409:PySem.W.findIn K (.ref Lb) "__getattr__"=some none)
  (e379:Jv K Lb yg=true)
  (e422:PySem.W.keepIn K (.ref Lb)=true)
  (e95:PySem.W.findIn K (.ref Lb) "row"=some none)
  (e55:PySem.W.findIn K (.ref Lb) "word"=some none)
  (e21:PySem.W.exmOne K (.ref Lb) (.ref Mc)=some true)
  (e119:PySem.W.exmOne K (.ref Lb) (.ref Lb)=some true)
  (e153:PySem.W.exmOne K (.ref Lb) (.ref qc)=some false)
  (e136:PySem.W.exmOne K (.ref Lb) (.ref Xb)=some false)
  (e158:PySem.W.exmOne K (.ref Lb) (.ref Ub)=some false)
  (e429:PySem.W.hasDictIn K qc=true)
  (e438:((PySem.W.clsIn K qc).any fun cd=>fG cd.mro)=true)
  (e452:PySem.W.findIn K (.ref qc) "__setattr__"=some (some (.builtin "object.__setattr__")))
  (e428:PySem.W.findIn K (.ref qc) "__getattribute__"=some (some (.builtin "BaseException.__getattribute__")))
  (e451:PySem.W.findIn K (.ref qc) "__getattr__"=some none)
  (e402:Jv K qc jh=true)
  (e441:PySem.W.keepIn K (.ref qc)=true)
  (e206:PySem.W.findIn K (.ref qc) "way"=some none)
  (e59:PySem.W.exmOne K (.ref qc) (.ref Mc)=some true)
  (e161:PySem.W.exmOne K (.ref qc) (.ref Lb)=some false)
  (e198:PySem.W.exmOne K (.ref qc) (.ref qc)=some true)
  (e197:PySem.W.exmOne K (.ref qc) (.ref Xb)=some false)
  (e194:PySem.W.exmOne K (.ref qc) (.ref Ub)=some false)
  (e440:PySem.W.hasDictIn K Xb=true)
  (e442:((PySem.W.clsIn K Xb).any fun cd=>fG cd.mro)=true)
  (e448:PySem.W.findIn K (.ref Xb) "__setattr__"=some (some (.builtin "object.__setattr__")))
  (e446:PySem.W.findIn K (.ref Xb) "__getattribute__"=some (some (.builtin "BaseException.__getattribute__")))
  (e436:PySem.W.findIn K (.ref Xb) "__getattr__"=some none)
  (e405:Jv K Xb gh=true)
  (e447:PySem.W.keepIn K (.ref Xb)=true)
  (e204:PySem.W.findIn K (.ref Xb) "way"=some none)
  (e245:PySem.W.findIn K (.ref Xb) "at"=some none)
  (e65:PySem.W.exmOne K (.ref Xb) (.ref Mc)=some true)
  (e168:PySem.W.exmOne K (.ref Xb) (.ref Lb)=some false)
  (e182:PySem.W.exmOne K (.ref Xb) (.ref qc)=some false)
  (e184:PySem.W.exmOne K (.ref Xb) (.ref Xb)=some true)
  (e196:PySem.W.exmOne K (.ref Xb) (.ref Ub)=some false)
  (e432:PySem.W.hasDictIn K Ub=true)
  (e427:((PySem.W.clsIn K Ub).any fun cd=>fG cd.mro)=true)
  (e431:PySem.W.findIn K (.ref Ub) "__setattr__"=some (some (.builtin "object.__setattr__")))
  (e433:PySem.W.findIn K (.ref Ub) "__getattribute__"=some (some (.builtin "BaseException.__getattribute__")))
  (e449:PySem.W.findIn K (.ref Ub) "__getattr__"=some none)
  (e404:Jv K Ub eh=true)
  (e434:PySem.W.keepIn K (.ref Ub)=true)
  (e209:PySem.W.findIn K (.ref Ub) "way"=some none)
  (e104:PySem.W.findIn K (.ref Ub) "other"=some none)
  (e262:PySem.W.findIn K (.ref Ub) "at"=some none)
  (e63:PySem.W.exmOne K (.ref Ub) (.ref Mc)=some true)
  (e164:PySem.W.exmOne K (.ref Ub) (.ref Lb)=some false)
  (e187:PySem.W.exmOne K (.ref Ub) (.ref qc)=some false)
  (e201:PySem.W.exmOne K (.ref Ub) (.ref Xb)=some false)
  (e185:PySem.W.exmOne K (.ref Ub) (.ref Ub)=some true)
  (e229:Cg ≠ Qb)
  (e200:Cg ≠ Gb)
  (e190:Cg ≠ Jb)
  (e18:Qb ≠ Gb)
  (e17:Qb ≠ Jb)
  (e15:Gb ≠ Jb)
  (e365:PySem.W.readsIn K Cg (.type "type")=true)
  (e369:PySem.W.findCls K (.ref Cg) (.type "type") "__init__"=some (.val (.ref pj)))
  (e368:PySem.W.specialIn K (.ref Cg) "__getattribute__"=some (some (.builtin "type.__getattribute__")))
  (e329:PySem.W.nsIn K mainGlobals "FIGURES"=some (some (.str (Str.ofString "0123456789") LD)))
  (e99:PySem.W.nsIn K mainGlobals "LEAST_PLACES"=some (some (.int 2 Hq)))
  (e345:PySem.W.nsIn K mainGlobals "LETTERS"=some (some (.str (Str.ofString "abcdefghijklmnopqrstuvwxyz") yD)))
  (e103:PySem.W.nsIn K mainGlobals "MOST_FIGURES"=some (some (.int 3 Ro)))
  (e207:PySem.W.nsIn K mainGlobals "MOST_LEAST"=some (some (.int 60 bv)))
  (e101:PySem.W.nsIn K mainGlobals "MOST_LETTERS"=some (some (.int 8 Xo)))
  (e248:PySem.W.nsIn K mainGlobals "MOST_NEAR"=some (some (.int 30 Uw)))
  (e301:PySem.W.nsIn K mainGlobals "MOST_OFF"=some (some (.int 30 oB)))
  (e163:PySem.W.nsIn K mainGlobals "MOST_PLACES"=some (some (.int 99 Vr)))
  (e253:PySem.W.nsIn K mainGlobals "MOST_SIZE"=some (some (.int 240 Vx)))
  (e202:PySem.W.nsIn K mainGlobals "MOST_SPANS"=some (some (.int 3 Bv)))
  (e268:PySem.W.nsIn K mainGlobals "MOST_WAYS"=some (some (.int 12 Iw)))
  (e471:PySem.W.nsIn K mainGlobals "all"=some none)
  (e453:PySem.W.nsIn K mainGlobals "bool"=some none)
  (e38:PySem.W.nsIn K mainGlobals "enumerate"=some none)
  (e455:PySem.W.nsIn K mainGlobals "int"=some none)
  (e79:PySem.W.nsIn K mainGlobals "isinstance"=some none)
  (e311:PySem.W.nsIn K mainGlobals "len"=some none)
  (e378:PySem.W.nsIn K mainGlobals "list"=some none)
  (e473:PySem.W.nsIn K mainGlobals "max"=some none)
  (e477:PySem.W.nsIn K mainGlobals "min"=some none)
  (e146:PySem.W.nsIn K mainGlobals "range"=some none)
  (e178:PySem.W.nsIn K mainGlobals "reversed"=some none)
  (e416:PySem.W.nsIn K mainGlobals "str"=some none):∃ t,Txt w K mg t:=by
 refine ⟨⟨bz,PySem.W.fnOf "in_bow" "in_bow" (lb bi) (jb bi) (db bi) .none lH UH SF KH Fz OH,zl,PySem.W.fnOf "bows_cross" "bows_cross" (lb Ce) (jb Ce) (db Ce) .none Su ju Dv Ot Dn Jt,bL,PySem.W.fnOf "meet" "meet" (lb Ds) (jb Ds) (db Ds) .none qO lO QO aQ tJ dO,uR,PySem.W.fnOf "gap" "gap" (lb nC) (jb nC) (db nC) .none qT ST OS mT vO pT,yE,PySem.W.fnOf "words" "words" (lb Jj) (jb Jj) (db Jj) .none TK gL yK oK CF QK,Yk,PySem.W.fnOf "is_made_of" "is_made_of" (lb ge) (jb ge) (db ge) .none Hu du xv Xt Um Ev,xn,PySem.W.fnOf "is_number" "is_number" (lb ff) (jb ff) (db ff) .none Ax yx Nw Jw bp Tx,Fu,PySem.W.fnOf "figured" "figured" (lb Ig) (jb Ig) (db Ig) .none ID cE sD aE Hw BD,xu,PySem.W.fnOf "is_name" "is_name" (lb Hg) (jb Hg) (db Hg) .none TD FD xD ND Yv qD,wu,PySem.W.fnOf "readers" "readers" (lb ig) (jb ig) (db ig) .none zD RD tD PD Aw VD,ui,PySem.W.fnOf "until_marked" "until_marked" (lb vd) (jb vd) (db vd) .none Yo Oq Wp Pq Lj cq,oi,PySem.W.fnOf "since_marked" "since_marked" (lb Dd) (jb Dd) (db Dd) .none Mo Zo Bp rq vk zo,ir,PySem.W.fnOf "spans_of" "spans_of" (lb zf) (jb zf) (db zf) .none qA cB jB VA et Hz,Jl,PySem.W.fnOf "free_marks" "free_marks" (lb fe) (jb fe) (db fe) .none fv zu Kt lu Xm bu,ZK,PySem.W.fnOf "lamp" "lamp" (lb Yp) (jb Yp) (db Yp) .none mP WN QP kN kI iN,Km,PySem.W.fnOf "read_size" "read_size" (lb jf) (jb jf) (db jf) .none my iy Px Qx Up Ex,Wm,PySem.W.fnOf "read_span" "read_span" (lb Je) (jb Je) (db Je) .none Sw Ox Zw uy Bo Ow,mn,PySem.W.fnOf "read_plan" "read_plan" (lb lf) (jb lf) (db lf) .none Nx Bx Vw Wx Wq Ux,ei,PySem.W.fnOf "refuse_never" "refuse_never" (lb yd) (jb yd) (db yd) .none ap xq gq aq xk Xp,Xe,PySem.W.fnOf "turns_to_next_begin" "turns_to_next_begin" (lb Ib) (jb Ib) (db Ib) .none Lh Oh Ih Kh Wf Mh,mi,PySem.W.fnOf "refuse_short" "refuse_short" (lb qd) (jb qd) (db qd) .none Gq Oo uq Qp jk Qo,vg,PySem.W.fnOf "refuse_clash_of" "refuse_clash_of" (lb yc) (jb yc) (db yc) .none Ik Xk Ek Jk nh Nk,gi,PySem.W.fnOf "refuse_clash" "refuse_clash" (lb zd) (jb zd) (db zd) .none Ep Mp Ap Ip ak Do,Pm,PySem.W.fnOf "made_plan" "made_plan" (lb Ke) (jb Ke) (db Ke) .none Xx cx gx Rw bq Pw,Cn,PySem.W.fnOf "read_ring" "read_ring" (lb ef) (jb ef) (db ef) .none Hx xx ky ny Np Tw,ph,PySem.W.fnOf "read_new_name" "read_new_name" (lb Ec) (jb Ec) (db Ec) .none Yn ao Fn Sn Ni Qn,cr,PySem.W.fnOf "read_end" "read_end" (lb Sf) (jb Sf) (db Sf) .none iA nz YA dA vt fB,dr,PySem.W.fnOf "made_way" "made_way" (lb Rf) (jb Rf) (db Rf) .none JB QA HB NA Dt Mz,Yq,PySem.W.fnOf "read_way" "read_way" (lb Tf) (jb Tf) (db Tf) .none aA Dz AB Wz Ss CA,Ah,PySem.W.fnOf "read_crossing" "read_crossing" (lb Uc) (jb Uc) (db Uc) .none ko qo Gn so Ki Vn,Im,PySem.W.fnOf "_law_draw" "_law_draw" (lb df) (jb df) (db df) .none ax Yx oy gy Bq Ww,jn,PySem.W.fnOf "_law_rows" "_law_rows" (lb kf) (jb kf) (db kf) .none Zx qx kx Lw Nq Qw,fj,PySem.W.fnOf "_law_beyond" "_law_beyond" (lb de) (jb de) (db de) .none Yr Bs Tr Ks Ql Jr,ur,PySem.W.fnOf "_law_low" "_law_low" (lb Vf) (jb Vf) (db Vf) .none EB yA RB Tz Ys vz,Zh,PySem.W.fnOf "_law_spoiled" "_law_spoiled" (lb ud) (jb ud) (db ud) .none Ko Vp vq No Tj Jp,dl,PySem.W.fnOf "_law_other" "_law_other" (lb Id) (jb Id) (db Id) .none Du Gv wv uu dn Xu,Fk,PySem.W.fnOf "_law_asked" "_law_asked" (lb me) (jb me) (db me) .none Rt iu Lu Zu An Ht,tR,PySem.W.fnOf "law" "law" (lb oA) (jb oA) (db oA) .none BT ES gT WS XN QS,yg,PySem.W.fnOf "__init__" "NoText.__init__" (lb ce) (jb ce) (db ce) .none Qr Fs Ls Kr Pl Ur,jh,PySem.W.fnOf "__init__" "Never.__init__" (lb Fe) (jb Fe) (db Fe) .none yu mv Fv qu Bn eu,gh,PySem.W.fnOf "__init__" "Short.__init__" (lb De) (jb De) (db De) .none Mu Au Nt Pu Jm su,eh,PySem.W.fnOf "__init__" "Clash.__init__" (lb Ee) (jb Ee) (db Ee) .none Kv Uu Zt Ut Vm gu,Nf,PySem.W.fnOf "__init__" "RowReader.__init__" (lb Ic) (jb Ic) (db Ic) .none im ym Yl cm Yh om,Bf,PySem.W.fnOf "ahead" "RowReader.ahead" (lb vc) (jb vc) (db vc) .none Cl Qk Pk Lk yh ol,we,PySem.W.fnOf "has_more" "RowReader.has_more" (lb Tb) (jb Tb) (db Tb) .none Ii xi Ei Di eg Ai,bf,PySem.W.fnOf "refuse" "RowReader.refuse" (lb bc) (jb bc) (db bc) .none Gj ck Bk Yj ah yk,Hf,PySem.W.fnOf "take" "RowReader.take" (lb Gc) (jb Gc) (db Gc) .none gm Dm Bm Em Vh Fm,Qe,PySem.W.fnOf "one_of" "RowReader.one_of" (lb dc) (jb dc) (db dc) .none zj xj Vj gk Zg zk,Le,PySem.W.fnOf "figures" "RowReader.figures" (lb Vb) (jb Vb) (db Vb) .none aj Yi Ti Wi Gg Ri,Ye,PySem.W.fnOf "finish" "RowReader.finish" (lb ac) (jb ac) (db ac) .none fk Uj Ck Kj dh Aj,Bj,PySem.W.fnOf "__init__" "Plan.__init__" (lb gf) (jb gf) (db gf) .none Jx bx Kw mx Zp sy,pj,PySem.W.fnOf "__init__" "Way.__init__" (lb Uf) (jb Uf) (db Uf) .none UB pB GA nA Zs Gz,oh,PySem.W.fnOf "__init__" "CarWay.__init__" (lb Zd) (jb Zd) (db Zd) .none Is ls Wr Hs Nl Cs,Kg,PySem.W.fnOf "ready" "CarWay.ready" (lb Cd) (jb Cd) (db Cd) .none Tp Lq zq Mq Ij Pp,uh,PySem.W.fnOf "fade" "CarWay.fade" (lb ae) (jb ae) (db ae) .none Nr Zr Js As Ul js,Sg,PySem.W.fnOf "__init__" "FootWay.__init__" (lb Bd) (jb Bd) (db Bd) .none Aq Tq Ho Uq Hj Co,kg,PySem.W.fnOf "ready" "FootWay.ready" (lb Wc) (jb Wc) (db Wc) .none Xn Jn oo mo Qi On,Jg,PySem.W.fnOf "fade" "FootWay.fade" (lb Ed) (jb Ed) (db Ed) .none So wq Kq Gp Oj Jq,Pg,PySem.W.fnOf "__init__" "TramWay.__init__" (lb md) (jb md) (db md) .none Ao yp Fp wp rk iq,lg,PySem.W.fnOf "ready" "TramWay.ready" (lb Vc) (jb Vc) (db Vc) .none jo Nn Zn Mn Li io,Rg,PySem.W.fnOf "fade" "TramWay.fade" (lb Ad) (jb Ad) (db Ad) .none Cp jq kq zp Sj Iq,ng,PySem.W.fnOf "__init__" "Crossing.__init__" (lb Xc) (jb Xc) (db Xc) .none Ln Kn Pn Wn Pi bo,Of,PySem.W.fnOf "names" "Crossing.names" (lb uc) (jb uc) (db uc) .none tm fm km zm Th am,vf,PySem.W.fnOf "number" "Crossing.number" (lb wc) (jb wc) (db wc) .none Dl Bl Wk el Ch Kl,rf,PySem.W.fnOf "called" "Crossing.called" (lb xc) (jb xc) (db xc) .none gl Fl Al Vk rh Rk,Bb,Xd,Cg,Qb,Gb,Jb,Eb,Mc,Lb,qc,Xb,Ub,.str (Str.ofString "0123456789") LD,.int 2 Hq,.str (Str.ofString "abcdefghijklmnopqrstuvwxyz") yD,.int 3 Ro,.int 60 bv,.int 8 Xo,.int 30 Uw,.int 30 oB,.int 99 Vr,.int 240 Vx,.int 3 Bv,.int 12 Iw⟩,?_⟩
 exact ⟨ub (st:=bi) e384 e381 e349,
  (ub (st:=bi) e384 e381 e349).binds fun _ _ _ _ _ _ us hl=>match us,hl with | [_,_,_],_=>rfl,
  PySem.W.mg_of X G e424,
  e349,
  ub (st:=Ce) e228 e237 e131,
  (ub (st:=Ce) e228 e237 e131).binds fun _ _ _ _ _ _ us hl=>match us,hl with | [_,_,_],_=>rfl,
  PySem.W.mg_of X G e321,
  e131,
  ub (st:=Ds) e435 e430 e414,
  (ub (st:=Ds) e435 e430 e414).binds fun _ _ _ _ _ _ us hl=>match us,hl with | [_,_,_],_=>rfl,
  PySem.W.mg_of X G e458,
  e414,
  ub (st:=nC) e466 e469 e454,
  (ub (st:=nC) e466 e469 e454).binds fun _ _ _ _ _ _ us hl=>match us,hl with | [_,_,_],_=>rfl,
  PySem.W.mg_of X G e470,
  e454,
  ub (st:=Jj) e406 e403 e380,
  (ub (st:=Jj) e406 e403 e380).binds fun _ _ _ _ _ _ us hl=>match us,hl with | [_],_=>rfl,
  PySem.W.mg_of X G e437,
  e380,
  ub (st:=ge) e231 e235 e171,
  (ub (st:=ge) e231 e235 e171).binds fun _ _ _ _ _ _ us hl=>match us,hl with | [_,_,_],_=>rfl,
  PySem.W.mg_of X G e306,
  e171,
  ub (st:=ff) e281 e277 e211,
  (ub (st:=ff) e281 e277 e211).binds fun _ _ _ _ _ _ us hl=>match us,hl with | [_,_],_=>rfl,
  PySem.W.mg_of X G e333,
  e211,
  ub (st:=Ig) e352 e354 e300,
  (ub (st:=Ig) e352 e354 e300).binds fun _ _ _ _ _ _ us hl=>match us,hl with | [_,_,_],_=>rfl,
  PySem.W.mg_of X G e391,
  e300,
  ub (st:=Hg) e357 e358 e299,
  (ub (st:=Hg) e357 e358 e299).binds fun _ _ _ _ _ _ us hl=>match us,hl with | [_],_=>rfl,
  PySem.W.mg_of X G e396,
  e299,
  ub (st:=ig) e353 e359 e298,
  (ub (st:=ig) e353 e359 e298).binds fun _ _ _ _ _ _ us hl=>match us,hl with | [_],_=>rfl,
  PySem.W.mg_of X G e400,
  e298,
  ub (st:=vd) e172 e132 e85,
  (ub (st:=vd) e172 e132 e85).binds fun _ _ _ _ _ _ us hl=>match us,hl with | [_],_=>rfl,
  PySem.W.mg_of X G e258,
  e85,
  ub (st:=Dd) e160 e147 e82,
  (ub (st:=Dd) e160 e147 e82).binds fun _ _ _ _ _ _ us hl=>match us,hl with | [_],_=>rfl,
  PySem.W.mg_of X G e263,
  e82,
  ub (st:=zf) e302 e318 e260,
  (ub (st:=zf) e302 e318 e260).binds fun _ _ _ _ _ _ us hl=>match us,hl with | [_,_],_=>rfl,
  PySem.W.mg_of X G e376,
  e260,
  ub (st:=fe) e243 e233 e137,
  (ub (st:=fe) e243 e233 e137).binds fun _ _ _ _ _ _ us hl=>match us,hl with | [_,_,_],_=>rfl,
  PySem.W.mg_of X G e323,
  e137,
  ub (st:=Yp) e444 e443 e418,
  (ub (st:=Yp) e444 e443 e418).binds fun _ _ _ _ _ _ us hl=>match us,hl with | [_,_,_],_=>rfl,
  PySem.W.mg_of X G e459,
  e418,
  ub (st:=jf) e269 e272 e213,
  (ub (st:=jf) e269 e272 e213).binds fun _ _ _ _ _ _ us hl=>match us,hl with | [_],_=>rfl,
  PySem.W.mg_of X G e338,
  e213,
  ub (st:=Je) e286 e276 e203,
  (ub (st:=Je) e286 e276 e203).binds fun _ _ _ _ _ _ us hl=>match us,hl with | [_,_,_,_],_=>rfl,
  PySem.W.mg_of X G e328,
  e203,
  ub (st:=lf) e280 e282 e214,
  (ub (st:=lf) e280 e282 e214).binds fun _ _ _ _ _ _ us hl=>match us,hl with | [_,_],_=>rfl,
  PySem.W.mg_of X G e335,
  e214,
  ub (st:=yd) e165 e148 e77,
  (ub (st:=yd) e165 e148 e77).binds fun _ _ _ _ _ _ us hl=>match us,hl with | [_,_],_=>rfl,
  PySem.W.mg_of X G e261,
  e77,
  ub (st:=Ib) e24 e25 e11,
  (ub (st:=Ib) e24 e25 e11).binds fun _ _ _ _ _ _ us hl=>match us,hl with | [_,_,_],_=>rfl,
  PySem.W.mg_of X G e56,
  e11,
  ub (st:=qd) e128 e170 e80,
  (ub (st:=qd) e128 e170 e80).binds fun _ _ _ _ _ _ us hl=>match us,hl with | [_,_,_],_=>rfl,
  PySem.W.mg_of X G e257,
  e80,
  ub (st:=yc) e67 e57 e28,
  (ub (st:=yc) e67 e57 e28).binds fun _ _ _ _ _ _ us hl=>match us,hl with | [_,_,_,_,_],_=>rfl,
  PySem.W.mg_of X G e141,
  e28,
  ub (st:=zd) e166 e143 e73,
  (ub (st:=zd) e166 e143 e73).binds fun _ _ _ _ _ _ us hl=>match us,hl with | [_,_,_],_=>rfl,
  PySem.W.mg_of X G e255,
  e73,
  ub (st:=Ke) e270 e273 e215,
  (ub (st:=Ke) e270 e273 e215).binds fun _ _ _ _ _ _ us hl=>match us,hl with | [_,_,_],_=>rfl,
  PySem.W.mg_of X G e348,
  e215,
  ub (st:=ef) e279 e284 e212,
  (ub (st:=ef) e279 e284 e212).binds fun _ _ _ _ _ _ us hl=>match us,hl with | [_],_=>rfl,
  PySem.W.mg_of X G e343,
  e212,
  ub (st:=Ec) e117 e114 e45,
  (ub (st:=Ec) e117 e114 e45).binds fun _ _ _ _ _ _ us hl=>match us,hl with | [_,_],_=>rfl,
  PySem.W.mg_of X G e223,
  e45,
  ub (st:=Sf) e307 e312 e266,
  (ub (st:=Sf) e307 e312 e266).binds fun _ _ _ _ _ _ us hl=>match us,hl with | [_,_,_],_=>rfl,
  PySem.W.mg_of X G e361,
  e266,
  ub (st:=Rf) e319 e313 e251,
  (ub (st:=Rf) e319 e313 e251).binds fun _ _ _ _ _ _ us hl=>match us,hl with | [_,_,_,_,_,_,_],_=>rfl,
  PySem.W.mg_of X G e364,
  e251,
  ub (st:=Tf) e315 e310 e259,
  (ub (st:=Tf) e315 e310 e259).binds fun _ _ _ _ _ _ us hl=>match us,hl with | [_,_,_],_=>rfl,
  PySem.W.mg_of X G e371,
  e259,
  ub (st:=Uc) e112 e122 e49,
  (ub (st:=Uc) e112 e122 e49).binds fun _ _ _ _ _ _ us hl=>match us,hl with | [_],_=>rfl,
  PySem.W.mg_of X G e219,
  e49,
  ub (st:=df) e283 e288 e205,
  (ub (st:=df) e283 e288 e205).binds fun _ _ _ _ _ _ us hl=>match us,hl with | [_,_,_],_=>rfl,
  PySem.W.mg_of X G e340,
  e205,
  ub (st:=kf) e275 e271 e210,
  (ub (st:=kf) e275 e271 e210).binds fun _ _ _ _ _ _ us hl=>match us,hl with | [_],_=>rfl,
  PySem.W.mg_of X G e337,
  e210,
  ub (st:=de) e193 e181 e106,
  (ub (st:=de) e193 e181 e106).binds fun _ _ _ _ _ _ us hl=>match us,hl with | [_,_,_],_=>rfl,
  PySem.W.mg_of X G e292,
  e106,
  ub (st:=Vf) e324 e309 e246,
  (ub (st:=Vf) e324 e309 e246).binds fun _ _ _ _ _ _ us hl=>match us,hl with | [_,_,_],_=>rfl,
  PySem.W.mg_of X G e375,
  e246,
  ub (st:=ud) e135 e145 e81,
  (ub (st:=ud) e135 e145 e81).binds fun _ _ _ _ _ _ us hl=>match us,hl with | [_,_],_=>rfl,
  PySem.W.mg_of X G e265,
  e81,
  ub (st:=Id) e239 e230 e133,
  (ub (st:=Id) e239 e230 e133).binds fun _ _ _ _ _ _ us hl=>match us,hl with | [_,_],_=>rfl,
  PySem.W.mg_of X G e308,
  e133,
  ub (st:=me) e238 e236 e127,
  (ub (st:=me) e238 e236 e127).binds fun _ _ _ _ _ _ us hl=>match us,hl with | [_,_],_=>rfl,
  PySem.W.mg_of X G e322,
  e127,
  ub (st:=oA) e468 e467 e456,
  (ub (st:=oA) e468 e467 e456).binds fun _ _ _ _ _ _ us hl=>match us,hl with | [_],_=>rfl,
  PySem.W.mg_of X G e474,
  e456,
  ub (st:=ce) e188 e199 e192,
  (ub (st:=ce) e188 e199 e192).binds fun _ _ _ _ _ _ us hl=>match us,hl with | [_,_,_],_=>rfl,
  ub (st:=Fe) e242 e241 e225,
  (ub (st:=Fe) e242 e241 e225).binds fun _ _ _ _ _ _ us hl=>match us,hl with | [_,_],_=>rfl,
  ub (st:=De) e224 e232 e227,
  (ub (st:=De) e224 e232 e227).binds fun _ _ _ _ _ _ us hl=>match us,hl with | [_,_,_],_=>rfl,
  ub (st:=Ee) e234 e226 e240,
  (ub (st:=Ee) e234 e226 e240).binds fun _ _ _ _ _ _ us hl=>match us,hl with | [_,_,_,_],_=>rfl,
  ub (st:=Ic) e92 e89 e87,
  (ub (st:=Ic) e92 e89 e87).binds fun _ _ _ _ _ _ us hl=>match us,hl with | [_,_,_],_=>rfl,
  ub (st:=vc) e62 e60 e31,
  (ub (st:=vc) e62 e60 e31).binds fun _ _ _ _ _ _ us hl=>match us,hl with | [_],_=>rfl,
  ub (st:=Tb) e29 e30 e13,
  (ub (st:=Tb) e29 e30 e13).binds fun _ _ _ _ _ _ us hl=>match us,hl with | [_],_=>rfl,
  ub (st:=bc) e42 e41 e23,
  (ub (st:=bc) e42 e41 e23).binds fun _ _ _ _ _ _ us hl=>match us,hl with | [_],_=>rfl,
  ub (st:=Gc) e93 e88 e36,
  (ub (st:=Gc) e93 e88 e36).binds fun _ _ _ _ _ _ us hl=>match us,hl with | [_,_],_=>rfl,
  ub (st:=dc) e44 e40 e20,
  (ub (st:=dc) e44 e40 e20).binds fun _ _ _ _ _ _ us hl=>match us,hl with | [_,_],_=>rfl,
  ub (st:=Vb) e34 e35 e16,
  (ub (st:=Vb) e34 e35 e16).binds fun _ _ _ _ _ _ us hl=>match us,hl with | [_,_,_],_=>rfl,
  ub (st:=ac) e39 e43 e22,
  (ub (st:=ac) e39 e43 e22).binds fun _ _ _ _ _ _ us hl=>match us,hl with | [_],_=>rfl,
  ub (st:=gf) e285 e287 e274,
  (ub (st:=gf) e285 e287 e274).binds fun _ _ _ _ _ _ us hl=>match us,hl with | [_,_,_,_],_=>rfl,
  ub (st:=Uf) e304 e317 e267,
  (ub (st:=Uf) e304 e317 e267).binds fun _ _ _ _ _ _ us hl=>match us,hl with | [_,_,_,_,_,_,_,_],_=>rfl,
  ub (st:=Zd) e191 e195 e189,
  (ub (st:=Zd) e191 e195 e189).binds fun _ _ _ _ _ _ us hl=>match us,hl with | [_,_,_,_,_,_,_],_=>rfl,
  ub (st:=Cd) e144 e169 e83,
  (ub (st:=Cd) e144 e169 e83).binds fun _ _ _ _ _ _ us hl=>match us,hl with | [_],_=>rfl,
  ub (st:=ae) e183 e186 e98,
  (ub (st:=ae) e183 e186 e98).binds fun _ _ _ _ _ _ us hl=>match us,hl with | [_],_=>rfl,
  ub (st:=Bd) e130 e154 e152,
  (ub (st:=Bd) e130 e154 e152).binds fun _ _ _ _ _ _ us hl=>match us,hl with | [_,_,_,_,_,_,_],_=>rfl,
  ub (st:=Wc) e120 e121 e52,
  (ub (st:=Wc) e120 e121 e52).binds fun _ _ _ _ _ _ us hl=>match us,hl with | [_],_=>rfl,
  ub (st:=Ed) e138 e134 e76,
  (ub (st:=Ed) e138 e134 e76).binds fun _ _ _ _ _ _ us hl=>match us,hl with | [_],_=>rfl,
  ub (st:=md) e150 e139 e173,
  (ub (st:=md) e150 e139 e173).binds fun _ _ _ _ _ _ us hl=>match us,hl with | [_,_,_,_,_,_,_],_=>rfl,
  ub (st:=Vc) e115 e113 e46,
  (ub (st:=Vc) e115 e113 e46).binds fun _ _ _ _ _ _ us hl=>match us,hl with | [_],_=>rfl,
  ub (st:=Ad) e142 e159 e70,
  (ub (st:=Ad) e142 e159 e70).binds fun _ _ _ _ _ _ us hl=>match us,hl with | [_],_=>rfl,
  ub (st:=Xc) e116 e111 e118,
  (ub (st:=Xc) e116 e111 e118).binds fun _ _ _ _ _ _ us hl=>match us,hl with | [_,_,_],_=>rfl,
  ub (st:=uc) e91 e90 e37,
  (ub (st:=uc) e91 e90 e37).binds fun _ _ _ _ _ _ us hl=>match us,hl with | [_],_=>rfl,
  ub (st:=wc) e66 e58 e33,
  (ub (st:=wc) e66 e58 e33).binds fun _ _ _ _ _ _ us hl=>match us,hl with | [_,_],_=>rfl,
  ub (st:=xc) e64 e61 e32,
  (ub (st:=xc) e64 e61 e32).binds fun _ _ _ _ _ _ us hl=>match us,hl with | [_,_],_=>rfl,
  PySem.W.mg_of X G e331,
  ⟨e334,e350,e344,e332⟩,
  ⟨e336,e180,e218,e326⟩,
  ⟨e140,e179,e31⟩,
  ⟨e68,e96,e13⟩,
  ⟨e126,e129,e23⟩,
  ⟨e176,e216,e36⟩,
  ⟨e124,e155,e20⟩,
  ⟨e97,e123,e16⟩,
  ⟨e125,e156,e22⟩,
  e27,
  e19,
  e10,
  PySem.W.mg_of X G e464,
  ⟨e463,e465,e462,e461⟩,
  ⟨e457,e346,e367,e460⟩,
  e47,
  e208,
  e157,
  e94,
  e54,
  PySem.W.mg_of X G e472,
  ⟨e476,e475,e479,e478⟩,
  e305,
  e325,
  e289,
  e355,
  e356,
  e314,
  e278,
  PySem.W.mg_of X G e411,
  ⟨e408,e419,e413,e417⟩,
  ⟨e420,e294,e320,e410⟩,
  ⟨e249,e297,e83⟩,
  ⟨e295,e303,e98⟩,
  e107,
  e108,
  e86,
  e167,
  e151,
  e109,
  e78,
  PySem.W.mg_of X G e386,
  ⟨e390,e397,e394,e393⟩,
  ⟨e388,e250,e291,e389⟩,
  ⟨e221,e256,e52⟩,
  ⟨e254,e290,e76⟩,
  e69,
  e84,
  e53,
  e100,
  e110,
  e71,
  e51,
  PySem.W.mg_of X G e395,
  ⟨e387,e392,e385,e398⟩,
  ⟨e399,e244,e296,e401⟩,
  ⟨e220,e247,e46⟩,
  ⟨e264,e293,e70⟩,
  e75,
  e74,
  e48,
  e102,
  e105,
  e72,
  e50,
  PySem.W.mg_of X G e363,
  ⟨e374,e370,e366,e372⟩,
  ⟨e362,e217,e252,e373⟩,
  ⟨e177,e222,e37⟩,
  ⟨e149,e174,e33⟩,
  ⟨e162,e175,e32⟩,
  e14,
  e26,
  e12,
  PySem.W.mg_of X G e351,
  ⟨e330,e327,e339⟩,
  PySem.W.mg_of X G e415,
  ⟨e425,e421,e412,e423,e409,_,e379⟩,
  ⟨e379,beq_iff_eq.mp e316,e422⟩,
  e95,
  e55,
  e21,
  e119,
  e153,
  e136,
  e158,
  PySem.W.mg_of X G e445,
  ⟨e429,e438,e452,e428,e451,_,e402⟩,
  ⟨e402,beq_iff_eq.mp e341,e441⟩,
  e206,
  e59,
  e161,
  e198,
  e197,
  e194,
  PySem.W.mg_of X G e439,
  ⟨e440,e442,e448,e446,e436,_,e405⟩,
  ⟨e405,beq_iff_eq.mp e347,e447⟩,
  e204,
  e245,
  e65,
  e168,
  e182,
  e184,
  e196,
  PySem.W.mg_of X G e450,
  ⟨e432,e427,e431,e433,e449,_,e404⟩,
  ⟨e404,beq_iff_eq.mp e342,e434⟩,
  e209,
  e104,
  e262,
  e63,
  e164,
  e187,
  e201,
  e185,
  e229,
  e200,
  e190,
  e18,
  e17,
  e15,
  ⟨e365,e369,e368,e267⟩,
  PySem.W.mg_of X G e329,
  ⟨_,rfl⟩,
  PySem.W.mg_of X G e99,
  ⟨_,rfl⟩,
  PySem.W.mg_of X G e345,
  ⟨_,rfl⟩,
  PySem.W.mg_of X G e103,
  ⟨_,rfl⟩,
  PySem.W.mg_of X G e207,
  ⟨_,rfl⟩,
  PySem.W.mg_of X G e101,
  ⟨_,rfl⟩,
  PySem.W.mg_of X G e248,
  ⟨_,rfl⟩,
  PySem.W.mg_of X G e301,
  ⟨_,rfl⟩,
  PySem.W.mg_of X G e163,
  ⟨_,rfl⟩,
  PySem.W.mg_of X G e253,
  ⟨_,rfl⟩,
  PySem.W.mg_of X G e202,
  ⟨_,rfl⟩,
  PySem.W.mg_of X G e268,
  ⟨_,rfl⟩,
  PySem.W.mg_none_of X G e471,
  PySem.W.mg_none_of X G e453,
  PySem.W.mg_none_of X G e38,
  PySem.W.mg_none_of X G e455,
  PySem.W.mg_none_of X G e79,
  PySem.W.mg_none_of X G e311,
  PySem.W.mg_none_of X G e378,
  PySem.W.mg_none_of X G e473,
  PySem.W.mg_none_of X G e477,
  PySem.W.mg_none_of X G e146,
  PySem.W.mg_none_of X G e178,
  PySem.W.mg_none_of X G e416,
  fun _ _=>.of_eq rfl⟩
def ss (ns:List Int) (k m:Int):Int:=
 ((((if 0 < (ns.length:Int) then ns.getD (k % (ns.length:Int)).toNat 0 else 0) % 1000003 + 31 * k * k + 1) * 48271 % 999983 * 7919) % 524287) % m
theorem wk (ns:List Int) (k:Int) {m:Int} (h:0 < m):0 ≤ ss ns k m:=Int.emod_nonneg _ (by omega)
theorem nk (ns:List Int) (k:Int) {m:Int} (h:0 < m):ss ns k m < m:=Int.emod_lt_of_pos _ h
def rg (K:PySem.W.Frag) (a:Addr) (ns:List Int):Sp:=fun vs H Q _=>∃ k m,vs=[.ref a,.int k,.int m]∧Sc K a ns H∧(0 ≤ k∧k < 1000000)∧0 < m∧Q (.int (ss ns k m)) H
section
variable {P:Program} {w:World} {K:PySem.W.Frag} {mg:Str→Option Value} {base:Heap} {t:Adr}
theorem JE (T:Txt w K mg t) (a:Addr) (ns:List Int) (h63:ns.length ≤ 63):Nb P w K mg base CX0 1 t.ug t.bh ["_law_script","_law_k","_law_many"] (rg K a ns):=by
 refine T.aJ.ok Io (fun vs H Q E h=>?_) (fun cdv A outer s H vs Q E hr h=>?_)
 ·obtain ⟨k,m,rfl,_⟩:=h;rfl
 obtain ⟨k,m,rfl,S,⟨h0,h1⟩,hm,q⟩:=h
 refine ⟨_,(gb (Pb (i:=3) Io.nd rfl (Or.inl rfl) (rK (fc DN (pe Qc rfl T.e311 Vd (cb (pv 0) ib)) Ab (Bc _)) (Xg ke (pv 0) (Yc ik (pv 1) (pe Qc rfl T.e311 Vd (cb (pv 0) ib))) (fun _ _=>rfl)) Ab))
   (gb (Pb (i:=4) Io.nd rfl (Or.inl rfl) (Yc xh (Yc xh (Yc ik (pv 3) Ab) (Yc Fx (Yc Fx Ab (pv 1)) (pv 1))) Ab))
   (qb (Rb (Yc ik (Yc ik (Yc Fx (Yc ik (Yc Fx (pv 4) Ab) Ab) Ab) Ab) (pv 2)))))),?_⟩
 (walk_at "RD")
 refine ⟨_,.inl S.seq,?_⟩
 rw [List.length_map]
 have hkk:(0:Int) ≤ k * k∧k * k < 1000000 * 1000000:=⟨Int.mul_nonneg h0 h0,Int.mul_lt_mul' (by omega) h1 h0 (by decide)⟩
 have fin:∀ i:Int,(0:Int) < 1000003∧cQ 31 k∧cQ (31 * k) k∧cQ (i % 1000003 + 31 * k * k + 1) 48271∧(0:Int) < 999983∧cQ ((i % 1000003 + 31 * k * k + 1) * 48271 % 999983) 7919∧(0:Int) < 524287∧0 < m:=by
  intro i
  refine ⟨by decide,.inl (by decide),.inr (by omega),.inr (by decide),by decide,.inr (by decide),by decide,hm⟩
 by_cases c:(0:Int) < (ns.length:Int)
 ·rw [if_pos (decide_eq_true c)]
  have hk:0 ≤ k % (ns.length:Int)∧k % (ns.length:Int) < (ns.length:Int):=⟨Int.emod_nonneg _ (by omega),Int.emod_lt_of_pos _ c⟩
  refine ⟨_,.inl S.seq,by rw [List.length_map];exact c,_,S.seq,?_⟩
  rw [List.length_map]
  have hj:(k % (ns.length:Int)).toNat < ns.length:=by omega
  refine ⟨.int ns[(k % (ns.length:Int)).toNat],?_,_,rfl,?_⟩
  ·have e:=Me (xs:=ns.map V.int) (j:=(k % (ns.length:Int)).toNat) (v:=.int ns[(k % (ns.length:Int)).toNat]) (by rw [List.getElem?_map,List.getElem?_eq_getElem hj] <;> rfl)
   rwa [Int.toNat_of_nonneg hk.1] at e
  ·obtain ⟨f1,f2,f3,f4,f5,f6,f7,f8⟩:=fin ns[(k % (ns.length:Int)).toNat]
   refine ⟨f1,f2,f3,f4,f5,f6,f7,f8,?_⟩
   have e:ss ns k m=(((ns[(k % (ns.length:Int)).toNat] % 1000003 + 31 * k * k + 1) * 48271 % 999983 * 7919) % 524287) % m:=by
    unfold ss
    rw [if_pos c,List.getD_eq_getElem?_getD,List.getElem?_eq_getElem hj]
    rfl
   rw [← e];exact q
 ·rw [if_neg (by simpa using c)]
  obtain ⟨f1,f2,f3,f4,f5,f6,f7,f8⟩:=fin 0
  refine ⟨f1,f2,f3,f4,f5,f6,f7,f8,?_⟩
  have e:ss ns k m=(((0 % 1000003 + 31 * k * k + 1) * 48271 % 999983 * 7919) % 524287) % m:=by
   unfold ss
   rw [if_neg c]
  rw [← e];exact q
end
theorem WZ {w:Str}:w=Str.ofString "" ↔ w.length=0:=by
 constructor
 ·rintro rfl;decide +kernel
 ·intro h
  have e:w.cps=#[]:=Array.eq_empty_of_size_eq_zero h
  have e2:(Str.ofString "").cps=#[]:=by decide +kernel
  cases w
  cases h2:Str.ofString ""
  rw [h2] at e2
  simp only at e e2
  rw [e,e2]
def inL (sg:Str) (c:Nat):Bool:=!(Builtin.Str.occurrences sg (jX c) 0 sg.length 1).isEmpty
theorem zQ (sg:Str) (c:Nat):inL sg c=decide (c ∈ sg.cps.toList):=StrLaws.found_one sg c
def made (w sg:Str) (m:Int):Bool:=if w=Str.ofString "" then false else if m < (w.length:Int) then false else w.cps.toList.all (inL sg)
def lA:Sp:=fun vs H Q _=>∃ w sg m,vs=[.str w,.str sg,.int m]∧w.length ≤ 1000∧NoT H∧Q (.bl (made w sg m)) H
def VQ:Sp:=fun vs H Q _=>∃ w sg m,vs=[.str w,.str sg,.int m]∧w.length ≤ 1000∧∀ H',Ac H H'→Q (.bl (made w sg m)) H'
section
variable {P:Program} {w:World} {K:PySem.W.Frag} {mg:Str→Option Value} {base:Heap} {t:Adr}
theorem tP (T:Txt w K mg t):Nb P w K mg base CX0 1 t.lh t.Fi ["word","signs","most"] lA:=by
 refine Nb.forget (sp:=VQ) ?_ fun vs H Q E h=>?_
 ·refine T.oH.ok BE (fun vs H Q E h=>?_) (fun cdv A outer s H vs Q E hr h=>?_)
  ·obtain ⟨w,sg,m,rfl,_⟩:=h;rfl
  obtain ⟨w,sg,m,rfl,hz,q⟩:=h
  have hz':w.length ≤ sizeLine:=Nat.le_trans hz (by decide)
  refine ⟨_,(gb (Xf (PW.pt (NM (fc Fj (pv 0) Yb (Bc _)) (OD (fc DN (pe kH rfl T.e311 Vd (cb (pv 0) ib)) (pv 2) (Bc _))))) (qb (Rb BJ)) zc)
   (qb (Rb (pe (cR rfl) rfl T.e471 uM (cb (yn rfl (VX (pv 0)) (ue (sc:=db ge) rfl (by decide +kernel)) (N:=["sign","signs"]) (sel:=[none,some 1]) (qf (M:=["word","signs","most"]) (by decide +kernel)) (Blk.of (fun _ _ _ _=>(Kb (i:=0) (vj (N:=["sign","signs"]) (by decide +kernel) rfl) rfl (Or.inl rfl))) (fun _ _ _ _=>⟨_,Mi,by first | rfl | (dsimp only [Cx.block];done) | (dsimp only [Cx.block];exact rfl)⟩) (fun _ _ _ _=>⟨_,(qh pO (pv 0) (pv 1) (by with_unfolding_all rfl)),by first | rfl | (dsimp only [Cx.block];done) | (dsimp only [Cx.block];exact rfl)⟩))) ib))))),?_⟩
  (walk_at "RD")
  refine Cc (decide (w=Str.ofString "") || decide (m < (w.length:Int))) (fun Q hQ=>?_) (fun hb=>?_) (fun hb=>?_)
  ·(walk_at "RD")
   by_cases c:w=Str.ofString ""
   ·rw [if_pos (decide_eq_true c)]
    rw [decide_eq_true c,Bool.true_or] at hQ
    exact hQ
   ·rw [if_neg (by simpa using c)]
    rw [decide_eq_false c,Bool.false_or] at hQ
    exact ⟨hz',hQ⟩
  ·(walk_at "RD")
   have e:made w sg m=false:=by
    unfold made
    simp only [Bool.or_eq_true,decide_eq_true_eq] at hb
    by_cases c:w=Str.ofString ""
    ·rw [if_pos c]
    ·rw [if_neg c,if_pos (hb.resolve_left c)]
   have:=q H (Ac.refl H)
   rw [e] at this
   exact this
  ·(walk_at "RD")
   have e:made w sg m=w.cps.toList.all (inL sg):=by
    unfold made
    simp only [Bool.or_eq_false_iff,decide_eq_false_iff_not] at hb
    rw [if_neg hb.1,if_neg hb.2]
   refine yf.its_map (fun x=>match x with | .str y=>.bl (!(Builtin.Str.occurrences sg y 0 sg.length 1).isEmpty) | _=>.non) (by rw [Gu];exact hz') (fun i x N hx hN=>?_) (fun p hp=>?_)
   ·unfold uo at hx
    rw [List.getElem?_map] at hx
    cases hc:w.cps.toList[i]? with
    | none=>rw [hc] at hx;cases hx
    | some c=>
     rw [hc] at hx
     have hx':V.str (jX c)=x:=Option.some.inj hx
     subst hx'
     (walk_at "RD")
     exact ⟨Sub.name,hN⟩
   ·refine ⟨p,rfl,w.cps.toList.map (inL sg),SqL.of ?_,?_⟩
    ·rw [fb]
     unfold uo
     rw [List.map_map,List.map_map]
     rfl
    ·have:=q (upd H p (.lst (List.map (fun x=>match x with | .str y=>.bl (!(Builtin.Str.occurrences sg y 0 sg.length 1).isEmpty) | _=>.non) (uo w)))) (pb hp)
     rw [e] at this
     rw [List.all_map]
     exact this
 ·obtain ⟨w,sg,m,e,hz,nt,q⟩:=h
  exact ⟨nt,w,sg,m,e,hz,fun H' sm=>⟨sm,q⟩⟩
end
abbrev wV:Str:=Str.ofString "0123456789"
def Qy (c:Nat):Bool:=decide (48 ≤ c∧c ≤ 57)
theorem CO:wV.cps.toList=[48,49,50,51,52,53,54,55,56,57]:=by decide +kernel
theorem NQ (c:Nat):inL wV c=Qy c:=by
 rw [zQ,CO]
 unfold Qy
 rw [Bool.eq_iff_iff]
 simp only [decide_eq_true_eq,List.mem_cons,List.not_mem_nil,or_false]
 omega
abbrev cs (w:Str):List Nat:=w.cps.toList
theorem bE (w:Str):(cs w).length=w.length:=by simp [cs,Str.length]
def okB (w:Str):Bool:=decide (1 ≤ (cs w).length) && decide ((cs w).length ≤ 3) && (cs w).all Qy && (decide ((cs w).length ≤ 1) || decide ((cs w).headD 0 ≠ 48))
abbrev val (w:Str):Int:=((NumText.digitsVal (cs w):Nat):Int)
def gB (w:Str) (lo hi:Int):V:=if okB w && !(decide (val w < lo) || decide (hi < val w)) then .int (val w) else .non
theorem AN {w:Str} {c:Nat}:w=⟨#[c]⟩↔cs w=[c]:=by
 constructor
 ·rintro rfl;rfl
 ·intro h
  cases w with
  | mk a=>
   have e:a=#[c]:=Array.toList_inj.mp h
   rw [e]
theorem MJ:Str.ofString "0"=⟨#[48]⟩:=by decide +kernel
theorem OF (w:Str):made w wV 3=(decide (1 ≤ (cs w).length) && decide ((cs w).length ≤ 3) && (cs w).all Qy):=by
 unfold made
 have e:(inL wV)=Qy:=funext NQ
 rw [e]
 by_cases h1:w=Str.ofString ""
 ·have h2:=WZ.mp h1
  rw [if_pos h1,bE,h2];rfl
 ·have h2:¬ w.length=0:=fun z=>h1 (WZ.mpr z)
  rw [if_neg h1,bE]
  by_cases h3:(3:Int) < (w.length:Int)
  ·rw [if_pos h3,decide_eq_false (show ¬ w.length ≤ 3 by omega),Bool.and_false,Bool.false_and]
  ·rw [if_neg h3,decide_eq_true (show 1 ≤ w.length by omega),decide_eq_true (show w.length ≤ 3 by omega)];rfl
theorem Iv {l:List Nat} (h:l.all Qy=true):NumText.AllDigits l:=fun c hc=>by
 have:=List.all_eq_true.mp h c hc
 simpa [Qy] using this
theorem MP {w:Str} (h:okB w=true):(1 ≤ (cs w).length∧(cs w).length ≤ 3)∧(cs w).all Qy=true:=by
 unfold okB at h
 simp only [Bool.and_eq_true,decide_eq_true_eq] at h
 exact h.1
def zP:Sp:=fun vs H Q _=>∃ w,vs=[.str w,.int 3]∧w.length ≤ 1000∧NoT H∧Q (.bl (okB w)) H
def VN:Sp:=fun vs H Q _=>∃ w lo hi,vs=[.str w,.int lo,.int hi]∧w.length ≤ 1000∧NoT H∧Q (gB w lo hi) H
section
variable {P:Program} {w:World} {K:PySem.W.Frag} {mg:Str→Option Value} {base:Heap} {t:Adr}
theorem XY (T:Txt w K mg t):Nb P w K mg base CX0 2 t.uj t.Zm ["word","most_figures"] zP:=by
 have G_is_made_of:Nb P w K mg base CX0 1 t.lh t.Fi ["word","signs","most"] lA:=tP T
 refine T.MI.ok mG (fun vs H Q E h=>?_) (fun cdv A outer s H vs Q E hr h=>?_)
 ·obtain ⟨w,rfl,_⟩:=h;rfl
 obtain ⟨w,rfl,hz,nt,q⟩:=h
 have hz':w.length ≤ sizeLine:=Nat.le_trans hz (by decide)
 refine ⟨_,(gb (Xf (KB (vp (Fb G_is_made_of hr rfl T.zx T.ix T.ux .nil Ob (cb (pv 0) (cb (Uh rfl T.e329 T.MN) (cb (pv 1) ib)))))) (qb (Rb BJ)) zc)
   (qb (Rb (SX (qh Fj (pv 0) Yb (Bc _)) (iL (qh EN (Xg QW (pv 0) Ab (fun _ _=>rfl)) Yb (Bc _))))))),?_⟩
 refine Cc (!made w wV 3) (fun Q hQ=>?_) (fun hb=>?_) (fun hb=>?_)
 ·(walk_at "RD"; repeat (simp only [lA];walk_at "RD"))
  exact ⟨hz,nt,hQ⟩
 ·(walk_at "RD")
  have e:okB w=false:=by
   have hb':made w wV 3=false:=by simpa using hb
   rw [OF] at hb'
   unfold okB
   rw [hb'];rfl
  rw [e] at q
  exact q
 ·have hb':made w wV 3=true:=by simpa using hb
  rw [OF] at hb'
  rw [ez]
  dsimp only
  refine lV (.bl (okB w)) (fun Q hQ=>?_) ?_
  case refine_2=>exact q
  (walk_at "RD")
  have hb2:(1 ≤ (cs w).length∧(cs w).length ≤ 3)∧(cs w).all Qy=true:=by
   simpa only [Bool.and_eq_true,decide_eq_true_eq] using hb'
  obtain ⟨c,r,hcr⟩:∃ c r,cs w=c :: r:=by
   cases h:cs w with
   | nil=>rw [h] at hb2;exact absurd hb2.1.1 (by decide)
   | cons c r=>exact ⟨c,r,rfl⟩
  have ok:okB w=(decide ((cs w).length ≤ 1) || decide ((cs w).headD 0 ≠ 48)):=by
   unfold okB
   rw [hb',Bool.true_and]
  by_cases c0:w=Str.ofString "0"
  ·rw [if_pos (decide_eq_true c0)]
   have e:cs w=[48]:=by rw [c0,MJ]
   rw [ok,e] at hQ
   exact hQ
  ·rw [if_neg (by simpa using c0)]
   refine ⟨hz',c,?_,?_⟩
   ·have:=Me (xs:=cs w) (j:=0) (v:=c) (by rw [hcr];rfl)
    exact this
   ·have e2:decide ((⟨#[c]⟩:Str)=Str.ofString "0")=decide (c=48):=by
     rw [MJ]
     by_cases h48:c=48
     ·rw [h48];simp
     ·rw [decide_eq_false h48,decide_eq_false]
      intro z
      have z2:=AN.mp z
      exact h48 (List.cons.inj z2).1
    rw [e2]
    have e3:okB w = !decide (c=48):=by
     rw [ok,hcr]
     show (decide ((c :: r).length ≤ 1) || decide (c ≠ 48))=_
     by_cases h48:c=48
     ·have hr:r ≠ []:=fun z=>c0 (by rw [MJ];exact AN.mpr (by rw [hcr,z,h48]))
      have:¬ (c :: r).length ≤ 1:=by
       cases r with
       | nil=>exact absurd rfl hr
       | cons d r=>simp
      rw [decide_eq_false this,h48];rfl
     ·rw [decide_eq_true h48,Bool.or_true,decide_eq_false h48];rfl
    rw [← e3]
    exact hQ
theorem cT (T:Txt w K mg t):Nb P w K mg base CX0 3 t.jm t.np ["word","low","high"] VN:=by
 have G_is_number:Nb P w K mg base CX0 2 t.uj t.Zm ["word","most_figures"] zP:=XY T
 refine T.BP.ok uD (fun vs H Q E h=>?_) (fun cdv A outer s H vs Q E hr h=>?_)
 ·obtain ⟨w,lo,hi,rfl,_⟩:=h;rfl
 obtain ⟨w,lo,hi,rfl,hz,nt,q⟩:=h
 refine ⟨_,(gb (Xf (KB (vp (Fb G_is_number hr rfl T.pI T.wJ T.LI .nil Ob (cb (pv 0) (cb (Uh rfl T.e103 T.vC) ib))))) (qb (Rb cK)) zc)
   (gb (Pb (i:=3) uD.nd rfl (Or.inl rfl) (Kf sA rfl T.e455 zr (cb (pv 0) ib)))
   (gb (Xf (PW.pt (NM (fc lE (pv 3) (pv 1) (Bc _)) (OD (fc DN (pv 3) (pv 2) (Bc _))))) (qb (Rb cK)) zc)
   (qb (Rb (pv 3)))))),?_⟩
 refine Cc (!okB w) (fun Q hQ=>?_) (fun hb=>?_) (fun hb=>?_)
 ·(walk_at "RD"; repeat (simp only [zP];walk_at "RD"))
  exact ⟨hz,nt,hQ⟩
 ·(walk_at "RD")
  have hb':okB w=false:=by simpa using hb
  have e:gB w lo hi=.non:=by unfold gB;rw [hb'];rfl
  rw [e] at q;exact q
 ·have hb':okB w=true:=by simpa using hb
  have h3:(1 ≤ (cs w).length∧(cs w).length ≤ 3)∧(cs w).all Qy=true:=by
   have:=hb'
   unfold okB at this
   simp only [Bool.and_eq_true,decide_eq_true_eq] at this
   exact this.1
  have hl:=bE w
  have hi':intText? w=some (val w):=intText_digits (Iv h3.2) (fun z=>by have z':cs w=[]:=z;rw [z'] at h3;exact absurd h3.1.1 (by decide)) (by omega)
  (walk_at "RD")
  refine ⟨val w,hi',by omega,?_⟩
  refine Cc (decide (val w < lo) || decide (hi < val w)) (fun Q hQ=>?_) (fun hc=>?_) (fun hc=>?_)
  ·(walk_at "RD")
   by_cases c:val w < lo
   ·rw [if_pos (decide_eq_true c)]
    rw [decide_eq_true c,Bool.true_or] at hQ
    exact hQ
   ·rw [if_neg (by simpa using c)]
    rw [decide_eq_false c,Bool.false_or] at hQ
    exact hQ
  ·(walk_at "RD")
   have e:gB w lo hi=.non:=by unfold gB;rw [hb',hc];rfl
   rw [e] at q;exact q
  ·(walk_at "RD")
   have e:gB w lo hi=.int (val w):=by unfold gB;rw [hb',hc];rfl
   rw [e] at q;exact q
end
theorem NO {n:Nat} (h:n < 1000):n.log2 < 1920:=by
 by_cases h0:n=0
 ·subst h0;decide
 ·rw [Nat.log2_lt h0]
  exact Nat.lt_of_lt_of_le h (Nat.le_trans (show 1000 ≤ 2 ^ 10 by decide) (Nat.pow_le_pow_right (by decide) (by decide)))
theorem zS:∀ n,n < 1000→(Nat.toDigits 10 n).length ≤ 3:=by decide +kernel
theorem EF {n:Int} (h0:0 ≤ n) (h1:n ≤ 999):(Str.ofString (toString n)).length ≤ 3:=by
 have e:=PySem.W.KIN.signs_num n.toNat
 rw [Int.toNat_of_nonneg h0] at e
 have l:(Str.ofString (toString n)).length=(Str.ofString (toString n)).cps.toList.length:=by simp [Str.length]
 rw [l,e,List.length_map]
 exact zS _ (by omega)
abbrev gw:Str:=Str.ofString "abcdefghijklmnopqrstuvwxyz"
def pN:Sp:=fun vs H Q _=>∃ w,vs=[.str w]∧w.length ≤ 1000∧NoT H∧Q (.bl (made w gw 8)) H
section
variable {P:Program} {w:World} {K:PySem.W.Frag} {mg:Str→Option Value} {base:Heap} {t:Adr}
theorem xU (T:Txt w K mg t):Nb P w K mg base CX0 2 t.Lo t.sv ["word"] pN:=by
 have G_is_made_of:Nb P w K mg base CX0 1 t.lh t.Fi ["word","signs","most"] lA:=tP T
 refine T.jO.ok DL (fun vs H Q E h=>?_) (fun cdv A outer s H vs Q E hr h=>?_)
 ·obtain ⟨w,rfl,_⟩:=h;rfl
 obtain ⟨w,rfl,hz,nt,q⟩:=h
 refine ⟨_,(qb (Rb (Fb G_is_made_of hr rfl T.zx T.ix T.ux .nil Ob (cb (pv 0) (cb (Uh rfl T.e345 T.VO) (cb (Uh rfl T.e101 T.iC) ib)))))),?_⟩
 (walk_at "RD"; repeat (simp only [lA];walk_at "RD"))
 exact ⟨hz,nt,q⟩
end
abbrev nl:Str:=Str.ofString "\n"
abbrev bk:Str:=Str.ofString " "
theorem VW:nl=⟨#[10]⟩:=by decide +kernel
theorem bX:bk=⟨#[32]⟩:=by decide +kernel
def Xj (x:Str):List (List Str):=(Txt.split x nl).map fun r=>Txt.split r bk
theorem DD:∀ {ys:List Str} {y:Str},y ∈ ys→y.length ≤ (ys.map (·.length)).sum
 | [],_,h=>nomatch h
 | a :: r,y,h=>by
  rw [List.map_cons,List.sum_cons]
  rcases List.mem_cons.mp h with rfl | h
  ·omega
  ·have:=DD h;omega
theorem fU {x y r:Str} (hy:1 ≤ y.length) (h:r ∈ Txt.split x y):r.length ≤ x.length + 1:=by
 have h1:=PyProof.Rows.split_weight x y hy
 have h2:=DD h
 omega
theorem pA {x y:Str} (hy:1 ≤ y.length):(Txt.split x y).length ≤ x.length + 1:=by
 have h1:=PyProof.Rows.split_weight x y hy
 omega
theorem JQ (x y:Str):Txt.split x y ≠ []:=by
 unfold Txt.split
 split
 ·simp
 ·split
  ·simp
  ·rw [StrLaws.partsBetween_eq]
   obtain ⟨p,r,e⟩:=StrLaws.partsFrom_ne x y.length 0 (Builtin.Str.occurrences x y 0 x.length (x.length + 1))
   rw [e];simp
def LL (H0 H:Hp) (p:Addr) (rows:List (List Str)):Prop:=∃ qs:List Addr,H p=some (.lst (qs.map V.ref))∧H0 p=none∧p ∉ qs∧qs.length=rows.length∧∀ (i:Nat) (q:Addr) (r:List Str),qs[i]? = some q→rows[i]? = some r→H q=some (.lst (Cb r))∧H0 q=none
def SK:Sp:=fun vs H Q _=>∃ x,vs=[.str x]∧x.length ≤ 20000∧NoT H∧∀ p H',Ac H H'→NoT H'→LL H H' p (Xj x)→Q (.ref p) H'
theorem NG:nl.length=1:=by decide +kernel
theorem dL:bk.length=1:=by decide +kernel
section
variable {P:Program} {w:World} {K:PySem.W.Frag} {mg:Str→Option Value} {base:Heap} {t:Adr}
theorem WQ (T:Txt w K mg t):Nb P w K mg base CX0 1 t.PB t.ZE ["text"] SK:=by
 refine T.YV.ok JR (fun vs H Q E h=>?_) (fun cdv A outer s H vs Q E hr h=>?_)
 ·obtain ⟨x,rfl,_⟩:=h;rfl
 obtain ⟨x,rfl,hz,nt,q⟩:=h
 have hzz:∀ n:Nat,n ≤ 40000→n ≤ sizeLine:=fun n h=>Nat.le_trans h (by decide)
 refine ⟨_,(qb (Rb (yn rfl (Af (sH PySem.F.plainAttrs_str PySem.F.slot_str_split PySem.F.type_str_split uK (pv 0) (cb Yb ib))) (ue (sc:=db Jj) rfl (by decide +kernel)) (N:=["row"]) (sel:=[none]) (qf (M:=["text"]) (by decide +kernel)) (Blk.of (fun _ _ _ _=>(Kb (i:=0) (vj (N:=["row"]) (by decide +kernel) rfl) rfl (Or.inl rfl))) (fun _ _ _ _=>⟨_,Mi,by first | rfl | (dsimp only [Cx.block];done) | (dsimp only [Cx.block];exact rfl)⟩) (fun _ _ _ _=>⟨_,(sH PySem.F.plainAttrs_str PySem.F.slot_str_split PySem.F.type_str_split uK (pv 0) (cb Yb ib)),by first | rfl | (dsimp only [Cx.block];done) | (dsimp only [Cx.block];exact rfl)⟩))))),?_⟩
 (walk_at "RD")
 have hy:1 ≤ nl.length:=by rw [NG];exact Nat.le_refl _
 have hy2:1 ≤ bk.length:=by rw [dL];exact Nat.le_refl _
 have hs:=pA (x:=x) hy
 have hs':(Cb (Txt.split x nl)).length ≤ sizeLine:=by unfold Cb;rw [List.length_map];exact hzz _ (by omega)
 refine ⟨by rw [NG];decide,hzz _ (by omega),hzz _ (show (Txt.split x nl).length ≤ 40000 by omega),fun p hp=>⟨⟨_,SqL.of fb⟩,?_⟩⟩
 refine yf.list_mk (xs:=Cb (Txt.split x nl)) (fun v=>match v with | .str r=>.lst (Cb (Txt.split r bk)) | _=>.lst []) (SqL.of fb) hs' (fun v=>by cases v <;> rfl) (fun i v H1 N hx sm nt1 hN=>?_) (fun qs H1 sm nt1 hl al p2 hp2=>?_)
 ·unfold Cb at hx
  rw [List.getElem?_map] at hx
  cases hr:(Txt.split x nl)[i]? with
  | none=>rw [hr] at hx;cases hx
  | some r=>
   rw [hr] at hx
   have e:=Option.some.inj hx
   subst e
   have hm:=fU hy (List.mem_of_getElem? hr)
   have hs2:=pA (x:=r) hy2
   (walk_at "RD")
   exact ⟨Sub.name,by rw [dL];decide,hzz _ (by omega),hzz _ (show (Txt.split r bk).length ≤ 40000 by omega),hN⟩
 ·have sm0:Ac H H1:=(pb hp).trans sm
  refine q _ _ (sm0.updN (sm0.free hp2)) ((nt1 (nt.upd)).upd) ⟨qs,fb,sm0.free hp2,fun hm=>?_,?_,fun i q' r h1 h2=>?_⟩
  ·obtain ⟨j,hj,e⟩:=List.getElem_of_mem hm
   have hj2:j < (Cb (Txt.split x nl)).length:=by omega
   have:=al j p2 _ (by rw [List.getElem?_eq_getElem hj,e]) (List.getElem?_eq_getElem hj2)
   rw [hp2] at this
   cases this.1
  ·rw [hl];unfold Xj Cb;rw [List.length_map,List.length_map]
  ·unfold Xj at h2
   rw [List.getElem?_map] at h2
   cases hr:(Txt.split x nl)[i]? with
   | none=>rw [hr] at h2;cases h2
   | some r0=>
    rw [hr] at h2
    have e:=Option.some.inj h2
    subst e
    have z:=al i q' (.str r0) h1 (by unfold Cb;rw [List.getElem?_map,hr];rfl)
    refine ⟨by rw [rb (zb z.1 hp2)];exact z.1,?_⟩
    have:=z.2
    by_cases hq:q'=p
    ·rw [hq];exact hp
    ·rwa [rb hq] at this
end
end My
namespace My
open PySem L2
structure WD where
 k:Nat
 name:Str
 start:Int
 fin:Int
 off:Int
 near:Int
 least:Int
def Sh:Nat→Str
 | 0=>Str.ofString "car"
 | 1=>Str.ofString "foot"
 | _=>Str.ofString "tram"
def Adr.cw (t:Adr):Nat→Addr
 | 0=>t.Qb
 | 1=>t.Gb
 | _=>t.Jb
def Cy (d:WD):List (Str × V):=[(Str.ofString "kind",.str (Sh d.k)),(Str.ofString "name",.str d.name),(Str.ofString "start",.int d.start),(Str.ofString "end",.int d.fin),(Str.ofString "off",.int d.off),(Str.ofString "near",.int d.near),(Str.ofString "least",.int d.least)]
abbrev DC:List Str:=[Str.ofString "kind",Str.ofString "name",Str.ofString "start",Str.ofString "end",Str.ofString "off",Str.ofString "near",Str.ofString "least"]
theorem GD (d:WD):(Cy d).map (·.1)=DC:=rfl
def Dg (t:Adr) (H:Hp) (p:Addr) (d:WD):Prop:=d.k < 3∧∃ dx,H p=some (.ins (t.cw d.k) dx (Cy d))
theorem Dg.same {t:Adr} {H H':Hp} {p:Addr} {d:WD} (h:Dg t H p d) (s:Ac H H'):Dg t H' p d:=⟨h.1,h.2.imp fun dx e=>s _ _ e⟩
def isW (t:Adr) (C:Addr):Prop:=∃ k,k < 3∧C=t.cw k
def tf (d:WD):Int:=match d.k with | 0=>1 | 1=>0 | _=>2
def Oi (d:WD):Int:=match d.k with | 0=>2 | 1=>d.off | _=>1
section
variable {w:World} {K:PySem.W.Frag} {mg:Str→Option Value} {t:Adr}
theorem Txt.clw (T:Txt w K mg t):∀ k,Cls K (t.cw k)
 | 0=>T.aB
 | 1=>T.Nv
 | _ + 2=>T.vw
theorem Txt.naw (T:Txt w K mg t) {f:Str} (hf:f ∈ DC):∀ k,Mb K (t.cw k) f:=by
 intro k
 simp only [DC,List.mem_cons,List.not_mem_nil,or_false] at hf
 rcases hf with rfl | rfl | rfl | rfl | rfl | rfl | rfl
 ·match k with
  | 0=>exact T.e107
  | 1=>exact T.e69
  | _ + 2=>exact T.e75
 ·match k with
  | 0=>exact T.e108
  | 1=>exact T.e84
  | _ + 2=>exact T.e74
 ·match k with
  | 0=>exact T.e86
  | 1=>exact T.e53
  | _ + 2=>exact T.e48
 ·match k with
  | 0=>exact T.e167
  | 1=>exact T.e100
  | _ + 2=>exact T.e102
 ·match k with
  | 0=>exact T.e151
  | 1=>exact T.e110
  | _ + 2=>exact T.e105
 ·match k with
  | 0=>exact T.e109
  | 1=>exact T.e71
  | _ + 2=>exact T.e72
 ·match k with
  | 0=>exact T.e78
  | 1=>exact T.e51
  | _ + 2=>exact T.e50
theorem Txt.cw_inj (T:Txt w K mg t) {j k:Nat} (hj:j < 3) (hk:k < 3) (e:t.cw j=t.cw k):j=k:=by
 match j,k,hj,hk with
 | 0,0,_,_=>rfl
 | 0,1,_,_=>exact absurd e T.e18
 | 0,2,_,_=>exact absurd e T.e17
 | 1,0,_,_=>exact absurd e.symm T.e18
 | 1,1,_,_=>rfl
 | 1,2,_,_=>exact absurd e T.e15
 | 2,0,_,_=>exact absurd e.symm T.e17
 | 2,1,_,_=>exact absurd e.symm T.e15
 | 2,2,_,_=>rfl
 | j + 3,_,h,_=>omega
 | _,k + 3,_,h=>omega
theorem Dg.fld (T:Txt w K mg t) {H:Hp} {p:Addr} {d:WD} (h:Dg t H p d) {f:Str} {v:V} (i:Nat) (hi:DC.findIdx? (· == f)=some i) (hv:(Cy d)[i]? = some (f,v)):Op K H p f v:=by
 obtain ⟨_,dx,e⟩:=h
 have hm:f ∈ DC:=by
  obtain ⟨hlt,h1,_⟩:=List.findIdx?_eq_some_iff_getElem.mp hi
  have:DC[i]=f:=by simpa using h1
  rw [← this];exact List.getElem_mem hlt
 exact ⟨_,dx,_,e,T.clw _,T.naw hm _,af DC i (GD d) hi hv⟩
theorem Dg.f_name (T:Txt w K mg t) {H:Hp} {p:Addr} {d:WD} (h:Dg t H p d):Op K H p (Str.ofString "name") (.str d.name):=h.fld T 1 (by decide +kernel) rfl
theorem Dg.f_start (T:Txt w K mg t) {H:Hp} {p:Addr} {d:WD} (h:Dg t H p d):Op K H p (Str.ofString "start") (.int d.start):=h.fld T 2 (by decide +kernel) rfl
theorem Dg.f_end (T:Txt w K mg t) {H:Hp} {p:Addr} {d:WD} (h:Dg t H p d):Op K H p (Str.ofString "end") (.int d.fin):=h.fld T 3 (by decide +kernel) rfl
theorem Dg.f_off (T:Txt w K mg t) {H:Hp} {p:Addr} {d:WD} (h:Dg t H p d):Op K H p (Str.ofString "off") (.int d.off):=h.fld T 4 (by decide +kernel) rfl
theorem Dg.f_near (T:Txt w K mg t) {H:Hp} {p:Addr} {d:WD} (h:Dg t H p d):Op K H p (Str.ofString "near") (.int d.near):=h.fld T 5 (by decide +kernel) rfl
theorem Dg.f_least (T:Txt w K mg t) {H:Hp} {p:Addr} {d:WD} (h:Dg t H p d):Op K H p (Str.ofString "least") (.int d.least):=h.fld T 6 (by decide +kernel) rfl
end
def GE (t:Adr):Sp:=fun vs H Q _=>∃ (p dx:Addr) (d:WD),vs=[.ref p,.str (Sh d.k),.str d.name,.int d.start,.int d.fin,.int d.off,.int d.near,.int d.least]∧d.k < 3∧H p=some (.ins (t.cw d.k) dx [])∧Q .non (upd H p (.ins (t.cw d.k) dx (Cy d)))
def mr (t:Adr) (k:Nat):Sp:=fun vs H Q _=>∃ (p dx:Addr) (d:WD),vs=[.ref p,.str d.name,.int d.start,.int d.fin,.int d.off,.int d.near,.int d.least]∧d.k=k∧H p=some (.ins (t.cw d.k) dx [])∧Q .non (upd H p (.ins (t.cw d.k) dx (Cy d)))
section
variable {P:Program} {w:World} {K:PySem.W.Frag} {mg:Str→Option Value} {base:Heap} {t:Adr}
theorem uJ (T:Txt w K mg t):Nb P w K mg base CX0 1 t.qj t.sj ["self","kind","name","start","end","off","near","least"] (GE t):=by
 refine T.XL.ok kB (fun vs H Q E h=>?_) (fun cdv A outer s H vs Q E hr h=>?_)
 ·obtain ⟨p,dx,d,rfl,_⟩:=h;rfl
 obtain ⟨p,dx,d,rfl,hk,hp,q⟩:=h
 refine ⟨_,(gb (Jh (pv 0) (pv 1) rfl)
   (gb (Jh (pv 0) (pv 2) rfl)
   (gb (Jh (pv 0) (pv 3) rfl)
   (gb (Jh (pv 0) (pv 4) rfl)
   (gb (Jh (pv 0) (pv 5) rfl)
   (gb (Jh (pv 0) (pv 6) rfl)
   (qb (Jh (pv 0) (pv 7) rfl)))))))),?_⟩
 (walk_at "RD")
 have na:∀ {f:Str},f ∈ DC→Mb K (t.cw d.k) f:=fun hf=>T.naw hf d.k
 refine ⟨_,_,_,hp,T.clw _,na (by decide +kernel),by decide,?_⟩
 refine ⟨_,_,_,fb,T.clw _,na (by decide +kernel),Mv (n:=999) (by decide),?_⟩
 refine ⟨_,_,_,fb,T.clw _,na (by decide +kernel),Mv (n:=999) (Mv (n:=998) (by decide)),?_⟩
 refine ⟨_,_,_,fb,T.clw _,na (by decide +kernel),Mv (n:=999) (Mv (n:=998) (Mv (n:=997) (by decide))),?_⟩
 refine ⟨_,_,_,fb,T.clw _,na (by decide +kernel),Mv (n:=999) (Mv (n:=998) (Mv (n:=997) (Mv (n:=996) (by decide)))),?_⟩
 refine ⟨_,_,_,fb,T.clw _,na (by decide +kernel),Mv (n:=999) (Mv (n:=998) (Mv (n:=997) (Mv (n:=996) (Mv (n:=995) (by decide))))),?_⟩
 refine ⟨_,_,_,fb,T.clw _,na (by decide +kernel),Mv (n:=999) (Mv (n:=998) (Mv (n:=997) (Mv (n:=996) (Mv (n:=995) (Mv (n:=994) (by decide)))))),?_⟩
 simp only [vn]
 rw [show dj (Str.ofString "kind") (V.str (Sh d.k)) ([]:List (Str × V))=[(Str.ofString "kind",V.str (Sh d.k))] from Yd [] rfl (by decide +kernel),
  show dj (Str.ofString "name") (V.str d.name) ([(Str.ofString "kind",V.str (Sh d.k))]:List (Str × V))=[(Str.ofString "kind",V.str (Sh d.k)),(Str.ofString "name",V.str d.name)] from Yd [Str.ofString "kind"] rfl (by decide +kernel),
  show dj (Str.ofString "start") (V.int d.start) ([(Str.ofString "kind",V.str (Sh d.k)),(Str.ofString "name",V.str d.name)]:List (Str × V))=[(Str.ofString "kind",V.str (Sh d.k)),(Str.ofString "name",V.str d.name),(Str.ofString "start",V.int d.start)] from Yd [Str.ofString "kind",Str.ofString "name"] rfl (by decide +kernel),
  show dj (Str.ofString "end") (V.int d.fin) ([(Str.ofString "kind",V.str (Sh d.k)),(Str.ofString "name",V.str d.name),(Str.ofString "start",V.int d.start)]:List (Str × V))=[(Str.ofString "kind",V.str (Sh d.k)),(Str.ofString "name",V.str d.name),(Str.ofString "start",V.int d.start),(Str.ofString "end",V.int d.fin)] from Yd [Str.ofString "kind",Str.ofString "name",Str.ofString "start"] rfl (by decide +kernel),
  show dj (Str.ofString "off") (V.int d.off) ([(Str.ofString "kind",V.str (Sh d.k)),(Str.ofString "name",V.str d.name),(Str.ofString "start",V.int d.start),(Str.ofString "end",V.int d.fin)]:List (Str × V))=[(Str.ofString "kind",V.str (Sh d.k)),(Str.ofString "name",V.str d.name),(Str.ofString "start",V.int d.start),(Str.ofString "end",V.int d.fin),(Str.ofString "off",V.int d.off)] from Yd [Str.ofString "kind",Str.ofString "name",Str.ofString "start",Str.ofString "end"] rfl (by decide +kernel),
  show dj (Str.ofString "near") (V.int d.near) ([(Str.ofString "kind",V.str (Sh d.k)),(Str.ofString "name",V.str d.name),(Str.ofString "start",V.int d.start),(Str.ofString "end",V.int d.fin),(Str.ofString "off",V.int d.off)]:List (Str × V))=[(Str.ofString "kind",V.str (Sh d.k)),(Str.ofString "name",V.str d.name),(Str.ofString "start",V.int d.start),(Str.ofString "end",V.int d.fin),(Str.ofString "off",V.int d.off),(Str.ofString "near",V.int d.near)] from Yd [Str.ofString "kind",Str.ofString "name",Str.ofString "start",Str.ofString "end",Str.ofString "off"] rfl (by decide +kernel),
  show dj (Str.ofString "least") (V.int d.least) ([(Str.ofString "kind",V.str (Sh d.k)),(Str.ofString "name",V.str d.name),(Str.ofString "start",V.int d.start),(Str.ofString "end",V.int d.fin),(Str.ofString "off",V.int d.off),(Str.ofString "near",V.int d.near)]:List (Str × V))=[(Str.ofString "kind",V.str (Sh d.k)),(Str.ofString "name",V.str d.name),(Str.ofString "start",V.int d.start),(Str.ofString "end",V.int d.fin),(Str.ofString "off",V.int d.off),(Str.ofString "near",V.int d.near),(Str.ofString "least",V.int d.least)] from Yd [Str.ofString "kind",Str.ofString "name",Str.ofString "start",Str.ofString "end",Str.ofString "off",Str.ofString "near"] rfl (by decide +kernel)]
 exact q
theorem eU (T:Txt w K mg t):Nb P w K mg base CX0 2 t.mj t.nj ["self","name","start","end","off","near","least"] (mr t 0):=by
 have G_Way_init:Nb P w K mg base CX0 1 t.qj t.sj ["self","kind","name","start","end","off","near","least"] (GE t):=uJ T
 refine T.tE.ok nv (fun vs H Q E h=>?_) (fun cdv A outer s H vs Q E hr h=>?_)
 ·obtain ⟨p,dx,d,rfl,_⟩:=h;rfl
 obtain ⟨p,dx,d,rfl,hk,hp,q⟩:=h
 refine ⟨_,(qb (bd (qE rfl T.mU T.qw G_Way_init hr T.dw .nil Ob (cb (pv 0) (cb Yb (cb (pv 1) (cb (pv 2) (cb (pv 3) (cb (pv 4) (cb (pv 5) (cb (pv 6) ib))))))))))),?_⟩
 (walk_at "RD")
 exact ⟨p,dx,d,by rw [hk];rfl,by omega,hp,q⟩
theorem UR (T:Txt w K mg t):Nb P w K mg base CX0 2 t.vi t.ki ["self","name","start","end","off","near","least"] (mr t 1):=by
 have G_Way_init:Nb P w K mg base CX0 1 t.qj t.sj ["self","kind","name","start","end","off","near","least"] (GE t):=uJ T
 refine T.oC.ok yt (fun vs H Q E h=>?_) (fun cdv A outer s H vs Q E hr h=>?_)
 ·obtain ⟨p,dx,d,rfl,_⟩:=h;rfl
 obtain ⟨p,dx,d,rfl,hk,hp,q⟩:=h
 refine ⟨_,(qb (bd (qE rfl T.mU T.qw G_Way_init hr T.dw .nil Ob (cb (pv 0) (cb Yb (cb (pv 1) (cb (pv 2) (cb (pv 3) (cb (pv 4) (cb (pv 5) (cb (pv 6) ib))))))))))),?_⟩
 (walk_at "RD")
 exact ⟨p,dx,d,by rw [hk];rfl,by omega,hp,q⟩
theorem QR (T:Txt w K mg t):Nb P w K mg base CX0 2 t.di t.ci ["self","name","start","end","off","near","least"] (mr t 2):=by
 have G_Way_init:Nb P w K mg base CX0 1 t.qj t.sj ["self","kind","name","start","end","off","near","least"] (GE t):=uJ T
 refine T.lC.ok Us (fun vs H Q E h=>?_) (fun cdv A outer s H vs Q E hr h=>?_)
 ·obtain ⟨p,dx,d,rfl,_⟩:=h;rfl
 obtain ⟨p,dx,d,rfl,hk,hp,q⟩:=h
 refine ⟨_,(qb (bd (qE rfl T.mU T.qw G_Way_init hr T.dw .nil Ob (cb (pv 0) (cb Yb (cb (pv 1) (cb (pv 2) (cb (pv 3) (cb (pv 4) (cb (pv 5) (cb (pv 6) ib))))))))))),?_⟩
 (walk_at "RD")
 exact ⟨p,dx,d,by rw [hk];rfl,by omega,hp,q⟩
end
def vm (t:Adr) (C:Addr):Sp:=fun vs H Q _=>∃ p d,vs=[.ref p]∧Dg t H p d∧C=t.cw d.k∧Q (.int (tf d)) H
def kr (t:Adr) (C:Addr):Sp:=fun vs H Q _=>∃ p d,vs=[.ref p]∧Dg t H p d∧C=t.cw d.k∧Q (.int (Oi d)) H
section
variable {P:Program} {w:World} {K:PySem.W.Frag} {mg:Str→Option Value} {base:Heap} {t:Adr}
theorem jA (T:Txt w K mg t):Nb P w K mg base CX0 1 t.Sl t.Vl ["self"] (vm t (t.cw 0)):=by
 refine T.VC.ok dB (fun vs H Q E h=>?_) (fun cdv A outer s H vs Q E hr h=>?_)
 ·obtain ⟨p,d,rfl,_⟩:=h;rfl
 obtain ⟨p,d,rfl,W,hC,q⟩:=h
 have hk:=(T.cw_inj (by decide) W.1 hC).symm
 refine ⟨_,(qb (Rb Ab)),?_⟩
 rw [show tf d=1 by unfold tf;simp only [hk]] at q
 (walk_at "RD")
 exact q
theorem Jy (T:Txt w K mg t):Nb P w K mg base CX0 1 t.uk t.Pj ["self"] (vm t (t.cw 1)):=by
 refine T.DA.ok zy (fun vs H Q E h=>?_) (fun cdv A outer s H vs Q E hr h=>?_)
 ·obtain ⟨p,d,rfl,_⟩:=h;rfl
 obtain ⟨p,d,rfl,W,hC,q⟩:=h
 have hk:=(T.cw_inj (by decide) W.1 hC).symm
 refine ⟨_,(qb (Rb Ab)),?_⟩
 rw [show tf d=0 by unfold tf;simp only [hk]] at q
 (walk_at "RD")
 exact q
theorem Iy (T:Txt w K mg t):Nb P w K mg base CX0 1 t.tj t.yj ["self"] (vm t (t.cw 2)):=by
 refine T.Rz.ok Ly (fun vs H Q E h=>?_) (fun cdv A outer s H vs Q E hr h=>?_)
 ·obtain ⟨p,d,rfl,_⟩:=h;rfl
 obtain ⟨p,d,rfl,W,hC,q⟩:=h
 have hk:=(T.cw_inj (by decide) W.1 hC).symm
 refine ⟨_,(qb (Rb Ab)),?_⟩
 rw [show tf d=2 by unfold tf;simp only [hk]] at q
 (walk_at "RD")
 exact q
theorem SO (T:Txt w K mg t):aR P w K mg base CX0 1 (isW t) "ready" ["self"] (vm t):=by
 refine ⟨fun C hC=>?_⟩
 obtain ⟨k,hk,rfl⟩:=hC
 match k,hk with
 | 0,_=>exact ⟨_,_,T.aB,T.yC,jA T,T.lD⟩
 | 1,_=>exact ⟨_,_,T.Nv,T.oz,Jy T,T.FA⟩
 | 2,_=>exact ⟨_,_,T.vw,T.EA,Iy T,T.Sz⟩
theorem eD (T:Txt w K mg t):Nb P w K mg base CX0 1 t.wn t.bn ["self"] (kr t (t.cw 0)):=by
 refine T.iF.ok fD (fun vs H Q E h=>?_) (fun cdv A outer s H vs Q E hr h=>?_)
 ·obtain ⟨p,d,rfl,_⟩:=h;rfl
 obtain ⟨p,d,rfl,W,hC,q⟩:=h
 have hk:=(T.cw_inj (by decide) W.1 hC).symm
 refine ⟨_,(qb (Rb Ab)),?_⟩
 rw [show Oi d=2 by unfold Oi;simp only [hk]] at q
 (walk_at "RD")
 exact q
theorem cA (T:Txt w K mg t):Nb P w K mg base CX0 1 t.Ol t.Tl ["self"] (kr t (t.cw 1)):=by
 refine T.cD.ok Kz (fun vs H Q E h=>?_) (fun cdv A outer s H vs Q E hr h=>?_)
 ·obtain ⟨p,d,rfl,_⟩:=h;rfl
 obtain ⟨p,d,rfl,W,hC,q⟩:=h
 have hk:=(T.cw_inj (by decide) W.1 hC).symm
 refine ⟨_,(qb (Rb (Kd (pv 0) rfl))),?_⟩
 rw [show Oi d=d.off by unfold Oi;simp only [hk]] at q
 (walk_at "RD")
 exact ⟨_,W.f_off T,q⟩
theorem nB (T:Txt w K mg t):Nb P w K mg base CX0 1 t.Wl t.Rl ["self"] (kr t (t.cw 2)):=by
 refine T.dC.ok KA (fun vs H Q E h=>?_) (fun cdv A outer s H vs Q E hr h=>?_)
 ·obtain ⟨p,d,rfl,_⟩:=h;rfl
 obtain ⟨p,d,rfl,W,hC,q⟩:=h
 have hk:=(T.cw_inj (by decide) W.1 hC).symm
 refine ⟨_,(qb (Rb Ab)),?_⟩
 rw [show Oi d=1 by unfold Oi;simp only [hk]] at q
 (walk_at "RD")
 exact q
theorem NS (T:Txt w K mg t):aR P w K mg base CX0 1 (isW t) "fade" ["self"] (kr t):=by
 refine ⟨fun C hC=>?_⟩
 obtain ⟨k,hk,rfl⟩:=hC
 match k,hk with
 | 0,_=>exact ⟨_,_,T.aB,T.AE,eD T,T.eF⟩
 | 1,_=>exact ⟨_,_,T.Nv,T.gD,cA T,T.UC⟩
 | 2,_=>exact ⟨_,_,T.vw,T.NC,nB T,T.MC⟩
end
def jl (c:Nat):List (List Nat)→List Nat
 | []=>[]
 | [a]=>a
 | a :: b :: r=>a ++ c :: jl c (b :: r)
theorem yQ {c:Nat}:∀ {a b X Y:List Nat},c ∉ a→c ∉ b→a ++ c :: X=b ++ c :: Y→a=b∧X=Y
 | [],[],X,Y,_,_,h=>⟨rfl,(List.cons.inj h).2⟩
 | [],d :: b,X,Y,_,hb,h=>absurd (List.cons.inj h).1 (fun z=>hb (by simp [← z]))
 | d :: a,[],X,Y,ha,_,h=>absurd (List.cons.inj h).1 (fun z=>ha (by simp [z]))
 | d :: a,e :: b,X,Y,ha,hb,h=>by
  obtain ⟨h1,h2⟩:=List.cons.inj h
  obtain ⟨e1,e2⟩:=yQ (fun z=>ha (List.mem_cons_of_mem _ z)) (fun z=>hb (List.mem_cons_of_mem _ z)) h2
  exact ⟨by rw [h1,e1],e2⟩
theorem bT {c:Nat}:∀ {ps qs:List (List Nat)},(∀ p ∈ ps,c ∉ p)→(∀ q ∈ qs,c ∉ q)→ps ≠ []→qs ≠ []→jl c ps=jl c qs→ps=qs
 | [a],[b],_,_,_,_,h=>by rw [show a=b from h]
 | [a],b :: b' :: r,ha,_,_,_,h=>absurd (show c ∈ a by rw [show a=b ++ c :: jl c (b' :: r) from h];simp) (ha a (by simp))
 | a :: a' :: r,[b],_,hb,_,_,h=>absurd (show c ∈ b by rw [show b=a ++ c :: jl c (a' :: r) from h.symm];simp) (hb b (by simp))
 | a :: a' :: r,b :: b' :: s,ha,hb,_,_,h=>by
  obtain ⟨e1,e2⟩:=yQ (ha a (by simp)) (hb b (by simp)) (show a ++ c :: jl c (a' :: r)=b ++ c :: jl c (b' :: s) from h)
  rw [e1,bT (fun p hp=>ha p (List.mem_cons_of_mem _ hp)) (fun q hq=>hb q (List.mem_cons_of_mem _ hq)) (by simp) (by simp) e2]
 | [],_,_,_,h,_,_=>absurd rfl h
 | _ :: _,[],_,_,_,h,_=>absurd rfl h
theorem uQ {c d:Nat}:∀ {ps:List (List Nat)},d ∈ jl c ps→d=c∨∃ p ∈ ps,d ∈ p
 | [],h=>nomatch h
 | [a],h=>.inr ⟨a,by simp,h⟩
 | a :: b :: r,h=>by
  rcases List.mem_append.mp (show d ∈ a ++ c :: jl c (b :: r) from h) with h | h
  ·exact .inr ⟨a,by simp,h⟩
  ·rcases List.mem_cons.mp h with h | h
   ·exact .inl h
   ·rcases uQ h with h | ⟨p,hp,h⟩
    ·exact .inl h
    ·exact .inr ⟨p,List.mem_cons_of_mem _ hp,h⟩
theorem sF (c:Nat):∀ ys:List Str,(Str.join ⟨#[c]⟩ ys).cps.toList=jl c (ys.map (·.cps.toList))
 | []=>rfl
 | [a]=>rfl
 | a :: b :: r=>by
  show (a ++ ⟨#[c]⟩ ++ Str.join ⟨#[c]⟩ (b :: r)).cps.toList=_
  rw [Str.cps_append,Array.toList_append,Str.cps_append,Array.toList_append,sF c (b :: r)]
  simp [jl]
theorem nU {x y:Str} (h:x.cps.toList=y.cps.toList):x=y:=by
 cases x;cases y
 exact congrArg Str.mk (Array.toList_inj.mp h)
theorem lr {c:Nat} {ys:List Str} (hn:ys ≠ []) (hf:∀ y ∈ ys,c ∉ y.cps.toList):Txt.split (Str.join ⟨#[c]⟩ ys) ⟨#[c]⟩=ys:=by
 have e:=congrArg (·.cps.toList) (StrLaws.join_split (Str.join ⟨#[c]⟩ ys) ⟨#[c]⟩)
 simp only [sF] at e
 have e2:=bT (c:=c) (ps:=(Txt.split (Str.join ⟨#[c]⟩ ys) ⟨#[c]⟩).map (·.cps.toList)) (qs:=ys.map (·.cps.toList)) (fun p hp=>by
  obtain ⟨y,hy,rfl⟩:=List.mem_map.mp hp
  exact StrLaws.split_free _ c y hy) (fun p hp=>by
  obtain ⟨y,hy,rfl⟩:=List.mem_map.mp hp
  exact hf y hy) (by simp [JQ]) (by simpa using hn) e
 exact (List.map_inj_right fun x y h=>nU h).mp e2
abbrev num (v:Int):Str:=Str.ofString (toString v)
theorem tW:∀ n,n < 1000→(decide (1 ≤ ((Nat.toDigits 10 n).map Char.toNat).length) && decide (((Nat.toDigits 10 n).map Char.toNat).length ≤ 3) && ((Nat.toDigits 10 n).map Char.toNat).all Qy && (decide (((Nat.toDigits 10 n).map Char.toNat).length ≤ 1) || decide (((Nat.toDigits 10 n).map Char.toNat).headD 0 ≠ 48)) &&
  decide (NumText.digitsVal ((Nat.toDigits 10 n).map Char.toNat)=n))=true:=by decide +kernel
theorem Xw {v:Int} (h0:0 ≤ v) (h1:v < 1000):okB (num v)=true∧val (num v)=v:=by
 have e:=PySem.W.KIN.signs_num v.toNat
 rw [Int.toNat_of_nonneg h0] at e
 have a:=tW v.toNat (by omega)
 rw [← e,Bool.and_eq_true,decide_eq_true_eq] at a
 exact ⟨a.1,by show ((NumText.digitsVal (cs (num v)):Nat):Int)=v;rw [a.2];omega⟩
theorem jt {v lo hi:Int} (h0:0 ≤ v) (h1:v < 1000) (hl:lo ≤ v) (hh:v ≤ hi):gB (num v) lo hi=.int v:=by
 obtain ⟨a,b⟩:=Xw h0 h1
 unfold gB
 rw [a,b,decide_eq_false (by omega:¬ v < lo),decide_eq_false (by omega:¬ hi < v)];rfl
theorem bW {u v:Int} (h0:0 ≤ u) (h1:u < 1000) (h2:0 ≤ v) (h3:v < 1000) (e:num u=num v):u=v:=by
 rw [← (Xw h0 h1).2,e,(Xw h2 h3).2]
theorem RK {v:Int} (h0:0 ≤ v) (h1:v < 1000):∀ c ∈ (num v).cps.toList,48 ≤ c∧c ≤ 57:=fun c hc=>by
 have:=List.all_eq_true.mp (MP (Xw h0 h1).1).2 c hc
 simpa [Qy] using this
theorem YF:gw.cps.toList=[97,98,99,100,101,102,103,104,105,106,107,108,109,110,111,112,113,114,115,116,117,118,119,120,121,122]:=by decide +kernel
theorem Vo {x:Str} (h:made x gw 8=true):(1 ≤ x.length∧x.length ≤ 8)∧∀ c ∈ x.cps.toList,97 ≤ c∧c ≤ 122:=by
 unfold made at h
 split at h
 ·cases h
 ·rename_i h1
  split at h
  ·cases h
  ·rename_i h2
   have h3:¬ x.length=0:=fun z=>h1 (WZ.mpr z)
   refine ⟨by omega,fun c hc=>?_⟩
   have:=List.all_eq_true.mp h c hc
   rw [zQ,YF] at this
   simp only [decide_eq_true_eq,List.mem_cons,List.not_mem_nil,or_false] at this
   omega
structure WOk (n:Int) (d:WD):Prop where
 k:d.k < 3
 nm:made d.name gw 8=true
 st:0 ≤ d.start∧d.start < n
 fi:0 ≤ d.fin∧d.fin < n
 ne:d.start ≠ d.fin
 of:0 ≤ d.off∧d.off ≤ 30
 nr:0 ≤ d.near∧d.near ≤ 30
 le:1 ≤ d.least∧d.least ≤ 60
structure COk (n:Int) (ds:List WD):Prop where
 nn:2 ≤ n∧n ≤ 99
 ln:1 ≤ ds.length∧ds.length ≤ 12
 al:∀ d ∈ ds,WOk n d
 nd:(ds.map (·.name)).Nodup
def Sx (d:WD):List Str:=[Sh d.k,d.name,num d.start,num d.fin,num d.off,num d.near,num d.least]
def sC (n:Int) (ds:List WD):List (List Str):=[Str.ofString "ring",num n] :: ds.map Sx
def QJ (n:Int) (ds:List WD):Str:=Str.join nl ((sC n ds).map (Str.join bk))
def Ws (x:Str):Prop:=x.length ≤ 8∧(32:Nat) ∉ x.cps.toList∧(10:Nat) ∉ x.cps.toList
theorem wL (k:Nat):Ws (Sh k):=by
 match k with
 | 0=>exact ⟨by decide +kernel,by decide +kernel,by decide +kernel⟩
 | 1=>exact ⟨by decide +kernel,by decide +kernel,by decide +kernel⟩
 | _ + 2=>exact ⟨show (Str.ofString "tram").length ≤ 8 by decide +kernel,show (32:Nat) ∉ (Str.ofString "tram").cps.toList by decide +kernel,show (10:Nat) ∉ (Str.ofString "tram").cps.toList by decide +kernel⟩
theorem xf {v:Int} (h0:0 ≤ v) (h1:v < 1000):Ws (num v):=
 ⟨Nat.le_trans (EF h0 (by omega)) (by decide),fun z=>by have:=RK h0 h1 _ z;omega,fun z=>by have:=RK h0 h1 _ z;omega⟩
theorem zL {x:Str} (h:made x gw 8=true):Ws x:=
 ⟨(Vo h).1.2,fun z=>by have:=(Vo h).2 _ z;omega,fun z=>by have:=(Vo h).2 _ z;omega⟩
theorem WOk.plain {n:Int} {d:WD} (h:WOk n d) (hn:n ≤ 99):∀ x ∈ Sx d,Ws x:=fun x hx=>by
 have h1:=h.st;have h2:=h.fi;have h3:=h.of;have h4:=h.nr;have h5:=h.le
 simp only [Sx,List.mem_cons,List.not_mem_nil,or_false] at hx
 rcases hx with rfl | rfl | rfl | rfl | rfl | rfl | rfl
 ·exact wL _
 ·exact zL h.nm
 ·exact xf (by omega) (by omega)
 ·exact xf (by omega) (by omega)
 ·exact xf (by omega) (by omega)
 ·exact xf (by omega) (by omega)
 ·exact xf (by omega) (by omega)
theorem COk.plain {n:Int} {ds:List WD} (h:COk n ds):∀ r ∈ sC n ds,∀ x ∈ r,Ws x:=fun r hr x hx=>by
 have hn:=h.nn
 rcases List.mem_cons.mp hr with rfl | hr
 ·simp only [List.mem_cons,List.not_mem_nil,or_false] at hx
  rcases hx with rfl | rfl
  ·exact ⟨by decide +kernel,by decide +kernel,by decide +kernel⟩
  ·exact xf (by omega) (by omega)
 ·obtain ⟨d,hd,rfl⟩:=List.mem_map.mp hr
  exact (h.al d hd).plain hn.2 x hx
theorem uP {rs:List (List Str)} (h0:rs ≠ []) (h1:∀ r ∈ rs,r ≠ []) (h2:∀ r ∈ rs,∀ x ∈ r,Ws x):Xj (Str.join nl (rs.map (Str.join bk)))=rs:=by
 unfold Xj
 rw [VW,bX]
 rw [lr (by simpa using h0) (fun y hy=>by
  obtain ⟨r,hr,rfl⟩:=List.mem_map.mp hy
  rw [sF]
  intro z
  rcases uQ z with z | ⟨p,hp,z⟩
  ·cases z
  ·obtain ⟨x,hx,rfl⟩:=List.mem_map.mp hp
   exact (h2 r hr x hx).2.2 z)]
 rw [List.map_map]
 have:∀ r ∈ rs,((fun r=>Txt.split r ⟨#[32]⟩) ∘ Str.join ⟨#[32]⟩) r=r:=fun r hr=>lr (h1 r hr) fun x hx=>(h2 r hr x hx).2.1
 exact (List.map_congr_left this).trans (List.map_id rs)
theorem pM {n:Int} {ds:List WD} (h:COk n ds):Xj (QJ n ds)=sC n ds:=uP (by simp [sC]) (fun r hr=>by
 rcases List.mem_cons.mp hr with rfl | hr
 ·simp
 ·obtain ⟨d,hd,rfl⟩:=List.mem_map.mp hr
  simp [Sx]) h.plain
theorem vA (sep:Str) (B:Nat):∀ ys:List Str,(∀ y ∈ ys,y.length ≤ B)→(Str.join sep ys).length ≤ ys.length * (B + sep.length)
 | [],_=>by show (Str.empty).length ≤ _;exact Nat.zero_le _
 | [a],h=>by
  have:=h a (by simp)
  show a.length ≤ _
  simp only [List.length_cons,List.length_nil];omega
 | a :: b :: r,h=>by
  have h1:=h a (by simp)
  have h2:=vA sep B (b :: r) fun y hy=>h y (List.mem_cons_of_mem _ hy)
  show (a ++ sep ++ Str.join sep (b :: r)).length ≤ _
  rw [sI,sI,List.length_cons,Nat.succ_mul]
  omega
theorem aP {n:Int} {ds:List WD} (h:COk n ds):(QJ n ds).length ≤ 1000:=by
 have h1:∀ y ∈ (sC n ds).map (Str.join bk),y.length ≤ 63:=fun y hy=>by
  obtain ⟨r,hr,rfl⟩:=List.mem_map.mp hy
  have:=vA bk 8 r fun x hx=>(h.plain r hr x hx).1
  rw [dL] at this
  have hl:r.length ≤ 7:=by
   rcases List.mem_cons.mp hr with rfl | hr
   ·simp
   ·obtain ⟨d,hd,rfl⟩:=List.mem_map.mp hr
    simp [Sx]
  omega
 have h2:=vA nl 63 _ h1
 rw [NG] at h2
 have h3:((sC n ds).map (Str.join bk)).length ≤ 13:=by
  have:=h.ln
  simp [sC];omega
 unfold QJ
 omega
end My
namespace My
open PySem L2
abbrev VF:List Str:=[Str.ofString "row",Str.ofString "told",Str.ofString "place"]
def rdF (row:Int) (ta:Addr) (pl:Int):List (Str × V):=[(Str.ofString "row",.int row),(Str.ofString "told",.ref ta),(Str.ofString "place",.int pl)]
theorem Il (row:Int) (ta:Addr) (pl:Int):(rdF row ta pl).map (·.1)=VF:=rfl
theorem CP (row:Int) (ta:Addr) (pl v:Int):dj (Str.ofString "place") (.int v) (rdF row ta pl)=rdF row ta v:=by
 unfold rdF
 simp only [dj]
 rw [if_neg (by decide +kernel),if_neg (by decide +kernel)];rfl
def cg (t:Adr) (H:Hp) (p:Addr) (row:Int) (ws:List Str) (pl:Nat):Prop:=
 (ws.length ≤ 1000∧∀ x ∈ ws,x.length ≤ 1000)∧∃ dx ta,H p=some (.ins t.Bb dx (rdF row ta pl))∧H ta=some (.lst (Cb ws))
def kd (p:Addr) (H H':Hp):Prop:=∀ b u,b ≠ p→H b=some u→H' b=some u
theorem kd.trans {p:Addr} {H H1 H2:Hp} (a:kd p H H1) (b:kd p H1 H2):kd p H H2:=fun c u n e=>b c u n (a c u n e)
theorem kd.of {p:Addr} {H H1:Hp} (a:Ac H H1):kd p H H1:=fun c u _ e=>a c u e
theorem kd.put {p:Addr} {H:Hp} {o:HO}:kd p H (upd H p o):=fun c u n e=>by rw [rb n];exact e
theorem Fd (ws:List Str):(Cb ws).length=ws.length:=by unfold Cb;rw [List.length_map]
theorem kS {ws:List Str} {i:Nat} {x:Str} (h:ws[i]? = some x):(Cb ws)[i]? = some (.str x):=by unfold Cb;rw [List.getElem?_map,h];rfl
theorem Ew (ws:List Str):(Cb ws).all wo=true:=by unfold Cb;simp [wo]
theorem SE (x:Str) (xs:List Str):inV (.str x) (Cb xs)=decide (x ∈ xs):=by
 unfold inV Cb
 rw [List.any_map,Bool.eq_iff_iff]
 simp only [List.any_eq_true,Function.comp,eqV,beq_iff_eq,decide_eq_true_eq]
 constructor
 ·rintro ⟨y,hy,rfl⟩;exact hy
 ·intro h;exact ⟨x,h,rfl⟩
section
variable {w:World} {K:PySem.W.Frag} {mg:Str→Option Value} {t:Adr} {H H':Hp} {p:Addr} {row:Int} {ws:List Str} {pl:Nat}
theorem cg.same (h:cg t H p row ws pl) (s:Ac H H'):cg t H' p row ws pl:=by
 obtain ⟨hz,dx,ta,e1,e2⟩:=h
 exact ⟨hz,dx,ta,s _ _ e1,s _ _ e2⟩
theorem cg.sameX {q:Addr} (h:cg t H p row ws pl) (s:kd q H H') (n:p ≠ q) (k:∃ C dx fs,H q=some (.ins C dx fs)):cg t H' p row ws pl:=by
 obtain ⟨hz,dx,ta,e1,e2⟩:=h
 obtain ⟨C,dq,fs,e3⟩:=k
 exact ⟨hz,dx,ta,s _ _ n e1,s _ _ (Fg e2 e3 (by intro z;cases z)) e2⟩
theorem cg.ins (h:cg t H p row ws pl):∃ C dx fs,H p=some (.ins C dx fs):=by
 obtain ⟨hz,dx,ta,e1,e2⟩:=h
 exact ⟨_,_,_,e1⟩
theorem cg.no {m:Str} (row:Int) (ta:Addr) (pl:Int) (h:VF.contains m=false):(rdF row ta pl).lookup m=none:=Hv VF (Il ..) h
theorem lz (T:Txt w K mg t) {dx ta:Addr} {pl:Int} (e:H p=some (.ins t.Bb dx (rdF row ta pl))):Op K H p (Str.ofString "place") (.int pl):=
 ⟨_,dx,_,e,T.yb,T.e10,af VF 2 (Il ..) (by decide +kernel) rfl⟩
theorem FI (T:Txt w K mg t) {dx ta:Addr} {pl:Int} (e:H p=some (.ins t.Bb dx (rdF row ta pl))):Op K H p (Str.ofString "told") (.ref ta):=
 ⟨_,dx,_,e,T.yb,T.e19,af VF 1 (Il ..) (by decide +kernel) rfl⟩
end
def wT (t:Adr):Sp:=fun vs H Q _=>∃ (p dx ta:Addr) (row:Int),vs=[.ref p,.int row,.ref ta]∧H p=some (.ins t.Bb dx [])∧Q .non (upd H p (.ins t.Bb dx (rdF row ta 0)))
def Lm (t:Adr):Sp:=fun vs H Q _=>∃ p row ws pl,vs=[.ref p]∧cg t H p row ws pl∧pl ≤ ws.length∧Q (.str (ws.getD pl (Str.ofString ""))) H
def gI (t:Adr):Sp:=fun vs H Q _=>∃ p row ws pl,vs=[.ref p]∧cg t H p row ws pl∧Q (.bl (decide (pl < ws.length))) H
def zW (t:Adr) (H:Hp) (p:Addr) (row:Int) (ws:List Str) (pl:Nat) (R:Hp→Prop):Prop:=∀ H',kd p H H'→(NoT H→NoT H')→cg t H' p row ws pl→R H'
def tF (t:Adr):Sp:=fun vs H Q _=>∃ p row ws pl,vs=[.ref p,.bl true]∧cg t H p row ws pl∧zW t H p row ws (pl + 1) (Q .non)
def IF (K:PySem.W.Frag) (t:Adr):Sp:=fun vs H Q _=>∃ p row ws pl x c xs,vs=[.ref p,.ref c]∧cg t H p row ws pl∧ws[pl]? = some x∧SqL K H c (Cb xs)∧x ∈ xs∧zW t H p row ws (pl + 1) (Q (.str x))
def XE (t:Adr):Sp:=fun vs H Q _=>∃ p row ws pl x lo hi v,vs=[.ref p,.int lo,.int hi]∧cg t H p row ws pl∧ws[pl]? = some x∧gB x lo hi=.int v∧NoT H∧zW t H p row ws (pl + 1) (Q (.int v))
def nO (t:Adr):Sp:=fun vs H Q _=>∃ p row ws pl,vs=[.ref p]∧cg t H p row ws pl∧pl=ws.length∧Q .non H
section
variable {P:Program} {w:World} {K:PySem.W.Frag} {mg:Str→Option Value} {base:Heap} {t:Adr}
theorem TX (T:Txt w K mg t):Nb P w K mg base CX0 1 t.Wg t.Vg ["self","row","told"] (wT t):=by
 refine T.wy.ok ip (fun vs H Q E h=>?_) (fun cdv A outer s H vs Q E hr h=>?_)
 ·obtain ⟨p,dx,ta,row,rfl,_⟩:=h;rfl
 obtain ⟨p,dx,ta,row,rfl,hp,q⟩:=h
 refine ⟨_,(gb (Jh (pv 0) (pv 1) rfl)
   (gb (Jh (pv 0) (pv 2) rfl)
   (qb (Jh (pv 0) Ab rfl)))),?_⟩
 (walk_at "RD")
 refine ⟨_,_,_,hp,T.yb,T.e27,by decide,?_⟩
 refine ⟨_,_,_,fb,T.yb,T.e19,Mv (n:=999) (by decide),?_⟩
 refine ⟨_,_,_,fb,T.yb,T.e10,Mv (n:=999) (Mv (n:=998) (by decide)),?_⟩
 simp only [vn]
 rw [show dj (Str.ofString "row") (V.int row) ([]:List (Str × V))=[(Str.ofString "row",V.int row)] from Yd [] rfl (by decide +kernel),
  show dj (Str.ofString "told") (V.ref ta) ([(Str.ofString "row",V.int row)]:List (Str × V))=[(Str.ofString "row",V.int row),(Str.ofString "told",V.ref ta)] from Yd [Str.ofString "row"] rfl (by decide +kernel),
  show dj (Str.ofString "place") (V.int 0) ([(Str.ofString "row",V.int row),(Str.ofString "told",V.ref ta)]:List (Str × V))=[(Str.ofString "row",V.int row),(Str.ofString "told",V.ref ta),(Str.ofString "place",V.int 0)] from Yd [Str.ofString "row",Str.ofString "told"] rfl (by decide +kernel)]
 exact q
theorem Xq (T:Txt w K mg t):Nb P w K mg base CX0 1 t.Lc t.Kc ["self"] (Lm t):=by
 refine T.xw.ok Wu (fun vs H Q E h=>?_) (fun cdv A outer s H vs Q E hr h=>?_)
 ·obtain ⟨p,row,ws,pl,rfl,_⟩:=h;rfl
 obtain ⟨p,row,ws,pl,rfl,⟨hz,dx,ta,e1,e2⟩,hle,q⟩:=h
 refine ⟨_,(gb (Xf (fc Fj (Kd (pv 0) rfl) (pe Qc rfl T.e311 Vd (cb (Kd (pv 0) rfl) ib)) (Bc _)) (qb (Rb Yb)) zc)
   (qb (Rb (Xg ke (Kd (pv 0) rfl) (Kd (pv 0) rfl) (fun _ _=>rfl))))),?_⟩
 (walk_at "RD")
 refine Cc (decide ((pl:Int)=(ws.length:Int))) (fun Q hQ=>?_) (fun c=>?_) (fun c=>?_)
 ·(walk_at "RD")
  refine ⟨_,lz T e1,_,FI T e1,_,rfl,_,.inl (SqL.of e2),rfl,?_⟩
  rw [Fd]
  (walk_at "RD")
  exact hQ
 ·(walk_at "RD")
  have c':pl=ws.length:=by have:=of_decide_eq_true c;omega
  rw [show ws.getD pl (Str.ofString "")=Str.ofString "" by rw [List.getD_eq_getElem?_getD,List.getElem?_eq_none (by omega)];rfl] at q
  exact q
 ·(walk_at "RD")
  have c':pl < ws.length:=by have:=of_decide_eq_false c;omega
  have hx:ws[pl]? = some ws[pl]:=List.getElem?_eq_getElem c'
  rw [List.getD_eq_getElem?_getD,hx] at q
  exact ⟨_,FI T e1,_,lz T e1,_,rfl,_,_,rfl,SqL.of e2,_,Me (kS hx),q⟩
theorem RO (T:Txt w K mg t):Nb P w K mg base CX0 1 t.ye t.ze ["self"] (gI t):=by
 refine T.Dr.ok up (fun vs H Q E h=>?_) (fun cdv A outer s H vs Q E hr h=>?_)
 ·obtain ⟨p,row,ws,pl,rfl,_⟩:=h;rfl
 obtain ⟨p,row,ws,pl,rfl,⟨hz,dx,ta,e1,e2⟩,q⟩:=h
 refine ⟨_,(qb (Rb (qh lE (Kd (pv 0) rfl) (pe Qc rfl T.e311 Vd (cb (Kd (pv 0) rfl) ib)) (Bc _)))),?_⟩
 (walk_at "RD")
 have e:decide (pl < ws.length)=decide ((pl:Int) < (ws.length:Int)):=by rw [Bool.eq_iff_iff];simp
 rw [e] at q
 refine ⟨_,lz T e1,_,FI T e1,_,rfl,_,.inl (SqL.of e2),?_⟩
 rw [Fd]
 exact ⟨_,rfl,q⟩
theorem qJ (T:Txt w K mg t):Nb P w K mg base CX0 1 t.Zc t.ad ["self","good"] (tF t):=by
 refine T.eo.ok um (fun vs H Q E h=>?_) (fun cdv A outer s H vs Q E hr h=>?_)
 ·obtain ⟨p,row,ws,pl,rfl,_⟩:=h;rfl
 obtain ⟨p,row,ws,pl,rfl,⟨hz,dx,ta,e1,e2⟩,q⟩:=h
 refine ⟨_,(gb (Xf (KB (vp (pv 1))) (qb br) zc)
   (qb (DG (pv 0) Ab XS))),?_⟩
 (walk_at "RD")
 refine Cc false (fun Q hQ=>?_) (fun hc=>nomatch hc) (fun _=>?_)
 ·(walk_at "RD")
  exact hQ
 ·(walk_at "RD")
  refine ⟨_,_,_,e1,T.yb,T.e10,_,af VF 2 (Il ..) (by decide +kernel) rfl,_,rfl,_,_,e1,by rw [← List.length_map (f:=(·.1)),Il];decide,?_⟩
  rw [CP]
  exact q _ kd.put (fun n=>n.upd) ⟨hz,dx,ta,fb,by rw [rb (Fg e2 e1 (by intro z;cases z))];exact e2⟩
theorem UK (T:Txt w K mg t):Nb P w K mg base CX0 2 t.Pc t.Nc ["self","choices"] (IF K t):=by
 have G_RowReader_ahead:Nb P w K mg base CX0 1 t.Lc t.Kc ["self"] (Lm t):=Xq T
 have G_RowReader_take:Nb P w K mg base CX0 1 t.Zc t.ad ["self","good"] (tF t):=qJ T
 refine T.Hk.ok Ef (fun vs H Q E h=>?_) (fun cdv A outer s H vs Q E hr h=>?_)
 ·obtain ⟨p,row,ws,pl,x,c,xs,rfl,_⟩:=h;rfl
 obtain ⟨p,row,ws,pl,x,c,xs,rfl,R,hx,hc,hm,q⟩:=h
 refine ⟨_,(gb (Pb (i:=2) Ef.nd rfl (Or.inl rfl) (oe (pv 0) T.yb T.Ie G_RowReader_ahead hr T.Ge .nil Ob))
   (gb (bd (Td (pv 0) T.yb T.Jf G_RowReader_take hr T.Lf .nil Ob (cb (qh au (pv 2) (pv 1) (by with_unfolding_all rfl)) ib)))
   (qb (Rb (pv 2))))),?_⟩
 have hlt:pl < ws.length:=(List.getElem?_eq_some_iff.mp hx).1
 have hg:ws.getD pl (Str.ofString "")=x:=by rw [List.getD_eq_getElem?_getD,hx];rfl
 obtain ⟨_,dx,ta,e1,e2⟩:=id R
 (walk_at "RD")
 refine ⟨_,_,e1,cg.no _ _ _ (by decide +kernel),⟨p,row,ws,pl,rfl,R,by omega,?_⟩⟩
 rw [hg]
 (walk_at "RD")
 refine ⟨_,_,e1,cg.no _ _ _ (by decide +kernel),_,.inl hc,rfl,Ew xs,?_⟩
 rw [SE,decide_eq_true hm]
 refine ⟨p,row,ws,pl,rfl,R,fun H' s1 s2 s3=>?_⟩
 (walk_at "RD")
 exact q H' s1 s2 s3
theorem UI (T:Txt w K mg t):Nb P w K mg base CX0 4 t.nc t.lc ["self","low","high"] (XE t):=by
 have G_RowReader_ahead:Nb P w K mg base CX0 3 t.Lc t.Kc ["self"] (Lm t):=(Xq T).mono (by decide)
 have G_RowReader_take:Nb P w K mg base CX0 3 t.Zc t.ad ["self","good"] (tF t):=(qJ T).mono (by decide)
 have G_figured:Nb P w K mg base CX0 3 t.jm t.np ["word","low","high"] VN:=cT T
 refine T.Dj.ok pf (fun vs H Q E h=>?_) (fun cdv A outer s H vs Q E hr h=>?_)
 ·obtain ⟨p,row,ws,pl,x,lo,hi,v,rfl,_⟩:=h;rfl
 obtain ⟨p,row,ws,pl,x,lo,hi,v,rfl,R,hx,hv,nt,q⟩:=h
 refine ⟨_,(gb (Pb (i:=3) pf.nd rfl (Or.inl rfl) (Fb G_figured hr rfl T.pH T.GG T.xG .nil Ob (cb (oe (pv 0) T.yb T.Ie G_RowReader_ahead hr T.Ge .nil Ob) (cb (pv 1) (cb (pv 2) ib)))))
   (gb (bd (Td (pv 0) T.yb T.Jf G_RowReader_take hr T.Lf .nil Ob (cb (qh MO (pv 3) cK (Bc _)) ib)))
   (qb (Rb (pv 3))))),?_⟩
 have hlt:pl < ws.length:=(List.getElem?_eq_some_iff.mp hx).1
 have hg:ws.getD pl (Str.ofString "")=x:=by rw [List.getD_eq_getElem?_getD,hx];rfl
 obtain ⟨hz,dx,ta,e1,e2⟩:=id R
 (walk_at "RD")
 refine ⟨_,_,e1,cg.no _ _ _ (by decide +kernel),⟨p,row,ws,pl,rfl,R,by omega,?_⟩⟩
 rw [hg]
 (walk_at "RD")
 refine ⟨x,lo,hi,rfl,hz.2 x (List.mem_of_getElem? hx),nt,?_⟩
 rw [hv]
 (walk_at "RD")
 refine ⟨_,_,e1,cg.no _ _ _ (by decide +kernel),?_⟩
 refine ⟨p,row,ws,pl,rfl,R,fun H' s1 s2 s3=>?_⟩
 (walk_at "RD")
 exact q H' s1 s2 s3
theorem MS (T:Txt w K mg t):Nb P w K mg base CX0 2 t.Tc t.Rc ["self"] (nO t):=by
 have G_RowReader_has_more:Nb P w K mg base CX0 1 t.ye t.ze ["self"] (gI t):=RO T
 refine T.ml.ok Wj (fun vs H Q E h=>?_) (fun cdv A outer s H vs Q E hr h=>?_)
 ·obtain ⟨p,row,ws,pl,rfl,_⟩:=h;rfl
 obtain ⟨p,row,ws,pl,rfl,R,hl,q⟩:=h
 obtain ⟨hz,dx,ta,e1,e2⟩:=id R
 refine ⟨_,(qb (Xf (vp (oe (pv 0) T.yb T.Si G_RowReader_has_more hr T.Xi .nil Ob)) (qb br) zc)),?_⟩
 (walk_at "RD")
 refine Cc false (fun Q hQ=>?_) (fun hc=>nomatch hc) (fun _=>?_)
 ·(walk_at "RD")
  refine ⟨_,_,e1,cg.no _ _ _ (by decide +kernel),⟨p,row,ws,pl,rfl,R,?_⟩⟩
  rw [decide_eq_false (by omega)]
  exact ⟨_,rfl,hQ⟩
 ·(walk_at "RD")
  exact q
end
end My
namespace My
open PySem L2
abbrev wd (ws:List Str) (k:Nat):Str:=ws.getD k (Str.ofString "")
theorem oX {ws:List Str} (h:∀ x ∈ ws,x.length ≤ 1000) (k:Nat):(wd ws k).length ≤ 1000:=by
 unfold wd
 rw [List.getD_eq_getElem?_getD]
 cases e:ws[k]? with
 | none=>exact Nat.le_trans (show (Str.ofString "").length ≤ 0 by decide +kernel) (Nat.zero_le _)
 | some x=>exact h x (List.mem_of_getElem? e)
theorem BS {ws:List Str} {k:Nat} (h:wd ws k ≠ Str.ofString ""):k < ws.length:=by
 refine Classical.byContradiction fun z=>h ?_
 unfold wd
 rw [List.getD_eq_getElem?_getD,List.getElem?_eq_none (by omega)];rfl
theorem JD (w:Str) (lo hi:Int):(∃ v,gB w lo hi=.int v∧lo ≤ v∧v ≤ hi∧w ≠ Str.ofString "")∨gB w lo hi=.non:=by
 unfold gB
 split
 ·rename_i h
  rw [Bool.and_eq_true] at h
  refine .inl ⟨val w,rfl,?_,?_,fun z=>?_⟩
  ·have:=h.2;simp at this;omega
  ·have:=h.2;simp at this;omega
  ·have h1:=h.1
   rw [z] at h1
   exact absurd h1 (by decide +kernel)
 ·exact .inr rfl
theorem Ml {i:Int} (h:i.natAbs < 100000):i.natAbs.log2 < 1920:=by
 by_cases h0:i.natAbs=0
 ·rw [h0];decide
 ·exact (Nat.log2_lt h0).mpr (Nat.lt_trans h (by decide))
def bC (t:Adr) (i:Int) (k:Nat) (p:Addr) (H:Hp) (E:XK):Prop:=∀ dx H',kd p H H'→(NoT H→NoT H')→H' dx=some (.ext (XD dx [(Str.ofString "row",.int i),(Str.ofString "word",.int k)]))→E (.ref t.Lb) (some dx) H'
theorem bC.step {t:Adr} {i:Int} {k:Nat} {p:Addr} {H H1:Hp} {E:XK} (h:bC t i k p H E) (s:kd p H H1) (n:NoT H→NoT H1):bC t i k p H1 E:=fun dx H' s' n' e=>h dx H' (s.trans s') (fun z=>n' (n z)) e
theorem EY {w:World} {K:PySem.W.Frag} {mg:Str→Option Value} {t:Adr} {H:Hp} {p:Addr} {row:Int} (T:Txt w K mg t) {dx ta:Addr} {pl:Int} (e:H p=some (.ins t.Bb dx (rdF row ta pl))):Op K H p (Str.ofString "row") (.int row):=
 ⟨_,dx,_,e,T.yb,T.e27,af VF 0 (Il ..) (by decide +kernel) rfl⟩
def kT (t:Adr):Sp:=fun vs H Q _=>∃ x i j,vs=[.ref x,.int i,.int j]∧i.natAbs.log2 < 1920∧j.natAbs.log2 < 1920∧H x=some (.ext (XF x t.Lb none)) ∧
 ∀ dx,H dx=none→dx ≠ x→Q .non (upd (upd H x (.ext (XF x t.Lb (some dx)))) dx (.ext (XD dx [(Str.ofString "row",.int i),(Str.ofString "word",.int j)])))
def yI (t:Adr):Sp:=fun vs H Q E=>∃ p row ws pl,vs=[.ref p]∧cg t H p row ws pl∧(0 ≤ row∧row ≤ 10000)∧pl ≤ 10000∧bC t row pl p H E
def nF (t:Adr):Sp:=fun vs H Q E=>∃ p row ws pl g,vs=[.ref p,.bl g]∧cg t H p row ws pl∧(0 ≤ row∧row ≤ 10000)∧pl ≤ 10000∧(g=true→zW t H p row ws (pl + 1) (Q .non))∧(g=false→bC t row pl p H E)
def Az (K:PySem.W.Frag) (t:Adr):Sp:=fun vs H Q E=>∃ p row ws pl c xs,vs=[.ref p,.ref c]∧cg t H p row ws pl∧(0 ≤ row∧row ≤ 10000)∧pl ≤ ws.length∧SqL K H c (Cb xs) ∧
 (wd ws pl ∈ xs→zW t H p row ws (pl + 1) (Q (.str (wd ws pl))))∧(wd ws pl ∉ xs→bC t row pl p H E)
def kE (t:Adr):Sp:=fun vs H Q E=>∃ p row ws pl lo hi,vs=[.ref p,.int lo,.int hi]∧cg t H p row ws pl∧(0 ≤ row∧row ≤ 10000)∧pl ≤ ws.length∧NoT H ∧
 (∀ v,gB (wd ws pl) lo hi=.int v→zW t H p row ws (pl + 1) (Q (.int v)))∧(gB (wd ws pl) lo hi=.non→bC t row pl p H E)
def zI (t:Adr):Sp:=fun vs H Q E=>∃ p row ws pl,vs=[.ref p]∧cg t H p row ws pl∧(0 ≤ row∧row ≤ 10000)∧(¬ pl < ws.length→Q .non H)∧(pl < ws.length→bC t row pl p H E)
section
variable {P:Program} {w:World} {K:PySem.W.Frag} {mg:Str→Option Value} {base:Heap} {t:Adr}
theorem yX (T:Txt w K mg t):Nb P w K mg base CX0 1 t.bj t.ij ["self","row","word"] (kT t):=by
 refine T.RE.ok Tu (fun vs H Q E h=>?_) (fun cdv A outer s H vs Q E hr h=>?_)
 ·obtain ⟨x,i,j,rfl,_⟩:=h;rfl
 obtain ⟨x,i,j,rfl,hi,hj,hx,q⟩:=h
 refine ⟨_,(gb (bd (az rfl T.wj T.Qm (cb (pv 0) (cb (Nu (lj (vK (pv 1) (lj (vK (pv 2) eL)))) (by rw [sizeLine_eq];decide)) ib))))
   (gb (iz (pv 0) (pv 1) rfl)
   (qb (gz (pv 0) (pv 2) rfl)))),?_⟩
 (walk_at "RD")
 refine ⟨hi,hj,fun y=>⟨_,_,hx,T.Zq,?_⟩⟩
 refine ⟨_,hx,T.Zq,T.e95,fun dx hd hne=>?_⟩
 refine ⟨_,dx,by rw [rb (Ne.symm hne),fb],_,fb,T.Zq,T.e55,show 1 < 1000 by decide,?_⟩
 rw [vn,show dj (Str.ofString "word") (V.int j) ([(Str.ofString "row",V.int i)]:List (Str × V))=[(Str.ofString "row",V.int i),(Str.ofString "word",V.int j)] from Yd [Str.ofString "row"] rfl (by decide +kernel)]
 exact q dx hd hne
theorem dQ (T:Txt w K mg t):Nb P w K mg base (CX1 P w) 3 t.Ze t.Ue ["self"] (yI t):=by
 have G_NoText_init:Nb P w K mg base CX0 1 t.bj t.ij ["self","row","word"] (kT t):=yX T
 refine T.Ju.okX Bt (fun vs H Q E h=>?_) (fun cdv A outer s H vs Q E hr h=>?_)
 ·obtain ⟨p,row,ws,pl,rfl,_⟩:=h;rfl
 obtain ⟨p,row,ws,pl,rfl,⟨hz,dx,ta,e1,e2⟩,hrow,hpl,q⟩:=h
 refine ⟨_,(qb (jz (cz T.BO G_NoText_init hr rfl T.IK T.NE (cb (Kd (pv 0) rfl) (cb (Kd (pv 0) rfl) ib))) DF)),?_⟩
 (walk_at "RD")
 refine ⟨_,EY T e1,_,lz T e1,by decide,fun a ha=>⟨a,row,pl,rfl,Ml (by omega),Ml (by omega),fb,fun d hd hne=>?_⟩⟩
 have hd0:H d=none:=by rw [rb hne] at hd;exact hd
 refine ⟨rfl,t.Lb,some d,by rw [rb (Ne.symm hne),fb],T.Zq,q d _ (fun b u _ e=>?_) (fun nt=>(((nt.upd).upd).upd).upd) (by rw [rb hne,fb])⟩
 rw [rb (zb e ha),rb (zb e hd0),rb (zb e ha),rb (zb e ha)]
 exact e
theorem FK (T:Txt w K mg t):Nb P w K mg base (CX1 P w) 4 t.Zc t.ad ["self","good"] (nF t):=by
 have GX_RowReader_refuse:Nb P w K mg base (CX1 P w) 3 t.Ze t.Ue ["self"] (yI t):=dQ T
 refine T.eo.okX um (fun vs H Q E h=>?_) (fun cdv A outer s H vs Q E hr h=>?_)
 ·obtain ⟨p,row,ws,pl,g,rfl,_⟩:=h;rfl
 obtain ⟨p,row,ws,pl,g,rfl,R,hrow,hpl,q1,q2⟩:=h
 obtain ⟨hz,dx,ta,e1,e2⟩:=id R
 refine ⟨_,(gb (Xf (KB (vp (pv 1))) (qb (bd (oe (pv 0) T.yb T.Ll GX_RowReader_refuse hr T.Tk .nil Gf))) zc)
   (qb (DG (pv 0) Ab XS))),?_⟩
 (walk_at "RD")
 refine Cc (!g) (fun Q hQ=>?_) (fun c=>?_) (fun c=>?_)
 ·(walk_at "RD")
  exact hQ
 ·(walk_at "RD")
  have hg:g=false:=by simpa using c
  exact ⟨_,_,e1,cg.no _ _ _ (by decide +kernel),⟨p,row,ws,pl,rfl,R,hrow,hpl,q2 hg⟩⟩
 ·(walk_at "RD")
  have hg:g=true:=by simpa using c
  refine ⟨_,_,_,e1,T.yb,T.e10,_,af VF 2 (Il ..) (by decide +kernel) rfl,_,rfl,_,_,e1,by rw [← List.length_map (f:=(·.1)),Il];decide,?_⟩
  rw [CP]
  exact q1 hg _ kd.put (fun n=>n.upd) ⟨hz,dx,ta,fb,by rw [rb (Fg e2 e1 (by intro z;cases z))];exact e2⟩
theorem QF (T:Txt w K mg t):Nb P w K mg base (CX1 P w) 5 t.Pc t.Nc ["self","choices"] (Az K t):=by
 have G_RowReader_ahead:Nb P w K mg base CX0 4 t.Lc t.Kc ["self"] (Lm t):=(Xq T).mono (by decide)
 have GX_RowReader_take:Nb P w K mg base (CX1 P w) 4 t.Zc t.ad ["self","good"] (nF t):=FK T
 refine T.Hk.okX Ef (fun vs H Q E h=>?_) (fun cdv A outer s H vs Q E hr h=>?_)
 ·obtain ⟨p,row,ws,pl,c,xs,rfl,_⟩:=h;rfl
 obtain ⟨p,row,ws,pl,c,xs,rfl,R,hrow,hpl,hc,q1,q2⟩:=h
 refine ⟨_,(gb (Pb (i:=2) Ef.nd rfl (Or.inl rfl) (oe (pv 0) T.yb T.Ie G_RowReader_ahead hr T.Ge .nil Ob))
   (gb (bd (Td (pv 0) T.yb T.Jf GX_RowReader_take hr T.Lf .nil Gf (cb (qh au (pv 2) (pv 1) (by with_unfolding_all rfl)) ib)))
   (qb (Rb (pv 2))))),?_⟩
 obtain ⟨hz,dx,ta,e1,e2⟩:=id R
 (walk_at "RD")
 refine ⟨_,_,e1,cg.no _ _ _ (by decide +kernel),⟨p,row,ws,pl,rfl,R,hpl,?_⟩⟩
 (walk_at "RD")
 refine ⟨_,_,e1,cg.no _ _ _ (by decide +kernel),_,.inl hc,rfl,Ew xs,?_⟩
 rw [SE]
 refine ⟨p,row,ws,pl,_,rfl,R,hrow,by omega,fun g H' s1 s2 s3=>?_,fun g=>q2 (of_decide_eq_false g)⟩
 (walk_at "RD")
 exact q1 (of_decide_eq_true g) H' s1 s2 s3
theorem qK (T:Txt w K mg t):Nb P w K mg base (CX1 P w) 5 t.nc t.lc ["self","low","high"] (kE t):=by
 have G_RowReader_ahead:Nb P w K mg base CX0 4 t.Lc t.Kc ["self"] (Lm t):=(Xq T).mono (by decide)
 have GX_RowReader_take:Nb P w K mg base (CX1 P w) 4 t.Zc t.ad ["self","good"] (nF t):=FK T
 have G_figured:Nb P w K mg base CX0 4 t.jm t.np ["word","low","high"] VN:=(cT T).mono (by decide)
 refine T.Dj.okX pf (fun vs H Q E h=>?_) (fun cdv A outer s H vs Q E hr h=>?_)
 ·obtain ⟨p,row,ws,pl,lo,hi,rfl,_⟩:=h;rfl
 obtain ⟨p,row,ws,pl,lo,hi,rfl,R,hrow,hpl,nt,q1,q2⟩:=h
 refine ⟨_,(gb (Pb (i:=3) pf.nd rfl (Or.inl rfl) (Fb G_figured hr rfl T.pH T.GG T.xG .nil Ob (cb (oe (pv 0) T.yb T.Ie G_RowReader_ahead hr T.Ge .nil Ob) (cb (pv 1) (cb (pv 2) ib)))))
   (gb (bd (Td (pv 0) T.yb T.Jf GX_RowReader_take hr T.Lf .nil Gf (cb (qh MO (pv 3) cK (Bc _)) ib)))
   (qb (Rb (pv 3))))),?_⟩
 obtain ⟨hz,dx,ta,e1,e2⟩:=id R
 (walk_at "RD")
 refine ⟨_,_,e1,cg.no _ _ _ (by decide +kernel),⟨p,row,ws,pl,rfl,R,hpl,?_⟩⟩
 (walk_at "RD")
 refine ⟨_,lo,hi,rfl,oX hz.2 pl,nt,?_⟩
 rcases JD (wd ws pl) lo hi with ⟨v,hv,_⟩ | hv
 ·rw [hv]
  (walk_at "RD")
  refine ⟨_,_,e1,cg.no _ _ _ (by decide +kernel),?_⟩
  refine ⟨p,row,ws,pl,_,rfl,R,hrow,by omega,fun g H' s1 s2 s3=>?_,fun g=>by cases g⟩
  (walk_at "RD")
  exact q1 v hv H' s1 s2 s3
 ·rw [hv]
  (walk_at "RD")
  refine ⟨_,_,e1,cg.no _ _ _ (by decide +kernel),?_⟩
  exact ⟨p,row,ws,pl,_,rfl,R,hrow,by omega,(fun g=>by cases g),fun g=>q2 hv⟩
theorem FN (T:Txt w K mg t):Nb P w K mg base (CX1 P w) 4 t.Tc t.Rc ["self"] (zI t):=by
 have G_RowReader_has_more:Nb P w K mg base CX0 3 t.ye t.ze ["self"] (gI t):=(RO T).mono (by decide)
 have GX_RowReader_refuse:Nb P w K mg base (CX1 P w) 3 t.Ze t.Ue ["self"] (yI t):=dQ T
 refine T.ml.okX Wj (fun vs H Q E h=>?_) (fun cdv A outer s H vs Q E hr h=>?_)
 ·obtain ⟨p,row,ws,pl,rfl,_⟩:=h;rfl
 obtain ⟨p,row,ws,pl,rfl,R,hrow,q1,q2⟩:=h
 obtain ⟨hz,dx,ta,e1,e2⟩:=id R
 refine ⟨_,(qb (Xf (vp (oe (pv 0) T.yb T.Si G_RowReader_has_more hr T.Xi .nil Ob)) (qb (bd (oe (pv 0) T.yb T.Ll GX_RowReader_refuse hr T.Tk .nil Gf))) zc)),?_⟩
 (walk_at "RD")
 refine Cc (decide (pl < ws.length)) (fun Q hQ=>?_) (fun c=>?_) (fun c=>?_)
 ·(walk_at "RD")
  refine ⟨_,_,e1,cg.no _ _ _ (by decide +kernel),⟨p,row,ws,pl,rfl,R,?_⟩⟩
  exact ⟨_,rfl,hQ⟩
 ·(walk_at "RD")
  have hl:=of_decide_eq_true c
  exact ⟨_,_,e1,cg.no _ _ _ (by decide +kernel),⟨p,row,ws,pl,rfl,R,hrow,by omega,q2 hl⟩⟩
 ·(walk_at "RD")
  exact q1 (of_decide_eq_false c)
end
def Oc {α:Type} (m:Except Nat α) (ok:α→Prop) (er:Nat→Prop):Prop:=match m with | .ok a=>ok a | .error k=>er k
def Am (x:Str) (lo hi:Int):Option Int:=if okB x && !(decide (val x < lo) || decide (hi < val x)) then some (val x) else none
theorem iG (x:Str) (lo hi:Int):gB x lo hi=(Am x lo hi).elim .non .int:=by
 unfold gB Am
 split <;> rfl
theorem pF {x:Str} {lo hi v:Int} (h:gB x lo hi=.int v):Am x lo hi=some v:=by
 rw [iG] at h
 cases e:Am x lo hi with
 | none=>rw [e] at h;cases h
 | some u=>rw [e] at h;injection h with h;rw [h]
theorem Iz {x:Str} {lo hi:Int} (h:gB x lo hi=.non):Am x lo hi=none:=by
 rw [iG] at h
 cases e:Am x lo hi with
 | none=>rfl
 | some u=>rw [e] at h;cases h
theorem jE {ws:List Str} {k:Nat} {lo hi v:Int} (h:gB (wd ws k) lo hi=.int v):k + 1 ≤ ws.length∧lo ≤ v∧v ≤ hi:=by
 rcases JD (wd ws k) lo hi with ⟨u,hu,h1,h2,h3⟩ | hn
 ·rw [hu] at h
  injection h with h
  subst h
  exact ⟨BS h3,h1,h2⟩
 ·rw [hn] at h;cases h
def Oc2 {α:Type} (m:Except (Nat × Nat) α) (ok:α→Prop) (er:Nat→Nat→Prop):Prop:=match m with | .ok a=>ok a | .error e=>er e.1 e.2
theorem jw {α:Type} {l:List α} {a x:α} {i:Nat} (h:(l ++ [a])[i]? = some x):(i < l.length∧l[i]? = some x)∨(i=l.length∧x=a):=by
 by_cases hi:i < l.length
 ·rw [List.getElem?_append_left hi] at h
  exact .inl ⟨hi,h⟩
 ·rw [List.getElem?_append_right (by omega)] at h
  have h0:i - l.length=0:=by
   cases hh:i - l.length with
   | zero=>rfl
   | succ m=>rw [hh] at h;simp at h
  rw [h0] at h
  exact .inr ⟨by omega,(by simpa using h:a=x).symm⟩
def GZ (t:Adr) (i k:Nat) (H:Hp) (E:XK):Prop:=∀ dx H',Ac H H'→NoT H'→H' dx=some (.ext (XD dx [(Str.ofString "row",.int i),(Str.ofString "word",.int k)]))→E (.ref t.Lb) (some dx) H'
end My
namespace My
open PySem L2
theorem Fc {α β:Type} {f:α→β} {l:List α} {i:Nat} {y:β} (h:(l.map f)[i]? = some y):∃ x,l[i]? = some x∧y=f x:=by
 rw [List.getElem?_map] at h
 cases e:l[i]? with
 | none=>rw [e] at h;cases h
 | some x=>rw [e] at h;exact ⟨x,rfl,(Option.some.inj h).symm⟩
def BZ (t:Adr) (H0 H:Hp) (p:Addr) (rows:List (List Str)):Prop:=∃ qs:List Addr,H p=some (.lst (qs.map V.ref))∧H0 p=none∧qs.length=rows.length∧∀ (i:Nat) (q:Addr) (r:List Str),qs[i]? = some q→rows[i]? = some r→cg t H q i r 0∧H0 q=none
def Zv (t:Adr):Sp:=fun vs H Q _=>∃ x,vs=[.str x]∧x.length ≤ 20000∧(∀ r ∈ Xj x,r.length ≤ 1000∧∀ y ∈ r,y.length ≤ 1000)∧NoT H∧∀ p H',Ac H H'→NoT H'→BZ t H H' p (Xj x)→Q (.ref p) H'
section
variable {P:Program} {w:World} {K:PySem.W.Frag} {mg:Str→Option Value} {base:Heap} {t:Adr}
theorem ED (T:Txt w K mg t):Nb P w K mg base CX0 3 t.Zl t.Fo ["text"] (Zv t):=by
 have G_words:Nb P w K mg base CX0 2 t.PB t.ZE ["text"] SK:=(WQ T).mono (by decide)
 have G_RowReader_init:Nb P w K mg base CX0 1 t.Wg t.Vg ["self","row","told"] (wT t):=TX T
 refine T.KP.ok CL (fun vs H Q E h=>?_) (fun cdv A outer s H vs Q E hr h=>?_)
 ·obtain ⟨x,rfl,_⟩:=h;rfl
 obtain ⟨x,rfl,hz,hrow,nt,q⟩:=h
 refine ⟨_,(qb (Rb (yn rfl (bB rfl T.e38 (cb (Fb G_words hr rfl T.aV T.uV T.nW .nil Ob (cb (pv 0) ib)) ib)) (ue (sc:=db ig) rfl (by decide +kernel)) (N:=["row","told"]) (sel:=[none,none]) (qf (M:=["text"]) (by decide +kernel)) (Blk.of (fun _ _ _ _=>(Rh (K:=K) (n:=2) rfl rfl (ic (Kb (i:=0) (vj (N:=["row","told"]) (by decide +kernel) rfl) rfl (Or.inl rfl) (.inr rfl)) (ic (Kb (i:=1) (vj (N:=["row","told"]) (by decide +kernel) rfl) rfl (Or.inl rfl) (.inr rfl)) Xh)))) (fun _ _ _ _=>⟨_,Mi,by first | rfl | (dsimp only [Cx.block];done) | (dsimp only [Cx.block];exact rfl)⟩) (fun _ _ _ _=>⟨_,(Gw T.JI G_RowReader_init hr rfl T.VJ T.yy .nil Ob (cb (pv 0) (cb (pv 1) ib))),by first | rfl | (dsimp only [Cx.block];done) | (dsimp only [Cx.block];exact rfl)⟩))))),?_⟩
 (walk_at "RD")
 refine ⟨x,rfl,hz,nt,fun p H1 sm1 nt1 ⟨ps,hp,hp0,hpn,hpl,hpa⟩=>?_⟩
 (walk_at "RD")
 refine ⟨⟨_,SqL.of hp⟩,?_⟩
 have hlen:ps.length ≤ sizeLine:=by
  rw [hpl]
  unfold Xj
  rw [List.length_map]
  have:=pA (x:=x) (y:=nl) (by rw [NG];exact Nat.le_refl _)
  exact Nat.le_trans (show _ ≤ 40000 by omega) (by decide)
 refine yf.enum (xs:=ps.map V.ref) (fun i ys H2=>Ac H1 H2∧NoT H2∧∃ qs:List Addr,ys=qs.map V.ref∧qs.length=i∧∀ (j:Nat) (q:Addr) (r:List Str),qs[j]? = some q→(Xj x)[j]? = some r→cg t H2 q j r 0∧H1 q=none)
  (by rw [List.length_map];exact hlen) ⟨Ac.refl H1,nt1,[],rfl,rfl,fun j q r h _=>by simp at h⟩ ?_ ?_ ?_
 ·rintro i ys H2 hi ⟨s2,n2,qs,rfl,hq,_⟩
  exact ⟨SqL.of (s2 _ _ hp),by rw [List.length_map];omega⟩
 ·rintro i v ys H2 p2 hv ⟨s2,n2,qs,rfl,hq,al⟩ hp2 N hN
  rw [List.getElem?_map] at hv
  cases hpi:ps[i]? with
  | none=>rw [hpi] at hv;cases hv
  | some pi=>
   rw [hpi] at hv
   have e:=(Option.some.inj hv).symm
   subst e
   refine gp ?_
   (walk_at "RD")
   refine ⟨Sub.name2,fun a dx ha hd hne=>?_⟩
   refine ⟨a,dx,pi,i,rfl,fb,rfl,?_⟩
   rw [vn]
   have s3:Ac H2 (upd (upd (upd H2 p2 (.tup [.int i,.ref pi])) dx (.own a)) a (.ins t.Bb dx (rdF i pi 0))):=by
    have s':Ac H2 (upd H2 p2 (.tup [.int i,.ref pi])):=pb hp2
    exact ((Ac.trans s' (pb hd)).updN (s'.free ha))
   obtain ⟨r,hr⟩:∃ r,(Xj x)[i]? = some r:=⟨(Xj x)[i]'(by rw [← hpl];exact (List.getElem?_eq_some_iff.mp hpi).1),List.getElem?_eq_getElem _⟩
   have ha2:H2 a=none:=(pb hp2).free ha
   refine hN _ _ ⟨s2.trans s3,((n2.upd).upd).upd,qs ++ [a],by rw [List.map_append];rfl,by rw [List.length_append,hq];rfl,fun j q' r' h1 h2=>?_⟩
   by_cases hj:j < qs.length
   ·rw [List.getElem?_append_left hj] at h1
    obtain ⟨z1,z2⟩:=al j q' r' h1 h2
    exact ⟨z1.same s3,z2⟩
   ·rw [List.getElem?_append_right (by omega)] at h1
    have hj0:j - qs.length=0:=by
     cases hh:j - qs.length with
     | zero=>rfl
     | succ n=>rw [hh] at h1;simp at h1
    rw [hj0] at h1
    have e3:a=q':=by simpa using h1
    subst e3
    have e4:j=i:=by omega
    subst e4
    rw [hr] at h2
    cases h2
    refine ⟨⟨hrow r (List.mem_of_getElem? hr),dx,pi,fb,?_⟩,s2.free ha2⟩
    exact s3 _ _ (s2 _ _ (hpa j pi r hpi hr).1)
 ·rintro ys H2 ⟨s2,n2,qs,rfl,hq,al⟩ p2 hp2
  refine q p2 _ ((sm1.trans s2).updN ((sm1.trans s2).free hp2)) (n2.upd) ⟨qs,fb,(sm1.trans s2).free hp2,by rw [hq,List.length_map,hpl],fun i q' r h1 h2=>?_⟩
  obtain ⟨z1,z2⟩:=al i q' r h1 h2
  exact ⟨z1.same (pb hp2),sm1.free z2⟩
end
def VZ (q:Addr) (H:Hp) (R:Hp→Prop):Prop:=∀ H',kd q H H'→NoT H'→R H'
def FO (t:Adr):Sp:=fun vs H Q _=>∃ q row n,vs=[.ref q]∧cg t H q row [Str.ofString "ring",num n] 0∧(2 ≤ n∧n ≤ 99)∧NoT H∧VZ q H (Q (.int n))
def Fq (t:Adr) (H:Hp) (wl:Addr) (ds:List WD):Prop:=∃ as:List Addr,H wl=some (.lst (as.map V.ref))∧as.length=ds.length∧∀ (i:Nat) (a:Addr) (d:WD),as[i]? = some a→ds[i]? = some d→Dg t H a d
def nD (t:Adr):Sp:=fun vs H Q _=>∃ q row ws pl wl ds x,vs=[.ref q,.ref wl]∧cg t H q row ws pl∧ws[pl]? = some x∧made x gw 8=true∧Fq t H wl ds∧ds.length ≤ 12∧(∀ d ∈ ds,d.name ≠ x)∧NoT H ∧
 ∀ H',kd q H H'→NoT H'→cg t H' q row ws (pl + 1)→Q (.str x) H'
def ET (t:Adr):Sp:=fun vs H Q _=>∃ q row ws pl n st fi,vs=[.ref q,.int n,.int st]∧cg t H q row ws pl∧ws[pl]? = some (num fi)∧(0 ≤ st∧st < n)∧(0 ≤ fi∧fi < n)∧st ≠ fi∧n ≤ 99∧NoT H ∧
 ∀ H',kd q H H'→NoT H'→cg t H' q row ws (pl + 1)→Q (.int fi) H'
def lK (t:Adr):Sp:=fun vs H Q _=>∃ d:WD,vs=[.str (Sh d.k),.str d.name,.int d.start,.int d.fin,.int d.off,.int d.near,.int d.least]∧d.k < 3∧∀ x H',Ac H H'→(NoT H→NoT H')→Dg t H' x d→H x=none→Q (.ref x) H'
def OT (t:Adr):Sp:=fun vs H Q _=>∃ q row n wl ds d,vs=[.ref q,.int n,.ref wl]∧cg t H q row (Sx d) 0∧WOk n d∧(2 ≤ n∧n ≤ 99)∧Fq t H wl ds∧ds.length ≤ 12∧(∀ e ∈ ds,e.name ≠ d.name)∧NoT H ∧
 ∀ x H',kd q H H'→NoT H'→Dg t H' x d→H x=none→Q (.ref x) H'
theorem Fq.sameX {t:Adr} {H H':Hp} {q wl:Addr} {ds:List WD} {row:Int} {ws:List Str} {pl:Nat} (h:Fq t H wl ds) (s:kd q H H') (r:cg t H q row ws pl):Fq t H' wl ds:=by
 obtain ⟨as,e1,e2,al⟩:=h
 obtain ⟨hz,dx,ta,e3,e4⟩:=r
 refine ⟨as,s _ _ (Fg e1 e3 (by intro z;cases z)) e1,e2,fun i a d h1 h2=>?_⟩
 obtain ⟨hk,dx',e5⟩:=al i a d h1 h2
 refine ⟨hk,dx',s _ _ (fun z=>?_) e5⟩
 subst z
 rw [e5] at e3
 have e6:=Option.some.inj e3
 injection e6 with _ _ e8
 have e9:(7:Nat)=3:=congrArg List.length e8
 omega
theorem Fq.same {t:Adr} {H H':Hp} {wl:Addr} {ds:List WD} (h:Fq t H wl ds) (s:Ac H H'):Fq t H' wl ds:=by
 obtain ⟨as,e1,e2,al⟩:=h
 exact ⟨as,s _ _ e1,e2,fun i a d h1 h2=>(al i a d h1 h2).same s⟩
section
variable {P:Program} {w:World} {K:PySem.W.Frag} {mg:Str→Option Value} {base:Heap} {t:Adr}
theorem TU (T:Txt w K mg t):Nb P w K mg base CX0 5 t.Cj t.Nm ["reader"] (FO t):=by
 have G_RowReader_one_of:Nb P w K mg base CX0 4 t.Pc t.Nc ["self","choices"] (IF K t):=(UK T).mono (by decide)
 have G_RowReader_figures:Nb P w K mg base CX0 4 t.nc t.lc ["self","low","high"] (XE t):=UI T
 have G_RowReader_finish:Nb P w K mg base CX0 4 t.Tc t.Rc ["self"] (nO t):=(MS T).mono (by decide)
 refine T.qI.ok Lx (fun vs H Q E h=>?_) (fun cdv A outer s H vs Q E hr h=>?_)
 ·obtain ⟨q,row,n,rfl,_⟩:=h;rfl
 obtain ⟨q,row,n,rfl,R,hn,nt,qq⟩:=h
 refine ⟨_,(gb (bd (Td (pv 0) T.yb T.Re G_RowReader_one_of hr T.We .nil Ob (cb (mf (cb Yb ib)) ib)))
   (gb (Pb (i:=1) Lx.nd rfl (Or.inl rfl) (Td (pv 0) T.yb T.kc G_RowReader_figures hr T.jc .nil Ob (cb (Uh rfl T.e99 T.FC) (cb (Uh rfl T.e163 T.zF) ib))))
   (gb (bd (oe (pv 0) T.yb T.bg G_RowReader_finish hr T.Yf .nil Ob))
   (qb (Rb (pv 1)))))),?_⟩
 obtain ⟨_,dx,ta,e1,e2⟩:=id R
 (walk_at "RD")
 refine ⟨_,_,e1,cg.no _ _ _ (by decide +kernel),by decide,fun p hp=>?_⟩
 have s0:Ac H (upd H p (.lst [V.str (Str.ofString "ring")])):=pb hp
 refine ⟨q,row,_,0,Str.ofString "ring",p,[Str.ofString "ring"],rfl,R.same s0,rfl,SqL.of fb,by simp,fun H1 s1 n1 R1=>?_⟩
 obtain ⟨_,dx1,ta1,f1,f2⟩:=id R1
 (walk_at "RD")
 refine ⟨_,_,f1,cg.no _ _ _ (by decide +kernel),?_⟩
 have nt1:=n1 nt.upd
 refine ⟨q,row,_,1,num n,2,99,n,rfl,R1,rfl,jt (by omega) (by omega) hn.1 hn.2,nt1,fun H2 s2 n2 R2=>?_⟩
 obtain ⟨_,dx2,ta2,g1,g2⟩:=id R2
 (walk_at "RD")
 refine ⟨_,_,g1,cg.no _ _ _ (by decide +kernel),?_⟩
 refine ⟨q,row,_,2,rfl,R2,rfl,?_⟩
 (walk_at "RD")
 exact qq H2 (((kd.of s0).trans s1).trans s2) (n2 nt1)
theorem CM (T:Txt w K mg t):Nb P w K mg base CX0 3 t.gg t.vh ["reader","ways"] (nD t):=by
 have G_RowReader_ahead:Nb P w K mg base CX0 2 t.Lc t.Kc ["self"] (Lm t):=(Xq T).mono (by decide)
 have G_RowReader_take:Nb P w K mg base CX0 2 t.Zc t.ad ["self","good"] (tF t):=(qJ T).mono (by decide)
 have G_is_name:Nb P w K mg base CX0 2 t.Lo t.sv ["word"] pN:=xU T
 refine T.mz.ok Rn (fun vs H Q E h=>?_) (fun cdv A outer s H vs Q E hr h=>?_)
 ·obtain ⟨q,row,ws,pl,wl,ds,x,rfl,_⟩:=h;rfl
 obtain ⟨q,row,ws,pl,wl,ds,x,rfl,R,hx,hm,hW,hdl,hnew,nt,qq⟩:=h
 refine ⟨_,(gb (Pb (i:=2) Rn.nd rfl (Or.inl rfl) (oe (pv 0) T.yb T.Ie G_RowReader_ahead hr T.Ge .nil Ob))
   (gb (bd (Td (pv 0) T.yb T.Jf G_RowReader_take hr T.Lf .nil Ob (cb (JS (Fb G_is_name hr rfl T.nN T.YN T.UP .nil Ob (cb (pv 2) ib)) (iL (qh TH (pv 2) (yn rfl (Af (pv 1)) (ue (sc:=db Ec) rfl (by decide +kernel)) (N:=["way"]) (sel:=[none]) (qf (M:=["reader","ways","name"]) (by decide +kernel)) (Blk.of (fun _ _ _ _=>(Kb (i:=0) (vj (N:=["way"]) (by decide +kernel) rfl) rfl (Or.inl rfl))) (fun _ _ _ _=>⟨_,Mi,by first | rfl | (dsimp only [Cx.block];done) | (dsimp only [Cx.block];exact rfl)⟩) (fun _ _ _ _=>⟨_,(Kd (pv 0) rfl),by first | rfl | (dsimp only [Cx.block];done) | (dsimp only [Cx.block];exact rfl)⟩))) (by with_unfolding_all rfl)))) ib)))
   (qb (Rb (pv 2))))),?_⟩
 have hlt:pl < ws.length:=(List.getElem?_eq_some_iff.mp hx).1
 have hg:ws.getD pl (Str.ofString "")=x:=by rw [List.getD_eq_getElem?_getD,hx];rfl
 obtain ⟨hz,dx,ta,e1,e2⟩:=id R
 (walk_at "RD")
 refine ⟨_,_,e1,cg.no _ _ _ (by decide +kernel),⟨q,row,ws,pl,rfl,R,by omega,?_⟩⟩
 rw [hg]
 (walk_at "RD")
 refine ⟨_,_,e1,cg.no _ _ _ (by decide +kernel),?_⟩
 refine ⟨x,rfl,hz.2 x (List.mem_of_getElem? hx),nt,?_⟩
 rw [hm]
 (walk_at "RD")
 obtain ⟨as,w1,w2,al⟩:=hW
 refine ⟨⟨_,SqL.of w1⟩,?_⟩
 have hle:(as.map V.ref).length ≤ sizeLine:=by rw [List.length_map,w2];exact Nat.le_trans hdl (by decide)
 refine yf.list_zs (xs:=as.map V.ref) (zs:=ds.map fun d=>V.str d.name) (SqL.of w1) hle (by rw [List.length_map,List.length_map,w2]) (fun i v z N hv hz' hN=>?_) (fun p hp=>?_)
 ·obtain ⟨a,ha,rfl⟩:=Fc hv
  obtain ⟨d,hd,rfl⟩:=Fc hz'
  (walk_at "RD")
  exact ⟨Sub.name,_,(al i a d ha hd).f_name T,hN⟩
 ·(walk_at "RD")
  have e0:(ds.map fun d=>V.str d.name)=Cb (ds.map (·.name)):=by unfold Cb;rw [List.map_map];rfl
  rw [e0]
  refine ⟨_,.inl (SqL.of fb),rfl,Ew _,?_⟩
  rw [SE,decide_eq_false (fun z=>by
   obtain ⟨d,hd,e⟩:=List.mem_map.mp z
   exact hnew d hd e)]
  have s0:Ac H (upd H p (.lst (Cb (ds.map (·.name))))):=pb hp
  exact ⟨q,row,ws,pl,rfl,R.same s0,fun H' s1 n1 R1=>qq H' ((kd.of s0).trans s1) (n1 nt.upd) R1⟩
theorem IY (T:Txt w K mg t):Nb P w K mg base CX0 5 t.xm t.xr ["reader","places","start"] (ET t):=by
 have G_RowReader_ahead:Nb P w K mg base CX0 4 t.Lc t.Kc ["self"] (Lm t):=(Xq T).mono (by decide)
 have G_RowReader_figures:Nb P w K mg base CX0 4 t.nc t.lc ["self","low","high"] (XE t):=UI T
 refine T.WM.ok nI (fun vs H Q E h=>?_) (fun cdv A outer s H vs Q E hr h=>?_)
 ·obtain ⟨q,row,ws,pl,n,st,fi,rfl,_⟩:=h;rfl
 obtain ⟨q,row,ws,pl,n,st,fi,rfl,R,hx,hst,hfi,hne,hn,nt,qq⟩:=h
 refine ⟨_,(gb (Xf (fc Fj (oe (pv 0) T.yb T.Ie G_RowReader_ahead hr T.Ge .nil Ob) (Kf qg rfl T.e416 Wh (cb (pv 2) ib)) (Bc _)) (qb br) zc)
   (qb (Rb (Td (pv 0) T.yb T.kc G_RowReader_figures hr T.jc .nil Ob (cb Ab (cb (Yc Tn (pv 1) Ab) ib)))))),?_⟩
 have hlt:pl < ws.length:=(List.getElem?_eq_some_iff.mp hx).1
 have hg:ws.getD pl (Str.ofString "")=num fi:=by rw [List.getD_eq_getElem?_getD,hx];rfl
 obtain ⟨hz,dx,ta,e1,e2⟩:=id R
 (walk_at "RD")
 refine Cc false (fun Q hQ=>?_) (fun hc=>nomatch hc) (fun _=>?_)
 ·(walk_at "RD")
  refine ⟨_,_,e1,cg.no _ _ _ (by decide +kernel),⟨q,row,ws,pl,rfl,R,by omega,?_⟩⟩
  rw [hg]
  (walk_at "RD")
  refine ⟨NO (by omega),?_⟩
  rw [decide_eq_false (fun z=>hne (bW (by omega) (by omega) (by omega) (by omega) z).symm)]
  exact hQ
 ·(walk_at "RD")
  refine ⟨_,_,e1,cg.no _ _ _ (by decide +kernel),⟨q,row,ws,pl,num fi,0,n - 1,fi,rfl,R,hx,jt (by omega) (by omega) (by omega) (by omega),nt,fun H1 s1 n1 R1=>?_⟩⟩
  exact qq H1 s1 (n1 nt) R1
theorem qY {t:Adr} {H:Hp} {x dx:Addr} {d:WD} (hx:H x=none) (hd:H dx=none) (hk:d.k < 3) :
  Ac H (upd (upd (upd H dx (.own x)) x (.ins (t.cw d.k) dx [])) x (.ins (t.cw d.k) dx (Cy d)))∧(NoT H→NoT (upd (upd (upd H dx (.own x)) x (.ins (t.cw d.k) dx [])) x (.ins (t.cw d.k) dx (Cy d)))) ∧
   Dg t (upd (upd (upd H dx (.own x)) x (.ins (t.cw d.k) dx [])) x (.ins (t.cw d.k) dx (Cy d))) x d:=
 ⟨(((Ac.refl H).updN hd).updN hx).updN hx,fun n=>((n.upd).upd).upd,hk,dx,fb⟩
theorem vS (T:Txt w K mg t):Nb P w K mg base CX0 4 t.Cm t.Br ["sort","name","start","end","off","near","least"] (lK t):=by
 have G_CarWay_init:Nb P w K mg base CX0 2 t.mj t.nj ["self","name","start","end","off","near","least"] (mr t 0):=eU T
 have G_FootWay_init:Nb P w K mg base CX0 2 t.vi t.ki ["self","name","start","end","off","near","least"] (mr t 1):=UR T
 have G_TramWay_init:Nb P w K mg base CX0 2 t.di t.ci ["self","name","start","end","off","near","least"] (mr t 2):=QR T
 refine T.sL.ok iJ (fun vs H Q E h=>?_) (fun cdv A outer s H vs Q E hr h=>?_)
 ·obtain ⟨d,rfl,_⟩:=h;rfl
 obtain ⟨d,rfl,hk,q⟩:=h
 refine ⟨_,(gb (Xf (fc Fj (pv 0) Yb (Bc _)) (qb (Rb (Gw T.IQ G_CarWay_init hr rfl T.OQ T.UE .nil Ob (cb (pv 1) (cb (pv 2) (cb (pv 3) (cb (pv 4) (cb (pv 5) (cb (pv 6) ib))))))))) zc)
   (gb (Xf (fc Fj (pv 0) Yb (Bc _)) (qb (Rb (Gw T.NP G_FootWay_init hr rfl T.gO T.uC .nil Ob (cb (pv 1) (cb (pv 2) (cb (pv 3) (cb (pv 4) (cb (pv 5) (cb (pv 6) ib))))))))) zc)
   (qb (Rb (Gw T.GN G_TramWay_init hr rfl T.fO T.SC .nil Ob (cb (pv 1) (cb (pv 2) (cb (pv 3) (cb (pv 4) (cb (pv 5) (cb (pv 6) ib))))))))))),?_⟩
 have fin:∀ (x dx:Addr),H x=none→H dx=none→Q (.ref x) (upd (upd (upd H dx (.own x)) x (.ins (t.cw d.k) dx [])) x (.ins (t.cw d.k) dx (Cy d))):=fun x dx hx hd=>by
  obtain ⟨m1,m2,m3⟩:=qY (t:=t) (d:=d) hx hd hk
  exact q x _ m1 m2 m3 hx
 obtain ⟨k,name,start,fi,off,near,least⟩:=d
 match k,hk with
 | 0,_=>
  (walk_at "RD"; repeat (simp only [Sh];walk_at "RD"))
  refine Cc true (fun Q hQ=>?_) (fun _=>?_) (fun hc=>nomatch hc)
  ·(walk_at "RD")
   exact hQ
  ·(walk_at "RD")
   exact fun x dx hx hd hne=>⟨x,dx,⟨0,name,start,fi,off,near,least⟩,rfl,rfl,fb,rfl,fin x dx hx hd⟩
 | 1,_=>
  (walk_at "RD"; repeat (simp only [Sh];walk_at "RD"))
  refine Cc false (fun Q hQ=>?_) (fun hc=>nomatch hc) (fun _=>?_)
  ·(walk_at "RD")
   rw [decide_eq_false (by decide +kernel)]
   exact hQ
  ·(walk_at "RD")
   refine Cc true (fun Q hQ=>?_) (fun _=>?_) (fun hc=>nomatch hc)
   ·(walk_at "RD")
    exact hQ
   ·(walk_at "RD")
    exact fun x dx hx hd hne=>⟨x,dx,⟨1,name,start,fi,off,near,least⟩,rfl,rfl,fb,rfl,fin x dx hx hd⟩
 | 2,_=>
  (walk_at "RD"; repeat (simp only [Sh];walk_at "RD"))
  refine Cc false (fun Q hQ=>?_) (fun hc=>nomatch hc) (fun _=>?_)
  ·(walk_at "RD")
   rw [decide_eq_false (by decide +kernel)]
   exact hQ
  ·(walk_at "RD")
   refine Cc false (fun Q hQ=>?_) (fun hc=>nomatch hc) (fun _=>?_)
   ·(walk_at "RD")
    rw [decide_eq_false (by decide +kernel)]
    exact hQ
   ·(walk_at "RD")
    exact fun x dx hx hd hne=>⟨x,dx,⟨2,name,start,fi,off,near,least⟩,rfl,rfl,fb,rfl,fin x dx hx hd⟩
theorem ZX (T:Txt w K mg t):Nb P w K mg base CX0 6 t.Xl t.Cr ["reader","places","ways"] (OT t):=by
 have G_RowReader_one_of:Nb P w K mg base CX0 5 t.Pc t.Nc ["self","choices"] (IF K t):=(UK T).mono (by decide)
 have G_RowReader_figures:Nb P w K mg base CX0 5 t.nc t.lc ["self","low","high"] (XE t):=(UI T).mono (by decide)
 have G_RowReader_finish:Nb P w K mg base CX0 5 t.Tc t.Rc ["self"] (nO t):=(MS T).mono (by decide)
 have G_read_new_name:Nb P w K mg base CX0 5 t.gg t.vh ["reader","ways"] (nD t):=(CM T).mono (by decide)
 have G_read_end:Nb P w K mg base CX0 5 t.xm t.xr ["reader","places","start"] (ET t):=IY T
 have G_made_way:Nb P w K mg base CX0 5 t.Cm t.Br ["sort","name","start","end","off","near","least"] (lK t):=(vS T).mono (by decide)
 refine T.IM.ok og (fun vs H Q E h=>?_) (fun cdv A outer s H vs Q E hr h=>?_)
 ·obtain ⟨q,row,n,wl,ds,d,rfl,_⟩:=h;rfl
 obtain ⟨q,row,n,wl,ds,d,rfl,R,hd,hn,hW,hdl,hnew,nt,qq⟩:=h
 refine ⟨_,(gb (Pb (i:=3) og.nd rfl (Or.inl rfl) (Td (pv 0) T.yb T.Re G_RowReader_one_of hr T.We .nil Ob (cb (mf (cb Yb (cb Yb (cb Yb ib)))) ib)))
   (gb (Pb (i:=4) og.nd rfl (Or.inl rfl) (Fb G_read_new_name hr rfl T.zA T.Bz T.CB .nil Ob (cb (pv 0) (cb (pv 2) ib))))
   (gb (Pb (i:=5) og.nd rfl (Or.inl rfl) (Td (pv 0) T.yb T.kc G_RowReader_figures hr T.jc .nil Ob (cb Ab (cb (Yc Tn (pv 1) Ab) ib))))
   (gb (Pb (i:=6) og.nd rfl (Or.inl rfl) (Fb G_read_end hr rfl T.oM T.OM T.yM .nil Ob (cb (pv 0) (cb (pv 1) (cb (pv 5) ib)))))
   (gb (Pb (i:=7) og.nd rfl (Or.inl rfl) (Td (pv 0) T.yb T.kc G_RowReader_figures hr T.jc .nil Ob (cb Ab (cb (Uh rfl T.e301 T.wM) ib))))
   (gb (Pb (i:=8) og.nd rfl (Or.inl rfl) (Td (pv 0) T.yb T.kc G_RowReader_figures hr T.jc .nil Ob (cb Ab (cb (Uh rfl T.e248 T.JJ) ib))))
   (gb (Pb (i:=9) og.nd rfl (Or.inl rfl) (Td (pv 0) T.yb T.kc G_RowReader_figures hr T.jc .nil Ob (cb Ab (cb (Uh rfl T.e207 T.GH) ib))))
   (gb (bd (oe (pv 0) T.yb T.bg G_RowReader_finish hr T.Yf .nil Ob))
   (qb (Rb (Fb G_made_way hr rfl T.lM T.SL T.SM .nil Ob (cb (pv 3) (cb (pv 4) (cb (pv 5) (cb (pv 6) (cb (pv 7) (cb (pv 8) (cb (pv 9) ib)))))))))))))))))),?_⟩
 have b1:=hd.st;have b2:=hd.fi;have b3:=hd.of;have b4:=hd.nr;have b5:=hd.le
 obtain ⟨_,dx,ta,e1,e2⟩:=id R
 (walk_at "RD")
 refine ⟨_,_,e1,cg.no _ _ _ (by decide +kernel),by decide,fun p hp=>?_⟩
 have s0:Ac H (upd H p (.lst [V.str (Str.ofString "car"),V.str (Str.ofString "foot"),V.str (Str.ofString "tram")])):=pb hp
 have hin:Sh d.k ∈ [Str.ofString "car",Str.ofString "foot",Str.ofString "tram"]:=by
  have:=hd.k
  match d.k,this with
  | 0,_=>simp [Sh]
  | 1,_=>simp [Sh]
  | 2,_=>simp [Sh]
 refine ⟨q,row,_,0,Sh d.k,p,[Str.ofString "car",Str.ofString "foot",Str.ofString "tram"],rfl,R.same s0,rfl,SqL.of fb,hin,fun H1 s1 n1 R1=>?_⟩
 have x1:kd q H H1:=(kd.of s0).trans s1
 have m1:=n1 nt.upd
 (walk_at "RD")
 refine ⟨q,row,_,1,wl,ds,d.name,rfl,R1,rfl,hd.nm,hW.sameX x1 R,hdl,hnew,m1,fun H2 s2 m2 R2=>?_⟩
 obtain ⟨_,dx2,ta2,f2,g2⟩:=id R2
 have x2:=x1.trans s2
 (walk_at "RD")
 refine ⟨_,_,f2,cg.no _ _ _ (by decide +kernel),⟨q,row,_,2,num d.start,0,n - 1,d.start,rfl,R2,rfl,jt (by omega) (by omega) (by omega) (by omega),m2,fun H3 s3 n3 R3=>?_⟩⟩
 have x3:=x2.trans s3
 have m3:=n3 m2
 (walk_at "RD")
 refine ⟨q,row,_,3,n,d.start,d.fin,rfl,R3,rfl,b1,b2,hd.ne,hn.2,m3,fun H4 s4 m4 R4=>?_⟩
 obtain ⟨_,dx4,ta4,f4,g4⟩:=id R4
 have x4:=x3.trans s4
 (walk_at "RD")
 refine ⟨_,_,f4,cg.no _ _ _ (by decide +kernel),⟨q,row,_,4,num d.off,0,30,d.off,rfl,R4,rfl,jt (by omega) (by omega) (by omega) (by omega),m4,fun H5 s5 n5 R5=>?_⟩⟩
 obtain ⟨_,dx5,ta5,f5,g5⟩:=id R5
 have x5:=x4.trans s5
 have m5:=n5 m4
 (walk_at "RD")
 refine ⟨_,_,f5,cg.no _ _ _ (by decide +kernel),⟨q,row,_,5,num d.near,0,30,d.near,rfl,R5,rfl,jt (by omega) (by omega) (by omega) (by omega),m5,fun H6 s6 n6 R6=>?_⟩⟩
 obtain ⟨_,dx6,ta6,f6,g6⟩:=id R6
 have x6:=x5.trans s6
 have m6:=n6 m5
 (walk_at "RD")
 refine ⟨_,_,f6,cg.no _ _ _ (by decide +kernel),⟨q,row,_,6,num d.least,1,60,d.least,rfl,R6,rfl,jt (by omega) (by omega) (by omega) (by omega),m6,fun H7 s7 n7 R7=>?_⟩⟩
 obtain ⟨_,dx7,ta7,f7,g7⟩:=id R7
 have x7:=x6.trans s7
 have m7:=n7 m6
 (walk_at "RD")
 refine ⟨_,_,f7,cg.no _ _ _ (by decide +kernel),⟨q,row,_,7,rfl,R7,rfl,?_⟩⟩
 (walk_at "RD")
 refine ⟨d,rfl,hd.k,fun x H8 s8 n8 w8 hx8=>?_⟩
 refine qq x H8 (x7.trans (kd.of s8)) (n8 m7) w8 ?_
 cases hH:H x with
 | none=>rfl
 | some u=>
  by_cases hxq:x=q
  ·subst hxq;rw [f7] at hx8;cases hx8
  ·rw [x7 x u hxq hH] at hx8;cases hx8
end
end My
namespace My
open PySem L2
abbrev KL:List Str:=[Str.ofString "places",Str.ofString "ways",Str.ofString "numbers"]
def cF (n:Int) (wl nd:Addr):List (Str × V):=[(Str.ofString "places",.int n),(Str.ofString "ways",.ref wl),(Str.ofString "numbers",.ref nd)]
theorem uE (n:Int) (wl nd:Addr):(cF n wl nd).map (·.1)=KL:=rfl
def nm (ds:List WD) (i:Nat):Str:=((ds[i]?).map (·.name)).getD (Str.ofString "")
def YM (ds:List WD) (i:Nat):List (Key × V):=(List.range i).map fun j=>(Sum.inr (nm ds j),V.int j)
theorem kG {ds:List WD} {i:Nat} {d:WD} (h:ds[i]? = some d):nm ds i=d.name:=by unfold nm;rw [h];rfl
theorem kL {ds:List WD} (h:(ds.map (·.name)).Nodup) {i j:Nat} (hi:i < ds.length) (hj:j < ds.length) (e:nm ds i=nm ds j):i=j:=by
 rw [kG (List.getElem?_eq_getElem hi),kG (List.getElem?_eq_getElem hj)] at e
 have:=(List.getElem_inj (xs:=ds.map (·.name)) (i:=i) (j:=j) (h₀:=by rw [List.length_map];exact hi) (h₁:=by rw [List.length_map];exact hj) h).mp (by rw [List.getElem_map,List.getElem_map];exact e)
 exact this
theorem BR {ds:List WD} (h:(ds.map (·.name)).Nodup) {i:Nat}:∀ {n:Nat},i < n→n ≤ ds.length→Yw (YM ds n) (Sum.inr (nm ds i))=some (.int i):=by
 intro n
 induction n with
 | zero=>intro hi _;omega
 | succ n ih=>
  intro hi hn
  unfold YM Yw
  rw [List.range_succ,List.map_append,List.find?_append]
  by_cases c:i < n
  ·have:=ih c (by omega)
   unfold YM Yw at this
   cases e:List.find? (fun kv=>decide (kv.fst=Sum.inr (nm ds i))) (List.map (fun j=>((Sum.inr (nm ds j):Key),V.int j)) (List.range n)) with
   | none=>rw [e] at this;cases this
   | some p=>rw [e] at this;exact this
  ·have e:i=n:=by omega
   subst e
   have no:List.find? (fun kv=>decide (kv.fst=Sum.inr (nm ds i))) (List.map (fun j=>((Sum.inr (nm ds j):Key),V.int j)) (List.range i))=none:=by
    rw [List.find?_eq_none]
    intro p hp
    obtain ⟨j,hj,rfl⟩:=List.mem_map.mp hp
    have hj':=List.mem_range.mp hj
    simp only [decide_eq_true_eq]
    intro z
    have:=kL h (by omega) (by omega) (Sum.inr.inj z)
    omega
   rw [no]
   simp
theorem PR {ds:List WD} (h:(ds.map (·.name)).Nodup) {n:Nat} (hn:n < ds.length):yH (YM ds n) (Sum.inr (nm ds n)) (.int n)=YM ds (n + 1):=by
 unfold yH
 have no:((YM ds n).any fun kv=>decide (kv.1=Sum.inr (nm ds n)))=false:=by
  rw [List.any_eq_false]
  intro p hp
  obtain ⟨j,hj,rfl⟩:=List.mem_map.mp hp
  have hj':=List.mem_range.mp hj
  simp only [decide_eq_true_eq]
  intro z
  have:=kL h (by omega) hn (Sum.inr.inj z)
  omega
 rw [no]
 unfold YM
 rw [List.range_succ,List.map_append]
 rfl
theorem sf {H H1 H2:Hp} {q:Addr} (a:Ac H H1) (b:kd q H1 H2) (n:H q=none):Ac H H2:=fun c u e=>b c u (zb e n) (a c u e)
theorem mS {t:Adr} {H:Hp} {p q:Addr} {i j:Int} {ws vs:List Str} {k l:Nat} (a:cg t H p i ws k) (b:cg t H q j vs l) (n:i ≠ j):p ≠ q:=fun z=>by
 subst z
 obtain ⟨_,dx,ta,e1,_⟩:=a
 obtain ⟨_,dx',ta',e2,_⟩:=b
 rw [e1] at e2
 have e3:=Option.some.inj e2
 injection e3 with _ _ e4
 unfold rdF at e4
 injection e4 with e5 _
 injection e5 with _ e6
 injection e6 with e7
 exact n e7
theorem XG {t:Adr} {H:Hp} {p q:Addr} {d:WD} {j:Int} {vs:List Str} {l:Nat} (a:Dg t H p d) (b:cg t H q j vs l):p ≠ q:=fun z=>by
 subst z
 obtain ⟨_,dx,e1⟩:=a
 obtain ⟨_,dx',ta',e2,_⟩:=b
 rw [e1] at e2
 have e3:=Option.some.inj e2
 injection e3 with _ _ e4
 exact absurd (congrArg List.length e4) (by show ¬ (7:Nat)=3;decide)
def Gd (t:Adr) (H:Hp) (c:Addr) (n:Int) (ds:List WD):Prop:=
 ((ds.map (·.name)).Nodup∧ds.length ≤ 12)∧∃ dx wl nd,H c=some (.ins t.Eb dx (cF n wl nd))∧Fq t H wl ds∧H nd=some (.dK (YM ds ds.length))
theorem Gd.same {t:Adr} {H H':Hp} {c:Addr} {n:Int} {ds:List WD} (h:Gd t H c n ds) (s:Ac H H'):Gd t H' c n ds:=by
 obtain ⟨h0,dx,wl,nd,e1,e2,e3⟩:=h
 exact ⟨h0,dx,wl,nd,s _ _ e1,e2.same s,s _ _ e3⟩
theorem CK {m:Str} (n:Int) (wl nd:Addr) (h:KL.contains m=false):(cF n wl nd).lookup m=none:=Hv KL (uE ..) h
section
variable {w:World} {K:PySem.W.Frag} {mg:Str→Option Value} {t:Adr} {H:Hp} {c dx wl nd:Addr} {n:Int}
theorem EQ (T:Txt w K mg t) (e:H c=some (.ins t.Eb dx (cF n wl nd))):Op K H c (Str.ofString "places") (.int n):=⟨_,dx,_,e,T.Zb,T.e14,af KL 0 (uE ..) (by decide +kernel) rfl⟩
theorem DS (T:Txt w K mg t) (e:H c=some (.ins t.Eb dx (cF n wl nd))):Op K H c (Str.ofString "ways") (.ref wl):=⟨_,dx,_,e,T.Zb,T.e26,af KL 1 (uE ..) (by decide +kernel) rfl⟩
theorem SA (T:Txt w K mg t) (e:H c=some (.ins t.Eb dx (cF n wl nd))):Op K H c (Str.ofString "numbers") (.ref nd):=⟨_,dx,_,e,T.Zb,T.e12,af KL 2 (uE ..) (by decide +kernel) rfl⟩
end
def FT (t:Adr):Sp:=fun vs H Q _=>∃ c dx n wl ds,vs=[.ref c,.int n,.ref wl]∧H c=some (.ins t.Eb dx [])∧Fq t H wl ds∧(ds.map (·.name)).Nodup∧ds.length ≤ 12∧NoT H ∧
 ∀ H',kd c H H'→NoT H'→Gd t H' c n ds→Q .non H'
def qX (t:Adr):Sp:=fun vs H Q _=>∃ n ds,vs=[.str (QJ n ds)]∧COk n ds∧NoT H∧∀ c H',Ac H H'→NoT H'→Gd t H' c n ds→Q (.ref c) H'
def vv (t:Adr):Sp:=fun vs H Q _=>∃ c n ds,vs=[.ref c]∧Gd t H c n ds∧∀ p,H p=none→Q (.ref p) (upd H p (.lst (Cb (ds.map (·.name)))))
def JG (t:Adr):Sp:=fun vs H Q _=>∃ c n ds,∃ i:Nat,∃ d,vs=[.ref c,.str d.name]∧Gd t H c n ds∧ds[i]? = some d∧Q (.int (i:Nat)) H
def rm (t:Adr):Sp:=fun vs H Q _=>∃ c n ds,∃ i:Nat,∃ d,vs=[.ref c,.str d.name]∧Gd t H c n ds∧ds[i]? = some d∧∀ a,Dg t H a d→Q (.ref a) H
section
variable {P:Program} {w:World} {K:PySem.W.Frag} {mg:Str→Option Value} {base:Heap} {t:Adr}
theorem DY (T:Txt w K mg t):Nb P w K mg base CX0 1 t.Hh t.Dh ["self","places","ways"] (FT t):=by
 refine T.Pz.ok Eg (fun vs H Q E h=>?_) (fun cdv A outer s H vs Q E hr h=>?_)
 ·obtain ⟨c,dx,n,wl,ds,rfl,_⟩:=h;rfl
 obtain ⟨c,dx,n,wl,ds,rfl,hc,hW,hnd,hdl,nt,q⟩:=h
 have hu:=ZQ hr
 refine ⟨_,(gb (Jh (pv 0) (pv 1) rfl)
   (gb (Jh (pv 0) (pv 2) rfl)
   (gb (Jh (pv 0) fz rfl)
   (qb (Mg PassesOwn.never rfl (bB rfl T.e38 (cb (pv 2) ib)) (Rh (K:=K) (n:=2) rfl rfl (ic (Kb (i:=3) Eg.nd rfl (Or.inl rfl) (.inl rfl)) (ic (Kb (i:=4) Eg.nd rfl (Or.inl rfl) (.inl rfl)) Xh))) (qb (uF hu (Kd (pv 0) rfl) (Kd (pv 4) rfl) (pv 3) rfl))))))),?_⟩
 (walk_at "RD")
 refine ⟨_,_,_,hc,T.Zb,T.e14,by decide,?_⟩
 refine ⟨_,_,_,fb,T.Zb,T.e26,Mv (n:=999) (by decide),fun nd hn=>?_⟩
 simp only [vn] at hn ⊢
 rw [show dj (Str.ofString "places") (V.int n) ([]:List (Str × V))=[(Str.ofString "places",V.int n)] from rfl,show dj (Str.ofString "ways") (V.ref wl) [(Str.ofString "places",V.int n)]=[(Str.ofString "places",V.int n),(Str.ofString "ways",V.ref wl)] from Yd [Str.ofString "places"] rfl (by decide +kernel)] at hn ⊢
 have hnc:c ≠ nd:=fun z=>by subst z;rw [fb] at hn;cases hn
 refine ⟨t.Eb,dx,[(Str.ofString "places",V.int n),(Str.ofString "ways",V.ref wl)],by rw [rb hnc];exact fb,T.Zb,T.e12,show (2:Nat) < 1000 by decide,?_⟩
 rw [show dj (Str.ofString "numbers") (V.ref nd) [(Str.ofString "places",V.int n),(Str.ofString "ways",V.ref wl)]=cF n wl nd from Yd [Str.ofString "places",Str.ofString "ways"] rfl (by decide +kernel)]
 obtain ⟨as,w1,w2,al⟩:=hW
 have hHn:H nd=none:=by rw [rb (Ne.symm hnc)] at hn;exact hn
 have sx:kd c H (upd (upd (upd H c (.ins t.Eb dx [(Str.ofString "places",V.int n),(Str.ofString "ways",V.ref wl)])) nd (.dK [])) c (.ins t.Eb dx (cF n wl nd))):=fun b u hb e=>by
  rw [rb hb,rb (zb e hHn),rb hb];exact e
 have hwc:wl ≠ c:=Fg w1 hc (by intro z;cases z)
 refine ⟨⟨_,SqL.of (sx _ _ hwc w1)⟩,?_⟩
 refine yq.enum (xs:=as.map V.ref) (fun i σ H'=>(∃ x y,σ=[some (V.ref c),some (V.int n),some (V.ref wl),x,y])∧H' c=some (.ins t.Eb dx (cF n wl nd))∧H' nd=some (.dK (YM ds i))∧kd c H H'∧NoT H') ?_ ?_ ?_ ?_
 ·exact ⟨⟨_,_,rfl⟩,fb,by rw [rb (Ne.symm hnc),fb];rfl,sx,((nt.upd).upd).upd⟩
 ·rintro i σ H' hi ⟨_,_,_,sx',_⟩
  exact SqL.of (sx' _ _ hwc w1)
 ·rintro i v σ H' p hv ⟨⟨x,y,rfl⟩,h1,h2,sx',nt'⟩ hp
  obtain ⟨a,ha,rfl⟩:=Fc hv
  obtain ⟨hi,_⟩:=List.getElem?_eq_some_iff.mp ha
  have hid:i < ds.length:=by omega
  have hd:ds[i]? = some ds[i]:=List.getElem?_eq_getElem hid
  have Wa:Dg t H a ds[i]:=al i a _ ha hd
  have hac:a ≠ c:=by
   obtain ⟨_,dx',e⟩:=Wa
   intro z
   subst z
   rw [hc] at e
   have e2:=Option.some.inj e
   injection e2 with _ _ e3
   exact absurd (congrArg List.length e3) (by show ¬ (0:Nat)=7;decide)
  have Wa':Dg t H' a ds[i]:=⟨Wa.1,Wa.2.imp fun dx' e=>sx' _ _ hac e⟩
  have sp:Ac H' (upd H' p (.tup [.int i,.ref a])):=pb hp
  refine gp ?_
  (walk_at "RD")
  refine ⟨_,SA T (sp _ _ h1),_,(Wa'.same sp).f_name T,_,rfl,_,rM.k (k:=Sum.inr ds[i].name) (sp _ _ h2) (Nat.lt_of_le_of_lt (show (YM ds i).length ≤ 12 by unfold YM;rw [List.length_map,List.length_range];omega) (by decide)),?_⟩
  rw [← kG hd,PR hnd hid]
  refine ⟨⟨_,rfl⟩,?_,fb,fun b u hb e=>?_,(nt'.upd).upd⟩
  ·rw [rb hnc];exact sp _ _ h1
  ·rw [rb (zb e hHn)];exact sp _ _ (sx' b u hb e)
 ·rintro σ H' ⟨⟨x,y,rfl⟩,h1,h2,sx',nt'⟩
  (walk_at "RD")
  rw [List.length_map,w2] at h2
  refine q H' sx' nt' ⟨⟨hnd,hdl⟩,dx,wl,nd,h1,⟨as,sx' _ _ hwc w1,w2,fun i a d h3 h4=>?_⟩,h2⟩
  have Wa:=al i a d h3 h4
  have hac:a ≠ c:=by
   obtain ⟨_,dx',e⟩:=Wa
   intro z
   subst z
   rw [hc] at e
   have e2:=Option.some.inj e
   injection e2 with _ _ e3
   exact absurd (congrArg List.length e3) (by show ¬ (0:Nat)=7;decide)
  exact ⟨Wa.1,Wa.2.imp fun dx' e=>sx' _ _ hac e⟩
theorem qP (T:Txt w K mg t):Nb P w K mg base CX0 1 t.zg t.Ag ["self","name"] (JG t):=by
 refine T.Qv.ok gv (fun vs H Q E h=>?_) (fun cdv A outer s H vs Q E hr h=>?_)
 ·obtain ⟨c,n,ds,i,d,rfl,_⟩:=h;rfl
 obtain ⟨c,n,ds,i,d,rfl,⟨⟨hnd,hdl⟩,dx,wl,nd,e1,e2,e3⟩,hd,q⟩:=h
 have hu:=ZQ hr
 have hv:Yw (YM ds ds.length) (Sum.inr d.name)=some (.int i):=by
  rw [← kG hd]
  exact BR hnd (List.getElem?_eq_some_iff.mp hd).1 (Nat.le_refl _)
 have hg:Ny H nd (.str d.name) (some (.int i)):=by rw [← hv];exact Ny.k (k:=Sum.inr d.name) e3
 refine ⟨_,(gb (Xf (BW (ON hu (pv 1) (Kd (pv 0) rfl))) (qb br) zc)
   (qb (Rb (II hu (Kd (pv 0) rfl) (pv 1) (fun _ _=>rfl))))),?_⟩
 (walk_at "RD")
 refine Cc false (fun Q hQ=>?_) (fun hc=>nomatch hc) (fun _=>?_)
 ·(walk_at "RD")
  refine ⟨_,SA T e1,_,rfl,_,hg,?_⟩
  exact hQ
 ·(walk_at "RD")
  exact ⟨_,SA T e1,_,rfl,_,hg,q⟩
theorem Jo (T:Txt w K mg t):Nb P w K mg base CX0 2 t.jd t.gd ["self","name"] (rm t):=by
 have G_Crossing_number:Nb P w K mg base CX0 1 t.zg t.Ag ["self","name"] (JG t):=qP T
 refine T.yw.ok lv (fun vs H Q E h=>?_) (fun cdv A outer s H vs Q E hr h=>?_)
 ·obtain ⟨c,n,ds,i,d,rfl,_⟩:=h;rfl
 obtain ⟨c,n,ds,i,d,rfl,C,hd,q⟩:=h
 obtain ⟨⟨hnd,hdl⟩,dx,wl,nd,e1,⟨as,w1,w2,al⟩,e3⟩:=id C
 refine ⟨_,(qb (Rb (Xg ke (Kd (pv 0) rfl) (Td (pv 0) T.Zb T.pw G_Crossing_number hr T.Vv .nil Ob (cb (pv 1) ib)) (fun _ _=>rfl)))),?_⟩
 (walk_at "RD")
 refine ⟨_,DS T e1,_,_,e1,CK _ _ _ (by decide +kernel),⟨c,n,ds,i,d,rfl,C,hd,?_⟩⟩
 have hi:i < as.length:=by rw [w2];exact (List.getElem?_eq_some_iff.mp hd).1
 have ha:as[i]? = some as[i]:=List.getElem?_eq_getElem hi
 (walk_at "RD")
 refine ⟨_,SqL.of w1,_,Me (show (as.map V.ref)[i]? = some (V.ref as[i]) by rw [List.getElem?_map,ha];rfl),?_⟩
 exact q as[i] (al i _ d ha hd)
theorem AZ (T:Txt w K mg t):Nb P w K mg base CX0 7 t.fg t.sh ["text"] (qX t):=by
 have G_readers:Nb P w K mg base CX0 6 t.Zl t.Fo ["text"] (Zv t):=(ED T).mono (by decide)
 have G_read_ring:Nb P w K mg base CX0 6 t.Cj t.Nm ["reader"] (FO t):=(TU T).mono (by decide)
 have G_read_way:Nb P w K mg base CX0 6 t.Xl t.Cr ["reader","places","ways"] (OT t):=ZX T
 have G_Crossing_init:Nb P w K mg base CX0 5 t.Hh t.Dh ["self","places","ways"] (FT t):=(DY T).mono (by decide)
 refine T.Yz.ok Mf (fun vs H Q E h=>?_) (fun cdv A outer s H vs Q E hr h=>?_)
 ·obtain ⟨n,ds,rfl,_⟩:=h;rfl
 obtain ⟨n,ds,rfl,hC,nt,qq⟩:=h
 refine ⟨_,(gb (Pb (i:=1) Mf.nd rfl (Or.inl rfl) (Fb G_readers hr rfl T.HH T.IG T.FH .nil Ob (cb (pv 0) ib)))
   (gb (Pb (i:=2) Mf.nd rfl (Or.inl rfl) (Fb G_read_ring hr rfl T.fJ T.kJ T.LJ .nil Ob (cb (Xg ke (pv 1) Ab (fun _ _=>rfl)) ib)))
   (gb (Pb (i:=3) Mf.nd rfl (Or.inl rfl) (mf ib))
   (gb (Mg PassesOwn.never rfl (Af (En Ts (pv 1) (Ft Ab) qt)) (Kb (i:=4) Mf.nd rfl (Or.inl rfl)) (gb (Xf (fc Fj (pe Qc rfl T.e311 Vd (cb (pv 3) ib)) (Uh rfl T.e268 T.pJ) (Bc _)) (qb br) zc)
   (qb (bd (sH PySem.F.plainAttrs_list PySem.F.slot_list_append PySem.F.type_list_append Eu (pv 3) (cb (Fb G_read_way hr rfl T.HM T.BL T.BM .nil Ob (cb (pv 4) (cb (pv 2) (cb (pv 3) ib)))) ib))))))
   (gb (Xf (KB (AK (pv 3) (fun _=>rfl))) (qb br) zc)
   (qb (Rb (Gw T.MM G_Crossing_init hr rfl T.QM T.BB .nil Ob (cb (pv 2) (cb (pv 3) ib)))))))))),?_⟩
 have hrow:=pM hC
 have hlen:=aP hC
 have hnn:=hC.nn
 have hln:=hC.ln
 (walk_at "RD")
 refine ⟨QJ n ds,rfl,by omega,?_,nt,fun p H1 sm1 nt1 R=>?_⟩
 ·rw [hrow]
  intro r hr
  refine ⟨?_,fun x hx=>Nat.le_trans (hC.plain r hr x hx).1 (by decide)⟩
  rcases List.mem_cons.mp hr with rfl | hr
  ·show (2:Nat) ≤ 1000;decide
  ·obtain ⟨d,hd,rfl⟩:=List.mem_map.mp hr
   show (7:Nat) ≤ 1000;decide
 rw [hrow] at R
 obtain ⟨qs,hp,hp0,hql,hqa⟩:=R
 have hql':qs.length=ds.length + 1:=by rw [hql];simp [sC]
 obtain ⟨q0,qr,rfl⟩:∃ q0 qr,qs=q0 :: qr:=by
  cases qs with
  | nil=>simp at hql'
  | cons a b=>exact ⟨a,b,rfl⟩
 obtain ⟨R0,hq0⟩:=hqa 0 q0 _ rfl rfl
 (walk_at "RD")
 refine ⟨_,SqL.of hp,_,Me (j:=0) rfl,⟨q0,_,n,rfl,R0,hnn,nt1,fun H2 s2 nt2=>⟨Nat.zero_le _,fun wl hwl=>?_⟩⟩⟩
 obtain ⟨C0,dq0,fq0,hins⟩:=R0.ins
 have hpq:p ≠ q0:=Fg hp hins (by intro z;cases z)
 have hp2:H2 p=some (.lst ((q0 :: qr).map V.ref)):=s2 _ _ hpq hp
 have swl:Ac H2 (upd H2 wl (.lst [])):=pb hwl
 have hcut:cI ((q0 :: qr).map V.ref) (some 1) none=qr.map V.ref:=by
  unfold cI
  simp [HT.sIx]
  exact List.take_of_length_le (by rw [List.length_map];exact Nat.le_refl _)
 refine ⟨_,SqL.of (swl _ _ hp2),fun pc hpc=>?_⟩
 rw [hcut]
 have hpw:pc ≠ wl:=fun z=>by subst z;rw [fb] at hpc;cases hpc
 have spc:Ac (upd H2 wl (.lst [])) (upd (upd H2 wl (.lst [])) pc (.lst (qr.map V.ref))):=pb hpc
 refine ⟨⟨_,SqL.of fb⟩,?_⟩
 have sH2:Ac H H2:=sf sm1 s2 hq0
 have hqrl:qr.length=ds.length:=by simpa using hql'
 refine yq.list (xs:=qr.map V.ref) (fun i σ H'=>(∃ x,σ=[some (V.str (QJ n ds)),some (V.ref p),some (V.int n),some (V.ref wl),x])∧NoT H'∧Ac H H'∧H' pc=some (.lst (qr.map V.ref))∧H wl=none∧Fq t H' wl (ds.take i) ∧
  ∀ (j:Nat) (q:Addr) (d:WD),i ≤ j→qr[j]? = some q→ds[j]? = some d→cg t H' q ((j + 1:Nat):Int) (Sx d) 0∧H q=none) ?_ ?_ ?_ ?_
 ·refine ⟨⟨_,rfl⟩,(nt2.upd).upd,(sH2.trans swl).trans spc,fb,sH2.free hwl,⟨[],spc _ _ fb,rfl,fun j a d h=>by simp at h⟩,fun j q d _ h1 h2=>?_⟩
  have hr:(sC n ds)[j + 1]? = some (Sx d):=by
   unfold sC
   rw [List.getElem?_cons_succ,List.getElem?_map,h2];rfl
  obtain ⟨Rj,hqj⟩:=hqa (j + 1) q _ (by rw [List.getElem?_cons_succ];exact h1) hr
  refine ⟨((Rj.sameX s2 (mS Rj R0 (by omega)) R0.ins).same swl).same spc,hqj⟩
 ·rintro i σ H' hi ⟨_,_,_,h,_⟩
  exact SqL.of h
 ·rintro i v σ H' hv ⟨⟨x,rfl⟩,nt',sm',hpc',hwl0,W,Rs⟩
  obtain ⟨q,hq,rfl⟩:=Fc hv
  obtain ⟨hi,_⟩:=List.getElem?_eq_some_iff.mp hq
  have hid:i < ds.length:=by omega
  have hd:ds[i]? = some ds[i]:=List.getElem?_eq_getElem hid
  obtain ⟨Rq,hqn⟩:=Rs i q _ (Nat.le_refl _) hq hd
  have htl:(ds.take i).length=i:=by rw [List.length_take];omega
  obtain ⟨as,w1,w2,al⟩:=id W
  (walk_at "RD")
  refine Cc false (fun Q hQ=>?_) (fun hc=>nomatch hc) (fun _=>?_)
  ·(walk_at "RD")
   refine ⟨_,.inl (SqL.of w1),?_⟩
   rw [List.length_map,w2,htl]
   rw [decide_eq_false (by omega)] <;> exact hQ
  ·(walk_at "RD")
   refine ⟨.inl ⟨_,SqL.of w1⟩,?_⟩
   refine ⟨q,_,n,wl,ds.take i,ds[i],rfl,Rq,hC.al _ (List.getElem_mem hid),hnn,W,by omega,fun e he z=>?_,nt',fun y H3 s3 nt3 w3 hy3=>?_⟩
   ·obtain ⟨j,hj,rfl⟩:=List.getElem_of_mem he
    rw [List.getElem_take] at z
    have hj':j < i:=by omega
    have:=kL hC.nd (i:=j) (j:=i) (by omega) hid (by rw [kG (List.getElem?_eq_getElem (by omega)),kG hd];exact z)
    omega
   ·(walk_at "RD")
    obtain ⟨Cq,dq,fq,hqi⟩:=Rq.ins
    have hwq:wl ≠ q:=Fg w1 hqi (by intro z;cases z)
    have hw3:H3 wl=some (.lst (as.map V.ref)):=s3 _ _ hwq w1
    have hsm3:Ac H H3:=sf sm' s3 hqn
    refine ⟨_,hw3,Nat.lt_of_le_of_lt (show (as.map V.ref).length ≤ 12 by rw [List.length_map];omega) (by decide),?_⟩
    have hyw:y ≠ wl:=fun z=>by
     subst z
     rw [w1] at hy3;cases hy3
    refine ⟨⟨_,rfl⟩,nt3.upd,fun b u e=>?_,?_,hwl0,⟨as ++ [y],by rw [fb,List.map_append];rfl,?_,fun j a d h1 h2=>?_⟩,fun j q' d hj h1 h2=>?_⟩
    ·rw [rb (zb e hwl0)];exact hsm3 _ _ e
    ·rw [rb hpw]
     exact s3 _ _ (Fg hpc' hqi (by intro z;cases z)) hpc'
    ·rw [List.length_append,w2,htl,List.length_take];show i + 1=_;omega
    ·by_cases hj:j < as.length
     ·rw [List.getElem?_append_left hj] at h1
      have h2':(ds.take i)[j]? = some d:=by
       rw [List.getElem?_take_of_lt (by omega)]
       rw [List.getElem?_take_of_lt (by omega)] at h2
       exact h2
      obtain ⟨hk,dx',e⟩:=al j a d h1 h2'
      have haq:a ≠ q:=XG ⟨hk,dx',e⟩ Rq
      have haw:a ≠ wl:=Fg e w1 (by intro z;cases z)
      exact ⟨hk,dx',by rw [rb haw];exact s3 _ _ haq e⟩
     ·rw [List.getElem?_append_right (by omega)] at h1
      have hj0:j - as.length=0:=by
       cases hh:j - as.length with
       | zero=>rfl
       | succ m=>rw [hh] at h1;simp at h1
      rw [hj0] at h1
      have e3:y=a:=by simpa using h1
      subst e3
      have e4:j=i:=by omega
      subst e4
      rw [List.getElem?_take_of_lt (by omega),hd] at h2
      cases h2
      exact ⟨w3.1,w3.2.imp fun dx' e=>by rw [rb hyw];exact e⟩
    ·obtain ⟨Rj,hqj⟩:=Rs j q' d (by omega) h1 h2
     have R3:=Rj.sameX s3 (mS Rj Rq (by omega)) Rq.ins
     refine ⟨?_,hqj⟩
     obtain ⟨hz,dx',ta,e1,e2⟩:=R3
     refine ⟨hz,dx',ta,by rw [rb (Fg e1 hw3 (by intro z;cases z))];exact e1,?_⟩
     rw [rb (fun z=>by
      subst z
      rw [hw3] at e2
      have e5:=Option.some.inj e2
      injection e5 with e6
      cases as with
      | nil=>exact absurd (congrArg List.length e6) (by show ¬ (0:Nat)=7;decide)
      | cons a r=>injection e6 with e7 _;cases e7)]
     exact e2
 ·rintro σ H' ⟨⟨x,rfl⟩,nt',sm',hpc',hwl0,W,Rs⟩
  rw [List.length_map,hqrl,List.take_length] at W
  obtain ⟨as,w1,w2,al⟩:=id W
  (walk_at "RD")
  refine Cc false (fun Q hQ=>?_) (fun hc=>nomatch hc) (fun _=>?_)
  ·(walk_at "RD")
   refine ⟨true,.inl ⟨_,SqL.of w1,?_⟩,hQ⟩
   cases as with
   | nil=>simp at w2;omega
   | cons a r=>rfl
  ·(walk_at "RD")
   intro c dx hc hdx hne
   have sc:Ac H' (upd (upd H' dx (.own c)) c (.ins t.Eb dx [])):=((Ac.refl H').updN hdx).updN hc
   refine ⟨c,dx,n,wl,ds,rfl,fb,W.same sc,hC.nd,hln.2,(nt'.upd).upd,fun H5 s5 nt5 C5=>⟨rfl,?_⟩⟩
   exact qq c H5 (sf (sm'.trans sc) s5 (sm'.free hc)) nt5 C5
end
section
variable {P:Program} {w:World} {K:PySem.W.Frag} {mg:Str→Option Value} {base:Heap} {t:Adr}
theorem Yy (T:Txt w K mg t):Nb P w K mg base CX0 1 t.qe t.re ["self"] (vv t):=by
 refine T.Wy.ok bw (fun vs H Q E h=>?_) (fun cdv A outer s H vs Q E hr h=>?_)
 ·obtain ⟨c,n,ds,rfl,_⟩:=h;rfl
 obtain ⟨c,n,ds,rfl,⟨⟨hnd,hdl⟩,dx,wl,nd,e1,⟨as,w1,w2,al⟩,e3⟩,q⟩:=h
 refine ⟨_,(qb (Rb (yn rfl (Af (Kd (pv 0) rfl)) (ue (sc:=db uc) rfl (by decide +kernel)) (N:=["way"]) (sel:=[none]) (qf (M:=["self"]) (by decide +kernel)) (Blk.of (fun _ _ _ _=>(Kb (i:=0) (vj (N:=["way"]) (by decide +kernel) rfl) rfl (Or.inl rfl))) (fun _ _ _ _=>⟨_,Mi,by first | rfl | (dsimp only [Cx.block];done) | (dsimp only [Cx.block];exact rfl)⟩) (fun _ _ _ _=>⟨_,(Kd (pv 0) rfl),by first | rfl | (dsimp only [Cx.block];done) | (dsimp only [Cx.block];exact rfl)⟩))))),?_⟩
 (walk_at "RD")
 refine ⟨_,DS T e1,_,rfl,⟨_,SqL.of w1⟩,?_⟩
 refine yf.list_zs (xs:=as.map V.ref) (zs:=Cb (ds.map (·.name))) (SqL.of w1) (by rw [List.length_map,w2];exact Nat.le_trans hdl (by decide)) (by rw [Fd,List.length_map,List.length_map,w2]) (fun i v z N hv hz' hN=>?_) (fun p hp=>q p hp)
 obtain ⟨a,ha,rfl⟩:=Fc hv
 obtain ⟨x,hx,rfl⟩:=Fc hz'
 obtain ⟨d,hd,rfl⟩:=Fc hx
 (walk_at "RD")
 exact ⟨Sub.name,_,(al i a d ha hd).f_name T,hN⟩
end
end My
namespace My
open PySem L2
def vy (n s f p:Int):Bool:=decide (0 < (p - s) % n) && decide ((p - s) % n < (f - s) % n)
def vZ (n s f s2 f2:Int):Bool:=decide (f=f2) || (if (s2=s∨s2=f)∨(f2=s∨f2=f) then false else (vy n s f s2 != vy n s f f2))
abbrev mt (n:Int) (d e:WD):Bool:=vZ n d.start d.fin e.start e.fin
def fT (t:Adr):Sp:=fun vs H Q _=>∃ a d n p,vs=[.int n,.ref a,.int p]∧Dg t H a d∧0 < n∧Q (.bl (vy n d.start d.fin p)) H
def PX (n:Int) (d e:WD):Bool:=if (e.start=d.start∨e.start=d.fin)∨(e.fin=d.start∨e.fin=d.fin) then false else (vy n d.start d.fin e.start != vy n d.start d.fin e.fin)
def rN (t:Adr):Sp:=fun vs H Q _=>∃ a b d e n,vs=[.int n,.ref a,.ref b]∧Dg t H a d∧Dg t H b e∧0 < n∧NoT H∧Q (.bl (PX n d e)) H
def MR (t:Adr):Sp:=fun vs H Q _=>∃ a b d e n,vs=[.int n,.ref a,.ref b]∧Dg t H a d∧Dg t H b e∧0 < n∧∀ H',Ac H H'→Q (.bl (PX n d e)) H'
def rQ (t:Adr):Sp:=fun vs H Q _=>∃ c n ds,∃ i j:Nat,∃ d e,vs=[.ref c,.str d.name,.str e.name]∧Gd t H c n ds∧0 < n∧ds[i]? = some d∧ds[j]? = some e∧NoT H∧Q (.bl (mt n d e)) H
section
variable {P:Program} {w:World} {K:PySem.W.Frag} {mg:Str→Option Value} {base:Heap} {t:Adr}
theorem KW (T:Txt w K mg t):Nb P w K mg base CX0 1 t.zv t.dz ["places","way","place"] (fT t):=by
 refine T.AR.ok vG (fun vs H Q E h=>?_) (fun cdv A outer s H vs Q E hr h=>?_)
 ·obtain ⟨a,d,n,p,rfl,_⟩:=h;rfl
 obtain ⟨a,d,n,p,rfl,W,hn,q⟩:=h
 refine ⟨_,(gb (Pb (i:=3) vG.nd rfl (Or.inl rfl) (Yc ik (Yc Tn (pv 2) (Kd (pv 1) rfl)) (pv 0)))
   (qb (Rb (JS (qh lE Ab (pv 3) (Bc _)) (iL (qh lE (pv 3) (Yc ik (Yc Tn (Kd (pv 1) rfl) (Kd (pv 1) rfl)) (pv 0)) (Bc _))))))),?_⟩
 (walk_at "RD")
 refine ⟨_,W.f_start T,_,rfl,hn,?_⟩
 unfold vy at q
 by_cases c:0 < (p - d.start) % n
 ·rw [if_pos (decide_eq_true c)]
  rw [decide_eq_true c,Bool.true_and] at q
  exact ⟨_,W.f_end T,_,W.f_start T,_,rfl,_,rfl,hn,q⟩
 ·rw [if_neg (by simpa using c)]
  rw [decide_eq_false c,Bool.false_and] at q
  exact q
theorem G0 (x a b:Int):inV (.int x) [.int a,.int b]=decide (x=a∨x=b):=by
 unfold inV
 simp only [List.any_cons,List.any_nil,eqV,Bool.or_false]
 rw [Bool.eq_iff_iff]
 simp only [Bool.or_eq_true,beq_iff_eq,decide_eq_true_eq]
 omega
theorem oV (T:Txt w K mg t):Nb P w K mg base CX0 2 t.Gi t.Sk ["places","way","second"] (rN t):=by
 refine Nb.forget (sp:=MR t) ?_ fun vs H Q E h=>?_
 ·have G_in_bow:Nb P w K mg base CX0 1 t.zv t.dz ["places","way","place"] (fT t):=KW T
  refine T.EG.ok oF (fun vs H Q E h=>?_) (fun cdv A outer s H vs Q E hr h=>?_)
  ·obtain ⟨a,b,d,e,n,rfl,_⟩:=h;rfl
  obtain ⟨a,b,d,e,n,rfl,Wa,Wb,hn,q⟩:=h
  refine ⟨_,(gb (Xf (PW.pt (NM (fc au (Kd (pv 2) rfl) (mf (cb (Kd (pv 1) rfl) (cb (Kd (pv 1) rfl) ib))) (by with_unfolding_all rfl)) (OD (fc au (Kd (pv 2) rfl) (mf (cb (Kd (pv 1) rfl) (cb (Kd (pv 1) rfl) ib))) (by with_unfolding_all rfl))))) (qb (Rb BJ)) zc)
   (qb (Rb (qh EN (Fb G_in_bow hr rfl T.YJ T.wK T.BK .nil Ob (cb (pv 0) (cb (pv 1) (cb (Kd (pv 2) rfl) ib)))) (Fb G_in_bow hr rfl T.YJ T.wK T.BK .nil Ob (cb (pv 0) (cb (pv 1) (cb (Kd (pv 2) rfl) ib)))) (Bc _))))),?_⟩
  (walk_at "RD")
  refine Ou (fun b H'=>Ac H H'∧b=decide ((e.start=d.start∨e.start=d.fin)∨(e.fin=d.start∨e.fin=d.fin))) (fun Q hQ=>?_) (fun H' ⟨sm,hb⟩=>?_) (fun H' ⟨sm,hb⟩=>?_)
  ·(walk_at "RD")
   refine ⟨_,Wb.f_start T,_,Wa.f_start T,_,Wa.f_end T,by decide,fun p hp=>⟨_,.inl (SqL.of fb),rfl,rfl,?_⟩⟩
   have s1:Ac H (upd H p (.lst [.int d.start,.int d.fin])):=pb hp
   rw [G0]
   by_cases c1:e.start=d.start∨e.start=d.fin
   ·rw [if_pos (decide_eq_true c1)]
    exact hQ _ _ ⟨s1,(decide_eq_true (.inl c1)).symm⟩
   ·rw [if_neg (by simpa using c1)]
    refine ⟨_,(Wb.same s1).f_end T,_,(Wa.same s1).f_start T,_,(Wa.same s1).f_end T,by decide,fun p2 hp2=>⟨_,.inl (SqL.of fb),rfl,rfl,?_⟩⟩
    rw [G0]
    refine hQ _ _ ⟨s1.trans (pb hp2),?_⟩
    rw [Bool.eq_iff_iff,decide_eq_true_eq,decide_eq_true_eq]
    exact ⟨.inr,fun z=>z.resolve_left c1⟩
  ·(walk_at "RD")
   have hb':=of_decide_eq_true hb.symm
   have:=q H' sm
   unfold PX at this
   rw [if_pos hb'] at this
   exact this
  ·(walk_at "RD")
   have hb':=of_decide_eq_false hb.symm
   refine ⟨_,(Wb.same sm).f_start T,⟨a,d,n,_,rfl,Wa.same sm,hn,?_⟩⟩
   refine ⟨_,(Wb.same sm).f_end T,⟨a,d,n,_,rfl,Wa.same sm,hn,?_⟩⟩
   refine ⟨rfl,?_⟩
   have:=q H' sm
   unfold PX at this
   rw [if_neg hb'] at this
   rw [show (!decide (V.bl (vy n d.start d.fin e.start)=V.bl (vy n d.start d.fin e.fin)))=(vy n d.start d.fin e.start != vy n d.start d.fin e.fin) by
    cases vy n d.start d.fin e.start <;> cases vy n d.start d.fin e.fin <;> rfl]
   exact this
 ·obtain ⟨a,b,d,e,n,h1,h2,h3,h4,nt,q⟩:=h
  exact ⟨nt,a,b,d,e,n,h1,h2,h3,h4,fun H' sm=>⟨sm,q⟩⟩
theorem pZ (n:Int) (d e:WD):mt n d e=(decide (d.fin=e.fin) || PX n d e):=rfl
theorem jW (T:Txt w K mg t):Nb P w K mg base CX0 3 t.LG t.lL ["crossing","one","other"] (rQ t):=by
 have G_Crossing_called:Nb P w K mg base CX0 2 t.jd t.gd ["self","name"] (rm t):=Jo T
 have G_bows_cross:Nb P w K mg base CX0 2 t.Gi t.Sk ["places","way","second"] (rN t):=oV T
 refine T.iX.ok HI (fun vs H Q E h=>?_) (fun cdv A outer s H vs Q E hr h=>?_)
 ·obtain ⟨c,n,ds,i,j,d,e,rfl,_⟩:=h;rfl
 obtain ⟨c,n,ds,i,j,d,e,rfl,C,hn,hd,he,nt,q⟩:=h
 obtain ⟨_,dx,wl,nd,e1,e2,e3⟩:=id C
 refine ⟨_,(gb (Pb (i:=3) HI.nd rfl (Or.inl rfl) (Td (pv 0) T.Zb T.Qd G_Crossing_called hr T.Wd .nil Ob (cb (pv 1) ib)))
   (gb (Pb (i:=4) HI.nd rfl (Or.inl rfl) (Td (pv 0) T.Zb T.Qd G_Crossing_called hr T.Wd .nil Ob (cb (pv 2) ib)))
   (qb (Rb (SX (qh Fj (Kd (pv 3) rfl) (Kd (pv 4) rfl) (Bc _)) (iL (Fb G_bows_cross hr rfl T.MF T.KG T.uG .nil Ob (cb (Kd (pv 0) rfl) (cb (pv 3) (cb (pv 4) ib)))))))))),?_⟩
 rw [pZ] at q
 (walk_at "RD")
 refine ⟨_,_,e1,CK _ _ _ (by decide +kernel),⟨c,n,ds,i,d,rfl,C,hd,fun a Wa=>?_⟩⟩
 (walk_at "RD")
 refine ⟨_,_,e1,CK _ _ _ (by decide +kernel),⟨c,n,ds,j,e,rfl,C,he,fun b Wb=>?_⟩⟩
 (walk_at "RD")
 refine ⟨_,Wa.f_end T,_,Wb.f_end T,rfl,?_⟩
 (walk_at "RD")
 by_cases c1:d.fin=e.fin
 ·rw [if_pos (decide_eq_true c1)]
  rw [decide_eq_true c1,Bool.true_or] at q
  exact q
 ·rw [if_neg (by simpa using c1)]
  rw [decide_eq_false c1,Bool.false_or] at q
  exact ⟨_,EQ T e1,⟨a,b,d,e,n,rfl,Wa,Wb,hn,nt,q⟩⟩
end
def yT (t:Adr):Sp:=fun vs H Q _=>∃ c n ds,∃ i j:Nat,∃ d e,vs=[.ref c,.str d.name,.str e.name]∧Gd t H c n ds∧ds[i]? = some d∧ds[j]? = some e∧Q (.int (if d.off - e.near > 0 then d.off - e.near else 0)) H
section
variable {P:Program} {w:World} {K:PySem.W.Frag} {mg:Str→Option Value} {base:Heap} {t:Adr}
theorem AX (T:Txt w K mg t):Nb P w K mg base CX0 3 t.tQ t.LR ["crossing","one","other"] (yT t):=by
 have G_Crossing_called:Nb P w K mg base CX0 2 t.jd t.gd ["self","name"] (rm t):=Jo T
 refine T.EZ.ok RP (fun vs H Q E h=>?_) (fun cdv A outer s H vs Q E hr h=>?_)
 ·obtain ⟨c,n,ds,i,j,d,e,rfl,_⟩:=h;rfl
 obtain ⟨c,n,ds,i,j,d,e,rfl,C,hd,he,q⟩:=h
 obtain ⟨_,dx,wl,nd,e1,e2,e3⟩:=id C
 refine ⟨_,(gb (Pb (i:=3) RP.nd rfl (Or.inl rfl) (Td (pv 0) T.Zb T.Qd G_Crossing_called hr T.Wd .nil Ob (cb (pv 1) ib)))
   (gb (Pb (i:=4) RP.nd rfl (Or.inl rfl) (Td (pv 0) T.Zb T.Qd G_Crossing_called hr T.Wd .nil Ob (cb (pv 2) ib)))
   (qb (Rb (pe (xO rfl) rfl T.e473 PL (cb Ab (cb (Yc Tn (Kd (pv 3) rfl) (Kd (pv 4) rfl)) ib))))))),?_⟩
 (walk_at "RD")
 refine ⟨_,_,e1,CK _ _ _ (by decide +kernel),⟨c,n,ds,i,d,rfl,C,hd,fun a Wa=>?_⟩⟩
 (walk_at "RD")
 refine ⟨_,_,e1,CK _ _ _ (by decide +kernel),⟨c,n,ds,j,e,rfl,C,he,fun b Wb=>?_⟩⟩
 (walk_at "RD")
 refine ⟨_,Wa.f_off T,_,Wb.f_near T,?_⟩
 (walk_at "RD")
 exact q
end
end My
namespace My
open PySem L2
structure SD where
 name:Str
 b:Int
 n:Int
def sdO (d:SD):HO:=.tup [.str d.name,.int d.b,.int d.n]
def prO (p:Int × Int):HO:=.tup [.int p.1,.int p.2]
def ofN (x:Str) (sp:List SD):List (Int × Int):=(sp.filter fun d=>decide (d.name=x)).map fun d=>(d.b,d.n)
def LQ (H:Hp) (qs:List Addr) (os:List HO):Prop:=qs.length=os.length∧∀ (i:Nat) (q:Addr) (o:HO),qs[i]? = some q→os[i]? = some o→H q=some o
def LO (H:Hp) (p:Addr) (os:List HO):Prop:=∃ qs:List Addr,H p=some (.lst (qs.map V.ref))∧LQ H qs os
theorem LQ.same {H H':Hp} {qs:List Addr} {os:List HO} (h:LQ H qs os) (s:Ac H H'):LQ H' qs os:=⟨h.1,fun i q o h1 h2=>s _ _ (h.2 i q o h1 h2)⟩
theorem LO.same {H H':Hp} {p:Addr} {os:List HO} (h:LO H p os) (s:Ac H H'):LO H' p os:=by
 obtain ⟨qs,e,q⟩:=h
 exact ⟨qs,s _ _ e,q.same s⟩
theorem LQ.nil (H:Hp):LQ H [] []:=⟨rfl,fun i q o h _=>by simp at h⟩
theorem LQ.app {H:Hp} {qs qs':List Addr} {os os':List HO} (h:LQ H qs os) (h':LQ H qs' os'):LQ H (qs ++ qs') (os ++ os'):=by
 refine ⟨by rw [List.length_append,List.length_append,h.1,h'.1],fun i q r h1 h2=>?_⟩
 rw [List.getElem?_append] at h1 h2
 rw [h.1] at h1
 by_cases c:i < os.length
 ·rw [if_pos c] at h1 h2;exact h.2 i q r h1 h2
 ·rw [if_neg c] at h1 h2;exact h'.2 _ q r h1 h2
theorem LQ.one {H:Hp} {p:Addr} {o:HO} (e:H p=some o):LQ H [p] [o]:=⟨rfl,fun i q r' h1 h2=>by
 match i,h1,h2 with
 | 0,h1,h2=>cases h1;cases h2;exact e
 | i + 1,h1,_=>simp at h1⟩
theorem LQ.at {H:Hp} {qs:List Addr} {os:List HO} (h:LQ H qs os) {i:Nat} {q:Addr} (hq:qs[i]? = some q):∃ o,os[i]? = some o∧H q=some o:=by
 have hi:i < os.length:=by rw [← h.1];exact (List.getElem?_eq_some_iff.mp hq).1
 exact ⟨_,List.getElem?_eq_getElem hi,h.2 i q _ hq (List.getElem?_eq_getElem hi)⟩
theorem CS (x:Str) (sp:List SD) (d:SD):ofN x (sp ++ [d])=ofN x sp ++ if d.name=x then [(d.b,d.n)] else []:=by
 unfold ofN
 rw [List.filter_append,List.map_append]
 congr 1
 by_cases c:d.name=x
 ·rw [if_pos c,List.filter_cons_of_pos (by simpa using c)];rfl
 ·rw [if_neg c,List.filter_cons_of_neg (by simpa using c)];rfl
theorem LA (x:Str) (sp:List SD):(ofN x sp).length ≤ sp.length:=by
 unfold ofN
 rw [List.length_map]
 exact List.length_filter_le _ _
theorem zi {α:Type} {xs:List α} {i:Nat} {x:α} (h:xs[i]? = some x):xs.take (i + 1)=xs.take i ++ [x]:=by
 rw [List.take_add_one,h];rfl
def yW {α:Type} (z:Int) (v:α) (l:List α) (i:Int):List α:=l.set (i % z).toNat v
def XM {α:Type} (z:Int) (v:α) (b:Int):Nat→List α→List α
 | 0,l=>l
 | k + 1,l=>yW z v (XM z v b k l) (b + k)
def YH {α:Type} (z:Int) (v:α) (b:Int):Nat→List α→List α
 | 0,l=>l
 | k + 1,l=>yW z v (YH z v b k l) (b - 1 - k)
theorem nK {α:Type} (z:Int) (v:α) (l:List α) (i:Int):(yW z v l i).length=l.length:=by unfold yW;rw [List.length_set]
theorem Rm {α:Type} (z:Int) (v:α) (b:Int) (k:Nat) (l:List α):(XM z v b k l).length=l.length:=by
 induction k with
 | zero=>rfl
 | succ k ih=>unfold XM;rw [nK,ih]
theorem uv {α:Type} (z:Int) (v:α) (b:Int) (k:Nat) (l:List α):(YH z v b k l).length=l.length:=by
 induction k with
 | zero=>rfl
 | succ k ih=>unfold YH;rw [nK,ih]
def fmF (z:Nat) (ps:List (Int × Int)):List Bool:=ps.foldl (fun l p=>XM z true p.1 p.2.toNat l) (List.replicate z false)
def rR (z rd fd:Nat) (l:List Str) (p:Int × Int):List Str:=XM z (Str.ofString "fade") (p.1 + p.2) fd (XM z (Str.ofString "free") p.1 p.2.toNat (YH z (Str.ofString "ready") p.1 rd l))
def Dp (z rd fd:Nat) (ps:List (Int × Int)):List Str:=ps.foldl (rR z rd fd) (List.replicate z (Str.ofString "stop"))
theorem EV {z:Nat} {ps:List (Int × Int)} {i:Nat} {p:Int × Int} (h:ps[i]? = some p):fmF z (ps.take (i + 1))=XM z true p.1 p.2.toNat (fmF z (ps.take i)):=by
 unfold fmF;rw [zi h,List.foldl_append];rfl
theorem sQ {z rd fd:Nat} {ps:List (Int × Int)} {i:Nat} {p:Int × Int} (h:ps[i]? = some p):Dp z rd fd (ps.take (i + 1))=rR z rd fd (Dp z rd fd (ps.take i)) p:=by
 unfold Dp;rw [zi h,List.foldl_append];rfl
theorem WA (z:Nat) (ps:List (Int × Int)):(fmF z ps).length=z:=by
 unfold fmF
 suffices h:∀ l:List Bool,l.length=z→(ps.foldl (fun l p=>XM z true p.1 p.2.toNat l) l).length=z from h _ (List.length_replicate ..)
 induction ps with
 | nil=>exact fun l h=>h
 | cons p ps ih=>exact fun l h=>ih _ (by rw [Rm];exact h)
theorem Cu (z rd fd:Nat) (ps:List (Int × Int)):(Dp z rd fd ps).length=z:=by
 unfold Dp
 suffices h:∀ l:List Str,l.length=z→(ps.foldl (rR z rd fd) l).length=z from h _ (List.length_replicate ..)
 induction ps with
 | nil=>exact fun l h=>h
 | cons p ps ih=>exact fun l h=>ih _ (by unfold rR;rw [Rm,Rm,uv];exact h)
def XU (z:Int) (sp:List SD):Prop:=sp.length ≤ 100∧∀ d ∈ sp,0 ≤ d.b∧d.b < 1000∧0 ≤ d.n∧d.n < 1000
theorem ZH {x:Str} {sp:List SD} {p:Int × Int} (h:p ∈ ofN x sp):∃ d ∈ sp,d.name=x∧p=(d.b,d.n):=by
 unfold ofN at h
 obtain ⟨d,hd,rfl⟩:=List.mem_map.mp h
 have:=List.mem_filter.mp hd
 exact ⟨d,this.1,by simpa using this.2,rfl⟩
theorem uX {m:Nat} (h:0 < m) (i:Int):ixN m (i % (m:Int))=some (i % (m:Int)).toNat:=by
 have h1:=Int.emod_nonneg i (show (m:Int) ≠ 0 by omega)
 have h2:=Int.emod_lt_of_pos i (show 0 < (m:Int) by omega)
 unfold ixN
 rw [if_pos h1,if_pos h2]
theorem pK {α β:Type} (f:α→β) {l:List α} {z:Nat} (h:l.length=z) (hz:0 < z) (i:Int):ixN (l.map f).length (i % (z:Int))=some (i % (z:Int)).toNat:=by
 rw [List.length_map,h];exact uX hz i
theorem OP (d:WD):0 ≤ tf d∧tf d ≤ 2:=by
 unfold tf;split <;> omega
theorem qR {d:WD} (h:0 ≤ d.off∧d.off ≤ 1000):0 ≤ Oi d∧Oi d ≤ 1000:=by
 unfold Oi;split <;> omega
theorem eZ {d:WD} {m:Str} (h:DC.contains m=false):(Cy d).lookup m=none:=Hv DC (GD _) h
def Nh (l:List Bool):List V:=l.map V.bl
theorem Zy {α β:Type} (f:α→β) (z:Int) (v:α) (l:List α) (i:Int):(l.map f).set (i % z).toNat (f v)=(yW z v l i).map f:=by
 unfold yW;rw [List.map_set]
def Wv:Sp:=fun vs H Q _=>∃ p x sp,vs=[.ref p,.str x]∧LO H p (List.map sdO sp)∧sp.length ≤ 100∧∀ r H',Ac H H'→(NoT H→NoT H')→LO H' r ((ofN x sp).map prO)→Q (.ref r) H'
def CV:Sp:=fun vs H Q _=>∃ (z:Nat) (p:Addr) (x:Str) (sp:List SD),vs=[.int z,.ref p,.str x]∧(0 < z∧z ≤ 1000)∧LO H p (List.map sdO sp)∧XU z sp∧∀ r H',Ac H H'→(NoT H→NoT H')→H r=none→H' r=some (.lst (Nh (fmF z (ofN x sp))))→Q (.ref r) H'
def lP (t:Adr):Sp:=fun vs H Q _=>∃ (a:Addr) (d:WD) (z:Nat) (p:Addr) (sp:List SD),vs=[.ref a,.int z,.ref p]∧(0 < z∧z ≤ 1000)∧Dg t H a d∧LO H p (List.map sdO sp)∧XU z sp∧(0 ≤ d.off∧d.off ≤ 1000)∧∀ r H',Ac H H'→(NoT H→NoT H')→H r=none→H' r=some (.lst (Cb (Dp z (tf d).toNat (Oi d).toNat (ofN d.name sp))))→Q (.ref r) H'
def Dx (m:List Bool):Nat→Int
 | 0=>0
 | k + 1=>if m[(2 * m.length - 1 - k) % m.length]? = some true then 0 else Dx m k + 1
def eB (m:List Bool):List Int:=(List.range m.length).map fun t=>Dx m (2 * m.length - t)
def YD (m:List Bool) (k:Nat):List Int:=(List.range k).map fun j=>Dx m (m.length + j + 1)
theorem xL (m:List Bool):(YD m m.length).reverse=eB m:=by
 unfold YD eB
 refine List.ext_getElem (by simp) (fun i h1 h2=>?_)
 simp at h1
 simp
 congr 1
 omega
def UN (m:List Bool):List Int:=(eB m.reverse).reverse
def dF:Sp:=fun vs H Q _=>∃ (p:Addr) (m:List Bool),vs=[.ref p]∧H p=some (.lst (Nh m))∧(0 < m.length∧m.length ≤ 1000)∧∀ r H',Ac H H'→(NoT H→NoT H')→H r=none→H' r=some (.lst ((eB m).map V.int))→Q (.ref r) H'
def MK:Sp:=fun vs H Q _=>∃ (p:Addr) (m:List Bool),vs=[.ref p]∧H p=some (.lst (Nh m))∧(0 < m.length∧m.length ≤ 1000)∧∀ r H',Ac H H'→(NoT H→NoT H')→H r=none→H' r=some (.lst ((UN m).map V.int))→Q (.ref r) H'
section
variable {P:Program} {w:World} {K:PySem.W.Frag} {mg:Str→Option Value} {base:Heap} {t:Adr}
theorem bA (T:Txt w K mg t):Nb P w K mg base CX0 1 t.Bg t.kh ["spans","name"] Wv:=by
 refine T.rL.ok CJ (fun vs H Q E h=>?_) (fun cdv A outer s H vs Q E hr h=>?_)
 ·obtain ⟨p,x,sp,rfl,_⟩:=h;rfl
 obtain ⟨p,x,sp,rfl,⟨qs,l1,lq⟩,hl,q⟩:=h
 refine ⟨_,(qb (Rb (yn rfl (Af (pv 0)) (ue (sc:=db zf) rfl (by decide +kernel)) (N:=["called","begin","turns","name"]) (sel:=[none,none,none,some 1]) (qf (M:=["spans","name"]) (by decide +kernel)) (Blk.of (fun _ _ _ _=>(Rh (K:=K) (n:=3) rfl rfl (ic (Kb (i:=0) (vj (N:=["called","begin","turns","name"]) (by decide +kernel) rfl) rfl (Or.inl rfl) (.inr rfl)) (ic (Kb (i:=1) (vj (N:=["called","begin","turns","name"]) (by decide +kernel) rfl) rfl (Or.inl rfl) (.inr rfl)) (ic (Kb (i:=2) (vj (N:=["called","begin","turns","name"]) (by decide +kernel) rfl) rfl (Or.inl rfl) (.inr rfl)) Xh))))) (fun _ _ _ _=>⟨_,(YE (fc Fj (pv 0) (pv 3) (Bc _))),by first | rfl | (dsimp only [Cx.block];done) | (dsimp only [Cx.block];exact rfl)⟩) (fun _ _ _ _=>⟨_,(Eo (cb (pv 1) (cb (pv 2) ib))),by first | rfl | (dsimp only [Cx.block];done) | (dsimp only [Cx.block];exact rfl)⟩))))),?_⟩
 (walk_at "RD")
 have hql:qs.length=sp.length:=by rw [lq.1,List.length_map]
 refine ⟨⟨_,SqL.of l1⟩,?_⟩
 refine yf.list (xs:=qs.map V.ref) (fun i ys H'=>∃ os:List Addr,ys=os.map V.ref∧LQ H' os ((ofN x (sp.take i)).map prO)∧Ac H H'∧(NoT H→NoT H')) (Nat.le_trans (show (qs.map V.ref).length ≤ 100 by rw [List.length_map];omega) (by decide)) ⟨[],rfl,LQ.nil _,Ac.refl _,id⟩ ?_ ?_ ?_
 ·rintro i ys H' hi ⟨os,rfl,r,sm,_⟩
  refine ⟨(SqL.of l1).same sm,?_⟩
  rw [List.length_map,r.1,List.length_map]
  exact Nat.le_trans (LA _ _) (by rw [List.length_take];omega)
 ·rintro i v ys H' hv ⟨os,rfl,r,sm,nt⟩ N hN
  obtain ⟨qi,hqi,rfl⟩:=Fc hv
  obtain ⟨o,ho,e⟩:=lq.at hqi
  obtain ⟨d,hd,rfl⟩:=Fc ho
  have e':=sm _ _ e
  (walk_at "RD")
  refine ⟨_,SqT.of e',rfl,_,_,rfl,_,_,rfl,_,_,rfl,rfl,Sub.name3,rfl,?_⟩
  dsimp only at hN
  rw [zi hd,CS,List.map_append] at hN
  by_cases c:d.name=x
  ·rw [if_pos c] at hN
   rw [if_pos (by rw [c];exact decide_eq_true rfl)]
   refine ⟨by decide,fun p1 hp1=>hN _ _ ⟨os ++ [p1],by rw [List.map_append];rfl,(r.same (pb hp1)).app (LQ.one fb),sm.trans (pb hp1),fun n=>(nt n).upd⟩⟩
  ·rw [if_neg c] at hN
   rw [if_neg (by rw [decide_eq_true_eq];intro z;exact c (V.str.inj z))]
   exact hN _ _ ⟨os,rfl,by rw [List.map_nil,List.append_nil];exact r,sm,nt⟩
 ·rintro ys H' ⟨os,rfl,r,sm,nt⟩ p1 hp1
  rw [List.take_of_length_le (by rw [List.length_map];omega)] at r
  exact q _ _ (sm.trans (pb hp1)) (fun n=>(nt n).upd) ⟨os,fb,r.same (pb hp1)⟩
theorem QY (T:Txt w K mg t):Nb P w K mg base CX0 2 t.fh t.yi ["size","spans","name"] CV:=by
 have G_spans_of:Nb P w K mg base CX0 1 t.Bg t.kh ["spans","name"] Wv:=bA T
 refine T.tH.ok Gh (fun vs H Q E h=>?_) (fun cdv A outer s H vs Q E hr h=>?_)
 ·obtain ⟨z,p,x,sp,rfl,_⟩:=h;rfl
 obtain ⟨z,p,x,sp,rfl,hz,L,hs,q⟩:=h
 refine ⟨_,(gb (Qh (i:=3) Gh.nd rfl (Or.inl rfl) rfl (Eh rfl T.e146 (cb (pv 0) ib)) (ue (sc:=db fe) rfl (by decide +kernel)) (N:=["turn"]) (sel:=[none]) (qf (M:=["size","spans","name","marks","begin","turns","step"]) (by decide +kernel)) (Blk.of (fun _ _ _ _=>(Kb (i:=0) (vj (N:=["turn"]) (by decide +kernel) rfl) rfl (Or.inl rfl))) (fun _ _ _ _=>⟨_,Mi,by first | rfl | (dsimp only [Cx.block];done) | (dsimp only [Cx.block];exact rfl)⟩) (fun _ _ _ _=>⟨_,BJ,by first | rfl | (dsimp only [Cx.block];done) | (dsimp only [Cx.block];exact rfl)⟩)) rfl)
   (gb (Mg PassesOwn.never rfl (Af (Fb G_spans_of hr rfl T.dm T.qm T.Gm .nil Ob (cb (pv 1) (cb (pv 2) ib)))) (Rh (K:=K) (n:=2) rfl rfl (ic (Kb (i:=4) Gh.nd rfl (Or.inl rfl) (.inl rfl)) (ic (Kb (i:=5) Gh.nd rfl (Or.inl rfl) (.inl rfl)) Xh))) (qb (Mg PassesOwn.never rfl (Eh rfl T.e146 (cb (pv 5) ib)) (Kb (i:=6) Gh.nd rfl (Or.inl rfl)) (qb (Lp BJ (Cv (pv 3) (Yc ik (Yc xh (pv 4) (pv 6)) (pv 0)) gj))))))
   (qb (Rb (pv 3))))),?_⟩
 (walk_at "RD")
 obtain ⟨hz0,hz1⟩:=hz
 obtain ⟨hs1,hs2⟩:=hs
 refine ⟨by omega,by omega,?_⟩
 refine yf.range_map (fun _=>V.bl false) (Nat.le_trans (show (z:Int).toNat ≤ 1000 by omega) (by decide)) (fun i N hi hN=>?_) (fun mk hmk=>?_)
 ·(walk_at "RD")
  exact ⟨Sub.name,hN⟩
 rw [show (List.range (z:Int).toNat).map (fun _=>V.bl false)=Nh (fmF z []) by
  unfold Nh fmF;rw [List.foldl_nil,List.map_replicate];exact List.ext_getElem (by simp) (by simp)]
 refine ⟨p,x,sp,rfl,L.same (pb hmk),hs1,fun r H1 s1 nt1 L1=>⟨r,rfl,?_⟩⟩
 obtain ⟨qs,l1,lq⟩:=L1
 refine ⟨⟨_,SqL.of l1⟩,?_⟩
 have hmk1:H1 mk=some (.lst (Nh (fmF z []))):=s1 _ _ fb
 have hrm:r ≠ mk:=fun e=>by
  subst e
  rw [l1] at hmk1
  injection hmk1 with e1
  injection e1 with e2
  have e3:=congrArg List.length e2
  cases qs with
  | nil=>simp [Nh,WA] at e3;omega
  | cons a qs=>
   have:(Nh (fmF z []))[0]? = some (V.ref a):=by rw [← e2];rfl
   unfold Nh at this
   rw [List.getElem?_map] at this
   cases hh:(fmF z [])[0]? with
   | none=>rw [hh] at this;cases this
   | some b=>rw [hh] at this;cases this
 refine yq.list (xs:=qs.map V.ref) (fun i σ H'=>(∃ a b c,σ=[some (V.int z),some (V.ref p),some (V.str x),some (V.ref mk),a,b,c])∧kd mk H1 H'∧(NoT H→NoT H')∧H' mk=some (.lst (Nh (fmF z ((ofN x sp).take i))))) ?_ ?_ ?_ ?_
 ·exact ⟨⟨_,_,_,rfl⟩,fun b u _ e=>e,fun n=>nt1 n.upd,hmk1⟩
 ·rintro i σ H' hi ⟨_,sx,_,_⟩
  exact SqL.of (sx _ _ hrm l1)
 ·rintro i v σ H' hv ⟨⟨a,b,c,rfl⟩,sx,nt',hm⟩
  obtain ⟨qi,hqi,rfl⟩:=Fc hv
  obtain ⟨o,ho,e⟩:=lq.at hqi
  obtain ⟨d,hd,rfl⟩:=Fc ho
  obtain ⟨sd,hsd,hsn,rfl⟩:=ZH (List.mem_of_getElem? hd)
  have hb:=hs2 sd hsd
  have e':=sx _ _ (Fg e hmk1 (by intro z;cases z)) e
  (walk_at "RD")
  refine ⟨_,SqT.of e',rfl,_,_,rfl,_,_,rfl,rfl,_,rfl,(by dsimp only;omega),(by dsimp only;omega),?_⟩
  rw [EV hd]
  refine yq.range (fun k σ H'=>(∃ c,σ=[some (V.int z),some (V.ref p),some (V.str x),some (V.ref mk),some (V.int sd.b),some (V.int sd.n),c])∧kd mk H1 H'∧(NoT H→NoT H')∧H' mk=some (.lst (Nh (XM z true sd.b k (fmF z ((ofN x sp).take i)))))) ?_ ?_ ?_
  ·exact ⟨⟨_,rfl⟩,sx,nt',hm⟩
  ·rintro k σ H2 hk ⟨⟨c,rfl⟩,sx2,nt2,hm2⟩
   (walk_at "RD")
   refine ⟨by omega,_,hm2,_,pK V.bl (by rw [Rm,WA]) hz0 _,⟨_,rfl⟩,fun b u hb e=>by rw [rb hb];exact sx2 _ _ hb e,fun n=>(nt2 n).upd,?_⟩
   rw [fb]
   unfold Nh
   rw [Zy V.bl]
   rfl
  ·rintro σ H2 ⟨⟨c,rfl⟩,sx2,nt2,hm2⟩
   exact ⟨⟨_,_,_,rfl⟩,sx2,nt2,hm2⟩
 ·rintro σ H' ⟨⟨a,b,c,rfl⟩,sx,nt',hm⟩
  (walk_at "RD")
  rw [List.take_of_length_le (by rw [List.length_map,lq.1,List.length_map];exact Nat.le_refl _)] at hm
  exact q _ _ (sf ((pb hmk).trans s1) sx hmk) nt' hmk hm
theorem iU (T:Txt w K mg t):Nb P w K mg base CX0 2 t.aG t.aK ["way","size","spans"] (lP t):=by
 have G_spans_of:Nb P w K mg base CX0 1 t.Bg t.kh ["spans","name"] Wv:=bA T
 have V_Way_ready:aR P w K mg base CX0 1 (isW t) "ready" ["self"] (vm t):=SO T
 have V_Way_fade:aR P w K mg base CX0 1 (isW t) "fade" ["self"] (kr t):=NS T
 refine T.xY.ok Et (fun vs H Q E h=>?_) (fun cdv A outer s H vs Q E hr h=>?_)
 ·obtain ⟨a,d,z,p,sp,rfl,_⟩:=h;rfl
 obtain ⟨a,d,z,p,sp,rfl,⟨hz0,hz1⟩,W,L,⟨hs1,hs2⟩,hoff,q⟩:=h
 refine ⟨_,(gb (Qh (i:=3) Et.nd rfl (Or.inl rfl) rfl (Eh rfl T.e146 (cb (pv 1) ib)) (ue (sc:=db Yp) rfl (by decide +kernel)) (N:=["turn"]) (sel:=[none]) (qf (M:=["way","size","spans","shown","begin","turns","step"]) (by decide +kernel)) (Blk.of (fun _ _ _ _=>(Kb (i:=0) (vj (N:=["turn"]) (by decide +kernel) rfl) rfl (Or.inl rfl))) (fun _ _ _ _=>⟨_,Mi,by first | rfl | (dsimp only [Cx.block];done) | (dsimp only [Cx.block];exact rfl)⟩) (fun _ _ _ _=>⟨_,Yb,by first | rfl | (dsimp only [Cx.block];done) | (dsimp only [Cx.block];exact rfl)⟩)) rfl)
   (gb (Mg PassesOwn.never rfl (Af (Fb G_spans_of hr rfl T.dm T.qm T.Gm .nil Ob (cb (pv 2) (cb (Kd (pv 0) rfl) ib)))) (Rh (K:=K) (n:=2) rfl rfl (ic (Kb (i:=4) Et.nd rfl (Or.inl rfl) (.inl rfl)) (ic (Kb (i:=5) Et.nd rfl (Or.inl rfl) (.inl rfl)) Xh))) (gb (Mg PassesOwn.never rfl (Eh rfl T.e146 (cb (Iu (pv 0) V_Way_ready hr Ob) ib)) (Kb (i:=6) Et.nd rfl (Or.inl rfl)) (qb (Lp Yb (Cv (pv 3) (Yc ik (Yc Tn (Yc Tn (pv 4) Ab) (pv 6)) (pv 1)) gj))))
   (gb (Mg PassesOwn.never rfl (Eh rfl T.e146 (cb (pv 5) ib)) (Kb (i:=6) Et.nd rfl (Or.inl rfl)) (qb (Lp Yb (Cv (pv 3) (Yc ik (Yc xh (pv 4) (pv 6)) (pv 1)) gj))))
   (qb (Mg PassesOwn.never rfl (Eh rfl T.e146 (cb (Iu (pv 0) V_Way_fade hr Ob) ib)) (Kb (i:=6) Et.nd rfl (Or.inl rfl)) (qb (Lp Yb (Cv (pv 3) (Yc ik (Yc xh (Yc xh (pv 4) (pv 5)) (pv 6)) (pv 1)) gj))))))))
   (qb (Rb (pv 3))))),?_⟩
 (walk_at "RD")
 refine ⟨by omega,by omega,?_⟩
 refine yf.range_map (fun _=>V.str (Str.ofString "stop")) (Nat.le_trans (show (z:Int).toNat ≤ 1000 by omega) (by decide)) (fun i N hi hN=>?_) (fun mk hmk=>?_)
 ·(walk_at "RD")
  exact ⟨Sub.name,hN⟩
 rw [show (List.range (z:Int).toNat).map (fun _=>V.str (Str.ofString "stop"))=Cb (Dp z (tf d).toNat (Oi d).toNat []) by
  unfold Cb Dp;rw [List.foldl_nil,List.map_replicate];exact List.ext_getElem (by simp) (by simp)]
 have hrd:=OP d
 have hfd:=qR hoff
 obtain ⟨dk,dx,hway⟩:=id W
 have w0:∀ {H':Hp},kd mk (upd H mk (.lst (Cb (Dp z (tf d).toNat (Oi d).toNat [])))) H'→H' a=some (.ins (t.cw d.k) dx (Cy d)):=fun sx=>sx _ _ (zb hway hmk) ((pb hmk) _ _ hway)
 refine ⟨_,(W.same (pb hmk)).f_name T,p,d.name,sp,rfl,L.same (pb hmk),hs1,fun r H1 s1 nt1 L1=>⟨r,rfl,?_⟩⟩
 obtain ⟨qs,l1,lq⟩:=L1
 refine ⟨⟨_,SqL.of l1⟩,?_⟩
 have hmk1:H1 mk=some (.lst (Cb (Dp z (tf d).toNat (Oi d).toNat []))):=s1 _ _ fb
 have hrm:r ≠ mk:=fun e=>by
  subst e
  rw [l1] at hmk1
  injection hmk1 with e1
  injection e1 with e2
  have e3:=congrArg List.length e2
  cases qs with
  | nil=>simp [Cb,Cu] at e3;omega
  | cons a qs=>
   have:(Cb (Dp z (tf d).toNat (Oi d).toNat []))[0]? = some (V.ref a):=by rw [← e2];rfl
   unfold Cb at this
   rw [List.getElem?_map] at this
   cases hh:(Dp z (tf d).toNat (Oi d).toNat [])[0]? with
   | none=>rw [hh] at this;cases this
   | some b=>rw [hh] at this;cases this
 have wx:∀ {H':Hp},kd mk H1 H'→Dg t H' a d:=fun sx=>⟨dk,dx,sx _ _ (zb hway hmk) (s1 _ _ ((pb hmk) _ _ hway))⟩
 refine yq.list (xs:=qs.map V.ref) (fun i σ H'=>(∃ a1 b c,σ=[some (V.ref a),some (V.int z),some (V.ref p),some (V.ref mk),a1,b,c])∧kd mk H1 H'∧(NoT H→NoT H')∧H' mk=some (.lst (Cb (Dp z (tf d).toNat (Oi d).toNat ((ofN d.name sp).take i))))) ?_ ?_ ?_ ?_
 ·exact ⟨⟨_,_,_,rfl⟩,fun b u _ e=>e,fun n=>nt1 n.upd,hmk1⟩
 ·rintro i σ H' hi ⟨_,sx,_,_⟩
  exact SqL.of (sx _ _ hrm l1)
 ·rintro i v σ H' hv ⟨⟨a1,b,c,rfl⟩,sx,nt',hm⟩
  obtain ⟨qi,hqi,rfl⟩:=Fc hv
  obtain ⟨o,ho,e⟩:=lq.at hqi
  obtain ⟨dd,hd,rfl⟩:=Fc ho
  obtain ⟨sd,hsd,hsn,rfl⟩:=ZH (List.mem_of_getElem? hd)
  have hb:=hs2 sd hsd
  have e':=sx _ _ (Fg e hmk1 (by intro z;cases z)) e
  have W1:=wx sx
  obtain ⟨_,dx1,hw1⟩:=id W1
  (walk_at "RD")
  refine ⟨_,SqT.of e',rfl,_,_,rfl,_,_,rfl,rfl,_,_,_,hw1,⟨_,dk,rfl⟩,eZ (by decide +kernel),_,d,rfl,W1,rfl,_,rfl,by omega,by omega,?_⟩
  rw [sQ hd]
  refine yq.range (fun k σ H'=>(∃ c,σ=[some (V.ref a),some (V.int z),some (V.ref p),some (V.ref mk),some (V.int sd.b),some (V.int sd.n),c])∧kd mk H1 H'∧(NoT H→NoT H')∧H' mk=some (.lst (Cb (YH z (Str.ofString "ready") sd.b k (Dp z (tf d).toNat (Oi d).toNat ((ofN d.name sp).take i)))))) ?_ ?_ ?_
  ·exact ⟨⟨_,rfl⟩,sx,nt',hm⟩
  ·rintro k σ H2 hk ⟨⟨c,rfl⟩,sx2,nt2,hm2⟩
   (walk_at "RD")
   refine ⟨by omega,_,hm2,_,pK V.str (by rw [uv,Cu]) hz0 _,⟨_,rfl⟩,fun b u hb e=>by rw [rb hb];exact sx2 _ _ hb e,fun n=>(nt2 n).upd,?_⟩
   rw [fb]
   unfold Cb
   rw [Zy V.str]
   rfl
  rintro σ H2 ⟨⟨c,rfl⟩,sx2,nt2,hm2⟩
  (walk_at "RD")
  refine ⟨by omega,by omega,?_⟩
  refine yq.range (fun k σ H'=>(∃ c,σ=[some (V.ref a),some (V.int z),some (V.ref p),some (V.ref mk),some (V.int sd.b),some (V.int sd.n),c])∧kd mk H1 H'∧(NoT H→NoT H')∧H' mk=some (.lst (Cb (XM z (Str.ofString "free") sd.b k (YH z (Str.ofString "ready") sd.b (tf d).toNat (Dp z (tf d).toNat (Oi d).toNat ((ofN d.name sp).take i))))))) ?_ ?_ ?_
  ·exact ⟨⟨_,rfl⟩,sx2,nt2,hm2⟩
  ·rintro k σ H2 hk ⟨⟨c,rfl⟩,sx2,nt2,hm2⟩
   (walk_at "RD")
   refine ⟨by omega,_,hm2,_,pK V.str (by rw [Rm,uv,Cu]) hz0 _,⟨_,rfl⟩,fun b u hb e=>by rw [rb hb];exact sx2 _ _ hb e,fun n=>(nt2 n).upd,?_⟩
   rw [fb]
   unfold Cb
   rw [Zy V.str]
   rfl
  rintro σ H3 ⟨⟨c,rfl⟩,sx3,nt3,hm3⟩
  have W3:=wx sx3
  obtain ⟨_,dx3,hw3⟩:=id W3
  (walk_at "RD")
  refine ⟨_,_,_,hw3,⟨_,dk,rfl⟩,eZ (by decide +kernel),_,d,rfl,W3,rfl,_,rfl,by omega,by omega,?_⟩
  refine yq.range (fun k σ H'=>(∃ c,σ=[some (V.ref a),some (V.int z),some (V.ref p),some (V.ref mk),some (V.int sd.b),some (V.int sd.n),c])∧kd mk H1 H'∧(NoT H→NoT H')∧H' mk=some (.lst (Cb (XM z (Str.ofString "fade") (sd.b + sd.n) k (XM z (Str.ofString "free") sd.b sd.n.toNat (YH z (Str.ofString "ready") sd.b (tf d).toNat (Dp z (tf d).toNat (Oi d).toNat ((ofN d.name sp).take i)))))))) ?_ ?_ ?_
  ·exact ⟨⟨_,rfl⟩,sx3,nt3,hm3⟩
  ·rintro k σ H2 hk ⟨⟨c,rfl⟩,sx2,nt2,hm2⟩
   (walk_at "RD")
   refine ⟨by omega,_,hm2,_,pK V.str (by rw [Rm,Rm,uv,Cu]) hz0 _,⟨_,rfl⟩,fun b u hb e=>by rw [rb hb];exact sx2 _ _ hb e,fun n=>(nt2 n).upd,?_⟩
   rw [fb]
   unfold Cb
   rw [Zy V.str]
   rfl
  ·rintro σ H2 ⟨⟨c,rfl⟩,sx2,nt2,hm2⟩
   exact ⟨⟨_,_,_,rfl⟩,sx2,nt2,hm2⟩
 ·rintro σ H' ⟨⟨a1,b,c,rfl⟩,sx,nt',hm⟩
  (walk_at "RD")
  rw [List.take_of_length_le (by rw [List.length_map,lq.1,List.length_map];exact Nat.le_refl _)] at hm
  exact q _ _ (sf ((pb hmk).trans s1) sx hmk) nt' hmk hm
theorem xK (T:Txt w K mg t):Nb P w K mg base CX0 1 t.Qf t.Ug ["marks"] dF:=by
 refine T.LC.ok uf (fun vs H Q E h=>?_) (fun cdv A outer s H vs Q E hr h=>?_)
 ·obtain ⟨p,m,rfl,_⟩:=h;rfl
 obtain ⟨p,m,rfl,hm,hl,q⟩:=h
 refine ⟨_,(gb (Pb (i:=1) uf.nd rfl (Or.inl rfl) (pe Qc rfl T.e311 Vd (cb (pv 0) ib)))
   (gb (Pb (i:=2) uf.nd rfl (Or.inl rfl) Ab)
   (gb (Pb (i:=3) uf.nd rfl (Or.inl rfl) (mf ib))
   (gb (Mg PassesOwn.never rfl (kP rfl T.e146 (cb (Yc Tn (Yc Fx Ab (pv 1)) Ab) (cb (fH Gx Ab) (cb (fH Gx Ab) ib)))) (Kb (i:=4) uf.nd rfl (Or.inl rfl)) (gb (Pb (i:=2) uf.nd rfl (Or.inl rfl) (rK (vp (Xg ke (pv 0) (Yc ik (pv 4) (pv 1)) (fun _ _=>rfl))) Ab (Yc xh (pv 2) Ab)))
   (qb (Xf (fc lE (pv 4) (pv 1) (Bc _)) (qb (bd (sH PySem.F.plainAttrs_list PySem.F.slot_list_append PySem.F.type_list_append Eu (pv 3) (cb (pv 2) ib)))) zc))))
   (qb (Rb (nw rfl rfl T.e378 rfl T.e178 (cb (pv 3) ib)))))))),?_⟩
 (walk_at "RD")
 refine ⟨_,.inl (SqL.of hm),Nat.zero_le _,fun u hu=>?_⟩
 have hbl:(Nh m).length=m.length:=by unfold Nh;rw [List.length_map]
 rw [hbl]
 refine ⟨by unfold cQ;omega,by omega,by omega,by omega,by omega,?_⟩
 have hun:p ≠ u:=zb hm hu
 refine yq.of (n:=2 * m.length) (fun k σ H'=>(∃ x,σ=[some (V.ref p),some (V.int m.length),some (V.int (Dx m k)),some (V.ref u),x])∧kd u H H'∧(NoT H→NoT H')∧H' u=some (.lst ((YD m (k - m.length)).map V.int))) ?_ (fun i σ H' hi _=>?_) (fun σ H' _=>?_) ?_ ?_
 ·exact ⟨⟨_,rfl⟩,fun b o hb e=>by rw [rb hb];exact e,fun n=>n.upd,by rw [fb,Nat.zero_sub];rfl⟩
 ·show i < _;omega
 ·show _ ≤ 2 * m.length;omega
 ·rintro k σ H'' v H' hk ⟨⟨x,rfl⟩,sx,nt',hu'⟩ ⟨rfl,rfl⟩
  have hjn:(2 * m.length - 1 - k) % m.length < m.length:=Nat.mod_lt _ hl.1
  have hmj:m[(2 * m.length - 1 - k) % m.length]? = some m[(2 * m.length - 1 - k) % m.length]:=List.getElem?_eq_getElem hjn
  have hj:((2 * m.length - 1 - k:Int)) % (m.length:Int)=(((2 * m.length - 1 - k) % m.length:Nat):Int):=by
   rw [Int.natCast_emod];congr 1;omega
  have hat:atI (Nh m) ((2 * m.length - 1 - k:Int) % (m.length:Int))=some (V.bl m[(2 * m.length - 1 - k) % m.length]):=by
   rw [hj];exact Me (by unfold Nh;rw [List.getElem?_map,hmj];rfl)
  have hst:Dx m (k + 1)=if m[(2 * m.length - 1 - k) % m.length]=true then 0 else Dx m k + 1:=by
   show (if m[(2 * m.length - 1 - k) % m.length]? = some true then 0 else Dx m k + 1)=_
   rw [hmj]
   simp
  simp only [jL,Jd,List.set_cons_succ,List.set_cons_zero]
  refine Pf (fun σ H4=>H4=H'∧σ=[some (V.ref p),some (V.int m.length),some (V.int (Dx m (k + 1))),some (V.ref u),some (V.int (2 * m.length - 1 - k))]) (fun D' hD _ _ _=>?_) ?_
  ·(walk_at "RD")
   refine ⟨by omega,_,SqL.of (sx _ _ hun hm),_,hat,_,rfl,?_⟩
   rw [hst] at hD
   by_cases c:m[(2 * m.length - 1 - k) % m.length]=true
   ·rw [if_pos c] at hD ⊢
    exact hD _ _ ⟨rfl,rfl⟩
   ·rw [if_neg c] at hD ⊢
    exact hD _ _ ⟨rfl,rfl⟩
  rintro σ H4 ⟨rfl,rfl⟩
  dsimp only
  refine Cc (decide ((2 * m.length - 1 - k:Int) < m.length)) (fun Q hQ=>?_) (fun hc=>?_) (fun hc=>?_)
  ·(walk_at "RD")
   exact hQ
  ·(walk_at "RD")
   have hc':=of_decide_eq_true hc
   refine ⟨.inl ⟨_,SqL.of hu'⟩,_,hu',Nat.lt_of_le_of_lt (show ((YD m (k - m.length)).map V.int).length ≤ 1000 by unfold YD;simp;omega) (by decide),⟨_,rfl⟩,fun b o hb e=>by rw [rb hb];exact sx _ _ hb e,fun n=>(nt' n).upd,?_⟩
   rw [fb,show k + 1 - m.length=k - m.length + 1 by omega]
   unfold YD
   rw [List.range_succ,List.map_append,List.map_append]
   simp only [List.map_cons,List.map_nil]
   rw [show m.length + (k - m.length) + 1=k + 1 by omega]
  ·(walk_at "RD")
   have hc':=of_decide_eq_false hc
   refine ⟨⟨_,rfl⟩,sx,nt',?_⟩
   rw [hu',show k - m.length=0 by omega,show k + 1 - m.length=0 by omega]
 ·rintro σ H' ⟨⟨x,rfl⟩,sx,nt',hu'⟩
  (walk_at "RD")
  refine ⟨_,SqL.of hu',fun l hl'=>?_⟩
  have hlu:l ≠ u:=fun z=>by subst z;rw [hu'] at hl';cases hl'
  refine q _ _ ((sf (Ac.refl H) sx hu).trans (pb hl')) (fun n=>(nt' n).upd) ((sf (Ac.refl H) sx hu).free hl') ?_
  rw [fb,show 2 * m.length - m.length=m.length by omega,← List.map_reverse,xL]
theorem QQ (T:Txt w K mg t):Nb P w K mg base CX0 2 t.Qg t.ni ["marks"] MK:=by
 have G_until_marked:Nb P w K mg base CX0 1 t.Qf t.Ug ["marks"] dF:=xK T
 refine T.pC.ok mB (fun vs H Q E h=>?_) (fun cdv A outer s H vs Q E hr h=>?_)
 ·obtain ⟨p,m,rfl,_⟩:=h;rfl
 obtain ⟨p,m,rfl,hm,hl,q⟩:=h
 refine ⟨_,(qb (Rb (nw rfl rfl T.e378 rfl T.e178 (cb (Fb G_until_marked hr rfl T.gs T.Mr T.Sr .nil Ob (cb (nw rfl rfl T.e378 rfl T.e178 (cb (pv 0) ib)) ib)) ib)))),?_⟩
 (walk_at "RD")
 refine ⟨_,SqL.of hm,fun l1 h1=>?_⟩
 refine ⟨l1,m.reverse,rfl,by rw [fb,Nh,Nh,List.map_reverse],by rw [List.length_reverse];exact hl,fun r H1 s1 nt1 hr1 hu=>⟨r,rfl,_,SqL.of hu,fun l2 h2=>?_⟩⟩
 refine q _ _ (((pb h1).trans s1).trans (pb h2)) (fun n=>(nt1 n.upd).upd) (((pb h1).trans s1).free h2) ?_
 rw [fb,← List.map_reverse]
 rfl
end
end My
namespace My
open PySem L2
def zU (x:Str):Prop:=x.length ≤ 1000∧∀ c ∈ x.cps.toList,c < 16 ^ 8
def AQ (C:Addr) (fs:List (Str × V)) (H:Hp) (E:XK):Prop:=∀ dx H',Ac H H'→(NoT H→NoT H')→H' dx=some (.ext (XD dx fs))→E (.ref C) (some dx) H'
theorem AQ.step {C:Addr} {fs:List (Str × V)} {H H1:Hp} {E:XK} (h:AQ C fs H E) (s:Ac H H1) (n:NoT H→NoT H1):AQ C fs H1 E:=fun dx H' s' n' e=>h dx H' (s.trans s') (fun z=>n' (n z)) e
def DOk (ds:List WD):Prop:=∀ d ∈ ds,zU d.name∧0 ≤ d.off∧d.off ≤ 1000
def qp (ds:List WD) (sp:List SD):Option Str:=(ds.map (·.name)).find? fun x=>(ofN x sp).isEmpty
def VS (t:Adr):Sp:=fun vs H Q _=>∃ x n,vs=[.ref x,.str n]∧zU n∧H x=some (.ext (XF x t.qc none)) ∧
 ∀ dx,H dx=none→dx ≠ x→Q .non (upd (upd H x (.ext (XF x t.qc (some dx)))) dx (.ext (XD dx [(Str.ofString "way",.str n)])))
def zT (t:Adr):Sp:=fun vs H Q _=>∃ x n i,vs=[.ref x,.str n,.int i]∧zU n∧i.natAbs.log2 < 1920∧H x=some (.ext (XF x t.Xb none)) ∧
 ∀ dx,H dx=none→dx ≠ x→Q .non (upd (upd H x (.ext (XF x t.Xb (some dx)))) dx (.ext (XD dx [(Str.ofString "way",.str n),(Str.ofString "at",.int i)])))
def RS (t:Adr):Sp:=fun vs H Q _=>∃ x n m i,vs=[.ref x,.str n,.str m,.int i]∧zU n∧zU m∧i.natAbs.log2 < 1920∧H x=some (.ext (XF x t.Ub none)) ∧
 ∀ dx,H dx=none→dx ≠ x→Q .non (upd (upd H x (.ext (XF x t.Ub (some dx)))) dx (.ext (XD dx [(Str.ofString "way",.str n),(Str.ofString "other",.str m),(Str.ofString "at",.int i)])))
def aH (t:Adr):Sp:=fun vs H Q E=>∃ c n ds p sp,vs=[.ref c,.ref p]∧Gd t H c n ds∧DOk ds∧LO H p (List.map sdO sp)∧sp.length ≤ 100 ∧
 match qp ds sp with
 | none=>∀ H',Ac H H'→(NoT H→NoT H')→Q .non H'
 | some x=>AQ t.qc [(Str.ofString "way",.str x)] H E
def GI (z:Int) (sp:List SD) (k:Nat) (d:SD):Int:=(((ofN d.name (sp.eraseIdx k)).map fun p=>(p.1 - d.b) % z).min?).getD z
def uO:Sp:=fun vs H Q E=>∃ (z:Int) (p:Addr) (sp:List SD) (k:Nat) (d:SD),vs=[.int z,.ref p,.int k]∧0 < z∧LO H p (List.map sdO sp)∧sp.length ≤ 100∧sp[k]? = some d∧∀ H',Ac H H'→(NoT H→NoT H')→Q (.int (GI z sp k d)) H'
theorem pL {α:Type} (l:List α) (x:α) (k:Nat):(l ++ [x]).eraseIdx k=if k=l.length then l.eraseIdx k else l.eraseIdx k ++ [x]:=by
 by_cases h:k < l.length
 ·rw [if_neg (by omega),List.eraseIdx_append_of_lt_length h]
 ·rw [List.eraseIdx_append_of_length_le (by omega),List.eraseIdx_of_length_le (l:=l) (by omega)]
  by_cases h2:k=l.length
  ·rw [if_pos h2,h2,Nat.sub_self];simp
  ·rw [if_neg h2,List.eraseIdx_of_length_le (by simp;omega)]
def wOf (ds:List WD) (x:Str):Option WD:=ds.find? fun d=>decide (d.name=x)
def qz (ds:List WD) (z:Int) (sp:List SD) (k:Nat) (s:SD):Bool:=(wOf ds s.name).any fun d=>decide (s.n < d.least) || decide (GI z sp k s < s.n + Oi d + tf d)
def Vq (ds:List WD) (z:Int) (sp:List SD):Option (SD × Nat):=sp.zipIdx.find? fun e=>qz ds z sp e.2 e.1
def jH (t:Adr):Sp:=fun vs H Q E=>∃ (c:Addr) (n:Int) (ds:List WD) (z:Int) (p:Addr) (sp:List SD),vs=[.ref c,.int z,.ref p]∧Gd t H c n ds∧DOk ds∧(0 < z∧z ≤ 1000)∧LO H p (List.map sdO sp)∧XU z sp∧(∀ s ∈ sp,∃ d,wOf ds s.name=some d) ∧
 match Vq ds z sp with
 | none=>∀ H',Ac H H'→(NoT H→NoT H')→Q .non H'
 | some e=>AQ t.Xb [(Str.ofString "way",.str e.1.name),(Str.ofString "at",.int e.1.b)] H E
theorem VG {P:Program} {w:World} {K:PySem.W.Frag} {mg:Str→Option Value} {base:Heap} {CX:CXT} {j k:Nat} {OK:Addr→Prop} {m:Str} {ps:List Str} {SPV:Addr→Sp} (V:aR P w K mg base CX j OK m ps SPV) (h:j ≤ k):aR P w K mg base CX k OK m ps SPV:=⟨fun C hC=>by
 obtain ⟨f,fd,h1,h2,h3,h4⟩:=V.ok C hC
 exact ⟨f,fd,h1,h2,h3.mono h,h4⟩⟩
theorem lT {ds:List WD} {x:Str} {d:WD} (h:wOf ds x=some d):d.name=x∧∃ i:Nat,ds[i]? = some d:=by
 unfold wOf at h
 refine ⟨by simpa using List.find?_some h,?_⟩
 obtain ⟨i,hi,e⟩:=List.getElem_of_mem (List.mem_of_find?_eq_some h)
 exact ⟨i,by rw [List.getElem?_eq_getElem hi,e]⟩
def mQ (d1 d2:WD):Int:=if d1.off - d2.near > 0 then d1.off - d2.near else 0
def Qz (g:Int) (m1 m2:List Int):Option ((Int × Int) × Nat):=(m1.zip m2).zipIdx.find? fun e=>decide (e.1.2=0) && decide (e.1.1 ≤ g)
def QT (t:Adr):Sp:=fun vs H Q E=>∃ (c:Addr) (n:Int) (ds:List WD) (d1 d2:WD) (p1 p2:Addr) (m1 m2:List Int),vs=[.ref c,.str d1.name,.str d2.name,.ref p1,.ref p2]∧Gd t H c n ds∧DOk ds∧d1 ∈ ds∧d2 ∈ ds∧H p1=some (.lst (m1.map V.int))∧H p2=some (.lst (m2.map V.int))∧m1.length=m2.length∧m1.length ≤ 1000 ∧
 match Qz (mQ d1 d2) m1 m2 with
 | none=>∀ H',Ac H H'→(NoT H→NoT H')→Q .non H'
 | some e=>AQ t.Ub [(Str.ofString "way",.str d1.name),(Str.ofString "other",.str d2.name),(Str.ofString "at",.int e.2)] H E
def Mt (z:Nat) (sp:List SD) (x:Str):List Int:=UN (fmF z (ofN x sp))
def Rx (n:Int) (z:Nat) (sp:List SD) (d1 d2:WD):Option Nat:=if d1.name ≠ d2.name∧mt n d1 d2=true then (Qz (mQ d1 d2) (Mt z sp d1.name) (Mt z sp d2.name)).map (·.2) else none
def HD (n:Int) (z:Nat) (sp:List SD) (d1:WD) (ds:List WD):Option (WD × WD × Nat):=ds.findSome? fun d2=>(Rx n z sp d1 d2).map fun i=>(d1,d2,i)
def jv (n:Int) (z:Nat) (sp:List SD) (ds:List WD):Option (WD × WD × Nat):=ds.findSome? fun d1=>HD n z sp d1 ds
def rG (t:Adr):Sp:=fun vs H Q E=>∃ (c:Addr) (n:Int) (ds:List WD) (z:Nat) (p:Addr) (sp:List SD),vs=[.ref c,.int z,.ref p]∧Gd t H c n ds∧0 < n∧DOk ds∧(0 < z∧z ≤ 1000)∧LO H p (List.map sdO sp)∧XU z sp∧NoT H ∧
 match jv n z sp ds with
 | none=>∀ H',Ac H H'→NoT H'→Q .non H'
 | some e=>AQ t.Ub [(Str.ofString "way",.str e.1.name),(Str.ofString "other",.str e.2.1.name),(Str.ofString "at",.int e.2.2)] H E
theorem dM (m:List Bool):(eB m).length=m.length:=by unfold eB;simp
theorem Rv (z:Nat) (sp:List SD) (x:Str):(Mt z sp x).length=z:=by
 unfold Mt UN
 rw [List.length_reverse,dM,List.length_reverse,WA]
def nkv (ds:List WD) (rs:List Addr):List (Key × V):=(ds.zip rs).map fun e=>(Sum.inr e.1.name,V.ref e.2)
def NK (H:Hp) (p:Addr) (ds:List WD) (f:WD→HO) (n:Nat):Prop:=∃ rs:List Addr,rs.length=n∧H p=some (.dK (nkv ds rs))∧∀ (i:Nat) (r:Addr) (d:WD),rs[i]? = some r→ds[i]? = some d→H r=some (f d)
theorem iY {ds:List WD} (h:(ds.map (·.name)).Nodup) {i j:Nat} {d e:WD} (hi:ds[i]? = some d) (hj:ds[j]? = some e) (z:d.name=e.name):i=j:=
 kL h (List.getElem?_eq_some_iff.mp hi).1 (List.getElem?_eq_some_iff.mp hj).1 (by rw [kG hi,kG hj];exact z)
theorem cP {ds:List WD} {rs:List Addr} (h:(ds.map (·.name)).Nodup) {i:Nat} {d:WD} {r:Addr} (hd:ds[i]? = some d) (hr:rs[i]? = some r):Yw (nkv ds rs) (Sum.inr d.name)=some (.ref r):=by
 obtain ⟨h1,e1⟩:=List.getElem?_eq_some_iff.mp hd
 obtain ⟨h2,e2⟩:=List.getElem?_eq_some_iff.mp hr
 unfold Yw
 have hf:List.find? (fun kv=>decide (kv.1=(Sum.inr d.name:Key))) (nkv ds rs)=some (Sum.inr d.name,.ref r):=by
  rw [List.find?_eq_some_iff_getElem]
  refine ⟨by simp,i,by unfold nkv;simp;omega,by unfold nkv;simp [e1,e2],fun j hj=>?_⟩
  unfold nkv
  simp
  intro z
  have:=iY h (List.getElem?_eq_getElem (show j < ds.length by omega)) hd z
  omega
 rw [hf];rfl
theorem bI {ds:List WD} {rs:List Addr} (h:(ds.map (·.name)).Nodup) {d:WD} {r:Addr} (hd:ds[rs.length]? = some d):yH (nkv ds rs) (Sum.inr d.name) (.ref r)=nkv ds (rs ++ [r]):=by
 obtain ⟨h1,e1⟩:=List.getElem?_eq_some_iff.mp hd
 unfold yH
 have no:((nkv ds rs).any fun kv=>decide (kv.1=Sum.inr d.name))=false:=by
  rw [List.any_eq_false]
  intro p hp
  unfold nkv at hp
  obtain ⟨e,he,rfl⟩:=List.mem_map.mp hp
  obtain ⟨j,hj,hje⟩:=List.getElem_of_mem he
  simp only [decide_eq_true_eq]
  intro z
  have z:=Sum.inr.inj z
  rw [← hje] at z
  simp at hj z
  have:=iY h (List.getElem?_eq_getElem (show j < ds.length by omega)) hd z
  omega
 rw [no,if_neg (by decide)]
 unfold nkv
 refine List.ext_getElem (by simp;omega) (fun i h3 h4=>?_)
 simp at h3 h4
 by_cases c:i < rs.length
 ·simp [List.getElem_append,c,show i < ds.length by omega]
  rw [dif_pos (by omega)]
 ·have:i=rs.length:=by omega
  subst this
  simp [List.getElem_append,Nat.le_of_lt h1,e1]
section
variable {P:Program} {w:World} {K:PySem.W.Frag} {mg:Str→Option Value} {base:Heap} {t:Adr}
theorem WW (T:Txt w K mg t):Nb P w K mg base CX0 1 t.il t.El ["self","way"] (VS t):=by
 refine T.oG.ok Dw (fun vs H Q E h=>?_) (fun cdv A outer s H vs Q E hr h=>?_)
 ·obtain ⟨x,n,rfl,_⟩:=h;rfl
 obtain ⟨x,n,rfl,hn,hx,q⟩:=h
 refine ⟨_,(gb (bd (az rfl T.wj T.Qm (cb (pv 0) (cb (Nu (lj (zE (pv 1) (lj eL))) (by rw [sizeLine_eq];decide)) ib))))
   (qb (iz (pv 0) (pv 1) rfl))),?_⟩
 (walk_at "RD")
 refine ⟨hn.1,hn.2,fun y=>⟨_,_,hx,T.oI,?_⟩⟩
 exact ⟨_,hx,T.oI,T.e206,q⟩
theorem TW (T:Txt w K mg t):Nb P w K mg base CX0 1 t.Dk t.Hl ["self","way","at"] (zT t):=by
 refine T.yG.ok tw (fun vs H Q E h=>?_) (fun cdv A outer s H vs Q E hr h=>?_)
 ·obtain ⟨x,n,i,rfl,_⟩:=h;rfl
 obtain ⟨x,n,i,rfl,hn,hi,hx,q⟩:=h
 refine ⟨_,(gb (bd (az rfl T.wj T.Qm (cb (pv 0) (cb (Nu (lj (zE (pv 1) (lj (vK (pv 2) eL)))) (by rw [sizeLine_eq];decide)) ib))))
   (gb (iz (pv 0) (pv 1) rfl)
   (qb (gz (pv 0) (pv 2) rfl)))),?_⟩
 (walk_at "RD")
 refine ⟨hn.1,hn.2,hi,fun y=>⟨_,_,hx,T.kF,?_⟩⟩
 refine ⟨_,hx,T.kF,T.e204,fun dx hd hne=>?_⟩
 refine ⟨_,dx,by rw [rb (Ne.symm hne),fb],_,fb,T.kF,T.e245,show 1 < 1000 by decide,?_⟩
 rw [vn,show dj (Str.ofString "at") (V.int i) ([(Str.ofString "way",V.str n)]:List (Str × V))=[(Str.ofString "way",V.str n),(Str.ofString "at",V.int i)] from Yd [Str.ofString "way"] rfl (by decide +kernel)]
 exact q dx hd hne
theorem JW (T:Txt w K mg t):Nb P w K mg base CX0 1 t.Uk t.Zk ["self","way","other","at"] (RS t):=by
 refine T.zG.ok Ov (fun vs H Q E h=>?_) (fun cdv A outer s H vs Q E hr h=>?_)
 ·obtain ⟨x,n,m,i,rfl,_⟩:=h;rfl
 obtain ⟨x,n,m,i,rfl,hn,hm,hi,hx,q⟩:=h
 refine ⟨_,(gb (bd (az rfl T.wj T.Qm (cb (pv 0) (cb (Nu (lj (zE (pv 1) (lj (zE (pv 2) (lj (vK (pv 3) eL)))))) (by rw [sizeLine_eq];decide)) ib))))
   (gb (iz (pv 0) (pv 1) rfl)
   (gb (gz (pv 0) (pv 2) rfl)
   (qb (gz (pv 0) (pv 3) rfl))))),?_⟩
 (walk_at "RD")
 refine ⟨hn.1,hn.2,hm.1,hm.2,hi,fun y=>⟨_,_,hx,T.pz,?_⟩⟩
 refine ⟨_,hx,T.pz,T.e209,fun dx hd hne=>?_⟩
 refine ⟨_,dx,by rw [rb (Ne.symm hne),fb],_,fb,T.pz,T.e104,show 1 < 1000 by decide,?_⟩
 rw [vn,show dj (Str.ofString "other") (V.str m) ([(Str.ofString "way",V.str n)]:List (Str × V))=[(Str.ofString "way",V.str n),(Str.ofString "other",V.str m)] from Yd [Str.ofString "way"] rfl (by decide +kernel)]
 refine ⟨_,dx,by rw [rb (Ne.symm hne),fb],_,fb,T.pz,T.e262,show 2 < 1000 by decide,?_⟩
 rw [vn,show dj (Str.ofString "at") (V.int i) ([(Str.ofString "way",V.str n),(Str.ofString "other",V.str m)]:List (Str × V))=[(Str.ofString "way",V.str n),(Str.ofString "other",V.str m),(Str.ofString "at",V.int i)] from Yd [Str.ofString "way",Str.ofString "other"] rfl (by decide +kernel)]
 exact q dx hd hne
theorem gN (T:Txt w K mg t):Nb P w K mg base (CX1 P w) 3 t.Lg t.ai ["crossing","spans"] (aH t):=by
 have G_Never_init:Nb P w K mg base CX0 1 t.il t.El ["self","way"] (VS t):=WW T
 have G_spans_of:Nb P w K mg base CX0 2 t.Bg t.kh ["spans","name"] Wv:=(bA T).mono (by decide)
 have G_Crossing_names:Nb P w K mg base CX0 2 t.qe t.re ["self"] (vv t):=(Yy T).mono (by decide)
 refine T.GC.okX Wo (fun vs H Q E h=>?_) (fun cdv A outer s H vs Q E hr h=>?_)
 ·obtain ⟨c,n,ds,p,sp,rfl,_⟩:=h;rfl
 obtain ⟨c,n,ds,p,sp,rfl,C,hD,L,hs,q⟩:=h
 refine ⟨_,(qb (Mg (dg ⟨rfl,rfl⟩) rfl (Af (oe (pv 0) T.Zb T.Oe G_Crossing_names hr T.Pe .nil Ob)) (Kb (i:=2) Wo.nd rfl (Or.inl rfl)) (qb (Xf (KB (AK (Fb G_spans_of hr rfl T.dm T.qm T.Gm .nil Ob (cb (pv 1) (cb (pv 2) ib))) (fun _=>rfl))) (qb (jz (cz T.nS G_Never_init hr rfl T.pW T.uH (cb (pv 2) ib)) DF)) zc)))),?_⟩
 (walk_at "RD")
 obtain ⟨_,dx,wl,nd,e1,_,_⟩:=id C
 refine ⟨_,_,e1,CK _ _ _ (by decide +kernel),c,n,ds,rfl,C,fun pn hpn=>⟨pn,rfl,⟨_,SqL.of fb⟩,?_⟩⟩
 refine yq.list (xs:=Cb (ds.map (·.name))) (fun i σ H'=>(∃ y,σ=[some (V.ref c),some (V.ref p),y])∧Ac (upd H pn (.lst (Cb (ds.map (·.name))))) H'∧(NoT H→NoT H')∧qp ds sp=((ds.map (·.name)).drop i).find? fun x=>(ofN x sp).isEmpty) ?_ ?_ ?_ ?_
 ·exact ⟨⟨_,rfl⟩,Ac.refl _,fun n=>n.upd,rfl⟩
 ·rintro i σ H' hi ⟨_,sm,_,_⟩
  exact SqL.of (sm _ _ fb)
 ·rintro i v σ H' hv ⟨⟨y,rfl⟩,sm,nt,hf⟩
  obtain ⟨x,hx,rfl⟩:=Fc hv
  have smH:Ac H H':=(pb hpn).trans sm
  obtain ⟨hi,hxi⟩:=List.getElem?_eq_some_iff.mp hx
  rw [List.drop_eq_getElem_cons hi,hxi,List.find?_cons] at hf
  (walk_at "RD")
  refine Ou (fun b H2=>b=(ofN x sp).isEmpty∧Ac H' H2∧(NoT H'→NoT H2)) (fun Q hQ=>?_) (fun H2 r=>?_) (fun H2 r=>?_)
  ·(walk_at "RD")
   refine ⟨p,x,sp,rfl,L.same smH,hs,fun r H2 s2 n2 ⟨qs,l1,l2⟩=>⟨!(ofN x sp).isEmpty,.inl ⟨_,SqL.of l1,?_⟩,?_⟩⟩
   ·have hl:=l2.1
    cases qs with
    | nil=>cases h:ofN x sp with
     | nil=>rfl
     | cons a r=>rw [h] at hl;simp at hl
    | cons a r=>cases h:ofN x sp with
     | nil=>rw [h] at hl;simp at hl
     | cons a r=>rfl
   ·rw [Bool.not_not]
    exact hQ _ _ ⟨rfl,s2,n2⟩
  ·obtain ⟨r1,r2,r3⟩:=r
   rw [← r1] at hf
   have hf:qp ds sp=some x:=hf
   rw [hf] at q
   (walk_at "RD")
   have hn:zU x:=by
    obtain ⟨d,hd,rfl⟩:=Fc hx
    exact (hD d (List.mem_of_getElem? hd)).1
   refine ⟨by decide,fun a ha=>⟨a,x,rfl,hn,fb,fun d hd hne=>?_⟩⟩
   have hd0:H2 d=none:=by rw [rb hne] at hd;exact hd
   refine ⟨rfl,t.qc,some d,by rw [rb (Ne.symm hne),fb],T.oI,q d _ (fun b u e=>?_) (fun n=>((((r3 (nt n)).upd).upd).upd).upd) (by rw [rb hne,fb])⟩
   have e':=r2 _ _ (smH _ _ e)
   rw [rb (zb e' ha),rb (zb e' hd0),rb (zb e' ha),rb (zb e' ha)]
   exact e'
  ·obtain ⟨r1,r2,r3⟩:=r
   rw [← r1] at hf
   (walk_at "RD")
   exact ⟨⟨_,rfl⟩,sm.trans r2,fun n=>r3 (nt n),hf⟩
 ·rintro σ H' ⟨⟨y,rfl⟩,sm,nt,hf⟩
  rw [List.drop_of_length_le (by unfold Cb;simp)] at hf
  have hf:qp ds sp=none:=hf
  rw [hf] at q
  exact q _ ((pb hpn).trans sm) nt
theorem uU (T:Txt w K mg t):Nb P w K mg base CX0 2 t.ie t.Te ["size","spans","place"] uO:=by
 have G_spans_of:Nb P w K mg base CX0 1 t.Bg t.kh ["spans","name"] Wv:=bA T
 refine T.Po.ok Md (fun vs H Q E h=>?_) (fun cdv A outer s H vs Q E hr h=>?_)
 ·obtain ⟨z,p,sp,k,d,rfl,_⟩:=h;rfl
 obtain ⟨z,p,sp,k,d,rfl,hz,⟨qs,l1,lq⟩,hs,hk,q⟩:=h
 refine ⟨_,(gb (Lp (Xg ke (pv 1) (pv 2) (fun _ _=>rfl)) (Rh (K:=K) (n:=3) rfl rfl (ic (Kb (i:=3) Md.nd rfl (Or.inl rfl) (.inl rfl)) (ic (Kb (i:=4) Md.nd rfl (Or.inr rfl) (.inl rfl)) (ic (Kb (i:=5) Md.nd rfl (Or.inl rfl) (.inl rfl)) Xh)))))
   (gb (Qh (i:=6) Md.nd rfl (Or.inl rfl) rfl (bB rfl T.e38 (cb (pv 1) ib)) (ue (sc:=db Ib) rfl (by decide +kernel)) (N:=["at","span","place"]) (sel:=[none,none,some 2]) (qf (M:=["size","spans","place","name","begin","turns","others"]) (by decide +kernel)) (Blk.of (fun _ _ _ _=>(Rh (K:=K) (n:=2) rfl rfl (ic (Kb (i:=0) (vj (N:=["at","span","place"]) (by decide +kernel) rfl) rfl (Or.inl rfl) (.inr rfl)) (ic (Kb (i:=1) (vj (N:=["at","span","place"]) (by decide +kernel) rfl) rfl (Or.inl rfl) (.inr rfl)) Xh)))) (fun _ _ _ _=>⟨_,(YE (fc EN (pv 0) (pv 2) (Bc _))),by first | rfl | (dsimp only [Cx.block];done) | (dsimp only [Cx.block];exact rfl)⟩) (fun _ _ _ _=>⟨_,(pv 1),by first | rfl | (dsimp only [Cx.block];done) | (dsimp only [Cx.block];exact rfl)⟩)) rfl)
   (qb (Rb (eV rfl rfl T.e477 (cb (yn rfl (Af (Fb G_spans_of hr rfl T.dm T.qm T.Gm .nil Ob (cb (pv 6) (cb (pv 3) ib)))) (ue (sc:=db Ib) rfl (by decide +kernel)) (N:=["later","many","begin","size"]) (sel:=[none,none,some 4,some 0]) (qf (M:=["size","spans","place","name","begin","turns","others"]) (by decide +kernel)) (Blk.of (fun _ _ _ _=>(Rh (K:=K) (n:=2) rfl rfl (ic (Kb (i:=0) (vj (N:=["later","many","begin","size"]) (by decide +kernel) rfl) rfl (Or.inl rfl) (.inr rfl)) (ic (Kb (i:=1) (vj (N:=["later","many","begin","size"]) (by decide +kernel) rfl) rfl (Or.inl rfl) (.inr rfl)) Xh)))) (fun _ _ _ _=>⟨_,Mi,by first | rfl | (dsimp only [Cx.block];done) | (dsimp only [Cx.block];exact rfl)⟩) (fun _ _ _ _=>⟨_,(Yc ik (Yc Tn (pv 0) (pv 2)) (pv 3)),by first | rfl | (dsimp only [Cx.block];done) | (dsimp only [Cx.block];exact rfl)⟩))) ib) (pv 0)))))),?_⟩
 (walk_at "RD")
 have hql:qs.length=sp.length:=by rw [lq.1,List.length_map]
 obtain ⟨hkl,hkd⟩:=List.getElem?_eq_some_iff.mp hk
 have hqk:qs[k]? = some qs[k]:=List.getElem?_eq_getElem (by omega)
 have ek:H qs[k]=some (sdO d):=lq.2 k _ _ hqk (by rw [List.getElem?_map,hk];rfl)
 refine ⟨_,SqL.of l1,_,Me (by rw [List.getElem?_map,hqk];rfl),_,rfl,_,SqT.of ek,rfl,_,_,rfl,_,_,rfl,_,_,rfl,rfl,⟨_,SqL.of l1⟩,?_⟩
 refine yf.enum (xs:=qs.map V.ref) (fun i ys H'=>∃ os:List Addr,ys=os.map V.ref∧LQ H' os (((sp.take i).eraseIdx k).map sdO)∧Ac H H'∧(NoT H→NoT H')) (Nat.le_trans (show (qs.map V.ref).length ≤ 100 by rw [List.length_map];omega) (by decide)) ⟨[],rfl,by rw [List.take_zero];exact LQ.nil _,Ac.refl _,id⟩ ?_ ?_ ?_
 ·rintro i ys H' hi ⟨os,rfl,r,sm,_⟩
  refine ⟨(SqL.of l1).same sm,?_⟩
  rw [List.length_map,r.1,List.length_map]
  exact Nat.le_trans (List.length_eraseIdx_le ..) (by rw [List.length_take];omega)
 ·rintro i v ys H' p1 hv ⟨os,rfl,r,sm,nt⟩ hp1 N hN
  obtain ⟨qi,hqi,rfl⟩:=Fc hv
  obtain ⟨o,ho,e⟩:=lq.at hqi
  obtain ⟨d',hd',rfl⟩:=Fc ho
  have e':=sm _ _ e
  have s1:Ac H' (upd H' p1 (.tup [.int i,.ref qi])):=pb hp1
  refine gp ?_
  dsimp only at hN
  have hil:(sp.take i).length=i:=by
   have:=(List.getElem?_eq_some_iff.mp hd').1
   rw [List.length_take];omega
  rw [zi hd',pL,hil] at hN
  (walk_at "RD")
  refine ⟨Sub.name2,?_⟩
  by_cases c:k=i
  ·rw [if_pos c] at hN
   rw [if_neg (by subst c;simp)]
   exact hN _ _ ⟨os,rfl,r.same s1,sm.trans s1,fun n=>(nt n).upd⟩
  ·rw [if_neg c] at hN
   rw [if_pos (by simp;omega)]
   refine hN _ _ ⟨os ++ [qi],by rw [List.map_append];rfl,?_,sm.trans s1,fun n=>(nt n).upd⟩
   rw [List.map_append]
   exact (r.same s1).app (LQ.one (s1 _ _ e'))
 ·rintro ys H' ⟨os,rfl,r,sm,nt⟩ p1 hp1
  rw [List.take_of_length_le (by rw [List.length_map];omega)] at r
  (walk_at "RD")
  have s1:Ac H' (upd H' p1 (.lst (os.map V.ref))):=pb hp1
  refine ⟨p1,d.name,sp.eraseIdx k,rfl,⟨os,fb,r.same s1⟩,Nat.le_trans (List.length_eraseIdx_le ..) hs,fun r2 H2 s2 n2 ⟨qs2,m1,m2⟩=>⟨r2,rfl,⟨_,SqL.of m1⟩,?_⟩⟩
  have hln:(ofN d.name (sp.eraseIdx k)).length ≤ 100:=Nat.le_trans (LA _ _) (Nat.le_trans (List.length_eraseIdx_le ..) hs)
  have hml:qs2.length=(ofN d.name (sp.eraseIdx k)).length:=by rw [m2.1,List.length_map]
  refine yf.list_zs (zs:=((ofN d.name (sp.eraseIdx k)).map fun p=>(p.1 - d.b) % z).map V.int) (SqL.of m1) (Nat.le_trans (show (qs2.map V.ref).length ≤ 100 by rw [List.length_map];omega) (by decide)) (by simp [hml]) (fun i v z' N hv hz' hN=>?_) (fun l hl=>?_)
  ·obtain ⟨qi,hqi,rfl⟩:=Fc hv
   obtain ⟨o,ho,e⟩:=m2.at hqi
   obtain ⟨pr,hpr,rfl⟩:=Fc ho
   obtain ⟨y,hy,rfl⟩:=Fc hz'
   obtain ⟨pr',hpr',rfl⟩:=Fc hy
   rw [hpr] at hpr'
   cases hpr'
   (walk_at "RD")
   exact ⟨_,SqT.of e,rfl,_,_,rfl,_,_,rfl,rfl,Sub.name2,_,rfl,hz,hN⟩
  ·(walk_at "RD")
   refine ⟨_,SqL.of fb,?_⟩
   have:=q (upd H2 l (.lst (((ofN d.name (sp.eraseIdx k)).map fun p=>(p.1 - d.b) % z).map V.int))) (((sm.trans s1).trans s2).trans (pb hl)) (fun n=>(n2 (nt n).upd).upd)
   unfold GI at this
   cases hm:((ofN d.name (sp.eraseIdx k)).map fun p=>(p.1 - d.b) % z).min? with
   | none=>rw [hm] at this;exact this
   | some m=>rw [hm] at this;exact this
theorem oN (T:Txt w K mg t):Nb P w K mg base (CX1 P w) 4 t.Tg t.ii ["crossing","size","spans"] (jH t):=by
 have G_Short_init:Nb P w K mg base CX0 2 t.Dk t.Hl ["self","way","at"] (zT t):=(TW T).mono (by decide)
 have G_turns_to_next_begin:Nb P w K mg base CX0 3 t.ie t.Te ["size","spans","place"] uO:=(uU T).mono (by decide)
 have G_Crossing_called:Nb P w K mg base CX0 3 t.jd t.gd ["self","name"] (rm t):=(Jo T).mono (by decide)
 have V_Way_ready:aR P w K mg base CX0 3 (isW t) "ready" ["self"] (vm t):=VG (SO T) (by decide)
 have V_Way_fade:aR P w K mg base CX0 3 (isW t) "fade" ["self"] (kr t):=VG (NS T) (by decide)
 refine T.WC.okX je (fun vs H Q E h=>?_) (fun cdv A outer s H vs Q E hr h=>?_)
 ·obtain ⟨c,n,ds,z,p,sp,rfl,_⟩:=h;rfl
 obtain ⟨c,n,ds,z,p,sp,rfl,C,hD,hz,⟨qs,l1,lq⟩,hs,hk,q⟩:=h
 refine ⟨_,(qb (Mg (dg ⟨rfl,rfl⟩) rfl (bB rfl T.e38 (cb (pv 2) ib)) (Rh (K:=K) (n:=2) rfl rfl (ic (Kb (i:=3) je.nd rfl (Or.inl rfl) (.inl rfl)) (ic (Kb (i:=4) je.nd rfl (Or.inl rfl) (.inl rfl)) Xh))) (gb (Lp (pv 4) (Rh (K:=K) (n:=3) rfl rfl (ic (Kb (i:=5) je.nd rfl (Or.inl rfl) (.inl rfl)) (ic (Kb (i:=6) je.nd rfl (Or.inl rfl) (.inl rfl)) (ic (Kb (i:=7) je.nd rfl (Or.inl rfl) (.inl rfl)) Xh)))))
   (gb (Pb (i:=8) je.nd rfl (Or.inl rfl) (Td (pv 0) T.Zb T.Qd G_Crossing_called hr T.Wd .nil Ob (cb (pv 5) ib)))
   (gb (Pb (i:=9) je.nd rfl (Or.inl rfl) (Yc xh (Yc xh (pv 7) (Iu (pv 8) V_Way_fade hr Ob)) (Iu (pv 8) V_Way_ready hr Ob)))
   (qb (Xf (PW.pt (NM (fc lE (pv 7) (Kd (pv 8) rfl) (Bc _)) (OD (fc lE (Fb G_turns_to_next_begin hr rfl T.nq T.pq T.Qq .nil Ob (cb (pv 1) (cb (pv 2) (cb (pv 3) ib)))) (pv 9) (Bc _))))) (qb (jz (cz T.cS G_Short_init hr rfl T.JU T.SH (cb (pv 5) (cb (pv 6) ib))) DF)) zc))))))),?_⟩
 (walk_at "RD")
 have hql:qs.length=sp.length:=by rw [lq.1,List.length_map]
 refine ⟨⟨_,SqL.of l1⟩,?_⟩
 refine yq.enum (xs:=qs.map V.ref) (fun i σ H'=>(∃ a b c1 d e f g,σ=[some (V.ref c),some (V.int z),some (V.ref p),a,b,c1,d,e,f,g])∧Ac H H'∧(NoT H→NoT H')∧Vq ds z sp=(sp.zipIdx.drop i).find? fun e=>qz ds z sp e.2 e.1) ?_ ?_ ?_ ?_
 ·exact ⟨⟨_,_,_,_,_,_,_,rfl⟩,Ac.refl _,id,rfl⟩
 ·rintro i σ H' hi ⟨_,sm,_,_⟩
  exact SqL.of (sm _ _ l1)
 ·rintro i v σ H0 p1 hv ⟨⟨a1,a2,a3,a4,a5,a6,a7,rfl⟩,sm,nt,hf⟩ hp1
  obtain ⟨qi,hqi,rfl⟩:=Fc hv
  obtain ⟨o,ho,e⟩:=lq.at hqi
  obtain ⟨sd,hsd,rfl⟩:=Fc ho
  obtain ⟨hi,hxi⟩:=List.getElem?_eq_some_iff.mp hsd
  rw [List.drop_eq_getElem_cons (by simpa using hi),List.find?_cons] at hf
  simp only [List.getElem_zipIdx,Nat.zero_add,hxi] at hf
  have s1:Ac H0 (upd H0 p1 (.tup [.int i,.ref qi])):=pb hp1
  refine gp ?_
  have nt1:NoT H→NoT (upd H0 p1 (.tup [.int i,.ref qi])):=fun n=>(nt n).upd
  generalize upd H0 p1 (.tup [.int i,.ref qi])=H' at s1 nt1 ⊢
  have smH:Ac H H':=sm.trans s1
  obtain ⟨d,hd⟩:=hk sd (List.mem_of_getElem? hsd)
  obtain ⟨hdn,j,hj⟩:=lT hd
  have C':=C.same smH
  obtain ⟨_,dx,wl,nd,e1,_,_⟩:=id C'
  have hDd:=hD d (List.mem_of_getElem? hj)
  have hB:qz ds z sp i sd=(decide (sd.n < d.least) || decide (GI z sp i sd < sd.n + Oi d + tf d)):=by
   unfold qz;rw [hd];rfl
  (walk_at "RD")
  refine ⟨_,SqT.of (smH _ _ e),rfl,_,_,rfl,_,_,rfl,_,_,rfl,rfl,_,_,e1,CK _ _ _ (by decide +kernel),c,n,ds,j,d,by rw [hdn],C',hj,fun a W=>?_⟩
  obtain ⟨dk,dxa,ha⟩:=id W
  refine ⟨a,rfl,_,_,_,ha,⟨_,dk,rfl⟩,eZ (by decide +kernel),a,d,rfl,W,rfl,_,rfl,_,rfl,a,rfl,_,_,_,ha,⟨_,dk,rfl⟩,eZ (by decide +kernel),a,d,rfl,W,rfl,_,rfl,?_⟩
  refine Ou (fun b H2=>b=qz ds z sp i sd∧Ac H' H2∧(NoT H'→NoT H2)) (fun Q hQ=>?_) (fun H2 r=>?_) (fun H2 r=>?_)
  ·rw [hB] at hQ
   (walk_at "RD")
   refine ⟨_,W.f_least T,_,rfl,?_⟩
   by_cases c1:sd.n < d.least
   ·rw [decide_eq_true c1] at hQ
    rw [if_pos (decide_eq_true c1)]
    exact hQ _ _ ⟨rfl,Ac.refl _,id⟩
   ·rw [decide_eq_false c1,Bool.false_or] at hQ
    rw [if_neg (by simpa using c1)]
    exact ⟨z,p,sp,i,sd,rfl,hz.1,⟨qs,smH _ _ l1,lq.same smH⟩,hs.1,hsd,fun H2 s2 n2=>⟨_,rfl,hQ _ _ ⟨rfl,s2,n2⟩⟩⟩
  ·obtain ⟨r1,r2,r3⟩:=r
   rw [← r1] at hf
   have hf:Vq ds z sp=some (sd,i):=hf
   rw [hf] at q
   (walk_at "RD")
   have hn:zU sd.name:=by rw [← hdn];exact hDd.1
   have hsb:=hs.2 sd (List.mem_of_getElem? hsd)
   refine ⟨by decide,fun a ha=>⟨a,sd.name,sd.b,rfl,hn,Ml (by omega),fb,fun d hd hne=>?_⟩⟩
   have hd0:H2 d=none:=by rw [rb hne] at hd;exact hd
   refine ⟨rfl,t.Xb,some d,by rw [rb (Ne.symm hne),fb],T.kF,q d _ (fun b u e=>?_) (fun n=>((((r3 (nt1 n)).upd).upd).upd).upd) (by rw [rb hne,fb])⟩
   have e':=r2 _ _ (smH _ _ e)
   rw [rb (zb e' ha),rb (zb e' hd0),rb (zb e' ha),rb (zb e' ha)]
   exact e'
  ·obtain ⟨r1,r2,r3⟩:=r
   rw [← r1] at hf
   exact ⟨⟨_,_,_,_,_,_,_,rfl⟩,smH.trans r2,fun n=>r3 (nt1 n),hf⟩
 ·rintro σ H' ⟨_,sm,nt,hf⟩
  rw [List.drop_of_length_le (by simp [hql])] at hf
  have hf:Vq ds z sp=none:=hf
  rw [hf] at q
  exact q _ sm nt
theorem RX (T:Txt w K mg t):Nb P w K mg base (CX1 P w) 4 t.Cf t.wg ["crossing","one","other","since_one","since_other"] (QT t):=by
 have G_Clash_init:Nb P w K mg base CX0 2 t.Uk t.Zk ["self","way","other","at"] (RS t):=(JW T).mono (by decide)
 have G_gap:Nb P w K mg base CX0 3 t.tQ t.LR ["crossing","one","other"] (yT t):=AX T
 refine T.Cw.okX Zf (fun vs H Q E h=>?_) (fun cdv A outer s H vs Q E hr h=>?_)
 ·obtain ⟨c,n,ds,d1,d2,p1,p2,m1,m2,rfl,_⟩:=h;rfl
 obtain ⟨c,n,ds,d1,d2,p1,p2,m1,m2,rfl,C,hD,h1,h2,L1,L2,hl,hm,q⟩:=h
 refine ⟨_,(gb (Pb (i:=5) Zf.nd rfl (Or.inl rfl) (Fb G_gap hr rfl T.TZ T.wZ T.OZ .nil Ob (cb (pv 0) (cb (pv 1) (cb (pv 2) ib)))))
   (qb (Mg (dg ⟨rfl,rfl⟩) rfl (bB rfl T.e38 (cb (pv 3) ib)) (Rh (K:=K) (n:=2) rfl rfl (ic (Kb (i:=6) Zf.nd rfl (Or.inl rfl) (.inl rfl)) (ic (Kb (i:=7) Zf.nd rfl (Or.inl rfl) (.inl rfl)) Xh))) (qb (Xf (PW.pt (AH (fc Fj (Xg ke (pv 4) (pv 6) (fun _ _=>rfl)) Ab (Bc _)) (YB (fc YZ (pv 7) (pv 5) (Bc _))))) (qb (jz (cz T.wR G_Clash_init hr rfl T.MU T.tG (cb (pv 1) (cb (pv 2) (cb (pv 6) ib)))) DF)) zc))))),?_⟩
 (walk_at "RD")
 obtain ⟨j1,hj1,ej1⟩:=List.getElem_of_mem h1
 obtain ⟨j2,hj2,ej2⟩:=List.getElem_of_mem h2
 refine ⟨c,n,ds,j1,j2,d1,d2,rfl,C,by rw [List.getElem?_eq_getElem hj1,ej1],by rw [List.getElem?_eq_getElem hj2,ej2],⟨_,SqL.of L1⟩,?_⟩
 rw [show (if d1.off - d2.near > 0 then d1.off - d2.near else 0)=mQ d1 d2 from rfl]
 refine yq.enum (xs:=m1.map V.int) (fun i σ H'=>(∃ a b,σ=[some (V.ref c),some (V.str d1.name),some (V.str d2.name),some (V.ref p1),some (V.ref p2),some (V.int (mQ d1 d2)),a,b])∧Ac H H'∧(NoT H→NoT H')∧Qz (mQ d1 d2) m1 m2=((m1.zip m2).zipIdx.drop i).find? fun e=>decide (e.1.2=0) && decide (e.1.1 ≤ mQ d1 d2)) ?_ ?_ ?_ ?_
 ·exact ⟨⟨_,_,rfl⟩,Ac.refl _,id,rfl⟩
 ·rintro i σ H' hi ⟨_,sm,_,_⟩
  exact SqL.of (sm _ _ L1)
 ·rintro i v σ H0 p3 hv ⟨⟨a1,a2,rfl⟩,sm,nt,hf⟩ hp3
  obtain ⟨x1,hx1,rfl⟩:=Fc hv
  obtain ⟨hi,ex1⟩:=List.getElem?_eq_some_iff.mp hx1
  have hi2:i < m2.length:=by omega
  have hx2:m2[i]? = some m2[i]:=List.getElem?_eq_getElem hi2
  rw [List.drop_eq_getElem_cons (by simp;omega),List.find?_cons] at hf
  simp only [List.getElem_zipIdx,List.getElem_zip,Nat.zero_add,ex1] at hf
  have s1:Ac H0 (upd H0 p3 (.tup [.int i,.int x1])):=pb hp3
  refine gp ?_
  have nt1:NoT H→NoT (upd H0 p3 (.tup [.int i,.int x1])):=fun n=>(nt n).upd
  generalize upd H0 p3 (.tup [.int i,.int x1])=H' at s1 nt1 ⊢
  have smH:Ac H H':=sm.trans s1
  (walk_at "RD")
  refine Cc (decide (m2[i]=0) && decide (x1 ≤ mQ d1 d2)) (fun Q hQ=>?_) (fun c1=>?_) (fun c1=>?_)
  ·(walk_at "RD")
   refine ⟨_,SqL.of (smH _ _ L2),_,Me (by rw [List.getElem?_map,hx2];rfl),rfl,?_⟩
   by_cases c0:m2[i]=0
   ·rw [decide_eq_true c0,Bool.true_and] at hQ
    rw [if_pos (by rw [c0];exact decide_eq_true rfl)]
    exact hQ
   ·rw [decide_eq_false c0,Bool.false_and] at hQ
    rw [if_neg (by rw [decide_eq_true_eq];exact fun e=>c0 (V.int.inj e))]
    exact hQ
  ·rw [c1] at hf
   have hf:Qz (mQ d1 d2) m1 m2=some ((x1,m2[i]),i):=hf
   rw [hf] at q
   (walk_at "RD")
   refine ⟨by decide,fun a ha=>⟨a,d1.name,d2.name,i,rfl,(hD _ h1).1,(hD _ h2).1,Ml (by omega),fb,fun d hd hne=>?_⟩⟩
   have hd0:H' d=none:=by rw [rb hne] at hd;exact hd
   refine ⟨rfl,t.Ub,some d,by rw [rb (Ne.symm hne),fb],T.pz,q d _ (fun b u e=>?_) (fun n=>((((nt1 n).upd).upd).upd).upd) (by rw [rb hne,fb])⟩
   have e':=smH _ _ e
   rw [rb (zb e' ha),rb (zb e' hd0),rb (zb e' ha),rb (zb e' ha)]
   exact e'
  ·rw [c1] at hf
   exact ⟨⟨_,_,rfl⟩,smH,nt1,hf⟩
 ·rintro σ H' ⟨_,sm,nt,hf⟩
  rw [List.drop_of_length_le (by simp;omega)] at hf
  have hf:Qz (mQ d1 d2) m1 m2=none:=hf
  rw [hf] at q
  exact q _ sm nt
theorem CN (T:Txt w K mg t):Nb P w K mg base (CX1 P w) 5 t.Ng t.ji ["crossing","size","spans"] (rG t):=by
 have G_since_marked:Nb P w K mg base CX0 4 t.Qg t.ni ["marks"] MK:=(QQ T).mono (by decide)
 have G_free_marks:Nb P w K mg base CX0 4 t.fh t.yi ["size","spans","name"] CV:=(QY T).mono (by decide)
 have G_Crossing_names:Nb P w K mg base CX0 4 t.qe t.re ["self"] (vv t):=(Yy T).mono (by decide)
 have G_meet:Nb P w K mg base CX0 4 t.LG t.lL ["crossing","one","other"] (rQ t):=(jW T).mono (by decide)
 have GX_refuse_clash_of:Nb P w K mg base (CX1 P w) 4 t.Cf t.wg ["crossing","one","other","since_one","since_other"] (QT t):=RX T
 refine T.XC.okX jg (fun vs H Q E h=>?_) (fun cdv A outer s H vs Q E hr h=>?_)
 ·obtain ⟨c,n,ds,z,p,sp,rfl,_⟩:=h;rfl
 obtain ⟨c,n,ds,z,p,sp,rfl,C,hn,hD,hz,L,hs,nt0,q⟩:=h
 have hu:=ZQ hr
 refine ⟨_,(gb (Pb (i:=3) jg.nd rfl (Or.inl rfl) fz)
   (gb (Mg (dg ⟨rfl,rfl⟩) rfl (Af (oe (pv 0) T.Zb T.Oe G_Crossing_names hr T.Pe .nil Ob)) (Kb (i:=4) jg.nd rfl (Or.inl rfl)) (qb (uF hu (pv 3) (pv 4) (Fb G_since_marked hr rfl T.ZC T.wC T.HC .nil Ob (cb (Fb G_free_marks hr rfl T.ay T.Ix T.Mw .nil Ob (cb (pv 1) (cb (pv 2) (cb (pv 4) ib)))) ib)) rfl)))
   (qb (Mg (dg ⟨rfl,rfl⟩) rfl (Af (oe (pv 0) T.Zb T.Oe G_Crossing_names hr T.Pe .nil Ob)) (Kb (i:=5) jg.nd rfl (Or.inl rfl)) (qb (Mg (dg ⟨rfl,rfl⟩) rfl (Af (oe (pv 0) T.Zb T.Oe G_Crossing_names hr T.Pe .nil Ob)) (Kb (i:=6) jg.nd rfl (Or.inl rfl)) (qb (Xf (PW.pt (AH (fc EN (pv 5) (pv 6) (Bc _)) (YB (vp (Fb G_meet hr rfl T.CY T.pX T.vY .nil Ob (cb (pv 0) (cb (pv 5) (cb (pv 6) ib)))))))) (qb (bd (Fb GX_refuse_clash_of hr rfl T.iw T.fw T.sw .nil Gf (cb (pv 0) (cb (pv 5) (cb (pv 6) (cb (II hu (pv 3) (pv 5) (fun _ _=>rfl)) (cb (II hu (pv 3) (pv 6) (fun _ _=>rfl)) ib)))))))) zc)))))))),?_⟩
 (walk_at "RD")
 intro pd hpd
 obtain ⟨⟨hnd,hdl⟩,dx,wl,nd,e1,_,_⟩:=id C
 have s0:Ac H (upd H pd (.dK [])):=pb hpd
 refine ⟨_,_,s0 _ _ e1,CK _ _ _ (by decide +kernel),c,n,ds,rfl,C.same s0,fun pn hpn=>⟨pn,rfl,⟨_,SqL.of fb⟩,?_⟩⟩
 have hpp:pn ≠ pd:=fun e=>by subst e;rw [fb] at hpn;cases hpn
 refine yq.list (xs:=Cb (ds.map (·.name))) (fun i σ H'=>(∃ y,σ=[some (V.ref c),some (V.int z),some (V.ref p),some (V.ref pd),y,none,none])∧Ac H H'∧NoT H'∧H' pn=some (.lst (Cb (ds.map (·.name))))∧NK H' pd ds (fun d=>.lst ((Mt z sp d.name).map V.int)) i) ?_ ?_ ?_ ?_
 ·exact ⟨⟨_,rfl⟩,s0.trans (pb hpn),(nt0.upd).upd,fb,[],rfl,by rw [rb (Ne.symm hpp),fb];simp [nkv],fun i r d h=>by simp at h⟩
 ·rintro i σ H' hi ⟨_,_,_,h,_⟩
  exact SqL.of h
 ·rintro i v σ H' hv ⟨⟨y,rfl⟩,sm,nt,hpn',rs,hrl,hpd',hrs⟩
  obtain ⟨x,hx,rfl⟩:=Fc hv
  obtain ⟨d,hd,rfl⟩:=Fc hx
  (walk_at "RD")
  refine ⟨z,p,d.name,sp,rfl,hz,L.same sm,hs,fun r1 H1 s1 n1 hr1 h1=>⟨r1,_,rfl,h1,by rw [WA];exact hz,fun r2 H2 s2 n2 hr2 h2=>?_⟩⟩
  have s12:=s1.trans s2
  have hp2:=s12 _ _ hpd'
  refine ⟨_,rM.k (k:=Sum.inr d.name) hp2 (Nat.lt_of_le_of_lt (show (nkv ds rs).length ≤ 12 by unfold nkv;rw [List.length_map,List.length_zip];omega) (by decide)),?_⟩
  have hdi:ds[rs.length]? = some d:=by rw [hrl];exact hd
  rw [bI hnd hdi]
  have hne:∀ {b:Addr} {ys:List V},H2 b=some (.lst ys)→b ≠ pd:=fun e=>Fg e hp2 (by intro z;cases z)
  refine ⟨⟨_,rfl⟩,fun b u e=>?_,(n2 (n1 nt)).upd,?_,rs ++ [r2],by rw [List.length_append,hrl];rfl,fb,fun j r e hj he=>?_⟩
  ·rw [rb (zb e hpd)];exact s12 _ _ (sm _ _ e)
  ·rw [rb hpp];exact s12 _ _ hpn'
  ·rcases jw hj with ⟨_,z2⟩ | ⟨z1,rfl⟩
   ·have:=s12 _ _ (hrs j r e z2 he)
    rw [rb (hne this)];exact this
   ·rw [z1] at he
    rw [hdi] at he
    cases he
    rw [rb (hne h2)];exact h2
 rintro σ H1 ⟨⟨y,rfl⟩,sm1,nt1,hpn1,N1⟩
 have hsl:(Cb (ds.map (·.name))).length=ds.length:=by unfold Cb;simp
 rw [hsl] at N1
 obtain ⟨rs,hrl,hpd1,hrs⟩:=N1
 have C1:=C.same sm1
 (walk_at "RD")
 refine ⟨_,_,sm1 _ _ e1,CK _ _ _ (by decide +kernel),c,n,ds,rfl,C1,fun p2 hp2=>⟨p2,rfl,⟨_,SqL.of fb⟩,?_⟩⟩
 refine yq.list (xs:=Cb (ds.map (·.name))) (fun i σ H'=>(∃ y u v,σ=[some (V.ref c),some (V.int z),some (V.ref p),some (V.ref pd),y,u,v])∧Ac H1 H'∧NoT H'∧H' p2=some (.lst (Cb (ds.map (·.name))))∧jv n z sp ds=(ds.drop i).findSome? fun d1=>HD n z sp d1 ds) ?_ ?_ ?_ ?_
 ·exact ⟨⟨_,_,_,rfl⟩,pb hp2,nt1.upd,fb,rfl⟩
 ·rintro i σ H' hi ⟨_,_,_,h,_⟩
  exact SqL.of h
 ·rintro i v σ H2 hv ⟨⟨y,u,v',rfl⟩,sm2,nt2,hpn2,hA⟩
  obtain ⟨x,hx,rfl⟩:=Fc hv
  obtain ⟨d1,hd1,rfl⟩:=Fc hx
  obtain ⟨hi,hxi⟩:=List.getElem?_eq_some_iff.mp hd1
  rw [List.drop_eq_getElem_cons hi,hxi,List.findSome?_cons] at hA
  have C2:=C1.same sm2
  (walk_at "RD")
  refine ⟨_,_,sm2 _ _ (sm1 _ _ e1),CK _ _ _ (by decide +kernel),c,n,ds,rfl,C2,fun p3 hp3=>⟨p3,rfl,⟨_,SqL.of fb⟩,?_⟩⟩
  refine yq.list (xs:=Cb (ds.map (·.name))) (fun j σ H'=>(∃ y v,σ=[some (V.ref c),some (V.int z),some (V.ref p),some (V.ref pd),y,some (V.str d1.name),v])∧Ac H2 H'∧NoT H'∧H' p3=some (.lst (Cb (ds.map (·.name))))∧HD n z sp d1 ds=(ds.drop j).findSome? fun d2=>(Rx n z sp d1 d2).map fun i=>(d1,d2,i)) ?_ ?_ ?_ ?_
  ·exact ⟨⟨_,_,rfl⟩,pb hp3,nt2.upd,fb,rfl⟩
  ·rintro i σ H' hi ⟨_,_,_,h,_⟩
   exact SqL.of h
  ·rintro j v σ H3 hv ⟨⟨y,v',rfl⟩,sm3,nt3,hpn3,hB⟩
   obtain ⟨x,hx,rfl⟩:=Fc hv
   obtain ⟨d2,hd2,rfl⟩:=Fc hx
   obtain ⟨hj,hxj⟩:=List.getElem?_eq_some_iff.mp hd2
   rw [List.drop_eq_getElem_cons hj,hxj,List.findSome?_cons] at hB
   have C3:=C2.same sm3
   have sm13:=sm2.trans sm3
   (walk_at "RD")
   refine Cc (decide (d1.name ≠ d2.name) && mt n d1 d2) (fun Q hQ=>?_) (fun c1=>?_) (fun c1=>?_)
   ·(walk_at "RD")
    by_cases c0:d1.name=d2.name
    ·rw [decide_eq_false (fun z=>z c0),Bool.false_and] at hQ
     rw [if_neg (by simp [c0])]
     exact hQ
    ·rw [decide_eq_true c0,Bool.true_and] at hQ
     rw [if_pos (by simp [c0])]
     exact ⟨c,n,ds,i,j,d1,d2,rfl,C3,hn,hd1,hd2,nt3,_,rfl,hQ⟩
   ·rw [Bool.and_eq_true] at c1
    have c2:Rx n z sp d1 d2=(Qz (mQ d1 d2) (Mt z sp d1.name) (Mt z sp d2.name)).map (·.2):=by
     unfold Rx;rw [if_pos ⟨of_decide_eq_true c1.1,c1.2⟩]
    rw [c2] at hB
    have hr1:rs[i]? = some rs[i]:=List.getElem?_eq_getElem (by omega)
    have hr2:rs[j]? = some rs[j]:=List.getElem?_eq_getElem (by omega)
    have g1:Ny H3 pd (.str d1.name) (some (.ref rs[i])):=by rw [← cP hnd hd1 hr1];exact Ny.k (k:=Sum.inr d1.name) (sm13 _ _ hpd1)
    have g2:Ny H3 pd (.str d2.name) (some (.ref rs[j])):=by rw [← cP hnd hd2 hr2];exact Ny.k (k:=Sum.inr d2.name) (sm13 _ _ hpd1)
    (walk_at "RD")
    refine ⟨_,g1,_,g2,c,n,ds,d1,d2,_,_,_,_,rfl,C3,hD,List.mem_of_getElem? hd1,List.mem_of_getElem? hd2,sm13 _ _ (hrs i _ _ hr1 hd1),sm13 _ _ (hrs j _ _ hr2 hd2),by rw [Rv,Rv],by rw [Rv];exact hz.2,?_⟩
    cases hc:Qz (mQ d1 d2) (Mt z sp d1.name) (Mt z sp d2.name) with
    | none=>
     rw [hc] at hB
     exact fun H4 s4 n4=>⟨(by first | exact ⟨_,_,rfl⟩ | exact ⟨_,rfl⟩ | simp),sm3.trans s4,n4 nt3,s4 _ _ hpn3,hB⟩
    | some e=>
     rw [hc] at hB
     have hB:HD n z sp d1 ds=some (d1,d2,e.2):=hB
     rw [hB] at hA
     have hA:jv n z sp ds=some (d1,d2,e.2):=hA
     rw [hA] at q
     exact q.step (sm1.trans sm13) fun _=>nt3
   ·have c2:Rx n z sp d1 d2=none:=by
     unfold Rx
     rw [if_neg]
     rintro ⟨z1,z2⟩
     rw [decide_eq_true z1,z2] at c1
     cases c1
    rw [c2] at hB
    exact ⟨⟨_,_,rfl⟩,sm3,nt3,hpn3,hB⟩
  ·rintro σ H' ⟨⟨y,v',rfl⟩,sm3,nt3,_,hB⟩
   rw [hsl,List.drop_of_length_le (Nat.le_refl _)] at hB
   have hB:HD n z sp d1 ds=none:=hB
   rw [hB] at hA
   exact ⟨⟨_,_,_,rfl⟩,sm2.trans sm3,nt3,sm3 _ _ hpn2,hA⟩
 ·rintro σ H' ⟨_,sm,nt,_,hA⟩
  rw [hsl,List.drop_of_length_le (Nat.le_refl _)] at hA
  have hA:jv n z sp ds=none:=hA
  rw [hA] at q
  exact q _ (sm1.trans sm) nt
end
end My
namespace My
open PySem L2
abbrev oU:List Str:=[Str.ofString "crossing",Str.ofString "size",Str.ofString "spans",Str.ofString "lamps",Str.ofString "untils"]
def plF (c:Addr) (z:Int) (p lm un:Addr):List (Str × V):=[(Str.ofString "crossing",.ref c),(Str.ofString "size",.int z),(Str.ofString "spans",.ref p),(Str.ofString "lamps",.ref lm),(Str.ofString "untils",.ref un)]
theorem zK (c:Addr) (z:Int) (p lm un:Addr):(plF c z p lm un).map (·.1)=oU:=rfl
def YY (z:Nat) (sp:List SD) (d:WD):List Str:=Dp z (tf d).toNat (Oi d).toNat (ofN d.name sp)
def rT (z:Nat) (sp:List SD) (x:Str):List Int:=eB (fmF z (ofN x sp))
structure IS (t:Adr) (H:Hp) (a c:Addr) (n:Int) (ds:List WD) (z:Nat) (sp:List SD):Prop where
 at_:∃ dx p lm un,H a=some (.ins t.Xd dx (plF c z p lm un))∧Gd t H c n ds∧LO H p (List.map sdO sp)∧NK H lm ds (fun d=>.lst (Cb (YY z sp d))) ds.length∧NK H un ds (fun d=>.lst ((rT z sp d.name).map V.int)) ds.length
def UT (t:Adr):Sp:=fun vs H Q _=>∃ (a dx c:Addr) (n:Int) (ds:List WD) (z:Nat) (p:Addr) (sp:List SD),vs=[.ref a,.ref c,.int z,.ref p]∧H a=some (.ins t.Xd dx [])∧Gd t H c n ds∧DOk ds∧(0 < z∧z ≤ 1000)∧LO H p (List.map sdO sp)∧XU z sp∧NoT H ∧
 ∀ H',kd a H H'→NoT H'→IS t H' a c n ds z sp→Q .non H'
def wI (t:Adr) (c:Addr) (n:Int) (ds:List WD) (z:Nat) (sp:List SD) (H:Hp) (Q:VK) (E:XK):Prop:=
 (qp ds sp=none→Vq ds z sp=none→jv n z sp ds=none→∀ a H',Ac H H'→NoT H'→IS t H' a c n ds z sp→Q (.ref a) H') ∧
 (∀ x,qp ds sp=some x→AQ t.qc [(Str.ofString "way",.str x)] H E) ∧
 (∀ e,qp ds sp=none→Vq ds z sp=some e→AQ t.Xb [(Str.ofString "way",.str e.1.name),(Str.ofString "at",.int e.1.b)] H E) ∧
 (∀ e,qp ds sp=none→Vq ds z sp=none→jv n z sp ds=some e→AQ t.Ub [(Str.ofString "way",.str e.1.name),(Str.ofString "other",.str e.2.1.name),(Str.ofString "at",.int e.2.2)] H E)
theorem wI.step {t:Adr} {c:Addr} {n:Int} {ds:List WD} {z:Nat} {sp:List SD} {H H1:Hp} {Q:VK} {E:XK} (h:wI t c n ds z sp H Q E) (s:Ac H H1) (nt:NoT H1):wI t c n ds z sp H1 Q E:=
 ⟨fun h1 h2 h3 a H' s' n' p=>h.1 h1 h2 h3 a H' (s.trans s') n' p,fun x hx=>(h.2.1 x hx).step s fun _=>nt,fun e h1 h2=>(h.2.2.1 e h1 h2).step s fun _=>nt,fun e h1 h2 h3=>(h.2.2.2 e h1 h2 h3).step s fun _=>nt⟩
def KK (t:Adr):Sp:=fun vs H Q E=>∃ (c:Addr) (n:Int) (ds:List WD) (z:Nat) (p:Addr) (sp:List SD),vs=[.ref c,.int z,.ref p]∧Gd t H c n ds∧0 < n∧DOk ds∧(0 < z∧z ≤ 1000)∧LO H p (List.map sdO sp)∧XU z sp∧(∀ s ∈ sp,∃ d,wOf ds s.name=some d)∧NoT H ∧
 wI t c n ds z sp H Q E
section
variable {w:World} {K:PySem.W.Frag} {mg:Str→Option Value} {t:Adr} {H:Hp} {a c dx p lm un:Addr} {z:Int}
theorem jS (T:Txt w K mg t) (e:H a=some (.ins t.Xd dx (plF c z p lm un))):Op K H a (Str.ofString "lamps") (.ref lm):=⟨_,dx,_,e,T.Ct,T.e94,af oU 3 (zK ..) (by decide +kernel) rfl⟩
theorem qQ (T:Txt w K mg t) (e:H a=some (.ins t.Xd dx (plF c z p lm un))):Op K H a (Str.ofString "untils") (.ref un):=⟨_,dx,_,e,T.Ct,T.e54,af oU 4 (zK ..) (by decide +kernel) rfl⟩
end
theorem lN {H:Hp} {a b C C' dx dx':Addr} {fs:List (Str × V)} (ha:H a=some (.ins C dx [])) (hb:H b=some (.ins C' dx' fs)) (hf:fs ≠ []):b ≠ a:=fun z=>by
 subst z
 rw [hb] at ha
 have e:=Option.some.inj ha
 injection e with _ _ e3
 exact hf e3
theorem Gd.sameX {t:Adr} {H H':Hp} {a c C dx:Addr} {n:Int} {ds:List WD} (h:Gd t H c n ds) (s:kd a H H') (ha:H a=some (.ins C dx [])):Gd t H' c n ds:=by
 obtain ⟨h0,dx',wl,nd,e1,⟨as,w1,w2,al⟩,e3⟩:=h
 refine ⟨h0,dx',wl,nd,s _ _ (lN ha e1 (by unfold cF;simp)) e1,⟨as,s _ _ (Fg w1 ha (by intro z;cases z)) w1,w2,fun i b d hb hd=>?_⟩,s _ _ (Fg e3 ha (by intro z;cases z)) e3⟩
 obtain ⟨k,dxb,eb⟩:=al i b d hb hd
 exact ⟨k,dxb,s _ _ (lN ha eb (by unfold Cy;simp)) eb⟩
theorem LO.sameX {H H':Hp} {a p C dx:Addr} {sp:List SD} (h:LO H p (List.map sdO sp)) (s:kd a H H') (ha:H a=some (.ins C dx [])):LO H' p (List.map sdO sp):=by
 obtain ⟨qs,l1,l2⟩:=h
 refine ⟨qs,s _ _ (Fg l1 ha (by intro z;cases z)) l1,l2.1,fun i q o hq ho=>?_⟩
 have e:=l2.2 i q o hq ho
 refine s _ _ (Fg e ha ?_) e
 obtain ⟨d,_,rfl⟩:=Fc ho
 intro z;cases z
section
variable {P:Program} {w:World} {K:PySem.W.Frag} {mg:Str→Option Value} {base:Heap} {t:Adr}
theorem FY (T:Txt w K mg t):Nb P w K mg base CX0 4 t.rn t.Tm ["self","crossing","size","spans"] (UT t):=by
 have G_lamp:Nb P w K mg base CX0 3 t.aG t.aK ["way","size","spans"] (lP t):=(iU T).mono (by decide)
 have G_until_marked:Nb P w K mg base CX0 3 t.Qf t.Ug ["marks"] dF:=(xK T).mono (by decide)
 have G_free_marks:Nb P w K mg base CX0 3 t.fh t.yi ["size","spans","name"] CV:=(QY T).mono (by decide)
 have G_Crossing_names:Nb P w K mg base CX0 3 t.qe t.re ["self"] (vv t):=(Yy T).mono (by decide)
 have G_Crossing_called:Nb P w K mg base CX0 3 t.jd t.gd ["self","name"] (rm t):=(Jo T).mono (by decide)
 refine T.RI.ok Hn (fun vs H Q E h=>?_) (fun cdv A outer s H vs Q E hr h=>?_)
 ·obtain ⟨a,dx,c,n,ds,z,p,sp,rfl,_⟩:=h;rfl
 obtain ⟨a,dx,c,n,ds,z,p,sp,rfl,ha,C,hD,hz,L,hs,nt0,q⟩:=h
 have hu:=ZQ hr
 refine ⟨_,(gb (Jh (pv 0) (pv 1) rfl)
   (gb (Jh (pv 0) (pv 2) rfl)
   (gb (Jh (pv 0) (pv 3) rfl)
   (gb (Jh (pv 0) fz rfl)
   (gb (Jh (pv 0) fz rfl)
   (qb (Mg PassesOwn.never rfl (Af (oe (pv 1) T.Zb T.Oe G_Crossing_names hr T.Pe .nil Ob)) (Kb (i:=4) Hn.nd rfl (Or.inl rfl)) (gb (uF hu (Kd (pv 0) rfl) (pv 4) (Fb G_lamp hr rfl T.BX T.fY T.nX .nil Ob (cb (Td (pv 1) T.Zb T.Qd G_Crossing_called hr T.Wd .nil Ob (cb (pv 4) ib)) (cb (pv 2) (cb (pv 3) ib)))) rfl)
   (qb (uF hu (Kd (pv 0) rfl) (pv 4) (Fb G_until_marked hr rfl T.gs T.Mr T.Sr .nil Ob (cb (Fb G_free_marks hr rfl T.ay T.Ix T.Mw .nil Ob (cb (pv 2) (cb (pv 3) (cb (pv 4) ib)))) ib)) rfl)))))))))),?_⟩
 (walk_at "RD")
 refine ⟨_,_,_,ha,T.Ct,T.e47,by decide,?_⟩
 refine ⟨_,_,_,fb,T.Ct,T.e208,Mv (n:=999) (by decide),?_⟩
 refine ⟨_,_,_,fb,T.Ct,T.e157,Mv (n:=999) (Mv (n:=998) (by decide)),fun lm hlm=>?_⟩
 simp only [vn] at hlm ⊢
 rw [show dj (Str.ofString "crossing") (V.ref c) ([]:List (Str × V))=[(Str.ofString "crossing",V.ref c)] from rfl,show dj (Str.ofString "size") (V.int z) [(Str.ofString "crossing",V.ref c)]=[(Str.ofString "crossing",V.ref c),(Str.ofString "size",V.int z)] from Yd [Str.ofString "crossing"] rfl (by decide +kernel),show dj (Str.ofString "spans") (V.ref p) [(Str.ofString "crossing",V.ref c),(Str.ofString "size",V.int z)]=[(Str.ofString "crossing",V.ref c),(Str.ofString "size",V.int z),(Str.ofString "spans",V.ref p)] from Yd [Str.ofString "crossing",Str.ofString "size"] rfl (by decide +kernel)] at hlm ⊢
 have hla:a ≠ lm:=fun z=>by subst z;rw [fb] at hlm;cases hlm
 have hHl:H lm=none:=by rw [rb (Ne.symm hla)] at hlm;exact hlm
 refine ⟨t.Xd,dx,[(Str.ofString "crossing",V.ref c),(Str.ofString "size",V.int z),(Str.ofString "spans",V.ref p)],by rw [rb hla];exact fb,T.Ct,T.e94,show (3:Nat) < 1000 by decide,fun un hun=>?_⟩
 rw [show dj (Str.ofString "lamps") (V.ref lm) [(Str.ofString "crossing",V.ref c),(Str.ofString "size",V.int z),(Str.ofString "spans",V.ref p)]=[(Str.ofString "crossing",V.ref c),(Str.ofString "size",V.int z),(Str.ofString "spans",V.ref p),(Str.ofString "lamps",V.ref lm)] from Yd [Str.ofString "crossing",Str.ofString "size",Str.ofString "spans"] rfl (by decide +kernel)] at hun ⊢
 have hua:a ≠ un:=fun z=>by subst z;rw [fb] at hun;cases hun
 have hul:un ≠ lm:=fun z=>by subst z;rw [rb (Ne.symm hua),fb] at hun;cases hun
 have hHu:H un=none:=by rw [rb (Ne.symm hua),rb hul,rb (Ne.symm hua)] at hun;exact hun
 refine ⟨t.Xd,dx,[(Str.ofString "crossing",V.ref c),(Str.ofString "size",V.int z),(Str.ofString "spans",V.ref p),(Str.ofString "lamps",V.ref lm)],by rw [rb hua];exact fb,T.Ct,T.e54,show (4:Nat) < 1000 by decide,?_⟩
 rw [show dj (Str.ofString "untils") (V.ref un) [(Str.ofString "crossing",V.ref c),(Str.ofString "size",V.int z),(Str.ofString "spans",V.ref p),(Str.ofString "lamps",V.ref lm)]=plF c z p lm un from Yd [Str.ofString "crossing",Str.ofString "size",Str.ofString "spans",Str.ofString "lamps"] rfl (by decide +kernel)]
 have hf:∃ H5:Hp,H5=upd (upd (upd (upd (upd H a (.ins t.Xd dx [(Str.ofString "crossing",V.ref c),(Str.ofString "size",V.int z),(Str.ofString "spans",V.ref p)])) lm (.dK [])) a (.ins t.Xd dx [(Str.ofString "crossing",V.ref c),(Str.ofString "size",V.int z),(Str.ofString "spans",V.ref p),(Str.ofString "lamps",V.ref lm)])) un (.dK [])) a (.ins t.Xd dx (plF c z p lm un)):=⟨_,rfl⟩
 obtain ⟨H5,h5⟩:=hf
 rw [← h5]
 have g1:H5 a=some (.ins t.Xd dx (plF c z p lm un)):=by rw [h5,fb]
 have g2:H5 lm=some (.dK []):=by rw [h5,rb (Ne.symm hla),rb (Ne.symm hul),rb (Ne.symm hla),fb]
 have g3:H5 un=some (.dK []):=by rw [h5,rb (Ne.symm hua),fb]
 have g4:kd a H H5:=fun b u hb e=>by rw [h5,rb hb,rb (zb e hHu),rb hb,rb (zb e hHl),rb hb];exact e
 have g5:NoT H5:=by rw [h5];exact ((((nt0.upd).upd).upd).upd).upd
 clear h5
 have C5:=C.sameX g4 ha
 obtain ⟨⟨hnd,hdl⟩,dxc,wl,nd,e1,_,_⟩:=id C5
 refine ⟨_,_,e1,CK _ _ _ (by decide +kernel),c,n,ds,rfl,C5,fun pn hpn=>⟨pn,rfl,⟨_,SqL.of fb⟩,?_⟩⟩
 refine yq.list (xs:=Cb (ds.map (·.name))) (fun i σ H'=>(∃ y,σ=[some (V.ref a),some (V.ref c),some (V.int z),some (V.ref p),y])∧kd a H H'∧NoT H'∧H' a=some (.ins t.Xd dx (plF c z p lm un))∧H' pn=some (.lst (Cb (ds.map (·.name))))∧NK H' lm ds (fun d=>.lst (Cb (YY z sp d))) i∧NK H' un ds (fun d=>.lst ((rT z sp d.name).map V.int)) i) ?_ ?_ ?_ ?_
 ·have sn:=pb (o:=.lst (Cb (ds.map (·.name)))) hpn
  exact ⟨⟨_,rfl⟩,g4.trans (kd.of sn),g5.upd,sn _ _ g1,fb,⟨[],rfl,by rw [sn _ _ g2];simp [nkv],fun i r d h=>by simp at h⟩,⟨[],rfl,by rw [sn _ _ g3];simp [nkv],fun i r d h=>by simp at h⟩⟩
 ·rintro i σ H' hi ⟨_,_,_,_,h,_⟩
  exact SqL.of h
 ·rintro i v σ H' hv ⟨⟨y,rfl⟩,sx,nt,ha',hpn',⟨rl,hrl,hlm',hrs⟩,⟨ru,hru,hun',hus⟩⟩
  obtain ⟨x,hx,rfl⟩:=Fc hv
  obtain ⟨d,hd,rfl⟩:=Fc hx
  have C':=C.sameX sx ha
  have L':=L.sameX sx ha
  obtain ⟨_,dxc',wl',nd',e1',_,_⟩:=id C'
  (walk_at "RD")
  refine ⟨_,_,e1',CK _ _ _ (by decide +kernel),c,n,ds,i,d,rfl,C',hd,fun wa W=>?_⟩
  have hdi:ds[rl.length]? = some d:=by rw [hrl];exact hd
  have hdj:ds[ru.length]? = some d:=by rw [hru];exact hd
  refine ⟨wa,d,z,p,sp,rfl,hz,W,L',hs,(hD d (List.mem_of_getElem? hd)).2,fun r1 H1 s1 n1 hr1 h1=>⟨_,jS T (s1 _ _ ha'),lm,rfl,_,rM.k (k:=Sum.inr d.name) (s1 _ _ hlm') (Nat.lt_of_le_of_lt (show (nkv ds rl).length ≤ 12 by unfold nkv;rw [List.length_map,List.length_zip];omega) (by decide)),?_⟩⟩
  rw [bI hnd hdi]
  have kl:∀ {b:Addr} {u:HO},H' b=some u→b ≠ lm→upd H1 lm (.dK (nkv ds (rl ++ [r1]))) b=some u:=fun e h=>by rw [rb h];exact s1 _ _ e
  have k1:kd a H (upd H1 lm (.dK (nkv ds (rl ++ [r1])))):=fun b u hb e=>kl (sx b u hb e) (zb e hHl)
  refine ⟨z,p,d.name,sp,rfl,hz,L.sameX k1 ha,hs,fun r3 H3 s3 n3 hr3 h3=>⟨r3,_,rfl,h3,by rw [WA];exact hz,fun r4 H4 s4 n4 hr4 h4=>?_⟩⟩
  have s34:=s3.trans s4
  have un2:H4 un=some (.dK (nkv ds ru)):=s34 _ _ (kl hun' hul)
  have a2:H4 a=some (.ins t.Xd dx (plF c z p lm un)):=s34 _ _ (kl ha' hla)
  refine ⟨_,qQ T a2,un,rfl,_,rM.k (k:=Sum.inr d.name) un2 (Nat.lt_of_le_of_lt (show (nkv ds ru).length ≤ 12 by unfold nkv;rw [List.length_map,List.length_zip];omega) (by decide)),?_⟩
  rw [bI hnd hdj]
  have ku:∀ {b:Addr} {u:HO},upd H1 lm (.dK (nkv ds (rl ++ [r1]))) b=some u→b ≠ un→upd H4 un (.dK (nkv ds (ru ++ [r4]))) b=some u:=fun e h=>by rw [rb h];exact s34 _ _ e
  have nel:∀ {b:Addr} {ys:List V},H' b=some (.lst ys)→b ≠ lm:=fun e=>Fg e hlm' (by intro z;cases z)
  have neu:∀ {b:Addr} {ys:List V},H' b=some (.lst ys)→b ≠ un:=fun e=>Fg e hun' (by intro z;cases z)
  have r1l:r1 ≠ lm:=Fg h1 (s1 _ _ hlm') (by intro z;cases z)
  have r1u:r1 ≠ un:=Fg h1 (s1 _ _ hun') (by intro z;cases z)
  have r4u:r4 ≠ un:=Fg h4 un2 (by intro z;cases z)
  refine ⟨⟨_,rfl⟩,fun b u hb e=>ku (k1 b u hb e) (zb e hHu),(n4 (n3 (n1 nt).upd)).upd,ku (kl ha' hla) hua,ku (kl hpn' (nel hpn')) (neu hpn'),⟨rl ++ [r1],by rw [List.length_append,hrl];rfl,ku fb (Ne.symm hul),fun j r e hj he=>?_⟩,⟨ru ++ [r4],by rw [List.length_append,hru];rfl,fb,fun j r e hj he=>?_⟩⟩
  ·rcases jw hj with ⟨_,z2⟩ | ⟨z1,rfl⟩
   ·have:=hrs j r e z2 he
    exact ku (kl this (nel this)) (neu this)
   ·rw [z1,hdi] at he
    cases he
    exact ku (by rw [rb r1l];exact h1) r1u
  ·rcases jw hj with ⟨_,z2⟩ | ⟨z1,rfl⟩
   ·have:=hus j r e z2 he
    exact ku (kl this (nel this)) (neu this)
   ·rw [z1,hdj] at he
    cases he
    rw [rb r4u];exact h4
 ·rintro σ H' ⟨_,sx,nt,ha',_,N1,N2⟩
  have hsl:(Cb (ds.map (·.name))).length=ds.length:=by unfold Cb;simp
  rw [hsl] at N1 N2
  exact q _ sx nt ⟨dx,p,lm,un,ha',C.sameX sx ha,L.sameX sx ha,N1,N2⟩
theorem fR (T:Txt w K mg t):Nb P w K mg base (CX1 P w) 6 t.Ak t.Mm ["crossing","size","rows"] (KK t):=by
 have G_Crossing_called:Nb P w K mg base CX0 5 t.jd t.gd ["self","name"] (rm t):=(Jo T).mono (by decide)
 have G_Plan_init:Nb P w K mg base CX0 4 t.rn t.Tm ["self","crossing","size","spans"] (UT t):=FY T
 have GX_refuse_never:Nb P w K mg base (CX1 P w) 5 t.Lg t.ai ["crossing","spans"] (aH t):=(gN T).mono (by decide)
 have GX_refuse_short:Nb P w K mg base (CX1 P w) 5 t.Tg t.ii ["crossing","size","spans"] (jH t):=(oN T).mono (by decide)
 have GX_refuse_clash:Nb P w K mg base (CX1 P w) 5 t.Ng t.ji ["crossing","size","spans"] (rG t):=CN T
 refine T.XI.okX Ji (fun vs H Q E h=>?_) (fun cdv A outer s H vs Q E hr h=>?_)
 ·obtain ⟨c,n,ds,z,p,sp,rfl,_⟩:=h;rfl
 obtain ⟨c,n,ds,z,p,sp,rfl,C,hn,hD,hz,L,hs,hw,nt0,q1,q2,q3,q4⟩:=h
 refine ⟨_,(gb (Qh (i:=3) Ji.nd rfl (Or.inl rfl) rfl (Af (pv 2)) (ue (sc:=db Ke) rfl (by decide +kernel)) (N:=["name","begin","turns"]) (sel:=[none,none,none]) (qf (M:=["crossing","size","rows","spans","name","begin","turns"]) (by decide +kernel)) (Blk.of (fun _ _ _ _=>(Rh (K:=K) (n:=3) rfl rfl (ic (Kb (i:=0) (vj (N:=["name","begin","turns"]) (by decide +kernel) rfl) rfl (Or.inl rfl) (.inr rfl)) (ic (Kb (i:=1) (vj (N:=["name","begin","turns"]) (by decide +kernel) rfl) rfl (Or.inl rfl) (.inr rfl)) (ic (Kb (i:=2) (vj (N:=["name","begin","turns"]) (by decide +kernel) rfl) rfl (Or.inl rfl) (.inr rfl)) Xh))))) (fun _ _ _ _=>⟨_,Mi,by first | rfl | (dsimp only [Cx.block];done) | (dsimp only [Cx.block];exact rfl)⟩) (fun _ _ _ _=>⟨_,(Eo (cb (pv 0) (cb (pv 1) (cb (pv 2) ib)))),by first | rfl | (dsimp only [Cx.block];done) | (dsimp only [Cx.block];exact rfl)⟩)) rfl)
   (gb (Mg (dg ⟨rfl,rfl⟩) rfl (Af (pv 3)) (Rh (K:=K) (n:=3) rfl rfl (ic (Kb (i:=4) Ji.nd rfl (Or.inl rfl) (.inl rfl)) (ic (Kb (i:=5) Ji.nd rfl (Or.inl rfl) (.inl rfl)) (ic (Kb (i:=6) Ji.nd rfl (Or.inl rfl) (.inl rfl)) Xh)))) (qb (bd (Td (pv 0) T.Zb T.Qd G_Crossing_called hr T.Wd .nil Ob (cb (pv 4) ib)))))
   (gb (bd (Fb GX_refuse_never hr rfl T.IC T.dD T.jD .nil Gf (cb (pv 0) (cb (pv 3) ib))))
   (gb (bd (Fb GX_refuse_short hr rfl T.bD T.RC T.qC .nil Gf (cb (pv 0) (cb (pv 1) (cb (pv 3) ib)))))
   (gb (bd (Fb GX_refuse_clash hr rfl T.KC T.OC T.gC .nil Gf (cb (pv 0) (cb (pv 1) (cb (pv 3) ib)))))
   (qb (Rb (Gw T.JX G_Plan_init hr rfl T.WY T.cJ .nil Ob (cb (pv 0) (cb (pv 1) (cb (pv 3) ib))))))))))),?_⟩
 (walk_at "RD")
 obtain ⟨qs,l1,lq⟩:=L
 have hql:qs.length=sp.length:=by rw [lq.1,List.length_map]
 have hs1:=hs.1
 refine ⟨⟨_,SqL.of l1⟩,?_⟩
 refine yf.list (xs:=qs.map V.ref) (fun i ys H'=>∃ os:List Addr,ys=os.map V.ref∧LQ H' os ((sp.take i).map sdO)∧Ac H H'∧NoT H') (Nat.le_trans (show (qs.map V.ref).length ≤ 100 by rw [List.length_map];omega) (by decide)) ⟨[],rfl,by rw [List.take_zero];exact LQ.nil _,Ac.refl _,nt0⟩ ?_ ?_ ?_
 ·rintro i ys H' hi ⟨os,rfl,r,sm,_⟩
  refine ⟨(SqL.of l1).same sm,?_⟩
  rw [List.length_map,r.1,List.length_map,List.length_take];omega
 ·rintro i v ys H' hv ⟨os,rfl,r,sm,nt⟩ N hN
  obtain ⟨qi,hqi,rfl⟩:=Fc hv
  obtain ⟨o,ho,e⟩:=lq.at hqi
  obtain ⟨d,hd,rfl⟩:=Fc ho
  have e':=sm _ _ e
  dsimp only at hN
  rw [zi hd,List.map_append] at hN
  (walk_at "RD")
  refine ⟨_,SqT.of e',rfl,_,_,rfl,_,_,rfl,_,_,rfl,rfl,Sub.name3,by decide,fun p1 hp1=>?_⟩
  exact hN _ _ ⟨os ++ [p1],by rw [List.map_append];rfl,(r.same (pb hp1)).app (LQ.one fb),sm.trans (pb hp1),nt.upd⟩
 rintro ys H1 ⟨os,rfl,r,sm1,nt1⟩ p1 hp1
 rw [List.take_of_length_le (by rw [List.length_map];omega)] at r
 have s2:Ac H1 (upd H1 p1 (.lst (os.map V.ref))):=pb hp1
 have nt2:NoT (upd H1 p1 (.lst (os.map V.ref))):=nt1.upd
 have L2:LO (upd H1 p1 (.lst (os.map V.ref))) p1 (List.map sdO sp):=⟨os,fb,r.same s2⟩
 have sm2:=sm1.trans s2
 generalize upd H1 p1 (.lst (os.map V.ref))=H2 at s2 nt2 L2 sm2 ⊢
 have C2:=C.same sm2
 obtain ⟨_,dxc,wl,nd,e1,_,_⟩:=id C2
 obtain ⟨qs2,m1,mq⟩:=id L2
 have hql2:qs2.length=sp.length:=by rw [mq.1,List.length_map]
 (walk_at "RD")
 refine ⟨⟨_,SqL.of m1⟩,?_⟩
 refine yq.list (xs:=qs2.map V.ref) (fun i σ H'=>(∃ x y z',σ=[some (V.ref c),some (V.int z),some (V.ref p),some (V.ref p1),x,y,z'])∧H'=H2) ?_ ?_ ?_ ?_
 ·exact ⟨⟨_,_,_,rfl⟩,rfl⟩
 ·rintro i σ H' hi ⟨_,rfl⟩
  exact SqL.of m1
 ·rintro i v σ H' hv ⟨⟨x,y,z',rfl⟩,rfl⟩
  obtain ⟨qi,hqi,rfl⟩:=Fc hv
  obtain ⟨o,ho,e⟩:=mq.at hqi
  obtain ⟨sd,hsd,rfl⟩:=Fc ho
  obtain ⟨d,hd⟩:=hw sd (List.mem_of_getElem? hsd)
  obtain ⟨hdn,j,hj⟩:=lT hd
  (walk_at "RD")
  exact ⟨_,SqT.of e,rfl,_,_,rfl,_,_,rfl,_,_,rfl,rfl,_,_,e1,CK _ _ _ (by decide +kernel),c,n,ds,j,d,by rw [hdn],C2,hj,fun a W=>⟨(by first | exact ⟨_,_,_,rfl⟩ | exact ⟨_,_,rfl⟩ | exact ⟨_,rfl⟩ | simp),rfl⟩⟩
 rintro σ H' ⟨⟨x,y,z',rfl⟩,rfl⟩
 (walk_at "RD")
 refine ⟨c,n,ds,p1,sp,rfl,C2,hD,L2,hs1,?_⟩
 cases hN:qp ds sp with
 | some x=>exact (q2 x hN).step sm2 fun _=>nt2
 | none=>
 intro H3 s3 n3
 have nt3:=n3 nt2
 have C3:=C2.same s3
 have L3:=L2.same s3
 (walk_at "RD")
 refine ⟨c,n,ds,z,p1,sp,rfl,C3,hD,⟨by omega,by omega⟩,L3,hs,hw,?_⟩
 cases hS:Vq ds z sp with
 | some e=>exact (q3 e hN hS).step (sm2.trans s3) fun _=>nt3
 | none=>
 intro H4 s4 n4
 have nt4:=n4 nt3
 have C4:=C3.same s4
 have L4:=L3.same s4
 (walk_at "RD")
 refine ⟨c,n,ds,z,p1,sp,rfl,C4,hn,hD,hz,L4,hs,nt4,?_⟩
 cases hC:jv n z sp ds with
 | some e=>exact (q4 e hN hS hC).step ((sm2.trans s3).trans s4) fun _=>nt4
 | none=>
 intro H5 s5 nt5
 have C5:=C4.same s5
 have L5:=L4.same s5
 (walk_at "RD")
 intro a dx ha hdx hne
 have sc:Ac H5 (upd (upd H5 dx (.own a)) a (.ins t.Xd dx [])):=((Ac.refl H5).updN hdx).updN ha
 refine ⟨a,dx,c,n,ds,z,p1,sp,rfl,fb,C5.same sc,hD,hz,L5.same sc,hs,(nt5.upd).upd,fun H6 s6 nt6 PA=>⟨rfl,?_⟩⟩
 have sm5:=((sm2.trans s3).trans s4).trans s5
 exact q1 hN hS hC a H6 (sf (sm5.trans sc) s6 (sm5.free ha)) nt6 PA
end
end My
namespace My
open PySem L2
def Uz (ws:List Str):Except Nat Int:=if wd ws 0 ∈ [Str.ofString "round"] then (Am (wd ws 1) 1 240).elim (.error 1) fun v=>if 2 < ws.length then .error 2 else .ok v else .error 0
def ve (ds:List WD) (sp:List SD):List Str:=(ds.map (·.name)).filter fun x=>decide ((ofN x sp).length < 3)
def jj (z:Int) (known:List Str) (ws:List Str):Except Nat SD:=if wd ws 0 ∈ [Str.ofString "free"] then
 (if wd ws 1 ∈ known then (Am (wd ws 2) 0 (z - 1)).elim (.error 2) fun b=>(Am (wd ws 3) 1 z).elim (.error 3) fun n=>if 4 < ws.length then .error 4 else .ok ⟨wd ws 1,b,n⟩ else .error 1) else .error 0
def Zi (z:Int) (ds:List WD):List (List Str)→Nat→List SD→Except (Nat × Nat) (List SD)
 | [],_,sp=>.ok sp
 | ws :: r,i,sp=>match jj z (ve ds sp) ws with
  | .error k=>.error (i,k)
  | .ok d=>Zi z ds r (i + 1) (sp ++ [d])
def Dy (ds:List WD) (r0:List Str) (rest:List (List Str)):Except (Nat × Nat) (Int × List SD):=match Uz r0 with
 | .error k=>.error (0,k)
 | .ok z=>match Zi z ds rest 1 [] with
  | .error e=>.error e
  | .ok sp=>.ok (z,sp)
theorem eS {ws:List Str} {n:Int} (h:Uz ws=.ok n):1 ≤ n∧n ≤ 240:=by
 unfold Uz at h
 split at h
 ·cases e:Am (wd ws 1) 1 240 with
  | none=>rw [e] at h;cases h
  | some v=>
   rw [e] at h
   have hv:gB (wd ws 1) 1 240=.int v:=by rw [iG,e];rfl
   have:=jE hv
   replace h:(if 2 < ws.length then Except.error 2 else Except.ok v)=Except.ok n:=h
   split at h
   ·cases h
   ·cases h;exact ⟨this.2.1,this.2.2⟩
 ·cases h
theorem PQ {z:Int} {known ws:List Str} {d:SD} (h:jj z known ws=.ok d):d.name ∈ known∧0 ≤ d.b∧d.b < z∧1 ≤ d.n∧d.n ≤ z:=by
 unfold jj at h
 split at h
 ·split at h
  ·rename_i h1
   cases e:Am (wd ws 2) 0 (z - 1) with
   | none=>rw [e] at h;cases h
   | some b=>
    rw [e] at h
    have hb:gB (wd ws 2) 0 (z - 1)=.int b:=by rw [iG,e];rfl
    have g1:=jE hb
    replace h:((Am (wd ws 3) 1 z).elim (.error 3) fun n=>if 4 < ws.length then .error 4 else .ok ⟨wd ws 1,b,n⟩)=Except.ok d:=h
    cases e2:Am (wd ws 3) 1 z with
    | none=>rw [e2] at h;cases h
    | some n=>
     rw [e2] at h
     have hn:gB (wd ws 3) 1 z=.int n:=by rw [iG,e2];rfl
     have g2:=jE hn
     replace h:(if 4 < ws.length then Except.error 4 else Except.ok (⟨wd ws 1,b,n⟩:SD))=Except.ok d:=h
     split at h
     ·cases h
     ·cases h;exact ⟨h1,g1.2.1,by show b < z;omega,g2.2.1,g2.2.2⟩
  ·cases h
 ·cases h
def nQ (t:Adr):Sp:=fun vs H Q E=>∃ q row ws,vs=[.ref q]∧cg t H q row ws 0∧(0 ≤ row∧row ≤ 10000)∧NoT H∧Oc (Uz ws) (fun n=>VZ q H (Q (.int n))) (fun k=>bC t row k q H E)
def gQ (t:Adr):Sp:=fun vs H Q E=>∃ q row ws c n ds z p sp,vs=[.ref q,.ref c,.int z,.ref p]∧cg t H q row ws 0∧(0 ≤ row∧row ≤ 10000)∧Gd t H c n ds∧(∀ d ∈ ds,d.name ≠ Str.ofString "")∧(1 ≤ z∧z ≤ 240)∧LO H p (List.map sdO sp)∧sp.length ≤ 100∧NoT H ∧
 Oc (jj z (ve ds sp) ws) (fun d=>∀ x H',kd q H H'→NoT H'→H' x=some (sdO d)→H x=none→Q (.ref x) H') (fun k=>bC t row k q H E)
def GK (t:Adr):Sp:=fun vs H Q E=>∃ c n ds x r0 rest,vs=[.ref c,.str x]∧Gd t H c n ds∧0 < n∧DOk ds∧(∀ d ∈ ds,d.name ≠ Str.ofString "")∧Xj x=r0 :: rest∧x.length ≤ 20000∧rest.length ≤ 100∧(∀ r ∈ r0 :: rest,r ≠ []∧r.length ≤ 1000∧∀ y ∈ r,y.length ≤ 1000)∧NoT H ∧
 Oc2 (Dy ds r0 rest) (fun m=>wI t c n ds m.1.toNat m.2 H Q E) (fun i k=>GZ t i k H E)
def SpG (z:Int) (ds:List WD) (sp:List SD):Prop:=∀ s ∈ sp,s.name ∈ ds.map (·.name)∧0 ≤ s.b∧s.b < z∧1 ≤ s.n∧s.n ≤ z
theorem SpG.ok {z:Int} {ds:List WD} {sp:List SD} (h:SpG z ds sp) (hl:sp.length ≤ 100) (hz:z ≤ 240):XU z sp:=⟨hl,fun d hd=>by have:=h d hd;omega⟩
theorem SpG.wOf {z:Int} {ds:List WD} {sp:List SD} (h:SpG z ds sp):∀ s ∈ sp,∃ d,wOf ds s.name=some d:=fun s hs=>by
 obtain ⟨d,hd,e⟩:=List.mem_map.mp (h s hs).1
 unfold My.wOf
 cases hf:ds.find? fun d=>decide (d.name=s.name) with
 | some d'=>exact ⟨d',rfl⟩
 | none=>exact absurd (List.find?_eq_none.mp hf d hd) (by simp [e])
theorem Gd.sameR {t:Adr} {H H':Hp} {q c:Addr} {n:Int} {ds:List WD} {row:Int} {ws:List Str} {k:Nat} (h:Gd t H c n ds) (s:kd q H H') (R:cg t H q row ws k):Gd t H' c n ds:=by
 obtain ⟨h0,dx',wl,nd,e1,⟨as,w1,w2,al⟩,e3⟩:=h
 obtain ⟨_,dq,ta,f1,f2⟩:=id R
 refine ⟨h0,dx',wl,nd,s _ _ (fun z=>?_) e1,⟨as,s _ _ (Fg w1 f1 (by intro z;cases z)) w1,w2,fun i b d hb hd=>?_⟩,s _ _ (Fg e3 f1 (by intro z;cases z)) e3⟩
 ·subst z
  rw [e1] at f1
  have e:=Option.some.inj f1
  injection e with _ _ e4
  unfold cF rdF at e4
  injection e4 with e5 _
  injection e5 with e6 _
  exact absurd e6 (by decide +kernel)
 ·have W:=al i b d hb hd
  have hn:=XG W R
  exact ⟨W.1,W.2.imp fun dx e=>s _ _ hn e⟩
theorem LO.sameR {t:Adr} {H H':Hp} {q p:Addr} {sp:List SD} {row:Int} {ws:List Str} {k:Nat} (h:LO H p (List.map sdO sp)) (s:kd q H H') (R:cg t H q row ws k):LO H' p (List.map sdO sp):=by
 obtain ⟨_,dq,ta,f1,f2⟩:=id R
 obtain ⟨qs,l1,l2⟩:=h
 refine ⟨qs,s _ _ (Fg l1 f1 (by intro z;cases z)) l1,l2.1,fun i q o hq ho=>?_⟩
 have e:=l2.2 i q o hq ho
 refine s _ _ (Fg e f1 ?_) e
 obtain ⟨d,_,rfl⟩:=Fc ho
 intro z;cases z
section
variable {P:Program} {w:World} {K:PySem.W.Frag} {mg:Str→Option Value} {base:Heap} {t:Adr}
theorem BV (T:Txt w K mg t):Nb P w K mg base (CX1 P w) 6 t.Nj t.Om ["reader"] (nQ t):=by
 have GX_RowReader_one_of:Nb P w K mg base (CX1 P w) 5 t.Pc t.Nc ["self","choices"] (Az K t):=QF T
 have GX_RowReader_figures:Nb P w K mg base (CX1 P w) 5 t.nc t.lc ["self","low","high"] (kE t):=qK T
 have GX_RowReader_finish:Nb P w K mg base (CX1 P w) 5 t.Tc t.Rc ["self"] (zI t):=(FN T).mono (by decide)
 refine T.bJ.okX cy (fun vs H Q E h=>?_) (fun cdv A outer s H vs Q E hr h=>?_)
 ·obtain ⟨q,row,ws,rfl,_⟩:=h;rfl
 obtain ⟨q,row,ws,rfl,R,hrow,nt,qq⟩:=h
 refine ⟨_,(gb (bd (Td (pv 0) T.yb T.Re GX_RowReader_one_of hr T.We .nil Gf (cb (mf (cb Yb ib)) ib)))
   (gb (Pb (i:=1) cy.nd rfl (Or.inl rfl) (Td (pv 0) T.yb T.kc GX_RowReader_figures hr T.jc .nil Gf (cb Ab (cb (Uh rfl T.e253 T.hJ) ib))))
   (gb (bd (oe (pv 0) T.yb T.bg GX_RowReader_finish hr T.Yf .nil Gf))
   (qb (Rb (pv 1)))))),?_⟩
 obtain ⟨_,dx,ta,e1,e2⟩:=id R
 (walk_at "RD")
 refine ⟨_,_,e1,cg.no _ _ _ (by decide +kernel),by decide,fun p hp=>?_⟩
 have s0:Ac H (upd H p (.lst [V.str (Str.ofString "round")])):=pb hp
 refine ⟨q,row,ws,0,p,[Str.ofString "round"],rfl,R.same s0,hrow,Nat.zero_le _,SqL.of fb,fun hin=>fun H1 s1 n1 R1=>?_,fun hnin=>?_⟩
 ·obtain ⟨_,dx1,ta1,f1,f2⟩:=id R1
  have nt1:=n1 nt.upd
  have x1:kd q H H1:=(kd.of s0).trans s1
  have l1:1 ≤ ws.length:=BS (k:=0) (by rw [List.mem_singleton.mp hin];decide +kernel)
  unfold Uz at qq
  rw [if_pos hin] at qq
  (walk_at "RD")
  refine ⟨_,_,f1,cg.no _ _ _ (by decide +kernel),⟨q,row,ws,1,1,240,rfl,R1,hrow,l1,nt1,fun v hv=>fun H2 s2 n2 R2=>?_,fun hv=>?_⟩⟩
  ·obtain ⟨_,dx2,ta2,g1,g2⟩:=id R2
   rw [pF hv] at qq
   have qq:Oc (if 2 < ws.length then Except.error 2 else Except.ok v) (fun n=>VZ q H (Q (.int n))) (fun k=>bC t row k q H E):=qq
   (walk_at "RD")
   refine ⟨_,_,g1,cg.no _ _ _ (by decide +kernel),⟨q,row,ws,2,rfl,R2,hrow,fun hl=>?_,fun hl=>?_⟩⟩
   ·rw [if_neg hl] at qq
    (walk_at "RD")
    exact qq H2 (x1.trans s2) (n2 nt1)
   ·rw [if_pos hl] at qq
    exact (show bC t row 2 q H E from qq).step (x1.trans s2) fun _=>n2 nt1
  ·rw [Iz hv] at qq
   exact (show bC t row 1 q H E from qq).step x1 fun _=>nt1
 ·unfold Uz at qq
  rw [if_neg hnin] at qq
  exact (show bC t row 0 q H E from qq).step (kd.of s0) fun n=>n.upd
theorem VV (T:Txt w K mg t):Nb P w K mg base (CX1 P w) 6 t.Mj t.Ym ["reader","crossing","size","spans"] (gQ t):=by
 have GX_RowReader_one_of:Nb P w K mg base (CX1 P w) 5 t.Pc t.Nc ["self","choices"] (Az K t):=QF T
 have GX_RowReader_figures:Nb P w K mg base (CX1 P w) 5 t.nc t.lc ["self","low","high"] (kE t):=qK T
 have GX_RowReader_finish:Nb P w K mg base (CX1 P w) 5 t.Tc t.Rc ["self"] (zI t):=(FN T).mono (by decide)
 have G_spans_of:Nb P w K mg base CX0 5 t.Bg t.kh ["spans","name"] Wv:=(bA T).mono (by decide)
 have G_Crossing_names:Nb P w K mg base CX0 5 t.qe t.re ["self"] (vv t):=(Yy T).mono (by decide)
 refine T.eI.okX yl (fun vs H Q E h=>?_) (fun cdv A outer s H vs Q E hr h=>?_)
 ·obtain ⟨q,row,ws,c,n,ds,z,p,sp,rfl,_⟩:=h;rfl
 obtain ⟨q,row,ws,c,n,ds,z,p,sp,rfl,R,hrow,C,hD,hz,L,hsl,nt,qq⟩:=h
 refine ⟨_,(gb (bd (Td (pv 0) T.yb T.Re GX_RowReader_one_of hr T.We .nil Gf (cb (mf (cb Yb ib)) ib)))
   (gb (Pb (i:=4) yl.nd rfl (Or.inl rfl) (Td (pv 0) T.yb T.Re GX_RowReader_one_of hr T.We .nil Gf (cb (yn rfl (Af (oe (pv 1) T.Zb T.Oe G_Crossing_names hr T.Pe .nil Ob)) (ue (sc:=db Je) rfl (by decide +kernel)) (N:=["known","spans"]) (sel:=[none,some 3]) (qf (M:=["reader","crossing","size","spans","name","begin","turns"]) (by decide +kernel)) (Blk.of (fun _ _ _ _=>(Kb (i:=0) (vj (N:=["known","spans"]) (by decide +kernel) rfl) rfl (Or.inl rfl))) (fun _ _ _ _=>⟨_,(YE (fc lE (pe Qc rfl T.e311 Vd (cb (Fb G_spans_of hr rfl T.dm T.qm T.Gm .nil Ob (cb (pv 1) (cb (pv 0) ib))) ib)) (Uh rfl T.e202 T.nH) (Bc _))),by first | rfl | (dsimp only [Cx.block];done) | (dsimp only [Cx.block];exact rfl)⟩) (fun _ _ _ _=>⟨_,(pv 0),by first | rfl | (dsimp only [Cx.block];done) | (dsimp only [Cx.block];exact rfl)⟩))) ib)))
   (gb (Pb (i:=5) yl.nd rfl (Or.inl rfl) (Td (pv 0) T.yb T.kc GX_RowReader_figures hr T.jc .nil Gf (cb Ab (cb (Yc Tn (pv 2) Ab) ib))))
   (gb (Pb (i:=6) yl.nd rfl (Or.inl rfl) (Td (pv 0) T.yb T.kc GX_RowReader_figures hr T.jc .nil Gf (cb Ab (cb (pv 2) ib))))
   (gb (bd (oe (pv 0) T.yb T.bg GX_RowReader_finish hr T.Yf .nil Gf))
   (qb (Rb (Eo (cb (pv 4) (cb (pv 5) (cb (pv 6) ib))))))))))),?_⟩
 obtain ⟨_,dx,ta,e1,e2⟩:=id R
 (walk_at "RD")
 refine ⟨_,_,e1,cg.no _ _ _ (by decide +kernel),by decide,fun p0 hp0=>?_⟩
 have s0:Ac H (upd H p0 (.lst [V.str (Str.ofString "free")])):=pb hp0
 unfold jj at qq
 refine ⟨q,row,ws,0,p0,[Str.ofString "free"],rfl,R.same s0,hrow,Nat.zero_le _,SqL.of fb,fun hin=>fun H1 s1 n1 R1=>?_,fun hnin=>?_⟩
 case refine_2=>
  rw [if_neg hnin] at qq
  exact (show bC t row 0 q H E from qq).step (kd.of s0) fun n=>n.upd
 rw [if_pos hin] at qq
 obtain ⟨_,dx1,ta1,f1,f2⟩:=id R1
 have nt1:=n1 nt.upd
 have x1:kd q H H1:=(kd.of s0).trans s1
 have l1:1 ≤ ws.length:=BS (k:=0) (by rw [List.mem_singleton.mp hin];decide +kernel)
 have C1:=C.sameR x1 R
 have L1:=L.sameR x1 R
 obtain ⟨⟨_,hdl⟩,dxc,wl,nd,g1,_,_⟩:=id C1
 (walk_at "RD")
 refine ⟨_,_,f1,cg.no _ _ _ (by decide +kernel),_,_,g1,CK _ _ _ (by decide +kernel),c,n,ds,rfl,C1,fun pn hpn=>⟨pn,rfl,⟨_,SqL.of fb⟩,?_⟩⟩
 have sn:Ac H1 (upd H1 pn (.lst (Cb (ds.map (·.name))))):=pb hpn
 have hsl':(Cb (ds.map (·.name))).length=ds.length:=by unfold Cb;simp
 refine yf.list (xs:=Cb (ds.map (·.name))) (fun i ys H'=>ys=Cb (((ds.map (·.name)).take i).filter fun x=>decide ((ofN x sp).length < 3))∧Ac (upd H1 pn (.lst (Cb (ds.map (·.name))))) H'∧NoT H') (Nat.le_trans (show _ ≤ 12 by rw [hsl'];omega) (by decide)) ⟨by rw [List.take_zero];rfl,Ac.refl _,nt1.upd⟩ ?_ ?_ ?_
 ·rintro i ys H' hi ⟨rfl,sm,_⟩
  refine ⟨SqL.of (sm _ _ fb),?_⟩
  unfold Cb
  rw [List.length_map]
  exact Nat.le_trans (List.length_filter_le ..) (by rw [List.length_take];omega)
 ·rintro i v ys H' hv ⟨rfl,sm,nt'⟩ N hN
  obtain ⟨x,hx,rfl⟩:=Fc hv
  dsimp only at hN
  rw [zi hx,List.filter_append] at hN
  (walk_at "RD")
  refine ⟨Sub.name,p,x,sp,rfl,(L1.same sn).same sm,hsl,fun r H2 s2 n2 ⟨qs,m1,m2⟩=>⟨r,rfl,_,.inl (SqL.of m1),?_⟩⟩
  have hml:qs.length=(ofN x sp).length:=by rw [m2.1,List.length_map]
  rw [List.length_map,hml]
  by_cases c0:(ofN x sp).length < 3
  ·rw [if_pos (decide_eq_true (by omega))]
   refine hN _ _ ⟨?_,sm.trans s2,n2 nt'⟩
   rw [List.filter_cons_of_pos (by simpa using c0)]
   unfold Cb
   rw [List.map_append];rfl
  ·rw [if_neg (by rw [decide_eq_true_eq];omega)]
   refine hN _ _ ⟨?_,sm.trans s2,n2 nt'⟩
   rw [List.filter_cons_of_neg (by simpa using c0),List.filter_nil,List.append_nil]
 rintro ys H2 ⟨rfl,sm2,nt2⟩ pk hpk
 rw [hsl',List.take_of_length_le (by rw [List.length_map];exact Nat.le_refl _)]
 rw [show (ds.map (·.name)).filter (fun x=>decide ((ofN x sp).length < 3))=ve ds sp from rfl]
 have sk:Ac H1 (upd H2 pk (.lst (Cb (ve ds sp)))):=(sn.trans sm2).trans (pb hpk)
 have ntk:NoT (upd H2 pk (.lst (Cb (ve ds sp)))):=nt2.upd
 have hk:upd H2 pk (.lst (Cb (ve ds sp))) pk=some (.lst (Cb (ve ds sp))):=fb
 generalize upd H2 pk (.lst (Cb (ve ds sp)))=H3 at sk ntk hk ⊢
 have R3:=R1.same sk
 have x3:kd q H H3:=x1.trans (kd.of sk)
 (walk_at "RD")
 refine ⟨q,row,ws,1,pk,ve ds sp,rfl,R3,hrow,l1,SqL.of hk,fun hin1=>fun H4 s4 n4 R4=>?_,fun hnin=>?_⟩
 case refine_2=>
  rw [if_neg hnin] at qq
  exact (show bC t row 1 q H E from qq).step x3 fun _=>ntk
 rw [if_pos hin1] at qq
 have nt4:=n4 ntk
 have x4:kd q H H4:=x3.trans s4
 obtain ⟨_,dx4,ta4,i1,i2⟩:=id R4
 have l2:2 ≤ ws.length:=BS (k:=1) (by
  obtain ⟨d,hd,e⟩:=List.mem_map.mp (List.mem_filter.mp hin1).1
  rw [← e];exact hD d hd)
 (walk_at "RD")
 refine ⟨_,_,i1,cg.no _ _ _ (by decide +kernel),⟨q,row,ws,2,0,z - 1,rfl,R4,hrow,l2,nt4,fun b hb=>fun H5 s5 n5 R5=>?_,fun hb=>?_⟩⟩
 case refine_2=>
  rw [Iz hb] at qq
  exact (show bC t row 2 q H E from qq).step x4 fun _=>nt4
 rw [pF hb] at qq
 replace qq:Oc ((Am (wd ws 3) 1 z).elim (.error 3) fun n=>if 4 < ws.length then .error 4 else .ok ⟨wd ws 1,b,n⟩) (fun d:SD=>∀ x H',kd q H H'→NoT H'→H' x=some (sdO d)→H x=none→Q (.ref x) H') (fun k=>bC t row k q H E):=qq
 have l3:=(jE hb).1
 have nt5:=n5 nt4
 have x5:kd q H H5:=x4.trans s5
 obtain ⟨_,dx5,ta5,j1,j2⟩:=id R5
 (walk_at "RD")
 refine ⟨_,_,j1,cg.no _ _ _ (by decide +kernel),⟨q,row,ws,3,1,z,rfl,R5,hrow,l3,nt5,fun m hm=>fun H6 s6 n6 R6=>?_,fun hm=>?_⟩⟩
 case refine_2=>
  rw [Iz hm] at qq
  exact (show bC t row 3 q H E from qq).step x5 fun _=>nt5
 rw [pF hm] at qq
 replace qq:Oc (if 4 < ws.length then .error 4 else .ok (⟨wd ws 1,b,m⟩:SD)) (fun d:SD=>∀ x H',kd q H H'→NoT H'→H' x=some (sdO d)→H x=none→Q (.ref x) H') (fun k=>bC t row k q H E):=qq
 have nt6:=n6 nt5
 have x6:kd q H H6:=x5.trans s6
 obtain ⟨_,dx6,ta6,k1,k2⟩:=id R6
 (walk_at "RD")
 refine ⟨_,_,k1,cg.no _ _ _ (by decide +kernel),⟨q,row,ws,4,rfl,R6,hrow,fun hl=>?_,fun hl=>?_⟩⟩
 ·rw [if_neg hl] at qq
  (walk_at "RD")
  refine ⟨by decide,fun x hx=>?_⟩
  have hHx:H x=none:=by
   cases e:H x with
   | none=>rfl
   | some u=>
    by_cases hxq:x=q
    ·subst hxq;rw [k1] at hx;cases hx
    ·rw [x6 _ _ hxq e] at hx;cases hx
  exact qq x _ (x6.trans (kd.of (pb hx))) nt6.upd fb hHx
 ·rw [if_pos hl] at qq
  exact (show bC t row 4 q H E from qq).step x6 fun _=>nt6
theorem pS (T:Txt w K mg t):Nb P w K mg base (CX1 P w) 8 t.Zj t.cn ["crossing","text"] (GK t):=by
 have G_readers:Nb P w K mg base CX0 7 t.Zl t.Fo ["text"] (Zv t):=(ED T).mono (by decide)
 have GX_read_size:Nb P w K mg base (CX1 P w) 7 t.Nj t.Om ["reader"] (nQ t):=(BV T).mono (by decide)
 have GX_read_span:Nb P w K mg base (CX1 P w) 7 t.Mj t.Ym ["reader","crossing","size","spans"] (gQ t):=(VV T).mono (by decide)
 have GX_made_plan:Nb P w K mg base (CX1 P w) 7 t.Ak t.Mm ["crossing","size","rows"] (KK t):=(fR T).mono (by decide)
 refine T.EJ.okX Ci (fun vs H Q E h=>?_) (fun cdv A outer s H vs Q E hr h=>?_)
 ·obtain ⟨c,n,ds,x,r0,rest,rfl,_⟩:=h;rfl
 obtain ⟨c,n,ds,x,r0,rest,rfl,C,hn,hD,hne,hrow,hxl,hrl,hall,nt,qq⟩:=h
 refine ⟨_,(gb (Pb (i:=2) Ci.nd rfl (Or.inl rfl) (Fb G_readers hr rfl T.HH T.IG T.FH .nil Ob (cb (pv 1) ib)))
   (gb (Pb (i:=3) Ci.nd rfl (Or.inl rfl) (Fb GX_read_size hr rfl T.vI T.ZI T.lI .nil Gf (cb (Xg ke (pv 2) Ab (fun _ _=>rfl)) ib)))
   (gb (Pb (i:=4) Ci.nd rfl (Or.inl rfl) (mf ib))
   (gb (Mg (dg ⟨rfl,rfl⟩) rfl (Af (En Ts (pv 2) (Ft Ab) qt)) (Kb (i:=5) Ci.nd rfl (Or.inl rfl)) (qb (bd (sH PySem.F.plainAttrs_list PySem.F.slot_list_append PySem.F.type_list_append Eu (pv 4) (cb (Fb GX_read_span hr rfl T.tI T.AI T.KJ .nil Gf (cb (pv 5) (cb (pv 0) (cb (pv 3) (cb (pv 4) ib))))) ib)))))
   (qb (Rb (Fb GX_made_plan hr rfl T.DI T.GJ T.BI .nil Gf (cb (pv 0) (cb (pv 3) (cb (pv 4) ib)))))))))),?_⟩
 have toC:∀ {i k:Nat} {q:Addr} {H1:Hp},GZ t i k H E→Ac H H1→H q=none→NoT H1→bC t i k q H1 E:=fun {i k q H1} r s n m dx H' s' n' e=>r dx H' (sf s s' n) (n' m) e
 (walk_at "RD")
 refine ⟨x,rfl,hxl,?_,nt,fun p H1 sm1 nt1 R=>?_⟩
 ·rw [hrow]
  exact fun r hr=>(hall r hr).2
 rw [hrow] at R
 obtain ⟨qs,hp,hp0,hql,hqa⟩:=R
 obtain ⟨q0,qr,rfl⟩:∃ q0 qr,qs=q0 :: qr:=by
  cases qs with
  | nil=>simp at hql
  | cons a b=>exact ⟨a,b,rfl⟩
 have hqrl:qr.length=rest.length:=by simpa using hql
 obtain ⟨R0,hq0⟩:=hqa 0 q0 _ rfl rfl
 (walk_at "RD")
 refine ⟨_,SqL.of hp,_,Me (j:=0) rfl,⟨q0,_,r0,rfl,R0,by omega,nt1,?_⟩⟩
 unfold Dy at qq
 cases er:Uz r0 with
 | error k=>
  rw [er] at qq
  exact toC qq sm1 hq0 nt1
 | ok z=>
 rw [er] at qq
 have hzz:=eS er
 obtain ⟨zn,rfl⟩:∃ zn:Nat,z=(zn:Int):=⟨z.toNat,by omega⟩
 intro H2 s2 nt2
 (walk_at "RD")
 refine ⟨Nat.zero_le _,fun wl hwl=>?_⟩
 obtain ⟨C0,dq0,fq0,hins⟩:=R0.ins
 have hpq:p ≠ q0:=Fg hp hins (by intro z;cases z)
 have hp2:H2 p=some (.lst ((q0 :: qr).map V.ref)):=s2 _ _ hpq hp
 have swl:Ac H2 (upd H2 wl (.lst [])):=pb hwl
 have hcut:cI ((q0 :: qr).map V.ref) (some 1) none=qr.map V.ref:=by
  unfold cI
  simp [HT.sIx]
  exact List.take_of_length_le (by rw [List.length_map];exact Nat.le_refl _)
 refine ⟨_,SqL.of (swl _ _ hp2),fun pc hpc=>?_⟩
 rw [hcut]
 have hpw:pc ≠ wl:=fun z=>by subst z;rw [fb] at hpc;cases hpc
 have spc:Ac (upd H2 wl (.lst [])) (upd (upd H2 wl (.lst [])) pc (.lst (qr.map V.ref))):=pb hpc
 refine ⟨⟨_,SqL.of fb⟩,?_⟩
 have sH2:Ac H H2:=sf sm1 s2 hq0
 replace qq:Oc2 (match Zi zn ds rest 1 [] with | .error e=>.error e | .ok sp=>.ok ((zn:Int),sp)) (fun m:Int × List SD=>wI t c n ds m.1.toNat m.2 H Q E) (fun i k=>GZ t i k H E):=qq
 generalize hW0:Zi zn ds rest 1 []=W0 at qq
 refine yq.list (xs:=qr.map V.ref) (fun i σ H'=>(∃ y,σ=[some (V.ref c),some (V.str x),some (V.ref p),some (V.int zn),some (V.ref wl),y])∧NoT H'∧Ac H H'∧H' pc=some (.lst (qr.map V.ref))∧H wl=none ∧
  (∃ sp,LO H' wl (List.map sdO sp)∧sp.length ≤ i∧SpG zn ds sp∧Zi zn ds (rest.drop i) (i + 1) sp=W0) ∧
  ∀ (j:Nat) (q:Addr) (r:List Str),i ≤ j→qr[j]? = some q→rest[j]? = some r→cg t H' q ((j + 1:Nat):Int) r 0∧H q=none) ?_ ?_ ?_ ?_
 ·refine ⟨⟨_,rfl⟩,(nt2.upd).upd,(sH2.trans swl).trans spc,fb,sH2.free hwl,⟨[],⟨[],spc _ _ fb,LQ.nil _⟩,Nat.le_refl _,(fun s hs=>by simp at hs),hW0⟩,fun j q r _ h1 h2=>?_⟩
  obtain ⟨Rj,hqj⟩:=hqa (j + 1) q r (by rw [List.getElem?_cons_succ];exact h1) (by rw [List.getElem?_cons_succ];exact h2)
  exact ⟨((Rj.sameX s2 (mS Rj R0 (by omega)) R0.ins).same swl).same spc,hqj⟩
 ·rintro i σ H' hi ⟨_,_,_,h,_⟩
  exact SqL.of h
 ·rintro i v σ H' hv ⟨⟨y,rfl⟩,nt',sm',hpc',hwl0,⟨sp,L,hsl,hG,hwp⟩,Rs⟩
  obtain ⟨q,hq,rfl⟩:=Fc hv
  obtain ⟨hi,_⟩:=List.getElem?_eq_some_iff.mp hq
  have hid:i < rest.length:=by omega
  have hr:rest[i]? = some rest[i]:=List.getElem?_eq_getElem hid
  obtain ⟨Rq,hqn⟩:=Rs i q _ (Nat.le_refl _) hq hr
  obtain ⟨os,w1,w2⟩:=id L
  obtain ⟨_,dq,tq,hqi,hqt⟩:=id Rq
  have hosl:os.length=sp.length:=by rw [w2.1,List.length_map]
  rw [List.drop_eq_getElem_cons hid] at hwp
  unfold Zi at hwp
  (walk_at "RD")
  refine ⟨.inl ⟨_,SqL.of w1⟩,?_⟩
  refine ⟨q,_,rest[i],c,n,ds,zn,wl,sp,rfl,Rq,by omega,C.same sm',hne,hzz,L,by omega,nt',?_⟩
  cases ew:jj zn (ve ds sp) rest[i] with
  | error k=>
   rw [ew] at hwp
   replace hwp:Except.error (i + 1,k)=W0:=hwp
   subst hwp
   exact toC qq sm' hqn nt'
  | ok d=>
   rw [ew] at hwp
   replace hwp:Zi zn ds (rest.drop (i + 1)) (i + 1 + 1) (sp ++ [d])=W0:=hwp
   intro y' H3 s3 nt3 w3 hy3
   (walk_at "RD")
   have hwq:wl ≠ q:=Fg w1 hqi (by intro z;cases z)
   have hw3:H3 wl=some (.lst (os.map V.ref)):=s3 _ _ hwq w1
   have hsm3:Ac H H3:=sf sm' s3 hqn
   refine ⟨_,hw3,Nat.lt_of_le_of_lt (show (os.map V.ref).length ≤ 100 by rw [List.length_map];omega) (by decide),?_⟩
   have hyw:y' ≠ wl:=fun z=>by
    subst z
    rw [w1] at hy3;cases hy3
   have L3:=L.sameR s3 Rq
   refine ⟨⟨_,rfl⟩,nt3.upd,fun b u e=>?_,?_,hwl0,⟨sp ++ [d],⟨os ++ [y'],by rw [fb,List.map_append];rfl,?_⟩,by rw [List.length_append];show _ + 1 ≤ _;omega,fun s hs=>?_,hwp⟩,fun j q' r hj h1 h2=>?_⟩
   ·rw [rb (zb e hwl0)];exact hsm3 _ _ e
   ·rw [rb hpw]
    exact s3 _ _ (Fg hpc' hqi (by intro z;cases z)) hpc'
   ·rw [List.map_append]
    refine LQ.app ⟨w2.1,fun j b o hb ho=>?_⟩ (LQ.one (by rw [rb hyw];exact w3))
    have e:=w2.2 j b o hb ho
    obtain ⟨s,_,rfl⟩:=Fc ho
    rw [rb (Fg e w1 (by intro z;cases z))]
    exact s3 _ _ (Fg e hqi (by intro z;cases z)) e
   ·rcases List.mem_append.mp hs with hs | hs
    ·exact hG s hs
    ·rw [List.mem_singleton.mp hs]
     have:=PQ ew
     exact ⟨(List.mem_filter.mp this.1).1,this.2⟩
   ·obtain ⟨Rj,hqj⟩:=Rs j q' r (by omega) h1 h2
    have R3:=Rj.sameX s3 (mS Rj Rq (by omega)) Rq.ins
    refine ⟨?_,hqj⟩
    obtain ⟨hz,dx',ta,e1,e2⟩:=R3
    refine ⟨hz,dx',ta,by rw [rb (Fg e1 hw3 (by intro z;cases z))];exact e1,?_⟩
    rw [rb (fun z=>by
     subst z
     rw [hw3] at e2
     have e5:=Option.some.inj e2
     injection e5 with e6
     have hr0:=(hall r (List.mem_cons_of_mem _ (List.mem_of_getElem? h2))).1
     cases os with
     | nil=>
      cases r with
      | nil=>exact hr0 rfl
      | cons u v=>cases e6
     | cons a r'=>
      cases r with
      | nil=>cases e6
      | cons u v=>injection e6 with e7 _;cases e7)]
    exact e2
 ·rintro σ H' ⟨⟨y,rfl⟩,nt',sm',hpc',hwl0,⟨sp,L,hsl,hG,hwp⟩,Rs⟩
  rw [List.length_map,hqrl,List.drop_length] at hwp
  replace hwp:Except.ok sp=W0:=hwp
  subst hwp
  replace qq:wI t c n ds (zn:Int).toNat sp H Q E:=qq
  rw [Int.toNat_natCast] at qq
  (walk_at "RD")
  exact ⟨c,n,ds,zn,wl,sp,rfl,C.same sm',hn,hD,by omega,L,hG.ok (by rw [List.length_map] at hsl;omega) (by omega),hG.wOf,nt',qq.step sm' nt'⟩
end
end My
namespace My
open PySem L2
abbrev S (x:String):Str:=Str.ofString x
def wf (x:Str):Prop:=x.length ≤ 20∧(32:Nat) ∉ x.cps.toList∧(10:Nat) ∉ x.cps.toList
theorem Ws.b {x:Str} (h:Ws x):wf x:=⟨Nat.le_trans h.1 (by decide),h.2⟩
theorem iM {rs:List (List Str)} (h0:rs ≠ []) (h1:∀ r ∈ rs,r ≠ []) (h2:∀ r ∈ rs,∀ x ∈ r,wf x):Xj (Str.join nl (rs.map (Str.join bk)))=rs:=by
 unfold Xj
 rw [VW,bX,lr (by simpa using h0) (fun y hy=>by
  obtain ⟨r,hr,rfl⟩:=List.mem_map.mp hy
  rw [sF]
  intro z
  rcases uQ z with z | ⟨p,hp,z⟩
  ·cases z
  ·obtain ⟨x,hx,rfl⟩:=List.mem_map.mp hp
   exact (h2 r hr x hx).2.2 z),List.map_map]
 have:∀ r ∈ rs,((fun r=>Txt.split r ⟨#[32]⟩) ∘ Str.join ⟨#[32]⟩) r=r:=fun r hr=>lr (h1 r hr) fun x hx=>(h2 r hr x hx).2.1
 rw [List.map_congr_left this,List.map_id']
theorem sr {v lo hi:Int} (h0:0 ≤ v) (h1:v < 1000) (hl:lo ≤ v) (hh:v ≤ hi):Am (num v) lo hi=some v:=pF (jt h0 h1 hl hh)
def wA:WD:=⟨0,S "aa",0,1,0,0,1⟩
def wB:WD:=⟨2,S "ab",0,2,0,0,1⟩
def ds2:List WD:=[wA,wB]
def Jc (s:SD):List Str:=[S "free",s.name,num s.b,num s.n]
def Ld (z:Int) (sp:List SD):List (List Str):=[S "round",num z] :: sp.map Jc
def spK (z:Int) (x:Str) (m:Nat) (c:Int) (f:Nat→Int):List SD:=(List.range m).map fun (i:Nat)=>⟨x,((i:Int) * (z / m) + c) % z,f i⟩
structure PK (z:Int) (m:Nat) (f:Nat→Int):Prop where
 m1:1 ≤ m
 m3:m ≤ 3
 f:∀ i,i < m→1 ≤ f i∧f i ≤ z / m - 4
structure P13 (z:Int) (sp:List SD):Prop where
 hz:40 ≤ z∧z ≤ 240
 hsp:∃ m0 m1 c f0 f1,PK z m0 f0∧PK z m1 f1∧(0 ≤ c∧c < z)∧sp=spK z (S "aa") m0 c f0 ++ spK z (S "ab") m1 c f1
theorem XZ {z q c:Int} {m j k:Nat} (hm:m ≤ 3) (hq:(m:Int) * q ≤ z) (hq1:1 ≤ q) (hj:j < m) (hk:k < m) (hjk:j ≠ k):q ≤ (((j:Int) * q + c) % z - ((k:Int) * q + c) % z) % z:=by
 rw [← Int.sub_emod]
 have hz:0 < z:=by
  have:m=2∨m=3:=by omega
  rcases this with rfl | rfl <;> omega
 have pos:∀ v:Int,0 ≤ v→v < z→v % z=v:=fun v h0 h1=>Int.emod_eq_of_lt h0 h1
 have neg:∀ v:Int,-z ≤ v→v < 0→v % z=v + z:=fun v h0 h1=>by
  rw [← Int.add_emod_right]
  exact pos _ (by omega) (by omega)
 have hj3:j=0∨j=1∨j=2:=by omega
 have hk3:k=0∨k=1∨k=2:=by omega
 have hm3:m=2∨m=3:=by omega
 rcases hm3 with rfl | rfl <;> rcases hj3 with rfl | rfl | rfl <;> rcases hk3 with rfl | rfl | rfl
 all_goals first
  | omega
  | (rw [pos _ (by omega) (by omega)];omega)
  | (rw [neg _ (by omega) (by omega)];omega)
theorem FF (z:Int) (x:Str) (m:Nat) (c:Int) (f:Nat→Int):(spK z x m c f).length=m:=by unfold spK;simp
theorem yO {z:Int} {x:Str} {m:Nat} {c:Int} {f:Nat→Int} {i:Nat} {d:SD} (h:(spK z x m c f)[i]? = some d):i < m∧d=⟨x,((i:Int) * (z / m) + c) % z,f i⟩:=by
 unfold spK at h
 rw [List.getElem?_map] at h
 by_cases c:i < m
 ·rw [List.getElem?_range c] at h
  exact ⟨c,(Option.some.inj h).symm⟩
 ·rw [List.getElem?_eq_none (by rw [List.length_range];omega)] at h
  cases h
theorem gZ {z:Int} (hz:40 ≤ z∧z ≤ 240) {m:Nat} (h1:1 ≤ m) (h3:m ≤ 3):(m:Int) * (z / m) ≤ z∧13 ≤ z / m∧z / m ≤ z:=by
 have:m=1∨m=2∨m=3:=by omega
 rcases this with rfl | rfl | rfl
 ·refine ⟨?_,?_,?_⟩ <;> omega
 ·refine ⟨?_,?_,?_⟩ <;> omega
 ·refine ⟨?_,?_,?_⟩ <;> omega
theorem P13.at {z:Int} {sp:List SD} (h:P13 z sp) {i:Nat} {d:SD} (hd:sp[i]? = some d):∃ (x:Str) (m:Nat) (c:Int) (f:Nat→Int) (o:Nat),PK z m f∧(0 ≤ c∧c < z)∧(x=S "aa" ∨ x=S "ab")∧o ≤ i∧i - o < m∧d=⟨x,(((i - o:Nat):Int) * (z / m) + c) % z,f (i - o)⟩∧∀ (j:Nat) (e:SD),sp[j]? = some e→e.name=x→o ≤ j∧j - o < m∧e=⟨x,(((j - o:Nat):Int) * (z / m) + c) % z,f (j - o)⟩:=by
 obtain ⟨m0,m1,c,f0,f1,k0,k1,hc,rfl⟩:=h.hsp
 have cl:∀ (j:Nat) (e:SD),(spK z (S "aa") m0 c f0 ++ spK z (S "ab") m1 c f1)[j]? = some e→(j < m0∧e=⟨S "aa",(((j:Nat):Int) * (z / m0) + c) % z,f0 j⟩)∨(m0 ≤ j∧j - m0 < m1∧e=⟨S "ab",(((j - m0:Nat):Int) * (z / m1) + c) % z,f1 (j - m0)⟩):=fun j e he=>by
  rw [List.getElem?_append,FF] at he
  by_cases hj:j < m0
  ·rw [if_pos hj] at he
   exact .inl ⟨hj,(yO he).2⟩
  ·rw [if_neg hj] at he
   exact .inr ⟨by omega,(yO he).1,(yO he).2⟩
 have ne:S "aa" ≠ S "ab" := by decide +kernel
 rcases cl i d hd with ⟨h1,h2⟩ | ⟨h1,h2,h3⟩
 ·refine ⟨S "aa",m0,c,f0,0,k0,hc,.inl rfl,Nat.zero_le _,h1,h2,fun j e he hn=>?_⟩
  rcases cl j e he with ⟨g1,g2⟩ | ⟨g1,g2,g3⟩
  ·exact ⟨Nat.zero_le _,g1,g2⟩
  ·rw [g3] at hn
   exact absurd hn.symm ne
 ·refine ⟨S "ab",m1,c,f1,m0,k1,hc,.inr rfl,h1,h2,h3,fun j e he hn=>?_⟩
  rcases cl j e he with ⟨g1,g2⟩ | ⟨g1,g2,g3⟩
  ·rw [g2] at hn
   exact absurd hn ne
  ·exact ⟨g1,g2,g3⟩
theorem P13.len {z:Int} {sp:List SD} (h:P13 z sp):2 ≤ sp.length∧sp.length ≤ 6:=by
 obtain ⟨m0,m1,c,f0,f1,k0,k1,hc,rfl⟩:=h.hsp
 have:=k0.m1;have:=k0.m3;have:=k1.m1;have:=k1.m3
 rw [List.length_append,FF,FF]
 omega
theorem P13.num {z:Int} {sp:List SD} (h:P13 z sp) {d:SD} (hd:d ∈ sp):(d.name=S "aa" ∨ d.name=S "ab")∧0 ≤ d.b∧d.b < z∧1 ≤ d.n∧d.n ≤ z:=by
 obtain ⟨i,hi⟩:=List.getElem?_of_mem hd
 have hz:=h.hz
 obtain ⟨x,m,c,f,o,k,hc,hx,ho,him,rfl,_⟩:=h.at hi
 have q:=gZ hz k.m1 k.m3
 have f1:=k.f _ him
 refine ⟨hx,Int.emod_nonneg _ (by omega),Int.emod_lt_of_pos _ (by omega),f1.1,?_⟩
 show f (i - o) ≤ z
 omega
theorem EK {x:Str} {sp:List SD} {d:SD} (hd:d ∈ sp) (hn:d.name=x):(ofN x sp).isEmpty=false:=by
 have:(d.b,d.n) ∈ ofN x sp:=by
  unfold ofN
  exact List.mem_map.mpr ⟨d,List.mem_filter.mpr ⟨hd,by simpa using hn⟩,rfl⟩
 cases h:ofN x sp with
 | nil=>rw [h] at this;cases this
 | cons a b=>rfl
theorem P13.never {z:Int} {sp:List SD} (h:P13 z sp):qp ds2 sp=none:=by
 obtain ⟨m0,m1,c,f0,f1,k0,k1,hc,rfl⟩:=h.hsp
 have g0:(⟨S "aa",((((0:Nat):Int)) * (z / m0) + c) % z,f0 0⟩:SD) ∈ spK z (S "aa") m0 c f0:=List.mem_map.mpr ⟨0,List.mem_range.mpr (by have:=k0.m1;omega),rfl⟩
 have g1:(⟨S "ab",((((0:Nat):Int)) * (z / m1) + c) % z,f1 0⟩:SD) ∈ spK z (S "ab") m1 c f1:=List.mem_map.mpr ⟨0,List.mem_range.mpr (by have:=k1.m1;omega),rfl⟩
 unfold qp
 rw [List.find?_eq_none]
 intro x hx
 have hx:x=S "aa" ∨ x=S "ab" := by simpa [ds2,wA,wB] using hx
 rcases hx with rfl | rfl
 ·rw [EK (List.mem_append_left _ g0) rfl];decide
 ·rw [EK (List.mem_append_right _ g1) rfl];decide
theorem o0:wOf ds2 (S "aa")=some wA∧wOf ds2 (S "ab")=some wB:=by
 refine ⟨rfl,?_⟩
 unfold wOf ds2
 rw [List.find?_cons_of_neg (by decide +kernel),List.find?_cons_of_pos (by decide +kernel)]
theorem P13.next {z:Int} {sp:List SD} (h:P13 z sp) {k:Nat} {d:SD} (hd:sp[k]? = some d):d.n + 3 ≤ GI z sp k d:=by
 have hz:=h.hz
 obtain ⟨x,m,c,f,o,pk,hc,hx,ho,him,e,al⟩:=h.at hd
 have q:=gZ hz pk.m1 pk.m3
 have f1:=pk.f _ him
 have hdn:d.n + 3 ≤ z / m:=by rw [e];show f (k - o) + 3 ≤ _;omega
 unfold GI
 cases hm:((ofN d.name (sp.eraseIdx k)).map fun p=>(p.1 - d.b) % z).min? with
 | none=>show d.n + 3 ≤ z;omega
 | some v=>
  show d.n + 3 ≤ v
  have hv:=List.min?_mem hm
  obtain ⟨p,hp,rfl⟩:=List.mem_map.mp hv
  obtain ⟨d',hd',hn',rfl⟩:=ZH hp
  obtain ⟨j,hjk,hj⟩:=List.mem_eraseIdx_iff_getElem?.mp hd'
  have hdx:d.name=x:=by rw [e]
  obtain ⟨oj,hjm,ej⟩:=al j d' hj (by rw [hn',hdx])
  refine Int.le_trans hdn ?_
  have:=XZ (z:=z) (q:=z / m) (c:=c) (m:=m) (j:=j - o) (k:=k - o) pk.m3 q.1 (by omega) hjm him (by omega)
  rw [ej,e]
  exact this
theorem P13.short {z:Int} {sp:List SD} (h:P13 z sp):Vq ds2 z sp=none:=by
 unfold Vq
 rw [List.find?_eq_none]
 rintro ⟨d,k⟩ hk
 have hk:sp[k]? = some d:=List.mem_zipIdx_iff_getElem?.mp hk
 have nx:=h.next hk
 have nm:=h.num (List.mem_of_getElem? hk)
 have hw:∃ w,wOf ds2 d.name=some w∧w.least=1∧Oi w + tf w=3:=by
  rcases nm.1 with e | e
  ·rw [e];exact ⟨wA,o0.1,rfl,rfl⟩
  ·rw [e];exact ⟨wB,o0.2,rfl,rfl⟩
 obtain ⟨w,hw1,hw2,hw3⟩:=hw
 show ¬ qz ds2 z sp k d=true
 unfold qz
 rw [hw1]
 show ¬ (decide (d.n < w.least) || decide (GI z sp k d < d.n + Oi w + tf w))=true
 rw [decide_eq_false (by omega),decide_eq_false (by omega)]
 decide
theorem P13.clash (z:Nat) (sp:List SD):jv 4 z sp ds2=none:=by
 have c2:∀ d1 ∈ ds2,∀ d2 ∈ ds2,Rx 4 z sp d1 d2=none:=fun d1 h1 d2 h2=>by
  unfold Rx
  rw [if_neg]
  rintro ⟨hn,hm⟩
  have h1:d1=wA∨d1=wB:=by simpa [ds2] using h1
  have h2:d2=wA∨d2=wB:=by simpa [ds2] using h2
  rcases h1 with rfl | rfl <;> rcases h2 with rfl | rfl
  ·exact hn rfl
  ·exact absurd hm (by decide +kernel)
  ·exact absurd hm (by decide +kernel)
  ·exact hn rfl
 unfold jv
 rw [List.findSome?_eq_none_iff]
 intro d1 h1
 unfold HD
 rw [List.findSome?_eq_none_iff]
 intro d2 h2
 rw [c2 d1 h1 d2 h2];rfl
theorem oE {sp:List SD} {x:Str} (hx:x=S "aa" ∨ x=S "ab") (h:(ofN x sp).length < 3):x ∈ ve ds2 sp:=by
 unfold ve
 refine List.mem_filter.mpr ⟨?_,by simpa using h⟩
 rcases hx with rfl | rfl <;> simp [ds2,wA,wB]
theorem KM {sp:List SD} {x:Str} (h:x ∈ ve ds2 sp):x=S "aa" ∨ x=S "ab" := by
 unfold ve at h
 have:=(List.mem_filter.mp h).1
 simpa [ds2,wA,wB] using this
def lB (z:Int) (sp:List SD):Prop:=∀ (i:Nat) (d:SD),sp[i]? = some d→d.name ∈ ve ds2 (sp.take i)∧0 ≤ d.b∧d.b < z∧1 ≤ d.n∧d.n ≤ z
theorem WO {z:Int} (hz:z ≤ 240) {known:List Str} {d:SD} (hn:d.name ∈ known) (h:0 ≤ d.b∧d.b < z∧1 ≤ d.n∧d.n ≤ z):jj z known (Jc d)=.ok d:=by
 unfold jj
 rw [if_pos (show wd (Jc d) 0 ∈ [Str.ofString "free"] from by show S "free" ∈ [S "free"];simp),if_pos (show wd (Jc d) 1 ∈ known from hn)]
 rw [show wd (Jc d) 2=num d.b from rfl,sr (by omega) (by omega) (by omega) (by omega),show wd (Jc d) 3=num d.n from rfl,sr (by omega) (by omega) (by omega) (by omega)]
 rfl
theorem IP {z:Int} {ds:List WD} {ws:List Str} {r:List (List Str)} {i:Nat} {sp:List SD} {d:SD} (h:jj z (ve ds sp) ws=.ok d):Zi z ds (ws :: r) i sp=Zi z ds r (i + 1) (sp ++ [d]):=by
 show (match jj z (ve ds sp) ws with | .error k=>Except.error (i,k) | .ok d=>Zi z ds r (i + 1) (sp ++ [d]))=_
 rw [h]
theorem bN {z:Int} {ds:List WD} {ws:List Str} {r:List (List Str)} {i k:Nat} {sp:List SD} (h:jj z (ve ds sp) ws=.error k):Zi z ds (ws :: r) i sp=.error (i,k):=by
 show (match jj z (ve ds sp) ws with | .error k=>Except.error (i,k) | .ok d=>Zi z ds r (i + 1) (sp ++ [d]))=_
 rw [h]
theorem bG {z:Int} (hz:z ≤ 240) {sp:List SD} (h:lB z sp) (tail:List (List Str)):∀ (n i:Nat),sp.length - i=n→i ≤ sp.length→Zi z ds2 ((sp.drop i).map Jc ++ tail) (i + 1) (sp.take i)=Zi z ds2 tail (sp.length + 1) sp
 | 0,i,hn,hi=>by
  have:i=sp.length:=by omega
  subst this
  rw [List.drop_length,List.take_length];rfl
 | n + 1,i,hn,hi=>by
  have hi':i < sp.length:=by omega
  have hd:sp[i]? = some sp[i]:=List.getElem?_eq_getElem hi'
  have g:=h i _ hd
  rw [List.drop_eq_getElem_cons hi',List.map_cons,List.cons_append]
  rw [IP (WO hz g.1 g.2)]
  have:=bG hz h tail n (i + 1) (by omega) hi'
  rw [zi hd] at this
  exact this
theorem xN {z:Int} (hz:1 ≤ z∧z ≤ 240):Uz [S "round",num z]=.ok z:=by
 unfold Uz
 rw [if_pos (show wd [S "round",num z] 0 ∈ [Str.ofString "round"] from by show S "round" ∈ [S "round"];simp),show wd [S "round",num z] 1=num z from rfl,sr (by omega) (by omega) (by omega) (by omega)]
 rfl
theorem LK {z:Int} (hz:1 ≤ z∧z ≤ 240) {sp:List SD} (h:lB z sp) (tail:List (List Str)):Dy ds2 [S "round",num z] (sp.map Jc ++ tail)=match Zi z ds2 tail (sp.length + 1) sp with | .error e=>.error e | .ok sp=>.ok (z,sp):=by
 unfold Dy
 rw [xN hz]
 have:=bG hz.2 h tail sp.length 0 rfl (Nat.zero_le _)
 rw [List.drop_zero,List.take_zero] at this
 show (match Zi z ds2 (sp.map Jc ++ tail) 1 [] with | .error e=>Except.error e | .ok sp=>Except.ok (z,sp))=_
 rw [this]
theorem SN {z:Int} (hz:1 ≤ z∧z ≤ 240) {sp:List SD} (h:lB z sp):Dy ds2 [S "round",num z] (sp.map Jc)=.ok (z,sp):=by
 have:=LK hz h []
 rw [List.append_nil] at this
 rw [this];rfl
theorem YL {z:Int} (hz:1 ≤ z∧z ≤ 240) {sp:List SD} (h:lB z sp) {ws:List Str} {k:Nat} (hw:jj z (ve ds2 sp) ws=.error k) (tail:List (List Str)):Dy ds2 [S "round",num z] (sp.map Jc ++ ws :: tail)=.error (sp.length + 1,k):=by
 rw [LK hz h]
 rw [bN hw]
theorem lB.take {z:Int} {sp:List SD} (h:lB z sp) (n:Nat):lB z (sp.take n):=fun i d hd=>by
 rw [List.getElem?_take] at hd
 by_cases c:i < n
 ·rw [if_pos c] at hd
  rw [List.take_take,Nat.min_eq_left (by omega)]
  exact h i d hd
 ·rw [if_neg c] at hd;cases hd
theorem YI (x:Str) (a b:List SD):ofN x (a ++ b)=ofN x a ++ ofN x b:=by
 unfold ofN;rw [List.filter_append,List.map_append]
theorem P13.good {z:Int} {sp:List SD} (h:P13 z sp):lB z sp:=fun i d hd=>by
 have nm:=h.num (List.mem_of_getElem? hd)
 refine ⟨oE nm.1 ?_,nm.2⟩
 obtain ⟨x,m,c,f,o,pk,hc,hx,ho,him,e,al⟩:=h.at hd
 have hdx:d.name=x:=by rw [e]
 have hm3:=pk.m3
 have hil:=(List.getElem?_eq_some_iff.mp hd).1
 -- the spans of this name ahead stand at o .. i - 1
 have h1:ofN d.name ((sp.take i).take o)=[]:=by
  unfold ofN
  rw [List.filter_eq_nil_iff.mpr]
  ·rfl
  intro s hs
  rw [List.take_take] at hs
  obtain ⟨j,hj⟩:=List.getElem?_of_mem hs
  rw [List.getElem?_take] at hj
  by_cases cj:j < min o i
  ·rw [if_pos cj] at hj
   intro z
   have:=(al j s hj (by rw [← hdx];simpa using z)).1
   omega
  ·rw [if_neg cj] at hj;cases hj
 have h2:ofN d.name (sp.take i)=ofN d.name ((sp.take i).drop o):=by
  conv=>lhs;rw [← List.take_append_drop o (sp.take i),YI,h1]
  rfl
 rw [h2]
 have:=LA d.name ((sp.take i).drop o)
 rw [List.length_drop,List.length_take] at this
 omega
end My
namespace My
open PySem L2
def gU (k:Nat):Str:=[S "rounds",S "241"].getD k (S "")
def uW (z:Int) (k:Nat):Str:=[S "frees",S "ac",num z,num (z + 1)].getD k (S "")
def mW (k:Nat):Str:=[S "Round",S "0"].getD k (S "")
def GT (k:Nat):Str:=[S "",S "a",S "-1",S "0"].getD k (S "")
def Flt (rows:List (List Str)) (i k:Nat):Prop:=∀ r0 rest,(r0 :: rest).take (i + 1)=rows.take (i + 1)→Dy ds2 r0 rest=.error (i,k)
def bZ (ws:List Str):Nat→Prop
 | 0=>wd ws 0 ≠ S "round"
 | 1=>Am (wd ws 1) 1 240=none
 | 2=>2 < ws.length
 | _=>False
theorem VM {z:Int} (hz:1 ≤ z∧z ≤ 240) {ws:List Str} {k:Nat} (ag:∀ j,j < k→wd ws j=wd [S "round",num z] j) (hb:bZ ws k):Uz ws=.error k:=by
 have g0:0 < k→wd ws 0 ∈ [Str.ofString "round"]:=fun h=>by rw [ag 0 h];show S "round" ∈ [S "round"];simp
 have g1:1 < k→Am (wd ws 1) 1 240=some z:=fun h=>by rw [ag 1 h];exact sr (by omega) (by omega) (by omega) (by omega)
 unfold Uz
 match k,hb with
 | 0,hb=>rw [if_neg (fun z=>hb (List.mem_singleton.mp z))]
 | 1,hb=>rw [if_pos (g0 (by decide)),show Am (wd ws 1) 1 240=none from hb];rfl
 | 2,hb=>
  rw [if_pos (g0 (by decide)),g1 (by decide)]
  show (if 2 < ws.length then Except.error 2 else Except.ok z)=_
  rw [if_pos (show 2 < ws.length from hb)]
theorem pR {z:Int} (hz:1 ≤ z∧z ≤ 240) {ws:List Str} {tl:List (List Str)} {k:Nat} (ag:∀ j,j < k→wd ws j=wd [S "round",num z] j) (hb:bZ ws k):Flt (ws :: tl) 0 k:=fun r0 rest h=>by
 have e:r0=ws:=by simpa using h
 rw [e]
 unfold Dy
 rw [VM hz ag hb]
def AW (z:Int) (known:List Str) (ws:List Str):Nat→Prop
 | 0=>wd ws 0 ≠ S "free"
 | 1=>wd ws 1 ∉ known
 | 2=>Am (wd ws 2) 0 (z - 1)=none
 | 3=>Am (wd ws 3) 1 z=none
 | 4=>4 < ws.length
 | _=>False
theorem OL {z:Int} (hz:z ≤ 240) {known:List Str} {d:SD} (hn:d.name ∈ known) (h:0 ≤ d.b∧d.b < z∧1 ≤ d.n∧d.n ≤ z) {ws:List Str} {k:Nat} (ag:∀ j,j < k→wd ws j=wd (Jc d) j) (hb:AW z known ws k):jj z known ws=.error k:=by
 have g0:0 < k→wd ws 0 ∈ [Str.ofString "free"]:=fun h=>by rw [ag 0 h];show S "free" ∈ [S "free"];simp
 have g1:1 < k→wd ws 1 ∈ known:=fun h=>by rw [ag 1 h];exact hn
 have g2:2 < k→Am (wd ws 2) 0 (z - 1)=some d.b:=fun h=>by rw [ag 2 h];exact sr (by omega) (by omega) (by omega) (by omega)
 have g3:3 < k→Am (wd ws 3) 1 z=some d.n:=fun h=>by rw [ag 3 h];exact sr (by omega) (by omega) (by omega) (by omega)
 unfold jj
 match k,hb with
 | 0,hb=>rw [if_neg (fun z=>hb (List.mem_singleton.mp z))]
 | 1,hb=>rw [if_pos (g0 (by decide)),if_neg hb]
 | 2,hb=>rw [if_pos (g0 (by decide)),if_pos (g1 (by decide)),show Am (wd ws 2) 0 (z - 1)=none from hb];rfl
 | 3,hb=>rw [if_pos (g0 (by decide)),if_pos (g1 (by decide)),g2 (by decide),show Am (wd ws 3) 1 z=none from hb];rfl
 | 4,hb=>
  rw [if_pos (g0 (by decide)),if_pos (g1 (by decide)),g2 (by decide),g3 (by decide)]
  show (if 4 < ws.length then Except.error 4 else Except.ok _)=_
  rw [if_pos (show 4 < ws.length from hb)]
theorem DK {z:Int} (hz:1 ≤ z∧z ≤ 240) {sp:List SD} (hG:lB z sp) {i k:Nat} (hi:i ≤ sp.length) {ws:List Str} {tl:List (List Str)} (hw:jj z (ve ds2 (sp.take i)) ws=.error k):Flt ((Ld z sp).take (i + 1) ++ ws :: tl) (i + 1) k:=fun r0 rest h=>by
 have hl:((Ld z sp).take (i + 1)).length=i + 1:=by
  rw [List.length_take]
  unfold Ld
  rw [List.length_cons,List.length_map];omega
 have e:=List.take_append_drop (i + 1 + 1) (r0 :: rest)
 rw [h,List.take_append,hl,List.take_of_length_le (by omega),show i + 1 + 1 - (i + 1)=1 by omega] at e
 generalize (r0 :: rest).drop (i + 1 + 1)=tail at e
 have e2:r0 :: rest=[S "round",num z] :: ((sp.take i).map Jc ++ ws :: tail):=by
  rw [← e]
  unfold Ld
  rw [List.take_succ_cons,← List.map_take,List.append_assoc];rfl
 injection e2 with e3 e4
 rw [e3,e4]
 have:=YL hz (hG.take i) hw tail
 rw [List.length_take,Nat.min_eq_left hi] at this
 exact this
def xT:List Str:=[S "x1",S "",S "1000",S "1x",S "x|"]
theorem ar {x:Str} (h:okB x=false) (lo hi:Int):Am x lo hi=none:=by
 unfold Am
 rw [h];rfl
structure MD (x:Str):Prop where
 f:okB x=false
 m:x ≠ S "aa" ∧ x ≠ S "ab"
 s:x ≠ S "free"
 r:x ≠ S "round"
theorem rB {x:Str} {sp:List SD} (h:x ≠ S "aa" ∧ x ≠ S "ab"):x ∉ ve ds2 sp:=fun z=>(KM z).elim h.1 h.2
theorem MD.at {x:Str} (h:MD x) (z:Int) (sp:List SD) {ws:List Str} {k:Nat} (hk:k < 4) (e:wd ws k=x):AW z (ve ds2 sp) ws k:=by
 match k,hk with
 | 0,_=>show wd ws 0 ≠ _;rw [e];exact h.s
 | 1,_=>show wd ws 1 ∉ _;rw [e];exact rB h.m
 | 2,_=>show Am (wd ws 2) _ _=none;rw [e];exact ar h.f _ _
 | 3,_=>show Am (wd ws 3) _ _=none;rw [e];exact ar h.f _ _
theorem MD.ring {x:Str} (h:MD x) {ws:List Str} {k:Nat} (hk:k < 2) (e:wd ws k=x):bZ ws k:=by
 match k,hk with
 | 0,_=>show wd ws 0 ≠ _;rw [e];exact h.r
 | 1,_=>show Am (wd ws 1) _ _=none;rw [e];exact ar h.f _ _
theorem BH (row:List Str) {k i:Nat} (x:Str) (h:i ≠ k):wd (row.set k x) i=wd row i:=by
 unfold wd
 rw [List.getD_eq_getElem?_getD,List.getD_eq_getElem?_getD,List.getElem?_set_ne (Ne.symm h)]
theorem Dq {row:List Str} {k:Nat} (x:Str) (h:k < row.length):wd (row.set k x) k=x:=by
 unfold wd
 rw [List.getD_eq_getElem?_getD,List.getElem?_set_self h];rfl
theorem VE (row:List Str) {k i:Nat} (h:i < k):wd (row.take k) i=wd row i:=by
 unfold wd
 rw [List.getD_eq_getElem?_getD,List.getD_eq_getElem?_getD,List.getElem?_take_of_lt h]
theorem eE (row:List Str) (k:Nat):wd (row.take k) k=S "" := by
 unfold wd
 rw [List.getD_eq_getElem?_getD,List.getElem?_eq_none (by rw [List.length_take];omega)];rfl
theorem ZJ (row l:List Str) {i:Nat} (h:i < row.length):wd (row ++ l) i=wd row i:=by
 unfold wd
 rw [List.getD_eq_getElem?_getD,List.getD_eq_getElem?_getD,List.getElem?_append_left h]
theorem ZV:∀ x ∈ xT,okB x=false∧(x ≠ S "aa" ∧ x ≠ S "ab")∧x ≠ S "free" ∧ x ≠ S "round" := by decide +kernel
theorem nJ {x:Str} (h:x ∈ xT):MD x:=let ⟨a,b,c,d⟩:=ZV x h;⟨a,b,c,d⟩
theorem ww:MD (S ""):=nJ (by decide +kernel)
theorem mV {x:Str} (h:1 ≤ x.length):okB (S "0" ++ x)=false:=by
 have e:cs (S "0" ++ x)=48 :: cs x:=by
  show (S "0" ++ x).cps.toList=_
  rw [Str.cps_append,Array.toList_append,show (S "0").cps.toList=[48] by decide +kernel];rfl
 have hl:=bE x
 unfold okB
 rw [e,List.length_cons,decide_eq_false (show ¬ (cs x).length + 1 ≤ 1 by omega)]
 simp
def Qj (way:Nat) (row:List Str) (k:Nat) (x0 xb xl x5:Str):List Str × Nat:=match way with
 | 0=>(row.set k x0,k)
 | 1=>(row.set k xb,k)
 | 2=>(row.set k xl,k)
 | 3=>(row.take k,k)
 | 4=>(row.take k ++ [S ""] ++ row.drop k,k)
 | 5=>(row ++ [x5],row.length)
 | _=>if 1 < k then (row.set k (S "0" ++ wd row k),k) else (row,k)
def wm (way:Nat) (row:List Str) (k:Nat) (x0 xb xl x5:Str):List Str × Nat:=
 if (way=6∧k < 2)∨(Qj way row k x0 xb xl x5).1=[] then ([S ""],0) else Qj way row k x0 xb xl x5
theorem PU {z:Int} (hz:40 ≤ z∧z ≤ 240) (sp:List SD) {ws:List Str} {k:Nat} (hk:k < 4) (e:wd ws k=uW z k):AW z (ve ds2 sp) ws k:=by
 have fn:∀ v lo hi:Int,0 ≤ v→v < 1000→hi < v→Am (num v) lo hi=none:=fun v lo hi h0 h1 h2=>by
  obtain ⟨a,b⟩:=Xw h0 h1
  unfold Am
  rw [a,b,decide_eq_true h2,Bool.or_true];rfl
 match k,hk with
 | 0,_=>show wd ws 0 ≠ _;rw [e];show S "frees" ≠ S "free"; decide +kernel
 | 1,_=>show wd ws 1 ∉ _;rw [e];exact rB (by show S "ac" ≠ S "aa" ∧ S "ac" ≠ S "ab"; decide +kernel)
 | 2,_=>show Am (wd ws 2) _ _=none;rw [e];exact fn z _ _ (by omega) (by omega) (by omega)
 | 3,_=>show Am (wd ws 3) _ _=none;rw [e];exact fn (z + 1) _ _ (by omega) (by omega) (by omega)
theorem bU (z:Int) (sp:List SD) {ws:List Str} {k:Nat} (hk:k < 4) (e:wd ws k=GT k):AW z (ve ds2 sp) ws k:=by
 match k,hk with
 | 0,_=>show wd ws 0 ≠ _;rw [e];show S "" ≠ S "free"; decide +kernel
 | 1,_=>show wd ws 1 ∉ _;rw [e];exact rB (by show S "a" ≠ S "aa" ∧ S "a" ≠ S "ab"; decide +kernel)
 | 2,_=>show Am (wd ws 2) _ _=none;rw [e];exact ar (by show okB (S "-1")=false;decide +kernel) _ _
 | 3,_=>
  show Am (wd ws 3) _ _=none
  rw [e]
  show Am (S "0") 1 z=none
  unfold Am
  rw [show okB (S "0")=true by decide +kernel,show val (S "0")=0 by decide +kernel]
  rfl
theorem yR (z:Int) (known:List Str) {ws:List Str} {k:Nat} (hk:k < 4) (h1:1 < k) {x:Str} (hx:1 ≤ x.length) (e:wd ws k=S "0" ++ x):AW z known ws k:=by
 have f:=mV hx
 match k,hk with
 | 2,_=>show Am (wd ws 2) _ _=none;rw [e];exact ar f _ _
 | 3,_=>show Am (wd ws 3) _ _=none;rw [e];exact ar f _ _
theorem GM {z:Int} (hz:z ≤ 240) {d:SD} (h:0 ≤ d.b∧d.b < z∧1 ≤ d.n∧d.n ≤ z) {k:Nat} (h1:1 < k) (hk:k < 4):1 ≤ (wd (Jc d) k).length:=by
 have nl:∀ v:Int,0 ≤ v→v < 1000→1 ≤ (num v).length:=fun v h0 h1=>by
  have:=(MP (Xw h0 h1).1).1.1
  rw [bE] at this
  exact this
 match k,hk with
 | 2,_=>exact nl _ (by omega) (by omega)
 | 3,_=>exact nl _ (by omega) (by omega)
theorem tL {z:Int} (hz:40 ≤ z∧z ≤ 240) {sp:List SD} {d:SD} (hn:d.name ∈ ve ds2 sp) (h:0 ≤ d.b∧d.b < z∧1 ≤ d.n∧d.n ≤ z) {way k:Nat} (hw:way < 7) (hk:k < 4) {x0 x5:Str} (h0:x0 ∈ xT) :
  jj z (ve ds2 sp) (wm way (Jc d) k x0 (uW z k) (GT k) x5).1=.error (wm way (Jc d) k x0 (uW z k) (GT k) x5).2:=by
 have hl:(Jc d).length=4:=rfl
 have fault:=fun {ws j}=>OL (ws:=ws) (k:=j) hz.2 hn h
 have none0:jj z (ve ds2 sp) [S ""]=.error 0:=fault (fun i hi=>absurd hi (by omega)) (ww.at z sp (by decide) rfl)
 unfold wm
 split
 ·exact none0
 ·rename_i hc
  have setL:∀ (x:Str),AW z (ve ds2 sp) ((Jc d).set k x) k→jj z (ve ds2 sp) ((Jc d).set k x)=.error k:=fun x hb=>fault (fun i hi=>BH _ _ (by omega)) hb
  match way,hw,hc with
  | 0,_,_=>exact setL _ ((nJ h0).at z sp hk (Dq _ (by omega)))
  | 1,_,_=>exact setL _ (PU hz sp hk (Dq _ (by omega)))
  | 2,_,_=>exact setL _ (bU z sp hk (Dq _ (by omega)))
  | 3,_,_=>exact fault (fun i hi=>VE _ hi) (ww.at z sp hk (eE _ _))
  | 4,_,_=>
   have lt:((Jc d).take k).length=k:=by rw [List.length_take];omega
   refine fault (fun i hi=>?_) (ww.at z sp hk ?_)
   ·show wd ((Jc d).take k ++ [S ""] ++ (Jc d).drop k) i=_
    have hi':i < k:=hi
    rw [List.append_assoc,ZJ _ _ (by omega),VE _ hi']
   ·show wd ((Jc d).take k ++ [S ""] ++ (Jc d).drop k) k=_
    unfold wd
    rw [List.getD_eq_getElem?_getD,List.append_assoc,List.getElem?_append_right (by omega),lt,Nat.sub_self];rfl
  | 5,_,_=>
   refine fault (fun i hi=>ZJ _ _ hi) ?_
   show 4 < (Jc d ++ [x5]).length
   rw [List.length_append,hl,List.length_singleton];decide
  | 6,_,hc=>
   have h1:1 < k:=by
    refine Classical.byContradiction fun z=>hc (.inl ⟨rfl,by omega⟩)
   show jj z (ve ds2 sp) (if 1 < k then ((Jc d).set k (S "0" ++ wd (Jc d) k),k) else (Jc d,k)).1=.error (if 1 < k then ((Jc d).set k (S "0" ++ wd (Jc d) k),k) else (Jc d,k)).2
   rw [if_pos h1]
   exact setL _ (yR z _ hk h1 (GM hz.2 h h1 hk) (Dq _ (by omega)))
theorem QL {z:Int} (hz:40 ≤ z∧z ≤ 240) {way k:Nat} (hw:way < 7) (hk:k < 2) {x0 x5:Str} (h0:x0 ∈ xT) {tl:List (List Str)} :
  Flt ((wm way [S "round",num z] k x0 (gU k) (mW k) x5).1 :: tl) 0 (wm way [S "round",num z] k x0 (gU k) (mW k) x5).2:=by
 have fault:=fun {ws j}=>pR (z:=z) ⟨by omega,hz.2⟩ (ws:=ws) (tl:=tl) (k:=j)
 unfold wm
 split
 ·exact fault (fun i hi=>absurd hi (by omega)) (ww.ring (by decide) rfl)
 ·rename_i hc
  have setL:∀ (x:Str),bZ ([S "round",num z].set k x) k→Flt ([S "round",num z].set k x :: tl) 0 k:=fun x hb=>fault (fun i hi=>BH _ _ (by omega)) hb
  have hl:[S "round",num z].length=2:=rfl
  match way,hw,hc with
  | 0,_,_=>exact setL _ ((nJ h0).ring hk (Dq _ (by omega)))
  | 1,_,_=>
   refine setL _ ?_
   match k,hk with
   | 0,_=>show S "rounds" ≠ S "round"; decide +kernel
   | 1,_=>show Am (S "241") 1 240=none;decide +kernel
  | 2,_,_=>
   refine setL _ ?_
   match k,hk with
   | 0,_=>show S "Round" ≠ S "round"; decide +kernel
   | 1,_=>show Am (S "0") 1 240=none;decide +kernel
  | 3,_,_=>exact fault (fun i hi=>VE _ hi) (ww.ring hk (eE _ _))
  | 4,_,_=>
   have lt:([S "round",num z].take k).length=k:=by rw [List.length_take];omega
   refine fault (fun i hi=>?_) (ww.ring hk ?_)
   ·show wd ([S "round",num z].take k ++ [S ""] ++ [S "round",num z].drop k) i=_
    have hi':i < k:=hi
    rw [List.append_assoc,ZJ _ _ (by omega),VE _ hi']
   ·show wd ([S "round",num z].take k ++ [S ""] ++ [S "round",num z].drop k) k=_
    unfold wd
    rw [List.getD_eq_getElem?_getD,List.append_assoc,List.getElem?_append_right (by omega),lt,Nat.sub_self];rfl
  | 5,_,_=>
   refine fault (fun i hi=>ZJ _ _ hi) ?_
   show 2 < ([S "round",num z] ++ [x5]).length
   rw [List.length_append,hl,List.length_singleton];decide
  | 6,_,hc=>exact absurd (Or.inl ⟨rfl,hk⟩) hc
end My
namespace My
open PySem L2
def RL (H:Hp) (p:Addr) (rows:List (List Str)):Prop:=∃ qs:List Addr,H p=some (.lst (qs.map V.ref))∧qs.length=rows.length∧∀ (i:Nat) (q:Addr) (r:List Str),qs[i]? = some q→rows[i]? = some r→H q=some (.lst (Cb r))
theorem RL.same {H H':Hp} {p:Addr} {rows:List (List Str)} (h:RL H p rows) (s:Ac H H'):RL H' p rows:=by
 obtain ⟨qs,e1,e2,al⟩:=h
 exact ⟨qs,s _ _ e1,e2,fun i q r h1 h2=>s _ _ (al i q r h1 h2)⟩
structure ROk (rows:List (List Str)):Prop where
 ln:rows.length ≤ 20
 al:∀ r ∈ rows,r ≠ []∧r.length ≤ 9∧∀ x ∈ r,wf x
theorem oQ {B:Nat}:∀ {ys:List Str},(∀ y ∈ ys,y.length ≤ B)→(ys.map (·.length)).sum ≤ ys.length * B
 | [],_=>by simp
 | a :: r,h=>by
  have h1:=h a (by simp)
  have h2:=oQ (B:=B) (ys:=r) fun y hy=>h y (List.mem_cons_of_mem _ hy)
  rw [List.map_cons,List.sum_cons,List.length_cons,Nat.succ_mul];omega
theorem CW:DOk ds2:=fun d hd=>by
 have hd:d=wA∨d=wB:=by simpa [ds2] using hd
 rcases hd with rfl | rfl
 ·exact ⟨⟨by decide +kernel,by decide +kernel⟩,by decide,by decide⟩
 ·exact ⟨⟨by decide +kernel,by decide +kernel⟩,by decide,by decide⟩
theorem gX:∀ d ∈ ds2,d.name ≠ Str.ofString "" := fun d hd=>by
 have hd:d=wA∨d=wB:=by simpa [ds2] using hd
 rcases hd with rfl | rfl <;> decide +kernel
def a0 {α:Type} (m:Except (Nat × Nat) α):Int × Int:=match m with | .ok _=>(-2,-2) | .error e=>(e.1,e.2)
def gK (t:Adr):Sp:=fun vs H Q _=>∃ c p r0 rest,vs=[.ref c,.ref p]∧Gd t H c 4 ds2∧RL H p (r0 :: rest)∧ROk (r0 :: rest)∧NoT H∧(∀ m,Dy ds2 r0 rest=.ok m→P13 m.1 m.2)∧∀ tp H',Ac H H'→NoT H'→H' tp=some (.tup [.int (a0 (Dy ds2 r0 rest)).1,.int (a0 (Dy ds2 r0 rest)).2])→Q (.ref tp) H'
section
variable {P:Program} {w:World} {K:PySem.W.Frag} {mg:Str→Option Value} {base:Heap} {t:Adr}
theorem TQ (T:Txt w K mg t):Nb P w K mg base CX0 9 t.Hi t.Kk ["_law_crossing","_law_rows_here"] (gK t):=by
 have GX_read_plan:Nb P w K mg base (CX1 P w) 8 t.Zj t.cn ["crossing","text"] (GK t):=pS T
 refine T.nG.ok Bh (fun vs H Q E h=>?_) (fun cdv A outer s H vs Q E hr h=>?_)
 ·obtain ⟨c,p,r0,rest,rfl,_⟩:=h;rfl
 obtain ⟨c,p,r0,rest,rfl,C,L,hR,nt,hP,q⟩:=h
 refine ⟨_,(gb (Pb (i:=2) Bh.nd rfl (Or.inl rfl) (Eo (cb (fH Gx Ab) (cb (fH Gx Ab) ib))))
   (gb (RU (i:=3) (fun _ _=>⟨_,(gb (bd (XQ GX_read_plan hr rfl T.mJ T.zJ T.xI .nil DU (cb (pv 0) (cb (sH PySem.F.plainAttrs_str PySem.F.slot_str_join PySem.F.type_str_join NN Yb (cb (yn rfl (Af (pv 1)) (ue (sc:=db me) rfl (by decide +kernel)) (N:=["_law_row"]) (sel:=[none]) (qf (M:=["_law_crossing","_law_rows_here","_law_told","e"]) (by decide +kernel)) (Blk.of (fun _ _ _ _=>(Kb (i:=0) (vj (N:=["_law_row"]) (by decide +kernel) rfl) rfl (Or.inl rfl))) (fun _ _ _ _=>⟨_,Mi,by first | rfl | (dsimp only [Cx.block];done) | (dsimp only [Cx.block];exact rfl)⟩) (fun _ _ _ _=>⟨_,(sH PySem.F.plainAttrs_str PySem.F.slot_str_join PySem.F.type_str_join NN Yb (cb (pv 0) ib)),by first | rfl | (dsimp only [Cx.block];done) | (dsimp only [Cx.block];exact rfl)⟩))) ib)) ib))))
   (qb (Pb (i:=2) Bh.nd rfl (Or.inl rfl) (Eo (cb (fH Gx Ab) (cb (fH Gx Ab) ib)))))),by first | rfl | (dsimp only [Cx.tr,Cx.hn];done) | (dsimp only [Cx.tr,Cx.hn];exact rfl)⟩) rfl T.wj (fun _=>⟨_,(qb (Xf (vp (pe cN rfl T.e79 Ph (cb (pv 3) (cb (Uh (v:=.ref t.Lb) rfl T.IK rfl) ib)))) (qb (Pb (i:=2) Bh.nd rfl (Or.inl rfl) (Eo (cb (HP (pv 3) rfl) (cb (HP (pv 3) rfl) ib))))) zc)),by first | rfl | (dsimp only [Cx.tr,Cx.hn];done) | (dsimp only [Cx.tr,Cx.hn];exact rfl)⟩) Bh.nd rfl rfl)
   (qb (Rb (pv 2))))),?_⟩
 (walk_at "RD")
 refine ⟨by decide,fun p0 hp0=>?_⟩
 have s0:Ac H (upd H p0 (.tup [.int (-1),.int (-1)])):=pb hp0
 have n0:NoT (upd H p0 (.tup [.int (-1),.int (-1)])):=nt.upd
 generalize upd H p0 (.tup [.int (-1),.int (-1)])=H1 at s0 n0 ⊢
 obtain ⟨qs,l1,l2,al⟩:=L.same s0
 refine ⟨⟨_,SqL.of l1⟩,?_⟩
 have hln:=hR.ln
 have hjl:∀ r ∈ r0 :: rest,(Str.join bk r).length ≤ 200:=fun r hr=>by
  have h1:=vA bk 20 r fun x hx=>((hR.al r hr).2.2 x hx).1
  rw [dL] at h1
  have:=(hR.al r hr).2.1
  omega
 refine yf.list_zs (xs:=qs.map V.ref) (zs:=Cb (Str.join bk r0 :: rest.map (Str.join bk))) (SqL.of l1) (Nat.le_trans (show (qs.map V.ref).length ≤ 20 by rw [List.length_map,l2];exact hln) (by decide)) (by rw [Fd,List.length_cons,List.length_map,List.length_map,l2,List.length_cons]) (fun i v z N hv hz hN=>?_) (fun pc hpc=>?_)
 ·obtain ⟨q',hq',rfl⟩:=Fc hv
  obtain ⟨y,hy,rfl⟩:=Fc hz
  obtain ⟨r,hr,rfl⟩:=Fc (f:=Str.join bk) (l:=r0 :: rest) hy
  have hrm:=List.mem_of_getElem? hr
  have hsum:(r.map (·.length)).sum ≤ r.length * 20:=oQ fun x hx=>((hR.al r hrm).2.2 x hx).1
  have hrl:=(hR.al r hrm).2.1
  (walk_at "RD")
  refine ⟨Sub.name,_,SqL.of (al i q' r hq' hr),?_,?_⟩
  ·rw [show (Str.ofString " ").length=1 by decide +kernel]
   omega
  ·rw [show Txt.join (Str.ofString " ") r=Str.join bk r from StrLaws.glued_eq_join _ _]
   exact hN
 ·(walk_at "RD")
  have s1:Ac H1 (upd H1 pc (.lst (Cb (Str.join bk r0 :: rest.map (Str.join bk))))):=pb hpc
  have n1:NoT (upd H1 pc (.lst (Cb (Str.join bk r0 :: rest.map (Str.join bk))))):=n0.upd
  have e1:(upd H1 pc (.lst (Cb (Str.join bk r0 :: rest.map (Str.join bk))))) pc=some (.lst (Cb (Str.join bk r0 :: rest.map (Str.join bk)))):=fb
  generalize upd H1 pc (.lst (Cb (Str.join bk r0 :: rest.map (Str.join bk))))=H2 at s1 n1 e1 ⊢
  have hys:∀ y ∈ Str.join bk r0 :: rest.map (Str.join bk),y.length ≤ 200:=fun y hy=>by
   obtain ⟨r,hr,rfl⟩:=List.mem_map.mp (show y ∈ (r0 :: rest).map (Str.join bk) from hy)
   exact hjl r hr
  have hyl:(Str.join bk r0 :: rest.map (Str.join bk)).length ≤ 20:=by rw [List.length_cons,List.length_map];simpa using hln
  have hsum:=oQ hys
  have hjt:(Str.join nl (Str.join bk r0 :: rest.map (Str.join bk))).length ≤ 20000:=by
   have:=vA nl 200 _ hys
   rw [NG] at this
   omega
  refine ⟨_,SqL.of e1,?_,?_⟩
  ·rw [show (Str.ofString "\n").length=1 by decide +kernel]
   omega
  rw [show Txt.join (Str.ofString "\n") (Str.join bk r0 :: rest.map (Str.join bk))=Str.join nl ((r0 :: rest).map (Str.join bk)) from StrLaws.glued_eq_join _ _]
  refine ⟨c,4,ds2,_,r0,rest,rfl,C.same (s0.trans s1),by decide,CW,gX,iM (by simp) (fun r hr=>(hR.al r hr).1) (fun r hr=>(hR.al r hr).2.2),hjt,by rw [List.length_cons] at hln;omega,fun r hr=>⟨(hR.al r hr).1,Nat.le_trans (hR.al r hr).2.1 (by decide),fun y hy=>Nat.le_trans ((hR.al r hr).2.2 y hy).1 (by decide)⟩,n1,?_⟩
  cases hc:Dy ds2 r0 rest with
  | ok m=>
   have g:=hP m hc
   have hz0:=g.hz
   have hzm:((m.1.toNat:Nat):Int)=m.1:=by omega
   have e1:=g.never
   have e2:Vq ds2 (m.1.toNat:Nat) m.2=none:=by rw [hzm];exact g.short
   have e3:=P13.clash m.1.toNat m.2
   refine ⟨fun _ _ _ a H3 s3 n3 PA=>?_,(fun x h=>by rw [e1] at h;cases h),(fun e _ h=>by rw [e2] at h;cases h),(fun e _ _ h=>by rw [e3] at h;cases h)⟩
   refine ⟨by decide,fun tp htp=>?_⟩
   rw [hc] at q
   exact q tp _ (((s0.trans s1).trans s3).trans (pb htp)) n3.upd fb
  | error e=>
   obtain ⟨i,k⟩:=e
   rw [hc] at q
   intro dx H3 s3 n3 hd
   (walk_at "RD")
   refine ⟨_,rfl,T.e21,fun ex hex=>?_⟩
   (walk_at "RD")
   refine Cc true (fun Q hQ=>?_) (fun _=>?_) (fun hc=>nomatch hc)
   ·(walk_at "RD")
    exact ⟨_,hex,hQ⟩
   ·(walk_at "RD")
    refine ⟨_,_,hex,_,hd,T.Zq,T.e95,_,af [Str.ofString "row",Str.ofString "word"] 0 rfl (by decide +kernel) rfl,_,_,hex,_,hd,T.Zq,T.e55,_,af [Str.ofString "row",Str.ofString "word"] 1 rfl (by decide +kernel) rfl,by decide,fun tp htp=>?_⟩
    exact q tp _ (((s0.trans s1).trans s3).trans (pb htp)) n3.upd fb
end
end My
namespace My
open PySem L2
theorem fL {v:Int} (h0:0 ≤ v) (h1:v < 1000):intText? (num v)=some v:=by
 obtain ⟨a,b⟩:=Xw h0 h1
 have h:=MP a
 have h3:=EF h0 (by omega)
 rw [intText_digits (Iv h.2) (fun z=>by have z':cs (num v)=[]:=z;have:=h.1;rw [z'] at this;simp at this) (by have:=bE (num v);have:=h.1.2;omega)]
 exact congrArg some b
theorem Sq {l:List Str} {k:Nat} (h:k < l.length):atI (Cb l) ((k:Nat):Int)=some (.str (l.getD k (S ""))):=by
 refine Me ?_
 unfold Cb
 rw [List.getElem?_map,List.getD_eq_getElem?_getD,List.getElem?_eq_getElem h];rfl
theorem RL.at {H:Hp} {p:Addr} {rows:List (List Str)} (L:RL H p rows) {i:Nat} {r:List Str} (h:rows[i]? = some r):∃ (qs:List Addr) (q:Addr),H p=some (.lst (qs.map V.ref))∧atI (qs.map V.ref) ((i:Nat):Int)=some (V.ref q)∧H q=some (.lst (Cb r))∧qs.length=rows.length∧qs[i]? = some q:=by
 obtain ⟨qs,l1,l2,al⟩:=L
 have hi:i < qs.length:=by rw [l2];exact (List.getElem?_eq_some_iff.mp h).1
 have hq:qs[i]? = some qs[i]:=List.getElem?_eq_getElem hi
 exact ⟨qs,qs[i],l1,Me (by rw [List.getElem?_map,hq];rfl),al i _ r hq h,l2,hq⟩
theorem RL.snoc {H H1:Hp} {wl p:Addr} {rows:List (List Str)} {r:List Str} {qs:List Addr} (L:RL H wl rows) (s:Ac H H1) (e:H1 p=some (.lst (Cb r))) (n:p ≠ wl) (l:H wl=some (.lst (qs.map V.ref))):RL (upd H1 wl (.lst (qs.map V.ref ++ [.ref p]))) wl (rows ++ [r]):=by
 obtain ⟨qs',l1,l2,al⟩:=L
 have eq:qs'=qs:=by
  rw [l1] at l
  have h:=Option.some.inj l
  injection h with h
  exact (List.map_inj_right (fun a b z=>by injection z)).mp h
 subst eq
 refine ⟨qs' ++ [p],by rw [fb,List.map_append];rfl,by rw [List.length_append,List.length_append,l2];rfl,fun i q r' h1 h2=>?_⟩
 rcases jw h1 with ⟨z1,z2⟩ | ⟨z1,rfl⟩
 ·rcases jw h2 with ⟨_,y2⟩ | ⟨y1,_⟩
  ·have hq:=al i q r' z2 y2
   have hqw:q ≠ wl:=fun z=>by
    subst z
    rw [l1] at hq
    have h:=Option.some.inj hq
    injection h with h
    cases qs' with
    | nil=>simp at z2
    | cons a b=>
     cases r' with
     | nil=>cases h
     | cons c d=>injection h with h3 _;cases h3
   rw [rb hqw]
   exact s _ _ hq
  ·omega
 ·rcases jw h2 with ⟨y1,_⟩ | ⟨_,rfl⟩
  ·omega
  ·rw [rb n];exact e
def nmK:Nat→Str
 | 0=>S "aa"
 | _=>S "ab"
def mK (ns:List Int) (k:Nat):Nat:=(1 + ss ns (2 + (k:Int)) 3).toNat
def fK (ns:List Int) (z:Int) (k i:Nat):Int:=1 + ss ns (10 + 3 * (k:Int) + (i:Int)) (z / (mK ns k:Nat) - 4)
def KS (z:Int) (x:Str) (m:Nat) (c:Int) (f:Nat→Int) (i:Nat):List SD:=(List.range i).map fun (j:Nat)=>⟨x,((j:Int) * (z / m) + c) % z,f j⟩
theorem FP (z:Int) (x:Str) (m:Nat) (c:Int) (f:Nat→Int) (i:Nat):KS z x m c f (i + 1)=KS z x m c f i ++ [⟨x,((i:Int) * (z / m) + c) % z,f i⟩]:=by
 unfold KS;rw [List.range_succ,List.map_append];rfl
def spA (ns:List Int) (z:Int) (c:Int):Nat→List SD
 | 0=>[]
 | k + 1=>spA ns z c k ++ KS z (nmK k) (mK ns k) c (fK ns z k) (mK ns k)
theorem PM (z:Int) (sp:List SD) (d:SD):Ld z (sp ++ [d])=Ld z sp ++ [Jc d]:=by
 unfold Ld
 rw [List.map_append,List.cons_append];rfl
theorem OU (ns:List Int) (k:Nat):1 ≤ mK ns k∧mK ns k ≤ 3∧((mK ns k:Nat):Int)=1 + ss ns (2 + (k:Int)) 3:=by
 have h1:=wk ns (2 + (k:Int)) (m:=3) (by decide)
 have h2:=nk ns (2 + (k:Int)) (m:=3) (by decide)
 unfold mK
 refine ⟨?_,?_,?_⟩ <;> omega
theorem hV (ns:List Int) {z:Int} (hz:40 ≤ z∧z ≤ 240) (k:Nat):PK z (mK ns k) (fK ns z k):=by
 have hm:=OU ns k
 have q:=gZ hz hm.1 hm.2.1
 refine ⟨hm.1,hm.2.1,fun i _=>?_⟩
 have h1:=wk ns (10 + 3 * (k:Int) + (i:Int)) (m:=z / (mK ns k:Nat) - 4) (by omega)
 have h2:=nk ns (10 + 3 * (k:Int) + (i:Int)) (m:=z / (mK ns k:Nat) - 4) (by omega)
 unfold fK
 omega
theorem HY (ns:List Int) {z c:Int} (hz:40 ≤ z∧z ≤ 240) (hc:0 ≤ c∧c < z):P13 z (spA ns z c 2):=
 ⟨hz,_,_,c,_,_,hV ns hz 0,hV ns hz 1,hc,rfl⟩
theorem pQ (ns:List Int) (z c:Int):∀ k,(spA ns z c k).length ≤ 3 * k
 | 0=>Nat.le_refl _
 | k + 1=>by
  have:=pQ ns z c k
  have:=OU ns k
  unfold spA KS
  rw [List.length_append,List.length_map,List.length_range]
  omega
def tK (K:PySem.W.Frag) (a:Addr) (ns:List Int):Sp:=fun vs H Q _=>vs=[.ref a]∧Sc K a ns H∧∀ p z sp H',Ac H H'→Sc K a ns H'→RL H' p (Ld z sp)→P13 z sp→Q (.ref p) H'
def JT:Sp:=fun vs H Q _=>∃ p z sp,∃ i k:Nat,vs=[.ref p,.int (i:Nat),.int (k:Nat)]∧RL H p (Ld z sp)∧(40 ≤ z∧z ≤ 240)∧NoT H∧((i=0∧k < 2)∨(0 < i∧k < 4))∧Q (.str (if i=0 then gU k else uW z k)) H
def yU:Sp:=fun vs H Q _=>∃ p z sp,∃ i k:Nat,vs=[.ref p,.int (i:Nat),.int (k:Nat)]∧RL H p (Ld z sp)∧(40 ≤ z∧z ≤ 240)∧((i=0∧k < 2)∨(0 < i∧k < 4))∧∀ H',Ac H H'→Q (.str (if i=0 then gU k else uW z k)) H'
def HS:Sp:=fun vs H Q _=>∃ p,∃ i k:Nat,vs=[.ref p,.int (i:Nat),.int (k:Nat)]∧NoT H∧((i=0∧k < 2)∨(0 < i∧k < 4))∧Q (.str (if i=0 then mW k else GT k)) H
def xV:Sp:=fun vs H Q _=>∃ p,∃ i k:Nat,vs=[.ref p,.int (i:Nat),.int (k:Nat)]∧((i=0∧k < 2)∨(0 < i∧k < 4))∧∀ H',Ac H H'→Q (.str (if i=0 then mW k else GT k)) H'
section
variable {P:Program} {w:World} {K:PySem.W.Frag} {mg:Str→Option Value} {base:Heap} {t:Adr}
theorem VY (T:Txt w K mg t):Nb P w K mg base CX0 1 t.Fh t.kj ["_law_rows_here","_law_at","_law_word"] JT:=by
 refine Nb.forget (sp:=yU) ?_ fun vs H Q E h=>?_
 ·refine T.jF.ok Gs (fun vs H Q E h=>?_) (fun cdv A outer s H vs Q E hr h=>?_)
  ·obtain ⟨p,z,sp,i,k,rfl,_⟩:=h;rfl
  obtain ⟨p,z,sp,i,k,rfl,L,hz,hk,q⟩:=h
  refine ⟨_,(gb (Pb (i:=3) Gs.nd rfl (Or.inl rfl) (Kf sA rfl T.e455 zr (cb (Xg ke (Xg ke (pv 0) Ab (fun _ _=>rfl)) Ab (fun _ _=>rfl)) ib)))
   (gb (Xf (fc Fj (pv 1) Ab (Bc _)) (qb (Rb (Xg ke (mf (cb Yb (cb Yb ib))) (pv 2) (fun _ _=>rfl)))) zc)
   (qb (Rb (Xg ke (mf (cb Yb (cb Yb (cb (Kf qg rfl T.e416 Wh (cb (pv 3) ib)) (cb (Kf qg rfl T.e416 Wh (cb (Yc xh (pv 3) Ab) ib)) ib))))) (pv 2) (fun _ _=>rfl)))))),?_⟩
  obtain ⟨qs,q0,l1,la,lq,_⟩:=L.at (i:=0) (r:=[S "round",num z]) rfl
  have hln:(num z).length ≤ 3:=EF (by omega) (by omega)
  (walk_at "RD")
  refine ⟨_,SqL.of l1,_,la,_,rfl,_,SqL.of lq,_,Me (j:=1) rfl,_,rfl,z,fL (by omega) (by omega),by omega,?_⟩
  refine Cc (decide (i=0)) (fun Q hQ=>?_) (fun c=>?_) (fun c=>?_)
  ·(walk_at "RD")
   rw [show decide (((i:Nat):Int)=0)=decide (i=0) by rw [Bool.eq_iff_iff,decide_eq_true_eq,decide_eq_true_eq];omega]
   exact hQ
  ·have c':=of_decide_eq_true c
   (walk_at "RD")
   refine ⟨by decide,fun p1 hp1=>⟨_,SqL.of fb,_,Sq (l:=[S "rounds",S "241"]) (k:=k) (by show k < 2;omega),?_⟩⟩
   simp only [if_pos c'] at q
   exact q _ (pb hp1)
  ·have c':=of_decide_eq_false c
   (walk_at "RD")
   refine ⟨Ml (by omega),Ml (by omega),by decide,fun p1 hp1=>⟨_,SqL.of fb,_,Sq (l:=[S "frees",S "ac",num z,num (z + 1)]) (k:=k) (by show k < 4;omega),?_⟩⟩
   simp only [if_neg c'] at q
   exact q _ (pb hp1)
 ·obtain ⟨p,z,sp,i,k,h1,h2,h3,nt,h4,q⟩:=h
  exact ⟨nt,p,z,sp,i,k,h1,h2,h3,h4,fun H' sm=>⟨sm,q⟩⟩
theorem eX (T:Txt w K mg t):Nb P w K mg base CX0 1 t.mm t.yr ["_law_rows_here","_law_at","_law_word"] HS:=by
 refine Nb.forget (sp:=xV) ?_ fun vs H Q E h=>?_
 ·refine T.eM.ok WI (fun vs H Q E h=>?_) (fun cdv A outer s H vs Q E hr h=>?_)
  ·obtain ⟨p,i,k,rfl,_⟩:=h;rfl
  obtain ⟨p,i,k,rfl,hk,q⟩:=h
  refine ⟨_,(gb (Xf (fc Fj (pv 1) Ab (Bc _)) (qb (Rb (Xg ke (mf (cb Yb (cb Yb ib))) (pv 2) (fun _ _=>rfl)))) zc)
   (qb (Rb (Xg ke (mf (cb Yb (cb Yb (cb Yb (cb Yb ib))))) (pv 2) (fun _ _=>rfl))))),?_⟩
  (walk_at "RD")
  refine Cc (decide (i=0)) (fun Q hQ=>?_) (fun c=>?_) (fun c=>?_)
  ·(walk_at "RD")
   rw [show decide (((i:Nat):Int)=0)=decide (i=0) by rw [Bool.eq_iff_iff,decide_eq_true_eq,decide_eq_true_eq];omega]
   exact hQ
  ·have c':=of_decide_eq_true c
   (walk_at "RD")
   refine ⟨by decide,fun p1 hp1=>⟨_,SqL.of fb,_,Sq (l:=[S "Round",S "0"]) (k:=k) (by show k < 2;omega),?_⟩⟩
   simp only [if_pos c'] at q
   exact q _ (pb hp1)
  ·have c':=of_decide_eq_false c
   (walk_at "RD")
   refine ⟨by decide,fun p1 hp1=>⟨_,SqL.of fb,_,Sq (l:=[S "",S "a",S "-1",S "0"]) (k:=k) (by show k < 4;omega),?_⟩⟩
   simp only [if_neg c'] at q
   exact q _ (pb hp1)
 ·obtain ⟨p,i,k,h1,nt,h4,q⟩:=h
  exact ⟨nt,p,i,k,h1,h4,fun H' sm=>⟨sm,q⟩⟩
theorem GQ (T:Txt w K mg t) (a:Addr) (ns:List Int) (h63:ns.length ≤ 63):Nb P w K mg base CX0 2 t.Ej t.gn ["_law_script"] (tK K a ns):=by
 have G__law_draw:Nb P w K mg base CX0 1 t.ug t.bh ["_law_script","_law_k","_law_many"] (rg K a ns):=JE T a ns h63
 refine T.yJ.ok Df (fun vs H Q E h=>?_) (fun cdv A outer s H vs Q E hr h=>?_)
 ·obtain ⟨rfl,_⟩:=h;rfl
 obtain ⟨rfl,S0,q⟩:=h
 refine ⟨_,(gb (Pb (i:=1) Df.nd rfl (Or.inl rfl) (Yc xh Ab (Fb G__law_draw hr rfl T.Ud T.Nd T.Od .nil Ob (cb (pv 0) (cb Ab (cb Ab ib))))))
   (gb (Pb (i:=2) Df.nd rfl (Or.inl rfl) (mf (cb (mf (cb Yb (cb (Kf qg rfl T.e416 Wh (cb (pv 1) ib)) ib))) ib)))
   (gb (Mg PassesOwn.never rfl (Eh rfl T.e146 (cb Ab ib)) (Kb (i:=3) Df.nd rfl (Or.inl rfl)) (gb (Pb (i:=4) Df.nd rfl (Or.inl rfl) (Yc xh Ab (Fb G__law_draw hr rfl T.Ud T.Nd T.Od .nil Ob (cb (pv 0) (cb (Yc xh Ab (pv 3)) (cb Ab ib))))))
   (qb (Mg PassesOwn.never rfl (Eh rfl T.e146 (cb (pv 4) ib)) (Kb (i:=5) Df.nd rfl (Or.inl rfl)) (gb (Pb (i:=6) Df.nd rfl (Or.inl rfl) (Yc ik (Yc xh (Yc Fx (pv 5) (Yc gJ (pv 1) (pv 4))) (Fb G__law_draw hr rfl T.Ud T.Nd T.Od .nil Ob (cb (pv 0) (cb Ab (cb (pv 1) ib))))) (pv 1)))
   (gb (Pb (i:=7) Df.nd rfl (Or.inl rfl) (Yc xh Ab (Fb G__law_draw hr rfl T.Ud T.Nd T.Od .nil Ob (cb (pv 0) (cb (Yc xh (Yc xh Ab (Yc Fx Ab (pv 3))) (pv 5)) (cb (Yc Tn (Yc gJ (pv 1) (pv 4)) Ab) ib))))))
   (qb (bd (sH PySem.F.plainAttrs_list PySem.F.slot_list_append PySem.F.type_list_append Eu (pv 2) (cb (mf (cb Yb (cb (Xg ke (mf (cb Yb (cb Yb ib))) (pv 3) (fun _ _=>rfl)) (cb (Kf qg rfl T.e416 Wh (cb (pv 6) ib)) (cb (Kf qg rfl T.e416 Wh (cb (pv 7) ib)) ib))))) ib))))))))))
   (qb (Rb (pv 2)))))),?_⟩
 have hbig:∀ k:Nat,k ≤ 1000→k ≤ sizeLine:=fun k h=>Nat.le_trans h (by decide)
 have d1:=wk ns 1 (m:=201) (by decide)
 have d2:=nk ns 1 (m:=201) (by decide)
 (walk_at "RD"; repeat (simp only [rg];walk_at "RD"))
 refine ⟨S0,by omega,by omega,by decide,Ml (by omega),by decide,fun p hp=>⟨by decide,fun wl hwl=>?_⟩⟩
 have hz:40 ≤ 40 + ss ns 1 201∧40 + ss ns 1 201 ≤ 240:=by omega
 generalize 40 + ss ns 1 201=z at hz hwl ⊢
 have s1:Ac H (upd (upd H p (.lst [V.str (Str.ofString "round"),V.str (num z)])) wl (.lst [V.ref p])):=(pb hp).trans (pb hwl)
 have S1:Sc K a ns (upd (upd H p (.lst [V.str (Str.ofString "round"),V.str (num z)])) wl (.lst [V.ref p])):=(S0.new hp).new hwl
 have hw0:H wl=none:=(pb (o:=.lst [V.str (Str.ofString "round"),V.str (num z)]) hp).free hwl
 have hpw:p ≠ wl:=fun z=>by subst z;rw [fb] at hwl;cases hwl
 have L1:RL (upd (upd H p (.lst [V.str (Str.ofString "round"),V.str (num z)])) wl (.lst [V.ref p])) wl (Ld z []):=⟨[p],fb,rfl,fun i q r h1 h2=>by
  match i,h1,h2 with
  | 0,h1,h2=>cases h1;cases h2;rw [rb hpw,fb];rfl
  | i + 1,h1,_=>simp at h1⟩
 generalize upd (upd H p (.lst [V.str (Str.ofString "round"),V.str (num z)])) wl (.lst [V.ref p])=H1 at s1 S1 L1 ⊢
 refine ⟨by decide,by decide,?_⟩
 have c1:=wk ns 4 (m:=z) (by omega)
 have c2:=nk ns 4 (m:=z) (by omega)
 generalize hcc:ss ns 4 z=c at c1 c2
 refine yq.range (fun k σ H'=>Sc K a ns H'∧Ac H H'∧RL H' wl (Ld z (spA ns z c k))∧∃ x1 x2 x3 x4 x5,σ=[some (.ref a),some (.int z),some (.ref wl),x1,x2,x3,x4,x5]) ?_ ?_ ?_
 ·exact ⟨S1,s1,L1,_,_,_,_,_,rfl⟩
 ·rintro k σ H' hk ⟨S2,s2,L,x1,x2,x3,x4,x5,rfl⟩
  have hk2:k < 2:=by simpa using hk
  have hm:=OU ns k
  have hsl:=pQ ns z c k
  have qk:=gZ hz hm.1 hm.2.1
  (walk_at "RD"; repeat (simp only [rg];walk_at "RD"))
  rw [← hm.2.2]
  refine ⟨S2,by omega,by omega,by decide,by omega,by omega,?_⟩
  refine yq.range (fun i σ H'=>Sc K a ns H'∧Ac H H'∧RL H' wl (Ld z (spA ns z c k ++ KS z (nmK k) (mK ns k) c (fK ns z k) i))∧∃ x3 x4 x5,σ=[some (.ref a),some (.int z),some (.ref wl),some (.int (k:Nat)),some (.int (mK ns k:Nat)),x3,x4,x5]) ?_ ?_ ?_
  ·exact ⟨S2,s2,by rw [show KS z (nmK k) (mK ns k) c (fK ns z k) 0=[] from rfl,List.append_nil];exact L,_,_,_,rfl⟩
  ·rintro i σ H2 hi ⟨S3,s3,L3,x3,x4,x5,rfl⟩
   have hi3:i < mK ns k:=by simpa using hi
   obtain ⟨qs,l1,l2,al⟩:=id L3
   have hfk:=(hV ns hz k).f i hi3
   have hb0:=Int.emod_nonneg ((i:Int) * (z / (mK ns k:Nat)) + c) (show z ≠ 0 by omega)
   have hb1:=Int.emod_lt_of_pos ((i:Int) * (z / (mK ns k:Nat)) + c) (show 0 < z by omega)
   have hfd:1 + ss ns (10 + 3 * (k:Int) + (i:Int)) (z / (mK ns k:Nat) - 4)=fK ns z k i:=rfl
   (walk_at "RD"; repeat (simp only [rg];walk_at "RD"))
   rw [hcc,hfd,FP,← List.append_assoc,PM]
   generalize hbb:((i:Int) * (z / (mK ns k:Nat)) + c) % z=bb at hb0 hb1 ⊢
   have hat:atI [V.str (Str.ofString "aa"),V.str (Str.ofString "ab")] (k:Int)=some (.str (nmK k)):=by
    match k,hk2 with
    | 0,_=>exact Me (j:=0) rfl
    | 1,_=>exact Me (j:=1) rfl
   have hql:(qs.map V.ref).length ≤ 20:=by
    rw [List.length_map,l2]
    unfold Ld KS
    rw [List.length_cons,List.length_map,List.length_append,List.length_map,List.length_range]
    omega
   refine ⟨⟨by omega,by omega⟩,by unfold cQ;omega,S3,by omega,by omega,by omega,by omega,by unfold cQ;omega,⟨by omega,by omega⟩,S3,by omega,by omega,by omega,.inl ⟨_,SqL.of l1⟩,by decide,fun p1 hp1=>⟨_,SqL.of fb,_,hat,Ml (by omega),Ml (by omega),by decide,fun p2 hp2=>?_⟩⟩
   have s4:=(pb (o:=.lst [V.str (Str.ofString "aa"),V.str (Str.ofString "ab")]) hp1).trans (pb (o:=.lst [V.str (Str.ofString "free"),.str (nmK k),V.str (Str.ofString (toString bb)),V.str (Str.ofString (toString (fK ns z k i)))]) hp2)
   have S4:=(S3.new (o:=.lst [V.str (Str.ofString "aa"),V.str (Str.ofString "ab")]) hp1).new (o:=.lst [V.str (Str.ofString "free"),.str (nmK k),V.str (Str.ofString (toString bb)),V.str (Str.ofString (toString (fK ns z k i)))]) hp2
   have e4:(upd (upd H2 p1 (.lst [V.str (Str.ofString "aa"),V.str (Str.ofString "ab")])) p2 (.lst [V.str (Str.ofString "free"),.str (nmK k),V.str (Str.ofString (toString bb)),V.str (Str.ofString (toString (fK ns z k i)))])) p2=some (.lst (Cb (Jc ⟨nmK k,bb,fK ns z k i⟩))):=fb
   have hpw2:p2 ≠ wl:=fun z=>by
    subst z
    rw [rb (fun z=>by subst z;rw [l1] at hp1;cases hp1),l1] at hp2
    cases hp2
   generalize upd (upd H2 p1 (.lst [V.str (Str.ofString "aa"),V.str (Str.ofString "ab")])) p2 (.lst [V.str (Str.ofString "free"),.str (nmK k),V.str (Str.ofString (toString bb)),V.str (Str.ofString (toString (fK ns z k i)))])=H4 at s4 S4 e4 ⊢
   have l4:=s4 _ _ l1
   exact ⟨_,l4,Nat.lt_of_le_of_lt hql (by decide),S4.set l4 (fun ob z e=>by cases e),(s3.trans s4).updN hw0,RL.snoc ⟨qs,l1,l2,al⟩ s4 e4 hpw2 l1,(by first | exact ⟨_,_,_,rfl⟩ | exact ⟨_,rfl⟩ | simp)⟩
  ·rintro σ H2 ⟨S3,s3,L3,x3,x4,x5,rfl⟩
   exact ⟨S3,s3,by rw [Int.toNat_natCast] at L3;exact L3,_,_,_,_,_,rfl⟩
 ·rintro σ H' ⟨S2,s2,L,x1,x2,x3,x4,x5,rfl⟩
  (walk_at "RD")
  exact q wl z (spA ns z c 2) H' s2 S2 L (HY ns hz ⟨c1,c2⟩)
end
end My
namespace My
open PySem L2
def cur (c way:Nat) (row:List Str) (k:Nat) (x0 xb xl x5:Str):List Str × Nat:=if way < c then Qj way row k x0 xb xl x5 else (row,k)
theorem Vi {c:Nat} {row:List Str} {k:Nat} {x0 xb xl x5:Str}:cur c c row k x0 xb xl x5=(row,k):=by unfold cur;rw [if_neg (by omega)]
theorem Yg {c:Nat} {row:List Str} {k:Nat} {x0 xb xl x5:Str}:cur (c + 1) c row k x0 xb xl x5=Qj c row k x0 xb xl x5:=by unfold cur;rw [if_pos (by omega)]
theorem xg {c way:Nat} {row:List Str} {k:Nat} {x0 xb xl x5:Str} (h:way ≠ c):cur (c + 1) way row k x0 xb xl x5=cur c way row k x0 xb xl x5:=by
 unfold cur
 by_cases z:way < c
 ·rw [if_pos z,if_pos (by omega)]
 ·rw [if_neg z,if_neg (by omega)]
theorem rp (l:List Str) (k:Nat) (x:Str):(Cb l).set k (.str x)=Cb (l.set k x):=by unfold Cb;rw [List.map_set]
theorem YO {m k:Nat} (h:k < m):ixN m ((k:Nat):Int)=some k:=by
 unfold ixN
 rw [if_pos (by omega),if_pos (by omega),Int.toNat_natCast]
theorem sO {xs:List V} {k:Nat} (h:k ≤ xs.length):cI xs none (some ((k:Nat):Int))=xs.take k:=by
 unfold cI
 rw [HT.sIx_nat,Nat.min_eq_left h,HT.sIx_none]
 simp
theorem kK {xs:List V} {k:Nat} (h:k ≤ xs.length):cI xs (some ((k:Nat):Int)) none=xs.drop k:=by
 unfold cI
 rw [HT.sIx_nat,Nat.min_eq_left h,HT.sIx_none]
 exact List.take_of_length_le (by rw [List.length_drop];exact Nat.le_refl _)
theorem wD (l:List Str) (k:Nat):(Cb l).take k=Cb (l.take k):=by unfold Cb;rw [List.map_take]
theorem EL (l:List Str) (k:Nat):(Cb l).drop k=Cb (l.drop k):=by unfold Cb;rw [List.map_drop]
theorem XB (l r:List Str):Cb l ++ Cb r=Cb (l ++ r):=by unfold Cb;rw [List.map_append]
theorem OE {l:List Str} {k:Nat} (h:k < l.length) (d:Str):l.getD k d ∈ l:=by
 rw [List.getD_eq_getElem?_getD,List.getElem?_eq_getElem h]
 exact List.getElem_mem h
def RQ (H:Hp) (qs:List Addr) (rows:List (List Str)):Prop:=qs.length=rows.length∧∀ (i:Nat) (q:Addr) (r:List Str),qs[i]? = some q→rows[i]? = some r→H q=some (.lst (Cb r))
theorem RQ.take {H:Hp} {qs:List Addr} {rows:List (List Str)} (h:RQ H qs rows) (k:Nat):RQ H (qs.take k) (rows.take k):=by
 refine ⟨by rw [List.length_take,List.length_take,h.1],fun i q r h1 h2=>?_⟩
 rw [List.getElem?_take] at h1 h2
 by_cases c:i < k
 ·rw [if_pos c] at h1 h2;exact h.2 i q r h1 h2
 ·rw [if_neg c] at h1;cases h1
theorem RQ.drop {H:Hp} {qs:List Addr} {rows:List (List Str)} (h:RQ H qs rows) (k:Nat):RQ H (qs.drop k) (rows.drop k):=by
 refine ⟨by rw [List.length_drop,List.length_drop,h.1],fun i q r h1 h2=>?_⟩
 rw [List.getElem?_drop] at h1 h2
 exact h.2 _ q r h1 h2
theorem RQ.app {H:Hp} {qs qs':List Addr} {rows rows':List (List Str)} (h:RQ H qs rows) (h':RQ H qs' rows'):RQ H (qs ++ qs') (rows ++ rows'):=by
 refine ⟨by rw [List.length_append,List.length_append,h.1,h'.1],fun i q r h1 h2=>?_⟩
 rw [List.getElem?_append] at h1 h2
 rw [h.1] at h1
 by_cases c:i < rows.length
 ·rw [if_pos c] at h1 h2;exact h.2 i q r h1 h2
 ·rw [if_neg c] at h1 h2;exact h'.2 _ q r h1 h2
theorem RQ.one {H:Hp} {p:Addr} {r:List Str} (e:H p=some (.lst (Cb r))):RQ H [p] [r]:=⟨rfl,fun i q r' h1 h2=>by
 match i,h1,h2 with
 | 0,h1,h2=>cases h1;cases h2;exact e
 | i + 1,h1,_=>simp at h1⟩
theorem RQ.same {H H':Hp} {qs:List Addr} {rows:List (List Str)} (h:RQ H qs rows) (s:Ac H H'):RQ H' qs rows:=⟨h.1,fun i q r h1 h2=>s _ _ (h.2 i q r h1 h2)⟩
def dt (r:List Str):Prop:=r ≠ []∧r.length ≤ 9∧∀ x ∈ r,wf x
theorem dt.e:dt [S ""]:=⟨by simp,by decide,fun x hx=>by rw [List.mem_singleton.mp hx];exact ⟨by decide +kernel,by decide +kernel,by decide +kernel⟩⟩
theorem IJ {way k:Nat} {row:List Str} {x0 xb xl x5:Str} (hw:way < 7) (hr:∀ x ∈ row,Ws x) (hl:row.length ≤ 7) (hk:k < row.length) (h0:wf x0) (hb:wf xb) (hlw:wf xl) (h5:wf x5) :
  dt (wm way row k x0 xb xl x5).1:=by
 unfold wm
 split
 ·exact dt.e
 ·rename_i hc
  refine ⟨fun z=>hc (.inr z),?_⟩
  have setG:∀ x,wf x→(row.set k x).length ≤ 9∧∀ y ∈ row.set k x,wf y:=fun x hx=>by
   refine ⟨by rw [List.length_set];omega,fun y hy=>?_⟩
   rcases List.mem_or_eq_of_mem_set hy with z | z
   ·exact (hr y z).b
   ·rw [z];exact hx
  match way,hw,hc with
  | 0,_,_=>exact setG _ h0
  | 1,_,_=>exact setG _ hb
  | 2,_,_=>exact setG _ hlw
  | 3,_,_=>exact ⟨by show (row.take k).length ≤ 9;rw [List.length_take];omega,fun y hy=>(hr y (List.mem_of_mem_take hy)).b⟩
  | 4,_,_=>
   refine ⟨?_,fun y hy=>?_⟩
   ·show (row.take k ++ [S ""] ++ row.drop k).length ≤ 9
    rw [List.length_append,List.length_append,List.length_take,List.length_drop,List.length_singleton];omega
   ·have hy':y ∈ row.take k ++ [S ""] ++ row.drop k:=hy
    rcases List.mem_append.mp hy' with z | z
    ·rcases List.mem_append.mp z with z | z
     ·exact (hr y (List.mem_of_mem_take z)).b
     ·exact dt.e.2.2 y z
    ·exact (hr y (List.mem_of_mem_drop z)).b
  | 5,_,_=>
   refine ⟨?_,fun y hy=>?_⟩
   ·show (row ++ [x5]).length ≤ 9
    rw [List.length_append,List.length_singleton];omega
   ·have hy':y ∈ row ++ [x5]:=hy
    rcases List.mem_append.mp hy' with z | z
    ·exact (hr y z).b
    ·rw [List.mem_singleton.mp z];exact h5
  | 6,_,_=>
   show (if 1 < k then (row.set k (S "0" ++ wd row k),k) else (row,k)).1.length ≤ 9∧∀ x ∈ (if 1 < k then (row.set k (S "0" ++ wd row k),k) else (row,k)).1,wf x
   split
   ·have hp:=hr _ (OE hk (S ""))
    have e0:(S "0").cps.toList=[48]:=by decide +kernel
    have e1:(S "0" ++ wd row k).cps.toList=48 :: (wd row k).cps.toList:=by rw [Str.cps_append,Array.toList_append,e0];rfl
    refine setG _ ⟨?_,?_,?_⟩
    ·rw [sI,show (S "0").length=1 by decide +kernel]
     have hp1:(wd row k).length ≤ 8:=hp.1
     omega
    ·rw [e1,List.mem_cons]
     exact fun z=>z.elim (by decide) hp.2.1
    ·rw [e1,List.mem_cons]
     exact fun z=>z.elim (by decide) hp.2.2
   ·exact ⟨by show row.length ≤ 9;omega,fun y hy=>(hr y hy).b⟩
theorem rD:∀ x ∈ xT,wf x:=by unfold wf;decide +kernel
theorem JL:∀ j,j < 3→wf ([S "1",S "",S "aa"].getD j (S "")):=by unfold wf;decide +kernel
theorem GO {zz:Int} (hn:40 ≤ zz∧zz ≤ 240) {i k:Nat} (h:(i=0∧k < 2)∨(0 < i∧k < 4)):wf (if i=0 then gU k else uW zz k):=by
 rcases h with ⟨z,hk⟩ | ⟨z,hk⟩
 ·rw [if_pos z]
  have:∀ k,k < 2→wf (gU k):=by unfold wf;decide +kernel
  exact this k hk
 ·rw [if_neg (by omega)]
  match k,hk with
  | 0,_=>show wf (S "frees");unfold wf;decide +kernel
  | 1,_=>show wf (S "ac");unfold wf;decide +kernel
  | 2,_=>exact (xf (v:=zz) (by omega) (by omega)).b
  | 3,_=>exact (xf (v:=zz + 1) (by omega) (by omega)).b
theorem HN {i k:Nat} (h:(i=0∧k < 2)∨(0 < i∧k < 4)):wf (if i=0 then mW k else GT k):=by
 have h1:∀ k,k < 2→wf (mW k):=by unfold wf;decide +kernel
 have h2:∀ k,k < 4→wf (GT k):=by unfold wf;decide +kernel
 rcases h with ⟨z,hk⟩ | ⟨z,hk⟩
 ·rw [if_pos z]
  exact h1 k hk
 ·rw [if_neg (by omega)]
  exact h2 k hk
theorem Cz {zz:Int} {sp:List SD} (D:P13 zz sp):∀ r ∈ Ld zz sp,∀ x ∈ r,Ws x:=fun r hr x hx=>by
 have hz:=D.hz
 have c:∀ y ∈ [S "round",S "free",S "aa",S "ab"],Ws y:=by unfold Ws;decide +kernel
 rcases List.mem_cons.mp hr with e | e
 ·subst e
  have:x=S "round" ∨ x=num zz:=by simpa using hx
  rcases this with rfl | rfl
  ·exact c _ (by simp)
  ·exact xf (by omega) (by omega)
 ·obtain ⟨d,hd,rfl⟩:=List.mem_map.mp e
  have g:=D.num hd
  have:x=S "free" ∨ x=d.name∨x=num d.b∨x=num d.n:=by simpa [Jc] using hx
  rcases this with rfl | rfl | rfl | rfl
  ·exact c _ (by simp)
  ·rcases g.1 with e | e <;> rw [e]
   ·exact c _ (by simp)
   ·exact c _ (by simp)
  ·exact xf (by omega) (by omega)
  ·exact xf (by omega) (by omega)
theorem jr {zz:Int} {sp:List SD} (D:P13 zz sp):∀ r ∈ Ld zz sp,dt r:=fun r hr=>by
 refine ⟨?_,?_,fun x hx=>(Cz D r hr x hx).b⟩
 all_goals
  unfold Ld at hr
  rcases List.mem_cons.mp hr with z | z
  ·rw [z];first | decide | simp
  ·obtain ⟨d,_,rfl⟩:=List.mem_map.mp z
   first | (show 4 ≤ 9;decide) | (unfold Jc;simp)
theorem QN {rows:List (List Str)} {r:List Str} {i:Nat} (h:∀ r ∈ rows,dt r) (hr:dt r) (hl:rows.length ≤ 13):ROk (rows.take i ++ [r] ++ rows.drop (i + 1)):=by
 refine ⟨?_,fun x hx=>?_⟩
 ·rw [List.length_append,List.length_append,List.length_take,List.length_drop,List.length_singleton];omega
 ·rcases List.mem_append.mp hx with z | z
  ·rcases List.mem_append.mp z with z | z
   ·exact h x (List.mem_of_mem_take z)
   ·rw [List.mem_singleton.mp z];exact hr
  ·exact h x (List.mem_of_mem_drop z)
def Ar (K:PySem.W.Frag) (a:Addr) (ns:List Int):Sp:=fun vs H Q _=>∃ p zz sp,vs=[.ref a,.ref p]∧Sc K a ns H∧RL H p (Ld zz sp)∧P13 zz sp ∧
 ∀ tp rl rows (i k:Nat) H',Ac H H'→Sc K a ns H'→H' tp=some (.tup [.ref rl,.int (i:Nat),.int (k:Nat)])→RL H' rl rows→ROk rows→rows ≠ []→Flt rows i k→Q (.ref tp) H'
section
variable {P:Program} {w:World} {K:PySem.W.Frag} {mg:Str→Option Value} {base:Heap} {t:Adr}
theorem AL (T:Txt w K mg t) (a:Addr) (ns:List Int) (h63:ns.length ≤ 63):Nb P w K mg base CX0 2 t.Og t.si ["_law_script","_law_rows_here"] (Ar K a ns):=by
 have G__law_draw:Nb P w K mg base CX0 1 t.ug t.bh ["_law_script","_law_k","_law_many"] (rg K a ns):=JE T a ns h63
 have G__law_beyond:Nb P w K mg base CX0 1 t.Fh t.kj ["_law_rows_here","_law_at","_law_word"] JT:=VY T
 have G__law_low:Nb P w K mg base CX0 1 t.mm t.yr ["_law_rows_here","_law_at","_law_word"] HS:=eX T
 refine T.iD.ok Dc (fun vs H Q E h=>?_) (fun cdv A outer s H vs Q E hr h=>?_)
 ·obtain ⟨p,zz,sp,rfl,_⟩:=h;rfl
 obtain ⟨p,zz,sp,rfl,S0,L,D,q⟩:=h
 have hn:=D.hz
 have hl:=D.len
 have hU:=hr.units
 refine ⟨_,(gb (Pb (i:=2) Dc.nd rfl (Or.inl rfl) (Fb G__law_draw hr rfl T.Ud T.Nd T.Od .nil Ob (cb (pv 0) (cb Ab (cb (pe Qc rfl T.e311 Vd (cb (pv 1) ib)) ib)))))
   (gb (Pb (i:=3) Dc.nd rfl (Or.inl rfl) (Fb G__law_draw hr rfl T.Ud T.Nd T.Od .nil Ob (cb (pv 0) (cb Ab (cb (pe Qc rfl T.e311 Vd (cb (Xg ke (pv 1) (pv 2) (fun _ _=>rfl)) ib)) ib)))))
   (gb (Pb (i:=4) Dc.nd rfl (Or.inl rfl) (Fb G__law_draw hr rfl T.Ud T.Nd T.Od .nil Ob (cb (pv 0) (cb Ab (cb Ab ib)))))
   (gb (Pb (i:=5) Dc.nd rfl (Or.inl rfl) (Kf vx rfl T.e378 ft (cb (Xg ke (pv 1) (pv 2) (fun _ _=>rfl)) ib)))
   (gb (Xf (fc Fj (pv 4) Ab (Bc _)) (qb (Lp (Xg ke (mf (cb Yb (cb Yb (cb Yb (cb Yb (cb Yb ib)))))) (Fb G__law_draw hr rfl T.Ud T.Nd T.Od .nil Ob (cb (pv 0) (cb Ab (cb Ab ib)))) (fun _ _=>rfl)) (Cv (pv 5) (pv 3) gj))) zc)
   (gb (Xf (fc Fj (pv 4) Ab (Bc _)) (qb (Lp (Fb G__law_beyond hr rfl T.EE T.gF T.LE .nil Ob (cb (pv 1) (cb (pv 2) (cb (pv 3) ib)))) (Cv (pv 5) (pv 3) gj))) zc)
   (gb (Xf (fc Fj (pv 4) Ab (Bc _)) (qb (Lp (Fb G__law_low hr rfl T.fM T.cM T.zM .nil Ob (cb (pv 1) (cb (pv 2) (cb (pv 3) ib)))) (Cv (pv 5) (pv 3) gj))) zc)
   (gb (Xf (fc Fj (pv 4) Ab (Bc _)) (qb (Pb (i:=5) Dc.nd rfl (Or.inl rfl) (En Ts (pv 5) qt (Ft (pv 3))))) zc)
   (gb (Xf (fc Fj (pv 4) Ab (Bc _)) (qb (Pb (i:=5) Dc.nd rfl (Or.inl rfl) (Yc Ez (Yc Ez (En Ts (pv 5) qt (Ft (pv 3))) (mf (cb Yb ib))) (En Ts (pv 5) (Ft (pv 3)) qt)))) zc)
   (gb (Xf (fc Fj (pv 4) Ab (Bc _)) (gb (Pb (i:=3) Dc.nd rfl (Or.inl rfl) (pe Qc rfl T.e311 Vd (cb (pv 5) ib)))
   (qb (Pb (i:=5) Dc.nd rfl (Or.inl rfl) (Yc Ez (pv 5) (mf (cb (Xg ke (mf (cb Yb (cb Yb (cb Yb ib)))) (Fb G__law_draw hr rfl T.Ud T.Nd T.Od .nil Ob (cb (pv 0) (cb Ab (cb Ab ib)))) (fun _ _=>rfl)) ib)))))) zc)
   (gb (Xf (PW.pt (AH (fc Fj (pv 4) Ab (Bc _)) (YB (fc DN (pv 3) Ab (Bc _))))) (qb (Lp (Yc gM Yb (Xg ke (pv 5) (pv 3) (fun _ _=>rfl))) (Cv (pv 5) (pv 3) gj))) zc)
   (gb (Xf (PW.pt (NM (PW.pt (AH (fc Fj (pv 4) Ab (Bc _)) (YB (fc lE (pv 3) Ab (Bc _))))) (OD (fc (DT hU) (pv 5) (mf ib) (Bc _))))) (gb (Pb (i:=5) Dc.nd rfl (Or.inl rfl) (mf (cb Yb ib)))
   (qb (Pb (i:=3) Dc.nd rfl (Or.inl rfl) Ab))) zc)
   (qb (Rb (Eo (cb (Yc Ez (Yc Ez (En Ts (pv 1) qt (Ft (pv 2))) (mf (cb (pv 5) ib))) (En Ts (pv 1) (Ft (Yc xh (pv 2) Ab)) qt)) (cb (pv 2) (cb (pv 3) ib)))))))))))))))))),?_⟩
 have hrl:(Ld zz sp).length=sp.length + 1:=by unfold Ld;rw [List.length_cons,List.length_map]
 obtain ⟨qs,l1,l2,al⟩:=id L
 have hql:(qs.map V.ref).length=sp.length + 1:=by rw [List.length_map,l2,hrl]
 have d1:=wk ns 20 (m:=((sp.length + 1:Nat):Int)) (by omega)
 have d2:=nk ns 20 (m:=((sp.length + 1:Nat):Int)) (by omega)
 obtain ⟨i,hi⟩:∃ i:Nat,ss ns 20 ((sp.length + 1:Nat):Int)=(i:Nat):=⟨(ss ns 20 ((sp.length + 1:Nat):Int)).toNat,by omega⟩
 have hil:i < sp.length + 1:=by omega
 have hrow:(Ld zz sp)[i]? = some (Ld zz sp)[i]:=List.getElem?_eq_getElem (by omega)
 obtain ⟨qs',q0,l1',la,lq,_,hq0⟩:=L.at hrow
 obtain ⟨row,hrw⟩:∃ row,row=(Ld zz sp)[i]:=⟨_,rfl⟩
 rw [← hrw] at lq hrow
 have hrlen:row.length=if i=0 then 2 else 4:=by
  subst hrw
  cases i with
  | zero=>rfl
  | succ j=>
   rw [if_neg (by omega)]
   unfold Ld
   rw [List.getElem_cons_succ,List.getElem_map];rfl
 have d3:=wk ns 21 (m:=((row.length:Nat):Int)) (by rw [hrlen];split <;> decide)
 have d4:=nk ns 21 (m:=((row.length:Nat):Int)) (by rw [hrlen];split <;> decide)
 obtain ⟨k,hk⟩:∃ k:Nat,ss ns 21 ((row.length:Nat):Int)=(k:Nat):=⟨(ss ns 21 ((row.length:Nat):Int)).toNat,by omega⟩
 have hkl:k < row.length:=by omega
 have d5:=wk ns 22 (m:=7) (by decide)
 have d6:=nk ns 22 (m:=7) (by decide)
 obtain ⟨way,hway⟩:∃ way:Nat,ss ns 22 7=(way:Nat):=⟨(ss ns 22 7).toNat,by omega⟩
 simp only [Jd]
 refine Pf (fun σ' H'=>H'=H∧σ'=[some (.ref a),some (.ref p),some (.int (i:Nat)),none,none,none]) (fun D' hD _ _ _=>?_) ?_
 ·(walk_at "RD"; repeat (simp only [rg];walk_at "RD"))
  refine ⟨_,.inl (SqL.of l1),?_⟩
  rw [hql,hi]
  exact ⟨S0,by omega,by omega,by omega,hD _ _ ⟨rfl,rfl⟩⟩
 rintro σ1 H1 ⟨rfl,rfl⟩
 simp only [Jd]
 refine Pf (fun σ' H'=>H'=H1∧σ'=[some (.ref a),some (.ref p),some (.int (i:Nat)),some (.int (k:Nat)),none,none]) (fun D' hD _ _ _=>?_) ?_
 ·(walk_at "RD"; repeat (simp only [rg];walk_at "RD"))
  refine ⟨_,SqL.of l1',_,la,_,rfl,_,.inl (SqL.of lq),?_⟩
  rw [Fd,hk]
  exact ⟨S0,by omega,by omega,by omega,hD _ _ ⟨rfl,rfl⟩⟩
 rintro σ1 H2 ⟨rfl,rfl⟩
 simp only [Jd]
 refine Pf (fun σ' H'=>H'=H2∧σ'=[some (.ref a),some (.ref p),some (.int (i:Nat)),some (.int (k:Nat)),some (.int (way:Nat)),none]) (fun D' hD _ _ _=>?_) ?_
 ·(walk_at "RD"; repeat (simp only [rg];walk_at "RD"))
  rw [hway]
  exact ⟨S0,by omega,by omega,by decide,hD _ _ ⟨rfl,rfl⟩⟩
 rintro σ1 H3 ⟨rfl,rfl⟩
 have x0:=wk ns 23 (m:=5) (by decide)
 have x0':=nk ns 23 (m:=5) (by decide)
 have x5:=wk ns 23 (m:=3) (by decide)
 have x5':=nk ns 23 (m:=3) (by decide)
 obtain ⟨j0,hj0⟩:∃ j:Nat,ss ns 23 5=(j:Nat):=⟨(ss ns 23 5).toNat,by omega⟩
 obtain ⟨j5,hj5⟩:∃ j:Nat,ss ns 23 3=(j:Nat):=⟨(ss ns 23 3).toNat,by omega⟩
 have hj0l:j0 < 5:=by omega
 have hj5l:j5 < 3:=by omega
 obtain ⟨w0,hw0⟩:∃ w0,w0=xT.getD j0 (S ""):=⟨_,rfl⟩
 obtain ⟨w5,hw5⟩:∃ w5,w5=[S "1",S "",S "aa"].getD j5 (S ""):=⟨_,rfl⟩
 obtain ⟨wb,hwb⟩:∃ wb,wb=if i=0 then gU k else uW zz k:=⟨_,rfl⟩
 obtain ⟨wl,hwl⟩:∃ wl,wl=if i=0 then mW k else GT k:=⟨_,rfl⟩
 have hik:(i=0∧k < 2)∨(0 < i∧k < 4):=by
  by_cases z:i=0
  ·exact .inl ⟨z,by rw [hrlen,if_pos z] at hkl;exact hkl⟩
  ·exact .inr ⟨by omega,by rw [hrlen,if_neg z] at hkl;exact hkl⟩
 have hpl:∀ x ∈ row,Ws x:=Cz D row (List.mem_of_getElem? hrow)
 have hbig:∀ m:Nat,m ≤ 1000→m ≤ sizeLine:=fun m h=>Nat.le_trans h (by decide)
 have hr7:row.length ≤ 7:=by rw [hrlen];split <;> decide
 let R:Nat→St→Hp→Prop:=fun c σ' H'=>Ac H3 H'∧Sc K a ns H'∧∃ pr,H3 pr=none∧H' pr=some (.lst (Cb (cur c way row k w0 wb wl w5).1)) ∧
  σ'=[some (.ref a),some (.ref p),some (.int (i:Nat)),some (.int ((cur c way row k w0 wb wl w5).2:Nat)),some (.int (way:Nat)),some (.ref pr)]
 simp only [Jd]
 refine Pf (R 0) (fun D' hD _ _ _=>?_) ?_
 ·(walk_at "RD")
  refine ⟨_,SqL.of l1',_,la,_,rfl,_,.inl (SqL.of lq),fun pr hpr=>hD _ _ ⟨pb hpr,S0.new hpr,pr,hpr,?_,?_⟩⟩
  ·rw [fb];rfl
  ·rfl
 rintro σ1 H4 ⟨s4,S4,pr,hpr0,e4,rfl⟩
 simp only [Jd]
 refine Pf (R 1) (fun D' hD _ _ _=>?_) ?_
 ·refine Cc (decide (way=0)) (fun Q hQ=>?_) (fun hc=>?_) (fun hc=>?_)
  ·(walk_at "RD")
   rw [show decide (((way:Nat):Int)=0)=decide (way=0) by rw [Bool.eq_iff_iff,decide_eq_true_eq,decide_eq_true_eq];omega]
   exact hQ
  ·have hc:=of_decide_eq_true hc
   subst hc
   rw [Vi] at e4
   rw [Vi]
   (walk_at "RD"; repeat (simp only [rg];walk_at "RD"))
   refine ⟨by decide,fun p1 hp1=>⟨S4.new hp1,by omega,by omega,by decide,_,SqL.of fb,_,by rw [hj0];exact Sq (l:=xT) (k:=j0) hj0l,?_⟩⟩
   have hpp:pr ≠ p1:=zb e4 hp1
   refine ⟨_,by rw [rb hpp];exact e4,k,by rw [Fd];exact YO hkl,?_⟩
   refine hD _ _ ⟨(s4.trans (pb hp1)).updN hpr0,(S4.new hp1).set (by rw [rb hpp];exact e4) (fun ob z e=>by cases e),pr,hpr0,?_,?_⟩
   ·rw [fb,Yg,← hw0,rp];rfl
   ·rw [Yg];rfl
  ·have hc:=of_decide_eq_false hc
   (walk_at "RD")
   exact hD _ _ ⟨s4,S4,pr,hpr0,by rw [xg hc];exact e4,by rw [xg hc]⟩
 clear e4 hpr0 S4 s4
 rintro σ1 H4 ⟨s4,S4,pr,hpr0,e4,rfl⟩
 simp only [Jd]
 refine Pf (R 2) (fun D' hD _ _ _=>?_) ?_
 ·refine Cc (decide (way=1)) (fun Q hQ=>?_) (fun hc=>?_) (fun hc=>?_)
  ·(walk_at "RD")
   rw [show decide (((way:Nat):Int)=1)=decide (way=1) by rw [Bool.eq_iff_iff,decide_eq_true_eq,decide_eq_true_eq];omega]
   exact hQ
  ·have hc:=of_decide_eq_true hc
   subst hc
   rw [Vi] at e4
   rw [Vi]
   (walk_at "RD")
   refine ⟨p,zz,sp,i,k,rfl,L.same s4,hn,S4.nt,hik,?_⟩
   (walk_at "RD")
   refine ⟨_,e4,k,by rw [Fd];exact YO hkl,?_⟩
   refine hD _ _ ⟨s4.updN hpr0,S4.set e4 (fun ob z e=>by cases e),pr,hpr0,?_,?_⟩
   ·rw [fb,Yg,← hwb,rp];rfl
   ·rw [Yg];rfl
  ·have hc:=of_decide_eq_false hc
   (walk_at "RD")
   exact hD _ _ ⟨s4,S4,pr,hpr0,by rw [xg hc];exact e4,by rw [xg hc]⟩
 clear e4 hpr0 S4 s4
 rintro σ1 H4 ⟨s4,S4,pr,hpr0,e4,rfl⟩
 simp only [Jd]
 refine Pf (R 3) (fun D' hD _ _ _=>?_) ?_
 ·refine Cc (decide (way=2)) (fun Q hQ=>?_) (fun hc=>?_) (fun hc=>?_)
  ·(walk_at "RD")
   rw [show decide (((way:Nat):Int)=2)=decide (way=2) by rw [Bool.eq_iff_iff,decide_eq_true_eq,decide_eq_true_eq];omega]
   exact hQ
  ·have hc:=of_decide_eq_true hc
   subst hc
   rw [Vi] at e4
   rw [Vi]
   (walk_at "RD")
   refine ⟨p,i,k,rfl,S4.nt,hik,?_⟩
   (walk_at "RD")
   refine ⟨_,e4,k,by rw [Fd];exact YO hkl,?_⟩
   refine hD _ _ ⟨s4.updN hpr0,S4.set e4 (fun ob z e=>by cases e),pr,hpr0,?_,?_⟩
   ·rw [fb,Yg,← hwl,rp];rfl
   ·rw [Yg];rfl
  ·have hc:=of_decide_eq_false hc
   (walk_at "RD")
   exact hD _ _ ⟨s4,S4,pr,hpr0,by rw [xg hc];exact e4,by rw [xg hc]⟩
 clear e4 hpr0 S4 s4
 rintro σ1 H4 ⟨s4,S4,pr,hpr0,e4,rfl⟩
 simp only [Jd]
 refine Pf (R 4) (fun D' hD _ _ _=>?_) ?_
 ·refine Cc (decide (way=3)) (fun Q hQ=>?_) (fun hc=>?_) (fun hc=>?_)
  ·(walk_at "RD")
   rw [show decide (((way:Nat):Int)=3)=decide (way=3) by rw [Bool.eq_iff_iff,decide_eq_true_eq,decide_eq_true_eq];omega]
   exact hQ
  ·have hc:=of_decide_eq_true hc
   subst hc
   rw [Vi] at e4
   rw [Vi]
   (walk_at "RD")
   refine ⟨_,SqL.of e4,fun p1 hp1=>?_⟩
   refine hD _ _ ⟨s4.trans (pb hp1),S4.new hp1,p1,s4.free hp1,?_,?_⟩
   ·rw [fb,Yg,sO (xs:=Cb row) (k:=k) (by rw [Fd];exact Nat.le_of_lt hkl),wD];rfl
   ·rw [Yg];rfl
  ·have hc:=of_decide_eq_false hc
   (walk_at "RD")
   exact hD _ _ ⟨s4,S4,pr,hpr0,by rw [xg hc];exact e4,by rw [xg hc]⟩
 clear e4 hpr0 S4 s4
 rintro σ1 H4 ⟨s4,S4,pr,hpr0,e4,rfl⟩
 simp only [Jd]
 refine Pf (R 5) (fun D' hD _ _ _=>?_) ?_
 ·refine Cc (decide (way=4)) (fun Q hQ=>?_) (fun hc=>?_) (fun hc=>?_)
  ·(walk_at "RD")
   rw [show decide (((way:Nat):Int)=4)=decide (way=4) by rw [Bool.eq_iff_iff,decide_eq_true_eq,decide_eq_true_eq];omega]
   exact hQ
  ·have hc:=of_decide_eq_true hc
   subst hc
   rw [Vi] at e4
   rw [Vi]
   (walk_at "RD")
   refine ⟨_,SqL.of e4,fun p1 hp1=>?_⟩
   rw [sO (xs:=Cb row) (k:=k) (by rw [Fd];exact Nat.le_of_lt hkl),wD]
   have sa:=pb (o:=.lst (Cb (row.take k))) hp1
   have Sa:=S4.new (o:=.lst (Cb (row.take k))) hp1
   have ea:(upd H4 p1 (.lst (Cb (row.take k)))) p1=some (.lst (Cb (row.take k))):=fb
   generalize upd H4 p1 (.lst (Cb (row.take k)))=Ha at sa Sa ea ⊢
   refine ⟨by decide,fun p2 hp2=>?_⟩
   have sb:=pb (o:=.lst [V.str (Str.ofString "")]) hp2
   have Sb:=Sa.new (o:=.lst [V.str (Str.ofString "")]) hp2
   have eb:(upd Ha p2 (.lst [V.str (Str.ofString "")])) p2=some (.lst [V.str (Str.ofString "")]):=fb
   generalize upd Ha p2 (.lst [V.str (Str.ofString "")])=Hb at sb Sb eb ⊢
   have lt:(row.take k).length ≤ 7:=by rw [List.length_take];omega
   refine ⟨_,sb _ _ ea,_,eb,hbig _ (by rw [Fd,List.length_singleton];omega),fun p3 hp3=>?_⟩
   have sc:=pb (o:=.lst (Cb (row.take k) ++ [V.str (Str.ofString "")])) hp3
   have Sc':=Sb.new (o:=.lst (Cb (row.take k) ++ [V.str (Str.ofString "")])) hp3
   have ec:(upd Hb p3 (.lst (Cb (row.take k) ++ [V.str (Str.ofString "")]))) p3=some (.lst (Cb (row.take k) ++ [V.str (Str.ofString "")])):=fb
   generalize upd Hb p3 (.lst (Cb (row.take k) ++ [V.str (Str.ofString "")]))=Hc at sc Sc' ec ⊢
   refine ⟨_,SqL.of (sc _ _ (sb _ _ (sa _ _ e4))),fun p4 hp4=>?_⟩
   rw [kK (xs:=Cb row) (k:=k) (by rw [Fd];exact Nat.le_of_lt hkl),EL]
   have sd:=pb (o:=.lst (Cb (row.drop k))) hp4
   have Sd:=Sc'.new (o:=.lst (Cb (row.drop k))) hp4
   have ed:(upd Hc p4 (.lst (Cb (row.drop k)))) p4=some (.lst (Cb (row.drop k))):=fb
   generalize upd Hc p4 (.lst (Cb (row.drop k)))=Hd at sd Sd ed ⊢
   refine ⟨_,sd _ _ ec,_,ed,hbig _ (by rw [List.length_append,Fd,Fd,List.length_singleton,List.length_drop];omega),fun p5 hp5=>?_⟩
   have sall:=(((s4.trans sa).trans sb).trans sc).trans sd
   refine hD _ _ ⟨sall.trans (pb hp5),Sd.new hp5,p5,sall.free hp5,?_,?_⟩
   ·rw [fb,Yg,show Cb (row.take k) ++ [V.str (Str.ofString "")]=Cb (row.take k ++ [S ""]) from XB _ [S ""],XB];rfl
   ·rw [Yg];rfl
  ·have hc:=of_decide_eq_false hc
   (walk_at "RD")
   exact hD _ _ ⟨s4,S4,pr,hpr0,by rw [xg hc];exact e4,by rw [xg hc]⟩
 clear e4 hpr0 S4 s4
 rintro σ1 H4 ⟨s4,S4,pr,hpr0,e4,rfl⟩
 simp only [Jd]
 refine Pf (R 6) (fun D' hD _ _ _=>?_) ?_
 ·refine Cc (decide (way=5)) (fun Q hQ=>?_) (fun hc=>?_) (fun hc=>?_)
  ·(walk_at "RD")
   rw [show decide (((way:Nat):Int)=5)=decide (way=5) by rw [Bool.eq_iff_iff,decide_eq_true_eq,decide_eq_true_eq];omega]
   exact hQ
  ·have hc:=of_decide_eq_true hc
   subst hc
   rw [Vi] at e4
   rw [Vi]
   (walk_at "RD"; repeat (simp only [rg];walk_at "RD"))
   refine ⟨_,.inl (SqL.of e4),by decide,fun p1 hp1=>?_⟩
   have sa:=pb (o:=.lst [V.str (Str.ofString "1"),V.str (Str.ofString ""),V.str (Str.ofString "aa")]) hp1
   have Sa:=S4.new (o:=.lst [V.str (Str.ofString "1"),V.str (Str.ofString ""),V.str (Str.ofString "aa")]) hp1
   have ea:(upd H4 p1 (.lst [V.str (Str.ofString "1"),V.str (Str.ofString ""),V.str (Str.ofString "aa")])) p1=some (.lst (Cb [S "1",S "",S "aa"])):=fb
   generalize upd H4 p1 (.lst [V.str (Str.ofString "1"),V.str (Str.ofString ""),V.str (Str.ofString "aa")])=Ha at sa Sa ea ⊢
   refine ⟨Sa,by omega,by omega,by decide,_,SqL.of ea,_,by rw [hj5];exact Sq (l:=[S "1",S "",S "aa"]) (k:=j5) hj5l,by decide,fun p2 hp2=>?_⟩
   rw [← hw5]
   have sb:=pb (o:=.lst [V.str w5]) hp2
   have Sb:=Sa.new (o:=.lst [V.str w5]) hp2
   have eb:(upd Ha p2 (.lst [V.str w5])) p2=some (.lst [V.str w5]):=fb
   generalize upd Ha p2 (.lst [V.str w5])=Hb at sb Sb eb ⊢
   refine ⟨_,sb _ _ (sa _ _ e4),_,eb,hbig _ (show (Cb row).length + 1 ≤ 1000 by rw [Fd];omega),fun p3 hp3=>?_⟩
   have sall:=(s4.trans sa).trans sb
   refine hD _ _ ⟨sall.trans (pb hp3),Sb.new hp3,p3,sall.free hp3,?_,?_⟩
   ·rw [fb,Yg,show Cb row ++ [V.str w5]=Cb (row ++ [w5]) from XB _ [w5]];rfl
   ·rw [Yg,Fd];rfl
  ·have hc:=of_decide_eq_false hc
   (walk_at "RD")
   exact hD _ _ ⟨s4,S4,pr,hpr0,by rw [xg hc];exact e4,by rw [xg hc]⟩
 clear e4 hpr0 S4 s4
 rintro σ1 H4 ⟨s4,S4,pr,hpr0,e4,rfl⟩
 have c6:¬ way=6→(cur 7 way row k w0 wb wl w5)=cur 6 way row k w0 wb wl w5:=fun h=>xg h
 simp only [Jd]
 refine Pf (R 7) (fun D' hD _ _ _=>?_) ?_
 ·refine Cc (decide (way=6) && decide (1 < (cur 6 way row k w0 wb wl w5).2)) (fun Q hQ=>?_) (fun hc=>?_) (fun hc=>?_)
  ·(walk_at "RD")
   rw [show decide (((way:Nat):Int)=6)=decide (way=6) by rw [Bool.eq_iff_iff,decide_eq_true_eq,decide_eq_true_eq];omega]
   cases hw6:decide (way=6) with
   | false=>rw [hw6] at hQ;exact hQ
   | true=>
    rw [hw6] at hQ
    rw [show decide ((1:Int) < ((cur 6 way row k w0 wb wl w5).2:Nat))=decide (1 < (cur 6 way row k w0 wb wl w5).2) by rw [Bool.eq_iff_iff,decide_eq_true_eq,decide_eq_true_eq];omega]
    exact hQ
  ·rw [Bool.and_eq_true,decide_eq_true_eq,decide_eq_true_eq] at hc
   obtain ⟨hc,hk1⟩:=hc
   subst hc
   rw [Vi] at e4 hk1
   rw [Vi]
   (walk_at "RD")
   have hx8:=(hpl _ (OE hkl (S ""))).1
   refine ⟨_,SqL.of e4,_,Sq hkl,_,rfl,hbig _ ?_,_,e4,k,by rw [Fd];exact YO hkl,?_⟩
   ·show (Str.ofString "0").length + (row.getD k (S "")).length ≤ 1000
    rw [show (Str.ofString "0").length=1 by decide +kernel];omega
   ·refine hD _ _ ⟨s4.updN hpr0,S4.set e4 (fun ob z e=>by cases e),pr,hpr0,?_,?_⟩
    ·rw [fb,Yg,rp,show Qj 6 row k w0 wb wl w5=(row.set k (S "0" ++ wd row k),k) by show (if 1 < k then _ else (row,k))=_;rw [if_pos hk1]];first | done | rfl
    ·rw [Yg,show Qj 6 row k w0 wb wl w5=(row.set k (S "0" ++ wd row k),k) by show (if 1 < k then _ else (row,k))=_;rw [if_pos hk1]]
  ·(walk_at "RD")
   refine hD _ _ ⟨s4,S4,pr,hpr0,?_,?_⟩
   all_goals
    rw [Bool.and_eq_false_iff,decide_eq_false_iff_not,decide_eq_false_iff_not] at hc
    by_cases z:way=6
    ·subst z
     have hk1:=hc.resolve_left (fun z=>z rfl)
     rw [Vi] at hk1
     rw [Vi] at e4
     rw [Yg,show Qj 6 row k w0 wb wl w5=(row,k) by show (if 1 < k then _ else (row,k))=_;rw [if_neg hk1]]
     (first | done | exact e4 | rfl)
    ·rw [c6 z]
     (first | done | exact e4 | rfl)
 clear e4 hpr0 S4 s4
 rintro σ1 H4 ⟨s4,S4,pr,hpr0,e4,rfl⟩
 have hw7:way < 7:=by omega
 have hc7:cur 7 way row k w0 wb wl w5=Qj way row k w0 wb wl w5:=by unfold cur;rw [if_pos hw7]
 rw [hc7] at e4
 rw [hc7]
 have h62:way=6→(Qj way row k w0 wb wl w5).2=k:=fun z=>by
  subst z
  show (if 1 < k then (row.set k (S "0" ++ wd row k),k) else (row,k)).2=k
  split <;> rfl
 simp only [Jd]
 refine Pf (fun σ' H'=>Ac H3 H'∧Sc K a ns H'∧∃ pr,H' pr=some (.lst (Cb (wm way row k w0 wb wl w5).1)) ∧
  σ'=[some (.ref a),some (.ref p),some (.int (i:Nat)),some (.int ((wm way row k w0 wb wl w5).2:Nat)),some (.int (way:Nat)),some (.ref pr)]) (fun D' hD _ _ _=>?_) ?_
 ·have hdE:decide (Cb (Qj way row k w0 wb wl w5).1=[])=decide ((Qj way row k w0 wb wl w5).1=[]):=by
   cases (Qj way row k w0 wb wl w5).1 <;> rfl
  refine Ou (fun b H'=>b=((decide (way=6) && decide (k < 2)) || decide ((Qj way row k w0 wb wl w5).1=[]))∧Ac H4 H'∧Sc K a ns H') (fun Q hQ=>?_) (fun H' hc=>?_) (fun H' hc=>?_)
  ·(walk_at "RD")
   rw [show decide (((way:Nat):Int)=6)=decide (way=6) by rw [Bool.eq_iff_iff,decide_eq_true_eq,decide_eq_true_eq];omega]
   have hrest:0 ≤ sizeLine∧∀ (p:Addr),H4 p=none→∃ x,EqH K (upd H4 p (HO.lst [])) 8 (V.ref pr) (V.ref p) x∧(((decide (way=6) && decide (k < 2))=false)→Q x (upd H4 p (HO.lst []))):=by
    refine ⟨by decide,fun p1 hp1=>⟨_,EqH.flats (k:=7) (SqL.of (by rw [rb (zb e4 hp1)];exact e4)) (SqL.of fb) (fun x _ y hy=>by simp at hy),fun z=>?_⟩⟩
    exact hQ _ _ ⟨by rw [hdE,z,Bool.false_or],pb hp1,S4.new hp1⟩
   by_cases z6:way=6
   ·rw [if_pos (decide_eq_true z6),h62 z6]
    rw [show decide (((k:Nat):Int) < 2)=decide (k < 2) by rw [Bool.eq_iff_iff,decide_eq_true_eq,decide_eq_true_eq];omega]
    by_cases z2:k < 2
    ·rw [if_pos (decide_eq_true z2)]
     exact hQ _ _ ⟨by rw [decide_eq_true z6,decide_eq_true z2];rfl,Ac.refl _,S4⟩
    ·rw [if_neg (by rw [decide_eq_true_eq];exact z2)]
     exact ⟨hrest.1,fun p1 hp1=>let ⟨x,h1,h2⟩:=hrest.2 p1 hp1;⟨x,h1,h2 (by rw [decide_eq_false z2,Bool.and_false])⟩⟩
   ·rw [if_neg (by rw [decide_eq_true_eq];exact z6)]
    exact ⟨hrest.1,fun p1 hp1=>let ⟨x,h1,h2⟩:=hrest.2 p1 hp1;⟨x,h1,h2 (by rw [decide_eq_false z6,Bool.false_and])⟩⟩
  ·obtain ⟨hb,s5,S5⟩:=hc
   have hsp:wm way row k w0 wb wl w5=([S ""],0):=by
    unfold wm
    rw [if_pos]
    have:=hb.symm
    rw [Bool.or_eq_true,Bool.and_eq_true,decide_eq_true_eq,decide_eq_true_eq,decide_eq_true_eq] at this
    exact this
   (walk_at "RD")
   rw [hsp] at hD
   exact ⟨by decide,fun p1 hp1=>hD _ _ ⟨(s4.trans s5).trans (pb hp1),S5.new hp1,p1,fb,rfl⟩⟩
  ·obtain ⟨hb,s5,S5⟩:=hc
   have hsp:wm way row k w0 wb wl w5=Qj way row k w0 wb wl w5:=by
    unfold wm
    rw [if_neg]
    have:=hb.symm
    intro z
    rw [show ((decide (way=6) && decide (k < 2)) || decide ((Qj way row k w0 wb wl w5).1=[]))=true by rw [Bool.or_eq_true,Bool.and_eq_true,decide_eq_true_eq,decide_eq_true_eq,decide_eq_true_eq];exact z] at this
    cases this
   (walk_at "RD")
   rw [hsp] at hD
   exact hD _ _ ⟨s4.trans s5,S5,pr,s5 _ _ e4,rfl⟩
 clear e4 hpr0 S4 s4
 rintro σ1 H4 ⟨s4,S4,pr,e4,rfl⟩
 have hx0:w0 ∈ xT:=by rw [hw0];exact OE hj0l _
 have hgood:dt (wm way row k w0 wb wl w5).1:=
  IJ hw7 hpl hr7 hkl (rD _ hx0) (by rw [hwb];exact GO hn hik) (by rw [hwl];exact HN hik) (by rw [hw5];exact JL _ hj5l)
 have hflt:Flt ((Ld zz sp).take i ++ [(wm way row k w0 wb wl w5).1] ++ (Ld zz sp).drop (i + 1)) i (wm way row k w0 wb wl w5).2:=by
  cases i with
  | zero=>
   rw [hwb,hwl,hrw]
   exact QL hn hw7 (by omega) hx0
  | succ j=>
   have hj:j < sp.length:=by omega
   have hdj:sp[j]? = some sp[j]:=List.getElem?_eq_getElem hj
   have hrd:row=Jc sp[j]:=by
    have h1:=hrow
    unfold Ld at h1
    rw [List.getElem?_cons_succ,List.getElem?_map,hdj] at h1
    exact (Option.some.inj h1).symm
   have g:=D.good j _ hdj
   rw [hwb,hwl,if_neg (by omega),if_neg (by omega),hrd,List.append_assoc]
   exact DK ⟨by omega,hn.2⟩ D.good (Nat.le_of_lt hj) (tL hn g.1 g.2 hw7 (by omega) hx0)
 have hrok:=QN (i:=i) (jr D) hgood (by omega)
 have hrne:(Ld zz sp).take i ++ [(wm way row k w0 wb wl w5).1] ++ (Ld zz sp).drop (i + 1) ≠ []:=by simp
 generalize (wm way row k w0 wb wl w5).2=kk at hflt ⊢
 generalize (wm way row k w0 wb wl w5).1=rr at hflt hrok hrne e4 hgood
 have hci:(((i:Nat):Int) + 1)=((i + 1:Nat):Int):=by omega
 (walk_at "RD")
 refine ⟨_,SqL.of (s4 _ _ l1),fun p1 hp1=>⟨by decide,?_⟩⟩
 rw [sO (xs:=qs.map V.ref) (k:=i) (by omega),← List.map_take,hci]
 have sa:=pb (o:=.lst ((qs.take i).map V.ref)) hp1
 have Sa:=S4.new (o:=.lst ((qs.take i).map V.ref)) hp1
 have ea:(upd H4 p1 (.lst ((qs.take i).map V.ref))) p1=some (.lst ((qs.take i).map V.ref)):=fb
 generalize upd H4 p1 (.lst ((qs.take i).map V.ref))=Ha at sa Sa ea ⊢
 intro p2 hp2
 have sb:=pb (o:=.lst ([pr].map V.ref)) hp2
 have Sb:=Sa.new (o:=.lst ([pr].map V.ref)) hp2
 have eb:(upd Ha p2 (.lst ([pr].map V.ref))) p2=some (.lst ([pr].map V.ref)):=fb
 rw [show [V.ref pr]=[pr].map V.ref from rfl]
 generalize upd Ha p2 (.lst ([pr].map V.ref))=Hb at sb Sb eb ⊢
 have lq:qs.length=sp.length + 1:=by rw [l2,hrl]
 refine ⟨_,sb _ _ ea,_,eb,hbig _ (by rw [List.length_map,List.length_map,List.length_take,List.length_singleton];omega),?_⟩
 rw [← List.map_append]
 intro p3 hp3
 have sc:=pb (o:=.lst ((qs.take i ++ [pr]).map V.ref)) hp3
 have Sc':=Sb.new (o:=.lst ((qs.take i ++ [pr]).map V.ref)) hp3
 have ec:(upd Hb p3 (.lst ((qs.take i ++ [pr]).map V.ref))) p3=some (.lst ((qs.take i ++ [pr]).map V.ref)):=fb
 generalize upd Hb p3 (.lst ((qs.take i ++ [pr]).map V.ref))=Hc at sc Sc' ec ⊢
 refine ⟨_,SqL.of (sc _ _ (sb _ _ (sa _ _ (s4 _ _ l1)))),?_⟩
 rw [kK (xs:=qs.map V.ref) (k:=i + 1) (by omega),← List.map_drop]
 intro p4 hp4
 have sd:=pb (o:=.lst ((qs.drop (i + 1)).map V.ref)) hp4
 have Sd:=Sc'.new (o:=.lst ((qs.drop (i + 1)).map V.ref)) hp4
 have ed:(upd Hc p4 (.lst ((qs.drop (i + 1)).map V.ref))) p4=some (.lst ((qs.drop (i + 1)).map V.ref)):=fb
 generalize upd Hc p4 (.lst ((qs.drop (i + 1)).map V.ref))=Hd at sd Sd ed ⊢
 refine ⟨_,sd _ _ ec,_,ed,hbig _ (by rw [List.length_map,List.length_map,List.length_append,List.length_take,List.length_drop,List.length_singleton];omega),?_⟩
 rw [← List.map_append]
 intro p5 hp5
 have se:=pb (o:=.lst ((qs.take i ++ [pr] ++ qs.drop (i + 1)).map V.ref)) hp5
 have Se:=Sd.new (o:=.lst ((qs.take i ++ [pr] ++ qs.drop (i + 1)).map V.ref)) hp5
 have ee:(upd Hd p5 (.lst ((qs.take i ++ [pr] ++ qs.drop (i + 1)).map V.ref))) p5=some (.lst ((qs.take i ++ [pr] ++ qs.drop (i + 1)).map V.ref)):=fb
 generalize upd Hd p5 (.lst ((qs.take i ++ [pr] ++ qs.drop (i + 1)).map V.ref))=He at se Se ee ⊢
 have sall:=(((sa.trans sb).trans sc).trans sd).trans se
 refine ⟨by decide,fun tp htp=>?_⟩
 have q0:RQ H3 qs (Ld zz sp):=⟨l2,al⟩
 have hRL:RL He p5 ((Ld zz sp).take i ++ [rr] ++ (Ld zz sp).drop (i + 1)):=⟨_,ee,(((q0.same (s4.trans sall)).take i).app (RQ.one (sall _ _ e4))).app ((q0.same (s4.trans sall)).drop (i + 1))⟩
 exact q tp p5 _ i kk _ ((s4.trans sall).trans (pb htp)) (Se.new htp) fb (hRL.same (pb htp)) hrok hrne hflt
end
end My
namespace My
open PySem L2
theorem Uo (z:Int) (sp:List SD):(Ld z sp).length=sp.length + 1:=by unfold Ld;rw [List.length_cons,List.length_map]
theorem kQ {z:Int} (hz:1 ≤ z∧z ≤ 240) {sp:List SD} (hG:lB z sp) {k:Nat} {ws:List Str} {tl:List (List Str)} (hw:jj z (ve ds2 sp) ws=.error k):Flt (Ld z sp ++ ws :: tl) (sp.length + 1) k:=by
 have:=DK hz hG (i:=sp.length) (k:=k) (Nat.le_refl _) (ws:=ws) (tl:=tl) (by rw [List.take_length];exact hw)
 rw [List.take_of_length_le (by rw [Uo];exact Nat.le_refl _)] at this
 exact this
theorem FL (z:Int) (known:List Str):jj z known [S ""]=.error 0:=by
 unfold jj
 rw [if_neg (by decide +kernel)]
def xW (z:Int) (x:Str) (k:Nat):SD:=⟨x,(k:Int) * (z / 4),2⟩
def ZB (z:Int) (x:Str) (m:Nat):List SD:=(List.range m).map (xW z x)
theorem pG (z:Int) (x:Str) (m:Nat):ZB z x (m + 1)=ZB z x m ++ [xW z x m]:=by unfold ZB;rw [List.range_succ,List.map_append];rfl
theorem Lv (z:Int) (x:Str) (m:Nat):(ZB z x m).length=m:=by unfold ZB;simp
theorem OV {x:Str} {sp:List SD} (h:∀ d ∈ sp,d.name=x):(ofN x sp).length=sp.length:=by
 unfold ofN
 rw [List.length_map,List.filter_eq_self.mpr (fun d hd=>by simpa using h d hd)]
theorem uT {x:Str} {sp:List SD} (h:∀ d ∈ sp,d.name ≠ x):ofN x sp=[]:=by
 unfold ofN
 rw [List.filter_eq_nil_iff.mpr (fun d hd=>by simpa using h d hd)];rfl
theorem iK {z:Int} {x:Str} {m:Nat} {c:Int} {f:Nat→Int} {d:SD} (h:d ∈ spK z x m c f):d.name=x:=by
 obtain ⟨i,_,rfl⟩:=List.mem_map.mp h
 rfl
theorem vN {z:Int} {x:Str} {m:Nat} {d:SD} (h:d ∈ ZB z x m):d.name=x:=by
 obtain ⟨i,_,rfl⟩:=List.mem_map.mp h
 rfl
structure mZ (z:Int) (y:Str) (sp:List SD):Prop where
 ln:sp.length ≤ 3
 nm:∀ d ∈ sp,d.name=y
 nb:∀ d ∈ sp,0 ≤ d.b∧d.b < z∧1 ≤ d.n∧d.n ≤ z
theorem P13.left {z:Int} {sp:List SD} (h:P13 z sp) {x y:Str} (hxy:(x=S "aa" ∧ y=S "ab")∨(x=S "ab" ∧ y=S "aa")):mZ z y (sp.filter fun d=>decide (d.name ≠ x)):=by
 have nb:∀ d ∈ sp.filter (fun d=>decide (d.name ≠ x)),0 ≤ d.b∧d.b < z∧1 ≤ d.n∧d.n ≤ z:=fun d hd=>(h.num (List.mem_filter.mp hd).1).2
 have nm:∀ d ∈ sp.filter (fun d=>decide (d.name ≠ x)),d.name=y:=fun d hd=>by
  have h1:=(h.num (List.mem_filter.mp hd).1).1
  have h2:d.name ≠ x:=by simpa using (List.mem_filter.mp hd).2
  rcases hxy with ⟨rfl,rfl⟩ | ⟨rfl,rfl⟩
  ·exact h1.resolve_left h2
  ·exact h1.resolve_right h2
 refine ⟨?_,nm,nb⟩
 obtain ⟨m0,m1,c,f0,f1,k0,k1,hc,rfl⟩:=h.hsp
 have e0:=k0.m3;have e1:=k1.m3
 have ne:S "aa" ≠ S "ab" := by decide +kernel
 rw [List.filter_append,List.length_append]
 have l0:=List.length_filter_le (fun d:SD=>decide (d.name ≠ x)) (spK z (S "aa") m0 c f0)
 have l1:=List.length_filter_le (fun d:SD=>decide (d.name ≠ x)) (spK z (S "ab") m1 c f1)
 rw [FF] at l0 l1
 rcases hxy with ⟨rfl,rfl⟩ | ⟨rfl,rfl⟩
 ·rw [List.filter_eq_nil_iff.mpr (fun d hd=>by simp [iK hd])]
  simp only [List.length_nil];omega
 ·have:(spK z (S "ab") m1 c f1).filter (fun d=>decide (d.name ≠ S "ab"))=[]:=List.filter_eq_nil_iff.mpr (fun d hd=>by simp [iK hd])
  rw [this]
  simp only [List.length_nil];omega
theorem lQ {z:Int} (hz:40 ≤ z∧z ≤ 240) {x y:Str} {sp:List SD} (h:mZ z y sp) (hx:x=S "aa" ∨ x=S "ab") (hy:y=S "aa" ∨ y=S "ab") (hxy:x ≠ y) {j:Nat} (hj:j ≤ 3):lB z (sp ++ ZB z x j):=fun i d hd=>by
 rw [List.getElem?_append] at hd
 by_cases c:i < sp.length
 ·rw [if_pos c] at hd
  have hm:=List.mem_of_getElem? hd
  refine ⟨?_,h.nb d hm⟩
  rw [h.nm d hm,List.take_append_of_le_length (by omega)]
  refine oE hy (Nat.lt_of_le_of_lt (LA _ _) ?_)
  rw [List.length_take]
  have:=h.ln
  omega
 ·rw [if_neg c] at hd
  unfold ZB at hd
  obtain ⟨k,hk,rfl⟩:=Fc hd
  obtain ⟨hk1,hk2⟩:=List.getElem?_eq_some_iff.mp hk
  rw [List.getElem_range] at hk2
  rw [List.length_range] at hk1
  have hk3:k=0∨k=1∨k=2:=by omega
  refine ⟨?_,?_,?_,by show (1:Int) ≤ 2;decide,by show (2:Int) ≤ z;omega⟩
  ·refine oE hx ?_
   have e:(sp ++ ZB z x j).take i=sp ++ (ZB z x j).take (i - sp.length):=by rw [List.take_append,List.take_of_length_le (by omega)]
   rw [e]
   show (ofN x (sp ++ (ZB z x j).take (i - sp.length))).length < 3
   rw [YI,uT (fun d hd=>by rw [h.nm d hd];exact Ne.symm hxy),List.nil_append]
   refine Nat.lt_of_le_of_lt (LA _ _) ?_
   rw [List.length_take]
   omega
  ·show 0 ≤ (k:Int) * (z / 4)
   rcases hk3 with rfl | rfl | rfl <;> omega
  ·show (k:Int) * (z / 4) < z
   rcases hk3 with rfl | rfl | rfl <;> omega
theorem SR {z:Int} (hz:40 ≤ z∧z ≤ 240) {x y:Str} {sp:List SD} (h:mZ z y sp) (hx:x=S "aa" ∨ x=S "ab") (hy:y=S "aa" ∨ y=S "ab") (hxy:x ≠ y):Flt (Ld z sp ++ (ZB z x 4).map Jc) (sp.length + 1 + 3) 1:=by
 have g:=lQ hz h hx hy hxy (j:=3) (Nat.le_refl _)
 have e:Ld z sp ++ (ZB z x 4).map Jc=Ld z (sp ++ ZB z x 3) ++ [Jc (xW z x 3)]:=by
  rw [show ZB z x 4=ZB z x 3 ++ [xW z x 3] from pG ..]
  unfold Ld
  rw [List.map_append,List.map_append,List.cons_append,List.cons_append,List.append_assoc];rfl
 have l:(sp ++ ZB z x 3).length=sp.length + 3:=by rw [List.length_append,Lv]
 rw [e,show sp.length + 1 + 3=(sp ++ ZB z x 3).length + 1 by rw [l]]
 refine kQ ⟨by omega,hz.2⟩ g ?_
 unfold jj
 rw [if_pos (by show S "free" ∈ [S "free"];simp),if_neg]
 show x ∉ _
 intro hm
 unfold ve at hm
 have:=(List.mem_filter.mp hm).2
 have h3:(ofN x (sp ++ ZB z x 3)).length=3:=by
  rw [YI,uT (fun d hd=>by rw [h.nm d hd];exact Ne.symm hxy),List.nil_append,OV (fun d hd=>vN hd),Lv]
 rw [h3] at this
 exact absurd this (by decide)
theorem EX {z:Int} (h:0 ≤ z∧z < 1000) {x:Str} (hx:x=S "aa" ∨ x=S "ab"):num z ≠ x:=fun e=>by
 have:=(Xw h.1 h.2).1
 rw [e] at this
 rcases hx with rfl | rfl
 ·exact absurd this (by decide +kernel)
 ·exact absurd this (by decide +kernel)
theorem JH {z:Int} (hz:40 ≤ z∧z ≤ 240) {x:Str} (hx:x=S "aa" ∨ x=S "ab") (sp:List SD):(Ld z sp).filter (fun r=>decide (wd r 1 ≠ x))=Ld z (sp.filter fun d=>decide (d.name ≠ x)):=by
 unfold Ld
 rw [List.filter_cons_of_pos (by simpa using EX ⟨by omega,by omega⟩ hx),List.filter_map]
 rfl
section
variable {P:Program} {w:World} {K:PySem.W.Frag} {mg:Str→Option Value} {base:Heap} {t:Adr}
theorem KR (T:Txt w K mg t) (a:Addr) (ns:List Int) (h63:ns.length ≤ 63):Nb P w K mg base CX0 2 t.Bi t.ul ["_law_script","_law_rows_here"] (Ar K a ns):=by
 have G__law_draw:Nb P w K mg base CX0 1 t.ug t.bh ["_law_script","_law_k","_law_many"] (rg K a ns):=JE T a ns h63
 refine T.xH.ok mh (fun vs H Q E h=>?_) (fun cdv A outer s H vs Q E hr h=>?_)
 ·obtain ⟨p,zz,sp,rfl,_⟩:=h;rfl
 obtain ⟨p,zz,sp,rfl,S0,L,D,q⟩:=h
 have hn:=D.hz
 have hl:=D.len
 have hbig:∀ m:Nat,m ≤ 1000→m ≤ sizeLine:=fun m h=>Nat.le_trans h (by decide)
 have d1:=wk ns 24 (m:=3) (by decide)
 have d2:=nk ns 24 (m:=3) (by decide)
 have d3:=wk ns 25 (m:=2) (by decide)
 have d4:=nk ns 25 (m:=2) (by decide)
 refine ⟨_,(gb (Xf (fc Fj (Fb G__law_draw hr rfl T.Ud T.Nd T.Od .nil Ob (cb (pv 0) (cb Ab (cb Ab ib)))) Ab (Bc _)) (qb (Rb (Eo (cb (Yc Ez (pv 1) (mf (cb (mf (cb Yb ib)) ib))) (cb (pe Qc rfl T.e311 Vd (cb (pv 1) ib)) (cb Ab ib)))))) zc)
   (gb (Pb (i:=2) mh.nd rfl (Or.inr rfl) (Xg ke (mf (cb Yb (cb Yb ib))) (Fb G__law_draw hr rfl T.Ud T.Nd T.Od .nil Ob (cb (pv 0) (cb Ab (cb Ab ib)))) (fun _ _=>rfl)))
   (gb (Pb (i:=3) mh.nd rfl (Or.inr rfl) (Kf sA rfl T.e455 zr (cb (Xg ke (Xg ke (pv 1) Ab (fun _ _=>rfl)) Ab (fun _ _=>rfl)) ib)))
   (gb (Qh (i:=4) mh.nd rfl (Or.inl rfl) rfl (Af (pv 1)) (ue (sc:=db Id) rfl (by decide +kernel)) (N:=["_law_row","_law_name"]) (sel:=[none,some 2]) (qf (M:=["_law_script","_law_rows_here","_law_name","_law_size","_law_left","_law_spans"]) (by decide +kernel)) (Blk.of (fun _ _ _ _=>(Kb (i:=0) (vj (N:=["_law_row","_law_name"]) (by decide +kernel) rfl) rfl (Or.inl rfl))) (fun _ _ _ _=>⟨_,(YE (fc EN (Xg ke (pv 0) Ab (fun _ _=>rfl)) (pv 1) (Bc _))),by first | rfl | (dsimp only [Cx.block];done) | (dsimp only [Cx.block];exact rfl)⟩) (fun _ _ _ _=>⟨_,(pv 0),by first | rfl | (dsimp only [Cx.block];done) | (dsimp only [Cx.block];exact rfl)⟩)) rfl)
   (gb (Qh (i:=5) mh.nd rfl (Or.inl rfl) rfl (Eh rfl T.e146 (cb Ab ib)) (ue (sc:=db Id) rfl (by decide +kernel)) (N:=["_law_k","_law_name","_law_size"]) (sel:=[none,some 2,some 3]) (qf (M:=["_law_script","_law_rows_here","_law_name","_law_size","_law_left","_law_spans"]) (by decide +kernel)) (Blk.of (fun _ _ _ _=>(Kb (i:=0) (vj (N:=["_law_k","_law_name","_law_size"]) (by decide +kernel) rfl) rfl (Or.inl rfl))) (fun _ _ _ _=>⟨_,Mi,by first | rfl | (dsimp only [Cx.block];done) | (dsimp only [Cx.block];exact rfl)⟩) (fun _ _ _ _=>⟨_,(mf (cb Yb (cb (pv 1) (cb (Kf qg rfl T.e416 Wh (cb (Yc Fx (pv 0) (Yc gJ (pv 2) Ab)) ib)) (cb Yb ib))))),by first | rfl | (dsimp only [Cx.block];done) | (dsimp only [Cx.block];exact rfl)⟩)) rfl)
   (qb (Rb (Eo (cb (Yc Ez (pv 4) (pv 5)) (cb (Yc xh (pe Qc rfl T.e311 Vd (cb (pv 4) ib)) Ab) (cb Ab ib))))))))))),?_⟩
 obtain ⟨qs,l1,l2,al⟩:=id L
 have hql:qs.length=sp.length + 1:=by rw [l2,Uo]
 simp only [Jd]
 refine Cc (decide (ss ns 24 3=0)) (fun Q hQ=>?_) (fun hc=>?_) (fun hc=>?_)
 ·(walk_at "RD"; repeat (simp only [rg];walk_at "RD"))
  exact ⟨S0,by omega,by omega,by decide,hQ⟩
 ·(walk_at "RD")
  refine ⟨by decide,fun p1 hp1=>⟨by decide,?_⟩⟩
  have sa:=pb (o:=.lst (Cb [S ""])) hp1
  have Sa:=S0.new (o:=.lst (Cb [S ""])) hp1
  have ea:(upd H p1 (.lst (Cb [S ""]))) p1=some (.lst (Cb [S ""])):=fb
  rw [show [V.str (Str.ofString "")]=Cb [S ""] from rfl]
  generalize upd H p1 (.lst (Cb [S ""]))=Ha at sa Sa ea ⊢
  intro p2 hp2
  have sb:=pb (o:=.lst ([p1].map V.ref)) hp2
  have Sb:=Sa.new (o:=.lst ([p1].map V.ref)) hp2
  have eb:(upd Ha p2 (.lst ([p1].map V.ref))) p2=some (.lst ([p1].map V.ref)):=fb
  rw [show [V.ref p1]=[p1].map V.ref from rfl]
  generalize upd Ha p2 (.lst ([p1].map V.ref))=Hb at sb Sb eb ⊢
  refine ⟨_,sb _ _ (sa _ _ l1),_,eb,hbig _ (by rw [List.length_map,List.length_map,List.length_singleton];omega),?_⟩
  rw [← List.map_append]
  intro p3 hp3
  have sc:=pb (o:=.lst ((qs ++ [p1]).map V.ref)) hp3
  have Sc':=Sb.new (o:=.lst ((qs ++ [p1]).map V.ref)) hp3
  have ec:(upd Hb p3 (.lst ((qs ++ [p1]).map V.ref))) p3=some (.lst ((qs ++ [p1]).map V.ref)):=fb
  generalize upd Hb p3 (.lst ((qs ++ [p1]).map V.ref))=Hc at sc Sc' ec ⊢
  have sall:=(sa.trans sb).trans sc
  refine ⟨_,.inl (SqL.of (sall _ _ l1)),by decide,fun tp htp=>?_⟩
  rw [List.length_map,hql]
  have q0:RQ H qs (Ld zz sp):=⟨l2,al⟩
  have hRL:RL Hc p3 (Ld zz sp ++ [[S ""]]):=⟨_,ec,(q0.same sall).app (RQ.one (sc _ _ (sb _ _ ea)))⟩
  refine q tp p3 _ (sp.length + 1) 0 _ (sall.trans (pb htp)) (Sc'.new htp) fb (hRL.same (pb htp)) ⟨?_,fun r hr=>?_⟩ (by simp) (kQ ⟨by omega,hn.2⟩ D.good (FL _ _))
  ·rw [List.length_append,Uo,List.length_singleton];omega
  ·rcases List.mem_append.mp hr with z | z
   ·exact jr D r z
   ·rw [List.mem_singleton.mp z];exact dt.e
 simp only [ez,Jd]
 obtain ⟨x,y,hxy,hx⟩:∃ x y,((x=S "aa" ∧ y=S "ab")∨(x=S "ab" ∧ y=S "aa"))∧atI [V.str (Str.ofString "aa"),V.str (Str.ofString "ab")] (ss ns 25 2)=some (.str x):=by
  have:ss ns 25 2=0∨ss ns 25 2=1:=by omega
  rcases this with e | e <;> rw [e]
  ·exact ⟨S "aa",S "ab",.inl ⟨rfl,rfl⟩,Me (j:=0) rfl⟩
  ·exact ⟨S "ab",S "aa",.inr ⟨rfl,rfl⟩,Me (j:=1) rfl⟩
 have hx2:x=S "aa" ∨ x=S "ab" := hxy.elim (fun z=>.inl z.1) (fun z=>.inr z.1)
 have hy2:y=S "aa" ∨ y=S "ab" := hxy.elim (fun z=>.inr z.2) (fun z=>.inl z.2)
 have hne:x ≠ y:=by
  rcases hxy with ⟨rfl,rfl⟩ | ⟨rfl,rfl⟩ <;> decide +kernel
 have O:=D.left hxy
 refine Pf (fun σ' H'=>Ac H H'∧Sc K a ns H'∧σ'=[some (.ref a),some (.ref p),some (.str x),none,none,none]) (fun D' hD _ _ _=>?_) ?_
 ·(walk_at "RD"; repeat (simp only [rg];walk_at "RD"))
  exact ⟨by decide,fun p1 hp1=>⟨S0.new hp1,by omega,by omega,by decide,_,SqL.of fb,_,hx,hD _ _ ⟨pb hp1,S0.new hp1,rfl⟩⟩⟩
 rintro σ1 H1 ⟨s1,S1,rfl⟩
 simp only [Jd]
 refine Pf (fun σ' H'=>H'=H1∧σ'=[some (.ref a),some (.ref p),some (.str x),some (.int zz),none,none]) (fun D' hD _ _ _=>?_) ?_
 ·obtain ⟨qs',q0,k1,la,lq,_⟩:=(L.same s1).at (i:=0) (r:=[S "round",num zz]) rfl
  have hln:(num zz).length ≤ 3:=EF (by omega) (by omega)
  (walk_at "RD")
  exact ⟨_,SqL.of k1,_,la,_,rfl,_,SqL.of lq,_,Me (j:=1) rfl,_,rfl,zz,fL (by omega) (by omega),by omega,hD _ _ ⟨rfl,rfl⟩⟩
 rintro σ1 H1' ⟨rfl,rfl⟩
 have L1:=L.same s1
 have r1:RQ H1' qs (Ld zz sp):=⟨l2,fun i q r h1 h2=>s1 _ _ (al i q r h1 h2)⟩
 simp only [Jd]
 refine Pf (fun σ' H'=>Ac H1' H'∧Sc K a ns H'∧∃ pl ql,H' pl=some (.lst (ql.map V.ref))∧RQ H' ql (Ld zz (sp.filter fun d=>decide (d.name ≠ x)))∧σ'=[some (.ref a),some (.ref p),some (.str x),some (.int zz),some (.ref pl),none]) (fun D' hD _ _ _=>?_) ?_
 ·(walk_at "RD")
  refine ⟨⟨_,SqL.of (s1 _ _ l1)⟩,?_⟩
  have hle:(qs.map V.ref).length ≤ 20:=by rw [List.length_map];omega
  refine yf.list (xs:=qs.map V.ref) (fun i ys H'=>H'=H1'∧∃ ql:List Addr,ys=ql.map V.ref∧RQ H1' ql (((Ld zz sp).take i).filter fun r=>decide (wd r 1 ≠ x))) (Nat.le_trans hle (by decide)) ⟨rfl,[],rfl,rfl,fun i q r h _=>by simp at h⟩ ?_ ?_ ?_
  ·rintro i ys H' hi ⟨rfl,ql,rfl,r⟩
   refine ⟨SqL.of (s1 _ _ l1),?_⟩
   rw [List.length_map,r.1]
   exact Nat.le_trans (List.length_filter_le ..) (by rw [List.length_take];omega)
  ·rintro i v ys H' hv ⟨rfl,ql,rfl,r⟩ N hN
   obtain ⟨qi,hqi,rfl⟩:=Fc hv
   have hi:i < (Ld zz sp).length:=by rw [← l2];exact (List.getElem?_eq_some_iff.mp hqi).1
   have hr:(Ld zz sp)[i]? = some (Ld zz sp)[i]:=List.getElem?_eq_getElem hi
   have hq:=r1.2 i qi _ hqi hr
   have hr2:1 < ((Ld zz sp)[i]).length:=by
    have hm:=List.getElem_mem hi
    generalize (Ld zz sp)[i]=rr at hm
    rcases List.mem_cons.mp hm with e | e
    ·rw [e];show 1 < 2;decide
    ·obtain ⟨d,_,rfl⟩:=List.mem_map.mp e
     show 1 < 4;decide
   dsimp only at hN
   rw [zi hr,List.filter_append] at hN
   generalize (Ld zz sp)[i]=rr at hr hq hr2 hN
   (walk_at "RD")
   refine ⟨Sub.name,_,SqL.of hq,_,Sq hr2,rfl,?_⟩
   by_cases c:wd rr 1=x
   ·rw [if_neg (by rw [show rr.getD 1 (S "")=x from c];simp)]
    rw [List.filter_cons_of_neg (by simpa using c),List.filter_nil,List.append_nil] at hN
    exact hN _ _ ⟨rfl,ql,rfl,r⟩
   ·rw [if_pos (by
     rw [Bool.not_eq_true',decide_eq_false_iff_not]
     exact fun e=>c (V.str.inj e))]
    rw [List.filter_cons_of_pos (by simpa using c),List.filter_nil] at hN
    exact hN _ _ ⟨rfl,ql ++ [qi],by rw [List.map_append];rfl,r.app (RQ.one hq)⟩
  ·rintro ys H' ⟨rfl,ql,rfl,r⟩ p1 hp1
   rw [List.take_of_length_le (by rw [List.length_map,l2];exact Nat.le_refl _),JH hn hx2] at r
   exact hD _ _ ⟨pb hp1,S1.new hp1,p1,ql,fb,r.same (pb hp1),rfl⟩
 rintro σ1 H2 ⟨s2,S2,pl,ql,e2,r2,rfl⟩
 simp only [Jd]
 refine Pf (fun σ' H'=>Ac H2 H'∧Sc K a ns H'∧∃ ps os,H' ps=some (.lst (os.map V.ref))∧RQ H' os ((ZB zz x 4).map Jc)∧σ'=[some (.ref a),some (.ref p),some (.str x),some (.int zz),some (.ref pl),some (.ref ps)]) (fun D' hD _ _ _=>?_) ?_
 ·(walk_at "RD")
  refine ⟨by decide,by decide,?_⟩
  refine yf.range (n:=4) (fun i ys H'=>∃ os:List Addr,ys=os.map V.ref∧RQ H' os ((ZB zz x i).map Jc)∧Ac H2 H'∧Sc K a ns H') (by decide) ⟨[],rfl,⟨rfl,fun i q r h _=>by simp at h⟩,Ac.refl _,S2⟩ ?_ ?_ ?_
  ·rintro i ys H' hi ⟨os,rfl,r,_,_⟩
   rw [List.length_map,r.1,List.length_map,Lv];exact Nat.le_refl _
  ·rintro i ys H' hi ⟨os,rfl,r,sm,Sm⟩ N hN
   have hi4:i < 4:=by simpa using hi
   dsimp only at hN
   rw [pG,List.map_append] at hN
   have hb:0 ≤ (i:Int) * (zz / 4)∧(i:Int) * (zz / 4) < 1000:=by
    have:i=0∨i=1∨i=2∨i=3:=by omega
    rcases this with rfl | rfl | rfl | rfl <;> omega
   (walk_at "RD")
   refine ⟨Sub.name,⟨by decide,by decide⟩,by unfold cQ;omega,Ml (by omega),by decide,fun p1 hp1=>?_⟩
   rw [show [V.str (Str.ofString "free"),V.str x,V.str (Str.ofString (toString ((i:Int) * (zz / 4)))),V.str (Str.ofString "2")]=Cb (Jc (xW zz x i)) by
    show _=[V.str (S "free"),V.str x,V.str (num ((i:Int) * (zz / 4))),V.str (num 2)]
    rw [show num 2=S "2" by decide +kernel]]
   exact hN _ _ ⟨os ++ [p1],by rw [List.map_append];rfl,(r.same (pb hp1)).app (RQ.one fb),sm.trans (pb hp1),Sm.new hp1⟩
  ·rintro ys H' ⟨os,rfl,r,sm,Sm⟩ p1 hp1
   exact hD _ _ ⟨sm.trans (pb hp1),Sm.new hp1,p1,os,fb,r.same (pb hp1),rfl⟩
 rintro σ1 H3 ⟨s3,S3,ps,os,e3,r3,rfl⟩
 have hll:=O.ln
 have hqll:ql.length=(sp.filter fun d=>decide (d.name ≠ x)).length + 1:=by rw [r2.1,Uo]
 have hosl:os.length=4:=by rw [r3.1,List.length_map,Lv]
 (walk_at "RD")
 refine ⟨_,s3 _ _ e2,_,e3,hbig _ (by rw [List.length_map,List.length_map];omega),?_⟩
 rw [← List.map_append]
 intro p3 hp3
 have sc:=pb (o:=.lst ((ql ++ os).map V.ref)) hp3
 have Sc':=S3.new (o:=.lst ((ql ++ os).map V.ref)) hp3
 have ec:(upd H3 p3 (.lst ((ql ++ os).map V.ref))) p3=some (.lst ((ql ++ os).map V.ref)):=fb
 generalize upd H3 p3 (.lst ((ql ++ os).map V.ref))=Hc at sc Sc' ec ⊢
 refine ⟨_,.inl (SqL.of (sc _ _ (s3 _ _ e2))),by decide,fun tp htp=>?_⟩
 rw [List.length_map,hqll]
 have hRL:RL Hc p3 (Ld zz (sp.filter fun d=>decide (d.name ≠ x)) ++ (ZB zz x 4).map Jc):=⟨_,ec,(r2.same (s3.trans sc)).app (r3.same sc)⟩
 have hF:=SR hn O hx2 hy2 hne
 refine q tp p3 _ _ 1 _ ((((s1.trans s2).trans s3).trans sc).trans (pb htp)) (Sc'.new htp) ?_ (hRL.same (pb htp)) ⟨?_,fun r hr=>?_⟩ (by unfold Ld;simp) hF
 ·rw [fb]
  congr 1
 ·rw [List.length_append,Uo,List.length_map,Lv];omega
 ·rcases List.mem_append.mp hr with z | z
  ·refine jr D r ?_
   rw [← JH hn hx2] at z
   exact (List.mem_filter.mp z).1
  ·obtain ⟨d,hd,rfl⟩:=List.mem_map.mp z
   obtain ⟨k,hk,rfl⟩:=List.mem_map.mp hd
   have hk4:=List.mem_range.mp hk
   have hb:0 ≤ (k:Int) * (zz / 4)∧(k:Int) * (zz / 4) < 1000:=by
    have:k=0∨k=1∨k=2∨k=3:=by omega
    rcases this with rfl | rfl | rfl | rfl <;> omega
   have c:∀ y ∈ [S "free",S "aa",S "ab"],Ws y:=by unfold Ws;decide +kernel
   refine ⟨by unfold Jc;simp,by show 4 ≤ 9;decide,fun w hw=>?_⟩
   have:w=S "free" ∨ w=x∨w=num ((k:Int) * (zz / 4))∨w=num 2:=by simpa [Jc,xW] using hw
   rcases this with rfl | rfl | rfl | rfl
   ·exact (c _ (by simp)).b
   ·rcases hx2 with e | e <;> rw [e]
    ·exact (c _ (by simp)).b
    ·exact (c _ (by simp)).b
   ·exact (xf hb.1 hb.2).b
   ·exact (xf (by decide) (by decide)).b
end
end My
namespace My
open PySem L2
theorem sN {K:PySem.W.Frag} {H:Hp} {p q:Addr} {a b:Int} (hp:SqT K H p [.int a,.int b]) (hq:SqT K H q [.int a,.int b]):EqH K H 8 (.ref p) (.ref q) true:=by
 have:=EqH.tup (k:=7) (e:=fun _=>true) hp hq (fun j x y h1 h2=>by
  rw [h1] at h2
  cases h2
  have hf:wo x=true:=by
   match j,h1 with
   | 0,h1=>cases h1;rfl
   | 1,h1=>cases h1;rfl
   | j + 2,h1=>simp at h1
  have:=EqH.flat (K:=K) (H:=H) (k:=7) hf hf
  rw [aL hf] at this
  exact this)
 exact this
theorem Flt.set {rows:List (List Str)} {i k l:Nat} {r:List Str} (h:Flt rows i k) (hl:i < l):Flt (rows.set l r) i k:=fun r0 rest e=>by
 refine h r0 rest (e.trans (List.ext_getElem? fun j=>?_))
 rw [List.getElem?_take,List.getElem?_take]
 by_cases c:j < i + 1
 ·rw [if_pos c,if_pos c,List.getElem?_set_ne (by omega)]
 ·rw [if_neg c,if_neg c]
theorem dt.x1 {r:List Str} (h:dt r) (m:Nat):dt (r.set m (S "x1")):=by
 refine ⟨fun z=>h.1 ?_,by rw [List.length_set];exact h.2.1,fun x hx=>?_⟩
 ·have:=congrArg List.length z
  rw [List.length_set] at this
  exact List.length_eq_zero_iff.mp this
 ·rcases List.mem_or_eq_of_mem_set hx with z | z
  ·exact h.2.2 x z
  ·rw [z];exact rD _ (by decide +kernel)
theorem ROk.set {rows:List (List Str)} (h:ROk rows) {l:Nat} {r:List Str} (hr:dt r):ROk (rows.set l r):=by
 refine ⟨by rw [List.length_set];exact h.ln,fun x hx=>?_⟩
 rcases List.mem_or_eq_of_mem_set hx with z | z
 ·exact h.al x z
 ·rw [z];exact hr
theorem RQ.set {H:Hp} {qs:List Addr} {rows:List (List Str)} (h:RQ H qs rows) (nd:qs.Nodup) {l:Nat} {q:Addr} (hq:qs[l]? = some q) (r:List Str):RQ (upd H q (.lst (Cb r))) qs (rows.set l r):=by
 refine ⟨by rw [List.length_set];exact h.1,fun i p x h1 h2=>?_⟩
 by_cases c:i=l
 ·subst c
  rw [hq] at h1
  cases h1
  rw [List.getElem?_set_self (by rw [← h.1];exact (List.getElem?_eq_some_iff.mp hq).1)] at h2
  cases h2
  exact fb
 ·rw [List.getElem?_set_ne (fun e=>c e.symm)] at h2
  have hne:p ≠ q:=fun e=>by
   subst e
   obtain ⟨a1,b1⟩:=List.getElem?_eq_some_iff.mp h1
   obtain ⟨a2,b2⟩:=List.getElem?_eq_some_iff.mp hq
   exact c ((List.getElem_inj nd).mp (b1.trans b2.symm))
  rw [rb hne]
  exact h.2 i p x h1 h2
theorem oZ:Str.ofString "ring 4\ncar aa 0 1 0 0 1\ntram ab 0 2 0 0 1"=QJ 4 ds2:=by decide +kernel
theorem cU:COk 4 ds2:=by
 refine ⟨by decide,by decide,fun d hd=>?_,by decide +kernel⟩
 have hd:d=wA∨d=wB:=by simpa [ds2] using hd
 rcases hd with rfl | rfl
 ·exact ⟨by decide,by decide +kernel,by decide,by decide,by decide,by decide,by decide,by decide⟩
 ·exact ⟨by decide,by decide +kernel,by decide,by decide,by decide,by decide,by decide,by decide⟩
section
variable {P:Program} {w:World} {K:PySem.W.Frag} {mg:Str→Option Value} {base:Heap} {t:Adr}
theorem OY (T:Txt w K mg t):Nb P w K mg base CX0 10 t.fS t.AO ["_law_script"] (dX K):=by
 refine T.DZ.ok cu (fun vs H Q E h=>?_) (fun cdv A outer s H vs Q E hr h=>?_)
 ·obtain ⟨a,ns,rfl,_⟩:=h;rfl
 obtain ⟨a,ns,rfl,S00,h63,q⟩:=h
 have hU:=hr.units
 have G__law_draw:Nb P w K mg base CX0 9 t.ug t.bh ["_law_script","_law_k","_law_many"] (rg K a ns):=(JE T a ns h63).mono (by decide)
 have G__law_rows:Nb P w K mg base CX0 9 t.Ej t.gn ["_law_script"] (tK K a ns):=(GQ T a ns h63).mono (by decide)
 have G__law_spoiled:Nb P w K mg base CX0 9 t.Og t.si ["_law_script","_law_rows_here"] (Ar K a ns):=(AL T a ns h63).mono (by decide)
 have G__law_other:Nb P w K mg base CX0 9 t.Bi t.ul ["_law_script","_law_rows_here"] (Ar K a ns):=(KR T a ns h63).mono (by decide)
 have G__law_asked:Nb P w K mg base CX0 9 t.Hi t.Kk ["_law_crossing","_law_rows_here"] (gK t):=TQ T
 have G_read_crossing:Nb P w K mg base CX0 9 t.fg t.sh ["text"] (qX t):=(AZ T).mono (by decide)
 refine ⟨_,(gb (Pb (i:=1) cu.nd rfl (Or.inl rfl) (Fb G_read_crossing hr rfl T.Lz T.RA T.SB .nil Ob (cb Yb ib)))
   (gb (Pb (i:=2) cu.nd rfl (Or.inl rfl) (Fb G__law_rows hr rfl T.HJ T.NJ T.oJ .nil Ob (cb (pv 0) ib)))
   (gb (Xf (fc (gY hU) (Fb G__law_asked hr rfl T.ly T.dy T.px .nil Ob (cb (pv 1) (cb (pv 2) ib))) (Eo (cb (fH Gx Ab) (cb (fH Gx Ab) ib))) (Bc _)) (qb (Rb BJ)) zc)
   (gb (Pb (i:=3) cu.nd rfl (Or.inl rfl) (Fb G__law_spoiled hr rfl T.QC T.fC T.aD .nil Ob (cb (pv 0) (cb (pv 2) ib))))
   (gb (Xf (fc Fj (Fb G__law_draw hr rfl T.Ud T.Nd T.Od .nil Ob (cb (pv 0) (cb Ab (cb Ab ib)))) Ab (Bc _)) (qb (Pb (i:=3) cu.nd rfl (Or.inl rfl) (Fb G__law_other hr rfl T.lG T.IH T.WG .nil Ob (cb (pv 0) (cb (pv 2) ib))))) zc)
   (gb (Qh (i:=4) cu.nd rfl (Or.inl rfl) rfl (Af (Xg WK (pv 3) Ab (fun _ _=>rfl))) (ue (sc:=db oA) rfl (by decide +kernel)) (N:=["_law_row"]) (sel:=[none]) (qf (M:=["_law_script","_law_crossing","_law_rows_here","_law_found","_law_spoiled_here","_law_last","_law_told","_law_number"]) (by decide +kernel)) (Blk.of (fun _ _ _ _=>(Kb (i:=0) (vj (N:=["_law_row"]) (by decide +kernel) rfl) rfl (Or.inl rfl))) (fun _ _ _ _=>⟨_,Mi,by first | rfl | (dsimp only [Cx.block];done) | (dsimp only [Cx.block];exact rfl)⟩) (fun _ _ _ _=>⟨_,(Kf vx rfl T.e378 ft (cb (pv 0) ib)),by first | rfl | (dsimp only [Cx.block];done) | (dsimp only [Cx.block];exact rfl)⟩)) rfl)
   (gb (Pb (i:=5) cu.nd rfl (Or.inl rfl) (Yc Tn (pe Qc rfl T.e311 Vd (cb (pv 4) ib)) Ab))
   (gb (Xf (PW.pt (AH (fc Fj (Fb G__law_draw hr rfl T.Ud T.Nd T.Od .nil Ob (cb (pv 0) (cb Ab (cb Ab ib)))) Ab (Bc _)) (YB (fc DN (pv 5) (Xg WK (pv 3) Ab (fun _ _=>rfl)) (Bc _))))) (qb (Lp Yb (Cv (Xg ke (pv 4) (pv 5) (fun _ _=>rfl)) (Yc ik Ab (pe Qc rfl T.e311 Vd (cb (Xg ke (pv 4) (pv 5) (fun _ _=>rfl)) ib))) gj))) zc)
   (gb (Pb (i:=6) cu.nd rfl (Or.inl rfl) (Fb G__law_asked hr rfl T.ly T.dy T.px .nil Ob (cb (pv 1) (cb (pv 4) ib))))
   (gb (Mg PassesOwn.never rfl (FW (pv 6)) (Kb (i:=7) cu.nd rfl (Or.inl rfl)) (qb (Xf (PW.pt (NM (KB (vp (pe YK rfl T.e79 Ph (cb (pv 7) (cb (wQ (v:=.ty "int") rfl T.e455 zr rfl) ib))))) (OD (vp (pe YK rfl T.e79 Ph (cb (pv 7) (cb (wQ (v:=.ty "bool") rfl T.e453 dI rfl) ib))))))) (qb (Rb BJ)) zc)))
   (qb (Rb (qh (DT hU) (pv 6) (Eo (cb (Xg WK (pv 3) Ab (fun _ _=>rfl)) (cb (Xg WK (pv 3) Ab (fun _ _=>rfl)) ib))) (Bc _)))))))))))))),?_⟩
 simp only [Jd]
 refine Pf (fun σ' H'=>Sc K a ns H'∧∃ c,Gd t H' c 4 ds2∧σ'=[some (.ref a),some (.ref c),none,none,none,none,none,none]) (fun D' hD _ _ _=>?_) ?_
 ·(walk_at "RD")
  exact ⟨4,ds2,by rw [oZ],cU,S00.nt,fun c H' s1 n1 C=>hD _ _ ⟨S00.same s1 n1,c,C,rfl⟩⟩
 rintro σ1 H0 ⟨S0,c,C,rfl⟩
 simp only [Jd]
 refine Pf (fun σ' H'=>Ac H0 H'∧Sc K a ns H'∧∃ p zz sp,RL H' p (Ld zz sp)∧P13 zz sp∧σ'=[some (.ref a),some (.ref c),some (.ref p),none,none,none,none,none]) (fun D' hD _ _ _=>?_) ?_
 ·(walk_at "RD")
  exact ⟨rfl,S0,fun p n ds H' s1 S1 L D=>hD _ _ ⟨s1,S1,p,n,ds,L,D,rfl⟩⟩
 rintro σ1 H1 ⟨s1,S1,p,zz,sp,L,D,rfl⟩
 have hz:=D.hz
 have C1:=C.same s1
 have hgood:=SN ⟨by omega,hz.2⟩ D.good
 simp only [Jd]
 refine Ou (fun b H'=>b=false∧Ac H1 H'∧Sc K a ns H') (fun Q hQ=>?_) (fun H' hc=>?_) (fun H' hc=>?_)
 ·(walk_at "RD")
  refine ⟨c,p,[S "round",num zz],sp.map Jc,rfl,C1,L,⟨?_,fun x hx=>jr D x hx⟩,S1.nt,fun m hm=>?_,fun tq H2 s2 n2 e2=>⟨by decide,fun p1 hp1=>⟨tq,rfl,true,?_,hQ _ _ ⟨rfl,s2.trans (pb hp1),(S1.same s2 n2).new hp1⟩⟩⟩⟩
  ·have:=D.len
   rw [List.length_cons,List.length_map];omega
  ·rw [hgood] at hm
   cases hm
   exact D
  ·rw [hgood] at e2
   exact sN (SqT.of (by rw [rb (zb e2 hp1)];exact e2)) (SqT.of fb)
 ·cases hc.1
 obtain ⟨_,s2,S2⟩:=hc
 simp only [ez,Jd]
 refine Pf (fun σ' H''=>Ac H' H''∧Sc K a ns H''∧∃ tp rl rows,∃ i k:Nat,H'' tp=some (.tup [.ref rl,.int (i:Nat),.int (k:Nat)])∧RL H'' rl rows∧ROk rows∧rows ≠ []∧Flt rows i k∧σ'=[some (.ref a),some (.ref c),some (.ref p),some (.ref tp),none,none,none,none]) (fun D' hD _ _ _=>?_) ?_
 ·(walk_at "RD")
  exact ⟨p,zz,sp,rfl,S2,L.same s2,D,fun tp rl rows i k H'' s3 S3 e3 L3 hR hne hF=>hD _ _ ⟨s3,S3,tp,rl,rows,i,k,e3,L3,hR,hne,hF,rfl⟩⟩
 rintro σ1 H3 ⟨s3,S3,tp,rl,rows,i,k,e3,L3,hR,hne,hF,rfl⟩
 simp only [Jd]
 refine Pf (fun σ' H''=>Gd t H'' c 4 ds2∧Sc K a ns H''∧∃ tp rl rows,∃ i k:Nat,H'' tp=some (.tup [.ref rl,.int (i:Nat),.int (k:Nat)])∧RL H'' rl rows∧ROk rows∧rows ≠ []∧Flt rows i k∧σ'=[some (.ref a),some (.ref c),some (.ref p),some (.ref tp),none,none,none,none]) (fun D' hD _ _ _=>?_) ?_
 ·refine Cc (decide (ss ns 26 3=1)) (fun Q hQ=>?_) (fun hc=>?_) (fun hc=>?_)
  ·(walk_at "RD"; repeat (simp only [rg];walk_at "RD"))
   exact ⟨S3,by omega,by omega,by decide,hQ⟩
  ·(walk_at "RD")
   exact ⟨p,zz,sp,rfl,S3,L.same (s2.trans s3),D,fun tp rl rows i k H'' s4 S4 e3 L3 hR hne hF=>hD _ _ ⟨((C1.same s2).same s3).same s4,S4,tp,rl,rows,i,k,e3,L3,hR,hne,hF,rfl⟩⟩
  ·(walk_at "RD")
   exact hD _ _ ⟨(C1.same s2).same s3,S3,tp,rl,rows,i,k,e3,L3,hR,hne,hF,rfl⟩
 clear e3 L3 hR hne hF S3 s3
 rintro σ1 H3 ⟨C3,S3,tp,rl,rows,i,k,e3,L3,hR,hne,hF,rfl⟩
 simp only [Jd]
 refine Pf (fun σ' H''=>Sc K a ns H''∧Ac H3 H''∧∃ sp qs,H'' sp=some (.lst (qs.map V.ref))∧RQ H'' qs rows∧qs.Nodup∧(∀ q ∈ qs,q ≠ sp∧H3 q=none)∧σ'=[some (.ref a),some (.ref c),some (.ref p),some (.ref tp),some (.ref sp),none,none,none]) (fun D' hD _ _ _=>?_) ?_
 ·obtain ⟨qr,r1,r2,ral⟩:=L3
  have hqr:(qr.map V.ref).length ≤ 20:=by rw [List.length_map,r2];exact hR.ln
  (walk_at "RD")
  refine ⟨_,SqT.of e3,_,Me (j:=0) rfl,_,rfl,⟨_,SqL.of r1⟩,?_⟩
  refine yf.list (xs:=qr.map V.ref) (fun i ys H'=>∃ os:List Addr,ys=os.map V.ref∧RQ H' os (rows.take i)∧os.Nodup∧(∀ q ∈ os,H3 q=none)∧Ac H3 H'∧Sc K a ns H') (Nat.le_trans hqr (by decide)) ⟨[],rfl,⟨rfl,fun i q r h _=>by simp at h⟩,List.nodup_nil,fun q h=>by simp at h,Ac.refl _,S3⟩ ?_ ?_ ?_
  ·rintro i ys H' hi ⟨os,rfl,r,_,_,sm,_⟩
   refine ⟨(SqL.of r1).same sm,?_⟩
   rw [List.length_map,r.1,List.length_take]
   omega
  ·rintro i x ys H' hx ⟨os,rfl,r,nd,fr,sm,Sm⟩ N hN
   obtain ⟨qi,hqi,rfl⟩:=Fc hx
   have hi':i < rows.length:=by rw [← r2];exact (List.getElem?_eq_some_iff.mp hqi).1
   have hri:rows[i]? = some rows[i]:=List.getElem?_eq_getElem hi'
   have hq:=ral i qi _ hqi hri
   (walk_at "RD")
   refine ⟨Sub.name,_,.inl (SqL.of (sm _ _ hq)),fun p1 hp1=>?_⟩
   rw [show os.map V.ref ++ [V.ref p1]=(os ++ [p1]).map V.ref by rw [List.map_append];rfl]
   have hlt:os.length=i:=by rw [r.1,List.length_take];omega
   refine hN _ _ ⟨os ++ [p1],rfl,?_,?_,fun q hq=>?_,sm.trans (pb hp1),Sm.new hp1⟩
   ·rw [List.take_add_one,hri]
    exact (r.same (pb hp1)).app (RQ.one fb)
   ·refine List.nodup_append.mpr ⟨nd,by simp,fun x hx y hy e=>?_⟩
    rw [List.mem_singleton.mp hy] at e
    obtain ⟨j,hj⟩:=List.getElem?_of_mem hx
    have hjl:=(List.getElem?_eq_some_iff.mp hj).1
    obtain ⟨rj,hrj⟩:∃ rj,(rows.take i)[j]? = some rj:=⟨_,List.getElem?_eq_getElem (by rw [← r.1];exact hjl)⟩
    have:=r.2 j x rj hj hrj
    rw [e,hp1] at this
    cases this
   ·rcases List.mem_append.mp hq with z | z
    ·exact fr q z
    ·rw [List.mem_singleton.mp z];exact sm.free hp1
  ·rintro ys H' ⟨os,rfl,r,nd,fr,sm,Sm⟩ p1 hp1
   rw [List.take_of_length_le (by rw [List.length_map,r2];exact Nat.le_refl _)] at r
   refine hD _ _ ⟨Sm.new hp1,sm.trans (pb hp1),p1,os,fb,r.same (pb hp1),nd,fun q hq=>⟨fun e=>?_,fr q hq⟩,rfl⟩
   obtain ⟨j,hj⟩:=List.getElem?_of_mem hq
   have hjl:=(List.getElem?_eq_some_iff.mp hj).1
   obtain ⟨rj,hrj⟩:∃ rj,rows[j]? = some rj:=⟨_,List.getElem?_eq_getElem (by rw [← r.1];exact hjl)⟩
   have:=r.2 j q rj hj hrj
   rw [e,hp1] at this
   cases this
 rintro σ1 H4 ⟨S4,s4,sp,qs,e4,r4,nd4,f4,rfl⟩
 simp only [Jd]
 refine Pf (fun σ' H''=>H''=H4∧σ'=[some (.ref a),some (.ref c),some (.ref p),some (.ref tp),some (.ref sp),some (.int ((rows.length - 1:Nat):Int)),none,none]) (fun D' hD _ _ _=>?_) ?_
 ·have hp0:0 < rows.length:=List.length_pos_iff.mpr hne
  (walk_at "RD")
  refine ⟨_,.inl (SqL.of e4),hD _ _ ⟨rfl,?_⟩⟩
  rw [List.length_map,r4.1,show ((rows.length:Nat):Int) - 1=((rows.length - 1:Nat):Int) by omega]
 rintro σ1 H5 ⟨rfl,rfl⟩
 simp only [Jd]
 refine Pf (fun σ' H''=>Gd t H'' c 4 ds2∧Sc K a ns H''∧H'' tp=some (.tup [.ref rl,.int (i:Nat),.int (k:Nat)])∧∃ rows',RL H'' sp rows'∧ROk rows'∧rows' ≠ []∧Flt rows' i k∧σ'=[some (.ref a),some (.ref c),some (.ref p),some (.ref tp),some (.ref sp),some (.int ((rows.length - 1:Nat):Int)),none,none]) (fun D' hD _ _ _=>?_) ?_
 ·have hp0:0 < rows.length:=List.length_pos_iff.mpr hne
  have e3':=s4 _ _ e3
  refine Cc (decide (ss ns 27 2=1) && decide (i < rows.length - 1)) (fun Q hQ=>?_) (fun hc=>?_) (fun hc=>?_)
  ·(walk_at "RD"; repeat (simp only [rg];walk_at "RD"))
   refine ⟨S4,by omega,by omega,by decide,?_⟩
   by_cases z:ss ns 27 2=1
   ·rw [if_pos (decide_eq_true z)]
    rw [decide_eq_true z,Bool.true_and] at hQ
    refine ⟨_,SqT.of e3',_,Me (j:=1) rfl,?_⟩
    refine ⟨_,rfl,?_⟩
    rw [show decide (((i:Nat):Int) < ((rows.length - 1:Nat):Int))=decide (i < rows.length - 1) by rw [Bool.eq_iff_iff,decide_eq_true_eq,decide_eq_true_eq];omega]
    exact hQ
   ·rw [if_neg (by rw [decide_eq_true_eq];exact z)]
    rw [decide_eq_false z,Bool.false_and] at hQ
    exact hQ
  ·rw [Bool.and_eq_true,decide_eq_true_eq,decide_eq_true_eq] at hc
   have hlast:rows.length - 1 < qs.length:=by rw [r4.1];omega
   have hql:qs[rows.length - 1]? = some qs[rows.length - 1]:=List.getElem?_eq_getElem hlast
   have hrl:rows[rows.length - 1]? = some rows[rows.length - 1]:=List.getElem?_eq_getElem (by omega)
   have hql2:=r4.2 _ _ _ hql hrl
   have hgood:=hR.al _ (List.mem_of_getElem? hrl)
   obtain ⟨hsp,hf3⟩:=f4 _ (List.mem_of_getElem? hql)
   generalize qs[rows.length - 1]=ql at hql hql2 hsp hf3
   generalize rows[rows.length - 1]=rlast at hrl hql2 hgood
   have htq:tp ≠ ql:=fun e=>by rw [e,hql2] at e3';cases e3'
   have hpos:0 < rlast.length:=List.length_pos_iff.mpr hgood.1
   (walk_at "RD")
   have hat:atI (qs.map V.ref) ((rows.length - 1:Nat):Int)=some (V.ref ql):=Me (by rw [List.getElem?_map,hql];rfl)
   have hsx:((Cb rlast).length:Int)=(rlast.length:Nat):=by rw [Fd]
   refine ⟨_,SqL.of e4,_,hat,_,SqL.of e4,_,hat,_,rfl,_,.inl (SqL.of hql2),by rw [hsx];omega,_,rfl,_,hql2,1 % rlast.length,?_,?_⟩
   ·rw [hsx,show (1:Int) % ((rlast.length:Nat):Int)=((1 % rlast.length:Nat):Int) by rw [Int.natCast_emod];rfl,Fd]
    exact YO (Nat.mod_lt _ hpos)
   ·rw [rp]
    exact hD _ _ ⟨C3.same (s4.updN hf3),S4.set hql2 (fun ob z e=>by cases e),by rw [rb htq];exact e3',rows.set (rows.length - 1) (rlast.set (1 % rlast.length) (S "x1")),⟨qs,by rw [rb (Ne.symm hsp)];exact e4,r4.set nd4 hql _⟩,hR.set (dt.x1 hgood _),fun z=>by have:=congrArg List.length z;rw [List.length_set] at this;exact hne (List.length_eq_zero_iff.mp this),hF.set hc.2,rfl⟩
  ·(walk_at "RD")
   exact hD _ _ ⟨C3.same s4,S4,e3',rows,⟨qs,e4,r4⟩,hR,hne,hF,rfl⟩
 rintro σ1 H6 ⟨C6,S6,e6,rows',L6,hR6,hne6,hF6,rfl⟩
 simp only [Jd]
 refine Pf (fun σ' H''=>Ac H6 H''∧∃ tq,H'' tq=some (.tup [.int (i:Nat),.int (k:Nat)])∧σ'=[some (.ref a),some (.ref c),some (.ref p),some (.ref tp),some (.ref sp),some (.int ((rows.length - 1:Nat):Int)),some (.ref tq),none]) (fun D' hD _ _ _=>?_) ?_
 ·(walk_at "RD")
  cases rows' with
  | nil=>exact absurd rfl hne6
  | cons r0 rest=>
   refine ⟨c,sp,r0,rest,rfl,C6,L6,hR6,S6.nt,(fun m hm=>by rw [hF6 r0 rest rfl] at hm;cases hm),fun tq H'' s7 _ e7=>hD _ _ ⟨s7,tq,?_,rfl⟩⟩
   rw [hF6 r0 rest rfl] at e7
   exact e7
 rintro σ1 H7 ⟨s7,tq,e7,rfl⟩
 (walk_at "RD")
 refine ⟨⟨_,SqT.of e7⟩,?_⟩
 refine nV (xs:=[.int (i:Nat),.int (k:Nat)]) (fun j σ H''=>H''=H7∧∃ x,σ=[some (.ref a),some (.ref c),some (.ref p),some (.ref tp),some (.ref sp),some (.int ((rows.length - 1:Nat):Int)),some (.ref tq),x]) ⟨rfl,_,rfl⟩ (fun j σ H'' _ h=>by obtain ⟨rfl,_⟩:=h;exact SqT.of e7) ?_ ?_
 ·rintro j x σ H'' hx ⟨rfl,y,rfl⟩
  have hxi:∃ v,x=.int v:=by
   match j,hx with
   | 0,hx=>cases hx;exact ⟨_,rfl⟩
   | 1,hx=>cases hx;exact ⟨_,rfl⟩
   | j + 2,hx=>simp at hx
  obtain ⟨v,rfl⟩:=hxi
  (walk_at "RD")
  refine Cc false (fun Q hQ=>?_) (fun hc=>?_) (fun _=>?_)
  ·(walk_at "RD")
   refine ⟨_,.int _,_,rfl,?_⟩
   (walk_at "RD")
   refine ⟨_,.int _,_,rfl,?_⟩
   (walk_at "RD")
   exact hQ
  ·cases hc
  ·(walk_at "RD")
   exact ⟨_,rfl⟩
 ·rintro σ H'' ⟨rfl,y,rfl⟩
  have e6':=s7 _ _ e6
  (walk_at "RD")
  refine ⟨_,SqT.of e6',_,Me (j:=1) rfl,_,SqT.of e6',_,Me (j:=2) rfl,by decide,fun p1 hp1=>⟨true,sN (SqT.of (by rw [rb (zb e7 hp1)];exact e7)) (SqT.of fb),q _⟩⟩
end
end My
def PySem.W.Fast.tw3872148472476524273:Nat:=0
def PySem.W.Fast.tw8043180509689972314:Nat:=0
def PySem.W.Fast.tw15732424142884213808:Nat:=0
def PySem.W.Fast.tw3680171502165230340:Nat:=0
def PySem.W.Fast.tw5153276271217694971:Nat:=0
def PySem.W.Fast.tw7009537809518616818:Nat:=0
def PySem.W.Fast.tw8632305359193644330:Nat:=0
def PySem.W.Fast.tw3764267494294941476:Nat:=0
def PySem.W.Fast.tw2729762287285933994:Nat:=0
def PySem.W.Fast.tw1596817358948839366:Nat:=0
def PySem.W.Fast.tw7165204516831450188:Nat:=0
def PySem.W.Fast.tw2762304083855964446:Nat:=0
def PySem.W.Fast.tw1348520382526750115:Nat:=0
def PySem.W.Fast.tw12729605594430646504:Nat:=0
def PySem.W.Fast.tw2398537593455704366:Nat:=0
def PySem.W.Fast.tw9386942158767755471:Nat:=0
def PySem.W.Fast.tw4900236773670488762:Nat:=0
def PySem.W.Fast.tw17662581412298093576:Nat:=0
def PySem.W.Fast.tw2691281571601479628:Nat:=0
def PySem.W.Fast.tw12861753858996463946:Nat:=0
def PySem.W.Fast.tw14262811394203767498:Nat:=0
def PySem.W.Fast.tw16270822321879323937:Nat:=0
def PySem.W.Fast.tw1861052327680217859:Nat:=0
def PySem.W.Fast.tw33677140771505835:Nat:=0
def PySem.W.Fast.tw1001619017073731492:Nat:=0
def PySem.W.Fast.tw2227301580546036416:Nat:=0
def PySem.W.Fast.tw1340574206597409274:Nat:=0
def PySem.W.Fast.tw118381806935716888:Nat:=0
def PySem.W.Fast.tw11298079249107334913:Nat:=0
def PySem.W.Fast.tw8346150709601776885:Nat:=0
def PySem.W.Fast.tw12932404415787794744:Nat:=0
def PySem.W.Fast.tw6327385549144389058:Nat:=0
def PySem.W.Fast.tw1140670940725051019:Nat:=0
def PySem.W.Fast.tw14331118819144233512:Nat:=0
def PySem.W.Fast.tw4707841946267970521:Nat:=0
def PySem.W.Fast.tw5628577139322523365:Nat:=0
def PySem.W.Fast.tw2888703841937168943:Nat:=0
def PySem.W.Fast.tw7507209852912015925:Nat:=0
def PySem.W.Fast.tw16623128588553542438:Nat:=0
def PySem.W.Fast.tw13965012303564487432:Nat:=0
def PySem.W.Fast.tw16087755887539282896:Nat:=0
def PySem.W.Fast.tw1166232119036196439:Nat:=0
def PySem.W.Fast.tw71357550271856036:Nat:=0
def PySem.W.Fast.tw9641571468001606864:Nat:=0
def PySem.W.Fast.tw542614793267331156:Nat:=0
def PySem.W.Fast.tw17615428943349331081:Nat:=0
def PySem.W.Fast.tw5509703510140383356:Nat:=0
def PySem.W.Fast.tw1290990478783135016:Nat:=0
def PySem.W.Fast.tw7509138883002216943:Nat:=0
def PySem.W.Fast.tw32713810203340361:Nat:=0
def PySem.W.Fast.tw29181755806017351:Nat:=0
def PySem.W.Fast.tw9993459239941615640:Nat:=0
def PySem.W.Fast.tw4257830184823462358:Nat:=0
def PySem.W.Fast.tw6647582349185816942:Nat:=0
def PySem.W.Fast.tw17155055561141780877:Nat:=0
def PySem.W.Fast.tw17092821856383346618:Nat:=0
def PySem.W.Fast.tw4047731482374681974:Nat:=0
def PySem.W.Fast.tw8467412552776368400:Nat:=0
def PySem.W.Fast.tw15798083368735999138:Nat:=0
def PySem.W.Fast.tw12144443721166277564:Nat:=0
def PySem.W.Fast.tw3240263465438224609:Nat:=0
def PySem.W.Fast.tw14358707889876970272:Nat:=0
def PySem.W.Fast.tw7201881699158173960:Nat:=0
def PySem.W.Fast.tw14598898932813903606:Nat:=0
def PySem.W.Fast.tw5790067673809136531:Nat:=0
def PySem.W.Fast.tw18198414001449424640:Nat:=0
def PySem.W.Fast.tw13943648118050854779:Nat:=0
def PySem.W.Fast.tw5973159923109624283:Nat:=0
def PySem.W.Fast.tw8399255058182720225:Nat:=0
def PySem.W.Fast.tw13165959382594297266:Nat:=0
def PySem.W.Fast.tw8003718968454249718:Nat:=0
def PySem.W.Fast.tw7399199009248101067:Nat:=0
def PySem.W.Fast.tw6013207312636294078:Nat:=0
def PySem.W.Fast.tw10038931739991326727:Nat:=0
def PySem.W.Fast.tw5853728927493495339:Nat:=0
def PySem.W.Fast.tw8729761639744479586:Nat:=0
def PySem.W.Fast.tw17484375758500729603:Nat:=0
def PySem.W.Fast.tw1440836828906199379:Nat:=0
def PySem.W.Fast.tw2702361088368021786:Nat:=0
def PySem.W.Fast.tw8671170552907489531:Nat:=0
def PySem.W.Fast.tw6459173603135340356:Nat:=0
def PySem.W.Fast.tw57584413011661552:Nat:=0
def PySem.W.Fast.tw15547001951429151620:Nat:=0
def PySem.W.Fast.tw9522149903404981092:Nat:=0
def PySem.W.Fast.tw7147271581705726966:Nat:=0
def PySem.W.Fast.tw12260573576917621818:Nat:=0
def PySem.W.Fast.tw6051033545082388867:Nat:=0
def PySem.W.Fast.tw5703948793663156461:Nat:=0
def PySem.W.Fast.tw16183965656099142888:Nat:=0
def PySem.W.Fast.tw6195277089305045298:Nat:=0
def PySem.W.Fast.tw13788451903695649183:Nat:=0
def PySem.W.Fast.tw16363404656115997148:Nat:=0
def PySem.W.Fast.tw1345206584899355323:Nat:=0
def PySem.W.Fast.tw18160417277779977753:Nat:=0
def PySem.W.Fast.tw9463548943844164143:Nat:=0
def PySem.W.Fast.tw1167294301665206488:Nat:=0
def PySem.W.Fast.tw234417863319873635:Nat:=0
def PySem.W.Fast.tw12066365033878889377:Nat:=0
def PySem.W.Fast.tw7840677453575835966:Nat:=0
def PySem.W.Fast.tw3470060111760579922:Nat:=0
def PySem.W.Fast.tw9635926974410345136:Nat:=0
def PySem.W.Fast.tw9489203651900887327:Nat:=0
def PySem.W.Fast.tw12010470205832909958:Nat:=0
def PySem.W.Fast.tw5367731863739626653:Nat:=0
def PySem.W.Fast.tw3793428719774797962:Nat:=0
def PySem.W.Fast.tw8370171933271007551:Nat:=0
def PySem.W.Fast.tw11907256342964763821:Nat:=0
def PySem.W.Fast.tw3729054238439581512:Nat:=0
def PySem.W.Fast.tw12588231606026478821:Nat:=0
def PySem.W.Fast.tw898874913362792480:Nat:=0
def PySem.W.Fast.tw11893167677234101452:Nat:=0
def PySem.W.Fast.tw4788286686283426591:Nat:=0
def PySem.W.Fast.tw17331319459107824332:Nat:=0
def PySem.W.Fast.tw14668905428959177049:Nat:=0
def PySem.W.Fast.tw2401234126489508490:Nat:=0
def PySem.W.Fast.tw18123824491338497072:Nat:=0
def PySem.W.Fast.tw15814021169424256636:Nat:=0
def PySem.W.Fast.tw171947536184264956:Nat:=0
def PySem.W.Fast.tw4355403709345129788:Nat:=0
def PySem.W.Fast.tw9203897407256462721:Nat:=0
def PySem.W.Fast.tw6852488799124189460:Nat:=0
def PySem.W.Fast.tw16265267228021792865:Nat:=0
def PySem.W.Fast.tw2806634028369795004:Nat:=0
def PySem.W.Fast.tw11495948362333752158:Nat:=0
def PySem.W.Fast.tw389995063932480121:Nat:=0
def PySem.W.Fast.tw10605610306369779403:Nat:=0
def PySem.W.Fast.tw7014038372441328000:Nat:=0
def PySem.W.Fast.tw3835118532085250788:Nat:=0
def PySem.W.Fast.tw15105979068898544075:Nat:=0
def PySem.W.Fast.tw11539536469866208041:Nat:=0
def PySem.W.Fast.tw1935562504019000557:Nat:=0
def PySem.W.Fast.tw18131417302094634576:Nat:=0
def PySem.W.Fast.tw15169060312375759312:Nat:=0
def PySem.W.Fast.tw12804760786108776949:Nat:=0
def PySem.W.Fast.tw17638672044271124537:Nat:=0
def PySem.W.Fast.tw18006810986685841620:Nat:=0
def PySem.W.Fast.tw11494906766465355622:Nat:=0
def PySem.W.Fast.tw15068122112104560771:Nat:=0
def PySem.W.Fast.tw5206520994829501595:Nat:=0
def PySem.W.Fast.tw11896679393235905407:Nat:=0
def PySem.W.Fast.tw13900493941221915684:Nat:=0
def PySem.W.Fast.tw11663656276418734619:Nat:=0
def PySem.W.Fast.tw3730118680527821004:Nat:=0
def PySem.W.Fast.tw6598880943351521037:Nat:=0
def PySem.W.Fast.tw15371600216634362915:Nat:=0
def PySem.W.Fast.tw5366256675673900039:Nat:=0
def PySem.W.Fast.tw13584089703966889519:Nat:=0
def PySem.W.Fast.tw15925660322476178254:Nat:=0
def PySem.W.Fast.tw13103621196434526476:Nat:=0
def PySem.W.Fast.tw4797013223760598466:Nat:=0
def PySem.W.Fast.tw13333630174574736197:Nat:=0
def PySem.W.Fast.tw7349868491788230123:Nat:=0
def PySem.W.Fast.tw17076826720409077797:Nat:=0
def PySem.W.Fast.tw137957881227261132:Nat:=0
def PySem.W.Fast.tw16639053169356518889:Nat:=0
def PySem.W.Fast.tw1523494351803452017:Nat:=0
def PySem.W.Fast.tw6376513234804391488:Nat:=0
def PySem.W.Fast.tw5215975222987586314:Nat:=0
def PySem.W.Fast.tw18106332211328867692:Nat:=0
def PySem.W.Fast.tw4458983526077208391:Nat:=0
def PySem.W.Fast.tw8627215132462102646:Nat:=0
def PySem.W.Fast.tw6689551529243816257:Nat:=0
def PySem.W.Fast.tw12281602269580606800:Nat:=0
def PySem.W.Fast.tw16763505320282427746:Nat:=0
def PySem.W.Fast.tw5079669860768898640:Nat:=0
def PySem.W.Fast.tw17138497471928863580:Nat:=0
def PySem.W.Fast.tw16149388216481174655:Nat:=0
def PySem.W.Fast.tw5974982205113578223:Nat:=0
def PySem.W.Fast.tw1259681933040187255:Nat:=0
def PySem.W.Fast.tw13506221657690871074:Nat:=0
def PySem.W.Fast.tw8515731161515479479:Nat:=0
def PySem.W.Fast.tw10300977166402651459:Nat:=0
def PySem.W.Fast.tw16707242589604706349:Nat:=0
def PySem.W.Fast.tw15977291016998760824:Nat:=0
def PySem.W.Fast.tw17643145548637675521:Nat:=0
def PySem.W.Fast.tw12858522739763311607:Nat:=0
def PySem.W.Fast.tw17838793025141582878:Nat:=0
def PySem.W.Fast.tw2521165602701824553:Nat:=0
def PySem.W.Fast.tw4241744128265666742:Nat:=0
def PySem.W.Fast.tw17869178399065088824:Nat:=0
def PySem.W.Fast.tw6085800787610403944:Nat:=0
def PySem.W.Fast.tw16928680656210942451:Nat:=0
def PySem.W.Fast.tw3353938056194488832:Nat:=0
def PySem.W.Fast.tw5834786299499785938:Nat:=0
def PySem.W.Fast.tw3141443054902016444:Nat:=0
def PySem.W.Fast.tw13208962812299343770:Nat:=0
def PySem.W.Fast.tw1777271999439901052:Nat:=0
def PySem.W.Fast.tw342919896123306772:Nat:=0
def PySem.W.Fast.tw15628144545990378338:Nat:=0
def PySem.W.Fast.tw8637623031151580836:Nat:=0
def PySem.W.Fast.tw15369782016225396792:Nat:=0
def PySem.W.Fast.tw17940939728513690646:Nat:=0
def PySem.W.Fast.tw7322704406437478088:Nat:=0
def PySem.W.Fast.tw2691077318272051768:Nat:=0
def PySem.W.Fast.tw10128689216941861982:Nat:=0
def PySem.W.Fast.tw16740318085388836871:Nat:=0
def PySem.W.Fast.tw113656729826733435:Nat:=0
def PySem.W.Fast.tw14132609278837451099:Nat:=0
def PySem.W.Fast.tw1636147786757284125:Nat:=0
def PySem.W.Fast.tw12044454243444526656:Nat:=0
def PySem.W.Fast.tw6456467389462436192:Nat:=0
def PySem.W.Fast.tw8344377663375557943:Nat:=0
def PySem.W.Fast.tw4517748057033367062:Nat:=0
def PySem.W.Fast.tw1601435234448046646:Nat:=0
def PySem.W.Fast.tw7350755407578380227:Nat:=0
def PySem.W.Fast.tw10906304261419903784:Nat:=0
def PySem.W.Fast.tw6083622901412458446:Nat:=0
def PySem.W.Fast.tw12822255200894493778:Nat:=0
def PySem.W.Fast.tw8118283882643400022:Nat:=0
def PySem.W.Fast.tw12893948720880315418:Nat:=0
def PySem.W.Fast.tw3000844923726256716:Nat:=0
def PySem.W.Fast.tw13892115126330075496:Nat:=0
def PySem.W.Fast.tw17221350201101964228:Nat:=0
def PySem.W.Fast.tw15284608486798476348:Nat:=0
def PySem.W.Fast.tw16765079252587732108:Nat:=0
def PySem.W.Fast.tw3448099627466487723:Nat:=0
def PySem.W.Fast.tw2039644678671888987:Nat:=0
def PySem.W.Fast.tw7552309796253710841:Nat:=0
def PySem.W.Fast.tw6044595183689389599:Nat:=0
def PySem.W.Fast.tw5870142849233716029:Nat:=0
def PySem.W.Fast.tw15540273312151990946:Nat:=0
def PySem.W.Fast.tw13251811339759257012:Nat:=0
def PySem.W.Fast.tw17493413989287032533:Nat:=0
def PySem.W.Fast.tw12452650267406689388:Nat:=0
def PySem.W.Fast.tw1368725609840692607:Nat:=0
def PySem.W.Fast.tw16008699272665638182:Nat:=0
def PySem.W.Fast.tw11712768316285388841:Nat:=0
def PySem.W.Fast.tw7383863321147143094:Nat:=0
def PySem.W.Fast.tw1260833572616340888:Nat:=0
def PySem.W.Fast.tw18023508466022746655:Nat:=0
def PySem.W.Fast.tw10767193125753597750:Nat:=0
def PySem.W.Fast.tw596534361583410681:Nat:=0
def PySem.W.Fast.tw14026631032272773528:Nat:=0
def PySem.W.Fast.tw16982968478974664366:Nat:=0
def PySem.W.Fast.tw293330769415837619:Nat:=0
def PySem.W.Fast.tw3786800685497839437:Nat:=0
def PySem.W.Fast.tw13160884205223817917:Nat:=0
def PySem.W.Fast.tw443244864392889160:Nat:=0
def PySem.W.Fast.tw10853044911106630464:Nat:=0
def PySem.W.Fast.tw896796434560498970:Nat:=0
def PySem.W.Fast.tw8445978292794838243:Nat:=0
def PySem.W.Fast.tw17056060324146653907:Nat:=0
def PySem.W.Fast.tw6603793965963456251:Nat:=0
def PySem.W.Fast.tw2718356325180643600:Nat:=0
def PySem.W.Fast.tw13007223813753804050:Nat:=0
def PySem.W.Fast.tw12852736014630257507:Nat:=0
def PySem.W.Fast.tw16612061316495324625:Nat:=0
def PySem.W.Fast.tw3863365526824967484:Nat:=0
def PySem.W.Fast.tw12611624509436792584:Nat:=0
def PySem.W.Fast.tw15230130308027791875:Nat:=0
def PySem.W.Fast.tw14399095251702699282:Nat:=0
def PySem.W.Fast.tw5945264385941012155:Nat:=0
def PySem.W.Fast.tw14303606687555207485:Nat:=0
def PySem.W.Fast.tw13279566993351034581:Nat:=0
def PySem.W.Fast.tw13482214186380728613:Nat:=0
def PySem.W.Fast.tw5054623421529313073:Nat:=0
def PySem.W.Fast.tw15682228045060999414:Nat:=0
def PySem.W.Fast.tw924352770198317910:Nat:=0
def PySem.W.Fast.tw16830492440956141628:Nat:=0
def PySem.W.Fast.tw8007819675405323755:Nat:=0
def PySem.W.Fast.tw1016555562502141145:Nat:=0
def PySem.W.Fast.tw6253930369067083377:Nat:=0
def PySem.W.Fast.tw18094088409909700653:Nat:=0
def PySem.W.Fast.tw14382219331102271053:Nat:=0
def PySem.W.Fast.tw14089863952932561360:Nat:=0
def PySem.W.Fast.tw13761914153709291560:Nat:=0
def PySem.W.Fast.tw8912641709055813209:Nat:=0
def PySem.W.Fast.tw7097080684628788319:Nat:=0
def PySem.W.Fast.tw10734197916024989041:Nat:=0
def PySem.W.Fast.tw9372665135554081925:Nat:=0
def PySem.W.Fast.tw5831129433938141970:Nat:=0
def PySem.W.Fast.tw16170932990657714223:Nat:=0
def PySem.W.Fast.tw6154756996444772185:Nat:=0
def PySem.W.Fast.tw16456086998236724290:Nat:=0
def PySem.W.Fast.tw6347020011130133681:Nat:=0
def PySem.W.Fast.tw576878782155584961:Nat:=0
def PySem.W.Fast.tw16204952706214871393:Nat:=0
def PySem.W.Fast.tw2184563681047396182:Nat:=0
def PySem.W.Fast.tw18227263399878628544:Nat:=0
def PySem.W.Fast.tw17012625159933855029:Nat:=0
def PySem.W.Fast.tw11800208071532232485:Nat:=0
def PySem.W.Fast.tw5022778624528917278:Nat:=0
def PySem.W.Fast.tw12396697647691397559:Nat:=0
def PySem.W.Fast.tw12395092286973506533:Nat:=0
def PySem.W.Fast.tw6658227444442487824:Nat:=0
def PySem.W.Fast.tw7342659523341589303:Nat:=0
def PySem.W.Fast.tw5845622186444923471:Nat:=0
def PySem.W.Fast.tw10623182081281582822:Nat:=0
def PySem.W.Fast.tw10875551672145566471:Nat:=0
def PySem.W.Fast.tw4469961885108335450:Nat:=0
def PySem.W.Fast.tw9068620184814395047:Nat:=0
def PySem.W.Fast.tw11140539366544099322:Nat:=0
def PySem.W.Fast.tw16106108346306591205:Nat:=0
def PySem.W.Fast.tw16232949782333462475:Nat:=0
def PySem.W.Fast.tw18105161202049358343:Nat:=0
def PySem.W.Fast.tw4057669153550972023:Nat:=0
def PySem.W.Fast.tw3288594888443406429:Nat:=0
def PySem.W.Fast.tw1405148724661189677:Nat:=0
def PySem.W.Fast.tw9955424192633271341:Nat:=0
def PySem.W.Fast.tw3493354603397217431:Nat:=0
def PySem.W.Fast.tw11425204688503525653:Nat:=0
def PySem.W.Fast.tw1985267507232221675:Nat:=0
def PySem.W.Fast.tw13741031618416171299:Nat:=0
def PySem.W.Fast.tw2379927762076259037:Nat:=0
def PySem.W.Fast.tw2401185403002197415:Nat:=0
def PySem.W.Fast.tw7587557696438119281:Nat:=0
def PySem.W.Fast.tw12481054308166432657:Nat:=0
def PySem.W.Fast.tw849554074873271219:Nat:=0
def PySem.W.Fast.tw728220768395410229:Nat:=0
def PySem.W.Fast.tw17405070212883748776:Nat:=0
def PySem.W.Fast.tw17346478094407657073:Nat:=0
def PySem.W.Fast.tw9545705326508021204:Nat:=0
def PySem.W.Fast.tw12952050754284854251:Nat:=0
def PySem.W.Fast.tw10346378051027201144:Nat:=0
def PySem.W.Fast.tw6567619857625411082:Nat:=0
def PySem.W.Fast.tw14572609990006869323:Nat:=0
def PySem.W.Fast.tw6061244880007870889:Nat:=0
def PySem.W.Fast.tw2175941342718072600:Nat:=0
def PySem.W.Fast.tw8616269577008546273:Nat:=0
def PySem.W.Fast.tw13518871108991108569:Nat:=0
def PySem.W.Fast.tw7464029410978203297:Nat:=0
def PySem.W.Fast.tw13008502438725623700:Nat:=0
def PySem.W.Fast.tw8272326421654422871:Nat:=0
def PySem.W.Fast.tw4445289855831662832:Nat:=0
def PySem.W.Fast.tw13392436764423538830:Nat:=0
def PySem.W.Fast.tw1968522080926791244:Nat:=0
def PySem.W.Fast.tw5480500808431354246:Nat:=0
def PySem.W.Fast.tw13792755921160017926:Nat:=0
def PySem.W.Fast.tw11433446156445083597:Nat:=0
def PySem.W.Fast.tw4141089037829207001:Nat:=0
def PySem.W.Fast.tw1548426951341265823:Nat:=0
def PySem.W.Fast.tw2742489160494813902:Nat:=0
def PySem.W.Fast.tw12684152521578812605:Nat:=0
def PySem.W.Fast.tw11928675525917595122:Nat:=0
def PySem.W.Fast.tw7859921555884004196:Nat:=0
def PySem.W.Fast.tw3686680405427011569:Nat:=0
def PySem.W.Fast.tw1239768080141806799:Nat:=0
def PySem.W.Fast.tw600315745415668786:Nat:=0
def PySem.W.Fast.tw4947377625320209232:Nat:=0
def PySem.W.Fast.tw4251530436709198423:Nat:=0
def PySem.W.Fast.tw10759468240796088986:Nat:=0
def PySem.W.Fast.tw7555829417369068077:Nat:=0
def PySem.W.Fast.tw8993018114969546017:Nat:=0
def PySem.W.Fast.tw9327970548659746117:Nat:=0
def PySem.W.Fast.tw1947413674377450103:Nat:=0
def PySem.W.Fast.tw9216542358300304907:Nat:=0
def PySem.W.Fast.tw15012063901179033009:Nat:=0
def PySem.W.Fast.tw14216996915052505801:Nat:=0
def PySem.W.Fast.tw2441265327010211428:Nat:=0
def PySem.W.Fast.tw11793556729694004981:Nat:=0
def PySem.W.Fast.tw11415170727909947670:Nat:=0
def PySem.W.Fast.tw810653490915998901:Nat:=0
def PySem.W.Fast.tw2419508995018398242:Nat:=0
def PySem.W.Fast.tw7605637679483077354:Nat:=0
def PySem.W.Fast.tw6735351724205754855:Nat:=0
def PySem.W.Fast.tw12224855746311138441:Nat:=0
def PySem.W.Fast.tw8916386471651226232:Nat:=0
def PySem.W.Fast.tw5951726459935001292:Nat:=0
def PySem.W.Fast.tw4835627030558445843:Nat:=0
def PySem.W.Fast.tw16759405551891793209:Nat:=0
def PySem.W.Fast.tw9504393765497445434:Nat:=0
def PySem.W.Fast.tw389611061406020639:Nat:=0
def PySem.W.Fast.tw1998263236933001434:Nat:=0
def PySem.W.Fast.tw18424660319080318526:Nat:=0
def PySem.W.Fast.tw4994599996716735311:Nat:=0
def PySem.W.Fast.tw11793992773335805843:Nat:=0
def PySem.W.Fast.tw5993774315922481930:Nat:=0
def PySem.W.Fast.tw3694802034391090615:Nat:=0
def PySem.W.Fast.tw5120194601531548904:Nat:=0
def PySem.W.Fast.tw17841401083021960710:Nat:=0
def PySem.W.Fast.tw8710350688093788196:Nat:=0
def PySem.W.Fast.tw2621514408875049019:Nat:=0
def PySem.W.Fast.tw14921891635439213875:Nat:=0
def PySem.W.Fast.tw10968378495673263142:Nat:=0
def PySem.W.Fast.tw13753460423138631129:Nat:=0
def PySem.W.Fast.tw2015805760658610320:Nat:=0
def PySem.W.Fast.tw18058756250607256034:Nat:=0
def PySem.W.Fast.tw15621170005404727607:Nat:=0
def PySem.W.Fast.tw18384062352055658125:Nat:=0
def PySem.W.Fast.tw6407890337568875144:Nat:=0
def PySem.W.Fast.tw3623408410156530308:Nat:=0
def PySem.W.Fast.tw10806008163296803802:Nat:=0
def PySem.W.Fast.tw7548139660972214913:Nat:=0
def PySem.W.Fast.tw7875109422037502421:Nat:=0
def PySem.W.Fast.tw15136088447722132881:Nat:=0
def PySem.W.Fast.tw13684002022511777147:Nat:=0
def PySem.W.Fast.tw16333346551152405999:Nat:=0
def PySem.W.Fast.tw13438130351303376145:Nat:=0
def PySem.W.Fast.tw14934574213796039439:Nat:=0
def PySem.W.Fast.tw1978697752811005663:Nat:=0
def PySem.W.Fast.tw15632855046989600121:Nat:=0
def PySem.W.Fast.tw4667953964127766760:Nat:=0
def PySem.W.Fast.tw5748351466846639520:Nat:=0
def PySem.W.Fast.tw4812447926749729389:Nat:=0
def PySem.W.Fast.tw2026155417915772761:Nat:=0
def PySem.W.Fast.tw2639651665626563774:Nat:=0
def PySem.W.Fast.tw17952852944495824514:Nat:=0
def PySem.W.Fast.tw11048952345409957912:Nat:=0
def PySem.W.Fast.tw5848295534450699619:Nat:=0
def PySem.W.Fast.tw10957685934799212673:Nat:=0
def PySem.W.Fast.tw13711958307702092232:Nat:=0
def PySem.W.Fast.tw11023652686207183784:Nat:=0
def PySem.W.Fast.tw1202444801135721952:Nat:=0
def PySem.W.Fast.tw12580961060713896006:Nat:=0
def PySem.W.Fast.tw15797401447697487475:Nat:=0
def PySem.W.Fast.tw17759823532293951095:Nat:=0
def PySem.W.Fast.tw4926576253384922622:Nat:=0
def PySem.W.Fast.tw17057345734186814945:Nat:=0
def PySem.W.Fast.tw7605834983988913470:Nat:=0
def PySem.W.Fast.tw18321350975418017953:Nat:=0
def PySem.W.Fast.tw766306319489381705:Nat:=0
def PySem.W.Fast.tw3845083719180977811:Nat:=0
def PySem.W.Fast.tw13337730312379742895:Nat:=0
def PySem.W.Fast.tw18381242195835294044:Nat:=0
def PySem.W.Fast.tw8248484072287178809:Nat:=0
def PySem.W.Fast.tw456613292165397362:Nat:=0
def PySem.W.Fast.tw14565675862174940430:Nat:=0
def PySem.W.Fast.tw3516580379054356456:Nat:=0
def PySem.W.Fast.tw9922751193931247886:Nat:=0
def PySem.W.Fast.tw4294311520347439216:Nat:=0
def PySem.W.Fast.tw11101803726154845161:Nat:=0
def PySem.W.Fast.tw7271527195749803686:Nat:=0
def PySem.W.Fast.tw11068867019751957323:Nat:=0
def PySem.W.Fast.tw9639785010885970798:Nat:=0
def PySem.W.Fast.tw2591093183884761175:Nat:=0
def PySem.W.Fast.tw11076595161159636863:Nat:=0
def PySem.W.Fast.tw17206794039465468718:Nat:=0
def PySem.W.Fast.tw5142334324401367734:Nat:=0
def PySem.W.Fast.tw5976223785286379255:Nat:=0
def PySem.W.Fast.tw4816308186946479781:Nat:=0
def PySem.W.Fast.tw12186528343795901621:Nat:=0
def PySem.W.Fast.tw3346414694799143116:Nat:=0
def PySem.W.Fast.tw4161181189665124262:Nat:=0
def PySem.W.Fast.tw4240851109866221978:Nat:=0
def PySem.W.Fast.tw9038417619667614703:Nat:=0
def PySem.W.Fast.tw14692236713886122031:Nat:=0
def PySem.W.Fast.tw16155254982784578980:Nat:=0
def PySem.W.Fast.tw759436865231457366:Nat:=0
def PySem.W.Fast.tw17542825223291190556:Nat:=0
def PySem.W.Fast.tw16287704148229296705:Nat:=0
def PySem.W.Fast.tw15733556653540087984:Nat:=0
def PySem.W.Fast.tw12874137357113898381:Nat:=0
def PySem.W.Fast.tw9145896603363829215:Nat:=0
def PySem.W.Fast.tw307502244943426766:Nat:=0
def PySem.W.Fast.tw545528848738652705:Nat:=0
def PySem.W.Fast.tw8185728592446437178:Nat:=0
def PySem.W.Fast.tw3583324329135824167:Nat:=0
def PySem.W.Fast.tw13348515795287014239:Nat:=0
def PySem.W.Fast.tw4807632112372147371:Nat:=0
def PySem.W.Fast.tw7046993580096818563:Nat:=0
def PySem.W.Fast.tw14674001654330023985:Nat:=0
def PySem.W.Fast.tw15022515941720878686:Nat:=0
def PySem.W.Fast.tw16209707432015140949:Nat:=0
def PySem.W.Fast.tw13893786288739924218:Nat:=0
def PySem.W.Fast.tw15851280708355028704:Nat:=0
def PySem.W.Fast.tw13940895528595029162:Nat:=0
def PySem.W.Fast.tw14147505946951236958:Nat:=0
open PySem PySem.W PyProof.Rows
set_option maxRecDepth 100000 in
set_option maxHeartbeats 0 in
theorem PySem.Challenge.cw_lampway_k13_a_plan_refused_holds : PySem.Challenge.rw_lampway_k13_a_plan_refused.Holds := by
 w_on;o_law;k_head;(case hw=>w_witness2)
 k_fill
 refine L2.qS (l:=PySem.Challenge.rw_lampway_k13_a_plan_refused) (n:=63) (k:=10) (x := "_law_script") (CX:=L2.CX0) (sp:=L2.dX) rfl (by decide) rfl ⟨rfl,by decide,by decide⟩ (fun w h Y=>PySem.W.kIn_of Y) ?F ?S ?C
 case F=>
  intro w mg fa h KX G hmg
  have T:∃ t,My.Txt w (L2.KOf KX) mg t:=by
   dsimp only [L2.KOf]
   refine' My.hX KX G ?e424 ?e384 ?e381 ?e349 ?e321 ?e228 ?e237 ?e131 ?e458 ?e435 ?e430 ?e414 ?e470 ?e466 ?e469 ?e454 ?e437 ?e406 ?e403 ?e380 ?e306 ?e231 ?e235 ?e171 ?e333 ?e281 ?e277 ?e211 ?e391 ?e352 ?e354 ?e300 ?e396 ?e357 ?e358 ?e299 ?e400 ?e353 ?e359 ?e298 ?e258 ?e172 ?e132 ?e85 ?e263 ?e160 ?e147 ?e82 ?e376 ?e302 ?e318 ?e260 ?e323 ?e243 ?e233 ?e137 ?e459 ?e444 ?e443 ?e418 ?e338 ?e269 ?e272 ?e213 ?e328 ?e286 ?e276 ?e203 ?e335 ?e280 ?e282 ?e214 ?e261 ?e165 ?e148 ?e77 ?e56 ?e24 ?e25 ?e11 ?e257 ?e128 ?e170 ?e80 ?e141 ?e67 ?e57 ?e28 ?e255 ?e166 ?e143 ?e73 ?e348 ?e270 ?e273 ?e215 ?e343 ?e279 ?e284 ?e212 ?e223 ?e117 ?e114 ?e45 ?e361 ?e307 ?e312 ?e266 ?e364 ?e319 ?e313 ?e251 ?e371 ?e315 ?e310 ?e259 ?e219 ?e112 ?e122 ?e49 ?e340 ?e283 ?e288 ?e205 ?e337 ?e275 ?e271 ?e210 ?e292 ?e193 ?e181 ?e106 ?e375 ?e324 ?e309 ?e246 ?e265 ?e135 ?e145 ?e81 ?e308 ?e239 ?e230 ?e133 ?e322 ?e238 ?e236 ?e127 ?e474 ?e468 ?e467 ?e456 ?e415 ?e360 ?e188 ?e199 ?e192 ?e316 ?e445 ?e377 ?e242 ?e241 ?e225 ?e341 ?e439 ?e383 ?e224 ?e232 ?e227 ?e347 ?e450 ?e382 ?e234 ?e226 ?e240 ?e342 ?e331 ?e180 ?e92 ?e89 ?e87 ?e218 ?e140 ?e62 ?e60 ?e31 ?e179 ?e68 ?e29 ?e30 ?e13 ?e96 ?e126 ?e42 ?e41 ?e23 ?e129 ?e176 ?e93 ?e88 ?e36 ?e216 ?e124 ?e44 ?e40 ?e20 ?e155 ?e97 ?e34 ?e35 ?e16 ?e123 ?e125 ?e39 ?e43 ?e22 ?e156 ?e464 ?e346 ?e285 ?e287 ?e274 ?e367 ?e472 ?e407 ?e304 ?e317 ?e267 ?e426 ?e411 ?e294 ?e191 ?e195 ?e189 ?e320 ?e249 ?e144 ?e169 ?e83 ?e297 ?e295 ?e183 ?e186 ?e98 ?e303 ?e386 ?e250 ?e130 ?e154 ?e152 ?e291 ?e221 ?e120 ?e121 ?e52 ?e256 ?e254 ?e138 ?e134 ?e76 ?e290 ?e395 ?e244 ?e150 ?e139 ?e173 ?e296 ?e220 ?e115 ?e113 ?e46 ?e247 ?e264 ?e142 ?e159 ?e70 ?e293 ?e363 ?e217 ?e116 ?e111 ?e118 ?e252 ?e177 ?e91 ?e90 ?e37 ?e222 ?e149 ?e66 ?e58 ?e33 ?e174 ?e162 ?e64 ?e61 ?e32 ?e175 ?e334 ?e350 ?e344 ?e332 ?e336 ?e326 ?e27 ?e19 ?e10 ?e463 ?e465 ?e462 ?e461 ?e457 ?e460 ?e47 ?e208 ?e157 ?e94 ?e54 ?e476 ?e475 ?e479 ?e478 ?e305 ?e325 ?e289 ?e355 ?e356 ?e314 ?e278 ?e408 ?e419 ?e413 ?e417 ?e420 ?e410 ?e107 ?e108 ?e86 ?e167 ?e151 ?e109 ?e78 ?e390 ?e397 ?e394 ?e393 ?e388 ?e389 ?e69 ?e84 ?e53 ?e100 ?e110 ?e71 ?e51 ?e387 ?e392 ?e385 ?e398 ?e399 ?e401 ?e75 ?e74 ?e48 ?e102 ?e105 ?e72 ?e50 ?e374 ?e370 ?e366 ?e372 ?e362 ?e373 ?e14 ?e26 ?e12 ?e351 ?e330 ?e327 ?e339 ?e425 ?e421 ?e412 ?e423 ?e409 ?e379 ?e422 ?e95 ?e55 ?e21 ?e119 ?e153 ?e136 ?e158 ?e429 ?e438 ?e452 ?e428 ?e451 ?e402 ?e441 ?e206 ?e59 ?e161 ?e198 ?e197 ?e194 ?e440 ?e442 ?e448 ?e446 ?e436 ?e405 ?e447 ?e204 ?e245 ?e65 ?e168 ?e182 ?e184 ?e196 ?e432 ?e427 ?e431 ?e433 ?e449 ?e404 ?e434 ?e209 ?e104 ?e262 ?e63 ?e164 ?e187 ?e201 ?e185 ?e229 ?e200 ?e190 ?e18 ?e17 ?e15 ?e365 ?e369 ?e368 ?e329 ?e99 ?e345 ?e103 ?e207 ?e101 ?e248 ?e301 ?e163 ?e253 ?e202 ?e268 ?e471 ?e453 ?e38 ?e455 ?e79 ?e311 ?e378 ?e473 ?e477 ?e146 ?e178 ?e416
   (case e424=>k_is);(case e384=>k_is);(case e381=>k_is);(case e349=>k_is);(case e321=>k_is);(case e228=>k_is);(case e237=>k_is);(case e131=>k_is);(case e458=>k_is);(case e435=>k_is);(case e430=>k_is);(case e414=>k_is);(case e470=>k_is);(case e466=>k_is);(case e469=>k_is);(case e454=>k_is);(case e437=>k_is);(case e406=>k_is);(case e403=>k_is);(case e380=>k_is);(case e306=>k_is);(case e231=>k_is);(case e235=>k_is);(case e171=>k_is);(case e333=>k_is);(case e281=>k_is);(case e277=>k_is);(case e211=>k_is);(case e391=>k_is);(case e352=>k_is);(case e354=>k_is);(case e300=>k_is);(case e396=>k_is);(case e357=>k_is);(case e358=>k_is);(case e299=>k_is);(case e400=>k_is);(case e353=>k_is);(case e359=>k_is);(case e298=>k_is);(case e258=>k_is);(case e172=>k_is);(case e132=>k_is);(case e85=>k_is);(case e263=>k_is);(case e160=>k_is);(case e147=>k_is);(case e82=>k_is);(case e376=>k_is);(case e302=>k_is);(case e318=>k_is);(case e260=>k_is);(case e323=>k_is);(case e243=>k_is);(case e233=>k_is);(case e137=>k_is);(case e459=>k_is);(case e444=>k_is);(case e443=>k_is);(case e418=>k_is);(case e338=>k_is);(case e269=>k_is);(case e272=>k_is);(case e213=>k_is);(case e328=>k_is);(case e286=>k_is);(case e276=>k_is);(case e203=>k_is);(case e335=>k_is);(case e280=>k_is);(case e282=>k_is);(case e214=>k_is);(case e261=>k_is);(case e165=>k_is);(case e148=>k_is);(case e77=>k_is);(case e56=>k_is);(case e24=>k_is);(case e25=>k_is);(case e11=>k_is);(case e257=>k_is);(case e128=>k_is);(case e170=>k_is);(case e80=>k_is);(case e141=>k_is);(case e67=>k_is);(case e57=>k_is);(case e28=>k_is);(case e255=>k_is);(case e166=>k_is);(case e143=>k_is);(case e73=>k_is);(case e348=>k_is);(case e270=>k_is);(case e273=>k_is);(case e215=>k_is);(case e343=>k_is);(case e279=>k_is);(case e284=>k_is);(case e212=>k_is);(case e223=>k_is);(case e117=>k_is);(case e114=>k_is);(case e45=>k_is);(case e361=>k_is);(case e307=>k_is);(case e312=>k_is);(case e266=>k_is);(case e364=>k_is);(case e319=>k_is);(case e313=>k_is);(case e251=>k_is);(case e371=>k_is);(case e315=>k_is);(case e310=>k_is);(case e259=>k_is);(case e219=>k_is);(case e112=>k_is);(case e122=>k_is);(case e49=>k_is);(case e340=>k_is);(case e283=>k_is);(case e288=>k_is);(case e205=>k_is);(case e337=>k_is);(case e275=>k_is);(case e271=>k_is);(case e210=>k_is);(case e292=>k_is);(case e193=>k_is);(case e181=>k_is);(case e106=>k_is);(case e375=>k_is);(case e324=>k_is);(case e309=>k_is);(case e246=>k_is);(case e265=>k_is);(case e135=>k_is);(case e145=>k_is);(case e81=>k_is);(case e308=>k_is);(case e239=>k_is);(case e230=>k_is);(case e133=>k_is);(case e322=>k_is);(case e238=>k_is);(case e236=>k_is);(case e127=>k_is);(case e474=>k_is);(case e468=>k_is);(case e467=>k_is);(case e456=>k_is);(case e415=>k_is);(case e360=>k_is);(case e188=>k_is);(case e199=>k_is);(case e192=>k_is);(case e316=>k_is);(case e445=>k_is);(case e377=>k_is);(case e242=>k_is);(case e241=>k_is);(case e225=>k_is);(case e341=>k_is);(case e439=>k_is);(case e383=>k_is);(case e224=>k_is);(case e232=>k_is);(case e227=>k_is);(case e347=>k_is);(case e450=>k_is);(case e382=>k_is);(case e234=>k_is);(case e226=>k_is);(case e240=>k_is);(case e342=>k_is);(case e331=>k_is);(case e180=>k_is);(case e92=>k_is);(case e89=>k_is);(case e87=>k_is);(case e218=>k_is);(case e140=>k_is);(case e62=>k_is);(case e60=>k_is);(case e31=>k_is);(case e179=>k_is);(case e68=>k_is);(case e29=>k_is);(case e30=>k_is);(case e13=>k_is);(case e96=>k_is);(case e126=>k_is);(case e42=>k_is);(case e41=>k_is);(case e23=>k_is);(case e129=>k_is);(case e176=>k_is);(case e93=>k_is);(case e88=>k_is);(case e36=>k_is);(case e216=>k_is);(case e124=>k_is);(case e44=>k_is);(case e40=>k_is);(case e20=>k_is);(case e155=>k_is);(case e97=>k_is);(case e34=>k_is);(case e35=>k_is);(case e16=>k_is);(case e123=>k_is);(case e125=>k_is);(case e39=>k_is);(case e43=>k_is);(case e22=>k_is);(case e156=>k_is);(case e464=>k_is);(case e346=>k_is);(case e285=>k_is);(case e287=>k_is);(case e274=>k_is);(case e367=>k_is);(case e472=>k_is);(case e407=>k_is);(case e304=>k_is);(case e317=>k_is);(case e267=>k_is);(case e426=>k_is);(case e411=>k_is);(case e294=>k_is);(case e191=>k_is);(case e195=>k_is);(case e189=>k_is);(case e320=>k_is);(case e249=>k_is);(case e144=>k_is);(case e169=>k_is);(case e83=>k_is);(case e297=>k_is);(case e295=>k_is);(case e183=>k_is);(case e186=>k_is);(case e98=>k_is);(case e303=>k_is);(case e386=>k_is);(case e250=>k_is);(case e130=>k_is);(case e154=>k_is);(case e152=>k_is);(case e291=>k_is);(case e221=>k_is);(case e120=>k_is);(case e121=>k_is);(case e52=>k_is);(case e256=>k_is);(case e254=>k_is);(case e138=>k_is);(case e134=>k_is);(case e76=>k_is);(case e290=>k_is);(case e395=>k_is);(case e244=>k_is);(case e150=>k_is);(case e139=>k_is);(case e173=>k_is);(case e296=>k_is);(case e220=>k_is);(case e115=>k_is);(case e113=>k_is);(case e46=>k_is);(case e247=>k_is);(case e264=>k_is);(case e142=>k_is);(case e159=>k_is);(case e70=>k_is);(case e293=>k_is);(case e363=>k_is);(case e217=>k_is);(case e116=>k_is);(case e111=>k_is);(case e118=>k_is);(case e252=>k_is);(case e177=>k_is);(case e91=>k_is);(case e90=>k_is);(case e37=>k_is);(case e222=>k_is);(case e149=>k_is);(case e66=>k_is);(case e58=>k_is);(case e33=>k_is);(case e174=>k_is);(case e162=>k_is);(case e64=>k_is);(case e61=>k_is);(case e32=>k_is);(case e175=>k_is);(case e334=>k_is);(case e350=>k_is);(case e344=>k_is);(case e332=>k_is);(case e336=>k_is);(case e326=>k_is);(case e27=>k_is);(case e19=>k_is);(case e10=>k_is);(case e463=>k_is);(case e465=>k_is);(case e462=>k_is);(case e461=>k_is);(case e457=>k_is);(case e460=>k_is);(case e47=>k_is);(case e208=>k_is);(case e157=>k_is);(case e94=>k_is);(case e54=>k_is);(case e476=>k_is);(case e475=>k_is);(case e479=>k_is);(case e478=>k_is);(case e305=>k_is);(case e325=>k_is);(case e289=>k_is);(case e355=>k_is);(case e356=>k_is);(case e314=>k_is);(case e278=>k_is);(case e408=>k_is);(case e419=>k_is);(case e413=>k_is);(case e417=>k_is);(case e420=>k_is);(case e410=>k_is);(case e107=>k_is);(case e108=>k_is);(case e86=>k_is);(case e167=>k_is);(case e151=>k_is);(case e109=>k_is);(case e78=>k_is);(case e390=>k_is);(case e397=>k_is);(case e394=>k_is);(case e393=>k_is);(case e388=>k_is);(case e389=>k_is);(case e69=>k_is);(case e84=>k_is);(case e53=>k_is);(case e100=>k_is);(case e110=>k_is);(case e71=>k_is);(case e51=>k_is);(case e387=>k_is);(case e392=>k_is);(case e385=>k_is);(case e398=>k_is);(case e399=>k_is);(case e401=>k_is);(case e75=>k_is);(case e74=>k_is);(case e48=>k_is);(case e102=>k_is);(case e105=>k_is);(case e72=>k_is);(case e50=>k_is);(case e374=>k_is);(case e370=>k_is);(case e366=>k_is);(case e372=>k_is);(case e362=>k_is);(case e373=>k_is);(case e14=>k_is);(case e26=>k_is);(case e12=>k_is);(case e351=>k_is);(case e330=>k_is);(case e327=>k_is);(case e339=>k_is);(case e425=>k_is);(case e421=>kernel_rfl);(case e412=>k_is);(case e423=>k_is);(case e409=>k_is);(case e379=>kernel_rfl);(case e422=>k_is);(case e95=>k_is);(case e55=>k_is);(case e21=>kernel_rfl);(case e119=>kernel_rfl);(case e153=>kernel_rfl);(case e136=>kernel_rfl);(case e158=>kernel_rfl);(case e429=>k_is);(case e438=>kernel_rfl);(case e452=>k_is);(case e428=>k_is);(case e451=>k_is);(case e402=>kernel_rfl);(case e441=>k_is);(case e206=>k_is);(case e59=>kernel_rfl);(case e161=>kernel_rfl);(case e198=>kernel_rfl);(case e197=>kernel_rfl);(case e194=>kernel_rfl);(case e440=>k_is);(case e442=>kernel_rfl);(case e448=>k_is);(case e446=>k_is);(case e436=>k_is);(case e405=>kernel_rfl);(case e447=>k_is);(case e204=>k_is);(case e245=>k_is);(case e65=>kernel_rfl);(case e168=>kernel_rfl);(case e182=>kernel_rfl);(case e184=>kernel_rfl);(case e196=>kernel_rfl);(case e432=>k_is);(case e427=>kernel_rfl);(case e431=>k_is);(case e433=>k_is);(case e449=>k_is);(case e404=>kernel_rfl);(case e434=>k_is);(case e209=>k_is);(case e104=>k_is);(case e262=>k_is);(case e63=>kernel_rfl);(case e164=>kernel_rfl);(case e187=>kernel_rfl);(case e201=>kernel_rfl);(case e185=>kernel_rfl);(case e229=>decide);(case e200=>decide);(case e190=>decide);(case e18=>decide);(case e17=>decide);(case e15=>decide);(case e365=>k_is);(case e369=>k_is);(case e368=>k_is);(case e329=>k_is);(case e99=>k_is);(case e345=>k_is);(case e103=>k_is);(case e207=>k_is);(case e101=>k_is);(case e248=>k_is);(case e301=>k_is);(case e163=>k_is);(case e253=>k_is);(case e202=>k_is);(case e268=>k_is);(case e471=>k_is);(case e453=>k_is);(case e38=>k_is);(case e455=>k_is);(case e79=>k_is);(case e311=>k_is);(case e378=>k_is);(case e473=>k_is);(case e477=>k_is);(case e146=>k_is);(case e178=>k_is);(case e416=>k_is)
  obtain ⟨t,T⟩:=T
  have e0:=hmg.symm.trans T.NZ
  cases e0
  exact ⟨t.AO,T.QX,fun base kb nb=>My.OY T⟩
 case S=>exact fun K H a ns hl hO hS=>⟨a,ns,rfl,L2.Sc.of_only hO hS,hl,fun _=>rfl⟩
 case C=>exact fun _ _ _ _ z=>z
