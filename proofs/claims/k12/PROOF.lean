import PyProof.Rows.All
import Wide.All
import OpenK.AllK
import Wide.FinOn
import Lean
import PyProof.EqAt
import PyProof.EqKinds
import PyProof.TupleCall
import KE.KTryMore
import PyProof.NsDelKeeps
import PySem.Challenge.RW_lampway_k12_a_plan_read
set_option compiler.extract_closed false
set_option Elab.async false
set_option linter.all false
set_option maxRecDepth 100000
open List (mem_cons_self mem_cons_of_mem getElem?_set_self getElem?_set_ne mem_append_right size_toArray length_cons map_cons length_map append_nil length_take getElem?_append_right getElem?_append_left getElem?_map mem_of_getElem? length_append length_replicate any_cons find?_cons length_nil map_nil lookup_cons all_eq_true getElem_mem mem_cons not_mem_nil map_map getElem?_eq_getElem getD_eq_getElem?_getD ext_getElem length_reverse getElem_map getElem_of_mem getElem?_of_mem length_range take_add_one map_append take_length cons_append nil_append set_cons_zero set_cons_succ getElem?_cons_succ take_of_length_le drop_eq_getElem_cons take_zero append_assoc flatten_cons)
namespace L2
open PySem PySem.Spec PyProof.Rows
noncomputable abbrev Key:=Sum Int Str
noncomputable def HB:Key->Value->Bool
 | .inl k,v=>Value.isInt k v
 | .inr x,v=>Value.isStrOf x v
noncomputable def zR (w:World):Key->Int
 | .inl k=>hashInt k
 | .inr x=>hashStr w x
theorem Be:∀ {k:Key} {v:Value},HB k v=true->(∃ i t,k=Sum.inl i/\v=Value.int i t)\/(∃ x t,k=Sum.inr x/\v=Value.str x t)
 | .inl i,v,h=>by
  obtain ⟨t,e⟩:=Value.isInt_shape (k:=i) (v:=v) h;exact .inl ⟨i,t,rfl,e⟩
 | .inr x,v,h=>by
  obtain ⟨t,e⟩:=Value.isStrOf_shape (x:=x) (v:=v) h;exact .inr ⟨x,t,rfl,e⟩
theorem UF (i:Int) (t:Tok):HB (.inl i) (.int i t)=true:=by simp [HB,Value.isInt]
theorem eD (x:Str) (t:Tok):HB (.inr x) (.str x t)=true:=by simp [HB,Value.isStrOf]
theorem aO (a b:Int):decide ((Sum.inl a:Key)=Sum.inl b)=(a == b):=by
 by_cases e:a=b
 ·subst e;simp
 ·have h:¬ (Sum.inl a:Key)=Sum.inl b:=fun q=>e (Sum.inl.inj q)
  rw [decide_eq_false h];exact (beq_eq_false_iff_ne.mpr e).symm
theorem DO (a b:Str):decide ((Sum.inr a:Key)=Sum.inr b)=decide (a=b):=by
 by_cases e:a=b
 ·subst e;simp
 ·have h:¬ (Sum.inr a:Key)=Sum.inr b:=fun q=>e (Sum.inr.inj q)
  rw [decide_eq_false h,decide_eq_false e]
theorem RO (a:Int) (b:Str):decide ((Sum.inl a:Key)=Sum.inr b)=false:=decide_eq_false (fun q=>nomatch q)
theorem FO (a:Str) (b:Int):decide ((Sum.inr a:Key)=Sum.inl b)=false:=decide_eq_false (fun q=>nomatch q)
noncomputable def rf (prog:Program) (w:World):PySem.KeyKind prog w Key where
 is:=HB
 hash:=zR w
 inj:=fun v a b ha hb=>by
  rcases Be ha with ⟨i,t,rfl,rfl⟩ | ⟨x,t,rfl,rfl⟩
  ·rcases Be hb with ⟨j,u,rfl,e⟩ | ⟨y,u,rfl,e⟩
   ·injection e with e1 _;rw [e1]
   ·exact nomatch e
  ·rcases Be hb with ⟨j,u,rfl,e⟩ | ⟨y,u,rfl,e⟩
   ·exact nomatch e
   ·injection e with e1 _;rw [e1]
 byValue:=fun k v h=>by
  rcases Be h with ⟨i,t,rfl,rfl⟩ | ⟨x,t,rfl,rfl⟩ <;> rfl
 pyHash:=fun hv h=>by
  rcases Be hv with ⟨i,t,rfl,rfl⟩ | ⟨x,t,rfl,rfl⟩
  ·exact wpAny_pyHash_int h
  ·exact wpAny_pyHash_str h
 eqBool:=fun hu hv h=>by
  rcases Be hu with ⟨i,t,rfl,rfl⟩ | ⟨x,t,rfl,rfl⟩
  ·rcases Be hv with ⟨j,u,rfl,rfl⟩ | ⟨y,u,rfl,rfl⟩
   ·rw [aO] at h;exact wpAny_eqBool_int h
   ·rw [RO] at h;exact SeqAt.EqAt.int_str i t y u _ _ _ _ h
  ·rcases Be hv with ⟨j,u,rfl,rfl⟩ | ⟨y,u,rfl,rfl⟩
   ·rw [FO] at h;exact SeqAt.EqAt.str_int x t j u _ _ _ _ h
   ·rw [DO] at h;exact wpAny_eqBool_str h
 «strs»:=fun k x t v h=>by
  rcases Be h with ⟨i,u,rfl,e⟩ | ⟨y,u,rfl,e⟩
  ·exact nomatch e
  ·injection e with e1 _;subst e1;cases v <;> rfl
theorem dA (prog:Program) (w:World) (i:Int) (t:Tok):(rf prog w).is (.inl i) (.int i t)=true:=UF i t
theorem Sy (prog:Program) (w:World) (x:Str) (t:Tok):(rf prog w).is (.inr x) (.str x t)=true:=eD x t
end L2
namespace L2
open PySem PySem.Spec PyProof.Rows
inductive V where
 | non | bl (b:Bool) | int (i:Int) | str (x:Str) | byt (b:Array UInt8) | flt (b:UInt64) | ref (a:Addr) | ty (n:String)
 deriving DecidableEq
noncomputable def ae:V->Value->Prop
 | .non,u=>u=Value.none
 | .bl b,u=>u=Value.bool b
 | .int i,u=>∃ t,u=Value.int i t
 | .str x,u=>∃ t,u=Value.str x t
 | .byt b,u=>∃ t,u=Value.bytes b t
 | .flt b,u=>∃ t,u=Value.float b t
 | .ref a,u=>u=Value.ref a
 | .ty n,u=>u=Value.type n
noncomputable abbrev Kd:List V->List Value->Prop:=Paired ae
theorem Kd.length {xs:List V} {us:List Value} (r:Kd xs us):xs.length=us.length:=Paired.length r
theorem Kd.get:∀ {xs:List V} {us:List Value} {i:Nat} {x:V},Kd xs us->xs[i]? = some x->∃ u,us[i]? = some u/\ae x u
 | _,_,_,_,.nil,e=>by simp at e
 | _,_,0,_,.cons r _,e=>by simp at e;subst e;exact ⟨_,rfl,r⟩
 | _,_,i + 1,x,.cons _ t,e=>by
  obtain ⟨u,h1,h2⟩:=Kd.get (i:=i) (x:=x) t (by simpa using e);exact ⟨u,by simpa using h1,h2⟩
theorem Kd.set {x:V} {u:Value} (r:ae x u):∀ {xs:List V} {us:List Value} (i:Nat),Kd xs us->Kd (xs.set i x) (us.set i u)
 | _,_,_,.nil=>.nil
 | _,_,0,.cons _ t=>.cons r t
 | _,_,i + 1,.cons q t=>.cons q (Kd.set r i t)
theorem Kd.append:∀ {xs ys:List V} {us ws:List Value},Kd xs us->Kd ys ws->Kd (xs ++ ys) (us ++ ws)
 | _,_,_,_,.nil,s=>s
 | _,_,_,_,.cons r t,s=>.cons r (Kd.append t s)
theorem Kd.take:∀ {xs:List V} {us:List Value} (n:Nat),Kd xs us->Kd (xs.take n) (us.take n)
 | _,_,0,_=>.nil
 | _,_,_ + 1,.nil=>.nil
 | _,_,n + 1,.cons r t=>.cons r (Kd.take n t)
theorem Kd.drop:∀ {xs:List V} {us:List Value} (n:Nat),Kd xs us->Kd (xs.drop n) (us.drop n)
 | _,_,0,r=>r
 | _,_,_ + 1,.nil=>.nil
 | _,_,n + 1,.cons _ t=>Kd.drop n t
theorem Kd.none_of:∀ {xs:List V} {us:List Value} {i:Nat},Kd xs us->xs[i]? = none->us[i]? = none:=fun {xs us i} r e=>by
 have h1:=r.length;have h2:xs.length <= i:=List.getElem?_eq_none_iff.mp e;exact List.getElem?_eq_none_iff.mpr (by omega)
noncomputable def Ps:Option V->Option Value->Prop
 | some v,some u=>ae v u
 | none,none=>True
 | _,_=>False
noncomputable def KV {κ:Type}:List (κ × V)->List (κ × Value)->Prop:=Paired fun (p:κ × V) (q:κ × Value)=>p.1=q.1/\ae p.2 q.2
noncomputable def kV:Key->V
 | .inl i=>.int i
 | .inr x=>.str x
inductive HO where
  | lst (xs:List V)
  | tup (xs:List V)
  | dK (kvs:List (Key × V)) | dT (kvs:List (List Key × V))
  | set (S:Int->Bool) (n:Nat)
  | ins (C dx:Addr) (fs:List (Str × V))
  | own (x:Addr)
  | xd (fs:List (Str × V))
  | met (f x:Addr)
  | rng (lo hi:Int)
  | frz (o:Obj) (u:HO)
  | tbl (ps:Array Value)
  | ext (φ:Heap->Prop)
noncomputable abbrev Hp:=Addr->Option HO
noncomputable def upd (H:Hp) (a:Addr) (o:HO):Hp:=fun b=>if b=a then some o else H b
theorem db {H:Hp} {a:Addr} {o:HO}:upd H a o a=some o:=by unfold upd;rw [if_pos rfl]
theorem jb {H:Hp} {a b:Addr} {o:HO} (h:b ≠ a):upd H a o b=H b:=by unfold upd;rw [if_neg h]
theorem pj {H:Hp} {a:Addr} {o u:HO}:upd (upd H a o) a u=upd H a u:=by
 funext b;unfold upd;split <;> rfl
theorem Zd {H:Hp} {a b:Addr} {o u:HO} (h:H a=some o) (h':H b=some u) (d:o ≠ u):a ≠ b:=by
 intro e;subst e;rw [h] at h';exact d (Option.some.inj h')
theorem yb {H:Hp} {a b:Addr} {o:HO} (h:H a=some o) (h':H b=none):a ≠ b:=by
 intro e;subst e;rw [h] at h';cases h'
section
variable (P:Program) (w:World)
noncomputable def Sd (H:Hp) (h:Heap) (a:Addr):HO->Prop
 | .lst xs=>xs.length <= sizeLine/\∃ (its:List Value) (n:Nat),Kd xs its/\h.get? a=some { cls:=.type "list",data:=.seq its.toArray n }
 | .tup xs=>xs.length <= sizeLine/\∃ its:List Value,Kd xs its/\IsTup h a its.toArray
 | .dK kvs=>kvs.length <= sizeLine/\(a == sysModules)=false/\∃ vs,KV kvs vs/\h.DictOf (rf P w) a vs
 | .dT kvs=>kvs.length <= sizeLine/\(a == sysModules)=false/\∃ xs:List (List Key × Addr × Value),
   Paired (fun (p:List Key × V) (q:List Key × Addr × Value)=>p.1=q.1/\H q.2.1=some (.tup (p.1.map kV))/\ae p.2 q.2.2) kvs xs /\
   ∃ o es ep,h.get? a=some o/\o.ExactDict/\o.data=.dict es ep/\es.toList=xs.map (entryOfKey (tupleKind (rf P w)))/\(xs.map (·.1)).Nodup
 | .set S n=>h.SetOf (intKind P w) a S n
 | .ins C dx fs=>H dx=some (.own a)/\fs.length <= 1000/\dx ≠ a/\h.get? a=some (PySem.W.instObj C dx) /\
   ∃ mA,h.Ns1 dx mA/\(∀ f,Ps (fs.lookup f) (mA f))/\PySem.Within mA (fs.map (·.1))
 | .own _=>∃ o,h.get? a=some o
 | .xd fs=>∃ mA,h.Ns1 a mA/\∀ f,Ps (fs.lookup f) (mA f)
 | .rng lo hi=>∃ t u v,h.get? a=some { cls:=.type "range",data:=.fields #[.int lo t,.int hi u,.int 1 v] }
 | .frz o u=>h.get? a=some o/\Sd H h a u
 | .tbl ps=>h.get? a=some { cls:=.none,data:=.fields ps }
 | .met f x=>h.get? a=some (PySem.W.methodObj (.ref f) (.ref x))
 | .ext φ=>φ h/\(∃ o,h.get? a=some o)/\∀ h1 h2:Heap,φ h1->(∀ o,h1.get? a=some o->h2.get? a=some o)->φ h2
noncomputable def HOk (H:Hp) (h:Heap):Prop:=∀ a o,H a=some o->Sd P w H h a o
end
section
variable {P:Program} {w:World} {H H':Hp} {h h':Heap} {a:Addr} {o:HO}
theorem Sd.lt (x:Sd P w H h a o):a < h.objs.size:=by
 cases o with
 | lst xs=>obtain ⟨_,_,_,_,e⟩:=x;exact Heap.lt_size e
 | tup xs=>obtain ⟨_,_,_,p⟩:=x;exact p.lt
 | dK kvs=>obtain ⟨_,_,_,_,o,_,_,e,_⟩:=x;exact Heap.lt_size e
 | dT kvs=>obtain ⟨_,_,_,_,o,_,_,e,_⟩:=x;exact Heap.lt_size e
 | set S n=>obtain ⟨o,_,_,_,e,_⟩:=x;exact Heap.lt_size e
 | ins C dx fs=>obtain ⟨_,_,_,e,_⟩:=x;exact Heap.lt_size e
 | own y=>obtain ⟨_,e⟩:=x;exact Heap.lt_size e
 | xd fs=>obtain ⟨_,⟨_,_,_,e,_⟩,_⟩:=x;exact Heap.lt_size e
 | rng lo hi=>obtain ⟨_,_,_,e⟩:=x;exact Heap.lt_size e
 | frz ob u=>obtain ⟨e,_⟩:=x;exact Heap.lt_size e
 | tbl ps=>exact Heap.lt_size (show h.get? a=some _ from x)
 | met f y=>exact Heap.lt_size (show h.get? a=some _ from x)
 | ext φ=>obtain ⟨_,⟨_,e⟩,_⟩:=x;exact Heap.lt_size e
theorem Paired.mapP {α β:Type} {F G:α->β->Prop}:∀ {l₁:List α} {l₂:List β},Paired F l₁ l₂->(∀ a b,F a b->G a b)->Paired G l₁ l₂
 | _,_,.nil,_=>.nil
 | _,_,.cons r t,f=>.cons (f _ _ r) (Paired.mapP t f)
theorem Sd.stay (x:Sd P w H h a o) (k:∀ b u,(b=a\/H b=some (.own a))->h.get? b=some u->h'.get? b=some u)
  (ho:∀ b,H b=some (.own a)->H' b=some (.own a)) (ht:∀ b xs,H b=some (.tup xs)->H' b=some (.tup xs)):Sd P w H' h' a o:=by
 induction o with
 | lst xs=>obtain ⟨z,its,n,r,e⟩:=x;exact ⟨z,its,n,r,k _ _ (.inl rfl) e⟩
 | tup xs=>obtain ⟨z,its,r,ob,e,c⟩:=x;exact ⟨z,its,r,ob,k _ _ (.inl rfl) e,c⟩
 | dK kvs=>obtain ⟨z,y,vs,r,ob,es,ep,e,c⟩:=x;exact ⟨z,y,vs,r,ob,es,ep,k _ _ (.inl rfl) e,c⟩
 | dT kvs=>
  obtain ⟨z,y,xs,r,ob,es,ep,e,c⟩:=x;exact ⟨z,y,xs,Paired.mapP r fun p q z=>⟨z.1,ht _ _ z.2.1,z.2.2⟩,ob,es,ep,k _ _ (.inl rfl) e,c⟩
 | set S n=>obtain ⟨ob,es,ep,t,e,c⟩:=x;exact ⟨ob,es,ep,t,k _ _ (.inl rfl) e,c⟩
 | ins C dx fs=>
  obtain ⟨d,z,ne,e,mA,⟨od,es,ep,e2,c⟩,r⟩:=x;exact ⟨ho _ d,z,ne,k _ _ (.inl rfl) e,mA,⟨od,es,ep,k _ _ (.inr d) e2,c⟩,r⟩
 | own y=>obtain ⟨ob,e⟩:=x;exact ⟨ob,k _ _ (.inl rfl) e⟩
 | xd fs=>obtain ⟨mA,⟨od,es,ep,e,c⟩,r⟩:=x;exact ⟨mA,⟨od,es,ep,k _ _ (.inl rfl) e,c⟩,r⟩
 | rng lo hi=>obtain ⟨t,u,v,e⟩:=x;exact ⟨t,u,v,k _ _ (.inl rfl) e⟩
 | frz ob u ih=>obtain ⟨e,q⟩:=x;exact ⟨k _ _ (.inl rfl) e,ih q⟩
 | tbl ps=>
  have e:h.get? a=some { cls:=.none,data:=.fields ps }:=x;show h'.get? a=some { cls:=.none,data:=.fields ps };exact k a _ (.inl rfl) e
 | met f y=>
  have e:h.get? a=some (PySem.W.methodObj (.ref f) (.ref y)):=x;show h'.get? a=some (PySem.W.methodObj (.ref f) (.ref y));exact k a _ (.inl rfl) e
 | ext φ=>obtain ⟨p,⟨o,e⟩,st⟩:=x;exact ⟨st _ _ p fun o q=>k _ _ (.inl rfl) q,⟨o,k _ _ (.inl rfl) e⟩,st⟩
theorem HOk.lt (x:HOk P w H h) (e:H a=some o):a < h.objs.size:=(x a o e).lt
theorem HOk.fresh (x:HOk P w H h) (e:h.objs.size <= a):H a=none:=by
 cases q:H a with
 | none=>rfl
 | some u=>exact absurd (Nat.lt_of_lt_of_le (x.lt q) e) (Nat.lt_irrefl _)
theorem HOk.kept (x:HOk P w H h) (k:∀ b u,h.get? b=some u->h'.get? b=some u):HOk P w H h':=fun a o e=>
 (x a o e).stay (fun b u _ q=>k b u q) (fun _ q=>q) fun _ _ q=>q
theorem HOk.laid (x:HOk P w H h) (k:∀ b u,h.get? b=some u->h'.get? b=some u) (hp:h.objs.size <= a) (new:Sd P w (upd H a o) h' a o):HOk P w (upd H a o) h':=fun b u e=>by
 have hn:=x.fresh hp;by_cases hb:b=a
 ·subst hb;rw [db] at e;cases e;exact new
 ·rw [jb hb] at e;exact (x b u e).stay (fun c v _ q=>k c v q) (fun c q=>by rw [jb (yb q hn)];exact q) fun c xs q=>by rw [jb (yb q hn)];exact q
end
noncomputable def Rd (H:Hp) (a:Addr) (u:HO):Prop:=H a=some u\/∃ o,H a=some (.frz o u)
theorem Rd.of {H:Hp} {a:Addr} {u:HO} (h:H a=some u):Rd H a u:=.inl h
theorem Rd.ok {P:Program} {w:World} {H:Hp} {h:Heap} {a:Addr} {u:HO} (r:Rd H a u) (x:HOk P w H h):Sd P w H h a u:=by
 rcases r with r | ⟨o,r⟩
 ·exact x a u r
 ·obtain ⟨_,q⟩:=x a _ r;exact q
noncomputable def Mut:Option HO->Prop
 | some (.lst _)=>True
 | some (.dK _)=>True
 | some (.dT _)=>True
 | some (.set _ _)=>True
 | some (.ins _ _ _)=>True
 | some (.ext _)=>True
 | _=>False
section
variable {P:Program} {w:World} {H:Hp} {h h':Heap} {x e:Addr} {o':HO}
theorem HOk.write (ok:HOk P w H h) (mu:Mut (H x)) (he:e=x\/H e=some (.own x)) (k:∀ b u,b ≠ e->h.get? b=some u->h'.get? b=some u) (heo:∃ u,h'.get? e=some u)
  (new:Sd P w (upd H x o') h' x o'):HOk P w (upd H x o') h':=fun b u q=>by
 have nown:∀ c y,H c=some (.own y)->c ≠ x:=fun c y r z=>by subst z;rw [r] at mu;exact mu
 have ntup:∀ c xs,H c=some (.tup xs)->c ≠ x:=fun c xs r z=>by subst z;rw [r] at mu;exact mu
 by_cases hb:b=x
 ·subst hb;rw [db] at q;cases q;exact new
 ·rw [jb hb] at q;by_cases hbe:b=e
  ·have q':H b=some (.own x):=by
    rcases he with z | z
    ·exact absurd (hbe.trans z) hb
    ·rw [hbe];exact z
   rw [q] at q';cases q';obtain ⟨v,hv⟩:=heo;exact ⟨v,by rw [hbe];exact hv⟩
  ·refine (ok b u q).stay (fun c v hc r=>k c v ?_ r) (fun c r=>by rw [jb (nown c b r)];exact r) fun c xs r=>by rw [jb (ntup c xs r)];exact r
   rcases hc with rfl | hc
   ·exact hbe
   ·rintro rfl;rcases he with z | z
    ·exact nown c b hc z
    ·rw [hc] at z;cases z;exact hb rfl
end
structure Un (fs ex:List Addr) (H H':Hp) (h h':Heap):Prop where
 keep:∀ b o,h.get? b=some o->H b=none->b ∉ fs->b ∉ ex->h'.get? b=some o
 slot:∀ b o,h.get? b=some o->H b=none->b ∈ fs->b ∉ ex->∃ sl,h'.get? b=some { o with slots:=sl }
 free:∀ b o,h.get? b=some o->H b=none->b ∉ ex->H' b=none
 there:∀ b o,h.get? b=some o->b ∉ ex->∃ o',h'.get? b=some o'
 tups:∀ b xs,H b=some (.tup xs)->H' b=some (.tup xs)
 frzs:∀ b o u,H b=some (.frz o u)->H' b=some (.frz o u)
 tbls:∀ b ps,H b=some (.tbl ps)->∃ more,H' b=some (.tbl (ps ++ more))
section
variable {fs fs' ex ex':List Addr} {H H1 H2:Hp} {h h1 h2 h':Heap} {a x e:Addr} {o:HO}
theorem Un.any (u:Un fs ex H H1 h h1) {b:Addr} {ob:Obj} (q:h.get? b=some ob) (n:H b=none) (hx:b ∉ ex):∃ sl,h1.get? b=some { ob with slots:=sl }:=by
 by_cases hb:b ∈ fs
 ·exact u.slot b ob q n hb hx
 ·exact ⟨ob.slots,u.keep b ob q n hb hx⟩
theorem Un.trans (a:Un fs ex H H1 h h1) (b:Un fs ex H1 H2 h1 h2):Un fs ex H H2 h h2 where
 keep:=fun c ob q n hc hx=>b.keep c ob (a.keep c ob q n hc hx) (a.free c ob q n hx) hc hx
 slot:=fun c ob q n hc hx=>by
  obtain ⟨sl,e1⟩:=a.slot c ob q n hc hx;obtain ⟨sl',e2⟩:=b.slot c _ e1 (a.free c ob q n hx) hc hx;exact ⟨sl',e2⟩
 free:=fun c ob q n hx=>by
  obtain ⟨o',e1⟩:=a.there c ob q hx;exact b.free c o' e1 (a.free c ob q n hx) hx
 there:=fun c ob q hx=>by
  obtain ⟨o',e1⟩:=a.there c ob q hx;exact b.there c o' e1 hx
 tups:=fun c xs q=>b.tups c xs (a.tups c xs q)
 frzs:=fun c ob xs q=>b.frzs c ob xs (a.frzs c ob xs q)
 tbls:=fun c ps q=>by
  obtain ⟨m1,e1⟩:=a.tbls c ps q;obtain ⟨m2,e2⟩:=b.tbls c _ e1;exact ⟨m1 ++ m2,by rw [e2,Array.append_assoc]⟩
theorem Un.kept (k:∀ b u,h.get? b=some u->h'.get? b=some u):Un fs ex H H h h':=
 ⟨fun b ob q _ _ _=>k b ob q,fun b ob q _ _ _=>⟨ob.slots,k b ob q⟩,fun _ _ _ n _=>n,fun b ob q _=>⟨ob,k b ob q⟩,fun _ _ q=>q,fun _ _ _ q=>q,fun _ ps q=>⟨#[],by rw [q];simp⟩⟩
theorem Un.refl:Un fs ex H H h h:=Un.kept fun _ _ q=>q
theorem Un.laid (k:∀ b u,h.get? b=some u->h'.get? b=some u) (hp:h.objs.size <= a) (hn:H a=none):Un fs ex H (upd H a o) h h' where
 keep:=fun b u q _ _ _=>k b u q
 slot:=fun b u q _ _ _=>⟨u.slots,k b u q⟩
 free:=fun b u q n _=>by rw [jb (Nat.ne_of_lt (Nat.lt_of_lt_of_le (Heap.lt_size q) hp))];exact n
 there:=fun b u q _=>⟨u,k b u q⟩
 tups:=fun b xs q=>by rw [jb (yb q hn)];exact q
 frzs:=fun b u xs q=>by rw [jb (yb q hn)];exact q
 tbls:=fun b ps q=>⟨#[],by rw [jb (yb q hn),q];simp⟩
theorem Un.write (mu:Mut (H x)) (he:e=x\/H e=some (.own x)) (k:∀ b u,b ≠ e->h.get? b=some u->h'.get? b=some u) (heo:∃ u,h'.get? e=some u):Un fs ex H (upd H x o) h h':=by
 have hx:∀ b,H b=none->b ≠ x:=fun b n z=>by subst z;rw [n] at mu;exact mu
 have hb:∀ b,H b=none->b ≠ e:=fun b n z=>by
  subst z;rcases he with r | r
  ·exact hx b n r
  ·rw [n] at r;cases r
 have hm:∀ b u,H b=some u->¬ Mut (some u)->b ≠ x:=fun b u q nm z=>by subst z;rw [q] at mu;exact nm mu
 refine ⟨fun b u q n _ _=>k b u (hb b n) q,fun b u q n _ _=>⟨u.slots,k b u (hb b n) q⟩,fun b u q n _=>by rw [jb (hx b n)];exact n,fun b u q _=>?_,
  fun b xs q=>by rw [jb (hm b _ q fun z=>z)];exact q,fun b u xs q=>by rw [jb (hm b _ q fun z=>z)];exact q,fun b ps q=>⟨#[],by rw [jb (hm b _ q fun z=>z),q];simp⟩⟩
 by_cases hbe:b=e
 ·subst hbe;exact heo
 ·exact ⟨u,k b u hbe q⟩
theorem Un.mono (u:Un fs ex H H1 h h1) (hs:∀ b ∈ fs,b ∈ fs') (hx:∀ b ∈ ex,b ∈ ex'):Un fs' ex' H H1 h h1:=
 ⟨fun b ob q n hb he=>u.keep b ob q n (fun z=>hb (hs b z)) fun z=>he (hx b z),fun _ _ q n _ he=>u.any q n fun z=>he (hx _ z),fun b ob q n he=>u.free b ob q n fun z=>he (hx b z),fun b ob q he=>u.there b ob q fun z=>he (hx b z),u.tups,u.frzs,u.tbls⟩
end
noncomputable def trk (h:Heap) (H:Hp):List Addr:=(List.range h.objs.size).filter fun a=>(H a).isSome
noncomputable def iJ (h:Heap) (H:Hp):Heap:=PySem.W.hideAll h (trk h H)
theorem jG (h:Heap) (H:Hp):(iJ h H).objs.size=h.objs.size:=PySem.W.hideAll_size _ _
theorem TH {h:Heap} {H:Hp} {b:Addr} {o:Obj} (e:h.get? b=some o) (n:H b=none):(iJ h H).get? b=some o:=
 PySem.W.hideAll_get _ e fun hm=>by
  have q:(H b).isSome=true:=(List.mem_filter.mp hm).2;rw [n] at q;simp at q
theorem PK {h:Heap} {H:Hp} {b:Addr} {o:Obj} (e:(iJ h H).get? b=some o):h.get? b=some o/\H b=none:=by
 have e':h.get? b=some o:=PySem.W.of_hideAll (trk h H) e;refine ⟨e',?_⟩;cases q:H b with
 | none=>rfl
 | some x=>
  have hm:b ∈ trk h H:=List.mem_filter.mpr ⟨List.mem_range.mpr (Heap.lt_size e'),by simp [q]⟩;have z:(iJ h H).get? b=none:=PySem.W.hideAll_none (trk h H) hm;rw [z] at e;cases e
noncomputable def HM (g h:Heap) (L:Addr):List (Addr × Obj):=(List.range h.objs.size).filterMap fun a=>if a=L\/(g.get? a).isSome=true then none else (h.get? a).map fun o=>(a,o)
noncomputable def rest (g h:Heap) (L d:Addr):List (Addr × Obj):=(HM g h L).filter fun p=>decide (p.1 ≠ d)
end L2
namespace L2
open PySem PySem.Spec PyProof.Rows
structure Mod (K:W.Frag) (mg:Str->Option Value) (base:Heap):Prop where
 kin:K.In base
 glob:base.Ns mainGlobals mg
 blt:∃ mb,base.Ns builtinsNs mb/\∀ x:Str,x ≠ "__name__" -> mb x=bootBuiltins x
 nolimit:base.NoLimit
structure Cx where
 prog:Program
 w:World
 K:W.Frag
 mg:Str->Option Value
 base:Heap
 A:Around
 N:List Str
 s₀:Shared
 H₀:Hp
 env:Env
 outer:List Env
 stack:List Env
 ex:List Addr
 fn:Str->Bool
 calm:Bool
 pn:List (Addr × Obj)
 xe:Value->Shared->Prop
noncomputable def frs (l:List Env):List Addr:=l.filterMap (·.frame)
noncomputable abbrev Cx.fs (X:Cx):List Addr:=frs X.outer
noncomputable def Vis (sc:Scope) (x:Str):Prop:=sc.names.lookup x=some .local\/sc.names.lookup x=some .cell\/sc.names.lookup x=some .free
noncomputable def Loc (sc:Scope) (x:Str):Prop:=sc.names.lookup x=some .local\/sc.names.lookup x=some .cell
noncomputable def yR (env:Env) (h:Heap) (m:Str->Option Value) (x:Str) (u:Value):Prop:=
 (env.kindOf x=some .local/\m x=some u)\/((env.kindOf x=some .cell\/env.kindOf x=some .free)/\∃ c,env.cells.lookup x=some c/\h.IsCell c (some u))
structure Cx.Ok (X:Cx):Prop where
 mod:Mod X.K X.mg X.base
 kind:X.env.scope.kind=.function
 glob:X.env.globals=mainGlobals
 blt:X.env.builtins=builtinsNs
 above:X.s₀.heap.objs.size <= X.env.locals
 inj:∀ x y c,X.env.cells.lookup x=some c->X.env.cells.lookup y=some c->x=y
 has:∀ x,(X.env.kindOf x=some .cell\/X.env.kindOf x=some .free)->∃ c,X.env.cells.lookup x=some c
 cab:∀ x c,X.fn x=true->X.env.cells.lookup x=some c->X.s₀.heap.objs.size <= c
 hd:X.calm=true->X.A.handled=none
 frames:X.A.frames=some X.stack
 stk:X.stack=X.outer\/(X.stack=X.env :: X.outer/\X.env.frame=some X.env.locals)
 exf:∀ b ∈ X.ex,b ≠ X.env.locals/\∀ x c,X.env.cells.lookup x=some c->c ≠ b
 bs:∀ b o,X.base.get? b=some o->X.s₀.heap.get? b=some o/\X.H₀ b=none
 bsz:X.base.objs.size <= X.s₀.heap.objs.size
 noex:∀ b o,X.base.get? b=some o->b ∉ X.ex
 exfs:∀ b ∈ X.ex,b ∉ X.fs
 funs:X.s₀.heap.FunFrames X.base X.outer
 frf:∀ b ∈ X.fs,X.H₀ b=none
structure Inv (X:Cx) (pins:List (Addr × Obj)) (σ:List (Option V)) (H:Hp) (s:Shared):Prop where
 ok:X.Ok
 os:s.os=X.s₀.os
 bare:AllBare s.gens
 base:Un X.fs X.ex X.H₀ H X.s₀.heap s.heap
 loc:∃ m,s.heap.Ns X.env.locals m/\∀ (i:Nat) (x:Str) (v:V),X.N[i]? = some x->σ[i]? = some (some v)->Vis X.env.scope x->∃ u,ae v u/\yR X.env s.heap m x u
 cell:∀ x c,X.env.cells.lookup x=some c->∃ v,s.heap.IsCell c v
 free:H X.env.locals=none
 freeC:∀ x c,X.env.cells.lookup x=some c->H c=none
 pin:∀ p ∈ X.pn ++ pins,s.heap.get? p.1=some p.2/\H p.1=none/\p.1 ≠ X.env.locals/\p.1 ∉ X.fs/\∀ v,p.2.data ≠ .cell v
 hok:HOk X.prog X.w H s.heap
 len:σ.length=X.N.length
section
variable {X:Cx} {pins:List (Addr × Obj)} {σ:List (Option V)} {H H':Hp} {s:Shared} {h':Heap}
theorem Cx.Ok.nofr (ok:X.Ok) {b:Addr} {o:Obj} (e:X.base.get? b=some o):b ∉ X.fs:=fun hb=>by
 have:=(ok.funs.mem hb).1;rw [e] at this;cases this
theorem Inv.bs (I:Inv X pins σ H s):∀ b o,X.base.get? b=some o->s.heap.get? b=some o/\H b=none:=fun b o e=>
 ⟨I.base.keep b o (I.ok.bs b o e).1 (I.ok.bs b o e).2 (I.ok.nofr e) (I.ok.noex b o e),I.base.free b o (I.ok.bs b o e).1 (I.ok.bs b o e).2 (I.ok.noex b o e)⟩
theorem Inv.bk (I:Inv X pins σ H s):∀ b o,X.base.get? b=some o->s.heap.get? b=some o:=fun b o e=>(I.bs b o e).1
theorem Inv.mod (I:Inv X pins σ H s):Mod X.K X.mg X.base:=I.ok.mod
theorem Inv.kIn (I:Inv X pins σ H s):X.K.In s.heap:=I.ok.mod.kin.keeps I.bk
theorem Inv.nolimit (I:Inv X pins σ H s):s.heap.NoLimit:=I.ok.mod.nolimit.keeps I.bk
theorem Inv.fr (I:Inv X pins σ H s):∃ m,Fr X.base X.env.locals s.heap m:=
 let ⟨m,hn,_⟩:=I.loc
 ⟨m,hn,I.bk,Nat.le_trans I.ok.bsz I.ok.above⟩
theorem Inv.lt (I:Inv X pins σ H s):X.env.locals < s.heap.objs.size:=let ⟨_,hn,_⟩:=I.loc;hn.lt
theorem Inv.sz (I:Inv X pins σ H s):X.s₀.heap.objs.size <= s.heap.objs.size:=Nat.le_trans I.ok.above (Nat.le_of_lt I.lt)
theorem Inv.nofs (I:Inv X pins σ H s) {a:Addr} (h:s.heap.objs.size <= a):a ∉ X.fs:=fun hb=>by
 obtain ⟨_,o,ho,_⟩:=I.ok.funs.mem hb;exact absurd (Nat.lt_of_lt_of_le (Heap.lt_size ho) (Nat.le_trans I.sz h)) (Nat.lt_irrefl _)
theorem Inv.cne (I:Inv X pins σ H s):∀ x c,X.env.cells.lookup x=some c->c ≠ X.env.locals:=fun x c e z=>by
 obtain ⟨v,o,ho,hd⟩:=I.cell x c e;obtain ⟨m,⟨o',es,ep,ho',hd',_⟩,_⟩:=I.loc;rw [z,ho'] at ho;cases ho;rw [hd'] at hd;cases hd
theorem Inv.funs (I:Inv X pins σ H s):s.heap.FunFrames X.base X.outer:=by
 have all:∀ (l:List Env),(∀ b ∈ frs l,b ∈ X.fs)->X.s₀.heap.FunFrames X.base l->s.heap.FunFrames X.base l:=by
  intro l
  induction l with
  | nil=>intro _ _;trivial
  | cons env r ih=>
   intro hs hl;obtain ⟨hk,⟨L,o,hf,hn,ho,hd⟩,hr⟩:=hl;have hL:L ∈ X.fs:=hs L (by unfold frs;rw [List.filterMap_cons,hf];exact mem_cons_self);obtain ⟨sl,e⟩:=I.base.slot L o ho (I.ok.frf L hL) hL fun z=>I.ok.exfs L z hL
   exact ⟨hk,⟨L,_,hf,hn,e,hd⟩,ih (fun b hb=>hs b (by unfold frs;rw [List.filterMap_cons,hf];exact mem_cons_of_mem _ hb)) hr⟩
 exact all X.outer (fun _ hb=>hb) I.ok.funs
theorem Inv.stack (I:Inv X pins σ H s):s.heap.FunFrames X.base X.stack:=by
 rcases I.ok.stk with e | ⟨e,hf⟩
 ·rw [e];exact I.funs
 ·rw [e];obtain ⟨m,hn,_⟩:=I.loc;refine .cons (by rw [I.ok.kind];decide) hf hn ?_ I.funs;exact Heap.get?_none_of_le (Nat.le_trans I.ok.bsz I.ok.above)
theorem Inv.stkSub (I:Inv X pins σ H s):∀ b ∈ frs X.stack,b ∈ X.env.locals :: X.fs:=fun b hb=>by
 rcases I.ok.stk with e | ⟨e,hf⟩
 ·rw [e] at hb;exact mem_cons_of_mem _ hb
 ·rw [e] at hb;unfold frs at hb;rw [List.filterMap_cons,hf] at hb;exact hb
theorem Inv.stkFree (I:Inv X pins σ H s):∀ b ∈ frs X.stack,H b=none:=fun b hb=>by
 rcases List.mem_cons.mp (I.stkSub b hb) with e | hb
 ·rw [e];exact I.free
 ·obtain ⟨_,o,ho,_⟩:=I.ok.funs.mem hb;exact I.base.free b o ho (I.ok.frf b hb) fun z=>I.ok.exfs b z hb
theorem Inv.step {g':Array GenState} {t':Nat} {d':Drawn} {ch:List Addr} (I:Inv X pins σ H s)
  (hch:∀ b ∈ ch,(b ∈ X.ex\/X.s₀.heap.objs.size <= b)/\b ≠ X.env.locals/\(∀ x c,X.env.cells.lookup x=some c->c ≠ b)/\∀ p ∈ X.pn ++ pins,p.1 ≠ b)
  (keep:∀ b o,b ≠ X.env.locals->b ∉ X.fs->b ∉ ch->s.heap.get? b=some o->H b=none->h'.get? b=some o)
  (slot:∀ b o,b ≠ X.env.locals->b ∈ X.fs->b ∉ ch->s.heap.get? b=some o->H b=none->∃ sl,h'.get? b=some { o with slots:=sl }) (free:∀ b o,b ∉ ch->s.heap.get? b=some o->H b=none->H' b=none)
  (there:∀ b o,b ∉ ch->s.heap.get? b=some o->∃ o',h'.get? b=some o')
  (tups:∀ b xs,H b=some (.tup xs)->H' b=some (.tup xs)) (frzs:∀ b o u,H b=some (.frz o u)->H' b=some (.frz o u)) (tbls:∀ b ps,H b=some (.tbl ps)->∃ more,H' b=some (.tbl (ps ++ more)))
  (ns:∀ m,s.heap.Ns X.env.locals m->h'.Ns X.env.locals m) (hok:HOk X.prog X.w H' h') (hg:AllBare g') :
  Inv X pins σ H' { s with heap:=h',gens:=g',drawn:=d',toks:=t' }:=by
 have neL:∀ b o,X.s₀.heap.get? b=some o->b ≠ X.env.locals:=fun b o e=>Nat.ne_of_lt (Nat.lt_of_lt_of_le (Heap.lt_size e) I.ok.above)
 have neC:∀ b o,X.s₀.heap.get? b=some o->b ∉ X.ex->b ∉ ch:=fun b o e hx hb=>by
  rcases (hch b hb).1 with z | z
  ·exact hx z
  ·exact absurd (Nat.lt_of_lt_of_le (Heap.lt_size e) z) (Nat.lt_irrefl _)
 have cellK:∀ x c,X.env.cells.lookup x=some c->∀ v,s.heap.IsCell c v->h'.IsCell c v:=fun x c e v ⟨o,ho,hd⟩=>by
  have nch:c ∉ ch:=fun z=>(hch c z).2.2.1 x c e rfl
  by_cases hc:c ∈ X.fs
  ·obtain ⟨sl,q⟩:=slot c o (I.cne x c e) hc nch ho (I.freeC x c e);exact ⟨_,q,hd⟩
  ·exact ⟨o,keep c o (I.cne x c e) hc nch ho (I.freeC x c e),hd⟩
 refine ⟨I.ok,I.os,hg,⟨fun b o e n hb hx=>?_,fun b o e n hb hx=>?_,fun b o e n hx=>?_,fun b o e hx=>?_,fun b xs e=>tups b xs (I.base.tups b xs e),fun b o xs e=>frzs b o xs (I.base.frzs b o xs e),fun b ps e=>?_⟩,?_,fun x c e=>?_,?_,fun x c e=>?_,fun p hp=>?_,hok,I.len⟩
 ·exact keep b o (neL b o e) hb (neC b o e hx) (I.base.keep b o e n hb hx) (I.base.free b o e n hx)
 ·obtain ⟨sl,e1⟩:=I.base.slot b o e n hb hx;obtain ⟨sl',e2⟩:=slot b _ (neL b o e) hb (neC b o e hx) e1 (I.base.free b o e n hx);exact ⟨sl',e2⟩
 ·obtain ⟨o',e1⟩:=I.base.there b o e hx;exact free b o' (neC b o e hx) e1 (I.base.free b o e n hx)
 ·obtain ⟨o',e1⟩:=I.base.there b o e hx;exact there b o' (neC b o e hx) e1
 ·obtain ⟨m1,e1⟩:=I.base.tbls b ps e;obtain ⟨m2,e2⟩:=tbls b _ e1;exact ⟨m1 ++ m2,by rw [e2,Array.append_assoc]⟩
 ·obtain ⟨m,hn,hl⟩:=I.loc;refine ⟨m,ns m hn,fun i x v e1 e2 e3=>?_⟩;obtain ⟨u,r,l⟩:=hl i x v e1 e2 e3;refine ⟨u,r,?_⟩;rcases l with l | ⟨k,c,e,z⟩
  ·exact .inl l
  ·exact .inr ⟨k,c,e,cellK x c e _ z⟩
 ·obtain ⟨v,z⟩:=I.cell x c e;exact ⟨v,cellK x c e v z⟩
 ·obtain ⟨m,⟨o,_,_,ho,_⟩,_⟩:=I.loc;exact free _ o (fun z=>(hch _ z).2.1 rfl) ho I.free
 ·obtain ⟨v,o,ho,hd⟩:=I.cell x c e;exact free c o (fun z=>(hch c z).2.2.1 x c e rfl) ho (I.freeC x c e)
 ·obtain ⟨e,n,ne,nf,d⟩:=I.pin p hp;have nch:p.1 ∉ ch:=fun z=>(hch p.1 z).2.2.2 p hp rfl
  exact ⟨keep p.1 p.2 ne nf nch e n,free p.1 p.2 nch e n,ne,nf,d⟩
theorem Inv.un {t':Nat} (I:Inv X pins σ H s) (u:Un X.fs [] H H' s.heap h') (hok:HOk X.prog X.w H' h'):Inv X pins σ H' { s with heap:=h',toks:=t' }:=by
 obtain ⟨m,⟨o,es,ep,ho,r⟩,_⟩:=id I.loc;obtain ⟨sl,hL⟩:=u.any ho I.free (by simp);exact I.step (g':=s.gens) (d':=s.drawn) (ch:=[]) (fun _ z=>nomatch z) (fun b o _ hb _ e n=>u.keep b o e n hb (by simp)) (fun b o _ hb _ e n=>u.slot b o e n hb (by simp)) (fun b o _ e n=>u.free b o e n (by simp)) (fun b o _ e=>u.there b o e (by simp)) u.tups u.frzs u.tbls (fun m' hm=>by
  obtain ⟨o',es',ep',ho',r'⟩:=hm;rw [ho] at ho';cases ho';exact ⟨_,es',ep',hL,r'⟩) hok I.bare
theorem Inv.call {g':Array GenState} {t':Nat} {d':Drawn} {ch:List Addr} (I:Inv X pins σ H s) (u:Un (frs X.stack) ch H H' s.heap h') (hok:HOk X.prog X.w H' h') (hg:AllBare g')
  (hch:∀ b ∈ ch,(b ∈ X.ex\/X.s₀.heap.objs.size <= b)/\b ≠ X.env.locals/\(∀ x c,X.env.cells.lookup x=some c->c ≠ b)/\∀ p ∈ X.pn ++ pins,p.1 ≠ b) :
  Inv X pins σ H' { s with heap:=h',gens:=g',drawn:=d',toks:=t' }:=by
 obtain ⟨m,⟨o,es,ep,ho,r⟩,_⟩:=id I.loc;obtain ⟨sl,hL⟩:=u.any ho I.free fun z=>(hch _ z).2.1 rfl
 exact I.step (ch:=ch) hch (fun b o hL hb hc e n=>u.keep b o e n (fun z=>(List.mem_cons.mp (I.stkSub b z)).elim hL hb) hc) (fun b o _ _ hc e n=>u.any e n hc) (fun b o hc e n=>u.free b o e n hc) (fun b o hc e=>u.there b o e hc) u.tups u.frzs u.tbls (fun m' hm=>by
  obtain ⟨o',es',ep',ho',r'⟩:=hm;rw [ho] at ho';cases ho';exact ⟨_,es',ep',hL,r'⟩) hok hg
theorem Inv.turned {t':Nat} {it:Addr} (I:Inv X pins σ H s) (k:∀ b o,b ≠ it->s.heap.get? b=some o->h'.get? b=some o) (hn:H it=none) (hL:it ≠ X.env.locals)
  (h1:it ∈ X.ex\/X.s₀.heap.objs.size <= it) (h2:∀ x c,X.env.cells.lookup x=some c->c ≠ it) (h3:∀ p ∈ X.pn ++ pins,p.1 ≠ it):Inv X pins σ H { s with heap:=h',toks:=t' }:=by
 have nit:∀ b u,H b=some u->b ≠ it:=fun b u e z=>by rw [z,hn] at e;cases e
 refine I.step (g':=s.gens) (d':=s.drawn) (ch:=[it]) (fun b hb=>?_) (fun b o _ _ hc e _=>k b o (fun z=>hc (by simp [z])) e) (fun b o _ _ hc e _=>⟨o.slots,k b o (fun z=>hc (by simp [z])) e⟩) (fun _ _ _ _ n=>n)
  (fun b o hc e=>⟨o,k b o (fun z=>hc (by simp [z])) e⟩) (fun _ _ e=>e) (fun _ _ _ e=>e) (fun b ps e=>⟨#[],by rw [e];simp⟩) (fun m hm=>?_) (fun b u e=>?_) I.bare
 ·have e:b=it:=by simpa using hb
  subst e;exact ⟨h1,hL,h2,h3⟩
 ·obtain ⟨o,es,ep,ho,r⟩:=hm;exact ⟨o,es,ep,k _ o (Ne.symm hL) ho,r⟩
 ·refine (I.hok b u e).stay (fun c v hc q=>k c v ?_ q) (fun _ q=>q) fun _ _ q=>q
  rcases hc with z | z
  ·rw [z];exact nit b u e
  ·exact nit c _ z
theorem Inv.tok (I:Inv X pins σ H s) (t:Nat):Inv X pins σ H { s with toks:=t }:=I.un (h':=s.heap) (t':=t) Un.refl I.hok
theorem Inv.kept {t':Nat} (I:Inv X pins σ H s) (k:∀ b u,s.heap.get? b=some u->h'.get? b=some u):Inv X pins σ H { s with heap:=h',toks:=t' }:=I.un (Un.kept k) (I.hok.kept k)
theorem Inv.laid {a:Addr} {o:HO} {t':Nat} (I:Inv X pins σ H s) (k:∀ b u,s.heap.get? b=some u->h'.get? b=some u) (hp:s.heap.objs.size <= a) (new:Sd X.prog X.w (upd H a o) h' a o) :
  Inv X pins σ (upd H a o) { s with heap:=h',toks:=t' }:=I.un (Un.laid k hp (I.hok.fresh hp)) (I.hok.laid k hp new)
theorem Inv.write {x e:Addr} {o:HO} {t':Nat} (I:Inv X pins σ H s) (mu:Mut (H x)) (he:e=x\/H e=some (.own x)) (k:∀ b u,b ≠ e->s.heap.get? b=some u->h'.get? b=some u) (heo:∃ u,h'.get? e=some u)
  (new:Sd X.prog X.w (upd H x o) h' x o):Inv X pins σ (upd H x o) { s with heap:=h',toks:=t' }:=I.un (Un.write mu he k heo) (I.hok.write mu he k heo new)
theorem Inv.weak {σ':List (Option V)} (I:Inv X pins σ H s) (hl:σ'.length=σ.length) (w:∀ (i:Nat) v,σ'[i]? = some (some v)->σ[i]? = some (some v)):Inv X pins σ' H s:=
 ⟨I.ok,I.os,I.bare,I.base,let ⟨m,hn,hl'⟩:=I.loc;⟨m,hn,fun i x v e1 e2 e3=>hl' i x v e1 (w i v e2) e3⟩,I.cell,I.free,I.freeC,I.pin,I.hok,hl.trans I.len⟩
theorem Inv.pins_of {pins':List (Addr × Obj)} (I:Inv X pins σ H s) (h:∀ p ∈ pins',s.heap.get? p.1=some p.2/\H p.1=none/\p.1 ≠ X.env.locals/\p.1 ∉ X.fs/\∀ v,p.2.data ≠ .cell v):Inv X pins' σ H s:=
 ⟨I.ok,I.os,I.bare,I.base,I.loc,I.cell,I.free,I.freeC,fun p hp=>(List.mem_append.mp hp).elim (fun z=>I.pin p (List.mem_append_left _ z)) (h p),I.hok,I.len⟩
theorem Ev {N:List Str} (hN:N.Nodup) {i j:Nat} {x:Str} (a:N[i]? = some x) (b:N[j]? = some x):i=j:=by
 obtain ⟨h1,e1⟩:=List.getElem?_eq_some_iff.mp a;obtain ⟨h2,e2⟩:=List.getElem?_eq_some_iff.mp b;exact (List.getElem_inj hN).mp (e1.trans e2.symm)
theorem Kw {M:Model} {A:Around} {E:Value->Shared->Prop} {i:Nat} {x:Str} {v:V} {u:Value} {Q:Unit->Shared->Prop} (I:Inv X pins σ H s) (hN:X.N.Nodup) (hi:X.N[i]? = some x) (hx:Loc X.env.scope x) (r:ae v u)
  (h:∀ s',Inv X pins (σ.set i (some v)) H s'->(∃ a,Heap.SameBut a s.heap s'.heap/\(a=X.env.locals\/X.env.cells.lookup x=some a))->Q () s') (hf:X.fn x=true\/X.env.scope.names.lookup x=some .local:=by first | exact .inl rfl | exact .inr rfl | assumption):wpAny M A (storeName X.env x u) Q E s:=by
 obtain ⟨m,hn,hl⟩:=id I.loc;have hcls:(X.env.scope.kind == .class || (X.env.scope.kind == .module && X.env.locals != X.env.globals))=false:=by rw [I.ok.kind];rfl
 have hiσ:i < σ.length:=by rw [I.len];exact (List.getElem?_eq_some_iff.mp hi).1
 have cne:=I.cne;have tracked:∀ {a:Addr} {h':Heap},(∃ o,s.heap.get? a=some o/\H a=none)->Heap.SameBut a s.heap h'->HOk X.prog X.w H h':=fun {a h'} ha hs b ob e=>by
  obtain ⟨_,_,hfree⟩:=ha;refine (I.hok b ob e).stay (fun c w' hc q=>(hs.2 c ?_).trans q) (fun _ q=>q) fun _ _ q=>q
  rintro rfl;rcases hc with rfl | hc
  ·rw [hfree] at e;cases e
  ·rw [hfree] at hc;cases hc
 rcases hx with hk | hk
 ·refine wpAny_storeName_local hk hn (fun h' hn' hs=>?_) hcls;obtain ⟨oL,_,_,hoL,_⟩:=id hn;refine h _ ⟨I.ok,I.os,I.bare,⟨fun b o e n hb hx=>?_,fun b o e n hb hx=>?_,I.base.free,fun b o e hx=>?_,I.base.tups,I.base.frzs,I.base.tbls⟩,⟨_,hn',fun j y v' e1 e2 e3=>?_⟩,fun y c e=>?_,I.free,I.freeC,fun p hp=>?_,tracked ⟨oL,hoL,I.free⟩ hs,by simpa using I.len⟩ ⟨_,hs,.inl rfl⟩
  ·exact (hs.2 b (Nat.ne_of_lt (Nat.lt_of_lt_of_le (Heap.lt_size e) I.ok.above))).trans (I.base.keep b o e n hb hx)
  ·obtain ⟨sl,e1⟩:=I.base.slot b o e n hb hx;exact ⟨sl,(hs.2 b (Nat.ne_of_lt (Nat.lt_of_lt_of_le (Heap.lt_size e) I.ok.above))).trans e1⟩
  ·obtain ⟨o',e1⟩:=I.base.there b o e hx;exact ⟨o',(hs.2 b (Nat.ne_of_lt (Nat.lt_of_lt_of_le (Heap.lt_size e) I.ok.above))).trans e1⟩
  ·by_cases hj:j=i
   ·subst hj;rw [hi] at e1;cases e1;rw [getElem?_set_self hiσ] at e2;cases e2;exact ⟨u,r,.inl ⟨hk,by simp⟩⟩
   ·rw [getElem?_set_ne (Ne.symm hj)] at e2;obtain ⟨u',r',q⟩:=hl j y v' e1 e2 e3;refine ⟨u',r',?_⟩;rcases q with ⟨k,e⟩ | ⟨k,c,e,z⟩
    ·refine .inl ⟨k,?_⟩;have:y ≠ x:=fun e=>hj (Ev hN e1 (e ▸ hi))
     simp [this,e]
    ·exact .inr ⟨k,c,e,z.sameBut hs (cne y c e)⟩
  ·obtain ⟨w',z⟩:=I.cell y c e;exact ⟨w',z.sameBut hs (cne y c e)⟩
  ·obtain ⟨e,n,ne,nf,d⟩:=I.pin p hp;exact ⟨(hs.2 p.1 ne).trans e,n,ne,nf,d⟩
 ·have hfn:X.fn x=true:=by
   rcases hf with z | z
   ·exact z
   ·rw [z] at hk;cases hk
  obtain ⟨c,hc⟩:=I.ok.has x (.inl hk);obtain ⟨w',z⟩:=I.cell x c hc;refine wpAny_storeName_cell I.ok.kind hk hc z (fun h' hc' hs=>?_);obtain ⟨oc,hoc,hocd⟩:=id z;refine h { s with heap:=h' } ⟨I.ok,I.os,I.bare,⟨fun b o e n hb hx=>?_,fun b o e n hb hx=>?_,I.base.free,fun b o e hx=>?_,I.base.tups,I.base.frzs,I.base.tbls⟩,⟨m,hn.sameBut hs (Ne.symm (cne x c hc)),fun j y v' e1 e2 e3=>?_⟩,fun y c' e=>?_,I.free,I.freeC,fun p hp=>?_,tracked ⟨oc,hoc,I.freeC x c hc⟩ hs,by simpa using I.len⟩ ⟨c,hs,.inr hc⟩
  ·exact (hs.2 b (Nat.ne_of_lt (Nat.lt_of_lt_of_le (Heap.lt_size e) (I.ok.cab x c hfn hc)))).trans (I.base.keep b o e n hb hx)
  ·obtain ⟨sl,e1⟩:=I.base.slot b o e n hb hx;exact ⟨sl,(hs.2 b (Nat.ne_of_lt (Nat.lt_of_lt_of_le (Heap.lt_size e) (I.ok.cab x c hfn hc)))).trans e1⟩
  ·obtain ⟨o',e1⟩:=I.base.there b o e hx;exact ⟨o',(hs.2 b (Nat.ne_of_lt (Nat.lt_of_lt_of_le (Heap.lt_size e) (I.ok.cab x c hfn hc)))).trans e1⟩
  ·by_cases hj:j=i
   ·subst hj;rw [hi] at e1;cases e1;rw [getElem?_set_self hiσ] at e2;cases e2;exact ⟨u,r,.inr ⟨.inl hk,c,hc,hc'⟩⟩
   ·rw [getElem?_set_ne (Ne.symm hj)] at e2;obtain ⟨u',r',q⟩:=hl j y v' e1 e2 e3;refine ⟨u',r',?_⟩;rcases q with q | ⟨k,c',e,z'⟩
    ·exact .inl q
    ·refine .inr ⟨k,c',e,z'.sameBut hs ?_⟩;rintro rfl;exact hj (Ev hN e1 (I.ok.inj _ _ _ e hc ▸ hi))
  ·by_cases hcc:c'=c
   ·subst hcc;exact ⟨_,hc'⟩
   ·obtain ⟨w2,z2⟩:=I.cell y c' e;exact ⟨w2,z2.sameBut hs hcc⟩
  ·obtain ⟨e,n,ne,nf,d⟩:=I.pin p hp;refine ⟨(hs.2 p.1 ?_).trans e,n,ne,nf,d⟩;intro q;rw [q,hoc] at e;have q':oc=p.2:=Option.some.inj e;exact d w' (by rw [<- q'];exact hocd)
theorem gq {M:Model} {A:Around} {E:Value->Shared->Prop} {i:Nat} {x:Str} {v:V} {u:Value} {Q:Unit->Shared->Prop} (I:Inv X pins σ H s) (hN:X.N.Nodup) (hi:X.N[i]? = some x) (hx:Loc X.env.scope x) (r:ae v u)
  (h:∀ s',Inv X pins (σ.set i (some v)) H s'->Q () s') (hf:X.fn x=true\/X.env.scope.names.lookup x=some .local:=by first | exact .inl rfl | exact .inr rfl | assumption):wpAny M A (storeName X.env x u) Q E s:=
 Kw I hN hi hx r (fun s' I' _=>h s' I') hf
theorem Inv.call' {s':Shared} {ch:List Addr} (I:Inv X pins σ H s) (ho:s'.os=s.os) (u:Un (frs X.stack) ch H H' s.heap s'.heap) (hok:HOk X.prog X.w H' s'.heap) (hg:AllBare s'.gens)
  (hch:∀ b ∈ ch,(b ∈ X.ex\/X.s₀.heap.objs.size <= b)/\b ≠ X.env.locals/\(∀ x c,X.env.cells.lookup x=some c->c ≠ b)/\∀ p ∈ X.pn ++ pins,p.1 ≠ b):Inv X pins σ H' s':=by
 obtain ⟨h',g',d',t',o'⟩:=s';have e:o'=s.os:=ho;subst e;exact I.call (g':=g') (t':=t') (d':=d') u hok hg hch
end
noncomputable abbrev XK:=Value->Option Addr->Hp->Prop
noncomputable abbrev St:=List (Option V)
noncomputable abbrev VK:=V->Hp->Prop
noncomputable abbrev TE:=St->Hp->VK->Prop
noncomputable abbrev TT:=St->Hp->(Bool->Hp->Prop)->Prop
noncomputable abbrev TA:=St->Hp->(List V->Hp->Prop)->Prop
structure Li where
 nx:St->Hp->Prop
 rt:VK
 bk:St->Hp->Prop:=fun _ _=>False
 ct:St->Hp->Prop:=fun _ _=>False
noncomputable abbrev TS:=Li->St->Hp->Prop
noncomputable def EP (X:Cx) (pins:List (Addr × Obj)) (σ:St) (Q:VK) (u:Value) (s':Shared):Prop:=∃ v H',Inv X pins σ H' s'/\ae v u/\Q v H'
noncomputable def TP (X:Cx) (pins:List (Addr × Obj)) (σ:St) (Q:Bool->Hp->Prop) (b:Bool) (s':Shared):Prop:=∃ H',Inv X pins σ H' s'/\Q b H'
noncomputable def AP (X:Cx) (pins:List (Addr × Obj)) (σ:St) (Q:List V->Hp->Prop) (us:List Value) (s':Shared):Prop:=∃ vs H',Inv X pins σ H' s'/\Kd vs us/\Q vs H'
noncomputable def SP (X:Cx) (pins:List (Addr × Obj)) (D:Li) (f:Flow) (s':Shared):Prop:=
 match f with
 | .next=>∃ σ' H',Inv X pins σ' H' s'/\D.nx σ' H'
 | .brk=>∃ σ' H',Inv X pins σ' H' s'/\D.bk σ' H'
 | .cont=>∃ σ' H',Inv X pins σ' H' s'/\D.ct σ' H'
 | .ret u=>∃ v σ' H',Inv X pins σ' H' s'/\ae v u/\D.rt v H'
noncomputable def PE (X:Cx) (e:Expr) (t:TE):Prop:=
 ∀ (pins:List (Addr × Obj)) (s:Shared) (σ:St) (H:Hp) (Q:VK),Inv X pins σ H s->t σ H Q->wpAny (model X.prog X.w) X.A (eval e X.env) (EP X pins σ Q) X.xe s
noncomputable def PT (X:Cx) (e:Expr) (t:TT):Prop:=
 ∀ (pins:List (Addr × Obj)) (s:Shared) (σ:St) (H:Hp) (Q:Bool->Hp->Prop),Inv X pins σ H s->t σ H Q->wpAny (model X.prog X.w) X.A (isTrue e X.env (eval e X.env)) (TP X pins σ Q) X.xe s
noncomputable def PW (X:Cx) (e:Expr) (t:TT):Prop:=
 ∀ (whole:Sem Value) (pins:List (Addr × Obj)) (s:Shared) (σ:St) (H:Hp) (Q:Bool->Hp->Prop),Inv X pins σ H s->t σ H Q->wpAny (model X.prog X.w) X.A (isTrue e X.env whole) (TP X pins σ Q) X.xe s
theorem PW.pt {X:Cx} {e:Expr} {t:TT} (h:PW X e t):PT X e t:=h _
noncomputable def PA (X:Cx) (es:List Expr) (t:TA):Prop:=
 ∀ (pos:Pos) (pins:List (Addr × Obj)) (s:Shared) (σ:St) (H:Hp) (Q:List V->Hp->Prop),Inv X pins σ H s->t σ H Q->wpAny (model X.prog X.w) X.A (spliced (backTo pos (starEach es X.env))) (AP X pins σ Q) X.xe s
noncomputable def PS (X:Cx) (st:Stmt) (t:TS):Prop:=
 ∀ (pins:List (Addr × Obj)) (s:Shared) (σ:St) (H:Hp) (D:Li),Inv X pins σ H s->t D σ H->wpAny (model X.prog X.w) X.A (exec st X.env) (SP X pins D) X.xe s
noncomputable def PSs (X:Cx) (st:List Stmt) (t:TS):Prop:=
 ∀ (pins:List (Addr × Obj)) (s:Shared) (σ:St) (H:Hp) (D:Li),Inv X pins σ H s->t D σ H->wpAny (model X.prog X.w) X.A (execs st X.env) (SP X pins D) X.xe s
theorem thn {α:Type} {t:Sem α} {Q Q':α->Shared->Prop} {M:Model} {A:Around} {E:Value->Shared->Prop} {s:Shared} (h:wpAny M A t Q E s) (hQ:∀ a s,Q a s->Q' a s):wpAny M A t Q' E s:=wpAny_mono h hQ fun _ _ x=>x
end L2
namespace L2
open PySem PySem.Spec PyProof.Rows
section
variable {X:Cx}
noncomputable def tQ (i:Nat):TE:=fun σ H Q=>∃ v,σ[i]? = some (some v)/\Q v H
noncomputable def tC (v:V):TE:=fun _ H Q=>Q v H
theorem JN {i:Nat} {x:Str} {pos:Pos} (hN:X.N[i]? = some x) (hv:Vis X.env.scope x) (hd:(x == ("__debug__" : Str))=false:=by decide) (hcd:(x == ("__classdict__" : Str))=false:=by decide):PE X (.Name x pos) (tQ i):=by
 intro pins s σ H Q I h;obtain ⟨v,e,h⟩:=h;obtain ⟨m,hn,hl⟩:=I.loc;obtain ⟨u,r,l⟩:=hl i x v hN e hv;have fin:EP X pins σ Q u s:=⟨v,H,I,r,h⟩;rcases l with ⟨hk,hm⟩ | ⟨hk,c,hc,hcell⟩
 ·exact wpAny_Name (wpAny_loadName_local I.ok.kind hk hn hm fin) hd
 ·rcases hk with hk | hk
  ·exact wpAny_Name (wpAny_loadName_cell I.ok.kind hk hc hcell fin) hd
  ·exact wpAny_Name (wpAny_loadName_free I.ok.kind hk hc hcell fin hcd) hd
theorem xb {i j pos}:PE X (.Constant (.int i) j pos) (tC (.int i)):=fun _ _ _ H _ I h=>wpAny_Constant_int ⟨.int i,H,I.tok _,⟨_,rfl⟩,h⟩
theorem Cm {b j pos}:PE X (.Constant (.bool b) j pos) (tC (.bl b)):=fun _ _ _ H _ I h=>Constant_bool ⟨.bl b,H,I,rfl,h⟩
theorem Qw {j pos}:PE X (.Constant .none j pos) (tC .non):=fun _ _ _ H _ I h=>Constant_none ⟨.non,H,I,rfl,h⟩
theorem Rc {x j pos}:PE X (.Constant (.str x) j pos) (tC (.str x)):=fun _ _ _ H _ I h=>Calls.Constant_str ⟨.str x,H,I.tok _,⟨_,rfl⟩,h⟩
noncomputable def Gl (X:Cx) (x:Str):Prop:=X.env.kindOf x=some .globalImplicit
theorem Bk {E:Value->Shared->Prop} {pins:List (Addr × Obj)} {s:Shared} {σ:St} {H:Hp} {x:Str} {u:Value} {pos:Pos} {Q:Value->Shared->Prop} (I:Inv X pins σ H s) (hg:Gl X x) (hm:X.mg x=some u) (h:Q u s)
  (hd:(x == ("__debug__" : Str))=false:=by decide):wpAny (model X.prog X.w) X.A (eval (.Name x pos) X.env) Q E s:=
 Calls.Name_function_global I.ok.kind hg (Calls.loadGlobal_global (by rw [I.ok.glob];exact I.mod.glob.keeps I.bk) hm h) hd
theorem bo {E:Value->Shared->Prop} {pins:List (Addr × Obj)} {s:Shared} {σ:St} {H:Hp} {x:Str} {u:Value} {pos:Pos} {Q:Value->Shared->Prop} (I:Inv X pins σ H s) (hg:Gl X x) (hm:X.mg x=none) (hv:bootBuiltins x=some u) (h:Q u s)
  (hn:x ≠ "__name__" := by decide) (hd:(x == ("__debug__" : Str))=false:=by decide):wpAny (model X.prog X.w) X.A (eval (.Name x pos) X.env) Q E s:=by
 obtain ⟨mb,h1,h2⟩:=I.mod.blt;exact Calls.Name_function_global I.ok.kind hg (Calls.loadGlobal_builtin (by rw [I.ok.glob];exact I.mod.glob.keeps I.bk) hm (by rw [I.ok.blt];exact h1.keeps I.bk) ((h2 x hn).trans hv) h) hd
theorem Wg {x:Str} {v:V} {u:Value} {pos:Pos} (hg:Gl X x) (hm:X.mg x=some u) (r:ae v u) (hd:(x == ("__debug__" : Str))=false:=by decide):PE X (.Name x pos) (tC v):=
 fun _ _ _ H _ I h=>Bk I hg hm ⟨v,H,I,r,h⟩ hd
theorem OM {x:Str} {v:V} {u:Value} {pos:Pos} (hg:Gl X x) (hm:X.mg x=none) (hv:bootBuiltins x=some u) (r:ae v u) (hn:x ≠ "__name__" := by decide) (hd:(x == ("__debug__" : Str))=false:=by decide):PE X (.Name x pos) (tC v):=
 fun _ _ _ H _ I h=>bo I hg hm hv ⟨v,H,I,r,h⟩ hn hd
variable {a b:Expr} {ta tb:TE} {pos:Pos}
noncomputable def PC (X:Cx) (op:CmpOp) (a b:Expr) (t:TE):Prop:=
 ∀ (pins:List (Addr × Obj)) (s:Shared) (σ:St) (H:Hp) (Q:VK),Inv X pins σ H s->t σ H Q ->
  wpAny (model X.prog X.w) X.A (eval a X.env) (fun v s₁=>wpAny (model X.prog X.w) X.A (eval b X.env) (fun u s₂=>wpAny (model X.prog X.w) X.A (compareOp op v u) (EP X pins σ Q) X.xe s₂) X.xe s₁) X.xe s
theorem aJ (b:Expr) {op:CmpOp} (h:op ≠ .In) (h2:op ≠ .NotIn):behindInMarks op b=false:=by
 have e1:(op == CmpOp.In)=false:=by cases op <;> first | rfl | exact absurd rfl h
 have e2:(op == CmpOp.NotIn)=false:=by cases op <;> first | rfl | exact absurd rfl h2
 cases b <;> simp [behindInMarks,e1,e2]
noncomputable def tB (t:TE):TT:=fun σ H Q=>t σ H fun x H1=>∃ c,x=.bl c/\Q c H1
theorem IJ {op:CmpOp} {t:TE} (h:PC X op a b t) (h1:behindInMarks op b=false:=by first | exact aJ _ (by decide) (by decide) | rfl):PT X (.Compare a [op] [b] pos) (tB t):=by
 intro pins s σ H Q I hw;refine wpAny_isTrue_Compare1 (thn (h pins s σ H _ I hw) fun v s1 h1=>thn h1 fun u s2 h2=>thn h2 fun c s3 hZ1=>?_) h1;obtain ⟨x,H1,I1,r1,q1⟩:=hZ1;obtain ⟨d,rfl,q⟩:=q1;cases r1;exact wpAny_truthy_bool ⟨H1,I1,q⟩
theorem Ph {e:Expr} {t:TE} (h:PE X e t) (he:∀ whole,isTrue e X.env whole=(do let v <- whole;standAt e.pos;holding [v] (truthy v)):=by intro _;rfl):PT X e (tB t):=by
 intro pins s σ H Q I hw;refine isTrue_plain (thn (h pins s σ H _ I hw) fun v s1 hZ1=>?_) (he _);obtain ⟨x,H1,I1,r1,q1⟩:=hZ1;obtain ⟨d,rfl,q⟩:=q1;cases r1;exact wpAny_truthy_bool ⟨H1,I1,q⟩
variable {tA tB':TT} {rest:List Expr}
noncomputable def RQ (t u:TT):TT:=fun σ H Q=>t σ H fun c H1=>if c=true then u σ H1 Q else Q false H1
noncomputable def tOr (t u:TT):TT:=fun σ H Q=>t σ H fun c H1=>if c=true then Q true H1 else u σ H1 Q
noncomputable def gR (t:TT):TT:=fun σ H Q=>t σ H fun c H1=>Q (!c) H1
theorem Jq (ha:PT X a tA):PW X (.BoolOp .And [a] pos) tA:=by
 intro wh pins s σ H Q I h;refine isTrue_and (thn (ha pins s σ H Q I h) fun c s1 e=>?_);cases c with
 | true=>exact isTrue_and_nil e
 | false=>exact e
theorem Gp (ha:PT X a tA):PW X (.BoolOp .Or [a] pos) tA:=by
 intro wh pins s σ H Q I h;refine isTrue_or (thn (ha pins s σ H Q I h) fun c s1 e=>?_);cases c with
 | false=>exact isTrue_or_nil e
 | true=>exact e
theorem zx (ha:PT X a tA) (hb:PW X (.BoolOp .And (b :: rest) pos) tB'):PW X (.BoolOp .And (a :: b :: rest) pos) (RQ tA tB'):=by
 intro wh pins s σ H Q I h;refine isTrue_and (thn (ha pins s σ H _ I h) fun c s1 hZ1=>?_);obtain ⟨H1,I1,q1⟩:=hZ1;cases c with
 | true=>exact hb wh pins s1 σ H1 Q I1 q1
 | false=>exact ⟨H1,I1,q1⟩
theorem Gr (ha:PT X a tA) (hb:PW X (.BoolOp .Or (b :: rest) pos) tB'):PW X (.BoolOp .Or (a :: b :: rest) pos) (tOr tA tB'):=by
 intro wh pins s σ H Q I h;refine isTrue_or (thn (ha pins s σ H _ I h) fun c s1 hZ1=>?_);obtain ⟨H1,I1,q1⟩:=hZ1;cases c with
 | true=>exact ⟨H1,I1,q1⟩
 | false=>exact hb wh pins s1 σ H1 Q I1 q1
theorem cj (ha:PT X a tA):PT X (.UnaryOp .Not a pos) (gR tA):=by
 intro pins s σ H Q I h;exact isTrue_not (ha pins s σ H (fun c H1=>Q (!c) H1) I h)
noncomputable def lN (ta tb:TE):TE:=fun σ H Q=>ta σ H fun x H1=>∃ c,x=.bl c/\if c=true then tb σ H1 Q else Q (.bl false) H1
noncomputable def fR (ta tb:TE):TE:=fun σ H Q=>ta σ H fun x H1=>∃ c,x=.bl c/\if c=true then Q (.bl true) H1 else tb σ H1 Q
theorem Dx {op} {t:TE} (h:PE X a t):PE X (.BoolOp op [a] pos) t:=fun pins s σ H Q I hw=>BoolOp_one (h pins s σ H Q I hw)
theorem zE (ha:PE X a ta) (hb:PE X (.BoolOp .And (b :: rest) pos) tb):PE X (.BoolOp .And (a :: b :: rest) pos) (lN ta tb):=by
 intro pins s σ H Q I h;refine BoolOp_and (thn (ha pins s σ H _ I h) fun v s1 hZ1=>?_);obtain ⟨x,H1,I1,r1,q1⟩:=hZ1;obtain ⟨c,rfl,q1⟩:=q1;cases r1;refine wpAny_truthy_bool ?_;cases c with
 | true=>exact hb pins s1 σ H1 Q I1 q1
 | false=>exact ⟨.bl false,H1,I1,rfl,q1⟩
theorem ON (ha:PE X a ta) (hb:PE X (.BoolOp .Or (b :: rest) pos) tb):PE X (.BoolOp .Or (a :: b :: rest) pos) (fR ta tb):=by
 intro pins s σ H Q I h;refine BoolOp_or (thn (ha pins s σ H _ I h) fun v s1 hZ1=>?_);obtain ⟨x,H1,I1,r1,q1⟩:=hZ1;obtain ⟨c,rfl,q1⟩:=q1;cases r1;refine wpAny_truthy_bool ?_;cases c with
 | false=>exact hb pins s1 σ H1 Q I1 q1
 | true=>exact ⟨.bl true,H1,I1,rfl,q1⟩
noncomputable def tIf (t:TT) (ta tb:TE):TE:=fun σ H Q=>t σ H fun c H1=>if c=true then ta σ H1 Q else tb σ H1 Q
theorem gv {c:Expr} (hc:PT X c tA) (ha:PE X a ta) (hb:PE X b tb):PE X (.IfExp c a b pos) (tIf tA ta tb):=by
 intro pins s σ H Q I h;refine wpAny_IfExp (thn (hc pins s σ H _ I h) fun d s1 hZ1=>?_);obtain ⟨H1,I1,q1⟩:=hZ1;cases d with
 | true=>exact ha pins s1 σ H1 Q I1 q1
 | false=>exact hb pins s1 σ H1 Q I1 q1
end
end L2
namespace L2
open PySem PySem.Spec PyProof.Rows
noncomputable def SqL (K:W.Frag) (H:Hp) (a:Addr) (xs:List V):Prop:=
 Rd H a (.lst xs) \/
  ∃ (o:Obj) (its:Array Value) (n:Nat),K.lookup a=some o/\o.cls=.type "list" /\ o.dict=none/\o.data=.seq its n/\its.size <= sizeLine/\Kd xs its.toList
noncomputable def SqT (K:W.Frag) (H:Hp) (a:Addr) (xs:List V):Prop:=
 Rd H a (.tup xs) \/
  ∃ (o:Obj) (its:Array Value) (n:Nat),K.lookup a=some o/\o.cls=.type "tuple" /\ o.data=.seq its n/\its.size <= sizeLine/\Kd xs its.toList
noncomputable def AR:Value->Option V
 | .none=>some .non
 | .bool b=>some (.bl b)
 | .int i _=>some (.int i)
 | .str x _=>some (.str x)
 | .bytes b _=>some (.byt b)
 | .float b _=>some (.flt b)
 | .ref a=>some (.ref a)
 | .type n=>some (.ty n)
 | _=>none
theorem ae.abs {x:V} {u:Value} (r:ae x u):AR u=some x:=by
 cases x with
 | non=>cases r;rfl
 | bl _=>cases r;rfl
 | int _=>obtain ⟨t,rfl⟩:=r;rfl
 | str _=>obtain ⟨t,rfl⟩:=r;rfl
 | byt _=>obtain ⟨t,rfl⟩:=r;rfl
 | flt _=>obtain ⟨t,rfl⟩:=r;rfl
 | ref _=>cases r;rfl
 | ty _=>cases r;rfl
theorem ae.inj {x y:V} {u:Value} (r:ae x u) (q:ae y u):x=y:=Option.some.inj (r.abs.symm.trans q.abs)
theorem Kd.inj:∀ {xs ys:List V} {us:List Value},Kd xs us->Kd ys us->xs=ys
 | _,_,_,.nil,.nil=>rfl
 | _,_,_,.cons r t,.cons r' t'=>by rw [r.inj r',Kd.inj t t']
section
variable {X:Cx} {pins:List (Addr × Obj)} {σ:St} {H:Hp} {s:Shared} {a:Addr} {xs ys:List V}
theorem SqL.of {K:W.Frag} (h:H a=some (.lst xs)):SqL K H a xs:=.inl (.inl h)
theorem SqT.of {K:W.Frag} (h:H a=some (.tup xs)):SqT K H a xs:=.inl (.inl h)
theorem Inv.list (I:Inv X pins σ H s) (h:SqL X.K H a xs):∃ its:List Value,Kd xs its/\PlainL s.heap a its.toArray/\xs.length <= sizeLine:=by
 rcases h with h | ⟨o,its,n,hk,hc,hd,hs,hz,r⟩
 ·obtain ⟨z,its,n,r,e⟩:=h.ok I.hok;exact ⟨its,r,⟨_,n,e,rfl,rfl,rfl⟩,z⟩
 ·refine ⟨its.toList,r,⟨o,n,I.kIn a o hk,hc,hd,by simpa using hs⟩,?_⟩;have e:=r.length;simp only [Array.length_toList] at e;omega
theorem Inv.tuple (I:Inv X pins σ H s) (h:SqT X.K H a xs):∃ its:List Value,Kd xs its/\IsTup s.heap a its.toArray/\xs.length <= sizeLine:=by
 rcases h with h | ⟨o,its,n,hk,hc,hs,hz,r⟩
 ·obtain ⟨z,its,r,p⟩:=h.ok I.hok;exact ⟨its,r,p,z⟩
 ·refine ⟨its.toList,r,⟨o,I.kIn a o hk,hc,n,by simpa using hs⟩,?_⟩;have e:=r.length;simp only [Array.length_toList] at e;omega
theorem Inv.list_inj (I:Inv X pins σ H s) (h:SqL X.K H a xs) (h':SqL X.K H a ys):xs=ys:=by
 obtain ⟨its,r,⟨o,n,e,_,_,d⟩,_⟩:=I.list h;obtain ⟨its',r',⟨o',n',e',_,_,d'⟩,_⟩:=I.list h';rw [e] at e';cases e';rw [d] at d';injection d' with d1 _;have:its=its':=by simpa using congrArg Array.toList d1
 subst this;exact r.inj r'
theorem Inv.tuple_inj (I:Inv X pins σ H s) (h:SqT X.K H a xs) (h':SqT X.K H a ys):xs=ys:=by
 obtain ⟨its,r,⟨o,e,_,n,d⟩,_⟩:=I.tuple h;obtain ⟨its',r',⟨o',e',_,n',d'⟩,_⟩:=I.tuple h';rw [e] at e';cases e';rw [d] at d';injection d' with d1 _;have:its=its':=by simpa using congrArg Array.toList d1
 subst this;exact r.inj r'
end
noncomputable abbrev Cx.wish (X:Cx) (E:Value->Shared->Prop):Cx:={ X with xe:=E }
noncomputable abbrev Cx.nox (X:Cx):Cx:=X.wish fun _ _=>False
theorem Cx.Ok.wish {X:Cx} (ok:X.Ok) (E:Value->Shared->Prop):(X.wish E).Ok:=
 ⟨ok.mod,ok.kind,ok.glob,ok.blt,ok.above,ok.inj,ok.has,ok.cab,ok.hd,ok.frames,ok.stk,ok.exf,ok.bs,ok.bsz,ok.noex,ok.exfs,ok.funs,ok.frf⟩
theorem Cx.Ok.unwish {X:Cx} {E:Value->Shared->Prop} (ok:(X.wish E).Ok):X.Ok:=
 ⟨ok.mod,ok.kind,ok.glob,ok.blt,ok.above,ok.inj,ok.has,ok.cab,ok.hd,ok.frames,ok.stk,ok.exf,ok.bs,ok.bsz,ok.noex,ok.exfs,ok.funs,ok.frf⟩
section
variable {X:Cx} {pins:List (Addr × Obj)} {σ:St} {H:Hp} {s:Shared} {E:Value->Shared->Prop}
theorem Inv.wish (I:Inv X pins σ H s) (E:Value->Shared->Prop):Inv (X.wish E) pins σ H s:=⟨I.ok.wish E,I.os,I.bare,I.base,I.loc,I.cell,I.free,I.freeC,I.pin,I.hok,I.len⟩
theorem Inv.unwish (I:Inv (X.wish E) pins σ H s):Inv X pins σ H s:=⟨I.ok.unwish,I.os,I.bare,I.base,I.loc,I.cell,I.free,I.freeC,I.pin,I.hok,I.len⟩
theorem SP.unwish {D:Li} {f:Flow} {s':Shared} (h:SP (X.wish E) pins D f s'):SP X pins D f s':=by
 cases f with
 | next=>obtain ⟨σ',H',I,q⟩:=h;exact ⟨σ',H',I.unwish,q⟩
 | brk=>obtain ⟨σ',H',I,q⟩:=h;exact ⟨σ',H',I.unwish,q⟩
 | cont=>obtain ⟨σ',H',I,q⟩:=h;exact ⟨σ',H',I.unwish,q⟩
 | ret u=>obtain ⟨v,σ',H',I,r,q⟩:=h;exact ⟨v,σ',H',I.unwish,r,q⟩
theorem PE.nox {e:Expr} {t:TE} (h:PE X.nox e t):PE X e t:=fun pins s σ H Q I hw=>
 wpAny_mono (h pins s σ H Q (I.wish _) hw) (fun _ _ ⟨v,H',I',r,q⟩=>⟨v,H',I'.unwish,r,q⟩) fun _ _ z=>False.elim z
theorem PT.nox {e:Expr} {t:TT} (h:PT X.nox e t):PT X e t:=fun pins s σ H Q I hw=>
 wpAny_mono (h pins s σ H Q (I.wish _) hw) (fun _ _ ⟨H',I',q⟩=>⟨H',I'.unwish,q⟩) fun _ _ z=>False.elim z
theorem PSs.nox {st:List Stmt} {t:TS} (h:PSs X.nox st t):PSs X st t:=fun pins s σ H D I hw=>
 wpAny_mono (h pins s σ H D (I.wish _) hw) (fun _ _ q=>q.unwish) fun _ _ z=>False.elim z
end
section
variable {X:Cx} {st:Stmt} {rest:List Stmt} {t u:TS} {e:Expr} {te:TE} {pos:Pos}
noncomputable def RN:TS:=fun D σ H=>D.nx σ H
noncomputable def kR (t u:TS):TS:=fun D σ H=>t { D with nx:=u D } σ H
theorem zc:PSs X [] RN:=fun _ _ σ H _ I h=>wpAny_execs_nil ⟨σ,H,I,h⟩
theorem cb (h1:PS X st t) (h2:PSs X rest u):PSs X (st :: rest) (kR t u):=by
 intro pins s σ H D I h;refine wpAny_execs_cons (thn (h1 pins s σ H { D with nx:=u D } I h) fun f s1 q=>?_);cases f with
 | next=>
  obtain ⟨σ',H',I',q⟩:=q;exact h2 pins s1 σ' H' D I' q
 | ret v=>exact q
 | brk=>exact q
 | cont=>exact q
theorem ib (h1:PS X st t):PSs X [st] t:=by
 intro pins s σ H D I h;refine wpAny_execs_cons (thn (h1 pins s σ H D I h) fun f s1 q=>?_);cases f with
 | next=>exact wpAny_execs_nil q
 | ret v=>exact q
 | brk=>exact q
 | cont=>exact q
noncomputable def bK:TS:=fun D σ H=>D.bk σ H
theorem EH:PS X (.Break pos) bK:=fun _ _ σ H _ I h=>wpAny_Break ⟨σ,H,I,h⟩
theorem Inv.quiet {pins:List (Addr × Obj)} {σ:St} {H:Hp} {s:Shared} (I:Inv X pins σ H s):interactive X.env=false:=by simp [interactive,I.ok.kind]
noncomputable def pO (te:TE):TS:=fun D σ H=>te σ H fun _ H1=>D.nx σ H1
theorem Xb (he:PE X e te) (hs:swapsWith e none pos.line X.env=pure false:=by rfl):PS X (.Expr e pos) (pO te):=by
 intro pins s σ H D I h;exact wpAny_Expr_any (thn (he pins s σ H _ I h) fun v s1 ⟨x,H1,I1,r1,q1⟩=>⟨σ,H1,I1,q1⟩) I.quiet hs
noncomputable def dQ (te:TE):TS:=fun D σ H=>te σ H D.rt
theorem Lb (he:PE X e te):PS X (.Return (some e) pos) (dQ te):=by
 intro pins s σ H D I h;exact wpAny_Return_some (thn (he pins s σ H _ I h) fun v s1 ⟨x,H1,I1,r1,q1⟩=>⟨x,σ,H1,I1,r1,q1⟩)
noncomputable def aQ (c:TT) (t u:TS):TS:=fun D σ H=>c σ H fun b H1=>if b=true then t D σ H1 else u D σ H1
theorem Ye {c:Expr} {a b:List Stmt} {tc:TT} (hc:PT X c tc) (ha:PSs X a t) (hb:PSs X b u):PS X (.If c a b pos) (aQ tc t u):=by
 intro pins s σ H D I h;refine wpAny_If (thn (hc pins s σ H _ I h) fun d s1 hZ1=>?_);obtain ⟨H1,I1,q1⟩:=hZ1;cases d with
 | true=>exact ha pins s1 σ H1 D I1 q1
 | false=>exact hb pins s1 σ H1 D I1 q1
noncomputable def pJ:TS:=fun _ _ _=>False
theorem Al:PS X st pJ:=fun _ _ _ _ _ _ h=>h.elim
end
noncomputable abbrev TG:=V->St->Hp->(St->Hp->Prop)->Prop
noncomputable abbrev TGs:=List V->St->Hp->(St->Hp->Prop)->Prop
noncomputable def PG (X:Cx) (target:Expr) (t:TG):Prop:=
 ∀ (pins:List (Addr × Obj)) (s:Shared) (σ:St) (H:Hp) (v:V) (u:Value) (Q:St->Hp->Prop),Inv X pins σ H s->ae v u->t v σ H Q ->
  wpAny (model X.prog X.w) X.A (assign target X.env u) (fun _ s'=>∃ σ' H',Inv X pins σ' H' s'/\Q σ' H') X.xe s
noncomputable def PGs (X:Cx) (ts:List Expr) (t:TGs):Prop:=
 ∀ (pins:List (Addr × Obj)) (s:Shared) (σ:St) (H:Hp) (vs:List V) (us:List Value) (Q:St->Hp->Prop),Inv X pins σ H s->Kd vs us->t vs σ H Q ->
  wpAny (model X.prog X.w) X.A (assignInOrder ((assignEach ts X.env).map (·.2)) us) (fun _ s'=>∃ σ' H',Inv X pins σ' H' s'/\Q σ' H') X.xe s
noncomputable abbrev OP:=V->V->V->Hp->(Hp->Prop)->Prop
noncomputable def sR (X:Cx) (t:OP):Prop:=
 ∀ (pins:List (Addr × Obj)) (s:Shared) (σ:St) (H:Hp) (o i v:V) (ov iv u:Value) (Q:Hp->Prop),Inv X pins σ H s->ae o ov->ae i iv->ae v u->t o i v H Q ->
  wpAny (model X.prog X.w) X.A (setItem ov iv u) (fun _ s'=>∃ H',Inv X pins σ H' s'/\Q H') X.xe s
section
variable {X:Cx} {pos:Pos}
noncomputable def Mw (i:Nat):TG:=fun v σ H Q=>Q (σ.set i (some v)) H
theorem Cb {i:Nat} {x:Str} (hN:X.N.Nodup) (hi:X.N[i]? = some x) (hx:Loc X.env.scope x) (hf:X.fn x=true\/X.env.scope.names.lookup x=some .local:=by first | exact .inl rfl | exact .inr rfl | assumption):PG X (.Name x pos) (Mw i):=by
 intro pins s σ H v u Q I r h;exact wpAny_assign_Name (gq I hN hi hx r (fun s' I'=>⟨_,H,I',h⟩) hf)
noncomputable def RP:TGs:=fun vs σ H Q=>vs=[]/\Q σ H
noncomputable def LB (t:TG) (u:TGs):TGs:=fun vs σ H Q=>∃ v r,vs=v :: r/\t v σ H fun σ' H'=>u r σ' H' Q
theorem Pf:PGs X [] RP:=by
 intro pins s σ H vs us Q I r h;obtain ⟨e,h⟩:=h;subst e;cases r;exact assignInOrder_nil ⟨σ,H,I,h⟩
theorem Rb {e:Expr} {es:List Expr} {t:TG} {u:TGs} (h1:PG X e t) (h2:PGs X es u)
  (hs:(assignEach (e :: es) X.env).map (·.2)=assign e X.env :: (assignEach es X.env).map (·.2):=by rfl):PGs X (e :: es) (LB t u):=by
 intro pins s σ H vs us Q I r h;obtain ⟨v,vr,e1,h⟩:=h;subst e1;cases r with
 | cons r rr=>
  rw [hs];refine assignInOrder_cons (thn (h1 pins s σ H _ _ _ I r h) fun _ s1 hZ1=>?_);obtain ⟨σ1,H1,I1,q1⟩:=hZ1;exact h2 pins s1 σ1 H1 _ _ Q I1 rr q1
noncomputable def KN (K:W.Frag) (n:Nat) (t:TGs):TG:=fun v σ H Q=>∃ a xs,v=.ref a/\SqT K H a xs/\xs.length=n/\t xs σ H Q
theorem HN {es:List Expr} {k:Nat} {t:TGs} {n:Nat} (hc:X.calm=true) (h:PGs X es t)
  (hn:(assignEach es X.env).length=n:=by rfl) (hst:(assignEach es X.env).findIdx? (·.1)=none:=by rfl):PG X (.Tuple es k pos) (KN X.K n t):=by
 intro pins s σ H v u Q I r hw;obtain ⟨a,xs,e1,hq,hl,hw⟩:=hw;subst e1;cases r;obtain ⟨its,rv,ht,hz⟩:=I.tuple hq;refine assign_Tuple_tuple (I.ok.hd hc) ht (by simp [hn,<- hl,rv.length]) hst fun h' hx=>?_
 have I1:Inv X pins σ H { s with heap:=h' }:=I.kept (t':=s.toks) fun b o e=>hx b o (Nat.ne_of_lt (Heap.lt_size e)) e
 exact h pins _ σ H xs _ Q I1 (by simpa using rv) hw
noncomputable def MQ (to ti:TE) (t:OP):TG:=fun v σ H Q=>to σ H fun o H1=>ti σ H1 fun i H2=>t o i v H2 fun H3=>Q σ H3
theorem nB {o i:Expr} {to ti:TE} {t:OP} (ho:PE X o to) (hi:PE X i ti) (hs:sR X t)
  (ha:∀ v,assign (.Subscript o i pos) X.env v=(do
   let ov <- holding [v] (eval o X.env)
   let iv <- holding [v,ov] (eval i X.env)
   standAt pos
   holding [v,ov,iv] (setItem ov iv v)
   release [v,ov,iv] []):=by intro _;rfl):PG X (.Subscript o i pos) (MQ to ti t):=by
 intro pins s σ H v u Q I r h;rw [ha];refine wpAny_bind (wpAny_holding (thn (ho pins s σ H _ I h) fun ov s1 hZ1=>?_));obtain ⟨x,H1,I1,r1,q1⟩:=hZ1;refine wpAny_bind (wpAny_holding (thn (hi pins s1 σ H1 _ I1 q1) fun iv s2 hZ1=>?_));obtain ⟨y,H2,I2,r2,q2⟩:=hZ1;refine wpAny_bind (wpAny_standAt (wpAny_bind (wpAny_holding (thn (hs pins s2 σ H2 x y v ov iv u _ I2 r1 r2 r q2) fun _ s3 hZ1=>?_))));obtain ⟨H3,I3,q3⟩:=hZ1;exact wpAny_release ⟨σ,H3,I3,q3⟩
noncomputable def NP (te:TE) (g:TG):TS:=fun D σ H=>te σ H fun x H1=>g x σ H1 D.nx
theorem Ru {tg e:Expr} {te:TE} {g:TG} (he:PE X e te) (hg:PG X tg g) (hs:swapsWithSole [tg] e pos.line X.env=pure false:=by rfl) (hw:swappedStores [tg] e X.env=pure none:=by rfl)
  (h1:(assignEach [tg] X.env).map (·.2)=[assign tg X.env]:=by rfl):PS X (.Assign [tg] e pos) (NP te g):=by
 intro pins s σ H D I h;refine wpAny_Assign_stores (thn (he pins s σ H _ I h) fun v s1 hZ1=>?_) hs hw;obtain ⟨x,H1,I1,r1,q1⟩:=hZ1;rw [h1];exact thn (hg pins s1 σ H1 x v _ I1 r1 q1) fun _ s2 q=>q
theorem Db {i:Nat} {x:Str} {e:Expr} {te:TE} {pos':Pos} (hN:X.N.Nodup) (hi:X.N[i]? = some x) (hx:Loc X.env.scope x) (he:PE X e te) (hs:swapsWith e (some (.Name x pos')) pos.line X.env=pure false:=by rfl) (hf:X.fn x=true\/X.env.scope.names.lookup x=some .local:=by first | exact .inl rfl | exact .inr rfl | assumption) :
  PS X (.Assign [.Name x pos'] e pos) (NP te (Mw i)):=by
 intro pins s σ H D I h;refine wpAny_Assign_Name (thn (he pins s σ H _ I h) fun v s1 hZ1=>?_) hs;obtain ⟨y,H1,I1,r1,q1⟩:=hZ1;exact gq I1 hN hi hx r1 (fun s2 I2=>⟨_,H1,I2,q1⟩) hf
end
section
variable {X:Cx} {pos:Pos}
noncomputable def gK (c:TT) (tb:TS):TS:=fun D σ H=>∃ W:Nat->St->Hp->Prop,(∃ m,W m σ H)/\∀ m σ H,W m σ H ->
 c σ H fun b H1=>if b=true then ∃ N:St->Hp->Prop,(∀ σ' H',N σ' H'->∃ m',m' < m/\W m' σ' H')/\tb { D with nx:=N,ct:=N,bk:=D.nx } σ H1 else D.nx σ H1
theorem zA {c:Expr} {body:List Stmt} {tc:TT} {tb:TS} (hp:PassesOwn (model X.prog X.w) X.A X.env X.xe) (hc:PT X c tc) (hb:PSs X body tb):PS X (.While c body [] pos) (gK tc tb):=by
 intro pins s σ H D I h;obtain ⟨W,⟨m0,w0⟩,turn⟩:=h;refine wpAny_While (codeAny_whileLoop (fun n s'=>∃ σ' H',Inv X pins σ' H' s'/\W n σ' H') ?_ m0 ⟨σ,H,I,w0⟩);rintro n s1 ⟨σ1,H1,I1,w1⟩;refine wpAny_passesOwn hp (thn (hc pins s1 σ1 H1 _ I1 (turn n σ1 H1 w1)) fun b s2 hZ1=>?_);obtain ⟨H2,I2,q2⟩:=hZ1;cases b with
 | true=>
  obtain ⟨N,hN,q2⟩:=q2;rw [if_pos rfl];refine wpAny_passesOwn hp (thn (hb pins s2 σ1 H2 _ I2 q2) fun f s3 q3=>?_);cases f with
  | next=>
   obtain ⟨σ3,H3,I3,n3⟩:=q3;obtain ⟨m',hm,w3⟩:=hN σ3 H3 n3;exact ⟨m',hm,σ3,H3,I3,w3⟩
  | cont=>
   obtain ⟨σ3,H3,I3,n3⟩:=q3;obtain ⟨m',hm,w3⟩:=hN σ3 H3 n3;exact ⟨m',hm,σ3,H3,I3,w3⟩
  | brk=>exact q3
  | ret v=>exact q3
 | false=>
  rw [if_neg Bool.false_ne_true];exact wpAny_execs_nil ⟨σ1,H2,I2,q2⟩
end
structure It where
 go:Nat->Hp->Prop
 yld:Nat->Hp->V->Hp->Prop
 stop:Nat->Hp->Prop
noncomputable def Ow (X:Cx) (pins:List (Addr × Obj)) (H:Hp) (b:Addr):Prop:=
 H b=none/\b ≠ X.env.locals/\b ∉ X.fs/\(b ∈ X.ex\/X.s₀.heap.objs.size <= b)/\(∀ x c,X.env.cells.lookup x=some c->c ≠ b)/\∀ p ∈ X.pn ++ pins,p.1 ≠ b
theorem Inv.fpOk {X:Cx} {pins:List (Addr × Obj)} {σ:St} {H H':Hp} {s:Shared} {b:Addr} (I:Inv X pins σ H s) (hb:s.heap.objs.size <= b) (hn:H' b=none):Ow X pins H' b:=by
 refine ⟨hn,Nat.ne_of_gt (Nat.lt_of_lt_of_le I.lt hb),I.nofs hb,.inr (Nat.le_trans I.sz hb),fun x c e z=>?_,fun p hp z=>?_⟩
 ·obtain ⟨v,q⟩:=I.cell x c e;exact absurd (Nat.lt_of_lt_of_le q.lt (by rw [z];exact hb)) (Nat.lt_irrefl _)
 ·exact absurd (Nat.lt_of_lt_of_le (Heap.lt_size (I.pin p hp).1) (by rw [z];exact hb)) (Nat.lt_irrefl _)
structure oK (P:Program) (w:World) (K:W.Frag) (tg:Expr) (J:It) (fp:List Addr) (it:Addr) (tn:Nat->Heap->Prop):Prop where
 mem:it ∈ fp
 obj:∀ i h,tn i h->∀ b ∈ fp,∃ o,h.get? b=some o/\∀ v,o.data ≠ .cell v
 keep:∀ i h h',tn i h->(∀ b ∈ fp,∀ o,h.get? b=some o->h'.get? b=some o)->tn i h'
 item:∀ (X:Cx),X.prog=P->X.w=w->X.K=K->X.calm=true->∀ (i:Nat) (pins:List (Addr × Obj)) (s:Shared) (σ:St) (H:Hp) (E:Value->Shared->Prop),Inv X pins σ H s->(∀ b ∈ fp,Ow X pins H b)->tn i s.heap->J.go i H ->
  wpAny (model P w) X.A (pyNext (.ref it)) (fun r s1=>∃ u,r=some u /\
   wpAny (model P w) X.A (letOwnedTupleGo tg (.ref it) u) (fun _ s2=>∃ x H',Inv X pins σ H' s2/\ae x u/\J.yld i H x H'/\tn (i + 1) s2.heap/\∀ b ∈ fp,H' b=none) E s1) E s
 done:∀ (X:Cx),X.prog=P->X.w=w->X.K=K->X.calm=true->∀ (i:Nat) (pins:List (Addr × Obj)) (s:Shared) (σ:St) (H:Hp) (E:Value->Shared->Prop),Inv X pins σ H s->(∀ b ∈ fp,Ow X pins H b)->tn i s.heap->J.stop i H ->
  wpAny (model P w) X.A (pyNext (.ref it)) (fun r s1=>r=none/\Inv X pins σ H s1) E s
 self:∀ (A:Around) (i:Nat) (s:Shared) (Q:Value->Shared->Prop) (E:Value->Shared->Prop),tn i s.heap->Q (.ref it) s->wpAny (model P w) A (pyIter (.ref it)) Q E s
noncomputable abbrev TI:=St->Hp->(It->Hp->Prop)->Prop
noncomputable def PIE (X:Cx) (pins:List (Addr × Obj)) (σ:St) (tg:Expr) (R:It->Hp->Prop) (itv:Value) (s2:Shared):Prop:=
 ∃ (it:Addr) (fp:List Addr) (tn:Nat->Heap->Prop) (J:It) (H':Hp),itv=.ref it/\Inv X pins σ H' s2/\oK X.prog X.w X.K tg J fp it tn/\tn 0 s2.heap/\(∀ b ∈ fp,Ow X pins H' b)/\R J H'
noncomputable def PI (X:Cx) (tg iter:Expr) (wi:TI):Prop:=
 ∀ (pins:List (Addr × Obj)) (s:Shared) (σ:St) (H:Hp) (R:It->Hp->Prop),Inv X pins σ H s->wi σ H R ->
  wpAny (model X.prog X.w) X.A (eval iter X.env) (fun v s1=>wpAny (model X.prog X.w) X.A (pyIter v) (PIE X pins σ tg R) X.xe s1) X.xe s
theorem mD {M:Model} {A:Around} {E:Value->Shared->Prop} {s:Shared} {tg:Expr} {it:Addr} {u:Value} {o:Obj} {n:String} {vs:Array Value} {Q:Unit->Shared->Prop} (ho:s.heap.get? it=some o) (hc:o.cls=.type n) (hd:o.data=.fields vs)
    (hn:["enumerate","zip","dict_itemiterator","dict_reverseitemiterator","odict_iterator","itertools.zip_longest","itertools.pairwise"].contains n=false) (hQ:Q () s):wpAny M A (letOwnedTupleGo tg (.ref it) u) Q E s:=by
  unfold letOwnedTupleGo;cases tg <;> first
    | exact wpAny_pure hQ
    | (cases u <;> first
        | exact wpAny_pure hQ
        | (refine wpAny_bind (wpAny_load ho ?_)
           rw [hc,hd];show wpAny M A (if (["enumerate","zip","dict_itemiterator","dict_reverseitemiterator","odict_iterator","itertools.zip_longest","itertools.pairwise"].contains n && vs[0]? == some (rawInt _))=true then _ else _) Q E s;rw [if_neg (by intro h;rw [hn,Bool.false_and] at h;cases h)];exact wpAny_pure hQ))
noncomputable def Itl (K:W.Frag) (a:Addr):It:=
 ⟨fun i H=>∃ xs x,SqL K H a xs/\xs[i]? = some x,fun i H x H'=>H'=H/\∀ xs,SqL K H a xs->xs[i]? = some x,fun i H=>∃ xs,SqL K H a xs/\xs.length <= i⟩
noncomputable def Itt (K:W.Frag) (a:Addr):It:=
 ⟨fun i H=>∃ xs x,SqT K H a xs/\xs[i]? = some x,fun i H x H'=>H'=H/\∀ xs,SqT K H a xs->xs[i]? = some x,fun i H=>∃ xs,SqT K H a xs/\xs.length <= i⟩
noncomputable def Itr (lo:Int) (n:Nat):It:=⟨fun i _=>i < n,fun i H x H'=>H'=H/\x=.int (lo + i),fun i _=>n <= i⟩
theorem aE {P:Program} {w:World} {K:W.Frag} {tg:Expr} (a it:Addr):oK P w K tg (Itl K a) [it] it (fun i h=>h.IsListIter it a i) where
 mem:=by simp
 obj:=fun i h st b hb=>by
  have e:b=it:=by simpa using hb
  subst e;obtain ⟨o,e,c,d⟩:=st;exact ⟨o,e,fun v z=>by rw [d] at z;cases z⟩
 keep:=fun i h h' st k=>st.at fun o e=>k it (by simp) o e
 item:=by
  intro X hP hw hK hc i pins s σ H E I hf st hg;subst hP hw hK;obtain ⟨xs,x,hq,hx⟩:=hg;obtain ⟨its,rv,p,hz⟩:=I.list hq;obtain ⟨u,hu,ru⟩:=rv.get hx;obtain ⟨f0,f1,f2,f3,f4,f5⟩:=hf it (by simp);refine wpAny_pyNext_list_item st p.isList (x:=u) (by simpa using hu) fun h' st' sb=>?_
  have I1:Inv X pins σ H { s with heap:=h' }:=I.turned (t':=s.toks) (fun b o hb e=>(sb.2 b hb).trans e) f0 f1 f3 f4 f5;obtain ⟨o,e,c,d⟩:=id st';exact ⟨u,rfl,mD (s:={ s with heap:=h' }) e c d (by decide) ⟨x,H,I1,ru,⟨rfl,fun ys hy=>by rw [I.list_inj hy hq];exact hx⟩,st',fun b hb=>(hf b hb).1⟩⟩
 done:=by
  intro X hP hw hK hc i pins s σ H E I hf st hg;subst hP hw hK;obtain ⟨xs,hq,hx⟩:=hg;obtain ⟨its,rv,p,hz⟩:=I.list hq;obtain ⟨f0,f1,f2,f3,f4,f5⟩:=hf it (by simp);have hl:=rv.length;exact wpAny_pyNext_list_end (I.ok.hd hc) st p.isList (by simp;omega) fun h' eb=>⟨rfl,I.turned (t':=s.toks) (fun b o hb e=>eb b o hb e) f0 f1 f3 f4 f5⟩
 self:=fun _ _ _ _ _ st h=>wpAny_pyIter_listiter st h
theorem aC {P:Program} {w:World} {K:W.Frag} {tg:Expr} (a it:Addr):oK P w K tg (Itt K a) [it] it (fun i h=>h.IsTupleIter it a i) where
 mem:=by simp
 obj:=fun i h st b hb=>by
  have e:b=it:=by simpa using hb
  subst e;obtain ⟨o,e,c,d⟩:=st;exact ⟨o,e,fun v z=>by rw [d] at z;cases z⟩
 keep:=fun i h h' st k=>st.at fun o e=>k it (by simp) o e
 item:=by
  intro X hP hw hK hc i pins s σ H E I hf st hg;subst hP hw hK;obtain ⟨xs,x,hq,hx⟩:=hg;obtain ⟨its,rv,p,hz⟩:=I.tuple hq;obtain ⟨u,hu,ru⟩:=rv.get hx;obtain ⟨f0,f1,f2,f3,f4,f5⟩:=hf it (by simp);refine wpAny_pyNext_tuple_item st (show s.heap.IsTuple a its.toArray from p) (x:=u) (by simpa using hu) fun h' st' sb=>?_
  have I1:Inv X pins σ H { s with heap:=h' }:=I.turned (t':=s.toks) (fun b o hb e=>(sb.2 b hb).trans e) f0 f1 f3 f4 f5;obtain ⟨o,e,c,d⟩:=id st';exact ⟨u,rfl,mD (s:={ s with heap:=h' }) e c d (by decide) ⟨x,H,I1,ru,⟨rfl,fun ys hy=>by rw [I.tuple_inj hy hq];exact hx⟩,st',fun b hb=>(hf b hb).1⟩⟩
 done:=by
  intro X hP hw hK hc i pins s σ H E I hf st hg;subst hP hw hK;obtain ⟨xs,hq,hx⟩:=hg;obtain ⟨its,rv,p,hz⟩:=I.tuple hq;obtain ⟨f0,f1,f2,f3,f4,f5⟩:=hf it (by simp);have hl:=rv.length;exact wpAny_pyNext_tuple_end (I.ok.hd hc) st (show s.heap.IsTuple a its.toArray from p) (by simp;omega) fun h' eb=>⟨rfl,I.turned (t':=s.toks) (fun b o hb e=>eb b o hb e) f0 f1 f3 f4 f5⟩
 self:=fun _ _ _ _ _ st h=>wpAny_pyIter_tupleiter st h
theorem AC {P:Program} {w:World} {K:W.Frag} {tg:Expr} (it:Addr) (lo:Int) (n:Nat):oK P w K tg (Itr lo n) [it] it (fun i h=>IsRangeIter h it (lo + (i:Nat) * 1) ((n:Int) - (i:Nat)) 1) where
 mem:=by simp
 obj:=fun i h st b hb=>by
  have e:b=it:=by simpa using hb
  subst e;exact ⟨_,st,fun v z=>by
   have z':Data.fields _=Data.cell v:=z;cases z'⟩
 keep:=fun i h h' st k=>k it (by simp) _ st
 item:=by
  intro X hP hw hK hc i pins s σ H E I hf st hg;subst hP hw hK;obtain ⟨f0,f1,f2,f3,f4,f5⟩:=hf it (by simp);have W:=Walks.range (prog:=X.prog) (w:=X.w) (I.ok.hd hc) it lo 1 n;refine W.item i s _ _ hg st fun v h' tk hv st' kk=>?_
  obtain ⟨t,rfl⟩:=hv;have I1:Inv X pins σ H { s with heap:=h',toks:=tk }:=I.turned (fun b o hb e=>kk b o (by simpa using hb) e) f0 f1 f3 f4 f5;refine ⟨_,rfl,mD (s:={ s with heap:=h',toks:=tk }) (n := "range_iterator") st' rfl rfl (by decide) ⟨.int (lo + i),H,I1,⟨t,?_⟩,⟨rfl,rfl⟩,st',fun b hb=>(hf b hb).1⟩⟩;rw [Int.mul_one]
 done:=by
  intro X hP hw hK hc i pins s σ H E I hf st hg;subst hP hw hK;obtain ⟨f0,f1,f2,f3,f4,f5⟩:=hf it (by simp);exact wpAny_pyNext_range_end (I.ok.hd hc) st (by have:n <= i:=hg;omega) fun h' eb=>⟨rfl,I.turned (t':=s.toks) (fun b o hb e=>eb b o hb e) f0 f1 f3 f4 f5⟩
 self:=fun _ _ _ _ _ st h=>wpAny_pyIter_rangeiter st h
end L2
namespace L2
open PySem PySem.Spec PyProof.Rows
section
variable {X:Cx} {tg:Expr}
noncomputable def sO (K:W.Frag) (tl:TE):TI:=fun σ H R=>tl σ H fun x H1=>∃ a,x=.ref a/\(∃ xs,SqL K H1 a xs)/\R (Itl K a) H1
noncomputable def ZQ (K:W.Frag) (tl:TE):TI:=fun σ H R=>tl σ H fun x H1=>∃ a,x=.ref a/\(∃ xs,SqT K H1 a xs)/\R (Itt K a) H1
theorem Ac {l:Expr} {tl:TE} (hl:PE X l tl):PI X tg l (sO X.K tl):=by
 intro pins s σ H R I h;refine thn (hl pins s σ H _ I h) fun v s1 hZ1=>?_
 obtain ⟨x,H1,I1,r1,q1⟩:=hZ1;obtain ⟨a,e,⟨xs,hq⟩,q⟩:=q1;subst e;cases r1;obtain ⟨its,rv,p,hz⟩:=I1.list hq;refine wpAny_pyIter_list p.isList ?_;refine ⟨s1.heap.objs.size,[s1.heap.objs.size],_,_,H1,rfl,I1.kept (t':=s1.toks) fun b o e=>Heap.get?_push_of_some _ e,aE a _,⟨_,Heap.get?_push_size _ rfl,rfl,rfl⟩,fun b hb=>?_,q⟩;have e:b=s1.heap.objs.size:=by simpa using hb
 subst e;exact I1.fpOk (Nat.le_refl _) (I1.hok.fresh (Nat.le_refl _))
theorem qO {l:Expr} {tl:TE} (hl:PE X l tl):PI X tg l (ZQ X.K tl):=by
 intro pins s σ H R I h;refine thn (hl pins s σ H _ I h) fun v s1 hZ1=>?_
 obtain ⟨x,H1,I1,r1,q1⟩:=hZ1;obtain ⟨a,e,⟨xs,hq⟩,q⟩:=q1;subst e;cases r1;obtain ⟨its,rv,p,hz⟩:=I1.tuple hq;refine wpAny_pyIter_tuple (show s1.heap.IsTuple a its.toArray from p) ?_;refine ⟨s1.heap.objs.size,[s1.heap.objs.size],_,_,H1,rfl,I1.kept (t':=s1.toks) fun b o e=>Heap.get?_push_of_some _ e,aC a _,⟨_,Heap.get?_push_size _ rfl,rfl,rfl⟩,fun b hb=>?_,q⟩;have e:b=s1.heap.objs.size:=by simpa using hb
 subst e;exact I1.fpOk (Nat.le_refl _) (I1.hok.fresh (Nat.le_refl _))
theorem qH {pins:List (Addr × Obj)} {σ:St} {H:Hp} {s:Shared} {R:It->Hp->Prop} {E:Value->Shared->Prop} {lo hi:Int} {t u v:Tok} {tk:Nat} (I:Inv X pins σ H s) (h1:-(2 ^ 62) <= lo) (h2:lo < 2 ^ 62) (h3:-(2 ^ 62) <= hi) (h4:hi < 2 ^ 62)
  (q:R (Itr lo (hi - lo).toNat) H):wpAny (model X.prog X.w) X.A (pyIter (.ref s.heap.objs.size)) (PIE X pins σ tg R) E { s with heap:=s.heap.push { cls:=.type "range",data:=.fields #[.int lo t,.int hi u,.int 1 v] },toks:=tk }:=by
 refine wpAny_pyIter_range (IsRange.new ..) (small_one h1 h2 h3 h4) ?_;have I1:Inv X pins σ H { s with heap:=s.heap.push { cls:=.type "range",data:=.fields #[.int lo t,.int hi u,.int 1 v] },toks:=tk }:=I.kept fun b o e=>Heap.get?_push_of_some _ e
 refine ⟨(s.heap.push { cls:=.type "range",data:=.fields #[.int lo t,.int hi u,.int 1 v] }).objs.size,[(s.heap.push { cls:=.type "range",data:=.fields #[.int lo t,.int hi u,.int 1 v] }).objs.size],_,_,H,rfl,
  I1.kept (t':=tk) fun b o e=>Heap.get?_push_of_some _ e,AC _ lo (hi - lo).toNat,?_,fun b hb=>?_,q⟩
 ·have e1:lo + ((0:Nat):Int) * 1=lo:=by simp
  have e2:(((hi - lo).toNat:Nat):Int) - ((0:Nat):Int)=Builtin.Range.rangeSize lo hi 1:=by rw [rangeSize_one];split <;> omega
  show IsRangeIter _ _ (lo + ((0:Nat):Int) * 1) ((((hi - lo).toNat:Nat):Int) - ((0:Nat):Int)) 1;rw [e1,e2];exact Heap.get?_push_size _ rfl
 ·have e:b=(s.heap.push { cls:=.type "range",data:=.fields #[.int lo t,.int hi u,.int 1 v] }).objs.size:=by simpa using hb
  subst e;exact I1.fpOk (Nat.le_refl _) (I1.hok.fresh (Nat.le_refl _))
noncomputable def iO (ta:TA):TI:=fun σ H R=>ta σ H fun vs H1=>∃ j:Int,vs=[.int j]/\-(2 ^ 62) <= j/\j < 2 ^ 62/\R (Itr 0 j.toNat) H1
theorem Lh {a:Expr} {ta:TA} {p pos:Pos} (hg:Gl X "range") (hm:X.mg "range"=none) (ha:PA X [a] ta) (hs:starEach [a] X.env=[(false,eval a X.env)]:=by rfl):PI X tg (.Call (.Name "range" p) [a] [] pos) (iO ta):=by
 intro pins s σ H R I h;refine Call_ (bo I hg hm boot_range (PyProof.Rows.callWith_type1 (thn (ha pos pins s σ H _ I h) fun us s1 hZ1=>?_) hs rfl));obtain ⟨vs,H1,I1,r1,q1⟩:=hZ1;obtain ⟨j,e,q1,q2,q⟩:=q1;subst e;cases r1 with
 | cons r rr=>
  cases rr;obtain ⟨t,rfl⟩:=r;exact call_range_1 (qH I1 (by omega) (by omega) q1 q2 (by simpa using q))
noncomputable def pR (wi:TI) (g:TG) (tb:TS):TS:=fun D σ H=>wi σ H fun J H1=>∃ W:Nat->Nat->St->Hp->Prop,(∃ m,W 0 m σ H1)/\∀ i m σ H,W i m σ H ->
 (J.stop i H/\D.nx σ H)\/(J.go i H/\∃ N:St->Hp->Prop,(∀ σ' H',N σ' H'->∃ m',m' < m/\W (i + 1) m' σ' H')/\∀ x H',J.yld i H x H'->g x σ H' fun σ2 H2=>tb { D with nx:=N,ct:=N,bk:=D.nx } σ2 H2)
noncomputable def Ex (fp:List Addr) (h:Heap):List (Addr × Obj):=fp.filterMap fun b=>(h.get? b).map fun o=>(b,o)
theorem Bl {fp:List Addr} {h:Heap} {b:Addr} {o:Obj} (hb:b ∈ fp) (e:h.get? b=some o):(b,o) ∈ Ex fp h:=List.mem_filterMap.mpr ⟨b,hb,by rw [e];rfl⟩
theorem QE {fp:List Addr} {h:Heap} {p:Addr × Obj} (hp:p ∈ Ex fp h):p.1 ∈ fp/\h.get? p.1=some p.2:=by
 obtain ⟨b,hb,e⟩:=List.mem_filterMap.mp hp;cases q:h.get? b with
 | none=>rw [q] at e;cases e
 | some o=>
  rw [q] at e;have e':(b,o)=p:=Option.some.inj e;subst e';exact ⟨hb,q⟩
theorem Inv.pinned {pins:List (Addr × Obj)} {σ:St} {H:Hp} {s:Shared} {fp:List Addr} (I:Inv X pins σ H s) (hf:∀ b ∈ fp,Ow X pins H b) (ho:∀ b ∈ fp,∃ o,s.heap.get? b=some o/\∀ v,o.data ≠ .cell v):Inv X (pins ++ Ex fp s.heap) σ H s:=
 I.pins_of fun p hp=>(List.mem_append.mp hp).elim (fun z=>I.pin p (mem_append_right _ z)) fun z=>by
  obtain ⟨hb,e⟩:=QE z;obtain ⟨f0,f1,f2,_⟩:=hf p.1 hb;obtain ⟨o,e',d⟩:=ho p.1 hb;rw [e] at e';cases e';exact ⟨e,f0,f1,f2,d⟩
theorem Inv.unpinned {pins pl:List (Addr × Obj)} {σ:St} {H:Hp} {s:Shared} (I:Inv X (pins ++ pl) σ H s):Inv X pins σ H s:=I.pins_of fun p hp=>I.pin p (mem_append_right _ (List.mem_append_left _ hp))
theorem Wd {iter:Expr} {body:List Stmt} {wi:TI} {g:TG} {tb:TS} {pos:Pos} (hp:PassesOwn (model X.prog X.w) X.A X.env X.xe) (hc:X.calm=true) (hi:PI X tg iter wi) (hg:PG X tg g) (hb:PSs X body tb)
  (hs:∀ x,foldedSetIterable iter X.env x=pure x:=by intro _;rfl):PS X (.For tg iter body [] pos) (pR wi g tb):=by
 intro pins s σ H D I h;refine wpAny_For (thn (hi pins s σ H _ I h) fun v s1 h1=>thn h1 fun itv s2 h2=>?_) hs;obtain ⟨it,fp,tn,J,H2,e,I2,T,st2,f2,W,⟨m0,w0⟩,turn⟩:=h2;subst e;have stat:∀ {H':Hp},(∀ b ∈ fp,H' b=none)->∀ b ∈ fp,Ow X pins H' b:=fun hn b hb=>⟨hn b hb,(f2 b hb).2⟩
 refine codeAny_forLoop_any (fun n s'=>∃ i σ' H',Inv X pins σ' H' s'/\tn i s'.heap/\(∀ b ∈ fp,H' b=none)/\W i n σ' H') ?_ m0 ⟨0,σ,H2,I2,st2,fun b hb=>(f2 b hb).1,w0⟩;rintro n s3 ⟨i,σ3,H3,I3,st3,fr3,w3⟩;rcases turn i n σ3 H3 w3 with ⟨stop,qn⟩ | ⟨go,N,hN,step⟩
 ·refine wpAny_passesOwn hp (thn (T.done X rfl rfl rfl hc i pins s3 σ3 H3 X.xe I3 (stat fr3) st3 stop) fun r s4 hZ1=>?_);obtain ⟨hr,I4⟩:=hZ1;subst hr;exact wpAny_execs_nil ⟨σ3,H3,I4,qn⟩
 ·refine wpAny_passesOwn hp (thn (T.item X rfl rfl rfl hc i pins s3 σ3 H3 X.xe I3 (stat fr3) st3 go) fun r s4 hZ1=>?_);obtain ⟨u,hr,h4⟩:=hZ1;subst hr;refine wpAny_passesOwn hp (thn h4 fun _ s5 hZ1=>?_);obtain ⟨x,H5,I5,r5,y5,st5,fr5⟩:=hZ1;have I5':=I5.pinned (stat fr5) (T.obj _ _ st5);refine wpAny_passesOwn hp (thn (hg _ s5 σ3 H5 x u _ I5' r5 (step x H5 y5)) fun _ s6 hZ1=>?_);obtain ⟨σ6,H6,I6,q6⟩:=hZ1;refine wpAny_passesOwn hp (thn (hb _ s6 σ6 H6 _ I6 q6) fun f s7 q7=>?_);have again:∀ {σ7:St} {H7:Hp},Inv X (pins ++ Ex fp s5.heap) σ7 H7 s7->N σ7 H7->∃ m,m < n/\∃ i σ' H',Inv X pins σ' H' s7/\tn i s7.heap/\(∀ b ∈ fp,H' b=none)/\W i m σ' H':=fun {σ7 H7} I7 n7=>by
   obtain ⟨m',hm,w7⟩:=hN σ7 H7 n7;refine ⟨m',hm,i + 1,σ7,H7,I7.unpinned,T.keep _ _ _ st5 fun b hb o e=>(I7.pin (b,o) (mem_append_right _ (mem_append_right _ (Bl hb e)))).1,fun b hb=>?_,w7⟩;obtain ⟨o,e,d⟩:=T.obj _ _ st5 b hb;exact (I7.pin (b,o) (mem_append_right _ (mem_append_right _ (Bl hb e)))).2.1
  cases f with
  | next=>obtain ⟨σ7,H7,I7,n7⟩:=q7;exact again I7 n7
  | cont=>obtain ⟨σ7,H7,I7,n7⟩:=q7;exact again I7 n7
  | brk=>obtain ⟨σ7,H7,I7,q7⟩:=q7;exact ⟨σ7,H7,I7.unpinned,q7⟩
  | ret v=>obtain ⟨x7,σ7,H7,I7,r7,q7⟩:=q7;exact ⟨x7,σ7,H7,I7.unpinned,r7,q7⟩
end
theorem vH {K:W.Frag} {a:Addr} {xs:List V} {g:TG} {tb:TS} {D:Li} {σ:St} {H:Hp} (Pv:Nat->St->Hp->Prop) (h0:Pv 0 σ H) (hl:∀ i σ H,i <= xs.length->Pv i σ H->SqL K H a xs)
  (hs:∀ i x σ H,xs[i]? = some x->Pv i σ H->g x σ H fun σ2 H2=>tb { D with nx:=Pv (i + 1),ct:=Pv (i + 1),bk:=D.nx } σ2 H2) (hd:∀ σ H,Pv xs.length σ H->D.nx σ H) :
  ∃ W:Nat->Nat->St->Hp->Prop,(∃ m,W 0 m σ H)/\∀ i m σ H,W i m σ H ->
   ((Itl K a).stop i H/\D.nx σ H)\/((Itl K a).go i H/\∃ N:St->Hp->Prop,(∀ σ' H',N σ' H'->∃ m',m' < m/\W (i + 1) m' σ' H')/\∀ x H',(Itl K a).yld i H x H'->g x σ H' fun σ2 H2=>tb { D with nx:=N,ct:=N,bk:=D.nx } σ2 H2):=by
 refine ⟨fun i m σ H=>m=xs.length - i/\i <= xs.length/\Pv i σ H,⟨xs.length,by simp,Nat.zero_le _,h0⟩,?_⟩;rintro i m σ H ⟨rfl,hi,p⟩;have q:=hl i σ H hi p;by_cases hlt:i < xs.length
 ·refine .inr ⟨⟨xs,xs[i],q,by simp [hlt]⟩,Pv (i + 1),fun σ' H' p'=>⟨xs.length - (i + 1),by omega,rfl,hlt,p'⟩,fun x H' y=>?_⟩;obtain ⟨e,y⟩:=y;subst e;exact hs i x σ _ (y xs q) p
 ·have e:i=xs.length:=by omega
  subst e;exact .inl ⟨⟨xs,q,Nat.le_refl _⟩,hd σ H p⟩
theorem wE {lo:Int} {n:Nat} {g:TG} {tb:TS} {D:Li} {σ:St} {H:Hp} (Pv:Nat->St->Hp->Prop) (h0:Pv 0 σ H)
  (hs:∀ i σ H,i < n->Pv i σ H->g (.int (lo + i)) σ H fun σ2 H2=>tb { D with nx:=Pv (i + 1),ct:=Pv (i + 1),bk:=D.nx } σ2 H2) (hd:∀ σ H,Pv n σ H->D.nx σ H) :
  ∃ W:Nat->Nat->St->Hp->Prop,(∃ m,W 0 m σ H)/\∀ i m σ H,W i m σ H ->
   ((Itr lo n).stop i H/\D.nx σ H)\/((Itr lo n).go i H/\∃ N:St->Hp->Prop,(∀ σ' H',N σ' H'->∃ m',m' < m/\W (i + 1) m' σ' H')/\∀ x H',(Itr lo n).yld i H x H'->g x σ H' fun σ2 H2=>tb { D with nx:=N,ct:=N,bk:=D.nx } σ2 H2):=by
 refine ⟨fun i m σ H=>m=n - i/\i <= n/\Pv i σ H,⟨n,by simp,Nat.zero_le _,h0⟩,?_⟩;rintro i m σ H ⟨rfl,hi,p⟩;by_cases hlt:i < n
 ·refine .inr ⟨hlt,Pv (i + 1),fun σ' H' p'=>⟨n - (i + 1),by omega,rfl,hlt,p'⟩,fun x H' y=>?_⟩;obtain ⟨e,y⟩:=y;subst e y;exact hs i σ _ hlt p
 ·have e:i=n:=by omega
  subst e;exact .inl ⟨Nat.le_refl _,hd σ H p⟩
end L2
namespace L2
open PySem PySem.Spec PyProof.Rows
noncomputable abbrev R2:=V->V->Hp->VK->Prop
noncomputable def OpR (X:Cx) (f:Value->Value->Sem Value) (r:R2):Prop:=
 ∀ (pins:List (Addr × Obj)) (s:Shared) (σ:St) (H:Hp) (x y:V) (v u:Value) (Q:VK),Inv X pins σ H s->ae x v->ae y u->r x y H Q ->
  wpAny (model X.prog X.w) X.A (f v u) (EP X pins σ Q) X.xe s
noncomputable def UnR (X:Cx) (f:Value->Sem Value) (r:V->Hp->VK->Prop):Prop:=
 ∀ (pins:List (Addr × Obj)) (s:Shared) (σ:St) (H:Hp) (x:V) (v:Value) (Q:VK),Inv X pins σ H s->ae x v->r x H Q ->
  wpAny (model X.prog X.w) X.A (f v) (EP X pins σ Q) X.xe s
noncomputable def ml (X:Cx) (f:Value) (r:List V->Hp->VK->Prop):Prop:=
 ∀ (pins:List (Addr × Obj)) (s:Shared) (σ:St) (H:Hp) (xs:List V) (us:List Value) (Q:VK),Inv X pins σ H s->Kd xs us->r xs H Q ->
  wpAny (model X.prog X.w) X.A (call f us) (EP X pins σ Q) X.xe s
noncomputable def DR (X:Cx) (r:V->Hp->(Bool->Hp->Prop)->Prop):Prop:=
 ∀ (pins:List (Addr × Obj)) (s:Shared) (σ:St) (H:Hp) (x:V) (v:Value) (Q:Bool->Hp->Prop),Inv X pins σ H s->ae x v->r x H Q ->
  wpAny (model X.prog X.w) X.A (truthy v) (TP X pins σ Q) X.xe s
noncomputable def tOp (r:R2) (ta tb:TE):TE:=fun σ H Q=>ta σ H fun x H1=>tb σ H1 fun y H2=>r x y H2 Q
noncomputable def tUn (r:V->Hp->VK->Prop) (ta:TE):TE:=fun σ H Q=>ta σ H fun x H1=>r x H1 Q
noncomputable def rI (C:Int->Int->Prop) (g:Int->Int->V):R2:=fun x y H Q=>∃ i j,x=.int i/\y=.int j/\C i j/\Q (g i j) H
noncomputable def rI0 (g:Int->Int->V):R2:=fun x y H Q=>∃ i j,x=.int i/\y=.int j/\Q (g i j) H
noncomputable def rU (g:Int->V):V->Hp->VK->Prop:=fun x H Q=>∃ i,x=.int i/\Q (g i) H
section
variable {X:Cx} {a b c:Expr} {ta tb tc:TE} {pos:Pos}
theorem bQ (ha:PE X a ta) (hb:PE X b tb) {pins:List (Addr × Obj)} {s:Shared} {σ:St} {H:Hp} {R:V->V->Hp->Prop} (I:Inv X pins σ H s)
  (h:ta σ H fun x H1=>tb σ H1 fun y H2=>R x y H2) {Q:Value->Shared->Prop} {f:Value->Value->Sem Value}
  (hf:∀ v u s2 x y H2,Inv X pins σ H2 s2->ae x v->ae y u->R x y H2->wpAny (model X.prog X.w) X.A (f v u) Q X.xe s2) :
  wpAny (model X.prog X.w) X.A (eval a X.env) (fun v s₁=>wpAny (model X.prog X.w) X.A (eval b X.env) (fun u s₂=>wpAny (model X.prog X.w) X.A (f v u) Q X.xe s₂) X.xe s₁) X.xe s:=by
 refine thn (ha pins s σ H _ I h) fun v s1 hZ1=>?_
 obtain ⟨x,H1,I1,r1,q1⟩:=hZ1;refine thn (hb pins s1 σ H1 _ I1 q1) fun u s2 hZ1=>?_
 obtain ⟨y,H2,I2,r2,q2⟩:=hZ1;exact hf v u s2 x y H2 I2 r1 r2 q2
theorem Nb {op:Operator} {r:R2} (ho:OpR X (binaryOp op) r) (ha:PE X a ta) (hb:PE X b tb):PE X (.BinOp a op b pos) (tOp r ta tb):=by
 intro pins s σ H Q I h;exact wpAny_BinOp (bQ ha hb I h fun v u s2 x y H2 I2 rx ry q=>ho pins s2 σ H2 x y v u Q I2 rx ry q)
theorem iN {op:UnaryOp} {r:V->Hp->VK->Prop} (ho:UnR X (unaryOp op) r) (ha:PE X a ta):PE X (.UnaryOp op a pos) (tUn r ta):=by
 intro pins s σ H Q I h;exact UnaryOp_ (thn (ha pins s σ H _ I h) fun v s1 ⟨x,H1,I1,r1,q1⟩=>ho pins s1 σ H1 x v Q I1 r1 q1)
theorem opI {f:Value->Value->Sem Value} {C:Int->Int->Prop} {g:Int->Int->Int}
  (rule:∀ (i j:Int) (t u:Tok) (s:Shared) (Q:Value->Shared->Prop) (E:Value->Shared->Prop),C i j->Q (.int (g i j) s.toks) { s with toks:=s.toks + 1 }->wpAny (model X.prog X.w) X.A (f (.int i t) (.int j u)) Q E s) :
  OpR X f (rI C fun i j=>.int (g i j)):=by
 intro pins s σ H x y v u Q I rx ry h;obtain ⟨i,j,rfl,rfl,hc,q⟩:=h;obtain ⟨t,rfl⟩:=rx;obtain ⟨t',rfl⟩:=ry;exact rule i j t t' s _ _ hc ⟨.int (g i j),H,I.tok _,⟨_,rfl⟩,q⟩
theorem qR {f:Value->Value->Sem Value} {g:Int->Int->Int}
  (rule:∀ (i j:Int) (t u:Tok) (s:Shared) (Q:Value->Shared->Prop) (E:Value->Shared->Prop),Q (.int (g i j) s.toks) { s with toks:=s.toks + 1 }->wpAny (model X.prog X.w) X.A (f (.int i t) (.int j u)) Q E s) :
  OpR X f (rI0 fun i j=>.int (g i j)):=by
 intro pins s σ H x y v u Q I rx ry h;obtain ⟨i,j,rfl,rfl,q⟩:=h;obtain ⟨t,rfl⟩:=rx;obtain ⟨t',rfl⟩:=ry;exact rule i j t t' s _ _ ⟨.int (g i j),H,I.tok _,⟨_,rfl⟩,q⟩
theorem BQ {f:Value->Value->Sem Value} {g:Int->Int->Bool}
  (rule:∀ (i j:Int) (t u:Tok) (s:Shared) (Q:Value->Shared->Prop) (E:Value->Shared->Prop),Q (.bool (g i j)) s->wpAny (model X.prog X.w) X.A (f (.int i t) (.int j u)) Q E s) :
  OpR X f (rI0 fun i j=>.bl (g i j)):=by
 intro pins s σ H x y v u Q I rx ry h;obtain ⟨i,j,rfl,rfl,q⟩:=h;obtain ⟨t,rfl⟩:=rx;obtain ⟨t',rfl⟩:=ry;exact rule i j t t' s _ _ ⟨.bl (g i j),H,I,rfl,q⟩
noncomputable def xR (i j:Int):Prop:=0 < j/\j < 1073741824
noncomputable def BR (i j:Int):Prop:=0 <= j/\j <= 1000000/\i.natAbs < 2 ^ 64
noncomputable def qJ (i j:Int):Prop:=(-(2 ^ 64) < i/\i < 2 ^ 64)\/(-(2 ^ 64) < j/\j < 2 ^ 64)
theorem qJ.ok {i j:Int} (h:qJ i j):IntMulOk i j:=by
 rcases h with ⟨h1,h2⟩ | ⟨h1,h2⟩
 ·exact .of_left (intBits_le_64 h1 h2)
 ·exact .of_right (intBits_le_64 h1 h2)
theorem Qc:OpR X (binaryOp .Add) (rI0 fun i j=>.int (i + j)):=qR fun _ _ _ _ _ _ _ q=>add_int q
theorem Mg:OpR X (binaryOp .Sub) (rI0 fun i j=>.int (i - j)):=qR fun _ _ _ _ _ _ _ q=>sub_int q
theorem Lu:OpR X (binaryOp .Mult) (rI qJ fun i j=>.int (i * j)):=opI fun _ _ _ _ _ _ _ hc q=>mul_int q hc.ok
theorem jD:OpR X (binaryOp .FloorDiv) (rI xR fun i j=>.int (i / j)):=opI fun i j _ _ _ _ _ hc q=>by
 have h1:(0:Int) < j:=hc.1;have h2:j < 1073741824:=hc.2;exact floordiv_int (by omega) (by rw [Int.fdiv_eq_ediv_of_nonneg i (by omega)];exact q) (.inl (PyProof.noPylong_small (by omega)))
theorem Mf:OpR X (binaryOp .Mod) (rI (fun _ j=>0 < j) fun i j=>.int (i % j)):=opI fun i j _ _ _ _ _ hc q=>by
 have h1:(0:Int) < j:=hc;exact mod_int' (by omega) (by rw [Int.fmod_eq_emod_of_nonneg i (by omega)];exact q)
theorem FN:OpR X (binaryOp .Pow) (rI BR fun i j=>.int (i ^ j.toNat)):=opI fun _ _ _ _ _ _ _ hc q=>pow_int_small hc.1 hc.2.1 hc.2.2 q
theorem unI {f:Value->Sem Value} {g:Int->Int}
  (rule:∀ (i:Int) (t:Tok) (s:Shared) (Q:Value->Shared->Prop) (E:Value->Shared->Prop),Q (.int (g i) s.toks) { s with toks:=s.toks + 1 }->wpAny (model X.prog X.w) X.A (f (.int i t)) Q E s) :
  UnR X f (rU fun i=>.int (g i)):=by
 intro pins s σ H x v Q I rx h;obtain ⟨i,rfl,q⟩:=h;obtain ⟨t,rfl⟩:=rx;exact rule i t s _ _ ⟨.int (g i),H,I.tok _,⟨_,rfl⟩,q⟩
theorem vK:UnR X (unaryOp .USub) (rU fun i=>.int (-i)):=unI fun _ _ _ _ _ q=>neg_int q
end
noncomputable def OO:V->V->Bool
 | .non,.non=>true | .non,.int _=>true | .int _,.non=>true | .non,.bl _=>true | .bl _,.non=>true | .non,.str _=>true | .str _,.non=>true
 | .int _,.int _=>true | .bl _,.bl _=>true | .str _,.str _=>true | .byt _,.byt _=>true
 | .int _,.str _=>true | .str _,.int _=>true | .bl _,.str _=>true | .str _,.bl _=>true
 | _,_=>false
noncomputable def rEq:R2:=fun x y H Q=>OO x y=true/\Q (.bl (decide (x=y))) H
noncomputable def rNe:R2:=fun x y H Q=>OO x y=true/\Q (.bl (!decide (x=y))) H
theorem tF {i j:Int}:decide (V.int i=V.int j)=(i == j):=by
 rw [Bool.eq_iff_iff];simp
theorem tK {i j:Bool}:decide (V.bl i=V.bl j)=(i == j):=by
 rw [Bool.eq_iff_iff];simp
theorem YD {i j:Str}:decide (V.str i=V.str j)=(i == j):=by
 rw [Bool.eq_iff_iff];simp
theorem pF {i j:Array UInt8}:decide (V.byt i=V.byt j)=(i.toList == j.toList):=by
 rw [Bool.eq_iff_iff];cases i;cases j;simp
section
variable {X:Cx} {a b c:Expr} {ta tb tc:TE} {pos:Pos}
theorem Od {pins:List (Addr × Obj)} {σ:St} {H:Hp} {s:Shared} {Q:VK} {k k':Bool} (I:Inv X pins σ H s) (q:Q (.bl k) H) (e:k=k'):EP X pins σ Q (.bool k') s:=by
 subst e;exact ⟨.bl k,H,I,rfl,q⟩
theorem qk:OpR X (compareOp .Eq) rEq:=by
 intro pins s σ H x y v u Q I rx ry h;obtain ⟨hs,q⟩:=h;cases x with
 | non=>
  cases rx;cases y with
  | non=>cases ry;exact PySem.EqNone.eq_none_none (Od I q (by simp))
  | bl j=>cases ry;exact PySem.EqNone.eq_none_bool (Od I q (by simp))
  | int j=>obtain ⟨t',rfl⟩:=ry;exact PySem.EqNone.eq_none_int (Od I q (by simp))
  | str j=>obtain ⟨t',rfl⟩:=ry;exact PySem.EqNone.eq_none_str (Od I q (by simp))
  | _=>exact absurd (show false=true from hs) Bool.false_ne_true
 | bl i=>
  cases rx;cases y with
  | non=>cases ry;exact PySem.EqNone.eq_bool_none (Od I q (by simp))
  | bl j=>cases ry;exact eq_bool (Od I q tK)
  | str j=>obtain ⟨t',rfl⟩:=ry;exact PySem.EqMixed.eq_bool_str (Od I q (by simp))
  | _=>exact absurd (show false=true from hs) Bool.false_ne_true
 | int i=>
  obtain ⟨t,rfl⟩:=rx;cases y with
  | non=>cases ry;exact PySem.EqNone.eq_int_none (Od I q (by simp))
  | int j=>obtain ⟨t',rfl⟩:=ry;exact eq_int (Od I q tF)
  | str j=>obtain ⟨t',rfl⟩:=ry;exact PySem.EqMixed.eq_int_str (Od I q (by simp))
  | _=>exact absurd (show false=true from hs) Bool.false_ne_true
 | str i=>
  obtain ⟨t,rfl⟩:=rx;cases y with
  | non=>cases ry;exact PySem.EqNone.eq_str_none (Od I q (by simp))
  | bl j=>cases ry;exact PySem.EqMixed.eq_str_bool (Od I q (by simp))
  | int j=>obtain ⟨t',rfl⟩:=ry;exact PySem.EqMixed.eq_str_int (Od I q (by simp))
  | str j=>obtain ⟨t',rfl⟩:=ry;exact eq_str (Od I q YD)
  | _=>exact absurd (show false=true from hs) Bool.false_ne_true
 | byt i=>
  obtain ⟨t,rfl⟩:=rx;cases y with
  | byt j=>obtain ⟨t',rfl⟩:=ry;exact PySem.W.eq_bytes (Od I q pF)
  | _=>exact absurd (show false=true from hs) Bool.false_ne_true
 | _=>cases y <;> exact absurd (show false=true from hs) Bool.false_ne_true
theorem Dt:OpR X (compareOp .NotEq) rNe:=by
 intro pins s σ H x y v u Q I rx ry h;obtain ⟨hs,q⟩:=h;cases x with
 | non=>
  cases rx;cases y with
  | non=>cases ry;exact PySem.EqNone.ne_none_none (Od I q (by simp))
  | bl j=>cases ry;exact PySem.EqNone.ne_none_bool (Od I q (by simp))
  | int j=>obtain ⟨t',rfl⟩:=ry;exact PySem.EqNone.ne_none_int (Od I q (by simp))
  | str j=>obtain ⟨t',rfl⟩:=ry;exact PySem.EqNone.ne_none_str (Od I q (by simp))
  | _=>exact absurd (show false=true from hs) Bool.false_ne_true
 | bl i=>
  cases rx;cases y with
  | non=>cases ry;exact PySem.EqNone.ne_bool_none (Od I q (by simp))
  | bl j=>cases ry;exact ne_bool (Od I q (congrArg not tK))
  | str j=>obtain ⟨t',rfl⟩:=ry;exact PySem.EqMixed.ne_bool_str (Od I q (by simp))
  | _=>exact absurd (show false=true from hs) Bool.false_ne_true
 | int i=>
  obtain ⟨t,rfl⟩:=rx;cases y with
  | non=>cases ry;exact PySem.EqNone.ne_int_none (Od I q (by simp))
  | int j=>obtain ⟨t',rfl⟩:=ry;exact ne_int (Od I q (congrArg not tF))
  | str j=>obtain ⟨t',rfl⟩:=ry;exact PySem.EqMixed.ne_int_str (Od I q (by simp))
  | _=>exact absurd (show false=true from hs) Bool.false_ne_true
 | str i=>
  obtain ⟨t,rfl⟩:=rx;cases y with
  | non=>cases ry;exact PySem.EqNone.ne_str_none (Od I q (by simp))
  | bl j=>cases ry;exact PySem.EqMixed.ne_str_bool (Od I q (by simp))
  | int j=>obtain ⟨t',rfl⟩:=ry;exact PySem.EqMixed.ne_str_int (Od I q (by simp))
  | str j=>obtain ⟨t',rfl⟩:=ry;exact ne_str (Od I q (congrArg not YD))
  | _=>exact absurd (show false=true from hs) Bool.false_ne_true
 | byt i=>
  obtain ⟨t,rfl⟩:=rx;cases y with
  | byt j=>obtain ⟨t',rfl⟩:=ry;exact PySem.W.ne_bytes (Od I q (congrArg not pF))
  | _=>exact absurd (show false=true from hs) Bool.false_ne_true
 | _=>cases y <;> exact absurd (show false=true from hs) Bool.false_ne_true
theorem Av:OpR X (compareOp .Lt) (rI0 fun i j=>.bl (decide (i < j))):=BQ fun _ _ _ _ _ _ _ q=>lt_int q
theorem ZP:OpR X (compareOp .LtE) (rI0 fun i j=>.bl (decide (i <= j))):=BQ fun _ _ _ _ _ _ _ q=>le_int q
theorem FD:OpR X (compareOp .Gt) (rI0 fun i j=>.bl (decide (j < i))):=BQ fun _ _ _ _ _ _ _ q=>gt_int q
theorem pE:OpR X (compareOp .In) (fun x y H Q=>∃ i j,x=.str i/\y=.str j/\Q (.bl (!(Builtin.Str.occurrences j i 0 j.length 1).isEmpty)) H):=by
 intro pins s σ H x y v u Q I rx ry h;obtain ⟨i,j,rfl,rfl,q⟩:=h;obtain ⟨t,rfl⟩:=rx;obtain ⟨t',rfl⟩:=ry;exact in_str (Od I q rfl)
theorem HE:OpR X (compareOp .IsNot) (fun x y H Q=>y=.non/\Q (.bl (!decide (x=.non))) H):=by
 intro pins s σ H x y v u Q I rx ry h;obtain ⟨rfl,q⟩:=h;cases ry;refine isnot_none_gen (Od I q ?_);cases x <;> first
  | (cases rx;rfl)
  | (obtain ⟨t,rfl⟩:=rx;rfl)
theorem OpR.or {f:Value->Value->Sem Value} {r r':R2} (h:OpR X f r) (h':OpR X f r'):OpR X f (fun x y H Q=>r x y H Q\/r' x y H Q):=by
 intro pins s σ H x y v u Q I rx ry q;rcases q with q | q
 ·exact h pins s σ H x y v u Q I rx ry q
 ·exact h' pins s σ H x y v u Q I rx ry q
theorem yc (b:Expr) {op:CmpOp} (h:op ≠ .In:=by decide) (h2:op ≠ .NotIn:=by decide):behindInMarks op b=false:=by
 have e1:(op == CmpOp.In)=false:=by cases op <;> first | rfl | exact absurd rfl h
 have e2:(op == CmpOp.NotIn)=false:=by cases op <;> first | rfl | exact absurd rfl h2
 cases b <;> simp [behindInMarks,e1,e2]
theorem af {op:CmpOp} {r:R2} (ho:OpR X (compareOp op) r) (ha:PE X a ta) (hb:PE X b tb) (hm:behindInMarks op b=false):PE X (.Compare a [op] [b] pos) (tOp r ta tb):=by
 intro pins s σ H Q I h;exact wpAny_Compare1 (bQ ha hb I h fun v u s2 x y H2 I2 rx ry q=>ho pins s2 σ H2 x y v u Q I2 rx ry q) hm
noncomputable def nP (t:TE):TT:=fun σ H Q=>t σ H fun x H'=>∃ k,x=.bl k/\Q k H'
theorem dc {op:CmpOp} {r:R2} (ho:OpR X (compareOp op) r) (ha:PE X a ta) (hb:PE X b tb) (hm:behindInMarks op b=false):PT X (.Compare a [op] [b] pos) (nP (tOp r ta tb)):=by
 intro pins s σ H Q I h;refine wpAny_isTrue_Compare1 (thn (ha pins s σ H _ I h) fun v s1 ⟨x,H1,I1,r1,q1⟩=>thn (hb pins s1 σ H1 _ I1 q1) fun u s2 ⟨y,H2,I2,r2,q2⟩=>
  thn (ho pins s2 σ H2 x y v u _ I2 r1 r2 q2) fun c s3 ⟨z,H3,I3,r3,k,e,q3⟩=>?_) hm
 subst e;cases r3;exact wpAny_truthy_bool ⟨H3,I3,q3⟩
noncomputable def UQ (K:W.Frag) (x:V) (H:Hp) (k:Bool):Prop:=
 match x with
 | .non=>k=false
 | .bl b=>k=b
 | .int i=>k=(i != 0)
 | .str y=>y.length <= sizeLine/\k=((y.length:Int) != 0)
 | .byt y=>y.size <= sizeLine/\k=((y.size:Int) != 0)
 | .ref p=>(∃ xs,SqL K H p xs/\k = !xs.isEmpty)\/(∃ xs,SqT K H p xs/\k = !xs.isEmpty)\/∃ kvs,H p=some (.dK kvs)/\k = !kvs.isEmpty
 | _=>False
theorem OB {κ:Type} {kvs:List (κ × V)} {vs:List (κ × Value)} (r:KV kvs vs):(!vs.isEmpty) = !kvs.isEmpty:=by
 cases r <;> rfl
theorem Au {xs:List V} {its:List Value} (r:Kd xs its):(!its.toArray.isEmpty) = !xs.isEmpty:=by
 cases r <;> simp
theorem Uq:(sizeLine:Nat) < 2 ^ 63:=by rw [sizeLine_eq];decide
theorem xO:DR X (fun x H Q=>∃ k,UQ X.K x H k/\Q k H):=by
 intro pins s σ H x v Q I rx h;obtain ⟨k,e,q⟩:=h;have hl:=Uq;have hs:sizeLine=16777216:=sizeLine_eq;cases x with
 | non=>
  cases rx;have e':k=false:=e;subst e';exact truthy_none ⟨H,I,q⟩
 | bl b=>
  cases rx;have e':k=b:=e;subst e';exact wpAny_truthy_bool ⟨H,I,q⟩
 | int i=>
  obtain ⟨t,rfl⟩:=rx;have e':k=(i != 0):=e;subst e';exact PySem.P.truthy_int ⟨H,I,q⟩
 | str y=>
  obtain ⟨t,rfl⟩:=rx;obtain ⟨hy,e'⟩:y.length <= sizeLine/\k=((y.length:Int) != 0):=e;subst e';exact PySem.P.truthy_str (by omega) ⟨H,I.tok _,q⟩
 | byt y=>
  obtain ⟨t,rfl⟩:=rx;obtain ⟨hy,e'⟩:y.size <= sizeLine/\k=((y.size:Int) != 0):=e;subst e';exact PySem.W.truthy_bytes (by omega) ⟨H,I.tok _,q⟩
 | ref p=>
  cases rx;have e':(∃ xs,SqL X.K H p xs/\k = !xs.isEmpty)\/(∃ xs,SqT X.K H p xs/\k = !xs.isEmpty)\/∃ kvs,H p=some (.dK kvs)/\k = !kvs.isEmpty:=e;rcases e' with ⟨xs,hx,e'⟩ | ⟨xs,hx,e'⟩ | ⟨kvs,hx,e'⟩
  ·subst e';obtain ⟨its,r,pl,hz⟩:=I.list hx;have hlen:=r.length;exact wpAny_truthy_list pl.isList (by simp only [size_toArray];omega) ⟨H,I.tok _,by rw [Au r];exact q⟩
  ·subst e';obtain ⟨its,r,pl,hz⟩:=I.tuple hx;have hlen:=r.length;exact truthy_tuple pl (by simp only [size_toArray];omega) ⟨H,I.tok _,by rw [Au r];exact q⟩
  ·subst e';obtain ⟨hz,hS,vs,r,m⟩:kvs.length <= sizeLine/\(p == sysModules)=false/\∃ vs,KV kvs vs/\s.heap.DictOf (rf X.prog X.w) p vs:=I.hok p _ hx;have hlen:kvs.length=vs.length:=Paired.length r;exact wpAny_truthy_dict hS m (by omega) ⟨H,I.tok _,by rw [OB r];exact q⟩
 | _=>exact (show False from e).elim
theorem vq (ha:PE X a ta) (he:∀ whole,isTrue a X.env whole=(do let v <- whole;standAt a.pos;holding [v] (truthy v))) :
  PT X a (fun σ H Q=>ta σ H fun x H'=>∃ k,UQ X.K x H' k/\Q k H'):=by
 intro pins s σ H Q I h;exact isTrue_plain (thn (ha pins s σ H _ I h) fun v s1 ⟨x,H1,I1,r1,q1⟩=>xO pins s1 σ H1 x v Q I1 r1 q1) (he _)
theorem Dd:OpR X (binaryOp .Add) (fun x y H Q=>∃ i j,x=.str i/\y=.str j/\i.length + j.length <= sizeLine/\Q (.str (i ++ j)) H):=by
 intro pins s σ H x y v u Q I rx ry h;obtain ⟨i,j,rfl,rfl,hz,q⟩:=h;obtain ⟨t,rfl⟩:=rx;obtain ⟨t',rfl⟩:=ry;exact add_str (fun t' tk=>⟨.str (i ++ j),H,I.tok _,⟨_,rfl⟩,q⟩) hz
theorem At {x:V} {us:List Value} (r:Kd [x] us):∃ u,us=[u]/\ae x u:=by
 cases r with
 | cons r1 r2=>cases r2;exact ⟨_,rfl,r1⟩
theorem eM {x y:V} {us:List Value} (r:Kd [x,y] us):∃ u w',us=[u,w']/\ae x u/\ae y w':=by
 cases r with
 | cons r1 r2=>
  cases r2 with
  | cons r3 r4=>cases r4;exact ⟨_,_,rfl,r1,r3⟩
theorem WE (hc:X.calm=true):ml X (.builtin "max") (fun xs H Q=>∃ i j,xs=[.int i,.int j]/\Q (.int (if j > i then j else i)) H):=by
 intro pins s σ H xs us Q I r h;obtain ⟨i,j,rfl,q⟩:=h;obtain ⟨u,w',rfl,⟨t,rfl⟩,⟨t',rfl⟩⟩:=eM r;refine max_two_ints (I.ok.hd hc) fun h' tk k=>⟨_,H,I.kept k,?_,q⟩
 by_cases hj:j > i
 ·rw [if_pos hj,if_pos hj];exact ⟨_,rfl⟩
 ·rw [if_neg hj,if_neg hj];exact ⟨_,rfl⟩
theorem zf:ml X (.type "str") (fun xs H Q=>∃ i,xs=[.int i]/\i.natAbs.log2 < 1920/\Q (.str (toString i)) H):=by
 intro pins s σ H xs us Q I r h;obtain ⟨i,rfl,hz,q⟩:=h;obtain ⟨u,rfl,t,rfl⟩:=At r;exact PySem.P.str_of_int hz ⟨.str _,H,I.tok _,⟨_,rfl⟩,q⟩
end
end L2
namespace L2
open PySem PySem.Spec PyProof.Rows
structure mM (h:Heap) (x dx C:Addr) (mA:Str->Option Value):Prop where
 obj:h.get? x=some (PySem.W.instObj C dx)
 ns:h.Ns1 dx mA
 ne:dx ≠ x
theorem Zr {h:Heap} {dx:Addr} {mA:Str->Option Value} (n:h.Ns1 dx mA):∃ od,h.get? dx=some od/\∀ name,PySem.W.lookIn name od=some (mA name):=by
 obtain ⟨o,es,ep,ho,hd,hk,_,hm⟩:=n;refine ⟨o,ho,fun name=>?_⟩;have e:=hm name;unfold nsFind findBy at e;rw [<- Array.find?_toList] at e;unfold PySem.W.lookIn;rw [hd];dsimp only;split
 ·rename_i y q;rw [q] at e;exact congrArg some e
 ·rename_i q;rw [q] at e;have a:es.toList.any (·.refKey)=false:=by
   rw [List.any_eq_false];intro y hy;obtain ⟨z,t,hkey⟩:=hk y (Array.mem_toList_iff.mp hy);simp [DictEntry.refKey,hkey]
  have a':¬ es.toList.any (·.refKey)=true:=by rw [a];exact Bool.false_ne_true
  rw [if_neg a'];exact congrArg some e
theorem mM.look {h:Heap} {x dx C:Addr} {mA:Str->Option Value} (I:mM h x dx C mA):∃ od,PySem.W.InstAt h x (PySem.W.instObj C dx) C (some od)/\∀ name,PySem.W.lookIn name od=some (mA name):=
 let ⟨od,ho,hl⟩:=Zr I.ns
 ⟨od,⟨I.obj,rfl,rfl,ho⟩,hl⟩
section
variable {prog:Program} {w:World} {A:Around} {E:Value->Shared->Prop} {s:Shared} {K:W.Frag} {x dx C f:Addr} {mA:Str->Option Value} {name:Str} {v:Value}
theorem xL {expr:Bool} {Q:Value->Shared->Prop} (X:K.In s.heap) (I:mM s.heap x dx C mA) (hg:PySem.W.plainGet K C name=true) (hh:PySem.W.hasDictIn K C=true)
  (ha:PySem.W.findIn K (.ref C) name=some none) (hv:mA name=some v) (hv':PySem.W.handedIn v=true) (h:Q v { s with toks:=s.toks + 1 }) :
  wpAny (model prog w) A (getAttr (.ref x) name expr) Q E s:=by
 obtain ⟨od,J,hl⟩:=I.look;exact PySem.W.get_value X J (PySem.W.plainGet_of hg).1 (PySem.W.findObj_own hh ha rfl (by rw [hl,hv])) hv' h
theorem FI {pl:Sem Bool} {Q:Value × List Value->Shared->Prop} (X:K.In s.heap) (I:mM s.heap x dx C mA) (hg:PySem.W.plainGet K C name=true)
  (hf:PySem.W.findIn K (.ref C) name=some (some (.ref f))) (ht:PySem.W.isFn K (.ref f)=true) (hv:mA name=none) (h:Q (.ref f,[.ref x]) s) :
  wpAny (model prog w) A (getMethod (.ref x) name pl) Q E s:=by
 obtain ⟨od,J,hl⟩:=I.look;exact PySem.W.method_fn X J (PySem.W.plainGet_of hg).1 (PySem.W.plainGet_of hg).2 hf (beq_iff_eq.mp ht) (by show (PySem.W.lookIn name od).map (·.isSome)=some false;rw [hl,hv];rfl) h
theorem ML {ns:List Str} {Q:Unit->Shared->Prop} (X:K.In s.heap) (I:mM s.heap x dx C mA)
  (hs:PySem.W.findIn K (.ref C) "__setattr__"=some (some (.builtin "object.__setattr__"))) (hp:PySem.W.plainOver K C=true) (ht:PySem.W.takerIn K C name=some none) (hh:PySem.W.hasDictIn K C=true)
  (hw:PySem.Within mA ns) (hsz:ns.length <= sizeLine)
  (h:∀ h',mM h' x dx C (fun y=>if y=name then some v else mA y)->Heap.SameBut dx s.heap h'->Q () { s with heap:=h',toks:=s.toks + 2 }) :
  wpAny (model prog w) A (setAttr (.ref x) name v) Q E s:=by
 obtain ⟨od,J,hl⟩:=I.look;refine PySem.W.set_plain X J hs (PySem.W.osa_open (s:={ s with toks:=s.toks + 1 }) (r:=none) X J hp ht fun b=>?_);obtain ⟨cd,hc,hd'⟩:=PySem.W.any_some hh;have hx:s.heap.get? x=some ⟨.ref C,some dx,.plain,#[]⟩:=I.obj;refine wpAny_bind (wpAny_pure (wpAny_bind (wpAny_bind (wpAny_loadPart hx (wpAny_bind (PySem.W.Looks.here (s:={ s with toks:=s.toks + 1 }) (PySem.W.looks_clsIn X hc) ?_))))));rw [hd'];refine wpAny_pure (a:=some dx) (wpAny_bind (wpAny_pure (wpAny_bind ?_)));refine wpAny_nsSet1 (s:={ s with toks:=s.toks + 1 }) I.ns fun h' hn2 hs2=>?_
 obtain ⟨oD,esD,epD,hoD,hdD,hcD⟩:=hn2.count (PySem.Within.cons name v hw);refine wpAny_bind (wpAny_lookBehind hoD (by rw [hdD];exact pastItsLine_dict (Nat.le_trans hcD (by rw [length_cons];omega))) ?_);exact wpAny_pure (h _ ⟨(hs2.2 _ (Ne.symm I.ne)).trans I.obj,hn2,I.ne⟩ hs2)
theorem yH {R:Result->Shared->Prop} {vs:List Value} {kw:List (Str × Value)} (X:K.In s.heap) (hm:PySem.W.makesIn K C=true)
  (hi:PySem.W.findIn K (.ref C) "__init__"=some (some (.ref f))) (hf:PySem.W.typeIn K (.ref f)=some (.type "function"))
  (h:codeAny (model prog w) (A.under (.builtin "type.__call__" ⟨.ref C :: vs,kw⟩)) (.call (.ref f) ⟨.ref (s.heap.objs.size + 1) :: vs,kw⟩) (PySem.W.InitBack (s.heap.objs.size + 1) R)
   { s with heap:=(s.heap.push PySem.W.emptyDict).push (PySem.W.instObj C s.heap.objs.size) }) :
  codeAny (model prog w) A (.call (.ref C) ⟨vs,kw⟩) R s:=by
 obtain ⟨hh,g,d,t,os⟩:=s;exact PySem.W.make_core (PySem.W.makes_of X hm) (PySem.W.looks_findIn X hi) (fun self=>PySem.W.bind_fn X self hf) (.inl rfl) h
end
noncomputable def lh (f:Str) (v:V):List (Str × V)->List (Str × V)
 | []=>[(f,v)]
 | (g,x) :: r=>if g=f then (g,v) :: r else (g,x) :: lh f v r
theorem Rm (f g:Str) (v:V):∀ fs:List (Str × V),(lh f v fs).lookup g=if g=f then some v else fs.lookup g
 | []=>by
  show List.lookup g [(f,v)]=_;by_cases h:g=f
  ·have hb:(g == f)=true:=beq_iff_eq.mpr h;simp only [List.lookup,hb,if_pos h]
  ·have hb:(g == f)=false:=beq_eq_false_iff_ne.mpr h;simp only [List.lookup,hb,if_neg h]
 | (k,x) :: r=>by
  have ih:=Rm f g v r;rw [show lh f v ((k,x) :: r)=(if k=f then (k,v) :: r else (k,x) :: lh f v r) from rfl];by_cases hk:k=f
  ·rw [if_pos hk];by_cases h:g=k
   ·have hb:(g == k)=true:=beq_iff_eq.mpr h;simp only [List.lookup,hb,if_pos (h.trans hk)]
   ·have hb:(g == k)=false:=beq_eq_false_iff_ne.mpr h;simp only [List.lookup,hb,if_neg (fun e:g=f=>h (e.trans hk.symm))]
  ·rw [if_neg hk];by_cases h:g=k
   ·have hb:(g == k)=true:=beq_iff_eq.mpr h;simp only [List.lookup,hb,if_neg (fun e:g=f=>hk (h.symm.trans e))]
   ·have hb:(g == k)=false:=beq_eq_false_iff_ne.mpr h;simp only [List.lookup,hb];exact ih
theorem Dk (f:Str) (v:V):∀ fs:List (Str × V),f ∈ (lh f v fs).map (·.1)/\∀ g,g ∈ fs.map (·.1)->g ∈ (lh f v fs).map (·.1)
 | []=>⟨by simp [lh],fun g h=>by simp at h⟩
 | (k,x) :: r=>by
  obtain ⟨i1,i2⟩:=Dk f v r;rw [show lh f v ((k,x) :: r)=(if k=f then (k,v) :: r else (k,x) :: lh f v r) from rfl];by_cases hk:k=f
  ·rw [if_pos hk];subst hk;exact ⟨by simp,fun g h=>by simpa using h⟩
  ·rw [if_neg hk];refine ⟨?_,fun g h=>?_⟩
   ·rw [map_cons];exact mem_cons_of_mem _ i1
   ·rw [map_cons] at h ⊢;rcases List.mem_cons.mp h with e | e
    ·exact List.mem_cons.mpr (.inl e)
    ·exact mem_cons_of_mem _ (i2 g e)
theorem Wm (f:Str) (v:V):∀ fs:List (Str × V),(lh f v fs).length <= fs.length + 1
 | []=>by simp [lh]
 | (k,x) :: r=>by
  have ih:=Wm f v r;rw [show lh f v ((k,x) :: r)=(if k=f then (k,v) :: r else (k,x) :: lh f v r) from rfl];by_cases hk:k=f
  ·rw [if_pos hk,length_cons,length_cons];omega
  ·rw [if_neg hk,length_cons,length_cons];omega
theorem Ps.some_of {v:V} {o:Option Value} (r:Ps (some v) o):∃ u,o=some u/\ae v u:=by
 cases o with
 | none=>exact (show False from r).elim
 | some u=>exact ⟨u,rfl,r⟩
theorem Ps.none_of {o:Option Value} (r:Ps none o):o=none:=by
 cases o with
 | none=>rfl
 | some u=>exact (show False from r).elim
theorem Qx {v:V} {u:Value} (r:ae v u):PySem.W.handedIn u=true:=by
 cases v with
 | non=>cases (show u=Value.none from r);rfl
 | bl b=>cases (show u=Value.bool b from r);rfl
 | int i=>obtain ⟨t,e⟩:=(show ∃ t,u=Value.int i t from r);cases e;rfl
 | str x=>obtain ⟨t,e⟩:=(show ∃ t,u=Value.str x t from r);cases e;rfl
 | byt b=>obtain ⟨t,e⟩:=(show ∃ t,u=Value.bytes b t from r);cases e;rfl
 | flt b=>obtain ⟨t,e⟩:=(show ∃ t,u=Value.float b t from r);cases e;rfl
 | ref a=>cases (show u=Value.ref a from r);rfl
 | ty n=>cases (show u=Value.type n from r);rfl
section
variable {P:Program} {w:World} {H H':Hp} {h h':Heap} {a C dx:Addr} {fs fs':List (Str × V)}
theorem Lv (hok:HOk P w H h) (e:H a=some (.ins C dx fs)):∃ mA,mM h a dx C mA/\(∀ f,Ps (fs.lookup f) (mA f))/\PySem.Within mA (fs.map (·.1))/\fs.length <= 1000/\H dx=some (.own a):=by
 obtain ⟨d,z,ne,ob,mA,n,r,q⟩:=(show Sd P w H h a (.ins C dx fs) from hok a _ e);exact ⟨mA,⟨ob,n,ne⟩,r,q,z,d⟩
end
structure Cls (K:W.Frag) (C:Addr):Prop where
 pg:PySem.W.plainGet K C Str.empty=true
 hd:PySem.W.hasDictIn K C=true
 po:PySem.W.plainOver K C=true
 sa:PySem.W.findIn K (.ref C) "__setattr__"=some (some (.builtin "object.__setattr__"))
theorem Cls.get {K:W.Frag} {C:Addr} (c:Cls K C) (f:Str):PySem.W.plainGet K C f=true:=c.pg
noncomputable def Ib (K:W.Frag) (C:Addr) (f:Str):Prop:=PySem.W.findIn K (.ref C) f=some none
theorem Ib.taker {K:W.Frag} {C:Addr} {f:Str} (n:Ib K C f):PySem.W.takerIn K C f=some none:=by
 unfold PySem.W.takerIn;rw [show PySem.W.findIn K (.ref C) f=some none from n];rfl
structure Con (K:W.Frag) (C:Addr) (f:Str) (v:V) (u:Value):Prop where
 at_:PySem.W.findIn K (.ref C) f=some (some u)
 rel:ae v u
 get:PySem.W.specialIn K u "__get__"=some none
 cp:PySem.W.copiedNames.contains f=false
structure Hu (K:W.Frag) (C:Addr) (m:Str) (f:Addr):Prop where
 at_:PySem.W.findIn K (.ref C) m=some (some (.ref f))
 fn:PySem.W.isFn K (.ref f)=true
 kp:PySem.W.keepIn K (.ref f)=true
section
variable {X:Cx} {pins:List (Addr × Obj)} {σ:St} {H:Hp} {s:Shared} {a C dx:Addr} {fs:List (Str × V)} {f:Str} {v:V} {A:Around} {E:Value->Shared->Prop}
theorem Eu {b:Bool} {Q:Value->Shared->Prop} (I:Inv X pins σ H s) (e:H a=some (.ins C dx fs)) (c:Cls X.K C) (n:Ib X.K C f) (l:fs.lookup f=some v)
  (h:∀ u s',Inv X pins σ H s'->ae v u->Q u s'):wpAny (model X.prog X.w) A (getAttr (.ref a) f b) Q E s:=by
 obtain ⟨mA,O,r,_,_,_⟩:=Lv I.hok e;obtain ⟨u,hu,ru⟩:=Ps.some_of (v:=v) (o:=mA f) (by rw [<- l];exact r f);exact xL I.kIn O (c.get f) c.hd n hu (Qx ru) (h u _ (I.tok _) ru)
theorem xo {m:Str} {g:Addr} {pl:Sem Bool} {Q:Value × List Value->Shared->Prop} (I:Inv X pins σ H s) (e:H a=some (.ins C dx fs)) (c:Cls X.K C) (k:Hu X.K C m g) (l:fs.lookup m=none)
  (h:Q (.ref g,[.ref a]) s):wpAny (model X.prog X.w) A (getMethod (.ref a) m pl) Q E s:=by
 obtain ⟨mA,O,r,_,_,_⟩:=Lv I.hok e;have hn:mA m=none:=Ps.none_of (by rw [<- l];exact r m);exact FI I.kIn O (c.get m) k.at_ k.fn hn h
theorem Tu {y:V} {u:Value} {Q:Unit->Shared->Prop} (I:Inv X pins σ H s) (e:H a=some (.ins C dx fs)) (c:Cls X.K C) (n:Ib X.K C f) (hl:fs.length < 1000) (ry:ae y u)
  (h:∀ s',Inv X pins σ (upd H a (.ins C dx (lh f y fs))) s'->Q () s'):wpAny (model X.prog X.w) A (setAttr (.ref a) f u) Q E s:=by
 obtain ⟨mA,O,r,wi,_,ho⟩:=Lv I.hok e;have hz:(fs.map (·.1)).length <= sizeLine:=by rw [length_map,sizeLine_eq];omega
 refine ML I.kIn O c.sa c.po n.taker c.hd wi hz fun h' O' sb=>h _ ?_
 have hd:∃ o,h'.get? dx=some o:=let ⟨o,_,_,e',_⟩:=O'.ns;⟨o,e'⟩;refine I.write (x:=a) (e:=dx) (by rw [e];exact True.intro) (.inr ho) (fun b q hb z=>(sb.2 b hb).trans z) hd ?_;refine ⟨by rw [jb O.ne];exact ho,?_,O.ne,O'.obj,_,O'.ns,fun g=>?_,fun g hg=>?_⟩
 ·have:=Wm f y fs;omega
 ·show Ps ((lh f y fs).lookup g) (if g=f then some u else mA g);rw [Rm];by_cases q:g=f
  ·rw [if_pos q,if_pos q];exact ry
  ·rw [if_neg q,if_neg q];exact r g
 ·by_cases q:g=f
  ·rw [q];exact (Dk f y fs).1
  ·refine (Dk f y fs).2 g (wi g fun z=>hg ?_);show (if g=f then some u else mA g)=none;rw [if_neg q];exact z
theorem Inv.made (I:Inv X pins σ H s):Inv X pins σ (upd (upd H s.heap.objs.size (.own (s.heap.objs.size + 1))) (s.heap.objs.size + 1) (.ins C s.heap.objs.size []))
  { s with heap:=(s.heap.push PySem.W.emptyDict).push (PySem.W.instObj C s.heap.objs.size) }:=by
 have e1:(s.heap.push PySem.W.emptyDict).get? s.heap.objs.size=some PySem.W.emptyDict:=Heap.get?_push_size s.heap rfl;have e2:((s.heap.push PySem.W.emptyDict).push (PySem.W.instObj C s.heap.objs.size)).get? (s.heap.objs.size + 1)=some (PySem.W.instObj C s.heap.objs.size):=by
  have:=Heap.get?_push_size (s.heap.push PySem.W.emptyDict) (o:=PySem.W.instObj C s.heap.objs.size) rfl;rwa [Heap.size_push] at this
 have e3:(s.heap.push PySem.W.emptyDict).Ns s.heap.objs.size (fun _=>none):=⟨PySem.W.emptyDict,#[],_,e1,rfl,(fun e he=>absurd he (by simp)),fun _=>rfl⟩;have I1:=I.laid (a:=s.heap.objs.size) (o:=.own (s.heap.objs.size + 1)) (h':=s.heap.push PySem.W.emptyDict) (t':=s.toks) (fun b u q=>Heap.get?_push_of_some _ q) (Nat.le_refl _) ⟨_,e1⟩;refine I1.laid (a:=s.heap.objs.size + 1) (o:=.ins C s.heap.objs.size []) (t':=s.toks) (fun b u q=>Heap.get?_push_of_some _ q) (Nat.le_of_eq (Heap.size_push _ _)) ?_;have ne:s.heap.objs.size ≠ s.heap.objs.size + 1:=Nat.ne_of_lt (Nat.lt_succ_self _);refine ⟨by rw [jb ne,db],Nat.zero_le _,ne,e2,fun _=>none,(Heap.Ns1.of_empty e3).at fun o q=>Heap.get?_push_of_some _ q,fun _=>True.intro,fun y hy=>absurd rfl hy⟩
theorem sG {prog:Program} {w:World} {env:Env} {e:Expr} {f:Str} {pos:Pos} {s:Shared} {Q:Value->Shared->Prop} (hb:attributeBase e f env (eval e env)=eval e env)
  (h:wpAny (model prog w) A (eval e env) (fun o s₁=>wpAny (model prog w) A (getAttr o f true) Q E s₁) E s):wpAny (model prog w) A (eval (.Attribute e f pos) env) Q E s:=
 Attribute_any_ h (by rw [arm_eval_Attribute,hb])
end
noncomputable def oQ (K:W.Frag) (ta:TE) (f:Str):TE:=fun σ H Q=>ta σ H fun x H1=>∃ a C dx fs v,x=.ref a/\H1 a=some (.ins C dx fs)/\Cls K C/\Ib K C f/\fs.lookup f=some v/\Q v H1
noncomputable def oR (K:W.Frag) (ta tv:TE) (f:Str):TS:=fun D σ H=>tv σ H fun y H1=>ta σ H1 fun x H2=>∃ a C dx fs,x=.ref a/\H2 a=some (.ins C dx fs)/\Cls K C/\Ib K C f/\fs.length < 1000 /\
 D.nx σ (upd H2 a (.ins C dx (lh f y fs)))
noncomputable def uR (X:Cx) (op:Operator) (rd:V->V->Hp->VK->Prop):Prop:=
 ∀ (pins:List (Addr × Obj)) (s:Shared) (σ:St) (H:Hp) (x y:V) (u v:Value) (Q:VK),Inv X pins σ H s->ae x u->ae y v->rd x y H Q->wpAny (model X.prog X.w) X.A (inplaceOp op u v) (EP X pins σ Q) X.xe s
noncomputable def FF (K:W.Frag) (ta tv:TE) (rd:V->V->Hp->VK->Prop) (f:Str):TS:=fun D σ H=>ta σ H fun x H1=>∃ a C dx fs v,x=.ref a/\H1 a=some (.ins C dx fs)/\Cls K C/\Ib K C f/\fs.lookup f=some v /\
 tv σ H1 fun y H2=>rd v y H2 fun z H3=>∃ dx' fs',H3 a=some (.ins C dx' fs')/\fs'.length < 1000/\D.nx σ (upd H3 a (.ins C dx' (lh f z fs')))
section
variable {X:Cx} {o e value:Expr} {f:Str} {pos pos' tpos:Pos} {ta tv:TE}
theorem vc (he:PE X e ta) (hb:attributeBase e f X.env (eval e X.env)=eval e X.env):PE X (.Attribute e f pos) (oQ X.K ta f):=by
 intro pins s σ H Q I h;refine sG hb (thn (he pins s σ H _ I h) fun u s1 hZ1=>?_);obtain ⟨x,H1,I1,rx,a,C,dx,fs,v,ex,ea,c,n,l,q⟩:=hZ1;subst ex;obtain rfl:u=Value.ref a:=rx;exact Eu I1 ea c n l fun u' s2 I2 ru=>⟨v,H1,I2,ru,q⟩
theorem Vf (ha:PE X o ta) (hv:PE X value tv) (hs:swapsWith value (some (.Attribute o f pos')) pos.line X.env=pure false):PS X (.Assign [.Attribute o f pos'] value pos) (oR X.K ta tv f):=by
 intro pins s σ H D I h;refine plainObj_wpAny_Assign_Attribute (thn (hv pins s σ H _ I h) fun u s1 ⟨y,H1,I1,ry,q⟩=>thn (ha pins s1 σ H1 _ I1 q) fun ov s2 hZ1=>?_) hs;obtain ⟨x,H2,I2,rx,a,C,dx,fs,ex,ea,c,n,l,q2⟩:=hZ1;subst ex;obtain rfl:ov=Value.ref a:=rx;exact Tu I2 ea c n l ry fun s3 I3=>⟨σ,_,I3,q2⟩
theorem Zx {op:Operator} {rd:V->V->Hp->VK->Prop} (ha:PE X o ta) (hv:PE X value tv) (hop:uR X op rd):PS X (.AugAssign (.Attribute o f tpos) op value pos) (FF X.K ta tv rd f):=by
 intro pins s σ H D I h;refine wpAny_AugAssign_AttributeAny (thn (ha pins s σ H _ I h) fun ov s1 hZ1=>?_);obtain ⟨x,H1,I1,rx,a,C,dx,fs,v,ex,ea,c,n,l,q⟩:=hZ1;subst ex;obtain rfl:ov=Value.ref a:=rx;refine Eu I1 ea c n l fun u s2 I2 ru=>thn (hv pins s2 σ H1 _ I2 q) fun w3 s3 ⟨y,H2,I3,ry,q3⟩=>thn (hop pins s3 σ H2 v y u w3 _ I3 ru ry q3) fun w4 s4 hZ1=>?_
 obtain ⟨z,H3,I4,rz,dx',fs',ea',l',q4⟩:=hZ1;exact Tu I4 ea' c n l' rz fun s5 I5=>⟨σ,_,I5,q4⟩
noncomputable def rR:V->V->Hp->VK->Prop:=fun x y H Q=>∃ i j,x=.int i/\y=.int j/\Q (.int (i + j)) H
theorem JJ:uR X .Add rR:=by
 rintro pins s σ H x y u v Q I rx ry ⟨i,j,rfl,rfl,q⟩;obtain ⟨t,rfl⟩:=(show ∃ t,u=Value.int i t from rx);obtain ⟨t',rfl⟩:=(show ∃ t',v=Value.int j t' from ry);exact PyProof.Rows.iadd_int ⟨.int (i + j),H,I.tok _,⟨_,rfl⟩,q⟩
end
section
variable {X:Cx} {pins:List (Addr × Obj)} {σ:St} {H:Hp} {s:Shared} {A:Around} {E:Value->Shared->Prop} {Q:Value->Shared->Prop} {c:Value} {b:Bool}
inductive dB (K:W.Frag) (H:Hp):V->Value->Prop where
 | non:dB K H .non (.type "NoneType")
 | bl (x:Bool):dB K H (.bl x) (.type "bool")
 | int (i:Int):dB K H (.int i) (.type "int")
 | str (x:Str):dB K H (.str x) (.type "str")
 | flt (x:UInt64):dB K H (.flt x) (.type "float")
 | lst {a:Addr} {xs:List V} (e:H a=some (.lst xs)):dB K H (.ref a) (.type "list")
 | frz {a:Addr} {o:Obj} {xs:List V} (e:H a=some (.frz o (.lst xs))):dB K H (.ref a) (.type "list")
 | tup {a:Addr} {xs:List V} (e:H a=some (.tup xs)):dB K H (.ref a) (.type "tuple")
 | dK {a:Addr} {kvs:List (Key × V)} (e:H a=some (.dK kvs)):dB K H (.ref a) (.type "dict")
 | dT {a:Addr} {kvs:List (List Key × V)} (e:H a=some (.dT kvs)):dB K H (.ref a) (.type "dict")
 | ins {a C dx:Addr} {fs:List (Str × V)} (e:H a=some (.ins C dx fs)) (cl:Cls K C) (ha:PySem.W.findIn K (.ref C) "__class__"=some (some (.builtin "object.__class__")))
   (hn:PySem.W.specialIn K (.builtin "object.__class__") "__get__"=some (some (.builtin "getset_descriptor.__get__"))) (htk:PySem.W.takesIn K (.builtin "object.__class__")=some true)
   (hm:PySem.W.mroIn K C (.type "object")=some true):dB K H (.ref a) (.ref C)
theorem KD {x:V} {u t:Value} (I:Inv X pins σ H s) (rx:ae x u) (ty:dB X.K H x t) (e:PySem.W.kitOne X.K t c=some b) (h:∀ tk,Q (.bool b) { s with toks:=tk }) :
  wpAny (model X.prog X.w) A (call (.builtin "isinstance") [u,c]) Q E s:=by
 cases ty with
 | non=>cases (show u=Value.none from rx);exact PySem.W.kia_one PySem.W.kitx_none I.kIn True.intro e (fun z=>nomatch z) h
 | bl y=>cases (show u=Value.bool y from rx);exact PySem.W.kia_one PySem.W.kitx_bool I.kIn True.intro e (fun z=>nomatch z) h
 | int i=>obtain ⟨t,q⟩:=(show ∃ t,u=Value.int i t from rx);cases q;exact PySem.W.kia_one PySem.W.kitx_int I.kIn True.intro e (fun z=>nomatch z) h
 | str y=>obtain ⟨t,q⟩:=(show ∃ t,u=Value.str y t from rx);cases q;exact PySem.W.kia_one PySem.W.kitx_str I.kIn True.intro e (fun z=>nomatch z) h
 | flt y=>obtain ⟨t,q⟩:=(show ∃ t,u=Value.float y t from rx);cases q;exact PySem.W.kia_one PySem.W.kitx_float I.kIn True.intro e (fun z=>nomatch z) h
 | @lst a xs ea=>
  cases (show u=Value.ref a from rx);obtain ⟨_,_,n,_,h1⟩:=(show Sd X.prog X.w H s.heap a (.lst xs) from I.hok a _ ea);exact PySem.W.kia_one PySem.W.kitx_list I.kIn ⟨_,h1,rfl⟩ e (fun z=>nomatch z) h
 | @frz a ob xs ea=>
  cases (show u=Value.ref a from rx);obtain ⟨_,_,_,n,_,h1⟩:=(show Sd X.prog X.w H s.heap a (.frz ob (.lst xs)) from I.hok a _ ea);exact PySem.W.kia_one PySem.W.kitx_list I.kIn ⟨_,h1,rfl⟩ e (fun z=>nomatch z) h
 | @tup a xs ea=>
  cases (show u=Value.ref a from rx);obtain ⟨_,_,_,p⟩:=(show Sd X.prog X.w H s.heap a (.tup xs) from I.hok a _ ea);obtain ⟨o,h1,h2,_⟩:=p;exact PySem.W.kia_one PySem.W.kitx_tuple I.kIn ⟨o,h1,h2⟩ e (fun z=>nomatch z) h
 | @dK a kvs ea=>
  cases (show u=Value.ref a from rx);obtain ⟨_,_,vs,_,p⟩:=(show Sd X.prog X.w H s.heap a (.dK kvs) from I.hok a _ ea);obtain ⟨o,es,ep,h1,h2,_⟩:=p;exact PySem.W.kia_one PySem.W.kitx_dict I.kIn ⟨o,h1,h2.1⟩ e (fun z=>nomatch z) h
 | @dT a kvs ea=>
  cases (show u=Value.ref a from rx);obtain ⟨_,_,xs,_,o,es,ep,h1,h2,_⟩:=(show Sd X.prog X.w H s.heap a (.dT kvs) from I.hok a _ ea);exact PySem.W.kia_one PySem.W.kitx_dict I.kIn ⟨o,h1,h2.1⟩ e (fun z=>nomatch z) h
 | @ins a C dx fs ea cl ha hn htk hm=>
  cases (show u=Value.ref a from rx);obtain ⟨mA,O,_⟩:=Lv I.hok ea;obtain ⟨od,J,_⟩:=O.look;exact PySem.W.kia_one (PySem.W.kitx_own (cl.get _) cl.hd ha hn htk hm) I.kIn J e (fun z=>nomatch z) h
end
end L2
namespace L2
open PySem PySem.Spec PyProof.Rows
structure kj (k:Nat) (A:Around):Prop where
 hd:A.handled=none
 dp:A.depth + 3 * k + 5 < recursionLimit
 un:A.units + 16 * k + 200 < cLine
theorem kj.mono {j k:Nat} {A:Around} (r:kj k A) (h:j <= k):kj j A:=⟨r.hd,by have:=r.dp;omega,by have:=r.un;omega⟩
theorem kj.deeper {k:Nat} {A:Around} (r:kj (k + 1) A) (env:Env):kj k (A.deeper env):=
 ⟨r.hd,by have:=r.dp;show A.depth + 1 + 3 * k + 5 < _;omega,by have:=r.un;show A.units + 3 + 16 * k + 200 < _;omega⟩
theorem kj.in1 {k:Nat} {A:Around} (r:kj (k + 1) A):kj k A.in1:=
 ⟨r.hd,by have:=r.dp;show A.depth + 3 * k + 5 < _;omega,by have:=r.un;show A.units + 1 + 16 * k + 200 < _;omega⟩
theorem DC {A:Around} {C:Addr} {us:List Value} {kw:List (Str × Value)}:(A.under (.builtin "type.__call__" ⟨.ref C :: us,kw⟩)).depth=A.depth + 1:=by
 first | rfl | simp [Around.under,Code.weight,Code.isCreation,Code.isGuard,Code.isCaller,Code.frames,Code.isFrame,guardIds]
theorem ZB {A:Around} {C:Addr} {us:List Value} {kw:List (Str × Value)}:(A.under (.builtin "type.__call__" ⟨.ref C :: us,kw⟩)).units=A.units + 1:=by
 first | rfl | simp [Around.under,Code.cUnits,Code.frames,Code.isFrame]
theorem kj.make {k:Nat} {A:Around} (r:kj (k + 1) A) (C:Addr) (us:List Value) (kw:List (Str × Value)):kj k (A.under (.builtin "type.__call__" ⟨.ref C :: us,kw⟩)):=
 ⟨r.hd,by have:=r.dp;rw [DC];omega,by have:=r.un;rw [ZB];omega⟩
theorem kj.depth {k:Nat} {A:Around} (r:kj k A):A.depth < recursionLimit:=by have:=r.dp;omega
theorem kj.units {k:Nat} {A:Around} (r:kj k A):A.units + 64 < cLine:=by have:=r.un;omega
noncomputable def UP:TA:=fun _ H Q=>Q [] H
noncomputable def oO (ta:TE) (tr:TA):TA:=fun σ H Q=>ta σ H fun x H1=>tr σ H1 fun xs H2=>Q (x :: xs) H2
section
variable {X:Cx} {e:Expr} {es:List Expr} {te:TE} {t:TA} {pos:Pos}
theorem fb:PA X [] UP:=fun _ _ _ _ H Q I h=>Calls.spliced_nil ⟨[],H,I,.nil,h⟩
theorem bb (ha:PE X e te) (hr:PA X es t) (hs:starEach (e :: es) X.env=(false,eval e X.env) :: starEach es X.env:=by rfl):PA X (e :: es) (oO te t):=by
 intro pos pins s σ H Q I h;rw [hs];show wpAny _ _ (spliced ((false,eval e X.env) :: backTo pos (starEach es X.env))) _ _ s;refine Calls.spliced_cons (thn (ha pins s σ H _ I h) fun u s1 hZ1=>?_);obtain ⟨x,H1,I1,r1,q1⟩:=hZ1;exact thn (hr pos pins s1 σ H1 _ I1 q1) fun us s2 ⟨xs,H2,I2,r2,q2⟩=>⟨x :: xs,H2,I2,.cons r1 r2,q2⟩
noncomputable def lR (t:TA):TE:=fun σ H Q=>t σ H fun xs H1=>xs.length <= sizeLine/\∀ p,H1 p=none->Q (.ref p) (upd H1 p (.tup xs))
noncomputable def tR (t:TA):TE:=fun σ H Q=>t σ H fun xs H1=>xs.length <= sizeLine/\∀ p,H1 p=none->Q (.ref p) (upd H1 p (.lst xs))
theorem Uj {x1} (h:PA X es t):PE X (.Tuple es x1 pos) (lR t):=by
 intro pins s σ H Q I hq;refine wpAny_Tuple_spliced (thn (h pos pins s σ H _ I hq) fun us s1 ⟨xs,H1,I1,r,z,q⟩=>⟨by rw [<- r.length];exact z,?_⟩);have hf:H1 s1.heap.objs.size=none:=I1.hok.fresh (Nat.le_refl _);refine ⟨.ref s1.heap.objs.size,upd H1 s1.heap.objs.size (.tup xs),I1.laid (t':=s1.toks) (fun b u e=>Heap.get?_push_of_some _ e) (Nat.le_refl _) ?_,rfl,q _ hf⟩;exact ⟨z,us,r,⟨_,Heap.get?_push_size _ rfl,rfl,_,rfl⟩⟩
theorem Cf (h:PA X es t):PE X (.List es pos) (tR t):=by
 intro pins s σ H Q I hq;refine wpAny_List_spliced (thn (h pos pins s σ H _ I hq) fun us s1 ⟨xs,H1,I1,r,z,q⟩=>⟨by rw [<- r.length];exact z,?_⟩);have hf:H1 s1.heap.objs.size=none:=I1.hok.fresh (Nat.le_refl _);refine ⟨.ref s1.heap.objs.size,upd H1 s1.heap.objs.size (.lst xs),I1.laid (t':=s1.toks) (fun b u e=>Heap.get?_push_of_some _ e) (Nat.le_refl _) ?_,rfl,q _ hf⟩;exact ⟨z,us,0,r,Heap.get?_push_size _ rfl⟩
end
noncomputable abbrev Sp:=List V->Hp->VK->XK->Prop
noncomputable abbrev CXT:=List Env->Hp->Shared->XK->Value->Shared->Prop
structure iF (P:Program) (w:World) (K:W.Frag) (mg:Str->Option Value) (base:Heap) (A:Around) (outer:List Env) (s:Shared) (H:Hp):Prop where
 frames:A.frames=some outer
 mod:Mod K mg base
 bs:∀ b o,base.get? b=some o->s.heap.get? b=some o/\H b=none
 bsz:base.objs.size <= s.heap.objs.size
 funs:s.heap.FunFrames base outer
 frf:∀ b ∈ frs outer,H b=none
 hok:HOk P w H s.heap
 bare:AllBare s.gens
noncomputable def CE (outer:List Env) (P:Program) (w:World) (H:Hp) (s:Shared) (Q:VK) (u:Value) (s':Shared):Prop:=
 ∃ v H',s'.os=s.os/\AllBare s'.gens/\Un (frs outer) [] H H' s.heap s'.heap/\HOk P w H' s'.heap/\ae v u/\Q v H'
noncomputable def CR (CX:CXT) (outer:List Env) (P:Program) (w:World) (H:Hp) (s:Shared) (Q:VK) (E:XK) (r:Result) (s':Shared):Prop:=
 match r with
 | .ok (.ret u)=>CE outer P w H s Q u s'
 | .ok _=>False
 | .error e=>CX outer H s E e s'
structure Gb (P:Program) (w:World) (K:W.Frag) (mg:Str->Option Value) (base:Heap) (CX:CXT) (k:Nat) (f:Addr) (fd:FuncData) (ps:List Str) (sp:Sp):Prop where
 len:∀ vs H Q E,sp vs H Q E->vs.length=ps.length
 run:∀ (A:Around) (outer:List Env) (s:Shared) (H:Hp) (args:Args) (us:List Value) (vs:List V) (Q:VK) (E:XK),kj k A->iF P w K mg base A outer s H->BindsTo s fd args (ps.zip us)->Kd vs us->sp vs H Q E ->
  codeAny (model P w) A (.call (.ref f) args) (CR CX outer P w H s Q E) s
theorem Gb.mono {P:Program} {w:World} {K:W.Frag} {mg:Str->Option Value} {base:Heap} {CX:CXT} {j k:Nat} {f:Addr} {fd:FuncData} {ps:List Str} {sp:Sp} (F:Gb P w K mg base CX j f fd ps sp) (h:j <= k) :
  Gb P w K mg base CX k f fd ps sp:=⟨F.len,fun A outer s H args us vs Q E hr=>F.run A outer s H args us vs Q E (hr.mono h)⟩
theorem Gb.imp {P:Program} {w:World} {K:W.Frag} {mg:Str->Option Value} {base:Heap} {CX:CXT} {k:Nat} {f:Addr} {fd:FuncData} {ps:List Str} {sp sp':Sp} (F:Gb P w K mg base CX k f fd ps sp)
  (h:∀ vs H Q E,sp' vs H Q E->sp vs H Q E):Gb P w K mg base CX k f fd ps sp':=
 ⟨fun vs H Q E q=>F.len vs H Q E (h _ _ _ _ q),fun A outer s H args us vs Q E hr he hb hv hs=>F.run A outer s H args us vs Q E hr he hb hv (h _ _ _ _ hs)⟩
theorem iF.make {P:Program} {w:World} {K:W.Frag} {mg:Str->Option Value} {base:Heap} {A:Around} {outer:List Env} {s:Shared} {H:Hp} (e:iF P w K mg base A outer s H) (C:Addr) (us:List Value) (kw:List (Str × Value)) :
  iF P w K mg base (A.under (.builtin "type.__call__" ⟨.ref C :: us,kw⟩)) outer s H:=⟨by first | exact e.frames | (simpa [Around.under,Code.envs,Code.isFrame,pushEnvs] using e.frames),e.mod,e.bs,e.bsz,e.funs,e.frf,e.hok,e.bare⟩
theorem iF.in1 {P:Program} {w:World} {K:W.Frag} {mg:Str->Option Value} {base:Heap} {A:Around} {outer:List Env} {s:Shared} {H:Hp} (e:iF P w K mg base A outer s H) :
  iF P w K mg base A.in1 outer s H:=⟨e.frames,e.mod,e.bs,e.bsz,e.funs,e.frf,e.hok,e.bare⟩
section
variable {X:Cx} {pins:List (Addr × Obj)} {σ:St} {H:Hp} {s s':Shared}
theorem Inv.env0 (I:Inv X pins σ H s):iF X.prog X.w X.K X.mg X.base X.A X.stack s H:=
 ⟨I.ok.frames,I.ok.mod,I.bs,Nat.le_trans I.ok.bsz I.sz,I.stack,I.stkFree,I.hok,I.bare⟩
theorem Inv.after {Q:VK} {u:Value} (I:Inv X pins σ H s) (h:CE X.stack X.prog X.w H s Q u s'):EP X pins σ Q u s':=by
 obtain ⟨v,H',os,bare,un,hok,r,q⟩:=h;obtain ⟨hh,g,d,t,os'⟩:=s';obtain rfl:os'=s.os:=os;exact ⟨v,H',I.call (h':=hh) (g':=g) (d':=d) (t':=t) (ch:=[]) un hok bare (fun b z=>absurd z (by simp)),r,q⟩
end
noncomputable def rL (sp:Sp) (dvs:List V) (E:XK) (t:TA):TE:=fun σ H Q=>t σ H fun vs H1=>sp (vs ++ dvs) H1 Q E
noncomputable def UM (C:Addr) (m:Str) (sp:Sp) (dvs:List V) (E:XK) (ta:TE) (t:TA):TE:=fun σ H Q=>ta σ H fun x H1=>∃ a dx fs,x=.ref a/\H1 a=some (.ins C dx fs)/\fs.lookup m=none /\
 t σ H1 fun vs H2=>sp (x :: (vs ++ dvs)) H2 Q E
noncomputable def IN (C:Addr) (sp:Sp) (dvs:List V) (E:XK) (t:TA):TE:=fun σ H Q=>t σ H fun vs H1=>∀ x dx,H1 x=none->H1 dx=none->dx ≠ x ->
 sp (.ref x :: (vs ++ dvs)) (upd (upd H1 dx (.own x)) x (.ins C dx [])) (fun v H2=>v=.non/\Q (.ref x) H2) E
noncomputable def Ub (K:W.Frag) (fd:FuncData) (ps:List Str) (ds:List Value):Prop:=
 ∀ (s:Shared) (us:List Value),K.In s.heap->(us ++ ds).length=ps.length->BindsTo s fd ⟨us,[]⟩ (ps.zip (us ++ ds))
theorem Ub.all {K:W.Frag} {fd:FuncData} {ps:List Str} (h:∀ us:List Value,us.length=ps.length->bindArgs fd ⟨us,[]⟩=pure (ps.zip us)):Ub K fd ps []:=fun s us _ hl=>by
 rw [append_nil] at hl ⊢;exact .of_eq (h us hl)
noncomputable def Sl (CX:CXT) (X:Cx) (E:XK):Prop:=∀ (pins:List (Addr × Obj)) (σ:St) (H:Hp) (s:Shared) (e:Value) (s':Shared),Inv X pins σ H s->CX X.stack H s E e s'->X.xe e s'
section
variable {X:Cx} {CX:CXT} {k:Nat} {f C:Addr} {fd:FuncData} {ps:List Str} {sp:Sp} {dvs:List V} {ds:List Value} {E:XK} {x m:Str} {p pos apos:Pos} {e o:Expr} {es:List Expr} {ta:TE} {t:TA}
theorem Pw {pins:List (Addr × Obj)} {σ:St} {H:Hp} {s:Shared} {Q:VK} {us:List Value} {vs:List V} (F:Gb X.prog X.w X.K X.mg X.base CX k f fd ps sp) (hr:kj k X.A) (hb:Ub X.K fd ps ds) (hd:Kd dvs ds) (hx:Sl CX X E)
  (I:Inv X pins σ H s) (r:Kd vs us) (h:sp (vs ++ dvs) H Q E):wpAny (model X.prog X.w) X.A (call (.ref f) us) (EP X pins σ Q) X.xe s:=by
 have r2:Kd (vs ++ dvs) (us ++ ds):=r.append hd;have hl:(us ++ ds).length=ps.length:=by rw [<- r2.length];exact F.len _ _ _ _ h
 refine wpAny_call (codeAny_mono (F.run X.A X.stack s H ⟨us,[]⟩ (us ++ ds) (vs ++ dvs) Q E hr I.env0 (hb s us I.kIn hl) r2 h) fun r s' hq=>?_);cases r with
 | error e=>exact hx pins σ H s e s' I hq
 | ok fl=>
  cases fl with
  | ret u=>exact I.after hq
  | next=>exact False.elim hq
  | brk=>exact False.elim hq
  | cont=>exact False.elim hq
theorem Bb (F:Gb X.prog X.w X.K X.mg X.base CX k f fd ps sp) (hr:kj k X.A) (hg:Gl X x) (hm:X.mg x=some (.ref f)) (hk:PySem.W.keepIn X.K (.ref f)=true) (hb:Ub X.K fd ps ds) (hd:Kd dvs ds) (hx:Sl CX X E)
  (ha:PA X (e :: es) t) (hdb:(x == ("__debug__" : Str))=false:=by decide) (he:starEach (e :: es) X.env=(false,eval e X.env) :: starEach es X.env:=by rfl) (hpl:(backTo pos (starEach es X.env)).any (·.1)=false:=by rfl) :
  PE X (.Call (.Name x p) (e :: es) [] pos) (rL sp dvs E t):=by
 intro pins s σ H Q I h;refine wpAny_Call_Name_kw (Bk I hg hm ?_ hdb);refine PySem.W.callWith_K (h₀:=X.base) I.ok.mod.kin hk (thn (ha pos pins s σ H _ I h) fun us s1 ⟨vs,H1,I1,r,q⟩=>⟨I1.kIn,?_⟩) he hpl;exact Pw F hr hb hd hx I1 r q
theorem Xc {pl:Sem Bool} (he:PE X o ta) (c:Cls X.K C) (hm:Hu X.K C m f) (F:Gb X.prog X.w X.K X.mg X.base CX k f fd ps sp) (hr:kj k X.A) (hb:Ub X.K fd ps ds) (hd:Kd dvs ds) (hx:Sl CX X E) (ha:PA X (e :: es) t)
  (hst:starEach (e :: es) X.env=(false,eval e X.env) :: starEach es X.env:=by rfl) (hpl:(backTo pos (starEach es X.env)).any (·.1)=false:=by rfl)
  (ht:eval (.Call (.Attribute o m apos) (e :: es) [] pos) X.env=(do
   let ov <- eval o X.env
   standAt apos.atName
   let (f,first) <- holding [ov] (getMethod ov m pl)
   callWith pos f first (backTo pos (starEach (e :: es) X.env)) (backToKw pos (keywordEach [] X.env))):=by rfl) :
  PE X (.Call (.Attribute o m apos) (e :: es) [] pos) (UM C m sp dvs E ta t):=by
 intro pins s σ H Q I h;refine PySem.W.methodCall_KW (pl:=pl) (thn (he pins s σ H _ I h) fun u s1 hZ1=>?_) ht;obtain ⟨x,H1,I1,rx,a,dx,fs,ex,ea,l,q⟩:=hZ1;subst ex;obtain rfl:u=Value.ref a:=rx;refine xo I1 ea c hm l ?_;refine PySem.W.callWith_K (first:=[.ref a]) (h₀:=X.base) I.ok.mod.kin hm.kp (thn (ha pos pins s1 σ H1 _ I1 q) fun us s2 ⟨vs,H2,I2,r,q2⟩=>⟨I2.kIn,?_⟩) hst hpl;exact Pw (us:=.ref a :: us) (vs:=.ref a :: vs) F hr hb hd hx I2 (.cons rfl r) q2
theorem zd {pl:Sem Bool} (he:PE X o ta) (c:Cls X.K C) (hm:Hu X.K C m f) (F:Gb X.prog X.w X.K X.mg X.base CX k f fd ps sp) (hr:kj k X.A) (hb:Ub X.K fd ps ds) (hd:Kd dvs ds) (hx:Sl CX X E)
  (ht:eval (.Call (.Attribute o m apos) [] [] pos) X.env=(do
   let ov <- eval o X.env
   standAt apos.atName
   let (f,first) <- holding [ov] (getMethod ov m pl)
   callWith pos f first (backTo pos (starEach [] X.env)) (backToKw pos (keywordEach [] X.env))):=by rfl) :
  PE X (.Call (.Attribute o m apos) [] [] pos) (UM C m sp dvs E ta UP):=by
 intro pins s σ H Q I h;refine PySem.W.methodCall_KW (pl:=pl) (thn (he pins s σ H _ I h) fun u s1 hZ1=>?_) ht;obtain ⟨x,H1,I1,rx,a,dx,fs,ex,ea,l,q⟩:=hZ1;subst ex;obtain rfl:u=Value.ref a:=rx;refine xo I1 ea c hm l ?_;exact PySem.W.callWith_K0 (first:=[.ref a]) I1.kIn hm.kp (Pw (us:=[.ref a]) (vs:=[.ref a]) F hr hb hd hx I1 (.cons rfl .nil) q)
structure Mk (K:W.Frag) (C f:Addr):Prop where
 makes:PySem.W.makesIn K C=true
 init:PySem.W.findIn K (.ref C) "__init__"=some (some (.ref f))
 fn:PySem.W.isFn K (.ref f)=true
 kp:PySem.W.keepIn K (.ref C)=true
theorem QH {pins:List (Addr × Obj)} {σ:St} {H:Hp} {s:Shared} {Q:VK} {us:List Value} {vs:List V} (M:Mk X.K C f) (F:Gb X.prog X.w X.K X.mg X.base CX k f fd ps sp) (hr:kj (k + 1) X.A) (hb:Ub X.K fd ps ds) (hd:Kd dvs ds)
  (hx:Sl CX X E) (I:Inv X pins σ H s) (r:Kd vs us)
  (h:∀ x dx,H x=none->H dx=none->dx ≠ x->sp (.ref x :: (vs ++ dvs)) (upd (upd H dx (.own x)) x (.ins C dx [])) (fun v H2=>v=.non/\Q (.ref x) H2) E) :
  wpAny (model X.prog X.w) X.A (call (.ref C) us) (EP X pins σ Q) X.xe s:=by
 have hq:=h (s.heap.objs.size + 1) s.heap.objs.size (I.hok.fresh (Nat.le_succ _)) (I.hok.fresh (Nat.le_refl _)) (Nat.ne_of_lt (Nat.lt_succ_self _));have I2:=Inv.made (C:=C) I;have r2:Kd (V.ref (s.heap.objs.size + 1) :: (vs ++ dvs)) (Value.ref (s.heap.objs.size + 1) :: (us ++ ds)):=.cons rfl (r.append hd);have hl:(Value.ref (s.heap.objs.size + 1) :: us ++ ds).length=ps.length:=by
  have e:=r2.length;rw [F.len _ _ _ _ hq] at e;exact e.symm
 refine wpAny_call (yH (f:=f) I.kIn M.makes M.init (beq_iff_eq.mp M.fn) (codeAny_mono (F.run _ X.stack _ _ ⟨Value.ref (s.heap.objs.size + 1) :: us,[]⟩ (Value.ref (s.heap.objs.size + 1) :: (us ++ ds)) _ _ E (hr.make C us [])
  (I2.env0.make C us []) (hb _ (Value.ref (s.heap.objs.size + 1) :: us) I2.kIn hl) r2 hq) fun r s' hq'=>?_))
 cases r with
 | error e=>exact hx pins σ _ _ e s' I2 hq'
 | ok fl=>
  cases fl with
  | ret u=>
   obtain ⟨v,H',I3,rv,ev,q3⟩:=I2.after hq';subst ev;exact ⟨rv,⟨V.ref (s.heap.objs.size + 1),H',I3,rfl,q3⟩⟩
  | next=>exact False.elim hq'
  | brk=>exact False.elim hq'
  | cont=>exact False.elim hq'
theorem Ro (M:Mk X.K C f) (F:Gb X.prog X.w X.K X.mg X.base CX k f fd ps sp) (hr:kj (k + 1) X.A) (hg:Gl X x) (hm:X.mg x=some (.ref C)) (hb:Ub X.K fd ps ds) (hd:Kd dvs ds) (hx:Sl CX X E)
  (ha:PA X (e :: es) t) (hdb:(x == ("__debug__" : Str))=false:=by decide) (he:starEach (e :: es) X.env=(false,eval e X.env) :: starEach es X.env:=by rfl) (hpl:(backTo pos (starEach es X.env)).any (·.1)=false:=by rfl) :
  PE X (.Call (.Name x p) (e :: es) [] pos) (IN C sp dvs E t):=by
 intro pins s σ H Q I h;refine wpAny_Call_Name_kw (Bk I hg hm ?_ hdb);refine PySem.W.callWith_K (h₀:=X.base) I.ok.mod.kin M.kp (thn (ha pos pins s σ H _ I h) fun us s1 ⟨vs,H1,I1,r,q⟩=>⟨I1.kIn,?_⟩) he hpl;exact QH M F hr hb hd hx I1 r q
end
section
variable {X:Cx} {CX:CXT} {k:Nat} {f C:Addr} {fd:FuncData} {ps ks:List Str} {sp:Sp} {E:XK} {x m:Str} {p pos apos kpos:Pos} {e o:Expr} {es:List Expr} {kws:List Keyword} {te ta:TE} {t tk:TA} {nm:Option Str}
structure VQ (K:W.Frag) (fd:FuncData) (ps ks:List Str) (g:List Value->List Value->List Value) (gV:List V->List V->List V):Prop where
 to:∀ (s:Shared) (us ws:List Value),K.In s.heap->(g us ws).length=ps.length->BindsTo s fd ⟨us,ks.zip ws⟩ (ps.zip (g us ws))
 rel:∀ {vs:List V} {us:List Value} {zs:List V} {ws:List Value},Kd vs us->Kd zs ws->Kd (gV vs zs) (g us ws)
variable {g:List Value->List Value->List Value} {gV:List V->List V->List V}
end
structure Ab (N P:List Str) (sc:Scope):Prop where
 kind:sc.kind=.function
 co:sc.isCoroutine=false
 gen:sc.isGenerator=false
 nd:N.Nodup
 pre:N.take P.length=P
 par:∀ x ∈ P,sc.names.lookup x=some .local\/sc.names.lookup x=some .cell
 nofree:∀ y ∈ sc.names,y.2 ≠ .free
theorem Ax {kindOf:Str->Option NameKind} {x:Str}:∀ {binds:List (Str × Value)} {m:Str->Option Value},(∀ v,(x,v) ∉ binds)->bindL kindOf binds m x=m x
 | [],_,_=>rfl
 | (n,v) :: r,m,h=>by
  unfold bindL;rw [Ax fun w hw=>h w (mem_cons_of_mem _ hw)];split
  ·have:x ≠ n:=by rintro rfl;exact h v mem_cons_self
   simp [this]
  ·rfl
theorem my {kindOf:Str->Option NameKind} {x:Str}:∀ {binds:List (Str × Value)} {m:Str->Option Value},(∀ v,(x,v) ∉ binds)->bindC kindOf binds m x=m x
 | [],_,_=>rfl
 | (n,v) :: r,m,h=>by
  unfold bindC;rw [my fun w hw=>h w (mem_cons_of_mem _ hw)];split
  ·rfl
  ·have:x ≠ n:=by rintro rfl;exact h v mem_cons_self
   simp [this]
theorem Hw {kindOf:Str->Option NameKind} {x:Str} {v:Value}:∀ {P:List Str} {vs:List Value} {i:Nat} {m:Str->Option Value},P.Nodup->P[i]? = some x->vs[i]? = some v->kindOf x=some .local ->
  bindL kindOf (P.zip vs) m x=some v
 | [],_,_,_,_,h,_,_=>by simp at h
 | _ :: _,[],_,_,_,_,h,_=>by simp at h
 | p :: P,w :: vs,0,m,nd,h1,h2,hk=>by
  simp at h1 h2;subst h1;subst h2;show bindL kindOf ((p,w) :: P.zip vs) m p=_;unfold bindL;rw [Ax fun v hv=>(List.nodup_cons.mp nd).1 (List.of_mem_zip hv).1,if_pos hk];simp
 | p :: P,w :: vs,i + 1,m,nd,h1,h2,hk=>by
  show bindL kindOf ((p,w) :: P.zip vs) m x=_;unfold bindL;exact Hw (i:=i) (List.nodup_cons.mp nd).2 (by simpa using h1) (by simpa using h2) hk
theorem px {kindOf:Str->Option NameKind} {x:Str} {v:Value}:∀ {P:List Str} {vs:List Value} {i:Nat} {m:Str->Option Value},P.Nodup->P[i]? = some x->vs[i]? = some v->kindOf x ≠ some .local ->
  bindC kindOf (P.zip vs) m x=some v
 | [],_,_,_,_,h,_,_=>by simp at h
 | _ :: _,[],_,_,_,_,h,_=>by simp at h
 | p :: P,w :: vs,0,m,nd,h1,h2,hk=>by
  simp at h1 h2;subst h1;subst h2;show bindC kindOf ((p,w) :: P.zip vs) m p=_;unfold bindC;rw [my fun v hv=>(List.nodup_cons.mp nd).1 (List.of_mem_zip hv).1,if_neg hk];simp
 | p :: P,w :: vs,i + 1,m,nd,h1,h2,hk=>by
  show bindC kindOf ((p,w) :: P.zip vs) m x=_;unfold bindC;exact px (i:=i) (List.nodup_cons.mp nd).2 (by simpa using h1) (by simpa using h2) hk
noncomputable def start (N:List Str) (vs:List V):St:=vs.map some ++ List.replicate (N.length - vs.length) none
noncomputable def MD (CX:CXT) (P:Program) (w:World) (K:W.Frag) (mg:Str->Option Value) (base:Heap) (N:List Str) (qual:Str) (scope:Scope) (f:Addr) (cd:Value) (A:Around) (outer:List Env) (s:Shared) (H:Hp) (E:XK):Cx where
 prog:=P
 w:=w
 K:=K
 mg:=mg
 base:=base
 A:=A.deeper (envOfC qual scope s.heap.objs.size f cd)
 N:=N
 s₀:=s
 H₀:=H
 env:=envOfC qual scope s.heap.objs.size f cd
 outer:=outer
 stack:=envOfC qual scope s.heap.objs.size f cd :: outer
 ex:=[]
 calm:=true
 fn:=fun _=>true
 pn:=[]
 xe:=fun e s'=>wpAny (model P w) (A.deeper (envOfC qual scope s.heap.objs.size f cd)) (leaving (envOfC qual scope s.heap.objs.size f cd) e) (fun _ s''=>CX outer H s E e s'') (fun e' s''=>CX outer H s E e' s'') s'
theorem qB {sc:Scope} {n:Nat} {x:Str} (h:sc.names.lookup x=some .cell):∃ c,(cellsFrom n sc.names []).lookup x=some c:=by
 have q:=PySem.W.cellsFrom_some sc.names n [] (.inl h);exact Option.isSome_iff_exists.mp q
theorem ZE {CX:CXT} {P:Program} {w:World} {K:W.Frag} {mg:Str->Option Value} {base:Heap} {N ps:List Str} {qual:Str} {scope:Scope} {f:Addr} {cd:Value} {A:Around} {outer:List Env} {s s1:Shared} {H:Hp} {E:XK} {us:List Value} {vs:List V}
  (S:Ab N ps scope) (hd:A.handled=none) (e0:iF P w K mg base A outer s H) (hl:vs.length=ps.length) (r:Kd vs us)
  (x:InCallC s s.heap.objs.size (bindL (envOfC qual scope s.heap.objs.size f cd).kindOf (ps.zip us) fun _=>none) (cellsFrom (s.heap.objs.size + 1) scope.names []) (bindC (envOfC qual scope s.heap.objs.size f cd).kindOf (ps.zip us) fun _=>none) s1) :
  Inv (MD CX P w K mg base N qual scope f cd A outer s H E) [] (start N vs) H s1:=by
 have hpl:ps.length <= N.length:=by have:=congrArg List.length S.pre;rw [length_take] at this;omega
 obtain ⟨h1,tk,rfl,hk⟩:=x.done;have noA:∀ b:Addr,b ∉ (MD CX P w K mg base N qual scope f cd A outer s H E).ex:=fun b z=>absurd (show b ∈ ([]:List Addr) from z) (by simp)
 refine ⟨⟨e0.mod,S.kind,rfl,rfl,Nat.le_refl _,fun y z c h1 h2=>?_,fun y hy=>?_,fun y c _ h=>?_,fun _=>hd,Around.frames_deeper e0.frames,.inr ⟨rfl,rfl⟩,fun b z=>absurd z (noA b),e0.bs,e0.bsz,fun b _ _=>noA b,fun b z=>absurd z (noA b),e0.funs,e0.frf⟩,
  rfl,e0.bare,Un.kept hk,⟨_,x.toInCall.ns,fun i y v h1 h2 h3=>?_⟩,fun y c h=>⟨_,x.cell y c h⟩,e0.hok.fresh (Nat.le_refl _),fun y c h=>?_,fun p hp=>absurd (show p ∈ ([]:List (Addr × Obj)) from hp) (by simp),e0.hok.kept hk,?_⟩
 ·exact name_of_addr x.apart (PySem.mem_of_lookup h1) (PySem.mem_of_lookup h2)
 ·have hy:scope.names.lookup y=some .cell\/scope.names.lookup y=some .free:=hy;rcases hy with hy | hy
  ·exact qB hy
  ·exact absurd rfl (S.nofree _ (PySem.mem_of_lookup hy))
 ·exact Nat.le_of_lt (x.above y c (PySem.mem_of_lookup h))
 ·have hi:i < vs.length:=by
   unfold start at h2;by_cases hi:i < vs.length
   ·exact hi
   ·rw [getElem?_append_right (by simpa using hi)] at h2;rw [List.getElem?_replicate] at h2;split at h2 <;> cases h2
  have ha:vs[i]? = some v:=by
   unfold start at h2;rw [getElem?_append_left (by simpa using hi),getElem?_map] at h2;cases e:vs[i]? with
   | none=>rw [e] at h2;cases h2
   | some a=>rw [e] at h2;cases h2;rfl
  obtain ⟨u,hu,rv⟩:=r.get ha;have hp:ps[i]? = some y:=by
   rw [<- S.pre,List.getElem?_take_of_lt (by omega)];exact h1
  have ndP:ps.Nodup:=by rw [<- S.pre];exact S.nd.sublist (List.take_sublist _ _)
  refine ⟨u,rv,?_⟩;rcases S.par y (mem_of_getElem? hp) with k | k
  ·exact .inl ⟨k,Hw ndP hp hu k⟩
  ·obtain ⟨c,e⟩:=qB (n:=s.heap.objs.size + 1) k;refine .inr ⟨.inl k,c,e,?_⟩;have q:=x.cell y c e;rw [px ndP hp hu (by show scope.names.lookup y ≠ _;rw [k];decide)] at q;exact q
 ·exact e0.hok.fresh (Nat.le_of_lt (x.above y c (PySem.mem_of_lookup h)))
 ·unfold start;show _=N.length;rw [length_append,length_map,length_replicate];omega
theorem GO {CX:CXT} {P:Program} {w:World} {K:W.Frag} {mg:Str->Option Value} {base:Heap} {k:Nat} {f:Addr} {name qual:Str} {params:Arguments} {body:List Stmt} {scope:Scope} {dV kV doc pm cdv ct oc:Value} {an od:Option Addr}
  {osl:Array (Option Value)} {N ps:List Str} {sp:Sp} (lk:K.lookup f=some ⟨oc,od,.func (PySem.W.fnOf name qual params body scope dV kV doc pm an cdv ct),osl⟩) (hcd:PySem.W.codeIn K cdv qual=true) (S:Ab N ps scope)
  (len:∀ vs H Q E,sp vs H Q E->vs.length=ps.length)
  (hbody:∀ (A:Around) (outer:List Env) (s:Shared) (H:Hp) (vs:List V) (Q:VK) (E:XK),kj k (A.deeper (envOfC qual scope s.heap.objs.size f cdv))->sp vs H Q E ->
   ∃ t,PSs (MD CX P w K mg base N qual scope f cdv A outer s H E) body t/\t { nx:=fun _ H'=>Q .non H',rt:=Q } (start N vs) H) :
  Gb P w K mg base CX (k + 1) f (PySem.W.fnOf name qual params body scope dV kV doc pm an cdv ct) ps sp:=by
 refine ⟨len,fun A outer s H args us vs Q E hr e0 hb r hsp=>?_⟩;have hl:=len _ _ _ _ hsp;have KX:K.In s.heap:=e0.mod.kin.keeps fun b o e=>(e0.bs b o e).1
 have lim:s.heap.NoLimit:=e0.mod.nolimit.keeps fun b o e=>(e0.bs b o e).1
 have hkind:∀ y ∈ ps.zip us,scope.names.lookup y.1=some .local\/(scope.names.lookup y.1=some .cell/\((cellsFrom (s.heap.objs.size + 1) scope.names []).lookup y.1).isSome=true):=fun ⟨n,v⟩ hy=>by
  rcases S.par n (List.of_mem_zip hy).1 with q | q
  ·exact .inl q
  ·exact .inr ⟨q,PySem.W.cellsFrom_some _ _ _ (.inl q)⟩
 refine codeAny_call_function hr.depth (KX _ _ lk) rfl S.co S.gen rfl (PySem.W.codeRec_of KX hcd) (hb _ _ _ _ ?_);refine wpAny_newFunctionEnv_cells S.kind hkind fun env he s1 x=>?_
 subst he;refine ⟨lim.keeps x.toInCall.keep,codeAny_func ?_⟩;obtain ⟨t,ht,hq⟩:=hbody A outer s H vs Q E (hr.deeper _) hsp;have I:Inv (MD CX P w K mg base N qual scope f cdv A outer s H E) [] (start N vs) H s1:=ZE S hr.hd e0 hl r x;refine wpAny_mono (ht [] s1 (start N vs) H _ I hq) (fun fl s' hs=>?_) fun e s' hs=>hs
 have fin:∀ {σ':St} {H':Hp} {v:V} {u:Value},Inv (MD CX P w K mg base N qual scope f cdv A outer s H E) [] σ' H' s'->ae v u->Q v H'->CE outer P w H s Q u s':=
  fun {σ' H' v u} J rv q=>⟨v,H',J.os,J.bare,J.base,J.hok,rv,q⟩
 cases fl with
 | ret u=>
  obtain ⟨v,σ',H',J,rv,q⟩:=hs;exact fin J rv q
 | next=>
  obtain ⟨σ',H',J,q⟩:=hs;exact fin (v:=V.non) (u:=Value.none) J rfl q
 | brk=>
  obtain ⟨_,_,_,q⟩:=hs;exact False.elim q
 | cont=>
  obtain ⟨_,_,_,q⟩:=hs;exact False.elim q
end L2
namespace L2
open PySem PySem.Spec PyProof.Rows
section
variable {X:Cx} {x:Str} {p pos:Pos} {e:Expr} {es:List Expr} {t:TA} {id T:String} {r:List V->Hp->VK->Prop}
noncomputable def tCB (r:List V->Hp->VK->Prop) (t:TA):TE:=fun σ H Q=>t σ H fun vs H1=>r vs H1 Q
theorem Ed (hc:ml X (.builtin id) r) (hg:Gl X x) (hm:X.mg x=none) (hv:bootBuiltins x=some (.builtin id)) (ha:PA X (e :: es) t) (hn:x ≠ "__name__" := by decide) (hdb:(x == ("__debug__" : Str))=false:=by decide)
  (he:starEach (e :: es) X.env=(false,eval e X.env) :: starEach es X.env:=by rfl) (hpl:(backTo pos (starEach es X.env)).any (·.1)=false:=by rfl):PE X (.Call (.Name x p) (e :: es) [] pos) (tCB r t):=by
 intro pins s σ H Q I h;refine wpAny_Call_Name_kw (bo I hg hm hv ?_ hn hdb);exact PyProof.Rows.callWith_builtin1 (thn (ha pos pins s σ H _ I h) fun us s1 ⟨vs,H1,I1,r1,q1⟩=>hc pins s1 σ H1 vs us Q I1 r1 q1) he hpl
theorem gf (hc:ml X (.type T) r) (hg:Gl X x) (hm:X.mg x=none) (hv:bootBuiltins x=some (.type T)) (ha:PA X (e :: es) t) (hn:x ≠ "__name__" := by decide) (hdb:(x == ("__debug__" : Str))=false:=by decide)
  (he:starEach (e :: es) X.env=(false,eval e X.env) :: starEach es X.env:=by rfl) (hpl:(backTo pos (starEach es X.env)).any (·.1)=false:=by rfl):PE X (.Call (.Name x p) (e :: es) [] pos) (tCB r t):=by
 intro pins s σ H Q I h;refine wpAny_Call_Name_kw (bo I hg hm hv ?_ hn hdb);exact PyProof.Rows.callWith_type1 (thn (ha pos pins s σ H _ I h) fun us s1 ⟨vs,H1,I1,r1,q1⟩=>hc pins s1 σ H1 vs us Q I1 r1 q1) he hpl
end
end L2
namespace HT
open PySem PyProof.Rows
section
open PySem.SeqAt
open PySem.AutoSeq1 (wpAny_loadPart')
open PySem.MeetsSeq PySem.MeetsSeq2 PySem.MeetsSeq3
end
section
variable {prog:Program} {w:World} {A:Around} {E:Value->Shared->Prop} {s:Shared}
theorem cat_tup {t b:Addr} {vs ws:List Value} {Q:Value->Shared->Prop} (ht:IsTup s.heap t vs.toArray) (hb:IsTup s.heap b ws.toArray) (hv:vs ≠ [])
  (h1:ws=[]->Q (.ref t) s) (h2:ws ≠ []->Q (.ref s.heap.objs.size) { s with heap:=s.heap.push { cls:=.type "tuple",data:=.seq (vs ++ ws).toArray } })
  (hsz:vs.length + ws.length <= sizeLine):wpAny (model prog w) A (binaryOp .Add (.ref t) (.ref b)) Q E s:=by
 obtain ⟨⟨cls,dd,data,sl⟩,ho,hc,n,hd⟩:=id ht;obtain ⟨⟨cls2,dd2,data2,sl2⟩,ho2,hc2,n2,hd2⟩:=id hb;simp only at hc hd hc2 hd2;subst hc hd hc2 hd2;have e:vs.toArray ++ ws.toArray=(vs ++ ws).toArray:=by simp
 by_cases hw:ws=[]
 ·exact concat_meets ⟨_,ho,rfl⟩ ⟨_,ho2,rfl⟩ noFill_tuple_add seq_tuple_add PySem.F.slot_tuple_add PySem.F.entry_tuple_add (PySem.F.args_tuple_add_2 _ _)
   (tuple_addW1 t b vs.toArray ws.toArray n n2 dd dd2 sl sl2 (by simpa using hv) (by simp [hw])) ⟨ho,ho2,h1 hw⟩
 ·refine concat_meets ⟨_,ho,rfl⟩ ⟨_,ho2,rfl⟩ noFill_tuple_add seq_tuple_add PySem.F.slot_tuple_add PySem.F.entry_tuple_add (PySem.F.args_tuple_add_2 _ _)
   (tuple_addW2 t b vs.toArray ws.toArray n n2 dd dd2 sl sl2 (by simpa using hv) (by simpa using hw) (by rw [size_toArray,size_toArray];exact hsz)) ⟨ho,ho2,?_⟩
  rw [e];exact h2 hw
noncomputable def sIx (n d:Nat):Option Int->Nat
 | none=>d
 | some v=>if v < 0 then (v + (n:Int)).toNat else min v.toNat n
theorem pN (n d:Nat) (hd:d <= n) (o:Option Int):sIx n d o <= n:=by
 cases o with
 | none=>exact hd
 | some v=>
  show (if v < 0 then (v + (n:Int)).toNat else min v.toNat n) <= n;by_cases hv:v < 0
  ·rw [if_pos hv];omega
  ·rw [if_neg hv];exact Nat.min_le_right _ _
theorem ZD (v:Int) (n d:Nat):(if v < 0 then max (v + (n:Int)) 0 else min v (n:Int))=((sIx n d (some v):Nat):Int):=by
 show (if v < 0 then max (v + (n:Int)) 0 else min v (n:Int))=(((if v < 0 then (v + (n:Int)).toNat else min v.toNat n):Nat):Int);by_cases hv:v < 0
 ·simp only [if_pos hv];omega
 ·simp only [if_neg hv];omega
theorem VB (lo hi:Option Int) (n:Nat):Builtin.Slice.sliceAdjust lo hi 1 (n:Int)=(((sIx n 0 lo:Nat):Int),((sIx n n hi:Nat):Int)):=by
 have h1:¬ ((1:Int) < 0):=by omega
 unfold Builtin.Slice.sliceAdjust;simp only [h1,if_false];refine Prod.ext ?_ ?_
 ·cases lo with
  | none=>rfl
  | some v=>exact ZD v n 0
 ·cases hi with
  | none=>rfl
  | some v=>exact ZD v n n
theorem RC (i j:Nat):Builtin.Slice.slicePlaces (i:Int) (j:Int) 1=j - i:=by
 unfold Builtin.Slice.slicePlaces;have h1:(1:Int) > 0:=by omega
 simp only [h1,if_true,Int.ediv_one];split <;> omega
theorem Xu {v:Value} {o:Option Int} {Q:Option Int->Shared->Prop} (p:IsPart v o) (h:Q o s):wpAny (model prog w) A (Builtin.Slice.slicePartIndex v) Q E s:=by
 cases p with
 | none=>exact slicePart_none h
 | int i t=>exact slicePart_int h
theorem Qp {sl:Addr} {vl vu:Value} {lo hi:Option Int} {n:Nat} {Q:Int × Int × Nat->Shared->Prop} (hs:s.heap.IsSliceOf sl vl vu .none) (pl:IsPart vl lo) (pu:IsPart vu hi)
  (h:Q (((sIx n 0 lo:Nat):Int),1,sIx n n hi - sIx n 0 lo) s):wpAny (model prog w) A (Builtin.Slice.sliceApplied (.ref sl) (pure (n:Int))) Q E s:=by
 obtain ⟨os,hos,hcs,hds⟩:=id hs;unfold Builtin.Slice.sliceApplied Builtin.Slice.sliceFields;refine wpAny_bind (wpAny_bind (wpAny_field hos hds (x:=vl) rfl (wpAny_bind (wpAny_field hos hds (x:=vu) rfl (wpAny_bind (wpAny_field hos hds (x:=.none) rfl (wpAny_pure ?_)))))));refine wpAny_bind (slicePart_none ?_);show wpAny _ _ (if ((1:Int) == 0)=true then _ else _) _ _ s;rw [if_neg (by decide)];refine wpAny_bind (Xu pl (wpAny_bind (Xu pu (wpAny_bind (wpAny_pure ?_)))));show wpAny _ _ (match Builtin.Slice.sliceAdjust lo hi 1 (n:Int) with | (lo,hi)=>pure (lo,(1:Int),Builtin.Slice.slicePlaces lo hi 1)) _ _ s;rw [VB lo hi n];show wpAny _ _ (pure (((sIx n 0 lo:Nat):Int),(1:Int),Builtin.Slice.slicePlaces ((sIx n 0 lo:Nat):Int) ((sIx n n hi:Nat):Int) 1)) _ _ s;rw [RC];exact wpAny_pure h
theorem WH (xs:Array Value) (i k:Nat):((List.range k).filterMap fun (m:Nat)=>xs[((i:Int) + (m:Int) * 1).toNat]?).toArray=((xs.toList.drop i).take k).toArray:=by
 have e:(fun (m:Nat)=>xs[((i:Int) + (m:Int) * 1).toNat]?)=fun m=>xs[i + m]?:=by
  funext m;have:((i:Int) + (m:Int) * 1).toNat=i + m:=by omega
  rw [this]
 rw [e];have:=pick_run xs i k;rw [List.filterMap_map] at this;have e2:((fun x=>xs[x]?) ∘ fun x=>i + x)=fun m=>xs[i + m]?:=rfl
 rw [e2] at this;rw [this]
theorem getItem_tuple_cut {t sl:Addr} {items:Array Value} {vl vu:Value} {lo hi:Option Int} {Q:Value->Shared->Prop} (ht:IsTup s.heap t items) (hs:s.heap.IsSliceOf sl vl vu .none) (pl:IsPart vl lo) (pu:IsPart vu hi)
  (hw:¬ (sIx items.size 0 lo=0/\sIx items.size items.size hi=items.size))
  (h:Q (.ref s.heap.objs.size) { s with heap:=s.heap.push { cls:=.type "tuple",data:=.seq ((items.toList.drop (sIx items.size 0 lo)).take (sIx items.size items.size hi - sIx items.size 0 lo)).toArray } })
  (hsz:items.size <= sizeLine):wpAny (model prog w) A (getItem (.ref t) (.ref sl)) Q E s:=by
 have htake:sizeOk (.seq ((items.toList.drop (sIx items.size 0 lo)).take (sIx items.size items.size hi - sIx items.size 0 lo)).toArray):=by
  show ((items.toList.drop (sIx items.size 0 lo)).take (sIx items.size items.size hi - sIx items.size 0 lo)).toArray.size <= sizeLine;rw [size_toArray,length_take,List.length_drop,Array.length_toList];omega
 have hj:sIx items.size items.size hi <= items.size:=pN _ _ (Nat.le_refl _) hi;obtain ⟨os,hos,hcs,hds⟩:=id hs;have hTs:s.TypeIs (.ref sl) "slice" := ⟨os,hos,hcs⟩;unfold getItem
 try with_reducible refine wpAny_holding ?_
 first | refine wpAny_bind (wpAny_pure ?_) | skip
 refine wpAny_bind (wpAny_sequenceKey ht.typeIs (by decide) ?_);refine wpAny_bind (wpAny_callSpecial?_slot (name:=Str.ofString "__getitem__") ht.typeIs PyProof.Rows.slot_tuple_getitem
  (wpAny_call_entry PyProof.Rows.slot_tuple_getitem ht.typeIs entry_tuple_getitem ?_ (args_tuple_getitem _ _)))
 show wpAny _ _ (Builtin.Tuple.tupleItemsOf (.ref t) >>= _) _ _ s;refine wpAny_bind (tupleItemsOf_ ht ?_);refine wpAny_bind (wpAny_typeOf hTs ?_);rw [if_pos (by decide)];refine wpAny_bind (Qp hs pl pu ?_);have hno:¬ ((((sIx items.size 0 lo:Nat):Int) == 0 && (1:Int) == 1 && (sIx items.size items.size hi - sIx items.size 0 lo) == items.size)=true):=by
  intro q;rw [Bool.and_eq_true,Bool.and_eq_true] at q;have q1:((sIx items.size 0 lo:Nat):Int)=0:=eq_of_beq q.1.1;have q2:sIx items.size items.size hi - sIx items.size 0 lo=items.size:=eq_of_beq q.2;exact hw ⟨by omega,by omega⟩
 show wpAny _ _ (if (((sIx items.size 0 lo:Nat):Int) == 0 && (1:Int) == 1 && (sIx items.size items.size hi - sIx items.size 0 lo) == items.size)=true then _ else _) _ _ s;rw [if_neg hno,WH]
 first
  | exact wpAny_bind (m:=Builtin.Tuple.tupleExact _) (wpAny_newObj_type (wpAny_pure ⟨_,rfl,wpAny_pure h⟩) htake)
  | exact wpAny_bind (m:=Builtin.Tuple.tupleExact _) (wpAny_newObj_type (wpAny_bind (wpAny_pure (wpAny_pure ⟨_,rfl,wpAny_pure h⟩))) htake)
  | exact wpAny_bind (wpAny_bind (m:=Builtin.Tuple.tupleExact _) (wpAny_newObj_type (wpAny_pure (wpAny_pure ⟨_,rfl,wpAny_pure h⟩)) htake))
  | exact wpAny_bind (wpAny_bind (m:=Builtin.Tuple.tupleExact _) (wpAny_newObj_type (wpAny_pure ⟨_,rfl,wpAny_pure h⟩) htake))
end
end HT
namespace L2
open PySem PySem.Spec PyProof.Rows
noncomputable abbrev TO:=St->Hp->(Option Int->Hp->Prop)->Prop
noncomputable def PO (X:Cx) (e:Option Expr) (t:TO):Prop:=
 ∀ (pins:List (Addr × Obj)) (s:Shared) (σ:St) (H:Hp) (Q:Option Int->Hp->Prop),Inv X pins σ H s->t σ H Q ->
  wpAny (model X.prog X.w) X.A (evalPart e X.env) (fun u s'=>∃ o H',Inv X pins σ H' s'/\IsPart u o/\Q o H') X.xe s
noncomputable def ED:TO:=fun _ H Q=>Q none H
noncomputable def CO (t:TE):TO:=fun σ H Q=>t σ H fun x H1=>∃ i,x=.int i/\Q (some i) H1
section
variable {X:Cx} {e:Expr} {te:TE} {lo hi:Option Expr} {tl th:TO} {pos p2:Pos}
theorem Jr:PO X none ED:=by
 intro pins s σ H Q I h;rw [evalPart_none];exact wpAny_pure ⟨none,H,I,.none,h⟩
theorem Lq (h:PE X e te):PO X (some e) (CO te):=by
 intro pins s σ H Q I hw;rw [evalPart_some];refine thn (h pins s σ H _ I hw) fun u s1 hZ1=>?_
 obtain ⟨x,H1,I1,r1,q1⟩:=hZ1;obtain ⟨i,rfl,q⟩:=q1;obtain ⟨t,rfl⟩:=r1;exact ⟨some i,H1,I1,.int i t,q⟩
noncomputable def SlR (X:Cx) (r:V->Option Int->Option Int->Hp->VK->Prop):Prop:=
 ∀ (pins:List (Addr × Obj)) (s:Shared) (σ:St) (H:Hp) (x:V) (v vl vu:Value) (lo hi:Option Int) (sl:Addr) (Q:VK),Inv X pins σ H s->ae x v->s.heap.IsSliceOf sl vl vu .none->IsPart vl lo->IsPart vu hi->r x lo hi H Q ->
  ∃ T id,typeLookup (.type T) "__getitem__"=pure (some (.builtin id))/\s.TypeIs v T/\wpAny (model X.prog X.w) X.A (getItem v (.ref sl)) (EP X pins σ Q) X.xe s
theorem SlR.or {r r':V->Option Int->Option Int->Hp->VK->Prop} (h:SlR X r) (h':SlR X r'):SlR X (fun x lo hi H Q=>r x lo hi H Q\/r' x lo hi H Q):=by
 intro pins s σ H x v vl vu lo hi sl Q I rx hs pl pu q;rcases q with q | q
 ·exact h pins s σ H x v vl vu lo hi sl Q I rx hs pl pu q
 ·exact h' pins s σ H x v vl vu lo hi sl Q I rx hs pl pu q
noncomputable def tSl (r:V->Option Int->Option Int->Hp->VK->Prop) (te:TE) (tl th:TO):TE:=fun σ H Q=>te σ H fun x H1=>tl σ H1 fun l H2=>th σ H2 fun u H3=>r x l u H3 Q
theorem jn {r:V->Option Int->Option Int->Hp->VK->Prop} (hr:SlR X r) (he:PE X e te) (hl:PO X lo tl) (hu:PO X hi th):PE X (.Subscript e (.Slice lo hi none p2) pos) (tSl r te tl th):=by
 intro pins s σ H Q I h;refine Subscript_ (thn (he pins s σ H _ I h) fun v s1 hZ1=>?_);obtain ⟨x,H1,I1,r1,q1⟩:=hZ1;refine wpAny_Slice (thn (hl pins s1 σ H1 _ I1 q1) fun vl s2 ⟨l,H2,I2,pl,q2⟩=>thn (hu pins s2 σ H2 _ I2 q2) fun vu s3 hZ1=>?_);obtain ⟨u,H3,I3,pu,q3⟩:=hZ1;rw [evalPart_none];refine wpAny_pure ?_;have I4:Inv X pins σ H3 { s3 with heap:=s3.heap.push { cls:=.type "slice",data:=.fields #[vl,vu,.none] } }:=I3.kept (t':=s3.toks) fun b ob q=>Heap.get?_push_of_some _ q
 obtain ⟨T,id,hT,ht,hg⟩:=hr pins { s3 with heap:=s3.heap.push { cls:=.type "slice",data:=.fields #[vl,vu,.none] } } σ H3 x v vl vu l u s3.heap.objs.size Q I4 r1 (Heap.IsSliceOf.new ..) pl pu q3;show wpAny (model X.prog X.w) X.A (subscriptTail e (.Slice lo hi none p2) v (.ref s3.heap.objs.size)) (EP X pins σ Q) X.xe { s3 with heap:=s3.heap.push { cls:=.type "slice",data:=.fields #[vl,vu,.none] } };exact tail_any (ops:=[.ref s3.heap.objs.size,v]) ht hT hg (by with_unfolding_all rfl)
noncomputable def JC (xs:List V) (lo hi:Option Int):List V:=(xs.drop (HT.sIx xs.length 0 lo)).take (HT.sIx xs.length xs.length hi - HT.sIx xs.length 0 lo)
theorem Mr (xs:List V) (lo hi:Option Int):(JC xs lo hi).length <= xs.length:=by
 unfold JC;rw [length_take,List.length_drop];omega
noncomputable def eR (K:W.Frag):V->Option Int->Option Int->Hp->VK->Prop:=fun x lo hi H Q=>∃ a xs,x=.ref a/\SqT K H a xs /\
 ¬ (HT.sIx xs.length 0 lo=0/\HT.sIx xs.length xs.length hi=xs.length)/\∀ p,H p=none->Q (.ref p) (upd H p (.tup (JC xs lo hi)))
theorem zP:SlR X (eR X.K):=by
 intro pins s σ H x v vl vu lo hi sl Q I rx hs pl pu h;obtain ⟨a,xs,rfl,hx,hw,q⟩:=h;cases rx;obtain ⟨its,r,ht,hz⟩:=I.tuple hx;have hlen:its.toArray.size=xs.length:=by rw [size_toArray];exact r.length.symm
 refine ⟨"tuple",_,PyProof.Rows.slot_tuple_getitem.lookup,ht.typeIs,?_⟩;refine HT.getItem_tuple_cut ht hs pl pu (by rw [hlen];exact hw) ?_ (by rw [hlen];exact hz);rw [hlen];refine ⟨.ref s.heap.objs.size,_,I.laid (t':=s.toks) (o:=.tup (JC xs lo hi)) (fun b ob q=>Heap.get?_push_of_some _ q) (Nat.le_refl _) ?_,rfl,q _ (I.hok.fresh (Nat.le_refl _))⟩;exact ⟨Nat.le_trans (Mr xs lo hi) hz,_,(r.drop (HT.sIx xs.length 0 lo)).take (HT.sIx xs.length xs.length hi - HT.sIx xs.length 0 lo),IsTup.new _ _⟩
noncomputable def kP (K:W.Frag):R2:=fun x y H Q=>∃ a b xs ys,x=.ref a/\y=.ref b/\SqT K H a xs/\SqT K H b ys/\xs ≠ []/\xs.length + ys.length <= sizeLine /\
 (ys=[]->Q (.ref a) H)/\(ys ≠ []->∀ p,H p=none->Q (.ref p) (upd H p (.tup (xs ++ ys))))
theorem Kd.nil_iff {xs:List V} {us:List Value} (r:Kd xs us):us=[]↔xs=[]:=by
 cases r with
 | nil=>simp
 | cons _ _=>simp
theorem uE:OpR X (binaryOp .Add) (kP X.K):=by
 intro pins s σ H x y v u Q I rx ry h;obtain ⟨a,b,xs,ys,rfl,rfl,ha,hb,hx,hz,q1,q2⟩:=h;cases rx;cases ry;obtain ⟨its,r1,p1,_⟩:=I.tuple ha;obtain ⟨its2,r2,p2,_⟩:=I.tuple hb;refine HT.cat_tup p1 p2 (fun z=>hx (r1.nil_iff.mp z)) (fun z=>⟨.ref a,H,I,rfl,q1 (r2.nil_iff.mp z)⟩) (fun z=>?_) (by rw [<- r1.length,<- r2.length];exact hz);refine ⟨.ref s.heap.objs.size,_,I.laid (t':=s.toks) (o:=.tup (xs ++ ys)) (fun b ob q=>Heap.get?_push_of_some _ q) (Nat.le_refl _) ?_,rfl,q2 (fun w=>z (r2.nil_iff.mpr w)) _ (I.hok.fresh (Nat.le_refl _))⟩;exact ⟨by rw [length_append];exact hz,_,r1.append r2,IsTup.new _ _⟩
end
end L2
namespace L2
open PySem PySem.Spec PyProof.Rows
noncomputable def ixN (n:Nat) (i:Int):Option Nat:=if 0 <= i then (if i < n then some i.toNat else none) else if -(n:Int) <= i then some (i + n).toNat else none
noncomputable def atI {α:Type} (xs:List α) (i:Int):Option α:=(ixN xs.length i).bind fun j=>xs[j]?
theorem uG {n:Nat} {i:Int} {j:Nat} (h:ixN n i=some j):seqIndex? i n=some j/\j < n/\-(n:Int) <= i/\i < n:=by
 unfold ixN at h;by_cases h0:0 <= i
 ·rw [if_pos h0] at h;by_cases h1:i < n
  ·rw [if_pos h1] at h;have e:i.toNat=j:=Option.some.inj h;exact ⟨by rw [seqIndex_of h0 h1,e],by omega,by omega,h1⟩
  ·rw [if_neg h1] at h;cases h
 ·rw [if_neg h0] at h;by_cases h1:-(n:Int) <= i
  ·rw [if_pos h1] at h;have e:(i + n).toNat=j:=Option.some.inj h;exact ⟨by rw [seqIndex_neg (by omega) h1,e],by omega,h1,by omega⟩
  ·rw [if_neg h1] at h;cases h
theorem lz {α:Type} {xs:List α} {i:Int} {v:α} (h:atI xs i=some v):∃ j,seqIndex? i xs.length=some j/\xs[j]? = some v/\j < xs.length/\-(xs.length:Int) <= i/\i < xs.length:=by
 unfold atI at h;cases e:ixN xs.length i with
 | none=>rw [e] at h;cases h
 | some j=>
  rw [e] at h;obtain ⟨h1,h2,h3,h4⟩:=uG e;exact ⟨j,h1,h,h2,h3,h4⟩
theorem Bc {α:Type} {xs:List α} {j:Nat} {v:α} (h:xs[j]? = some v):atI xs (j:Int)=some v:=by
 have hj:j < xs.length:=(List.getElem?_eq_some_iff.mp h).1;have e:ixN xs.length (j:Int)=some j:=by
  unfold ixN;rw [if_pos (by omega),if_pos (by omega)];simp
 unfold atI;rw [e];exact h
noncomputable def yL (b:Expr):Prop:=∀ o i,subscripted b false o i=operate [o,i] (getItem o i)
noncomputable def IxR (X:Cx) (r:R2):Prop:=
 ∀ (value slice:Expr) (pins:List (Addr × Obj)) (s:Shared) (σ:St) (H:Hp) (x y:V) (v u:Value) (Q:VK),Inv X pins σ H s->ae x v->ae y u->r x y H Q ->
  subscripted slice false v u=operate [v,u] (getItem v u)->wpAny (model X.prog X.w) X.A (subscriptTail value slice v u) (EP X pins σ Q) X.xe s
noncomputable def MtR (X:Cx) (id:String) (r:V->List V->Hp->VK->Prop):Prop:=
 ∀ (pins:List (Addr × Obj)) (s:Shared) (σ:St) (H:Hp) (x:V) (xs:List V) (v:Value) (us:List Value) (Q:VK),Inv X pins σ H s->ae x v->Kd xs us->r x xs H Q ->
  wpAny (model X.prog X.w) X.A (call (.builtin id) (v :: us)) (EP X pins σ Q) X.xe s
section
variable {X:Cx} {a b:Expr} {ta tb:TE} {pos:Pos}
theorem IxR.or {r r':R2} (h:IxR X r) (h':IxR X r'):IxR X (fun x y H Q=>r x y H Q\/r' x y H Q):=by
 intro value slice pins s σ H x y v u Q I rx ry q hs;rcases q with q | q
 ·exact h value slice pins s σ H x y v u Q I rx ry q hs
 ·exact h' value slice pins s σ H x y v u Q I rx ry q hs
theorem MtR.or {id:String} {r r':V->List V->Hp->VK->Prop} (h:MtR X id r) (h':MtR X id r'):MtR X id (fun x xs H Q=>r x xs H Q\/r' x xs H Q):=by
 intro pins s σ H x xs v us Q I rx rs q;rcases q with q | q
 ·exact h pins s σ H x xs v us Q I rx rs q
 ·exact h' pins s σ H x xs v us Q I rx rs q
theorem yd {r:R2} (hr:IxR X r) (ha:PE X a ta) (hb:PE X b tb) (hs:yL b):PE X (.Subscript a b pos) (tOp r ta tb):=by
 intro pins s σ H Q I h;exact Subscript_ (bQ ha hb I h fun v u s2 x y H2 I2 rx ry q=>hr a b pins s2 σ H2 x y v u Q I2 rx ry q (hs _ _))
noncomputable def iR (K:W.Frag):R2:=fun x y H Q=>∃ p xs i v,x=.ref p/\y=.int i/\SqL K H p xs/\atI xs i=some v/\Q v H
noncomputable def nR (K:W.Frag):R2:=fun x y H Q=>∃ p xs i v,x=.ref p/\y=.int i/\SqT K H p xs/\atI xs i=some v/\Q v H
noncomputable def YQ:R2:=fun x y H Q=>∃ z i c,x=.str z/\y=.int i/\z.length <= sizeLine/\atI z.cps.toList i=some c/\Q (.str ⟨#[c]⟩) H
theorem Zf:IxR X (iR X.K):=by
 intro value slice pins s σ H x y v u Q I rx ry h hs;obtain ⟨p,xs,i,z,rfl,rfl,hq,he,q⟩:=h;cases rx;obtain ⟨t,rfl⟩:=ry;obtain ⟨its,r,pl,hz⟩:=I.list hq;obtain ⟨j,h1,h2,h3,h4,h5⟩:=lz he;obtain ⟨w,ew,rw'⟩:=r.get h2;have hl:=r.length;have hn:=Uq;have fin:EP X pins σ Q w s:=⟨z,H,I,rw',q⟩;by_cases h0:0 <= i
 ·have hj:i.toNat=j:=by
   rw [seqIndex_of h0 h5] at h1;exact Option.some.inj h1
  exact item_listR pl.isList h0 (by omega) (by rw [hj];simpa using ew) fin hs
 ·have hj:(i + (its.toArray.size:Int)).toNat=j:=by
   rw [seqIndex_neg (by omega) h4] at h1;rw [size_toArray,<- hl];exact Option.some.inj h1
  exact subscriptTail_builtinR (x:=w) pl.isList.typeIs slot_list_getitem.lookup
   (wpAny_getItem_list_neg (Q:=fun r s'=>r=w/\EP X pins σ Q r s') pl.isList (by omega) (by rw [size_toArray] <;> omega) (by omega) (by rw [hj];simpa using ew) ⟨rfl,fin⟩) hs
theorem Vc:IxR X (nR X.K):=by
 intro value slice pins s σ H x y v u Q I rx ry h hs;obtain ⟨p,xs,i,z,rfl,rfl,hq,he,q⟩:=h;cases rx;obtain ⟨t,rfl⟩:=ry;obtain ⟨its,r,pl,hz⟩:=I.tuple hq;obtain ⟨j,h1,h2,h3,h4,h5⟩:=lz he;obtain ⟨w,ew,rw'⟩:=r.get h2;have hl:=r.length;have hn:=Uq;have fin:EP X pins σ Q w s:=⟨z,H,I,rw',q⟩;exact subscriptTail_builtinR (x:=w) pl.typeIs slot_tuple_getitem.lookup
  (getItem_tuple (j:=j) (Q:=fun r s'=>r=w/\EP X pins σ Q r s') pl (by omega) (by omega) (by rw [size_toArray,<- hl];exact h1) (by simpa using ew) ⟨rfl,fin⟩) hs
theorem ZJ:IxR X YQ:=by
 intro value slice pins s σ H x y v u Q I rx ry h hs;obtain ⟨z,i,c,rfl,rfl,hz,he,q⟩:=h;obtain ⟨t,rfl⟩:=rx;obtain ⟨t',rfl⟩:=ry;obtain ⟨j,h1,h2,h3,h4,h5⟩:=lz he;have hl:z.cps.toList.length=z.length:=by simp [Str.length]
 rw [hl] at h1 h4 h5;have hn:=Uq;exact tail_any (typeIs_str s z t) slot_str_getitem.lookup (getItem_str (c:=c) (by
  have e1:decide (i < -(2 ^ 63:Int))=false:=decide_eq_false (by omega);have e2:decide (i ≥ 2 ^ 63)=false:=decide_eq_false (by omega);rw [e1,e2,Bool.or_false]) (by rw [h1];simpa using h2) ⟨.str ⟨#[c]⟩,H,I.tok _,⟨_,rfl⟩,q⟩) hs
theorem VC (its:List Value) (n j:Nat) (u:Value):Obj.mapSeq (·.setIfInBounds j u) { cls:=.type "list",data:=.seq its.toArray n } = { cls:=.type "list",data:=.seq (its.set j u).toArray n }:=by
 simp [Obj.mapSeq]
theorem Inv.lst {pins:List (Addr × Obj)} {σ:St} {H:Hp} {s:Shared} {p:Addr} {xs:List V} (I:Inv X pins σ H s) (h:H p=some (.lst xs)) :
  ∃ (its:List Value) (n:Nat),Kd xs its/\s.heap.get? p=some { cls:=.type "list",data:=.seq its.toArray n }/\xs.length <= sizeLine:=by
 obtain ⟨z,its,n,r,e⟩:=I.hok p _ h;exact ⟨its,n,r,e,z⟩
theorem Inv.lstUpd {pins:List (Addr × Obj)} {σ:St} {H:Hp} {s:Shared} {p:Addr} {xs ys:List V} {its its':List Value} {n n':Nat} {f:Obj->Obj} (I:Inv X pins σ H s) (h:H p=some (.lst xs))
  (ho:s.heap.get? p=some { cls:=.type "list",data:=.seq its.toArray n }) (hf:f { cls:=.type "list",data:=.seq its.toArray n } = { cls:=.type "list",data:=.seq its'.toArray n' }) (r:Kd ys its') (hz:ys.length <= sizeLine) (t:Nat) :
  Inv X pins σ (upd H p (.lst ys)) { s with heap:=s.heap.update p f,toks:=t }:=by
 have e:(s.heap.update p f).get? p=some { cls:=.type "list",data:=.seq its'.toArray n' }:=by
  rw [Heap.get?_update_self f ho (by rw [hf] <;> rfl),hf]
 refine I.write (x:=p) (e:=p) (by rw [h];trivial) (.inl rfl) (fun b u hb q=>(Heap.get?_update_other _ _ (Ne.symm hb)).trans q) ⟨_,e⟩ ?_;exact ⟨hz,its',n',r,e⟩
noncomputable def dO:V->V->V->Hp->(Hp->Prop)->Prop:=fun o i v H Q=>∃ p xs k j,o=.ref p/\i=.int k/\H p=some (.lst xs)/\ixN xs.length k=some j/\Q (upd H p (.lst (xs.set j v)))
theorem pq:sR X dO:=by
 intro pins s σ H o i v ov iv u Q I ro ri rv h;obtain ⟨p,xs,k,j,rfl,rfl,hp,hj,q⟩:=h;cases ro;obtain ⟨t,rfl⟩:=ri;obtain ⟨its,n,r,ho,hz⟩:=I.lst hp;obtain ⟨h1,h2,h3,h4⟩:=uG hj;have hl:=r.length;have hn:=Uq;have I':Inv X pins σ (upd H p (.lst (xs.set j v))) { s with heap:=s.heap.update p (Obj.mapSeq (·.setIfInBounds j u)) }:=
  I.lstUpd hp ho (VC its n j u) (r.set rv j) (by rw [List.length_set];exact hz) s.toks
 by_cases h0:0 <= k
 ·have hk:k.toNat=j:=by
   rw [seqIndex_of h0 h4] at h1;exact Option.some.inj h1
  exact PySem.W.ki_setAt ho h0 (by omega) (by rw [size_toArray,<- hl];exact h4) (by rw [hk];exact ⟨_,I',q⟩)
 ·have hk:(k + (its.toArray.size:Int)).toNat=j:=by
   rw [seqIndex_neg (by omega) h3] at h1;rw [size_toArray,<- hl];exact Option.some.inj h1
  exact PySem.W.ki_setBack ho (by omega) (by rw [size_toArray,<- hl];exact h3) (by omega) (by rw [hk];exact ⟨_,I',q⟩)
theorem Ox (lo hi:Option Int) (n:Nat):(sliceBounds lo hi none n).1=((HT.sIx n 0 lo:Nat):Int)/\(sliceBounds lo hi none n).2.1=((HT.sIx n n hi:Nat):Int)/\(sliceBounds lo hi none n).2.2=1:=by
 refine ⟨?_,?_,rfl⟩
 ·cases lo with
  | none=>simp [sliceBounds,HT.sIx]
  | some i=>
   simp only [sliceBounds,HT.sIx,Option.getD_none,show (1:Int) > 0 by decide,if_true];by_cases h:i < 0
   ·simp only [h,if_true] <;> omega
   ·simp only [h,if_false] <;> omega
 ·cases hi with
  | none=>simp [sliceBounds,HT.sIx]
  | some i=>
   simp only [sliceBounds,HT.sIx,Option.getD_none,show (1:Int) > 0 by decide,if_true];by_cases h:i < 0
   ·simp only [h,if_true] <;> omega
   ·simp only [h,if_false] <;> omega
theorem ow (its:List Value) (lo hi:Option Int):slicePick its.toArray lo hi none=((its.drop (HT.sIx its.length 0 lo)).take (HT.sIx its.length its.length hi - HT.sIx its.length 0 lo)).toArray:=by
 obtain ⟨h1,h2,h3⟩:=Ox lo hi its.toArray.size;unfold slicePick;rw [h1,h2,h3];simp only [sliceRange_one,pick_run,size_toArray] <;> rfl
noncomputable def OQ (K:W.Frag):V->Option Int->Option Int->Hp->VK->Prop:=fun x lo hi H Q=>∃ a xs,x=.ref a/\SqL K H a xs/\∀ p,H p=none->Q (.ref p) (upd H p (.lst (JC xs lo hi)))
theorem BF:SlR X (OQ X.K):=by
 intro pins s σ H x v vl vu lo hi sl Q I rx hs pl pu h;obtain ⟨a,xs,rfl,hx,q⟩:=h;cases rx;obtain ⟨its,r,ht,hz⟩:=I.list hx;have hlen:=r.length;refine ⟨"list",_,slot_list_getitem.lookup,ht.isList.typeIs,?_⟩;refine wpAny_getItem_list_slice ht.isList hs pl pu .none (by simp) ?_ (by rw [size_toArray] <;> omega);rw [ow,<- hlen];refine ⟨.ref s.heap.objs.size,_,I.laid (t':=s.toks) (o:=.lst (JC xs lo hi)) (fun b ob q=>Heap.get?_push_of_some _ q) (Nat.le_refl _) ?_,rfl,q _ (I.hok.fresh (Nat.le_refl _))⟩;exact ⟨Nat.le_trans (Mr xs lo hi) hz,_,0,(r.drop (HT.sIx xs.length 0 lo)).take (HT.sIx xs.length xs.length hi - HT.sIx xs.length 0 lo),Heap.get?_push_size _ rfl⟩
noncomputable def nk:V->Bool
 | .non=>true
 | .bl _=>true
 | .int _=>true
 | .str _=>true
 | _=>false
noncomputable def eqV:V->V->Bool
 | .non,.non=>true
 | .bl a,.bl b=>a == b
 | .bl a,.int b=>(if a then 1 else 0) == b
 | .int a,.bl b=>a == (if b then 1 else 0)
 | .int a,.int b=>a == b
 | .str a,.str b=>a == b
 | _,_=>false
theorem QJ {A:Around} {s:Shared} {y x:V} {u v:Value} (ry:ae y u) (rx:ae x v) (fy:nk y=true) (fx:nk x=true):SeqAt.EqAt A s u v (eqV y x):=by
 cases y with
 | non=>
  cases ry;cases x with
  | non=>cases rx;exact SeqAt.EqAt.same _
  | bl b=>cases rx;exact SeqAt.EqAt.none_bool b
  | int b=>obtain ⟨t,rfl⟩:=rx;exact SeqAt.EqAt.none_int b t
  | str b=>obtain ⟨t,rfl⟩:=rx;exact SeqAt.EqAt.none_str b t
  | _=>exact absurd (show false=true from fx) Bool.false_ne_true
 | bl a=>
  cases ry;cases x with
  | non=>cases rx;exact SeqAt.EqAt.bool_none a
  | bl b=>cases rx;exact SeqAt.EqAt.bool_bool a b
  | int b=>obtain ⟨t,rfl⟩:=rx;exact SeqAt.EqAt.bool_int a b t
  | str b=>obtain ⟨t,rfl⟩:=rx;exact SeqAt.EqAt.bool_str a b t
  | _=>exact absurd (show false=true from fx) Bool.false_ne_true
 | int a=>
  obtain ⟨t',rfl⟩:=ry;cases x with
  | non=>cases rx;exact SeqAt.EqAt.int_none a t'
  | bl b=>cases rx;exact SeqAt.EqAt.int_bool a t' b
  | int b=>obtain ⟨t,rfl⟩:=rx;exact SeqAt.EqAt.int_int a t' b t
  | str b=>obtain ⟨t,rfl⟩:=rx;exact SeqAt.EqAt.int_str a t' b t
  | _=>exact absurd (show false=true from fx) Bool.false_ne_true
 | str a=>
  obtain ⟨t',rfl⟩:=ry;cases x with
  | non=>cases rx;exact SeqAt.EqAt.str_none a t'
  | bl b=>cases rx;exact SeqAt.EqAt.str_bool a t' b
  | int b=>obtain ⟨t,rfl⟩:=rx;exact SeqAt.EqAt.str_int a t' b t
  | str b=>obtain ⟨t,rfl⟩:=rx;exact SeqAt.EqAt.str_str a t' b t
  | _=>exact absurd (show false=true from fx) Bool.false_ne_true
 | _=>exact absurd (show false=true from fy) Bool.false_ne_true
noncomputable def eqU (x:V) (u:Value):Bool:=match u with
 | .none=>eqV .non x
 | .bool b=>eqV (.bl b) x
 | .int i _=>eqV (.int i) x
 | .str z _=>eqV (.str z) x
 | _=>false
theorem UJ {x y:V} {u:Value} (r:ae y u) (f:nk y=true):eqU x u=eqV y x:=by
 cases y with
 | non=>cases r;rfl
 | bl b=>cases r;rfl
 | int i=>obtain ⟨t,rfl⟩:=r;rfl
 | str z=>obtain ⟨t,rfl⟩:=r;rfl
 | _=>exact absurd (show false=true from f) Bool.false_ne_true
theorem Pq {x:V}:∀ {xs:List V} {us:List Value},Kd xs us->xs.all nk=true->us.any (eqU x)=xs.any fun y=>eqV y x
 | _,_,.nil,_=>rfl
 | y :: xs,u :: us,.cons r t,f=>by
  rw [List.all_cons,Bool.and_eq_true] at f;rw [any_cons,any_cons,UJ r f.1,Pq t f.2]
theorem An {A:Around} {s:Shared} {x:V} {v:Value} (rx:ae x v) (fx:nk x=true):∀ {xs:List V} {us:List Value},Kd xs us->xs.all nk=true->∀ u ∈ us,SeqAt.EqAt A s u v (eqU x u)
 | _,_,.nil,_=>fun u hu=>by cases hu
 | y :: xs,u :: us,.cons r t,f=>fun u' hu=>by
  rw [List.all_cons,Bool.and_eq_true] at f;rcases List.mem_cons.mp hu with rfl | hu
  ·rw [UJ r f.1];exact QJ r rx f.1 fx
  ·exact An rx fx t f.2 u' hu
noncomputable def inV (x:V) (xs:List V):Bool:=xs.any fun y=>eqV y x
noncomputable def rIn (K:W.Frag) (neg:Bool):R2:=fun x y H Q=>∃ p xs,y=.ref p/\(SqL K H p xs\/SqT K H p xs)/\nk x=true/\xs.all nk=true/\Q (.bl (if neg then !inV x xs else inV x xs)) H
theorem Ni:OpR X (compareOp .In) (rIn X.K false):=by
 intro pins s σ H x y v u Q I rx ry h;obtain ⟨p,xs,rfl,hq,fx,fs,q⟩:=h;cases ry;rcases hq with hq | hq
 ·obtain ⟨its,r,pl,hz⟩:=I.list hq;refine SeqAt.in_listAt (eqU x) pl.isList (fun w hw=>An rx fx r fs w (by simpa using hw)) ⟨.bl _,H,I,rfl,?_⟩;rw [show its.toArray.any (eqU x)=its.any (eqU x) by simp,Pq r fs];exact q
 ·obtain ⟨its,r,pl,hz⟩:=I.tuple hq;refine SeqAt.in_tupleAt (eqU x) pl (fun w hw=>An rx fx r fs w (by simpa using hw)) ⟨.bl _,H,I,rfl,?_⟩;rw [show its.toArray.any (eqU x)=its.any (eqU x) by simp,Pq r fs];exact q
theorem gx:OpR X (compareOp .NotIn) (rIn X.K true):=by
 intro pins s σ H x y v u Q I rx ry h;obtain ⟨p,xs,rfl,hq,fx,fs,q⟩:=h;cases ry;rcases hq with hq | hq
 ·obtain ⟨its,r,pl,hz⟩:=I.list hq;refine SeqAt.notIn_listAt (eqU x) pl.isList (fun w hw=>An rx fx r fs w (by simpa using hw)) ⟨.bl _,H,I,rfl,?_⟩;rw [show its.toArray.any (eqU x)=its.any (eqU x) by simp,Pq r fs];exact q
 ·obtain ⟨its,r,pl,hz⟩:=I.tuple hq;refine SeqAt.notIn_tupleAt (eqU x) pl (fun w hw=>An rx fx r fs w (by simpa using hw)) ⟨.bl _,H,I,rfl,?_⟩;rw [show its.toArray.any (eqU x)=its.any (eqU x) by simp,Pq r fs];exact q
theorem wc:ml X (.builtin "len") (fun xs H Q=>∃ p ys,xs=[.ref p]/\(SqL X.K H p ys\/SqT X.K H p ys)/\Q (.int ys.length) H):=by
 intro pins s σ H xs us Q I r h;obtain ⟨p,ys,rfl,hq,q⟩:=h;obtain ⟨u,rfl,rx⟩:=At r;cases rx;have hn:=Uq;rcases hq with hq | hq
 ·obtain ⟨its,r',pl,hz⟩:=I.list hq;have hlen:=r'.length;exact Calls.call_len_list pl.isList (by simp only [size_toArray] <;> omega) ⟨.int ys.length,H,I.tok _,⟨s.toks + 1,by rw [size_toArray,hlen]⟩,q⟩
 ·obtain ⟨its,r',pl,hz⟩:=I.tuple hq;have hlen:=r'.length;exact len_tuple pl (by simp only [size_toArray] <;> omega) ⟨.int ys.length,H,I.tok _,⟨s.toks + 1,by rw [size_toArray,hlen]⟩,q⟩
theorem Yx:ml X (.builtin "len") (fun xs H Q=>∃ z,xs=[.str z]/\z.length <= sizeLine/\Q (.int z.length) H):=by
 intro pins s σ H xs us Q I r h;obtain ⟨z,rfl,hz,q⟩:=h;obtain ⟨u,rfl,t,rfl⟩:=At r;have hn:=Uq;exact len_str (by omega) ⟨.int z.length,H,I.tok _,⟨_,rfl⟩,q⟩
theorem ml.or {f:Value} {r r':List V->Hp->VK->Prop} (h:ml X f r) (h':ml X f r'):ml X f (fun xs H Q=>r xs H Q\/r' xs H Q):=by
 intro pins s σ H xs us Q I rs q;rcases q with q | q
 ·exact h pins s σ H xs us Q I rs q
 ·exact h' pins s σ H xs us Q I rs q
theorem Ay:ml X (.type "list") (fun xs H Q=>∃ p ys,xs=[.ref p]/\(SqL X.K H p ys\/SqT X.K H p ys)/\∀ l,H l=none->Q (.ref l) (upd H l (.lst ys))):=by
 intro pins s σ H xs us Q I r h;obtain ⟨p,ys,rfl,hq,q⟩:=h;obtain ⟨u,rfl,rx⟩:=At r;cases rx;have fin:∀ (its:List Value),Kd ys its->ys.length <= sizeLine->∀ (h':Heap) (c':Nat),(∀ b o',s.heap.get? b=some o'->h'.get? b=some o') ->
   h'.get? s.heap.objs.size=some { cls:=.type "list",dict:=none,data:=.seq its.toArray c',slots:=#[] }->EP X pins σ Q (.ref s.heap.objs.size) { s with heap:=h' }:=fun its r' hz h' c' kp e=>
  ⟨.ref s.heap.objs.size,_,I.laid (t':=s.toks) kp (Nat.le_refl _) (show Sd X.prog X.w _ h' _ (.lst ys) from ⟨hz,its,c',r',e⟩),rfl,q _ (I.hok.fresh (Nat.le_refl _))⟩
 rcases hq with hq | hq
 ·obtain ⟨its,r',pl,hz⟩:=I.list hq;have hlen:=r'.length;obtain ⟨o,ho,hc,n,hd⟩:=pl.isList;exact call_list_seq p (.inl rfl) ho hc hd (fun h' c' kp e=>fin its r' hz h' c' kp e) (by simp only [size_toArray] <;> omega)
 ·obtain ⟨its,r',pl,hz⟩:=I.tuple hq;have hlen:=r'.length;obtain ⟨o,ho,hc,n,hd⟩:=pl;exact call_list_seq p (.inr rfl) ho hc hd (fun h' c' kp e=>fin its r' hz h' c' kp e) (by simp only [size_toArray] <;> omega)
noncomputable def tyV (K:W.Frag) (T:String) (x:V) (H:Hp):Prop:=match x with
 | .str _=>T = "str"
 | .int _=>T = "int"
 | .ref p=>(T = "list" /\ ∃ xs,SqL K H p xs)\/(T = "tuple" /\ ∃ o,K.lookup p=some o/\o.cls=.type "tuple" /\ o.dict=none) \/
   (T = "dict" /\ ((∃ kvs,H p=some (.dK kvs))\/∃ kvs,H p=some (.dT kvs)))\/(T = "set" /\ ∃ S n,H p=some (.set S n))
 | _=>False
theorem rJ {pins:List (Addr × Obj)} {σ:St} {H:Hp} {s:Shared} {T:String} {x:V} {v:Value} (I:Inv X pins σ H s) (r:ae x v) (ty:tyV X.K T x H) :
  s.TypeIs v T/\∀ a,v=.ref a->∃ ob,s.heap.get? a=some ob/\ob.dict=none:=by
 cases x with
 | str z=>
  obtain ⟨t,rfl⟩:=r;cases (show T = "str" from ty);exact ⟨typeIs_str s z t,fun _ e=>nomatch e⟩
 | int i=>
  obtain ⟨t,rfl⟩:=r;cases (show T = "int" from ty);exact ⟨typeIs_int s i t,fun _ e=>nomatch e⟩
 | ref p=>
  cases r;rcases ty with ⟨rfl,xs,hq⟩ | ⟨rfl,o,hk,hc,hd⟩ | ⟨rfl,hk⟩ | ⟨rfl,S,n,hk⟩
  ·obtain ⟨its,_,pl,_⟩:=I.list hq;refine ⟨pl.isList.typeIs,fun a e=>?_⟩;cases e;obtain ⟨o,n,e,c,hd,_⟩:=pl;exact ⟨o,e,hd⟩
  ·refine ⟨⟨o,I.kIn p o hk,hc⟩,fun a e=>?_⟩;cases e;exact ⟨o,I.kIn _ o hk,hd⟩
  ·have z:∃ o,s.heap.get? p=some o/\o.ExactDict:=by
    rcases hk with ⟨kvs,hk⟩ | ⟨kvs,hk⟩
    ·obtain ⟨_,_,_,_,o,_,_,e,ex,_⟩:=I.hok p _ hk;exact ⟨o,e,ex⟩
    ·obtain ⟨_,_,_,_,o,_,_,e,ex,_⟩:=I.hok p _ hk;exact ⟨o,e,ex⟩
   obtain ⟨o,e,ex⟩:=z;refine ⟨⟨o,e,ex.1⟩,fun a e2=>?_⟩;cases e2;exact ⟨o,e,ex.2.1⟩
  ·obtain ⟨o,_,_,_,e,ex,_⟩:=I.hok p _ hk;refine ⟨⟨o,e,ex.1⟩,fun a e2=>?_⟩;cases e2;exact ⟨o,e,ex.2.1⟩
 | _=>exact False.elim ty
noncomputable def WQ (K:W.Frag) (T:String) (r:V->List V->Hp->VK->Prop) (to:TE):TE:=fun σ H Q=>to σ H fun x H1=>tyV K T x H1/\r x [] H1 Q
noncomputable def tBM (K:W.Frag) (T:String) (r:V->List V->Hp->VK->Prop) (to:TE) (t:TA):TE:=fun σ H Q=>to σ H fun x H1=>tyV K T x H1/\t σ H1 fun xs H2=>r x xs H2 Q
variable {o e:Expr} {es:List Expr} {to:TE} {t:TA} {name:Str} {apos cpos:Pos} {T id:String} {r:V->List V->Hp->VK->Prop}
theorem AN (pa:PlainAttrs T) (slot:Slot T name id) (hty:typeOf (.builtin id)=pure (.type "method_descriptor")) (hm:MtR X id r) (ho:PE X o to)
  (hbase:attributeBase o name X.env (eval o X.env)=eval o X.env:=by rfl) (hline:(apos.endLine == cpos.line)=true:=by rfl):PE X (.Call (.Attribute o name apos) [] [] cpos) (WQ X.K T r to):=by
 intro pins s σ H Q I h;refine wpAny_Call_method0_late hbase hline (thn (ho pins s σ H _ I h) fun v s1 hZ1=>?_);obtain ⟨x,H1,I1,r1,ty,q1⟩:=hZ1;obtain ⟨h1,h2⟩:=rJ I1 r1 ty;exact ⟨T,id,pa,slot,hty,h1,h2,Calls.callWith_builtin rfl (PySem.evalArgs_none (hm pins s1 σ H1 x [] v [] Q I1 r1 .nil q1))⟩
theorem ol (pa:PlainAttrs T) (slot:Slot T name id) (hty:typeOf (.builtin id)=pure (.type "method_descriptor")) (hm:MtR X id r) (ho:PE X o to) (ha:PA X (e :: es) t)
  (hbase:attributeBase o name X.env (eval o X.env)=eval o X.env:=by rfl)
  (hfew:((backTo cpos (starEach (e :: es) X.env)).all (fun x=>!x.1) && (backToKw cpos (keywordEach [] X.env)).all (fun x=>x.1.isSome)
   && decide ((e :: es).length + ([]:List Keyword).length + (if ([]:List Keyword).isEmpty then 0 else 1) < 30))=true:=by rfl)
  (hline:(apos.endLine == cpos.line)=true:=by rfl) (hs:starEach (e :: es) X.env=(false,eval e X.env) :: starEach es X.env:=by rfl) (hplain:(backTo cpos (starEach es X.env)).any (·.1)=false:=by rfl) :
  PE X (.Call (.Attribute o name apos) (e :: es) [] cpos) (tBM X.K T r to t):=by
 intro pins s σ H Q I h;refine wpAny_Call_method_late hbase hfew hline rfl (thn (ho pins s σ H _ I h) fun v s1 hZ1=>?_);obtain ⟨x,H1,I1,r1,ty,q1⟩:=hZ1;obtain ⟨h1,h2⟩:=rJ I1 r1 ty;refine ⟨T,id,pa,slot,hty,h1,h2,?_⟩;have hA:=ha cpos pins s1 σ H1 _ I1 q1;rw [hs] at hA ⊢;refine Calls.callWith_builtin (by show (false || (backTo cpos (starEach es X.env)).any (·.1))=false;rw [hplain] <;> rfl) (Calls.evalArgs_plain ?_);exact thn hA fun us s2 ⟨vs,H2,I2,r2,q2⟩=>hm pins s2 σ H2 x vs v us Q I2 r1 r2 q2
end
end L2
namespace L2
open PySem PySem.Spec PyProof.Rows
noncomputable def MtM (X:Cx) (id:String) (r:V->List V->Hp->VK->Prop):Prop:=
 ∀ (pins:List (Addr × Obj)) (s:Shared) (σ:St) (H:Hp) (x:V) (xs:List V) (v:Value) (us:List Value) (Q:VK),Inv X pins σ H s->ae x v->Kd xs us->r x xs H Q ->
  wpAny (model X.prog X.w) X.A (call (.builtin id) (v :: us)) (EP X pins σ Q) X.xe s
theorem Kd.one:∀ {x:V} {us:List Value},Kd [x] us->∃ u,us=[u]/\ae x u
 | _,_,.cons r .nil=>⟨_,rfl,r⟩
theorem Kd.two:∀ {x y:V} {us:List Value},Kd [x,y] us->∃ u v,us=[u,v]/\ae x u/\ae y v
 | _,_,_,.cons r (.cons q .nil)=>⟨_,_,rfl,r,q⟩
theorem Kd.zero:∀ {us:List Value},Kd [] us->us=[]
 | _,.nil=>rfl
theorem Kd.eraseIdx:∀ {xs:List V} {us:List Value} (i:Nat),Kd xs us->Kd (xs.eraseIdx i) (us.eraseIdx i)
 | _,_,_,.nil=>.nil
 | _,_,0,.cons _ t=>t
 | _,_,i + 1,.cons r t=>.cons r (Kd.eraseIdx i t)
theorem Kd.reverse {xs:List V} {us:List Value} (h:Kd xs us):Kd xs.reverse us.reverse:=by
 induction h with
 | nil=>exact .nil
 | cons r t ih=>rw [List.reverse_cons,List.reverse_cons];exact Kd.append ih (.cons r .nil)
theorem qy {α:Type}:∀ (l:List α) (i:Nat),(l.eraseIdx i).length <= l.length
 | [],_=>Nat.le_refl _
 | _ :: _,0=>Nat.le_succ _
 | _ :: r,i + 1=>Nat.succ_le_succ (qy r i)
section
variable {X:Cx} {pins:List (Addr × Obj)} {σ:St} {H:Hp} {s:Shared} {l b:Addr} {xs ys zs:List V}
theorem Inv.lset {its its':List Value} {n:Nat} {f:Array Value->Array Value} {t':Nat} (I:Inv X pins σ H s) (hH:H l=some (.lst xs))
  (e:s.heap.get? l=some { cls:=.type "list",data:=.seq its.toArray n }) (hf:f its.toArray=its'.toArray) (hv:Kd ys its') (hz:ys.length <= sizeLine) :
  Inv X pins σ (upd H l (.lst ys)) { s with heap:=s.heap.update l (Obj.mapSeq f),toks:=t' }:=by
 have q:=PySem.IsL.update e f;rw [hf] at q;refine I.write (x:=l) (e:=l) (by rw [hH];exact trivial) (.inl rfl) (fun b' u hb hu=>(Heap.get?_update_other s.heap (Obj.mapSeq f) (Ne.symm hb)).trans hu) ⟨_,q⟩ ?_;exact ⟨hz,its',_,hv,q⟩
theorem Inv.lnew {its:List Value} {t':Nat} (I:Inv X pins σ H s) (hv:Kd ys its) (hz:ys.length <= sizeLine) :
  Inv X pins σ (upd H s.heap.objs.size (.lst ys)) { s with heap:=s.heap.push { cls:=.type "list",data:=.seq its.toArray },toks:=t' }:=
 I.laid (fun _ _ q=>Heap.get?_push_of_some _ q) (Nat.le_refl _) ⟨hz,its,0,hv,Heap.get?_push_size _ rfl⟩
theorem Inv.fresh (I:Inv X pins σ H s):H s.heap.objs.size=none:=I.hok.fresh (Nat.le_refl _)
theorem Inv.lstM (I:Inv X pins σ H s) (hH:H l=some (.lst xs)):xs.length <= sizeLine/\∃ (its:List Value) (n:Nat),Kd xs its/\xs.length=its.length/\s.heap.get? l=some { cls:=.type "list",data:=.seq its.toArray n }:=by
 obtain ⟨z,its,n,r,e⟩:=I.hok l _ hH;exact ⟨z,its,n,r,r.length,e⟩
end
section
variable {X:Cx}
noncomputable def HF:V->List V->Hp->VK->Prop:=fun x vs H Q=>∃ l xs y,x=.ref l/\vs=[y]/\H l=some (.lst xs)/\xs.length < sizeLine/\Q .non (upd H l (.lst (xs ++ [y])))
theorem Pe:MtM X "list.append" HF:=by
 intro pins s σ H x vs v us Q I rx rv h;obtain ⟨l,xs,y,rfl,rfl,hH,hz,q⟩:=h;cases rx;obtain ⟨u,rfl,ru⟩:=rv.one;obtain ⟨z,its,n,r,hl,e⟩:=I.lstM hH;refine call_meets F.slot_list_append ⟨_,e,rfl⟩ F.entry_list_append (F.args_list_append_2 _ _) (PySem.list_append l its.toArray n u (by rw [size_toArray];omega)) ⟨e,?_⟩;refine ⟨.non,_,I.lset (its':=its ++ [u]) hH e (by simp) (r.append (.cons ru .nil)) ?_,rfl,q⟩;rw [length_append,List.length_singleton];omega
noncomputable def qK:V->List V->Hp->VK->Prop:=fun x vs H Q=>∃ l xs i k y,x=.ref l/\vs=[.int i]/\H l=some (.lst xs)/\-(2 ^ 63) <= i/\i < 2 ^ 63/\seqIndex? i xs.length=some k/\xs[k]? = some y/\Q y (upd H l (.lst (xs.eraseIdx k)))
theorem gI:MtM X "list.pop" qK:=by
 intro pins s σ H x vs v us Q I rx rv h;obtain ⟨l,xs,i,k,y,rfl,rfl,hH,h1,h2,hk,hy,q⟩:=h;cases rx;obtain ⟨u,rfl,ru⟩:=rv.one;obtain ⟨t,rfl⟩:=ru;obtain ⟨z,its,n,r,hl,e⟩:=I.lstM hH;obtain ⟨w,hw,rw'⟩:=r.get hy;refine call_meets F.slot_list_pop ⟨_,e,rfl⟩ F.entry_list_pop (F.args_list_pop_2 _ _)
  (MeetsSeq.list_pop_at l its.toArray n i t k w (fitsIndex_both h1 h2) (by rw [size_toArray,<- hl];exact hk) (by rw [<- Array.getElem?_toList];exact hw) (by rw [size_toArray];omega)) ⟨e,?_⟩
 refine ⟨y,_,I.lset (its':=its.eraseIdx k) hH e ?_ (r.eraseIdx k) ?_,rw',q⟩
 ·show its.toArray.eraseIdxIfInBounds k=(its.eraseIdx k).toArray;rw [List.eraseIdxIfInBounds_toArray]
 ·have:=qy xs k;omega
noncomputable def DK:V->List V->Hp->VK->Prop:=fun x vs H Q=>∃ l xs,x=.ref l/\vs=[]/\H l=some (.lst xs)/\Q .non (upd H l (.lst []))
theorem VH:MtM X "list.clear" DK:=by
 intro pins s σ H x vs v us Q I rx rv h;obtain ⟨l,xs,rfl,rfl,hH,q⟩:=h;cases rx;have hus:=rv.zero;subst hus;obtain ⟨z,its,n,r,hl,e⟩:=I.lstM hH;refine call_meets F.slot_list_clear ⟨_,e,rfl⟩ F.entry_list_clear (F.args_list_clear_1 _) (AutoSeq1.list_clear_list_0 l its.toArray n (by rw [size_toArray];omega)) ⟨e,?_⟩;exact ⟨.non,_,I.lset (its':=[]) (ys:=[]) hH e rfl .nil (Nat.zero_le _),rfl,q⟩
noncomputable def NQ:R2:=fun x y H Q=>∃ l b xs zs,x=.ref l/\y=.ref b/\H l=some (.lst xs)/\H b=some (.lst zs)/\xs.length + zs.length <= sizeLine/\∀ p,H p=none->Q (.ref p) (upd H p (.lst (xs ++ zs)))
theorem SJ:OpR X (binaryOp .Add) NQ:=by
 intro pins s σ H x y v u Q I rx ry h;obtain ⟨l,b,xs,zs,rfl,rfl,hH,hB,hz,q⟩:=h;cases rx;cases ry;obtain ⟨z,its,n,r,hl,e⟩:=I.lstM hH;obtain ⟨z2,its2,n2,r2,hl2,e2⟩:=I.lstM hB;refine PySem.P.add_list e e2 ?_ (by rw [size_toArray,size_toArray];omega);have ea:its.toArray ++ its2.toArray=(its ++ its2).toArray:=by simp
 rw [ea];exact ⟨.ref _,_,I.lnew (t':=s.toks) (r.append r2) (by rw [length_append];omega),rfl,q _ I.fresh⟩
end
section
variable {prog:Program} {w:World} {A:Around} {E:Value->Shared->Prop} {s:Shared}
end
section
variable {X:Cx}
end
end L2
namespace L2
open PySem PySem.Spec PyProof.Rows
section
variable {κ:Type} [DecidableEq κ]
noncomputable def Us (kvs:List (κ × V)) (k:κ):Option V:=(kvs.find? fun kv=>decide (kv.1=k)).map (·.2)
noncomputable def Dy (kvs:List (κ × V)) (k:κ) (v:V):List (κ × V):=
 if (kvs.any fun kv=>decide (kv.1=k))=true then kvs.map (fun kv=>if kv.1=k then (kv.1,v) else kv) else kvs ++ [(k,v)]
noncomputable def xP (kvs:List (κ × V)) (k:κ):List (κ × V):=kvs.filter fun kv=>decide (kv.1 ≠ k)
theorem mw {p:κ × V} {r:List (κ × V)} {k:κ} (e:p.1=k):Us (p :: r) k=some p.2:=by simp [Us,find?_cons,e]
theorem lv {p:κ × V} {r:List (κ × V)} {k:κ} (e:¬ p.1=k):Us (p :: r) k=Us r k:=by simp [Us,find?_cons,e]
theorem ZA (k:κ):∀ kvs:List (κ × V),(kvs.any fun kv=>decide (kv.1=k))=(Us kvs k).isSome
 | []=>rfl
 | p :: r=>by
  rw [any_cons];by_cases e:p.1=k
  ·simp only [mw e,decide_eq_true e,Bool.true_or,Option.isSome_some]
  ·rw [lv e,decide_eq_false e,Bool.false_or];exact ZA k r
theorem lr (kvs:List (κ × V)) (k:κ) (v:V):(Dy kvs k v).length <= kvs.length + 1:=by
 unfold Dy;split
 ·rw [length_map];omega
 ·rw [length_append,length_cons,length_nil];omega
theorem Ps.isSome_eq {o:Option V} {u:Option Value} (r:Ps o u):o.isSome=u.isSome:=by
 cases o with
 | none=>cases u with
  | none=>rfl
  | some _=>exact (show False from r).elim
 | some _=>cases u with
  | none=>exact (show False from r).elim
  | some _=>rfl
theorem Ps.getD {o:Option V} {u:Option Value} {d:V} {d':Value} (r:Ps o u) (rd:ae d d'):ae (o.getD d) (u.getD d'):=by
 cases o with
 | none=>cases u with
  | none=>exact rd
  | some _=>exact (show False from r).elim
 | some _=>cases u with
  | none=>exact (show False from r).elim
  | some _=>exact r
theorem KV.val {kvs:List (κ × V)} {vs:List (κ × Value)} (r:KV kvs vs) (k:κ):Ps (Us kvs k) (valueAt vs k):=by
 unfold KV at r
 induction r with
 | nil=>exact True.intro
 | @cons p q ps qs h t ih=>
  obtain ⟨h1,h2⟩:=h;by_cases e:p.1=k
  ·have e':q.1=k:=h1.symm.trans e;have b:valueAt (q :: qs) k=some q.2:=by simp [valueAt,find?_cons,e']
   rw [mw e,b];exact h2
  ·have e':¬ q.1=k:=fun z=>e (h1.trans z)
   have b:valueAt (q :: qs) k=valueAt qs k:=by simp [valueAt,find?_cons,e']
   rw [lv e,b];exact ih
theorem KV.any {kvs:List (κ × V)} {vs:List (κ × Value)} (r:KV kvs vs) (k:κ):(kvs.any fun kv=>decide (kv.1=k))=vs.any fun kv=>decide (kv.1=k):=by
 unfold KV at r
 induction r with
 | nil=>rfl
 | cons h t ih=>rw [any_cons,any_cons,ih,h.1]
theorem KV.repl {kvs:List (κ × V)} {vs:List (κ × Value)} (r:KV kvs vs) (k:κ) {y:V} {u:Value} (ry:ae y u) :
  KV (kvs.map fun kv=>if kv.1=k then (kv.1,y) else kv) (vs.map fun kv=>if kv.1=k then (kv.1,u) else kv):=by
 unfold KV at r ⊢
 induction r with
 | nil=>exact .nil
 | @cons p q ps qs h t ih=>
  rw [map_cons,map_cons];refine .cons ?_ ih;obtain ⟨h1,h2⟩:=h;by_cases e:p.1=k
  ·rw [if_pos e,if_pos (h1.symm.trans e)];exact ⟨h1,ry⟩
  ·rw [if_neg e,if_neg (fun z=>e (h1.trans z))];exact ⟨h1,h2⟩
theorem KV.put {kvs:List (κ × V)} {vs:List (κ × Value)} (r:KV kvs vs) (k:κ) {y:V} {u:Value} (ry:ae y u):KV (Dy kvs k y) (stored vs k u):=by
 unfold Dy stored;rw [r.any k];by_cases e:(vs.any fun kv=>decide (kv.1=k))=true
 ·rw [if_pos e,if_pos e];exact r.repl k ry
 ·rw [if_neg e,if_neg e];exact Paired.snoc r ⟨rfl,ry⟩
theorem KV.drop {kvs:List (κ × V)} {vs:List (κ × Value)} (r:KV kvs vs) (k:κ):KV (xP kvs k) (without vs k):=by
 unfold KV at r ⊢;unfold xP without
 induction r with
 | nil=>exact .nil
 | @cons p q ps qs h t ih=>
  obtain ⟨h1,h2⟩:=h;rw [List.filter_cons,List.filter_cons];by_cases e:p.1=k
  ·have a:¬ decide (p.1 ≠ k)=true:=by simp [e]
   have b:¬ decide (q.1 ≠ k)=true:=by simp [h1.symm.trans e]
   rw [if_neg a,if_neg b];exact ih
  ·have e':¬ q.1=k:=fun z=>e (h1.trans z)
   have a:decide (p.1 ≠ k)=true:=by simp [e]
   have b:decide (q.1 ≠ k)=true:=by simp [e']
   rw [if_pos a,if_pos b];exact .cons ⟨h1,h2⟩ ih
theorem KV.length {kvs:List (κ × V)} {vs:List (κ × Value)} (r:KV kvs vs):kvs.length=vs.length:=Paired.length r
end
theorem mJ {P:Program} {w:World} {k:Key} {u:Value} (r:ae (kV k) u):(rf P w).is k u=true:=by
 cases k with
 | inl i=>obtain ⟨t,e⟩:=(show ∃ t,u=Value.int i t from r);subst e;exact dA P w i t
 | inr x=>obtain ⟨t,e⟩:=(show ∃ t,u=Value.str x t from r);subst e;exact Sy P w x t
theorem Dw {P:Program} {w:World}:∀ {ks:List Key} {us:List Value},Kd (ks.map kV) us->ItemsAre (rf P w) ks us
 | [],_,r=>by rw [map_nil] at r;cases r;exact .nil
 | k :: ks,_,r=>by
  rw [map_cons] at r;cases r with
  | cons h t=>exact .cons (mJ h) (Dw t)
noncomputable abbrev KT (H:Hp):List (List Key × V)->List (List Key × Addr × Value)->Prop:=Paired fun p q=>p.1=q.1/\H q.2.1=some (.tup (p.1.map kV))/\ae p.2 q.2.2
theorem KT.val {H:Hp} {kvs:List (List Key × V)} {xs:List (List Key × Addr × Value)} (r:KT H kvs xs) (k:List Key):Ps (Us kvs k) ((atKey xs k).map (·.2)):=by
 induction r with
 | nil=>exact True.intro
 | @cons p q ps qs h t ih=>
  obtain ⟨h1,_,h2⟩:=h;by_cases e:p.1=k
  ·have e':q.1=k:=h1.symm.trans e;have b:atKey (q :: qs) k=some q.2:=by simp [atKey,find?_cons,e']
   rw [mw e,b];exact h2
  ·have e':¬ q.1=k:=fun z=>e (h1.trans z)
   have b:atKey (q :: qs) k=atKey qs k:=by simp [atKey,find?_cons,e']
   rw [lv e,b];exact ih
theorem KT.repl {H:Hp} {kvs:List (List Key × V)} {xs:List (List Key × Addr × Value)} (r:KT H kvs xs) (k:List Key) {y:V} {u:Value} (ry:ae y u) :
  KT H (kvs.map fun kv=>if kv.1=k then (kv.1,y) else kv) (xs.map (putAt k u)):=by
 induction r with
 | nil=>exact .nil
 | @cons p q ps qs h t ih=>
  rw [map_cons,map_cons];refine .cons ?_ ih;obtain ⟨h1,h2,h3⟩:=h;unfold putAt;by_cases e:p.1=k
  ·rw [if_pos e,if_pos (h1.symm.trans e)];exact ⟨h1,h2,ry⟩
  ·rw [if_neg e,if_neg (fun z=>e (h1.trans z))];exact ⟨h1,h2,h3⟩
theorem KT.put {H:Hp} {kvs:List (List Key × V)} {xs:List (List Key × Addr × Value)} (r:KT H kvs xs) (k:List Key) {b:Addr} {y:V} {u:Value} (hb:H b=some (.tup (k.map kV))) (ry:ae y u) :
  KT H (Dy kvs k y) (storedH xs k b u):=by
 have e:(kvs.any fun kv=>decide (kv.1=k))=(atKey xs k).isSome:=by
  rw [ZA,(r.val k).isSome_eq,Option.isSome_map]
 unfold Dy storedH;rw [e];by_cases q:(atKey xs k).isSome=true
 ·rw [if_pos q,if_pos q];exact r.repl k ry
 ·rw [if_neg q,if_neg q];exact Paired.snoc r ⟨rfl,hb,ry⟩
theorem KT.keeps {H H':Hp} {kvs:List (List Key × V)} {xs:List (List Key × Addr × Value)} (r:KT H kvs xs) (ht:∀ b ys,H b=some (.tup ys)->H' b=some (.tup ys)):KT H' kvs xs:=
 Paired.mapP r fun _ _ z=>⟨z.1,ht _ _ z.2.1,z.2.2⟩
section
variable {P:Program} {w:World} {H:Hp} {h:Heap} {a:Addr}
theorem GP {u:HO} (ok:HOk P w H h) (e:Rd H a u):Sd P w H h a u:=e.ok ok
theorem yI {kvs:List (Key × V)} (ok:HOk P w H h) (e:Rd H a (.dK kvs)):kvs.length <= sizeLine/\(a == sysModules)=false/\∃ vs,KV kvs vs/\h.DictOf (rf P w) a vs:=
 show Sd P w H h a (.dK kvs) from GP ok e
theorem pQ {kvs:List (Key × V)} (ok:HOk P w H h) (e:H a=some (.dK kvs)):kvs.length <= sizeLine/\(a == sysModules)=false/\∃ vs,KV kvs vs/\h.DictOf (rf P w) a vs:=yI ok (.inl e)
theorem iB {ks:List Key} (ok:HOk P w H h) (e:H a=some (.tup (ks.map kV))):(tupleKind (rf P w)).is h ks a:=by
 obtain ⟨_,its,r,o,h1,h2,n,h3⟩:=(show Sd P w H h a (.tup (ks.map kV)) from ok a _ e);exact ⟨o,its.toArray,n,h1,h2,h3,by simpa using Dw r⟩
theorem zI {kvs:List (List Key × V)} (ok:HOk P w H h) (e:Rd H a (.dT kvs)):kvs.length <= sizeLine/\(a == sysModules)=false /\
  ∃ xs,KT H kvs xs/\h.DictOfH (tupleKind (rf P w)) a xs:=by
 obtain ⟨z,y,xs,r,o,es,ep,h1,h2,h3,h4,h5⟩:=(show Sd P w H h a (.dT kvs) from GP ok e);refine ⟨z,y,xs,r,o,es,ep,h1,h2,h3,h4,fun x hx=>?_,h5⟩;have all:∀ {l:List (List Key × V)} {m:List (List Key × Addr × Value)},KT H l m->∀ x ∈ m,(tupleKind (rf P w)).is h x.1 x.2.1:=by
  intro l m q
  induction q with
  | nil=>intro x hx;exact nomatch hx
  | @cons p q ps qs hq t ih=>
   intro x hx;rcases List.mem_cons.mp hx with e | hx
   ·subst e;exact iB ok (by rw [<- hq.1];exact hq.2.1)
   ·exact ih x hx
 exact all r x hx
theorem JQ {kvs:List (List Key × V)} (ok:HOk P w H h) (e:H a=some (.dT kvs)):kvs.length <= sizeLine/\(a == sysModules)=false /\
  ∃ xs,KT H kvs xs/\h.DictOfH (tupleKind (rf P w)) a xs:=zI ok (.inl e)
end
noncomputable def Is (H:Hp) (a:Addr) (y:V) (r:Option V):Prop:=
 (∃ kvs k,Rd H a (.dK kvs)/\y=kV k/\r=Us kvs k)\/∃ kvs k b,Rd H a (.dT kvs)/\y=.ref b/\H b=some (.tup (k.map kV))/\r=Us kvs k
noncomputable def ZF (H:Hp) (a:Addr) (y v:V) (H':Hp):Prop:=
 (∃ kvs k,H a=some (.dK kvs)/\y=kV k/\kvs.length < sizeLine/\H'=upd H a (.dK (Dy kvs k v))) \/
 ∃ kvs k b,H a=some (.dT kvs)/\y=.ref b/\H b=some (.tup (k.map kV))/\kvs.length < sizeLine/\H'=upd H a (.dT (Dy kvs k v))
theorem Is.k {H:Hp} {a:Addr} {kvs:List (Key × V)} {k:Key} (e:H a=some (.dK kvs)):Is H a (kV k) (Us kvs k):=.inl ⟨kvs,k,.inl e,rfl,rfl⟩
theorem Is.t {H:Hp} {a b:Addr} {kvs:List (List Key × V)} {k:List Key} (e:H a=some (.dT kvs)) (eb:H b=some (.tup (k.map kV))):Is H a (.ref b) (Us kvs k):=.inr ⟨kvs,k,b,.inl e,rfl,eb,rfl⟩
theorem ZF.k {H:Hp} {a:Addr} {kvs:List (Key × V)} {k:Key} {v:V} (e:H a=some (.dK kvs)) (hl:kvs.length < sizeLine):ZF H a (kV k) v (upd H a (.dK (Dy kvs k v))):=.inl ⟨kvs,k,e,rfl,hl,rfl⟩
theorem ZF.t {H:Hp} {a b:Addr} {kvs:List (List Key × V)} {k:List Key} {v:V} (e:H a=some (.dT kvs)) (eb:H b=some (.tup (k.map kV))) (hl:kvs.length < sizeLine) :
  ZF H a (.ref b) v (upd H a (.dT (Dy kvs k v))):=.inr ⟨kvs,k,b,e,rfl,eb,hl,rfl⟩
section
variable {X:Cx} {pins:List (Addr × Obj)} {σ:St} {H:Hp} {s:Shared} {a:Addr} {y v:V} {u r:Value} {o:Option V} {A:Around} {E:Value->Shared->Prop}
theorem Inv.big (I:Inv X pins σ H s):sysModules < s.heap.objs.size:=by
 have h:mainGlobals < s.heap.objs.size:=(I.mod.glob.keeps I.bk).lt;exact Nat.lt_trans (by decide) h
theorem yF {Q:Value->Shared->Prop} (hu:A.units + 1 < cLine) (I:Inv X pins σ H s) (g:Is H a y (some v)) (ry:ae y u) (h:∀ w' s',Inv X pins σ H s'->ae v w'->Q w' s') :
  wpAny (model X.prog X.w) A (getItem (.ref a) u) Q E s:=by
 rcases g with ⟨kvs,k,e,ey,l⟩ | ⟨kvs,k,b,e,ey,eb,l⟩
 ·subst ey;obtain ⟨z,hd,vs,rel,dd⟩:=yI I.hok e;obtain ⟨w',hw,rw'⟩:=Ps.some_of (v:=v) (o:=valueAt vs k) (by rw [l];exact rel.val k);exact wpAny_getItem_of (mJ ry) dd.mapOf hw (h w' _ (I.tok _) rw')
 ·subst ey;cases (show u=Value.ref b from ry);obtain ⟨z,hd,xs,rel,dd⟩:=zI I.hok e;obtain ⟨w',hw,rw'⟩:=Ps.some_of (v:=v) (o:=(atKey xs k).map (·.2)) (by rw [l];exact rel.val k);obtain ⟨p,hp,hp2⟩:=Option.map_eq_some_iff.mp hw;refine wpAny_getItem_heap (tupleKind_room_in1 hu) (iB I.hok eb) dd hp ?_;rw [hp2];exact h w' _ (I.tok _) rw'
theorem eL {Q:Value->Shared->Prop} (hu:A.units + 1 < cLine) (I:Inv X pins σ H s) (g:Is H a y o) (ry:ae y u) (h:∀ s',Inv X pins σ H s'->Q (.bool (!o.isSome)) s') :
  wpAny (model X.prog X.w) A (compareOp .NotIn u (.ref a)) Q E s:=by
 rcases g with ⟨kvs,k,e,ey,l⟩ | ⟨kvs,k,b,e,ey,eb,l⟩
 ·subst ey;obtain ⟨z,hd,vs,rel,dd⟩:=yI I.hok e;refine wpAny_notIn_of (mJ ry) hd dd.mapOf ?_;rw [<- (rel.val k).isSome_eq,<- l];exact h _ (I.tok _)
 ·subst ey;cases (show u=Value.ref b from ry);obtain ⟨z,hd,xs,rel,dd⟩:=zI I.hok e;refine wpAny_notIn_heap (tupleKind_room_in1 hu) (iB I.hok eb) hd dd ?_;have q:=(rel.val k).isSome_eq;rw [Option.isSome_map] at q;rw [<- q,<- l];exact h _ (I.tok _)
theorem kE {h':Heap} {t':Nat} {ob:HO} (I:Inv X pins σ H s) (mu:Mut (H a)) (hs:Heap.SameBut a s.heap h') (he:∃ q,h'.get? a=some q) (new:Sd X.prog X.w (upd H a ob) h' a ob) :
  Inv X pins σ (upd H a ob) { s with heap:=h',toks:=t' }:=
 I.write (x:=a) (e:=a) mu (.inl rfl) (fun b q hb z=>(hs.2 b hb).trans z) he new
theorem mO {P:Program} {w:World} {H':Hp} {h':Heap} {kvs:List (Key × V)} {vs:List (Key × Value)} (z:kvs.length <= sizeLine) (hd:(a == sysModules)=false) (rel:KV kvs vs) (dd:h'.DictOf (rf P w) a vs) :
  Sd P w H' h' a (.dK kvs):=⟨z,hd,vs,rel,dd⟩
theorem BE {H':Hp} {Q:Unit->Shared->Prop} (hu:A.units + 1 < cLine) (I:Inv X pins σ H s) (g:ZF H a y v H') (ry:ae y u) (rv:ae v r) (h:∀ s',Inv X pins σ H' s'->Q () s') :
  wpAny (model X.prog X.w) A (setItem (.ref a) u r) Q E s:=by
 rcases g with ⟨kvs,k,e,ey,l,eH⟩ | ⟨kvs,k,b,e,ey,eb,l,eH⟩
 ·subst ey eH;obtain ⟨z,hd,vs,rel,dd⟩:=pQ I.hok e;have hz:vs.length <= sizeLine:=by rw [<- rel.length];exact z
  have hl:(Dy kvs k v).length <= sizeLine:=by have:=lr kvs k v;omega
  refine wpAny_setItem_pairs (hsz:=hz) (mJ ry) dd fun h' dd' hs=>h _ ?_
  have he:∃ q,h'.get? a=some q:=let ⟨q,_,_,hq,_⟩:=dd';⟨q,hq⟩;exact kE I (by rw [e];exact True.intro) hs he (mO hl hd (rel.put k rv) dd')
 ·subst ey eH;cases (show u=Value.ref b from ry);obtain ⟨z,hd,xs,rel,dd⟩:=JQ I.hok e;have hz:xs.length <= sizeLine:=by rw [<- Paired.length rel];exact z
  have hl:(Dy kvs k v).length <= sizeLine:=by have:=lr kvs k v;omega
  refine wpAny_setItem_heap (hsz:=hz) (tupleKind_room_in1 hu) (iB I.hok eb) dd fun h' dd' hs=>h _ ?_
  obtain ⟨q,es,ep,hq,h2,h3,h4,_,h5⟩:=dd';refine kE I (by rw [e];exact True.intro) hs ⟨q,hq⟩ ⟨hl,hd,_,(rel.put k eb rv).keeps fun c ys ec=>?_,q,es,ep,hq,h2,h3,h4,h5⟩;rw [jb (Zd ec e (fun z=>nomatch z))];exact ec
end
section
variable {X:Cx} {pins:List (Addr × Obj)} {σ:St} {H:Hp} {s:Shared} {a:Addr} {kvs:List (Key × V)} {k:Key} {u:Value} {A:Around} {E:Value->Shared->Prop}
end
noncomputable def jR (i:Expr):Prop:=∀ ov iv,subscripted i false ov iv=operate [ov,iv] (getItem ov iv)
theorem jL {prog:Program} {w:World} {A:Around} {E:Value->Shared->Prop} {s:Shared} {env:Env} {value slice:Expr} {pos:Pos} {T id:String} {Q:Value->Shared->Prop}
  (hl:typeLookup (.type T) "__getitem__"=pure (some (.builtin id))) (hs:jR slice)
  (h:wpAny (model prog w) A (eval value env) (fun o s₁=>wpAny (model prog w) A (eval slice env) (fun i s₂=>s₂.TypeIs o T/\wpAny (model prog w) A (getItem o i) Q E s₂) E s₁) E s) :
  wpAny (model prog w) A (eval (.Subscript value slice pos) env) Q E s:=by
 refine Subscript_ (wpAny_mono h (fun o s₁ h₁=>wpAny_mono h₁ (fun i s₂ h₂=>?_) fun _ _ x=>x) fun _ _ x=>x);obtain ⟨hT,h₂⟩:=h₂;unfold subscriptTail;refine wpAny_bind ?_;rw [getitemInPython_of_ne hT.not_modules];refine wpAny_bind (wpAny_specialOf hT hl ?_);have fin:wpAny (model prog w) A (subscripted slice false o i) (fun r s₃=>wpAny (model prog w) A (letTemporaryGo value o r >>= fun _=>pure r) Q E s₃) E s₂:=by
  rw [hs o i];exact wpAny_operating (wpAny_mono h₂ (fun r s₃ h₃=>wpAny_bind (wpAny_letTemporaryGo (wpAny_pure h₃))) fun _ _ x=>x)
 first
  | exact wpAny_pure (wpAny_bind fin)
  | exact wpAny_bind (wpAny_pure (wpAny_bind fin))
  | exact wpAny_bind fin
theorem Ez {X:Cx} {pins:List (Addr × Obj)} {σ:St} {H:Hp} {s:Shared} {a:Addr} {y:V} {o:Option V} (I:Inv X pins σ H s) (g:Is H a y o):s.TypeIs (.ref a) "dict" := by
 rcases g with ⟨kvs,k,e,_,_⟩ | ⟨kvs,k,b,e,_,_,_⟩
 ·obtain ⟨_,_,vs,_,dd⟩:=yI I.hok e;exact dd.typeIs
 ·obtain ⟨_,_,xs,_,dd⟩:=zI I.hok e;exact dd.typeIs
noncomputable def NN (td ty:TE):TE:=fun σ H Q=>td σ H fun x H1=>ty σ H1 fun y H2=>∃ a v,x=.ref a/\Is H2 a y (some v)/\Q v H2
noncomputable def OE (ty td:TE):TE:=fun σ H Q=>ty σ H fun y H1=>td σ H1 fun x H2=>∃ a o,x=.ref a/\Is H2 a y o/\Q (.bl (!o.isSome)) H2
noncomputable def eO (td ty tv:TE):TS:=fun D σ H=>tv σ H fun v H1=>td σ H1 fun x H2=>ty σ H2 fun y H3=>∃ a H4,x=.ref a/\ZF H3 a y v H4/\D.nx σ H4
section
variable {X:Cx} {o i e value:Expr} {pos pos' tpos:Pos} {td ty tv:TE}
theorem Bq (hu:X.A.units + 1 < cLine) (ho:PE X o td) (hi:PE X i ty) (hs:jR i):PE X (.Subscript o i pos) (NN td ty):=by
 intro pins s σ H Q I h;refine jL PySem.F.slot_dict_getitem.lookup hs (thn (ho pins s σ H _ I h) fun u s1 ⟨x,H1,I1,rx,q1⟩=>thn (hi pins s1 σ H1 _ I1 q1) fun iv s2 hZ1=>?_);obtain ⟨y,H2,I2,ry,a,v,ex,g,q2⟩:=hZ1;subst ex;obtain rfl:u=Value.ref a:=rx;exact ⟨Ez I2 g,yF hu I2 g ry fun w' s3 I3 rw'=>⟨v,H2,I3,rw',q2⟩⟩
theorem Vw (hu:X.A.units + 1 < cLine) (hi:PE X i ty) (ho:PE X o td):PC X .NotIn i o (OE ty td):=by
 intro pins s σ H Q I h;refine thn (hi pins s σ H _ I h) fun iv s1 ⟨y,H1,I1,ry,q1⟩=>thn (ho pins s1 σ H1 _ I1 q1) fun u s2 hZ1=>?_
 obtain ⟨x,H2,I2,rx,a,ov,ex,g,q2⟩:=hZ1;subst ex;obtain rfl:u=Value.ref a:=rx;exact eL hu I2 g ry fun s3 I3=>⟨.bl (!ov.isSome),H2,I3,rfl,q2⟩
theorem Dv (hu:X.A.units + 1 < cLine) (ho:PE X o td) (hi:PE X i ty) (hv:PE X value tv) (hs:swapsWith value (some (.Subscript o i pos')) pos.line X.env=pure false) :
  PS X (.Assign [.Subscript o i pos'] value pos) (eO td ty tv):=by
 intro pins s σ H D I h;refine wpAny_Assign_Subscript (thn (hv pins s σ H _ I h) fun r s1 ⟨v,H1,I1,rv,q1⟩=>thn (ho pins s1 σ H1 _ I1 q1) fun u s2 ⟨x,H2,I2,rx,q2⟩=>thn (hi pins s2 σ H2 _ I2 q2) fun iv s3 hZ1=>?_) hs;obtain ⟨y,H3,I3,ry,a,H4,ex,g,q3⟩:=hZ1;subst ex;obtain rfl:u=Value.ref a:=rx;exact BE hu I3 g ry rv fun s4 I4=>⟨σ,H4,I4,q3⟩
end
theorem cH {P:Program} {w:World} {H:Hp} (h:Heap) (hb:sysModules < h.objs.size):Sd P w H (h.push { cls:=.type "dict",data:=.dict #[] }) h.objs.size (.dK []):=
 ⟨Nat.zero_le _,beq_eq_false_iff_ne.mpr (Ne.symm (Nat.ne_of_lt hb)),[],.nil,Heap.DictOf.new h⟩
noncomputable def HK:TE:=fun _ H Q=>∀ p,H p=none->Q (.ref p) (upd H p (.dK []))
section
variable {X:Cx} {pos:Pos}
theorem cq:PE X (.Dict [] [] pos) HK:=fun pins s σ H Q I h=>
 wpAny_Dict_empty ⟨.ref s.heap.objs.size,_,I.laid (a:=s.heap.objs.size) (o:=.dK []) (t':=s.toks) (fun _ _ q=>Heap.get?_push_of_some _ q) (Nat.le_refl _) (cH s.heap I.big),rfl,h _ (I.hok.fresh (Nat.le_refl _))⟩
end
structure M1 (X:Cx) (o:Expr) (m:Str) (apos:Pos) (e:Expr) (cpos:Pos):Prop where
 base:attributeBase o m X.env (eval o X.env)=eval o X.env
 few:((backTo cpos (starEach [e] X.env)).all (fun x=>!x.1) && (backToKw cpos (keywordEach [] X.env)).all (fun x=>x.1.isSome)
  && decide (([e]:List Expr).length + ([]:List Keyword).length + (if ([]:List Keyword).isEmpty then 0 else 1) < 30))=true
 line:(apos.endLine == cpos.line)=true
 trees:backTo cpos (starEach [e] X.env)=[(false,eval e X.env)]
structure M2 (X:Cx) (o:Expr) (m:Str) (apos:Pos) (e f:Expr) (cpos:Pos):Prop where
 base:attributeBase o m X.env (eval o X.env)=eval o X.env
 few:((backTo cpos (starEach [e,f] X.env)).all (fun x=>!x.1) && (backToKw cpos (keywordEach [] X.env)).all (fun x=>x.1.isSome)
  && decide (([e,f]:List Expr).length + ([]:List Keyword).length + (if ([]:List Keyword).isEmpty then 0 else 1) < 30))=true
 line:(apos.endLine == cpos.line)=true
 trees:backTo cpos (starEach [e,f] X.env)=[(false,eval e X.env),(false,eval f X.env)]
section
variable {X:Cx} {pins:List (Addr × Obj)} {σ:St} {H:Hp} {s:Shared} {a:Addr} {y d:V} {u r:Value} {o:Option V} {A:Around} {E:Value->Shared->Prop}
end
section
variable {X:Cx} {o e f:Expr} {apos cpos:Pos} {td ty tx:TE}
end
section
variable {X:Cx} {pins:List (Addr × Obj)} {σ:St} {H:Hp} {s:Shared} {a:Addr} {kvs:List (Key × V)} {A:Around} {E:Value->Shared->Prop}
end
section
variable {X:Cx} {pins:List (Addr × Obj)} {σ:St} {H:Hp} {s:Shared} {a:Addr} {y:V} {u:Value} {A:Around} {E:Value->Shared->Prop}
end
end L2
namespace Att
open PySem PySem.W PySem.Calls PyProof.Rows
theorem Cs {P:Params} {h:Heap}:∀ (ns:List Int) (vs:List Value),WellAll P h vs (ns.map WData.int)->IntsAre vs ns:=by
 intro ns
 induction ns with
 | nil=>
  intro vs w;rw [map_nil] at w;cases w;exact .nil
 | cons n ns ih=>
  intro vs w;rw [map_cons] at w;cases w with
  | cons a b=>
   cases a;exact .cons _ _ (ih _ b)
theorem SE {l:OpenLaw} {n:Nat} (hn:l.most=some n) {P:Params} {h:Heap} {args:List WData} {vals:List Value}
  (hpre:l.row.toRowW.claim.pre args=true) (hwl:WellAll P h vals args) :
  ∃ a vs ns,vals=[Value.ref a]/\args=[WData.list (ns.map WData.int)]/\h.get? a=some { cls:=.type "list",data:=.seq vs.toArray }/\IntsAre vs ns/\ns.length <= n:=by
 have hsh:WShape.hasAll [] args [.list .int]=true:=(pre_splitW hpre).1;have hc:l.pre.holds [] { args:=args }=true:=(pre_splitW hpre).2;obtain ⟨d,r,rfl,h1,h2⟩:=hasAllW_cons hsh;obtain rfl:=hasAllW_nil h2;obtain ⟨xs,rfl,h3⟩:=hasW_list h1;obtain ⟨ns,rfl⟩:=items_int h3;have hlen:ns.length <= n:=by
  unfold OpenLaw.pre at hc;have h4:(WTm.not (.lt (.lit (.int (n:Int))) (.len (.arg 0)))).holds [] { args:=[.list (ns.map .int)] }=true:=by
   have h4:=(holds_andW hc).1;rw [hn] at h4;exact h4
  have h5:=condW_of h4 (w_not (w_lt w_lit (w_len_list (w_arg rfl))));rw [length_map] at h5;refine Nat.le_of_not_lt fun q=>?_
  have q':(n:Int) < ((ns.length:Nat):Int):=by omega
  first
   | (rw [decide_eq_true q'] at h5;exact absurd h5 (by decide))
   | (simp at h5;omega)
 cases hwl with
 | cons w1 w2=>
  cases w2;cases w1 with
  | list ho hall=>exact ⟨_,_,ns,rfl,rfl,ho,Cs ns _ hall,hlen⟩
theorem AF (l:OpenLaw) (args:List WData):l.row.toRowW.claim.post args (.bool true) args=true:=
 postW_of (r:=l.row.toRowW) (X:=(true == true))
  (show WShape.has [] (.bool true) .bool=true by first | rfl | decide | simp [WShape.has,WShape.arms,WShape.armsAll])
  (show (WTm.eq .res (.lit (.bool true))).value [] { args:=args,res:=some (.bool true),after:=args }=some (.bool (true == true)) from w_eq_bool (w_res rfl) w_lit) rfl
theorem attach_call {l:OpenLaw} {n:Nat} {q:Program} {loose:List Str} {XP:(Str->Option Value)->Heap->Prop} {YP:World->Heap->Prop} {d:DefRec}
  (hn:l.most=some n) (hdf:d.params.defaults=[])
  (call:∀ (w:World) (s₀ s₁:Shared) (mg mb:Str->Option Value) (fa:Addr) (o:Obj) (pm cd doc:Value) (a:Addr) (vs:List Value) (ns:List Int),
   Ground q loose [] XP w s₀ mg mb s₁.heap->YP w s₁.heap ->
   s₁.heap.get? fa=some o->o.data=.func (docDef d.name d.params d.body d.scope pm cd doc)->s₁.heap.CodeRec cd d.name->mg d.name=some (.ref fa) ->
   s₁.heap.get? a=some { cls:=.type "list",data:=.seq vs.toArray }->IntsAre vs ns->ns.length <= n->s₁.gens=#[] ->
   codeAny (model l.prog w) callerA (.call (.ref fa) ⟨[.ref a],[]⟩) (fun r s'=>r=.ok (.ret (.bool true))/\OldK s₁.heap s'.heap/\s'.os=s₁.os/\AllBare s'.gens) s₁) :
  WalkO q loose XP YP l.row.toRowW d [] (fun f vs=>PySem.call f vs):=by
 intro w s₀ s₁ mg mb G Y fa o pm cd doc dV kV ho hd hcd hD hmg hg args vals as hpre hlay hrd hwl hlo;obtain rfl:dV=.none:=Dflts.none hD hdf;obtain rfl:kV=.none:=Dflts.noKw hD;obtain ⟨a,vs,ns,rfl,rfl,hobj,hints,hlen⟩:=SE hn hpre hwl;refine enter_call (codeAny_mono (call w s₀ s₁ mg mb fa o pm cd doc a vs ns G Y ho (fd_plain hd) hcd hmg hobj hints hlen hg) fun r s' hq=>?_);obtain ⟨rfl,h2,h3,h4⟩:=hq;exact ⟨.inl ⟨.bool true,.bool true,[],rfl,fun _=>rfl,.bool true,AF l _,fun _=>⟨List.Pairwise.nil,fun _ hm=>(nomatch hm)⟩⟩,h2,h3,h4⟩
section
variable {prog:Program} {w:World} {A:Around} {E:Value->Shared->Prop} {s:Shared} {K:Frag}
end
end Att
namespace L2
open PySem PySem.Spec PyProof.Rows
theorem ww:∀ {vs:List Value} {ns:List Int},IntsAre vs ns->Kd (ns.map V.int) vs
 | _,_,.nil=>.nil
 | _,_,.cons n t h=>.cons ⟨t,rfl⟩ (ww h)
noncomputable def CN (H:Hp):Prop:=∀ b,H b=none\/∃ o xs,H b=some (.frz o (.lst xs))
theorem LI {P:Program} {w:World} {K:W.Frag} {mg mb:Str->Option Value} {CX:CXT} {k:Nat} {fa a:Addr} {fd:FuncData} {x:Str} {sp:Sp} {s₁:Shared} {vs:List Value} {ns:List Int}
  (KX:K.In s₁.heap) (hns:s₁.heap.Ns mainGlobals mg) (hb:s₁.heap.Ns builtinsNs mb) (hbb:∀ x:Str,x ≠ "__name__" -> mb x=bootBuiltins x) (hlim:s₁.heap.NoLimit) (hg:s₁.gens=#[])
  (ha:s₁.heap.get? a=some { cls:=.type "list",data:=.seq vs.toArray }) (hi:IntsAre vs ns) (hl:ns.length <= sizeLine) (hr:kj k callerA)
  (F:∀ base:Heap,K.In base->base.Ns mainGlobals mg->Gb P w K mg base CX k fa fd [x] sp) (hbind:∀ (s:Shared) (u:Value),BindsTo s fd ⟨[u],[]⟩ [(x,u)])
  (hsp:∀ H:Hp,CN H->SqL K H a (ns.map V.int)->sp [.ref a] H (fun v _=>v=.bl true) fun _ _ _=>False)
  (hCX:∀ H e s',CX [] H s₁ (fun _ _ _=>False) e s'->False) :
  codeAny (model P w) callerA (.call (.ref fa) ⟨[.ref a],[]⟩) (fun r s'=>r=.ok (.ret (.bool true))/\OldK s₁.heap s'.heap/\s'.os=s₁.os/\AllBare s'.gens) s₁:=by
 have rv:=ww hi;have lenV:=hi.length;have core:∀ H:Hp,CN H->SqL K H a (ns.map V.int)->HOk P w H s₁.heap->(∀ b,H b ≠ none->b=a)->(H a ≠ none->K.lookup a=none) ->
   codeAny (model P w) callerA (.call (.ref fa) ⟨[.ref a],[]⟩) (fun r s'=>r=.ok (.ret (.bool true))/\OldK s₁.heap s'.heap/\s'.os=s₁.os/\AllBare s'.gens) s₁:=by
  intro H hO hS hok hA hK;have base_of:∀ {b:Addr} {o:Obj},s₁.heap.get? b=some o->H b=none->(iJ s₁.heap H).get? b=some o:=fun e n=>TH e n
  have noA:∀ {b:Addr} {o:Obj} {es:Array DictEntry} {ep:Nat},s₁.heap.get? b=some o->o.data=.dict es ep->H b=none:=fun {b o es ep} e d=>by
   cases q:H b with
   | none=>rfl
   | some u=>
    have e':b=a:=hA b (by rw [q];simp);subst e';rw [ha] at e;cases e;have d':Data.seq vs.toArray _=Data.dict es ep:=d;cases d'
  have nsK:∀ {b:Addr} {m:Str->Option Value},s₁.heap.Ns b m->(iJ s₁.heap H).Ns b m:=fun {b m} ⟨o,es,ep,e,d,r⟩=>⟨o,es,ep,base_of e (noA e d),d,r⟩
  have hKb:K.In (iJ s₁.heap H):=fun b o e=>base_of (KX b o e) (by
   cases q:H b with
   | none=>rfl
   | some u=>
    have e':b=a:=hA b (by rw [q];simp);subst e';rw [hK (by rw [q];simp)] at e;cases e)
  have hM:Mod K mg (iJ s₁.heap H):=⟨hKb,nsK hns,⟨mb,nsK hb,hbb⟩,let ⟨mc,h1,h2⟩:=hlim;⟨mc,nsK h1,h2⟩⟩;have e0:iF P w K mg (iJ s₁.heap H) callerA [] s₁ H:=⟨rfl,hM,fun b o e=>PK e,Nat.le_of_eq (jG _ _),trivial,fun b hb=>absurd (show b ∈ ([]:List Addr) from hb) (by simp),hok,.of_eq hg⟩;refine codeAny_mono ((F _ hKb (nsK hns)).run callerA [] s₁ H ⟨[.ref a],[]⟩ [.ref a] [.ref a] _ _ hr e0 (hbind s₁ (.ref a)) (.cons rfl .nil) (hsp H hO hS)) fun r s' h=>?_
  cases r with
  | error e=>exact (hCX H e s' h).elim
  | ok fl=>
   cases fl with
   | next=>exact False.elim h
   | brk=>exact False.elim h
   | cont=>exact False.elim h
   | ret u=>
    obtain ⟨v,H',os,bare,un,hok',r',q⟩:=h;have q':v=.bl true:=q;subst q';obtain rfl:u=Value.bool true:=r';refine ⟨rfl,OldK.of_keep fun b o e=>?_,os,bare⟩;cases q:H b with
    | none=>exact un.keep b o e q (by intro z;exact absurd (show b ∈ ([]:List Addr) from z) (by simp)) (by simp)
    | some u=>
     rcases hO b with z | ⟨ob,xs,z⟩
     ·rw [q] at z;cases z
     ·have z2:=un.frzs b ob _ z;obtain ⟨e1,_⟩:=hok b _ z;obtain ⟨e2,_⟩:=hok' b _ z2;rw [e] at e1;cases e1;exact e2
 cases hk:K.lookup a with
 | some o=>
  have e:=KX a o hk;rw [ha] at e;cases e;refine core (fun _=>none) (fun _=>.inl rfl) (.inr ⟨_,vs.toArray,_,hk,rfl,rfl,rfl,by rw [size_toArray,lenV];exact hl,by simpa using rv⟩) (fun b u z=>by have z':(none:Option HO)=some u:=z;cases z') (fun b z=>absurd rfl z) fun z=>absurd rfl z
 | none=>
  refine core (fun b=>if b=a then some (.frz { cls:=.type "list",data:=.seq vs.toArray } (.lst (ns.map V.int))) else none) (fun b=>?_) (.inl (.inr ⟨{ cls:=.type "list",data:=.seq vs.toArray },if_pos rfl⟩)) (fun b u z=>?_) (fun b z=>?_) fun _=>hk
  ·by_cases hb:b=a
   ·exact .inr ⟨_,_,if_pos hb⟩
   ·exact .inl (if_neg hb)
  ·by_cases hb:b=a
   ·have z':=(if_pos hb).symm.trans z;cases z';subst hb;exact ⟨ha,by rw [length_map];exact hl,vs,_,rv,ha⟩
   ·have z':=(if_neg hb).symm.trans z;cases z'
  ·by_cases hb:b=a
   ·exact hb
   ·exact absurd (if_neg hb) z
end L2
namespace L2
open PySem PySem.Spec PyProof.Rows
noncomputable abbrev KOf {K:W.Frag} {h:Heap} (_:K.In h):W.Frag:=K
theorem UK {l:PySem.W.OpenLaw} {n k:Nat} {q:Program} {loose:List Str} {XP:(Str->Option Value)->Heap->Prop} {YP:World->Heap->Prop} {d:DefRec} {K:Params->W.Frag} {CX:World->CXT} {sp:World->Sp} {x:Str}
  (hn:l.most=some n) (hn2:n <= sizeLine) (hdf:d.params.defaults=[]) (hr:kj k callerA)
  (hY:∀ (w:World) (h:Heap),YP w h->(K w.params).In h)
  (F:∀ (w:World) (mg:Str->Option Value) (fa:Addr) (h:Heap),(K w.params).In h->h.Ns mainGlobals mg->mg d.name=some (.ref fa) ->
   ∃ fd:FuncData,(∀ (s:Shared) (u:Value),BindsTo s fd ⟨[u],[]⟩ [(x,u)]) /\
    ∀ base:Heap,(K w.params).In base->base.Ns mainGlobals mg->Gb l.prog w (K w.params) mg base (CX w) k fa fd [x] (sp w))
  (hsp:∀ (w:World) (H:Hp) (a:Addr) (ns:List Int),ns.length <= n->CN H->SqL (K w.params) H a (ns.map V.int)->sp w [.ref a] H (fun v _=>v=.bl true) fun _ _ _=>False)
  (hCX:∀ (w:World) (H:Hp) (s:Shared) (e:Value) (s':Shared),CX w [] H s (fun _ _ _=>False) e s'->False) :
  PySem.W.WalkO q loose XP YP l.row.toRowW d [] (fun f vs=>PySem.call f vs):=by
 refine Att.attach_call hn hdf fun w s₀ s₁ mg mb fa o pm cd doc a vs ns G Y ho hd hcd hmg hobj hints hlen hg=>?_
 have KX:=hY w _ Y;obtain ⟨fd,hb,hF⟩:=F w mg fa _ KX G.T.g hmg;exact LI KX G.T.g G.T.b G.T.builtins G.T.nolimit hg hobj hints (Nat.le_trans hlen hn2) hr hF hb (fun H hO hS=>hsp w H a ns hlen hO hS) fun H e s'=>hCX w H s₁ e s'
theorem DH {l:PySem.W.OpenLaw} {n k:Nat} {q:Program} {loose:List Str} {XP:(Str->Option Value)->Heap->Prop} {YP:World->Heap->Prop} {d:DefRec} {K:Params->W.Frag} {CX:CXT} {sp:W.Frag->Sp} {x:Str}
  (hn:l.most=some n) (hn2:n <= sizeLine) (hdf:d.params.defaults=[]) (hr:kj k callerA)
  (hY:∀ (w:World) (h:Heap),YP w h->(K w.params).In h)
  (F:∀ (w:World) (mg:Str->Option Value) (fa:Addr) (h:Heap),(K w.params).In h->h.Ns mainGlobals mg->mg d.name=some (.ref fa) ->
   ∃ fd:FuncData,(∀ (s:Shared) (u:Value),BindsTo s fd ⟨[u],[]⟩ [(x,u)]) /\
    ∀ base:Heap,(K w.params).In base->base.Ns mainGlobals mg->Gb l.prog w (K w.params) mg base CX k fa fd [x] (sp (K w.params)))
  (hsp:∀ (K:W.Frag) (H:Hp) (a:Addr) (ns:List Int),ns.length <= n->CN H->SqL K H a (ns.map V.int)->sp K [.ref a] H (fun v _=>v=.bl true) fun _ _ _=>False)
  (hCX:∀ (H:Hp) (s:Shared) (e:Value) (s':Shared),CX [] H s (fun _ _ _=>False) e s'->False) :
  PySem.W.WalkO q loose XP YP l.row.toRowW d [] (fun f vs=>PySem.call f vs):=
 UK (K:=K) (CX:=fun _=>CX) (sp:=fun w=>sp (K w.params)) hn hn2 hdf hr hY F (fun w H a ns h1 h2 h3=>hsp (K w.params) H a ns h1 h2 h3) fun _ H s e s'=>hCX H s e s'
end L2
namespace L2
open PySem PySem.Spec PyProof.Rows
noncomputable def jd (s:Stmt) (j:Nat):Stmt:=match s with
 | .ClassDef _ _ _ body _ _ _ _ _ _ _=>body.getD j (.Pass ⟨0,0,0,0⟩)
 | _=>.Pass ⟨0,0,0,0⟩
noncomputable def tw (s:Stmt):Arguments:=match s with
 | .FunctionDef _ a _ _ _ _ _ _ _ _=>a
 | _=>{ posonlyargs:=[],args:=[],vararg:=none,kwonlyargs:=[],kw_defaults:=[],kwarg:=none,defaults:=[] }
noncomputable def Fo (s:Stmt):List Stmt:=match s with
 | .FunctionDef _ _ b _ _ _ _ _ _ _=>b
 | _=>[]
noncomputable def rb (s:Stmt):Scope:=match s with
 | .FunctionDef _ _ _ _ _ _ sc _ _ _=>sc
 | _=>{ kind:=.function,names:=[],isGenerator:=false,isCoroutine:=false }
noncomputable abbrev CX0:CXT:=fun _ _ _ _ _ _=>False
noncomputable abbrev E0:XK:=fun _ _ _=>False
theorem Fb {X:Cx}:Sl CX0 X E0:=fun _ _ _ _ _ _ _ h=>h.elim
structure Fun (K:W.Frag) (x qual:Str) (st:Stmt) (f:Addr) (fd:FuncData):Prop where
 ex:∃ (oc:Value) (od:Option Addr) (kV doc pm:Value) (an:Option Addr) (cdv ct:Value) (osl:Array (Option Value)),
  fd=PySem.W.fnOf x qual (tw st) (Fo st) (rb st) .none kV doc pm an cdv ct/\K.lookup f=some ⟨oc,od,.func fd,osl⟩/\PySem.W.codeIn K cdv qual=true
 kp:PySem.W.keepIn K (.ref f)=true
section
variable {P:Program} {w:World} {K:W.Frag} {mg:Str->Option Value} {base:Heap}
theorem Fun.ok {x qual:Str} {st:Stmt} {f:Addr} {fd:FuncData} {N ps:List Str} {k:Nat} {sp:Sp} (F:Fun K x qual st f fd) (S:Ab N ps (rb st)) (len:∀ vs H Q E,sp vs H Q E->vs.length=ps.length)
  (hbody:∀ (cdv:Value) (A:Around) (outer:List Env) (s:Shared) (H:Hp) (vs:List V) (Q:VK) (E:XK),kj k (A.deeper (envOfC qual (rb st) s.heap.objs.size f cdv))->sp vs H Q E ->
   ∃ t,PSs (MD CX0 P w K mg base N qual (rb st) f cdv A outer s H E).nox (Fo st) t/\t { nx:=fun _ H'=>Q .non H',rt:=Q } (start N vs) H):Gb P w K mg base CX0 (k + 1) f fd ps sp:=by
 obtain ⟨oc,od,kV,doc,pm,an,cdv,ct,osl,rfl,lk,hcd⟩:=F.ex;refine GO lk hcd S len fun A outer s H vs Q E hr hsp=>?_
 obtain ⟨t,h,q⟩:=hbody cdv A outer s H vs Q E hr hsp;exact ⟨t,h.nox,q⟩
theorem Fun.binds {x qual:Str} {st:Stmt} {f:Addr} {fd:FuncData} {ps:List Str} (F:Fun K x qual st f fd)
  (h:∀ (kV doc pm:Value) (an:Option Addr) (cdv ct:Value) (us:List Value),us.length=ps.length->bindArgs (PySem.W.fnOf x qual (tw st) (Fo st) (rb st) .none kV doc pm an cdv ct) ⟨us,[]⟩=pure (ps.zip us)):Ub K fd ps []:=by
 obtain ⟨oc,od,kV,doc,pm,an,cdv,ct,osl,rfl,lk,hcd⟩:=F.ex;exact .all (h kV doc pm an cdv ct)
theorem qN {x qual:Str} {st:Stmt} {f:Addr} {oc:Value} {od an:Option Addr} {osl:Array (Option Value)} {kV doc pm cdv ct:Value} (l:K.lookup f=some ⟨oc,od,.func (PySem.W.fnOf x qual (tw st) (Fo st) (rb st) .none kV doc pm an cdv ct),osl⟩)
  (c:PySem.W.codeIn K cdv qual=true) (k:PySem.W.keepIn K (.ref f)=true):Fun K x qual st f (PySem.W.fnOf x qual (tw st) (Fo st) (rb st) .none kV doc pm an cdv ct):=⟨⟨oc,od,kV,doc,pm,an,cdv,ct,osl,rfl,l,c⟩,k⟩
end
theorem CC {A:Around} {k:Nat} (hr:kj k A):A.units + 1 < cLine:=Nat.lt_of_le_of_lt (Nat.add_le_add_left (by decide:1 <= 64) _) hr.units
section
variable {X:Cx}
theorem pv (i:Nat) {x:Str} {pos:Pos} (hN:X.N[i]? = some x:=by rfl) (hv:Vis X.env.scope x:=by first | exact Or.inl rfl | exact Or.inr (Or.inl rfl) | exact Or.inr (Or.inr rfl)) (hd:(x == ("__debug__" : Str))=false:=by decide)
  (hcd:(x == ("__classdict__" : Str))=false:=by decide):PE X (.Name x pos) (tQ i):=JN hN hv hd hcd
end
noncomputable def Pb (H H':Hp):Prop:=∀ b o,H b=some o->H' b=some o
theorem Pb.refl (H:Hp):Pb H H:=fun _ _ h=>h
theorem Pb.trans {H H1 H2:Hp} (a:Pb H H1) (b:Pb H1 H2):Pb H H2:=fun c o h=>b c o (a c o h)
theorem Pb.free {H H':Hp} (e:Pb H H') {l:Addr} (h:H' l=Option.none):H l=Option.none:=by
 cases q:H l with
 | none=>rfl
 | some o=>
  rw [e l o q] at h;cases h
theorem Pb.seq {K:W.Frag} {H H':Hp} {a:Addr} {xs:List V} (e:Pb H H') (h:SqL K H a xs):SqL K H' a xs:=by
 rcases h with (h | ⟨o,h⟩) | h
 ·exact .inl (.inl (e _ _ h))
 ·exact .inl (.inr ⟨o,e _ _ h⟩)
 ·exact .inr h
section
variable {κ:Type} [DecidableEq κ]
end
end L2
set_option maxHeartbeats 4000000
namespace L2
open PySem PySem.Spec PyProof.Rows
noncomputable def vw (cells:List (Str × Addr)):List (Str × NameKind)->List (Str × Addr)->List (Str × Addr)
 | [],acc=>acc
 | (n,k) :: r,acc=>if k == .free then (match cells.lookup n with | some c=>vw cells r ((n,c) :: acc) | none=>vw cells r acc) else vw cells r acc
theorem Qz {env:Env}:∀ (names:List (Str × NameKind)) (acc:List (Str × Addr)),(∀ y ∈ names,y.2=.free->∃ c,env.cells.lookup y.1=some c) ->
  (forIn names acc (fun (x:Str × NameKind) (cs:List (Str × Addr))=>(if (x.2 == .free)=true then do let a <- cellOf env x.1;pure (ForInStep.yield ((x.1,a) :: cs)) else pure (ForInStep.yield cs):Sem (ForInStep (List (Str × Addr))))))=pure (vw env.cells names acc)
 | [],acc,_=>rfl
 | (n,k) :: r,acc,h=>by
  have hr:∀ y ∈ r,y.2=.free->∃ c,env.cells.lookup y.1=some c:=fun y hy=>h y (mem_cons_of_mem _ hy)
  rw [List.forIn_cons];by_cases hk:(k == NameKind.free)=true
  ·have e:k=.free:=by simpa using hk
   obtain ⟨c,hc⟩:=h (n,k) mem_cons_self e;have hc':env.cells.lookup n=some c:=hc;simp only [vw,hk,if_true,hc',cellOf];exact Qz r _ hr
  ·simp only [vw,hk];exact Qz r _ hr
theorem kG {scope:Scope} {env:Env} (h:∀ y ∈ scope.names,y.2=.free->∃ c,env.cells.lookup y.1=some c):closureFor scope env=pure (vw env.cells scope.names []):=by
 unfold closureFor;exact congrArg (fun t=>t >>= pure) (Qz scope.names [] h)
theorem nq {cells:List (Str × Addr)}:∀ (names:List (Str × NameKind)) (acc:List (Str × Addr)) {x:Str} {c:Addr},(vw cells names acc).lookup x=some c->acc.lookup x=some c\/cells.lookup x=some c
 | [],acc,x,c,h=>.inl h
 | (n,k) :: r,acc,x,c,h=>by
  unfold vw at h;split at h
  ·cases q:cells.lookup n with
   | none=>rw [q] at h;exact nq r acc h
   | some d=>
    rw [q] at h;rcases nq r _ h with z | z
    ·rw [lookup_cons] at z;by_cases hx:(x == n)=true
     ·rw [hx] at z;have e:x=n:=by simpa using hx
      subst e
      right;rw [q];exact z
     ·have hx':(x == n)=false:=by simpa using hx
      rw [hx'] at z;exact .inl z
    ·exact .inr z
  ·exact nq r acc h
theorem Nn {cells:List (Str × Addr)}:∀ (names:List (Str × NameKind)) (acc:List (Str × Addr)) {x:Str} {c:Addr},acc.lookup x=some c->cells.lookup x=some c->(vw cells names acc).lookup x=some c
 | [],acc,x,c,h,_=>h
 | (n,k) :: r,acc,x,c,h,hc=>by
  unfold vw;split
  ·cases q:cells.lookup n with
   | none=>exact Nn r acc h hc
   | some d=>
    refine Nn r _ ?_ hc;rw [lookup_cons];by_cases hx:(x == n)=true
    ·have e:x=n:=by simpa using hx
     subst e;rw [hx];rw [q] at hc;exact hc
    ·have hx':(x == n)=false:=by simpa using hx
     rw [hx'];exact h
  ·exact Nn r acc h hc
theorem jo {cells:List (Str × Addr)}:∀ (names:List (Str × NameKind)) (acc:List (Str × Addr)) {x:Str} {c:Addr},(x,NameKind.free) ∈ names->cells.lookup x=some c->(vw cells names acc).lookup x=some c
 | [],_,_,_,h,_=>nomatch h
 | (n,k) :: r,acc,x,c,h,hc=>by
  rcases List.mem_cons.mp h with e | h
  ·cases e;unfold vw;rw [if_pos (by decide),hc];refine Nn r _ ?_ hc;rw [lookup_cons];simp
  ·unfold vw;split
   ·cases q:cells.lookup n with
    | none=>exact jo r acc h hc
    | some d=>exact jo r _ h hc
   ·exact jo r acc h hc
theorem qo {α:Type}:∀ {l:List (Str × α)} {x:Str} {a:α},l.lookup x=some a->(x,a) ∈ l
 | [],_,_,h=>by simp at h
 | (n,b) :: r,x,a,h=>by
  rw [lookup_cons] at h;by_cases hx:(x == n)=true
  ·have e:x=n:=by simpa using hx
   subst e;rw [hx] at h;have e2:b=a:=Option.some.inj h;subst e2;exact mem_cons_self
  ·have hx':(x == n)=false:=by simpa using hx
   rw [hx'] at h;exact mem_cons_of_mem _ (qo h)
theorem Rz {env:Env} {scope:Scope} {x:Str} {k:NameKind} (h:(relabel scope env).names.lookup x=some k) (hk:k=.cell\/k=.free) (hc:∀ y ∈ scope.names,y.2 ≠ .cell):(x,NameKind.free) ∈ scope.names:=by
 have h1:=qo h;obtain ⟨⟨n,j⟩,hm,e⟩:=List.mem_map.mp h1;have e':(if (j == NameKind.free && env.scope.kind == .function && env.kindOf n == some .cell)=true then (n,NameKind.cell) else (n,j))=(x,k):=e;split at e'
 ·rename_i hcond;have e1:n=x:=(Prod.mk.inj e').1;subst e1;have hj:j=.free:=by
   simp only [Bool.and_eq_true] at hcond;simpa using hcond.1.1
  subst hj;exact hm
 ·have e1:n=x:=(Prod.mk.inj e').1;have e2:j=k:=(Prod.mk.inj e').2;subst e1;subst e2;rcases hk with z | z
  ·exact absurd z (hc _ hm)
  ·subst z;exact hm
theorem Im {env:Env} {scope:Scope} {x:Str} (h:scope.names.lookup x=some .free):(relabel scope env).names.lookup x=some .cell\/(relabel scope env).names.lookup x=some .free:=by
 have all:∀ (names:List (Str × NameKind)),names.lookup x=some .free ->
   (names.map fun (n,k)=>if (k == NameKind.free && env.scope.kind == .function && env.kindOf n == some .cell) then (n,NameKind.cell) else (n,k)).lookup x=some .cell \/
   (names.map fun (n,k)=>if (k == NameKind.free && env.scope.kind == .function && env.kindOf n == some .cell) then (n,NameKind.cell) else (n,k)).lookup x=some .free:=by
  intro names
  induction names with
  | nil=>intro h;simp at h
  | cons p r ih=>
   obtain ⟨n,k⟩:=p;intro h;rw [map_cons];by_cases hx:(x == n)=true
   ·simp only [lookup_cons,hx] at h;have hk:k=.free:=Option.some.inj h;subst hk;by_cases hc:(NameKind.free == NameKind.free && env.scope.kind == .function && env.kindOf n == some .cell)=true
    ·left;simp only [if_pos hc,lookup_cons,hx]
    ·right;simp only [if_neg hc,lookup_cons,hx]
   ·have hx':(x == n)=false:=by simpa using hx
    simp only [lookup_cons,hx'] at h;by_cases hc:(k == NameKind.free && env.scope.kind == .function && env.kindOf n == some .cell)=true
    ·simp only [if_pos hc,lookup_cons,hx'];exact ih h
    ·simp only [if_neg hc,lookup_cons,hx'];exact ih h
 exact all scope.names h
noncomputable abbrev Cx.block (X:Cx) (scope:Scope) (C:Addr) (N:List Str) (s:Shared) (H:Hp) (fp:List Addr):Cx where
 prog:=X.prog
 w:=X.w
 K:=X.K
 mg:=X.mg
 base:=X.base
 A:=X.A
 N:=N
 s₀:=s
 H₀:=H
 env:=compEnvC scope (vw X.env.cells scope.names []) C X.env
 outer:=X.stack
 stack:=X.stack
 ex:=fp
 fn:=fun _=>false
 calm:=X.calm
 pn:=[]
 xe:=fun _ _=>False
structure ip (env:Env) (scope:Scope):Prop where
 kind:scope.kind=.function
 nocell:∀ y ∈ scope.names,y.2 ≠ .cell
 fr:∀ y ∈ scope.names,y.2=.free->env.kindOf y.1=some .cell\/env.kindOf y.1=some .free
 loc:∀ x ∈ scope.names,x.2=.local->scope.names.lookup x.1=some .local
noncomputable def blk (sel:List (Option Nat)) (σ:St):St:=sel.map fun o=>o.bind fun j=>(σ[j]?).join
noncomputable def AE (M:List Str) (scope:Scope) (N:List Str) (sel:List (Option Nat)):Prop:=
 sel.length=N.length/\∀ (i j:Nat) (x:Str),sel[i]? = some (some j)->N[i]? = some x->M[j]? = some x/\scope.names.lookup x=some .free
section
variable {X:Cx} {pins:List (Addr × Obj)} {σ:St} {H:Hp} {s:Shared} {scope:Scope} {fp:List Addr} {C:Addr} {N:List Str}
theorem ip.cells (S:ip X.env scope) (ok:X.Ok):∀ y ∈ scope.names,y.2=.free->∃ c,X.env.cells.lookup y.1=some c:=fun y hy e=>ok.has y.1 (S.fr y hy e)
theorem ju {x:Str} {c:Addr} (h:(vw X.env.cells scope.names []).lookup x=some c):X.env.cells.lookup x=some c:=by
 rcases nq _ _ h with z | z
 ·simp at z
 ·exact z
theorem rB (I:Inv X pins σ H s) (S:ip X.env scope) (hf:∀ b ∈ fp,Ow X pins H b) (hs:∀ b ∈ fp,b < s.heap.objs.size) (hC:s.heap.objs.size <= C):(X.block scope C N s H fp).Ok where
 mod:=I.ok.mod
 kind:=S.kind
 glob:=I.ok.glob
 blt:=I.ok.blt
 above:=hC
 inj:=fun x y c h1 h2=>I.ok.inj x y c (ju h1) (ju h2)
 has:=fun x h=>by
  have hk:∃ k,(relabel scope X.env).names.lookup x=some k/\(k=.cell\/k=.free):=by
   rcases h with h | h
   ·exact ⟨_,h,.inl rfl⟩
   ·exact ⟨_,h,.inr rfl⟩
  obtain ⟨k,h1,h2⟩:=hk;have hm:=Rz h1 h2 S.nocell;obtain ⟨c,hc⟩:=S.cells I.ok _ hm rfl;exact ⟨c,jo _ _ hm hc⟩
 cab:=fun _ _ h _=>nomatch h
 hd:=I.ok.hd
 frames:=I.ok.frames
 stk:=.inl rfl
 exf:=fun b hb=>⟨Nat.ne_of_lt (Nat.lt_of_lt_of_le (hs b hb) hC),fun x c e=>(hf b hb).2.2.2.2.1 x c (ju e)⟩
 bs:=I.bs
 bsz:=Nat.le_trans I.ok.bsz I.sz
 noex:=fun b o e hb=>by
  rcases (hf b hb).2.2.2.1 with z | z
  ·exact I.ok.noex b o e z
  ·exact absurd (Nat.lt_of_lt_of_le (Nat.lt_of_lt_of_le (Heap.lt_size e) I.ok.bsz) z) (Nat.lt_irrefl _)
 exfs:=fun b hb hz=>by
  rcases List.mem_cons.mp (I.stkSub b hz) with z | z
  ·exact (hf b hb).2.1 z
  ·exact (hf b hb).2.2.1 z
 funs:=I.stack
 frf:=I.stkFree
theorem bE {h':Heap} {t':Nat} {m:Str->Option Value} {sel:List (Option Nat)} (I:Inv X pins σ H s) (S:ip X.env scope) (hf:∀ b ∈ fp,Ow X pins H b) (hs:∀ b ∈ fp,b < s.heap.objs.size) (hC:s.heap.objs.size <= C)
  (k:∀ b o,s.heap.get? b=some o->h'.get? b=some o) (hn:h'.Ns C m) (hsel:AE X.N scope N sel):Inv (X.block scope C N s H fp) [] (blk sel σ) H { s with heap:=h',toks:=t' } where
 ok:=rB I S hf hs hC
 os:=rfl
 bare:=I.bare
 base:=Un.kept k
 loc:=by
  refine ⟨m,hn,fun i x v e1 e2 e3=>?_⟩;obtain ⟨m0,hn0,hl⟩:=I.loc;obtain ⟨j,ej,eσ⟩:∃ j,sel[i]? = some (some j)/\σ[j]? = some (some v):=by
   unfold blk at e2;rw [getElem?_map] at e2;cases q:sel[i]? with
   | none=>rw [q] at e2;cases e2
   | some o=>
    rw [q] at e2;cases o with
    | none=>cases e2
    | some j=>
     refine ⟨j,rfl,?_⟩;have e2':(σ[j]?).join=some v:=Option.some.inj e2;cases r:σ[j]? with
     | none=>rw [r] at e2';cases e2'
     | some z=>rw [r] at e2';exact congrArg some e2'
  obtain ⟨eN,hfr⟩:=hsel.2 i j x ej e1;have hm:=qo hfr;have hk:=S.fr _ hm rfl;have hv:Vis X.env.scope x:=hk.elim (fun z=>.inr (.inl z)) fun z=>.inr (.inr z)
  obtain ⟨u,r,l⟩:=hl j x v eN eσ hv;refine ⟨u,r,?_⟩;rcases l with ⟨hloc,_⟩ | ⟨_,c,hc,hcell⟩
  ·rcases hk with z | z <;> (have z':X.env.kindOf x=_:=z;rw [hloc] at z';cases z')
  ·refine .inr ⟨?_,c,jo _ _ hm hc,?_⟩
   ·exact Im hfr
   ·obtain ⟨o,ho,hd⟩:=hcell;exact ⟨o,k _ _ ho,hd⟩
 cell:=fun x c e=>by
  obtain ⟨v,o,ho,hd⟩:=I.cell x c (ju e);exact ⟨v,o,k _ _ ho,hd⟩
 free:=I.hok.fresh hC
 freeC:=fun x c e=>I.freeC x c (ju e)
 pin:=fun p hp=>nomatch hp
 hok:=I.hok.kept k
 len:=by unfold blk;rw [length_map];exact hsel.1
theorem Inv.adopt {a:Addr} {o:HO} (I:Inv X pins σ H s) (fo:Ow X pins H a) (new:Sd X.prog X.w (upd H a o) s.heap a o):Inv X pins σ (upd H a o) s:=by
 obtain ⟨hn,hL,hfs,hex,hcl,hpn⟩:=fo;refine I.step (g':=s.gens) (d':=s.drawn) (t':=s.toks) (h':=s.heap) (ch:=[a]) (fun b hb=>?_) (fun b o _ _ _ e _=>e) (fun b o _ _ _ e _=>⟨o.slots,e⟩) (fun b o hb e n=>?_) (fun b o _ e=>⟨o,e⟩)
  (fun b xs e=>?_) (fun b o u e=>?_) (fun b ps e=>⟨#[],?_⟩) (fun m hm=>hm) (fun b u e=>?_) I.bare
 ·have e:b=a:=by simpa using hb
  subst e;exact ⟨hex,hL,hcl,hpn⟩
 ·rw [jb (fun z=>hb (by simp [z]))];exact n
 ·rw [jb (yb e hn)];exact e
 ·rw [jb (yb e hn)];exact e
 ·rw [jb (yb e hn),e];simp
 ·by_cases hb:b=a
  ·subst hb;rw [db] at e;cases e;exact new
  ·rw [jb hb] at e;exact (I.hok b u e).stay (fun c v _ q=>q) (fun c q=>by rw [jb (yb q hn)];exact q) fun c xs q=>by rw [jb (yb q hn)];exact q
end
theorem Pl {prog:Program} {w:World} {A:Around} {R:Result->Shared->Prop} {s:Shared} {elt target iter:Expr} {ifs:List Expr} {scope:Scope} {pos:Pos} {it acc:Value} {env:Env} (I:Nat->Shared->Prop)
  (turn:∀ n s,I n s->wpAny (model prog w) A (pyNext it) (fun r s₁=>match r with
   | none=>R (.ok .next) s₁
   | some v=>wpAny (model prog w) A (letOwnedTupleGo target it v) (fun _ s₀=>wpAny (model prog w) A (assign target env v) (fun _ s₂=>
     wpAny (model prog w) A (forIn ifs true fun c r=>if r=true then do let ok <- isTrue c env (eval c env);pure (ForInStep.yield ok) else pure (ForInStep.yield r)) (fun ok s₃=>
      if ok=true then wpAny (model prog w) A (eval elt env) (fun x s₄=>
       wpAny (model prog w) A (call (.builtin "list.append") [acc,x]) (fun _ s₅=>∃ m,m < n/\I m s₅) (fun _ _=>False) s₄) (fun _ _=>False) s₃
      else ∃ m,m < n/\I m s₃) (fun _ _=>False) s₂) (fun _ _=>False) s₀) (fun _ _=>False) s₁) (fun _ _=>False) s)
  (n:Nat) (h:I n s) :
  codeAny (model prog w) A (.compLoop (.ListComp elt [⟨target,iter,ifs,0⟩] scope pos) 0 it acc env) R s:=by
 refine codeAny_loop rfl I (fun n s hI=>?_) n h;show wpAny _ A ((compTurn (.ListComp elt [⟨target,iter,ifs,0⟩] scope pos) 0 it acc env).onRaise (fun x=>do noteFrame x env;theTreesLotGoes x)) _ _ s;refine wpAny_noted (wpAny_noRaise ?_);rw [compTurn_list];refine wpAny_bind (wpAny_standAt (wpAny_bind (wpAny_mono (turn n s hI) (fun r s₁ h₁=>?_) fun _ _ h'=>h')));cases r with
 | none=>exact wpAny_pure h₁
 | some v=>
  refine wpAny_bind (wpAny_mono h₁ (fun _ s₀ h₀=>?_) fun _ _ h'=>h');refine wpAny_bind (wpAny_mono h₀ (fun _ s₂ h₂=>wpAny_bind (wpAny_mono h₂ (fun ok s₃ h₃=>?_) fun _ _ h'=>h')) fun _ _ h'=>h');cases ok with
  | false=>exact wpAny_pure ⟨rfl,h₃⟩
  | true=>
   exact wpAny_bind (wpAny_bind (wpAny_mono h₃ (fun x s₄ h₄=>wpAny_bind (wpAny_mono h₄ (fun _ s₅ h₅=>wpAny_pure (wpAny_pure ⟨rfl,h₅⟩)) fun _ _ h'=>h')) fun _ _ h'=>h'))
noncomputable def PTs (X:Cx) (ifs:List Expr) (t:TT):Prop:=
 ∀ (pins:List (Addr × Obj)) (s:Shared) (σ:St) (H:Hp) (Q:Bool->Hp->Prop),Inv X pins σ H s->t σ H Q ->
  wpAny (model X.prog X.w) X.A (forIn ifs true fun c r=>if r=true then do let ok <- isTrue c X.env (eval c X.env);pure (ForInStep.yield ok) else pure (ForInStep.yield r)) (TP X pins σ Q) X.xe s
noncomputable def Iy:TT:=fun _ H Q=>Q true H
theorem ag {X:Cx}:PTs X [] Iy:=fun _ _ _ H _ I h=>wpAny_tests_nil ⟨H,I,h⟩
theorem Nr {X:Cx} {c:Expr} {t:TT} (h:PT X c t):PTs X [c] t:=fun pins s σ H Q I q=>wpAny_tests_one (h pins s σ H Q I q)
noncomputable def Sub (σ σ':St):Prop:=σ'.length=σ.length/\∀ (i:Nat) (v:V),σ[i]? = some (some v)->σ'[i]? = some (some v)
theorem Sub.refl (σ:St):Sub σ σ:=⟨rfl,fun _ _ h=>h⟩
theorem Sub.set {σ σ':St} {i:Nat} {x:Option V} (h:Sub σ σ') (e:σ[i]? = some none):Sub σ (σ'.set i x):=by
 refine ⟨by rw [List.length_set];exact h.1,fun j v q=>?_⟩;have hj:i ≠ j:=fun z=>by subst z;rw [e] at q;cases q
 rw [getElem?_set_ne hj];exact h.2 j v q
noncomputable def oz (J:It) (g:TG) (tc:TT) (te:TE) (σb:St) (Q:VK) (W:Nat->Nat->List V->Hp->Prop):Prop:=∀ i m ys H,W i m ys H ->
 (J.stop i H/\∀ p,H p=none->Q (.ref p) (upd H p (.lst ys))) \/
 (J.go i H/\ys.length < sizeLine/\∀ x H',J.yld i H x H'->g x σb H' fun σ2 H2=>Sub σb σ2/\tc σ2 H2 fun c H3=>if c=true then te σ2 H3 fun y H4=>∃ m',m' < m/\W (i + 1) m' (ys ++ [y]) H4 else ∃ m',m' < m/\W (i + 1) m' ys H3)
noncomputable def mL (wi:TI) (g:TG) (tc:TT) (te:TE) (sel:List (Option Nat)):TE:=fun σ H Q=>wi σ H fun J H1=>∃ W:Nat->Nat->List V->Hp->Prop,(∃ m,W 0 m [] H1)/\oz J g tc te (blk sel σ) Q W
section
variable {X:Cx} {elt tg iter:Expr} {ifs:List Expr} {scope:Scope} {pos:Pos} {wi:TI} {g:TG} {tc:TT} {te:TE} {N:List Str} {sel:List (Option Nat)}
structure Blk (X:Cx) (scope:Scope) (N:List Str) (tg elt:Expr) (ifs:List Expr) (g:TG) (tc:TT) (te:TE):Prop where
 tgt:∀ C s H fp,PG (X.block scope C N s H fp) tg g
 tests:∀ C s H fp,PTs (X.block scope C N s H fp) ifs tc
 elem:∀ C s H fp,PE (X.block scope C N s H fp) elt te
theorem Blk.of {X:Cx} {scope:Scope} {N:List Str} {tg elt:Expr} {ifs:List Expr} {g:TG} {tc:TT} {te:TE} (h1:∀ C s H fp,PG (X.block scope C N s H fp) tg g)
  (h2:∀ C s H fp,∃ t,PTs (X.block scope C N s H fp) ifs t/\t=tc) (h3:∀ C s H fp,∃ t,PE (X.block scope C N s H fp) elt t/\t=te):Blk X scope N tg elt ifs g tc te:=
 ⟨h1,fun C s H fp=>by obtain ⟨t,h,rfl⟩:=h2 C s H fp;exact h,fun C s H fp=>by obtain ⟨t,h,rfl⟩:=h3 C s H fp;exact h⟩
theorem Ew {pins:List (Addr × Obj)} {s₂:Shared} {σ:St} {H₂:Hp} {Q:VK} {it:Addr} {fp:List Addr} {tn:Nat->Heap->Prop} {J:It} {W:Nat->Nat->List V->Hp->Prop} {E:Value->Shared->Prop} {RR:Value->Addr->Result->Shared->Prop}
  (hc:X.calm=true) (S:ip X.env scope) (hsel:AE X.N scope N sel) (B:Blk X scope N tg elt ifs g tc te) (I2:Inv X pins σ H₂ s₂) (T:oK X.prog X.w X.K tg J fp it tn) (st2:tn 0 s₂.heap) (f2:∀ b ∈ fp,Ow X pins H₂ b)
  (w0:∃ m,W 0 m [] H₂) (hW:oz J g tc te (blk sel σ) Q W)
  (fin:∀ D C ys H' s',Inv X pins σ (upd H' D (.lst ys)) s'->(∃ m,s'.heap.Ns C m)->Ow X pins (upd H' D (.lst ys)) C->Q (.ref D) (upd H' D (.lst ys))->RR (.ref D) C (.ok .next) s') :
  wpAny (model X.prog X.w) X.A (newList []) (fun acc s₃=>wpAny (model X.prog X.w) X.A (newFunctionEnv scope X.env.globals (vw X.env.cells scope.names []) [] X.env.qual none .none (some X.env)) (fun cenv s₄=>
   codeAny (model X.prog X.w) X.A (.compStart (.ListComp elt [⟨tg,iter,ifs,0⟩] scope pos) 0 (.ref it) acc { cenv with scope:=relabel scope X.env }) (RR acc cenv.locals) s₄) E s₃) E s₂:=by
 refine wpAny_newObj_type (wpAny_newFunctionEnv S.nocell (by intro y hy;simp at hy) (fun h₁ hns₁ hsb₁=>?_) S.kind);dsimp only at hns₁ hsb₁ ⊢;generalize hH2:s₂.heap.push { cls:=.type "list",dict:=none,data:=.seq ([]:List Value).toArray }=H2 at hns₁ hsb₁ ⊢;have hC:H2.objs.size=s₂.heap.objs.size + 1:=by rw [<- hH2,Heap.size_push]
 have hDC:s₂.heap.objs.size ≠ H2.objs.size:=by rw [hC];exact Nat.ne_of_lt (Nat.lt_succ_self _)
 have hCle:s₂.heap.objs.size <= H2.objs.size:=by rw [hC];exact Nat.le_succ _
 have below:∀ b,b < s₂.heap.objs.size->b ≠ H2.objs.size/\b ≠ s₂.heap.objs.size:=fun b hb=>⟨by rw [hC];exact Nat.ne_of_lt (Nat.lt_succ_of_lt hb),Nat.ne_of_lt hb⟩
 have old:∀ b o,s₂.heap.get? b=some o->h₁.get? b=some o:=fun b o e=>hsb₁.extBut b o (below b (Heap.lt_size e)).1 (Heap.get?_push_of_some _ (hH2 ▸ Heap.get?_push_of_some _ e))
 have hacc:h₁.get? s₂.heap.objs.size=some { cls:=.type "list",data:=.seq ([]:List Value).toArray }:=hsb₁.extBut _ _ hDC (Heap.get?_push_of_some _ (hH2 ▸ Heap.get?_push_size _ rfl));have fps:∀ b ∈ fp,b < s₂.heap.objs.size:=fun b hb=>by
  obtain ⟨o,e,_⟩:=T.obj _ _ st2 b hb;exact Heap.lt_size e
 generalize hCe:H2.objs.size=C at *;generalize hDe:s₂.heap.objs.size=D at *;have st1:tn 0 h₁:=T.keep _ _ _ st2 fun b _ o e=>old b o e
 have IB0:Inv (X.block scope C N s₂ H₂ fp) [] (blk sel σ) H₂ { s₂ with heap:=h₁,toks:=s₂.toks + ([]:List (Str × Value)).length }:=
  bE I2 S f2 (fun b hb=>by rw [hDe];exact fps b hb) (by rw [hDe];exact hCle) old hns₁ hsel
 have hDfs:D ∉ (X.block scope C N s₂ H₂ fp).fs:=fun z=>by
  have z':=I2.stkSub D z;rcases List.mem_cons.mp z' with e | e
  ·exact absurd I2.lt (by rw [<- e,hDe];exact Nat.lt_irrefl _)
  ·exact I2.nofs (by rw [hDe];exact Nat.le_refl _) e
 have loop:∀ s₃:Shared,s₃ = { s₂ with heap:=h₁,toks:=s₂.toks + ([]:List (Str × Value)).length } ->
   codeAny (model X.prog X.w) X.A (.compLoop (.ListComp elt [⟨tg,iter,ifs,0⟩] scope pos) 0 (.ref it) (.ref D) (compEnvC scope (vw X.env.cells scope.names []) C X.env)) (RR (.ref D) C) s₃:=by
  rintro s₃ rfl;obtain ⟨m0,w0⟩:=w0;refine Pl (fun k s'=>∃ i ys us n H',Inv (X.block scope C N s₂ H₂ fp) [(D,{ cls:=.type "list",data:=.seq us n })] (blk sel σ) H' s'/\(∃ vs:List Value,us=vs.toArray/\Kd ys vs)/\ys.length <= sizeLine/\tn i s'.heap/\(∀ b ∈ fp,H' b=none)/\W i k ys H') ?_ m0
   ⟨0,[],_,0,H₂,IB0.pins_of fun p hp=>?_,⟨[],rfl,.nil⟩,Nat.zero_le _,st1,fun b hb=>(f2 b hb).1,w0⟩
  ·rintro k s' ⟨i,ys,us,n,H',IB,⟨vs,rfl,rv⟩,hyz,st,fr,w⟩;have fpB:∀ {pl:List (Addr × Obj)} {H'':Hp},(∀ p ∈ pl,p.1=D)->(∀ b ∈ fp,H'' b=none)->∀ b ∈ fp,Ow (X.block scope C N s₂ H₂ fp) pl H'' b:=fun {pl H''} hp hn b hb=>
    ⟨hn b hb,(below b (fps b hb)).1,(rB (N:=N) (C:=C) I2 S f2 (fun b hb=>by rw [hDe];exact fps b hb) (by rw [hDe];exact hCle)).exfs b hb,.inl hb,fun x c e=>(f2 b hb).2.2.2.2.1 x c (ju e),fun p hpp z=>by
     have hpp':p ∈ pl:=by simpa using hpp
     exact (below b (fps b hb)).2 (by rw [<- z];exact hp p hpp')⟩
   have hD1:∀ p ∈ [((D,{ cls:=.type "list",data:=.seq vs.toArray n }):Addr × Obj)],p.1=D:=fun p hp=>by
    have e:p=(D,{ cls:=.type "list",data:=.seq vs.toArray n }):=by simpa using hp
    rw [e]
   rcases hW i k ys H' w with ⟨stop,qn⟩ | ⟨go,hlen,step⟩
   ·refine thn (T.done (X.block scope C N s₂ H₂ fp) rfl rfl rfl hc i _ s' _ H' _ IB (fpB hD1 fr) st stop) fun r s4 hZ1=>?_
    obtain ⟨hr,I4⟩:=hZ1;subst hr;have pD:=I4.pin (D,{ cls:=.type "list",data:=.seq vs.toArray n }) (by simp);have hDn:H' D=none:=pD.2.1;have IX:Inv X pins σ H' s4:=I2.call' (ch:=fp) I4.os I4.base I4.hok I4.bare fun b hb=>⟨(f2 b hb).2.2.2.1,(f2 b hb).2.1,(f2 b hb).2.2.2.2.1,(f2 b hb).2.2.2.2.2⟩
    have foD:Ow X pins H' D:=I2.fpOk (by rw [hDe];exact Nat.le_refl _) hDn;have IA:Inv X pins σ (upd H' D (.lst ys)) s4:=IX.adopt foD ⟨hyz,vs,n,rv,pD.1⟩;obtain ⟨mC,hnC,_⟩:=I4.loc;refine fin D C ys H' s4 IA ⟨mC,hnC⟩ (I2.fpOk (by rw [hDe];exact hCle) ?_) (qn D hDn);rw [jb (Ne.symm hDC)];exact I4.free
   ·refine thn (T.item (X.block scope C N s₂ H₂ fp) rfl rfl rfl hc i _ s' _ H' _ IB (fpB hD1 fr) st go) fun r s4 hZ1=>?_
    obtain ⟨u,hr,h4⟩:=hZ1;subst hr;refine thn h4 fun _ s5 hZ1=>?_
    obtain ⟨x,H5,I5,r5,y5,st5,fr5⟩:=hZ1;have I5':=I5.pinned (fpB hD1 fr5) (T.obj _ _ st5);refine thn (B.tgt C s₂ H₂ fp _ s5 _ H5 x u _ I5' r5 (step x H5 y5)) fun _ s6 hZ1=>?_
    obtain ⟨σ6,H6,I6,sb,q6⟩:=hZ1;refine thn (B.tests C s₂ H₂ fp _ s6 σ6 H6 _ I6 q6) fun c s7 hZ1=>?_
    obtain ⟨H7,I7,q7⟩:=hZ1;have again:∀ {σ8:St} {H8:Hp} {s8:Shared},Inv (X.block scope C N s₂ H₂ fp) ([(D,{ cls:=.type "list",data:=.seq vs.toArray n })] ++ Ex fp s5.heap) σ8 H8 s8->tn (i + 1) s8.heap/\(∀ b ∈ fp,H8 b=none):=fun {σ8 H8 s8} I8=>by
     refine ⟨T.keep _ _ _ st5 fun b hb o e=>(I8.pin (b,o) (mem_append_right _ (mem_append_right _ (Bl hb e)))).1,fun b hb=>?_⟩;obtain ⟨o,e,d⟩:=T.obj _ _ st5 b hb;exact (I8.pin (b,o) (mem_append_right _ (mem_append_right _ (Bl hb e)))).2.1
    have back:∀ {H8:Hp} {s8:Shared} {pl:List (Addr × Obj)},Inv (X.block scope C N s₂ H₂ fp) pl σ6 H8 s8->Inv (X.block scope C N s₂ H₂ fp) pl (blk sel σ) H8 s8:=fun {H8 s8 pl} I8=>I8.weak sb.1.symm sb.2
    cases c with
    | false=>
     obtain ⟨m',hm,w'⟩:=q7;obtain ⟨t1,t2⟩:=again I7;exact ⟨m',hm,i + 1,ys,_,n,H7,back I7.unpinned,⟨vs,rfl,rv⟩,hyz,t1,t2,w'⟩
    | true=>
     refine thn (B.elem C s₂ H₂ fp _ s7 σ6 H7 _ I7 q7) fun v s8 hZ1=>?_
     obtain ⟨y,H8,I8,r8,m',hm,w'⟩:=hZ1;obtain ⟨t1,t2⟩:=again I8;have pD:=I8.pin (D,{ cls:=.type "list",data:=.seq vs.toArray n }) (by simp);refine append_at (hsz:=by have:=rv.length;rw [size_toArray];omega) pD.1 fun h9 hs9 hD9=>?_
     have IB':Inv (X.block scope C N s₂ H₂ fp) [] (blk sel σ) H8 s8:=(back I8).pins_of fun p hp=>nomatch hp
     have foD:Ow (X.block scope C N s₂ H₂ fp) [] H8 D:=⟨pD.2.1,hDC,hDfs,.inr (by show s₂.heap.objs.size <= D;rw [hDe];exact Nat.le_refl _),(fun x c e z=>by
      obtain ⟨cv,o,ho,hd⟩:=I8.cell x c e;rw [z,pD.1] at ho;cases ho;cases hd),(fun p hp=>nomatch hp)⟩
     have I9:Inv (X.block scope C N s₂ H₂ fp) [] (blk sel σ) H8 { s8 with heap:=h9 }:=IB'.turned (t':=s8.toks) (it:=D) (fun b o hb e=>(hs9.2 b hb).trans e) foD.1 foD.2.1 foD.2.2.2.1 foD.2.2.2.2.1 foD.2.2.2.2.2;refine ⟨m',hm,i + 1,ys ++ [y],vs.toArray.push v,n + 1,H8,I9.pins_of fun p hp=>?_,⟨vs ++ [v],by simp,Paired.snoc rv r8⟩,by rw [length_append,List.length_singleton];omega,T.keep _ _ _ t1 fun b hb o e=>(hs9.2 b (below b (fps b hb)).2).trans e,t2,w'⟩;have e:p=(D,{ cls:=.type "list",data:=.seq (vs.toArray.push v) (n + 1) }):=by simpa using hp
     subst e;exact ⟨hD9,pD.2.1,hDC,hDfs,fun v z=>by cases z⟩
  ·have e:p=(D,{ cls:=.type "list",data:=.seq ([]:List Value).toArray }):=by simpa using hp
   subst e;exact ⟨hacc,I2.hok.fresh (by rw [hDe];exact Nat.le_refl _),hDC,hDfs,fun v z=>by cases z⟩
 exact codeAny_compStart_list (loop _ rfl) (T.self _ 0 _ _ _ st1 (loop _ rfl))
theorem Xg (hc:X.calm=true) (hi:PI X tg iter wi) (S:ip X.env scope) (hsel:AE X.N scope N sel) (B:Blk X scope N tg elt ifs g tc te)
  (hs:∀ x,foldedSetIterable iter X.env x=pure x:=by intro _;rfl):PE X (.ListComp elt [⟨tg,iter,ifs,0⟩] scope pos) (mL wi g tc te sel):=by
 intro pins s σ H Q I h;rw [eval_ListComp];refine wpAny_comprehension_free (use:=none) rfl hs (kG (S.cells I.ok)) S.kind S.loc ?_;refine thn (hi pins s σ H _ I h) fun v s1 h1=>thn h1 fun itv s2 h2=>?_
 obtain ⟨it,fp,tn,J,H2,e,I2,T,st2,f2,W,w0,hW⟩:=h2;subst e;refine Ew (RR:=fun acc C=>compPost (model X.prog X.w) X.A X.xe none (EP X pins σ Q) acc C) hc S hsel B I2 T st2 f2 w0 hW fun D C ys H' s' I' ⟨m,hm⟩ fo q=>?_
 exact ⟨m,hm,fun h' hsb=>⟨.ref D,_,I'.turned (t':=s'.toks) (it:=C) (fun b o hb e=>(hsb.2 b hb).trans e) fo.1 fo.2.1 fo.2.2.2.1 fo.2.2.2.2.1 fo.2.2.2.2.2,rfl,q⟩⟩
theorem qh {i:Nat} {y:Str} {py spos:Pos} (hN:X.N.Nodup) (hi:X.N[i]? = some y) (hx:Loc X.env.scope y) (hc:X.calm=true) (hit:PI X tg iter wi) (S:ip X.env scope) (hsel:AE X.N scope N sel) (B:Blk X scope N tg elt ifs g tc te)
  (hsw:swapsWith (.ListComp elt [⟨tg,iter,ifs,0⟩] scope pos) (some (.Name y py)) spos.line X.env=pure true) (hf:X.fn y=true\/X.env.scope.names.lookup y=some .local:=by first | exact .inl rfl | exact .inr rfl | assumption)
  (hs:∀ x,foldedSetIterable iter X.env x=pure x:=by intro _;rfl):PS X (.Assign [.Name y py] (.ListComp elt [⟨tg,iter,ifs,0⟩] scope pos) spos) (NP (mL wi g tc te sel) (Mw i)):=by
 intro pins s σ H D I h;rw [exec_Assign_Name_used _ _ _ _ hsw];refine wpAny_bind (wpAny_standAt (wpAny_bind ?_));show wpAny _ X.A (do let _ <- comprehension (.ListComp elt [⟨tg,iter,ifs,0⟩] scope pos) scope X.env _ (newList []) false (eval iter X.env) (some (assign (.Name y py) X.env))) _ _ s;refine wpAny_bind (wpAny_mono (wpAny_comprehension_free (use:=some (assign (.Name y py) X.env)) (Q:=fun _ s'=>SP X pins D .next s') rfl hs (kG (S.cells I.ok)) S.kind S.loc ?_) (fun _ s' hq=>wpAny_pure (wpAny_pure hq)) fun _ _ e=>e);refine thn (hit pins s σ H _ I h) fun v s1 h1=>thn h1 fun itv s2 h2=>?_
 obtain ⟨it,fp,tn,J,H2,e,I2,T,st2,f2,W,w0,hW⟩:=h2;subst e;refine Ew (RR:=fun acc C=>compPost (model X.prog X.w) X.A X.xe (some (assign (.Name y py) X.env)) (fun _ s'=>SP X pins D .next s') acc C) hc S hsel B I2 T st2 f2 w0 hW fun Da C ys H' s' I' ⟨m,hm⟩ fo q=>?_
 show wpAny _ X.A (assign (.Name y py) X.env (.ref Da)) _ _ _;refine wpAny_assign_Name (Kw I' hN hi hx (show ae (.ref Da) (.ref Da) from rfl) (fun s3 I3 hZ1=>?_) hf);obtain ⟨a,hsb,ha⟩:=hZ1;have hCa:C ≠ a:=by
  rcases ha with z | z
  ·rw [z];exact fo.2.1
  ·exact fun w=>fo.2.2.2.2.1 y a z w.symm
 refine ⟨m,hm.sameBut hsb hCa,fun h' hsb'=>⟨_,_,I3.turned (t':=s3.toks) (it:=C) (fun b o hb e=>(hsb'.2 b hb).trans e) fo.1 fo.2.1 fo.2.2.2.1 fo.2.2.2.2.1 fo.2.2.2.2.2,q⟩⟩
end
noncomputable def fh (Pv:Nat->List V->Hp->Prop) (g:TG) (tc:TT) (te:TE) (σb:St) (i:Nat) (x:V) (ys:List V) (H:Hp):Prop:=
 ∀ N:List V->Hp->Prop,(∀ ys' H',Pv (i + 1) ys' H'->N ys' H')->g x σb H fun σ2 H2=>Sub σb σ2/\tc σ2 H2 fun c H3=>if c=true then te σ2 H3 fun y H4=>N (ys ++ [y]) H4 else N ys H3
theorem eE {K:W.Frag} {a:Addr} {xs:List V} {g:TG} {tc:TT} {te:TE} {σb:St} {Q:VK} {H:Hp} (Pv:Nat->List V->Hp->Prop) (hz:xs.length <= sizeLine) (h0:Pv 0 [] H) (hl:∀ i ys H,i <= xs.length->Pv i ys H->SqL K H a xs/\ys.length <= i)
  (hs:∀ i x ys H,xs[i]? = some x->Pv i ys H->fh Pv g tc te σb i x ys H) (hd:∀ ys H,Pv xs.length ys H->∀ p,H p=none->Q (.ref p) (upd H p (.lst ys))) :
  ∃ W:Nat->Nat->List V->Hp->Prop,(∃ m,W 0 m [] H)/\oz (Itl K a) g tc te σb Q W:=by
 refine ⟨fun i m ys H=>m=xs.length - i/\i <= xs.length/\Pv i ys H,⟨xs.length,by simp,Nat.zero_le _,h0⟩,?_⟩;rintro i m ys H ⟨rfl,hi,p⟩;have q:=(hl i ys H hi p).1;have hyl:=(hl i ys H hi p).2;by_cases hlt:i < xs.length
 ·refine .inr ⟨⟨xs,xs[i],q,by simp [hlt]⟩,by omega,fun x H' y=>?_⟩;obtain ⟨e,y⟩:=y;subst e;exact hs i x ys _ (y xs q) p (fun ys' H'=>∃ m',m' < xs.length - i/\m'=xs.length - (i + 1)/\i + 1 <= xs.length/\Pv (i + 1) ys' H') fun ys' H' r=>⟨xs.length - (i + 1),by omega,rfl,hlt,r⟩
 ·have e:i=xs.length:=by omega
  subst e;exact .inl ⟨⟨xs,q,Nat.le_refl _⟩,hd ys H p⟩
theorem mI {K:W.Frag} {a:Addr} {xs:List V} {g:TG} {tc:TT} {te:TE} {σb:St} {Q:VK} {H:Hp} (Pv:Nat->List V->Hp->Prop) (hz:xs.length <= sizeLine) (h0:Pv 0 [] H) (hl:∀ i ys H,i <= xs.length->Pv i ys H->SqT K H a xs/\ys.length <= i)
  (hs:∀ i x ys H,xs[i]? = some x->Pv i ys H->fh Pv g tc te σb i x ys H) (hd:∀ ys H,Pv xs.length ys H->∀ p,H p=none->Q (.ref p) (upd H p (.lst ys))) :
  ∃ W:Nat->Nat->List V->Hp->Prop,(∃ m,W 0 m [] H)/\oz (Itt K a) g tc te σb Q W:=by
 refine ⟨fun i m ys H=>m=xs.length - i/\i <= xs.length/\Pv i ys H,⟨xs.length,by simp,Nat.zero_le _,h0⟩,?_⟩;rintro i m ys H ⟨rfl,hi,p⟩;have q:=(hl i ys H hi p).1;have hyl:=(hl i ys H hi p).2;by_cases hlt:i < xs.length
 ·refine .inr ⟨⟨xs,xs[i],q,by simp [hlt]⟩,by omega,fun x H' y=>?_⟩;obtain ⟨e,y⟩:=y;subst e;exact hs i x ys _ (y xs q) p (fun ys' H'=>∃ m',m' < xs.length - i/\m'=xs.length - (i + 1)/\i + 1 <= xs.length/\Pv (i + 1) ys' H') fun ys' H' r=>⟨xs.length - (i + 1),by omega,rfl,hlt,r⟩
 ·have e:i=xs.length:=by omega
  subst e;exact .inl ⟨⟨xs,q,Nat.le_refl _⟩,hd ys H p⟩
theorem SB {lo:Int} {n:Nat} {g:TG} {tc:TT} {te:TE} {σb:St} {Q:VK} {H:Hp} (Pv:Nat->List V->Hp->Prop) (hz:n <= sizeLine) (h0:Pv 0 [] H) (hl:∀ i ys H,i <= n->Pv i ys H->ys.length <= i)
  (hs:∀ i ys H,i < n->Pv i ys H->fh Pv g tc te σb i (.int (lo + i)) ys H) (hd:∀ ys H,Pv n ys H->∀ p,H p=none->Q (.ref p) (upd H p (.lst ys))) :
  ∃ W:Nat->Nat->List V->Hp->Prop,(∃ m,W 0 m [] H)/\oz (Itr lo n) g tc te σb Q W:=by
 refine ⟨fun i m ys H=>m=n - i/\i <= n/\Pv i ys H,⟨n,by simp,Nat.zero_le _,h0⟩,?_⟩;rintro i m ys H ⟨rfl,hi,p⟩;have hyl:=hl i ys H hi p;by_cases hlt:i < n
 ·refine .inr ⟨hlt,by omega,fun x H' y=>?_⟩;obtain ⟨e,y⟩:=y;subst e y;exact hs i ys _ hlt p (fun ys' H'=>∃ m',m' < n - i/\m'=n - (i + 1)/\i + 1 <= n/\Pv (i + 1) ys' H') fun ys' H' r=>⟨n - (i + 1),by omega,rfl,hlt,r⟩
 ·have e:i=n:=by omega
  subst e;exact .inl ⟨Nat.le_refl _,hd ys H p⟩
end L2
namespace L2
open PySem PySem.Spec PyProof.Rows
noncomputable def Its (xs:List V):It:=⟨fun i _=>i < xs.length,fun i H x H'=>H'=H/\xs[i]? = some x,fun i _=>xs.length <= i⟩
theorem xu {P:Program} {w:World} {K:W.Frag} {tg:Expr} {it:Addr} {xs:List V} {PV:Nat->Value->Prop} {St:Nat->Heap->Prop} (hW:∀ A:Around,A.handled=none->Walks P w A it [it] [it] xs.length PV St)
  (hP:∀ i v,PV i v->∃ x,xs[i]? = some x/\ae x v)
  (hgo:∀ i h,St i h->∃ o n vs,h.get? it=some o/\o.cls=.type n/\o.data=.fields vs/\["enumerate","zip","dict_itemiterator","dict_reverseitemiterator","odict_iterator","itertools.zip_longest","itertools.pairwise"].contains n=false)
  (hfr:∀ i h h',St i h->(∀ o,h.get? it=some o->h'.get? it=some o)->St i h')
  (hself:∀ (A:Around) (i:Nat) (s:Shared) (Q:Value->Shared->Prop) (E:Value->Shared->Prop),St i s.heap->Q (.ref it) s->wpAny (model P w) A (pyIter (.ref it)) Q E s) :
  oK P w K tg (Its xs) [it] it (fun i h=>i <= xs.length/\St i h) where
 mem:=by simp
 obj:=fun i h st b hb=>by
  have e:b=it:=by simpa using hb
  subst e;obtain ⟨o,n,vs,e,_,d,_⟩:=hgo i h st.2;exact ⟨o,e,fun v z=>by rw [d] at z;cases z⟩
 keep:=fun i h h' st k=>⟨st.1,hfr i h h' st.2 fun o e=>k it (by simp) o e⟩
 item:=by
  intro X hP' hw hK hc i pins s σ H E I hf st hg;subst hP' hw hK;obtain ⟨f0,f1,f2,f3,f4,f5⟩:=hf it (by simp);refine (hW X.A (I.ok.hd hc)).item i s _ _ hg st.2 fun v h' tk hv st' kk=>?_
  obtain ⟨x,hx,rx⟩:=hP i v hv;have I1:Inv X pins σ H { s with heap:=h',toks:=tk }:=I.turned (fun b o hb e=>kk b o (by simpa using hb) e) f0 f1 f3 f4 f5;obtain ⟨o,n,vs,e,c,d,nm⟩:=hgo _ _ st';exact ⟨v,rfl,mD (s:={ s with heap:=h',toks:=tk }) e c d nm ⟨x,H,I1,rx,⟨rfl,hx⟩,⟨hg,st'⟩,fun b hb=>(hf b hb).1⟩⟩
 done:=by
  intro X hP' hw hK hc i pins s σ H E I hf st hg;subst hP' hw hK;obtain ⟨f0,f1,f2,f3,f4,f5⟩:=hf it (by simp);have e:i=xs.length:=Nat.le_antisymm st.1 hg;subst e;exact (hW X.A (I.ok.hd hc)).done s _ _ st.2 fun h' tk kk=>⟨rfl,I.turned (fun b o hb e=>kk b o (by simpa using hb) e) f0 f1 f3 f4 f5⟩
 self:=fun A i s Q E st h=>hself A i s Q E st.2 h
noncomputable def uO (c:Nat):Str:=⟨#[c]⟩
noncomputable def fk (x:Str):List V:=x.cps.toList.map fun c=>V.str (uO c)
theorem yn (x:Str):(fk x).length=x.cps.size:=by unfold fk;simp
theorem xF {x:Str} {i c:Nat} (h:x.cps[i]? = some c):(fk x)[i]? = some (.str (uO c)):=by
 unfold fk;rw [getElem?_map,Array.getElem?_toList,h];rfl
theorem yu {x:Str} {i:Nat} {v:Value} (h:SignAt x i v):∃ y,(fk x)[i]? = some y/\ae y v:=by
 obtain ⟨c,u,hc,rfl⟩:=h;exact ⟨.str (uO c),xF hc,u,rfl⟩
section
variable {X:Cx} {tg:Expr}
noncomputable def SQ (tl:TE):TI:=fun σ H R=>tl σ H fun x H1=>∃ z,x=.str z/\R (Its (fk z)) H1
theorem WO {l:Expr} {tl:TE} (hl:PE X l tl):PI X tg l (SQ tl):=by
 intro pins s σ H R I h;refine thn (hl pins s σ H _ I h) fun v s1 hZ1=>?_
 obtain ⟨x,H1,I1,r1,q1⟩:=hZ1;obtain ⟨z,e,q⟩:=q1;subst e;obtain ⟨t,rfl⟩:=r1;have fo:∀ b ∈ [s1.heap.objs.size],Ow X pins H1 b:=fun b hb=>by
  have e:b=s1.heap.objs.size:=by simpa using hb
  subst e;exact I1.fpOk (Nat.le_refl _) (I1.hok.fresh (Nat.le_refl _))
 have hz:=yn z;cases ha:z.cps.all (· < 128) with
 | false=>
  refine wpAny_pyIter_wide ha ⟨s1.heap.objs.size,[s1.heap.objs.size],fun i h=>i <= (fk z).length/\h.IsStrIter s1.heap.objs.size "str_iterator" z t i,_,H1,rfl,I1.kept (t':=s1.toks) fun b o e=>Heap.get?_push_of_some _ e,
   xu (fun A hA=>by rw [hz];exact Walks.strWide hA _ z t) (fun i v=>yu) (fun i h ⟨o,e,c,d⟩=>⟨o,_,_,e,c,d,by decide⟩) (fun i h h' ⟨o,e,r⟩ k=>⟨o,k o e,r⟩) (fun A i s Q E st q=>wpAny_pyIter_striter_wide st q),
   ⟨Nat.zero_le _,_,Heap.get?_push_size _ rfl,rfl,rfl⟩,fo,q⟩
 | true=>
  refine wpAny_pyIter_ascii ha ⟨s1.heap.objs.size,[s1.heap.objs.size],fun i h=>i <= (fk z).length/\h.IsStrIter s1.heap.objs.size "str_ascii_iterator" z t i,_,H1,rfl,I1.kept (t':=s1.toks) fun b o e=>Heap.get?_push_of_some _ e,
   xu (fun A hA=>by rw [hz];exact Walks.strAscii hA _ z t) (fun i v=>yu) (fun i h ⟨o,e,c,d⟩=>⟨o,_,_,e,c,d,by decide⟩) (fun i h h' ⟨o,e,r⟩ k=>⟨o,k o e,r⟩) (fun A i s Q E st q=>wpAny_pyIter_striter_ascii st q),
   ⟨Nat.zero_le _,_,Heap.get?_push_size _ rfl,rfl,rfl⟩,fo,q⟩
end
theorem BM {xs:List V} {g:TG} {tb:TS} {D:Li} {σ:St} {H:Hp} (Pv:Nat->St->Hp->Prop) (h0:Pv 0 σ H)
  (hs:∀ i x σ H,xs[i]? = some x->Pv i σ H->g x σ H fun σ2 H2=>tb { D with nx:=Pv (i + 1),ct:=Pv (i + 1),bk:=D.nx } σ2 H2) (hd:∀ σ H,Pv xs.length σ H->D.nx σ H) :
  ∃ W:Nat->Nat->St->Hp->Prop,(∃ m,W 0 m σ H)/\∀ i m σ H,W i m σ H ->
   ((Its xs).stop i H/\D.nx σ H)\/((Its xs).go i H/\∃ N:St->Hp->Prop,(∀ σ' H',N σ' H'->∃ m',m' < m/\W (i + 1) m' σ' H')/\∀ x H',(Its xs).yld i H x H'->g x σ H' fun σ2 H2=>tb { D with nx:=N,ct:=N,bk:=D.nx } σ2 H2):=by
 refine ⟨fun i m σ H=>m=xs.length - i/\i <= xs.length/\Pv i σ H,⟨xs.length,by simp,Nat.zero_le _,h0⟩,?_⟩;rintro i m σ H ⟨rfl,hi,p⟩;by_cases hlt:i < xs.length
 ·refine .inr ⟨hlt,Pv (i + 1),fun σ' H' p'=>⟨xs.length - (i + 1),by omega,rfl,hlt,p'⟩,fun x H' y=>?_⟩;obtain ⟨e,y⟩:=y;subst e;exact hs i x σ _ y p
 ·have e:i=xs.length:=by omega
  subst e;exact .inl ⟨Nat.le_refl _,hd σ H p⟩
theorem kJ {xs:List V} {g:TG} {tc:TT} {te:TE} {σb:St} {Q:VK} {H:Hp} (Pv:Nat->List V->Hp->Prop) (hz:xs.length <= sizeLine) (h0:Pv 0 [] H) (hl:∀ i ys H,i <= xs.length->Pv i ys H->ys.length <= i)
  (hs:∀ i x ys H,xs[i]? = some x->Pv i ys H->fh Pv g tc te σb i x ys H) (hd:∀ ys H,Pv xs.length ys H->∀ p,H p=none->Q (.ref p) (upd H p (.lst ys))) :
  ∃ W:Nat->Nat->List V->Hp->Prop,(∃ m,W 0 m [] H)/\oz (Its xs) g tc te σb Q W:=by
 refine ⟨fun i m ys H=>m=xs.length - i/\i <= xs.length/\Pv i ys H,⟨xs.length,by simp,Nat.zero_le _,h0⟩,?_⟩;rintro i m ys H ⟨rfl,hi,p⟩;have hyl:=hl i ys H hi p;by_cases hlt:i < xs.length
 ·refine .inr ⟨hlt,by omega,fun x H' y=>?_⟩;obtain ⟨e,y⟩:=y;subst e;exact hs i x ys _ y p (fun ys' H'=>∃ m',m' < xs.length - i/\m'=xs.length - (i + 1)/\i + 1 <= xs.length/\Pv (i + 1) ys' H') fun ys' H' r=>⟨xs.length - (i + 1),by omega,rfl,hlt,r⟩
 ·have e:i=xs.length:=by omega
  subst e;exact .inl ⟨Nat.le_refl _,hd ys H p⟩
section
variable {X:Cx}
noncomputable def QQ:V->Option Int->Option Int->Hp->VK->Prop:=fun x lo hi H Q=>∃ z,x=.str z/\z.length <= sizeLine/\Q (.str (Txt.slice z lo hi)) H
theorem nK:SlR X QQ:=by
 intro pins s σ H x v vl vu lo hi sl Q I rx hs pl pu h;obtain ⟨z,rfl,hz,q⟩:=h;obtain ⟨t,rfl⟩:=rx;refine ⟨"str",_,F.slot_str_getitem.lookup,typeIs_str s z t,?_⟩;have fin:∀ t' k,EP X pins σ Q (.str (Txt.slice z lo hi) t') { s with toks:=k }:=fun t' k=>⟨.str _,H,I.tok _,⟨_,rfl⟩,q⟩
 cases pl with
 | none=>
  cases pu with
  | none=>exact wpAny_getItem_str_slice (l:=none) (u:=none) (st:=none) hs rfl (post_val_or_str ⟨Nat.le_trans (Txt.slice_le z _ _) hz,fin⟩)
  | int j uj=>exact wpAny_getItem_str_slice (l:=none) (u:=some (j,uj)) (st:=none) hs rfl (post_val_or_str ⟨Nat.le_trans (Txt.slice_le z _ _) hz,fin⟩)
 | int i ui=>
  cases pu with
  | none=>exact wpAny_getItem_str_slice (l:=some (i,ui)) (u:=none) (st:=none) hs rfl (post_val_or_str ⟨Nat.le_trans (Txt.slice_le z _ _) hz,fin⟩)
  | int j uj=>exact wpAny_getItem_str_slice (l:=some (i,ui)) (u:=some (j,uj)) (st:=none) hs rfl (post_val_or_str ⟨Nat.le_trans (Txt.slice_le z _ _) hz,fin⟩)
noncomputable def Jb (ys:List Str):List V:=ys.map V.str
theorem JB:∀ {ys:List Str} {us:List Value},Kd (Jb ys) us->StrsAre us ys:=by
 intro ys
 induction ys with
 | nil=>intro us r;cases r;exact .nil
 | cons y ys ih=>
  intro us r;cases r with
  | cons r1 r2=>
   obtain ⟨t,rfl⟩:=r1;exact .cons y t (ih r2)
theorem Sx:∀ (l:List (Str × Tok)),Kd (Jb (l.map (·.1))) (strValues l)
 | []=>.nil
 | (x,t) :: r=>.cons ⟨t,rfl⟩ (Sx r)
noncomputable def YO (K:W.Frag):V->List V->Hp->VK->Prop:=fun x vs H Q=>∃ sep p ys,x=.str sep/\vs=[.ref p]/\SqL K H p (Jb ys)/\(ys.map (·.length)).sum + ys.length * sep.length <= 16777216/\Q (.str (Txt.join sep ys)) H
theorem bz:MtR X "str.join" (YO X.K):=by
 intro pins s σ H x xs v us Q I rx rv h;obtain ⟨sep,p,ys,rfl,rfl,hq,hz,q⟩:=h;obtain ⟨t,rfl⟩:=rx;obtain ⟨u,rfl,ru⟩:=At rv;cases ru;obtain ⟨its,r,pl,_⟩:=I.list hq;exact join_list pl.isList (by simpa using JB r) hz fun t' k=>⟨.str _,H,I.tok _,⟨_,rfl⟩,q⟩
end
theorem bC {prog:Program} {w:World} {A:Around} {E:Value->Shared->Prop} {s:Shared} {x y:Str} {t u:Tok} {Q:Value->Shared->Prop} (hy:(y.length == 0)=false)
  (h:∀ l k,l.map (·.1)=Txt.split x y->Q (.ref s.heap.objs.size) { s with heap:=s.heap.push { cls:=.type "list",data:=.seq (strValues l).toArray },toks:=k }) (hsz:x.length + 2 <= sizeLine) :
  wpAny (model prog w) A (call (.builtin "str.split") [.str x t,.str y u]) Q E s:=by
 have hn:(Builtin.Str.partsBetween x (Builtin.Str.occurrences x y 0 x.length (x.length + 1)) y.length).length <= sizeLine:=by
  have e1:=StrLaws.occ_length_le x y 0 x.length (x.length + 1);rw [length_partsBetween];omega
 cases h1:(decide (x.length < y.length) || decide (Builtin.Str.strKind x < Builtin.Str.strKind y))
 ·cases hf:(Builtin.Str.occurrences x y 0 x.length (x.length + 1)).isEmpty
  ·refine call_meets F.slot_str_split (typeIs_str _ _ _) F.entry_str_split (F.args_str_split_2 _ _) (meets_str_split_sep x y t u h1 hy hf (by omega) hn) ?_;show wants Q E _ { s with toks:=_,heap:=s.heap.push { cls:=.type "list",data:=.seq (strsFrom s.toks (Builtin.Str.partsBetween x (Builtin.Str.occurrences x y 0 x.length (x.length + 1)) y.length)).toArray } };rw [strsFrom_eq];exact h (numbered s.toks _) _ ((numbered_texts _ _).trans ((if_neg (ne_true_of_eq_false h1)).trans (if_neg (ne_true_of_eq_false hf))).symm)
  ·exact call_meets F.slot_str_split (typeIs_str _ _ _) F.entry_str_split (F.args_str_split_2 _ _) (meets_str_split_not_found x y t u h1 hy hf)
    (h [(x,t)] s.toks ((if_neg (ne_true_of_eq_false h1)).trans (if_pos hf)).symm)
 ·exact call_meets F.slot_str_split (typeIs_str _ _ _) F.entry_str_split (F.args_str_split_2 _ _) (meets_str_split_cannot_occur x y t u h1)
   (h [(x,t)] s.toks (if_pos h1).symm)
section
variable {X:Cx}
noncomputable def AJ:V->List V->Hp->VK->Prop:=fun x vs H Q=>∃ z y,x=.str z/\vs=[.str y]/\y.length ≠ 0/\z.length + 2 <= sizeLine/\(Txt.split z y).length <= sizeLine/\∀ p,H p=none->Q (.ref p) (upd H p (.lst (Jb (Txt.split z y))))
theorem jB:MtR X "str.split" AJ:=by
 intro pins s σ H x xs v us Q I rx rv h;obtain ⟨z,y,rfl,rfl,hy,hz,hn,q⟩:=h;obtain ⟨t,rfl⟩:=rx;obtain ⟨u,rfl,ru⟩:=At rv;obtain ⟨tu,rfl⟩:=ru;refine bC (by simpa using hy) (fun l k hl=>?_) hz;refine ⟨.ref s.heap.objs.size,_,I.laid (t':=k) (o:=.lst (Jb (Txt.split z y))) (fun b o e=>Heap.get?_push_of_some _ e) (Nat.le_refl _) ⟨by unfold Jb;rw [length_map];exact hn,strValues l,0,by rw [<- hl];exact Sx l,Heap.get?_push_size _ rfl⟩,rfl,q _ (I.hok.fresh (Nat.le_refl _))⟩
theorem ME:ml X (.type "int") (fun xs H Q=>∃ z n,xs=[.str z]/\intText? z=some n/\z.length <= 640/\Q (.int n) H):=by
 intro pins s σ H xs us Q I r h;obtain ⟨z,n,rfl,hn,hz,q⟩:=h;obtain ⟨u,rfl,t,rfl⟩:=At r;exact PySem.W.KIN.call_text hn hz ⟨.int n,H,I.tok _,⟨_,rfl⟩,q⟩
theorem Bw:∀ {bs:List Bool} {us:List Value},Kd (bs.map V.bl) us->us=bs.map Value.bool
 | [],_,.nil=>rfl
 | b :: bs,_,.cons r t=>by
  have e:_=Value.bool b:=r;rw [e,Bw t];rfl
theorem Vy {A:Around} (bs:List Bool):TruthOf X.prog X.w A (fun i v=>(bs.map Value.bool).toArray[i]? = some v) (fun i=>bs.getD i true):=by
 intro i v s Q E hP hQ;have e:(bs.map Value.bool)[i]? = some v:=by simpa using hP
 rw [getElem?_map] at e;cases q:bs[i]? with
 | none=>rw [q] at e;cases e
 | some b=>
  rw [q] at e;have e':Value.bool b=v:=Option.some.inj e;subst e';refine wpAny_truthy_bool ?_;have:bs.getD i true=b:=by simp [List.getD,q]
  have hQ':Q (bs.getD i true) s:=hQ;rw [this] at hQ';exact hQ'
theorem CF (bs:List Bool):(List.range bs.length).all (fun i=>bs.getD i true)=bs.all id:=by
 rw [Bool.eq_iff_iff];simp only [all_eq_true,List.mem_range,id];constructor
 ·intro h b hb;obtain ⟨i,hi,e⟩:=List.mem_iff_getElem.mp hb;have:=h i hi;simp [List.getD,hi,e] at this;exact this
 ·intro h i hi;simp [List.getD,hi];exact h _ (getElem_mem hi)
theorem XI (hc:X.calm=true):ml X (.builtin "all") (fun xs H Q=>∃ (p:Addr) (bs:List Bool),xs=[.ref p]/\SqL X.K H p (bs.map V.bl)/\Q (.bl (bs.all id)) H):=by
 intro pins s σ H xs us Q I r h;obtain ⟨p,bs,rfl,hq,q⟩:=h;obtain ⟨u,rfl,ru⟩:=At r;cases ru;obtain ⟨its,rv,pl,_⟩:=I.list hq;have e:=Bw rv;subst e;refine call_all_walk (wpAny_pyIter_list pl.isList ?_);have hne:p ≠ s.heap.objs.size:=Nat.ne_of_lt (by obtain ⟨o,_,ho,_⟩:=pl;exact Heap.lt_size ho);refine ⟨s.heap.objs.size,_,_,_,_,_,fun i=>bs.getD i true,rfl,Walks.list (show X.A.in1.handled=none from I.ok.hd hc) _ p hne (bs.map Value.bool).toArray,⟨⟨_,Heap.get?_push_size _ rfl,rfl,rfl⟩,pl.isList.at fun o e=>Heap.get?_push_of_some _ e⟩,Vy bs,fun h' tk kk=>?_⟩;refine ⟨.bl (bs.all id),H,I.kept fun b o e=>kk b o (by simpa using Nat.ne_of_lt (Heap.lt_size e)) (Heap.get?_push_of_some _ e),?_,q⟩;show Value.bool _=Value.bool _;rw [show (bs.map Value.bool).toArray.size=bs.length by simp,CF]
theorem HH:ml X (.builtin "isinstance") (fun xs H Q=>∃ x T t b,xs=[x,.ty T]/\dB X.K H x t/\PySem.W.kitOne X.K t (.type T)=some b/\Q (.bl b) H):=by
 intro pins s σ H xs us Q I r h;obtain ⟨x,T,t,b,rfl,ty,e,q⟩:=h;obtain ⟨u,u2,rfl,rx,r2⟩:=eM r;cases r2;exact KD I rx ty e fun tk=>⟨.bl b,H,I.tok _,rfl,q⟩
end
end L2
namespace L2
open PySem PySem.Spec PyProof.Rows
theorem Ug {X:Cx} {N:List Str} (h:N.Nodup) (e:X.N=N):X.N.Nodup:=e ▸ h
noncomputable def bG (sc scope:Scope):Bool:=
 (scope.kind == .function) && scope.names.all (fun y=>y.2 != .cell) && scope.names.all (fun y=>y.2 != .free || sc.names.lookup y.1 == some .cell || sc.names.lookup y.1 == some .free) &&
  scope.names.all (fun y=>y.2 != .local || scope.names.lookup y.1 == some .local)
theorem kd {env:Env} {sc scope:Scope} (he:env.scope=sc) (h:bG sc scope=true):ip env scope:=by
 subst he;unfold bG at h;simp only [Bool.and_eq_true,all_eq_true] at h;obtain ⟨⟨⟨h1,h2⟩,h3⟩,h4⟩:=h;refine ⟨by simpa using h1,fun y hy e=>?_,fun y hy e=>?_,fun y hy e=>?_⟩
 ·have:=h2 y hy;rw [e] at this;exact absurd this (by decide)
 ·have:=h3 y hy;rw [e] at this;simp only [Bool.or_eq_true] at this;rcases this with (z | z) | z
  ·exact absurd z (by decide)
  ·exact .inl (show env.scope.names.lookup y.1=some .cell by simpa using z)
  ·exact .inr (show env.scope.names.lookup y.1=some .free by simpa using z)
 ·have:=h4 y hy;rw [e] at this;simp only [Bool.or_eq_true] at this;rcases this with z | z
  ·exact absurd z (by decide)
  ·simpa using z
noncomputable def mR (M:List Str) (scope:Scope) (N:List Str) (sel:List (Option Nat)):Bool:=
 sel.length == N.length && (sel.zip N).all fun p=>match p.1 with | none=>true | some j=>M[j]? == some p.2 && scope.names.lookup p.2 == some .free
theorem Yd {M:List Str} {scope:Scope} {N:List Str} {sel:List (Option Nat)} (h:mR M scope N sel=true):AE M scope N sel:=by
 unfold mR at h;simp only [Bool.and_eq_true,all_eq_true] at h;refine ⟨by simpa using h.1,fun i j x e1 e2=>?_⟩;have hm:(some j,x) ∈ sel.zip N:=by
  rw [List.mem_iff_getElem?];exact ⟨i,by rw [List.getElem?_zip_eq_some];exact ⟨e1,e2⟩⟩
 have:=h.2 _ hm;simp only [Bool.and_eq_true] at this;exact ⟨by simpa using this.1,by simpa using this.2⟩
noncomputable def noT:HO->Bool
 | .dT _=>false
 | .frz _ u=>noT u
 | _=>true
noncomputable def NoT (H:Hp):Prop:=∀ b o,H b=some o->noT o=true
theorem Sd.back {P:Program} {w:World} {H H':Hp} {h h':Heap} {a:Addr}:∀ (o:HO),noT o=true->Sd P w H' h' a o->Sd P w H h a o->Sd P w H h' a o
 | .lst _,_,x,_=>x
 | .tup _,_,x,_=>x
 | .dK _,_,x,_=>x
 | .dT _,e,_,_=>absurd e (by unfold noT;decide)
 | .set _ _,_,x,_=>x
 | .ins _ _ _,_,x,y=>⟨y.1,x.2⟩
 | .own _,_,x,_=>x
 | .xd _,_,x,_=>x
 | .met _ _,_,x,_=>x
 | .rng _ _,_,x,_=>x
 | .frz ob u,e,x,y=>⟨x.1,Sd.back u (by unfold noT at e;exact e) x.2 y.2⟩
 | .tbl _,_,x,_=>x
 | .ext _,_,x,_=>x
section
variable {P:Program} {w:World} {K:W.Frag} {mg:Str->Option Value} {base:Heap}
theorem Gb.forget {k:Nat} {f:Addr} {fd:FuncData} {ps:List Str} {sp sp':Sp} (F:Gb P w K mg base CX0 k f fd ps sp)
  (h:∀ vs H Q E,sp' vs H Q E->NoT H/\sp vs H (fun v H'=>Pb H H'/\Q v H) E):Gb P w K mg base CX0 k f fd ps sp':=by
 refine ⟨fun vs H Q E q=>F.len vs H _ E (h vs H Q E q).2,fun A outer s H args us vs Q E hr he hb hv hs=>?_⟩;obtain ⟨nt,q⟩:=h vs H Q E hs;refine codeAny_mono (F.run A outer s H args us vs _ E hr he hb hv q) fun r s' hq=>?_
 cases r with
 | error e=>exact hq
 | ok fl=>
  cases fl with
  | next=>exact hq
  | brk=>exact hq
  | cont=>exact hq
  | ret u=>
   obtain ⟨v,H',os,bare,un,hok,rv,sm,q'⟩:=hq;exact ⟨v,H,os,bare,⟨un.keep,un.slot,fun _ _ _ n _=>n,un.there,fun _ _ z=>z,fun _ _ _ z=>z,fun _ ps z=>⟨#[],by rw [z];simp⟩⟩,fun a o e=>(hok a o (sm a o e)).back o (nt a o e) (he.hok a o e),rv,q'⟩
end
theorem wb {H:Hp} {p:Addr} {o:HO} (h:H p=none):Pb H (upd H p o):=fun b u q=>by rw [jb (yb q h)];exact q
theorem Pb.updN {H H1:Hp} {p:Addr} {o:HO} (s:Pb H H1) (h:H p=none):Pb H (upd H1 p o):=fun b u q=>by rw [jb (yb q h)];exact s b u q
structure Sc (K:W.Frag) (a:Addr) (ns:List Int) (H:Hp):Prop where
 sq:(∃ o,H a=some (.frz o (.lst (ns.map V.int))))\/∃ (o:Obj) (its:Array Value) (n:Nat),K.lookup a=some o/\o.cls=.type "list" /\ o.dict=none/\o.data=.seq its n/\its.size <= sizeLine/\Kd (ns.map V.int) its.toList
 nt:NoT H
section
variable {K:W.Frag} {a p:Addr} {ns:List Int} {H H':Hp} {o:HO}
theorem Sc.seq (s:Sc K a ns H):SqL K H a (ns.map V.int):=by
 rcases s.sq with ⟨o,h⟩ | h
 ·exact .inl (.inr ⟨o,h⟩)
 ·exact .inr h
theorem Sc.new (s:Sc K a ns H) (hp:H p=none) (ho:noT o=true:=by rfl):Sc K a ns (upd H p o):=by
 refine ⟨?_,fun b u e=>?_⟩
 ·rcases s.sq with ⟨ob,h⟩ | h
  ·exact .inl ⟨ob,by rw [jb (yb h hp)];exact h⟩
  ·exact .inr h
 ·by_cases hb:b=p
  ·subst hb;rw [db] at e;cases e;exact ho
  ·rw [jb hb] at e;exact s.nt b u e
theorem Sc.set {u:HO} (s:Sc K a ns H) (hp:H p=some u) (hu:∀ ob z,u ≠ .frz ob z) (ho:noT o=true:=by rfl):Sc K a ns (upd H p o):=by
 refine ⟨?_,fun b x e=>?_⟩
 ·rcases s.sq with ⟨ob,h⟩ | h
  ·refine .inl ⟨ob,?_⟩;have hne:a ≠ p:=fun z=>by subst z;rw [hp] at h;exact hu _ _ (Option.some.inj h)
   rw [jb hne];exact h
  ·exact .inr h
 ·by_cases hb:b=p
  ·subst hb;rw [db] at e;cases e;exact ho
  ·rw [jb hb] at e;exact s.nt b x e
theorem Sc.of_only (hO:CN H) (hS:SqL K H a (ns.map V.int)):Sc K a ns H:=by
 refine ⟨?_,fun b u e=>?_⟩
 ·rcases hS with (h | ⟨o,h⟩) | h
  ·rcases hO a with z | ⟨ob,xs,z⟩
   ·rw [h] at z;cases z
   ·rw [h] at z;cases z
  ·exact .inl ⟨o,h⟩
  ·exact .inr h
 ·rcases hO b with z | ⟨ob,xs,z⟩
  ·rw [e] at z;cases z
  ·rw [e] at z;cases z;rfl
end
noncomputable def xN (K:W.Frag):Sp:=fun vs H Q _=>∃ (a:Addr) (ns:List Int),vs=[.ref a]/\Sc K a ns H/\ns.length <= 63/\∀ H',Q (.bl true) H'
theorem Zc:bootBuiltins "len"=some (.builtin "len"):=PySem.boot_len
theorem nC:bootBuiltins "all"=some (.builtin "all"):=by decide +kernel
theorem uu:bootBuiltins "max"=some (.builtin "max"):=by decide +kernel
theorem Qo:bootBuiltins "isinstance"=some (.builtin "isinstance"):=by decide +kernel
theorem lC:bootBuiltins "int"=some (.type "int"):=by decide +kernel
theorem vh:bootBuiltins "str"=some (.type "str"):=by decide +kernel
theorem Hz:bootBuiltins "bool"=some (.type "bool"):=by decide +kernel
theorem Mm:bootBuiltins "list"=some (.type "list"):=by decide +kernel
theorem Rd.same {H H':Hp} {a:Addr} {o:HO} (h:Rd H a o) (s:Pb H H'):Rd H' a o:=by
 rcases h with h | ⟨ob,h⟩
 ·exact .inl (s _ _ h)
 ·exact .inr ⟨ob,s _ _ h⟩
theorem SqL.same {K:W.Frag} {H H':Hp} {a:Addr} {xs:List V} (h:SqL K H a xs) (s:Pb H H'):SqL K H' a xs:=by
 rcases h with h | h
 ·exact .inl (h.same s)
 ·exact .inr h
theorem SqT.same {K:W.Frag} {H H':Hp} {a:Addr} {xs:List V} (h:SqT K H a xs) (s:Pb H H'):SqT K H' a xs:=by
 rcases h with h | h
 ·exact .inl (h.same s)
 ·exact .inr h
theorem NoT.upd {H:Hp} {p:Addr} {o:HO} (h:NoT H) (ho:noT o=true:=by rfl):NoT (upd H p o):=fun b u e=>by
 by_cases hb:b=p
 ·subst hb;rw [db] at e;cases e;exact ho
 ·rw [jb hb] at e;exact h b u e
theorem Sc.same {K:W.Frag} {a:Addr} {ns:List Int} {H H':Hp} (s:Sc K a ns H) (sm:Pb H H') (nt:NoT H'):Sc K a ns H':=by
 refine ⟨?_,nt⟩;rcases s.sq with ⟨o,h⟩ | h
 ·exact .inl ⟨o,sm _ _ h⟩
 ·exact .inr h
end L2
namespace L2
open PySem PySem.Spec PyProof.Rows
structure TQ (K:W.Frag) (C:Addr) (m:Str) (f:Addr):Prop where
 rd:PySem.W.readsIn K C (.type "type")=true
 fd:PySem.W.findCls K (.ref C) (.type "type") m=some (.val (.ref f))
 ga:PySem.W.specialIn K (.ref C) "__getattribute__"=some (some (.builtin "type.__getattribute__"))
 kp:PySem.W.keepIn K (.ref f)=true
structure BI (P:Program) (w:World) (K:W.Frag) (mg:Str->Option Value) (base:Heap) (CX:CXT) (k:Nat) (OK:Addr->Prop) (m:Str) (ps:List Str) (SPV:Addr->Sp):Prop where
 ok:∀ C,OK C->∃ f fd,Cls K C/\Hu K C m f/\Gb P w K mg base CX k f fd ps (SPV C)/\Ub K fd ps []
noncomputable def GJ (OK:Addr->Prop) (m:Str) (SPV:Addr->Sp) (E:XK) (ta:TE) (t:TA):TE:=fun σ H Q=>ta σ H fun x H1=>∃ a C dx fs,x=.ref a/\H1 a=some (.ins C dx fs)/\OK C/\fs.lookup m=none /\
 t σ H1 fun vs H2=>SPV C (x :: vs) H2 Q E
section
variable {X:Cx} {CX:CXT} {k:Nat} {f C:Addr} {fd:FuncData} {ps:List Str} {sp:Sp} {dvs:List V} {ds:List Value} {E:XK} {x m:Str} {p pos apos:Pos} {e o:Expr} {es:List Expr} {ta:TE} {t:TA}
theorem Mv {pl:Sem Bool} (hg:Gl X x) (hm:X.mg x=some (.ref C)) (c:TQ X.K C m f) (F:Gb X.prog X.w X.K X.mg X.base CX k f fd ps sp) (hr:kj k X.A) (hb:Ub X.K fd ps ds) (hd:Kd dvs ds) (hx:Sl CX X E) (ha:PA X (e :: es) t)
  (hdb:(x == ("__debug__" : Str))=false:=by decide) (hst:starEach (e :: es) X.env=(false,eval e X.env) :: starEach es X.env:=by rfl) (hpl:(backTo pos (starEach es X.env)).any (·.1)=false:=by rfl)
  (ht:eval (.Call (.Attribute (.Name x p) m apos) (e :: es) [] pos) X.env=(do
   let ov <- eval (.Name x p) X.env
   standAt apos.atName
   let (f,first) <- holding [ov] (getMethod ov m pl)
   callWith pos f first (backTo pos (starEach (e :: es) X.env)) (backToKw pos (keywordEach [] X.env))):=by rfl) :
  PE X (.Call (.Attribute (.Name x p) m apos) (e :: es) [] pos) (rL sp dvs E t):=by
 intro pins s σ H Q I h;refine PySem.W.methodCall_KW (pl:=pl) (Bk I hg hm ?_ hdb) ht;refine PySem.W.method_cls I.kIn c.ga (PySem.W.cls_value I.kIn c.rd c.fd rfl ?_);have I1:=I.tok (s.toks + 1);refine PySem.W.callWith_K (first:=[]) (h₀:=X.base) I.ok.mod.kin c.kp (thn (ha pos pins _ σ H _ I1 h) fun us s2 ⟨vs,H2,I2,r,q2⟩=>⟨I2.kIn,?_⟩) hst hpl;exact Pw F hr hb hd hx I2 r q2
variable {OK:Addr->Prop} {SPV:Addr->Sp}
theorem Kn {pl:Sem Bool} (he:PE X o ta) (V:BI X.prog X.w X.K X.mg X.base CX k OK m ps SPV) (hr:kj k X.A) (hx:Sl CX X E)
  (ht:eval (.Call (.Attribute o m apos) [] [] pos) X.env=(do
   let ov <- eval o X.env
   standAt apos.atName
   let (f,first) <- holding [ov] (getMethod ov m pl)
   callWith pos f first (backTo pos (starEach [] X.env)) (backToKw pos (keywordEach [] X.env))):=by rfl) :
  PE X (.Call (.Attribute o m apos) [] [] pos) (GJ OK m SPV E ta UP):=by
 intro pins s σ H Q I h;refine PySem.W.methodCall_KW (pl:=pl) (thn (he pins s σ H _ I h) fun u s1 hZ1=>?_) ht;obtain ⟨x,H1,I1,rx,a,C,dx,fs,ex,ea,ok,l,q⟩:=hZ1;subst ex;obtain rfl:u=Value.ref a:=rx;obtain ⟨f,fd,c,hm,F,hb⟩:=V.ok C ok;refine xo I1 ea c hm l ?_;exact PySem.W.callWith_K0 (first:=[.ref a]) I1.kIn hm.kp (Pw (us:=[.ref a]) (vs:=[.ref a]) (dvs:=[]) F hr hb .nil hx I1 (.cons rfl .nil) q)
end
section
variable {X:Cx} {x:Str} {p pos:Pos} {i:Expr} {ty:TE} {u:Value} {kvs:List (Str × V)}
end
noncomputable def Qi (K:W.Frag) (H:Hp) (a:Addr) (f:Str) (v:V):Prop:=∃ C dx fs,H a=some (.ins C dx fs)/\Cls K C/\Ib K C f/\fs.lookup f=some v
theorem Ad {f:Str} {v:V}:∀ {fs:List (Str × V)} (ks:List Str),fs.map (·.1)=ks->ks.contains f=false->lh f v fs=fs ++ [(f,v)]
 | [],_,_,_=>rfl
 | (g,y) :: r,ks,e,h=>by
  cases e;rw [map_cons,List.contains_cons] at h;have h1:=(Bool.or_eq_false_iff.mp h);have hne:¬ g=f:=fun z=>by
   have:=h1.1;rw [z] at this;simp at this
  show (if g=f then _ else _)=_;rw [if_neg hne,Ad _ rfl h1.2];rfl
theorem ko {f:Str} {v:V} {fs:List (Str × V)} {n:Nat} (h:fs.length < n):(lh f v fs).length < n + 1:=Nat.lt_of_le_of_lt (Wm f v fs) (by omega)
theorem Vd {f:Str} {v:V}:∀ {fs:List (Str × V)} (ks:List Str) (i:Nat),fs.map (·.1)=ks->ks.findIdx? (· == f)=some i->fs[i]? = some (f,v)->fs.lookup f=some v
 | [],_,_,_,_,h=>by simp at h
 | (g,y) :: r,ks,i,e,h,hv=>by
  cases e;rw [map_cons,List.findIdx?_cons] at h;rw [List.lookup];by_cases e:g=f
  ·subst e;rw [beq_self_eq_true,if_pos rfl] at h;cases h;have:(g,y)=(g,v):=by simpa using hv
   cases this;rw [beq_self_eq_true]
  ·rw [beq_eq_false_iff_ne.mpr e,if_neg (by decide)] at h;obtain ⟨j,hj,rfl⟩:=Option.map_eq_some_iff.mp h;rw [beq_eq_false_iff_ne.mpr (fun z=>e z.symm)];exact Vd _ j rfl hj (by simpa using hv)
theorem Pn {f:Str}:∀ {fs:List (Str × V)} (ks:List Str),fs.map (·.1)=ks->ks.contains f=false->fs.lookup f=none
 | [],_,_,_=>rfl
 | (g,y) :: r,ks,e,h=>by
  cases e;rw [map_cons,List.contains_cons] at h;have h1:=(Bool.or_eq_false_iff.mp h);rw [List.lookup,h1.1];exact Pn _ rfl h1.2
end L2
namespace L2
open PySem PySem.Spec PyProof.Rows
theorem Inv.turnedL {X:Cx} {pins:List (Addr × Obj)} {σ:St} {H:Hp} {s:Shared} {h':Heap} {t':Nat} {fp:List Addr} (I:Inv X pins σ H s) (k:∀ b o,b ∉ fp->s.heap.get? b=some o->h'.get? b=some o)
  (hf:∀ b ∈ fp,Ow X pins H b):Inv X pins σ H { s with heap:=h',toks:=t' }:=by
 have nit:∀ b u,H b=some u->b ∉ fp:=fun b u e z=>by rw [(hf b z).1] at e;cases e
 refine I.step (g':=s.gens) (d':=s.drawn) (ch:=fp) (fun b hb=>?_) (fun b o _ _ hc e _=>k b o hc e) (fun b o _ _ hc e _=>⟨o.slots,k b o hc e⟩) (fun _ _ _ _ n=>n)
  (fun b o hc e=>⟨o,k b o hc e⟩) (fun _ _ e=>e) (fun _ _ _ e=>e) (fun b ps e=>⟨#[],by rw [e];simp⟩) (fun m hm=>?_) (fun b u e=>?_) I.bare
 ·obtain ⟨f0,f1,f2,f3,f4,f5⟩:=hf b hb;exact ⟨f3,f1,f4,f5⟩
 ·obtain ⟨o,es,ep,ho,r⟩:=hm;exact ⟨o,es,ep,k _ o (fun z=>(hf _ z).2.1 rfl) ho,r⟩
 ·refine (I.hok b u e).stay (fun c v hc q=>k c v ?_ q) (fun _ q=>q) fun _ _ q=>q
  rcases hc with z | z
  ·rw [z];exact nit b u e
  ·exact nit c _ z
noncomputable def Ite (K:W.Frag) (a:Addr):It:=
 ⟨fun i H=>∃ xs x,SqL K H a xs/\xs[i]? = some x,fun i H v H'=>∃ p y,H p=none/\v=.ref p/\(∀ xs,SqL K H a xs->xs[i]? = some y)/\H'=upd H p (.tup [.int i,y]),fun i H=>∃ xs,SqL K H a xs/\xs.length <= i⟩
theorem nE {P:Program} {w:World} {K:W.Frag} {es:List Expr} {k} {pos:Pos} (a e it:Addr) (hne:e ≠ it) :
  oK P w K (.Tuple es k pos) (Ite K a) [e,it] e (fun i h=>∃ old,IsEnum h e it ((i:Nat):Int) old/\h.IsListIter it a i) where
 mem:=by simp
 obj:=fun i h ⟨old,he,hi⟩ b hb=>by
  simp only [mem_cons,not_mem_nil,or_false] at hb;rcases hb with rfl | rfl
  ·exact ⟨_,he,fun v z=>by
    have z':Data.fields _=Data.cell v:=z;cases z'⟩
  ·obtain ⟨o,q,c,d⟩:=hi;exact ⟨o,q,fun v z=>by rw [d] at z;cases z⟩
 keep:=fun i h h' ⟨old,he,hi⟩ k=>⟨old,k e (by simp) _ he,hi.at fun o q=>k it (by simp) o q⟩
 item:=by
  intro X hP hw hK hc i pins s σ H E I hf ⟨old,he,hi⟩ hg;subst hP hw hK;obtain ⟨xs,x,hq,hx⟩:=hg;obtain ⟨its,rv,p,hz⟩:=I.list hq;obtain ⟨u,hu,ru⟩:=rv.get hx;refine wpAny_pyNext_enum_item he hi p.isList (x:=u) (by simpa using hu) hne fun h1 he1 hi1 ht1 hz1 hk1=>⟨_,rfl,?_⟩
  refine wpAny_letOwnedTupleGo_enum he1 fun h2 he2 hs2=>?_
  replace hs2:Heap.SameBut e h1 h2:=hs2;have hel:e < s.heap.objs.size:=Heap.lt_size he;have hk:∀ b o,b ∉ [e,it]->s.heap.get? b=some o->h2.get? b=some o:=fun b o hb q=>by
   simp only [mem_cons,not_mem_nil,or_false,not_or] at hb;exact hs2.extBut _ _ hb.1 (hk1 b o hb.1 hb.2 q)
  have I1:Inv X pins σ H { s with heap:=h2,toks:=s.toks + 1 }:=I.turnedL hk hf;have fo:Ow X pins H s.heap.objs.size:=I.fpOk (Nat.le_refl _) (I.hok.fresh (Nat.le_refl _));have ht2:h2.get? s.heap.objs.size=some { cls:=.type "tuple",data:=.seq #[.int i s.toks,u] }:=(hs2.2 _ (Nat.ne_of_gt hel)).trans ht1;have I2:=I1.adopt (o:=.tup [.int i,x]) fo ⟨by show 2 <= sizeLine;decide,[.int i s.toks,u],.cons ⟨_,rfl⟩ (.cons ru .nil),⟨_,ht2,rfl,_,rfl⟩⟩;refine ⟨.ref s.heap.objs.size,_,I2,rfl,⟨_,x,fo.1,rfl,fun ys hy=>by rw [I.list_inj hy hq];exact hx,rfl⟩,⟨u,?_,?_⟩,fun b hb=>?_⟩
  ·have e1:((i + 1:Nat):Int)=(i:Int) + 1:=by omega
   rw [e1];exact he2
  ·exact hi1.extBut hs2.extBut (Ne.symm hne)
  ·have hlt:b < s.heap.objs.size:=by
    simp only [mem_cons,not_mem_nil,or_false] at hb;rcases hb with rfl | rfl
    ·exact hel
    ·obtain ⟨o,q,_⟩:=hi;exact Heap.lt_size q
   rw [jb (Nat.ne_of_lt hlt)];exact (hf b hb).1
 done:=by
  intro X hP hw hK hc i pins s σ H E I hf ⟨old,he,hi⟩ hg;subst hP hw hK;obtain ⟨xs,hq,hx⟩:=hg;obtain ⟨its,rv,p,hz⟩:=I.list hq;have hl:=rv.length;exact wpAny_pyNext_enum_end (I.ok.hd hc) he hi p.isList (by simp;omega) fun h' eb=>⟨rfl,I.turnedL (t':=s.toks) (fun b o hb q=>eb b o (fun z=>hb (by simp [z])) q) hf⟩
 self:=fun _ _ _ _ _ ⟨_,he,_⟩ h=>wpAny_pyIter_enum he h
theorem Ft:bootBuiltins "enumerate"=some (.type "enumerate"):=by decide +kernel
theorem Rv:bootBuiltins "reversed"=some (.type "reversed"):=by decide +kernel
noncomputable def Itz (K:W.Frag) (a b:Addr):It:=
  ⟨fun i H=>∃ xs ys x y,SqL K H a xs/\SqL K H b ys/\xs[i]? = some x/\ys[i]? = some y,
   fun i H v H'=>∃ p x y,H p=none/\v=.ref p/\(∀ xs,SqL K H a xs->xs[i]? = some x)/\(∀ ys,SqL K H b ys->ys[i]? = some y)/\H'=upd H p (.tup [x,y]),
   fun i H=>∃ xs ys,SqL K H a xs/\SqL K H b ys/\(xs.length <= i\/ys.length <= i)⟩
section
variable {X:Cx}
noncomputable def QO (K:W.Frag) (ta:TA):TI:=fun σ H R=>ta σ H fun vs H1=>∃ a,vs=[.ref a]/\(∃ xs,SqL K H1 a xs)/\R (Ite K a) H1
theorem cr {es:List Expr} {k} {tpos:Pos} {a:Expr} {ta:TA} {p pos:Pos} (hg:Gl X "enumerate") (hm:X.mg "enumerate"=none) (ha:PA X [a] ta) (hs:starEach [a] X.env=[(false,eval a X.env)]:=by rfl) :
  PI X (.Tuple es k tpos) (.Call (.Name "enumerate" p) [a] [] pos) (QO X.K ta):=by
 intro pins s σ H R I h;refine Call_ (bo I hg hm Ft (PyProof.Rows.callWith_type1 (thn (ha pos pins s σ H _ I h) fun us s1 hZ1=>?_) hs rfl));obtain ⟨vs,H1,I1,r1,q1⟩:=hZ1;obtain ⟨a,e,⟨xs,hq⟩,q⟩:=q1;subst e;cases r1 with
 | cons r rr=>
  cases rr;cases r;obtain ⟨its,rv,pl,hz⟩:=I1.list hq;refine call_enumerate_list pl.isList fun h' hE hI hsz hk=>wpAny_pyIter_enum hE ?_
  refine ⟨s1.heap.objs.size + 1,[s1.heap.objs.size + 1,s1.heap.objs.size],_,_,H1,rfl,I1.kept (t':=s1.toks) hk,nE a _ _ (Nat.succ_ne_self _),⟨_,hE,hI⟩,fun b hb=>?_,q⟩;have hb':s1.heap.objs.size <= b:=by
   simp only [mem_cons,not_mem_nil,or_false] at hb;rcases hb with rfl | rfl
   ·exact Nat.le_succ _
   ·exact Nat.le_refl _
  exact I1.fpOk hb' (I1.hok.fresh hb')
end
theorem Tf {X:Cx} {es:List Expr} {k:Nat} {pos:Pos} {t:TGs} {n:Nat} {K:W.Frag} (hK:X.K=K) (hc:X.calm=true) (h:PGs X es t)
  (hn:(assignEach es X.env).length=n:=by rfl) (hst:(assignEach es X.env).findIdx? (·.1)=none:=by rfl):PG X (.Tuple es k pos) (KN K n t):=by
 subst hK;exact HN hc h hn hst
section
variable {X:Cx}
theorem vx {P:Nat->Value->Prop} {f:Nat->V} (hP:∀ i v,P i v->ae (f i) v):∀ (l:List Value) (k:Nat),(∀ j v,l[j]? = some v->P (k + j) v)->Kd ((List.range l.length).map fun i=>f (k + i)) l
 | [],_,_=>.nil
 | v :: r,k,h=>by
  rw [length_cons,List.range_succ_eq_map,map_cons,map_map];refine .cons (hP _ _ (h 0 v rfl)) ?_;have:=vx hP r (k + 1) fun j w hj=>by
   have:=h (j + 1) w (by simpa using hj);rwa [show k + 1 + j=k + (j + 1) by omega]
  have e:(fun i=>f (k + 1 + i))=((fun i=>f (k + i)) ∘ Nat.succ):=funext fun i=>by
   show f (k + 1 + i)=f (k + (i + 1));rw [show k + 1 + i=k + (i + 1) by omega]
  rwa [e] at this
theorem Yu {P:Nat->Value->Prop} {f:Nat->V} (hP:∀ i v,P i v->ae (f i) v) {acc:Array Value} {n:Nat} (h:ItemsOf P acc n):Kd ((List.range n).map f) acc.toList:=by
 have:=vx hP acc.toList 0 fun j v hj=>by
  rw [Nat.zero_add];exact h.2 j v (by rw [<- Array.getElem?_toList];exact hj)
 rw [show acc.toList.length=n by rw [Array.length_toList];exact h.1] at this;simpa using this
end
end L2
namespace L2
open PySem PySem.Spec PyProof.Rows
inductive EqH (K:W.Frag) (H:Hp):Nat->V->V->Bool->Prop
 | flat {k:Nat} {x y:V} (hx:nk x=true) (hy:nk y=true):EqH K H k x y (eqV x y)
 | lst {k:Nat} {p q:Addr} {xs ys:List V} {e:Nat->Bool} (hp:SqL K H p xs) (hq:SqL K H q ys) (hl:xs.length=ys.length) (he:∀ (j:Nat) (x y:V),xs[j]? = some x->ys[j]? = some y->EqH K H k x y (e j)):EqH K H (k + 1) (.ref p) (.ref q) ((List.range xs.length).all e)
 | lstN {k:Nat} {p q:Addr} {xs ys:List V} (hp:SqL K H p xs) (hq:SqL K H q ys) (hl:xs.length ≠ ys.length):EqH K H (k + 1) (.ref p) (.ref q) false
 | tup {k:Nat} {p q:Addr} {xs ys:List V} {e:Nat->Bool} (hp:SqT K H p xs) (hq:SqT K H q ys) (he:∀ (j:Nat) (x y:V),xs[j]? = some x->ys[j]? = some y->EqH K H k x y (e j)):EqH K H (k + 1) (.ref p) (.ref q) ((List.range (min xs.length ys.length)).all e && xs.length == ys.length)
theorem gB {x:V} (h:nk x=true):eqV x x=true:=by
 cases x <;> first | rfl | (simp [eqV];done) | cases h
theorem nu {n:Nat} {e:Nat->Bool} (h:∀ j,j < n->e j=true):(List.range n).all e=true:=by
 rw [all_eq_true];exact fun j hj=>h j (List.mem_range.mp hj)
section
variable {X:Cx} {pins:List (Addr × Obj)} {σ:St} {H:Hp} {s:Shared}
theorem EqH.self (I:Inv X pins σ H s) {k:Nat} {x y:V} {b:Bool} (h:EqH X.K H k x y b) (e:x=y):b=true:=by
 induction h with
 | flat hx hy=>subst e;exact gB hx
 | @lst k p q xs ys f hp hq hl he ih=>
  injection e with e;subst e;have:=I.list_inj hp hq;subst this;refine nu fun j hj=>?_
  exact ih j xs[j] xs[j] (getElem?_eq_getElem hj) (getElem?_eq_getElem hj) rfl
 | lstN hp hq hl=>
  injection e with e;subst e;have:=I.list_inj hp hq;subst this;exact absurd rfl hl
 | @tup k p q xs ys f hp hq he ih=>
  injection e with e;subst e;have:=I.tuple_inj hp hq;subst this;rw [Bool.and_eq_true];refine ⟨nu fun j hj=>?_,by simp⟩;have hj':j < xs.length:=by omega
  exact ih j xs[j] xs[j] (getElem?_eq_getElem hj') (getElem?_eq_getElem hj') rfl
theorem Gk (A:Around):A.in1.units=A.units + 1:=rfl
theorem SA (I:Inv X pins σ H s) {k:Nat} {x y:V} {b:Bool} (h:EqH X.K H k x y b):∀ (A:Around) (v u:Value),A.units + k < cLine->ae x v->ae y u ->
  SeqAt.EqAt A s v u b/\(∀ p q,x=.ref p->y=.ref q->SeqAt.RcAt A s v u b):=by
 induction h with
 | flat hx hy=>
  intro A v u hu rx ry;refine ⟨QJ rx ry hx hy,fun p q e _=>?_⟩;subst e;cases hx
 | @lst k p q xs ys f hp hq hl he ih=>
  intro A v u hu rx ry;cases rx;cases ry;obtain ⟨its,r,pl,hz⟩:=I.list hp;obtain ⟨jts,r',pl',hz'⟩:=I.list hq;have l1:=r.length;have l2:=r'.length;have rc:SeqAt.RcAt A s (.ref p) (.ref q) ((List.range xs.length).all f):=by
   have:=SeqAt.RcAt.lists (A:=A) (e:=f) pl.isList pl'.isList (by simp only [size_toArray];omega) (by omega) fun j h1 h2=>by
    simp only [size_toArray] at h1 h2;have hj:j < xs.length:=by omega
    have hj':j < ys.length:=by omega
    obtain ⟨a,ha,ra⟩:=r.get (getElem?_eq_getElem hj);obtain ⟨c,hc,rc⟩:=r'.get (getElem?_eq_getElem hj');have ea:its.toArray[j]=a:=by
     have:=getElem?_eq_getElem h1;rw [ha] at this;simpa using (Option.some.inj this).symm
    have ec:jts.toArray[j]=c:=by
     have:=getElem?_eq_getElem h2;rw [hc] at this;simpa using (Option.some.inj this).symm
    rw [ea,ec];exact (ih j _ _ (getElem?_eq_getElem hj) (getElem?_eq_getElem hj') A.in1 a c (by rw [Gk];omega) ra rc).1
   rwa [size_toArray,<- l1] at this
  refine ⟨?_,fun _ _ _ _=>rc⟩;by_cases hne:p=q
  ·have hb:=(EqH.lst hp hq hl he).self I (congrArg V.ref hne);rw [hb,hne];exact SeqAt.EqAt.same _
  ·exact SeqAt.EqAt.of_refs hne rc
 | @lstN k p q xs ys hp hq hl=>
  intro A v u hu rx ry;cases rx;cases ry;obtain ⟨its,r,pl,hz⟩:=I.list hp;obtain ⟨jts,r',pl',hz'⟩:=I.list hq;have l1:=r.length;have l2:=r'.length;have rc:SeqAt.RcAt A s (.ref p) (.ref q) false:=SeqAt.RcAt.lists_lengths pl.isList pl'.isList (by simp only [size_toArray,bne_iff_ne,ne_eq];omega) (by omega);refine ⟨SeqAt.EqAt.of_refs (fun e=>hl ?_) rc,fun _ _ _ _=>rc⟩;subst e;rw [I.list_inj hp hq]
 | @tup k p q xs ys f hp hq he ih=>
  intro A v u hu rx ry;cases rx;cases ry;obtain ⟨its,r,pl,hz⟩:=I.tuple hp;obtain ⟨jts,r',pl',hz'⟩:=I.tuple hq;have l1:=r.length;have l2:=r'.length;have rc:SeqAt.RcAt A s (.ref p) (.ref q) ((List.range (min xs.length ys.length)).all f && xs.length == ys.length):=by
   have:=SeqAt.RcAt.tuples (A:=A) (e:=f) pl pl' (by omega) fun j h1 h2=>by
    simp only [size_toArray] at h1 h2;have hj:j < xs.length:=by omega
    have hj':j < ys.length:=by omega
    obtain ⟨a,ha,ra⟩:=r.get (getElem?_eq_getElem hj);obtain ⟨c,hc,rc⟩:=r'.get (getElem?_eq_getElem hj');have ea:its.toArray[j]=a:=by
     have:=getElem?_eq_getElem h1;rw [ha] at this;simpa using (Option.some.inj this).symm
    have ec:jts.toArray[j]=c:=by
     have:=getElem?_eq_getElem h2;rw [hc] at this;simpa using (Option.some.inj this).symm
    rw [ea,ec];exact (ih j _ _ (getElem?_eq_getElem hj) (getElem?_eq_getElem hj') A.in1 a c (by rw [Gk];omega) ra rc).1
   rwa [size_toArray,size_toArray,<- l1,<- l2] at this
  refine ⟨?_,fun _ _ _ _=>rc⟩;by_cases hne:p=q
  ·have hb:=(EqH.tup hp hq he).self I (congrArg V.ref hne);rw [hb,hne];exact SeqAt.EqAt.same _
  ·exact SeqAt.EqAt.of_refs hne rc
end
section
variable {X:Cx} {pins:List (Addr × Obj)} {σ:St} {H:Hp} {s:Shared}
theorem Lx (I:Inv X pins σ H s) {k:Nat} {A:Around} {xs ys:List V} {its jts:List Value} {f:Nat->Bool} (hu:A.units + k < cLine) (r:Kd xs its) (r':Kd ys jts)
  (he:∀ (j:Nat) (x y:V),xs[j]? = some x->ys[j]? = some y->EqH X.K H k x y (f j)):∀ j (h1:j < its.toArray.size) (h2:j < jts.toArray.size),SeqAt.EqAt A s its.toArray[j] jts.toArray[j] (f j):=fun j h1 h2=>by
 simp only [size_toArray] at h1 h2;have l1:=r.length;have l2:=r'.length;have hj:j < xs.length:=by omega
 have hj':j < ys.length:=by omega
 obtain ⟨a,ha,ra⟩:=r.get (getElem?_eq_getElem hj);obtain ⟨c,hc,rc⟩:=r'.get (getElem?_eq_getElem hj');have ea:its.toArray[j]=a:=by
  have:=getElem?_eq_getElem h1;rw [ha] at this;simpa using (Option.some.inj this).symm
 have ec:jts.toArray[j]=c:=by
  have:=getElem?_eq_getElem h2;rw [hc] at this;simpa using (Option.some.inj this).symm
 rw [ea,ec];exact (SA I (he j _ _ (getElem?_eq_getElem hj) (getElem?_eq_getElem hj')) A a c hu ra rc).1
theorem tO (I:Inv X pins σ H s) {k:Nat} {p q:Addr} {b:Bool} (h:EqH X.K H k (.ref p) (.ref q) b) (A:Around) (hu:A.units + k < cLine):SeqAt.RcNeAt A s (.ref p) (.ref q) (!b):=by
 cases h with
 | flat hx hy=>cases hx
 | @lst k _ _ xs ys f hp hq hl he=>
  obtain ⟨its,r,pl,hz⟩:=I.list hp;obtain ⟨jts,r',pl',hz'⟩:=I.list hq;have l1:=r.length;have l2:=r'.length;have:=SeqAt.RcNeAt.lists (A:=A) (e:=f) pl.isList pl'.isList (by simp only [size_toArray];omega) (by omega) (Lx I (A:=A.in1) (k:=k) (by rw [Gk];omega) r r' he);rwa [size_toArray,<- l1] at this
 | @lstN k _ _ xs ys hp hq hl=>
  obtain ⟨its,r,pl,hz⟩:=I.list hp;obtain ⟨jts,r',pl',hz'⟩:=I.list hq;have l1:=r.length;have l2:=r'.length;exact SeqAt.RcNeAt.lists_lengths pl.isList pl'.isList (by simp only [size_toArray,bne_iff_ne,ne_eq];omega) (by omega)
 | @tup k _ _ xs ys f hp hq he=>
  obtain ⟨its,r,pl,hz⟩:=I.tuple hp;obtain ⟨jts,r',pl',hz'⟩:=I.tuple hq;have l1:=r.length;have l2:=r'.length;have:=SeqAt.RcNeAt.tuples (A:=A) (e:=f) pl pl' (by omega) (Lx I (A:=A.in1) (k:=k) (by rw [Gk];omega) r r' he);rwa [size_toArray,size_toArray,<- l1,<- l2] at this
end
section
variable {X:Cx}
noncomputable def aR (K:W.Frag):R2:=fun x y H Q=>∃ p q b,x=.ref p/\y=.ref q/\EqH K H 8 (.ref p) (.ref q) b/\Q (.bl (!b)) H
theorem bO (hU:X.A.units + 64 < cLine):OpR X (compareOp .NotEq) (aR X.K):=by
 intro pins s σ H x y v u Q I rx ry h;obtain ⟨p,q,b,rfl,rfl,hE,q'⟩:=h;cases rx;cases ry;exact tO I hE X.A (by omega) _ _ _ _ ⟨.bl (!b),H,I,rfl,q'⟩
end
theorem EqH.mono {K:W.Frag} {H:Hp} {j k:Nat} {x y:V} {b:Bool} (h:EqH K H j x y b):j <= k->EqH K H k x y b:=by
 induction h generalizing k with
 | flat hx hy=>exact fun _=>.flat hx hy
 | lst hp hq hl he ih=>
  intro hk;obtain ⟨m,rfl⟩:∃ m,k=m + 1:=⟨k - 1,by omega⟩;exact .lst hp hq hl fun j x y h1 h2=>ih j x y h1 h2 (by omega)
 | lstN hp hq hl=>
  intro hk;obtain ⟨m,rfl⟩:∃ m,k=m + 1:=⟨k - 1,by omega⟩;exact .lstN hp hq hl
 | tup hp hq he ih=>
  intro hk;obtain ⟨m,rfl⟩:∃ m,k=m + 1:=⟨k - 1,by omega⟩;exact .tup hp hq fun j x y h1 h2=>ih j x y h1 h2 (by omega)
noncomputable def LP:V->V->Bool
 | .int _,.int _=>true
 | .str _,.str _=>true
 | .bl _,.bl _=>true
 | .non,.non=>true
 | _,_=>false
theorem Wy {x y:V} (h:LP x y=true):nk x=true/\nk y=true/\eqV x y=decide (x=y):=by
 cases x <;> cases y <;> first | (exfalso;simp [LP] at h;done) | (refine ⟨rfl,rfl,?_⟩;rfl) | (refine ⟨rfl,rfl,?_⟩;rw [Bool.eq_iff_iff];simp [eqV];done)
theorem EqH.flats {K:W.Frag} {H:Hp} {k:Nat} {p q:Addr} {xs ys:List V} (hp:SqL K H p xs) (hq:SqL K H q ys) (h:∀ x ∈ xs,∀ y ∈ ys,LP x y=true):EqH K H (k + 1) (.ref p) (.ref q) (decide (xs=ys)):=by
 by_cases hl:xs.length=ys.length
 ·have hd:decide (xs=ys)=(List.range xs.length).all fun j=>eqV (xs.getD j .non) (ys.getD j .non):=by
   rw [Bool.eq_iff_iff,decide_eq_true_eq,all_eq_true];constructor
   ·rintro rfl j hj;have hj':=List.mem_range.mp hj;have hm:xs.getD j .non ∈ xs:=by rw [getD_eq_getElem?_getD,getElem?_eq_getElem hj'];exact getElem_mem hj'
    rw [(Wy (h _ hm _ hm)).2.2,decide_eq_true rfl]
   ·intro z;refine ext_getElem hl fun j h1 h2=>?_
    have:=z j (List.mem_range.mpr h1);rw [getD_eq_getElem?_getD,getD_eq_getElem?_getD,getElem?_eq_getElem h1,getElem?_eq_getElem h2] at this;have w:eqV xs[j] ys[j]=true:=this;rw [(Wy (h _ (getElem_mem h1) _ (getElem_mem h2))).2.2,decide_eq_true_eq] at w;exact w
  rw [hd];refine .lst hp hq hl fun j x y h1 h2=>?_
  have e:=Wy (h x (mem_of_getElem? h1) y (mem_of_getElem? h2));rw [getD_eq_getElem?_getD,getD_eq_getElem?_getD,h1,h2];exact .flat e.1 e.2.1
 ·rw [decide_eq_false (fun z=>hl (by rw [z]))];exact .lstN hp hq hl
end L2
namespace L2
open PySem PySem.Spec PyProof.Rows PySem.Builtin PySem.Builtin.ObjectAttr
theorem LJ {H:Hp} {a:Addr} {o:HO} (h:H a=some o):upd H a o=H:=by
 funext b;unfold upd;by_cases e:b=a
 ·rw [if_pos e,e,h]
 ·rw [if_neg e]
noncomputable abbrev bmV:List Value:=[.type "ValueError",.type "Exception",.type "BaseException",.type "object"]
noncomputable def Uu (K:W.Frag) (C fI:Addr):Bool:=
 match K.lookup C with
 | some ⟨.type "type",_,.cls cd,sl⟩=>
  match cd.mro,sl.toList with
  | .ref D :: tl,[_,_,_,_,some (.builtin n),_]=>
   (D == C) && (n == "ValueError.__new__") && (cd.hasDel == false) && (cd.hasDict == true) && PySem.W.tailIn K bmV tl && PySem.W.nsOkIn K cd.ns && (PySem.W.nsIn K cd.ns "__init__" == some (some (.ref fI)))
  | _,_=>false
 | _=>false
theorem PM {K:W.Frag} {h:Heap} {N:Addr} {mN:Str->Option Value} {x:Str} {v:Value} (KX:K.In h) (G:h.Ns N mN) (e:PySem.W.nsIn K N x=some (some v)):mN x=some v:=by
 obtain ⟨ob,rows,ep,e1,e2,_,look⟩:=G;unfold PySem.W.nsIn at e;split at e
 ·rename_i ho;have z:=KX _ _ ho;rw [e1] at z;cases z;cases e2;split at e
  ·rename_i en he;cases e;rw [<- look];unfold nsFind findBy;rw [<- Array.find?_toList,he];rfl
  ·split at e <;> cases e
 ·cases e
theorem fw {K:W.Frag} {h:Heap} {C fI:Addr} (KX:K.In h) (e:Uu K C fI=true) :
  ∃ tl N nm q bs sn sub ab co dd k0 k1 k2 k3 k5 mN,h.get? C=some (excClassObj nm q C N bs tl true sn sub ab co dd k0 k1 k2 k3 k5 "ValueError.__new__")/\h.Ns N mN/\mN "__init__"=some (.ref fI)/\OwnTail h bmV tl:=by
 unfold Uu at e;split at e
 ·rename_i dd cd sl ho;split at e
  ·rename_i D tl k0 k1 k2 k3 n k5 hm hs;simp only [Bool.and_eq_true,beq_iff_eq] at e;obtain ⟨⟨⟨⟨⟨⟨e1,e2⟩,e3⟩,e4⟩,e5⟩,e6⟩,e7⟩:=e;obtain ⟨nm,bs,mro,ns,qn,hd,sn,sub,ab,co,del⟩:=cd;simp only at hm e3 e4 e6 e7;subst hm e1 e2 e3 e4;obtain ⟨l⟩:=sl;simp only at hs;subst hs;have G:h.Ns ns (h.nsMap ns):=.of_isNs (PySem.W.isNs_of_in KX e6);exact ⟨tl,ns,nm,qn,bs,sn,sub,ab,co,dd,k0,k1,k2,k3,k5,h.nsMap ns,KX _ _ ho,G,PM KX G e7,PySem.W.tail_of_in KX e5⟩
  ·cases e
 ·cases e
section
variable {P:Program} {w:World} {A:Around} {h:Heap} {g:Array GenState} {d:Drawn} {t:Nat} {os:OsState} {K:W.Frag} {C fI:Addr} {R:Result->Shared->Prop}
theorem bF {us:List Value} (KX:K.In h) (e:Uu K C fI=true) (hf:PySem.W.typeIn K (.ref fI)=some (.type "function")) (hz:us.length <= sizeLine)
  (hq:∀ h' x,h.objs.size <= x->Heap.MadeExcOf h h' x (.ref C) us->codeAny (model P w) (A.under (.builtin "type.__call__" ⟨.ref C :: us,[]⟩)) (.call (.ref fI) ⟨.ref x :: us,[]⟩) (PySem.W.InitBack x R) ⟨h',g,d,t,os⟩) :
  codeAny (model P w) A (.call (.ref C) ⟨us,[]⟩) R ⟨h,g,d,t,os⟩:=by
 obtain ⟨tl,N,nm,q,bs,sn,sub,ab,co,dd,k0,k1,k2,k3,k5,mN,hC,hN,hi,T⟩:=fw KX e;have F:=PySem.F.excBase_ValueError;have f1:=tc_lookup;have f2:=tc_bind (.ref C);have ty:(⟨h,g,d,t,os⟩:Shared).TypeIs (.ref C) "type" := ⟨_,hC,rfl⟩;refine codeAny_of_tree ?_;show wpAny _ _ (callAny (.ref C) _) _ _ _
 repeat (any_goals (first | assumption | with_reducible refine wpAny_loadPart_at hC ?_ | wp_step))
 refine ⟨rfl,?_⟩;refine codeAny_call_builtin_at (Code.quiet_builtin _ (by decide +kernel)) entry_typeCall (wpAny_check_type_call_sub hC ?_)
 repeat (first | with_reducible refine wpAny_loadPart_at hC ?_ | with_reducible refine wpAny_madeBy_exc hC ?_ | wp_step)
 refine codeAny_call_builtin_code (Code.quiet_builtin _ F.quiet) (wpAny_check_new_subT F T hC ?_);refine codeAny_exc_new_subT (rest:=us) F T hC ?_ hz;show wpAny _ _ _ _ _ _;generalize hh:(h.push { cls:=.type "tuple",data:=.seq us.toArray }).push { cls:=.ref C,data:=.fields #[.ref h.objs.size,.none,.none,.none,.bool false,.none] }=h2;have k:∀ b o,h.get? b=some o->h2.get? b=some o:=fun b o z=>by rw [<- hh];exact Heap.get?_push_of_some _ (Heap.get?_push_of_some _ z)
 have hx:h2.get? (h.objs.size + 1)=some { cls:=.ref C,data:=.fields #[.ref h.objs.size,.none,.none,.none,.bool false,.none] }:=by rw [<- hh];heap_get
 have ht:h2.get? h.objs.size=some { cls:=.type "tuple",data:=.seq us.toArray }:=by rw [<- hh];exact Heap.get?_push_of_some _ (Heap.get?_push_at rfl rfl)
 have M:Heap.MadeExcOf h h2 (h.objs.size + 1) (.ref C) us:=⟨k,Heap.get?_none_of_le (Nat.le_succ _),h.objs.size,hx,Heap.get?_none_of_le (Nat.le_refl _),ht⟩;have cC:(Value.ref C :: tl).contains (.ref C)=true:=by simp
 unfold isInstance
 repeat (first | with_reducible refine wpAny_loadPart_at hx ?_ | wp_step)
 refine wpAny_isSubtype_exc (k _ _ hC) ?_;rw [cC]
 repeat wp_step
 show wpAny _ _ (typeLookup (.ref C) _) _ _ _;refine wpAny_typeLookup_tail (k _ _ hC) (hN.keeps k) (T.keeps k) F.mroIs F.init.lookup ?_;rw [hi];refine wpAny_holding (wpAny_bind ((PySem.W.bind_fn (KX.keeps k) _ hf).here (wpAny_bind (wpAny_call ?_))));refine codeAny_mono (hq h2 _ (Nat.le_succ _) M) fun r s' z=>?_
 rcases r with e | (v | _ | _ | _) <;> first | exact z | exact z.elim | skip
 obtain ⟨rfl,z⟩:=z;exact wpAny_pure (wpAny_pure z)
end
noncomputable def JF:List Value->Bool
 | .ref _ :: r=>JF r
 | l=>l == bmV
theorem xl (self:Value):refuseLoop self "__setattr__" bmV=pure ():=by kernel_rfl
theorem Ip (self:Value):∀ {l:List Value},JF l=true->refuseLoop self "__setattr__" l=pure ()
 | .ref c :: r,e=>by rw [refuseLoop_ref];exact Ip self (l:=r) e
 | [],e=>by cases e
 | .type n :: r,e=>by rw [show Value.type n :: r=bmV from beq_iff_eq.mp e];exact xl self
 | .none :: r,e=>by rw [show Value.none :: r=bmV from beq_iff_eq.mp e];exact xl self
 | .bool b :: r,e=>by rw [show Value.bool b :: r=bmV from beq_iff_eq.mp e];exact xl self
 | .int b c :: r,e=>by rw [show Value.int b c :: r=bmV from beq_iff_eq.mp e];exact xl self
 | .str b c :: r,e=>by rw [show Value.str b c :: r=bmV from beq_iff_eq.mp e];exact xl self
 | .bytes b c :: r,e=>by rw [show Value.bytes b c :: r=bmV from beq_iff_eq.mp e];exact xl self
 | .float b c :: r,e=>by rw [show Value.float b c :: r=bmV from beq_iff_eq.mp e];exact xl self
 | .builtin b :: r,e=>by rw [show Value.builtin b :: r=bmV from beq_iff_eq.mp e];exact xl self
theorem zq (T:String) (h:bmV.contains (.type T)=true):∀ {l:List Value},JF l=true->l.contains (.type T)=true
 | .ref c :: r,e=>by rw [List.contains_cons,zq T h (l:=r) e,Bool.or_true]
 | [],e=>by cases e
 | .type n :: r,e=>by rw [show Value.type n :: r=bmV from beq_iff_eq.mp e];exact h
 | .none :: r,e=>by rw [show Value.none :: r=bmV from beq_iff_eq.mp e];exact h
 | .bool b :: r,e=>by rw [show Value.bool b :: r=bmV from beq_iff_eq.mp e];exact h
 | .int b c :: r,e=>by rw [show Value.int b c :: r=bmV from beq_iff_eq.mp e];exact h
 | .str b c :: r,e=>by rw [show Value.str b c :: r=bmV from beq_iff_eq.mp e];exact h
 | .bytes b c :: r,e=>by rw [show Value.bytes b c :: r=bmV from beq_iff_eq.mp e];exact h
 | .float b c :: r,e=>by rw [show Value.float b c :: r=bmV from beq_iff_eq.mp e];exact h
 | .builtin b :: r,e=>by rw [show Value.builtin b :: r=bmV from beq_iff_eq.mp e];exact h
structure Ss (K:W.Frag) (C:Addr):Prop where
 hd:PySem.W.hasDictIn K C=true
 ov:((PySem.W.clsIn K C).any fun cd=>JF cd.mro)=true
 sa:PySem.W.findIn K (.ref C) "__setattr__"=some (some (.builtin "object.__setattr__"))
 ga:PySem.W.findIn K (.ref C) "__getattribute__"=some (some (.builtin "BaseException.__getattribute__"))
 gt:PySem.W.findIn K (.ref C) "__getattr__"=some none
 ex:∃ fI,Uu K C fI=true
noncomputable def XF (x C:Addr) (od:Option Addr):Heap->Prop:=fun h=>∃ vs sl,h.get? x=some ⟨.ref C,od,.fields vs,sl⟩/\1 < vs.size/\vs[1]? = some .none
noncomputable def XD (dx:Addr) (fs:List (Str × V)):Heap->Prop:=fun h=>∃ mA,h.Ns1 dx mA/\(∀ f,Ps (fs.lookup f) (mA f))/\PySem.Within mA (fs.map (·.1))
theorem XF.at {x C:Addr} {od:Option Addr} {h h':Heap} (z:XF x C od h) (k:∀ o,h.get? x=some o->h'.get? x=some o):XF x C od h':=let ⟨vs,sl,e,r⟩:=z;⟨vs,sl,k _ e,r⟩
theorem XD.at {dx:Addr} {fs:List (Str × V)} {h h':Heap} (z:XD dx fs h) (k:∀ o,h.get? dx=some o->h'.get? dx=some o):XD dx fs h':=let ⟨mA,e,r⟩:=z;⟨mA,e.at k,r⟩
theorem XF.ok {P:Program} {w:World} {H:Hp} {h:Heap} {x C:Addr} {od:Option Addr} (z:XF x C od h):Sd P w H h x (.ext (XF x C od)):=by
 obtain ⟨vs,sl,e,r⟩:=id z;exact ⟨z,⟨_,e⟩,fun h1 h2 q k=>q.at k⟩
theorem XD.ok {P:Program} {w:World} {H:Hp} {h:Heap} {dx:Addr} {fs:List (Str × V)} (z:XD dx fs h):Sd P w H h dx (.ext (XD dx fs)):=by
 obtain ⟨mA,⟨o,es,ep,e,_⟩,_⟩:=id z;exact ⟨z,⟨_,e⟩,fun h1 h2 q k=>q.at k⟩
section
variable {prog:Program} {w:World} {A:Around} {E:Value->Shared->Prop} {K:W.Frag} {C x:Addr} {s:Shared} {R:Result->Shared->Prop}
theorem dR {ox:Obj} {od:Option Obj} {name:Str} {tk:Tok} {v:Value} (KX:K.In s.heap) (J:PySem.W.InstAt s.heap x ox C od) (c:Ss K C) (ht:Ib K C name)
  (h:wpAny (model prog w) A.in1 (storeInOwnDict (.ref x) (.ref C) (.str name tk) name v false)
   (fun fin s'=>match fin with | .done f=>R (.ok f) s' | .again c'=>c'.quiet=true/\codeAny (model prog w) A c' R s') (fun e s'=>R (.error e) s') s) :
  codeAny (model prog w) A (.call (.builtin "object.__setattr__") ⟨[.ref x,.str name tk,v],[]⟩) R s:=by
 have G:=PySem.F.store_object;obtain ⟨cd,hc,ho⟩:=PySem.W.any_some c.ov;have ne:cd.mro.isEmpty=false:=by
  cases q:cd.mro with
  | nil=>rw [q] at ho;cases ho
  | cons _ _=>rfl
 have sub:PySem.W.Looks (model prog w) s.heap (isInstance (.ref x) (.type "object")) true:=
  J.type.andThen (PySem.W.looks_mroIn KX (by unfold PySem.W.mroIn;rw [hc,Option.bind_some,if_neg (by rw [ne];decide),zq "object" (by decide) ho]))
 refine codeAny_call_builtin G.slot.plain G.entry (@PySem.W.check_slot (model prog w) _ _ s "object.__setattr__" "object" "__setattr__" (.ref x) [.str name tk,v] [] _ G.kind G.split sub (G.args (.ref x) (.str name tk) v) ?_);have hm:PySem.W.Looks (model prog w) s.heap (mroOf (.ref C)) cd.mro:=(PySem.W.looks_clsIn KX hc).andThen .now;rw [PySem.W.osa_eq,refuse_eq];refine wpAny_bind (wpAny_bind (J.type.here (wpAny_bind (hm.here ?_))));rw [Ip _ ho];exact wpAny_pure (wpAny_bind (J.type.here (wpAny_bind ((PySem.W.looks_findIn KX ht).here (wpAny_bind (wpAny_pure h))))))
end
section
variable {X:Cx} {pins:List (Addr × Obj)} {σ:St} {H:Hp} {s:Shared} {x C dx:Addr} {fs:List (Str × V)} {f:Str} {y:V} {u:Value} {A:Around} {E:Value->Shared->Prop} {Q:Unit->Shared->Prop}
theorem oH (I:Inv X pins σ H s) (e:H x=some (.ext (XF x C none))) (c:Ss X.K C) (n:Ib X.K C f) (ry:ae y u)
  (h:∀ dx s',H dx=none->dx ≠ x->Inv X pins σ (upd (upd H x (.ext (XF x C (some dx)))) dx (.ext (XD dx [(f,y)]))) s'->Q () s'):wpAny (model X.prog X.w) A (setAttr (.ref x) f u) Q E s:=by
 obtain ⟨vs,sl,hx,z1,z2⟩:=(show Sd X.prog X.w H s.heap x (.ext (XF x C none)) from I.hok _ _ e).1;have J:PySem.W.InstAt s.heap x ⟨.ref C,none,.fields vs,sl⟩ C none:=⟨hx,rfl,rfl,True.intro⟩;refine PySem.W.set_plain I.kIn J c.sa (dR (s:={ s with toks:=s.toks + 1 }) I.kIn J c n ?_);obtain ⟨cd,hc,hd'⟩:=PySem.W.any_some c.hd;refine wpAny_bind (wpAny_pure (wpAny_bind (wpAny_bind (wpAny_loadPart hx (wpAny_bind (PySem.W.Looks.here (s:={ s with toks:=s.toks + 1 }) (PySem.W.looks_clsIn I.kIn hc) ?_))))));rw [hd'];show wpAny _ _ (alloc PySem.W.emptyDict >>= fun d=>(update x fun o=>{ o with dict:=some d }) >>= fun _=>dictMade (.ref C) x d) _ _ _;refine wpAny_bind (wpAny_alloc (wpAny_bind ?_));have hx1:(s.heap.push PySem.W.emptyDict).get? x=some ⟨.ref C,none,.fields vs,sl⟩:=Heap.get?_push_of_some _ hx;have lx:x < s.heap.objs.size:=Heap.lt_size hx;refine wpAny_update hx1 (wpAny_pure ?_);have e1:(s.heap.push PySem.W.emptyDict).get? s.heap.objs.size=some PySem.W.emptyDict:=Heap.get?_push_size s.heap rfl;have e3:(s.heap.push PySem.W.emptyDict).Ns s.heap.objs.size (fun _=>none):=⟨PySem.W.emptyDict,#[],_,e1,rfl,(fun e he=>absurd he (by simp)),fun _=>rfl⟩;generalize hg2:(s.heap.push PySem.W.emptyDict).update x (fun o=>{ o with dict:=some s.heap.objs.size })=h2;have nx:s.heap.objs.size ≠ x:=Nat.ne_of_gt lx;have k2:∀ b,b ≠ x->h2.get? b=(s.heap.push PySem.W.emptyDict).get? b:=fun b hb=>by rw [<- hg2];exact Heap.get?_update_other _ _ (Ne.symm hb)
 have x2:h2.get? x=some ⟨.ref C,some s.heap.objs.size,.fields vs,sl⟩:=by rw [<- hg2];exact Heap.get?_update_self _ hx1 rfl
 have n2:h2.Ns1 s.heap.objs.size (fun _=>none):=(Heap.Ns1.of_empty e3).at fun o q=>(k2 _ nx).trans q
 refine wpAny_bind (wpAny_pure (wpAny_bind ?_));refine wpAny_nsSet1 (s:={ s with heap:=h2,toks:=s.toks + 1 }) n2 fun h3 n3 s3=>?_
 have wi:PySem.Within (fun a=>if a=f then some u else none) [f]:=PySem.Within.cons f u (fun a ha=>absurd rfl ha);obtain ⟨oD,esD,epD,hoD,hdD,hcD⟩:=n3.count wi;refine wpAny_bind (wpAny_lookBehind hoD (by rw [hdD];exact pastItsLine_dict (Nat.le_trans hcD (by rw [sizeLine_eq];show 1 <= _;decide))) ?_);refine wpAny_pure (h s.heap.objs.size _ (I.hok.fresh (Nat.le_refl _)) nx ?_);have k3:∀ b o,b ≠ x->s.heap.get? b=some o->h3.get? b=some o:=fun b o hb q=>
  (s3.2 b (fun z=>by rw [z] at q;exact absurd (Heap.lt_size q) (Nat.lt_irrefl _))).trans ((k2 b hb).trans (Heap.get?_push_of_some _ q))
 have x3:h3.get? x=some ⟨.ref C,some s.heap.objs.size,.fields vs,sl⟩:=(s3.2 x (Ne.symm nx)).trans x2;generalize hgA:s.heap.update x (fun o=>{ o with dict:=some s.heap.objs.size })=hA;have kA:∀ b,b ≠ x->hA.get? b=s.heap.get? b:=fun b hb=>by rw [<- hgA];exact Heap.get?_update_other _ _ (Ne.symm hb)
 have xA:hA.get? x=some ⟨.ref C,some s.heap.objs.size,.fields vs,sl⟩:=by rw [<- hgA];exact Heap.get?_update_self _ hx rfl
 have szA:hA.objs.size=s.heap.objs.size:=by rw [<- hgA];exact Heap.size_update _ _ _
 have IA:=I.write (x:=x) (e:=x) (o:=.ext (XF x C (some s.heap.objs.size))) (h':=hA) (t':=s.toks) (by rw [e];exact True.intro) (.inl rfl) (fun b o hb q=>(kA b hb).trans q) ⟨_,xA⟩ (XF.ok ⟨vs,sl,xA,z1,z2⟩);refine IA.laid (a:=s.heap.objs.size) (h':=h3) (fun b o q=>?_) (Nat.le_of_eq szA) (XD.ok ⟨_,n3,fun g=>?_,wi⟩)
 ·by_cases hb:b=x
  ·subst hb;rw [xA] at q;rw [x3,<- q]
  ·rw [kA b hb] at q;exact k3 b o hb q
 ·show Ps (List.lookup g [(f,y)]) (if g=f then some u else none);by_cases hq:g=f
  ·rw [if_pos hq,hq,List.lookup_cons_self];exact ry
  ·rw [if_neg hq,lookup_cons,beq_false_of_ne hq];exact True.intro
theorem iG (I:Inv X pins σ H s) (e:H x=some (.ext (XF x C (some dx)))) (ed:H dx=some (.ext (XD dx fs))) (c:Ss X.K C) (n:Ib X.K C f) (hl:fs.length < 1000) (ry:ae y u)
  (h:∀ s',Inv X pins σ (upd H dx (.ext (XD dx (lh f y fs)))) s'->Q () s'):wpAny (model X.prog X.w) A (setAttr (.ref x) f u) Q E s:=by
 obtain ⟨vs,sl,hx,z1,z2⟩:=(show Sd X.prog X.w H s.heap x (.ext (XF x C (some dx))) from I.hok _ _ e).1;obtain ⟨mA,n1,r,wi⟩:=(show Sd X.prog X.w H s.heap dx (.ext (XD dx fs)) from I.hok _ _ ed).1;obtain ⟨od,ho,hlk⟩:=Zr n1;have J:PySem.W.InstAt s.heap x ⟨.ref C,some dx,.fields vs,sl⟩ C (some od):=⟨hx,rfl,rfl,ho⟩;refine PySem.W.set_plain I.kIn J c.sa (dR (s:={ s with toks:=s.toks + 1 }) I.kIn J c n ?_);obtain ⟨cd,hc,hd'⟩:=PySem.W.any_some c.hd;refine wpAny_bind (wpAny_pure (wpAny_bind (wpAny_bind (wpAny_loadPart hx (wpAny_bind (PySem.W.Looks.here (s:={ s with toks:=s.toks + 1 }) (PySem.W.looks_clsIn I.kIn hc) ?_))))));rw [hd'];refine wpAny_pure (a:=some dx) (wpAny_bind (wpAny_pure (wpAny_bind ?_)));refine wpAny_nsSet1 (s:={ s with toks:=s.toks + 1 }) n1 fun h3 n3 s3=>?_
 obtain ⟨oD,esD,epD,hoD,hdD,hcD⟩:=n3.count (PySem.Within.cons f u wi);refine wpAny_bind (wpAny_lookBehind hoD (by rw [hdD];exact pastItsLine_dict (Nat.le_trans hcD (by rw [length_cons,length_map,sizeLine_eq];omega))) ?_);refine wpAny_pure (h _ ?_);refine I.write (x:=dx) (e:=dx) (by rw [ed];exact True.intro) (.inl rfl) (fun b o hb q=>(s3.2 b hb).trans q) ⟨_,hoD⟩ (XD.ok ⟨_,n3,fun g=>?_,fun g hg=>?_⟩)
 ·show Ps ((lh f y fs).lookup g) (if g=f then some u else mA g);rw [Rm];by_cases q:g=f
  ·rw [if_pos q,if_pos q];exact ry
  ·rw [if_neg q,if_neg q];exact r g
 ·by_cases q:g=f
  ·rw [q];exact (Dk f y fs).1
  ·refine (Dk f y fs).2 g (wi g fun z=>hg ?_);show (if g=f then some u else mA g)=none;rw [if_neg q];exact z
noncomputable def XA (x C:Addr) (od:Option Addr):Heap->Prop:=fun h=>∃ vs sl,h.get? x=some ⟨.ref C,od,.fields vs,sl⟩
theorem XA.at {x C:Addr} {od:Option Addr} {h h':Heap} (z:XA x C od h) (k:∀ o,h.get? x=some o->h'.get? x=some o):XA x C od h':=let ⟨vs,sl,e⟩:=z;⟨vs,sl,k _ e⟩
theorem XA.ok {P:Program} {w:World} {H:Hp} {h:Heap} {x C:Addr} {od:Option Addr} (z:XA x C od h):Sd P w H h x (.ext (XA x C od)):=by
 obtain ⟨vs,sl,e⟩:=id z;exact ⟨z,⟨_,e⟩,fun h1 h2 q k=>q.at k⟩
theorem vR {b:Bool} {Q:Value->Shared->Prop} (I:Inv X pins σ H s) (e:H x=some (.ext (XA x C (some dx)))) (ed:H dx=some (.ext (XD dx fs))) (c:Ss X.K C) (n:Ib X.K C f) (l:fs.lookup f=some y)
  (h:∀ u s',Inv X pins σ H s'->ae y u->Q u s'):wpAny (model X.prog X.w) A (getAttr (.ref x) f b) Q E s:=by
 obtain ⟨vs,sl,hx⟩:=(show Sd X.prog X.w H s.heap x (.ext (XA x C (some dx))) from I.hok _ _ e).1;obtain ⟨mA,n1,r,wi⟩:=(show Sd X.prog X.w H s.heap dx (.ext (XD dx fs)) from I.hok _ _ ed).1;obtain ⟨od,ho,hlk⟩:=Zr n1;obtain ⟨u,hu,ru⟩:=Ps.some_of (v:=y) (o:=mA f) (by rw [<- l];exact r f);have J:PySem.W.InstAt s.heap x ⟨.ref C,some dx,.fields vs,sl⟩ C (some od):=⟨hx,rfl,rfl,ho⟩;have fin:=h u _ (I.tok (s.toks + 1)) ru;have KX:=I.kIn;clear h;obtain ⟨cd,hc,hd'⟩:=PySem.W.any_some c.hd;obtain ⟨cd',hc',hov⟩:=PySem.W.any_some c.ov;rw [hc] at hc';cases hc';have hh:=Qx ru;obtain ⟨hp,g,d,t,os⟩:=s;have L0:=J.type (M:=model X.prog X.w);have L1:=PySem.W.looks_findIn (M:=model X.prog X.w) KX c.ga;have L2:=PySem.W.looks_findIn (M:=model X.prog X.w) KX c.gt;have L3:=PySem.W.looks_findIn (M:=model X.prog X.w) KX n;have L4:=PySem.W.looks_own (M:=model X.prog X.w) (name:=f) (r:=some u) KX J hc (by unfold PySem.W.ownOf;rw [if_pos hd'];show PySem.W.lookIn f od=_;rw [hlk,hu]);have FB:=PySem.F.excAttr_ValueError;have f3:=FB.ga.bind (.ref x);have hx0:(b && onTheHeap (Value.builtin "BaseException.__getattribute__"))=false:=by cases b <;> rfl
 have hx2:(Value.builtin "BaseException.__getattribute__" == Value.builtin "object.__getattribute__")=false:=by decide +kernel
 have hx1:(onTheHeap (Value.ref C) && Value.builtin "BaseException.__getattribute__" == Value.builtin "object.__getattribute__")=false:=by rw [hx2];rfl
 unfold getAttr getAttrBy;refine wpAny_bind (wpAny_mkText (wpAny_holding (wpAny_bind (L0.at (wpAny_bind (L1.at ?_))))));dsimp only;rw [if_neg (by rw [hx1];decide)];unfold getAttrByItsOwn
 repeat (any_goals (first | assumption | with_reducible refine PySem.W.Looks.at (by assumption) ?_ | wp_step))
 have ne:cd.mro.isEmpty=false:=by
  cases q:cd.mro with
  | nil=>rw [q] at hov;cases hov
  | cons _ _=>rfl
 have sub:PySem.W.Looks (model X.prog X.w) hp (isInstance (.ref x) (.type "BaseException")) true:=
  L0.andThen (PySem.W.looks_mroIn KX (by unfold PySem.W.mroIn;rw [hc,Option.bind_some,if_neg (by rw [ne];decide),zq "BaseException" (by decide) hov]))
 refine codeAny_call_builtin FB.ga.plain PySem.F.entry_bexc_ga (@PySem.W.check_slot (model X.prog X.w) _ _ ⟨hp,g,d,t + 1,os⟩ "BaseException.__getattribute__" "BaseException" "__getattribute__" (.ref x) [.str f t] [] _ (by decide +kernel) (by decide +kernel) sub (PySem.F.args_bexc_ga (.ref x) (.str f t)) ?_);unfold Builtin.«object.__getattribute__»
 repeat (any_goals (first | assumption | with_reducible refine PySem.W.Looks.at (by assumption) ?_ | wp_step))
 show wpAny _ _ (handedOut u) _ _ _;rw [PySem.W.handedOut_of hh];exact wpAny_pure fin
end
noncomputable abbrev TJ:=St->Hp->(Hp->Prop)->Prop
noncomputable def PJ (X:Cx) (es:List Expr) (n:Nat) (t:TJ):Prop:=
 ∀ (pins:List (Addr × Obj)) (s:Shared) (σ:St) (H:Hp) (Q:Hp->Prop) (acc:Str) (R:Str->Shared->Prop),Inv X pins σ H s->acc.length + n <= sizeLine->t σ H Q ->
  (∀ out H' s',Inv X pins σ H' s'->out.length <= sizeLine->Q H'->R out s')->Joins (model X.prog X.w) X.A X.xe (evalEach es X.env) acc R s
noncomputable def tJ0:TJ:=fun _ H Q=>Q H
noncomputable def tJI (te:TE) (t:TJ):TJ:=fun σ H Q=>te σ H fun v H1=>∃ i,v=.int i/\i.natAbs.log2 < 1920/\t σ H1 Q
noncomputable def tJR (te:TE) (t:TJ):TJ:=fun σ H Q=>te σ H fun v H1=>∃ x,v=.str x/\x.length <= 1000/\(∀ c ∈ x.cps.toList,c < 16 ^ 8)/\t σ H1 Q
noncomputable def mE (t:TJ):TE:=fun σ H Q=>t σ H fun H1=>∀ y:Str,Q (.str y) H1
section
variable {X:Cx} {e:Expr} {es:List Expr} {n:Nat} {t:TJ} {te:TE} {pos:Pos}
theorem xx:PJ X [] 0 tJ0:=fun pins s σ H Q acc R I hl q h=>h acc H s I hl q
theorem ug {c:Str} {k:Nat} (h:PJ X es n t):PJ X (.Constant (.str c) k pos :: es) (n + c.length) t:=fun pins s σ H Q acc R I hl q hR=>by
 show wpAny _ _ _ _ _ _;refine Calls.Constant_str ⟨c,_,rfl,by rw [strLen_append];omega,h pins _ σ H Q _ R (I.tok _) (by rw [strLen_append];omega) q hR⟩
theorem uB (he:PE X e te) (h:PJ X es n t):PJ X (.FormattedValue e (-1) none pos :: es) (n + 2000) (tJI te t):=fun pins s σ H Q acc R I hl q hR=>by
 show wpAny _ _ _ _ _ _;refine wpAny_FormattedValue_plain (thn (he pins s σ H _ I q) fun u s1 hZ1=>?_);obtain ⟨v,H1,I1,r,i,ev,hi,q1⟩:=hZ1;subst ev;obtain ⟨tk,rfl⟩:=(show ∃ tk,u=Value.int i tk from r);have hz:=int_text_fits hi;have hz2:(Str.ofString (toString i)).length <= 2000:=by
  have e:=int_text_length_le (k:=1920) (by decide) hi;rw [PySem.ofString_length];omega
 refine wpAny_formatField_int hi ⟨_,_,rfl,by rw [strLen_append];omega,h pins _ σ H1 Q _ R (I1.tok _) (by rw [strLen_append];omega) q1 hR⟩
theorem yq (he:PE X e te) (h:PJ X es n t):PJ X (.FormattedValue e 114 none pos :: es) (n + 11000) (tJR te t):=fun pins s σ H Q acc R I hl q hR=>by
 show wpAny _ _ _ _ _ _;refine wpAny_FormattedValue_repr (thn (he pins s σ H _ I q) fun u s1 hZ1=>?_);obtain ⟨v,H1,I1,r,x,ev,hx,hc,q1⟩:=hZ1;subst ev;obtain ⟨tk,rfl⟩:=(show ∃ tk,u=Value.str x tk from r);have hz:=PySem.StrLaws.reprText_len x hc;refine wpAny_pyReprObj_str ?_ (by rw [sizeLine_eq];omega);exact formatField_str (fun t' tk'=>⟨_,_,rfl,by rw [strLen_append];omega,h pins _ σ H1 Q _ R ((I1.tok _).tok _) (by rw [strLen_append];omega) q1 hR⟩) (by rw [sizeLine_eq];omega)
theorem Kk {e2:Expr} (h:PJ X (e :: e2 :: es) n t) (hn:n <= sizeLine):PE X (.JoinedStr (e :: e2 :: es) pos) (mE t):=by
 intro pins s σ H Q I q;refine wpAny_JoinedStr (h pins s σ H _ _ _ I (by show 0 + n <= _;omega) q fun out H' s' I' hl q'=>⟨hl,?_⟩);exact ⟨.str out,H',I'.tok _,⟨_,rfl⟩,q' out⟩
end
structure XQ (K:W.Frag) (L:Addr) (m:Str):Prop where
 rd:PySem.W.readsIn K L (.type "type")=true
 fd:PySem.W.findCls K (.ref L) (.type "type") m=some (.val (.builtin "ValueError.__init__"))
 ga:PySem.W.specialIn K (.ref L) "__getattribute__"=some (some (.builtin "type.__getattribute__"))
noncomputable def CJ (K:W.Frag) (t:TA):TE:=fun σ H Q=>t σ H fun vs H1=>∃ x C od v,vs=[.ref x,v]/\H1 x=some (.ext (XF x C od))/\Ss K C/\Q .non H1
section
variable {X:Cx} {L:Addr} {x:Str} {p pos apos:Pos} {e:Expr} {es:List Expr} {t:TA}
theorem yE {pins:List (Addr × Obj)} {σ:St} {H:Hp} {s:Shared} {a C:Addr} {od:Option Addr} {u:Value} {A:Around} {E:Value->Shared->Prop} {Q:Value->Shared->Prop} (I:Inv X pins σ H s) (ea:H a=some (.ext (XF a C od))) (c:Ss X.K C)
  (h:∀ s',Inv X pins σ H s'->Q .none s'):wpAny (model X.prog X.w) A (call (.builtin "ValueError.__init__") [.ref a,u]) Q E s:=by
 obtain ⟨vs,sl,hx,z1,z2⟩:=(show Sd X.prog X.w H s.heap a (.ext (XF a C od)) from I.hok _ _ ea).1;obtain ⟨fI,hfI⟩:=c.ex;obtain ⟨tl,N,nm,q,bs,sn,sub,ab,co,dd,k0,k1,k2,k3,k5,mN,hC,hN,hi,T⟩:=fw I.kIn hfI;have F:=PySem.F.excBase_ValueError;obtain ⟨v0,h0⟩:∃ v0,vs[0]? = some v0:=⟨vs[0]'(by omega),Array.getElem?_eq_getElem (by omega)⟩;obtain ⟨hh,g,d,tt,os⟩:=s;refine wpAny_call (codeAny_call_builtin F.init.plain F.initEntry (wpAny_check_init_subT F T hC hx rfl ?_));show wpAny _ _ (newTuple [u] >>= fun tp=>(do
  let old <- field (.ref a) 0
  setField (.ref a) 0 tp
  if let .ref _:=old then letGo [old] []) >>= fun _=>ret .none) _ _ _
 have hx1:(hh.push { cls:=.type "tuple",data:=.seq [u].toArray }).get? a=some ⟨.ref C,od,.fields vs,sl⟩:=Heap.get?_push_of_some _ hx;refine wpAny_bind (wpAny_newTuple (wpAny_bind (wpAny_bind (wpAny_field hx1 rfl h0 (wpAny_bind (wpAny_setField hx1 rfl (by omega) ?_))))));have x2:=Heap.get?_update_self (h:=hh.push { cls:=.type "tuple",data:=.seq [u].toArray }) (Obj.mapFields (·.setIfInBounds 0 (.ref hh.objs.size))) hx1 rfl;have fin:∀ s',s'=(⟨(hh.push { cls:=.type "tuple",data:=.seq [u].toArray }).update a (Obj.mapFields (·.setIfInBounds 0 (.ref hh.objs.size))),g,d,tt,os⟩:Shared)->Q .none s':=by
  rintro s' rfl;refine h _ ?_;have I1:Inv X pins σ H ⟨hh.push { cls:=.type "tuple",data:=.seq [u].toArray },g,d,tt,os⟩:=I.kept (t':=tt) fun b o q=>Heap.get?_push_of_some _ q
  have:=I1.write (x:=a) (e:=a) (o:=.ext (XF a C od)) (h':=(hh.push { cls:=.type "tuple",data:=.seq [u].toArray }).update a (Obj.mapFields (·.setIfInBounds 0 (.ref hh.objs.size)))) (t':=tt) (by rw [ea];exact True.intro) (.inl rfl)
   (fun b o hb q=>(Heap.get?_update_other _ _ (Ne.symm hb)).trans q) ⟨_,x2⟩ (XF.ok ⟨vs.setIfInBounds 0 (.ref hh.objs.size),sl,x2,by simpa using z1,by rw [Array.getElem?_setIfInBounds_ne (by decide)];exact z2⟩)
  rwa [LJ ea] at this
 cases v0 with
 | ref b=>exact wpAny_bind (wpAny_holding (wpAny_point (wpAny_pure (wpAny_pure (fin _ rfl)))))
 | _=>exact wpAny_pure (wpAny_pure (fin _ rfl))
theorem rn {pl:Sem Bool} {m:Str} (hg:Gl X x) (hm:X.mg x=some (.ref L)) (c:XQ X.K L m) (ha:PA X (e :: es) t)
  (hdb:(x == ("__debug__" : Str))=false:=by decide) (hst:starEach (e :: es) X.env=(false,eval e X.env) :: starEach es X.env:=by rfl) (hpl:(backTo pos (starEach es X.env)).any (·.1)=false:=by rfl)
  (ht:eval (.Call (.Attribute (.Name x p) m apos) (e :: es) [] pos) X.env=(do
   let ov <- eval (.Name x p) X.env
   standAt apos.atName
   let (f,first) <- holding [ov] (getMethod ov m pl)
   callWith pos f first (backTo pos (starEach (e :: es) X.env)) (backToKw pos (keywordEach [] X.env))):=by rfl) :
  PE X (.Call (.Attribute (.Name x p) m apos) (e :: es) [] pos) (CJ X.K t):=by
 intro pins s σ H Q I h;refine PySem.W.methodCall_KW (pl:=pl) (Bk I hg hm ?_ hdb) ht;refine PySem.W.method_cls I.kIn c.ga (PySem.W.cls_value I.kIn c.rd c.fd rfl ?_);refine PyProof.Rows.callWith_builtin1 (thn (ha pos pins _ σ H _ (I.tok (s.toks + 1)) h) fun us s2 hZ1=>?_) hst hpl;obtain ⟨vs,H2,I2,r,a,C,od,v,ev,ea,cc,q⟩:=hZ1;subst ev;obtain ⟨u1,u2,rfl,r1,r2⟩:=eM r;obtain rfl:u1=Value.ref a:=r1;exact yE I2 ea cc fun s3 I3=>⟨.non,H2,I3,rfl,q⟩
end
structure MkX (K:W.Frag) (C fI:Addr):Prop where
 e:Uu K C fI=true
 fn:PySem.W.typeIn K (.ref fI)=some (.type "function")
 kp:PySem.W.keepIn K (.ref C)=true
noncomputable def zK (C:Addr) (sp:Sp) (t:TA):TE:=fun σ H Q=>t σ H fun vs H1=>vs.length <= sizeLine/\∀ x,H1 x=none->sp (.ref x :: vs) (upd H1 x (.ext (XF x C none))) (fun v H2=>v=.non/\Q (.ref x) H2) (fun _ _ _=>False)
noncomputable def rK (K:W.Frag) (ta tv:TE) (f:Str):TS:=fun D σ H=>tv σ H fun y H1=>ta σ H1 fun x H2=>∃ a C,x=.ref a/\H2 a=some (.ext (XF a C none))/\Ss K C/\Ib K C f /\
 ∀ dx,H2 dx=none->dx ≠ a->D.nx σ (upd (upd H2 a (.ext (XF a C (some dx)))) dx (.ext (XD dx [(f,y)])))
noncomputable def uK (K:W.Frag) (ta tv:TE) (f:Str):TS:=fun D σ H=>tv σ H fun y H1=>ta σ H1 fun x H2=>∃ a C dx fs,x=.ref a/\H2 a=some (.ext (XF a C (some dx)))/\H2 dx=some (.ext (XD dx fs))/\Ss K C/\Ib K C f/\fs.length < 1000 /\
 D.nx σ (upd H2 dx (.ext (XD dx (lh f y fs))))
noncomputable def wO (K:W.Frag) (ta:TE) (f:Str):TE:=fun σ H Q=>ta σ H fun x H1=>∃ a C dx fs v,x=.ref a/\H1 a=some (.ext (XA a C (some dx)))/\H1 dx=some (.ext (XD dx fs))/\Ss K C/\Ib K C f/\fs.lookup f=some v/\Q v H1
section
variable {X:Cx} {k:Nat} {f C:Addr} {fd:FuncData} {ps:List Str} {sp:Sp} {x g:Str} {p pos pos' apos:Pos} {e o value:Expr} {es:List Expr} {ta tv:TE} {t:TA}
theorem kD {pins:List (Addr × Obj)} {σ:St} {H:Hp} {s:Shared} {Q:VK} {us:List Value} {vs:List V} (M:MkX X.K C f) (F:Gb X.prog X.w X.K X.mg X.base (fun _ _ _ _ _ _=>False) k f fd ps sp) (hr:kj (k + 1) X.A) (hb:Ub X.K fd ps [])
  (I:Inv X pins σ H s) (r:Kd vs us) (hz:vs.length <= sizeLine) (h:∀ x,H x=none->sp (.ref x :: vs) (upd H x (.ext (XF x C none))) (fun v H2=>v=.non/\Q (.ref x) H2) (fun _ _ _=>False)) :
  wpAny (model X.prog X.w) X.A (call (.ref C) us) (EP X pins σ Q) X.xe s:=by
 obtain ⟨hh,g,d,tt,os⟩:=s;refine wpAny_call (bF (fI:=f) I.kIn M.e M.fn (by rw [<- r.length];exact hz) fun h' x hx Mx=>?_);obtain ⟨tp,ox,_,_⟩:=Mx.there;have I2:=I.laid (a:=x) (o:=.ext (XF x C none)) (h':=h') (t':=tt) Mx.keeps hx (XF.ok ⟨_,_,ox,Nat.lt_of_lt_of_eq (show 1 < 6 by decide) rfl,rfl⟩);have hq:=h x (I.hok.fresh hx);have r2:Kd (V.ref x :: vs) (Value.ref x :: us):=.cons rfl r;have hl:((Value.ref x :: us) ++ []).length=ps.length:=by
  rw [append_nil,<- r2.length];exact F.len _ _ _ _ hq
 have hb2:=hb ⟨h',g,d,tt,os⟩ (Value.ref x :: us) I2.kIn hl;rw [append_nil] at hb2;refine codeAny_mono (F.run _ X.stack _ _ ⟨Value.ref x :: us,[]⟩ (Value.ref x :: us) _ _ _ (hr.make C us []) (I2.env0.make C us []) hb2 r2 hq) fun r s' hq'=>?_
 rcases r with e | (u | _ | _ | _) <;> first | exact False.elim hq' | skip
 obtain ⟨v,H',I3,rv,ev,q3⟩:=I2.after hq';subst ev;exact ⟨rv,⟨V.ref x,H',I3,rfl,q3⟩⟩
theorem Mn (M:MkX X.K C f) (F:Gb X.prog X.w X.K X.mg X.base (fun _ _ _ _ _ _=>False) k f fd ps sp) (hr:kj (k + 1) X.A) (hg:Gl X x) (hm:X.mg x=some (.ref C)) (hb:Ub X.K fd ps [])
  (ha:PA X (e :: es) t) (hdb:(x == ("__debug__" : Str))=false:=by decide) (he:starEach (e :: es) X.env=(false,eval e X.env) :: starEach es X.env:=by rfl) (hpl:(backTo pos (starEach es X.env)).any (·.1)=false:=by rfl) :
  PE X (.Call (.Name x p) (e :: es) [] pos) (zK C sp t):=by
 intro pins s σ H Q I h;refine wpAny_Call_Name_kw (Bk I hg hm ?_ hdb);exact PySem.W.callWith_K (h₀:=X.base) I.ok.mod.kin M.kp (thn (ha pos pins s σ H _ I h) fun us s1 ⟨vs,H1,I1,r,hz,q⟩=>⟨I1.kIn,kD M F hr hb I1 r hz q⟩) he hpl
theorem Rn (ha:PE X o ta) (hv:PE X value tv) (hs:swapsWith value (some (.Attribute o g pos')) pos.line X.env=pure false):PS X (.Assign [.Attribute o g pos'] value pos) (rK X.K ta tv g):=by
 intro pins s σ H D I h;refine plainObj_wpAny_Assign_Attribute (thn (hv pins s σ H _ I h) fun u s1 ⟨y,H1,I1,ry,q⟩=>thn (ha pins s1 σ H1 _ I1 q) fun ov s2 hZ1=>?_) hs;obtain ⟨x,H2,I2,rx,a,C,ex,ea,c,n,q2⟩:=hZ1;subst ex;obtain rfl:ov=Value.ref a:=rx;exact oH I2 ea c n ry fun dx s3 hd hne I3=>⟨σ,_,I3,q2 dx hd hne⟩
theorem Zp (ha:PE X o ta) (hv:PE X value tv) (hs:swapsWith value (some (.Attribute o g pos')) pos.line X.env=pure false):PS X (.Assign [.Attribute o g pos'] value pos) (uK X.K ta tv g):=by
 intro pins s σ H D I h;refine plainObj_wpAny_Assign_Attribute (thn (hv pins s σ H _ I h) fun u s1 ⟨y,H1,I1,ry,q⟩=>thn (ha pins s1 σ H1 _ I1 q) fun ov s2 hZ1=>?_) hs;obtain ⟨x,H2,I2,rx,a,C,dx,fs,ex,ea,ed,c,n,hl,q2⟩:=hZ1;subst ex;obtain rfl:ov=Value.ref a:=rx;exact iG I2 ea ed c n hl ry fun s3 I3=>⟨σ,_,I3,q2⟩
theorem ZL (he:PE X e ta) (hb:attributeBase e g X.env (eval e X.env)=eval e X.env):PE X (.Attribute e g pos) (wO X.K ta g):=by
 intro pins s σ H Q I h;refine sG hb (thn (he pins s σ H _ I h) fun u s1 hZ1=>?_);obtain ⟨x,H1,I1,rx,a,C,dx,fs,v,ex,ea,ed,c,n,l,q⟩:=hZ1;subst ex;obtain rfl:u=Value.ref a:=rx;exact vR I1 ea ed c n l fun u s2 I2 ru=>⟨v,H1,I2,ru,q⟩
end
end L2
namespace L2
open PySem PySem.Spec PyProof.Rows PySem.Builtin PySem.Builtin.ObjectAttr
noncomputable def FlA (x C:Addr) (od:Option Addr) (T:Addr) (fl:Value) (h:Heap):Prop:=
 T ≠ x/\∃ vs sl oT ts,h.get? x=some ⟨.ref C,od,.fields vs,sl⟩/\vs[1]? = some (.ref T)/\h.get? T=some oT/\oT.data=.fields ts/\ts[3]? = some fl
theorem FlA.xa {x C T:Addr} {od:Option Addr} {fl:Value} {h:Heap} (z:FlA x C od T fl h):XA x C od h:=let ⟨_,vs,sl,_,_,e,_⟩:=z;⟨vs,sl,e⟩
structure Kp (fs:List Addr) (x:Addr) (To:Option Addr) (h h':Heap):Prop where
 keep:∀ b o,h.get? b=some o->b ∉ fs->b ≠ x->some b ≠ To->h'.get? b=some o
 slot:∀ b o,h.get? b=some o->b ∈ fs->∃ sl,h'.get? b=some { o with slots:=sl }
 there:∀ b o,h.get? b=some o->∃ o',h'.get? b=some o'
section
variable {M:Model} {A:Around} {E:Value->Shared->Prop} {s:Shared}
theorem nofr {base h:Heap} {l:List Env} {b:Addr} {o:Obj} {vs:Array Value} (hl:h.FunFrames base l) (e:h.get? b=some o) (d:o.data=.fields vs):b ∉ frs l:=fun hm=>by
 obtain ⟨_,o',e',nf⟩:=hl.mem hm;rw [e] at e';cases e';exact nf vs d
theorem KH {env env':Env} {L:Addr} (hf:env.frame=some L) (hf':env'.frame=some L):PySem.frameOf env'=PySem.frameOf env:=by
 unfold PySem.frameOf;rw [hf',hf]
theorem yJ {base:Heap} {env env':Env} {outer:List Env} {L x C:Addr} {od:Option Addr} {vs:Array Value} {sl:Array (Option Value)} {head:Value} {hn:Bool} {Q:Unit->Shared->Prop}
  (hfr:A.frames=some (env :: outer)) (hl:s.heap.FunFrames base (env :: outer)) (hf:env.frame=some L) (hf':env'.frame=some L) (he:s.heap.get? x=some ⟨.ref C,od,.fields vs,sl⟩) (hz:1 < vs.size)
  (h:∀ h' T,Kp (frs (env :: outer)) x none s.heap h'->s.heap.objs.size <= T->FlA x C od T (rawInt L) h'->Q () { s with heap:=h' }) :
  wpAny M A (do let a <- PySem.frameOf env';let pl <- entryPlaceOf L hn;let b <- EntryCells.newEntry head a .none (rawInt L) .none pl;setField (.ref x) 1 b) Q E s:=by
 have nx:x ∉ frs (env :: outer):=nofr hl he rfl;rw [KH hf hf'];refine wpAny_bind (wpAny_frameOf_fun hfr hl hf fun h1 S=>wpAny_bind (wpAny_entryPlaceOf fun pl hp=>?_));unfold EntryCells.newEntry newFields;refine wpAny_bind (wpAny_newObj_type ?_ (hp.sizeOk5 _ _ _ _ _));have e1:h1.get? x=some ⟨.ref C,od,.fields vs,sl⟩:=(S.2.1 x nx).trans he;obtain ⟨ts,hts,h3⟩:∃ ts:Array Value,([head,.ref L,.none,rawInt L,.none] ++ (if pl.isEmpty then List.replicate 6 Value.none else pl)).toArray=ts/\ts[3]? = some (rawInt L):=⟨_,rfl,by simp⟩;rw [hts];have e2:=Heap.get?_push_of_some (h:=h1) { cls:=.type "traceback",dict:=none,data:=.fields ts } e1;have ne:h1.objs.size ≠ x:=Nat.ne_of_gt (Heap.lt_size e1);have sz:h1.objs.size=s.heap.objs.size:=S.1;refine wpAny_setField e2 rfl hz (h _ h1.objs.size ⟨fun b o q n1 n2 _=>?_,fun b o q n1=>?_,fun b o q=>?_⟩ (Nat.le_of_eq sz.symm) ⟨ne,vs.setIfInBounds 1 (.ref h1.objs.size),sl,{ cls:=.type "traceback",dict:=none,data:=.fields ts },ts,Heap.get?_update_self _ e2 rfl,by simp [hz],?_,rfl,h3⟩)
 ·rw [Heap.get?_update_other _ _ (Ne.symm n2)];exact Heap.get?_push_of_some _ ((S.2.1 b n1).trans q)
 ·obtain ⟨sl',e3⟩:=S.2.2 b o q;have nb:x ≠ b:=fun z=>nx (by rw [z];exact n1)
  exact ⟨sl',(Heap.get?_update_other _ _ nb).trans (Heap.get?_push_of_some _ e3)⟩
 ·by_cases hb:b=x
  ·rw [hb];exact ⟨_,Heap.get?_update_self _ e2 rfl⟩
  ·obtain ⟨sl',e3⟩:=S.2.2 b o q;exact ⟨_,by rw [Heap.get?_update_other _ _ (Ne.symm hb)];exact Heap.get?_push_of_some _ e3⟩
 ·exact (Heap.get?_update_other _ _ (Ne.symm ne)).trans (Heap.get?_push_size h1 rfl)
theorem RB {base:Heap} {env env':Env} {outer:List Env} {L x C:Addr} {od:Option Addr} {vs:Array Value} {sl:Array (Option Value)} {Q:Unit->Shared->Prop}
  (hfr:A.frames=some (env :: outer)) (hl:s.heap.FunFrames base (env :: outer)) (hf:env.frame=some L) (hf':env'.frame=some L) (he:s.heap.get? x=some ⟨.ref C,od,.fields vs,sl⟩) (h1:vs[1]? = some .none)
  (h:∀ h' T,Kp (frs (env :: outer)) x none s.heap h'->s.heap.objs.size <= T->FlA x C od T (rawInt L) h'->Q () { s with heap:=h' }) :
  wpAny M A (noteFrame (.ref x) env') Q E s:=by
 unfold noteFrame;simp only [hf'];refine wpAny_bind (wpAny_field he rfl h1 ?_);rw [if_neg (by decide)];exact yJ hfr hl hf hf' he (Array.getElem?_eq_some_iff.mp h1).1 h
theorem dD {base:Heap} {env env':Env} {outer:List Env} {L x C T:Addr} {od:Option Addr} {fl:Value} {Q:Unit->Shared->Prop}
  (hfr:A.frames=some (env :: outer)) (hl:s.heap.FunFrames base (env :: outer)) (hf:env.frame=some L) (hf':env'.frame=some L) (z:FlA x C od T fl s.heap) (hne:¬ (fl == rawInt L)=true)
  (h:∀ h' T',Kp (frs (env :: outer)) x (some T) s.heap h'->s.heap.objs.size <= T'->FlA x C od T' (rawInt L) h'->Q () { s with heap:=h' }) :
  wpAny M A (noteFrame (.ref x) env') Q E s:=by
 obtain ⟨ne,vs,sl,oT,ts,he,h1,hT,hd,h3⟩:=z;unfold noteFrame;simp only [hf'];refine wpAny_bind (wpAny_field he rfl h1 ?_);rw [if_pos (show (Value.ref T != Value.none)=true from by simp)];refine wpAny_bind (wpAny_field hT hd h3 ?_);rw [if_neg hne];refine wpAny_bind (wpAny_setField hT hd (Array.getElem?_eq_some_iff.mp h3).1 ?_);have nT:T ∉ frs (env :: outer):=nofr hl hT hd;have oth:∀ b,b ≠ T->(s.heap.update T (Obj.mapFields (·.setIfInBounds 3 Value.none))).get? b=s.heap.get? b:=fun b hb=>Heap.get?_update_other _ _ (Ne.symm hb)
 have tT:∃ o',(s.heap.update T (Obj.mapFields (·.setIfInBounds 3 Value.none))).get? T=some o':=⟨_,Heap.get?_update_self _ hT (Obj.isFreed_of_fields (Obj.data_mapFields hd _))⟩;have hl2:(s.heap.update T (Obj.mapFields (·.setIfInBounds 3 Value.none))).FunFrames base (env :: outer):=hl.of_keeps fun b o e nf=>⟨o,(oth b fun q=>by rw [q,hT] at e;cases e;exact nf ts hd).trans e,rfl⟩
 refine yJ (s:={ s with heap:=s.heap.update T (Obj.mapFields (·.setIfInBounds 3 Value.none)) }) hfr hl2 hf hf' ((oth x (Ne.symm ne)).trans he) (Array.getElem?_eq_some_iff.mp h1).1 fun h' T' k w f=>h h' T' ⟨fun b o q n1 n2 n3=>?_,fun b o q n1=>?_,fun b o q=>?_⟩ ?_ f
 ·exact k.keep b o ((oth b fun y=>n3 (by rw [y])).trans q) n1 n2 (fun y=>by cases y)
 ·exact k.slot b o ((oth b fun y=>nT (y ▸ n1)).trans q) n1
 ·by_cases hb:b=T
  ·subst hb;obtain ⟨o',e'⟩:=tT;exact k.there _ _ e'
  ·exact k.there b o ((oth b hb).trans q)
 ·exact Nat.le_trans (Nat.le_of_eq (Heap.size_update _ _ _).symm) w
theorem flight {x C T:Addr} {od:Option Addr} {fl:Value} {fs:List Addr} {Q:Unit->Shared->Prop} (o:Option Addr) (z:FlA x C od T fl s.heap) (nT:T ∉ fs)
  (h:∀ h',Kp fs x (some T) s.heap h'->FlA x C od T (o.elim .none fun f=>rawInt f) h'->Q () { s with heap:=h' }):wpAny M A (setFlight (.ref x) o) Q E s:=by
 obtain ⟨ne,vs,sl,oT,ts,he,h1,hT,hd,h3⟩:=z;have z3:3 < ts.size:=(Array.getElem?_eq_some_iff.mp h3).1;have oth:∀ b,b ≠ T->(s.heap.update T (Obj.mapFields (·.setIfInBounds 3 (o.elim Value.none fun f=>rawInt f)))).get? b=s.heap.get? b:=fun b hb=>Heap.get?_update_other _ _ (Ne.symm hb)
 have tT:=Heap.get?_update_self (Obj.mapFields (·.setIfInBounds 3 (o.elim Value.none fun f=>rawInt f))) hT (Obj.isFreed_of_fields (Obj.data_mapFields hd _));unfold setFlight;refine wpAny_bind (wpAny_field he rfl h1 ?_);rw [if_pos (show (Value.ref T != Value.none)=true from by simp)];refine wpAny_setField hT hd z3 (h _ ⟨fun b o q _ _ n3=>(oth b fun y=>n3 (by rw [y])).trans q,fun b o q n1=>⟨o.slots,(oth b fun y=>nT (y ▸ n1)).trans q⟩,fun b o q=>?_⟩
  ⟨ne,vs,sl,_,_,(oth x (Ne.symm ne)).trans he,h1,tT,Obj.data_mapFields hd _,by simp [z3]⟩)
 by_cases hb:b=T
 ·subst hb;exact ⟨_,tT⟩
 ·exact ⟨o,(oth b hb).trans q⟩
end
section
variable {P:Program} {w:World} {H:Hp} {h h':Heap} {fs:List Addr} {x C T:Addr} {od:Option Addr} {fl:Value} {To:Option Addr} {o:HO}
theorem Kp.hok (k:Kp fs x To h h') (ok:HOk P w H h) (hfs:∀ b ∈ fs,H b=none) (hT:∀ t,To=some t->H t=none) (mu:Mut (H x)) (new:XA x C od h'):HOk P w (upd H x (.ext (XA x C od))) h':=fun b u q=>by
 have nown:∀ c y,H c=some (.own y)->c ≠ x:=fun c y r z=>by subst z;rw [r] at mu;exact mu
 have ntup:∀ c xs,H c=some (.tup xs)->c ≠ x:=fun c xs r z=>by subst z;rw [r] at mu;exact mu
 have kk:∀ c v,c ≠ x->H c ≠ none->h.get? c=some v->h'.get? c=some v:=fun c v n1 n2 r=>k.keep c v r (fun z=>n2 (hfs c z)) n1 fun z=>n2 (hT c z.symm)
 by_cases hb:b=x
 ·subst hb;rw [db] at q;cases q;exact new.ok
 ·rw [jb hb] at q;refine (ok b u q).stay (fun c v hc r=>?_) (fun c r=>by rw [jb (nown c b r)];exact r) fun c xs r=>by rw [jb (ntup c xs r)];exact r
  rcases hc with rfl | hc
  ·exact kk c v hb (by rw [q];exact fun z=>by cases z) r
  ·exact kk c v (nown c b hc) (by rw [hc];exact fun z=>by cases z) r
theorem Kp.un (k:Kp fs x To h h') (hT:∀ t,To=some t->H t=none) (mu:Mut (H x)):Un fs To.toList H (upd H x o) h h':=by
 have hx:∀ b,H b=none->b ≠ x:=fun b n z=>by subst z;rw [n] at mu;exact mu
 have hm:∀ b u,H b=some u->¬ Mut (some u)->b ≠ x:=fun b u q nm z=>by subst z;rw [q] at mu;exact nm mu
 refine ⟨fun b u q n n1 n2=>k.keep b u q n1 (hx b n) fun z=>n2 (by rw [<- z];simp),fun b u q n n1 n2=>k.slot b u q n1,fun b u q n _=>by rw [jb (hx b n)];exact n,fun b u q _=>k.there b u q,
  fun b xs q=>by rw [jb (hm b _ q fun z=>z)];exact q,fun b u xs q=>by rw [jb (hm b _ q fun z=>z)];exact q,fun b ps q=>⟨#[],by rw [jb (hm b _ q fun z=>z),q];simp⟩⟩
end
noncomputable def CX1 (P:Program) (w:World):CXT:=fun outer H s E e s'=>
 ∃ x C od H' T,e=.ref x/\s'.os=s.os/\AllBare s'.gens/\Un (frs outer) [] H H' s.heap s'.heap/\HOk P w H' s'.heap/\H' x=some (.ext (XA x C od))/\s.heap.objs.size <= T/\H' T=none/\FlA x C od T .none s'.heap/\E (.ref C) od H'
noncomputable def vG (X:Cx) (E:St->XK):Prop:=∀ (pins:List (Addr × Obj)) (σ:St) (H:Hp) (s:Shared) (x C:Addr) (od:Option Addr),Inv X pins σ H s->H x=some (.ext (XF x C od))->E σ (.ref C) od (upd H x (.ext (XA x C od)))->X.xe (.ref x) s
noncomputable def Ry (CX:CXT) (X:Cx) (E:St->XK):Prop:=∀ (pins:List (Addr × Obj)) (σ:St) (H:Hp) (s:Shared) (e:Value) (s':Shared),Inv X pins σ H s->CX X.stack H s (E σ) e s'->X.xe e s'
structure Fr1 (X:Cx):Prop where
 st:X.stack=X.env :: X.outer
 fr:X.env.frame=some X.env.locals
noncomputable def rO (X:Cx) (pins:List (Addr × Obj)) (T:Addr):Prop:=(T ∈ X.ex\/X.s₀.heap.objs.size <= T)/\T ≠ X.env.locals/\(∀ x c,X.env.cells.lookup x=some c->c ≠ T)/\∀ p ∈ X.pn ++ pins,p.1 ≠ T
noncomputable def YC (X:Cx) (pins:List (Addr × Obj)) (E:St->XK) (fl:Value) (e:Value) (s':Shared):Prop:=
 ∃ σ' H' x C od T,e=.ref x/\Inv X pins σ' H' s'/\H' x=some (.ext (XA x C od))/\H' T=none/\rO X pins T/\FlA x C od T fl s'.heap/\E σ' (.ref C) od H'
noncomputable def xeR (X:Cx) (pins:List (Addr × Obj)) (E:St->XK) (e:Value) (s':Shared):Prop:=
 ∃ σ' H' x C od,e=.ref x/\Inv X pins σ' H' s'/\H' x=some (.ext (XF x C od))/\E σ' (.ref C) od (upd H' x (.ext (XA x C od)))
noncomputable def xeT (X:Cx) (pins:List (Addr × Obj)) (E:St->XK) (e:Value) (s':Shared):Prop:=xeR X pins E e s'\/∃ fl,YC X pins E fl e s'
noncomputable def xeA (X:Cx) (E:St->XK) (e:Value) (s':Shared):Prop:=∃ pins,xeT X pins E e s'
section
variable {X:Cx} {pins:List (Addr × Obj)} {σ:St} {H:Hp} {s:Shared} {T x C:Addr} {od:Option Addr} {E:St->XK} {M:Model} {A:Around} {E':Value->Shared->Prop} {Q:Unit->Shared->Prop} {e fl:Value} {h':Heap}
theorem QP (I:Inv X pins σ H s) (hT:s.heap.objs.size <= T):rO X pins T:=by
 have lt:∀ {b:Addr} {o:Obj},s.heap.get? b=some o->b ≠ T:=fun q z=>by
  subst z;exact absurd (Nat.lt_of_lt_of_le (Heap.lt_size q) hT) (Nat.lt_irrefl _)
 refine ⟨.inr (Nat.le_trans I.sz hT),fun z=>?_,fun x c e=>?_,fun p hp=>lt (I.pin p hp).1⟩
 ·obtain ⟨m,⟨o,es,ep,ho,_⟩,_⟩:=I.loc;exact lt ho z.symm
 ·obtain ⟨v,o,ho,_⟩:=I.cell x c e;exact lt ho
theorem AL (I:Inv X pins σ H s) (k:Kp (frs X.stack) x (some T) s.heap h') (ex:H x=some (.ext (XA x C od))) (eT:H T=none) (nT:rO X pins T) (xa:XA x C od h'):Inv X pins σ H { s with heap:=h' }:=by
 have mu:Mut (H x):=by rw [ex];exact True.intro
 have z:∀ t,some T=some t->H t=none:=fun t z=>by cases z;exact eT
 have u1:=k.un (H:=H) (o:=.ext (XA x C od)) z mu;have k1:=k.hok I.hok I.stkFree z mu xa;rw [LJ ex] at u1 k1;exact I.call' (s':={ s with heap:=h' }) (ch:=[T]) rfl u1 k1 I.bare fun b hb=>by
  obtain rfl:b=T:=by simpa using hb
  exact nT
theorem EK (F:Fr1 X) (I:Inv X pins σ H s) (k:Kp (frs (X.env :: X.outer)) x (some T) s.heap h') (ex:H x=some (.ext (XA x C od))) (eT:H T=none) (nT:rO X pins T) (xa:XA x C od h'):Inv X pins σ H { s with heap:=h' }:=
 AL I (by rw [F.st];exact k) ex eT nT xa
theorem YC.note (F:Fr1 X) (q:YC X pins E fl e s) (hne:¬ (fl == rawInt X.env.locals)=true) (h:∀ s',YC X pins E (rawInt X.env.locals) e s'->Q () s'):wpAny M X.A (noteFrame e X.env) Q E' s:=by
 obtain ⟨σ,H,x,C,od,T,rfl,I,ex,eT,nT,f,w⟩:=q;have fs:s.heap.FunFrames X.base (X.env :: X.outer):=by rw [<- F.st];exact I.stack
 exact dD (by rw [<- F.st];exact I.ok.frames) fs F.fr F.fr f hne fun h' T' k w' f'=>h _ ⟨σ,H,x,C,od,T',rfl,EK F I k ex eT nT f'.xa,ex,I.hok.fresh w',QP I w',f',w⟩
theorem YC.noted (F:Fr1 X) (q:YC X pins E (rawInt X.env.locals) e s) (h:Q () s):wpAny M X.A (noteFrame e X.env) Q E' s:=by
 obtain ⟨σ,H,x,C,od,T,rfl,I,ex,eT,nT,⟨ne,vs,sl,oT,ts,he,h1,hT,hd,h3⟩,w⟩:=q;unfold noteFrame;simp only [F.fr];refine wpAny_bind (wpAny_field he rfl h1 ?_);rw [if_pos (show (Value.ref T != Value.none)=true from by simp)];refine wpAny_bind (wpAny_field hT hd h3 ?_);rw [if_pos (show (rawInt X.env.locals == rawInt X.env.locals)=true from by simp)];exact wpAny_pure h
theorem xeR.note (F:Fr1 X) (q:xeR X pins E e s) (h:∀ s',YC X pins E (rawInt X.env.locals) e s'->Q () s'):wpAny M X.A (noteFrame e X.env) Q E' s:=by
 obtain ⟨σ,H,x,C,od,rfl,I,ex,w⟩:=q;have fs:s.heap.FunFrames X.base (X.env :: X.outer):=by rw [<- F.st];exact I.stack
 obtain ⟨vs,sl,hx,z1,z2⟩:=(show Sd X.prog X.w H s.heap x (.ext (XF x C od)) from I.hok _ _ ex).1;have mu:Mut (H x):=by rw [ex];exact True.intro
 refine RB (by rw [<- F.st];exact I.ok.frames) fs F.fr F.fr hx z2 fun h' T k w' f=>h _ ?_
 have z:∀ t,none=some t->H t=none:=fun t z=>by cases z
 have u1:=k.un (H:=H) (o:=.ext (XA x C od)) z mu;have k1:=k.hok I.hok (by rw [<- F.st];exact I.stkFree) z mu f.xa;rw [<- F.st] at u1;have I2:=I.call' (s':={ s with heap:=h' }) (ch:=[]) rfl u1 k1 I.bare fun b hb=>absurd hb (by simp)
 exact ⟨σ,_,x,C,od,T,rfl,I2,db,by rw [jb f.1];exact I.hok.fresh w',QP I w',f,w⟩
theorem xeT.note (F:Fr1 X) (q:xeT X pins E e s) (h:∀ s',YC X pins E (rawInt X.env.locals) e s'->Q () s'):wpAny M X.A (noteFrame e X.env) Q E' s:=by
 rcases q with q | ⟨fl,q⟩
 ·exact q.note F h
 ·by_cases c:(fl == rawInt X.env.locals)=true
  ·rw [beq_iff_eq] at c;subst c;exact q.noted F (h _ q)
  ·exact q.note F c h
theorem YC.flight (F:Fr1 X) (o:Option Addr) (q:YC X pins E fl e s) (h:∀ s',YC X pins E (o.elim .none fun f=>rawInt f) e s'->Q () s'):wpAny M A (setFlight e o) Q E' s:=by
 obtain ⟨σ,H,x,C,od,T,rfl,I,ex,eT,nT,f,w⟩:=q;have fs:s.heap.FunFrames X.base (X.env :: X.outer):=by rw [<- F.st];exact I.stack
 have nf:T ∉ frs (X.env :: X.outer):=by
  obtain ⟨_,_,_,oT,ts,_,_,e,d,_⟩:=id f;exact nofr fs e d
 exact L2.flight o f nf fun h' k f'=>h _ ⟨σ,H,x,C,od,T,rfl,EK F I k ex eT nT f'.xa,ex,eT,nT,f',w⟩
theorem xeT.leave (F:Fr1 X) (q:xeT X pins E e s) (h:∀ s',YC X pins E .none e s'->Q () s'):wpAny M X.A (leaving X.env e) Q E' s:=by
 unfold leaving;exact wpAny_bind (q.note F fun s' q'=>q'.flight F none h)
theorem Zy (F:Fr1 X):PassesOwn M X.A X.env (xeT X pins E):=fun e s' q=>by
 refine q.note F fun s2 q2=>?_
 show wpAny _ _ _ _ _ _;obtain ⟨σ,H,x,C,od,T,rfl,I,ex,eT,nT,⟨ne,vs,sl,oT,ts,he,h1,hT,hd,h3⟩,w⟩:=id q2;refine wpAny_bind (wpAny_field he rfl h1 ?_);rw [if_neg (show ¬ (Value.ref T == Value.none)=true from by simp)];rw [F.fr];exact q2.flight F _ fun s3 q3=>.inr ⟨_,q3⟩
theorem Ue (F:Fr1 X):PassesOwn M X.A X.env (xeA X E):=fun e s' ⟨pins,q⟩=>by
 have z:=Zy (M:=M) F e s' q;refine wpAny_mono z (fun _ s2 q2=>?_) fun e2 s2 q2=>?_
 all_goals exact wpAny_mono q2 (fun _ s3 q3=>⟨pins,q3⟩) fun e3 s3 q3=>⟨pins,q3⟩
theorem WM:vG (X.wish (xeA X E)) E:=fun pins σ H s x C od I ex q=>⟨pins,.inl ⟨σ,H,x,C,od,rfl,I.unwish,ex,q⟩⟩
theorem yM {E0:XK} {s':Shared} (I:Inv X pins σ H s) (hq:CX1 X.prog X.w X.stack H s E0 e s') (h:∀ C od H',E0 C od H'->E σ C od H'):xeT X pins E e s':=by
 obtain ⟨x,C,od,H2,T,rfl,os,bare,un,hok,ex,hT,eT,fl,q⟩:=hq;exact .inr ⟨_,σ,H2,x,C,od,T,rfl,I.call' os un hok bare (fun b z=>absurd z (by simp)),ex,eT,QP I hT,fl,h _ _ _ q⟩
end
theorem ee {X:Cx} {E:XK}:Sl (CX1 X.prog X.w) (X.wish (xeA X fun _=>E)) E:=fun pins σ H s e s' I hq=>⟨pins,yM I.unwish hq fun _ _ _ z=>z⟩
theorem ir {X:Cx} {E:XK}:vG (X.wish (xeA X fun _=>E)) (fun _=>E):=WM
section
variable {P:Program} {w:World} {K:W.Frag} {mg:Str->Option Value} {base:Heap} {N:List Str} {qual:Str} {scope:Scope} {f:Addr} {cd:Value} {A:Around} {outer:List Env} {s:Shared} {H:Hp} {E:XK}
theorem XL {e:Value} {s':Shared} (q:xeA (MD (CX1 P w) P w K mg base N qual scope f cd A outer s H E) (fun _=>E) e s'):(MD (CX1 P w) P w K mg base N qual scope f cd A outer s H E).xe e s':=by
 obtain ⟨pins,q⟩:=q;refine q.leave ⟨rfl,rfl⟩ fun s2 q2=>?_
 obtain ⟨σ,H2,x,C,od,T,rfl,I,ex,eT,nT,fl,q⟩:=q2;refine ⟨x,C,od,H2,T,rfl,I.os,I.bare,I.base,I.hok,ex,?_,eT,fl,q⟩;rcases nT.1 with z | z
 ·exact absurd z (by show T ∉ ([]:List Addr);simp)
 ·exact z
end
noncomputable def MJ (sp:Sp) (dvs:List V) (E:St->XK) (t:TA):TE:=fun σ H Q=>t σ H fun vs H1=>sp (vs ++ dvs) H1 Q (E σ)
section
variable {X:Cx} {CX:CXT} {k:Nat} {f C:Addr} {fd:FuncData} {ps:List Str} {sp:Sp} {dvs:List V} {ds:List Value} {E:St->XK} {x m:Str} {p pos apos:Pos} {e o:Expr} {es:List Expr} {ta:TE} {t:TA}
theorem KM {pins:List (Addr × Obj)} {σ:St} {H:Hp} {s:Shared} {Q:VK} {us:List Value} {vs:List V} (F:Gb X.prog X.w X.K X.mg X.base CX k f fd ps sp) (hr:kj k X.A) (hb:Ub X.K fd ps ds) (hd:Kd dvs ds) (hx:Ry CX X E)
  (I:Inv X pins σ H s) (r:Kd vs us) (h:sp (vs ++ dvs) H Q (E σ)):wpAny (model X.prog X.w) X.A (call (.ref f) us) (EP X pins σ Q) X.xe s:=by
 have r2:Kd (vs ++ dvs) (us ++ ds):=r.append hd;have hl:(us ++ ds).length=ps.length:=by rw [<- r2.length];exact F.len _ _ _ _ h
 refine wpAny_call (codeAny_mono (F.run X.A X.stack s H ⟨us,[]⟩ (us ++ ds) (vs ++ dvs) Q (E σ) hr I.env0 (hb s us I.kIn hl) r2 h) fun r s' hq=>?_);rcases r with e | (u | _ | _ | _)
 ·exact hx pins σ H s e s' I hq
 all_goals first | exact I.after hq | exact False.elim hq
theorem uH (F:Gb X.prog X.w X.K X.mg X.base CX k f fd ps sp) (hr:kj k X.A) (hg:Gl X x) (hm:X.mg x=some (.ref f)) (hk:PySem.W.keepIn X.K (.ref f)=true) (hb:Ub X.K fd ps ds) (hd:Kd dvs ds) (hx:Ry CX X E)
  (ha:PA X (e :: es) t) (hdb:(x == ("__debug__" : Str))=false:=by decide) (he:starEach (e :: es) X.env=(false,eval e X.env) :: starEach es X.env:=by rfl) (hpl:(backTo pos (starEach es X.env)).any (·.1)=false:=by rfl) :
  PE X (.Call (.Name x p) (e :: es) [] pos) (MJ sp dvs E t):=by
 intro pins s σ H Q I h;refine wpAny_Call_Name_kw (Bk I hg hm ?_ hdb);exact PySem.W.callWith_K (h₀:=X.base) I.ok.mod.kin hk (thn (ha pos pins s σ H _ I h) fun us s1 ⟨vs,H1,I1,r,q⟩=>⟨I1.kIn,KM F hr hb hd hx I1 r q⟩) he hpl
end
noncomputable abbrev Cx.tr (X:Cx) (pn:List (Addr × Obj)) (E:Value->Shared->Prop):Cx:={ X with pn:=X.pn ++ pn,xe:=E }
noncomputable abbrev Cx.hn (X:Cx) (e:Value):Cx:={ X with A:=X.A.mark (some e),calm:=false,xe:=fun _ _=>False }
section
variable {X:Cx} {pins pins':List (Addr × Obj)} {σ:St} {H:Hp} {s:Shared} {E:Value->Shared->Prop} {e:Value}
theorem Cx.Ok.tr (ok:X.Ok) (pn:List (Addr × Obj)) (E:Value->Shared->Prop):(X.tr pn E).Ok:=
 ⟨ok.mod,ok.kind,ok.glob,ok.blt,ok.above,ok.inj,ok.has,ok.cab,ok.hd,ok.frames,ok.stk,ok.exf,ok.bs,ok.bsz,ok.noex,ok.exfs,ok.funs,ok.frf⟩
theorem Cx.Ok.untr {pn:List (Addr × Obj)} (ok:(X.tr pn E).Ok):X.Ok:=
 ⟨ok.mod,ok.kind,ok.glob,ok.blt,ok.above,ok.inj,ok.has,ok.cab,ok.hd,ok.frames,ok.stk,ok.exf,ok.bs,ok.bsz,ok.noex,ok.exfs,ok.funs,ok.frf⟩
theorem Cx.Ok.hn (ok:X.Ok) (e:Value):(X.hn e).Ok:=
 ⟨ok.mod,ok.kind,ok.glob,ok.blt,ok.above,ok.inj,ok.has,ok.cab,(fun z=>Bool.noConfusion z),ok.frames,ok.stk,ok.exf,ok.bs,ok.bsz,ok.noex,ok.exfs,ok.funs,ok.frf⟩
theorem Inv.tr (I:Inv X pins σ H s) (E:Value->Shared->Prop):Inv (X.tr pins E) [] σ H s:=⟨I.ok.tr pins E,I.os,I.bare,I.base,I.loc,I.cell,I.free,I.freeC,fun p hp=>I.pin p (by simpa using hp),I.hok,I.len⟩
theorem Inv.untr (I:Inv (X.tr pins E) pins' σ H s):Inv X pins σ H s:=⟨I.ok.untr,I.os,I.bare,I.base,I.loc,I.cell,I.free,I.freeC,fun p hp=>I.pin p (List.mem_append_left _ hp),I.hok,I.len⟩
theorem Inv.hn (I:Inv X pins σ H s) (e:Value):Inv (X.hn e) pins σ H s:=⟨I.ok.hn e,I.os,I.bare,I.base,I.loc,I.cell,I.free,I.freeC,I.pin,I.hok,I.len⟩
theorem Inv.unhn (ok:X.Ok) (I:Inv (X.hn e) pins σ H s):Inv X pins σ H s:=⟨ok,I.os,I.bare,I.base,I.loc,I.cell,I.free,I.freeC,I.pin,I.hok,I.len⟩
theorem SP.untr {D:Li} {f:Flow} {s':Shared} (h:SP (X.tr pins E) pins' D f s'):SP X pins D f s':=by
 cases f with
 | next=>obtain ⟨σ',H',I,q⟩:=h;exact ⟨σ',H',I.untr,q⟩
 | brk=>obtain ⟨σ',H',I,q⟩:=h;exact ⟨σ',H',I.untr,q⟩
 | cont=>obtain ⟨σ',H',I,q⟩:=h;exact ⟨σ',H',I.untr,q⟩
 | ret u=>obtain ⟨v,σ',H',I,r,q⟩:=h;exact ⟨v,σ',H',I.untr,r,q⟩
end
theorem DM {X:Cx} {pins:List (Addr × Obj)} {E:St->XK}:Ry (CX1 X.prog X.w) (X.tr pins (xeT X pins E)) E:=by
 intro pins' σ H s e s' I hq;obtain ⟨x,C,od,H2,T,rfl,os,bare,un,hok,ex,hT,eT,fl,q⟩:=hq;have I2:=I.call' os un hok bare (fun b z=>absurd z (by simp));exact .inr ⟨_,σ,H2,x,C,od,T,rfl,I2.untr,ex,eT,QP I.untr hT,fl,q⟩
theorem cn {X:Cx} {pins:List (Addr × Obj)} {σ:St} {H:Hp} {s:Shared} {i:Nat} {n:Str} {pos:Pos} {A:Around} {E:Value->Shared->Prop} {Q:Unit->Shared->Prop} (I:Inv X pins σ H s) (hN:X.N.Nodup) (hi:X.N[i]? = some n)
  (hl:X.env.scope.names.lookup n=some .local) (h:∀ s',Inv X pins (σ.set i none) H s'->Q () s'):wpAny (model X.prog X.w) A (do bindName X.env n .none;unbindBehindTheSuite X.env n pos) Q E s:=by
 have hiσ:i < σ.length:=by rw [I.len];exact (List.getElem?_eq_some_iff.mp hi).1
 refine wpAny_bind (wpAny_bindName (gq I hN hi (.inl hl) (v:=.non) (u:=.none) rfl (fun s1 I1=>?_) (.inr hl)));obtain ⟨m,hn,hlk⟩:=I1.loc;have hk:X.env.kindOf n=some .local:=hl;obtain ⟨u,ru,lk⟩:=hlk i n .non hi (getElem?_set_self hiσ) (.inl hl);have hmn:(m n).isSome=true:=by
  rcases lk with ⟨_,e⟩ | ⟨k,_⟩
  ·rw [e];rfl
  ·rcases k with k | k <;> (rw [hk] at k;cases k)
 have hp:(X.env.scope.kind == .class || (X.env.scope.kind == .module && X.env.locals != X.env.globals))=false:=by rw [I.ok.kind];rfl
 unfold unbindBehindTheSuite;refine wpAny_onRaise ?_;unfold unbindName;refine wpAny_bind (wpAny_point (wpAny_bind ?_));unfold deleteName;simp only [hk,hp];rw [if_neg (by decide)];refine wpAny_bind (wpAny_nsDel_keeps hn fun h2 v2 hn2 hs=>?_);rw [hmn];refine wpAny_pure (wpAny_point (h _ ?_));have neL:∀ b o,X.s₀.heap.get? b=some o->b ≠ X.env.locals:=fun b o e=>Nat.ne_of_lt (Nat.lt_of_lt_of_le (Heap.lt_size e) I1.ok.above)
 refine ⟨I1.ok,I1.os,I1.bare,⟨fun b o e n' hb hx=>(hs.2 b (neL b o e)).trans (I1.base.keep b o e n' hb hx),fun b o e n' hb hx=>?_,I1.base.free,fun b o e hx=>?_,I1.base.tups,I1.base.frzs,I1.base.tbls⟩,⟨_,hn2,fun j y v e1 e2 e3=>?_⟩,fun y c e=>?_,I1.free,I1.freeC,fun p hp=>?_,fun b u' e=>?_,by simpa using I.len⟩
 ·obtain ⟨sl,e1⟩:=I1.base.slot b o e n' hb hx;exact ⟨sl,(hs.2 b (neL b o e)).trans e1⟩
 ·obtain ⟨o',e1⟩:=I1.base.there b o e hx;exact ⟨o',(hs.2 b (neL b o e)).trans e1⟩
 ·by_cases hj:j=i
  ·subst hj;rw [getElem?_set_self hiσ] at e2;cases e2
  ·rw [getElem?_set_ne (Ne.symm hj)] at e2;obtain ⟨u',r',q⟩:=hlk j y v e1 (by rw [getElem?_set_ne (Ne.symm hj)];exact e2) e3;refine ⟨u',r',?_⟩;rcases q with ⟨k,e⟩ | ⟨k,c,e,z⟩
   ·refine .inl ⟨k,?_⟩;have:y ≠ n:=fun e=>hj (Ev hN e1 (e ▸ hi))
    simp [this,e]
   ·exact .inr ⟨k,c,e,z.sameBut hs (I1.cne y c e)⟩
 ·obtain ⟨w',z⟩:=I1.cell y c e;exact ⟨w',z.sameBut hs (I1.cne y c e)⟩
 ·obtain ⟨e,n',ne,nf,d⟩:=I1.pin p hp;exact ⟨(hs.2 p.1 ne).trans e,n',ne,nf,d⟩
 ·have nL:∀ c,H c ≠ none->c ≠ X.env.locals:=fun c q z=>q (by rw [z];exact I1.free)
  refine (I1.hok b u' e).stay (fun c v hc q=>(hs.2 c (nL c ?_)).trans q) (fun _ q=>q) fun _ _ q=>q
  rcases hc with rfl | hc
  ·rw [e];exact fun z=>by cases z
  ·rw [hc];exact fun z=>by cases z
noncomputable def Li.gone (D:Li) (i:Nat):Li:={ nx:=fun σ H=>D.nx (σ.set i none) H,rt:=D.rt,bk:=fun σ H=>D.bk (σ.set i none) H,ct:=fun σ H=>D.ct (σ.set i none) H }
noncomputable def sQ (K:W.Frag) (c:Addr) (i:Nat) (th:TS) (D:Li):St->XK:=fun σ C od H=>∃ C',C=.ref C'/\PySem.W.exmOne K C (.ref c)=some true/\∀ x,H x=some (.ext (XA x C' od))->th (D.gone i) (σ.set i (some (.ref x))) H
noncomputable def vQ (K:W.Frag) (c:Addr) (i:Nat) (tb:(St->XK)->TS) (th:TS):TS:=fun D σ H=>tb (sQ K c i th D) D σ H
section
variable {X:Cx} {body suite:List Stmt} {b0:Stmt} {x n:Str} {c:Addr} {i:Nat} {tb:(St->XK)->TS} {th:TS} {xp hp pos:Pos}
theorem BN (hb:∀ pins E,PSs (X.tr pins (xeT X pins E)) body (tb E)) (hg:Gl X x) (hm:X.mg x=some (.ref c)) (hh:∀ e,PSs (X.hn e) (b0 :: suite) th) (hN:X.N.Nodup) (hi:X.N[i]? = some n)
  (hl:X.env.scope.names.lookup n=some .local) (F:Fr1 X:=by exact ⟨rfl,rfl⟩) (hdb:(x == ("__debug__" : Str))=false:=by decide) :
  PS X (.Try body [.ExceptHandler (some (.Name x xp)) (some n) (b0 :: suite) hp] [] [] pos) (vQ X.K c i tb th):=by
 intro pins s σ H D I h;refine wpAny_Try_except (wpAny_mono (hb pins _ [] s σ H D (I.tr _) h) (fun f s1 q=>?_) fun e s1 q=>?_)
 ·have q':=q.untr;cases f with
  | next=>exact wpAny_execs_nil q'
  | brk=>exact q'
  | cont=>exact q'
  | ret u=>exact q'
 ·refine q.note F fun s2 q2=>q2.flight F none fun s3 q3=>?_
  obtain ⟨σ1,H1,a,C,od,T,rfl,I2,ea,eT,nT,fl,C',eC,em,w⟩:=id q3;cases eC;refine wpAny_handleBy_cons (codeAny_handlers_test (Bk (I2.hn (.ref a)) hg hm ?_ hdb)) (fun z=>by cases z);have LT:PySem.W.Looks (model X.prog X.w) s3.heap (typeOf (.ref a)) (.ref C):=by
   obtain ⟨vs,sl,e⟩:=fl.xa;exact (PySem.W.Looks.ld e).andThen .now
  refine (PySem.W.exm_one I2.kIn LT em).here ?_;rw [if_pos rfl];refine codeAny_handlers_suite_as (q3.flight F none fun s4 q4=>?_)
  ·obtain ⟨σ1,H1,a',C,od,T,ea',I3,ea,eT,nT,fl,C',eC,em,w⟩:=q4;cases eC;cases ea';refine gq (X:=X.hn (.ref a)) (I3.hn (.ref a)) hN hi (.inl hl) (v:=.ref a) (u:=.ref a) rfl (fun s5 I4=>?_) (.inr hl);refine wpAny_mono (hh (.ref a) pins s5 _ H1 (D.gone i) I4 (w a ea)) (fun f s5 q5=>?_) fun _ _ z=>False.elim z
   cases f with
   | next=>obtain ⟨σ',H',J,q⟩:=q5;exact cn (J.unhn I.ok) hN hi hl fun s6 I6=>⟨_,_,I6,q⟩
   | brk=>obtain ⟨σ',H',J,q⟩:=q5;exact cn (J.unhn I.ok) hN hi hl fun s6 I6=>⟨_,_,I6,q⟩
   | cont=>obtain ⟨σ',H',J,q⟩:=q5;exact cn (J.unhn I.ok) hN hi hl fun s6 I6=>⟨_,_,I6,q⟩
   | ret u=>obtain ⟨v,σ',H',J,r,q⟩:=q5;exact cn (J.unhn I.ok) hN hi hl fun s6 I6=>⟨v,_,_,I6,r,q⟩
end
theorem qL {X:Cx} {body suite:List Stmt} {b0:Stmt} {x n:Str} {c:Addr} {i:Nat} {tb:(St->XK)->TS} {th:TS} {xp hp pos:Pos} (hb:∀ pins E,∃ t,PSs (X.tr pins (xeT X pins E)) body t/\t=tb E) (hg:Gl X x) (hm:X.mg x=some (.ref c))
  (hh:∀ e,∃ t,PSs (X.hn e) (b0 :: suite) t/\t=th) (hN:X.N.Nodup) (hi:X.N[i]? = some n) (hl:X.env.scope.names.lookup n=some .local) (F:Fr1 X:=by exact ⟨rfl,rfl⟩)
  (hdb:(x == ("__debug__" : Str))=false:=by decide):PS X (.Try body [.ExceptHandler (some (.Name x xp)) (some n) (b0 :: suite) hp] [] [] pos) (vQ X.K c i tb th):=
 BN (fun pins E=>by obtain ⟨t,h,rfl⟩:=hb pins E;exact h) hg hm (fun e=>by obtain ⟨t,h,rfl⟩:=hh e;exact h) hN hi hl F hdb
theorem fL (K:W.Frag) (c:Addr) (i:Nat) (tb:(St->XK)->TS) (th:TS) (D:Li) (σ:St) (H:Hp):vQ K c i tb th D σ H=tb (sQ K c i th D) D σ H:=rfl
theorem iM (K:W.Frag) (c:Addr) (i:Nat) (th:TS) (D:Li) (σ:St) (C:Value) (od:Option Addr) (H:Hp) :
  sQ K c i th D σ C od H = ∃ C',C=.ref C'/\PySem.W.exmOne K C (.ref c)=some true/\∀ x,H x=some (.ext (XA x C' od))->th (D.gone i) (σ.set i (some (.ref x))) H:=rfl
theorem SL (D:Li) (i:Nat) (σ:St) (H:Hp):(D.gone i).nx σ H=D.nx (σ.set i none) H:=rfl
theorem RL (D:Li) (i:Nat) (v:V) (H:Hp):(D.gone i).rt v H=D.rt v H:=rfl
theorem OwnTail.has {h:Heap} {bm tl:List Value} {v:Value} (T:OwnTail h bm tl) (e:bm.contains v=true):tl.contains v=true:=by
 induction T with
 | base=>exact e
 | own _ _ _ _ ih=>rw [List.contains_cons,ih,Bool.or_true]
noncomputable def BJ (K:W.Frag) (E:St->XK) (te:TE):TS:=fun D σ H=>te σ H fun v H1=>∃ x C od,v=.ref x/\H1 x=some (.ext (XF x C od))/\Ss K C/\E σ (.ref C) od (upd H1 x (.ext (XA x C od)))
theorem QC {M:Model} {A:Around} {E:Value->Shared->Prop} {s:Shared} {env:Env} {x:Sem Value} {Q:Flow->Shared->Prop} (hh:A.handled=none)
  (h:wpAny M A x (fun v s1=>∃ e C od vs sl nm q N bs bm hdct sn sub ab col dd k0 k1 k2 k3 k5 newId,v=.ref e/\bm.contains (.type "BaseException")=true /\
   s1.heap.get? C=some (excClassObj nm q C N bs bm hdct sn sub ab col dd k0 k1 k2 k3 k5 newId)/\s1.heap.get? e=some ⟨.ref C,od,.fields vs,sl⟩/\vs[1]? = some .none/\E (.ref e) s1) E s) :
  wpAny M A (raiseStmt env (some x) none) Q E s:=by
 unfold raiseStmt;refine wpAny_bind (wpAny_mono h (fun v s1 h1=>?_) fun _ _ x=>x);obtain ⟨e,C,od,vs,sl,nm,q,N,bs,bm,hdct,sn,sub,ab,col,dd,k0,k1,k2,k3,k5,newId,rfl,hb,hC,he,h1,hE⟩:=h1;have hcB:(Value.ref C :: bm).contains (.type "BaseException")=true:=by rw [List.contains_cons,hb,Bool.or_true]
 obtain ⟨hp,g,d,tk,os⟩:=s1
 repeat (first | with_reducible refine wpAny_loadPart_at he ?_ | with_reducible refine wpAny_loadPart_at hC ?_ | (with_reducible refine wpAny_isSubtype_exc hC ?_;rw [hcB]) | (with_reducible refine wpAny_field he rfl h1 ?_) | wp_step)
 exact wpAny_raiseNew_none hh hE
section
variable {X:Cx} {e:Expr} {te:TE} {pos:Pos} {E:St->XK}
theorem Tn (he:PE X e te) (hT:vG X E) (hc:X.calm=true:=by rfl):PS X (.Raise (some e) none pos) (BJ X.K E te):=by
 intro pins s σ H D I h;rw [arm_exec_Raise];refine wpAny_bind (wpAny_standAt (QC (I.ok.hd hc) ?_));refine wpAny_bind (thn (he pins s σ H _ I h) fun u s1 ⟨v,H1,I1,r,x,C,od,ev,ex,c,q⟩=>wpAny_bind (wpAny_standAt (wpAny_pure ?_)));subst ev;obtain rfl:u=Value.ref x:=r;obtain ⟨vs,sl,hx,z1,z2⟩:=(show Sd X.prog X.w H1 s1.heap x (.ext (XF x C od)) from I1.hok _ _ ex).1;obtain ⟨fI,hfI⟩:=c.ex;obtain ⟨tl,N,nm,q',bs,sn,sub,ab,co,dd,k0,k1,k2,k3,k5,mN,hC,hN,hi,T⟩:=fw I1.kIn hfI;exact ⟨x,C,od,vs,sl,nm,q',N,bs,tl,true,sn,sub,ab,co,dd,k0,k1,k2,k3,k5,_,rfl,L2.OwnTail.has T (by decide),hC,hx,z2,hT pins σ H1 s1 x C od I1 ex q⟩
theorem PS.nox {X:Cx} {st:Stmt} {t:TS} (h:PS X.nox st t):PS X st t:=fun pins s σ H D I hw=>
 wpAny_mono (h pins s σ H D (I.wish _) hw) (fun _ _ q=>q.unwish) fun _ _ z=>False.elim z
end
theorem Fun.okX {P:Program} {w:World} {K:W.Frag} {mg:Str->Option Value} {base:Heap} {x qual:Str} {st:Stmt} {f:Addr} {fd:FuncData} {N ps:List Str} {k:Nat} {sp:Sp} (F:Fun K x qual st f fd) (S:Ab N ps (rb st))
  (len:∀ vs H Q E,sp vs H Q E->vs.length=ps.length)
  (hbody:∀ (cdv:Value) (A:Around) (outer:List Env) (s:Shared) (H:Hp) (vs:List V) (Q:VK) (E:XK),kj k (A.deeper (envOfC qual (rb st) s.heap.objs.size f cdv))->sp vs H Q E ->
   ∃ t,PSs ((MD (CX1 P w) P w K mg base N qual (rb st) f cdv A outer s H E).wish (xeA (MD (CX1 P w) P w K mg base N qual (rb st) f cdv A outer s H E) fun _=>E)) (Fo st) t/\t { nx:=fun _ H'=>Q .non H',rt:=Q } (start N vs) H):Gb P w K mg base (CX1 P w) (k + 1) f fd ps sp:=by
 obtain ⟨oc,od,kV,doc,pm,an,cdv,ct,osl,rfl,lk,hcd⟩:=F.ex;refine GO lk hcd S len fun A outer s H vs Q E hr hsp=>?_
 obtain ⟨t,h,q⟩:=hbody cdv A outer s H vs Q E hr hsp;exact ⟨t,fun pins s1 σ H1 D I hw=>wpAny_mono (h pins s1 σ H1 D (I.wish _) hw) (fun _ _ q=>q.unwish) fun _ _ z=>XL z,q⟩
noncomputable def xeB (B:Cx) (E:XK) (e:Value) (s':Shared):Prop:=
 ∃ pins fl σ' H' x C od T,e=.ref x/\Inv B pins σ' H' s'/\H' x=some (.ext (XA x C od))/\H' T=none/\rO B pins T/\B.s₀.heap.objs.size <= T/\FlA x C od T fl s'.heap/\E (.ref C) od H'
structure KQ (X:Cx) (scope:Scope) (N:List Str) (tg elt:Expr) (ifs:List Expr) (g:TG) (tc:TT) (te:XK->TE):Prop where
 tgt:∀ E C s H fp,PG ((X.block scope C N s H fp).wish (xeB (X.block scope C N s H fp) E)) tg g
 tests:∀ E C s H fp,PTs ((X.block scope C N s H fp).wish (xeB (X.block scope C N s H fp) E)) ifs tc
 elem:∀ E C s H fp,PE ((X.block scope C N s H fp).wish (xeB (X.block scope C N s H fp) E)) elt (te E)
theorem KQ.of {X:Cx} {scope:Scope} {N:List Str} {tg elt:Expr} {ifs:List Expr} {g:TG} {tc:TT} {te:XK->TE} (h1:∀ E C s H fp,PG ((X.block scope C N s H fp).wish (xeB (X.block scope C N s H fp) E)) tg g)
  (h2:∀ E C s H fp,∃ t,PTs ((X.block scope C N s H fp).wish (xeB (X.block scope C N s H fp) E)) ifs t/\t=tc) (h3:∀ E C s H fp,∃ t,PE ((X.block scope C N s H fp).wish (xeB (X.block scope C N s H fp) E)) elt t/\t=te E):KQ X scope N tg elt ifs g tc te:=
 ⟨h1,fun E C s H fp=>by obtain ⟨t,h,rfl⟩:=h2 E C s H fp;exact h,fun E C s H fp=>by obtain ⟨t,h,e⟩:=h3 E C s H fp;rw [<- e];exact h⟩
section
variable {X:Cx} {elt tg iter:Expr} {ifs:List Expr} {scope:Scope} {pos:Pos} {wi:TI} {g:TG} {tc:TT} {te:XK->TE} {N:List Str} {sel:List (Option Nat)}
theorem FlA.but {x C T c:Addr} {od:Option Addr} {fl:Value} {h h':Heap} (z:FlA x C od T fl h) (n1:x ≠ c) (n2:T ≠ c) (k:∀ b,b ≠ c->h'.get? b=h.get? b):FlA x C od T fl h':=by
 obtain ⟨ne,vs,sl,oT,ts,he,h1,hT,hd,h3⟩:=z;exact ⟨ne,vs,sl,oT,ts,(k _ n1).trans he,h1,(k _ n2).trans hT,hd,h3⟩
end
structure cR (K:W.Frag) (C:Addr):Prop where
 cl:Cls K C
 ha:PySem.W.findIn K (.ref C) "__class__"=some (some (.builtin "object.__class__"))
 hn:PySem.W.specialIn K (.builtin "object.__class__") "__get__"=some (some (.builtin "getset_descriptor.__get__"))
 htk:PySem.W.takesIn K (.builtin "object.__class__")=some true
 hm:PySem.W.mroIn K C (.type "object")=some true
theorem cR.ty {K:W.Frag} {H:Hp} {C a dx:Addr} {fs:List (Str × V)} (c:cR K C) (e:H a=some (.ins C dx fs)):dB K H (.ref a) (.ref C):=.ins e c.cl c.ha c.hn c.htk c.hm
end L2
namespace L2
open PySem PySem.Spec PyProof.Rows
noncomputable def Itd (hi:Int) (n:Nat):It:=⟨fun i _=>i < n,fun i H x H'=>H'=H/\x=.int (hi - i),fun i _=>n <= i⟩
theorem ND {P:Program} {w:World} {K:W.Frag} {tg:Expr} (it:Addr) (hi:Int) (n:Nat):oK P w K tg (Itd hi n) [it] it (fun i h=>IsRangeIter h it (hi + (i:Nat) * (-1)) ((n:Int) - (i:Nat)) (-1)) where
 mem:=by simp
 obj:=fun i h st b hb=>by
  have e:b=it:=by simpa using hb
  subst e;exact ⟨_,st,fun v z=>by
   have z':Data.fields _=Data.cell v:=z;cases z'⟩
 keep:=fun i h h' st k=>k it (by simp) _ st
 item:=by
  intro X hP hw hK hc i pins s σ H E I hf st hg;subst hP hw hK;obtain ⟨f0,f1,f2,f3,f4,f5⟩:=hf it (by simp);have W:=Walks.range (prog:=X.prog) (w:=X.w) (I.ok.hd hc) it hi (-1) n;refine W.item i s _ _ hg st fun v h' tk hv st' kk=>?_
  obtain ⟨t,rfl⟩:=hv;have I1:Inv X pins σ H { s with heap:=h',toks:=tk }:=I.turned (fun b o hb e=>kk b o (by simpa using hb) e) f0 f1 f3 f4 f5;refine ⟨_,rfl,mD (s:={ s with heap:=h',toks:=tk }) (n := "range_iterator") st' rfl rfl (by decide) ⟨.int (hi - i),H,I1,⟨t,?_⟩,⟨rfl,rfl⟩,st',fun b hb=>(hf b hb).1⟩⟩;congr 1;omega
 done:=by
  intro X hP hw hK hc i pins s σ H E I hf st hg;subst hP hw hK;obtain ⟨f0,f1,f2,f3,f4,f5⟩:=hf it (by simp);exact wpAny_pyNext_range_end (I.ok.hd hc) st (by have:n <= i:=hg;omega) fun h' eb=>⟨rfl,I.turned (t':=s.toks) (fun b o hb e=>eb b o hb e) f0 f1 f3 f4 f5⟩
 self:=fun _ _ _ _ _ st h=>wpAny_pyIter_rangeiter st h
theorem Wl (a b:Int):Builtin.Range.rangeSize a b (-1)=if b < a then a - b else 0:=by
 unfold Builtin.Range.rangeSize;rw [if_neg (show ¬ (-1:Int) > 0 by decide),show (- -1:Int)=1 by decide,Int.ediv_one];show (if b < a then a - b - 1 + 1 else 0)=_;split <;> omega
theorem yC {a b:Int} (ha:-(2 ^ 62) <= a) (ha':a < 2 ^ 62) (hb:-(2 ^ 62) <= b) (hb':b < 2 ^ 62):Builtin.Range.small a b (-1)=true:=by
 unfold Builtin.Range.small;rw [Wl];simp only [Builtin.Range.rangeFitsLong,Bool.and_eq_true,Bool.or_eq_true,decide_eq_true_eq,beq_iff_eq,show ¬ (-1:Int) > 0 by decide,if_false];split <;> omega
section
variable {X:Cx} {tg:Expr}
noncomputable def eP (ta:TA):TI:=fun σ H R=>ta σ H fun vs H1=>∃ i j:Int,vs=[.int i,.int j,.int (-1)]/\(-1073741824 <= i/\i < 1073741824/\-1073741824 <= j/\j < 1073741824)/\R (Itd i (i - j).toNat) H1
theorem JE {a b c:Expr} {ta:TA} {p pos:Pos} (hg:Gl X "range") (hm:X.mg "range"=none) (ha:PA X [a,b,c] ta) (hs:starEach [a,b,c] X.env=[(false,eval a X.env),(false,eval b X.env),(false,eval c X.env)]:=by rfl) (hs2:starEach [b,c] X.env=[(false,eval b X.env),(false,eval c X.env)]:=by rfl) :
  PI X tg (.Call (.Name "range" p) [a,b,c] [] pos) (eP ta):=by
 intro pins s σ H R I h;refine Call_ (bo I hg hm boot_range (PyProof.Rows.callWith_type1 (thn (ha pos pins s σ H _ I h) fun us s1 hZ1=>?_) (by rw [hs,hs2]) (by rw [hs2];rfl)));obtain ⟨vs,H1,I1,r1,q1⟩:=hZ1;obtain ⟨i,j,e,⟨q1,q2,q3,q4⟩,q⟩:=q1;subst e;cases r1 with
 | cons r rr=>
  cases rr with
  | cons r' rr=>
   cases rr with
   | cons r'' rr=>
    cases rr;obtain ⟨t,rfl⟩:=r;obtain ⟨t',rfl⟩:=r';obtain ⟨t'',rfl⟩:=r'';refine call_range_3 (by decide) ?_ (Or.inl (PyProof.noPylong_small (by omega)));refine wpAny_pyIter_range (IsRange.new ..) (yC (by omega) (by omega) (by omega) (by omega)) ?_;have I2:Inv X pins σ H1 { s1 with heap:=s1.heap.push { cls:=.type "range",data:=.fields #[.int i t,.int j t',.int (-1) t''] },toks:=s1.toks }:=I1.kept fun b o e=>Heap.get?_push_of_some _ e
    refine ⟨(s1.heap.push { cls:=.type "range",data:=.fields #[.int i t,.int j t',.int (-1) t''] }).objs.size,[(s1.heap.push { cls:=.type "range",data:=.fields #[.int i t,.int j t',.int (-1) t''] }).objs.size],_,_,H1,rfl,
     I2.kept (t':=s1.toks) fun b o e=>Heap.get?_push_of_some _ e,ND _ i (i - j).toNat,?_,fun b hb=>?_,q⟩
    ·have e1:i + ((0:Nat):Int) * (-1)=i:=by simp
     have e2:(((i - j).toNat:Nat):Int) - ((0:Nat):Int)=Builtin.Range.rangeSize i j (-1):=by rw [Wl];split <;> omega
     show IsRangeIter _ _ (i + ((0:Nat):Int) * (-1)) ((((i - j).toNat:Nat):Int) - ((0:Nat):Int)) (-1);rw [e1,e2];exact Heap.get?_push_size _ rfl
    ·have e:b=(s1.heap.push { cls:=.type "range",data:=.fields #[.int i t,.int j t',.int (-1) t''] }).objs.size:=by simpa using hb
     subst e;exact I2.fpOk (Nat.le_refl _) (I2.hok.fresh (Nat.le_refl _))
end
theorem GB:typeLookup (.type "list_reverseiterator") "__len__"=pure none:=by rw [typeLookup_type,builtinLookup_eq_fast];kernel_rfl
theorem Fx:typeLookup (.type "list_reverseiterator") "__length_hint__"=pure (some (.builtin "list_reverseiterator.__length_hint__")):=by rw [typeLookup_type,builtinLookup_eq_fast];kernel_rfl
section
variable {prog:Program} {w:World} {A:Around} {E:Value->Shared->Prop} {s:Shared} {it l:Addr} {items:Array Value}
theorem iH (hT:s.TypeIs (.ref it) "list_reverseiterator") {Q:Bool->Shared->Prop} (h:Q false s):wpAny (model prog w) A (Builtin.List.listLengthHint (.ref it)) Q E s:=by
 unfold Builtin.List.listLengthHint;refine wpAny_bind (wpAny_specialOf hT GB ?_);show wpAny _ A (specialOf (Value.ref it) (Str.ofString "__length_hint__") >>= _) _ _ _;refine wpAny_bind (wpAny_specialOf hT Fx ?_);generalize hid:("list_reverseiterator.__length_hint__" : String)=id0
 wp_delta
 rw [show splitId id0=some ("list_reverseiterator","__length_hint__") from by subst hid;decide +kernel];subst hid;refine wpAny_bind (wpAny_isInstance (T := "list_reverseiterator") (b:=true) hT (by rw [isSubtype_type];kernel_rfl) ?_);refine wpAny_ite_split (fun hab=>absurd hab (by decide)) (fun _=>?_);refine wpAny_ite_split (fun _=>?_) (fun hab=>absurd (by decide +kernel) hab);refine wpAny_ite_split (fun hab=>absurd hab (by decide +kernel)) (fun _=>?_);exact wpAny_pure h
noncomputable abbrev vO (items:Array Value):Nat->Value->Prop:=fun i v=>items[items.size - 1 - i]? = some v
theorem SC {R:Result->Shared->Prop} (hh:A.handled=none) (hit:s.heap.IsRevIter it l ((items.size:Int) - 1 - ((0:Nat):Int))) (hl:s.heap.IsList l items) (hne:l ≠ it) (S:Addr) (hSi:S ≠ it) (hSl:S ≠ l) (res:Value) (c₀:Nat)
  (hS:s.heap.get? S=some { cls:=.type "list",data:=.seq #[] c₀ }) (hn:items.size <= sizeLine)
  (hR:∀ h' tk acc c,(∀ b o,b ≠ S->b ≠ it->s.heap.get? b=some o->h'.get? b=some o)->h'.get? S=some { cls:=.type "list",dict:=none,data:=.seq acc c,slots:=#[] }->ItemsOf (vO items) acc items.size->R (.ok (.ret res)) { s with heap:=h',toks:=tk }) :
  wpAny (model prog w) A.in1 (Builtin.List.listExtendWith (.ref S) (.ref it) res)
   (fun fin s'=>match fin with | .done f=>R (.ok f) s' | .again c'=>c'.quiet=true/\codeAny (model prog w) A c' R s') (fun e s'=>R (.error e) s') s:=by
 unfold Builtin.List.listExtendWith;refine wpAny_bind (wpAny_typeOf hit.typeIs ?_);have h1:Builtin.List.listSameRef (.ref S) (.ref it)=false:=by simp [Builtin.List.listSameRef,hSi]
 have h2:(Value.type "list_reverseiterator" == Value.type "list")=false:=by decide
 have h3:(Value.type "list_reverseiterator" == Value.type "tuple")=false:=by decide
 simp only [h1,h2,h3,Bool.or_false,Bool.false_eq_true,if_false];refine wpAny_bind (wpAny_pyIter_revIter hit ?_);refine wpAny_bind (wpAny_holding (iH hit.typeIs ?_));refine wpAny_ite_split (fun hab=>absurd hab (by decide +kernel)) (fun _=>?_);have W:=Walks.listRev (prog:=prog) (w:=w) (A:=A.in1) hh it l hne items;have hSf:S ∉ [it,l]:=by simp only [mem_cons,not_mem_nil,or_false,not_or];exact ⟨hSi,hSl⟩
 refine wpAny_pure ⟨plainId_quiet PySem.F.plain_extend_loop _,codeAny_extend_loopS W.toS hn S hSf res items.size 0 s #[] c₀ rfl (Nat.zero_le _) ⟨Nat.zero_le _,hit,hl⟩ hS (ItemsOf.nil _) fun s' acc c hm hS' hacc=>?_⟩;rw [Moved.eq_with hm];refine hR s'.heap s'.toks acc c (fun b o hb hi e=>hm.heap b o (fun hmem=>?_) e) hS' hacc;rcases List.mem_cons.mp hmem with e' | hmem
 ·exact hb e'
 ·exact hi (List.mem_singleton.mp hmem)
theorem jw {Q:Value->Shared->Prop} (hh:A.handled=none) (hit:s.heap.IsRevIter it l ((items.size:Int) - 1 - ((0:Nat):Int))) (hl:s.heap.IsList l items) (hne:l ≠ it) (hn:items.size <= sizeLine)
  (hQ:∀ h' tk acc c,(∀ b o,b ≠ it->s.heap.get? b=some o->h'.get? b=some o)->h'.get? s.heap.objs.size=some { cls:=.type "list",dict:=none,data:=.seq acc c,slots:=#[] }->ItemsOf (vO items) acc items.size->Q (.ref s.heap.objs.size) { s with heap:=h',toks:=tk }) :
  wpAny (model prog w) A (call (.type "list") [.ref it]) Q E s:=by
 have li:it < s.heap.objs.size:=by obtain ⟨_,e,_⟩:=hit;exact Heap.lt_size e
 have ll:l < s.heap.objs.size:=by obtain ⟨_,e,_⟩:=hl;exact Heap.lt_size e
 refine callType_codes (Q₁:=fun obj s₁=>obj=.ref s.heap.objs.size/\s₁ = { s with heap:=s.heap.push { cls:=.type "list",data:=.seq #[] } }) PySem.F.called_list (PySem.F.typeCall_list_1 _) PySem.F.entry_list_init
  (code_list_new _ ⟨rfl,rfl⟩) fun obj s₁ h₁=>?_
 obtain ⟨rfl,rfl⟩:=h₁;have hS:(s.heap.push { cls:=.type "list",data:=.seq #[] }).get? s.heap.objs.size=some { cls:=.type "list",data:=.seq #[] }:=Heap.get?_push_size _ rfl;refine ⟨⟨_,hS,rfl⟩,PySem.F.args_list_init_2 _ _,?_⟩;show wpAny _ _ (do let old <- Builtin.List.listItems (.ref s.heap.objs.size);Builtin.List.listUpdate (.ref s.heap.objs.size) (fun _=>#[]);letGo old.toList.reverse;Builtin.List.listExtendWith (.ref s.heap.objs.size) (.ref it) .none) _ _ _;refine wpAny_bind ?_;unfold Builtin.List.listItems;refine wpAny_bind (wpAny_seqItems hS rfl (wpAny_pure ?_));show wpAny _ _ (updateSeq s.heap.objs.size (fun _=>#[]) >>= fun _=>letGo (#[]:Array Value).toList.reverse >>= fun _=>Builtin.List.listExtendWith (.ref s.heap.objs.size) (.ref it) .none) _ _ _;refine wpAny_bind (wpAny_updateSeq hS rfl ?_);have hS₂:=Heap.get?_update_self (Obj.mapSeq (fun _=>(#[]:Array Value))) hS rfl;have oth:∀ b o,s.heap.get? b=some o->((s.heap.push { cls:=.type "list",data:=.seq #[] }).update s.heap.objs.size (Obj.mapSeq (fun _=>(#[]:Array Value)))).get? b=some o:=
  fun b o e=>(Heap.get?_update_other _ _ (Ne.symm (Nat.ne_of_lt (Heap.lt_size e)))).trans (Heap.get?_push_of_some _ e)
 refine wpAny_bind (wpAny_letGo ?_);refine SC (A:=A.in1) hh (hit.at fun o e=>oth _ o e) (hl.at fun o e=>oth _ o e) hne _ (Ne.symm (Nat.ne_of_lt li)) (Ne.symm (Nat.ne_of_lt ll)) .none _ hS₂ hn fun h' tk acc c hk hS' hacc=>?_
 exact ⟨rfl,hQ h' tk acc c (fun b o hb e=>hk b o (Nat.ne_of_lt (Heap.lt_size e)) hb (oth b o e)) hS' hacc⟩
end
section
variable {X:Cx}
noncomputable def DB (K:W.Frag) (ta:TA):TE:=fun σ H Q=>ta σ H fun vs H1=>∃ a xs,vs=[.ref a]/\SqL K H1 a xs/\∀ l,H1 l=none->Q (.ref l) (upd H1 l (.lst xs.reverse))
theorem Oo {a:Expr} {ta:TA} {p q pos pos':Pos} (hc:X.calm=true) (hg:Gl X "list") (hm:X.mg "list"=none) (hg':Gl X "reversed") (hm':X.mg "reversed"=none) (ha:PA X [a] ta) (hs:starEach [a] X.env=[(false,eval a X.env)]:=by rfl)
  (hs2:starEach [Expr.Call (.Name "reversed" q) [a] [] pos'] X.env=(false,eval (Expr.Call (.Name "reversed" q) [a] [] pos') X.env) :: starEach [] X.env:=by rfl) :
  PE X (.Call (.Name "list" p) [.Call (.Name "reversed" q) [a] [] pos'] [] pos) (DB X.K ta):=by
 intro pins s σ H Q I h;refine wpAny_Call_Name_kw (bo I hg hm Mm ?_);refine PyProof.Rows.callWith_type1 ?_ hs2 rfl;rw [hs2];show wpAny _ _ (spliced ((false,eval (Expr.Call (.Name "reversed" q) [a] [] pos') X.env) :: [])) _ _ s;refine Calls.spliced_cons ?_;refine Call_ (bo I hg' hm' Rv (PyProof.Rows.callWith_type1 (thn (ha pos' pins s σ H _ I h) fun us s1 hZ1=>?_) hs rfl));obtain ⟨vs,H1,I1,r1,q1⟩:=hZ1;obtain ⟨a,xs,e,hq,q⟩:=q1;subst e;cases r1 with
 | cons r rr=>
  cases rr;cases r;obtain ⟨its,rv,pl,hz⟩:=I1.list hq;have hl:=rv.length;have hlt:a < s1.heap.objs.size:=by obtain ⟨_,e,_⟩:=pl.isList;exact Heap.lt_size e
  refine call_reversed_list pl.isList ?_;refine Calls.spliced_nil ?_;have hit:(s1.heap.push (revObj a ((its.toArray.size:Int) - 1))).IsRevIter s1.heap.objs.size a ((its.toArray.size:Int) - 1 - ((0:Nat):Int)):=by
   refine ⟨_,Heap.get?_push_size _ rfl,rfl,?_⟩;simp only [revObj];simp
  have kp:∀ b o,s1.heap.get? b=some o->(s1.heap.push (revObj a ((its.toArray.size:Int) - 1))).get? b=some o:=fun b o e=>Heap.get?_push_of_some _ e
  refine jw (I1.ok.hd hc) hit (pl.isList.at fun o e=>kp _ o e) (Nat.ne_of_lt hlt) (by rw [size_toArray];omega) fun h' tk acc c hk e' hacc=>?_
  refine ⟨.ref _,_,I1.laid (o:=.lst xs.reverse) (t':=tk) (fun b u e=>hk b u (Nat.ne_of_lt (Heap.lt_size e)) (kp b u e)) (by rw [Heap.size_push];exact Nat.le_succ _) ⟨by rw [length_reverse];omega,acc.toList,c,?_,e'⟩,rfl,q _ (I1.hok.fresh (by rw [Heap.size_push];exact Nat.le_succ _))⟩;have hv:=Yu (f:=fun i=>xs.getD (xs.length - 1 - i) .non) (fun i v hv=>by
   have hv':its.toArray[its.toArray.size - 1 - i]? = some v:=hv;rw [size_toArray,<- hl,List.getElem?_toArray] at hv';have hj:=(List.getElem?_eq_some_iff.mp hv').1;have hx:xs[xs.length - 1 - i]? = some xs[xs.length - 1 - i]:=getElem?_eq_getElem (by omega);obtain ⟨w,hw,rw'⟩:=rv.get hx;rw [hv'] at hw;cases hw;rw [getD_eq_getElem?_getD,hx];exact rw') hacc
  have er:(List.range its.toArray.size).map (fun i=>xs.getD (xs.length - 1 - i) .non)=xs.reverse:=by
   rw [size_toArray,<- hl];refine ext_getElem (by simp) fun i h1 h2=>?_
   rw [getElem_map,List.getElem_range,List.getElem_reverse,getD_eq_getElem?_getD,getElem?_eq_getElem (by simp at h2;omega)];rfl
  rw [er] at hv;exact hv
end
section
variable {prog:Program} {w:World} {A:Around} {R:Result->Shared->Prop} {I:Addr} {fp wr:List Addr} {n:Nat} {P:Nat->Value->Prop} {St:Nat->Heap->Prop}
noncomputable def lP (P:Nat->Value->Prop) (bt:Nat->Nat->Bool) (j:Nat) (acc:Array Value):Prop:=(j=0/\acc=#[])\/∃ vb i,j=i + 1/\acc=#[vb,vb]/\P (argBest bt i) vb
theorem rG (W:Walks prog w A.in1 I fp wr n P St) (bt:Nat->Nat->Bool) (hcmp:CmpOf prog w A.in1 .Lt P bt) (S:Addr) (hSf:S ∉ fp) (dv:Value) (kn:Str) :
  ∀ (k j:Nat) (s:Shared) (acc:Array Value) (c:Nat),n - j=k->j <= n->St j s.heap->lP P bt j acc ->
  s.heap.get? S=some { cls:=.type "list",dict:=none,data:=.seq acc c,slots:=#[] } ->
  (∀ v h' tk,(n=0/\v=dv)\/(0 < n/\P (argBest bt (n - 1)) v)->(∀ b o,b ∉ wr->b ≠ S->s.heap.get? b=some o->h'.get? b=some o)->R (.ok (.ret v)) { s with heap:=h',toks:=tk }) ->
  codeAny (model prog w) A (.builtin "min.loop" ⟨[.ref I,.none,.ref S],[(kn,dv)]⟩) R s:=by
 have hSw:S ∉ wr:=fun h=>hSf (W.sub _ h)
 have hname:(toString "min" ++ toString ".loop" : String) = "min.loop" := by decide
 intro k
 induction k with
 | zero=>
  intro j s acc c hk hj hst hB hS hR;have hin:j=n:=by omega
  refine codeAny_builtin PySem.F.entry_min_loop ?_;rw [Around.under_plainId PySem.F.plain_min_loop _];show wpAny _ A.in1 (seqItems? (.ref S) >>= _) _ _ s;refine wpAny_bind (wpAny_seqItems hS rfl ?_);show wpAny _ A.in1 (tryCatch (pyNext (.ref I)) _ >>= _) _ _ s;refine wpAny_bind (wpAny_tryCatch (W.done s _ _ (hin ▸ hst) fun h' tk hk'=>?_));have hS':=hk' S _ hSw hS;rcases hB with ⟨h0,rfl⟩ | ⟨vb,i,hi,rfl,hP⟩
  ·show wpAny _ A.in1 (rule _ >>= _) _ _ _;refine wpAny_bind (wpAny_rule (wpAny_pure ?_));exact hR dv h' tk (.inl ⟨by omega,rfl⟩) fun b o hbw hbS e=>hk' b o hbw e
  ·show wpAny _ A.in1 (updateSeq S (fun _=>#[]) >>= _) _ _ _;refine wpAny_bind ?_;refine wpAny_updateSeq hS' rfl (wpAny_bind (wpAny_letGo (wpAny_pure ?_)));refine hR vb _ tk (.inr ⟨by omega,by rw [show n - 1=i by omega];exact hP⟩) fun b o hbw hbS e=>(Heap.get?_update_other _ _ (Ne.symm hbS)).trans (hk' b o hbw e)
 | succ k ih=>
  intro j s acc c hk hj hst hB hS hR;have hlt:j < n:=by omega
  refine codeAny_builtin PySem.F.entry_min_loop ?_;rw [Around.under_plainId PySem.F.plain_min_loop _];show wpAny _ A.in1 (seqItems? (.ref S) >>= _) _ _ s;refine wpAny_bind (wpAny_seqItems hS rfl ?_);show wpAny _ A.in1 (tryCatch (pyNext (.ref I)) _ >>= _) _ _ s;refine wpAny_bind (wpAny_tryCatch (W.item j s _ _ hlt hst fun v h' tk hP hst' hk'=>?_));have hS':=hk' S _ hSw hS;have put:∀ h'':Heap,h''=h'.update S (Obj.mapSeq (fun _=>#[v,v]))->St (j + 1) h'':=fun h'' e=>by
   subst e;exact W.frame _ _ _ hst' fun b hbf o e=>(Heap.get?_update_other _ _ (fun h:S=b=>hSf (by rw [h];exact hbf))).trans e
  rcases hB with ⟨h0,rfl⟩ | ⟨vb,i,hi,rfl,hPb⟩
  ·show wpAny _ A.in1 (updateSeq S (fun _=>#[v,v]) >>= _) _ _ _;refine wpAny_bind ?_;refine wpAny_updateSeq hS' rfl ?_;rw [hname];refine wpAny_pure ⟨plainId_quiet PySem.F.plain_min_loop _,ih (j + 1) _ #[v,v] _ (by omega) hlt (put _ rfl) (.inr ⟨v,j,rfl,rfl,by subst h0;exact hP⟩) (Heap.get?_update_self _ hS' rfl) fun v' h'' tk'' hP' hk''=>?_⟩;exact hR v' h'' tk'' hP' fun b o hbw hbS e=>hk'' b o hbw hbS ((Heap.get?_update_other _ _ (Ne.symm hbS)).trans (hk' b o hbw e))
  ·subst hi;show wpAny _ A.in1 (tryCatch (holding [v,v] (richCompare .Lt v vb >>= _)) _ >>= _) _ _ _;refine wpAny_bind (wpAny_tryCatch (wpAny_holding (wpAny_bind (hcmp (i + 1) (argBest bt i) v vb _ _ _ hP hPb ?_))));refine wpAny_bind (wpAny_holding (wpAny_truthy_bool ?_));refine wpAny_bind (wpAny_letGo (wpAny_pure ?_));cases hb:bt (i + 1) (argBest bt i) with
   | true=>
    simp only [if_true];refine wpAny_bind ?_;refine wpAny_updateSeq hS' rfl (wpAny_bind (wpAny_letGo ?_));rw [hname];refine wpAny_pure ⟨plainId_quiet PySem.F.plain_min_loop _,ih (i + 1 + 1) _ #[v,v] _ (by omega) hlt (put _ rfl) (.inr ⟨v,i + 1,rfl,rfl,by simp only [argBest,hb,if_true];exact hP⟩) (Heap.get?_update_self _ hS' rfl) fun v' h'' tk'' hP' hk''=>?_⟩;exact hR v' h'' tk'' hP' fun b o hbw hbS e=>hk'' b o hbw hbS ((Heap.get?_update_other _ _ (Ne.symm hbS)).trans (hk' b o hbw e))
   | false=>
    simp only [Bool.false_eq_true,if_false];refine wpAny_bind (wpAny_letGo ?_);rw [hname];refine wpAny_pure ⟨plainId_quiet PySem.F.plain_min_loop _,ih (i + 1 + 1) _ #[vb,vb] c (by omega) hlt hst' (.inr ⟨vb,i + 1,rfl,rfl,by simp only [argBest,hb,Bool.false_eq_true,if_false];exact hPb⟩) hS' fun v' h'' tk'' hP' hk''=>?_⟩;exact hR v' h'' tk'' hP' fun b o hbw hbS e=>hk'' b o hbw hbS (hk' b o hbw e)
end
section
variable {prog:Program} {w:World} {A:Around} {E:Value->Shared->Prop} {s:Shared}
theorem GD (a d:Value):argsOk "min" ⟨[a],[(Str.ofString "default",d)]⟩:=by unfold argsOk;kernel_rfl
theorem GF {l:Addr} {its:Array Value} {dv:Value} {Q:Value->Shared->Prop} (hh:A.handled=none) (hl:s.heap.IsList l its) (ks:List Int) (hk:its.size=ks.length) (hv:∀ (i:Nat) (v:Value),its[i]? = some v->∃ t,v=Value.int (ks.getD i 0) t)
  (hQ:∀ v h' tk,(ks=[]/\v=dv)\/(∃ m t,ks.min? = some m/\v=.int m t)->(∀ b o,s.heap.get? b=some o->h'.get? b=some o)->Q v { s with heap:=h',toks:=tk }) :
  wpAny (model prog w) A (call (.builtin "min") [.ref l] [(Str.ofString "default",dv)]) Q E s:=by
 have hname:(toString "min" ++ toString ".loop" : String) = "min.loop" := by decide
 have hlt:l < s.heap.objs.size:=by obtain ⟨_,e,_⟩:=hl;exact Heap.lt_size e
 refine wpAny_call (codeAny_call_builtin PySem.F.plain_min PySem.F.entry_min ?_);simp only [checkBuiltinCall,PySem.F.kind_min];have key:wpAny (model prog w) A.in1 (Builtin.«min» ⟨[.ref l],[(Str.ofString "default",dv)]⟩) (fun fin s'=>match fin with
   | .done f=>(match (Except.ok f:Result) with | .ok (.ret v)=>Q v s' | .ok _=>False | .error e=>E e s')
   | .again c'=>c'.quiet=true/\codeAny (model prog w) A c' (fun r s'=>match r with | .ok (.ret v)=>Q v s' | .ok _=>False | .error e=>E e s') s') E s:=by
  show wpAny _ A.in1 (Builtin.Builtins.bindParams "min" ["key","default"] 0 ⟨[],[(Str.ofString "default",dv)]⟩ >>= _) _ _ s;refine wpAny_bind (wpAny_of_eq (show Builtin.Builtins.bindParams "min" ["key","default"] 0 ⟨[],[(Str.ofString "default",dv)]⟩=pure [none,some dv] from rfl) ?_);refine wpAny_bind (wpAny_pure ?_);refine wpAny_bind (wpAny_pyIter_list hl ?_);refine wpAny_bind (wpAny_newObj_type ?_);rw [hname];have W:=Walks.list (prog:=prog) (w:=w) (A:=A.in1) hh s.heap.objs.size l (Nat.ne_of_lt hlt) its;have hz1:(s.heap.push { cls:=.type "list_iterator",data:=.fields #[.ref l,.int 0 0] }).objs.size=s.heap.objs.size + 1:=Heap.size_push ..;refine wpAny_pure ⟨plainId_quiet PySem.F.plain_min_loop _,rG W _ (CmpOf.ints_lt (fun i=>ks.getD i 0) fun i v h=>hv i v h) _ ?_ dv _ its.size 0 _ #[] _ rfl (Nat.zero_le _) ?_ (.inl ⟨rfl,rfl⟩) (Heap.get?_push_size _ rfl) fun v h' tk hP hk'=>?_⟩
  ·show (s.heap.push _).objs.size ∉ _;rw [hz1];simp only [mem_cons,not_mem_nil,or_false,not_or];exact ⟨Nat.succ_ne_self _,Ne.symm (Nat.ne_of_lt (Nat.lt_succ_of_lt hlt))⟩
  ·exact W.frame 0 (s.heap.push { cls:=.type "list_iterator",data:=.fields #[.ref l,.int 0 0] }) _ ⟨⟨_,Heap.get?_push_size _ rfl,rfl,rfl⟩,hl.push _⟩ fun b _ o e=>Heap.get?_push_of_some _ e
  ·refine hQ v h' tk ?_ fun b o e=>hk' b o (fun hm=>?_) ?_ (Heap.get?_push_of_some _ (Heap.get?_push_of_some _ e))
   ·rcases hP with ⟨h0,h1⟩ | ⟨h0,h1⟩
    ·exact .inl ⟨List.length_eq_zero_iff.mp (by omega),h1⟩
    ·obtain ⟨t,e⟩:=hv _ v h1;have hb:=argBest_lt (fun i=>ks.getD i 0) (its.size - 1);refine .inr ⟨_,t,?_,e⟩;rw [List.min?_eq_some_iff];have hi:argBest (fun i j=>decide (ks.getD i 0 < ks.getD j 0)) (its.size - 1) < ks.length:=by omega
     refine ⟨?_,fun b hb'=>?_⟩
     ·rw [getD_eq_getElem?_getD,getElem?_eq_getElem hi];exact getElem_mem hi
     ·obtain ⟨j,hj,rfl⟩:=getElem_of_mem hb';have:=hb.2 j (by omega);rw [getD_eq_getElem?_getD (i:=j),getElem?_eq_getElem hj] at this;exact this
   ·rw [List.mem_singleton.mp hm] at e;exact absurd (Heap.lt_size e) (Nat.lt_irrefl _)
   ·rw [hz1];exact Nat.ne_of_lt (Nat.lt_succ_of_lt (Heap.lt_size e))
 cases hsig:Manifest.signature? "min" with
 | none=>exact wpAny_pure key
 | some sig=>
  have ha:=GD (.ref l) dv;have ha':Bind.checkArgs "min" sig ⟨[.ref l],[(Str.ofString "default",dv)]⟩=pure ():=by simpa only [argsOk,hsig] using ha
  simp only [ha'];exact wpAny_pure key
end
section
variable {X:Cx}
noncomputable def BP (K:W.Frag) (ta:TA) (td:TE):TE:=fun σ H Q=>ta σ H fun vs H1=>td σ H1 fun y H2=>∃ l ks,vs=[.ref l]/\SqL K H2 l (List.map V.int ks)/\Q (match ks.min? with | some m=>.int m | none=>y) H2
theorem TM {a d:Expr} {ta:TA} {td:TE} {p kp pos:Pos} (hc:X.calm=true) (hg:Gl X "min") (hm:X.mg "min"=none) (ha:PA X [a] ta) (hd:PE X d td)
  (he:∀ pos,backTo pos (starEach [a] X.env)=(false,eval a X.env) :: backTo pos (starEach [] X.env):=by intro _;rfl) (hpl:∀ pos,(backTo pos (starEach [a] X.env)).any (·.1)=false:=by intro _;rfl) :
  PE X (.Call (.Name "min" p) [a] [⟨some "default",d,kp⟩] pos) (BP X.K ta td):=by
 intro pins s σ H Q I h;refine wpAny_Call_Name_kw (bo I hg hm (show bootBuiltins "min"=some (.builtin "min") by decide +kernel) ?_);refine callWith_kw (id := "min") (thn (ha pos pins s σ H _ I h) fun us s1 hZ1=>?_) (he:=he pos) (hplain:=hpl pos);obtain ⟨vs,H1,I1,r1,q1⟩:=hZ1;refine kws_cons (thn (hd pins s1 σ H1 _ I1 q1) fun v s2 ⟨y,H2,I2,r2,q2⟩=>kws_nil ?_);obtain ⟨l,ks,rfl,hq,q⟩:=q2;cases r1 with
 | cons r rr=>
  cases rr;cases r;obtain ⟨its,rv,pl,hz⟩:=I2.list hq;have hl:=rv.length;rw [length_map] at hl;refine GF (I2.ok.hd hc) pl.isList ks (by rw [size_toArray];omega) (fun i v hv=>?_) fun v' h' tk hv' hk=>⟨_,H2,I2.kept hk,?_,q⟩
  ·rw [List.getElem?_toArray] at hv;have hi:i < ks.length:=by have:=(List.getElem?_eq_some_iff.mp hv).1;omega
   obtain ⟨w,hw,rw'⟩:=rv.get (show (ks.map V.int)[i]? = some (.int ks[i]) by rw [getElem?_map,getElem?_eq_getElem hi];rfl);rw [hv] at hw;cases hw;rw [getD_eq_getElem?_getD,getElem?_eq_getElem hi];exact rw'
  ·rcases hv' with ⟨rfl,rfl⟩ | ⟨m,t,hm,rfl⟩
   ·exact r2
   ·rw [hm];exact ⟨t,rfl⟩
end
end L2
namespace L2
open PySem PySem.Spec PyProof.Rows
structure ER (K:W.Frag) (C:Addr):Prop where
 x:Ss K C
 ha:PySem.W.findIn K (.ref C) "__class__"=some (some (.builtin "object.__class__"))
 hn:PySem.W.specialIn K (.builtin "object.__class__") "__get__"=some (some (.builtin "getset_descriptor.__get__"))
 htk:PySem.W.takesIn K (.builtin "object.__class__")=some true
 hm:PySem.W.mroIn K C (.type "object")=some true
section
variable {prog:Program} {w:World} {A:Around} {E:Value->Shared->Prop} {s:Shared} {K:W.Frag} {x C:Addr} {od:Obj} {dx:Addr} {vs:Array Value} {sl:Array (Option Value)}
end
theorem jx:∀ {cs:List Addr} {us:List Value},Kd (cs.map V.ref) us->us=cs.map Value.ref
 | [],_,.nil=>rfl
 | c :: cs,_,.cons r t=>by
  rw [jx t];cases (show _=Value.ref c from r);rfl
noncomputable def PQ (K:W.Frag) (neg:Bool):R2:=fun x y H Q=>∃ p qs f,y=.ref p/\SqL K H p (List.map V.ref qs)/\(∀ q ∈ qs,EqH K H 8 (.ref q) x (f q))/\Q (.bl (if neg then !(qs.any f) else qs.any f)) H
noncomputable def eU (f:Addr->Bool):Value->Bool
 | .ref q=>f q
 | _=>false
theorem zO (f:Addr->Bool) (qs:List Addr):(qs.map Value.ref).toArray.any (eU f)=qs.any f:=by
 rw [List.any_toArray,List.any_map];rfl
section
variable {X:Cx}
theorem sE (hU:X.A.units + 64 < cLine):OpR X (compareOp .NotIn) (PQ X.K true):=by
 intro pins s σ H x y v u Q I rx ry h;obtain ⟨p,qs,f,rfl,hp,he,q⟩:=h;cases ry;obtain ⟨its,r,pl,hz⟩:=I.list hp;have e1:=jx r;subst e1;refine SeqAt.notIn_listAt (eU f) pl.isList (fun w hw=>?_) ⟨.bl _,H,I,rfl,?_⟩
 ·obtain ⟨q',hq',rfl⟩:=List.mem_map.mp (by simpa using hw:w ∈ qs.map Value.ref);exact (SA I (he q' hq') X.A.in1 (.ref q') v (by rw [Gk];omega) rfl rx).1
 ·rw [zO];exact q
end
theorem Gb.quiet {P:Program} {w:World} {K:W.Frag} {mg:Str->Option Value} {base:Heap} {k:Nat} {f:Addr} {fd:FuncData} {ps:List Str} {sp sp':Sp} (F:Gb P w K mg base (CX1 P w) k f fd ps sp)
  (h:∀ vs H Q E,sp' vs H Q E->sp vs H Q (fun _ _ _=>False)):Gb P w K mg base CX0 k f fd ps sp':=by
 refine ⟨fun vs H Q E q=>F.len vs H _ _ (h vs H Q E q),fun A outer s H args us vs Q E hr he hb hv hs=>?_⟩;refine codeAny_mono (F.run A outer s H args us vs Q _ hr he hb hv (h vs H Q E hs)) fun r s' hq=>?_
 cases r with
 | error e=>
  obtain ⟨x,C,od,H',T,_,_,_,_,_,_,_,_,_,z⟩:=hq;exact z.elim
 | ok fl=>cases fl <;> exact hq
end L2
namespace L2
open PySem PySem.Spec PyProof.Rows
structure Co (k:Nat) (A:Around):Prop where
 dp:A.depth + 3 * k + 5 < recursionLimit
 un:A.units + 16 * k + 200 < cLine
theorem kj.h {k:Nat} {A:Around} (r:kj k A):Co k A:=⟨r.dp,r.un⟩
theorem Co.mono {j k:Nat} {A:Around} (r:Co k A) (h:j <= k):Co j A:=⟨by have:=r.dp;omega,by have:=r.un;omega⟩
theorem Co.deeper {k:Nat} {A:Around} (r:Co (k + 1) A) (env:Env):Co k (A.deeper env):=
 ⟨by have:=r.dp;show A.depth + 1 + 3 * k + 5 < _;omega,by have:=r.un;show A.units + 3 + 16 * k + 200 < _;omega⟩
theorem Co.depth {k:Nat} {A:Around} (r:Co k A):A.depth < recursionLimit:=by have:=r.dp;omega
theorem Co.units {k:Nat} {A:Around} (r:Co k A):A.units + 64 < cLine:=by have:=r.un;omega
theorem kj.hn {k:Nat} {X:Cx} {e:Value} (r:kj k X.A):Co k (X.hn e).A:=⟨r.dp,r.un⟩
structure QL (P:Program) (w:World) (K:W.Frag) (mg:Str->Option Value) (base:Heap) (CX:CXT) (k:Nat) (f:Addr) (fd:FuncData) (ps:List Str) (sp:Sp):Prop where
 len:∀ vs H Q E,sp vs H Q E->vs.length=ps.length
 run:∀ (A:Around) (outer:List Env) (s:Shared) (H:Hp) (args:Args) (us:List Value) (vs:List V) (Q:VK) (E:XK),Co k A->iF P w K mg base A outer s H->BindsTo s fd args (ps.zip us)->Kd vs us->sp vs H Q E ->
  codeAny (model P w) A (.call (.ref f) args) (CR CX outer P w H s Q E) s
theorem QL.mono {P:Program} {w:World} {K:W.Frag} {mg:Str->Option Value} {base:Heap} {CX:CXT} {j k:Nat} {f:Addr} {fd:FuncData} {ps:List Str} {sp:Sp} (F:QL P w K mg base CX j f fd ps sp) (h:j <= k) :
  QL P w K mg base CX k f fd ps sp:=⟨F.len,fun A outer s H args us vs Q E hr=>F.run A outer s H args us vs Q E (hr.mono h)⟩
section
variable {X:Cx} {CX:CXT} {k:Nat} {f C:Addr} {fd:FuncData} {ps:List Str} {sp:Sp} {dvs:List V} {ds:List Value} {E:XK} {x m:Str} {p pos apos:Pos} {e o:Expr} {es:List Expr} {ta:TE} {t:TA}
end
noncomputable def FQ (CX:CXT) (P:Program) (w:World) (K:W.Frag) (mg:Str->Option Value) (base:Heap) (N:List Str) (qual:Str) (scope:Scope) (f:Addr) (cd:Value) (A:Around) (outer:List Env) (s:Shared) (H:Hp) (E:XK):Cx where
 prog:=P
 w:=w
 K:=K
 mg:=mg
 base:=base
 A:=A.deeper (envOfC qual scope s.heap.objs.size f cd)
 N:=N
 s₀:=s
 H₀:=H
 env:=envOfC qual scope s.heap.objs.size f cd
 outer:=outer
 stack:=envOfC qual scope s.heap.objs.size f cd :: outer
 ex:=[]
 calm:=false
 fn:=fun _=>true
 pn:=[]
 xe:=fun e s'=>wpAny (model P w) (A.deeper (envOfC qual scope s.heap.objs.size f cd)) (leaving (envOfC qual scope s.heap.objs.size f cd) e) (fun _ s''=>CX outer H s E e s'') (fun e' s''=>CX outer H s E e' s'') s'
section
variable {P:Program} {w:World} {K:W.Frag} {mg:Str->Option Value} {base:Heap}
end
end L2
namespace L2
open PySem PySem.Spec PyProof.Rows
section
variable {X:Cx}
end
end L2
namespace L2
open PySem PySem.Spec PyProof.Rows
section
variable {α:Type} {M:List α->Prop}
theorem us1 (h:∀ a,M [a]):∀ us:List α,us.length=1->M us | [a],_=>h a
theorem us2 (h:∀ a b,M [a,b]):∀ us:List α,us.length=2->M us | [a,b],_=>h a b
theorem us3 (h:∀ a b c,M [a,b,c]):∀ us:List α,us.length=3->M us | [a,b,c],_=>h a b c
theorem us4 (h:∀ a b c d,M [a,b,c,d]):∀ us:List α,us.length=4->M us | [a,b,c,d],_=>h a b c d
theorem us5 (h:∀ a b c d e,M [a,b,c,d,e]):∀ us:List α,us.length=5->M us | [a,b,c,d,e],_=>h a b c d e
theorem us7 (h:∀ a b c d e f g,M [a,b,c,d,e,f,g]):∀ us:List α,us.length=7->M us | [a,b,c,d,e,f,g],_=>h a b c d e f g
theorem us8 (h:∀ a b c d e f g i,M [a,b,c,d,e,f,g,i]):∀ us:List α,us.length=8->M us | [a,b,c,d,e,f,g,i],_=>h a b c d e f g i
end
structure XB (K:W.Frag) (C:Addr):Prop where
 hd:PySem.W.hasDictIn K C=true
 ov:((PySem.W.clsIn K C).any fun cd=>JF cd.mro)=true
 sa:PySem.W.findIn K (.ref C) "__setattr__"=some (some (.builtin "object.__setattr__"))
 ga:PySem.W.findIn K (.ref C) "__getattribute__"=some (some (.builtin "BaseException.__getattribute__"))
 gt:PySem.W.findIn K (.ref C) "__getattr__"=some none
theorem Dr {K:W.Frag} {C f:Addr} (b:XB K C) (m:MkX K C f):Ss K C:=⟨b.hd,b.ov,b.sa,b.ga,b.gt,_,m.e⟩
structure IB (K:W.Frag) (C:Addr):Prop where
 ha:PySem.W.findIn K (.ref C) "__class__"=some (some (.builtin "object.__class__"))
 hn:PySem.W.specialIn K (.builtin "object.__class__") "__get__"=some (some (.builtin "getset_descriptor.__get__"))
 htk:PySem.W.takesIn K (.builtin "object.__class__")=some true
 hm:PySem.W.mroIn K C (.type "object")=some true
theorem mP {K:W.Frag} {C f:Addr} (i:PySem.W.isFn K (.ref f)=true) (e:Uu K C f=true) (k:PySem.W.keepIn K (.ref C)=true):MkX K C f:=⟨e,beq_iff_eq.mp i,k⟩
end L2
namespace L2
open PySem PySem.Spec PyProof.Rows
theorem IC {ks:List Int}:∀ {its:List Value},Kd (ks.map V.int) its->∃ xs:List (Int × Tok),its=xs.map (fun p=>Value.int p.1 p.2)/\xs.map (·.1)=ks:=by
 induction ks with
 | nil=>intro its r;cases r;exact ⟨[],rfl,rfl⟩
 | cons k ks ih=>
  intro its r;cases r with
  | cons h t=>
   obtain ⟨xs,e1,e2⟩:=ih t;obtain ⟨tk,rfl⟩:=(show ∃ t,_=Value.int k t from h);exact ⟨(k,tk) :: xs,by rw [map_cons,<- e1],by rw [map_cons,e2]⟩
section
variable {X:Cx}
theorem dF (hc:X.calm=true):ml X (.builtin "max") (fun xs H Q=>∃ l ks m,xs=[.ref l]/\SqL X.K H l (List.map V.int ks)/\(m ∈ ks/\∀ k ∈ ks,k <= m)/\Q (.int m) H):=by
 intro pins s σ H xs us Q I r h;obtain ⟨l,ks,m,rfl,hq,hm,q⟩:=h;obtain ⟨u,rfl,ru⟩:=At r;cases ru;obtain ⟨its,rv,pl,hz⟩:=I.list hq;obtain ⟨xs,e1,e2⟩:=IC rv;have hil:its.toArray=intItems xs.toArray:=by rw [e1];unfold intItems;simp
 have hls:s.heap.IsList l (intItems xs.toArray):=by rw [<- hil];exact pl.isList
 have hxl:xs.length=ks.length:=by rw [<- e2,length_map]
 have hne:0 < xs.toArray.size:=by
  rw [size_toArray,hxl];exact List.length_pos_of_mem hm.1
 refine max_intList (I.ok.hd hc) hls hne fun v h' tk hv hk=>⟨.int m,H,I.kept hk,?_,q⟩
 obtain ⟨tv,rfl⟩:=intItems_at hv;refine ⟨tv,?_⟩;have hb:=argBest_gt (numAt xs.toArray) (xs.toArray.size - 1);generalize argBest (fun i j=>decide (numAt xs.toArray i > numAt xs.toArray j)) (xs.toArray.size - 1)=j at hb ⊢;have hn:∀ i,i < ks.length->ks[i]? = some (numAt xs.toArray i):=fun i hi=>by
  rw [numAt_eq,getD_eq_getElem?_getD];show ks[i]? = some (((xs.map (·.1))[i]?).getD 0);rw [e2,getElem?_eq_getElem hi];rfl
 rw [size_toArray] at hb hne;have h1:=hm.2 _ (mem_of_getElem? (hn j (by omega)));obtain ⟨i,hi⟩:=getElem?_of_mem hm.1;have hil:i < ks.length:=(List.getElem?_eq_some_iff.mp hi).1;have h2:=hb.2 i (by omega);have h3:m=numAt xs.toArray i:=Option.some.inj (hi.symm.trans (hn i hil));rw [show numAt xs.toArray j=m by omega]
end
end L2
namespace L2
open PySem PySem.Spec PyProof.Rows
noncomputable def jO (p d:Addr):Heap->Prop:=fun h=>PySem.W.KdlKeysView h p d
noncomputable def yQ (p d:Addr):Heap->Prop:=fun h=>h.IsValuesView p d
theorem jO.ok {P:Program} {w:World} {H:Hp} {h:Heap} {p d:Addr} (z:jO p d h):Sd P w H h p (.ext (jO p d)):=
 ⟨z,let ⟨o,ho,_⟩:=z;⟨o,ho⟩,fun _ _ z1 k=>let ⟨o,ho,x⟩:=z1;⟨o,k o ho,x⟩⟩
theorem yQ.ok {P:Program} {w:World} {H:Hp} {h:Heap} {p d:Addr} (z:yQ p d h):Sd P w H h p (.ext (yQ p d)):=
 ⟨z,let ⟨o,ho,_⟩:=z;⟨o,ho⟩,fun _ _ z1 k=>let ⟨o,ho,x⟩:=z1;⟨o,k o ho,x⟩⟩
section
variable {X:Cx}
noncomputable def Ct:V->List V->Hp->VK->Prop:=fun x vs H Q=>∃ d kvs,x=.ref d/\vs=[]/\H d=some (.dK kvs)/\∀ p,H p=none->Q (.ref p) (upd H p (.ext (jO p d)))
end
end L2
namespace L2
open PySem PySem.Spec PyProof.Rows
noncomputable abbrev TF:=St->Hp->Str->(Str->Hp->Prop)->Prop
noncomputable def PF (X:Cx) (es:List Expr) (t:TF):Prop:=
 ∀ (pins:List (Addr × Obj)) (s:Shared) (σ:St) (H:Hp) (Q:Str->Hp->Prop) (acc:Str) (R:Str->Shared->Prop),Inv X pins σ H s->t σ H acc Q ->
  (∀ out H' s',Inv X pins σ H' s'->out.length <= sizeLine->Q out H'->R out s')->Joins (model X.prog X.w) X.A X.xe (evalEach es X.env) acc R s
noncomputable def tF0:TF:=fun _ H acc Q=>acc.length <= sizeLine/\Q acc H
noncomputable def tFC (c:Str) (t:TF):TF:=fun σ H acc Q=>acc.length + c.length <= sizeLine/\t σ H (acc ++ c) Q
noncomputable def tFI (te:TE) (t:TF):TF:=fun σ H acc Q=>te σ H fun v H1=>∃ i,v=.int i/\i.natAbs.log2 < 1920/\acc.length + (Str.ofString (toString i)).length <= sizeLine/\t σ H1 (acc ++ Str.ofString (toString i)) Q
noncomputable def tFS (te:TE) (t:TF):TF:=fun σ H acc Q=>te σ H fun v H1=>∃ x,v=.str x/\x.length <= 1000/\acc.length + x.length <= sizeLine/\t σ H1 (acc ++ x) Q
noncomputable def wJ (t:TF):TE:=fun σ H Q=>t σ H Str.empty fun y H1=>Q (.str y) H1
section
variable {X:Cx} {e:Expr} {es:List Expr} {t:TF} {te:TE} {pos:Pos}
theorem CK:PF X [] tF0:=fun pins s σ H Q acc R I q h=>h acc H s I q.1 q.2
theorem rq {c:Str} {k:Nat} (h:PF X es t):PF X (.Constant (.str c) k pos :: es) (tFC c t):=fun pins s σ H Q acc R I q hR=>by
 show wpAny _ _ _ _ _ _;exact Calls.Constant_str ⟨c,_,rfl,by rw [strLen_append];exact q.1,h pins _ σ H Q _ R (I.tok _) q.2 hR⟩
theorem qG (he:PE X e te) (h:PF X es t):PF X (.FormattedValue e (-1) none pos :: es) (tFI te t):=fun pins s σ H Q acc R I q hR=>by
 show wpAny _ _ _ _ _ _;refine wpAny_FormattedValue_plain (thn (he pins s σ H _ I q) fun u s1 hZ1=>?_);obtain ⟨v,H1,I1,r,i,ev,hi,hz,q1⟩:=hZ1;subst ev;obtain ⟨tk,rfl⟩:=(show ∃ tk,u=Value.int i tk from r);exact wpAny_formatField_int hi ⟨_,_,rfl,by rw [strLen_append];exact hz,h pins _ σ H1 Q _ R (I1.tok _) q1 hR⟩
theorem nN (he:PE X e te) (h:PF X es t):PF X (.FormattedValue e (-1) none pos :: es) (tFS te t):=fun pins s σ H Q acc R I q hR=>by
 show wpAny _ _ _ _ _ _;refine wpAny_FormattedValue_plain (thn (he pins s σ H _ I q) fun u s1 hZ1=>?_);obtain ⟨v,H1,I1,r,x,ev,hx,hz,q1⟩:=hZ1;subst ev;obtain ⟨tk,rfl⟩:=(show ∃ tk,u=Value.str x tk from r);exact formatField_str (fun t' tk'=>⟨x,_,rfl,by rw [strLen_append];exact hz,h pins _ σ H1 Q _ R (I1.tok _) q1 hR⟩) (by rw [sizeLine_eq];omega)
theorem JA {e2:Expr} (h:PF X (e :: e2 :: es) t):PE X (.JoinedStr (e :: e2 :: es) pos) (wJ t):=by
 intro pins s σ H Q I q;refine wpAny_JoinedStr (h pins s σ H _ _ _ I q fun out H' s' I' hl q'=>⟨hl,?_⟩);exact ⟨.str out,H',I'.tok _,⟨_,rfl⟩,q'⟩
end
end L2
namespace L2
open PySem PySem.Spec PyProof.Rows
noncomputable def cK (p:Addr) (a b c:Int):Heap->Prop:=fun h=>∃ t u v,IsRange h p a b c t u v
theorem cK.ok {P:Program} {w:World} {H:Hp} {h:Heap} {p:Addr} {a b c:Int} (z:cK p a b c h):Sd P w H h p (.ext (cK p a b c)):=
 ⟨z,let ⟨_,_,_,e⟩:=z;⟨_,e⟩,fun _ _ z1 k=>let ⟨t,u,v,e⟩:=z1;⟨t,u,v,k _ e⟩⟩
theorem aH {a b c:Int} (ha:0 <= a/\a < 1073741824) (hb:0 <= b/\b < 1073741824) (hc:0 < c/\c < 1073741824):Builtin.Range.small a b c=true:=by
 have hs:0 <= Builtin.Range.rangeSize a b c/\Builtin.Range.rangeSize a b c <= 1073741824:=by
  unfold Builtin.Range.rangeSize;rw [if_pos hc.1];split
  ·have h0:=Int.ediv_nonneg (show 0 <= b - a - 1 by omega) (show 0 <= c by omega);have h1:=Int.ediv_le_self c (show 0 <= b - a - 1 by omega);omega
  ·omega
 unfold Builtin.Range.small;simp only [Builtin.Range.rangeFitsLong,Bool.and_eq_true,Bool.or_eq_true,decide_eq_true_eq,beq_iff_eq];refine ⟨⟨⟨⟨by omega,by omega⟩,by omega⟩,by omega⟩,.inr ?_⟩;rw [if_pos hc.1,Bool.and_eq_true,decide_eq_true_eq,decide_eq_true_eq];omega
section
variable {X:Cx}
theorem rE:ml X (.type "range") (fun xs H Q=>∃ i j k:Int,xs=[.int i,.int j,.int k]/\(0 <= i/\i < 1073741824)/\(0 <= j/\j < 1073741824)/\(0 < k/\k < 1073741824)/\∀ p,H p=none->Q (.ref p) (upd H p (.ext (cK p i j k)))):=by
 intro pins s σ H xs us Q I r h;obtain ⟨i,j,k,rfl,hi,hj,hk,q⟩:=h;cases r with
 | cons r rr=>
  cases rr with
  | cons r' rr=>
   cases rr with
   | cons r'' rr=>
    cases rr;obtain ⟨t,rfl⟩:=r;obtain ⟨t',rfl⟩:=r';obtain ⟨t'',rfl⟩:=r'';refine call_range_3 (by omega) ?_ (Or.inl (PyProof.noPylong_small (by omega)));exact ⟨.ref s.heap.objs.size,_,I.laid (o:=.ext (cK _ i j k)) (t':=s.toks) (fun b u e=>Heap.get?_push_of_some _ e) (Nat.le_refl _) (cK.ok ⟨_,_,_,IsRange.new ..⟩),rfl,q _ (I.hok.fresh (Nat.le_refl _))⟩
theorem Nt (hc:X.calm=true):ml X (.type "list") (fun xs H Q=>∃ p i j k n,xs=[.ref p]/\H p=some (.ext (cK p i j k))/\(0 <= i/\i < 1073741824)/\(0 <= j/\j < 1073741824)/\(0 < k/\k < 1073741824)/\Builtin.Range.rangeSize i j k=((n:Nat):Int)/\n <= 16777216/\∀ l,H l=none->Q (.ref l) (upd H l (.lst ((List.range n).map fun (m:Nat)=>V.int (i + m * k))))):=by
 intro pins s σ H xs us Q I r h;obtain ⟨p,i,j,k,n,rfl,hp,hi,hj,hk,hn,hz,q⟩:=h;obtain ⟨u,rfl,rx⟩:=At r;cases rx;obtain ⟨t,u,v,e⟩:=(show Sd X.prog X.w H s.heap p (.ext (cK p i j k)) from I.hok p _ hp).1;refine call_list_range (I.ok.hd hc) e (aH hi hj hk) hn (by omega) fun h' tk acc c' hk e' hi=>?_
 refine ⟨.ref s.heap.objs.size,_,I.laid (o:=.lst ((List.range n).map fun (m:Nat)=>V.int (i + m * k))) hk (Nat.le_refl _) ⟨?_,acc.toList,c',Yu (fun i v ⟨t,ev⟩=>⟨t,ev⟩) hi,e'⟩,rfl,q _ (I.hok.fresh (Nat.le_refl _))⟩;rw [length_map,length_range];exact Nat.le_trans hz (by decide)
end
end L2
namespace L2
open PySem PySem.Spec PyProof.Rows
noncomputable def wR (c:Addr) (qual:Str):Heap->Prop:=fun h=>h.CodeRec (.ref c) qual
noncomputable def Tab (H:Hp) (Pt:Addr) (pos:Pos) (qual:Str):Prop:=
 ∃ ps,H Pt=some (.tbl ps)/\(ps=#[]\/∃ c',ps=#[rawInt pos.line,rawInt pos.col,.ref c']/\H c'=some (.ext (wR c' qual)))
noncomputable def gz (Pt:Addr) (H H':Hp):Prop:=∀ b o,b ≠ Pt->H b=some o->H' b=some o
theorem gz.refl (Pt:Addr) (H:Hp):gz Pt H H:=fun _ _ _ h=>h
theorem gz.trans {Pt:Addr} {H H1 H2:Hp} (a:gz Pt H H1) (b:gz Pt H1 H2):gz Pt H H2:=fun c o n h=>b c o n (a c o n h)
theorem Pb.p {Pt:Addr} {H H':Hp} (s:Pb H H'):gz Pt H H':=fun b o _ h=>s b o h
theorem Tab.ne {H:Hp} {Pt b:Addr} {pos:Pos} {qual:Str} {o:HO} (t:Tab H Pt pos qual) (h:H b=some o) (ho:∀ ps,o ≠ .tbl ps):b ≠ Pt:=fun e=>by
 obtain ⟨ps,e1,_⟩:=t;subst e;rw [e1] at h;exact ho ps (Option.some.inj h).symm
theorem Tab.step {H H':Hp} {Pt:Addr} {pos:Pos} {qual:Str} (t:Tab H Pt pos qual) (s:Pb H H'):Tab H' Pt pos qual:=by
 obtain ⟨ps,e,d⟩:=t;refine ⟨ps,s _ _ e,?_⟩;rcases d with d | ⟨c',d,e'⟩
 ·exact .inl d
 ·exact .inr ⟨c',d,s _ _ e'⟩
structure JR (X:Cx) (c Pt:Addr):Prop where
 code:X.env.code=.ref c
 hd:PySem.W.CodeHd X.base c Pt
 bm:X.base.BuiltinsAt X.mg Pt
section
variable {X:Cx} {pins:List (Addr × Obj)} {σ:St} {H:Hp} {s:Shared} {params:Arguments} {body:Expr} {scope:Scope} {pos:Pos} {c Pt:Addr} {clos:List (Str × Addr)} {Q:Value->Shared->Prop}
end
section
variable {P:Program} {w:World} {K:W.Frag} {mg:Str->Option Value} {base:Heap}
end
structure KR (p y:Str) (sc:Scope):Prop where
 kind:sc.kind=.function
 co:sc.isCoroutine=false
 gen:sc.isGenerator=false
 ne:p ≠ y
 par:sc.names.lookup p=some .local
 yf:sc.names.lookup y=some .free
 nocell:∀ z ∈ sc.names,z.2 ≠ .cell
 one:∀ z ∈ sc.names,z.2=.free->z.1=y
section
variable {X:Cx} {pins:List (Addr × Obj)} {σ:St} {H:Hp} {s:Shared} {k:Nat} {f c' cl:Addr} {q p y:Str} {params:Arguments} {body:Expr} {scope:Scope} {v:V} {t:TE}
end
end L2
namespace L2
open PySem PySem.Spec PyProof.Rows
end L2
namespace L2
open PySem PySem.Spec PyProof.Rows
section
variable {P:Program} {w:World} {A:Around} {E:Value->Shared->Prop} {s:Shared}
structure GR (h:Heap) (d:Addr) (o:Obj) (es:Array DictEntry) (ep:Nat):Prop where
 at_:h.get? d=some o
 ex:o.ExactDict
 dat:o.data=.dict es ep
end
noncomputable def AtO (a:Addr) (o:Obj):Heap->Prop:=fun h=>h.get? a=some o
structure FR (P:Program) (w:World) (H:Hp) (a:Addr) (kvs:List (List Key × V)) (o:Obj) (es:Array DictEntry) (ep:Nat) (xs:List (List Key × Addr × Value)):Prop where
 at_:H a=some (.ext (AtO a o))
 ex:o.ExactDict
 dat:o.data=.dict es ep
 ent:es.toList=xs.map (entryOfKey (tupleKind (rf P w)))
 nd:(xs.map (·.1)).Nodup
 ks:Paired (fun (p:List Key × V) (q:List Key × Addr × Value)=>p.1=q.1/\H q.2.1=some (.tup (p.1.map kV))/\ae p.2 q.2.2) kvs xs
 sz:kvs.length <= sizeLine
 ns:(a == sysModules)=false
section
variable {P:Program} {w:World} {H H':Hp} {h:Heap} {a:Addr} {kvs:List (List Key × V)}
end
section
variable {X:Cx} {pins:List (Addr × Obj)} {σ:St} {H:Hp} {s:Shared} {a b:Addr} {kvs:List (List Key × V)} {k:List Key} {v:V} {r:Value} {A:Around} {E:Value->Shared->Prop}
end
section
variable {X:Cx} {o i e value:Expr} {pos pos' tpos:Pos} {td ty tv:TE}
end
section
variable {X:Cx} {tg:Expr}
end
end L2
namespace L2
open PySem PySem.Spec PyProof.Rows
noncomputable def GQ (p d:Addr):Heap->Prop:=fun h=>h.IsItemsView p d
theorem GQ.ok {P:Program} {w:World} {H:Hp} {h:Heap} {p d:Addr} (z:GQ p d h):Sd P w H h p (.ext (GQ p d)):=
 ⟨z,let ⟨o,ho,_⟩:=z;⟨o,ho⟩,fun _ _ z1 k=>let ⟨o,ho,x⟩:=z1;⟨o,k o ho,x⟩⟩
structure mQ (H H':Hp) (l:Addr) (as:List Addr) (kvs:List (Key × V)):Prop where
 same:∀ b o,H b=some o->H' b=some o
 fresh:H l=none
 frAll:∀ a ∈ as,H a=none
 at_:H' l=some (.lst (as.map V.ref))
 len:as.length=kvs.length
 al:∀ (j:Nat) (a:Addr) (q:Key × V),as[j]? = some a->kvs[j]? = some q->H' a=some (.tup [kV q.1,q.2])
 only:∀ b o,H' b=some o->H b=some o\/o=.lst (as.map V.ref)\/∃ q ∈ kvs,o=.tup [kV q.1,q.2]
section
variable {X:Cx}
end
end L2
namespace L2
open PySem PySem.Spec PyProof.Rows
section
open AutoSeq1 (wpAny_loadPart')
open MeetsSeq MeetsSeq2 MeetsSeq3 SeqRoads2
variable {P:Program} {w:World} {l b:Addr} {xs ys:Array Value} {n m:Nat} {dd de:Option Addr} {sl sm:Array (Option Value)}
end
section
variable {X:Cx} {pins:List (Addr × Obj)} {σ:St} {H:Hp} {s:Shared}
structure DL (H:Hp) (p:Addr) (ps:List Addr) (ks:List (List (Key × V))):Prop where
 at_:H p=some (.lst (ps.map V.ref))
 len:ps.length=ks.length
 al:∀ (j:Nat) (a:Addr) (kvs:List (Key × V)),ps[j]? = some a->ks[j]? = some kvs->H a=some (.dK kvs)
end
section
variable {X:Cx}
end
end L2
namespace L2
open PySem PySem.Spec PyProof.Rows
section
variable {X:Cx} {pins:List (Addr × Obj)} {σ:St} {H:Hp} {s:Shared} {d:Addr} {o:Obj} {kvs:List (Key × V)}
end
section
variable {X:Cx} {tg:Expr}
end
end L2
namespace L2
open PySem PySem.Spec PyProof.Rows
theorem QM (i:Nat) (σ:St) (H:Hp) (Q:VK):tQ i σ H Q=(∃ v,σ[i]? = some (some v)/\Q v H):=rfl
theorem uQ (v:V) (x_0:St) (H:Hp) (Q:VK):tC v x_0 H Q=(Q v H):=rfl
theorem VP (t:TE) (σ:St) (H:Hp) (Q:(Bool->Hp->Prop)):tB t σ H Q=(t σ H fun x H1=>∃ c,x=.bl c/\Q c H1):=rfl
theorem YL (t u:TT) (σ:St) (H:Hp) (Q:(Bool->Hp->Prop)):RQ t u σ H Q=(t σ H fun c H1=>if c=true then u σ H1 Q else Q false H1):=rfl
theorem JO (t u:TT) (σ:St) (H:Hp) (Q:(Bool->Hp->Prop)):tOr t u σ H Q=(t σ H fun c H1=>if c=true then Q true H1 else u σ H1 Q):=rfl
theorem oM (t:TT) (σ:St) (H:Hp) (Q:(Bool->Hp->Prop)):gR t σ H Q=(t σ H fun c H1=>Q (!c) H1):=rfl
theorem QI (ta tb:TE) (σ:St) (H:Hp) (Q:VK):lN ta tb σ H Q=(ta σ H fun x H1=>∃ c,x=.bl c/\if c=true then tb σ H1 Q else Q (.bl false) H1):=rfl
theorem gL (ta tb:TE) (σ:St) (H:Hp) (Q:VK):fR ta tb σ H Q=(ta σ H fun x H1=>∃ c,x=.bl c/\if c=true then Q (.bl true) H1 else tb σ H1 Q):=rfl
theorem pP (t:TT) (ta tb:TE) (σ:St) (H:Hp) (Q:VK):tIf t ta tb σ H Q=(t σ H fun c H1=>if c=true then ta σ H1 Q else tb σ H1 Q):=rfl
theorem oh (D:Li) (σ:St) (H:Hp):RN  D σ H=(D.nx σ H):=rfl
theorem Mb (t u:TS) (D:Li) (σ:St) (H:Hp):kR t u D σ H=(t { D with nx:=u D } σ H):=rfl
theorem wD (D:Li) (σ:St) (H:Hp):bK  D σ H=(D.bk σ H):=rfl
theorem zH (te:TE) (D:Li) (σ:St) (H:Hp):pO te D σ H=(te σ H fun _ H1=>D.nx σ H1):=rfl
theorem CM (te:TE) (D:Li) (σ:St) (H:Hp):dQ te D σ H=(te σ H D.rt):=rfl
theorem lG (x_0:Li) (x_1:St) (x_2:Hp):pJ  x_0 x_1 x_2=(False):=rfl
theorem yg (i:Nat) (v:V) (σ:St) (H:Hp) (Q:(St->Hp->Prop)):Mw i v σ H Q=(Q (σ.set i (some v)) H):=rfl
theorem aM (vs:List V) (σ:St) (H:Hp) (Q:(St->Hp->Prop)):RP  vs σ H Q=(vs=[]/\Q σ H):=rfl
theorem wH (t:TG) (u:TGs) (vs:List V) (σ:St) (H:Hp) (Q:(St->Hp->Prop)):LB t u vs σ H Q=(∃ v r,vs=v :: r/\t v σ H fun σ' H'=>u r σ' H' Q):=rfl
theorem GL (K:W.Frag) (n:Nat) (t:TGs) (v:V) (σ:St) (H:Hp) (Q:(St->Hp->Prop)):KN K n t v σ H Q=(∃ a xs,v=.ref a/\SqT K H a xs/\xs.length=n/\t xs σ H Q):=rfl
theorem FM (to ti:TE) (t:OP) (v:V) (σ:St) (H:Hp) (Q:(St->Hp->Prop)):MQ to ti t v σ H Q=(to σ H fun o H1=>ti σ H1 fun i H2=>t o i v H2 fun H3=>Q σ H3):=rfl
theorem wM (te:TE) (g:TG) (D:Li) (σ:St) (H:Hp):NP te g D σ H=(te σ H fun x H1=>g x σ H1 D.nx):=rfl
theorem kI (K:W.Frag) (tl:TE) (σ:St) (H:Hp) (R:(It->Hp->Prop)):sO K tl σ H R=(tl σ H fun x H1=>∃ a,x=.ref a/\(∃ xs,SqL K H1 a xs)/\R (Itl K a) H1):=rfl
theorem zL (K:W.Frag) (tl:TE) (σ:St) (H:Hp) (R:(It->Hp->Prop)):ZQ K tl σ H R=(tl σ H fun x H1=>∃ a,x=.ref a/\(∃ xs,SqT K H1 a xs)/\R (Itt K a) H1):=rfl
theorem SN (r:R2) (ta tb:TE) (σ:St) (H:Hp) (Q:VK):tOp r ta tb σ H Q=(ta σ H fun x H1=>tb σ H1 fun y H2=>r x y H2 Q):=rfl
theorem oN (r:V->Hp->VK->Prop) (ta:TE) (σ:St) (H:Hp) (Q:VK):tUn r ta σ H Q=(ta σ H fun x H1=>r x H1 Q):=rfl
theorem nQ (C:Int->Int->Prop) (g:Int->Int->V) (x:V) (y:V) (H:Hp) (Q:VK):rI C g x y H Q=(∃ i j,x=.int i/\y=.int j/\C i j/\Q (g i j) H):=rfl
theorem zN (g:Int->Int->V) (x:V) (y:V) (H:Hp) (Q:VK):rI0 g x y H Q=(∃ i j,x=.int i/\y=.int j/\Q (g i j) H):=rfl
theorem qQ (g:Int->V) (x:V) (H:Hp) (Q:VK):rU g x H Q=(∃ i,x=.int i/\Q (g i) H):=rfl
theorem yN (x:V) (y:V) (H:Hp) (Q:VK):rEq  x y H Q=(OO x y=true/\Q (.bl (decide (x=y))) H):=rfl
theorem kN (x:V) (y:V) (H:Hp) (Q:VK):rNe  x y H Q=(OO x y=true/\Q (.bl (!decide (x=y))) H):=rfl
theorem UH (t:TE) (σ:St) (H:Hp) (Q:(Bool->Hp->Prop)):nP t σ H Q=(t σ H fun x H'=>∃ k,x=.bl k/\Q k H'):=rfl
theorem jM (K:W.Frag) (ta tv:TE) (f:Str) (D:Li) (σ:St) (H:Hp):oR K ta tv f D σ H=(tv σ H fun y H1=>ta σ H1 fun x H2=>∃ a C dx fs,x=.ref a/\H2 a=some (.ins C dx fs)/\Cls K C/\Ib K C f/\fs.length < 1000 /\
 D.nx σ (upd H2 a (.ins C dx (lh f y fs)))):=rfl
theorem oC (K:W.Frag) (ta tv:TE) (rd:V->V->Hp->VK->Prop) (f:Str) (D:Li) (σ:St) (H:Hp):FF K ta tv rd f D σ H=(ta σ H fun x H1=>∃ a C dx fs v,x=.ref a/\H1 a=some (.ins C dx fs)/\Cls K C/\Ib K C f/\fs.lookup f=some v /\
 tv σ H1 fun y H2=>rd v y H2 fun z H3=>∃ dx' fs',H3 a=some (.ins C dx' fs')/\fs'.length < 1000/\D.nx σ (upd H3 a (.ins C dx' (lh f z fs')))):=rfl
theorem FL (x:V) (y:V) (H:Hp) (Q:VK):rR  x y H Q=(∃ i j,x=.int i/\y=.int j/\Q (.int (i + j)) H):=rfl
theorem fM (x_0:St) (H:Hp) (Q:(List V->Hp->Prop)):UP  x_0 H Q=(Q [] H):=rfl
theorem BH (ta:TE) (tr:TA) (σ:St) (H:Hp) (Q:(List V->Hp->Prop)):oO ta tr σ H Q=(ta σ H fun x H1=>tr σ H1 fun xs H2=>Q (x :: xs) H2):=rfl
theorem pM (t:TA) (σ:St) (H:Hp) (Q:VK):lR t σ H Q=(t σ H fun xs H1=>xs.length <= sizeLine/\∀ p,H1 p=none->Q (.ref p) (upd H1 p (.tup xs))):=rfl
theorem MK (t:TA) (σ:St) (H:Hp) (Q:VK):tR t σ H Q=(t σ H fun xs H1=>xs.length <= sizeLine/\∀ p,H1 p=none->Q (.ref p) (upd H1 p (.lst xs))):=rfl
theorem CH (sp:Sp) (dvs:List V) (E:XK) (t:TA) (σ:St) (H:Hp) (Q:VK):rL sp dvs E t σ H Q=(t σ H fun vs H1=>sp (vs ++ dvs) H1 Q E):=rfl
theorem SH (C:Addr) (m:Str) (sp:Sp) (dvs:List V) (E:XK) (ta:TE) (t:TA) (σ:St) (H:Hp) (Q:VK):UM C m sp dvs E ta t σ H Q=(ta σ H fun x H1=>∃ a dx fs,x=.ref a/\H1 a=some (.ins C dx fs)/\fs.lookup m=none /\
 t σ H1 fun vs H2=>sp (x :: (vs ++ dvs)) H2 Q E):=rfl
theorem II (C:Addr) (sp:Sp) (dvs:List V) (E:XK) (t:TA) (σ:St) (H:Hp) (Q:VK):IN C sp dvs E t σ H Q=(t σ H fun vs H1=>∀ x dx,H1 x=none->H1 dx=none->dx ≠ x ->
 sp (.ref x :: (vs ++ dvs)) (upd (upd H1 dx (.own x)) x (.ins C dx [])) (fun v H2=>v=.non/\Q (.ref x) H2) E):=rfl
theorem uN (r:List V->Hp->VK->Prop) (t:TA) (σ:St) (H:Hp) (Q:VK):tCB r t σ H Q=(t σ H fun vs H1=>r vs H1 Q):=rfl
theorem uC (x_0:St) (H:Hp) (Q:(Option Int->Hp->Prop)):ED  x_0 H Q=(Q none H):=rfl
theorem pH (t:TE) (σ:St) (H:Hp) (Q:(Option Int->Hp->Prop)):CO t σ H Q=(t σ H fun x H1=>∃ i,x=.int i/\Q (some i) H1):=rfl
theorem oP (r:V->Option Int->Option Int->Hp->VK->Prop) (te:TE) (tl th:TO) (σ:St) (H:Hp) (Q:VK):tSl r te tl th σ H Q=(te σ H fun x H1=>tl σ H1 fun l H2=>th σ H2 fun u H3=>r x l u H3 Q):=rfl
theorem IL (K:W.Frag) (x:V) (lo:Option Int) (hi:Option Int) (H:Hp) (Q:VK):eR K x lo hi H Q=(∃ a xs,x=.ref a/\SqT K H a xs /\
 ¬ (HT.sIx xs.length 0 lo=0/\HT.sIx xs.length xs.length hi=xs.length)/\∀ p,H p=none->Q (.ref p) (upd H p (.tup (JC xs lo hi)))):=rfl
theorem pI (K:W.Frag) (x:V) (y:V) (H:Hp) (Q:VK):kP K x y H Q=(∃ a b xs ys,x=.ref a/\y=.ref b/\SqT K H a xs/\SqT K H b ys/\xs ≠ []/\xs.length + ys.length <= sizeLine /\
 (ys=[]->Q (.ref a) H)/\(ys ≠ []->∀ p,H p=none->Q (.ref p) (upd H p (.tup (xs ++ ys))))):=rfl
theorem VM (K:W.Frag) (x:V) (y:V) (H:Hp) (Q:VK):iR K x y H Q=(∃ p xs i v,x=.ref p/\y=.int i/\SqL K H p xs/\atI xs i=some v/\Q v H):=rfl
theorem aN (K:W.Frag) (x:V) (y:V) (H:Hp) (Q:VK):nR K x y H Q=(∃ p xs i v,x=.ref p/\y=.int i/\SqT K H p xs/\atI xs i=some v/\Q v H):=rfl
theorem kL (x:V) (y:V) (H:Hp) (Q:VK):YQ  x y H Q=(∃ z i c,x=.str z/\y=.int i/\z.length <= sizeLine/\atI z.cps.toList i=some c/\Q (.str ⟨#[c]⟩) H):=rfl
theorem sI (o:V) (i:V) (v:V) (H:Hp) (Q:(Hp->Prop)):dO  o i v H Q=(∃ p xs k j,o=.ref p/\i=.int k/\H p=some (.lst xs)/\ixN xs.length k=some j/\Q (upd H p (.lst (xs.set j v)))):=rfl
theorem KL (K:W.Frag) (x:V) (lo:Option Int) (hi:Option Int) (H:Hp) (Q:VK):OQ K x lo hi H Q=(∃ a xs,x=.ref a/\SqL K H a xs/\∀ p,H p=none->Q (.ref p) (upd H p (.lst (JC xs lo hi)))):=rfl
theorem yO (K:W.Frag) (neg:Bool) (x:V) (y:V) (H:Hp) (Q:VK):rIn K neg x y H Q=(∃ p xs,y=.ref p/\(SqL K H p xs\/SqT K H p xs)/\nk x=true/\xs.all nk=true/\Q (.bl (if neg then !inV x xs else inV x xs)) H):=rfl
theorem VL (K:W.Frag) (T:String) (r:V->List V->Hp->VK->Prop) (to:TE) (σ:St) (H:Hp) (Q:VK):WQ K T r to σ H Q=(to σ H fun x H1=>tyV K T x H1/\r x [] H1 Q):=rfl
theorem DN (K:W.Frag) (T:String) (r:V->List V->Hp->VK->Prop) (to:TE) (t:TA) (σ:St) (H:Hp) (Q:VK):tBM K T r to t σ H Q=(to σ H fun x H1=>tyV K T x H1/\t σ H1 fun xs H2=>r x xs H2 Q):=rfl
theorem pC (x:V) (vs:List V) (H:Hp) (Q:VK):HF  x vs H Q=(∃ l xs y,x=.ref l/\vs=[y]/\H l=some (.lst xs)/\xs.length < sizeLine/\Q .non (upd H l (.lst (xs ++ [y])))):=rfl
theorem EE (x:V) (vs:List V) (H:Hp) (Q:VK):qK  x vs H Q=(∃ l xs i k y,x=.ref l/\vs=[.int i]/\H l=some (.lst xs)/\-(2 ^ 63) <= i/\i < 2 ^ 63/\seqIndex? i xs.length=some k/\xs[k]? = some y/\Q y (upd H l (.lst (xs.eraseIdx k)))):=rfl
theorem nD (x:V) (vs:List V) (H:Hp) (Q:VK):DK  x vs H Q=(∃ l xs,x=.ref l/\vs=[]/\H l=some (.lst xs)/\Q .non (upd H l (.lst []))):=rfl
theorem CL (x:V) (y:V) (H:Hp) (Q:VK):NQ  x y H Q=(∃ l b xs zs,x=.ref l/\y=.ref b/\H l=some (.lst xs)/\H b=some (.lst zs)/\xs.length + zs.length <= sizeLine/\∀ p,H p=none->Q (.ref p) (upd H p (.lst (xs ++ zs)))):=rfl
theorem nI (td ty:TE) (σ:St) (H:Hp) (Q:VK):NN td ty σ H Q=(td σ H fun x H1=>ty σ H1 fun y H2=>∃ a v,x=.ref a/\Is H2 a y (some v)/\Q v H2):=rfl
theorem QB (ty td:TE) (σ:St) (H:Hp) (Q:VK):OE ty td σ H Q=(ty σ H fun y H1=>td σ H1 fun x H2=>∃ a o,x=.ref a/\Is H2 a y o/\Q (.bl (!o.isSome)) H2):=rfl
theorem xI (td ty tv:TE) (D:Li) (σ:St) (H:Hp):eO td ty tv D σ H=(tv σ H fun v H1=>td σ H1 fun x H2=>ty σ H2 fun y H3=>∃ a H4,x=.ref a/\ZF H3 a y v H4/\D.nx σ H4):=rfl
theorem YF (x_0:St) (H:Hp) (Q:VK):HK  x_0 H Q=(∀ p,H p=none->Q (.ref p) (upd H p (.dK []))):=rfl
theorem sH (x_0:St) (H:Hp) (Q:(Bool->Hp->Prop)):Iy  x_0 H Q=(Q true H):=rfl
theorem aL (tl:TE) (σ:St) (H:Hp) (R:(It->Hp->Prop)):SQ tl σ H R=(tl σ H fun x H1=>∃ z,x=.str z/\R (Its (fk z)) H1):=rfl
theorem LM (x:V) (lo:Option Int) (hi:Option Int) (H:Hp) (Q:VK):QQ  x lo hi H Q=(∃ z,x=.str z/\z.length <= sizeLine/\Q (.str (Txt.slice z lo hi)) H):=rfl
theorem NI (K:W.Frag) (x:V) (vs:List V) (H:Hp) (Q:VK):YO K x vs H Q=(∃ sep p ys,x=.str sep/\vs=[.ref p]/\SqL K H p (Jb ys)/\(ys.map (·.length)).sum + ys.length * sep.length <= 16777216/\Q (.str (Txt.join sep ys)) H):=rfl
theorem cE (x:V) (vs:List V) (H:Hp) (Q:VK):AJ  x vs H Q=(∃ z y,x=.str z/\vs=[.str y]/\y.length ≠ 0/\z.length + 2 <= sizeLine/\(Txt.split z y).length <= sizeLine/\∀ p,H p=none->Q (.ref p) (upd H p (.lst (Jb (Txt.split z y))))):=rfl
theorem PD (OK:Addr->Prop) (m:Str) (SPV:Addr->Sp) (E:XK) (ta:TE) (t:TA) (σ:St) (H:Hp) (Q:VK):GJ OK m SPV E ta t σ H Q=(ta σ H fun x H1=>∃ a C dx fs,x=.ref a/\H1 a=some (.ins C dx fs)/\OK C/\fs.lookup m=none /\
 t σ H1 fun vs H2=>SPV C (x :: vs) H2 Q E):=rfl
theorem ZG (K:W.Frag) (ta:TA) (σ:St) (H:Hp) (R:(It->Hp->Prop)):QO K ta σ H R=(ta σ H fun vs H1=>∃ a,vs=[.ref a]/\(∃ xs,SqL K H1 a xs)/\R (Ite K a) H1):=rfl
theorem YM (K:W.Frag) (x:V) (y:V) (H:Hp) (Q:VK):aR K x y H Q=(∃ p q b,x=.ref p/\y=.ref q/\EqH K H 8 (.ref p) (.ref q) b/\Q (.bl (!b)) H):=rfl
theorem SO (x_0:St) (H:Hp) (Q:(Hp->Prop)):tJ0  x_0 H Q=(Q H):=rfl
theorem qP (te:TE) (t:TJ) (σ:St) (H:Hp) (Q:(Hp->Prop)):tJI te t σ H Q=(te σ H fun v H1=>∃ i,v=.int i/\i.natAbs.log2 < 1920/\t σ H1 Q):=rfl
theorem HP (te:TE) (t:TJ) (σ:St) (H:Hp) (Q:(Hp->Prop)):tJR te t σ H Q=(te σ H fun v H1=>∃ x,v=.str x/\x.length <= 1000/\(∀ c ∈ x.cps.toList,c < 16 ^ 8)/\t σ H1 Q):=rfl
theorem YB (t:TJ) (σ:St) (H:Hp) (Q:VK):mE t σ H Q=(t σ H fun H1=>∀ y:Str,Q (.str y) H1):=rfl
theorem uD (K:W.Frag) (t:TA) (σ:St) (H:Hp) (Q:VK):CJ K t σ H Q=(t σ H fun vs H1=>∃ x C od v,vs=[.ref x,v]/\H1 x=some (.ext (XF x C od))/\Ss K C/\Q .non H1):=rfl
theorem GE (C:Addr) (sp:Sp) (t:TA) (σ:St) (H:Hp) (Q:VK):zK C sp t σ H Q=(t σ H fun vs H1=>vs.length <= sizeLine/\∀ x,H1 x=none->sp (.ref x :: vs) (upd H1 x (.ext (XF x C none))) (fun v H2=>v=.non/\Q (.ref x) H2) (fun _ _ _=>False)):=rfl
theorem rD (K:W.Frag) (ta tv:TE) (f:Str) (D:Li) (σ:St) (H:Hp):rK K ta tv f D σ H=(tv σ H fun y H1=>ta σ H1 fun x H2=>∃ a C,x=.ref a/\H2 a=some (.ext (XF a C none))/\Ss K C/\Ib K C f /\
 ∀ dx,H2 dx=none->dx ≠ a->D.nx σ (upd (upd H2 a (.ext (XF a C (some dx)))) dx (.ext (XD dx [(f,y)])))):=rfl
theorem dG (K:W.Frag) (ta tv:TE) (f:Str) (D:Li) (σ:St) (H:Hp):uK K ta tv f D σ H=(tv σ H fun y H1=>ta σ H1 fun x H2=>∃ a C dx fs,x=.ref a/\H2 a=some (.ext (XF a C (some dx)))/\H2 dx=some (.ext (XD dx fs))/\Ss K C/\Ib K C f/\fs.length < 1000 /\
 D.nx σ (upd H2 dx (.ext (XD dx (lh f y fs))))):=rfl
theorem ZH (K:W.Frag) (ta:TE) (f:Str) (σ:St) (H:Hp) (Q:VK):wO K ta f σ H Q=(ta σ H fun x H1=>∃ a C dx fs v,x=.ref a/\H1 a=some (.ext (XA a C (some dx)))/\H1 dx=some (.ext (XD dx fs))/\Ss K C/\Ib K C f/\fs.lookup f=some v/\Q v H1):=rfl
theorem IE (sp:Sp) (dvs:List V) (E:St->XK) (t:TA) (σ:St) (H:Hp) (Q:VK):MJ sp dvs E t σ H Q=(t σ H fun vs H1=>sp (vs ++ dvs) H1 Q (E σ)):=rfl
theorem kF (K:W.Frag) (E:St->XK) (te:TE) (D:Li) (σ:St) (H:Hp):BJ K E te D σ H=(te σ H fun v H1=>∃ x C od,v=.ref x/\H1 x=some (.ext (XF x C od))/\Ss K C/\E σ (.ref C) od (upd H1 x (.ext (XA x C od)))):=rfl
theorem JI (ta:TA) (σ:St) (H:Hp) (R:(It->Hp->Prop)):eP ta σ H R=(ta σ H fun vs H1=>∃ i j:Int,vs=[.int i,.int j,.int (-1)]/\(-1073741824 <= i/\i < 1073741824/\-1073741824 <= j/\j < 1073741824)/\R (Itd i (i - j).toNat) H1):=rfl
theorem Uz (K:W.Frag) (ta:TA) (σ:St) (H:Hp) (Q:VK):DB K ta σ H Q=(ta σ H fun vs H1=>∃ a xs,vs=[.ref a]/\SqL K H1 a xs/\∀ l,H1 l=none->Q (.ref l) (upd H1 l (.lst xs.reverse))):=rfl
theorem YH (K:W.Frag) (ta:TA) (td:TE) (σ:St) (H:Hp) (Q:VK):BP K ta td σ H Q=(ta σ H fun vs H1=>td σ H1 fun y H2=>∃ l ks,vs=[.ref l]/\SqL K H2 l (List.map V.int ks)/\Q (match ks.min? with | some m=>.int m | none=>y) H2):=rfl
theorem BL (K:W.Frag) (neg:Bool) (x:V) (y:V) (H:Hp) (Q:VK):PQ K neg x y H Q=(∃ p qs f,y=.ref p/\SqL K H p (List.map V.ref qs)/\(∀ q ∈ qs,EqH K H 8 (.ref q) x (f q))/\Q (.bl (if neg then !(qs.any f) else qs.any f)) H):=rfl
theorem EI (x:V) (vs:List V) (H:Hp) (Q:VK):Ct  x vs H Q=(∃ d kvs,x=.ref d/\vs=[]/\H d=some (.dK kvs)/\∀ p,H p=none->Q (.ref p) (upd H p (.ext (jO p d)))):=rfl
theorem gP (x_0:St) (H:Hp) (acc:Str) (Q:(Str->Hp->Prop)):tF0  x_0 H acc Q=(acc.length <= sizeLine/\Q acc H):=rfl
theorem vP (c:Str) (t:TF) (σ:St) (H:Hp) (acc:Str) (Q:(Str->Hp->Prop)):tFC c t σ H acc Q=(acc.length + c.length <= sizeLine/\t σ H (acc ++ c) Q):=rfl
theorem tN (te:TE) (t:TF) (σ:St) (H:Hp) (acc:Str) (Q:(Str->Hp->Prop)):tFI te t σ H acc Q=(te σ H fun v H1=>∃ i,v=.int i/\i.natAbs.log2 < 1920/\acc.length + (Str.ofString (toString i)).length <= sizeLine/\t σ H1 (acc ++ Str.ofString (toString i)) Q):=rfl
theorem WN (te:TE) (t:TF) (σ:St) (H:Hp) (acc:Str) (Q:(Str->Hp->Prop)):tFS te t σ H acc Q=(te σ H fun v H1=>∃ x,v=.str x/\x.length <= 1000/\acc.length + x.length <= sizeLine/\t σ H1 (acc ++ x) Q):=rfl
theorem OF (t:TF) (σ:St) (H:Hp) (Q:VK):wJ t σ H Q=(t σ H Str.empty fun y H1=>Q (.str y) H1):=rfl
noncomputable def Qh (J:It) (g:TG) (tb:TS) (D:Li) (σ:St) (H:Hp):Prop:=∃ W:Nat->Nat->St->Hp->Prop,(∃ m,W 0 m σ H)/\∀ i m σ H,W i m σ H ->
 (J.stop i H/\D.nx σ H)\/(J.go i H/\∃ N:St->Hp->Prop,(∀ σ' H',N σ' H'->∃ m',m' < m/\W (i + 1) m' σ' H')/\∀ x H',J.yld i H x H'->g x σ H' fun σ2 H2=>tb { D with nx:=N,ct:=N,bk:=D.nx } σ2 H2)
theorem JL (wi:TI) (g:TG) (tb:TS) (D:Li) (σ:St) (H:Hp):pR wi g tb D σ H=wi σ H fun J H1=>Qh J g tb D σ H1:=rfl
noncomputable def fe (J:It) (g:TG) (tc:TT) (te:TE) (σb:St) (Q:VK) (H:Hp):Prop:=∃ W:Nat->Nat->List V->Hp->Prop,(∃ m,W 0 m [] H)/\oz J g tc te σb Q W
theorem sM (K:W.Frag) (ta:TE) (f:Str) (σ:St) (H:Hp) (Q:VK):oQ K ta f σ H Q=(ta σ H fun x H1=>∃ a v,x=.ref a/\Qi K H1 a f v/\Q v H1):=by
 unfold oQ Qi;congr 1;funext x H1;apply propext;constructor
 ·rintro ⟨a,C,dx,fs,v,h1,h2,h3,h4,h5,h6⟩;exact ⟨a,v,h1,⟨C,dx,fs,h2,h3,h4,h5⟩,h6⟩
 ·rintro ⟨a,v,h1,⟨C,dx,fs,h2,h3,h4,h5⟩,h6⟩;exact ⟨a,C,dx,fs,v,h1,h2,h3,h4,h5,h6⟩
theorem gJ (wi:TI) (g:TG) (tc:TT) (te:TE) (sel:List (Option Nat)) (σ:St) (H:Hp) (Q:VK):mL wi g tc te sel σ H Q=wi σ H fun J H1=>fe J g tc te (blk sel σ) Q H1:=rfl
theorem JH (ta:TA) (σ:St) (H:Hp) (R:It->Hp->Prop):iO ta σ H R=(ta σ H fun vs H1=>∃ j:Int,vs=[.int j]/\-4611686018427387904 <= j/\j < 4611686018427387904/\R (Itr 0 j.toNat) H1):=rfl
theorem wL (sel:List (Option Nat)) (σ:St):blk sel σ=sel.map fun o=>o.bind fun j=>(σ[j]?).join:=rfl
theorem Pc {c:TT} {t u:TS} {D:Li} {σ:St} {H:Hp} (b:Bool) (hc:∀ Q:Bool->Hp->Prop,Q b H->c σ H Q) (h1:b=true->t D σ H) (h2:b=false->u D σ H):aQ c t u D σ H:=by
 refine hc _ ?_;cases b with
 | true=>exact h1 rfl
 | false=>exact h2 rfl
theorem Uh {c:TT} {t u:TS} {D:Li} {σ:St} {H:Hp} (R:Bool->Hp->Prop) (hc:∀ Q:Bool->Hp->Prop,(∀ b H',R b H'->Q b H')->c σ H Q) (h1:∀ H',R true H'->t D σ H') (h2:∀ H',R false H'->u D σ H'):aQ c t u D σ H:=by
 refine hc _ fun b H' r=>?_
 cases b with
 | true=>exact h1 H' r
 | false=>exact h2 H' r
theorem qc {t:TS} {D:Li} {σ:St} {H:Hp} (R:St->Hp->Prop) (h:∀ D':Li,(∀ σ H,R σ H->D'.nx σ H)->D'.rt=D.rt->D'.bk=D.bk->D'.ct=D.ct->t D' σ H) (hR:∀ σ H,R σ H->D.nx σ H):t D σ H:=h D hR rfl rfl rfl
theorem zzC {t:TS} {D:Li} {σ:St} {H:Hp} (R:St->Hp->Prop) (h:∀ D':Li,(∀ σ H,R σ H->D'.nx σ H)->t D' σ H) (hR:∀ M,M=D.nx->∀ σ H,R σ H->M σ H):t D σ H:=h D (hR _ rfl)
theorem zzP {p:Prop} (h:∀ q,q=p->q):p:=h p rfl
theorem zzD {t:TS} {D:Li} {σ:St} {H:Hp} (R:St->Hp->Prop) (h:∀ D':Li,(∀ σ H,R σ H->D'.nx σ H)->t D' σ H) (hR:∀ σ H,R σ H->D.nx σ H):t D σ H:=h D hR
theorem zS {t u:TS} {D:Li} {σ:St} {H:Hp} (R:St->Hp->Prop) (h:∀ D':Li,(∀ σ H,R σ H->D'.nx σ H)->t D' σ H) (hR:∀ M,M=u D->∀ σ H,R σ H->M σ H):kR t u D σ H:=h { D with nx:=u D } (hR _ rfl)
theorem uM {te:TE} {D:Li} {σ:St} {H:Hp} (v:V) (hc:∀ Q:VK,Q v H->te σ H Q) (h:D.rt v H):dQ te D σ H:=hc _ h
theorem Fd (x y:Str):(x ++ y).length=x.length + y.length:=by
 show (x.cps ++ y.cps).size=_;rw [Array.size_append];rfl
theorem Qh.range {lo:Int} {n:Nat} {g:TG} {tb:TS} {D:Li} {σ:St} {H:Hp} (Pv:Nat->St->Hp->Prop) (h0:Pv 0 σ H)
  (hs:∀ i σ H,i < n->Pv i σ H->g (.int (lo + i)) σ H fun σ2 H2=>tb { D with nx:=Pv (i + 1),ct:=Pv (i + 1),bk:=D.nx } σ2 H2) (hd:∀ σ H,Pv n σ H->D.nx σ H):Qh (Itr lo n) g tb D σ H:=wE Pv h0 hs hd
theorem Qh.list {K:W.Frag} {a:Addr} {xs:List V} {g:TG} {tb:TS} {D:Li} {σ:St} {H:Hp} (Pv:Nat->St->Hp->Prop) (h0:Pv 0 σ H) (hl:∀ i σ H,i <= xs.length->Pv i σ H->SqL K H a xs)
  (hs:∀ i x σ H,xs[i]? = some x->Pv i σ H->g x σ H fun σ2 H2=>tb { D with nx:=Pv (i + 1),ct:=Pv (i + 1),bk:=D.nx } σ2 H2) (hd:∀ σ H,Pv xs.length σ H->D.nx σ H):Qh (Itl K a) g tb D σ H:=vH Pv h0 hl hs hd
theorem Qh.its {xs:List V} {g:TG} {tb:TS} {D:Li} {σ:St} {H:Hp} (Pv:Nat->St->Hp->Prop) (h0:Pv 0 σ H)
  (hs:∀ i x σ H,xs[i]? = some x->Pv i σ H->g x σ H fun σ2 H2=>tb { D with nx:=Pv (i + 1),ct:=Pv (i + 1),bk:=D.nx } σ2 H2) (hd:∀ σ H,Pv xs.length σ H->D.nx σ H):Qh (Its xs) g tb D σ H:=BM Pv h0 hs hd
theorem fe.list {K:W.Frag} {a:Addr} {xs:List V} {g:TG} {tc:TT} {te:TE} {σb:St} {Q:VK} {H:Hp} (Pv:Nat->List V->Hp->Prop) (hz:xs.length <= sizeLine) (h0:Pv 0 [] H) (hl:∀ i ys H,i <= xs.length->Pv i ys H->SqL K H a xs/\ys.length <= i)
  (hs:∀ i x ys H,xs[i]? = some x->Pv i ys H->fh Pv g tc te σb i x ys H) (hd:∀ ys H,Pv xs.length ys H->∀ p,H p=none->Q (.ref p) (upd H p (.lst ys))):fe (Itl K a) g tc te σb Q H:=eE Pv hz h0 hl hs hd
theorem fe.its {xs:List V} {g:TG} {tc:TT} {te:TE} {σb:St} {Q:VK} {H:Hp} (Pv:Nat->List V->Hp->Prop) (hz:xs.length <= sizeLine) (h0:Pv 0 [] H) (hl:∀ i ys H,i <= xs.length->Pv i ys H->ys.length <= i)
  (hs:∀ i x ys H,xs[i]? = some x->Pv i ys H->fh Pv g tc te σb i x ys H) (hd:∀ ys H,Pv xs.length ys H->∀ p,H p=none->Q (.ref p) (upd H p (.lst ys))):fe (Its xs) g tc te σb Q H:=kJ Pv hz h0 hl hs hd
theorem fe.range {lo:Int} {n:Nat} {g:TG} {tc:TT} {te:TE} {σb:St} {Q:VK} {H:Hp} (Pv:Nat->List V->Hp->Prop) (hz:n <= sizeLine) (h0:Pv 0 [] H) (hl:∀ i ys H,i <= n->Pv i ys H->ys.length <= i)
  (hs:∀ i ys H,i < n->Pv i ys H->fh Pv g tc te σb i (.int (lo + i)) ys H) (hd:∀ ys H,Pv n ys H->∀ p,H p=none->Q (.ref p) (upd H p (.lst ys))):fe (Itr lo n) g tc te σb Q H:=SB Pv hz h0 hl hs hd
theorem mv {α β:Type} {xs:List α} {i:Nat} {x:α} (f:α->β) (h:xs[i]? = some x):(xs.take (i + 1)).map f=(xs.take i).map f ++ [f x]:=by
 rw [take_add_one,h,map_append];rfl
theorem fe.its_map {xs:List V} {g:TG} {te:TE} {σb:St} {Q:VK} {H:Hp} (f:V->V) (hz:xs.length <= sizeLine) (hs:∀ (i:Nat) (x:V) (N:V->Hp->Prop),xs[i]? = some x->N (f x) H->g x σb H fun σ2 H2=>Sub σb σ2/\te σ2 H2 N)
  (hd:∀ p,H p=none->Q (.ref p) (upd H p (.lst (xs.map f)))):fe (Its xs) g Iy te σb Q H:=by
 refine fe.its (fun i ys H'=>H'=H/\ys=(xs.take i).map f) hz ⟨rfl,rfl⟩ (fun i ys H' hi ⟨_,e⟩=>?_) (fun i x ys H' hx ⟨e1,e2⟩ N hN=>?_) (fun ys H' ⟨e1,e2⟩ p hp=>?_)
 ·rw [e,length_map,length_take];omega
 ·subst e1;exact hs i x (fun y H4=>N (ys ++ [y]) H4) hx (hN _ _ ⟨rfl,by rw [e2,mv f hx]⟩)
 ·subst e1;rw [e2,take_length];exact hd p hp
theorem fe.range_map {lo:Int} {n:Nat} {g:TG} {te:TE} {σb:St} {Q:VK} {H:Hp} (f:Nat->V) (hz:n <= sizeLine) (hs:∀ (i:Nat) (N:V->Hp->Prop),i < n->N (f i) H->g (.int (lo + i)) σb H fun σ2 H2=>Sub σb σ2/\te σ2 H2 N)
  (hd:∀ p,H p=none->Q (.ref p) (upd H p (.lst ((List.range n).map f)))):fe (Itr lo n) g Iy te σb Q H:=by
 refine fe.range (fun i ys H'=>H'=H/\ys=(List.range i).map f) hz ⟨rfl,rfl⟩ (fun i ys H' hi ⟨_,e⟩=>?_) (fun i ys H' hi ⟨e1,e2⟩ N hN=>?_) (fun ys H' ⟨e1,e2⟩ p hp=>?_)
 ·rw [e,length_map,length_range];exact Nat.le_refl _
 ·subst e1;exact hs i (fun y H4=>N (ys ++ [y]) H4) hi (hN _ _ ⟨rfl,by rw [e2,List.range_succ,map_append];rfl⟩)
 ·subst e1;rw [e2];exact hd p hp
theorem fe.list_mk {K:W.Frag} {a:Addr} {xs:List V} {g:TG} {te:TE} {σb:St} {Q:VK} {H:Hp} (f:V->HO) (hl:SqL K H a xs) (hz:xs.length <= sizeLine) (hn:∀ x,noT (f x)=true)
  (hs:∀ (i:Nat) (x:V) (H1:Hp) (N:V->Hp->Prop),xs[i]? = some x->Pb H H1->(NoT H->NoT H1)->(∀ q,H1 q=none->N (.ref q) (upd H1 q (f x)))->g x σb H1 fun σ2 H2=>Sub σb σ2/\te σ2 H2 N)
  (hd:∀ (qs:List Addr) (H1:Hp),Pb H H1->(NoT H->NoT H1)->qs.length=xs.length->(∀ (j:Nat) (q:Addr) (x:V),qs[j]? = some q->xs[j]? = some x->H1 q=some (f x)/\H q=none)->∀ p,H1 p=none->Q (.ref p) (upd H1 p (.lst (qs.map V.ref)))):fe (Itl K a) g Iy te σb Q H:=by
 refine fe.list (fun i ys H'=>∃ qs:List Addr,ys=qs.map V.ref/\qs.length=i/\Pb H H'/\(NoT H->NoT H')/\∀ (j:Nat) (q:Addr) (x:V),qs[j]? = some q->xs[j]? = some x->H' q=some (f x)/\H q=none) hz
  ⟨[],rfl,rfl,Pb.refl H,id,fun j q x h _=>by simp at h⟩ ?_ ?_ ?_
 ·rintro i ys H' hi zzq;refine zzP fun zzM zzh=>?_
  obtain ⟨qs,e,e2,sm,_,_⟩:=zzq;subst zzh;exact ⟨hl.same sm,by rw [e,length_map];omega⟩
 ·rintro i x ys H' hx ⟨qs,e1,e2,sm,nt,al⟩ N hN;refine hs i x H' (fun y H4=>N (ys ++ [y]) H4) hx sm nt fun q hq=>hN _ _ ⟨qs ++ [q],by rw [e1,map_append];rfl,by rw [length_append,e2];rfl,sm.updN (sm.free hq),fun n=>(nt n).upd (hn x),fun j q' x' h1 h2=>?_⟩
  by_cases hj:j < qs.length
  ·rw [getElem?_append_left hj] at h1;obtain ⟨z1,z2⟩:=al j q' x' h1 h2;exact ⟨by rw [jb (yb z1 hq)];exact z1,z2⟩
  ·rw [getElem?_append_right (by omega)] at h1;have hj0:j - qs.length=0:=by
    cases hh:j - qs.length with
    | zero=>rfl
    | succ n=>rw [hh] at h1;simp at h1
   rw [hj0] at h1;have e3:q=q':=by simpa using h1
   subst e3;have e4:j=i:=by omega
   subst e4;rw [hx] at h2;cases h2;exact ⟨db,sm.free hq⟩
 ·rintro ys H' ⟨qs,e1,e2,sm,nt,al⟩ p hp;subst e1;exact hd qs H' sm nt e2 al p hp
theorem Qh.of {J:It} {n:Nat} {g:TG} {tb:TS} {D:Li} {σ:St} {H:Hp} (Pv:Nat->St->Hp->Prop) (h0:Pv 0 σ H) (hgo:∀ i σ H,i < n->Pv i σ H->J.go i H) (hst:∀ σ H,Pv n σ H->J.stop n H)
  (hs:∀ i σ H x H',i < n->Pv i σ H->J.yld i H x H'->g x σ H' fun σ2 H2=>tb { D with nx:=Pv (i + 1),ct:=Pv (i + 1),bk:=D.nx } σ2 H2) (hd:∀ σ H,Pv n σ H->D.nx σ H):Qh J g tb D σ H:=by
 refine ⟨fun i m σ H=>m=n - i/\i <= n/\Pv i σ H,⟨n,by simp,Nat.zero_le _,h0⟩,?_⟩;rintro i m σ H ⟨rfl,hi,p⟩;by_cases hlt:i < n
 ·exact .inr ⟨hgo i σ H hlt p,Pv (i + 1),fun σ' H' p'=>⟨n - (i + 1),by omega,rfl,hlt,p'⟩,fun x H' y=>hs i σ H x H' hlt p y⟩
 ·have e:i=n:=by omega
  subst e;exact .inl ⟨hst σ H p,hd σ H p⟩
theorem fe.of {J:It} {n:Nat} {g:TG} {tc:TT} {te:TE} {σb:St} {Q:VK} {H:Hp} (Pv:Nat->List V->Hp->Prop) (hz:n <= sizeLine) (h0:Pv 0 [] H) (hgo:∀ i ys H,i < n->Pv i ys H->J.go i H) (hst:∀ ys H,Pv n ys H->J.stop n H) (hl:∀ i ys H,i < n->Pv i ys H->ys.length <= i)
  (hs:∀ i ys H x H',i < n->Pv i ys H->J.yld i H x H'->fh Pv g tc te σb i x ys H') (hd:∀ ys H,Pv n ys H->∀ p,H p=none->Q (.ref p) (upd H p (.lst ys))):fe J g tc te σb Q H:=by
 refine ⟨fun i m ys H=>m=n - i/\i <= n/\Pv i ys H,⟨n,by simp,Nat.zero_le _,h0⟩,?_⟩;rintro i m ys H ⟨rfl,hi,p⟩;by_cases hlt:i < n
 ·have hyl:=hl i ys H hlt p;refine .inr ⟨hgo i ys H hlt p,by omega,fun x H' y=>?_⟩;exact hs i ys H x H' hlt p y (fun ys' H'=>∃ m',m' < n - i/\m'=n - (i + 1)/\i + 1 <= n/\Pv (i + 1) ys' H') fun ys' H' r=>⟨n - (i + 1),by omega,rfl,hlt,r⟩
 ·have e:i=n:=by omega
  subst e;exact .inl ⟨hst ys H p,hd ys H p⟩
section
variable {K:W.Frag} {a b:Addr} {xs ys:List V} {g:TG} {tb:TS} {D:Li} {σ σb:St} {H:Hp} {tc:TT} {te:TE} {Q:VK}
theorem Qh.enum (Pv:Nat->St->Hp->Prop) (h0:Pv 0 σ H) (hl:∀ i σ H,i <= xs.length->Pv i σ H->SqL K H a xs)
  (hs:∀ i x σ H p,xs[i]? = some x->Pv i σ H->H p=none->g (.ref p) σ (upd H p (.tup [.int i,x])) fun σ2 H2=>tb { D with nx:=Pv (i + 1),ct:=Pv (i + 1),bk:=D.nx } σ2 H2) (hd:∀ σ H,Pv xs.length σ H->D.nx σ H):Qh (Ite K a) g tb D σ H:=by
 refine Qh.of (n:=xs.length) Pv h0 (fun i σ H hi p=>⟨xs,xs[i],hl i σ H (Nat.le_of_lt hi) p,by simp [hi]⟩) (fun σ H p=>⟨xs,hl _ σ H (Nat.le_refl _) p,Nat.le_refl _⟩) (fun i σ H v H' hi p y=>?_) hd;obtain ⟨q,x,hq,rfl,hx,rfl⟩:=y;exact hs i x σ H q (hx xs (hl i σ H (Nat.le_of_lt hi) p)) p hq
theorem Qh.zip (Pv:Nat->St->Hp->Prop) (h0:Pv 0 σ H) (hl:∀ i σ H,i <= xs.length->Pv i σ H->SqL K H a xs/\SqL K H b ys) (n:Nat) (hn:n=min xs.length ys.length)
  (hs:∀ i x y σ H p,xs[i]? = some x->ys[i]? = some y->Pv i σ H->H p=none->g (.ref p) σ (upd H p (.tup [x,y])) fun σ2 H2=>tb { D with nx:=Pv (i + 1),ct:=Pv (i + 1),bk:=D.nx } σ2 H2) (hd:∀ σ H,Pv n σ H->D.nx σ H):Qh (Itz K a b) g tb D σ H:=by
 subst hn;refine Qh.of (n:=min xs.length ys.length) Pv h0 (fun i σ H hi p=>?_) (fun σ H p=>?_) (fun i σ H v H' hi p y=>?_) hd
 ·obtain ⟨z1,z2⟩:=hl i σ H (by omega) p;exact ⟨xs,ys,xs[i],ys[i],z1,z2,by rw [getElem?_eq_getElem (by omega)],by rw [getElem?_eq_getElem (by omega)]⟩
 ·obtain ⟨z1,z2⟩:=hl _ σ H (by omega) p;exact ⟨xs,ys,z1,z2,by omega⟩
 ·obtain ⟨q,x,y,hq,rfl,hx,hy,rfl⟩:=y;obtain ⟨z1,z2⟩:=hl i σ H (by omega) p;exact hs i x y σ H q (hx xs z1) (hy ys z2) p hq
theorem fe.enum (Pv:Nat->List V->Hp->Prop) (hz:xs.length <= sizeLine) (h0:Pv 0 [] H) (hl:∀ i ys H,i <= xs.length->Pv i ys H->SqL K H a xs/\ys.length <= i)
  (hs:∀ i x ys H p,xs[i]? = some x->Pv i ys H->H p=none->fh Pv g tc te σb i (.ref p) ys (upd H p (.tup [.int i,x]))) (hd:∀ ys H,Pv xs.length ys H->∀ p,H p=none->Q (.ref p) (upd H p (.lst ys))):fe (Ite K a) g tc te σb Q H:=by
 refine fe.of (n:=xs.length) Pv hz h0 (fun i ys H hi p=>⟨xs,xs[i],(hl i ys H (Nat.le_of_lt hi) p).1,by simp [hi]⟩) (fun ys H p=>⟨xs,(hl _ ys H (Nat.le_refl _) p).1,Nat.le_refl _⟩) (fun i ys H hi p=>(hl i ys H (Nat.le_of_lt hi) p).2) (fun i zs H v H' hi p y=>?_) hd;obtain ⟨q,x,hq,rfl,hx,rfl⟩:=y;exact hs i x zs H q (hx xs (hl i zs H (Nat.le_of_lt hi) p).1) p hq
theorem gH {i j:Nat} {p:Addr} {x y:V} {R:St->Hp->Prop} (h:SqT K H p [x,y]) (q:R ((σ.set i (some x)).set j (some y)) H):KN K 2 (LB (Mw i) (LB (Mw j) RP)) (.ref p) σ H R:=
 ⟨p,_,rfl,h,rfl,x,_,rfl,y,_,rfl,rfl,q⟩
theorem Jk {i j:Nat} {p:Addr} {x y:V} {R:St->Hp->Prop} (q:R ((σ.set i (some x)).set j (some y)) (upd H p (.tup [x,y]))):KN K 2 (LB (Mw i) (LB (Mw j) RP)) (.ref p) σ (upd H p (.tup [x,y])) R:=
 gH (.inl (.inl db)) q
end
theorem Sub.name2 {r:St} {v w:Option V}:Sub (none :: none :: r) (v :: w :: r):=by
 refine ⟨rfl,fun i u h=>?_⟩
 match i with
 | 0=>cases h
 | 1=>cases h
 | i + 2=>exact h
theorem Sub.name3 {r:St} {v w z:Option V}:Sub (none :: none :: none :: r) (v :: w :: z :: r):=by
 refine ⟨rfl,fun i u h=>?_⟩
 match i with
 | 0=>cases h
 | 1=>cases h
 | 2=>cases h
 | i + 3=>exact h
theorem fe.list_zs {K:W.Frag} {a:Addr} {xs zs:List V} {g:TG} {te:TE} {σb:St} {Q:VK} {H:Hp} (hl:SqL K H a xs) (hz:xs.length <= sizeLine) (he:zs.length=xs.length)
  (hs:∀ (i:Nat) (x z:V) (N:V->Hp->Prop),xs[i]? = some x->zs[i]? = some z->N z H->g x σb H fun σ2 H2=>Sub σb σ2/\te σ2 H2 N) (hd:∀ p,H p=none->Q (.ref p) (upd H p (.lst zs))):fe (Itl K a) g Iy te σb Q H:=by
 refine fe.list (fun i ys H'=>H'=H/\ys=zs.take i) hz ⟨rfl,rfl⟩ (fun i ys H' hi ⟨e0,e⟩=>?_) (fun i x ys H' hx ⟨e1,e2⟩ N hN=>?_) (fun ys H' ⟨e1,e2⟩ p hp=>?_)
 ·subst e0;exact ⟨hl,by rw [e,length_take];omega⟩
 ·subst e1;have hi:i < zs.length:=by rw [he];exact (List.getElem?_eq_some_iff.mp hx).1
  have hz':zs[i]? = some zs[i]:=getElem?_eq_getElem hi;exact hs i x zs[i] (fun y H4=>N (ys ++ [y]) H4) hx hz' (hN _ _ ⟨rfl,by rw [e2,take_add_one,hz'];rfl⟩)
 ·subst e1;rw [e2,<- he,take_length];exact hd p hp
theorem fe.tup_zs {K:W.Frag} {a:Addr} {xs zs:List V} {g:TG} {te:TE} {σb:St} {Q:VK} {H:Hp} (hl:SqT K H a xs) (hz:xs.length <= sizeLine) (he:zs.length=xs.length)
  (hs:∀ (i:Nat) (x z:V) (N:V->Hp->Prop),xs[i]? = some x->zs[i]? = some z->N z H->g x σb H fun σ2 H2=>Sub σb σ2/\te σ2 H2 N) (hd:∀ p,H p=none->Q (.ref p) (upd H p (.lst zs))):fe (Itt K a) g Iy te σb Q H:=by
 refine mI (xs:=xs) (fun i ys H'=>H'=H/\ys=zs.take i) hz ⟨rfl,rfl⟩ (fun i ys H' hi ⟨e0,e⟩=>?_) (fun i x ys H' hx ⟨e1,e2⟩ N hN=>?_) (fun ys H' ⟨e1,e2⟩ p hp=>?_)
 ·subst e0;exact ⟨hl,by rw [e,length_take];omega⟩
 ·subst e1;have hi:i < zs.length:=by rw [he];exact (List.getElem?_eq_some_iff.mp hx).1
  have hz':zs[i]? = some zs[i]:=getElem?_eq_getElem hi;exact hs i x zs[i] (fun y H4=>N (ys ++ [y]) H4) hx hz' (hN _ _ ⟨rfl,by rw [e2,take_add_one,hz'];rfl⟩)
 ·subst e1;rw [e2,<- he,take_length];exact hd p hp
theorem ay {c:TT} {tb:TS} {D:Li} {σ:St} {H:Hp} (Pv:St->Hp->Prop) (μ:St->Hp->Nat) (h0:Pv σ H)
  (hs:∀ σ H,Pv σ H->∃ b:Bool,(∀ Q:Bool->Hp->Prop,Q b H->c σ H Q)/\(b=true->tb { D with nx:=fun σ' H'=>Pv σ' H'/\μ σ' H' < μ σ H,ct:=fun σ' H'=>Pv σ' H'/\μ σ' H' < μ σ H,bk:=D.nx } σ H)/\(b=false->D.nx σ H)):gK c tb D σ H:=by
 refine ⟨fun m σ H=>m=μ σ H/\Pv σ H,⟨_,rfl,h0⟩,?_⟩;rintro m σ H ⟨rfl,p⟩;obtain ⟨b,hc,h1,h2⟩:=hs σ H p;refine hc _ ?_;cases b with
 | true=>exact ⟨_,fun σ' H' ⟨p',l⟩=>⟨_,l,rfl,p'⟩,h1 rfl⟩
 | false=>exact h2 rfl
theorem Sub.name {r:St} {v:Option V}:Sub (none :: r) (v :: r):=by
 refine ⟨rfl,fun i w h=>?_⟩;cases i with
 | zero=>cases h
 | succ i=>exact h
end L2
local macro_rules | `(tactic| walk_at "RD")=>`(tactic| ((try dsimp only [L2.MD,L2.FQ,L2.Cx.nox,L2.Cx.wish,L2.Cx.block,L2.Cx.tr,L2.Cx.hn]);(try simp only [L2.QM,L2.uQ,L2.VP,L2.YL,L2.JO,L2.oM,L2.QI,L2.gL,L2.pP,L2.oh,L2.Mb,L2.wD,L2.zH,L2.CM,L2.lG,L2.yg,L2.aM,L2.wH,L2.GL,L2.FM,L2.wM,L2.kI,L2.zL,L2.SN,L2.oN,L2.nQ,L2.zN,L2.qQ,L2.yN,L2.kN,L2.UH,L2.jM,L2.oC,L2.FL,L2.fM,L2.BH,L2.pM,L2.MK,L2.CH,L2.SH,L2.II,L2.uN,L2.uC,L2.pH,L2.oP,L2.IL,L2.pI,L2.VM,L2.aN,L2.kL,L2.sI,L2.KL,L2.yO,L2.VL,L2.DN,L2.pC,L2.EE,L2.nD,L2.CL,L2.nI,L2.QB,L2.xI,L2.YF,L2.sH,L2.aL,L2.LM,L2.NI,L2.cE,L2.PD,L2.ZG,L2.YM,L2.SO,L2.qP,L2.HP,L2.YB,L2.uD,L2.GE,L2.rD,L2.dG,L2.ZH,L2.IE,L2.kF,L2.JI,L2.Uz,L2.YH,L2.BL,L2.EI,L2.gP,L2.vP,L2.tN,L2.WN,L2.OF,L2.JL,L2.gJ,L2.JH,L2.sM,L2.fL,L2.iM,L2.SL,L2.RL,L2.start,L2.wL,map_cons,map_nil,Option.bind_none,Option.bind_some,Option.join_some,Option.join_none,length_cons,length_nil,Nat.reduceAdd,Nat.reduceSub,Nat.zero_add,List.replicate,cons_append,nil_append,append_nil,set_cons_zero,set_cons_succ,List.getElem?_cons_zero,getElem?_cons_succ,Option.some.injEq,L2.V.int.injEq,L2.V.bl.injEq,L2.V.str.injEq,L2.V.ref.injEq,L2.V.ty.injEq,exists_eq_left',exists_eq_left,exists_and_left,List.cons.injEq,and_true,true_and,and_assoc,Int.zero_add,reduceCtorEq,false_and,exists_false,and_false,ite_true,ite_false,if_true,if_false,Bool.false_eq_true,L2.OO,L2.tyV,false_or,or_false,Bool.not_true,Bool.not_false,decide_true,decide_false])))
local macro_rules | `(tactic| walk_at "B")=>`(tactic| first | rfl | (dsimp only [L2.Cx.block];done) | (dsimp only [L2.Cx.block];exact rfl))
local macro_rules | `(tactic| walk_at "F")=>`(tactic| exact ⟨rfl,rfl,rfl,by decide +kernel,rfl,by decide +kernel,by decide +kernel⟩)
namespace My
open PySem L2
noncomputable def top (i:Nat):Stmt:=PySem.Challenge.pw_lampway_k12_a_plan_read.main.body.getD i (.Pass ⟨0,0,0,0⟩)
noncomputable abbrev nA:Stmt:=top 9
theorem Uw:Ab ["places","way","place","steps"] ["places","way","place"] (rb nA):=(by walk_at "F")
noncomputable abbrev Vo:Stmt:=top 10
theorem Zv:Ab ["places","way","second"] ["places","way","second"] (rb Vo):=(by walk_at "F")
noncomputable abbrev OJ:Stmt:=top 11
theorem Iz:Ab ["crossing","one","other","way","second"] ["crossing","one","other"] (rb OJ):=(by walk_at "F")
noncomputable abbrev BO:Stmt:=top 12
theorem mG:Ab ["crossing","one","other","way","second"] ["crossing","one","other"] (rb BO):=(by walk_at "F")
noncomputable abbrev Yz:Stmt:=top 18
theorem lJ:Ab ["text"] ["text"] (rb Yz):=(by walk_at "F")
noncomputable abbrev Nk:Stmt:=top 19
theorem sv:Ab ["word","signs","most"] ["word","signs","most"] (rb Nk):=(by walk_at "F")
noncomputable abbrev As:Stmt:=top 20
theorem ix:Ab ["word","most_figures"] ["word","most_figures"] (rb As):=(by walk_at "F")
noncomputable abbrev cy:Stmt:=top 21
theorem Cu:Ab ["word","low","high","number"] ["word","low","high"] (rb cy):=(by walk_at "F")
noncomputable abbrev gy:Stmt:=top 22
theorem wC:Ab ["word"] ["word"] (rb gy):=(by walk_at "F")
noncomputable abbrev Ur:Stmt:=top 25
theorem rC:Ab ["text"] ["text"] (rb Ur):=(by walk_at "F")
noncomputable abbrev vm:Stmt:=top 27
theorem we:Ab ["marks","size","steps","untils","place"] ["marks"] (rb vm):=(by walk_at "F")
noncomputable abbrev om:Stmt:=top 28
theorem Ks:Ab ["marks"] ["marks"] (rb om):=(by walk_at "F")
noncomputable abbrev Po:Stmt:=top 33
theorem qz:Ab ["spans","name"] ["spans","name"] (rb Po):=(by walk_at "F")
noncomputable abbrev Ak:Stmt:=top 34
theorem Bf:Ab ["size","spans","name","marks","begin","turns","step"] ["size","spans","name"] (rb Ak):=(by walk_at "F")
noncomputable abbrev oF:Stmt:=top 35
theorem Vm:Ab ["way","size","spans","shown","begin","turns","step"] ["way","size","spans"] (rb oF):=(by walk_at "F")
noncomputable abbrev Sr:Stmt:=top 36
theorem rp:Ab ["reader","size"] ["reader"] (rb Sr):=(by walk_at "F")
noncomputable abbrev Gm:Stmt:=top 37
theorem Vh:Ab ["reader","crossing","size","spans","name","begin","turns"] ["reader","crossing","size","spans"] (rb Gm):=(by walk_at "F")
noncomputable abbrev Mq:Stmt:=top 38
theorem Tg:Ab ["crossing","text","rows","size","spans","reader"] ["crossing","text"] (rb Mq):=(by walk_at "F")
noncomputable abbrev Tl:Stmt:=top 39
theorem Zk:Ab ["crossing","spans","name"] ["crossing","spans"] (rb Tl):=(by walk_at "F")
noncomputable abbrev me:Stmt:=top 40
theorem qd:Ab ["size","spans","place","name","begin","turns","others"] ["size","spans","place"] (rb me):=(by walk_at "F")
noncomputable abbrev mm:Stmt:=top 41
theorem Bd:Ab ["crossing","size","spans","place","span","name","begin","turns","way","needed"] ["crossing","size","spans"] (rb mm):=(by walk_at "F")
noncomputable abbrev ij:Stmt:=top 42
theorem Le:Ab ["crossing","one","other","since_one","since_other","between","turn","steps"] ["crossing","one","other","since_one","since_other"] (rb ij):=(by walk_at "F")
noncomputable abbrev dm:Stmt:=top 43
theorem Ve:Ab ["crossing","size","spans","since","name","one","other"] ["crossing","size","spans"] (rb dm):=(by walk_at "F")
noncomputable abbrev Ym:Stmt:=top 44
theorem Rg:Ab ["crossing","size","rows","spans","name","begin","turns"] ["crossing","size","rows"] (rb Ym):=(by walk_at "F")
noncomputable abbrev Nw:Stmt:=top 45
theorem rh:Ab ["plan","size","rows","name","begin","turns"] ["plan"] (rb Nw):=(by walk_at "F")
noncomputable abbrev Aq:Stmt:=top 59
theorem wp:Ab ["reader","places"] ["reader"] (rb Aq):=(by walk_at "F")
noncomputable abbrev Ih:Stmt:=top 60
theorem gk:Ab ["reader","ways","name"] ["reader","ways"] (rb Ih):=(by walk_at "F")
noncomputable abbrev gu:Stmt:=top 61
theorem Ty:Ab ["reader","places","start"] ["reader","places","start"] (rb gu):=(by walk_at "F")
noncomputable abbrev qu:Stmt:=top 62
theorem Gy:Ab ["sort","name","start","end","off","near","least"] ["sort","name","start","end","off","near","least"] (rb qu):=(by walk_at "F")
noncomputable abbrev Qu:Stmt:=top 63
theorem Te:Ab ["reader","places","ways","sort","name","start","end","off","near","least"] ["reader","places","ways"] (rb Qu):=(by walk_at "F")
noncomputable abbrev Ek:Stmt:=top 64
theorem Ee:Ab ["text","rows","places","ways","reader"] ["text"] (rb Ek):=(by walk_at "F")
noncomputable abbrev oA:Stmt:=top 66
theorem qD:Ab ["plan","name","turn"] ["plan","name","turn"] (rb oA):=(by walk_at "F")
noncomputable abbrev YJ:Stmt:=top 67
theorem cL:Ab ["plan","name","turn"] ["plan","name","turn"] (rb YJ):=(by walk_at "F")
noncomputable abbrev ar:Stmt:=top 69
theorem Yk:Ab ["_law_script","_law_k","_law_many","_law_cell","_law_seed"] ["_law_script","_law_k","_law_many"] (rb ar):=(by walk_at "F")
noncomputable abbrev Oq:Stmt:=top 70
theorem ie:Ab ["_law_script","_law_most","_law_places","_law_ways_here","_law_k","_law_sort","_law_start","_law_end","_law_name","_law_numbers"] ["_law_script","_law_most"] (rb Oq):=(by walk_at "F")
noncomputable abbrev Km:Stmt:=top 71
theorem uk:Ab ["_law_places","_law_ways_here","_law_rows","_law_way"] ["_law_places","_law_ways_here"] (rb Km):=(by walk_at "F")
noncomputable abbrev Tr:Stmt:=top 72
theorem Ng:Ab ["_law_places","_law_one","_law_other","_law_inside","_law_place"] ["_law_places","_law_one","_law_other"] (rb Tr):=(by walk_at "F")
noncomputable abbrev gh:Stmt:=top 73
theorem Nd:Ab ["_law_script","_law_places","_law_ways_here","_law_groups_here","_law_way","_law_put","_law_group"] ["_law_script","_law_places","_law_ways_here"] (rb gh):=(by walk_at "F")
noncomputable abbrev ni:Stmt:=top 74
theorem Ic:Ab ["_law_script","_law_places","_law_ways_here","_law_spans_here","_law_at","_law_group","_law_length","_law_way","_law_late","_law_turns","_law_shift","_law_rows"] ["_law_script","_law_places","_law_ways_here"] (rb ni):=(by walk_at "F")
noncomputable abbrev Js:Stmt:=top 75
theorem zp:Ab ["_law_size","_law_rows","_law_name","_law_turn","_law_row"] ["_law_size","_law_rows","_law_name","_law_turn"] (rb Js):=(by walk_at "F")
noncomputable abbrev Fq:Stmt:=top 76
theorem si:Ab ["_law_plan","_law_size","_law_rows","_law_names","_law_turns","_law_name","_law_turn","_law_found"] ["_law_plan","_law_size","_law_rows","_law_names","_law_turns"] (rb Fq):=(by walk_at "F")
noncomputable abbrev km:Stmt:=top 77
theorem Ff:Ab ["_law_plan","_law_told","e"] ["_law_plan"] (rb km):=(by walk_at "F")
noncomputable abbrev PL:Stmt:=top 78
theorem vf:Ab ["_law_script","_law_most","_law_told","_law_crossing","_law_made","_law_size","_law_rows","_law_text_here","_law_row","_law_names","_law_far","_law_turns","_law_last","_law_plan","_law_handed","_law_other"] ["_law_script"] (rb PL):=(by walk_at "F")
noncomputable abbrev Zn:Stmt:=jd (top 3) 0
theorem Vn:Ab ["self","row","word"] ["self","row","word"] (rb Zn):=(by walk_at "F")
noncomputable abbrev Zo:Stmt:=jd (top 4) 0
theorem oo:Ab ["self","name"] ["self","name"] (rb Zo):=(by walk_at "F")
noncomputable abbrev Bp:Stmt:=jd (top 5) 0
theorem Ho:Ab ["self","way"] ["self","way"] (rb Bp):=(by walk_at "F")
noncomputable abbrev Ap:Stmt:=jd (top 6) 0
theorem wo:Ab ["self","way","at"] ["self","way","at"] (rb Ap):=(by walk_at "F")
noncomputable abbrev Wo:Stmt:=jd (top 7) 0
theorem Do:Ab ["self","way","other","at"] ["self","way","other","at"] (rb Wo):=(by walk_at "F")
noncomputable abbrev Wj:Stmt:=jd (top 24) 0
theorem zl:Ab ["self","row","told"] ["self","row","told"] (rb Wj):=(by walk_at "F")
noncomputable abbrev aj:Stmt:=jd (top 24) 1
theorem Cn:Ab ["self"] ["self"] (rb aj):=(by walk_at "F")
noncomputable abbrev bh:Stmt:=jd (top 24) 2
theorem Wk:Ab ["self"] ["self"] (rb bh):=(by walk_at "F")
noncomputable abbrev yi:Stmt:=jd (top 24) 3
theorem Zm:Ab ["self"] ["self"] (rb yi):=(by walk_at "F")
noncomputable abbrev ck:Stmt:=jd (top 24) 4
theorem Yi:Ab ["self","good"] ["self","good"] (rb ck):=(by walk_at "F")
noncomputable abbrev gi:Stmt:=jd (top 24) 5
theorem De:Ab ["self","choices","found"] ["self","choices"] (rb gi):=(by walk_at "F")
noncomputable abbrev Kh:Stmt:=jd (top 24) 6
theorem ue:Ab ["self","low","high","found"] ["self","low","high"] (rb Kh):=(by walk_at "F")
noncomputable abbrev zi:Stmt:=jd (top 24) 7
theorem Hh:Ab ["self"] ["self"] (rb zi):=(by walk_at "F")
noncomputable abbrev gr:Stmt:=jd (top 32) 0
theorem Xj:Ab ["self","crossing","size","spans","name"] ["self","crossing","size","spans"] (rb gr):=(by walk_at "F")
noncomputable abbrev Su:Stmt:=jd (top 47) 0
theorem Bs:Ab ["self","kind","name","start","end","off","near","least"] ["self","kind","name","start","end","off","near","least"] (rb Su):=(by walk_at "F")
noncomputable abbrev eo:Stmt:=jd (top 48) 0
theorem bn:Ab ["self","name","start","end","off","near","least"] ["self","name","start","end","off","near","least"] (rb eo):=(by walk_at "F")
noncomputable abbrev ym:Stmt:=jd (top 48) 1
theorem Tq:Ab ["self"] ["self"] (rb ym):=(by walk_at "F")
noncomputable abbrev xn:Stmt:=jd (top 48) 2
theorem Ut:Ab ["self"] ["self"] (rb xn):=(by walk_at "F")
noncomputable abbrev Vl:Stmt:=jd (top 49) 0
theorem Jm:Ab ["self","name","start","end","off","near","least"] ["self","name","start","end","off","near","least"] (rb Vl):=(by walk_at "F")
noncomputable abbrev Lk:Stmt:=jd (top 49) 1
theorem Rp:Ab ["self"] ["self"] (rb Lk):=(by walk_at "F")
noncomputable abbrev tm:Stmt:=jd (top 49) 2
theorem Wq:Ab ["self"] ["self"] (rb tm):=(by walk_at "F")
noncomputable abbrev qm:Stmt:=jd (top 50) 0
theorem Am:Ab ["self","name","start","end","off","near","least"] ["self","name","start","end","off","near","least"] (rb qm):=(by walk_at "F")
noncomputable abbrev vk:Stmt:=jd (top 50) 1
theorem Jp:Ab ["self"] ["self"] (rb vk):=(by walk_at "F")
noncomputable abbrev Zl:Stmt:=jd (top 50) 2
theorem Qr:Ab ["self"] ["self"] (rb Zl):=(by walk_at "F")
noncomputable abbrev Tk:Stmt:=jd (top 58) 0
theorem bf:Ab ["self","places","ways","number","way"] ["self","places","ways"] (rb Tk):=(by walk_at "F")
noncomputable abbrev Yg:Stmt:=jd (top 58) 1
theorem Ko:Ab ["self"] ["self"] (rb Yg):=(by walk_at "F")
noncomputable abbrev Ui:Stmt:=jd (top 58) 2
theorem oi:Ab ["self","name"] ["self","name"] (rb Ui):=(by walk_at "F")
noncomputable abbrev bj:Stmt:=jd (top 58) 3
theorem bi:Ab ["self","name"] ["self","name"] (rb bj):=(by walk_at "F")
set_option genInjectivity false in
set_option genInjectivity false in
structure Adr where
 {Yp ai fB bH jv Fg Qj Hk Gn yl ff kg xf Hg vB tj Bj Oh Ag ge Eg Ze qg cg gn xj Lf Cl Ml Kl Hf wq Nu sf nj Pj Ij nh ji yj Mj rg iL Qf Gg Lg Qg Kg He gc Yc Cd xc lc Qb nc Ch Yf Sf Cg ph df Rf ng jf Kf ig We Gc vd Yb Eb ve On Md Uc Wc Zb pf Tc se ce Ud Gd:Addr}
 {aq Rh yB rH fv Sg Hj Vk En rk cf vg wf Ig BB Kj Cj Mh lg oe jg Xe Bg bg Hn Ej Af Dl Ol Fl Df oq Fu qf Jj Gj Aj mh Xh mj oj zg ZI jh Ai xi di Zh kf Cc Ld pe Jc Fc fc Ec rj uh kh Fi Lj Dg xh Di wg Ah Ei Jf ad Pd ic:FuncData}
 {Zw Ul Iw wm Cp am ss Ku Xn sr up Qq:Value}
structure Txt (w:World) (K:W.Frag) (mg:Str->Option Value) (t:Adr):Prop where
 BA:mg "in_bow"=some (.ref t.Yp)
 iq:Fun K "in_bow" "in_bow" nA t.Yp t.aq
 Gx:mg "bows_cross"=some (.ref t.ai)
 Fk:Fun K "bows_cross" "bows_cross" Vo t.ai t.Rh
 fP:mg "meet"=some (.ref t.fB)
 NF:Fun K "meet" "meet" OJ t.fB t.yB
 eQ:mg "gap"=some (.ref t.bH)
 lM:Fun K "gap" "gap" BO t.bH t.rH
 EL:mg "words"=some (.ref t.jv)
 Ky:Fun K "words" "words" Yz t.jv t.fv
 pp:mg "is_made_of"=some (.ref t.Fg)
 Th:Fun K "is_made_of" "is_made_of" Nk t.Fg t.Sg
 Wz:mg "is_number"=some (.ref t.Qj)
 Em:Fun K "is_number" "is_number" As t.Qj t.Hj
 Xw:mg "figured"=some (.ref t.Hk)
 vn:Fun K "figured" "figured" cy t.Hk t.Vk
 zG:mg "is_name"=some (.ref t.Gn)
 Cr:Fun K "is_name" "is_name" gy t.Gn t.En
 Fw:mg "readers"=some (.ref t.yl)
 Wn:Fun K "readers" "readers" Ur t.yl t.rk
 rm:mg "until_marked"=some (.ref t.ff)
 xg:Fun K "until_marked" "until_marked" vm t.ff t.cf
 ot:mg "since_marked"=some (.ref t.kg)
 Ii:Fun K "since_marked" "since_marked" om t.kg t.vg
 Xi:mg "spans_of"=some (.ref t.xf)
 Xf:Fun K "spans_of" "spans_of" Po t.xf t.wf
 qp:mg "free_marks"=some (.ref t.Hg)
 Sh:Fun K "free_marks" "free_marks" Ak t.Hg t.Ig
 PN:mg "lamp"=some (.ref t.vB)
 vF:Fun K "lamp" "lamp" oF t.vB t.BB
 Uy:mg "read_size"=some (.ref t.tj)
 Lm:Fun K "read_size" "read_size" Sr t.tj t.Kj
 Az:mg "read_span"=some (.ref t.Bj)
 Dm:Fun K "read_span" "read_span" Gm t.Bj t.Cj
 Jz:mg "read_plan"=some (.ref t.Oh)
 Nm:Fun K "read_plan" "read_plan" Mq t.Oh t.Mh
 jt:mg "refuse_never"=some (.ref t.Ag)
 Ci:Fun K "refuse_never" "refuse_never" Tl t.Ag t.lg
 Pk:mg "turns_to_next_begin"=some (.ref t.ge)
 Se:Fun K "turns_to_next_begin" "turns_to_next_begin" me t.ge t.oe
 Ws:mg "refuse_short"=some (.ref t.Eg)
 Gi:Fun K "refuse_short" "refuse_short" mm t.Eg t.jg
 zo:mg "refuse_clash_of"=some (.ref t.Ze)
 gg:Fun K "refuse_clash_of" "refuse_clash_of" ij t.Ze t.Xe
 Kt:mg "refuse_clash"=some (.ref t.qg)
 Ki:Fun K "refuse_clash" "refuse_clash" dm t.qg t.Bg
 Yr:mg "made_plan"=some (.ref t.cg)
 Dj:Fun K "made_plan" "made_plan" Ym t.cg t.bg
 dy:mg "written"=some (.ref t.gn)
 Yn:Fun K "written" "written" Nw t.gn t.Hn
 Jy:mg "read_ring"=some (.ref t.xj)
 Um:Fun K "read_ring" "read_ring" Aq t.xj t.Ej
 Wr:mg "read_new_name"=some (.ref t.Lf)
 Eh:Fun K "read_new_name" "read_new_name" Ih t.Lf t.Af
 KB:mg "read_end"=some (.ref t.Cl)
 Bo:Fun K "read_end" "read_end" gu t.Cl t.Dl
 qC:mg "made_way"=some (.ref t.Ml)
 Io:Fun K "made_way" "made_way" qu t.Ml t.Ol
 GC:mg "read_way"=some (.ref t.Kl)
 Lo:Fun K "read_way" "read_way" Qu t.Kl t.Fl
 br:mg "read_crossing"=some (.ref t.Hf)
 Dh:Fun K "read_crossing" "read_crossing" Ek t.Hf t.Df
 uI:mg "colour"=some (.ref t.wq)
 Tv:Fun K "colour" "colour" oA t.wq t.oq
 EJ:mg "free"=some (.ref t.Nu)
 fA:Fun K "free" "free" YJ t.Nu t.Fu
 jc:mg "_law_draw"=some (.ref t.sf)
 Vb:Fun K "_law_draw" "_law_draw" ar t.sf t.qf
 mz:mg "_law_ways"=some (.ref t.nj)
 Pm:Fun K "_law_ways" "_law_ways" Oq t.nj t.Jj
 Lz:mg "_law_text"=some (.ref t.Pj)
 Qm:Fun K "_law_text" "_law_text" Km t.Pj t.Gj
 mr:mg "_law_meet"=some (.ref t.Ij)
 zj:Fun K "_law_meet" "_law_meet" Tr t.Ij t.Aj
 Kv:mg "_law_groups"=some (.ref t.nh)
 Oj:Fun K "_law_groups" "_law_groups" gh t.nh t.mh
 xw:mg "_law_spans"=some (.ref t.ji)
 yk:Fun K "_law_spans" "_law_spans" ni t.ji t.Xh
 aA:mg "_law_free"=some (.ref t.yj)
 Hm:Fun K "_law_free" "_law_free" Js t.yj t.mj
 Hq:mg "_law_same"=some (.ref t.Mj)
 vj:Fun K "_law_same" "_law_same" Fq t.Mj t.oj
 gm:mg "_law_refused"=some (.ref t.rg)
 og:Fun K "_law_refused" "_law_refused" km t.rg t.zg
 gQ:mg "law"=some (.ref t.iL)
 cQ:Fun K "law" "law" PL t.iL t.ZI
 AI:mg "NoText"=some (.ref t.Tc)
 jJ:PySem.W.findIn K (.ref t.Tc) "__init__"=some (some (.ref t.Qf))
 ao:Fun K "__init__" "NoText.__init__" Zn t.Qf t.jh
 iE:mg "NoWay"=some (.ref t.se)
 XJ:PySem.W.findIn K (.ref t.se) "__init__"=some (some (.ref t.Gg))
 lp:Fun K "__init__" "NoWay.__init__" Zo t.Gg t.Ai
 kM:mg "Never"=some (.ref t.ce)
 LK:PySem.W.findIn K (.ref t.ce) "__init__"=some (some (.ref t.Lg))
 Xo:Fun K "__init__" "Never.__init__" Bp t.Lg t.xi
 GM:mg "Short"=some (.ref t.Ud)
 IK:PySem.W.findIn K (.ref t.Ud) "__init__"=some (some (.ref t.Qg))
 Ep:Fun K "__init__" "Short.__init__" Ap t.Qg t.di
 AM:mg "Clash"=some (.ref t.Gd)
 jK:PySem.W.findIn K (.ref t.Gd) "__init__"=some (some (.ref t.Kg))
 Fp:Fun K "__init__" "Clash.__init__" Wo t.Kg t.Zh
 Vz:mg "RowReader"=some (.ref t.Eb)
 XC:PySem.W.findIn K (.ref t.Eb) "__init__"=some (some (.ref t.He))
 Yj:Fun K "__init__" "RowReader.__init__" Wj t.He t.kf
 zC:PySem.W.findIn K (.ref t.Eb) "ahead"=some (some (.ref t.gc))
 Oi:Fun K "ahead" "RowReader.ahead" aj t.gc t.Cc
 Fy:PySem.W.findIn K (.ref t.Eb) "has_more"=some (some (.ref t.Yc))
 eh:Fun K "has_more" "RowReader.has_more" bh t.Yc t.Ld
 eA:PySem.W.findIn K (.ref t.Eb) "refuse"=some (some (.ref t.Cd))
 vi:Fun K "refuse" "RowReader.refuse" yi t.Cd t.pe
 aD:PySem.W.findIn K (.ref t.Eb) "take"=some (some (.ref t.xc))
 Vg:Fun K "take" "RowReader.take" ck t.xc t.Jc
 OA:PySem.W.findIn K (.ref t.Eb) "one_of"=some (some (.ref t.lc))
 Gf:Fun K "one_of" "RowReader.one_of" gi t.lc t.Fc
 nz:PySem.W.findIn K (.ref t.Eb) "figures"=some (some (.ref t.Qb))
 mf:Fun K "figures" "RowReader.figures" Kh t.Qb t.fc
 aB:PySem.W.findIn K (.ref t.Eb) "finish"=some (some (.ref t.nc))
 Of:Fun K "finish" "RowReader.finish" zi t.nc t.Ec
 MN:mg "Plan"=some (.ref t.ve)
 HL:PySem.W.findIn K (.ref t.ve) "__init__"=some (some (.ref t.Ch))
 Fs:Fun K "__init__" "Plan.__init__" gr t.Ch t.rj
 gM:mg "Way"=some (.ref t.On)
 dN:PySem.W.findIn K (.ref t.On) "__init__"=some (some (.ref t.Yf))
 Vu:Fun K "__init__" "Way.__init__" Su t.Yf t.uh
 qI:mg "CarWay"=some (.ref t.Md)
 LH:PySem.W.findIn K (.ref t.Md) "__init__"=some (some (.ref t.Sf))
 mn:Fun K "__init__" "CarWay.__init__" eo t.Sf t.kh
 JG:PySem.W.findIn K (.ref t.Md) "ready"=some (some (.ref t.Cg))
 Rl:Fun K "ready" "CarWay.ready" ym t.Cg t.Fi
 fH:PySem.W.findIn K (.ref t.Md) "fade"=some (some (.ref t.ph))
 Qn:Fun K "fade" "CarWay.fade" xn t.ph t.Lj
 gE:mg "FootWay"=some (.ref t.Uc)
 RG:PySem.W.findIn K (.ref t.Uc) "__init__"=some (some (.ref t.df))
 jm:Fun K "__init__" "FootWay.__init__" Vl t.df t.Dg
 jE:PySem.W.findIn K (.ref t.Uc) "ready"=some (some (.ref t.Rf))
 Ck:Fun K "ready" "FootWay.ready" Lk t.Rf t.xh
 CG:PySem.W.findIn K (.ref t.Uc) "fade"=some (some (.ref t.ng))
 Yl:Fun K "fade" "FootWay.fade" tm t.ng t.Di
 XE:mg "TramWay"=some (.ref t.Wc)
 GG:PySem.W.findIn K (.ref t.Wc) "__init__"=some (some (.ref t.jf))
 um:Fun K "__init__" "TramWay.__init__" qm t.jf t.wg
 fE:PySem.W.findIn K (.ref t.Wc) "ready"=some (some (.ref t.Kf))
 Sk:Fun K "ready" "TramWay.ready" vk t.Kf t.Ah
 OG:PySem.W.findIn K (.ref t.Wc) "fade"=some (some (.ref t.ig))
 im:Fun K "fade" "TramWay.fade" Zl t.ig t.Ei
 OC:mg "Crossing"=some (.ref t.Zb)
 yG:PySem.W.findIn K (.ref t.Zb) "__init__"=some (some (.ref t.We))
 Xk:Fun K "__init__" "Crossing.__init__" Tk t.We t.Jf
 ZC:PySem.W.findIn K (.ref t.Zb) "names"=some (some (.ref t.Gc))
 Sj:Fun K "names" "Crossing.names" Yg t.Gc t.ad
 MC:PySem.W.findIn K (.ref t.Zb) "number"=some (some (.ref t.vd))
 Wf:Fun K "number" "Crossing.number" Ui t.vd t.Pd
 TC:PySem.W.findIn K (.ref t.Zb) "called"=some (some (.ref t.Yb))
 fg:Fun K "called" "Crossing.called" bj t.Yb t.ic
 zb:Cls K t.Eb
 Sz:Mk K t.Eb t.He
 Qd:Hu K t.Eb "ahead" t.gc
 ah:Hu K t.Eb "has_more" t.Yc
 Yh:Hu K t.Eb "refuse" t.Cd
 Fe:Hu K t.Eb "take" t.xc
 re:Hu K t.Eb "one_of" t.lc
 ac:Hu K t.Eb "figures" t.Qb
 Je:Hu K t.Eb "finish" t.nc
 Zj:Ib K t.Eb "row"
 Ri:Ib K t.Eb "told"
 Ie:Ib K t.Eb "place"
 Hi:Cls K t.ve
 cP:Mk K t.ve t.Ch
 ak:Ib K t.ve "crossing"
 gp:Ib K t.ve "size"
 Ln:Ib K t.ve "spans"
 Fn:Ib K t.ve "lamps"
 xm:Ib K t.ve "untils"
 bR:Cls K t.On
 rM:Ib K t.On "kind"
 lL:Ib K t.On "name"
 iK:Ib K t.On "start"
 cN:Ib K t.On "end"
 fN:Ib K t.On "off"
 nM:Ib K t.On "near"
 lK:Ib K t.On "least"
 js:Cls K t.Md
 YI:Mk K t.Md t.Sf
 Vs:Hu K t.Md "ready" t.Cg
 uw:Hu K t.Md "fade" t.ph
 Zt:Ib K t.Md "kind"
 bu:Ib K t.Md "name"
 Ir:Ib K t.Md "start"
 uv:Ib K t.Md "end"
 Yv:Ib K t.Md "off"
 Ot:Ib K t.Md "near"
 Yq:Ib K t.Md "least"
 uo:Cls K t.Uc
 vE:Mk K t.Uc t.df
 jr:Hu K t.Uc "ready" t.Rf
 Vt:Hu K t.Uc "fade" t.ng
 Hr:Ib K t.Uc "kind"
 Zq:Ib K t.Uc "name"
 Wp:Ib K t.Uc "start"
 yt:Ib K t.Uc "end"
 au:Ib K t.Uc "off"
 Kq:Ib K t.Uc "near"
 Vp:Ib K t.Uc "least"
 So:Cls K t.Wc
 DD:Mk K t.Wc t.jf
 Ds:Hu K t.Wc "ready" t.Kf
 Xs:Hu K t.Wc "fade" t.ig
 yr:Ib K t.Wc "kind"
 zr:Ib K t.Wc "name"
 Up:Ib K t.Wc "start"
 zt:Ib K t.Wc "end"
 Mt:Ib K t.Wc "off"
 Xr:Ib K t.Wc "near"
 Xp:Ib K t.Wc "least"
 Ob:Cls K t.Zb
 iC:Mk K t.Zb t.We
 Jd:Hu K t.Zb "names" t.Gc
 Si:Hu K t.Zb "number" t.vd
 Mc:Hu K t.Zb "called" t.Yb
 ki:Ib K t.Zb "places"
 ik:Ib K t.Zb "ways"
 zh:Ib K t.Zb "numbers"
 Bh:mg "LampError"=some (.ref t.pf)
 yh:XQ K t.pf "__init__"
 nG:XB K t.Tc
 xy:MkX K t.Tc t.Qf
 Qv:Ib K t.Tc "row"
 Ys:Ib K t.Tc "word"
 Bz:PySem.W.exmOne K (.ref t.Tc) (.ref t.pf)=some true
 cD:PySem.W.exmOne K (.ref t.Tc) (.ref t.Tc)=some true
 lE:PySem.W.exmOne K (.ref t.Tc) (.ref t.se)=some false
 sD:PySem.W.exmOne K (.ref t.Tc) (.ref t.ce)=some false
 YE:PySem.W.exmOne K (.ref t.Tc) (.ref t.Ud)=some false
 ID:PySem.W.exmOne K (.ref t.Tc) (.ref t.Gd)=some false
 KI:XB K t.se
 FA:MkX K t.se t.Gg
 Sn:Ib K t.se "name"
 jA:PySem.W.exmOne K (.ref t.se) (.ref t.pf)=some true
 DE:PySem.W.exmOne K (.ref t.se) (.ref t.Tc)=some false
 Zs:PySem.W.exmOne K (.ref t.se) (.ref t.se)=some true
 MG:PySem.W.exmOne K (.ref t.se) (.ref t.ce)=some false
 WG:PySem.W.exmOne K (.ref t.se) (.ref t.Ud)=some false
 QG:PySem.W.exmOne K (.ref t.se) (.ref t.Gd)=some false
 IH:XB K t.ce
 xB:MkX K t.ce t.Lg
 cx:Ib K t.ce "way"
 oB:PySem.W.exmOne K (.ref t.ce) (.ref t.pf)=some true
 tE:PySem.W.exmOne K (.ref t.ce) (.ref t.Tc)=some false
 DG:PySem.W.exmOne K (.ref t.ce) (.ref t.se)=some false
 IG:PySem.W.exmOne K (.ref t.ce) (.ref t.ce)=some true
 YG:PySem.W.exmOne K (.ref t.ce) (.ref t.Ud)=some false
 HG:PySem.W.exmOne K (.ref t.ce) (.ref t.Gd)=some false
 nH:XB K t.Ud
 YA:MkX K t.Ud t.Qg
 yx:Ib K t.Ud "way"
 vz:Ib K t.Ud "at"
 qA:PySem.W.exmOne K (.ref t.Ud) (.ref t.pf)=some true
 NE:PySem.W.exmOne K (.ref t.Ud) (.ref t.Tc)=some false
 KG:PySem.W.exmOne K (.ref t.Ud) (.ref t.se)=some false
 NG:PySem.W.exmOne K (.ref t.Ud) (.ref t.ce)=some false
 LG:PySem.W.exmOne K (.ref t.Ud) (.ref t.Ud)=some true
 UG:PySem.W.exmOne K (.ref t.Ud) (.ref t.Gd)=some false
 UI:XB K t.Gd
 mB:MkX K t.Gd t.Kg
 ax:Ib K t.Gd "way"
 vt:Ib K t.Gd "other"
 Hy:Ib K t.Gd "at"
 lB:PySem.W.exmOne K (.ref t.Gd) (.ref t.pf)=some true
 LD:PySem.W.exmOne K (.ref t.Gd) (.ref t.Tc)=some false
 AG:PySem.W.exmOne K (.ref t.Gd) (.ref t.se)=some false
 FG:PySem.W.exmOne K (.ref t.Gd) (.ref t.ce)=some false
 XG:PySem.W.exmOne K (.ref t.Gd) (.ref t.Ud)=some false
 EG:PySem.W.exmOne K (.ref t.Gd) (.ref t.Gd)=some true
 OI:t.On ≠ t.Md
 SG:t.On ≠ t.Uc
 VG:t.On ≠ t.Wc
 fj:t.Md ≠ t.Uc
 Ti:t.Md ≠ t.Wc
 Wh:t.Uc ≠ t.Wc
 No:TQ K t.On "__init__" t.Yf
 fF:mg "FIGURES"=some t.Zw
 OD:ae (.str (Str.ofString "0123456789")) t.Zw
 eu:mg "LEAST_PLACES"=some t.Ul
 Rt:ae (.int 2) t.Ul
 KF:mg "LETTERS"=some t.Iw
 qE:ae (.str (Str.ofString "abcdefghijklmnopqrstuvwxyz")) t.Iw
 Xt:mg "MOST_FIGURES"=some t.wm
 cu:ae (.int 3) t.wm
 Kx:mg "MOST_LEAST"=some t.Cp
 Gw:ae (.int 60) t.Cp
 Yt:mg "MOST_LETTERS"=some t.am
 ft:ae (.int 8) t.am
 Py:mg "MOST_NEAR"=some t.ss
 Nz:ae (.int 30) t.ss
 fC:mg "MOST_OFF"=some t.Ku
 UB:ae (.int 30) t.Ku
 yv:mg "MOST_PLACES"=some t.Xn
 Xv:ae (.int 99) t.Xn
 Oy:mg "MOST_SIZE"=some t.sr
 ez:ae (.int 240) t.sr
 ny:mg "MOST_SPANS"=some t.up
 Rx:ae (.int 3) t.up
 uz:mg "MOST_WAYS"=some t.Qq
 Oz:ae (.int 12) t.Qq
 DQ:mg "all"=none
 MO:mg "bool"=none
 Jh:mg "enumerate"=none
 IQ:mg "int"=none
 ly:mg "isinstance"=none
 Ql:mg "len"=none
 Ww:mg "list"=none
 ZO:mg "max"=none
 EQ:mg "min"=none
 Nj:mg "range"=none
 Eo:mg "reversed"=none
 EC:mg "str"=none
 jN:∀ (s:Shared) (u:Value),BindsTo s t.ZI ⟨[u],[]⟩ [("_law_script",u)]
section
variable {w:World} {K:W.Frag} {mg:Str->Option Value} {t:Adr} (T:Txt w K mg t)
include T
theorem Txt.pB:Ub K t.aq ["places","way","place"] []:=T.iq.binds fun _ _ _ _ _ _=>us3 fun _ _ _=>rfl
theorem Txt.kx:Ub K t.Rh ["places","way","second"] []:=T.Fk.binds fun _ _ _ _ _ _=>us3 fun _ _ _=>rfl
theorem Txt.TN:Ub K t.yB ["crossing","one","other"] []:=T.NF.binds fun _ _ _ _ _ _=>us3 fun _ _ _=>rfl
theorem Txt.zQ:Ub K t.rH ["crossing","one","other"] []:=T.lM.binds fun _ _ _ _ _ _=>us3 fun _ _ _=>rfl
theorem Txt.pL:Ub K t.fv ["text"] []:=T.Ky.binds fun _ _ _ _ _ _=>us1 fun _=>rfl
theorem Txt.jp:Ub K t.Sg ["word","signs","most"] []:=T.Th.binds fun _ _ _ _ _ _=>us3 fun _ _ _=>rfl
theorem Txt.Pz:Ub K t.Hj ["word","most_figures"] []:=T.Em.binds fun _ _ _ _ _ _=>us2 fun _ _=>rfl
theorem Txt.jy:Ub K t.Vk ["word","low","high"] []:=T.vn.binds fun _ _ _ _ _ _=>us3 fun _ _ _=>rfl
theorem Txt.qF:Ub K t.En ["word"] []:=T.Cr.binds fun _ _ _ _ _ _=>us1 fun _=>rfl
theorem Txt.Lw:Ub K t.rk ["text"] []:=T.Wn.binds fun _ _ _ _ _ _=>us1 fun _=>rfl
theorem Txt.zm:Ub K t.cf ["marks"] []:=T.xg.binds fun _ _ _ _ _ _=>us1 fun _=>rfl
theorem Txt.wt:Ub K t.vg ["marks"] []:=T.Ii.binds fun _ _ _ _ _ _=>us1 fun _=>rfl
theorem Txt.dj:Ub K t.wf ["spans","name"] []:=T.Xf.binds fun _ _ _ _ _ _=>us2 fun _ _=>rfl
theorem Txt.vp:Ub K t.Ig ["size","spans","name"] []:=T.Sh.binds fun _ _ _ _ _ _=>us3 fun _ _ _=>rfl
theorem Txt.lO:Ub K t.BB ["way","size","spans"] []:=T.vF.binds fun _ _ _ _ _ _=>us3 fun _ _ _=>rfl
theorem Txt.Zz:Ub K t.Kj ["reader"] []:=T.Lm.binds fun _ _ _ _ _ _=>us1 fun _=>rfl
theorem Txt.kz:Ub K t.Cj ["reader","crossing","size","spans"] []:=T.Dm.binds fun _ _ _ _ _ _=>us4 fun _ _ _ _=>rfl
theorem Txt.Xz:Ub K t.Mh ["crossing","text"] []:=T.Nm.binds fun _ _ _ _ _ _=>us2 fun _ _=>rfl
theorem Txt.xt:Ub K t.lg ["crossing","spans"] []:=T.Ci.binds fun _ _ _ _ _ _=>us2 fun _ _=>rfl
theorem Txt.Ik:Ub K t.oe ["size","spans","place"] []:=T.Se.binds fun _ _ _ _ _ _=>us3 fun _ _ _=>rfl
theorem Txt.dt:Ub K t.jg ["crossing","size","spans"] []:=T.Gi.binds fun _ _ _ _ _ _=>us3 fun _ _ _=>rfl
theorem Txt.Jo:Ub K t.Xe ["crossing","one","other","since_one","since_other"] []:=T.gg.binds fun _ _ _ _ _ _=>us5 fun _ _ _ _ _=>rfl
theorem Txt.ut:Ub K t.Bg ["crossing","size","spans"] []:=T.Ki.binds fun _ _ _ _ _ _=>us3 fun _ _ _=>rfl
theorem Txt.Br:Ub K t.bg ["crossing","size","rows"] []:=T.Dj.binds fun _ _ _ _ _ _=>us3 fun _ _ _=>rfl
theorem Txt.Nx:Ub K t.Hn ["plan"] []:=T.Yn.binds fun _ _ _ _ _ _=>us1 fun _=>rfl
theorem Txt.bA:Ub K t.Ej ["reader"] []:=T.Um.binds fun _ _ _ _ _ _=>us1 fun _=>rfl
theorem Txt.Ls:Ub K t.Af ["reader","ways"] []:=T.Eh.binds fun _ _ _ _ _ _=>us2 fun _ _=>rfl
theorem Txt.NB:Ub K t.Dl ["reader","places","start"] []:=T.Bo.binds fun _ _ _ _ _ _=>us3 fun _ _ _=>rfl
theorem Txt.KC:Ub K t.Ol ["sort","name","start","end","off","near","least"] []:=T.Io.binds fun _ _ _ _ _ _=>us7 fun _ _ _ _ _ _ _=>rfl
theorem Txt.NC:Ub K t.Fl ["reader","places","ways"] []:=T.Lo.binds fun _ _ _ _ _ _=>us3 fun _ _ _=>rfl
theorem Txt.Gq:Ub K t.Df ["text"] []:=T.Dh.binds fun _ _ _ _ _ _=>us1 fun _=>rfl
theorem Txt.RH:Ub K t.oq ["plan","name","turn"] []:=T.Tv.binds fun _ _ _ _ _ _=>us3 fun _ _ _=>rfl
theorem Txt.DJ:Ub K t.Fu ["plan","name","turn"] []:=T.fA.binds fun _ _ _ _ _ _=>us3 fun _ _ _=>rfl
theorem Txt.kc:Ub K t.qf ["_law_script","_law_k","_law_many"] []:=T.Vb.binds fun _ _ _ _ _ _=>us3 fun _ _ _=>rfl
theorem Txt.Mz:Ub K t.Jj ["_law_script","_law_most"] []:=T.Pm.binds fun _ _ _ _ _ _=>us2 fun _ _=>rfl
theorem Txt.Tz:Ub K t.Gj ["_law_places","_law_ways_here"] []:=T.Qm.binds fun _ _ _ _ _ _=>us2 fun _ _=>rfl
theorem Txt.Gs:Ub K t.Aj ["_law_places","_law_one","_law_other"] []:=T.zj.binds fun _ _ _ _ _ _=>us3 fun _ _ _=>rfl
theorem Txt.Uv:Ub K t.mh ["_law_script","_law_places","_law_ways_here"] []:=T.Oj.binds fun _ _ _ _ _ _=>us3 fun _ _ _=>rfl
theorem Txt.ux:Ub K t.Xh ["_law_script","_law_places","_law_ways_here"] []:=T.yk.binds fun _ _ _ _ _ _=>us3 fun _ _ _=>rfl
theorem Txt.pz:Ub K t.mj ["_law_size","_law_rows","_law_name","_law_turn"] []:=T.Hm.binds fun _ _ _ _ _ _=>us4 fun _ _ _ _=>rfl
theorem Txt.Pr:Ub K t.oj ["_law_plan","_law_size","_law_rows","_law_names","_law_turns"] []:=T.vj.binds fun _ _ _ _ _ _=>us5 fun _ _ _ _ _=>rfl
theorem Txt.fm:Ub K t.zg ["_law_plan"] []:=T.og.binds fun _ _ _ _ _ _=>us1 fun _=>rfl
theorem Txt.Jv:Ub K t.jh ["self","row","word"] []:=T.ao.binds fun _ _ _ _ _ _=>us3 fun _ _ _=>rfl
theorem Txt.Rw:Ub K t.Ai ["self","name"] []:=T.lp.binds fun _ _ _ _ _ _=>us2 fun _ _=>rfl
theorem Txt.Yw:Ub K t.xi ["self","way"] []:=T.Xo.binds fun _ _ _ _ _ _=>us2 fun _ _=>rfl
theorem Txt.Vx:Ub K t.di ["self","way","at"] []:=T.Ep.binds fun _ _ _ _ _ _=>us3 fun _ _ _=>rfl
theorem Txt.Xx:Ub K t.Zh ["self","way","other","at"] []:=T.Fp.binds fun _ _ _ _ _ _=>us4 fun _ _ _ _=>rfl
theorem Txt.Mp:Ub K t.kf ["self","row","told"] []:=T.Yj.binds fun _ _ _ _ _ _=>us3 fun _ _ _=>rfl
theorem Txt.Td:Ub K t.Cc ["self"] []:=T.Oi.binds fun _ _ _ _ _ _=>us1 fun _=>rfl
theorem Txt.dh:Ub K t.Ld ["self"] []:=T.eh.binds fun _ _ _ _ _ _=>us1 fun _=>rfl
theorem Txt.mi:Ub K t.pe ["self"] []:=T.vi.binds fun _ _ _ _ _ _=>us1 fun _=>rfl
theorem Txt.Ge:Ub K t.Jc ["self","good"] []:=T.Vg.binds fun _ _ _ _ _ _=>us2 fun _ _=>rfl
theorem Txt.qe:Ub K t.Fc ["self","choices"] []:=T.Gf.binds fun _ _ _ _ _ _=>us2 fun _ _=>rfl
theorem Txt.bc:Ub K t.fc ["self","low","high"] []:=T.mf.binds fun _ _ _ _ _ _=>us3 fun _ _ _=>rfl
theorem Txt.Ke:Ub K t.Ec ["self"] []:=T.Of.binds fun _ _ _ _ _ _=>us1 fun _=>rfl
theorem Txt.iz:Ub K t.rj ["self","crossing","size","spans"] []:=T.Fs.binds fun _ _ _ _ _ _=>us4 fun _ _ _ _=>rfl
theorem Txt.yo:Ub K t.uh ["self","kind","name","start","end","off","near","least"] []:=T.Vu.binds fun _ _ _ _ _ _=>us8 fun _ _ _ _ _ _ _ _=>rfl
theorem Txt.gw:Ub K t.kh ["self","name","start","end","off","near","least"] []:=T.mn.binds fun _ _ _ _ _ _=>us7 fun _ _ _ _ _ _ _=>rfl
theorem Txt.Bt:Ub K t.Fi ["self"] []:=T.Rl.binds fun _ _ _ _ _ _=>us1 fun _=>rfl
theorem Txt.Sv:Ub K t.Lj ["self"] []:=T.Qn.binds fun _ _ _ _ _ _=>us1 fun _=>rfl
theorem Txt.Qt:Ub K t.Dg ["self","name","start","end","off","near","least"] []:=T.jm.binds fun _ _ _ _ _ _=>us7 fun _ _ _ _ _ _ _=>rfl
theorem Txt.Dq:Ub K t.xh ["self"] []:=T.Ck.binds fun _ _ _ _ _ _=>us1 fun _=>rfl
theorem Txt.kt:Ub K t.Di ["self"] []:=T.Yl.binds fun _ _ _ _ _ _=>us1 fun _=>rfl
theorem Txt.Tt:Ub K t.wg ["self","name","start","end","off","near","least"] []:=T.um.binds fun _ _ _ _ _ _=>us7 fun _ _ _ _ _ _ _=>rfl
theorem Txt.Kr:Ub K t.Ah ["self"] []:=T.Sk.binds fun _ _ _ _ _ _=>us1 fun _=>rfl
theorem Txt.Ht:Ub K t.Ei ["self"] []:=T.im.binds fun _ _ _ _ _ _=>us1 fun _=>rfl
theorem Txt.kr:Ub K t.Jf ["self","places","ways"] []:=T.Xk.binds fun _ _ _ _ _ _=>us3 fun _ _ _=>rfl
theorem Txt.Hd:Ub K t.ad ["self"] []:=T.Sj.binds fun _ _ _ _ _ _=>us1 fun _=>rfl
theorem Txt.Zi:Ub K t.Pd ["self","name"] []:=T.Wf.binds fun _ _ _ _ _ _=>us2 fun _ _=>rfl
theorem Txt.Nc:Ub K t.ic ["self","name"] []:=T.fg.binds fun _ _ _ _ _ _=>us2 fun _ _=>rfl
theorem Txt.uq:Ss K t.Tc:=Dr T.nG T.xy
theorem Txt.Fv:Ss K t.se:=Dr T.KI T.FA
theorem Txt.az:Ss K t.ce:=Dr T.IH T.xB
theorem Txt.wv:Ss K t.Ud:=Dr T.nH T.YA
theorem Txt.ur:Ss K t.Gd:=Dr T.UI T.mB
end
noncomputable def jj (ns:List Int) (k m:Int):Int:=
 ((((if 0 < (ns.length:Int) then ns.getD (k % (ns.length:Int)).toNat 0 else 0) % 1000003 + 31 * k * k + 1) * 48271 % 999983 * 7919) % 524287) % m
theorem uf (ns:List Int) (k:Int) {m:Int} (h:0 < m):0 <= jj ns k m:=Int.emod_nonneg _ (by omega)
theorem tf (ns:List Int) (k:Int) {m:Int} (h:0 < m):jj ns k m < m:=Int.emod_lt_of_pos _ h
noncomputable def Re (K:W.Frag) (a:Addr) (ns:List Int):Sp:=fun vs H Q _=>∃ k m,vs=[.ref a,.int k,.int m]/\Sc K a ns H/\(0 <= k/\k < 1000000)/\0 < m/\Q (.int (jj ns k m)) H
section
variable {P:Program} {w:World} {K:W.Frag} {mg:Str->Option Value} {base:Heap} {t:Adr}
theorem Ov (T:Txt w K mg t) (a:Addr) (ns:List Int) (h63:ns.length <= 63):Gb P w K mg base CX0 1 t.sf t.qf ["_law_script","_law_k","_law_many"] (Re K a ns):=by
 refine T.Vb.ok Yk (fun vs H Q E h=>?_) (fun _ _ _ s H vs Q E hr h=>?_)
 ·obtain ⟨k,m,rfl,_⟩:=h;rfl
 obtain ⟨k,m,rfl,S,⟨h0,h1⟩,hm,q⟩:=h;refine ⟨_,(cb (Db (i:=3) Yk.nd rfl (Or.inl rfl) (gv (dc FD (Ed wc rfl T.Ql Zc (bb (pv 0) fb)) xb (yc _)) (yd Zf (pv 0) (Nb Mf (pv 1) (Ed wc rfl T.Ql Zc (bb (pv 0) fb))) (fun _ _=>rfl)) xb))
   (cb (Db (i:=4) Yk.nd rfl (Or.inl rfl) (Nb Qc (Nb Qc (Nb Mf (pv 3) xb) (Nb Lu (Nb Lu xb (pv 1)) (pv 1))) xb))
   (ib (Lb (Nb Mf (Nb Mf (Nb Lu (Nb Mf (Nb Lu (pv 4) xb) xb) xb) xb) (pv 2)))))),?_⟩
 walk_at "RD";refine ⟨_,.inl S.seq,?_⟩;rw [length_map];have hkk:(0:Int) <= k * k/\k * k < 1000000 * 1000000:=⟨Int.mul_nonneg h0 h0,Int.mul_lt_mul' (by omega) h1 h0 (by decide)⟩;have fin:∀ i:Int,(0:Int) < 1000003/\qJ 31 k/\qJ (31 * k) k/\qJ (i % 1000003 + 31 * k * k + 1) 48271/\(0:Int) < 999983/\qJ ((i % 1000003 + 31 * k * k + 1) * 48271 % 999983) 7919/\(0:Int) < 524287/\0 < m:=by
  intro i;refine ⟨by decide,.inl (by decide),.inr (by omega),.inr (by decide),by decide,.inr (by decide),by decide,hm⟩
 by_cases c:(0:Int) < (ns.length:Int)
 ·rw [if_pos (decide_eq_true c)];have hk:0 <= k % (ns.length:Int)/\k % (ns.length:Int) < (ns.length:Int):=⟨Int.emod_nonneg _ (by omega),Int.emod_lt_of_pos _ c⟩;refine ⟨_,.inl S.seq,by rw [length_map];exact c,_,S.seq,?_⟩;rw [length_map];have hj:(k % (ns.length:Int)).toNat < ns.length:=by omega
  refine ⟨.int ns[(k % (ns.length:Int)).toNat],?_,_,rfl,?_⟩
  ·have e:=Bc (xs:=ns.map V.int) (j:=(k % (ns.length:Int)).toNat) (v:=.int ns[(k % (ns.length:Int)).toNat]) (by rw [getElem?_map,getElem?_eq_getElem hj] <;> rfl);rwa [Int.toNat_of_nonneg hk.1] at e
  ·obtain ⟨f1,f2,f3,f4,f5,f6,f7,f8⟩:=fin ns[(k % (ns.length:Int)).toNat];refine ⟨f1,f2,f3,f4,f5,f6,f7,f8,?_⟩;have e:jj ns k m=(((ns[(k % (ns.length:Int)).toNat] % 1000003 + 31 * k * k + 1) * 48271 % 999983 * 7919) % 524287) % m:=by
    unfold jj;rw [if_pos c,getD_eq_getElem?_getD,getElem?_eq_getElem hj];rfl
   rw [<- e];exact q
 ·rw [if_neg (by simpa using c)];obtain ⟨f1,f2,f3,f4,f5,f6,f7,f8⟩:=fin 0;refine ⟨f1,f2,f3,f4,f5,f6,f7,f8,?_⟩;have e:jj ns k m=(((0 % 1000003 + 31 * k * k + 1) * 48271 % 999983 * 7919) % 524287) % m:=by
   unfold jj;rw [if_neg c]
  rw [<- e];exact q
end
theorem PP {w:Str}:w=Str.ofString "" ↔ w.length=0:=by
 constructor
 ·rintro rfl;decide +kernel
 ·intro h;have e:w.cps=#[]:=Array.eq_empty_of_size_eq_zero h;have e2:(Str.ofString "").cps=#[]:=by decide +kernel
  cases w;cases h2:Str.ofString "";rw [h2] at e2;simp only at e e2;rw [e,e2]
noncomputable def inL (sg:Str) (c:Nat):Bool:=!(Builtin.Str.occurrences sg (uO c) 0 sg.length 1).isEmpty
theorem Dz (sg:Str) (c:Nat):inL sg c=decide (c ∈ sg.cps.toList):=StrLaws.found_one sg c
noncomputable def made (w sg:Str) (m:Int):Bool:=if w=Str.ofString "" then false else if m < (w.length:Int) then false else w.cps.toList.all (inL sg)
noncomputable def Es:Sp:=fun vs H Q _=>∃ w sg m,vs=[.str w,.str sg,.int m]/\w.length <= 1000/\NoT H/\Q (.bl (made w sg m)) H
noncomputable def aI:Sp:=fun vs H Q _=>∃ w sg m,vs=[.str w,.str sg,.int m]/\w.length <= 1000/\∀ H',Pb H H'->Q (.bl (made w sg m)) H'
section
variable {P:Program} {w:World} {K:W.Frag} {mg:Str->Option Value} {base:Heap} {t:Adr}
theorem WF (T:Txt w K mg t):Gb P w K mg base CX0 1 t.Fg t.Sg ["word","signs","most"] Es:=by
 refine Gb.forget (sp:=aI) ?_ fun vs H Q E h=>?_
 ·refine T.Th.ok sv (fun vs H Q E h=>?_) (fun _ _ _ s H vs Q E hr h=>?_)
  ·obtain ⟨w,sg,m,rfl,_⟩:=h;rfl
  obtain ⟨w,sg,m,rfl,hz,q⟩:=h;have hz':w.length <= sizeLine:=Nat.le_trans hz (by decide);refine ⟨_,(cb (Ye (PW.pt (Gr (dc qk (pv 0) Rc (yc _)) (Gp (dc FD (Ed Yx rfl T.Ql Zc (bb (pv 0) fb)) (pv 2) (yc _))))) (ib (Lb Cm)) zc)
   (ib (Lb (Ed (XI rfl) rfl T.DQ nC (bb (Xg rfl (WO (pv 0)) (kd (sc:=rb Nk) rfl (by decide +kernel)) (N:=["sign","signs"]) (sel:=[none,some 1]) (Yd (M:=["word","signs","most"]) (by decide +kernel)) (Blk.of (fun _ _ _ _=>(Cb (i:=0) (Ug (N:=["sign","signs"]) (by decide +kernel) rfl) rfl (Or.inl rfl))) (fun _ _ _ _=>⟨_,ag,by walk_at "B"⟩) (fun _ _ _ _=>⟨_,(af pE (pv 0) (pv 1) (by with_unfolding_all rfl)),by walk_at "B"⟩))) fb))))),?_⟩
  walk_at "RD";refine Pc (decide (w=Str.ofString "") || decide (m < (w.length:Int))) (fun Q hQ=>?_) (fun hb=>?_) (fun hb=>?_)
  ·walk_at "RD";by_cases c:w=Str.ofString ""
   ·rw [if_pos (decide_eq_true c)];rw [decide_eq_true c,Bool.true_or] at hQ;exact hQ
   ·rw [if_neg (by simpa using c)];rw [decide_eq_false c,Bool.false_or] at hQ;exact ⟨hz',hQ⟩
  ·walk_at "RD";have e:made w sg m=false:=by
    unfold made;simp only [Bool.or_eq_true,decide_eq_true_eq] at hb;by_cases c:w=Str.ofString ""
    ·rw [if_pos c]
    ·rw [if_neg c,if_pos (hb.resolve_left c)]
   have:=q H (Pb.refl H);rw [e] at this;exact this
  ·walk_at "RD";have e:made w sg m=w.cps.toList.all (inL sg):=by
    unfold made;simp only [Bool.or_eq_false_iff,decide_eq_false_iff_not] at hb;rw [if_neg hb.1,if_neg hb.2]
   refine fe.its_map (fun x=>match x with | .str y=>.bl (!(Builtin.Str.occurrences sg y 0 sg.length 1).isEmpty) | _=>.non) (by rw [yn];exact hz') (fun i x N hx hN=>?_) (fun p hp=>?_)
   ·unfold fk at hx;rw [getElem?_map] at hx;cases hc:w.cps.toList[i]? with
    | none=>rw [hc] at hx;cases hx
    | some c=>
     rw [hc] at hx;have hx':V.str (uO c)=x:=Option.some.inj hx;subst hx';walk_at "RD";exact ⟨Sub.name,hN⟩
   ·refine ⟨p,rfl,w.cps.toList.map (inL sg),SqL.of ?_,?_⟩
    ·rw [db];unfold fk;rw [map_map,map_map];rfl
    ·have:=q (upd H p (.lst (List.map (fun x=>match x with | .str y=>.bl (!(Builtin.Str.occurrences sg y 0 sg.length 1).isEmpty) | _=>.non) (fk w)))) (wb hp);rw [e] at this;rw [List.all_map];exact this
 ·obtain ⟨w,sg,m,e,hz,nt,q⟩:=h;exact ⟨nt,w,sg,m,e,hz,fun H' sm=>⟨sm,q⟩⟩
end
noncomputable abbrev SK:Str:=Str.ofString "0123456789"
noncomputable def Tp (c:Nat):Bool:=decide (48 <= c/\c <= 57)
theorem JD:SK.cps.toList=[48,49,50,51,52,53,54,55,56,57]:=by decide +kernel
theorem bI (c:Nat):inL SK c=Tp c:=by
 rw [Dz,JD];unfold Tp;rw [Bool.eq_iff_iff];simp only [decide_eq_true_eq,mem_cons,not_mem_nil,or_false];omega
noncomputable abbrev cs (w:Str):List Nat:=w.cps.toList
theorem eF (w:Str):(cs w).length=w.length:=by simp [cs,Str.length]
noncomputable def okB (w:Str):Bool:=decide (1 <= (cs w).length) && decide ((cs w).length <= 3) && (cs w).all Tp && (decide ((cs w).length <= 1) || decide ((cs w).headD 0 ≠ 48))
noncomputable abbrev val (w:Str):Int:=((NumText.digitsVal (cs w):Nat):Int)
noncomputable def Iq (w:Str) (lo hi:Int):V:=if okB w && !(decide (val w < lo) || decide (hi < val w)) then .int (val w) else .non
theorem QD {w:Str} {c:Nat}:w=⟨#[c]⟩↔cs w=[c]:=by
 constructor
 ·rintro rfl;rfl
 ·intro h;cases w with
  | mk a=>
   have e:a=#[c]:=Array.toList_inj.mp h;rw [e]
theorem Qy:Str.ofString "0"=⟨#[48]⟩:=by decide +kernel
theorem vy (w:Str):made w SK 3=(decide (1 <= (cs w).length) && decide ((cs w).length <= 3) && (cs w).all Tp):=by
 unfold made;have e:(inL SK)=Tp:=funext bI;rw [e];by_cases h1:w=Str.ofString ""
 ·have h2:=PP.mp h1;rw [if_pos h1,eF,h2];rfl
 ·have h2:¬ w.length=0:=fun z=>h1 (PP.mpr z)
  rw [if_neg h1,eF];by_cases h3:(3:Int) < (w.length:Int)
  ·rw [if_pos h3,decide_eq_false (show ¬ w.length <= 3 by omega),Bool.and_false,Bool.false_and]
  ·rw [if_neg h3,decide_eq_true (show 1 <= w.length by omega),decide_eq_true (show w.length <= 3 by omega)];rfl
theorem av {l:List Nat} (h:l.all Tp=true):NumText.AllDigits l:=fun c hc=>by
 have:=List.all_eq_true.mp h c hc;simpa [Tp] using this
theorem nO {w:Str} (h:okB w=true):(1 <= (cs w).length/\(cs w).length <= 3)/\(cs w).all Tp=true:=by
 unfold okB at h;simp only [Bool.and_eq_true,decide_eq_true_eq] at h;exact h.1
noncomputable def eG:Sp:=fun vs H Q _=>∃ w,vs=[.str w,.int 3]/\w.length <= 1000/\NoT H/\Q (.bl (okB w)) H
noncomputable def AD:Sp:=fun vs H Q _=>∃ w lo hi,vs=[.str w,.int lo,.int hi]/\w.length <= 1000/\NoT H/\Q (Iq w lo hi) H
section
variable {P:Program} {w:World} {K:W.Frag} {mg:Str->Option Value} {base:Heap} {t:Adr}
theorem FP (T:Txt w K mg t):Gb P w K mg base CX0 2 t.Qj t.Hj ["word","most_figures"] eG:=by
 have g23:Gb P w K mg base CX0 1 t.Fg t.Sg ["word","signs","most"] Es:=WF T;refine T.Em.ok ix (fun vs H Q E h=>?_) (fun _ _ _ s H vs Q E hr h=>?_)
 ·obtain ⟨w,rfl,_⟩:=h;rfl
 obtain ⟨w,rfl,hz,nt,q⟩:=h;have hz':w.length <= sizeLine:=Nat.le_trans hz (by decide);refine ⟨_,(cb (Ye (cj (Ph (Bb g23 hr rfl T.pp T.Th.kp T.jp .nil Fb (bb (pv 0) (bb (Wg rfl T.fF T.OD) (bb (pv 1) fb)))))) (ib (Lb Cm)) zc)
   (ib (Lb (ON (af qk (pv 0) Rc (yc _)) (Dx (af Dt (yd ZJ (pv 0) xb (fun _ _=>rfl)) Rc (yc _))))))),?_⟩
 refine Pc (!made w SK 3) (fun Q hQ=>?_) (fun hb=>?_) (fun hb=>?_)
 ·(walk_at "RD"; repeat (simp only [Es];walk_at "RD"));exact ⟨hz,nt,hQ⟩
 ·walk_at "RD";have e:okB w=false:=by
   have hb':made w SK 3=false:=by simpa using hb
   rw [vy] at hb';unfold okB;rw [hb'];rfl
  rw [e] at q;exact q
 ·have hb':made w SK 3=true:=by simpa using hb
  rw [vy] at hb';rw [oh];dsimp only;refine uM (.bl (okB w)) (fun Q hQ=>?_) ?_
  case refine_2=>exact q
  walk_at "RD";have hb2:(1 <= (cs w).length/\(cs w).length <= 3)/\(cs w).all Tp=true:=by
   simpa only [Bool.and_eq_true,decide_eq_true_eq] using hb'
  obtain ⟨c,r,hcr⟩:∃ c r,cs w=c :: r:=by
   cases h:cs w with
   | nil=>rw [h] at hb2;exact absurd hb2.1.1 (by decide)
   | cons c r=>exact ⟨c,r,rfl⟩
  have ok:okB w=(decide ((cs w).length <= 1) || decide ((cs w).headD 0 ≠ 48)):=by
   unfold okB;rw [hb',Bool.true_and]
  by_cases c0:w=Str.ofString "0"
  ·rw [if_pos (decide_eq_true c0)];have e:cs w=[48]:=by rw [c0,Qy]
   rw [ok,e] at hQ;exact hQ
  ·rw [if_neg (by simpa using c0)];refine ⟨hz',c,?_,?_⟩
   ·have:=Bc (xs:=cs w) (j:=0) (v:=c) (by rw [hcr];rfl);exact this
   ·have e2:decide ((⟨#[c]⟩:Str)=Str.ofString "0")=decide (c=48):=by
     rw [Qy];by_cases h48:c=48
     ·rw [h48];simp
     ·rw [decide_eq_false h48,decide_eq_false];intro z;have z2:=QD.mp z;exact h48 (List.cons.inj z2).1
    rw [e2];have e3:okB w = !decide (c=48):=by
     rw [ok,hcr];show (decide ((c :: r).length <= 1) || decide (c ≠ 48))=_;by_cases h48:c=48
     ·have hr:r ≠ []:=fun z=>c0 (by rw [Qy];exact QD.mpr (by rw [hcr,z,h48]))
      have:¬ (c :: r).length <= 1:=by
       cases r with
       | nil=>exact absurd rfl hr
       | cons d r=>simp
      rw [decide_eq_false this,h48];rfl
     ·rw [decide_eq_true h48,Bool.or_true,decide_eq_false h48];rfl
    rw [<- e3];exact hQ
theorem aK (T:Txt w K mg t):Gb P w K mg base CX0 3 t.Hk t.Vk ["word","low","high"] AD:=by
 have g39:Gb P w K mg base CX0 2 t.Qj t.Hj ["word","most_figures"] eG:=FP T;refine T.vn.ok Cu (fun vs H Q E h=>?_) (fun _ _ _ s H vs Q E hr h=>?_)
 ·obtain ⟨w,lo,hi,rfl,_⟩:=h;rfl
 obtain ⟨w,lo,hi,rfl,hz,nt,q⟩:=h;refine ⟨_,(cb (Ye (cj (Ph (Bb g39 hr rfl T.Wz T.Em.kp T.Pz .nil Fb (bb (pv 0) (bb (Wg rfl T.Xt T.cu) fb))))) (ib (Lb Qw)) zc)
   (cb (Db (i:=3) Cu.nd rfl (Or.inl rfl) (gf ME rfl T.IQ lC (bb (pv 0) fb)))
   (cb (Ye (PW.pt (Gr (dc Av (pv 3) (pv 1) (yc _)) (Gp (dc FD (pv 3) (pv 2) (yc _))))) (ib (Lb Qw)) zc)
   (ib (Lb (pv 3)))))),?_⟩
 refine Pc (!okB w) (fun Q hQ=>?_) (fun hb=>?_) (fun hb=>?_)
 ·(walk_at "RD"; repeat (simp only [eG];walk_at "RD"));exact ⟨hz,nt,hQ⟩
 ·walk_at "RD";have hb':okB w=false:=by simpa using hb
  have e:Iq w lo hi=.non:=by unfold Iq;rw [hb'];rfl
  rw [e] at q;exact q
 ·have hb':okB w=true:=by simpa using hb
  have h3:(1 <= (cs w).length/\(cs w).length <= 3)/\(cs w).all Tp=true:=by
   have:=hb';unfold okB at this;simp only [Bool.and_eq_true,decide_eq_true_eq] at this;exact this.1
  have hl:=eF w;have hi':intText? w=some (val w):=intText_digits (av h3.2) (fun z=>by have z':cs w=[]:=z;rw [z'] at h3;exact absurd h3.1.1 (by decide)) (by omega);walk_at "RD";refine ⟨val w,hi',by omega,?_⟩;refine Pc (decide (val w < lo) || decide (hi < val w)) (fun Q hQ=>?_) (fun hc=>?_) (fun hc=>?_)
  ·walk_at "RD";by_cases c:val w < lo
   ·rw [if_pos (decide_eq_true c)];rw [decide_eq_true c,Bool.true_or] at hQ;exact hQ
   ·rw [if_neg (by simpa using c)];rw [decide_eq_false c,Bool.false_or] at hQ;exact hQ
  ·walk_at "RD";have e:Iq w lo hi=.non:=by unfold Iq;rw [hb',hc];rfl
   rw [e] at q;exact q
  ·walk_at "RD";have e:Iq w lo hi=.int (val w):=by unfold Iq;rw [hb',hc];rfl
   rw [e] at q;exact q
end
theorem Hs {n:Nat} (h:n < 1000):n.log2 < 1920:=by
 by_cases h0:n=0
 ·subst h0;decide
 ·rw [Nat.log2_lt h0];exact Nat.lt_of_lt_of_le h (Nat.le_trans (show 1000 <= 2 ^ 10 by decide) (Nat.pow_le_pow_right (by decide) (by decide)))
theorem HI:∀ n,n < 1000->(Nat.toDigits 10 n).length <= 3:=by decide +kernel
theorem eg {n:Int} (h0:0 <= n) (h1:n <= 999):(Str.ofString (toString n)).length <= 3:=by
 have e:=PySem.W.KIN.signs_num n.toNat;rw [Int.toNat_of_nonneg h0] at e;have l:(Str.ofString (toString n)).length=(Str.ofString (toString n)).cps.toList.length:=by simp [Str.length]
 rw [l,e,length_map];exact HI _ (by omega)
noncomputable abbrev lj:Str:=Str.ofString "abcdefghijklmnopqrstuvwxyz"
noncomputable def nF:Sp:=fun vs H Q _=>∃ w,vs=[.str w]/\w.length <= 1000/\NoT H/\Q (.bl (made w lj 8)) H
section
variable {P:Program} {w:World} {K:W.Frag} {mg:Str->Option Value} {base:Heap} {t:Adr}
theorem TK (T:Txt w K mg t):Gb P w K mg base CX0 2 t.Gn t.En ["word"] nF:=by
 have g23:Gb P w K mg base CX0 1 t.Fg t.Sg ["word","signs","most"] Es:=WF T;refine T.Cr.ok wC (fun vs H Q E h=>?_) (fun _ _ _ s H vs Q E hr h=>?_)
 ·obtain ⟨w,rfl,_⟩:=h;rfl
 obtain ⟨w,rfl,hz,nt,q⟩:=h;refine ⟨_,(ib (Lb (Bb g23 hr rfl T.pp T.Th.kp T.jp .nil Fb (bb (pv 0) (bb (Wg rfl T.KF T.qE) (bb (Wg rfl T.Yt T.ft) fb)))))),?_⟩;(walk_at "RD"; repeat (simp only [Es];walk_at "RD"));exact ⟨hz,nt,q⟩
end
noncomputable abbrev nl:Str:=Str.ofString "\n"
noncomputable abbrev bk:Str:=Str.ofString " "
theorem CI:nl=⟨#[10]⟩:=by decide +kernel
theorem oy:bk=⟨#[32]⟩:=by decide +kernel
noncomputable def Zg (x:Str):List (List Str):=(Txt.split x nl).map fun r=>Txt.split r bk
theorem Iu:∀ {ys:List Str} {y:Str},y ∈ ys->y.length <= (ys.map (·.length)).sum
 | [],_,h=>nomatch h
 | a :: r,y,h=>by
  rw [map_cons,List.sum_cons];rcases List.mem_cons.mp h with rfl | h
  ·omega
  ·have:=Iu h;omega
theorem QK {x y r:Str} (hy:1 <= y.length) (h:r ∈ Txt.split x y):r.length <= x.length + 1:=by
 have h1:=PyProof.Rows.split_weight x y hy;have h2:=Iu h;omega
theorem ms {x y:Str} (hy:1 <= y.length):(Txt.split x y).length <= x.length + 1:=by
 have h1:=PyProof.Rows.split_weight x y hy;omega
theorem VI (x y:Str):Txt.split x y ≠ []:=by
 unfold Txt.split;split
 ·simp
 ·split
  ·simp
  ·rw [StrLaws.partsBetween_eq];obtain ⟨p,r,e⟩:=StrLaws.partsFrom_ne x y.length 0 (Builtin.Str.occurrences x y 0 x.length (x.length + 1));rw [e];simp
noncomputable def LL (H0 H:Hp) (p:Addr) (rows:List (List Str)):Prop:=∃ qs:List Addr,H p=some (.lst (qs.map V.ref))/\H0 p=none/\p ∉ qs/\qs.length=rows.length/\∀ (i:Nat) (q:Addr) (r:List Str),qs[i]? = some q->rows[i]? = some r->H q=some (.lst (Jb r))/\H0 q=none
noncomputable def MA:Sp:=fun vs H Q _=>∃ x,vs=[.str x]/\x.length <= 20000/\NoT H/\∀ p H',Pb H H'->NoT H'->LL H H' p (Zg x)->Q (.ref p) H'
theorem uA:nl.length=1:=by decide +kernel
theorem Px:bk.length=1:=by decide +kernel
section
variable {P:Program} {w:World} {K:W.Frag} {mg:Str->Option Value} {base:Heap} {t:Adr}
theorem jI (T:Txt w K mg t):Gb P w K mg base CX0 1 t.jv t.fv ["text"] MA:=by
 refine T.Ky.ok lJ (fun vs H Q E h=>?_) (fun _ _ _ s H vs Q E hr h=>?_)
 ·obtain ⟨x,rfl,_⟩:=h;rfl
 obtain ⟨x,rfl,hz,nt,q⟩:=h;have hzz:∀ n:Nat,n <= 40000->n <= sizeLine:=fun n h=>Nat.le_trans h (by decide)
 refine ⟨_,(ib (Lb (Xg rfl (Ac (ol PySem.F.plainAttrs_str PySem.F.slot_str_split PySem.F.type_str_split jB (pv 0) (bb Rc fb))) (kd (sc:=rb Yz) rfl (by decide +kernel)) (N:=["row"]) (sel:=[none]) (Yd (M:=["text"]) (by decide +kernel)) (Blk.of (fun _ _ _ _=>(Cb (i:=0) (Ug (N:=["row"]) (by decide +kernel) rfl) rfl (Or.inl rfl))) (fun _ _ _ _=>⟨_,ag,by walk_at "B"⟩) (fun _ _ _ _=>⟨_,(ol PySem.F.plainAttrs_str PySem.F.slot_str_split PySem.F.type_str_split jB (pv 0) (bb Rc fb)),by walk_at "B"⟩))))),?_⟩;walk_at "RD";have hy:1 <= nl.length:=by rw [uA];exact Nat.le_refl _
 have hy2:1 <= bk.length:=by rw [Px];exact Nat.le_refl _
 have hs:=ms (x:=x) hy;have hs':(Jb (Txt.split x nl)).length <= sizeLine:=by unfold Jb;rw [length_map];exact hzz _ (by omega)
 refine ⟨by rw [uA];decide,hzz _ (by omega),hzz _ (show (Txt.split x nl).length <= 40000 by omega),fun p hp=>⟨⟨_,SqL.of db⟩,?_⟩⟩;refine fe.list_mk (xs:=Jb (Txt.split x nl)) (fun v=>match v with | .str r=>.lst (Jb (Txt.split r bk)) | _=>.lst []) (SqL.of db) hs' (fun v=>by cases v <;> rfl) (fun i v H1 N hx sm nt1 hN=>?_) (fun qs H1 sm nt1 hl al p2 hp2=>?_)
 ·unfold Jb at hx;rw [getElem?_map] at hx;cases hr:(Txt.split x nl)[i]? with
  | none=>rw [hr] at hx;cases hx
  | some r=>
   rw [hr] at hx;have e:=Option.some.inj hx;subst e;have hm:=QK hy (mem_of_getElem? hr);have hs2:=ms (x:=r) hy2;walk_at "RD";exact ⟨Sub.name,by rw [Px];decide,hzz _ (by omega),hzz _ (show (Txt.split r bk).length <= 40000 by omega),hN⟩
 ·have sm0:Pb H H1:=(wb hp).trans sm;refine q _ _ (sm0.updN (sm0.free hp2)) ((nt1 (nt.upd)).upd) ⟨qs,db,sm0.free hp2,fun hm=>?_,?_,fun i q' r h1 h2=>?_⟩
  ·obtain ⟨j,hj,e⟩:=getElem_of_mem hm;have hj2:j < (Jb (Txt.split x nl)).length:=by omega
   have:=al j p2 _ (by rw [getElem?_eq_getElem hj,e]) (getElem?_eq_getElem hj2);rw [hp2] at this;cases this.1
  ·rw [hl];unfold Zg Jb;rw [length_map,length_map]
  ·unfold Zg at h2;rw [getElem?_map] at h2;cases hr:(Txt.split x nl)[i]? with
   | none=>rw [hr] at h2;cases h2
   | some r0=>
    rw [hr] at h2;have e:=Option.some.inj h2;subst e;have z:=al i q' (.str r0) h1 (by unfold Jb;rw [getElem?_map,hr];rfl);refine ⟨by rw [jb (yb z.1 hp2)];exact z.1,?_⟩;have:=z.2;by_cases hq:q'=p
    ·rw [hq];exact hp
    ·rwa [jb hq] at this
end
end My
namespace My
open PySem L2
structure WD where
 k:Nat
 name:Str
 start:Int
 fin:Int
 off:Int
 near:Int
 least:Int
noncomputable def Ae:Nat->Str
 | 0=>Str.ofString "car"
 | 1=>Str.ofString "foot"
 | _=>Str.ofString "tram"
noncomputable def Adr.cw (t:Adr):Nat->Addr
 | 0=>t.Md
 | 1=>t.Uc
 | _=>t.Wc
noncomputable def Op (d:WD):List (Str × V):=[(Str.ofString "kind",.str (Ae d.k)),(Str.ofString "name",.str d.name),(Str.ofString "start",.int d.start),(Str.ofString "end",.int d.fin),(Str.ofString "off",.int d.off),(Str.ofString "near",.int d.near),(Str.ofString "least",.int d.least)]
noncomputable abbrev qt:List Str:=[Str.ofString "kind",Str.ofString "name",Str.ofString "start",Str.ofString "end",Str.ofString "off",Str.ofString "near",Str.ofString "least"]
theorem iu (d:WD):(Op d).map (·.1)=qt:=rfl
noncomputable def Oe (t:Adr) (H:Hp) (p:Addr) (d:WD):Prop:=d.k < 3/\∃ dx,H p=some (.ins (t.cw d.k) dx (Op d))
theorem Oe.same {t:Adr} {H H':Hp} {p:Addr} {d:WD} (h:Oe t H p d) (s:Pb H H'):Oe t H' p d:=⟨h.1,h.2.imp fun dx e=>s _ _ e⟩
noncomputable def isW (t:Adr) (C:Addr):Prop:=∃ k,k < 3/\C=t.cw k
noncomputable def Kc (d:WD):Int:=match d.k with | 0=>1 | 1=>0 | _=>2
noncomputable def ze (d:WD):Int:=match d.k with | 0=>2 | 1=>d.off | _=>1
section
variable {w:World} {K:W.Frag} {mg:Str->Option Value} {t:Adr}
theorem Txt.clw (T:Txt w K mg t):∀ k,Cls K (t.cw k)
 | 0=>T.js
 | 1=>T.uo
 | _ + 2=>T.So
theorem Txt.naw (T:Txt w K mg t) {f:Str} (hf:f ∈ qt):∀ k,Ib K (t.cw k) f:=by
 intro k;simp only [qt,mem_cons,not_mem_nil,or_false] at hf;rcases hf with rfl | rfl | rfl | rfl | rfl | rfl | rfl
 ·match k with
  | 0=>exact T.Zt
  | 1=>exact T.Hr
  | _ + 2=>exact T.yr
 ·match k with
  | 0=>exact T.bu
  | 1=>exact T.Zq
  | _ + 2=>exact T.zr
 ·match k with
  | 0=>exact T.Ir
  | 1=>exact T.Wp
  | _ + 2=>exact T.Up
 ·match k with
  | 0=>exact T.uv
  | 1=>exact T.yt
  | _ + 2=>exact T.zt
 ·match k with
  | 0=>exact T.Yv
  | 1=>exact T.au
  | _ + 2=>exact T.Mt
 ·match k with
  | 0=>exact T.Ot
  | 1=>exact T.Kq
  | _ + 2=>exact T.Xr
 ·match k with
  | 0=>exact T.Yq
  | 1=>exact T.Vp
  | _ + 2=>exact T.Xp
theorem Txt.cw_inj (T:Txt w K mg t) {j k:Nat} (hj:j < 3) (hk:k < 3) (e:t.cw j=t.cw k):j=k:=by
 match j,k,hj,hk with
 | 0,0,_,_=>rfl
 | 0,1,_,_=>exact absurd e T.fj
 | 0,2,_,_=>exact absurd e T.Ti
 | 1,0,_,_=>exact absurd e.symm T.fj
 | 1,1,_,_=>rfl
 | 1,2,_,_=>exact absurd e T.Wh
 | 2,0,_,_=>exact absurd e.symm T.Ti
 | 2,1,_,_=>exact absurd e.symm T.Wh
 | 2,2,_,_=>rfl
 | j + 3,_,h,_=>omega
 | _,k + 3,_,h=>omega
theorem Oe.fld (T:Txt w K mg t) {H:Hp} {p:Addr} {d:WD} (h:Oe t H p d) {f:Str} {v:V} (i:Nat) (hi:qt.findIdx? (· == f)=some i) (hv:(Op d)[i]? = some (f,v)):Qi K H p f v:=by
 obtain ⟨_,dx,e⟩:=h;have hm:f ∈ qt:=by
  obtain ⟨hlt,h1,_⟩:=List.findIdx?_eq_some_iff_getElem.mp hi;have:qt[i]=f:=by simpa using h1
  rw [<- this];exact getElem_mem hlt
 exact ⟨_,dx,_,e,T.clw _,T.naw hm _,Vd qt i (iu d) hi hv⟩
theorem Oe.f_name (T:Txt w K mg t) {H:Hp} {p:Addr} {d:WD} (h:Oe t H p d):Qi K H p (Str.ofString "name") (.str d.name):=h.fld T 1 (by decide +kernel) rfl
theorem Oe.f_start (T:Txt w K mg t) {H:Hp} {p:Addr} {d:WD} (h:Oe t H p d):Qi K H p (Str.ofString "start") (.int d.start):=h.fld T 2 (by decide +kernel) rfl
theorem Oe.f_end (T:Txt w K mg t) {H:Hp} {p:Addr} {d:WD} (h:Oe t H p d):Qi K H p (Str.ofString "end") (.int d.fin):=h.fld T 3 (by decide +kernel) rfl
theorem Oe.f_off (T:Txt w K mg t) {H:Hp} {p:Addr} {d:WD} (h:Oe t H p d):Qi K H p (Str.ofString "off") (.int d.off):=h.fld T 4 (by decide +kernel) rfl
theorem Oe.f_near (T:Txt w K mg t) {H:Hp} {p:Addr} {d:WD} (h:Oe t H p d):Qi K H p (Str.ofString "near") (.int d.near):=h.fld T 5 (by decide +kernel) rfl
theorem Oe.f_least (T:Txt w K mg t) {H:Hp} {p:Addr} {d:WD} (h:Oe t H p d):Qi K H p (Str.ofString "least") (.int d.least):=h.fld T 6 (by decide +kernel) rfl
end
noncomputable def aw (t:Adr):Sp:=fun vs H Q _=>∃ (p dx:Addr) (d:WD),vs=[.ref p,.str (Ae d.k),.str d.name,.int d.start,.int d.fin,.int d.off,.int d.near,.int d.least]/\d.k < 3/\H p=some (.ins (t.cw d.k) dx [])/\Q .non (upd H p (.ins (t.cw d.k) dx (Op d)))
noncomputable def Nl (t:Adr) (k:Nat):Sp:=fun vs H Q _=>∃ (p dx:Addr) (d:WD),vs=[.ref p,.str d.name,.int d.start,.int d.fin,.int d.off,.int d.near,.int d.least]/\d.k=k/\H p=some (.ins (t.cw d.k) dx [])/\Q .non (upd H p (.ins (t.cw d.k) dx (Op d)))
section
variable {P:Program} {w:World} {K:W.Frag} {mg:Str->Option Value} {base:Heap} {t:Adr}
theorem tz (T:Txt w K mg t):Gb P w K mg base CX0 1 t.Yf t.uh ["self","kind","name","start","end","off","near","least"] (aw t):=by
 refine T.Vu.ok Bs (fun vs H Q E h=>?_) (fun _ _ _ s H vs Q E hr h=>?_)
 ·obtain ⟨p,dx,d,rfl,_⟩:=h;rfl
 obtain ⟨p,dx,d,rfl,hk,hp,q⟩:=h;refine ⟨_,(cb (Vf (pv 0) (pv 1) rfl)
   (cb (Vf (pv 0) (pv 2) rfl)
   (cb (Vf (pv 0) (pv 3) rfl)
   (cb (Vf (pv 0) (pv 4) rfl)
   (cb (Vf (pv 0) (pv 5) rfl)
   (cb (Vf (pv 0) (pv 6) rfl)
   (ib (Vf (pv 0) (pv 7) rfl)))))))),?_⟩
 walk_at "RD";have na:∀ {f:Str},f ∈ qt->Ib K (t.cw d.k) f:=fun hf=>T.naw hf d.k
 refine ⟨_,_,_,hp,T.clw _,na (by decide +kernel),by decide,?_⟩;refine ⟨_,_,_,db,T.clw _,na (by decide +kernel),ko (n:=999) (by decide),?_⟩;refine ⟨_,_,_,db,T.clw _,na (by decide +kernel),ko (n:=999) (ko (n:=998) (by decide)),?_⟩;refine ⟨_,_,_,db,T.clw _,na (by decide +kernel),ko (n:=999) (ko (n:=998) (ko (n:=997) (by decide))),?_⟩;refine ⟨_,_,_,db,T.clw _,na (by decide +kernel),ko (n:=999) (ko (n:=998) (ko (n:=997) (ko (n:=996) (by decide)))),?_⟩;refine ⟨_,_,_,db,T.clw _,na (by decide +kernel),ko (n:=999) (ko (n:=998) (ko (n:=997) (ko (n:=996) (ko (n:=995) (by decide))))),?_⟩;refine ⟨_,_,_,db,T.clw _,na (by decide +kernel),ko (n:=999) (ko (n:=998) (ko (n:=997) (ko (n:=996) (ko (n:=995) (ko (n:=994) (by decide)))))),?_⟩;simp only [pj];rw [show lh (Str.ofString "kind") (V.str (Ae d.k)) ([]:List (Str × V))=[(Str.ofString "kind",V.str (Ae d.k))] from Ad [] rfl (by decide +kernel),
  show lh (Str.ofString "name") (V.str d.name) ([(Str.ofString "kind",V.str (Ae d.k))]:List (Str × V))=[(Str.ofString "kind",V.str (Ae d.k)),(Str.ofString "name",V.str d.name)] from Ad [Str.ofString "kind"] rfl (by decide +kernel),
  show lh (Str.ofString "start") (V.int d.start) ([(Str.ofString "kind",V.str (Ae d.k)),(Str.ofString "name",V.str d.name)]:List (Str × V))=[(Str.ofString "kind",V.str (Ae d.k)),(Str.ofString "name",V.str d.name),(Str.ofString "start",V.int d.start)] from Ad [Str.ofString "kind",Str.ofString "name"] rfl (by decide +kernel),
  show lh (Str.ofString "end") (V.int d.fin) ([(Str.ofString "kind",V.str (Ae d.k)),(Str.ofString "name",V.str d.name),(Str.ofString "start",V.int d.start)]:List (Str × V))=[(Str.ofString "kind",V.str (Ae d.k)),(Str.ofString "name",V.str d.name),(Str.ofString "start",V.int d.start),(Str.ofString "end",V.int d.fin)] from Ad [Str.ofString "kind",Str.ofString "name",Str.ofString "start"] rfl (by decide +kernel),
  show lh (Str.ofString "off") (V.int d.off) ([(Str.ofString "kind",V.str (Ae d.k)),(Str.ofString "name",V.str d.name),(Str.ofString "start",V.int d.start),(Str.ofString "end",V.int d.fin)]:List (Str × V))=[(Str.ofString "kind",V.str (Ae d.k)),(Str.ofString "name",V.str d.name),(Str.ofString "start",V.int d.start),(Str.ofString "end",V.int d.fin),(Str.ofString "off",V.int d.off)] from Ad [Str.ofString "kind",Str.ofString "name",Str.ofString "start",Str.ofString "end"] rfl (by decide +kernel),
  show lh (Str.ofString "near") (V.int d.near) ([(Str.ofString "kind",V.str (Ae d.k)),(Str.ofString "name",V.str d.name),(Str.ofString "start",V.int d.start),(Str.ofString "end",V.int d.fin),(Str.ofString "off",V.int d.off)]:List (Str × V))=[(Str.ofString "kind",V.str (Ae d.k)),(Str.ofString "name",V.str d.name),(Str.ofString "start",V.int d.start),(Str.ofString "end",V.int d.fin),(Str.ofString "off",V.int d.off),(Str.ofString "near",V.int d.near)] from Ad [Str.ofString "kind",Str.ofString "name",Str.ofString "start",Str.ofString "end",Str.ofString "off"] rfl (by decide +kernel),
  show lh (Str.ofString "least") (V.int d.least) ([(Str.ofString "kind",V.str (Ae d.k)),(Str.ofString "name",V.str d.name),(Str.ofString "start",V.int d.start),(Str.ofString "end",V.int d.fin),(Str.ofString "off",V.int d.off),(Str.ofString "near",V.int d.near)]:List (Str × V))=[(Str.ofString "kind",V.str (Ae d.k)),(Str.ofString "name",V.str d.name),(Str.ofString "start",V.int d.start),(Str.ofString "end",V.int d.fin),(Str.ofString "off",V.int d.off),(Str.ofString "near",V.int d.near),(Str.ofString "least",V.int d.least)] from Ad [Str.ofString "kind",Str.ofString "name",Str.ofString "start",Str.ofString "end",Str.ofString "off",Str.ofString "near"] rfl (by decide +kernel)]
 exact q
theorem MM (T:Txt w K mg t):Gb P w K mg base CX0 2 t.Sf t.kh ["self","name","start","end","off","near","least"] (Nl t 0):=by
 have g19:Gb P w K mg base CX0 1 t.Yf t.uh ["self","kind","name","start","end","off","near","least"] (aw t):=tz T;refine T.mn.ok bn (fun vs H Q E h=>?_) (fun _ _ _ s H vs Q E hr h=>?_)
 ·obtain ⟨p,dx,d,rfl,_⟩:=h;rfl
 obtain ⟨p,dx,d,rfl,hk,hp,q⟩:=h;refine ⟨_,(ib (Xb (Mv rfl T.gM T.No g19 hr T.yo .nil Fb (bb (pv 0) (bb Rc (bb (pv 1) (bb (pv 2) (bb (pv 3) (bb (pv 4) (bb (pv 5) (bb (pv 6) fb))))))))))),?_⟩;walk_at "RD";exact ⟨p,dx,d,by rw [hk];rfl,by omega,hp,q⟩
theorem wI (T:Txt w K mg t):Gb P w K mg base CX0 2 t.df t.Dg ["self","name","start","end","off","near","least"] (Nl t 1):=by
 have g19:Gb P w K mg base CX0 1 t.Yf t.uh ["self","kind","name","start","end","off","near","least"] (aw t):=tz T;refine T.jm.ok Jm (fun vs H Q E h=>?_) (fun _ _ _ s H vs Q E hr h=>?_)
 ·obtain ⟨p,dx,d,rfl,_⟩:=h;rfl
 obtain ⟨p,dx,d,rfl,hk,hp,q⟩:=h;refine ⟨_,(ib (Xb (Mv rfl T.gM T.No g19 hr T.yo .nil Fb (bb (pv 0) (bb Rc (bb (pv 1) (bb (pv 2) (bb (pv 3) (bb (pv 4) (bb (pv 5) (bb (pv 6) fb))))))))))),?_⟩;walk_at "RD";exact ⟨p,dx,d,by rw [hk];rfl,by omega,hp,q⟩
theorem eI (T:Txt w K mg t):Gb P w K mg base CX0 2 t.jf t.wg ["self","name","start","end","off","near","least"] (Nl t 2):=by
 have g19:Gb P w K mg base CX0 1 t.Yf t.uh ["self","kind","name","start","end","off","near","least"] (aw t):=tz T;refine T.um.ok Am (fun vs H Q E h=>?_) (fun _ _ _ s H vs Q E hr h=>?_)
 ·obtain ⟨p,dx,d,rfl,_⟩:=h;rfl
 obtain ⟨p,dx,d,rfl,hk,hp,q⟩:=h;refine ⟨_,(ib (Xb (Mv rfl T.gM T.No g19 hr T.yo .nil Fb (bb (pv 0) (bb Rc (bb (pv 1) (bb (pv 2) (bb (pv 3) (bb (pv 4) (bb (pv 5) (bb (pv 6) fb))))))))))),?_⟩;walk_at "RD";exact ⟨p,dx,d,by rw [hk];rfl,by omega,hp,q⟩
end
noncomputable def gj (t:Adr) (C:Addr):Sp:=fun vs H Q _=>∃ p d,vs=[.ref p]/\Oe t H p d/\C=t.cw d.k/\Q (.int (Kc d)) H
noncomputable def El (t:Adr) (C:Addr):Sp:=fun vs H Q _=>∃ p d,vs=[.ref p]/\Oe t H p d/\C=t.cw d.k/\Q (.int (ze d)) H
section
variable {P:Program} {w:World} {K:W.Frag} {mg:Str->Option Value} {base:Heap} {t:Adr}
theorem Lr (T:Txt w K mg t):Gb P w K mg base CX0 1 t.Cg t.Fi ["self"] (gj t (t.cw 0)):=by
 refine T.Rl.ok Tq (fun vs H Q E h=>?_) (fun _ _ _ s H vs Q E hr h=>?_)
 ·obtain ⟨p,d,rfl,_⟩:=h;rfl
 obtain ⟨p,d,rfl,W,hC,q⟩:=h;have hk:=(T.cw_inj (by decide) W.1 hC).symm;refine ⟨_,(ib (Lb xb)),?_⟩;rw [show Kc d=1 by unfold Kc;simp only [hk]] at q;walk_at "RD";exact q
theorem Np (T:Txt w K mg t):Gb P w K mg base CX0 1 t.Rf t.xh ["self"] (gj t (t.cw 1)):=by
 refine T.Ck.ok Rp (fun vs H Q E h=>?_) (fun _ _ _ s H vs Q E hr h=>?_)
 ·obtain ⟨p,d,rfl,_⟩:=h;rfl
 obtain ⟨p,d,rfl,W,hC,q⟩:=h;have hk:=(T.cw_inj (by decide) W.1 hC).symm;refine ⟨_,(ib (Lb xb)),?_⟩;rw [show Kc d=0 by unfold Kc;simp only [hk]] at q;walk_at "RD";exact q
theorem Lp (T:Txt w K mg t):Gb P w K mg base CX0 1 t.Kf t.Ah ["self"] (gj t (t.cw 2)):=by
 refine T.Sk.ok Jp (fun vs H Q E h=>?_) (fun _ _ _ s H vs Q E hr h=>?_)
 ·obtain ⟨p,d,rfl,_⟩:=h;rfl
 obtain ⟨p,d,rfl,W,hC,q⟩:=h;have hk:=(T.cw_inj (by decide) W.1 hC).symm;refine ⟨_,(ib (Lb xb)),?_⟩;rw [show Kc d=2 by unfold Kc;simp only [hk]] at q;walk_at "RD";exact q
theorem jF (T:Txt w K mg t):BI P w K mg base CX0 1 (isW t) "ready" ["self"] (gj t):=by
 refine ⟨fun C hC=>?_⟩;obtain ⟨k,hk,rfl⟩:=hC
 match k,hk with
 | 0,_=>exact ⟨_,_,T.js,T.Vs,Lr T,T.Bt⟩
 | 1,_=>exact ⟨_,_,T.uo,T.jr,Np T,T.Dq⟩
 | 2,_=>exact ⟨_,_,T.So,T.Ds,Lp T,T.Kr⟩
theorem Jt (T:Txt w K mg t):Gb P w K mg base CX0 1 t.ph t.Lj ["self"] (El t (t.cw 0)):=by
 refine T.Qn.ok Ut (fun vs H Q E h=>?_) (fun _ _ _ s H vs Q E hr h=>?_)
 ·obtain ⟨p,d,rfl,_⟩:=h;rfl
 obtain ⟨p,d,rfl,W,hC,q⟩:=h;have hk:=(T.cw_inj (by decide) W.1 hC).symm;refine ⟨_,(ib (Lb xb)),?_⟩;rw [show ze d=2 by unfold ze;simp only [hk]] at q;walk_at "RD";exact q
theorem Er (T:Txt w K mg t):Gb P w K mg base CX0 1 t.ng t.Di ["self"] (El t (t.cw 1)):=by
 refine T.Yl.ok Wq (fun vs H Q E h=>?_) (fun _ _ _ s H vs Q E hr h=>?_)
 ·obtain ⟨p,d,rfl,_⟩:=h;rfl
 obtain ⟨p,d,rfl,W,hC,q⟩:=h;have hk:=(T.cw_inj (by decide) W.1 hC).symm;refine ⟨_,(ib (Lb (vc (pv 0) rfl))),?_⟩;rw [show ze d=d.off by unfold ze;simp only [hk]] at q;walk_at "RD";exact ⟨_,W.f_off T,q⟩
theorem Nq (T:Txt w K mg t):Gb P w K mg base CX0 1 t.ig t.Ei ["self"] (El t (t.cw 2)):=by
 refine T.im.ok Qr (fun vs H Q E h=>?_) (fun _ _ _ s H vs Q E hr h=>?_)
 ·obtain ⟨p,d,rfl,_⟩:=h;rfl
 obtain ⟨p,d,rfl,W,hC,q⟩:=h;have hk:=(T.cw_inj (by decide) W.1 hC).symm;refine ⟨_,(ib (Lb xb)),?_⟩;rw [show ze d=1 by unfold ze;simp only [hk]] at q;walk_at "RD";exact q
theorem FK (T:Txt w K mg t):BI P w K mg base CX0 1 (isW t) "fade" ["self"] (El t):=by
 refine ⟨fun C hC=>?_⟩;obtain ⟨k,hk,rfl⟩:=hC
 match k,hk with
 | 0,_=>exact ⟨_,_,T.js,T.uw,Jt T,T.Sv⟩
 | 1,_=>exact ⟨_,_,T.uo,T.Vt,Er T,T.kt⟩
 | 2,_=>exact ⟨_,_,T.So,T.Xs,Nq T,T.Ht⟩
end
noncomputable def jl (c:Nat):List (List Nat)->List Nat
 | []=>[]
 | [a]=>a
 | a :: b :: r=>a ++ c :: jl c (b :: r)
theorem yD {c:Nat}:∀ {a b X Y:List Nat},c ∉ a->c ∉ b->a ++ c :: X=b ++ c :: Y->a=b/\X=Y
 | [],[],X,Y,_,_,h=>⟨rfl,(List.cons.inj h).2⟩
 | [],d :: b,X,Y,_,hb,h=>absurd (List.cons.inj h).1 (fun z=>hb (by simp [<- z]))
 | d :: a,[],X,Y,ha,_,h=>absurd (List.cons.inj h).1 (fun z=>ha (by simp [z]))
 | d :: a,e :: b,X,Y,ha,hb,h=>by
  obtain ⟨h1,h2⟩:=List.cons.inj h;obtain ⟨e1,e2⟩:=yD (fun z=>ha (mem_cons_of_mem _ z)) (fun z=>hb (mem_cons_of_mem _ z)) h2;exact ⟨by rw [h1,e1],e2⟩
theorem HJ {c:Nat}:∀ {ps qs:List (List Nat)},(∀ p ∈ ps,c ∉ p)->(∀ q ∈ qs,c ∉ q)->ps ≠ []->qs ≠ []->jl c ps=jl c qs->ps=qs
 | [a],[b],_,_,_,_,h=>by rw [show a=b from h]
 | [a],b :: b' :: r,ha,_,_,_,h=>absurd (show c ∈ a by rw [show a=b ++ c :: jl c (b' :: r) from h];simp) (ha a (by simp))
 | a :: a' :: r,[b],_,hb,_,_,h=>absurd (show c ∈ b by rw [show b=a ++ c :: jl c (a' :: r) from h.symm];simp) (hb b (by simp))
 | a :: a' :: r,b :: b' :: s,ha,hb,_,_,h=>by
  obtain ⟨e1,e2⟩:=yD (ha a (by simp)) (hb b (by simp)) (show a ++ c :: jl c (a' :: r)=b ++ c :: jl c (b' :: s) from h);rw [e1,HJ (fun p hp=>ha p (mem_cons_of_mem _ hp)) (fun q hq=>hb q (mem_cons_of_mem _ hq)) (by simp) (by simp) e2]
 | [],_,_,_,h,_,_=>absurd rfl h
 | _ :: _,[],_,_,_,h,_=>absurd rfl h
theorem zD {c d:Nat}:∀ {ps:List (List Nat)},d ∈ jl c ps->d=c\/∃ p ∈ ps,d ∈ p
 | [],h=>nomatch h
 | [a],h=>.inr ⟨a,by simp,h⟩
 | a :: b :: r,h=>by
  rcases List.mem_append.mp (show d ∈ a ++ c :: jl c (b :: r) from h) with h | h
  ·exact .inr ⟨a,by simp,h⟩
  ·rcases List.mem_cons.mp h with h | h
   ·exact .inl h
   ·rcases zD h with h | ⟨p,hp,h⟩
    ·exact .inl h
    ·exact .inr ⟨p,mem_cons_of_mem _ hp,h⟩
theorem dg (c:Nat):∀ ys:List Str,(Str.join ⟨#[c]⟩ ys).cps.toList=jl c (ys.map (·.cps.toList))
 | []=>rfl
 | [a]=>rfl
 | a :: b :: r=>by
  show (a ++ ⟨#[c]⟩ ++ Str.join ⟨#[c]⟩ (b :: r)).cps.toList=_;rw [Str.cps_append,Array.toList_append,Str.cps_append,Array.toList_append,dg c (b :: r)];simp [jl]
theorem Xm {x y:Str} (h:x.cps.toList=y.cps.toList):x=y:=by
 cases x;cases y;exact congrArg Str.mk (Array.toList_inj.mp h)
theorem Il {c:Nat} {ys:List Str} (hn:ys ≠ []) (hf:∀ y ∈ ys,c ∉ y.cps.toList):Txt.split (Str.join ⟨#[c]⟩ ys) ⟨#[c]⟩=ys:=by
 have e:=congrArg (·.cps.toList) (StrLaws.join_split (Str.join ⟨#[c]⟩ ys) ⟨#[c]⟩);simp only [dg] at e;have e2:=HJ (c:=c) (ps:=(Txt.split (Str.join ⟨#[c]⟩ ys) ⟨#[c]⟩).map (·.cps.toList)) (qs:=ys.map (·.cps.toList)) (fun p hp=>by
  obtain ⟨y,hy,rfl⟩:=List.mem_map.mp hp;exact StrLaws.split_free _ c y hy) (fun p hp=>by
  obtain ⟨y,hy,rfl⟩:=List.mem_map.mp hp;exact hf y hy) (by simp [VI]) (by simpa using hn) e
 exact (List.map_inj_right fun x y h=>Xm h).mp e2
noncomputable abbrev num (v:Int):Str:=Str.ofString (toString v)
theorem OL:∀ n,n < 1000->(decide (1 <= ((Nat.toDigits 10 n).map Char.toNat).length) && decide (((Nat.toDigits 10 n).map Char.toNat).length <= 3) && ((Nat.toDigits 10 n).map Char.toNat).all Tp && (decide (((Nat.toDigits 10 n).map Char.toNat).length <= 1) || decide (((Nat.toDigits 10 n).map Char.toNat).headD 0 ≠ 48)) &&
  decide (NumText.digitsVal ((Nat.toDigits 10 n).map Char.toNat)=n))=true:=by decide +kernel
theorem rA {v:Int} (h0:0 <= v) (h1:v < 1000):okB (num v)=true/\val (num v)=v:=by
 have e:=PySem.W.KIN.signs_num v.toNat;rw [Int.toNat_of_nonneg h0] at e;have a:=OL v.toNat (by omega);rw [<- e,Bool.and_eq_true,decide_eq_true_eq] at a;exact ⟨a.1,by show ((NumText.digitsVal (cs (num v)):Nat):Int)=v;rw [a.2];omega⟩
theorem Tm {v lo hi:Int} (h0:0 <= v) (h1:v < 1000) (hl:lo <= v) (hh:v <= hi):Iq (num v) lo hi=.int v:=by
 obtain ⟨a,b⟩:=rA h0 h1;unfold Iq;rw [a,b,decide_eq_false (by omega:¬ v < lo),decide_eq_false (by omega:¬ hi < v)];rfl
theorem RK {u v:Int} (h0:0 <= u) (h1:u < 1000) (h2:0 <= v) (h3:v < 1000) (e:num u=num v):u=v:=by
 rw [<- (rA h0 h1).2,e,(rA h2 h3).2]
theorem eB {v:Int} (h0:0 <= v) (h1:v < 1000):∀ c ∈ (num v).cps.toList,48 <= c/\c <= 57:=fun c hc=>by
 have:=List.all_eq_true.mp (nO (rA h0 h1).1).2 c hc;simpa [Tp] using this
theorem AO:∀ c ∈ lj.cps.toList,97 <= c/\c <= 122:=by decide +kernel
theorem VN:∀ k,k < 26->97 + k ∈ lj.cps.toList:=by decide +kernel
theorem Qe {x:Str} (h:made x lj 8=true):(1 <= x.length/\x.length <= 8)/\∀ c ∈ x.cps.toList,97 <= c/\c <= 122:=by
 unfold made at h;split at h
 ·cases h
 ·rename_i h1;split at h
  ·cases h
  ·rename_i h2;have h3:¬ x.length=0:=fun z=>h1 (PP.mpr z)
   refine ⟨by omega,fun c hc=>?_⟩;have:=List.all_eq_true.mp h c hc;rw [Dz] at this;exact AO c (of_decide_eq_true this)
theorem Ix {x:Str} (h0:1 <= x.length) (h1:x.length <= 8) (h:∀ c ∈ x.cps.toList,97 <= c/\c <= 122):made x lj 8=true:=by
 unfold made;rw [if_neg (fun z=>by have:=PP.mp z;omega),if_neg (by omega)];refine List.all_eq_true.mpr fun c hc=>?_
 have:=h c hc;rw [Dz];have e:=VN (c - 97) (by omega);rw [show 97 + (c - 97)=c by omega] at e;exact decide_eq_true e
structure WOk (n:Int) (d:WD):Prop where
 k:d.k < 3
 nm:made d.name lj 8=true
 st:0 <= d.start/\d.start < n
 fi:0 <= d.fin/\d.fin < n
 ne:d.start ≠ d.fin
 of:0 <= d.off/\d.off <= 30
 nr:0 <= d.near/\d.near <= 30
 le:1 <= d.least/\d.least <= 60
structure COk (n:Int) (ds:List WD):Prop where
 nn:2 <= n/\n <= 99
 ln:1 <= ds.length/\ds.length <= 12
 al:∀ d ∈ ds,WOk n d
 nd:(ds.map (·.name)).Nodup
noncomputable def ul (d:WD):List Str:=[Ae d.k,d.name,num d.start,num d.fin,num d.off,num d.near,num d.least]
noncomputable def Mi (n:Int) (ds:List WD):List (List Str):=[Str.ofString "ring",num n] :: ds.map ul
noncomputable def iw (n:Int) (ds:List WD):Str:=Str.join nl ((Mi n ds).map (Str.join bk))
noncomputable def Vr (x:Str):Prop:=x.length <= 8/\(32:Nat) ∉ x.cps.toList/\(10:Nat) ∉ x.cps.toList
theorem ou (k:Nat):Vr (Ae k):=by
 match k with
 | 0=>exact ⟨by decide +kernel,by decide +kernel,by decide +kernel⟩
 | 1=>exact ⟨by decide +kernel,by decide +kernel,by decide +kernel⟩
 | _ + 2=>exact ⟨show (Str.ofString "tram").length <= 8 by decide +kernel,show (32:Nat) ∉ (Str.ofString "tram").cps.toList by decide +kernel,show (10:Nat) ∉ (Str.ofString "tram").cps.toList by decide +kernel⟩
theorem Xd {v:Int} (h0:0 <= v) (h1:v < 1000):Vr (num v):=
 ⟨Nat.le_trans (eg h0 (by omega)) (by decide),fun z=>by have:=eB h0 h1 _ z;omega,fun z=>by have:=eB h0 h1 _ z;omega⟩
theorem Go {x:Str} (h:made x lj 8=true):Vr x:=
 ⟨(Qe h).1.2,fun z=>by have:=(Qe h).2 _ z;omega,fun z=>by have:=(Qe h).2 _ z;omega⟩
theorem WOk.plain {n:Int} {d:WD} (h:WOk n d) (hn:n <= 99):∀ x ∈ ul d,Vr x:=fun x hx=>by
 have h1:=h.st;have h2:=h.fi;have h3:=h.of;have h4:=h.nr;have h5:=h.le;simp only [ul,mem_cons,not_mem_nil,or_false] at hx;rcases hx with rfl | rfl | rfl | rfl | rfl | rfl | rfl
 ·exact ou _
 ·exact Go h.nm
 ·exact Xd (by omega) (by omega)
 ·exact Xd (by omega) (by omega)
 ·exact Xd (by omega) (by omega)
 ·exact Xd (by omega) (by omega)
 ·exact Xd (by omega) (by omega)
theorem COk.plain {n:Int} {ds:List WD} (h:COk n ds):∀ r ∈ Mi n ds,∀ x ∈ r,Vr x:=fun r hr x hx=>by
 have hn:=h.nn;rcases List.mem_cons.mp hr with rfl | hr
 ·simp only [mem_cons,not_mem_nil,or_false] at hx;rcases hx with rfl | rfl
  ·exact ⟨by decide +kernel,by decide +kernel,by decide +kernel⟩
  ·exact Xd (by omega) (by omega)
 ·obtain ⟨d,hd,rfl⟩:=List.mem_map.mp hr;exact (h.al d hd).plain hn.2 x hx
theorem tG {rs:List (List Str)} (h0:rs ≠ []) (h1:∀ r ∈ rs,r ≠ []) (h2:∀ r ∈ rs,∀ x ∈ r,Vr x):Zg (Str.join nl (rs.map (Str.join bk)))=rs:=by
 unfold Zg;rw [CI,oy];rw [Il (by simpa using h0) (fun y hy=>by
  obtain ⟨r,hr,rfl⟩:=List.mem_map.mp hy;rw [dg];intro z;rcases zD z with z | ⟨p,hp,z⟩
  ·cases z
  ·obtain ⟨x,hx,rfl⟩:=List.mem_map.mp hp;exact (h2 r hr x hx).2.2 z)]
 rw [map_map];have:∀ r ∈ rs,((fun r=>Txt.split r ⟨#[32]⟩) ∘ Str.join ⟨#[32]⟩) r=r:=fun r hr=>Il (h1 r hr) fun x hx=>(h2 r hr x hx).2.1
 exact (List.map_congr_left this).trans (List.map_id rs)
theorem FC {n:Int} {ds:List WD} (h:COk n ds):Zg (iw n ds)=Mi n ds:=tG (by simp [Mi]) (fun r hr=>by
 rcases List.mem_cons.mp hr with rfl | hr
 ·simp
 ·obtain ⟨d,hd,rfl⟩:=List.mem_map.mp hr;simp [ul]) h.plain
theorem Ms (sep:Str) (B:Nat):∀ ys:List Str,(∀ y ∈ ys,y.length <= B)->(Str.join sep ys).length <= ys.length * (B + sep.length)
 | [],_=>by show (Str.empty).length <= _;exact Nat.zero_le _
 | [a],h=>by
  have:=h a (by simp);show a.length <= _;simp only [length_cons,length_nil];omega
 | a :: b :: r,h=>by
  have h1:=h a (by simp);have h2:=Ms sep B (b :: r) fun y hy=>h y (mem_cons_of_mem _ hy)
  show (a ++ sep ++ Str.join sep (b :: r)).length <= _;rw [Fd,Fd,length_cons,Nat.succ_mul];omega
theorem UE {n:Int} {ds:List WD} (h:COk n ds):(iw n ds).length <= 1000:=by
 have h1:∀ y ∈ (Mi n ds).map (Str.join bk),y.length <= 63:=fun y hy=>by
  obtain ⟨r,hr,rfl⟩:=List.mem_map.mp hy;have:=Ms bk 8 r fun x hx=>(h.plain r hr x hx).1
  rw [Px] at this;have hl:r.length <= 7:=by
   rcases List.mem_cons.mp hr with rfl | hr
   ·simp
   ·obtain ⟨d,hd,rfl⟩:=List.mem_map.mp hr;simp [ul]
  omega
 have h2:=Ms nl 63 _ h1;rw [uA] at h2;have h3:((Mi n ds).map (Str.join bk)).length <= 13:=by
  have:=h.ln;simp [Mi];omega
 unfold iw;omega
end My
namespace My
open PySem L2
noncomputable abbrev Ct:List Str:=[Str.ofString "row",Str.ofString "told",Str.ofString "place"]
noncomputable def rdF (row:Int) (ta:Addr) (pl:Int):List (Str × V):=[(Str.ofString "row",.int row),(Str.ofString "told",.ref ta),(Str.ofString "place",.int pl)]
theorem ci (row:Int) (ta:Addr) (pl:Int):(rdF row ta pl).map (·.1)=Ct:=rfl
theorem BD (row:Int) (ta:Addr) (pl v:Int):lh (Str.ofString "place") (.int v) (rdF row ta pl)=rdF row ta v:=by
 unfold rdF;simp only [lh];rw [if_neg (by decide +kernel),if_neg (by decide +kernel)];rfl
noncomputable def Me (t:Adr) (H:Hp) (p:Addr) (row:Int) (ws:List Str) (pl:Nat):Prop:=
 (ws.length <= 1000/\∀ x ∈ ws,x.length <= 1000)/\∃ dx ta,H p=some (.ins t.Eb dx (rdF row ta pl))/\H ta=some (.lst (Jb ws))
noncomputable def Dc (p:Addr) (H H':Hp):Prop:=∀ b u,b ≠ p->H b=some u->H' b=some u
theorem Dc.trans {p:Addr} {H H1 H2:Hp} (a:Dc p H H1) (b:Dc p H1 H2):Dc p H H2:=fun c u n e=>b c u n (a c u n e)
theorem Dc.of {p:Addr} {H H1:Hp} (a:Pb H H1):Dc p H H1:=fun c u _ e=>a c u e
theorem Dc.put {p:Addr} {H:Hp} {o:HO}:Dc p H (upd H p o):=fun c u n e=>by rw [jb n];exact e
theorem xk (ws:List Str):(Jb ws).length=ws.length:=by unfold Jb;rw [length_map]
theorem MI {ws:List Str} {i:Nat} {x:Str} (h:ws[i]? = some x):(Jb ws)[i]? = some (.str x):=by unfold Jb;rw [getElem?_map,h];rfl
theorem mo (ws:List Str):(Jb ws).all nk=true:=by unfold Jb;simp [nk]
theorem lw (x:Str) (xs:List Str):inV (.str x) (Jb xs)=decide (x ∈ xs):=by
 unfold inV Jb;rw [List.any_map,Bool.eq_iff_iff];simp only [List.any_eq_true,Function.comp,eqV,beq_iff_eq,decide_eq_true_eq];constructor
 ·rintro ⟨y,hy,rfl⟩;exact hy
 ·intro h;exact ⟨x,h,rfl⟩
section
variable {w:World} {K:W.Frag} {mg:Str->Option Value} {t:Adr} {H H':Hp} {p:Addr} {row:Int} {ws:List Str} {pl:Nat}
theorem Me.same (h:Me t H p row ws pl) (s:Pb H H'):Me t H' p row ws pl:=by
 obtain ⟨hz,dx,ta,e1,e2⟩:=h;exact ⟨hz,dx,ta,s _ _ e1,s _ _ e2⟩
theorem Me.sameX {q:Addr} (h:Me t H p row ws pl) (s:Dc q H H') (n:p ≠ q) (k:∃ C dx fs,H q=some (.ins C dx fs)):Me t H' p row ws pl:=by
 obtain ⟨hz,dx,ta,e1,e2⟩:=h;obtain ⟨C,dq,fs,e3⟩:=k;exact ⟨hz,dx,ta,s _ _ n e1,s _ _ (Zd e2 e3 (by intro z;cases z)) e2⟩
theorem Me.ins (h:Me t H p row ws pl):∃ C dx fs,H p=some (.ins C dx fs):=by
 obtain ⟨hz,dx,ta,e1,e2⟩:=h;exact ⟨_,_,_,e1⟩
theorem Me.no {m:Str} (row:Int) (ta:Addr) (pl:Int) (h:Ct.contains m=false):(rdF row ta pl).lookup m=none:=Pn Ct (ci ..) h
theorem bq (T:Txt w K mg t) {dx ta:Addr} {pl:Int} (e:H p=some (.ins t.Eb dx (rdF row ta pl))):Qi K H p (Str.ofString "place") (.int pl):=
 ⟨_,dx,_,e,T.zb,T.Ie,Vd Ct 2 (ci ..) (by decide +kernel) rfl⟩
theorem cz (T:Txt w K mg t) {dx ta:Addr} {pl:Int} (e:H p=some (.ins t.Eb dx (rdF row ta pl))):Qi K H p (Str.ofString "told") (.ref ta):=
 ⟨_,dx,_,e,T.zb,T.Ri,Vd Ct 1 (ci ..) (by decide +kernel) rfl⟩
end
noncomputable def pK (t:Adr):Sp:=fun vs H Q _=>∃ (p dx ta:Addr) (row:Int),vs=[.ref p,.int row,.ref ta]/\H p=some (.ins t.Eb dx [])/\Q .non (upd H p (.ins t.Eb dx (rdF row ta 0)))
noncomputable def sj (t:Adr):Sp:=fun vs H Q _=>∃ p row ws pl,vs=[.ref p]/\Me t H p row ws pl/\pl <= ws.length/\Q (.str (ws.getD pl (Str.ofString ""))) H
noncomputable def jz (t:Adr):Sp:=fun vs H Q _=>∃ p row ws pl,vs=[.ref p]/\Me t H p row ws pl/\Q (.bl (decide (pl < ws.length))) H
noncomputable def bN (t:Adr) (H:Hp) (p:Addr) (row:Int) (ws:List Str) (pl:Nat) (R:Hp->Prop):Prop:=∀ H',Dc p H H'->(NoT H->NoT H')->Me t H' p row ws pl->R H'
noncomputable def Nv (t:Adr):Sp:=fun vs H Q _=>∃ p row ws pl,vs=[.ref p,.bl true]/\Me t H p row ws pl/\bN t H p row ws (pl + 1) (Q .non)
noncomputable def bv (K:W.Frag) (t:Adr):Sp:=fun vs H Q _=>∃ p row ws pl x c xs,vs=[.ref p,.ref c]/\Me t H p row ws pl/\ws[pl]? = some x/\SqL K H c (Jb xs)/\x ∈ xs/\bN t H p row ws (pl + 1) (Q (.str x))
noncomputable def xv (t:Adr):Sp:=fun vs H Q _=>∃ p row ws pl x lo hi v,vs=[.ref p,.int lo,.int hi]/\Me t H p row ws pl/\ws[pl]? = some x/\Iq x lo hi=.int v/\NoT H/\bN t H p row ws (pl + 1) (Q (.int v))
noncomputable def fG (t:Adr):Sp:=fun vs H Q _=>∃ p row ws pl,vs=[.ref p]/\Me t H p row ws pl/\pl=ws.length/\Q .non H
section
variable {P:Program} {w:World} {K:W.Frag} {mg:Str->Option Value} {base:Heap} {t:Adr}
theorem sN (T:Txt w K mg t):Gb P w K mg base CX0 1 t.He t.kf ["self","row","told"] (pK t):=by
 refine T.Yj.ok zl (fun vs H Q E h=>?_) (fun _ _ _ s H vs Q E hr h=>?_)
 ·obtain ⟨p,dx,ta,row,rfl,_⟩:=h;rfl
 obtain ⟨p,dx,ta,row,rfl,hp,q⟩:=h;refine ⟨_,(cb (Vf (pv 0) (pv 1) rfl)
   (cb (Vf (pv 0) (pv 2) rfl)
   (ib (Vf (pv 0) xb rfl)))),?_⟩
 walk_at "RD";refine ⟨_,_,_,hp,T.zb,T.Zj,by decide,?_⟩;refine ⟨_,_,_,db,T.zb,T.Ri,ko (n:=999) (by decide),?_⟩;refine ⟨_,_,_,db,T.zb,T.Ie,ko (n:=999) (ko (n:=998) (by decide)),?_⟩;simp only [pj];rw [show lh (Str.ofString "row") (V.int row) ([]:List (Str × V))=[(Str.ofString "row",V.int row)] from Ad [] rfl (by decide +kernel),
  show lh (Str.ofString "told") (V.ref ta) ([(Str.ofString "row",V.int row)]:List (Str × V))=[(Str.ofString "row",V.int row),(Str.ofString "told",V.ref ta)] from Ad [Str.ofString "row"] rfl (by decide +kernel),
  show lh (Str.ofString "place") (V.int 0) ([(Str.ofString "row",V.int row),(Str.ofString "told",V.ref ta)]:List (Str × V))=[(Str.ofString "row",V.int row),(Str.ofString "told",V.ref ta),(Str.ofString "place",V.int 0)] from Ad [Str.ofString "row",Str.ofString "told"] rfl (by decide +kernel)]
 exact q
theorem Jl (T:Txt w K mg t):Gb P w K mg base CX0 1 t.gc t.Cc ["self"] (sj t):=by
 refine T.Oi.ok Cn (fun vs H Q E h=>?_) (fun _ _ _ s H vs Q E hr h=>?_)
 ·obtain ⟨p,row,ws,pl,rfl,_⟩:=h;rfl
 obtain ⟨p,row,ws,pl,rfl,⟨hz,dx,ta,e1,e2⟩,hle,q⟩:=h;refine ⟨_,(cb (Ye (dc qk (vc (pv 0) rfl) (Ed wc rfl T.Ql Zc (bb (vc (pv 0) rfl) fb)) (yc _)) (ib (Lb Rc)) zc)
   (ib (Lb (yd Zf (vc (pv 0) rfl) (vc (pv 0) rfl) (fun _ _=>rfl))))),?_⟩
 walk_at "RD";refine Pc (decide ((pl:Int)=(ws.length:Int))) (fun Q hQ=>?_) (fun c=>?_) (fun c=>?_)
 ·walk_at "RD";refine ⟨_,bq T e1,_,cz T e1,_,rfl,_,.inl (SqL.of e2),rfl,?_⟩;rw [xk];walk_at "RD";exact hQ
 ·walk_at "RD";have c':pl=ws.length:=by have:=of_decide_eq_true c;omega
  rw [show ws.getD pl (Str.ofString "")=Str.ofString "" by rw [getD_eq_getElem?_getD,List.getElem?_eq_none (by omega)];rfl] at q;exact q
 ·walk_at "RD";have c':pl < ws.length:=by have:=of_decide_eq_false c;omega
  have hx:ws[pl]? = some ws[pl]:=getElem?_eq_getElem c';rw [getD_eq_getElem?_getD,hx] at q;exact ⟨_,cz T e1,_,bq T e1,_,rfl,_,_,rfl,SqL.of e2,_,Bc (MI hx),q⟩
theorem lD (T:Txt w K mg t):Gb P w K mg base CX0 1 t.Yc t.Ld ["self"] (jz t):=by
 refine T.eh.ok Wk (fun vs H Q E h=>?_) (fun _ _ _ s H vs Q E hr h=>?_)
 ·obtain ⟨p,row,ws,pl,rfl,_⟩:=h;rfl
 obtain ⟨p,row,ws,pl,rfl,⟨hz,dx,ta,e1,e2⟩,q⟩:=h;refine ⟨_,(ib (Lb (af Av (vc (pv 0) rfl) (Ed wc rfl T.Ql Zc (bb (vc (pv 0) rfl) fb)) (yc _)))),?_⟩;walk_at "RD";have e:decide (pl < ws.length)=decide ((pl:Int) < (ws.length:Int)):=by rw [Bool.eq_iff_iff];simp
 rw [e] at q;refine ⟨_,bq T e1,_,cz T e1,_,rfl,_,.inl (SqL.of e2),?_⟩;rw [xk];exact ⟨_,rfl,q⟩
theorem Ly (T:Txt w K mg t):Gb P w K mg base CX0 1 t.xc t.Jc ["self","good"] (Nv t):=by
 refine T.Vg.ok Yi (fun vs H Q E h=>?_) (fun _ _ _ s H vs Q E hr h=>?_)
 ·obtain ⟨p,row,ws,pl,rfl,_⟩:=h;rfl
 obtain ⟨p,row,ws,pl,rfl,⟨hz,dx,ta,e1,e2⟩,q⟩:=h;refine ⟨_,(cb (Ye (cj (Ph (pv 1))) (ib Al) zc)
   (ib (Zx (pv 0) xb JJ))),?_⟩
 walk_at "RD";refine Pc false (fun Q hQ=>?_) (fun hc=>nomatch hc) (fun _=>?_)
 ·walk_at "RD";exact hQ
 ·walk_at "RD";refine ⟨_,_,_,e1,T.zb,T.Ie,_,Vd Ct 2 (ci ..) (by decide +kernel) rfl,_,rfl,_,_,e1,by rw [<- length_map (f:=(·.1)),ci];decide,?_⟩;rw [BD];exact q _ Dc.put (fun n=>n.upd) ⟨hz,dx,ta,db,by rw [jb (Zd e2 e1 (by intro z;cases z))];exact e2⟩
theorem CA (T:Txt w K mg t):Gb P w K mg base CX0 2 t.lc t.Fc ["self","choices"] (bv K t):=by
 have g14:Gb P w K mg base CX0 1 t.gc t.Cc ["self"] (sj t):=Jl T;have g20:Gb P w K mg base CX0 1 t.xc t.Jc ["self","good"] (Nv t):=Ly T;refine T.Gf.ok De (fun vs H Q E h=>?_) (fun _ _ _ s H vs Q E hr h=>?_)
 ·obtain ⟨p,row,ws,pl,x,c,xs,rfl,_⟩:=h;rfl
 obtain ⟨p,row,ws,pl,x,c,xs,rfl,R,hx,hc,hm,q⟩:=h;refine ⟨_,(cb (Db (i:=2) De.nd rfl (Or.inl rfl) (zd (pv 0) T.zb T.Qd g14 hr T.Td .nil Fb))
   (cb (Xb (Xc (pv 0) T.zb T.Fe g20 hr T.Ge .nil Fb (bb (af Ni (pv 2) (pv 1) (by with_unfolding_all rfl)) fb)))
   (ib (Lb (pv 2))))),?_⟩
 have hlt:pl < ws.length:=(List.getElem?_eq_some_iff.mp hx).1;have hg:ws.getD pl (Str.ofString "")=x:=by rw [getD_eq_getElem?_getD,hx];rfl
 obtain ⟨_,dx,ta,e1,e2⟩:=id R;walk_at "RD";refine ⟨_,_,e1,Me.no _ _ _ (by decide +kernel),⟨p,row,ws,pl,rfl,R,by omega,?_⟩⟩;rw [hg];walk_at "RD";refine ⟨_,_,e1,Me.no _ _ _ (by decide +kernel),_,.inl hc,rfl,mo xs,?_⟩;rw [lw,decide_eq_true hm];refine ⟨p,row,ws,pl,rfl,R,fun H' s1 s2 s3=>?_⟩;walk_at "RD";exact q H' s1 s2 s3
theorem xz (T:Txt w K mg t):Gb P w K mg base CX0 4 t.Qb t.fc ["self","low","high"] (xv t):=by
 have g14:Gb P w K mg base CX0 3 t.gc t.Cc ["self"] (sj t):=(Jl T).mono (by decide);have g20:Gb P w K mg base CX0 3 t.xc t.Jc ["self","good"] (Nv t):=(Ly T).mono (by decide);have g24:Gb P w K mg base CX0 3 t.Hk t.Vk ["word","low","high"] AD:=aK T;refine T.mf.ok ue (fun vs H Q E h=>?_) (fun _ _ _ s H vs Q E hr h=>?_)
 ·obtain ⟨p,row,ws,pl,x,lo,hi,v,rfl,_⟩:=h;rfl
 obtain ⟨p,row,ws,pl,x,lo,hi,v,rfl,R,hx,hv,nt,q⟩:=h;refine ⟨_,(cb (Db (i:=3) ue.nd rfl (Or.inl rfl) (Bb g24 hr rfl T.Xw T.vn.kp T.jy .nil Fb (bb (zd (pv 0) T.zb T.Qd g14 hr T.Td .nil Fb) (bb (pv 1) (bb (pv 2) fb)))))
   (cb (Xb (Xc (pv 0) T.zb T.Fe g20 hr T.Ge .nil Fb (bb (af HE (pv 3) Qw (yc _)) fb)))
   (ib (Lb (pv 3))))),?_⟩
 have hlt:pl < ws.length:=(List.getElem?_eq_some_iff.mp hx).1;have hg:ws.getD pl (Str.ofString "")=x:=by rw [getD_eq_getElem?_getD,hx];rfl
 obtain ⟨hz,dx,ta,e1,e2⟩:=id R;walk_at "RD";refine ⟨_,_,e1,Me.no _ _ _ (by decide +kernel),⟨p,row,ws,pl,rfl,R,by omega,?_⟩⟩;rw [hg];walk_at "RD";refine ⟨x,lo,hi,rfl,hz.2 x (mem_of_getElem? hx),nt,?_⟩;rw [hv];walk_at "RD";refine ⟨_,_,e1,Me.no _ _ _ (by decide +kernel),?_⟩;refine ⟨p,row,ws,pl,rfl,R,fun H' s1 s2 s3=>?_⟩;walk_at "RD";exact q H' s1 s2 s3
theorem AK (T:Txt w K mg t):Gb P w K mg base CX0 2 t.nc t.Ec ["self"] (fG t):=by
 have g25:Gb P w K mg base CX0 1 t.Yc t.Ld ["self"] (jz t):=lD T;refine T.Of.ok Hh (fun vs H Q E h=>?_) (fun _ _ _ s H vs Q E hr h=>?_)
 ·obtain ⟨p,row,ws,pl,rfl,_⟩:=h;rfl
 obtain ⟨p,row,ws,pl,rfl,R,hl,q⟩:=h;obtain ⟨hz,dx,ta,e1,e2⟩:=id R;refine ⟨_,(ib (Ye (Ph (zd (pv 0) T.zb T.ah g25 hr T.dh .nil Fb)) (ib Al) zc)),?_⟩;walk_at "RD";refine Pc false (fun Q hQ=>?_) (fun hc=>nomatch hc) (fun _=>?_)
 ·walk_at "RD";refine ⟨_,_,e1,Me.no _ _ _ (by decide +kernel),⟨p,row,ws,pl,rfl,R,?_⟩⟩;rw [decide_eq_false (by omega)];exact ⟨_,rfl,hQ⟩
 ·walk_at "RD";exact q
end
end My
namespace My
open PySem L2
noncomputable abbrev wd (ws:List Str) (k:Nat):Str:=ws.getD k (Str.ofString "")
theorem UO {ws:List Str} (h:∀ x ∈ ws,x.length <= 1000) (k:Nat):(wd ws k).length <= 1000:=by
 unfold wd;rw [getD_eq_getElem?_getD];cases e:ws[k]? with
 | none=>exact Nat.le_trans (show (Str.ofString "").length <= 0 by decide +kernel) (Nat.zero_le _)
 | some x=>exact h x (mem_of_getElem? e)
theorem GI {ws:List Str} {k:Nat} (h:wd ws k ≠ Str.ofString ""):k < ws.length:=by
 refine Classical.byContradiction fun z=>h ?_
 unfold wd;rw [getD_eq_getElem?_getD,List.getElem?_eq_none (by omega)];rfl
theorem Gu (w:Str) (lo hi:Int):(∃ v,Iq w lo hi=.int v/\lo <= v/\v <= hi/\w ≠ Str.ofString "")\/Iq w lo hi=.non:=by
 unfold Iq;split
 ·rename_i h;rw [Bool.and_eq_true] at h;refine .inl ⟨val w,rfl,?_,?_,fun z=>?_⟩
  ·have:=h.2;simp at this;omega
  ·have:=h.2;simp at this;omega
  ·have h1:=h.1;rw [z] at h1;exact absurd h1 (by decide +kernel)
 ·exact .inr rfl
theorem Ji {i:Int} (h:i.natAbs < 100000):i.natAbs.log2 < 1920:=by
 by_cases h0:i.natAbs=0
 ·rw [h0];decide
 ·exact (Nat.log2_lt h0).mpr (Nat.lt_trans h (by decide))
noncomputable def Ts (t:Adr) (i:Int) (k:Nat) (p:Addr) (H:Hp) (E:XK):Prop:=∀ dx H',Dc p H H'->(NoT H->NoT H')->H' dx=some (.ext (XD dx [(Str.ofString "row",.int i),(Str.ofString "word",.int k)]))->E (.ref t.Tc) (some dx) H'
theorem Ts.step {t:Adr} {i:Int} {k:Nat} {p:Addr} {H H1:Hp} {E:XK} (h:Ts t i k p H E) (s:Dc p H H1) (n:NoT H->NoT H1):Ts t i k p H1 E:=fun dx H' s' n' e=>h dx H' (s.trans s') (fun z=>n' (n z)) e
theorem ZN {w:World} {K:W.Frag} {mg:Str->Option Value} {t:Adr} {H:Hp} {p:Addr} {row:Int} (T:Txt w K mg t) {dx ta:Addr} {pl:Int} (e:H p=some (.ins t.Eb dx (rdF row ta pl))):Qi K H p (Str.ofString "row") (.int row):=
 ⟨_,dx,_,e,T.zb,T.Zj,Vd Ct 0 (ci ..) (by decide +kernel) rfl⟩
noncomputable def JK (t:Adr):Sp:=fun vs H Q _=>∃ x i j,vs=[.ref x,.int i,.int j]/\i.natAbs.log2 < 1920/\j.natAbs.log2 < 1920/\H x=some (.ext (XF x t.Tc none)) /\
 ∀ dx,H dx=none->dx ≠ x->Q .non (upd (upd H x (.ext (XF x t.Tc (some dx)))) dx (.ext (XD dx [(Str.ofString "row",.int i),(Str.ofString "word",.int j)])))
noncomputable def dz (t:Adr):Sp:=fun vs H Q E=>∃ p row ws pl,vs=[.ref p]/\Me t H p row ws pl/\(0 <= row/\row <= 10000)/\pl <= 10000/\Ts t row pl p H E
noncomputable def qv (t:Adr):Sp:=fun vs H Q E=>∃ p row ws pl g,vs=[.ref p,.bl g]/\Me t H p row ws pl/\(0 <= row/\row <= 10000)/\pl <= 10000/\(g=true->bN t H p row ws (pl + 1) (Q .non))/\(g=false->Ts t row pl p H E)
noncomputable def Ar (K:W.Frag) (t:Adr):Sp:=fun vs H Q E=>∃ p row ws pl c xs,vs=[.ref p,.ref c]/\Me t H p row ws pl/\(0 <= row/\row <= 10000)/\pl <= ws.length/\SqL K H c (Jb xs) /\
 (wd ws pl ∈ xs->bN t H p row ws (pl + 1) (Q (.str (wd ws pl))))/\(wd ws pl ∉ xs->Ts t row pl p H E)
noncomputable def Gv (t:Adr):Sp:=fun vs H Q E=>∃ p row ws pl lo hi,vs=[.ref p,.int lo,.int hi]/\Me t H p row ws pl/\(0 <= row/\row <= 10000)/\pl <= ws.length/\NoT H /\
 (∀ v,Iq (wd ws pl) lo hi=.int v->bN t H p row ws (pl + 1) (Q (.int v)))/\(Iq (wd ws pl) lo hi=.non->Ts t row pl p H E)
noncomputable def Cz (t:Adr):Sp:=fun vs H Q E=>∃ p row ws pl,vs=[.ref p]/\Me t H p row ws pl/\(0 <= row/\row <= 10000)/\(¬ pl < ws.length->Q .non H)/\(pl < ws.length->Ts t row pl p H E)
section
variable {P:Program} {w:World} {K:W.Frag} {mg:Str->Option Value} {base:Heap} {t:Adr}
theorem YN (T:Txt w K mg t):Gb P w K mg base CX0 1 t.Qf t.jh ["self","row","word"] (JK t):=by
 refine T.ao.ok Vn (fun vs H Q E h=>?_) (fun _ _ _ s H vs Q E hr h=>?_)
 ·obtain ⟨x,i,j,rfl,_⟩:=h;rfl
 obtain ⟨x,i,j,rfl,hi,hj,hx,q⟩:=h;refine ⟨_,(cb (Xb (rn rfl T.Bh T.yh (bb (pv 0) (bb (Kk (ug (uB (pv 1) (ug (uB (pv 2) xx)))) (by rw [sizeLine_eq];decide)) fb))))
   (cb (Rn (pv 0) (pv 1) rfl)
   (ib (Zp (pv 0) (pv 2) rfl)))),?_⟩
 walk_at "RD";refine ⟨hi,hj,fun y=>⟨_,_,hx,T.uq,?_⟩⟩;refine ⟨_,hx,T.uq,T.Qv,fun dx hd hne=>?_⟩;refine ⟨_,dx,by rw [jb (Ne.symm hne),db],_,db,T.uq,T.Ys,show 1 < 1000 by decide,?_⟩;rw [pj,show lh (Str.ofString "word") (V.int j) ([(Str.ofString "row",V.int i)]:List (Str × V))=[(Str.ofString "row",V.int i),(Str.ofString "word",V.int j)] from Ad [Str.ofString "row"] rfl (by decide +kernel)];exact q dx hd hne
theorem gD (T:Txt w K mg t):Gb P w K mg base (CX1 P w) 3 t.Cd t.pe ["self"] (dz t):=by
 have g40:Gb P w K mg base CX0 1 t.Qf t.jh ["self","row","word"] (JK t):=YN T;refine T.vi.okX Zm (fun vs H Q E h=>?_) (fun _ _ _ s H vs Q E hr h=>?_)
 ·obtain ⟨p,row,ws,pl,rfl,_⟩:=h;rfl
 obtain ⟨p,row,ws,pl,rfl,⟨hz,dx,ta,e1,e2⟩,hrow,hpl,q⟩:=h;refine ⟨_,(ib (Tn (Mn T.xy g40 hr rfl T.AI T.Jv (bb (vc (pv 0) rfl) (bb (vc (pv 0) rfl) fb))) ir)),?_⟩;walk_at "RD";refine ⟨_,ZN T e1,_,bq T e1,by decide,fun a ha=>⟨a,row,pl,rfl,Ji (by omega),Ji (by omega),db,fun d hd hne=>?_⟩⟩;have hd0:H d=none:=by rw [jb hne] at hd;exact hd
 refine ⟨rfl,t.Tc,some d,by rw [jb (Ne.symm hne),db],T.uq,q d _ (fun b u _ e=>?_) (fun nt=>(((nt.upd).upd).upd).upd) (by rw [jb hne,db])⟩;rw [jb (yb e ha),jb (yb e hd0),jb (yb e ha),jb (yb e ha)];exact e
theorem KA (T:Txt w K mg t):Gb P w K mg base (CX1 P w) 4 t.xc t.Jc ["self","good"] (qv t):=by
 have g26:Gb P w K mg base (CX1 P w) 3 t.Cd t.pe ["self"] (dz t):=gD T;refine T.Vg.okX Yi (fun vs H Q E h=>?_) (fun _ _ _ s H vs Q E hr h=>?_)
 ·obtain ⟨p,row,ws,pl,g,rfl,_⟩:=h;rfl
 obtain ⟨p,row,ws,pl,g,rfl,R,hrow,hpl,q1,q2⟩:=h;obtain ⟨hz,dx,ta,e1,e2⟩:=id R;refine ⟨_,(cb (Ye (cj (Ph (pv 1))) (ib (Xb (zd (pv 0) T.zb T.Yh g26 hr T.mi .nil ee))) zc)
   (ib (Zx (pv 0) xb JJ))),?_⟩
 walk_at "RD";refine Pc (!g) (fun Q hQ=>?_) (fun c=>?_) (fun c=>?_)
 ·walk_at "RD";exact hQ
 ·walk_at "RD";have hg:g=false:=by simpa using c
  exact ⟨_,_,e1,Me.no _ _ _ (by decide +kernel),⟨p,row,ws,pl,rfl,R,hrow,hpl,q2 hg⟩⟩
 ·walk_at "RD";have hg:g=true:=by simpa using c
  refine ⟨_,_,_,e1,T.zb,T.Ie,_,Vd Ct 2 (ci ..) (by decide +kernel) rfl,_,rfl,_,_,e1,by rw [<- length_map (f:=(·.1)),ci];decide,?_⟩;rw [BD];exact q1 hg _ Dc.put (fun n=>n.upd) ⟨hz,dx,ta,db,by rw [jb (Zd e2 e1 (by intro z;cases z))];exact e2⟩
theorem Bx (T:Txt w K mg t):Gb P w K mg base (CX1 P w) 5 t.lc t.Fc ["self","choices"] (Ar K t):=by
 have g14:Gb P w K mg base CX0 4 t.gc t.Cc ["self"] (sj t):=(Jl T).mono (by decide);have g27:Gb P w K mg base (CX1 P w) 4 t.xc t.Jc ["self","good"] (qv t):=KA T;refine T.Gf.okX De (fun vs H Q E h=>?_) (fun _ _ _ s H vs Q E hr h=>?_)
 ·obtain ⟨p,row,ws,pl,c,xs,rfl,_⟩:=h;rfl
 obtain ⟨p,row,ws,pl,c,xs,rfl,R,hrow,hpl,hc,q1,q2⟩:=h;refine ⟨_,(cb (Db (i:=2) De.nd rfl (Or.inl rfl) (zd (pv 0) T.zb T.Qd g14 hr T.Td .nil Fb))
   (cb (Xb (Xc (pv 0) T.zb T.Fe g27 hr T.Ge .nil ee (bb (af Ni (pv 2) (pv 1) (by with_unfolding_all rfl)) fb)))
   (ib (Lb (pv 2))))),?_⟩
 obtain ⟨hz,dx,ta,e1,e2⟩:=id R;walk_at "RD";refine ⟨_,_,e1,Me.no _ _ _ (by decide +kernel),⟨p,row,ws,pl,rfl,R,hpl,?_⟩⟩;walk_at "RD";refine ⟨_,_,e1,Me.no _ _ _ (by decide +kernel),_,.inl hc,rfl,mo xs,?_⟩;rw [lw];refine ⟨p,row,ws,pl,_,rfl,R,hrow,by omega,fun g H' s1 s2 s3=>?_,fun g=>q2 (of_decide_eq_false g)⟩;walk_at "RD";exact q1 (of_decide_eq_true g) H' s1 s2 s3
theorem QA (T:Txt w K mg t):Gb P w K mg base (CX1 P w) 5 t.Qb t.fc ["self","low","high"] (Gv t):=by
 have g14:Gb P w K mg base CX0 4 t.gc t.Cc ["self"] (sj t):=(Jl T).mono (by decide);have g27:Gb P w K mg base (CX1 P w) 4 t.xc t.Jc ["self","good"] (qv t):=KA T;have g24:Gb P w K mg base CX0 4 t.Hk t.Vk ["word","low","high"] AD:=(aK T).mono (by decide);refine T.mf.okX ue (fun vs H Q E h=>?_) (fun _ _ _ s H vs Q E hr h=>?_)
 ·obtain ⟨p,row,ws,pl,lo,hi,rfl,_⟩:=h;rfl
 obtain ⟨p,row,ws,pl,lo,hi,rfl,R,hrow,hpl,nt,q1,q2⟩:=h;refine ⟨_,(cb (Db (i:=3) ue.nd rfl (Or.inl rfl) (Bb g24 hr rfl T.Xw T.vn.kp T.jy .nil Fb (bb (zd (pv 0) T.zb T.Qd g14 hr T.Td .nil Fb) (bb (pv 1) (bb (pv 2) fb)))))
   (cb (Xb (Xc (pv 0) T.zb T.Fe g27 hr T.Ge .nil ee (bb (af HE (pv 3) Qw (yc _)) fb)))
   (ib (Lb (pv 3))))),?_⟩
 obtain ⟨hz,dx,ta,e1,e2⟩:=id R;walk_at "RD";refine ⟨_,_,e1,Me.no _ _ _ (by decide +kernel),⟨p,row,ws,pl,rfl,R,hpl,?_⟩⟩;walk_at "RD";refine ⟨_,lo,hi,rfl,UO hz.2 pl,nt,?_⟩;rcases Gu (wd ws pl) lo hi with ⟨v,hv,_⟩ | hv
 ·rw [hv];walk_at "RD";refine ⟨_,_,e1,Me.no _ _ _ (by decide +kernel),?_⟩;refine ⟨p,row,ws,pl,_,rfl,R,hrow,by omega,fun g H' s1 s2 s3=>?_,fun g=>by cases g⟩;walk_at "RD";exact q1 v hv H' s1 s2 s3
 ·rw [hv];walk_at "RD";refine ⟨_,_,e1,Me.no _ _ _ (by decide +kernel),?_⟩;exact ⟨p,row,ws,pl,_,rfl,R,hrow,by omega,(fun g=>by cases g),fun g=>q2 hv⟩
theorem gG (T:Txt w K mg t):Gb P w K mg base (CX1 P w) 4 t.nc t.Ec ["self"] (Cz t):=by
 have g25:Gb P w K mg base CX0 3 t.Yc t.Ld ["self"] (jz t):=(lD T).mono (by decide);have g26:Gb P w K mg base (CX1 P w) 3 t.Cd t.pe ["self"] (dz t):=gD T;refine T.Of.okX Hh (fun vs H Q E h=>?_) (fun _ _ _ s H vs Q E hr h=>?_)
 ·obtain ⟨p,row,ws,pl,rfl,_⟩:=h;rfl
 obtain ⟨p,row,ws,pl,rfl,R,hrow,q1,q2⟩:=h;obtain ⟨hz,dx,ta,e1,e2⟩:=id R;refine ⟨_,(ib (Ye (Ph (zd (pv 0) T.zb T.ah g25 hr T.dh .nil Fb)) (ib (Xb (zd (pv 0) T.zb T.Yh g26 hr T.mi .nil ee))) zc)),?_⟩;walk_at "RD";refine Pc (decide (pl < ws.length)) (fun Q hQ=>?_) (fun c=>?_) (fun c=>?_)
 ·walk_at "RD";refine ⟨_,_,e1,Me.no _ _ _ (by decide +kernel),⟨p,row,ws,pl,rfl,R,?_⟩⟩;exact ⟨_,rfl,hQ⟩
 ·walk_at "RD";have hl:=of_decide_eq_true c;exact ⟨_,_,e1,Me.no _ _ _ (by decide +kernel),⟨p,row,ws,pl,rfl,R,hrow,by omega,q2 hl⟩⟩
 ·walk_at "RD";exact q1 (of_decide_eq_false c)
end
noncomputable def Oc {α:Type} (m:Except Nat α) (ok:α->Prop) (er:Nat->Prop):Prop:=match m with | .ok a=>ok a | .error k=>er k
noncomputable def Xy (x:Str) (lo hi:Int):Option Int:=if okB x && !(decide (val x < lo) || decide (hi < val x)) then some (val x) else none
theorem Tx (x:Str) (lo hi:Int):Iq x lo hi=(Xy x lo hi).elim .non .int:=by
 unfold Iq Xy;split <;> rfl
theorem Cv {x:Str} {lo hi v:Int} (h:Iq x lo hi=.int v):Xy x lo hi=some v:=by
 rw [Tx] at h;cases e:Xy x lo hi with
 | none=>rw [e] at h;cases h
 | some u=>rw [e] at h;injection h with h;rw [h]
theorem Vq {x:Str} {lo hi:Int} (h:Iq x lo hi=.non):Xy x lo hi=none:=by
 rw [Tx] at h;cases e:Xy x lo hi with
 | none=>rfl
 | some u=>rw [e] at h;cases h
theorem sw {ws:List Str} {k:Nat} {lo hi v:Int} (h:Iq (wd ws k) lo hi=.int v):k + 1 <= ws.length/\lo <= v/\v <= hi:=by
 rcases Gu (wd ws k) lo hi with ⟨u,hu,h1,h2,h3⟩ | hn
 ·rw [hu] at h;injection h with h;subst h;exact ⟨GI h3,h1,h2⟩
 ·rw [hn] at h;cases h
noncomputable def Oc2 {α:Type} (m:Except (Nat × Nat) α) (ok:α->Prop) (er:Nat->Nat->Prop):Prop:=match m with | .ok a=>ok a | .error e=>er e.1 e.2
theorem Nf {α:Type} {l:List α} {a x:α} {i:Nat} (h:(l ++ [a])[i]? = some x):(i < l.length/\l[i]? = some x)\/(i=l.length/\x=a):=by
 by_cases hi:i < l.length
 ·rw [getElem?_append_left hi] at h;exact .inl ⟨hi,h⟩
 ·rw [getElem?_append_right (by omega)] at h;have h0:i - l.length=0:=by
   cases hh:i - l.length with
   | zero=>rfl
   | succ m=>rw [hh] at h;simp at h
  rw [h0] at h;exact .inr ⟨by omega,(by simpa using h:a=x).symm⟩
noncomputable def iQ (t:Adr) (i k:Nat) (H:Hp) (E:XK):Prop:=∀ dx H',Pb H H'->NoT H'->H' dx=some (.ext (XD dx [(Str.ofString "row",.int i),(Str.ofString "word",.int k)]))->E (.ref t.Tc) (some dx) H'
end My
namespace My
open PySem L2
theorem Kb {α β:Type} {f:α->β} {l:List α} {i:Nat} {y:β} (h:(l.map f)[i]? = some y):∃ x,l[i]? = some x/\y=f x:=by
 rw [getElem?_map] at h;cases e:l[i]? with
 | none=>rw [e] at h;cases h
 | some x=>rw [e] at h;exact ⟨x,rfl,(Option.some.inj h).symm⟩
noncomputable def HQ (t:Adr) (H0 H:Hp) (p:Addr) (rows:List (List Str)):Prop:=∃ qs:List Addr,H p=some (.lst (qs.map V.ref))/\H0 p=none/\qs.length=rows.length/\∀ (i:Nat) (q:Addr) (r:List Str),qs[i]? = some q->rows[i]? = some r->Me t H q i r 0/\H0 q=none
noncomputable def so (t:Adr):Sp:=fun vs H Q _=>∃ x,vs=[.str x]/\x.length <= 20000/\(∀ r ∈ Zg x,r.length <= 1000/\∀ y ∈ r,y.length <= 1000)/\NoT H/\∀ p H',Pb H H'->NoT H'->HQ t H H' p (Zg x)->Q (.ref p) H'
section
variable {P:Program} {w:World} {K:W.Frag} {mg:Str->Option Value} {base:Heap} {t:Adr}
theorem Ou (T:Txt w K mg t):Gb P w K mg base CX0 3 t.yl t.rk ["text"] (so t):=by
 have g41:Gb P w K mg base CX0 2 t.jv t.fv ["text"] MA:=(jI T).mono (by decide);have g42:Gb P w K mg base CX0 1 t.He t.kf ["self","row","told"] (pK t):=sN T;refine T.Wn.ok rC (fun vs H Q E h=>?_) (fun _ _ _ s H vs Q E hr h=>?_)
 ·obtain ⟨x,rfl,_⟩:=h;rfl
 obtain ⟨x,rfl,hz,hrow,nt,q⟩:=h;refine ⟨_,(ib (Lb (Xg rfl (cr rfl T.Jh (bb (Bb g41 hr rfl T.EL T.Ky.kp T.pL .nil Fb (bb (pv 0) fb)) fb)) (kd (sc:=rb Ur) rfl (by decide +kernel)) (N:=["row","told"]) (sel:=[none,none]) (Yd (M:=["text"]) (by decide +kernel)) (Blk.of (fun _ _ _ _=>(Tf (K:=K) (n:=2) rfl rfl (Rb (Cb (i:=0) (Ug (N:=["row","told"]) (by decide +kernel) rfl) rfl (Or.inl rfl) (.inr rfl)) (Rb (Cb (i:=1) (Ug (N:=["row","told"]) (by decide +kernel) rfl) rfl (Or.inl rfl) (.inr rfl)) Pf)))) (fun _ _ _ _=>⟨_,ag,by walk_at "B"⟩) (fun _ _ _ _=>⟨_,(Ro T.Sz g42 hr rfl T.Vz T.Mp .nil Fb (bb (pv 0) (bb (pv 1) fb))),by walk_at "B"⟩))))),?_⟩;walk_at "RD";refine ⟨x,rfl,hz,nt,fun p H1 sm1 nt1 ⟨ps,hp,hp0,hpn,hpl,hpa⟩=>?_⟩;walk_at "RD";refine ⟨⟨_,SqL.of hp⟩,?_⟩;have hlen:ps.length <= sizeLine:=by
  rw [hpl];unfold Zg;rw [length_map];have:=ms (x:=x) (y:=nl) (by rw [uA];exact Nat.le_refl _);exact Nat.le_trans (show _ <= 40000 by omega) (by decide)
 refine fe.enum (xs:=ps.map V.ref) (fun i ys H2=>Pb H1 H2/\NoT H2/\∃ qs:List Addr,ys=qs.map V.ref/\qs.length=i/\∀ (j:Nat) (q:Addr) (r:List Str),qs[j]? = some q->(Zg x)[j]? = some r->Me t H2 q j r 0/\H1 q=none)
  (by rw [length_map];exact hlen) ⟨Pb.refl H1,nt1,[],rfl,rfl,fun j q r h _=>by simp at h⟩ ?_ ?_ ?_
 ·rintro i ys H2 hi zzq;refine zzP fun zzM zzh=>?_
  obtain ⟨s2,n2,qs,rfl,hq,_⟩:=zzq;subst zzh;exact ⟨SqL.of (s2 _ _ hp),by rw [length_map];omega⟩
 ·rintro i v ys H2 p2 hv ⟨s2,n2,qs,rfl,hq,al⟩ hp2 N hN;rw [getElem?_map] at hv;cases hpi:ps[i]? with
  | none=>rw [hpi] at hv;cases hv
  | some pi=>
   rw [hpi] at hv;have e:=(Option.some.inj hv).symm;subst e;refine Jk ?_;walk_at "RD";refine ⟨Sub.name2,fun a dx ha hd hne=>?_⟩;refine ⟨a,dx,pi,i,rfl,db,rfl,?_⟩;rw [pj];have s3:Pb H2 (upd (upd (upd H2 p2 (.tup [.int i,.ref pi])) dx (.own a)) a (.ins t.Eb dx (rdF i pi 0))):=by
    have s':Pb H2 (upd H2 p2 (.tup [.int i,.ref pi])):=wb hp2;exact ((Pb.trans s' (wb hd)).updN (s'.free ha))
   obtain ⟨r,hr⟩:∃ r,(Zg x)[i]? = some r:=⟨(Zg x)[i]'(by rw [<- hpl];exact (List.getElem?_eq_some_iff.mp hpi).1),getElem?_eq_getElem _⟩;have ha2:H2 a=none:=(wb hp2).free ha;refine hN _ _ ⟨s2.trans s3,((n2.upd).upd).upd,qs ++ [a],by rw [map_append];rfl,by rw [length_append,hq];rfl,fun j q' r' h1 h2=>?_⟩;by_cases hj:j < qs.length
   ·rw [getElem?_append_left hj] at h1;obtain ⟨z1,z2⟩:=al j q' r' h1 h2;exact ⟨z1.same s3,z2⟩
   ·rw [getElem?_append_right (by omega)] at h1;have hj0:j - qs.length=0:=by
     cases hh:j - qs.length with
     | zero=>rfl
     | succ n=>rw [hh] at h1;simp at h1
    rw [hj0] at h1;have e3:a=q':=by simpa using h1
    subst e3;have e4:j=i:=by omega
    subst e4;rw [hr] at h2;cases h2;refine ⟨⟨hrow r (mem_of_getElem? hr),dx,pi,db,?_⟩,s2.free ha2⟩;exact s3 _ _ (s2 _ _ (hpa j pi r hpi hr).1)
 ·rintro ys H2 ⟨s2,n2,qs,rfl,hq,al⟩ p2 hp2;refine q p2 _ ((sm1.trans s2).updN ((sm1.trans s2).free hp2)) (n2.upd) ⟨qs,db,(sm1.trans s2).free hp2,by rw [hq,length_map,hpl],fun i q' r h1 h2=>?_⟩;obtain ⟨z1,z2⟩:=al i q' r h1 h2;exact ⟨z1.same (wb hp2),sm1.free z2⟩
end
noncomputable def rQ (q:Addr) (H:Hp) (R:Hp->Prop):Prop:=∀ H',Dc q H H'->NoT H'->R H'
noncomputable def lF (t:Adr):Sp:=fun vs H Q _=>∃ q row n,vs=[.ref q]/\Me t H q row [Str.ofString "ring",num n] 0/\(2 <= n/\n <= 99)/\NoT H/\rQ q H (Q (.int n))
noncomputable def Rk (t:Adr) (H:Hp) (wl:Addr) (ds:List WD):Prop:=∃ as:List Addr,H wl=some (.lst (as.map V.ref))/\as.length=ds.length/\∀ (i:Nat) (a:Addr) (d:WD),as[i]? = some a->ds[i]? = some d->Oe t H a d
noncomputable def lu (t:Adr):Sp:=fun vs H Q _=>∃ q row ws pl wl ds x,vs=[.ref q,.ref wl]/\Me t H q row ws pl/\ws[pl]? = some x/\made x lj 8=true/\Rk t H wl ds/\ds.length <= 12/\(∀ d ∈ ds,d.name ≠ x)/\NoT H /\
 ∀ H',Dc q H H'->NoT H'->Me t H' q row ws (pl + 1)->Q (.str x) H'
noncomputable def uJ (t:Adr):Sp:=fun vs H Q _=>∃ q row ws pl n st fi,vs=[.ref q,.int n,.int st]/\Me t H q row ws pl/\ws[pl]? = some (num fi)/\(0 <= st/\st < n)/\(0 <= fi/\fi < n)/\st ≠ fi/\n <= 99/\NoT H /\
 ∀ H',Dc q H H'->NoT H'->Me t H' q row ws (pl + 1)->Q (.int fi) H'
noncomputable def EA (t:Adr):Sp:=fun vs H Q _=>∃ d:WD,vs=[.str (Ae d.k),.str d.name,.int d.start,.int d.fin,.int d.off,.int d.near,.int d.least]/\d.k < 3/\∀ x H',Pb H H'->(NoT H->NoT H')->Oe t H' x d->H x=none->Q (.ref x) H'
noncomputable def KJ (t:Adr):Sp:=fun vs H Q _=>∃ q row n wl ds d,vs=[.ref q,.int n,.ref wl]/\Me t H q row (ul d) 0/\WOk n d/\(2 <= n/\n <= 99)/\Rk t H wl ds/\ds.length <= 12/\(∀ e ∈ ds,e.name ≠ d.name)/\NoT H /\
 ∀ x H',Dc q H H'->NoT H'->Oe t H' x d->H x=none->Q (.ref x) H'
theorem Rk.sameX {t:Adr} {H H':Hp} {q wl:Addr} {ds:List WD} {row:Int} {ws:List Str} {pl:Nat} (h:Rk t H wl ds) (s:Dc q H H') (r:Me t H q row ws pl):Rk t H' wl ds:=by
 obtain ⟨as,e1,e2,al⟩:=h;obtain ⟨hz,dx,ta,e3,e4⟩:=r;refine ⟨as,s _ _ (Zd e1 e3 (by intro z;cases z)) e1,e2,fun i a d h1 h2=>?_⟩;obtain ⟨hk,dx',e5⟩:=al i a d h1 h2;refine ⟨hk,dx',s _ _ (fun z=>?_) e5⟩;subst z;rw [e5] at e3;have e6:=Option.some.inj e3;injection e6 with _ _ e8;have e9:(7:Nat)=3:=congrArg List.length e8;omega
theorem Rk.same {t:Adr} {H H':Hp} {wl:Addr} {ds:List WD} (h:Rk t H wl ds) (s:Pb H H'):Rk t H' wl ds:=by
 obtain ⟨as,e1,e2,al⟩:=h;exact ⟨as,s _ _ e1,e2,fun i a d h1 h2=>(al i a d h1 h2).same s⟩
section
variable {P:Program} {w:World} {K:W.Frag} {mg:Str->Option Value} {base:Heap} {t:Adr}
theorem SM (T:Txt w K mg t):Gb P w K mg base CX0 5 t.xj t.Ej ["reader"] (lF t):=by
 have g28:Gb P w K mg base CX0 4 t.lc t.Fc ["self","choices"] (bv K t):=(CA T).mono (by decide);have g18:Gb P w K mg base CX0 4 t.Qb t.fc ["self","low","high"] (xv t):=xz T;have g29:Gb P w K mg base CX0 4 t.nc t.Ec ["self"] (fG t):=(AK T).mono (by decide);refine T.Um.ok wp (fun vs H Q E h=>?_) (fun _ _ _ s H vs Q E hr h=>?_)
 ·obtain ⟨q,row,n,rfl,_⟩:=h;rfl
 obtain ⟨q,row,n,rfl,R,hn,nt,qq⟩:=h;refine ⟨_,(cb (Xb (Xc (pv 0) T.zb T.re g28 hr T.qe .nil Fb (bb (Cf (bb Rc fb)) fb)))
   (cb (Db (i:=1) wp.nd rfl (Or.inl rfl) (Xc (pv 0) T.zb T.ac g18 hr T.bc .nil Fb (bb (Wg rfl T.eu T.Rt) (bb (Wg rfl T.yv T.Xv) fb))))
   (cb (Xb (zd (pv 0) T.zb T.Je g29 hr T.Ke .nil Fb))
   (ib (Lb (pv 1)))))),?_⟩
 obtain ⟨_,dx,ta,e1,e2⟩:=id R;walk_at "RD";refine ⟨_,_,e1,Me.no _ _ _ (by decide +kernel),by decide,fun p hp=>?_⟩;have s0:Pb H (upd H p (.lst [V.str (Str.ofString "ring")])):=wb hp;refine ⟨q,row,_,0,Str.ofString "ring",p,[Str.ofString "ring"],rfl,R.same s0,rfl,SqL.of db,by simp,fun H1 s1 n1 R1=>?_⟩;obtain ⟨_,dx1,ta1,f1,f2⟩:=id R1;walk_at "RD";refine ⟨_,_,f1,Me.no _ _ _ (by decide +kernel),?_⟩;have nt1:=n1 nt.upd;refine ⟨q,row,_,1,num n,2,99,n,rfl,R1,rfl,Tm (by omega) (by omega) hn.1 hn.2,nt1,fun H2 s2 n2 R2=>?_⟩;obtain ⟨_,dx2,ta2,g1,g2⟩:=id R2;walk_at "RD";refine ⟨_,_,g1,Me.no _ _ _ (by decide +kernel),?_⟩;refine ⟨q,row,_,2,rfl,R2,rfl,?_⟩;walk_at "RD";exact qq H2 (((Dc.of s0).trans s1).trans s2) (n2 nt1)
theorem kC (T:Txt w K mg t):Gb P w K mg base CX0 3 t.Lf t.Af ["reader","ways"] (lu t):=by
 have g14:Gb P w K mg base CX0 2 t.gc t.Cc ["self"] (sj t):=(Jl T).mono (by decide);have g20:Gb P w K mg base CX0 2 t.xc t.Jc ["self","good"] (Nv t):=(Ly T).mono (by decide);have g43:Gb P w K mg base CX0 2 t.Gn t.En ["word"] nF:=TK T;refine T.Eh.ok gk (fun vs H Q E h=>?_) (fun _ _ _ s H vs Q E hr h=>?_)
 ·obtain ⟨q,row,ws,pl,wl,ds,x,rfl,_⟩:=h;rfl
 obtain ⟨q,row,ws,pl,wl,ds,x,rfl,R,hx,hm,hW,hdl,hnew,nt,qq⟩:=h;refine ⟨_,(cb (Db (i:=2) gk.nd rfl (Or.inl rfl) (zd (pv 0) T.zb T.Qd g14 hr T.Td .nil Fb))
   (cb (Xb (Xc (pv 0) T.zb T.Fe g20 hr T.Ge .nil Fb (bb (zE (Bb g43 hr rfl T.zG T.Cr.kp T.qF .nil Fb (bb (pv 2) fb)) (Dx (af gx (pv 2) (Xg rfl (Ac (pv 1)) (kd (sc:=rb Ih) rfl (by decide +kernel)) (N:=["way"]) (sel:=[none]) (Yd (M:=["reader","ways","name"]) (by decide +kernel)) (Blk.of (fun _ _ _ _=>(Cb (i:=0) (Ug (N:=["way"]) (by decide +kernel) rfl) rfl (Or.inl rfl))) (fun _ _ _ _=>⟨_,ag,by walk_at "B"⟩) (fun _ _ _ _=>⟨_,(vc (pv 0) rfl),by walk_at "B"⟩))) (by with_unfolding_all rfl)))) fb)))
   (ib (Lb (pv 2))))),?_⟩
 have hlt:pl < ws.length:=(List.getElem?_eq_some_iff.mp hx).1;have hg:ws.getD pl (Str.ofString "")=x:=by rw [getD_eq_getElem?_getD,hx];rfl
 obtain ⟨hz,dx,ta,e1,e2⟩:=id R;walk_at "RD";refine ⟨_,_,e1,Me.no _ _ _ (by decide +kernel),⟨q,row,ws,pl,rfl,R,by omega,?_⟩⟩;rw [hg];walk_at "RD";refine ⟨_,_,e1,Me.no _ _ _ (by decide +kernel),?_⟩;refine ⟨x,rfl,hz.2 x (mem_of_getElem? hx),nt,?_⟩;rw [hm];walk_at "RD";obtain ⟨as,w1,w2,al⟩:=hW;refine ⟨⟨_,SqL.of w1⟩,?_⟩;have hle:(as.map V.ref).length <= sizeLine:=by rw [length_map,w2];exact Nat.le_trans hdl (by decide)
 refine fe.list_zs (xs:=as.map V.ref) (zs:=ds.map fun d=>V.str d.name) (SqL.of w1) hle (by rw [length_map,length_map,w2]) (fun i v z N hv hz' hN=>?_) (fun p hp=>?_)
 ·obtain ⟨a,ha,rfl⟩:=Kb hv;obtain ⟨d,hd,rfl⟩:=Kb hz';walk_at "RD";exact ⟨Sub.name,_,(al i a d ha hd).f_name T,hN⟩
 ·walk_at "RD";have e0:(ds.map fun d=>V.str d.name)=Jb (ds.map (·.name)):=by unfold Jb;rw [map_map];rfl
  rw [e0];refine ⟨_,.inl (SqL.of db),rfl,mo _,?_⟩;rw [lw,decide_eq_false (fun z=>by
   obtain ⟨d,hd,e⟩:=List.mem_map.mp z;exact hnew d hd e)]
  have s0:Pb H (upd H p (.lst (Jb (ds.map (·.name))))):=wb hp;exact ⟨q,row,ws,pl,rfl,R.same s0,fun H' s1 n1 R1=>qq H' ((Dc.of s0).trans s1) (n1 nt.upd) R1⟩
theorem jP (T:Txt w K mg t):Gb P w K mg base CX0 5 t.Cl t.Dl ["reader","places","start"] (uJ t):=by
 have g14:Gb P w K mg base CX0 4 t.gc t.Cc ["self"] (sj t):=(Jl T).mono (by decide);have g18:Gb P w K mg base CX0 4 t.Qb t.fc ["self","low","high"] (xv t):=xz T;refine T.Bo.ok Ty (fun vs H Q E h=>?_) (fun _ _ _ s H vs Q E hr h=>?_)
 ·obtain ⟨q,row,ws,pl,n,st,fi,rfl,_⟩:=h;rfl
 obtain ⟨q,row,ws,pl,n,st,fi,rfl,R,hx,hst,hfi,hne,hn,nt,qq⟩:=h;refine ⟨_,(cb (Ye (dc qk (zd (pv 0) T.zb T.Qd g14 hr T.Td .nil Fb) (gf zf rfl T.EC vh (bb (pv 2) fb)) (yc _)) (ib Al) zc)
   (ib (Lb (Xc (pv 0) T.zb T.ac g18 hr T.bc .nil Fb (bb xb (bb (Nb Mg (pv 1) xb) fb)))))),?_⟩
 have hlt:pl < ws.length:=(List.getElem?_eq_some_iff.mp hx).1;have hg:ws.getD pl (Str.ofString "")=num fi:=by rw [getD_eq_getElem?_getD,hx];rfl
 obtain ⟨hz,dx,ta,e1,e2⟩:=id R;walk_at "RD";refine Pc false (fun Q hQ=>?_) (fun hc=>nomatch hc) (fun _=>?_)
 ·walk_at "RD";refine ⟨_,_,e1,Me.no _ _ _ (by decide +kernel),⟨q,row,ws,pl,rfl,R,by omega,?_⟩⟩;rw [hg];walk_at "RD";refine ⟨Hs (by omega),?_⟩;rw [decide_eq_false (fun z=>hne (RK (by omega) (by omega) (by omega) (by omega) z).symm)];exact hQ
 ·walk_at "RD";refine ⟨_,_,e1,Me.no _ _ _ (by decide +kernel),⟨q,row,ws,pl,num fi,0,n - 1,fi,rfl,R,hx,Tm (by omega) (by omega) (by omega) (by omega),nt,fun H1 s1 n1 R1=>?_⟩⟩;exact qq H1 s1 (n1 nt) R1
theorem vN {t:Adr} {H:Hp} {x dx:Addr} {d:WD} (hx:H x=none) (hd:H dx=none) (hk:d.k < 3) :
  Pb H (upd (upd (upd H dx (.own x)) x (.ins (t.cw d.k) dx [])) x (.ins (t.cw d.k) dx (Op d)))/\(NoT H->NoT (upd (upd (upd H dx (.own x)) x (.ins (t.cw d.k) dx [])) x (.ins (t.cw d.k) dx (Op d)))) /\
   Oe t (upd (upd (upd H dx (.own x)) x (.ins (t.cw d.k) dx [])) x (.ins (t.cw d.k) dx (Op d))) x d:=
 ⟨(((Pb.refl H).updN hd).updN hx).updN hx,fun n=>((n.upd).upd).upd,hk,dx,db⟩
theorem tI (T:Txt w K mg t):Gb P w K mg base CX0 4 t.Ml t.Ol ["sort","name","start","end","off","near","least"] (EA t):=by
 have g44:Gb P w K mg base CX0 2 t.Sf t.kh ["self","name","start","end","off","near","least"] (Nl t 0):=MM T;have g45:Gb P w K mg base CX0 2 t.df t.Dg ["self","name","start","end","off","near","least"] (Nl t 1):=wI T;have g46:Gb P w K mg base CX0 2 t.jf t.wg ["self","name","start","end","off","near","least"] (Nl t 2):=eI T;refine T.Io.ok Gy (fun vs H Q E h=>?_) (fun _ _ _ s H vs Q E hr h=>?_)
 ·obtain ⟨d,rfl,_⟩:=h;rfl
 obtain ⟨d,rfl,hk,q⟩:=h;refine ⟨_,(cb (Ye (dc qk (pv 0) Rc (yc _)) (ib (Lb (Ro T.YI g44 hr rfl T.qI T.gw .nil Fb (bb (pv 1) (bb (pv 2) (bb (pv 3) (bb (pv 4) (bb (pv 5) (bb (pv 6) fb))))))))) zc)
   (cb (Ye (dc qk (pv 0) Rc (yc _)) (ib (Lb (Ro T.vE g45 hr rfl T.gE T.Qt .nil Fb (bb (pv 1) (bb (pv 2) (bb (pv 3) (bb (pv 4) (bb (pv 5) (bb (pv 6) fb))))))))) zc)
   (ib (Lb (Ro T.DD g46 hr rfl T.XE T.Tt .nil Fb (bb (pv 1) (bb (pv 2) (bb (pv 3) (bb (pv 4) (bb (pv 5) (bb (pv 6) fb))))))))))),?_⟩
 have fin:∀ (x dx:Addr),H x=none->H dx=none->Q (.ref x) (upd (upd (upd H dx (.own x)) x (.ins (t.cw d.k) dx [])) x (.ins (t.cw d.k) dx (Op d))):=fun x dx hx hd=>by
  obtain ⟨m1,m2,m3⟩:=vN (t:=t) (d:=d) hx hd hk;exact q x _ m1 m2 m3 hx
 obtain ⟨k,name,start,fi,off,near,least⟩:=d
 match k,hk with
 | 0,_=>
  (walk_at "RD"; repeat (simp only [Ae];walk_at "RD"));refine Pc true (fun Q hQ=>?_) (fun _=>?_) (fun hc=>nomatch hc)
  ·walk_at "RD";exact hQ
  ·walk_at "RD";exact fun x dx hx hd hne=>⟨x,dx,⟨0,name,start,fi,off,near,least⟩,rfl,rfl,db,rfl,fin x dx hx hd⟩
 | 1,_=>
  (walk_at "RD"; repeat (simp only [Ae];walk_at "RD"));refine Pc false (fun Q hQ=>?_) (fun hc=>nomatch hc) (fun _=>?_)
  ·walk_at "RD";rw [decide_eq_false (by decide +kernel)];exact hQ
  ·walk_at "RD";refine Pc true (fun Q hQ=>?_) (fun _=>?_) (fun hc=>nomatch hc)
   ·walk_at "RD";exact hQ
   ·walk_at "RD";exact fun x dx hx hd hne=>⟨x,dx,⟨1,name,start,fi,off,near,least⟩,rfl,rfl,db,rfl,fin x dx hx hd⟩
 | 2,_=>
  (walk_at "RD"; repeat (simp only [Ae];walk_at "RD"));refine Pc false (fun Q hQ=>?_) (fun hc=>nomatch hc) (fun _=>?_)
  ·walk_at "RD";rw [decide_eq_false (by decide +kernel)];exact hQ
  ·walk_at "RD";refine Pc false (fun Q hQ=>?_) (fun hc=>nomatch hc) (fun _=>?_)
   ·walk_at "RD";rw [decide_eq_false (by decide +kernel)];exact hQ
   ·walk_at "RD";exact fun x dx hx hd hne=>⟨x,dx,⟨2,name,start,fi,off,near,least⟩,rfl,rfl,db,rfl,fin x dx hx hd⟩
theorem rP (T:Txt w K mg t):Gb P w K mg base CX0 6 t.Kl t.Fl ["reader","places","ways"] (KJ t):=by
 have g28:Gb P w K mg base CX0 5 t.lc t.Fc ["self","choices"] (bv K t):=(CA T).mono (by decide);have g18:Gb P w K mg base CX0 5 t.Qb t.fc ["self","low","high"] (xv t):=(xz T).mono (by decide);have g29:Gb P w K mg base CX0 5 t.nc t.Ec ["self"] (fG t):=(AK T).mono (by decide);have g47:Gb P w K mg base CX0 5 t.Lf t.Af ["reader","ways"] (lu t):=(kC T).mono (by decide);have g48:Gb P w K mg base CX0 5 t.Cl t.Dl ["reader","places","start"] (uJ t):=jP T;have g49:Gb P w K mg base CX0 5 t.Ml t.Ol ["sort","name","start","end","off","near","least"] (EA t):=(tI T).mono (by decide);refine T.Lo.ok Te (fun vs H Q E h=>?_) (fun _ _ _ s H vs Q E hr h=>?_)
 ·obtain ⟨q,row,n,wl,ds,d,rfl,_⟩:=h;rfl
 obtain ⟨q,row,n,wl,ds,d,rfl,R,hd,hn,hW,hdl,hnew,nt,qq⟩:=h;refine ⟨_,(cb (Db (i:=3) Te.nd rfl (Or.inl rfl) (Xc (pv 0) T.zb T.re g28 hr T.qe .nil Fb (bb (Cf (bb Rc (bb Rc (bb Rc fb)))) fb)))
   (cb (Db (i:=4) Te.nd rfl (Or.inl rfl) (Bb g47 hr rfl T.Wr T.Eh.kp T.Ls .nil Fb (bb (pv 0) (bb (pv 2) fb))))
   (cb (Db (i:=5) Te.nd rfl (Or.inl rfl) (Xc (pv 0) T.zb T.ac g18 hr T.bc .nil Fb (bb xb (bb (Nb Mg (pv 1) xb) fb))))
   (cb (Db (i:=6) Te.nd rfl (Or.inl rfl) (Bb g48 hr rfl T.KB T.Bo.kp T.NB .nil Fb (bb (pv 0) (bb (pv 1) (bb (pv 5) fb)))))
   (cb (Db (i:=7) Te.nd rfl (Or.inl rfl) (Xc (pv 0) T.zb T.ac g18 hr T.bc .nil Fb (bb xb (bb (Wg rfl T.fC T.UB) fb))))
   (cb (Db (i:=8) Te.nd rfl (Or.inl rfl) (Xc (pv 0) T.zb T.ac g18 hr T.bc .nil Fb (bb xb (bb (Wg rfl T.Py T.Nz) fb))))
   (cb (Db (i:=9) Te.nd rfl (Or.inl rfl) (Xc (pv 0) T.zb T.ac g18 hr T.bc .nil Fb (bb xb (bb (Wg rfl T.Kx T.Gw) fb))))
   (cb (Xb (zd (pv 0) T.zb T.Je g29 hr T.Ke .nil Fb))
   (ib (Lb (Bb g49 hr rfl T.qC T.Io.kp T.KC .nil Fb (bb (pv 3) (bb (pv 4) (bb (pv 5) (bb (pv 6) (bb (pv 7) (bb (pv 8) (bb (pv 9) fb)))))))))))))))))),?_⟩
 have b1:=hd.st;have b2:=hd.fi;have b3:=hd.of;have b4:=hd.nr;have b5:=hd.le;obtain ⟨_,dx,ta,e1,e2⟩:=id R;walk_at "RD";refine ⟨_,_,e1,Me.no _ _ _ (by decide +kernel),by decide,fun p hp=>?_⟩;have s0:Pb H (upd H p (.lst [V.str (Str.ofString "car"),V.str (Str.ofString "foot"),V.str (Str.ofString "tram")])):=wb hp;have hin:Ae d.k ∈ [Str.ofString "car",Str.ofString "foot",Str.ofString "tram"]:=by
  have:=hd.k
  match d.k,this with
  | 0,_=>simp [Ae]
  | 1,_=>simp [Ae]
  | 2,_=>simp [Ae]
 refine ⟨q,row,_,0,Ae d.k,p,[Str.ofString "car",Str.ofString "foot",Str.ofString "tram"],rfl,R.same s0,rfl,SqL.of db,hin,fun H1 s1 n1 R1=>?_⟩;have x1:Dc q H H1:=(Dc.of s0).trans s1;have m1:=n1 nt.upd;walk_at "RD";refine ⟨q,row,_,1,wl,ds,d.name,rfl,R1,rfl,hd.nm,hW.sameX x1 R,hdl,hnew,m1,fun H2 s2 m2 R2=>?_⟩;obtain ⟨_,dx2,ta2,f2,g2⟩:=id R2;have x2:=x1.trans s2;walk_at "RD";refine ⟨_,_,f2,Me.no _ _ _ (by decide +kernel),⟨q,row,_,2,num d.start,0,n - 1,d.start,rfl,R2,rfl,Tm (by omega) (by omega) (by omega) (by omega),m2,fun H3 s3 n3 R3=>?_⟩⟩;have x3:=x2.trans s3;have m3:=n3 m2;walk_at "RD";refine ⟨q,row,_,3,n,d.start,d.fin,rfl,R3,rfl,b1,b2,hd.ne,hn.2,m3,fun H4 s4 m4 R4=>?_⟩;obtain ⟨_,dx4,ta4,f4,g4⟩:=id R4;have x4:=x3.trans s4;walk_at "RD";refine ⟨_,_,f4,Me.no _ _ _ (by decide +kernel),⟨q,row,_,4,num d.off,0,30,d.off,rfl,R4,rfl,Tm (by omega) (by omega) (by omega) (by omega),m4,fun H5 s5 n5 R5=>?_⟩⟩;obtain ⟨_,dx5,ta5,f5,g5⟩:=id R5;have x5:=x4.trans s5;have m5:=n5 m4;walk_at "RD";refine ⟨_,_,f5,Me.no _ _ _ (by decide +kernel),⟨q,row,_,5,num d.near,0,30,d.near,rfl,R5,rfl,Tm (by omega) (by omega) (by omega) (by omega),m5,fun H6 s6 n6 R6=>?_⟩⟩;obtain ⟨_,dx6,ta6,f6,g6⟩:=id R6;have x6:=x5.trans s6;have m6:=n6 m5;walk_at "RD";refine ⟨_,_,f6,Me.no _ _ _ (by decide +kernel),⟨q,row,_,6,num d.least,1,60,d.least,rfl,R6,rfl,Tm (by omega) (by omega) (by omega) (by omega),m6,fun H7 s7 n7 R7=>?_⟩⟩;obtain ⟨_,dx7,ta7,f7,g7⟩:=id R7;have x7:=x6.trans s7;have m7:=n7 m6;walk_at "RD";refine ⟨_,_,f7,Me.no _ _ _ (by decide +kernel),⟨q,row,_,7,rfl,R7,rfl,?_⟩⟩;walk_at "RD";refine ⟨d,rfl,hd.k,fun x H8 s8 n8 w8 hx8=>?_⟩;refine qq x H8 (x7.trans (Dc.of s8)) (n8 m7) w8 ?_;cases hH:H x with
 | none=>rfl
 | some u=>
  by_cases hxq:x=q
  ·subst hxq;rw [f7] at hx8;cases hx8
  ·rw [x7 x u hxq hH] at hx8;cases hx8
end
end My
namespace My
open PySem L2
noncomputable abbrev LC:List Str:=[Str.ofString "places",Str.ofString "ways",Str.ofString "numbers"]
noncomputable def cF (n:Int) (wl nd:Addr):List (Str × V):=[(Str.ofString "places",.int n),(Str.ofString "ways",.ref wl),(Str.ofString "numbers",.ref nd)]
theorem Hv (n:Int) (wl nd:Addr):(cF n wl nd).map (·.1)=LC:=rfl
noncomputable def nm (ds:List WD) (i:Nat):Str:=((ds[i]?).map (·.name)).getD (Str.ofString "")
noncomputable def Ey (ds:List WD) (i:Nat):List (Key × V):=(List.range i).map fun j=>(Sum.inr (nm ds j),V.int j)
theorem Wt {ds:List WD} {i:Nat} {d:WD} (h:ds[i]? = some d):nm ds i=d.name:=by unfold nm;rw [h];rfl
theorem VA {ds:List WD} (h:(ds.map (·.name)).Nodup) {i j:Nat} (hi:i < ds.length) (hj:j < ds.length) (e:nm ds i=nm ds j):i=j:=by
 rw [Wt (getElem?_eq_getElem hi),Wt (getElem?_eq_getElem hj)] at e;have:=(List.getElem_inj (xs:=ds.map (·.name)) (i:=i) (j:=j) (h₀:=by rw [length_map];exact hi) (h₁:=by rw [length_map];exact hj) h).mp (by rw [getElem_map,getElem_map];exact e);exact this
theorem vA {ds:List WD} (h:(ds.map (·.name)).Nodup) {i:Nat}:∀ {n:Nat},i < n->n <= ds.length->Us (Ey ds n) (Sum.inr (nm ds i))=some (.int i):=by
 intro n
 induction n with
 | zero=>intro hi _;omega
 | succ n ih=>
  intro hi hn;unfold Ey Us;rw [List.range_succ,map_append,List.find?_append];by_cases c:i < n
  ·have:=ih c (by omega);unfold Ey Us at this;cases e:List.find? (fun kv=>decide (kv.fst=Sum.inr (nm ds i))) (List.map (fun j=>((Sum.inr (nm ds j):Key),V.int j)) (List.range n)) with
   | none=>rw [e] at this;cases this
   | some p=>rw [e] at this;exact this
  ·have e:i=n:=by omega
   subst e;have no:List.find? (fun kv=>decide (kv.fst=Sum.inr (nm ds i))) (List.map (fun j=>((Sum.inr (nm ds j):Key),V.int j)) (List.range i))=none:=by
    rw [List.find?_eq_none];intro p hp;obtain ⟨j,hj,rfl⟩:=List.mem_map.mp hp;have hj':=List.mem_range.mp hj;simp only [decide_eq_true_eq];intro z;have:=VA h (by omega) (by omega) (Sum.inr.inj z);omega
   rw [no];simp
theorem YK {ds:List WD} {x:Str} (h:∀ d ∈ ds,d.name ≠ x):∀ {n:Nat},n <= ds.length->Us (Ey ds n) (Sum.inr x)=none:=by
 intro n hn;unfold Us Ey;rw [List.find?_eq_none.mpr]
 ·rfl
 intro p hp;obtain ⟨j,hj,rfl⟩:=List.mem_map.mp hp;have hj':=List.mem_range.mp hj;simp only [decide_eq_true_eq];intro z;have hjl:j < ds.length:=by omega
 have e:=Sum.inr.inj z;rw [Wt (getElem?_eq_getElem hjl)] at e;exact h _ (getElem_mem hjl) e
theorem cJ {ds:List WD} (h:(ds.map (·.name)).Nodup) {n:Nat} (hn:n < ds.length):Dy (Ey ds n) (Sum.inr (nm ds n)) (.int n)=Ey ds (n + 1):=by
 unfold Dy;have no:((Ey ds n).any fun kv=>decide (kv.1=Sum.inr (nm ds n)))=false:=by
  rw [List.any_eq_false];intro p hp;obtain ⟨j,hj,rfl⟩:=List.mem_map.mp hp;have hj':=List.mem_range.mp hj;simp only [decide_eq_true_eq];intro z;have:=VA h (by omega) hn (Sum.inr.inj z);omega
 rw [no];unfold Ey;rw [List.range_succ,map_append];rfl
theorem ye {H H1 H2:Hp} {q:Addr} (a:Pb H H1) (b:Dc q H1 H2) (n:H q=none):Pb H H2:=fun c u e=>b c u (yb e n) (a c u e)
theorem PH {t:Adr} {H:Hp} {p q:Addr} {i j:Int} {ws vs:List Str} {k l:Nat} (a:Me t H p i ws k) (b:Me t H q j vs l) (n:i ≠ j):p ≠ q:=fun z=>by
 subst z;obtain ⟨_,dx,ta,e1,_⟩:=a;obtain ⟨_,dx',ta',e2,_⟩:=b;rw [e1] at e2;have e3:=Option.some.inj e2;injection e3 with _ _ e4;unfold rdF at e4;injection e4 with e5 _;injection e5 with _ e6;injection e6 with e7;exact n e7
theorem mx {t:Adr} {H:Hp} {p q:Addr} {d:WD} {j:Int} {vs:List Str} {l:Nat} (a:Oe t H p d) (b:Me t H q j vs l):p ≠ q:=fun z=>by
 subst z;obtain ⟨_,dx,e1⟩:=a;obtain ⟨_,dx',ta',e2,_⟩:=b;rw [e1] at e2;have e3:=Option.some.inj e2;injection e3 with _ _ e4;exact absurd (congrArg List.length e4) (by show ¬ (7:Nat)=3;decide)
noncomputable def Lc (t:Adr) (H:Hp) (c:Addr) (n:Int) (ds:List WD):Prop:=
 ((ds.map (·.name)).Nodup/\ds.length <= 12)/\∃ dx wl nd,H c=some (.ins t.Zb dx (cF n wl nd))/\Rk t H wl ds/\H nd=some (.dK (Ey ds ds.length))
theorem Lc.same {t:Adr} {H H':Hp} {c:Addr} {n:Int} {ds:List WD} (h:Lc t H c n ds) (s:Pb H H'):Lc t H' c n ds:=by
 obtain ⟨h0,dx,wl,nd,e1,e2,e3⟩:=h;exact ⟨h0,dx,wl,nd,s _ _ e1,e2.same s,s _ _ e3⟩
theorem qx {m:Str} (n:Int) (wl nd:Addr) (h:LC.contains m=false):(cF n wl nd).lookup m=none:=Pn LC (Hv ..) h
section
variable {w:World} {K:W.Frag} {mg:Str->Option Value} {t:Adr} {H:Hp} {c dx wl nd:Addr} {n:Int}
theorem FH (T:Txt w K mg t) (e:H c=some (.ins t.Zb dx (cF n wl nd))):Qi K H c (Str.ofString "places") (.int n):=⟨_,dx,_,e,T.Ob,T.ki,Vd LC 0 (Hv ..) (by decide +kernel) rfl⟩
theorem xD (T:Txt w K mg t) (e:H c=some (.ins t.Zb dx (cF n wl nd))):Qi K H c (Str.ofString "ways") (.ref wl):=⟨_,dx,_,e,T.Ob,T.ik,Vd LC 1 (Hv ..) (by decide +kernel) rfl⟩
theorem Wi (T:Txt w K mg t) (e:H c=some (.ins t.Zb dx (cF n wl nd))):Qi K H c (Str.ofString "numbers") (.ref nd):=⟨_,dx,_,e,T.Ob,T.zh,Vd LC 2 (Hv ..) (by decide +kernel) rfl⟩
end
noncomputable def RJ (t:Adr):Sp:=fun vs H Q _=>∃ c dx n wl ds,vs=[.ref c,.int n,.ref wl]/\H c=some (.ins t.Zb dx [])/\Rk t H wl ds/\(ds.map (·.name)).Nodup/\ds.length <= 12/\NoT H /\
 ∀ H',Dc c H H'->NoT H'->Lc t H' c n ds->Q .non H'
noncomputable def KO (t:Adr):Sp:=fun vs H Q _=>∃ n ds,vs=[.str (iw n ds)]/\COk n ds/\NoT H/\∀ c H',Pb H H'->NoT H'->Lc t H' c n ds->Q (.ref c) H'
noncomputable def Hl (t:Adr):Sp:=fun vs H Q _=>∃ c n ds,vs=[.ref c]/\Lc t H c n ds/\∀ p,H p=none->Q (.ref p) (upd H p (.lst (Jb (ds.map (·.name)))))
noncomputable def By (t:Adr):Sp:=fun vs H Q _=>∃ c n ds,∃ i:Nat,∃ d,vs=[.ref c,.str d.name]/\Lc t H c n ds/\ds[i]? = some d/\Q (.int (i:Nat)) H
noncomputable def Pi (t:Adr):Sp:=fun vs H Q _=>∃ c n ds,∃ i:Nat,∃ d,vs=[.ref c,.str d.name]/\Lc t H c n ds/\ds[i]? = some d/\∀ a,Oe t H a d->Q (.ref a) H
section
variable {P:Program} {w:World} {K:W.Frag} {mg:Str->Option Value} {base:Heap} {t:Adr}
theorem bP (T:Txt w K mg t):Gb P w K mg base CX0 1 t.We t.Jf ["self","places","ways"] (RJ t):=by
 refine T.Xk.ok bf (fun vs H Q E h=>?_) (fun _ _ _ s H vs Q E hr h=>?_)
 ·obtain ⟨c,dx,n,wl,ds,rfl,_⟩:=h;rfl
 obtain ⟨c,dx,n,wl,ds,rfl,hc,hW,hnd,hdl,nt,q⟩:=h;have hu:=CC hr;refine ⟨_,(cb (Vf (pv 0) (pv 1) rfl)
   (cb (Vf (pv 0) (pv 2) rfl)
   (cb (Vf (pv 0) cq rfl)
   (ib (Wd PassesOwn.never rfl (cr rfl T.Jh (bb (pv 2) fb)) (Tf (K:=K) (n:=2) rfl rfl (Rb (Cb (i:=3) bf.nd rfl (Or.inl rfl) (.inl rfl)) (Rb (Cb (i:=4) bf.nd rfl (Or.inl rfl) (.inl rfl)) Pf))) (ib (Dv hu (vc (pv 0) rfl) (vc (pv 4) rfl) (pv 3) rfl))))))),?_⟩
 walk_at "RD";refine ⟨_,_,_,hc,T.Ob,T.ki,by decide,?_⟩;refine ⟨_,_,_,db,T.Ob,T.ik,ko (n:=999) (by decide),fun nd hn=>?_⟩;simp only [pj] at hn ⊢;rw [show lh (Str.ofString "places") (V.int n) ([]:List (Str × V))=[(Str.ofString "places",V.int n)] from rfl,show lh (Str.ofString "ways") (V.ref wl) [(Str.ofString "places",V.int n)]=[(Str.ofString "places",V.int n),(Str.ofString "ways",V.ref wl)] from Ad [Str.ofString "places"] rfl (by decide +kernel)] at hn ⊢;have hnc:c ≠ nd:=fun z=>by subst z;rw [db] at hn;cases hn
 refine ⟨t.Zb,dx,[(Str.ofString "places",V.int n),(Str.ofString "ways",V.ref wl)],by rw [jb hnc];exact db,T.Ob,T.zh,show (2:Nat) < 1000 by decide,?_⟩;rw [show lh (Str.ofString "numbers") (V.ref nd) [(Str.ofString "places",V.int n),(Str.ofString "ways",V.ref wl)]=cF n wl nd from Ad [Str.ofString "places",Str.ofString "ways"] rfl (by decide +kernel)];obtain ⟨as,w1,w2,al⟩:=hW;have hHn:H nd=none:=by rw [jb (Ne.symm hnc)] at hn;exact hn
 have sx:Dc c H (upd (upd (upd H c (.ins t.Zb dx [(Str.ofString "places",V.int n),(Str.ofString "ways",V.ref wl)])) nd (.dK [])) c (.ins t.Zb dx (cF n wl nd))):=fun b u hb e=>by
  rw [jb hb,jb (yb e hHn),jb hb];exact e
 have hwc:wl ≠ c:=Zd w1 hc (by intro z;cases z);refine ⟨⟨_,SqL.of (sx _ _ hwc w1)⟩,?_⟩;refine Qh.enum (xs:=as.map V.ref) (fun i σ H'=>(∃ x y,σ=[some (V.ref c),some (V.int n),some (V.ref wl),x,y])/\H' c=some (.ins t.Zb dx (cF n wl nd))/\H' nd=some (.dK (Ey ds i))/\Dc c H H'/\NoT H') ?_ ?_ ?_ ?_
 ·exact ⟨⟨_,_,rfl⟩,db,by rw [jb (Ne.symm hnc),db];rfl,sx,((nt.upd).upd).upd⟩
 ·rintro i σ H' hi zzq;refine zzP fun zzM zzh=>?_
  obtain ⟨_,_,_,sx',_⟩:=zzq;subst zzh;exact SqL.of (sx' _ _ hwc w1)
 ·rintro i v σ H' p hv ⟨⟨x,y,rfl⟩,h1,h2,sx',nt'⟩ hp;obtain ⟨a,ha,rfl⟩:=Kb hv;obtain ⟨hi,_⟩:=List.getElem?_eq_some_iff.mp ha;have hid:i < ds.length:=by omega
  have hd:ds[i]? = some ds[i]:=getElem?_eq_getElem hid;have Wa:Oe t H a ds[i]:=al i a _ ha hd;have hac:a ≠ c:=by
   obtain ⟨_,dx',e⟩:=Wa;intro z;subst z;rw [hc] at e;have e2:=Option.some.inj e;injection e2 with _ _ e3;exact absurd (congrArg List.length e3) (by show ¬ (0:Nat)=7;decide)
  have Wa':Oe t H' a ds[i]:=⟨Wa.1,Wa.2.imp fun dx' e=>sx' _ _ hac e⟩;have sp:Pb H' (upd H' p (.tup [.int i,.ref a])):=wb hp;refine Jk ?_;walk_at "RD";refine ⟨_,Wi T (sp _ _ h1),_,(Wa'.same sp).f_name T,_,rfl,_,ZF.k (k:=Sum.inr ds[i].name) (sp _ _ h2) (Nat.lt_of_le_of_lt (show (Ey ds i).length <= 12 by unfold Ey;rw [length_map,length_range];omega) (by decide)),?_⟩;rw [<- Wt hd,cJ hnd hid];refine ⟨⟨_,rfl⟩,?_,db,fun b u hb e=>?_,(nt'.upd).upd⟩
  ·rw [jb hnc];exact sp _ _ h1
  ·rw [jb (yb e hHn)];exact sp _ _ (sx' b u hb e)
 ·rintro σ H' zzq;refine zzP fun zzM zzh=>?_
  obtain ⟨⟨x,y,rfl⟩,h1,h2,sx',nt'⟩:=zzq;subst zzh;walk_at "RD";rw [length_map,w2] at h2;refine q H' sx' nt' ⟨⟨hnd,hdl⟩,dx,wl,nd,h1,⟨as,sx' _ _ hwc w1,w2,fun i a d h3 h4=>?_⟩,h2⟩;have Wa:=al i a d h3 h4;have hac:a ≠ c:=by
   obtain ⟨_,dx',e⟩:=Wa;intro z;subst z;rw [hc] at e;have e2:=Option.some.inj e;injection e2 with _ _ e3;exact absurd (congrArg List.length e3) (by show ¬ (0:Nat)=7;decide)
  exact ⟨Wa.1,Wa.2.imp fun dx' e=>sx' _ _ hac e⟩
theorem vD (T:Txt w K mg t):Gb P w K mg base CX0 1 t.vd t.Pd ["self","name"] (By t):=by
 refine T.Wf.ok oi (fun vs H Q E h=>?_) (fun _ _ _ s H vs Q E hr h=>?_)
 ·obtain ⟨c,n,ds,i,d,rfl,_⟩:=h;rfl
 obtain ⟨c,n,ds,i,d,rfl,⟨⟨hnd,hdl⟩,dx,wl,nd,e1,e2,e3⟩,hd,q⟩:=h;have hu:=CC hr;have hv:Us (Ey ds ds.length) (Sum.inr d.name)=some (.int i):=by
  rw [<- Wt hd];exact vA hnd (List.getElem?_eq_some_iff.mp hd).1 (Nat.le_refl _)
 have hg:Is H nd (.str d.name) (some (.int i)):=by rw [<- hv];exact Is.k (k:=Sum.inr d.name) e3
 refine ⟨_,(cb (Ye (IJ (Vw hu (pv 1) (vc (pv 0) rfl))) (ib Al) zc)
   (ib (Lb (Bq hu (vc (pv 0) rfl) (pv 1) (fun _ _=>rfl))))),?_⟩
 walk_at "RD";refine Pc false (fun Q hQ=>?_) (fun hc=>nomatch hc) (fun _=>?_)
 ·walk_at "RD";refine ⟨_,Wi T e1,_,rfl,_,hg,?_⟩;exact hQ
 ·walk_at "RD";exact ⟨_,Wi T e1,_,rfl,_,hg,q⟩
theorem zk (T:Txt w K mg t):Gb P w K mg base CX0 2 t.Yb t.ic ["self","name"] (Pi t):=by
 have g50:Gb P w K mg base CX0 1 t.vd t.Pd ["self","name"] (By t):=vD T;refine T.fg.ok bi (fun vs H Q E h=>?_) (fun _ _ _ s H vs Q E hr h=>?_)
 ·obtain ⟨c,n,ds,i,d,rfl,_⟩:=h;rfl
 obtain ⟨c,n,ds,i,d,rfl,C,hd,q⟩:=h;obtain ⟨⟨hnd,hdl⟩,dx,wl,nd,e1,⟨as,w1,w2,al⟩,e3⟩:=id C;refine ⟨_,(ib (Lb (yd Zf (vc (pv 0) rfl) (Xc (pv 0) T.Ob T.Si g50 hr T.Zi .nil Fb (bb (pv 1) fb)) (fun _ _=>rfl)))),?_⟩;walk_at "RD";refine ⟨_,xD T e1,_,_,e1,qx _ _ _ (by decide +kernel),⟨c,n,ds,i,d,rfl,C,hd,?_⟩⟩;have hi:i < as.length:=by rw [w2];exact (List.getElem?_eq_some_iff.mp hd).1
 have ha:as[i]? = some as[i]:=getElem?_eq_getElem hi;walk_at "RD";refine ⟨_,SqL.of w1,_,Bc (show (as.map V.ref)[i]? = some (V.ref as[i]) by rw [getElem?_map,ha];rfl),?_⟩;exact q as[i] (al i _ d ha hd)
theorem wQ (T:Txt w K mg t):Gb P w K mg base CX0 7 t.Hf t.Df ["text"] (KO t):=by
 have g30:Gb P w K mg base CX0 6 t.yl t.rk ["text"] (so t):=(Ou T).mono (by decide);have g51:Gb P w K mg base CX0 6 t.xj t.Ej ["reader"] (lF t):=(SM T).mono (by decide);have g52:Gb P w K mg base CX0 6 t.Kl t.Fl ["reader","places","ways"] (KJ t):=rP T;have g53:Gb P w K mg base CX0 5 t.We t.Jf ["self","places","ways"] (RJ t):=(bP T).mono (by decide);refine T.Dh.ok Ee (fun vs H Q E h=>?_) (fun _ _ _ s H vs Q E hr h=>?_)
 ·obtain ⟨n,ds,rfl,_⟩:=h;rfl
 obtain ⟨n,ds,rfl,hC,nt,qq⟩:=h;refine ⟨_,(cb (Db (i:=1) Ee.nd rfl (Or.inl rfl) (Bb g30 hr rfl T.Fw T.Wn.kp T.Lw .nil Fb (bb (pv 0) fb)))
   (cb (Db (i:=2) Ee.nd rfl (Or.inl rfl) (Bb g51 hr rfl T.Jy T.Um.kp T.bA .nil Fb (bb (yd Zf (pv 1) xb (fun _ _=>rfl)) fb)))
   (cb (Db (i:=3) Ee.nd rfl (Or.inl rfl) (Cf fb))
   (cb (Wd PassesOwn.never rfl (Ac (jn BF (pv 1) (Lq xb) Jr)) (Cb (i:=4) Ee.nd rfl (Or.inl rfl)) (cb (Ye (dc qk (Ed wc rfl T.Ql Zc (bb (pv 3) fb)) (Wg rfl T.uz T.Oz) (yc _)) (ib Al) zc)
   (ib (Xb (ol PySem.F.plainAttrs_list PySem.F.slot_list_append PySem.F.type_list_append Pe (pv 3) (bb (Bb g52 hr rfl T.GC T.Lo.kp T.NC .nil Fb (bb (pv 4) (bb (pv 2) (bb (pv 3) fb)))) fb))))))
   (cb (Ye (cj (vq (pv 3) (fun _=>rfl))) (ib Al) zc)
   (ib (Lb (Ro T.iC g53 hr rfl T.OC T.kr .nil Fb (bb (pv 2) (bb (pv 3) fb)))))))))),?_⟩
 have hrow:=FC hC;have hlen:=UE hC;have hnn:=hC.nn;have hln:=hC.ln;walk_at "RD";refine ⟨iw n ds,rfl,by omega,?_,nt,fun p H1 sm1 nt1 R=>?_⟩
 ·rw [hrow];intro r hr;refine ⟨?_,fun x hx=>Nat.le_trans (hC.plain r hr x hx).1 (by decide)⟩;rcases List.mem_cons.mp hr with rfl | hr
  ·show (2:Nat) <= 1000;decide
  ·obtain ⟨d,hd,rfl⟩:=List.mem_map.mp hr;show (7:Nat) <= 1000;decide
 rw [hrow] at R;obtain ⟨qs,hp,hp0,hql,hqa⟩:=R;have hql':qs.length=ds.length + 1:=by rw [hql];simp [Mi]
 obtain ⟨q0,qr,rfl⟩:∃ q0 qr,qs=q0 :: qr:=by
  cases qs with
  | nil=>simp at hql'
  | cons a b=>exact ⟨a,b,rfl⟩
 obtain ⟨R0,hq0⟩:=hqa 0 q0 _ rfl rfl;walk_at "RD";refine ⟨_,SqL.of hp,_,Bc (j:=0) rfl,⟨q0,_,n,rfl,R0,hnn,nt1,fun H2 s2 nt2=>⟨Nat.zero_le _,fun wl hwl=>?_⟩⟩⟩;obtain ⟨C0,dq0,fq0,hins⟩:=R0.ins;have hpq:p ≠ q0:=Zd hp hins (by intro z;cases z);have hp2:H2 p=some (.lst ((q0 :: qr).map V.ref)):=s2 _ _ hpq hp;have swl:Pb H2 (upd H2 wl (.lst [])):=wb hwl;have hcut:JC ((q0 :: qr).map V.ref) (some 1) none=qr.map V.ref:=by
  unfold JC;simp [HT.sIx];exact take_of_length_le (by rw [length_map];exact Nat.le_refl _)
 refine ⟨_,SqL.of (swl _ _ hp2),fun pc hpc=>?_⟩;rw [hcut];have hpw:pc ≠ wl:=fun z=>by subst z;rw [db] at hpc;cases hpc
 have spc:Pb (upd H2 wl (.lst [])) (upd (upd H2 wl (.lst [])) pc (.lst (qr.map V.ref))):=wb hpc;refine ⟨⟨_,SqL.of db⟩,?_⟩;have sH2:Pb H H2:=ye sm1 s2 hq0;have hqrl:qr.length=ds.length:=by simpa using hql'
 refine Qh.list (xs:=qr.map V.ref) (fun i σ H'=>(∃ x,σ=[some (V.str (iw n ds)),some (V.ref p),some (V.int n),some (V.ref wl),x])/\NoT H'/\Pb H H'/\H' pc=some (.lst (qr.map V.ref))/\H wl=none/\Rk t H' wl (ds.take i) /\
  ∀ (j:Nat) (q:Addr) (d:WD),i <= j->qr[j]? = some q->ds[j]? = some d->Me t H' q ((j + 1:Nat):Int) (ul d) 0/\H q=none) ?_ ?_ ?_ ?_
 ·refine ⟨⟨_,rfl⟩,(nt2.upd).upd,(sH2.trans swl).trans spc,db,sH2.free hwl,⟨[],spc _ _ db,rfl,fun j a d h=>by simp at h⟩,fun j q d _ h1 h2=>?_⟩;have hr:(Mi n ds)[j + 1]? = some (ul d):=by
   unfold Mi;rw [getElem?_cons_succ,getElem?_map,h2];rfl
  obtain ⟨Rj,hqj⟩:=hqa (j + 1) q _ (by rw [getElem?_cons_succ];exact h1) hr;refine ⟨((Rj.sameX s2 (PH Rj R0 (by omega)) R0.ins).same swl).same spc,hqj⟩
 ·rintro i σ H' hi zzq;refine zzP fun zzM zzh=>?_
  obtain ⟨_,_,_,h,_⟩:=zzq;subst zzh;exact SqL.of h
 ·rintro i v σ H' hv zzq;refine zzP fun zzM zzh=>?_
  obtain ⟨⟨x,rfl⟩,nt',sm',hpc',hwl0,W,Rs⟩:=zzq;obtain ⟨q,hq,rfl⟩:=Kb hv;obtain ⟨hi,_⟩:=List.getElem?_eq_some_iff.mp hq;have hid:i < ds.length:=by omega
  have hd:ds[i]? = some ds[i]:=getElem?_eq_getElem hid;obtain ⟨Rq,hqn⟩:=Rs i q _ (Nat.le_refl _) hq hd;have htl:(ds.take i).length=i:=by rw [length_take];omega
  obtain ⟨as,w1,w2,al⟩:=id W;subst zzh;walk_at "RD";refine Pc false (fun Q hQ=>?_) (fun hc=>nomatch hc) (fun _=>?_)
  ·walk_at "RD";refine ⟨_,.inl (SqL.of w1),?_⟩;rw [length_map,w2,htl];rw [decide_eq_false (by omega)] <;> exact hQ
  ·walk_at "RD";refine ⟨.inl ⟨_,SqL.of w1⟩,?_⟩;refine ⟨q,_,n,wl,ds.take i,ds[i],rfl,Rq,hC.al _ (getElem_mem hid),hnn,W,by omega,fun e he z=>?_,nt',fun y H3 s3 nt3 w3 hy3=>?_⟩
   ·obtain ⟨j,hj,rfl⟩:=getElem_of_mem he;rw [List.getElem_take] at z;have hj':j < i:=by omega
    have:=VA hC.nd (i:=j) (j:=i) (by omega) hid (by rw [Wt (getElem?_eq_getElem (by omega)),Wt hd];exact z);omega
   ·walk_at "RD";obtain ⟨Cq,dq,fq,hqi⟩:=Rq.ins;have hwq:wl ≠ q:=Zd w1 hqi (by intro z;cases z);have hw3:H3 wl=some (.lst (as.map V.ref)):=s3 _ _ hwq w1;have hsm3:Pb H H3:=ye sm' s3 hqn;refine ⟨_,hw3,Nat.lt_of_le_of_lt (show (as.map V.ref).length <= 12 by rw [length_map];omega) (by decide),?_⟩;have hyw:y ≠ wl:=fun z=>by
     subst z;rw [w1] at hy3;cases hy3
    refine ⟨⟨_,rfl⟩,nt3.upd,fun b u e=>?_,?_,hwl0,⟨as ++ [y],by rw [db,map_append];rfl,?_,fun j a d h1 h2=>?_⟩,fun j q' d hj h1 h2=>?_⟩
    ·rw [jb (yb e hwl0)];exact hsm3 _ _ e
    ·rw [jb hpw];exact s3 _ _ (Zd hpc' hqi (by intro z;cases z)) hpc'
    ·rw [length_append,w2,htl,length_take];show i + 1=_;omega
    ·by_cases hj:j < as.length
     ·rw [getElem?_append_left hj] at h1;have h2':(ds.take i)[j]? = some d:=by
       rw [List.getElem?_take_of_lt (by omega)];rw [List.getElem?_take_of_lt (by omega)] at h2;exact h2
      obtain ⟨hk,dx',e⟩:=al j a d h1 h2';have haq:a ≠ q:=mx ⟨hk,dx',e⟩ Rq;have haw:a ≠ wl:=Zd e w1 (by intro z;cases z);exact ⟨hk,dx',by rw [jb haw];exact s3 _ _ haq e⟩
     ·rw [getElem?_append_right (by omega)] at h1;have hj0:j - as.length=0:=by
       cases hh:j - as.length with
       | zero=>rfl
       | succ m=>rw [hh] at h1;simp at h1
      rw [hj0] at h1;have e3:y=a:=by simpa using h1
      subst e3;have e4:j=i:=by omega
      subst e4;rw [List.getElem?_take_of_lt (by omega),hd] at h2;cases h2;exact ⟨w3.1,w3.2.imp fun dx' e=>by rw [jb hyw];exact e⟩
    ·obtain ⟨Rj,hqj⟩:=Rs j q' d (by omega) h1 h2;have R3:=Rj.sameX s3 (PH Rj Rq (by omega)) Rq.ins;refine ⟨?_,hqj⟩;obtain ⟨hz,dx',ta,e1,e2⟩:=R3;refine ⟨hz,dx',ta,by rw [jb (Zd e1 hw3 (by intro z;cases z))];exact e1,?_⟩;rw [jb (fun z=>by
      subst z;rw [hw3] at e2;have e5:=Option.some.inj e2;injection e5 with e6;cases as with
      | nil=>exact absurd (congrArg List.length e6) (by show ¬ (0:Nat)=7;decide)
      | cons a r=>injection e6 with e7 _;cases e7)]
     exact e2
 ·rintro σ H' zzq;refine zzP fun zzM zzh=>?_
  obtain ⟨⟨x,rfl⟩,nt',sm',hpc',hwl0,W,Rs⟩:=zzq;subst zzh;rw [length_map,hqrl,take_length] at W;obtain ⟨as,w1,w2,al⟩:=id W;walk_at "RD";refine Pc false (fun Q hQ=>?_) (fun hc=>nomatch hc) (fun _=>?_)
  ·walk_at "RD";refine ⟨true,.inl ⟨_,SqL.of w1,?_⟩,hQ⟩;cases as with
   | nil=>simp at w2;omega
   | cons a r=>rfl
  ·walk_at "RD";intro c dx hc hdx hne;have sc:Pb H' (upd (upd H' dx (.own c)) c (.ins t.Zb dx [])):=((Pb.refl H').updN hdx).updN hc;refine ⟨c,dx,n,wl,ds,rfl,db,W.same sc,hC.nd,hln.2,(nt'.upd).upd,fun H5 s5 nt5 C5=>⟨rfl,?_⟩⟩;exact qq c H5 (ye (sm'.trans sc) s5 (sm'.free hc)) nt5 C5
end
section
variable {P:Program} {w:World} {K:W.Frag} {mg:Str->Option Value} {base:Heap} {t:Adr}
theorem Jn (T:Txt w K mg t):Gb P w K mg base CX0 1 t.Gc t.ad ["self"] (Hl t):=by
 refine T.Sj.ok Ko (fun vs H Q E h=>?_) (fun _ _ _ s H vs Q E hr h=>?_)
 ·obtain ⟨c,n,ds,rfl,_⟩:=h;rfl
 obtain ⟨c,n,ds,rfl,⟨⟨hnd,hdl⟩,dx,wl,nd,e1,⟨as,w1,w2,al⟩,e3⟩,q⟩:=h;refine ⟨_,(ib (Lb (Xg rfl (Ac (vc (pv 0) rfl)) (kd (sc:=rb Yg) rfl (by decide +kernel)) (N:=["way"]) (sel:=[none]) (Yd (M:=["self"]) (by decide +kernel)) (Blk.of (fun _ _ _ _=>(Cb (i:=0) (Ug (N:=["way"]) (by decide +kernel) rfl) rfl (Or.inl rfl))) (fun _ _ _ _=>⟨_,ag,by walk_at "B"⟩) (fun _ _ _ _=>⟨_,(vc (pv 0) rfl),by walk_at "B"⟩))))),?_⟩;walk_at "RD";refine ⟨_,xD T e1,_,rfl,⟨_,SqL.of w1⟩,?_⟩;refine fe.list_zs (xs:=as.map V.ref) (zs:=Jb (ds.map (·.name))) (SqL.of w1) (by rw [length_map,w2];exact Nat.le_trans hdl (by decide)) (by rw [xk,length_map,length_map,w2]) (fun i v z N hv hz' hN=>?_) (fun p hp=>q p hp);obtain ⟨a,ha,rfl⟩:=Kb hv;obtain ⟨x,hx,rfl⟩:=Kb hz';obtain ⟨d,hd,rfl⟩:=Kb hx;walk_at "RD";exact ⟨Sub.name,_,(al i a d ha hd).f_name T,hN⟩
end
noncomputable def zv (x:Str):Prop:=x.length <= 1000/\∀ c ∈ x.cps.toList,c < 16 ^ 8
noncomputable def Om (ds:List WD) (x:Str):Prop:=∀ d ∈ ds,d.name ≠ x
noncomputable def bw (t:Adr) (x:Str) (H:Hp) (E:XK):Prop:=∀ dx H',Pb H H'->(NoT H->NoT H')->H' dx=some (.ext (XD dx [(Str.ofString "name",.str x)]))->E (.ref t.se) (some dx) H'
noncomputable def sJ (t:Adr):Sp:=fun vs H Q _=>∃ x n,vs=[.ref x,.str n]/\zv n/\H x=some (.ext (XF x t.se none)) /\
 ∀ dx,H dx=none->dx ≠ x->Q .non (upd (upd H x (.ext (XF x t.se (some dx)))) dx (.ext (XD dx [(Str.ofString "name",.str n)])))
noncomputable def su (t:Adr):Sp:=fun vs H Q E=>∃ c n ds x,vs=[.ref c,.str x]/\Lc t H c n ds/\zv x/\((∃ i:Nat,∃ d,ds[i]? = some d/\x=d.name/\Q (.int (i:Nat)) H)\/(Om ds x/\bw t x H E))
noncomputable def Wu (t:Adr):Sp:=fun vs H Q E=>∃ c n ds x,vs=[.ref c,.str x]/\Lc t H c n ds/\zv x/\((∃ i:Nat,∃ d,ds[i]? = some d/\x=d.name/\∀ a,Oe t H a d->Q (.ref a) H)\/(Om ds x/\bw t x H E))
section
variable {P:Program} {w:World} {K:W.Frag} {mg:Str->Option Value} {base:Heap} {t:Adr}
theorem VO (T:Txt w K mg t):Gb P w K mg base CX0 1 t.Gg t.Ai ["self","name"] (sJ t):=by
 refine T.lp.ok oo (fun vs H Q E h=>?_) (fun _ _ _ s H vs Q E hr h=>?_)
 ·obtain ⟨x,n,rfl,_⟩:=h;rfl
 obtain ⟨x,n,rfl,hn,hx,q⟩:=h;refine ⟨_,(cb (Xb (rn rfl T.Bh T.yh (bb (pv 0) (bb (Kk (ug (yq (pv 1) xx)) (by rw [sizeLine_eq];decide)) fb))))
   (ib (Rn (pv 0) (pv 1) rfl))),?_⟩
 walk_at "RD";refine ⟨hn.1,hn.2,fun y=>⟨_,_,hx,T.Fv,?_⟩⟩;exact ⟨_,hx,T.Fv,T.Sn,q⟩
theorem TB (T:Txt w K mg t):Gb P w K mg base (CX1 P w) 3 t.vd t.Pd ["self","name"] (su t):=by
 have g54:Gb P w K mg base CX0 1 t.Gg t.Ai ["self","name"] (sJ t):=VO T;refine T.Wf.okX oi (fun vs H Q E h=>?_) (fun _ _ _ s H vs Q E hr h=>?_)
 ·obtain ⟨c,n,ds,x,rfl,_⟩:=h;rfl
 obtain ⟨c,n,ds,x,rfl,⟨⟨hnd,hdl⟩,dx,wl,nd,e1,e2,e3⟩,hsm,hq⟩:=h;have hu:=CC hr;refine ⟨_,(cb (Ye (IJ (Vw hu (pv 1) (vc (pv 0) rfl))) (ib (Tn (Mn T.FA g54 hr rfl T.iE T.Rw (bb (pv 1) fb)) ir)) zc)
   (ib (Lb (Bq hu (vc (pv 0) rfl) (pv 1) (fun _ _=>rfl))))),?_⟩
 rcases hq with ⟨i,d,hd,rfl,q⟩ | ⟨hs,q⟩
 ·have hv:Us (Ey ds ds.length) (Sum.inr d.name)=some (.int i):=by
   rw [<- Wt hd];exact vA hnd (List.getElem?_eq_some_iff.mp hd).1 (Nat.le_refl _)
  have hg:Is H nd (.str d.name) (some (.int i)):=by rw [<- hv];exact Is.k (k:=Sum.inr d.name) e3
  walk_at "RD";refine Pc false (fun Q hQ=>?_) (fun hc=>nomatch hc) (fun _=>?_)
  ·walk_at "RD";refine ⟨_,Wi T e1,_,rfl,_,hg,?_⟩;exact hQ
  ·walk_at "RD";exact ⟨_,Wi T e1,_,rfl,_,hg,q⟩
 ·have hv:Us (Ey ds ds.length) (Sum.inr x)=none:=YK hs (Nat.le_refl _);have hg:Is H nd (.str x) none:=by rw [<- hv];exact Is.k (k:=Sum.inr x) e3
  walk_at "RD";refine Pc true (fun Q hQ=>?_) (fun _=>?_) (fun hc=>nomatch hc)
  ·walk_at "RD";refine ⟨_,Wi T e1,_,rfl,_,hg,?_⟩;exact hQ
  ·walk_at "RD";refine ⟨Nat.le_trans (show 1 <= 1000 by decide) (by decide),fun a ha=>⟨a,x,rfl,hsm,db,fun d hd hne=>?_⟩⟩;have hd0:H d=none:=by rw [jb hne] at hd;exact hd
   refine ⟨rfl,t.se,some d,by rw [jb (Ne.symm hne),db],T.Fv,q d _ (fun b u e=>?_) (fun nt=>(((nt.upd).upd).upd).upd) (by rw [jb hne,db])⟩;rw [jb (yb e ha),jb (yb e hd0),jb (yb e ha),jb (yb e ha)];exact e
theorem EB (T:Txt w K mg t):Gb P w K mg base (CX1 P w) 4 t.Yb t.ic ["self","name"] (Wu t):=by
 have g55:Gb P w K mg base (CX1 P w) 3 t.vd t.Pd ["self","name"] (su t):=TB T;refine T.fg.okX bi (fun vs H Q E h=>?_) (fun _ _ _ s H vs Q E hr h=>?_)
 ·obtain ⟨c,n,ds,x,rfl,_⟩:=h;rfl
 obtain ⟨c,n,ds,x,rfl,C,hsm,hq⟩:=h;obtain ⟨⟨hnd,hdl⟩,dx,wl,nd,e1,⟨as,w1,w2,al⟩,e3⟩:=id C;refine ⟨_,(ib (Lb (yd Zf (vc (pv 0) rfl) (Xc (pv 0) T.Ob T.Si g55 hr T.Zi .nil ee (bb (pv 1) fb)) (fun _ _=>rfl)))),?_⟩;walk_at "RD";refine ⟨_,xD T e1,_,_,e1,qx _ _ _ (by decide +kernel),⟨c,n,ds,x,rfl,C,hsm,?_⟩⟩;rcases hq with ⟨i,d,hd,ex,q⟩ | ⟨hs,q⟩
 ·refine .inl ⟨i,d,hd,ex,?_⟩;have hi:i < as.length:=by rw [w2];exact (List.getElem?_eq_some_iff.mp hd).1
  have ha:as[i]? = some as[i]:=getElem?_eq_getElem hi;walk_at "RD";refine ⟨_,SqL.of w1,_,Bc (show (as.map V.ref)[i]? = some (V.ref as[i]) by rw [getElem?_map,ha];rfl),?_⟩;exact q as[i] (al i _ d ha hd)
 ·exact .inr ⟨hs,q⟩
end
end My
namespace My
open PySem L2
theorem fK {n s j:Int} (h0:0 <= s) (h1:s < n) (h2:0 <= j) (h3:j < n):(s + j) % n=if s + j < n then s + j else s + j - n:=by
 split
 ·rename_i h;exact Int.emod_eq_of_lt (by omega) h
 ·rename_i h;have e:s + j=(s + j - n) + n:=by omega
  rw [e,Int.add_emod_right];have:s + j - n + n - n=s + j - n:=by omega
  rw [this];exact Int.emod_eq_of_lt (by omega) (by omega)
theorem iD {n s p:Int} (h0:0 <= s) (h1:s < n) (h2:0 <= p) (h3:p < n):(p - s) % n=if s <= p then p - s else p - s + n:=by
 split
 ·rename_i h;exact Int.emod_eq_of_lt (by omega) (by omega)
 ·rename_i h;have e:(p - s) % n=(p - s + n) % n:=(Int.add_emod_right ..).symm;rw [e];exact Int.emod_eq_of_lt (by omega) (by omega)
theorem yy {n s p j:Int} (h0:0 <= s) (h1:s < n) (h2:0 <= p) (h3:p < n) (h4:0 <= j) (h5:j < n):(s + j) % n=p↔(p - s) % n=j:=by
 rw [fK h0 h1 h4 h5,iD h0 h1 h2 h3];constructor <;> intro h <;> split at h <;> split <;> omega
noncomputable def ind (n s p i:Int):Int:=if 0 < (p - s) % n/\(p - s) % n <= i then 1 else 0
theorem cB {n s p i:Int} (h0:0 <= s) (h1:s < n) (h2:0 <= p) (h3:p < n) (h4:0 <= i) (h5:i + 1 < n):ind n s p (i + 1)=ind n s p i + (if (s + (i + 1)) % n=p then 1 else 0):=by
 have k:=yy (j:=i + 1) h0 h1 h2 h3 (by omega) h5;unfold ind;by_cases c:(s + (i + 1)) % n=p
 ·have e:=k.mp c;rw [if_pos c,e,if_pos (by omega),if_neg (by omega)];rfl
 ·have e:¬ (p - s) % n=i + 1:=fun z=>c (k.mpr z)
  rw [if_neg c];by_cases d:0 < (p - s) % n/\(p - s) % n <= i
  ·rw [if_pos d,if_pos (by omega)];rfl
  ·rw [if_neg d,if_neg (by omega)];rfl
noncomputable def Fm (n s f p:Int):Bool:=decide (0 < (p - s) % n) && decide ((p - s) % n < (f - s) % n)
noncomputable def zy (n s f s2 f2:Int):Bool:=decide (f=f2) || (if (s2=s\/s2=f)\/(f2=s\/f2=f) then false else (Fm n s f s2 != Fm n s f f2))
theorem xH {n s f s2 f2:Int} (hs:0 <= s/\s < n) (hf:0 <= f/\f < n) (hs2:0 <= s2/\s2 < n) (hf2:0 <= f2/\f2 < n) (h1:f ≠ f2) (h2:¬ ((s=s2\/s=f2)\/f=s2)) :
  decide (ind n s s2 ((f - s) % n) + ind n s f2 ((f - s) % n)=1)=zy n s f s2 f2:=by
 have k1:=(yy (n:=n) (s:=s) (p:=f) (j:=(s2 - s) % n) hs.1 hs.2 hf.1 hf.2 (Int.emod_nonneg _ (by omega)) (Int.emod_lt_of_pos _ (by omega)));have e1:=(yy (n:=n) (s:=s) (p:=s2) (j:=(s2 - s) % n) hs.1 hs.2 hs2.1 hs2.2 (Int.emod_nonneg _ (by omega)) (Int.emod_lt_of_pos _ (by omega))).mpr rfl;have k2:=(yy (n:=n) (s:=s) (p:=f) (j:=(f2 - s) % n) hs.1 hs.2 hf.1 hf.2 (Int.emod_nonneg _ (by omega)) (Int.emod_lt_of_pos _ (by omega)));have e2:=(yy (n:=n) (s:=s) (p:=f2) (j:=(f2 - s) % n) hs.1 hs.2 hf2.1 hf2.2 (Int.emod_nonneg _ (by omega)) (Int.emod_lt_of_pos _ (by omega))).mpr rfl;rw [e1] at k1;rw [e2] at k2;have n1:(f - s) % n ≠ (s2 - s) % n:=fun z=>h2 (.inr ((k1.mpr z).symm))
 have n2:(f - s) % n ≠ (f2 - s) % n:=fun z=>h1 ((k2.mpr z).symm)
 unfold zy Fm ind;have hno:¬ ((s2=s\/s2=f)\/(f2=s\/f2=f)):=by omega
 rw [decide_eq_false h1,Bool.false_or,if_neg hno];generalize (f - s) % n=L at *;generalize (s2 - s) % n=A at *;generalize (f2 - s) % n=B at *;by_cases a:0 < A/\A <= L
 ·by_cases b:0 < B/\B <= L
  ·rw [if_pos a,if_pos b,decide_eq_true a.1,decide_eq_true b.1,decide_eq_true (show A < L by omega),decide_eq_true (show B < L by omega)];decide
  ·rw [if_pos a,if_neg b,decide_eq_true a.1,decide_eq_true (show A < L by omega)];by_cases b':0 < B
   ·rw [decide_eq_true b',decide_eq_false (show ¬ B < L by omega)];decide
   ·rw [decide_eq_false b',Bool.false_and];decide
 ·by_cases b:0 < B/\B <= L
  ·rw [if_neg a,if_pos b,decide_eq_true b.1,decide_eq_true (show B < L by omega)];by_cases a':0 < A
   ·rw [decide_eq_true a',decide_eq_false (show ¬ A < L by omega)];decide
   ·rw [decide_eq_false a',Bool.false_and];decide
  ·rw [if_neg a,if_neg b];have x:(decide (0 < A) && decide (A < L))=false:=by
    rw [Bool.and_eq_false_iff];simp only [decide_eq_false_iff_not];omega
   have y:(decide (0 < B) && decide (B < L))=false:=by
    rw [Bool.and_eq_false_iff];simp only [decide_eq_false_iff_not];omega
   rw [x,y];decide
theorem fQ {X Y X' Y':Prop} [Decidable X] [Decidable Y] [Decidable X'] [Decidable Y'] (h:(X↔Y)↔(X'↔Y')):(decide X != decide Y)=(decide X' != decide Y'):=by
 by_cases a:X <;> by_cases b:Y <;> by_cases c:X' <;> by_cases d:Y' <;> simp_all
theorem fJ {s f p:Int} (h1:p ≠ s) (h2:p ≠ f) (h3:s ≠ f):((decide (s < f) && decide (f < p) && !decide (s < p)) || (!decide (s < f) && !decide (f < p) && decide (s < p)))=false:=by
 by_cases a:s < f <;> by_cases b:f < p
 ·rw [decide_eq_true a,decide_eq_true b,decide_eq_true (show s < p by omega)];rfl
 ·rw [decide_eq_true a,decide_eq_false b];rfl
 ·rw [decide_eq_false a,decide_eq_true b];rfl
 ·rw [decide_eq_false a,decide_eq_false b,decide_eq_false (show ¬ s < p by omega)];rfl
theorem dC {s p:Int} (h:s ≠ p):decide (p < s) = !decide (s < p):=by
 by_cases a:s < p
 ·rw [decide_eq_true a,decide_eq_false (by omega)];rfl
 ·rw [decide_eq_false a,decide_eq_true (by omega)];rfl
theorem vv {n s f p:Int} (hs:0 <= s/\s < n) (hf:0 <= f/\f < n) (hp:0 <= p/\p < n) (h1:p ≠ s) (h2:p ≠ f) (h3:s ≠ f):Fm n s f p=((decide (s < p) && decide (p < f)) || (decide (p < f) && decide (f < s)) || (decide (f < s) && decide (s < p))):=by
 unfold Fm;rw [iD hs.1 hs.2 hp.1 hp.2,iD hs.1 hs.2 hf.1 hf.2,decide_eq_true (show 0 < (if s <= p then p - s else p - s + n) by split <;> omega),Bool.true_and,dC h3];by_cases a:s < p <;> by_cases b:s < f
 ·rw [if_pos (by omega),if_pos (by omega),decide_eq_true a,decide_eq_true b,show decide (p - s < f - s)=decide (p < f) from decide_eq_decide.mpr (by omega)];cases decide (p < f) <;> rfl
 ·rw [if_pos (by omega),if_neg (by omega),decide_eq_true a,decide_eq_false b,decide_eq_true (show p - s < f - s + n by omega)];cases decide (p < f) <;> rfl
 ·rw [if_neg (by omega),if_pos (by omega),decide_eq_false a,decide_eq_true b,decide_eq_false (show ¬ p - s + n < f - s by omega)];cases decide (p < f) <;> rfl
 ·rw [if_neg (by omega),if_neg (by omega),decide_eq_false a,decide_eq_false b,show decide (p - s + n < f - s + n)=decide (p < f) from decide_eq_decide.mpr (by omega)];cases decide (p < f) <;> rfl
theorem CQ:∀ a b c d e g:Bool,((a && d && !b) || (!a && !d && b))=false->((a && e && !c) || (!a && !e && c))=false->((b && g && !c) || (!b && !g && c))=false->((d && g && !e) || (!d && !g && e))=false ->
  (((b && !d) || (!d && !a) || (!a && b)) != ((c && !e) || (!e && !a) || (!a && c)))=(((!b && c) || (c && !g) || (!g && !b)) != ((!d && e) || (e && !g) || (!g && !d))):=by decide +kernel
theorem WB {n s f s2 f2:Int} (hs:0 <= s/\s < n) (hf:0 <= f/\f < n) (hs2:0 <= s2/\s2 < n) (hf2:0 <= f2/\f2 < n) (hne:s ≠ f) (hne2:s2 ≠ f2):zy n s f s2 f2=zy n s2 f2 s f:=by
 unfold zy;by_cases e:f=f2
 ·rw [decide_eq_true e,decide_eq_true e.symm];rfl
 ·rw [decide_eq_false e,decide_eq_false (Ne.symm e)];by_cases c:(s2=s\/s2=f)\/(f2=s\/f2=f)
  ·have c':(s=s2\/s=f2)\/(f=s2\/f=f2):=by omega
   rw [if_pos c,if_pos c']
  ·have c':¬ ((s=s2\/s=f2)\/(f=s2\/f=f2)):=by omega
   rw [if_neg c,if_neg c'];have n1:s2 ≠ s:=by omega
   have n2:s2 ≠ f:=by omega
   have n3:f2 ≠ s:=by omega
   have n4:f2 ≠ f:=by omega
   rw [Bool.false_or,Bool.false_or,vv hs hf hs2 n1 n2 hne,vv hs hf hf2 n3 n4 hne,vv hs2 hf2 hs n1.symm n3.symm hne2,vv hs2 hf2 hf n2.symm n4.symm hne2,dC n1.symm,dC n2.symm,dC n4.symm,dC hne,dC hne2];exact CQ _ _ _ _ _ _ (fJ n1 n2 hne) (fJ n3 n4 hne) (fJ n3 hne2.symm n1.symm) (fJ n4 hne2.symm n2.symm)
noncomputable abbrev mt (n:Int) (d e:WD):Bool:=zy n d.start d.fin e.start e.fin
noncomputable def tJ (t:Adr):Sp:=fun vs H Q _=>∃ a d n p,vs=[.int n,.ref a,.int p]/\Oe t H a d/\0 < n/\Q (.bl (Fm n d.start d.fin p)) H
noncomputable def iP (n:Int) (d e:WD):Bool:=if (e.start=d.start\/e.start=d.fin)\/(e.fin=d.start\/e.fin=d.fin) then false else (Fm n d.start d.fin e.start != Fm n d.start d.fin e.fin)
noncomputable def wF (t:Adr):Sp:=fun vs H Q _=>∃ a b d e n,vs=[.int n,.ref a,.ref b]/\Oe t H a d/\Oe t H b e/\0 < n/\NoT H/\Q (.bl (iP n d e)) H
noncomputable def eJ (t:Adr):Sp:=fun vs H Q _=>∃ a b d e n,vs=[.int n,.ref a,.ref b]/\Oe t H a d/\Oe t H b e/\0 < n/\∀ H',Pb H H'->Q (.bl (iP n d e)) H'
noncomputable def UD (t:Adr):Sp:=fun vs H Q _=>∃ c n ds,∃ i j:Nat,∃ d e,vs=[.ref c,.str d.name,.str e.name]/\Lc t H c n ds/\0 < n/\ds[i]? = some d/\ds[j]? = some e/\NoT H/\Q (.bl (mt n d e)) H
section
variable {P:Program} {w:World} {K:W.Frag} {mg:Str->Option Value} {base:Heap} {t:Adr}
theorem rN (T:Txt w K mg t):Gb P w K mg base CX0 1 t.Yp t.aq ["places","way","place"] (tJ t):=by
 refine T.iq.ok Uw (fun vs H Q E h=>?_) (fun _ _ _ s H vs Q E hr h=>?_)
 ·obtain ⟨a,d,n,p,rfl,_⟩:=h;rfl
 obtain ⟨a,d,n,p,rfl,W,hn,q⟩:=h;refine ⟨_,(cb (Db (i:=3) Uw.nd rfl (Or.inl rfl) (Nb Mf (Nb Mg (pv 2) (vc (pv 1) rfl)) (pv 0)))
   (ib (Lb (zE (af Av xb (pv 3) (yc _)) (Dx (af Av (pv 3) (Nb Mf (Nb Mg (vc (pv 1) rfl) (vc (pv 1) rfl)) (pv 0)) (yc _))))))),?_⟩
 walk_at "RD";refine ⟨_,W.f_start T,_,rfl,hn,?_⟩;unfold Fm at q;by_cases c:0 < (p - d.start) % n
 ·rw [if_pos (decide_eq_true c)];rw [decide_eq_true c,Bool.true_and] at q;exact ⟨_,W.f_end T,_,W.f_start T,_,rfl,_,rfl,hn,q⟩
 ·rw [if_neg (by simpa using c)];rw [decide_eq_false c,Bool.false_and] at q;exact q
theorem JP (x a b:Int):inV (.int x) [.int a,.int b]=decide (x=a\/x=b):=by
 unfold inV;simp only [any_cons,List.any_nil,eqV,Bool.or_false];rw [Bool.eq_iff_iff];simp only [Bool.or_eq_true,beq_iff_eq,decide_eq_true_eq];omega
theorem zM (T:Txt w K mg t):Gb P w K mg base CX0 2 t.ai t.Rh ["places","way","second"] (wF t):=by
 refine Gb.forget (sp:=eJ t) ?_ fun vs H Q E h=>?_
 ·have g34:Gb P w K mg base CX0 1 t.Yp t.aq ["places","way","place"] (tJ t):=rN T;refine T.Fk.ok Zv (fun vs H Q E h=>?_) (fun _ _ _ s H vs Q E hr h=>?_)
  ·obtain ⟨a,b,d,e,n,rfl,_⟩:=h;rfl
  obtain ⟨a,b,d,e,n,rfl,Wa,Wb,hn,q⟩:=h;refine ⟨_,(cb (Ye (PW.pt (Gr (dc Ni (vc (pv 2) rfl) (Cf (bb (vc (pv 1) rfl) (bb (vc (pv 1) rfl) fb))) (by with_unfolding_all rfl)) (Gp (dc Ni (vc (pv 2) rfl) (Cf (bb (vc (pv 1) rfl) (bb (vc (pv 1) rfl) fb))) (by with_unfolding_all rfl))))) (ib (Lb Cm)) zc)
   (ib (Lb (af Dt (Bb g34 hr rfl T.BA T.iq.kp T.pB .nil Fb (bb (pv 0) (bb (pv 1) (bb (vc (pv 2) rfl) fb)))) (Bb g34 hr rfl T.BA T.iq.kp T.pB .nil Fb (bb (pv 0) (bb (pv 1) (bb (vc (pv 2) rfl) fb)))) (yc _))))),?_⟩
  walk_at "RD";refine Uh (fun b H'=>Pb H H'/\b=decide ((e.start=d.start\/e.start=d.fin)\/(e.fin=d.start\/e.fin=d.fin))) (fun Q hQ=>?_) (fun H' ⟨sm,hb⟩=>?_) (fun H' ⟨sm,hb⟩=>?_)
  ·walk_at "RD";refine ⟨_,Wb.f_start T,_,Wa.f_start T,_,Wa.f_end T,by decide,fun p hp=>⟨_,.inl (SqL.of db),rfl,rfl,?_⟩⟩;have s1:Pb H (upd H p (.lst [.int d.start,.int d.fin])):=wb hp;rw [JP];by_cases c1:e.start=d.start\/e.start=d.fin
   ·rw [if_pos (decide_eq_true c1)];exact hQ _ _ ⟨s1,(decide_eq_true (.inl c1)).symm⟩
   ·rw [if_neg (by simpa using c1)];refine ⟨_,(Wb.same s1).f_end T,_,(Wa.same s1).f_start T,_,(Wa.same s1).f_end T,by decide,fun p2 hp2=>⟨_,.inl (SqL.of db),rfl,rfl,?_⟩⟩;rw [JP];refine hQ _ _ ⟨s1.trans (wb hp2),?_⟩;rw [Bool.eq_iff_iff,decide_eq_true_eq,decide_eq_true_eq];exact ⟨.inr,fun z=>z.resolve_left c1⟩
  ·walk_at "RD";have hb':=of_decide_eq_true hb.symm;have:=q H' sm;unfold iP at this;rw [if_pos hb'] at this;exact this
  ·walk_at "RD";have hb':=of_decide_eq_false hb.symm;refine ⟨_,(Wb.same sm).f_start T,⟨a,d,n,_,rfl,Wa.same sm,hn,?_⟩⟩;refine ⟨_,(Wb.same sm).f_end T,⟨a,d,n,_,rfl,Wa.same sm,hn,?_⟩⟩;refine ⟨rfl,?_⟩;have:=q H' sm;unfold iP at this;rw [if_neg hb'] at this;rw [show (!decide (V.bl (Fm n d.start d.fin e.start)=V.bl (Fm n d.start d.fin e.fin)))=(Fm n d.start d.fin e.start != Fm n d.start d.fin e.fin) by
    cases Fm n d.start d.fin e.start <;> cases Fm n d.start d.fin e.fin <;> rfl]
   exact this
 ·obtain ⟨a,b,d,e,n,h1,h2,h3,h4,nt,q⟩:=h;exact ⟨nt,a,b,d,e,n,h1,h2,h3,h4,fun H' sm=>⟨sm,q⟩⟩
theorem WP (n:Int) (d e:WD):mt n d e=(decide (d.fin=e.fin) || iP n d e):=rfl
theorem sL (T:Txt w K mg t):Gb P w K mg base CX0 3 t.fB t.yB ["crossing","one","other"] (UD t):=by
 have g15:Gb P w K mg base CX0 2 t.Yb t.ic ["self","name"] (Pi t):=zk T;have g56:Gb P w K mg base CX0 2 t.ai t.Rh ["places","way","second"] (wF t):=zM T;refine T.NF.ok Iz (fun vs H Q E h=>?_) (fun _ _ _ s H vs Q E hr h=>?_)
 ·obtain ⟨c,n,ds,i,j,d,e,rfl,_⟩:=h;rfl
 obtain ⟨c,n,ds,i,j,d,e,rfl,C,hn,hd,he,nt,q⟩:=h;obtain ⟨_,dx,wl,nd,e1,e2,e3⟩:=id C;refine ⟨_,(cb (Db (i:=3) Iz.nd rfl (Or.inl rfl) (Xc (pv 0) T.Ob T.Mc g15 hr T.Nc .nil Fb (bb (pv 1) fb)))
   (cb (Db (i:=4) Iz.nd rfl (Or.inl rfl) (Xc (pv 0) T.Ob T.Mc g15 hr T.Nc .nil Fb (bb (pv 2) fb)))
   (ib (Lb (ON (af qk (vc (pv 3) rfl) (vc (pv 4) rfl) (yc _)) (Dx (Bb g56 hr rfl T.Gx T.Fk.kp T.kx .nil Fb (bb (vc (pv 0) rfl) (bb (pv 3) (bb (pv 4) fb)))))))))),?_⟩
 rw [WP] at q;walk_at "RD";refine ⟨_,_,e1,qx _ _ _ (by decide +kernel),⟨c,n,ds,i,d,rfl,C,hd,fun a Wa=>?_⟩⟩;walk_at "RD";refine ⟨_,_,e1,qx _ _ _ (by decide +kernel),⟨c,n,ds,j,e,rfl,C,he,fun b Wb=>?_⟩⟩;walk_at "RD";refine ⟨_,Wa.f_end T,_,Wb.f_end T,rfl,?_⟩;walk_at "RD";by_cases c1:d.fin=e.fin
 ·rw [if_pos (decide_eq_true c1)];rw [decide_eq_true c1,Bool.true_or] at q;exact q
 ·rw [if_neg (by simpa using c1)];rw [decide_eq_false c1,Bool.false_or] at q;exact ⟨_,FH T e1,⟨a,b,d,e,n,rfl,Wa,Wb,hn,nt,q⟩⟩
end
noncomputable def xJ (t:Adr):Sp:=fun vs H Q _=>∃ c n ds,∃ i j:Nat,∃ d e,vs=[.ref c,.str d.name,.str e.name]/\Lc t H c n ds/\ds[i]? = some d/\ds[j]? = some e/\Q (.int (if d.off - e.near > 0 then d.off - e.near else 0)) H
section
variable {P:Program} {w:World} {K:W.Frag} {mg:Str->Option Value} {base:Heap} {t:Adr}
theorem wP (T:Txt w K mg t):Gb P w K mg base CX0 3 t.bH t.rH ["crossing","one","other"] (xJ t):=by
 have g15:Gb P w K mg base CX0 2 t.Yb t.ic ["self","name"] (Pi t):=zk T;refine T.lM.ok mG (fun vs H Q E h=>?_) (fun _ _ _ s H vs Q E hr h=>?_)
 ·obtain ⟨c,n,ds,i,j,d,e,rfl,_⟩:=h;rfl
 obtain ⟨c,n,ds,i,j,d,e,rfl,C,hd,he,q⟩:=h;obtain ⟨_,dx,wl,nd,e1,e2,e3⟩:=id C;refine ⟨_,(cb (Db (i:=3) mG.nd rfl (Or.inl rfl) (Xc (pv 0) T.Ob T.Mc g15 hr T.Nc .nil Fb (bb (pv 1) fb)))
   (cb (Db (i:=4) mG.nd rfl (Or.inl rfl) (Xc (pv 0) T.Ob T.Mc g15 hr T.Nc .nil Fb (bb (pv 2) fb)))
   (ib (Lb (Ed (WE rfl) rfl T.ZO uu (bb xb (bb (Nb Mg (vc (pv 3) rfl) (vc (pv 4) rfl)) fb))))))),?_⟩
 walk_at "RD";refine ⟨_,_,e1,qx _ _ _ (by decide +kernel),⟨c,n,ds,i,d,rfl,C,hd,fun a Wa=>?_⟩⟩;walk_at "RD";refine ⟨_,_,e1,qx _ _ _ (by decide +kernel),⟨c,n,ds,j,e,rfl,C,he,fun b Wb=>?_⟩⟩;walk_at "RD";refine ⟨_,Wa.f_off T,_,Wb.f_near T,?_⟩;walk_at "RD";exact q
end
end My
namespace My
open PySem L2
structure SD where
 name:Str
 b:Int
 n:Int
noncomputable def sdO (d:SD):HO:=.tup [.str d.name,.int d.b,.int d.n]
noncomputable def prO (p:Int × Int):HO:=.tup [.int p.1,.int p.2]
noncomputable def ofN (x:Str) (sp:List SD):List (Int × Int):=(sp.filter fun d=>decide (d.name=x)).map fun d=>(d.b,d.n)
noncomputable def LQ (H:Hp) (qs:List Addr) (os:List HO):Prop:=qs.length=os.length/\∀ (i:Nat) (q:Addr) (o:HO),qs[i]? = some q->os[i]? = some o->H q=some o
noncomputable def LO (H:Hp) (p:Addr) (os:List HO):Prop:=∃ qs:List Addr,H p=some (.lst (qs.map V.ref))/\LQ H qs os
theorem LQ.same {H H':Hp} {qs:List Addr} {os:List HO} (h:LQ H qs os) (s:Pb H H'):LQ H' qs os:=⟨h.1,fun i q o h1 h2=>s _ _ (h.2 i q o h1 h2)⟩
theorem LO.same {H H':Hp} {p:Addr} {os:List HO} (h:LO H p os) (s:Pb H H'):LO H' p os:=by
 obtain ⟨qs,e,q⟩:=h;exact ⟨qs,s _ _ e,q.same s⟩
theorem LQ.nil (H:Hp):LQ H [] []:=⟨rfl,fun i q o h _=>by simp at h⟩
theorem LQ.app {H:Hp} {qs qs':List Addr} {os os':List HO} (h:LQ H qs os) (h':LQ H qs' os'):LQ H (qs ++ qs') (os ++ os'):=by
 refine ⟨by rw [length_append,length_append,h.1,h'.1],fun i q r h1 h2=>?_⟩;rw [List.getElem?_append] at h1 h2;rw [h.1] at h1;by_cases c:i < os.length
 ·rw [if_pos c] at h1 h2;exact h.2 i q r h1 h2
 ·rw [if_neg c] at h1 h2;exact h'.2 _ q r h1 h2
theorem LQ.one {H:Hp} {p:Addr} {o:HO} (e:H p=some o):LQ H [p] [o]:=⟨rfl,fun i q r' h1 h2=>by
 match i,h1,h2 with
 | 0,h1,h2=>cases h1;cases h2;exact e
 | i + 1,h1,_=>simp at h1⟩
theorem LQ.at {H:Hp} {qs:List Addr} {os:List HO} (h:LQ H qs os) {i:Nat} {q:Addr} (hq:qs[i]? = some q):∃ o,os[i]? = some o/\H q=some o:=by
 have hi:i < os.length:=by rw [<- h.1];exact (List.getElem?_eq_some_iff.mp hq).1
 exact ⟨_,getElem?_eq_getElem hi,h.2 i q _ hq (getElem?_eq_getElem hi)⟩
theorem WI (x:Str) (sp:List SD) (d:SD):ofN x (sp ++ [d])=ofN x sp ++ if d.name=x then [(d.b,d.n)] else []:=by
 unfold ofN;rw [List.filter_append,map_append];congr 1;by_cases c:d.name=x
 ·rw [if_pos c,List.filter_cons_of_pos (by simpa using c)];rfl
 ·rw [if_neg c,List.filter_cons_of_neg (by simpa using c)];rfl
theorem EF (x:Str) (sp:List SD):(ofN x sp).length <= sp.length:=by
 unfold ofN;rw [length_map];exact List.length_filter_le _ _
theorem md {α:Type} {xs:List α} {i:Nat} {x:α} (h:xs[i]? = some x):xs.take (i + 1)=xs.take i ++ [x]:=by
 rw [take_add_one,h];rfl
noncomputable def KK {α:Type} (z:Int) (v:α) (l:List α) (i:Int):List α:=l.set (i % z).toNat v
noncomputable def fz {α:Type} (z:Int) (v:α) (b:Int):Nat->List α->List α
 | 0,l=>l
 | k + 1,l=>KK z v (fz z v b k l) (b + k)
noncomputable def Iv {α:Type} (z:Int) (v:α) (b:Int):Nat->List α->List α
 | 0,l=>l
 | k + 1,l=>KK z v (Iv z v b k l) (b - 1 - k)
theorem kB {α:Type} (z:Int) (v:α) (l:List α) (i:Int):(KK z v l i).length=l.length:=by unfold KK;rw [List.length_set]
theorem lf {α:Type} (z:Int) (v:α) (b:Int) (k:Nat) (l:List α):(fz z v b k l).length=l.length:=by
 induction k with
 | zero=>rfl
 | succ k ih=>unfold fz;rw [kB,ih]
theorem Pg {α:Type} (z:Int) (v:α) (b:Int) (k:Nat) (l:List α):(Iv z v b k l).length=l.length:=by
 induction k with
 | zero=>rfl
 | succ k ih=>unfold Iv;rw [kB,ih]
noncomputable def fmF (z:Nat) (ps:List (Int × Int)):List Bool:=ps.foldl (fun l p=>fz z true p.1 p.2.toNat l) (List.replicate z false)
noncomputable def Et (z rd fd:Nat) (l:List Str) (p:Int × Int):List Str:=fz z (Str.ofString "fade") (p.1 + p.2) fd (fz z (Str.ofString "free") p.1 p.2.toNat (Iv z (Str.ofString "ready") p.1 rd l))
noncomputable def Bi (z rd fd:Nat) (ps:List (Int × Int)):List Str:=ps.foldl (Et z rd fd) (List.replicate z (Str.ofString "stop"))
theorem bL {z:Nat} {ps:List (Int × Int)} {i:Nat} {p:Int × Int} (h:ps[i]? = some p):fmF z (ps.take (i + 1))=fz z true p.1 p.2.toNat (fmF z (ps.take i)):=by
 unfold fmF;rw [md h,List.foldl_append];rfl
theorem RE {z rd fd:Nat} {ps:List (Int × Int)} {i:Nat} {p:Int × Int} (h:ps[i]? = some p):Bi z rd fd (ps.take (i + 1))=Et z rd fd (Bi z rd fd (ps.take i)) p:=by
 unfold Bi;rw [md h,List.foldl_append];rfl
theorem Bm (z:Nat) (ps:List (Int × Int)):(fmF z ps).length=z:=by
 unfold fmF
 suffices h:∀ l:List Bool,l.length=z->(ps.foldl (fun l p=>fz z true p.1 p.2.toNat l) l).length=z from h _ (length_replicate ..)
 induction ps with
 | nil=>exact fun l h=>h
 | cons p ps ih=>exact fun l h=>ih _ (by rw [lf];exact h)
theorem Fh (z rd fd:Nat) (ps:List (Int × Int)):(Bi z rd fd ps).length=z:=by
 unfold Bi
 suffices h:∀ l:List Str,l.length=z->(ps.foldl (Et z rd fd) l).length=z from h _ (length_replicate ..)
 induction ps with
 | nil=>exact fun l h=>h
 | cons p ps ih=>exact fun l h=>ih _ (by unfold Et;rw [lf,lf,Pg];exact h)
noncomputable def qM (z:Int) (sp:List SD):Prop:=sp.length <= 100/\∀ d ∈ sp,0 <= d.b/\d.b < 1000/\0 <= d.n/\d.n < 1000
theorem Qk {x:Str} {sp:List SD} {p:Int × Int} (h:p ∈ ofN x sp):∃ d ∈ sp,d.name=x/\p=(d.b,d.n):=by
 unfold ofN at h;obtain ⟨d,hd,rfl⟩:=List.mem_map.mp h;have:=List.mem_filter.mp hd;exact ⟨d,this.1,by simpa using this.2,rfl⟩
theorem QN {m:Nat} (h:0 < m) (i:Int):ixN m (i % (m:Int))=some (i % (m:Int)).toNat:=by
 have h1:=Int.emod_nonneg i (show (m:Int) ≠ 0 by omega);have h2:=Int.emod_lt_of_pos i (show 0 < (m:Int) by omega);unfold ixN;rw [if_pos h1,if_pos h2]
theorem CB {α β:Type} (f:α->β) {l:List α} {z:Nat} (h:l.length=z) (hz:0 < z) (i:Int):ixN (l.map f).length (i % (z:Int))=some (i % (z:Int)).toNat:=by
 rw [length_map,h];exact QN hz i
theorem bx (d:WD):0 <= Kc d/\Kc d <= 2:=by
 unfold Kc;split <;> omega
theorem tH {d:WD} (h:0 <= d.off/\d.off <= 1000):0 <= ze d/\ze d <= 1000:=by
 unfold ze;split <;> omega
theorem KP {d:WD} {m:Str} (h:qt.contains m=false):(Op d).lookup m=none:=Pn qt (iu _) h
noncomputable def Uf (l:List Bool):List V:=l.map V.bl
theorem jq {α β:Type} (f:α->β) (z:Int) (v:α) (l:List α) (i:Int):(l.map f).set (i % z).toNat (f v)=(KK z v l i).map f:=by
 unfold KK;rw [List.map_set]
noncomputable def vo:Sp:=fun vs H Q _=>∃ p x sp,vs=[.ref p,.str x]/\LO H p (List.map sdO sp)/\sp.length <= 100/\∀ r H',Pb H H'->(NoT H->NoT H')->LO H' r ((ofN x sp).map prO)->Q (.ref r) H'
noncomputable def RM:Sp:=fun vs H Q _=>∃ (z:Nat) (p:Addr) (x:Str) (sp:List SD),vs=[.int z,.ref p,.str x]/\(0 < z/\z <= 1000)/\LO H p (List.map sdO sp)/\qM z sp/\∀ r H',Pb H H'->(NoT H->NoT H')->H r=none->H' r=some (.lst (Uf (fmF z (ofN x sp))))->Q (.ref r) H'
noncomputable def xG (t:Adr):Sp:=fun vs H Q _=>∃ (a:Addr) (d:WD) (z:Nat) (p:Addr) (sp:List SD),vs=[.ref a,.int z,.ref p]/\(0 < z/\z <= 1000)/\Oe t H a d/\LO H p (List.map sdO sp)/\qM z sp/\(0 <= d.off/\d.off <= 1000)/\∀ r H',Pb H H'->(NoT H->NoT H')->H r=none->H' r=some (.lst (Jb (Bi z (Kc d).toNat (ze d).toNat (ofN d.name sp))))->Q (.ref r) H'
noncomputable def Ef (m:List Bool):Nat->Int
 | 0=>0
 | k + 1=>if m[(2 * m.length - 1 - k) % m.length]? = some true then 0 else Ef m k + 1
noncomputable def wn (m:List Bool):List Int:=(List.range m.length).map fun t=>Ef m (2 * m.length - t)
noncomputable def Mu (m:List Bool) (k:Nat):List Int:=(List.range k).map fun j=>Ef m (m.length + j + 1)
theorem BC (m:List Bool):(Mu m m.length).reverse=wn m:=by
 unfold Mu wn;refine ext_getElem (by simp) (fun i h1 h2=>?_);simp at h1;simp;congr 1;omega
noncomputable def Os (m:List Bool):List Int:=(wn m.reverse).reverse
noncomputable def Zu:Sp:=fun vs H Q _=>∃ (p:Addr) (m:List Bool),vs=[.ref p]/\H p=some (.lst (Uf m))/\(0 < m.length/\m.length <= 1000)/\∀ r H',Pb H H'->(NoT H->NoT H')->H r=none->H' r=some (.lst ((wn m).map V.int))->Q (.ref r) H'
noncomputable def zB:Sp:=fun vs H Q _=>∃ (p:Addr) (m:List Bool),vs=[.ref p]/\H p=some (.lst (Uf m))/\(0 < m.length/\m.length <= 1000)/\∀ r H',Pb H H'->(NoT H->NoT H')->H r=none->H' r=some (.lst ((Os m).map V.int))->Q (.ref r) H'
section
variable {P:Program} {w:World} {K:W.Frag} {mg:Str->Option Value} {base:Heap} {t:Adr}
theorem xr (T:Txt w K mg t):Gb P w K mg base CX0 1 t.xf t.wf ["spans","name"] vo:=by
 refine T.Xf.ok qz (fun vs H Q E h=>?_) (fun _ _ _ s H vs Q E hr h=>?_)
 ·obtain ⟨p,x,sp,rfl,_⟩:=h;rfl
 obtain ⟨p,x,sp,rfl,⟨qs,l1,lq⟩,hl,q⟩:=h;refine ⟨_,(ib (Lb (Xg rfl (Ac (pv 0)) (kd (sc:=rb Po) rfl (by decide +kernel)) (N:=["called","begin","turns","name"]) (sel:=[none,none,none,some 1]) (Yd (M:=["spans","name"]) (by decide +kernel)) (Blk.of (fun _ _ _ _=>(Tf (K:=K) (n:=3) rfl rfl (Rb (Cb (i:=0) (Ug (N:=["called","begin","turns","name"]) (by decide +kernel) rfl) rfl (Or.inl rfl) (.inr rfl)) (Rb (Cb (i:=1) (Ug (N:=["called","begin","turns","name"]) (by decide +kernel) rfl) rfl (Or.inl rfl) (.inr rfl)) (Rb (Cb (i:=2) (Ug (N:=["called","begin","turns","name"]) (by decide +kernel) rfl) rfl (Or.inl rfl) (.inr rfl)) Pf))))) (fun _ _ _ _=>⟨_,(Nr (dc qk (pv 0) (pv 3) (yc _))),by walk_at "B"⟩) (fun _ _ _ _=>⟨_,(Uj (bb (pv 1) (bb (pv 2) fb))),by walk_at "B"⟩))))),?_⟩;walk_at "RD";have hql:qs.length=sp.length:=by rw [lq.1,length_map]
 refine ⟨⟨_,SqL.of l1⟩,?_⟩;refine fe.list (xs:=qs.map V.ref) (fun i ys H'=>∃ os:List Addr,ys=os.map V.ref/\LQ H' os ((ofN x (sp.take i)).map prO)/\Pb H H'/\(NoT H->NoT H')) (Nat.le_trans (show (qs.map V.ref).length <= 100 by rw [length_map];omega) (by decide)) ⟨[],rfl,LQ.nil _,Pb.refl _,id⟩ ?_ ?_ ?_
 ·rintro i ys H' hi zzq;refine zzP fun zzM zzh=>?_
  obtain ⟨os,rfl,r,sm,_⟩:=zzq;subst zzh;refine ⟨(SqL.of l1).same sm,?_⟩;rw [length_map,r.1,length_map];exact Nat.le_trans (EF _ _) (by rw [length_take];omega)
 ·rintro i v ys H' hv ⟨os,rfl,r,sm,nt⟩ N hN;obtain ⟨qi,hqi,rfl⟩:=Kb hv;obtain ⟨o,ho,e⟩:=lq.at hqi;obtain ⟨d,hd,rfl⟩:=Kb ho;have e':=sm _ _ e;walk_at "RD";refine ⟨_,SqT.of e',rfl,_,_,rfl,_,_,rfl,_,_,rfl,rfl,Sub.name3,rfl,?_⟩;dsimp only at hN;rw [md hd,WI,map_append] at hN;by_cases c:d.name=x
  ·rw [if_pos c] at hN;rw [if_pos (by rw [c];exact decide_eq_true rfl)];refine ⟨by decide,fun p1 hp1=>hN _ _ ⟨os ++ [p1],by rw [map_append];rfl,(r.same (wb hp1)).app (LQ.one db),sm.trans (wb hp1),fun n=>(nt n).upd⟩⟩
  ·rw [if_neg c] at hN;rw [if_neg (by rw [decide_eq_true_eq];intro z;exact c (V.str.inj z))];exact hN _ _ ⟨os,rfl,by rw [map_nil,append_nil];exact r,sm,nt⟩
 ·rintro ys H' ⟨os,rfl,r,sm,nt⟩ p1 hp1;rw [take_of_length_le (by rw [length_map];omega)] at r;exact q _ _ (sm.trans (wb hp1)) (fun n=>(nt n).upd) ⟨os,db,r.same (wb hp1)⟩
theorem LN (T:Txt w K mg t):Gb P w K mg base CX0 2 t.Hg t.Ig ["size","spans","name"] RM:=by
 have g17:Gb P w K mg base CX0 1 t.xf t.wf ["spans","name"] vo:=xr T;refine T.Sh.ok Bf (fun vs H Q E h=>?_) (fun _ _ _ s H vs Q E hr h=>?_)
 ·obtain ⟨z,p,x,sp,rfl,_⟩:=h;rfl
 obtain ⟨z,p,x,sp,rfl,hz,L,hs,q⟩:=h;refine ⟨_,(cb (qh (i:=3) Bf.nd rfl (Or.inl rfl) rfl (Lh rfl T.Nj (bb (pv 0) fb)) (kd (sc:=rb Ak) rfl (by decide +kernel)) (N:=["turn"]) (sel:=[none]) (Yd (M:=["size","spans","name","marks","begin","turns","step"]) (by decide +kernel)) (Blk.of (fun _ _ _ _=>(Cb (i:=0) (Ug (N:=["turn"]) (by decide +kernel) rfl) rfl (Or.inl rfl))) (fun _ _ _ _=>⟨_,ag,by walk_at "B"⟩) (fun _ _ _ _=>⟨_,Cm,by walk_at "B"⟩)) rfl)
   (cb (Wd PassesOwn.never rfl (Ac (Bb g17 hr rfl T.Xi T.Xf.kp T.dj .nil Fb (bb (pv 1) (bb (pv 2) fb)))) (Tf (K:=K) (n:=2) rfl rfl (Rb (Cb (i:=4) Bf.nd rfl (Or.inl rfl) (.inl rfl)) (Rb (Cb (i:=5) Bf.nd rfl (Or.inl rfl) (.inl rfl)) Pf))) (ib (Wd PassesOwn.never rfl (Lh rfl T.Nj (bb (pv 5) fb)) (Cb (i:=6) Bf.nd rfl (Or.inl rfl)) (ib (Ru Cm (nB (pv 3) (Nb Mf (Nb Qc (pv 4) (pv 6)) (pv 0)) pq))))))
   (ib (Lb (pv 3))))),?_⟩
 walk_at "RD";obtain ⟨hz0,hz1⟩:=hz;obtain ⟨hs1,hs2⟩:=hs;refine ⟨by omega,by omega,?_⟩;refine fe.range_map (fun _=>V.bl false) (Nat.le_trans (show (z:Int).toNat <= 1000 by omega) (by decide)) (fun i N hi hN=>?_) (fun mk hmk=>?_)
 ·walk_at "RD";exact ⟨Sub.name,hN⟩
 rw [show (List.range (z:Int).toNat).map (fun _=>V.bl false)=Uf (fmF z []) by
  unfold Uf fmF;rw [List.foldl_nil,List.map_replicate];exact ext_getElem (by simp) (by simp)]
 refine ⟨p,x,sp,rfl,L.same (wb hmk),hs1,fun r H1 s1 nt1 L1=>⟨r,rfl,?_⟩⟩;obtain ⟨qs,l1,lq⟩:=L1;refine ⟨⟨_,SqL.of l1⟩,?_⟩;have hmk1:H1 mk=some (.lst (Uf (fmF z []))):=s1 _ _ db;have hrm:r ≠ mk:=fun e=>by
  subst e;rw [l1] at hmk1;injection hmk1 with e1;injection e1 with e2;have e3:=congrArg List.length e2;cases qs with
  | nil=>simp [Uf,Bm] at e3;omega
  | cons a qs=>
   have:(Uf (fmF z []))[0]? = some (V.ref a):=by rw [<- e2];rfl
   unfold Uf at this;rw [getElem?_map] at this;cases hh:(fmF z [])[0]? with
   | none=>rw [hh] at this;cases this
   | some b=>rw [hh] at this;cases this
 refine Qh.list (xs:=qs.map V.ref) (fun i σ H'=>(∃ a b c,σ=[some (V.int z),some (V.ref p),some (V.str x),some (V.ref mk),a,b,c])/\Dc mk H1 H'/\(NoT H->NoT H')/\H' mk=some (.lst (Uf (fmF z ((ofN x sp).take i))))) ?_ ?_ ?_ ?_
 ·exact ⟨⟨_,_,_,rfl⟩,fun b u _ e=>e,fun n=>nt1 n.upd,hmk1⟩
 ·rintro i σ H' hi zzq;refine zzP fun zzM zzh=>?_
  obtain ⟨_,sx,_,_⟩:=zzq;subst zzh;exact SqL.of (sx _ _ hrm l1)
 ·rintro i v σ H' hv zzq;refine zzP fun zzM zzh=>?_
  obtain ⟨⟨a,b,c,rfl⟩,sx,nt',hm⟩:=zzq;obtain ⟨qi,hqi,rfl⟩:=Kb hv;obtain ⟨o,ho,e⟩:=lq.at hqi;obtain ⟨d,hd,rfl⟩:=Kb ho;obtain ⟨sd,hsd,hsn,rfl⟩:=Qk (mem_of_getElem? hd);have hb:=hs2 sd hsd;have e':=sx _ _ (Zd e hmk1 (by intro z;cases z)) e;subst zzh;walk_at "RD";refine ⟨_,SqT.of e',rfl,_,_,rfl,_,_,rfl,rfl,_,rfl,(by dsimp only;omega),(by dsimp only;omega),?_⟩;rw [bL hd];refine Qh.range (fun k σ H'=>(∃ c,σ=[some (V.int z),some (V.ref p),some (V.str x),some (V.ref mk),some (V.int sd.b),some (V.int sd.n),c])/\Dc mk H1 H'/\(NoT H->NoT H')/\H' mk=some (.lst (Uf (fz z true sd.b k (fmF z ((ofN x sp).take i)))))) ?_ ?_ ?_
  ·exact ⟨⟨_,rfl⟩,sx,nt',hm⟩
  ·rintro k σ H2 hk zzq;refine zzP fun zzM zzh=>?_
   obtain ⟨⟨c,rfl⟩,sx2,nt2,hm2⟩:=zzq;subst zzh;walk_at "RD";refine ⟨by omega,_,hm2,_,CB V.bl (by rw [lf,Bm]) hz0 _,⟨_,rfl⟩,fun b u hb e=>by rw [jb hb];exact sx2 _ _ hb e,fun n=>(nt2 n).upd,?_⟩;rw [db];unfold Uf;rw [jq V.bl];rfl
  ·rintro σ H2 zzq;refine zzP fun zzM zzh=>?_
   obtain ⟨⟨c,rfl⟩,sx2,nt2,hm2⟩:=zzq;subst zzh;exact ⟨⟨_,_,_,rfl⟩,sx2,nt2,hm2⟩
 ·rintro σ H' zzq;refine zzP fun zzM zzh=>?_
  obtain ⟨⟨a,b,c,rfl⟩,sx,nt',hm⟩:=zzq;subst zzh;walk_at "RD";rw [take_of_length_le (by rw [length_map,lq.1,length_map];exact Nat.le_refl _)] at hm;exact q _ _ (ye ((wb hmk).trans s1) sx hmk) nt' hmk hm
theorem JM (T:Txt w K mg t):Gb P w K mg base CX0 2 t.vB t.BB ["way","size","spans"] (xG t):=by
 have g17:Gb P w K mg base CX0 1 t.xf t.wf ["spans","name"] vo:=xr T;have V_Way_ready:BI P w K mg base CX0 1 (isW t) "ready" ["self"] (gj t):=jF T;have V_Way_fade:BI P w K mg base CX0 1 (isW t) "fade" ["self"] (El t):=FK T;refine T.vF.ok Vm (fun vs H Q E h=>?_) (fun _ _ _ s H vs Q E hr h=>?_)
 ·obtain ⟨a,d,z,p,sp,rfl,_⟩:=h;rfl
 obtain ⟨a,d,z,p,sp,rfl,⟨hz0,hz1⟩,W,L,⟨hs1,hs2⟩,hoff,q⟩:=h;refine ⟨_,(cb (qh (i:=3) Vm.nd rfl (Or.inl rfl) rfl (Lh rfl T.Nj (bb (pv 1) fb)) (kd (sc:=rb oF) rfl (by decide +kernel)) (N:=["turn"]) (sel:=[none]) (Yd (M:=["way","size","spans","shown","begin","turns","step"]) (by decide +kernel)) (Blk.of (fun _ _ _ _=>(Cb (i:=0) (Ug (N:=["turn"]) (by decide +kernel) rfl) rfl (Or.inl rfl))) (fun _ _ _ _=>⟨_,ag,by walk_at "B"⟩) (fun _ _ _ _=>⟨_,Rc,by walk_at "B"⟩)) rfl)
   (cb (Wd PassesOwn.never rfl (Ac (Bb g17 hr rfl T.Xi T.Xf.kp T.dj .nil Fb (bb (pv 2) (bb (vc (pv 0) rfl) fb)))) (Tf (K:=K) (n:=2) rfl rfl (Rb (Cb (i:=4) Vm.nd rfl (Or.inl rfl) (.inl rfl)) (Rb (Cb (i:=5) Vm.nd rfl (Or.inl rfl) (.inl rfl)) Pf))) (cb (Wd PassesOwn.never rfl (Lh rfl T.Nj (bb (Kn (pv 0) V_Way_ready hr Fb) fb)) (Cb (i:=6) Vm.nd rfl (Or.inl rfl)) (ib (Ru Rc (nB (pv 3) (Nb Mf (Nb Mg (Nb Mg (pv 4) xb) (pv 6)) (pv 1)) pq))))
   (cb (Wd PassesOwn.never rfl (Lh rfl T.Nj (bb (pv 5) fb)) (Cb (i:=6) Vm.nd rfl (Or.inl rfl)) (ib (Ru Rc (nB (pv 3) (Nb Mf (Nb Qc (pv 4) (pv 6)) (pv 1)) pq))))
   (ib (Wd PassesOwn.never rfl (Lh rfl T.Nj (bb (Kn (pv 0) V_Way_fade hr Fb) fb)) (Cb (i:=6) Vm.nd rfl (Or.inl rfl)) (ib (Ru Rc (nB (pv 3) (Nb Mf (Nb Qc (Nb Qc (pv 4) (pv 5)) (pv 6)) (pv 1)) pq))))))))
   (ib (Lb (pv 3))))),?_⟩
 walk_at "RD";refine ⟨by omega,by omega,?_⟩;refine fe.range_map (fun _=>V.str (Str.ofString "stop")) (Nat.le_trans (show (z:Int).toNat <= 1000 by omega) (by decide)) (fun i N hi hN=>?_) (fun mk hmk=>?_)
 ·walk_at "RD";exact ⟨Sub.name,hN⟩
 rw [show (List.range (z:Int).toNat).map (fun _=>V.str (Str.ofString "stop"))=Jb (Bi z (Kc d).toNat (ze d).toNat []) by
  unfold Jb Bi;rw [List.foldl_nil,List.map_replicate];exact ext_getElem (by simp) (by simp)]
 have hrd:=bx d;have hfd:=tH hoff;obtain ⟨dk,dx,hway⟩:=id W;have w0:∀ {H':Hp},Dc mk (upd H mk (.lst (Jb (Bi z (Kc d).toNat (ze d).toNat [])))) H'->H' a=some (.ins (t.cw d.k) dx (Op d)):=fun sx=>sx _ _ (yb hway hmk) ((wb hmk) _ _ hway)
 refine ⟨_,(W.same (wb hmk)).f_name T,p,d.name,sp,rfl,L.same (wb hmk),hs1,fun r H1 s1 nt1 L1=>⟨r,rfl,?_⟩⟩;obtain ⟨qs,l1,lq⟩:=L1;refine ⟨⟨_,SqL.of l1⟩,?_⟩;have hmk1:H1 mk=some (.lst (Jb (Bi z (Kc d).toNat (ze d).toNat []))):=s1 _ _ db;have hrm:r ≠ mk:=fun e=>by
  subst e;rw [l1] at hmk1;injection hmk1 with e1;injection e1 with e2;have e3:=congrArg List.length e2;cases qs with
  | nil=>simp [Jb,Fh] at e3;omega
  | cons a qs=>
   have:(Jb (Bi z (Kc d).toNat (ze d).toNat []))[0]? = some (V.ref a):=by rw [<- e2];rfl
   unfold Jb at this;rw [getElem?_map] at this;cases hh:(Bi z (Kc d).toNat (ze d).toNat [])[0]? with
   | none=>rw [hh] at this;cases this
   | some b=>rw [hh] at this;cases this
 have wx:∀ {H':Hp},Dc mk H1 H'->Oe t H' a d:=fun sx=>⟨dk,dx,sx _ _ (yb hway hmk) (s1 _ _ ((wb hmk) _ _ hway))⟩
 refine Qh.list (xs:=qs.map V.ref) (fun i σ H'=>(∃ a1 b c,σ=[some (V.ref a),some (V.int z),some (V.ref p),some (V.ref mk),a1,b,c])/\Dc mk H1 H'/\(NoT H->NoT H')/\H' mk=some (.lst (Jb (Bi z (Kc d).toNat (ze d).toNat ((ofN d.name sp).take i))))) ?_ ?_ ?_ ?_
 ·exact ⟨⟨_,_,_,rfl⟩,fun b u _ e=>e,fun n=>nt1 n.upd,hmk1⟩
 ·rintro i σ H' hi zzq;refine zzP fun zzM zzh=>?_
  obtain ⟨_,sx,_,_⟩:=zzq;subst zzh;exact SqL.of (sx _ _ hrm l1)
 ·rintro i v σ H' hv zzq;refine zzP fun zzM zzh=>?_
  obtain ⟨⟨a1,b,c,rfl⟩,sx,nt',hm⟩:=zzq;obtain ⟨qi,hqi,rfl⟩:=Kb hv;obtain ⟨o,ho,e⟩:=lq.at hqi;obtain ⟨dd,hd,rfl⟩:=Kb ho;obtain ⟨sd,hsd,hsn,rfl⟩:=Qk (mem_of_getElem? hd);have hb:=hs2 sd hsd;have e':=sx _ _ (Zd e hmk1 (by intro z;cases z)) e;have W1:=wx sx;obtain ⟨_,dx1,hw1⟩:=id W1;subst zzh;walk_at "RD";refine ⟨_,SqT.of e',rfl,_,_,rfl,_,_,rfl,rfl,_,_,_,hw1,⟨_,dk,rfl⟩,KP (by decide +kernel),_,d,rfl,W1,rfl,_,rfl,by omega,by omega,?_⟩;rw [RE hd];refine Qh.range (fun k σ H'=>(∃ c,σ=[some (V.ref a),some (V.int z),some (V.ref p),some (V.ref mk),some (V.int sd.b),some (V.int sd.n),c])/\Dc mk H1 H'/\(NoT H->NoT H')/\H' mk=some (.lst (Jb (Iv z (Str.ofString "ready") sd.b k (Bi z (Kc d).toNat (ze d).toNat ((ofN d.name sp).take i)))))) ?_ ?_ ?_
  ·exact ⟨⟨_,rfl⟩,sx,nt',hm⟩
  ·rintro k σ H2 hk zzq;refine zzP fun zzM zzh=>?_
   obtain ⟨⟨c,rfl⟩,sx2,nt2,hm2⟩:=zzq;subst zzh;walk_at "RD";refine ⟨by omega,_,hm2,_,CB V.str (by rw [Pg,Fh]) hz0 _,⟨_,rfl⟩,fun b u hb e=>by rw [jb hb];exact sx2 _ _ hb e,fun n=>(nt2 n).upd,?_⟩;rw [db];unfold Jb;rw [jq V.str];rfl
  rintro σ H2 zzq;refine zzP fun zzM zzh=>?_
  obtain ⟨⟨c,rfl⟩,sx2,nt2,hm2⟩:=zzq;subst zzh;walk_at "RD";refine ⟨by omega,by omega,?_⟩;refine Qh.range (fun k σ H'=>(∃ c,σ=[some (V.ref a),some (V.int z),some (V.ref p),some (V.ref mk),some (V.int sd.b),some (V.int sd.n),c])/\Dc mk H1 H'/\(NoT H->NoT H')/\H' mk=some (.lst (Jb (fz z (Str.ofString "free") sd.b k (Iv z (Str.ofString "ready") sd.b (Kc d).toNat (Bi z (Kc d).toNat (ze d).toNat ((ofN d.name sp).take i))))))) ?_ ?_ ?_
  ·exact ⟨⟨_,rfl⟩,sx2,nt2,hm2⟩
  ·rintro k σ H2 hk zzq;refine zzP fun zzM zzh=>?_
   obtain ⟨⟨c,rfl⟩,sx2,nt2,hm2⟩:=zzq;subst zzh;walk_at "RD";refine ⟨by omega,_,hm2,_,CB V.str (by rw [lf,Pg,Fh]) hz0 _,⟨_,rfl⟩,fun b u hb e=>by rw [jb hb];exact sx2 _ _ hb e,fun n=>(nt2 n).upd,?_⟩;rw [db];unfold Jb;rw [jq V.str];rfl
  rintro σ H3 zzq;refine zzP fun zzM zzh=>?_
  obtain ⟨⟨c,rfl⟩,sx3,nt3,hm3⟩:=zzq;have W3:=wx sx3;obtain ⟨_,dx3,hw3⟩:=id W3;subst zzh;walk_at "RD";refine ⟨_,_,_,hw3,⟨_,dk,rfl⟩,KP (by decide +kernel),_,d,rfl,W3,rfl,_,rfl,by omega,by omega,?_⟩;refine Qh.range (fun k σ H'=>(∃ c,σ=[some (V.ref a),some (V.int z),some (V.ref p),some (V.ref mk),some (V.int sd.b),some (V.int sd.n),c])/\Dc mk H1 H'/\(NoT H->NoT H')/\H' mk=some (.lst (Jb (fz z (Str.ofString "fade") (sd.b + sd.n) k (fz z (Str.ofString "free") sd.b sd.n.toNat (Iv z (Str.ofString "ready") sd.b (Kc d).toNat (Bi z (Kc d).toNat (ze d).toNat ((ofN d.name sp).take i)))))))) ?_ ?_ ?_
  ·exact ⟨⟨_,rfl⟩,sx3,nt3,hm3⟩
  ·rintro k σ H2 hk zzq;refine zzP fun zzM zzh=>?_
   obtain ⟨⟨c,rfl⟩,sx2,nt2,hm2⟩:=zzq;subst zzh;walk_at "RD";refine ⟨by omega,_,hm2,_,CB V.str (by rw [lf,lf,Pg,Fh]) hz0 _,⟨_,rfl⟩,fun b u hb e=>by rw [jb hb];exact sx2 _ _ hb e,fun n=>(nt2 n).upd,?_⟩;rw [db];unfold Jb;rw [jq V.str];rfl
  ·rintro σ H2 zzq;refine zzP fun zzM zzh=>?_
   obtain ⟨⟨c,rfl⟩,sx2,nt2,hm2⟩:=zzq;subst zzh;exact ⟨⟨_,_,_,rfl⟩,sx2,nt2,hm2⟩
 ·rintro σ H' zzq;refine zzP fun zzM zzh=>?_
  obtain ⟨⟨a1,b,c,rfl⟩,sx,nt',hm⟩:=zzq;subst zzh;walk_at "RD";rw [take_of_length_le (by rw [length_map,lq.1,length_map];exact Nat.le_refl _)] at hm;exact q _ _ (ye ((wb hmk).trans s1) sx hmk) nt' hmk hm
theorem UA (T:Txt w K mg t):Gb P w K mg base CX0 1 t.ff t.cf ["marks"] Zu:=by
 refine T.xg.ok we (fun vs H Q E h=>?_) (fun _ _ _ s H vs Q E hr h=>?_)
 ·obtain ⟨p,m,rfl,_⟩:=h;rfl
 obtain ⟨p,m,rfl,hm,hl,q⟩:=h;refine ⟨_,(cb (Db (i:=1) we.nd rfl (Or.inl rfl) (Ed wc rfl T.Ql Zc (bb (pv 0) fb)))
   (cb (Db (i:=2) we.nd rfl (Or.inl rfl) xb)
   (cb (Db (i:=3) we.nd rfl (Or.inl rfl) (Cf fb))
   (cb (Wd PassesOwn.never rfl (JE rfl T.Nj (bb (Nb Mg (Nb Lu xb (pv 1)) xb) (bb (iN vK xb) (bb (iN vK xb) fb)))) (Cb (i:=4) we.nd rfl (Or.inl rfl)) (cb (Db (i:=2) we.nd rfl (Or.inl rfl) (gv (Ph (yd Zf (pv 0) (Nb Mf (pv 4) (pv 1)) (fun _ _=>rfl))) xb (Nb Qc (pv 2) xb)))
   (ib (Ye (dc Av (pv 4) (pv 1) (yc _)) (ib (Xb (ol PySem.F.plainAttrs_list PySem.F.slot_list_append PySem.F.type_list_append Pe (pv 3) (bb (pv 2) fb)))) zc))))
   (ib (Lb (Oo rfl rfl T.Ww rfl T.Eo (bb (pv 3) fb)))))))),?_⟩
 walk_at "RD";refine ⟨_,.inl (SqL.of hm),Nat.zero_le _,fun u hu=>?_⟩;have hbl:(Uf m).length=m.length:=by unfold Uf;rw [length_map]
 rw [hbl];refine ⟨by unfold qJ;omega,by omega,by omega,by omega,by omega,?_⟩;have hun:p ≠ u:=yb hm hu;refine Qh.of (n:=2 * m.length) (fun k σ H'=>(∃ x,σ=[some (V.ref p),some (V.int m.length),some (V.int (Ef m k)),some (V.ref u),x])/\Dc u H H'/\(NoT H->NoT H')/\H' u=some (.lst ((Mu m (k - m.length)).map V.int))) ?_ (fun i σ H' hi _=>?_) (fun σ H' _=>?_) ?_ ?_
 ·exact ⟨⟨_,rfl⟩,fun b o hb e=>by rw [jb hb];exact e,fun n=>n.upd,by rw [db,Nat.zero_sub];rfl⟩
 ·show i < _;omega
 ·show _ <= 2 * m.length;omega
 ·rintro k σ H'' v H' hk ⟨⟨x,rfl⟩,sx,nt',hu'⟩ ⟨rfl,rfl⟩;have hjn:(2 * m.length - 1 - k) % m.length < m.length:=Nat.mod_lt _ hl.1;have hmj:m[(2 * m.length - 1 - k) % m.length]? = some m[(2 * m.length - 1 - k) % m.length]:=getElem?_eq_getElem hjn;have hj:((2 * m.length - 1 - k:Int)) % (m.length:Int)=(((2 * m.length - 1 - k) % m.length:Nat):Int):=by
   rw [Int.natCast_emod];congr 1;omega
  have hat:atI (Uf m) ((2 * m.length - 1 - k:Int) % (m.length:Int))=some (V.bl m[(2 * m.length - 1 - k) % m.length]):=by
   rw [hj];exact Bc (by unfold Uf;rw [getElem?_map,hmj];rfl)
  have hst:Ef m (k + 1)=if m[(2 * m.length - 1 - k) % m.length]=true then 0 else Ef m k + 1:=by
   show (if m[(2 * m.length - 1 - k) % m.length]? = some true then 0 else Ef m k + 1)=_;rw [hmj];simp
  simp only [yg,Mb,set_cons_succ,set_cons_zero];refine zzC (fun σ H4=>H4=H'/\σ=[some (V.ref p),some (V.int m.length),some (V.int (Ef m (k + 1))),some (V.ref u),some (V.int (2 * m.length - 1 - k))]) (fun D' hD=>?_) fun zzM zzh=>?_
  ·walk_at "RD";refine ⟨by omega,_,SqL.of (sx _ _ hun hm),_,hat,_,rfl,?_⟩;rw [hst] at hD;by_cases c:m[(2 * m.length - 1 - k) % m.length]=true
   ·rw [if_pos c] at hD ⊢;exact hD _ _ ⟨rfl,rfl⟩
   ·rw [if_neg c] at hD ⊢;exact hD _ _ ⟨rfl,rfl⟩
  rintro σ H4 ⟨rfl,rfl⟩;subst zzh;dsimp only;refine Pc (decide ((2 * m.length - 1 - k:Int) < m.length)) (fun Q hQ=>?_) (fun hc=>?_) (fun hc=>?_)
  ·walk_at "RD";exact hQ
  ·walk_at "RD";have hc':=of_decide_eq_true hc;refine ⟨.inl ⟨_,SqL.of hu'⟩,_,hu',Nat.lt_of_le_of_lt (show ((Mu m (k - m.length)).map V.int).length <= 1000 by unfold Mu;simp;omega) (by decide),⟨_,rfl⟩,fun b o hb e=>by rw [jb hb];exact sx _ _ hb e,fun n=>(nt' n).upd,?_⟩;rw [db,show k + 1 - m.length=k - m.length + 1 by omega];unfold Mu;rw [List.range_succ,map_append,map_append];simp only [map_cons,map_nil];rw [show m.length + (k - m.length) + 1=k + 1 by omega]
  ·walk_at "RD";have hc':=of_decide_eq_false hc;refine ⟨⟨_,rfl⟩,sx,nt',?_⟩;rw [hu',show k - m.length=0 by omega,show k + 1 - m.length=0 by omega]
 ·rintro σ H' zzq;refine zzP fun zzM zzh=>?_
  obtain ⟨⟨x,rfl⟩,sx,nt',hu'⟩:=zzq;subst zzh;walk_at "RD";refine ⟨_,SqL.of hu',fun l hl'=>?_⟩;have hlu:l ≠ u:=fun z=>by subst z;rw [hu'] at hl';cases hl'
  refine q _ _ ((ye (Pb.refl H) sx hu).trans (wb hl')) (fun n=>(nt' n).upd) ((ye (Pb.refl H) sx hu).free hl') ?_;rw [db,show 2 * m.length - m.length=m.length by omega,<- List.map_reverse,BC]
theorem iI (T:Txt w K mg t):Gb P w K mg base CX0 2 t.kg t.vg ["marks"] zB:=by
 have g31:Gb P w K mg base CX0 1 t.ff t.cf ["marks"] Zu:=UA T;refine T.Ii.ok Ks (fun vs H Q E h=>?_) (fun _ _ _ s H vs Q E hr h=>?_)
 ·obtain ⟨p,m,rfl,_⟩:=h;rfl
 obtain ⟨p,m,rfl,hm,hl,q⟩:=h;refine ⟨_,(ib (Lb (Oo rfl rfl T.Ww rfl T.Eo (bb (Bb g31 hr rfl T.rm T.xg.kp T.zm .nil Fb (bb (Oo rfl rfl T.Ww rfl T.Eo (bb (pv 0) fb)) fb)) fb)))),?_⟩;walk_at "RD";refine ⟨_,SqL.of hm,fun l1 h1=>?_⟩;refine ⟨l1,m.reverse,rfl,by rw [db,Uf,Uf,List.map_reverse],by rw [length_reverse];exact hl,fun r H1 s1 nt1 hr1 hu=>⟨r,rfl,_,SqL.of hu,fun l2 h2=>?_⟩⟩;refine q _ _ (((wb h1).trans s1).trans (wb h2)) (fun n=>(nt1 n.upd).upd) (((wb h1).trans s1).free h2) ?_;rw [db,<- List.map_reverse];rfl
end
end My
namespace My
open PySem L2
noncomputable def XM (x:Str):Prop:=x.length <= 1000/\∀ c ∈ x.cps.toList,c < 16 ^ 8
noncomputable def BG (C:Addr) (fs:List (Str × V)) (H:Hp) (E:XK):Prop:=∀ dx H',Pb H H'->(NoT H->NoT H')->H' dx=some (.ext (XD dx fs))->E (.ref C) (some dx) H'
theorem BG.step {C:Addr} {fs:List (Str × V)} {H H1:Hp} {E:XK} (h:BG C fs H E) (s:Pb H H1) (n:NoT H->NoT H1):BG C fs H1 E:=fun dx H' s' n' e=>h dx H' (s.trans s') (fun z=>n' (n z)) e
noncomputable def DOk (ds:List WD):Prop:=∀ d ∈ ds,XM d.name/\0 <= d.off/\d.off <= 1000
noncomputable def Tj (ds:List WD) (sp:List SD):Option Str:=(ds.map (·.name)).find? fun x=>(ofN x sp).isEmpty
noncomputable def eK (t:Adr):Sp:=fun vs H Q _=>∃ x n,vs=[.ref x,.str n]/\XM n/\H x=some (.ext (XF x t.ce none)) /\
 ∀ dx,H dx=none->dx ≠ x->Q .non (upd (upd H x (.ext (XF x t.ce (some dx)))) dx (.ext (XD dx [(Str.ofString "way",.str n)])))
noncomputable def zJ (t:Adr):Sp:=fun vs H Q _=>∃ x n i,vs=[.ref x,.str n,.int i]/\XM n/\i.natAbs.log2 < 1920/\H x=some (.ext (XF x t.Ud none)) /\
 ∀ dx,H dx=none->dx ≠ x->Q .non (upd (upd H x (.ext (XF x t.Ud (some dx)))) dx (.ext (XD dx [(Str.ofString "way",.str n),(Str.ofString "at",.int i)])))
noncomputable def vJ (t:Adr):Sp:=fun vs H Q _=>∃ x n m i,vs=[.ref x,.str n,.str m,.int i]/\XM n/\XM m/\i.natAbs.log2 < 1920/\H x=some (.ext (XF x t.Gd none)) /\
 ∀ dx,H dx=none->dx ≠ x->Q .non (upd (upd H x (.ext (XF x t.Gd (some dx)))) dx (.ext (XD dx [(Str.ofString "way",.str n),(Str.ofString "other",.str m),(Str.ofString "at",.int i)])))
noncomputable def Tw (t:Adr):Sp:=fun vs H Q E=>∃ c n ds p sp,vs=[.ref c,.ref p]/\Lc t H c n ds/\DOk ds/\LO H p (List.map sdO sp)/\sp.length <= 100 /\
 match Tj ds sp with
 | none=>∀ H',Pb H H'->(NoT H->NoT H')->Q .non H'
 | some x=>BG t.ce [(Str.ofString "way",.str x)] H E
noncomputable def MB (z:Int) (sp:List SD) (k:Nat) (d:SD):Int:=(((ofN d.name (sp.eraseIdx k)).map fun p=>(p.1 - d.b) % z).min?).getD z
noncomputable def uF:Sp:=fun vs H Q E=>∃ (z:Int) (p:Addr) (sp:List SD) (k:Nat) (d:SD),vs=[.int z,.ref p,.int k]/\0 < z/\LO H p (List.map sdO sp)/\sp.length <= 100/\sp[k]? = some d/\∀ H',Pb H H'->(NoT H->NoT H')->Q (.int (MB z sp k d)) H'
theorem UC {α:Type} (l:List α) (x:α) (k:Nat):(l ++ [x]).eraseIdx k=if k=l.length then l.eraseIdx k else l.eraseIdx k ++ [x]:=by
 by_cases h:k < l.length
 ·rw [if_neg (by omega),List.eraseIdx_append_of_lt_length h]
 ·rw [List.eraseIdx_append_of_length_le (by omega),List.eraseIdx_of_length_le (l:=l) (by omega)];by_cases h2:k=l.length
  ·rw [if_pos h2,h2,Nat.sub_self];simp
  ·rw [if_neg h2,List.eraseIdx_of_length_le (by simp;omega)]
noncomputable def wOf (ds:List WD) (x:Str):Option WD:=ds.find? fun d=>decide (d.name=x)
noncomputable def wu (ds:List WD) (z:Int) (sp:List SD) (k:Nat) (s:SD):Bool:=(wOf ds s.name).any fun d=>decide (s.n < d.least) || decide (MB z sp k s < s.n + ze d + Kc d)
noncomputable def Uk (ds:List WD) (z:Int) (sp:List SD):Option (SD × Nat):=sp.zipIdx.find? fun e=>wu ds z sp e.2 e.1
noncomputable def zw (t:Adr):Sp:=fun vs H Q E=>∃ (c:Addr) (n:Int) (ds:List WD) (z:Int) (p:Addr) (sp:List SD),vs=[.ref c,.int z,.ref p]/\Lc t H c n ds/\DOk ds/\(0 < z/\z <= 1000)/\LO H p (List.map sdO sp)/\qM z sp/\(∀ s ∈ sp,∃ d,wOf ds s.name=some d) /\
 match Uk ds z sp with
 | none=>∀ H',Pb H H'->(NoT H->NoT H')->Q .non H'
 | some e=>BG t.Ud [(Str.ofString "way",.str e.1.name),(Str.ofString "at",.int e.1.b)] H E
theorem Aw {P:Program} {w:World} {K:W.Frag} {mg:Str->Option Value} {base:Heap} {CX:CXT} {j k:Nat} {OK:Addr->Prop} {m:Str} {ps:List Str} {SPV:Addr->Sp} (V:BI P w K mg base CX j OK m ps SPV) (h:j <= k):BI P w K mg base CX k OK m ps SPV:=⟨fun C hC=>by
 obtain ⟨f,fd,h1,h2,h3,h4⟩:=V.ok C hC;exact ⟨f,fd,h1,h2,h3.mono h,h4⟩⟩
theorem sK {ds:List WD} {x:Str} {d:WD} (h:wOf ds x=some d):d.name=x/\∃ i:Nat,ds[i]? = some d:=by
 unfold wOf at h;refine ⟨by simpa using List.find?_some h,?_⟩;obtain ⟨i,hi,e⟩:=getElem_of_mem (List.mem_of_find?_eq_some h);exact ⟨i,by rw [getElem?_eq_getElem hi,e]⟩
noncomputable def Jx (d1 d2:WD):Int:=if d1.off - d2.near > 0 then d1.off - d2.near else 0
noncomputable def Bn (g:Int) (m1 m2:List Int):Option ((Int × Int) × Nat):=(m1.zip m2).zipIdx.find? fun e=>decide (e.1.2=0) && decide (e.1.1 <= g)
noncomputable def BK (t:Adr):Sp:=fun vs H Q E=>∃ (c:Addr) (n:Int) (ds:List WD) (d1 d2:WD) (p1 p2:Addr) (m1 m2:List Int),vs=[.ref c,.str d1.name,.str d2.name,.ref p1,.ref p2]/\Lc t H c n ds/\DOk ds/\d1 ∈ ds/\d2 ∈ ds/\H p1=some (.lst (m1.map V.int))/\H p2=some (.lst (m2.map V.int))/\m1.length=m2.length/\m1.length <= 1000 /\
 match Bn (Jx d1 d2) m1 m2 with
 | none=>∀ H',Pb H H'->(NoT H->NoT H')->Q .non H'
 | some e=>BG t.Gd [(Str.ofString "way",.str d1.name),(Str.ofString "other",.str d2.name),(Str.ofString "at",.int e.2)] H E
noncomputable def jk (z:Nat) (sp:List SD) (x:Str):List Int:=Os (fmF z (ofN x sp))
noncomputable def Yo (n:Int) (z:Nat) (sp:List SD) (d1 d2:WD):Option Nat:=if d1.name ≠ d2.name/\mt n d1 d2=true then (Bn (Jx d1 d2) (jk z sp d1.name) (jk z sp d2.name)).map (·.2) else none
noncomputable def zu (n:Int) (z:Nat) (sp:List SD) (d1:WD) (ds:List WD):Option (WD × WD × Nat):=ds.findSome? fun d2=>(Yo n z sp d1 d2).map fun i=>(d1,d2,i)
noncomputable def Xl (n:Int) (z:Nat) (sp:List SD) (ds:List WD):Option (WD × WD × Nat):=ds.findSome? fun d1=>zu n z sp d1 ds
noncomputable def Jw (t:Adr):Sp:=fun vs H Q E=>∃ (c:Addr) (n:Int) (ds:List WD) (z:Nat) (p:Addr) (sp:List SD),vs=[.ref c,.int z,.ref p]/\Lc t H c n ds/\0 < n/\DOk ds/\(0 < z/\z <= 1000)/\LO H p (List.map sdO sp)/\qM z sp/\NoT H /\
 match Xl n z sp ds with
 | none=>∀ H',Pb H H'->NoT H'->Q .non H'
 | some e=>BG t.Gd [(Str.ofString "way",.str e.1.name),(Str.ofString "other",.str e.2.1.name),(Str.ofString "at",.int e.2.2)] H E
theorem Uo (m:List Bool):(wn m).length=m.length:=by unfold wn;simp
theorem Ll (z:Nat) (sp:List SD) (x:Str):(jk z sp x).length=z:=by
 unfold jk Os;rw [length_reverse,Uo,length_reverse,Bm]
noncomputable def nkv (ds:List WD) (rs:List Addr):List (Key × V):=(ds.zip rs).map fun e=>(Sum.inr e.1.name,V.ref e.2)
noncomputable def NK (H:Hp) (p:Addr) (ds:List WD) (f:WD->HO) (n:Nat):Prop:=∃ rs:List Addr,rs.length=n/\H p=some (.dK (nkv ds rs))/\∀ (i:Nat) (r:Addr) (d:WD),rs[i]? = some r->ds[i]? = some d->H r=some (f d)
theorem XO {ds:List WD} (h:(ds.map (·.name)).Nodup) {i j:Nat} {d e:WD} (hi:ds[i]? = some d) (hj:ds[j]? = some e) (z:d.name=e.name):i=j:=
 VA h (List.getElem?_eq_some_iff.mp hi).1 (List.getElem?_eq_some_iff.mp hj).1 (by rw [Wt hi,Wt hj];exact z)
theorem Yy {ds:List WD} {rs:List Addr} (h:(ds.map (·.name)).Nodup) {i:Nat} {d:WD} {r:Addr} (hd:ds[i]? = some d) (hr:rs[i]? = some r):Us (nkv ds rs) (Sum.inr d.name)=some (.ref r):=by
 obtain ⟨h1,e1⟩:=List.getElem?_eq_some_iff.mp hd;obtain ⟨h2,e2⟩:=List.getElem?_eq_some_iff.mp hr;unfold Us;have hf:List.find? (fun kv=>decide (kv.1=(Sum.inr d.name:Key))) (nkv ds rs)=some (Sum.inr d.name,.ref r):=by
  rw [List.find?_eq_some_iff_getElem];refine ⟨by simp,i,by unfold nkv;simp;omega,by unfold nkv;simp [e1,e2],fun j hj=>?_⟩;unfold nkv;simp;intro z;have:=XO h (getElem?_eq_getElem (show j < ds.length by omega)) hd z;omega
 rw [hf];rfl
theorem Gz {ds:List WD} {rs:List Addr} (h:(ds.map (·.name)).Nodup) {d:WD} {r:Addr} (hd:ds[rs.length]? = some d):Dy (nkv ds rs) (Sum.inr d.name) (.ref r)=nkv ds (rs ++ [r]):=by
 obtain ⟨h1,e1⟩:=List.getElem?_eq_some_iff.mp hd;unfold Dy;have no:((nkv ds rs).any fun kv=>decide (kv.1=Sum.inr d.name))=false:=by
  rw [List.any_eq_false];intro p hp;unfold nkv at hp;obtain ⟨e,he,rfl⟩:=List.mem_map.mp hp;obtain ⟨j,hj,hje⟩:=getElem_of_mem he;simp only [decide_eq_true_eq];intro z;have z:=Sum.inr.inj z;rw [<- hje] at z;simp at hj z;have:=XO h (getElem?_eq_getElem (show j < ds.length by omega)) hd z;omega
 rw [no,if_neg (by decide)];unfold nkv;refine ext_getElem (by simp;omega) (fun i h3 h4=>?_);simp at h3 h4;by_cases c:i < rs.length
 ·simp [List.getElem_append,c,show i < ds.length by omega];rw [dif_pos (by omega)]
 ·have:i=rs.length:=by omega
  subst this;simp [List.getElem_append,Nat.le_of_lt h1,e1]
section
variable {P:Program} {w:World} {K:W.Frag} {mg:Str->Option Value} {base:Heap} {t:Adr}
theorem dP (T:Txt w K mg t):Gb P w K mg base CX0 1 t.Lg t.xi ["self","way"] (eK t):=by
 refine T.Xo.ok Ho (fun vs H Q E h=>?_) (fun _ _ _ s H vs Q E hr h=>?_)
 ·obtain ⟨x,n,rfl,_⟩:=h;rfl
 obtain ⟨x,n,rfl,hn,hx,q⟩:=h;refine ⟨_,(cb (Xb (rn rfl T.Bh T.yh (bb (pv 0) (bb (Kk (ug (yq (pv 1) (ug xx))) (by rw [sizeLine_eq];decide)) fb))))
   (ib (Rn (pv 0) (pv 1) rfl))),?_⟩
 walk_at "RD";refine ⟨hn.1,hn.2,fun y=>⟨_,_,hx,T.az,?_⟩⟩;exact ⟨_,hx,T.az,T.cx,q⟩
theorem tP (T:Txt w K mg t):Gb P w K mg base CX0 1 t.Qg t.di ["self","way","at"] (zJ t):=by
 refine T.Ep.ok wo (fun vs H Q E h=>?_) (fun _ _ _ s H vs Q E hr h=>?_)
 ·obtain ⟨x,n,i,rfl,_⟩:=h;rfl
 obtain ⟨x,n,i,rfl,hn,hi,hx,q⟩:=h;refine ⟨_,(cb (Xb (rn rfl T.Bh T.yh (bb (pv 0) (bb (Kk (ug (yq (pv 1) (ug (uB (pv 2) xx)))) (by rw [sizeLine_eq];decide)) fb))))
   (cb (Rn (pv 0) (pv 1) rfl)
   (ib (Zp (pv 0) (pv 2) rfl)))),?_⟩
 walk_at "RD";refine ⟨hn.1,hn.2,hi,fun y=>⟨_,_,hx,T.wv,?_⟩⟩;refine ⟨_,hx,T.wv,T.yx,fun dx hd hne=>?_⟩;refine ⟨_,dx,by rw [jb (Ne.symm hne),db],_,db,T.wv,T.vz,show 1 < 1000 by decide,?_⟩;rw [pj,show lh (Str.ofString "at") (V.int i) ([(Str.ofString "way",V.str n)]:List (Str × V))=[(Str.ofString "way",V.str n),(Str.ofString "at",V.int i)] from Ad [Str.ofString "way"] rfl (by decide +kernel)];exact q dx hd hne
theorem CP (T:Txt w K mg t):Gb P w K mg base CX0 1 t.Kg t.Zh ["self","way","other","at"] (vJ t):=by
 refine T.Fp.ok Do (fun vs H Q E h=>?_) (fun _ _ _ s H vs Q E hr h=>?_)
 ·obtain ⟨x,n,m,i,rfl,_⟩:=h;rfl
 obtain ⟨x,n,m,i,rfl,hn,hm,hi,hx,q⟩:=h;refine ⟨_,(cb (Xb (rn rfl T.Bh T.yh (bb (pv 0) (bb (Kk (ug (yq (pv 1) (ug (yq (pv 2) (ug (uB (pv 3) xx)))))) (by rw [sizeLine_eq];decide)) fb))))
   (cb (Rn (pv 0) (pv 1) rfl)
   (cb (Zp (pv 0) (pv 2) rfl)
   (ib (Zp (pv 0) (pv 3) rfl))))),?_⟩
 walk_at "RD";refine ⟨hn.1,hn.2,hm.1,hm.2,hi,fun y=>⟨_,_,hx,T.ur,?_⟩⟩;refine ⟨_,hx,T.ur,T.ax,fun dx hd hne=>?_⟩;refine ⟨_,dx,by rw [jb (Ne.symm hne),db],_,db,T.ur,T.vt,show 1 < 1000 by decide,?_⟩;rw [pj,show lh (Str.ofString "other") (V.str m) ([(Str.ofString "way",V.str n)]:List (Str × V))=[(Str.ofString "way",V.str n),(Str.ofString "other",V.str m)] from Ad [Str.ofString "way"] rfl (by decide +kernel)];refine ⟨_,dx,by rw [jb (Ne.symm hne),db],_,db,T.ur,T.Hy,show 2 < 1000 by decide,?_⟩;rw [pj,show lh (Str.ofString "at") (V.int i) ([(Str.ofString "way",V.str n),(Str.ofString "other",V.str m)]:List (Str × V))=[(Str.ofString "way",V.str n),(Str.ofString "other",V.str m),(Str.ofString "at",V.int i)] from Ad [Str.ofString "way",Str.ofString "other"] rfl (by decide +kernel)];exact q dx hd hne
theorem CD (T:Txt w K mg t):Gb P w K mg base (CX1 P w) 3 t.Ag t.lg ["crossing","spans"] (Tw t):=by
 have g57:Gb P w K mg base CX0 1 t.Lg t.xi ["self","way"] (eK t):=dP T;have g17:Gb P w K mg base CX0 2 t.xf t.wf ["spans","name"] vo:=(xr T).mono (by decide);have g16:Gb P w K mg base CX0 2 t.Gc t.ad ["self"] (Hl t):=(Jn T).mono (by decide);refine T.Ci.okX Zk (fun vs H Q E h=>?_) (fun _ _ _ s H vs Q E hr h=>?_)
 ·obtain ⟨c,n,ds,p,sp,rfl,_⟩:=h;rfl
 obtain ⟨c,n,ds,p,sp,rfl,C,hD,L,hs,q⟩:=h;refine ⟨_,(ib (Wd (Ue ⟨rfl,rfl⟩) rfl (Ac (zd (pv 0) T.Ob T.Jd g16 hr T.Hd .nil Fb)) (Cb (i:=2) Zk.nd rfl (Or.inl rfl)) (ib (Ye (cj (vq (Bb g17 hr rfl T.Xi T.Xf.kp T.dj .nil Fb (bb (pv 1) (bb (pv 2) fb))) (fun _=>rfl))) (ib (Tn (Mn T.xB g57 hr rfl T.kM T.Yw (bb (pv 2) fb)) ir)) zc)))),?_⟩;walk_at "RD";obtain ⟨_,dx,wl,nd,e1,_,_⟩:=id C;refine ⟨_,_,e1,qx _ _ _ (by decide +kernel),c,n,ds,rfl,C,fun pn hpn=>⟨pn,rfl,⟨_,SqL.of db⟩,?_⟩⟩;refine Qh.list (xs:=Jb (ds.map (·.name))) (fun i σ H'=>(∃ y,σ=[some (V.ref c),some (V.ref p),y])/\Pb (upd H pn (.lst (Jb (ds.map (·.name))))) H'/\(NoT H->NoT H')/\Tj ds sp=((ds.map (·.name)).drop i).find? fun x=>(ofN x sp).isEmpty) ?_ ?_ ?_ ?_
 ·exact ⟨⟨_,rfl⟩,Pb.refl _,fun n=>n.upd,rfl⟩
 ·rintro i σ H' hi zzq;refine zzP fun zzM zzh=>?_
  obtain ⟨_,sm,_,_⟩:=zzq;subst zzh;exact SqL.of (sm _ _ db)
 ·rintro i v σ H' hv zzq;refine zzP fun zzM zzh=>?_
  obtain ⟨⟨y,rfl⟩,sm,nt,hf⟩:=zzq;obtain ⟨x,hx,rfl⟩:=Kb hv;have smH:Pb H H':=(wb hpn).trans sm;obtain ⟨hi,hxi⟩:=List.getElem?_eq_some_iff.mp hx;subst zzh;rw [drop_eq_getElem_cons hi,hxi,find?_cons] at hf;walk_at "RD";refine Uh (fun b H2=>b=(ofN x sp).isEmpty/\Pb H' H2/\(NoT H'->NoT H2)) (fun Q hQ=>?_) (fun H2 r=>?_) (fun H2 r=>?_)
  ·walk_at "RD";refine ⟨p,x,sp,rfl,L.same smH,hs,fun r H2 s2 n2 ⟨qs,l1,l2⟩=>⟨!(ofN x sp).isEmpty,.inl ⟨_,SqL.of l1,?_⟩,?_⟩⟩
   ·have hl:=l2.1;cases qs with
    | nil=>cases h:ofN x sp with
     | nil=>rfl
     | cons a r=>rw [h] at hl;simp at hl
    | cons a r=>cases h:ofN x sp with
     | nil=>rw [h] at hl;simp at hl
     | cons a r=>rfl
   ·rw [Bool.not_not];exact hQ _ _ ⟨rfl,s2,n2⟩
  ·obtain ⟨r1,r2,r3⟩:=r;rw [<- r1] at hf;have hf:Tj ds sp=some x:=hf;rw [hf] at q;walk_at "RD";have hn:XM x:=by
    obtain ⟨d,hd,rfl⟩:=Kb hx;exact (hD d (mem_of_getElem? hd)).1
   refine ⟨by decide,fun a ha=>⟨a,x,rfl,hn,db,fun d hd hne=>?_⟩⟩;have hd0:H2 d=none:=by rw [jb hne] at hd;exact hd
   refine ⟨rfl,t.ce,some d,by rw [jb (Ne.symm hne),db],T.az,q d _ (fun b u e=>?_) (fun n=>((((r3 (nt n)).upd).upd).upd).upd) (by rw [jb hne,db])⟩;have e':=r2 _ _ (smH _ _ e);rw [jb (yb e' ha),jb (yb e' hd0),jb (yb e' ha),jb (yb e' ha)];exact e'
  ·obtain ⟨r1,r2,r3⟩:=r;rw [<- r1] at hf;walk_at "RD";exact ⟨⟨_,rfl⟩,sm.trans r2,fun n=>r3 (nt n),hf⟩
 ·rintro σ H' zzq;refine zzP fun zzM zzh=>?_
  obtain ⟨⟨y,rfl⟩,sm,nt,hf⟩:=zzq;subst zzh;rw [List.drop_of_length_le (by unfold Jb;simp)] at hf;have hf:Tj ds sp=none:=hf;rw [hf] at q;exact q _ ((wb hpn).trans sm) nt
theorem dL (T:Txt w K mg t):Gb P w K mg base CX0 2 t.ge t.oe ["size","spans","place"] uF:=by
 have g17:Gb P w K mg base CX0 1 t.xf t.wf ["spans","name"] vo:=xr T;refine T.Se.ok qd (fun vs H Q E h=>?_) (fun _ _ _ s H vs Q E hr h=>?_)
 ·obtain ⟨z,p,sp,k,d,rfl,_⟩:=h;rfl
 obtain ⟨z,p,sp,k,d,rfl,hz,⟨qs,l1,lq⟩,hs,hk,q⟩:=h;refine ⟨_,(cb (Ru (yd Zf (pv 1) (pv 2) (fun _ _=>rfl)) (Tf (K:=K) (n:=3) rfl rfl (Rb (Cb (i:=3) qd.nd rfl (Or.inl rfl) (.inl rfl)) (Rb (Cb (i:=4) qd.nd rfl (Or.inr rfl) (.inl rfl)) (Rb (Cb (i:=5) qd.nd rfl (Or.inl rfl) (.inl rfl)) Pf)))))
   (cb (qh (i:=6) qd.nd rfl (Or.inl rfl) rfl (cr rfl T.Jh (bb (pv 1) fb)) (kd (sc:=rb me) rfl (by decide +kernel)) (N:=["at","span","place"]) (sel:=[none,none,some 2]) (Yd (M:=["size","spans","place","name","begin","turns","others"]) (by decide +kernel)) (Blk.of (fun _ _ _ _=>(Tf (K:=K) (n:=2) rfl rfl (Rb (Cb (i:=0) (Ug (N:=["at","span","place"]) (by decide +kernel) rfl) rfl (Or.inl rfl) (.inr rfl)) (Rb (Cb (i:=1) (Ug (N:=["at","span","place"]) (by decide +kernel) rfl) rfl (Or.inl rfl) (.inr rfl)) Pf)))) (fun _ _ _ _=>⟨_,(Nr (dc Dt (pv 0) (pv 2) (yc _))),by walk_at "B"⟩) (fun _ _ _ _=>⟨_,(pv 1),by walk_at "B"⟩)) rfl)
   (ib (Lb (TM rfl rfl T.EQ (bb (Xg rfl (Ac (Bb g17 hr rfl T.Xi T.Xf.kp T.dj .nil Fb (bb (pv 6) (bb (pv 3) fb)))) (kd (sc:=rb me) rfl (by decide +kernel)) (N:=["later","many","begin","size"]) (sel:=[none,none,some 4,some 0]) (Yd (M:=["size","spans","place","name","begin","turns","others"]) (by decide +kernel)) (Blk.of (fun _ _ _ _=>(Tf (K:=K) (n:=2) rfl rfl (Rb (Cb (i:=0) (Ug (N:=["later","many","begin","size"]) (by decide +kernel) rfl) rfl (Or.inl rfl) (.inr rfl)) (Rb (Cb (i:=1) (Ug (N:=["later","many","begin","size"]) (by decide +kernel) rfl) rfl (Or.inl rfl) (.inr rfl)) Pf)))) (fun _ _ _ _=>⟨_,ag,by walk_at "B"⟩) (fun _ _ _ _=>⟨_,(Nb Mf (Nb Mg (pv 0) (pv 2)) (pv 3)),by walk_at "B"⟩))) fb) (pv 0)))))),?_⟩
 walk_at "RD";have hql:qs.length=sp.length:=by rw [lq.1,length_map]
 obtain ⟨hkl,hkd⟩:=List.getElem?_eq_some_iff.mp hk;have hqk:qs[k]? = some qs[k]:=getElem?_eq_getElem (by omega);have ek:H qs[k]=some (sdO d):=lq.2 k _ _ hqk (by rw [getElem?_map,hk];rfl);refine ⟨_,SqL.of l1,_,Bc (by rw [getElem?_map,hqk];rfl),_,rfl,_,SqT.of ek,rfl,_,_,rfl,_,_,rfl,_,_,rfl,rfl,⟨_,SqL.of l1⟩,?_⟩;refine fe.enum (xs:=qs.map V.ref) (fun i ys H'=>∃ os:List Addr,ys=os.map V.ref/\LQ H' os (((sp.take i).eraseIdx k).map sdO)/\Pb H H'/\(NoT H->NoT H')) (Nat.le_trans (show (qs.map V.ref).length <= 100 by rw [length_map];omega) (by decide)) ⟨[],rfl,by rw [take_zero];exact LQ.nil _,Pb.refl _,id⟩ ?_ ?_ ?_
 ·rintro i ys H' hi zzq;refine zzP fun zzM zzh=>?_
  obtain ⟨os,rfl,r,sm,_⟩:=zzq;subst zzh;refine ⟨(SqL.of l1).same sm,?_⟩;rw [length_map,r.1,length_map];exact Nat.le_trans (List.length_eraseIdx_le ..) (by rw [length_take];omega)
 ·rintro i v ys H' p1 hv ⟨os,rfl,r,sm,nt⟩ hp1 N hN;obtain ⟨qi,hqi,rfl⟩:=Kb hv;obtain ⟨o,ho,e⟩:=lq.at hqi;obtain ⟨d',hd',rfl⟩:=Kb ho;have e':=sm _ _ e;have s1:Pb H' (upd H' p1 (.tup [.int i,.ref qi])):=wb hp1;refine Jk ?_;dsimp only at hN;have hil:(sp.take i).length=i:=by
   have:=(List.getElem?_eq_some_iff.mp hd').1;rw [length_take];omega
  rw [md hd',UC,hil] at hN;walk_at "RD";refine ⟨Sub.name2,?_⟩;by_cases c:k=i
  ·rw [if_pos c] at hN;rw [if_neg (by subst c;simp)];exact hN _ _ ⟨os,rfl,r.same s1,sm.trans s1,fun n=>(nt n).upd⟩
  ·rw [if_neg c] at hN;rw [if_pos (by simp;omega)];refine hN _ _ ⟨os ++ [qi],by rw [map_append];rfl,?_,sm.trans s1,fun n=>(nt n).upd⟩;rw [map_append];exact (r.same s1).app (LQ.one (s1 _ _ e'))
 ·rintro ys H' ⟨os,rfl,r,sm,nt⟩ p1 hp1;rw [take_of_length_le (by rw [length_map];omega)] at r;walk_at "RD";have s1:Pb H' (upd H' p1 (.lst (os.map V.ref))):=wb hp1;refine ⟨p1,d.name,sp.eraseIdx k,rfl,⟨os,db,r.same s1⟩,Nat.le_trans (List.length_eraseIdx_le ..) hs,fun r2 H2 s2 n2 ⟨qs2,m1,m2⟩=>⟨r2,rfl,⟨_,SqL.of m1⟩,?_⟩⟩;have hln:(ofN d.name (sp.eraseIdx k)).length <= 100:=Nat.le_trans (EF _ _) (Nat.le_trans (List.length_eraseIdx_le ..) hs);have hml:qs2.length=(ofN d.name (sp.eraseIdx k)).length:=by rw [m2.1,length_map]
  refine fe.list_zs (zs:=((ofN d.name (sp.eraseIdx k)).map fun p=>(p.1 - d.b) % z).map V.int) (SqL.of m1) (Nat.le_trans (show (qs2.map V.ref).length <= 100 by rw [length_map];omega) (by decide)) (by simp [hml]) (fun i v z' N hv hz' hN=>?_) (fun l hl=>?_)
  ·obtain ⟨qi,hqi,rfl⟩:=Kb hv;obtain ⟨o,ho,e⟩:=m2.at hqi;obtain ⟨pr,hpr,rfl⟩:=Kb ho;obtain ⟨y,hy,rfl⟩:=Kb hz';obtain ⟨pr',hpr',rfl⟩:=Kb hy;rw [hpr] at hpr';cases hpr';walk_at "RD";exact ⟨_,SqT.of e,rfl,_,_,rfl,_,_,rfl,rfl,Sub.name2,_,rfl,hz,hN⟩
  ·walk_at "RD";refine ⟨_,SqL.of db,?_⟩;have:=q (upd H2 l (.lst (((ofN d.name (sp.eraseIdx k)).map fun p=>(p.1 - d.b) % z).map V.int))) (((sm.trans s1).trans s2).trans (wb hl)) (fun n=>(n2 (nt n).upd).upd);unfold MB at this;cases hm:((ofN d.name (sp.eraseIdx k)).map fun p=>(p.1 - d.b) % z).min? with
   | none=>rw [hm] at this;exact this
   | some m=>rw [hm] at this;exact this
theorem fD (T:Txt w K mg t):Gb P w K mg base (CX1 P w) 4 t.Eg t.jg ["crossing","size","spans"] (zw t):=by
 have g58:Gb P w K mg base CX0 2 t.Qg t.di ["self","way","at"] (zJ t):=(tP T).mono (by decide);have g59:Gb P w K mg base CX0 3 t.ge t.oe ["size","spans","place"] uF:=(dL T).mono (by decide);have g15:Gb P w K mg base CX0 3 t.Yb t.ic ["self","name"] (Pi t):=(zk T).mono (by decide);have V_Way_ready:BI P w K mg base CX0 3 (isW t) "ready" ["self"] (gj t):=Aw (jF T) (by decide);have V_Way_fade:BI P w K mg base CX0 3 (isW t) "fade" ["self"] (El t):=Aw (FK T) (by decide);refine T.Gi.okX Bd (fun vs H Q E h=>?_) (fun _ _ _ s H vs Q E hr h=>?_)
 ·obtain ⟨c,n,ds,z,p,sp,rfl,_⟩:=h;rfl
 obtain ⟨c,n,ds,z,p,sp,rfl,C,hD,hz,⟨qs,l1,lq⟩,hs,hk,q⟩:=h;refine ⟨_,(ib (Wd (Ue ⟨rfl,rfl⟩) rfl (cr rfl T.Jh (bb (pv 2) fb)) (Tf (K:=K) (n:=2) rfl rfl (Rb (Cb (i:=3) Bd.nd rfl (Or.inl rfl) (.inl rfl)) (Rb (Cb (i:=4) Bd.nd rfl (Or.inl rfl) (.inl rfl)) Pf))) (cb (Ru (pv 4) (Tf (K:=K) (n:=3) rfl rfl (Rb (Cb (i:=5) Bd.nd rfl (Or.inl rfl) (.inl rfl)) (Rb (Cb (i:=6) Bd.nd rfl (Or.inl rfl) (.inl rfl)) (Rb (Cb (i:=7) Bd.nd rfl (Or.inl rfl) (.inl rfl)) Pf)))))
   (cb (Db (i:=8) Bd.nd rfl (Or.inl rfl) (Xc (pv 0) T.Ob T.Mc g15 hr T.Nc .nil Fb (bb (pv 5) fb)))
   (cb (Db (i:=9) Bd.nd rfl (Or.inl rfl) (Nb Qc (Nb Qc (pv 7) (Kn (pv 8) V_Way_fade hr Fb)) (Kn (pv 8) V_Way_ready hr Fb)))
   (ib (Ye (PW.pt (Gr (dc Av (pv 7) (vc (pv 8) rfl) (yc _)) (Gp (dc Av (Bb g59 hr rfl T.Pk T.Se.kp T.Ik .nil Fb (bb (pv 1) (bb (pv 2) (bb (pv 3) fb)))) (pv 9) (yc _))))) (ib (Tn (Mn T.YA g58 hr rfl T.GM T.Vx (bb (pv 5) (bb (pv 6) fb))) ir)) zc))))))),?_⟩
 walk_at "RD";have hql:qs.length=sp.length:=by rw [lq.1,length_map]
 refine ⟨⟨_,SqL.of l1⟩,?_⟩;refine Qh.enum (xs:=qs.map V.ref) (fun i σ H'=>(∃ a b c1 d e f g,σ=[some (V.ref c),some (V.int z),some (V.ref p),a,b,c1,d,e,f,g])/\Pb H H'/\(NoT H->NoT H')/\Uk ds z sp=(sp.zipIdx.drop i).find? fun e=>wu ds z sp e.2 e.1) ?_ ?_ ?_ ?_
 ·exact ⟨⟨_,_,_,_,_,_,_,rfl⟩,Pb.refl _,id,rfl⟩
 ·rintro i σ H' hi zzq;refine zzP fun zzM zzh=>?_
  obtain ⟨_,sm,_,_⟩:=zzq;subst zzh;exact SqL.of (sm _ _ l1)
 ·rintro i v σ H0 p1 hv ⟨⟨a1,a2,a3,a4,a5,a6,a7,rfl⟩,sm,nt,hf⟩ hp1;obtain ⟨qi,hqi,rfl⟩:=Kb hv;obtain ⟨o,ho,e⟩:=lq.at hqi;obtain ⟨sd,hsd,rfl⟩:=Kb ho;obtain ⟨hi,hxi⟩:=List.getElem?_eq_some_iff.mp hsd;rw [drop_eq_getElem_cons (by simpa using hi),find?_cons] at hf;simp only [List.getElem_zipIdx,Nat.zero_add,hxi] at hf;have s1:Pb H0 (upd H0 p1 (.tup [.int i,.ref qi])):=wb hp1;refine Jk ?_;have nt1:NoT H->NoT (upd H0 p1 (.tup [.int i,.ref qi])):=fun n=>(nt n).upd
  generalize upd H0 p1 (.tup [.int i,.ref qi])=H' at s1 nt1 ⊢;have smH:Pb H H':=sm.trans s1;obtain ⟨d,hd⟩:=hk sd (mem_of_getElem? hsd);obtain ⟨hdn,j,hj⟩:=sK hd;have C':=C.same smH;obtain ⟨_,dx,wl,nd,e1,_,_⟩:=id C';have hDd:=hD d (mem_of_getElem? hj);have hB:wu ds z sp i sd=(decide (sd.n < d.least) || decide (MB z sp i sd < sd.n + ze d + Kc d)):=by
   unfold wu;rw [hd];rfl
  walk_at "RD";refine ⟨_,SqT.of (smH _ _ e),rfl,_,_,rfl,_,_,rfl,_,_,rfl,rfl,_,_,e1,qx _ _ _ (by decide +kernel),c,n,ds,j,d,by rw [hdn],C',hj,fun a W=>?_⟩;obtain ⟨dk,dxa,ha⟩:=id W;refine ⟨a,rfl,_,_,_,ha,⟨_,dk,rfl⟩,KP (by decide +kernel),a,d,rfl,W,rfl,_,rfl,_,rfl,a,rfl,_,_,_,ha,⟨_,dk,rfl⟩,KP (by decide +kernel),a,d,rfl,W,rfl,_,rfl,?_⟩;refine Uh (fun b H2=>b=wu ds z sp i sd/\Pb H' H2/\(NoT H'->NoT H2)) (fun Q hQ=>?_) (fun H2 r=>?_) (fun H2 r=>?_)
  ·rw [hB] at hQ;walk_at "RD";refine ⟨_,W.f_least T,_,rfl,?_⟩;by_cases c1:sd.n < d.least
   ·rw [decide_eq_true c1] at hQ;rw [if_pos (decide_eq_true c1)];exact hQ _ _ ⟨rfl,Pb.refl _,id⟩
   ·rw [decide_eq_false c1,Bool.false_or] at hQ;rw [if_neg (by simpa using c1)];exact ⟨z,p,sp,i,sd,rfl,hz.1,⟨qs,smH _ _ l1,lq.same smH⟩,hs.1,hsd,fun H2 s2 n2=>⟨_,rfl,hQ _ _ ⟨rfl,s2,n2⟩⟩⟩
  ·obtain ⟨r1,r2,r3⟩:=r;rw [<- r1] at hf;have hf:Uk ds z sp=some (sd,i):=hf;rw [hf] at q;walk_at "RD";have hn:XM sd.name:=by rw [<- hdn];exact hDd.1
   have hsb:=hs.2 sd (mem_of_getElem? hsd);refine ⟨by decide,fun a ha=>⟨a,sd.name,sd.b,rfl,hn,Ji (by omega),db,fun d hd hne=>?_⟩⟩;have hd0:H2 d=none:=by rw [jb hne] at hd;exact hd
   refine ⟨rfl,t.Ud,some d,by rw [jb (Ne.symm hne),db],T.wv,q d _ (fun b u e=>?_) (fun n=>((((r3 (nt1 n)).upd).upd).upd).upd) (by rw [jb hne,db])⟩;have e':=r2 _ _ (smH _ _ e);rw [jb (yb e' ha),jb (yb e' hd0),jb (yb e' ha),jb (yb e' ha)];exact e'
  ·obtain ⟨r1,r2,r3⟩:=r;rw [<- r1] at hf;exact ⟨⟨_,_,_,_,_,_,_,rfl⟩,smH.trans r2,fun n=>r3 (nt1 n),hf⟩
 ·rintro σ H' zzq;refine zzP fun zzM zzh=>?_
  obtain ⟨_,sm,nt,hf⟩:=zzq;subst zzh;rw [List.drop_of_length_le (by simp [hql])] at hf;have hf:Uk ds z sp=none:=hf;rw [hf] at q;exact q _ sm nt
theorem fO (T:Txt w K mg t):Gb P w K mg base (CX1 P w) 4 t.Ze t.Xe ["crossing","one","other","since_one","since_other"] (BK t):=by
 have g60:Gb P w K mg base CX0 2 t.Kg t.Zh ["self","way","other","at"] (vJ t):=(CP T).mono (by decide);have g61:Gb P w K mg base CX0 3 t.bH t.rH ["crossing","one","other"] (xJ t):=wP T;refine T.gg.okX Le (fun vs H Q E h=>?_) (fun _ _ _ s H vs Q E hr h=>?_)
 ·obtain ⟨c,n,ds,d1,d2,p1,p2,m1,m2,rfl,_⟩:=h;rfl
 obtain ⟨c,n,ds,d1,d2,p1,p2,m1,m2,rfl,C,hD,h1,h2,L1,L2,hl,hm,q⟩:=h;refine ⟨_,(cb (Db (i:=5) Le.nd rfl (Or.inl rfl) (Bb g61 hr rfl T.eQ T.lM.kp T.zQ .nil Fb (bb (pv 0) (bb (pv 1) (bb (pv 2) fb)))))
   (ib (Wd (Ue ⟨rfl,rfl⟩) rfl (cr rfl T.Jh (bb (pv 3) fb)) (Tf (K:=K) (n:=2) rfl rfl (Rb (Cb (i:=6) Le.nd rfl (Or.inl rfl) (.inl rfl)) (Rb (Cb (i:=7) Le.nd rfl (Or.inl rfl) (.inl rfl)) Pf))) (ib (Ye (PW.pt (zx (dc qk (yd Zf (pv 4) (pv 6) (fun _ _=>rfl)) xb (yc _)) (Jq (dc ZP (pv 7) (pv 5) (yc _))))) (ib (Tn (Mn T.mB g60 hr rfl T.AM T.Xx (bb (pv 1) (bb (pv 2) (bb (pv 6) fb)))) ir)) zc))))),?_⟩
 walk_at "RD";obtain ⟨j1,hj1,ej1⟩:=getElem_of_mem h1;obtain ⟨j2,hj2,ej2⟩:=getElem_of_mem h2;refine ⟨c,n,ds,j1,j2,d1,d2,rfl,C,by rw [getElem?_eq_getElem hj1,ej1],by rw [getElem?_eq_getElem hj2,ej2],⟨_,SqL.of L1⟩,?_⟩;rw [show (if d1.off - d2.near > 0 then d1.off - d2.near else 0)=Jx d1 d2 from rfl];refine Qh.enum (xs:=m1.map V.int) (fun i σ H'=>(∃ a b,σ=[some (V.ref c),some (V.str d1.name),some (V.str d2.name),some (V.ref p1),some (V.ref p2),some (V.int (Jx d1 d2)),a,b])/\Pb H H'/\(NoT H->NoT H')/\Bn (Jx d1 d2) m1 m2=((m1.zip m2).zipIdx.drop i).find? fun e=>decide (e.1.2=0) && decide (e.1.1 <= Jx d1 d2)) ?_ ?_ ?_ ?_
 ·exact ⟨⟨_,_,rfl⟩,Pb.refl _,id,rfl⟩
 ·rintro i σ H' hi zzq;refine zzP fun zzM zzh=>?_
  obtain ⟨_,sm,_,_⟩:=zzq;subst zzh;exact SqL.of (sm _ _ L1)
 ·rintro i v σ H0 p3 hv ⟨⟨a1,a2,rfl⟩,sm,nt,hf⟩ hp3;obtain ⟨x1,hx1,rfl⟩:=Kb hv;obtain ⟨hi,ex1⟩:=List.getElem?_eq_some_iff.mp hx1;have hi2:i < m2.length:=by omega
  have hx2:m2[i]? = some m2[i]:=getElem?_eq_getElem hi2;rw [drop_eq_getElem_cons (by simp;omega),find?_cons] at hf;simp only [List.getElem_zipIdx,List.getElem_zip,Nat.zero_add,ex1] at hf;have s1:Pb H0 (upd H0 p3 (.tup [.int i,.int x1])):=wb hp3;refine Jk ?_;have nt1:NoT H->NoT (upd H0 p3 (.tup [.int i,.int x1])):=fun n=>(nt n).upd
  generalize upd H0 p3 (.tup [.int i,.int x1])=H' at s1 nt1 ⊢;have smH:Pb H H':=sm.trans s1;walk_at "RD";refine Pc (decide (m2[i]=0) && decide (x1 <= Jx d1 d2)) (fun Q hQ=>?_) (fun c1=>?_) (fun c1=>?_)
  ·walk_at "RD";refine ⟨_,SqL.of (smH _ _ L2),_,Bc (by rw [getElem?_map,hx2];rfl),rfl,?_⟩;by_cases c0:m2[i]=0
   ·rw [decide_eq_true c0,Bool.true_and] at hQ;rw [if_pos (by rw [c0];exact decide_eq_true rfl)];exact hQ
   ·rw [decide_eq_false c0,Bool.false_and] at hQ;rw [if_neg (by rw [decide_eq_true_eq];exact fun e=>c0 (V.int.inj e))];exact hQ
  ·rw [c1] at hf;have hf:Bn (Jx d1 d2) m1 m2=some ((x1,m2[i]),i):=hf;rw [hf] at q;walk_at "RD";refine ⟨by decide,fun a ha=>⟨a,d1.name,d2.name,i,rfl,(hD _ h1).1,(hD _ h2).1,Ji (by omega),db,fun d hd hne=>?_⟩⟩;have hd0:H' d=none:=by rw [jb hne] at hd;exact hd
   refine ⟨rfl,t.Gd,some d,by rw [jb (Ne.symm hne),db],T.ur,q d _ (fun b u e=>?_) (fun n=>((((nt1 n).upd).upd).upd).upd) (by rw [jb hne,db])⟩;have e':=smH _ _ e;rw [jb (yb e' ha),jb (yb e' hd0),jb (yb e' ha),jb (yb e' ha)];exact e'
  ·rw [c1] at hf;exact ⟨⟨_,_,rfl⟩,smH,nt1,hf⟩
 ·rintro σ H' zzq;refine zzP fun zzM zzh=>?_
  obtain ⟨_,sm,nt,hf⟩:=zzq;subst zzh;rw [List.drop_of_length_le (by simp;omega)] at hf;have hf:Bn (Jx d1 d2) m1 m2=none:=hf;rw [hf] at q;exact q _ sm nt
theorem xE (T:Txt w K mg t):Gb P w K mg base (CX1 P w) 5 t.qg t.Bg ["crossing","size","spans"] (Jw t):=by
 have g62:Gb P w K mg base CX0 4 t.kg t.vg ["marks"] zB:=(iI T).mono (by decide);have g32:Gb P w K mg base CX0 4 t.Hg t.Ig ["size","spans","name"] RM:=(LN T).mono (by decide);have g16:Gb P w K mg base CX0 4 t.Gc t.ad ["self"] (Hl t):=(Jn T).mono (by decide);have g63:Gb P w K mg base CX0 4 t.fB t.yB ["crossing","one","other"] (UD t):=(sL T).mono (by decide);have g64:Gb P w K mg base (CX1 P w) 4 t.Ze t.Xe ["crossing","one","other","since_one","since_other"] (BK t):=fO T;refine T.Ki.okX Ve (fun vs H Q E h=>?_) (fun _ _ _ s H vs Q E hr h=>?_)
 ·obtain ⟨c,n,ds,z,p,sp,rfl,_⟩:=h;rfl
 obtain ⟨c,n,ds,z,p,sp,rfl,C,hn,hD,hz,L,hs,nt0,q⟩:=h;have hu:=CC hr;refine ⟨_,(cb (Db (i:=3) Ve.nd rfl (Or.inl rfl) cq)
   (cb (Wd (Ue ⟨rfl,rfl⟩) rfl (Ac (zd (pv 0) T.Ob T.Jd g16 hr T.Hd .nil Fb)) (Cb (i:=4) Ve.nd rfl (Or.inl rfl)) (ib (Dv hu (pv 3) (pv 4) (Bb g62 hr rfl T.ot T.Ii.kp T.wt .nil Fb (bb (Bb g32 hr rfl T.qp T.Sh.kp T.vp .nil Fb (bb (pv 1) (bb (pv 2) (bb (pv 4) fb)))) fb)) rfl)))
   (ib (Wd (Ue ⟨rfl,rfl⟩) rfl (Ac (zd (pv 0) T.Ob T.Jd g16 hr T.Hd .nil Fb)) (Cb (i:=5) Ve.nd rfl (Or.inl rfl)) (ib (Wd (Ue ⟨rfl,rfl⟩) rfl (Ac (zd (pv 0) T.Ob T.Jd g16 hr T.Hd .nil Fb)) (Cb (i:=6) Ve.nd rfl (Or.inl rfl)) (ib (Ye (PW.pt (zx (dc Dt (pv 5) (pv 6) (yc _)) (Jq (Ph (Bb g63 hr rfl T.fP T.NF.kp T.TN .nil Fb (bb (pv 0) (bb (pv 5) (bb (pv 6) fb)))))))) (ib (Xb (Bb g64 hr rfl T.zo T.gg.kp T.Jo .nil ee (bb (pv 0) (bb (pv 5) (bb (pv 6) (bb (Bq hu (pv 3) (pv 5) (fun _ _=>rfl)) (bb (Bq hu (pv 3) (pv 6) (fun _ _=>rfl)) fb)))))))) zc)))))))),?_⟩
 walk_at "RD";intro pd hpd;obtain ⟨⟨hnd,hdl⟩,dx,wl,nd,e1,_,_⟩:=id C;have s0:Pb H (upd H pd (.dK [])):=wb hpd;refine ⟨_,_,s0 _ _ e1,qx _ _ _ (by decide +kernel),c,n,ds,rfl,C.same s0,fun pn hpn=>⟨pn,rfl,⟨_,SqL.of db⟩,?_⟩⟩;have hpp:pn ≠ pd:=fun e=>by subst e;rw [db] at hpn;cases hpn
 refine Qh.list (xs:=Jb (ds.map (·.name))) (fun i σ H'=>(∃ y,σ=[some (V.ref c),some (V.int z),some (V.ref p),some (V.ref pd),y,none,none])/\Pb H H'/\NoT H'/\H' pn=some (.lst (Jb (ds.map (·.name))))/\NK H' pd ds (fun d=>.lst ((jk z sp d.name).map V.int)) i) ?_ ?_ ?_ ?_
 ·exact ⟨⟨_,rfl⟩,s0.trans (wb hpn),(nt0.upd).upd,db,[],rfl,by rw [jb (Ne.symm hpp),db];simp [nkv],fun i r d h=>by simp at h⟩
 ·rintro i σ H' hi zzq;refine zzP fun zzM zzh=>?_
  obtain ⟨_,_,_,h,_⟩:=zzq;subst zzh;exact SqL.of h
 ·rintro i v σ H' hv zzq;refine zzP fun zzM zzh=>?_
  obtain ⟨⟨y,rfl⟩,sm,nt,hpn',rs,hrl,hpd',hrs⟩:=zzq;obtain ⟨x,hx,rfl⟩:=Kb hv;obtain ⟨d,hd,rfl⟩:=Kb hx;subst zzh;walk_at "RD";refine ⟨z,p,d.name,sp,rfl,hz,L.same sm,hs,fun r1 H1 s1 n1 hr1 h1=>⟨r1,_,rfl,h1,by rw [Bm];exact hz,fun r2 H2 s2 n2 hr2 h2=>?_⟩⟩;have s12:=s1.trans s2;have hp2:=s12 _ _ hpd';refine ⟨_,ZF.k (k:=Sum.inr d.name) hp2 (Nat.lt_of_le_of_lt (show (nkv ds rs).length <= 12 by unfold nkv;rw [length_map,List.length_zip];omega) (by decide)),?_⟩;have hdi:ds[rs.length]? = some d:=by rw [hrl];exact hd
  rw [Gz hnd hdi];have hne:∀ {b:Addr} {ys:List V},H2 b=some (.lst ys)->b ≠ pd:=fun e=>Zd e hp2 (by intro z;cases z)
  refine ⟨⟨_,rfl⟩,fun b u e=>?_,(n2 (n1 nt)).upd,?_,rs ++ [r2],by rw [length_append,hrl];rfl,db,fun j r e hj he=>?_⟩
  ·rw [jb (yb e hpd)];exact s12 _ _ (sm _ _ e)
  ·rw [jb hpp];exact s12 _ _ hpn'
  ·rcases Nf hj with ⟨_,z2⟩ | ⟨z1,rfl⟩
   ·have:=s12 _ _ (hrs j r e z2 he);rw [jb (hne this)];exact this
   ·rw [z1] at he;rw [hdi] at he;cases he;rw [jb (hne h2)];exact h2
 rintro σ H1 zzq;refine zzP fun zzM zzh=>?_
 obtain ⟨⟨y,rfl⟩,sm1,nt1,hpn1,N1⟩:=zzq;have hsl:(Jb (ds.map (·.name))).length=ds.length:=by unfold Jb;simp
 subst zzh;rw [hsl] at N1;obtain ⟨rs,hrl,hpd1,hrs⟩:=N1;have C1:=C.same sm1;walk_at "RD";refine ⟨_,_,sm1 _ _ e1,qx _ _ _ (by decide +kernel),c,n,ds,rfl,C1,fun p2 hp2=>⟨p2,rfl,⟨_,SqL.of db⟩,?_⟩⟩;refine Qh.list (xs:=Jb (ds.map (·.name))) (fun i σ H'=>(∃ y u v,σ=[some (V.ref c),some (V.int z),some (V.ref p),some (V.ref pd),y,u,v])/\Pb H1 H'/\NoT H'/\H' p2=some (.lst (Jb (ds.map (·.name))))/\Xl n z sp ds=(ds.drop i).findSome? fun d1=>zu n z sp d1 ds) ?_ ?_ ?_ ?_
 ·exact ⟨⟨_,_,_,rfl⟩,wb hp2,nt1.upd,db,rfl⟩
 ·rintro i σ H' hi zzq;refine zzP fun zzM zzh=>?_
  obtain ⟨_,_,_,h,_⟩:=zzq;subst zzh;exact SqL.of h
 ·rintro i v σ H2 hv zzq;refine zzP fun zzM zzh=>?_
  obtain ⟨⟨y,u,v',rfl⟩,sm2,nt2,hpn2,hA⟩:=zzq;obtain ⟨x,hx,rfl⟩:=Kb hv;obtain ⟨d1,hd1,rfl⟩:=Kb hx;obtain ⟨hi,hxi⟩:=List.getElem?_eq_some_iff.mp hd1;subst zzh;rw [drop_eq_getElem_cons hi,hxi,List.findSome?_cons] at hA;have C2:=C1.same sm2;walk_at "RD";refine ⟨_,_,sm2 _ _ (sm1 _ _ e1),qx _ _ _ (by decide +kernel),c,n,ds,rfl,C2,fun p3 hp3=>⟨p3,rfl,⟨_,SqL.of db⟩,?_⟩⟩;refine Qh.list (xs:=Jb (ds.map (·.name))) (fun j σ H'=>(∃ y v,σ=[some (V.ref c),some (V.int z),some (V.ref p),some (V.ref pd),y,some (V.str d1.name),v])/\Pb H2 H'/\NoT H'/\H' p3=some (.lst (Jb (ds.map (·.name))))/\zu n z sp d1 ds=(ds.drop j).findSome? fun d2=>(Yo n z sp d1 d2).map fun i=>(d1,d2,i)) ?_ ?_ ?_ ?_
  ·exact ⟨⟨_,_,rfl⟩,wb hp3,nt2.upd,db,rfl⟩
  ·rintro i σ H' hi zzq;refine zzP fun zzM zzh=>?_
   obtain ⟨_,_,_,h,_⟩:=zzq;subst zzh;exact SqL.of h
  ·rintro j v σ H3 hv zzq;refine zzP fun zzM zzh=>?_
   obtain ⟨⟨y,v',rfl⟩,sm3,nt3,hpn3,hB⟩:=zzq;obtain ⟨x,hx,rfl⟩:=Kb hv;obtain ⟨d2,hd2,rfl⟩:=Kb hx;obtain ⟨hj,hxj⟩:=List.getElem?_eq_some_iff.mp hd2;subst zzh;rw [drop_eq_getElem_cons hj,hxj,List.findSome?_cons] at hB;have C3:=C2.same sm3;have sm13:=sm2.trans sm3;walk_at "RD";refine Pc (decide (d1.name ≠ d2.name) && mt n d1 d2) (fun Q hQ=>?_) (fun c1=>?_) (fun c1=>?_)
   ·walk_at "RD";by_cases c0:d1.name=d2.name
    ·rw [decide_eq_false (fun z=>z c0),Bool.false_and] at hQ;rw [if_neg (by simp [c0])];exact hQ
    ·rw [decide_eq_true c0,Bool.true_and] at hQ;rw [if_pos (by simp [c0])];exact ⟨c,n,ds,i,j,d1,d2,rfl,C3,hn,hd1,hd2,nt3,_,rfl,hQ⟩
   ·rw [Bool.and_eq_true] at c1;have c2:Yo n z sp d1 d2=(Bn (Jx d1 d2) (jk z sp d1.name) (jk z sp d2.name)).map (·.2):=by
     unfold Yo;rw [if_pos ⟨of_decide_eq_true c1.1,c1.2⟩]
    rw [c2] at hB;have hr1:rs[i]? = some rs[i]:=getElem?_eq_getElem (by omega);have hr2:rs[j]? = some rs[j]:=getElem?_eq_getElem (by omega);have g1:Is H3 pd (.str d1.name) (some (.ref rs[i])):=by rw [<- Yy hnd hd1 hr1];exact Is.k (k:=Sum.inr d1.name) (sm13 _ _ hpd1)
    have g2:Is H3 pd (.str d2.name) (some (.ref rs[j])):=by rw [<- Yy hnd hd2 hr2];exact Is.k (k:=Sum.inr d2.name) (sm13 _ _ hpd1)
    walk_at "RD";refine ⟨_,g1,_,g2,c,n,ds,d1,d2,_,_,_,_,rfl,C3,hD,mem_of_getElem? hd1,mem_of_getElem? hd2,sm13 _ _ (hrs i _ _ hr1 hd1),sm13 _ _ (hrs j _ _ hr2 hd2),by rw [Ll,Ll],by rw [Ll];exact hz.2,?_⟩;cases hc:Bn (Jx d1 d2) (jk z sp d1.name) (jk z sp d2.name) with
    | none=>
     rw [hc] at hB;exact fun H4 s4 n4=>⟨(by first | exact ⟨_,_,rfl⟩ | exact ⟨_,rfl⟩ | simp),sm3.trans s4,n4 nt3,s4 _ _ hpn3,hB⟩
    | some e=>
     rw [hc] at hB;have hB:zu n z sp d1 ds=some (d1,d2,e.2):=hB;rw [hB] at hA;have hA:Xl n z sp ds=some (d1,d2,e.2):=hA;rw [hA] at q;exact q.step (sm1.trans sm13) fun _=>nt3
   ·have c2:Yo n z sp d1 d2=none:=by
     unfold Yo;rw [if_neg];rintro ⟨z1,z2⟩;rw [decide_eq_true z1,z2] at c1;cases c1
    rw [c2] at hB;exact ⟨⟨_,_,rfl⟩,sm3,nt3,hpn3,hB⟩
  ·rintro σ H' zzq;refine zzP fun zzM zzh=>?_
   obtain ⟨⟨y,v',rfl⟩,sm3,nt3,_,hB⟩:=zzq;subst zzh;rw [hsl,List.drop_of_length_le (Nat.le_refl _)] at hB;have hB:zu n z sp d1 ds=none:=hB;rw [hB] at hA;exact ⟨⟨_,_,_,rfl⟩,sm2.trans sm3,nt3,sm3 _ _ hpn2,hA⟩
 ·rintro σ H' zzq;refine zzP fun zzM zzh=>?_
  obtain ⟨_,sm,nt,_,hA⟩:=zzq;subst zzh;rw [hsl,List.drop_of_length_le (Nat.le_refl _)] at hA;have hA:Xl n z sp ds=none:=hA;rw [hA] at q;exact q _ (sm1.trans sm) nt
end
end My
namespace My
open PySem L2
noncomputable abbrev HC:List Str:=[Str.ofString "crossing",Str.ofString "size",Str.ofString "spans",Str.ofString "lamps",Str.ofString "untils"]
noncomputable def plF (c:Addr) (z:Int) (p lm un:Addr):List (Str × V):=[(Str.ofString "crossing",.ref c),(Str.ofString "size",.int z),(Str.ofString "spans",.ref p),(Str.ofString "lamps",.ref lm),(Str.ofString "untils",.ref un)]
theorem Dn (c:Addr) (z:Int) (p lm un:Addr):(plF c z p lm un).map (·.1)=HC:=rfl
noncomputable def Pp (z:Nat) (sp:List SD) (d:WD):List Str:=Bi z (Kc d).toNat (ze d).toNat (ofN d.name sp)
noncomputable def sF (z:Nat) (sp:List SD) (x:Str):List Int:=wn (fmF z (ofN x sp))
structure ef (t:Adr) (H:Hp) (a c:Addr) (n:Int) (ds:List WD) (z:Nat) (sp:List SD):Prop where
 at_:∃ dx p lm un,H a=some (.ins t.ve dx (plF c z p lm un))/\Lc t H c n ds/\LO H p (List.map sdO sp)/\NK H lm ds (fun d=>.lst (Jb (Pp z sp d))) ds.length/\NK H un ds (fun d=>.lst ((sF z sp d.name).map V.int)) ds.length
noncomputable def FJ (t:Adr):Sp:=fun vs H Q _=>∃ (a dx c:Addr) (n:Int) (ds:List WD) (z:Nat) (p:Addr) (sp:List SD),vs=[.ref a,.ref c,.int z,.ref p]/\H a=some (.ins t.ve dx [])/\Lc t H c n ds/\DOk ds/\(0 < z/\z <= 1000)/\LO H p (List.map sdO sp)/\qM z sp/\NoT H /\
 ∀ H',Dc a H H'->NoT H'->ef t H' a c n ds z sp->(∃ dx lm un,H' a=some (.ins t.ve dx (plF c z p lm un)))->Q .non H'
noncomputable def dJ (t:Adr) (H H':Hp) (a c:Addr) (z:Nat):Prop:=∃ dx p lm un,H' a=some (.ins t.ve dx (plF c z p lm un))/\H p=none
noncomputable def Kz (t:Adr) (c:Addr) (n:Int) (ds:List WD) (z:Nat) (sp:List SD) (H:Hp) (Q:VK) (E:XK):Prop:=
 (Tj ds sp=none->Uk ds z sp=none->Xl n z sp ds=none->∀ a H',Pb H H'->NoT H'->ef t H' a c n ds z sp->dJ t H H' a c z->Q (.ref a) H') /\
 (∀ x,Tj ds sp=some x->BG t.ce [(Str.ofString "way",.str x)] H E) /\
 (∀ e,Tj ds sp=none->Uk ds z sp=some e->BG t.Ud [(Str.ofString "way",.str e.1.name),(Str.ofString "at",.int e.1.b)] H E) /\
 (∀ e,Tj ds sp=none->Uk ds z sp=none->Xl n z sp ds=some e->BG t.Gd [(Str.ofString "way",.str e.1.name),(Str.ofString "other",.str e.2.1.name),(Str.ofString "at",.int e.2.2)] H E)
theorem Kz.step {t:Adr} {c:Addr} {n:Int} {ds:List WD} {z:Nat} {sp:List SD} {H H1:Hp} {Q:VK} {E:XK} (h:Kz t c n ds z sp H Q E) (s:Pb H H1) (nt:NoT H1):Kz t c n ds z sp H1 Q E:=
 ⟨fun h1 h2 h3 a H' s' n' p ⟨dx,p',lm,un,e1,e2⟩=>h.1 h1 h2 h3 a H' (s.trans s') n' p ⟨dx,p',lm,un,e1,s.free e2⟩,fun x hx=>(h.2.1 x hx).step s fun _=>nt,fun e h1 h2=>(h.2.2.1 e h1 h2).step s fun _=>nt,fun e h1 h2 h3=>(h.2.2.2 e h1 h2 h3).step s fun _=>nt⟩
noncomputable def pA (t:Adr):Sp:=fun vs H Q E=>∃ (c:Addr) (n:Int) (ds:List WD) (z:Nat) (p:Addr) (sp:List SD),vs=[.ref c,.int z,.ref p]/\Lc t H c n ds/\0 < n/\DOk ds/\(0 < z/\z <= 1000)/\LO H p (List.map sdO sp)/\qM z sp/\(∀ s ∈ sp,∃ d,wOf ds s.name=some d)/\NoT H /\
 Kz t c n ds z sp H Q E
section
variable {w:World} {K:W.Frag} {mg:Str->Option Value} {t:Adr} {H:Hp} {a c dx p lm un:Addr} {z:Int}
theorem NA (T:Txt w K mg t) (e:H a=some (.ins t.ve dx (plF c z p lm un))):Qi K H a (Str.ofString "lamps") (.ref lm):=⟨_,dx,_,e,T.Hi,T.Fn,Vd HC 3 (Dn ..) (by decide +kernel) rfl⟩
theorem IF (T:Txt w K mg t) (e:H a=some (.ins t.ve dx (plF c z p lm un))):Qi K H a (Str.ofString "untils") (.ref un):=⟨_,dx,_,e,T.Hi,T.xm,Vd HC 4 (Dn ..) (by decide +kernel) rfl⟩
end
theorem tD {H:Hp} {a b C C' dx dx':Addr} {fs:List (Str × V)} (ha:H a=some (.ins C dx [])) (hb:H b=some (.ins C' dx' fs)) (hf:fs ≠ []):b ≠ a:=fun z=>by
 subst z;rw [hb] at ha;have e:=Option.some.inj ha;injection e with _ _ e3;exact hf e3
theorem Lc.sameX {t:Adr} {H H':Hp} {a c C dx:Addr} {n:Int} {ds:List WD} (h:Lc t H c n ds) (s:Dc a H H') (ha:H a=some (.ins C dx [])):Lc t H' c n ds:=by
 obtain ⟨h0,dx',wl,nd,e1,⟨as,w1,w2,al⟩,e3⟩:=h;refine ⟨h0,dx',wl,nd,s _ _ (tD ha e1 (by unfold cF;simp)) e1,⟨as,s _ _ (Zd w1 ha (by intro z;cases z)) w1,w2,fun i b d hb hd=>?_⟩,s _ _ (Zd e3 ha (by intro z;cases z)) e3⟩;obtain ⟨k,dxb,eb⟩:=al i b d hb hd;exact ⟨k,dxb,s _ _ (tD ha eb (by unfold Op;simp)) eb⟩
theorem LO.sameX {H H':Hp} {a p C dx:Addr} {sp:List SD} (h:LO H p (List.map sdO sp)) (s:Dc a H H') (ha:H a=some (.ins C dx [])):LO H' p (List.map sdO sp):=by
 obtain ⟨qs,l1,l2⟩:=h;refine ⟨qs,s _ _ (Zd l1 ha (by intro z;cases z)) l1,l2.1,fun i q o hq ho=>?_⟩;have e:=l2.2 i q o hq ho;refine s _ _ (Zd e ha ?_) e;obtain ⟨d,_,rfl⟩:=Kb ho;intro z;cases z
section
variable {P:Program} {w:World} {K:W.Frag} {mg:Str->Option Value} {base:Heap} {t:Adr}
theorem uP (T:Txt w K mg t):Gb P w K mg base CX0 4 t.Ch t.rj ["self","crossing","size","spans"] (FJ t):=by
 have g65:Gb P w K mg base CX0 3 t.vB t.BB ["way","size","spans"] (xG t):=(JM T).mono (by decide);have g31:Gb P w K mg base CX0 3 t.ff t.cf ["marks"] Zu:=(UA T).mono (by decide);have g32:Gb P w K mg base CX0 3 t.Hg t.Ig ["size","spans","name"] RM:=(LN T).mono (by decide);have g16:Gb P w K mg base CX0 3 t.Gc t.ad ["self"] (Hl t):=(Jn T).mono (by decide);have g15:Gb P w K mg base CX0 3 t.Yb t.ic ["self","name"] (Pi t):=(zk T).mono (by decide);refine T.Fs.ok Xj (fun vs H Q E h=>?_) (fun _ _ _ s H vs Q E hr h=>?_)
 ·obtain ⟨a,dx,c,n,ds,z,p,sp,rfl,_⟩:=h;rfl
 obtain ⟨a,dx,c,n,ds,z,p,sp,rfl,ha,C,hD,hz,L,hs,nt0,q⟩:=h;have hu:=CC hr;refine ⟨_,(cb (Vf (pv 0) (pv 1) rfl)
   (cb (Vf (pv 0) (pv 2) rfl)
   (cb (Vf (pv 0) (pv 3) rfl)
   (cb (Vf (pv 0) cq rfl)
   (cb (Vf (pv 0) cq rfl)
   (ib (Wd PassesOwn.never rfl (Ac (zd (pv 1) T.Ob T.Jd g16 hr T.Hd .nil Fb)) (Cb (i:=4) Xj.nd rfl (Or.inl rfl)) (cb (Dv hu (vc (pv 0) rfl) (pv 4) (Bb g65 hr rfl T.PN T.vF.kp T.lO .nil Fb (bb (Xc (pv 1) T.Ob T.Mc g15 hr T.Nc .nil Fb (bb (pv 4) fb)) (bb (pv 2) (bb (pv 3) fb)))) rfl)
   (ib (Dv hu (vc (pv 0) rfl) (pv 4) (Bb g31 hr rfl T.rm T.xg.kp T.zm .nil Fb (bb (Bb g32 hr rfl T.qp T.Sh.kp T.vp .nil Fb (bb (pv 2) (bb (pv 3) (bb (pv 4) fb)))) fb)) rfl)))))))))),?_⟩
 walk_at "RD";refine ⟨_,_,_,ha,T.Hi,T.ak,by decide,?_⟩;refine ⟨_,_,_,db,T.Hi,T.gp,ko (n:=999) (by decide),?_⟩;refine ⟨_,_,_,db,T.Hi,T.Ln,ko (n:=999) (ko (n:=998) (by decide)),fun lm hlm=>?_⟩;simp only [pj] at hlm ⊢;rw [show lh (Str.ofString "crossing") (V.ref c) ([]:List (Str × V))=[(Str.ofString "crossing",V.ref c)] from rfl,show lh (Str.ofString "size") (V.int z) [(Str.ofString "crossing",V.ref c)]=[(Str.ofString "crossing",V.ref c),(Str.ofString "size",V.int z)] from Ad [Str.ofString "crossing"] rfl (by decide +kernel),show lh (Str.ofString "spans") (V.ref p) [(Str.ofString "crossing",V.ref c),(Str.ofString "size",V.int z)]=[(Str.ofString "crossing",V.ref c),(Str.ofString "size",V.int z),(Str.ofString "spans",V.ref p)] from Ad [Str.ofString "crossing",Str.ofString "size"] rfl (by decide +kernel)] at hlm ⊢;have hla:a ≠ lm:=fun z=>by subst z;rw [db] at hlm;cases hlm
 have hHl:H lm=none:=by rw [jb (Ne.symm hla)] at hlm;exact hlm
 refine ⟨t.ve,dx,[(Str.ofString "crossing",V.ref c),(Str.ofString "size",V.int z),(Str.ofString "spans",V.ref p)],by rw [jb hla];exact db,T.Hi,T.Fn,show (3:Nat) < 1000 by decide,fun un hun=>?_⟩;rw [show lh (Str.ofString "lamps") (V.ref lm) [(Str.ofString "crossing",V.ref c),(Str.ofString "size",V.int z),(Str.ofString "spans",V.ref p)]=[(Str.ofString "crossing",V.ref c),(Str.ofString "size",V.int z),(Str.ofString "spans",V.ref p),(Str.ofString "lamps",V.ref lm)] from Ad [Str.ofString "crossing",Str.ofString "size",Str.ofString "spans"] rfl (by decide +kernel)] at hun ⊢;have hua:a ≠ un:=fun z=>by subst z;rw [db] at hun;cases hun
 have hul:un ≠ lm:=fun z=>by subst z;rw [jb (Ne.symm hua),db] at hun;cases hun
 have hHu:H un=none:=by rw [jb (Ne.symm hua),jb hul,jb (Ne.symm hua)] at hun;exact hun
 refine ⟨t.ve,dx,[(Str.ofString "crossing",V.ref c),(Str.ofString "size",V.int z),(Str.ofString "spans",V.ref p),(Str.ofString "lamps",V.ref lm)],by rw [jb hua];exact db,T.Hi,T.xm,show (4:Nat) < 1000 by decide,?_⟩;rw [show lh (Str.ofString "untils") (V.ref un) [(Str.ofString "crossing",V.ref c),(Str.ofString "size",V.int z),(Str.ofString "spans",V.ref p),(Str.ofString "lamps",V.ref lm)]=plF c z p lm un from Ad [Str.ofString "crossing",Str.ofString "size",Str.ofString "spans",Str.ofString "lamps"] rfl (by decide +kernel)];have hf:∃ H5:Hp,H5=upd (upd (upd (upd (upd H a (.ins t.ve dx [(Str.ofString "crossing",V.ref c),(Str.ofString "size",V.int z),(Str.ofString "spans",V.ref p)])) lm (.dK [])) a (.ins t.ve dx [(Str.ofString "crossing",V.ref c),(Str.ofString "size",V.int z),(Str.ofString "spans",V.ref p),(Str.ofString "lamps",V.ref lm)])) un (.dK [])) a (.ins t.ve dx (plF c z p lm un)):=⟨_,rfl⟩;obtain ⟨H5,h5⟩:=hf;rw [<- h5];have g1:H5 a=some (.ins t.ve dx (plF c z p lm un)):=by rw [h5,db]
 have g2:H5 lm=some (.dK []):=by rw [h5,jb (Ne.symm hla),jb (Ne.symm hul),jb (Ne.symm hla),db]
 have g3:H5 un=some (.dK []):=by rw [h5,jb (Ne.symm hua),db]
 have g4:Dc a H H5:=fun b u hb e=>by rw [h5,jb hb,jb (yb e hHu),jb hb,jb (yb e hHl),jb hb];exact e
 have g5:NoT H5:=by rw [h5];exact ((((nt0.upd).upd).upd).upd).upd
 clear h5;have C5:=C.sameX g4 ha;obtain ⟨⟨hnd,hdl⟩,dxc,wl,nd,e1,_,_⟩:=id C5;refine ⟨_,_,e1,qx _ _ _ (by decide +kernel),c,n,ds,rfl,C5,fun pn hpn=>⟨pn,rfl,⟨_,SqL.of db⟩,?_⟩⟩;refine Qh.list (xs:=Jb (ds.map (·.name))) (fun i σ H'=>(∃ y,σ=[some (V.ref a),some (V.ref c),some (V.int z),some (V.ref p),y])/\Dc a H H'/\NoT H'/\H' a=some (.ins t.ve dx (plF c z p lm un))/\H' pn=some (.lst (Jb (ds.map (·.name))))/\NK H' lm ds (fun d=>.lst (Jb (Pp z sp d))) i/\NK H' un ds (fun d=>.lst ((sF z sp d.name).map V.int)) i) ?_ ?_ ?_ ?_
 ·have sn:=wb (o:=.lst (Jb (ds.map (·.name)))) hpn;exact ⟨⟨_,rfl⟩,g4.trans (Dc.of sn),g5.upd,sn _ _ g1,db,⟨[],rfl,by rw [sn _ _ g2];simp [nkv],fun i r d h=>by simp at h⟩,⟨[],rfl,by rw [sn _ _ g3];simp [nkv],fun i r d h=>by simp at h⟩⟩
 ·rintro i σ H' hi zzq;refine zzP fun zzM zzh=>?_
  obtain ⟨_,_,_,_,h,_⟩:=zzq;subst zzh;exact SqL.of h
 ·rintro i v σ H' hv zzq;refine zzP fun zzM zzh=>?_
  obtain ⟨⟨y,rfl⟩,sx,nt,ha',hpn',⟨rl,hrl,hlm',hrs⟩,⟨ru,hru,hun',hus⟩⟩:=zzq;obtain ⟨x,hx,rfl⟩:=Kb hv;obtain ⟨d,hd,rfl⟩:=Kb hx;have C':=C.sameX sx ha;have L':=L.sameX sx ha;obtain ⟨_,dxc',wl',nd',e1',_,_⟩:=id C';subst zzh;walk_at "RD";refine ⟨_,_,e1',qx _ _ _ (by decide +kernel),c,n,ds,i,d,rfl,C',hd,fun wa W=>?_⟩;have hdi:ds[rl.length]? = some d:=by rw [hrl];exact hd
  have hdj:ds[ru.length]? = some d:=by rw [hru];exact hd
  refine ⟨wa,d,z,p,sp,rfl,hz,W,L',hs,(hD d (mem_of_getElem? hd)).2,fun r1 H1 s1 n1 hr1 h1=>⟨_,NA T (s1 _ _ ha'),lm,rfl,_,ZF.k (k:=Sum.inr d.name) (s1 _ _ hlm') (Nat.lt_of_le_of_lt (show (nkv ds rl).length <= 12 by unfold nkv;rw [length_map,List.length_zip];omega) (by decide)),?_⟩⟩;rw [Gz hnd hdi];have kl:∀ {b:Addr} {u:HO},H' b=some u->b ≠ lm->upd H1 lm (.dK (nkv ds (rl ++ [r1]))) b=some u:=fun e h=>by rw [jb h];exact s1 _ _ e
  have k1:Dc a H (upd H1 lm (.dK (nkv ds (rl ++ [r1])))):=fun b u hb e=>kl (sx b u hb e) (yb e hHl)
  refine ⟨z,p,d.name,sp,rfl,hz,L.sameX k1 ha,hs,fun r3 H3 s3 n3 hr3 h3=>⟨r3,_,rfl,h3,by rw [Bm];exact hz,fun r4 H4 s4 n4 hr4 h4=>?_⟩⟩;have s34:=s3.trans s4;have un2:H4 un=some (.dK (nkv ds ru)):=s34 _ _ (kl hun' hul);have a2:H4 a=some (.ins t.ve dx (plF c z p lm un)):=s34 _ _ (kl ha' hla);refine ⟨_,IF T a2,un,rfl,_,ZF.k (k:=Sum.inr d.name) un2 (Nat.lt_of_le_of_lt (show (nkv ds ru).length <= 12 by unfold nkv;rw [length_map,List.length_zip];omega) (by decide)),?_⟩;rw [Gz hnd hdj];have ku:∀ {b:Addr} {u:HO},upd H1 lm (.dK (nkv ds (rl ++ [r1]))) b=some u->b ≠ un->upd H4 un (.dK (nkv ds (ru ++ [r4]))) b=some u:=fun e h=>by rw [jb h];exact s34 _ _ e
  have nel:∀ {b:Addr} {ys:List V},H' b=some (.lst ys)->b ≠ lm:=fun e=>Zd e hlm' (by intro z;cases z)
  have neu:∀ {b:Addr} {ys:List V},H' b=some (.lst ys)->b ≠ un:=fun e=>Zd e hun' (by intro z;cases z)
  have r1l:r1 ≠ lm:=Zd h1 (s1 _ _ hlm') (by intro z;cases z);have r1u:r1 ≠ un:=Zd h1 (s1 _ _ hun') (by intro z;cases z);have r4u:r4 ≠ un:=Zd h4 un2 (by intro z;cases z);refine ⟨⟨_,rfl⟩,fun b u hb e=>ku (k1 b u hb e) (yb e hHu),(n4 (n3 (n1 nt).upd)).upd,ku (kl ha' hla) hua,ku (kl hpn' (nel hpn')) (neu hpn'),⟨rl ++ [r1],by rw [length_append,hrl];rfl,ku db (Ne.symm hul),fun j r e hj he=>?_⟩,⟨ru ++ [r4],by rw [length_append,hru];rfl,db,fun j r e hj he=>?_⟩⟩
  ·rcases Nf hj with ⟨_,z2⟩ | ⟨z1,rfl⟩
   ·have:=hrs j r e z2 he;exact ku (kl this (nel this)) (neu this)
   ·rw [z1,hdi] at he;cases he;exact ku (by rw [jb r1l];exact h1) r1u
  ·rcases Nf hj with ⟨_,z2⟩ | ⟨z1,rfl⟩
   ·have:=hus j r e z2 he;exact ku (kl this (nel this)) (neu this)
   ·rw [z1,hdj] at he;cases he;rw [jb r4u];exact h4
 ·rintro σ H' zzq;refine zzP fun zzM zzh=>?_
  obtain ⟨_,sx,nt,ha',_,N1,N2⟩:=zzq;have hsl:(Jb (ds.map (·.name))).length=ds.length:=by unfold Jb;simp
  subst zzh;rw [hsl] at N1 N2;exact q _ sx nt ⟨dx,p,lm,un,ha',C.sameX sx ha,L.sameX sx ha,N1,N2⟩ ⟨dx,lm,un,ha'⟩
theorem WA (T:Txt w K mg t):Gb P w K mg base (CX1 P w) 6 t.cg t.bg ["crossing","size","rows"] (pA t):=by
 have g15:Gb P w K mg base CX0 5 t.Yb t.ic ["self","name"] (Pi t):=(zk T).mono (by decide);have g66:Gb P w K mg base CX0 4 t.Ch t.rj ["self","crossing","size","spans"] (FJ t):=uP T;have g67:Gb P w K mg base (CX1 P w) 5 t.Ag t.lg ["crossing","spans"] (Tw t):=(CD T).mono (by decide);have g68:Gb P w K mg base (CX1 P w) 5 t.Eg t.jg ["crossing","size","spans"] (zw t):=(fD T).mono (by decide);have g69:Gb P w K mg base (CX1 P w) 5 t.qg t.Bg ["crossing","size","spans"] (Jw t):=xE T;refine T.Dj.okX Rg (fun vs H Q E h=>?_) (fun _ _ _ s H vs Q E hr h=>?_)
 ·obtain ⟨c,n,ds,z,p,sp,rfl,_⟩:=h;rfl
 obtain ⟨c,n,ds,z,p,sp,rfl,C,hn,hD,hz,L,hs,hw,nt0,q1,q2,q3,q4⟩:=h;refine ⟨_,(cb (qh (i:=3) Rg.nd rfl (Or.inl rfl) rfl (Ac (pv 2)) (kd (sc:=rb Ym) rfl (by decide +kernel)) (N:=["name","begin","turns"]) (sel:=[none,none,none]) (Yd (M:=["crossing","size","rows","spans","name","begin","turns"]) (by decide +kernel)) (Blk.of (fun _ _ _ _=>(Tf (K:=K) (n:=3) rfl rfl (Rb (Cb (i:=0) (Ug (N:=["name","begin","turns"]) (by decide +kernel) rfl) rfl (Or.inl rfl) (.inr rfl)) (Rb (Cb (i:=1) (Ug (N:=["name","begin","turns"]) (by decide +kernel) rfl) rfl (Or.inl rfl) (.inr rfl)) (Rb (Cb (i:=2) (Ug (N:=["name","begin","turns"]) (by decide +kernel) rfl) rfl (Or.inl rfl) (.inr rfl)) Pf))))) (fun _ _ _ _=>⟨_,ag,by walk_at "B"⟩) (fun _ _ _ _=>⟨_,(Uj (bb (pv 0) (bb (pv 1) (bb (pv 2) fb)))),by walk_at "B"⟩)) rfl)
   (cb (Wd (Ue ⟨rfl,rfl⟩) rfl (Ac (pv 3)) (Tf (K:=K) (n:=3) rfl rfl (Rb (Cb (i:=4) Rg.nd rfl (Or.inl rfl) (.inl rfl)) (Rb (Cb (i:=5) Rg.nd rfl (Or.inl rfl) (.inl rfl)) (Rb (Cb (i:=6) Rg.nd rfl (Or.inl rfl) (.inl rfl)) Pf)))) (ib (Xb (Xc (pv 0) T.Ob T.Mc g15 hr T.Nc .nil Fb (bb (pv 4) fb)))))
   (cb (Xb (Bb g67 hr rfl T.jt T.Ci.kp T.xt .nil ee (bb (pv 0) (bb (pv 3) fb))))
   (cb (Xb (Bb g68 hr rfl T.Ws T.Gi.kp T.dt .nil ee (bb (pv 0) (bb (pv 1) (bb (pv 3) fb)))))
   (cb (Xb (Bb g69 hr rfl T.Kt T.Ki.kp T.ut .nil ee (bb (pv 0) (bb (pv 1) (bb (pv 3) fb)))))
   (ib (Lb (Ro T.cP g66 hr rfl T.MN T.iz .nil Fb (bb (pv 0) (bb (pv 1) (bb (pv 3) fb))))))))))),?_⟩
 walk_at "RD";obtain ⟨qs,l1,lq⟩:=L;have hql:qs.length=sp.length:=by rw [lq.1,length_map]
 have hs1:=hs.1;refine ⟨⟨_,SqL.of l1⟩,?_⟩;refine fe.list (xs:=qs.map V.ref) (fun i ys H'=>∃ os:List Addr,ys=os.map V.ref/\LQ H' os ((sp.take i).map sdO)/\Pb H H'/\NoT H') (Nat.le_trans (show (qs.map V.ref).length <= 100 by rw [length_map];omega) (by decide)) ⟨[],rfl,by rw [take_zero];exact LQ.nil _,Pb.refl _,nt0⟩ ?_ ?_ ?_
 ·rintro i ys H' hi zzq;refine zzP fun zzM zzh=>?_
  obtain ⟨os,rfl,r,sm,_⟩:=zzq;subst zzh;refine ⟨(SqL.of l1).same sm,?_⟩;rw [length_map,r.1,length_map,length_take];omega
 ·rintro i v ys H' hv ⟨os,rfl,r,sm,nt⟩ N hN;obtain ⟨qi,hqi,rfl⟩:=Kb hv;obtain ⟨o,ho,e⟩:=lq.at hqi;obtain ⟨d,hd,rfl⟩:=Kb ho;have e':=sm _ _ e;dsimp only at hN;rw [md hd,map_append] at hN;walk_at "RD";refine ⟨_,SqT.of e',rfl,_,_,rfl,_,_,rfl,_,_,rfl,rfl,Sub.name3,by decide,fun p1 hp1=>?_⟩;exact hN _ _ ⟨os ++ [p1],by rw [map_append];rfl,(r.same (wb hp1)).app (LQ.one db),sm.trans (wb hp1),nt.upd⟩
 rintro ys H1 ⟨os,rfl,r,sm1,nt1⟩ p1 hp1;rw [take_of_length_le (by rw [length_map];omega)] at r;have hp1n:H p1=none:=sm1.free hp1;have s2:Pb H1 (upd H1 p1 (.lst (os.map V.ref))):=wb hp1;have nt2:NoT (upd H1 p1 (.lst (os.map V.ref))):=nt1.upd;have L2:LO (upd H1 p1 (.lst (os.map V.ref))) p1 (List.map sdO sp):=⟨os,db,r.same s2⟩;have sm2:=sm1.trans s2;generalize upd H1 p1 (.lst (os.map V.ref))=H2 at s2 nt2 L2 sm2 ⊢;have C2:=C.same sm2;obtain ⟨_,dxc,wl,nd,e1,_,_⟩:=id C2;obtain ⟨qs2,m1,mq⟩:=id L2;have hql2:qs2.length=sp.length:=by rw [mq.1,length_map]
 walk_at "RD";refine ⟨⟨_,SqL.of m1⟩,?_⟩;refine Qh.list (xs:=qs2.map V.ref) (fun i σ H'=>(∃ x y z',σ=[some (V.ref c),some (V.int z),some (V.ref p),some (V.ref p1),x,y,z'])/\H'=H2) ?_ ?_ ?_ ?_
 ·exact ⟨⟨_,_,_,rfl⟩,rfl⟩
 ·rintro i σ H' hi ⟨_,rfl⟩;exact SqL.of m1
 ·rintro i v σ H' hv zzq;refine zzP fun zzM zzh=>?_
  obtain ⟨⟨x,y,z',rfl⟩,rfl⟩:=zzq;obtain ⟨qi,hqi,rfl⟩:=Kb hv;obtain ⟨o,ho,e⟩:=mq.at hqi;obtain ⟨sd,hsd,rfl⟩:=Kb ho;obtain ⟨d,hd⟩:=hw sd (mem_of_getElem? hsd);obtain ⟨hdn,j,hj⟩:=sK hd;subst zzh;walk_at "RD";exact ⟨_,SqT.of e,rfl,_,_,rfl,_,_,rfl,_,_,rfl,rfl,_,_,e1,qx _ _ _ (by decide +kernel),c,n,ds,j,d,by rw [hdn],C2,hj,fun a W=>⟨(by first | exact ⟨_,_,_,rfl⟩ | exact ⟨_,_,rfl⟩ | exact ⟨_,rfl⟩ | simp),rfl⟩⟩
 rintro σ H' zzq;refine zzP fun zzM zzh=>?_
 obtain ⟨⟨x,y,z',rfl⟩,rfl⟩:=zzq;subst zzh;walk_at "RD";refine ⟨c,n,ds,p1,sp,rfl,C2,hD,L2,hs1,?_⟩;cases hN:Tj ds sp with
 | some x=>exact (q2 x hN).step sm2 fun _=>nt2
 | none=>
 intro H3 s3 n3;have nt3:=n3 nt2;have C3:=C2.same s3;have L3:=L2.same s3;walk_at "RD";refine ⟨c,n,ds,z,p1,sp,rfl,C3,hD,⟨by omega,by omega⟩,L3,hs,hw,?_⟩;cases hS:Uk ds z sp with
 | some e=>exact (q3 e hN hS).step (sm2.trans s3) fun _=>nt3
 | none=>
 intro H4 s4 n4;have nt4:=n4 nt3;have C4:=C3.same s4;have L4:=L3.same s4;walk_at "RD";refine ⟨c,n,ds,z,p1,sp,rfl,C4,hn,hD,hz,L4,hs,nt4,?_⟩;cases hC:Xl n z sp ds with
 | some e=>exact (q4 e hN hS hC).step ((sm2.trans s3).trans s4) fun _=>nt4
 | none=>
 intro H5 s5 nt5;have C5:=C4.same s5;have L5:=L4.same s5;walk_at "RD";intro a dx ha hdx hne;have sc:Pb H5 (upd (upd H5 dx (.own a)) a (.ins t.ve dx [])):=((Pb.refl H5).updN hdx).updN ha;refine ⟨a,dx,c,n,ds,z,p1,sp,rfl,db,C5.same sc,hD,hz,L5.same sc,hs,(nt5.upd).upd,fun H6 s6 nt6 PA ⟨dx6,lm6,un6,e6⟩=>⟨rfl,?_⟩⟩;have sm5:=((sm2.trans s3).trans s4).trans s5;exact q1 hN hS hC a H6 (ye (sm5.trans sc) s6 (sm5.free ha)) nt6 PA ⟨dx6,p1,lm6,un6,e6,hp1n⟩
end
end My
namespace My
open PySem L2
noncomputable def Wv (ws:List Str):Except Nat Int:=if wd ws 0 ∈ [Str.ofString "round"] then (Xy (wd ws 1) 1 240).elim (.error 1) fun v=>if 2 < ws.length then .error 2 else .ok v else .error 0
noncomputable def ii (ds:List WD) (sp:List SD):List Str:=(ds.map (·.name)).filter fun x=>decide ((ofN x sp).length < 3)
noncomputable def du (z:Int) (known:List Str) (ws:List Str):Except Nat SD:=if wd ws 0 ∈ [Str.ofString "free"] then
 (if wd ws 1 ∈ known then (Xy (wd ws 2) 0 (z - 1)).elim (.error 2) fun b=>(Xy (wd ws 3) 1 z).elim (.error 3) fun n=>if 4 < ws.length then .error 4 else .ok ⟨wd ws 1,b,n⟩ else .error 1) else .error 0
noncomputable def Vj (z:Int) (ds:List WD):List (List Str)->Nat->List SD->Except (Nat × Nat) (List SD)
 | [],_,sp=>.ok sp
 | ws :: r,i,sp=>match du z (ii ds sp) ws with
  | .error k=>.error (i,k)
  | .ok d=>Vj z ds r (i + 1) (sp ++ [d])
noncomputable def jH (ds:List WD) (r0:List Str) (rest:List (List Str)):Except (Nat × Nat) (Int × List SD):=match Wv r0 with
 | .error k=>.error (0,k)
 | .ok z=>match Vj z ds rest 1 [] with
  | .error e=>.error e
  | .ok sp=>.ok (z,sp)
theorem lH {ws:List Str} {n:Int} (h:Wv ws=.ok n):1 <= n/\n <= 240:=by
 unfold Wv at h;split at h
 ·cases e:Xy (wd ws 1) 1 240 with
  | none=>rw [e] at h;cases h
  | some v=>
   rw [e] at h;have hv:Iq (wd ws 1) 1 240=.int v:=by rw [Tx,e];rfl
   have:=sw hv;replace h:(if 2 < ws.length then Except.error 2 else Except.ok v)=Except.ok n:=h;split at h
   ·cases h
   ·cases h;exact ⟨this.2.1,this.2.2⟩
 ·cases h
theorem GH {z:Int} {known ws:List Str} {d:SD} (h:du z known ws=.ok d):d.name ∈ known/\0 <= d.b/\d.b < z/\1 <= d.n/\d.n <= z:=by
 unfold du at h;split at h
 ·split at h
  ·rename_i h1;cases e:Xy (wd ws 2) 0 (z - 1) with
   | none=>rw [e] at h;cases h
   | some b=>
    rw [e] at h;have hb:Iq (wd ws 2) 0 (z - 1)=.int b:=by rw [Tx,e];rfl
    have g1:=sw hb;replace h:((Xy (wd ws 3) 1 z).elim (.error 3) fun n=>if 4 < ws.length then .error 4 else .ok ⟨wd ws 1,b,n⟩)=Except.ok d:=h;cases e2:Xy (wd ws 3) 1 z with
    | none=>rw [e2] at h;cases h
    | some n=>
     rw [e2] at h;have hn:Iq (wd ws 3) 1 z=.int n:=by rw [Tx,e2];rfl
     have g2:=sw hn;replace h:(if 4 < ws.length then Except.error 4 else Except.ok (⟨wd ws 1,b,n⟩:SD))=Except.ok d:=h;split at h
     ·cases h
     ·cases h;exact ⟨h1,g1.2.1,by show b < z;omega,g2.2.1,g2.2.2⟩
  ·cases h
 ·cases h
noncomputable def dE (t:Adr):Sp:=fun vs H Q E=>∃ q row ws,vs=[.ref q]/\Me t H q row ws 0/\(0 <= row/\row <= 10000)/\NoT H/\Oc (Wv ws) (fun n=>rQ q H (Q (.int n))) (fun k=>Ts t row k q H E)
noncomputable def VD (t:Adr):Sp:=fun vs H Q E=>∃ q row ws c n ds z p sp,vs=[.ref q,.ref c,.int z,.ref p]/\Me t H q row ws 0/\(0 <= row/\row <= 10000)/\Lc t H c n ds/\(∀ d ∈ ds,d.name ≠ Str.ofString "")/\(1 <= z/\z <= 240)/\LO H p (List.map sdO sp)/\sp.length <= 100/\NoT H /\
 Oc (du z (ii ds sp) ws) (fun d=>∀ x H',Dc q H H'->NoT H'->H' x=some (sdO d)->H x=none->Q (.ref x) H') (fun k=>Ts t row k q H E)
noncomputable def XH (t:Adr):Sp:=fun vs H Q E=>∃ c n ds x r0 rest,vs=[.ref c,.str x]/\Lc t H c n ds/\0 < n/\DOk ds/\(∀ d ∈ ds,d.name ≠ Str.ofString "")/\Zg x=r0 :: rest/\x.length <= 20000/\rest.length <= 100/\(∀ r ∈ r0 :: rest,r ≠ []/\r.length <= 1000/\∀ y ∈ r,y.length <= 1000)/\NoT H /\
 Oc2 (jH ds r0 rest) (fun m=>Kz t c n ds m.1.toNat m.2 H Q E) (fun i k=>iQ t i k H E)
noncomputable def SpG (z:Int) (ds:List WD) (sp:List SD):Prop:=∀ s ∈ sp,s.name ∈ ds.map (·.name)/\0 <= s.b/\s.b < z/\1 <= s.n/\s.n <= z
theorem SpG.ok {z:Int} {ds:List WD} {sp:List SD} (h:SpG z ds sp) (hl:sp.length <= 100) (hz:z <= 240):qM z sp:=⟨hl,fun d hd=>by have:=h d hd;omega⟩
theorem SpG.wOf {z:Int} {ds:List WD} {sp:List SD} (h:SpG z ds sp):∀ s ∈ sp,∃ d,wOf ds s.name=some d:=fun s hs=>by
 obtain ⟨d,hd,e⟩:=List.mem_map.mp (h s hs).1;unfold My.wOf;cases hf:ds.find? fun d=>decide (d.name=s.name) with
 | some d'=>exact ⟨d',rfl⟩
 | none=>exact absurd (List.find?_eq_none.mp hf d hd) (by simp [e])
theorem Lc.sameR {t:Adr} {H H':Hp} {q c:Addr} {n:Int} {ds:List WD} {row:Int} {ws:List Str} {k:Nat} (h:Lc t H c n ds) (s:Dc q H H') (R:Me t H q row ws k):Lc t H' c n ds:=by
 obtain ⟨h0,dx',wl,nd,e1,⟨as,w1,w2,al⟩,e3⟩:=h;obtain ⟨_,dq,ta,f1,f2⟩:=id R;refine ⟨h0,dx',wl,nd,s _ _ (fun z=>?_) e1,⟨as,s _ _ (Zd w1 f1 (by intro z;cases z)) w1,w2,fun i b d hb hd=>?_⟩,s _ _ (Zd e3 f1 (by intro z;cases z)) e3⟩
 ·subst z;rw [e1] at f1;have e:=Option.some.inj f1;injection e with _ _ e4;unfold cF rdF at e4;injection e4 with e5 _;injection e5 with e6 _;exact absurd e6 (by decide +kernel)
 ·have W:=al i b d hb hd;have hn:=mx W R;exact ⟨W.1,W.2.imp fun dx e=>s _ _ hn e⟩
theorem LO.sameR {t:Adr} {H H':Hp} {q p:Addr} {sp:List SD} {row:Int} {ws:List Str} {k:Nat} (h:LO H p (List.map sdO sp)) (s:Dc q H H') (R:Me t H q row ws k):LO H' p (List.map sdO sp):=by
 obtain ⟨_,dq,ta,f1,f2⟩:=id R;obtain ⟨qs,l1,l2⟩:=h;refine ⟨qs,s _ _ (Zd l1 f1 (by intro z;cases z)) l1,l2.1,fun i q o hq ho=>?_⟩;have e:=l2.2 i q o hq ho;refine s _ _ (Zd e f1 ?_) e;obtain ⟨d,_,rfl⟩:=Kb ho;intro z;cases z
section
variable {P:Program} {w:World} {K:W.Frag} {mg:Str->Option Value} {base:Heap} {t:Adr}
theorem ZM (T:Txt w K mg t):Gb P w K mg base (CX1 P w) 6 t.tj t.Kj ["reader"] (dE t):=by
 have g21:Gb P w K mg base (CX1 P w) 5 t.lc t.Fc ["self","choices"] (Ar K t):=Bx T;have g22:Gb P w K mg base (CX1 P w) 5 t.Qb t.fc ["self","low","high"] (Gv t):=QA T;have g33:Gb P w K mg base (CX1 P w) 5 t.nc t.Ec ["self"] (Cz t):=(gG T).mono (by decide);refine T.Lm.okX rp (fun vs H Q E h=>?_) (fun _ _ _ s H vs Q E hr h=>?_)
 ·obtain ⟨q,row,ws,rfl,_⟩:=h;rfl
 obtain ⟨q,row,ws,rfl,R,hrow,nt,qq⟩:=h;refine ⟨_,(cb (Xb (Xc (pv 0) T.zb T.re g21 hr T.qe .nil ee (bb (Cf (bb Rc fb)) fb)))
   (cb (Db (i:=1) rp.nd rfl (Or.inl rfl) (Xc (pv 0) T.zb T.ac g22 hr T.bc .nil ee (bb xb (bb (Wg rfl T.Oy T.ez) fb))))
   (cb (Xb (zd (pv 0) T.zb T.Je g33 hr T.Ke .nil ee))
   (ib (Lb (pv 1)))))),?_⟩
 obtain ⟨_,dx,ta,e1,e2⟩:=id R;walk_at "RD";refine ⟨_,_,e1,Me.no _ _ _ (by decide +kernel),by decide,fun p hp=>?_⟩;have s0:Pb H (upd H p (.lst [V.str (Str.ofString "round")])):=wb hp;refine ⟨q,row,ws,0,p,[Str.ofString "round"],rfl,R.same s0,hrow,Nat.zero_le _,SqL.of db,fun hin=>fun H1 s1 n1 R1=>?_,fun hnin=>?_⟩
 ·obtain ⟨_,dx1,ta1,f1,f2⟩:=id R1;have nt1:=n1 nt.upd;have x1:Dc q H H1:=(Dc.of s0).trans s1;have l1:1 <= ws.length:=GI (k:=0) (by rw [List.mem_singleton.mp hin];decide +kernel);unfold Wv at qq;rw [if_pos hin] at qq;walk_at "RD";refine ⟨_,_,f1,Me.no _ _ _ (by decide +kernel),⟨q,row,ws,1,1,240,rfl,R1,hrow,l1,nt1,fun v hv=>fun H2 s2 n2 R2=>?_,fun hv=>?_⟩⟩
  ·obtain ⟨_,dx2,ta2,g1,g2⟩:=id R2;rw [Cv hv] at qq;have qq:Oc (if 2 < ws.length then Except.error 2 else Except.ok v) (fun n=>rQ q H (Q (.int n))) (fun k=>Ts t row k q H E):=qq;walk_at "RD";refine ⟨_,_,g1,Me.no _ _ _ (by decide +kernel),⟨q,row,ws,2,rfl,R2,hrow,fun hl=>?_,fun hl=>?_⟩⟩
   ·rw [if_neg hl] at qq;walk_at "RD";exact qq H2 (x1.trans s2) (n2 nt1)
   ·rw [if_pos hl] at qq;exact (show Ts t row 2 q H E from qq).step (x1.trans s2) fun _=>n2 nt1
  ·rw [Vq hv] at qq;exact (show Ts t row 1 q H E from qq).step x1 fun _=>nt1
 ·unfold Wv at qq;rw [if_neg hnin] at qq;exact (show Ts t row 0 q H E from qq).step (Dc.of s0) fun n=>n.upd
theorem UL (T:Txt w K mg t):Gb P w K mg base (CX1 P w) 6 t.Bj t.Cj ["reader","crossing","size","spans"] (VD t):=by
 have g21:Gb P w K mg base (CX1 P w) 5 t.lc t.Fc ["self","choices"] (Ar K t):=Bx T;have g22:Gb P w K mg base (CX1 P w) 5 t.Qb t.fc ["self","low","high"] (Gv t):=QA T;have g33:Gb P w K mg base (CX1 P w) 5 t.nc t.Ec ["self"] (Cz t):=(gG T).mono (by decide);have g17:Gb P w K mg base CX0 5 t.xf t.wf ["spans","name"] vo:=(xr T).mono (by decide);have g16:Gb P w K mg base CX0 5 t.Gc t.ad ["self"] (Hl t):=(Jn T).mono (by decide);refine T.Dm.okX Vh (fun vs H Q E h=>?_) (fun _ _ _ s H vs Q E hr h=>?_)
 ·obtain ⟨q,row,ws,c,n,ds,z,p,sp,rfl,_⟩:=h;rfl
 obtain ⟨q,row,ws,c,n,ds,z,p,sp,rfl,R,hrow,C,hD,hz,L,hsl,nt,qq⟩:=h;refine ⟨_,(cb (Xb (Xc (pv 0) T.zb T.re g21 hr T.qe .nil ee (bb (Cf (bb Rc fb)) fb)))
   (cb (Db (i:=4) Vh.nd rfl (Or.inl rfl) (Xc (pv 0) T.zb T.re g21 hr T.qe .nil ee (bb (Xg rfl (Ac (zd (pv 1) T.Ob T.Jd g16 hr T.Hd .nil Fb)) (kd (sc:=rb Gm) rfl (by decide +kernel)) (N:=["known","spans"]) (sel:=[none,some 3]) (Yd (M:=["reader","crossing","size","spans","name","begin","turns"]) (by decide +kernel)) (Blk.of (fun _ _ _ _=>(Cb (i:=0) (Ug (N:=["known","spans"]) (by decide +kernel) rfl) rfl (Or.inl rfl))) (fun _ _ _ _=>⟨_,(Nr (dc Av (Ed wc rfl T.Ql Zc (bb (Bb g17 hr rfl T.Xi T.Xf.kp T.dj .nil Fb (bb (pv 1) (bb (pv 0) fb))) fb)) (Wg rfl T.ny T.Rx) (yc _))),by walk_at "B"⟩) (fun _ _ _ _=>⟨_,(pv 0),by walk_at "B"⟩))) fb)))
   (cb (Db (i:=5) Vh.nd rfl (Or.inl rfl) (Xc (pv 0) T.zb T.ac g22 hr T.bc .nil ee (bb xb (bb (Nb Mg (pv 2) xb) fb))))
   (cb (Db (i:=6) Vh.nd rfl (Or.inl rfl) (Xc (pv 0) T.zb T.ac g22 hr T.bc .nil ee (bb xb (bb (pv 2) fb))))
   (cb (Xb (zd (pv 0) T.zb T.Je g33 hr T.Ke .nil ee))
   (ib (Lb (Uj (bb (pv 4) (bb (pv 5) (bb (pv 6) fb))))))))))),?_⟩
 obtain ⟨_,dx,ta,e1,e2⟩:=id R;walk_at "RD";refine ⟨_,_,e1,Me.no _ _ _ (by decide +kernel),by decide,fun p0 hp0=>?_⟩;have s0:Pb H (upd H p0 (.lst [V.str (Str.ofString "free")])):=wb hp0;unfold du at qq;refine ⟨q,row,ws,0,p0,[Str.ofString "free"],rfl,R.same s0,hrow,Nat.zero_le _,SqL.of db,fun hin=>fun H1 s1 n1 R1=>?_,fun hnin=>?_⟩
 case refine_2=>
  rw [if_neg hnin] at qq;exact (show Ts t row 0 q H E from qq).step (Dc.of s0) fun n=>n.upd
 rw [if_pos hin] at qq;obtain ⟨_,dx1,ta1,f1,f2⟩:=id R1;have nt1:=n1 nt.upd;have x1:Dc q H H1:=(Dc.of s0).trans s1;have l1:1 <= ws.length:=GI (k:=0) (by rw [List.mem_singleton.mp hin];decide +kernel);have C1:=C.sameR x1 R;have L1:=L.sameR x1 R;obtain ⟨⟨_,hdl⟩,dxc,wl,nd,g1,_,_⟩:=id C1;walk_at "RD";refine ⟨_,_,f1,Me.no _ _ _ (by decide +kernel),_,_,g1,qx _ _ _ (by decide +kernel),c,n,ds,rfl,C1,fun pn hpn=>⟨pn,rfl,⟨_,SqL.of db⟩,?_⟩⟩;have sn:Pb H1 (upd H1 pn (.lst (Jb (ds.map (·.name))))):=wb hpn;have hsl':(Jb (ds.map (·.name))).length=ds.length:=by unfold Jb;simp
 refine fe.list (xs:=Jb (ds.map (·.name))) (fun i ys H'=>ys=Jb (((ds.map (·.name)).take i).filter fun x=>decide ((ofN x sp).length < 3))/\Pb (upd H1 pn (.lst (Jb (ds.map (·.name))))) H'/\NoT H') (Nat.le_trans (show _ <= 12 by rw [hsl'];omega) (by decide)) ⟨by rw [take_zero];rfl,Pb.refl _,nt1.upd⟩ ?_ ?_ ?_
 ·rintro i ys H' hi ⟨rfl,sm,_⟩;refine ⟨SqL.of (sm _ _ db),?_⟩;unfold Jb;rw [length_map];exact Nat.le_trans (List.length_filter_le ..) (by rw [length_take];omega)
 ·rintro i v ys H' hv ⟨rfl,sm,nt'⟩ N hN;obtain ⟨x,hx,rfl⟩:=Kb hv;dsimp only at hN;rw [md hx,List.filter_append] at hN;walk_at "RD";refine ⟨Sub.name,p,x,sp,rfl,(L1.same sn).same sm,hsl,fun r H2 s2 n2 ⟨qs,m1,m2⟩=>⟨r,rfl,_,.inl (SqL.of m1),?_⟩⟩;have hml:qs.length=(ofN x sp).length:=by rw [m2.1,length_map]
  rw [length_map,hml];by_cases c0:(ofN x sp).length < 3
  ·rw [if_pos (decide_eq_true (by omega))];refine hN _ _ ⟨?_,sm.trans s2,n2 nt'⟩;rw [List.filter_cons_of_pos (by simpa using c0)];unfold Jb;rw [map_append];rfl
  ·rw [if_neg (by rw [decide_eq_true_eq];omega)];refine hN _ _ ⟨?_,sm.trans s2,n2 nt'⟩;rw [List.filter_cons_of_neg (by simpa using c0),List.filter_nil,append_nil]
 rintro ys H2 ⟨rfl,sm2,nt2⟩ pk hpk;rw [hsl',take_of_length_le (by rw [length_map];exact Nat.le_refl _)];rw [show (ds.map (·.name)).filter (fun x=>decide ((ofN x sp).length < 3))=ii ds sp from rfl];have sk:Pb H1 (upd H2 pk (.lst (Jb (ii ds sp)))):=(sn.trans sm2).trans (wb hpk);have ntk:NoT (upd H2 pk (.lst (Jb (ii ds sp)))):=nt2.upd;have hk:upd H2 pk (.lst (Jb (ii ds sp))) pk=some (.lst (Jb (ii ds sp))):=db;generalize upd H2 pk (.lst (Jb (ii ds sp)))=H3 at sk ntk hk ⊢;have R3:=R1.same sk;have x3:Dc q H H3:=x1.trans (Dc.of sk);walk_at "RD";refine ⟨q,row,ws,1,pk,ii ds sp,rfl,R3,hrow,l1,SqL.of hk,fun hin1=>fun H4 s4 n4 R4=>?_,fun hnin=>?_⟩
 case refine_2=>
  rw [if_neg hnin] at qq;exact (show Ts t row 1 q H E from qq).step x3 fun _=>ntk
 rw [if_pos hin1] at qq;have nt4:=n4 ntk;have x4:Dc q H H4:=x3.trans s4;obtain ⟨_,dx4,ta4,i1,i2⟩:=id R4;have l2:2 <= ws.length:=GI (k:=1) (by
  obtain ⟨d,hd,e⟩:=List.mem_map.mp (List.mem_filter.mp hin1).1;rw [<- e];exact hD d hd)
 walk_at "RD";refine ⟨_,_,i1,Me.no _ _ _ (by decide +kernel),⟨q,row,ws,2,0,z - 1,rfl,R4,hrow,l2,nt4,fun b hb=>fun H5 s5 n5 R5=>?_,fun hb=>?_⟩⟩
 case refine_2=>
  rw [Vq hb] at qq;exact (show Ts t row 2 q H E from qq).step x4 fun _=>nt4
 rw [Cv hb] at qq;replace qq:Oc ((Xy (wd ws 3) 1 z).elim (.error 3) fun n=>if 4 < ws.length then .error 4 else .ok ⟨wd ws 1,b,n⟩) (fun d:SD=>∀ x H',Dc q H H'->NoT H'->H' x=some (sdO d)->H x=none->Q (.ref x) H') (fun k=>Ts t row k q H E):=qq;have l3:=(sw hb).1;have nt5:=n5 nt4;have x5:Dc q H H5:=x4.trans s5;obtain ⟨_,dx5,ta5,j1,j2⟩:=id R5;walk_at "RD";refine ⟨_,_,j1,Me.no _ _ _ (by decide +kernel),⟨q,row,ws,3,1,z,rfl,R5,hrow,l3,nt5,fun m hm=>fun H6 s6 n6 R6=>?_,fun hm=>?_⟩⟩
 case refine_2=>
  rw [Vq hm] at qq;exact (show Ts t row 3 q H E from qq).step x5 fun _=>nt5
 rw [Cv hm] at qq;replace qq:Oc (if 4 < ws.length then .error 4 else .ok (⟨wd ws 1,b,m⟩:SD)) (fun d:SD=>∀ x H',Dc q H H'->NoT H'->H' x=some (sdO d)->H x=none->Q (.ref x) H') (fun k=>Ts t row k q H E):=qq;have nt6:=n6 nt5;have x6:Dc q H H6:=x5.trans s6;obtain ⟨_,dx6,ta6,k1,k2⟩:=id R6;walk_at "RD";refine ⟨_,_,k1,Me.no _ _ _ (by decide +kernel),⟨q,row,ws,4,rfl,R6,hrow,fun hl=>?_,fun hl=>?_⟩⟩
 ·rw [if_neg hl] at qq;walk_at "RD";refine ⟨by decide,fun x hx=>?_⟩;have hHx:H x=none:=by
   cases e:H x with
   | none=>rfl
   | some u=>
    by_cases hxq:x=q
    ·subst hxq;rw [k1] at hx;cases hx
    ·rw [x6 _ _ hxq e] at hx;cases hx
  exact qq x _ (x6.trans (Dc.of (wb hx))) nt6.upd db hHx
 ·rw [if_pos hl] at qq;exact (show Ts t row 4 q H E from qq).step x6 fun _=>nt6
theorem NH (T:Txt w K mg t):Gb P w K mg base (CX1 P w) 8 t.Oh t.Mh ["crossing","text"] (XH t):=by
 have g30:Gb P w K mg base CX0 7 t.yl t.rk ["text"] (so t):=(Ou T).mono (by decide);have g70:Gb P w K mg base (CX1 P w) 7 t.tj t.Kj ["reader"] (dE t):=(ZM T).mono (by decide);have g71:Gb P w K mg base (CX1 P w) 7 t.Bj t.Cj ["reader","crossing","size","spans"] (VD t):=(UL T).mono (by decide);have g72:Gb P w K mg base (CX1 P w) 7 t.cg t.bg ["crossing","size","rows"] (pA t):=(WA T).mono (by decide);refine T.Nm.okX Tg (fun vs H Q E h=>?_) (fun _ _ _ s H vs Q E hr h=>?_)
 ·obtain ⟨c,n,ds,x,r0,rest,rfl,_⟩:=h;rfl
 obtain ⟨c,n,ds,x,r0,rest,rfl,C,hn,hD,hne,hrow,hxl,hrl,hall,nt,qq⟩:=h;refine ⟨_,(cb (Db (i:=2) Tg.nd rfl (Or.inl rfl) (Bb g30 hr rfl T.Fw T.Wn.kp T.Lw .nil Fb (bb (pv 1) fb)))
   (cb (Db (i:=3) Tg.nd rfl (Or.inl rfl) (Bb g70 hr rfl T.Uy T.Lm.kp T.Zz .nil ee (bb (yd Zf (pv 2) xb (fun _ _=>rfl)) fb)))
   (cb (Db (i:=4) Tg.nd rfl (Or.inl rfl) (Cf fb))
   (cb (Wd (Ue ⟨rfl,rfl⟩) rfl (Ac (jn BF (pv 2) (Lq xb) Jr)) (Cb (i:=5) Tg.nd rfl (Or.inl rfl)) (ib (Xb (ol PySem.F.plainAttrs_list PySem.F.slot_list_append PySem.F.type_list_append Pe (pv 4) (bb (Bb g71 hr rfl T.Az T.Dm.kp T.kz .nil ee (bb (pv 5) (bb (pv 0) (bb (pv 3) (bb (pv 4) fb))))) fb)))))
   (ib (Lb (Bb g72 hr rfl T.Yr T.Dj.kp T.Br .nil ee (bb (pv 0) (bb (pv 3) (bb (pv 4) fb)))))))))),?_⟩
 have toC:∀ {i k:Nat} {q:Addr} {H1:Hp},iQ t i k H E->Pb H H1->H q=none->NoT H1->Ts t i k q H1 E:=fun {i k q H1} r s n m dx H' s' n' e=>r dx H' (ye s s' n) (n' m) e
 walk_at "RD";refine ⟨x,rfl,hxl,?_,nt,fun p H1 sm1 nt1 R=>?_⟩
 ·rw [hrow];exact fun r hr=>(hall r hr).2
 rw [hrow] at R;obtain ⟨qs,hp,hp0,hql,hqa⟩:=R;obtain ⟨q0,qr,rfl⟩:∃ q0 qr,qs=q0 :: qr:=by
  cases qs with
  | nil=>simp at hql
  | cons a b=>exact ⟨a,b,rfl⟩
 have hqrl:qr.length=rest.length:=by simpa using hql
 obtain ⟨R0,hq0⟩:=hqa 0 q0 _ rfl rfl;walk_at "RD";refine ⟨_,SqL.of hp,_,Bc (j:=0) rfl,⟨q0,_,r0,rfl,R0,by omega,nt1,?_⟩⟩;unfold jH at qq;cases er:Wv r0 with
 | error k=>
  rw [er] at qq;exact toC qq sm1 hq0 nt1
 | ok z=>
 rw [er] at qq;have hzz:=lH er;obtain ⟨zn,rfl⟩:∃ zn:Nat,z=(zn:Int):=⟨z.toNat,by omega⟩;intro H2 s2 nt2;walk_at "RD";refine ⟨Nat.zero_le _,fun wl hwl=>?_⟩;obtain ⟨C0,dq0,fq0,hins⟩:=R0.ins;have hpq:p ≠ q0:=Zd hp hins (by intro z;cases z);have hp2:H2 p=some (.lst ((q0 :: qr).map V.ref)):=s2 _ _ hpq hp;have swl:Pb H2 (upd H2 wl (.lst [])):=wb hwl;have hcut:JC ((q0 :: qr).map V.ref) (some 1) none=qr.map V.ref:=by
  unfold JC;simp [HT.sIx];exact take_of_length_le (by rw [length_map];exact Nat.le_refl _)
 refine ⟨_,SqL.of (swl _ _ hp2),fun pc hpc=>?_⟩;rw [hcut];have hpw:pc ≠ wl:=fun z=>by subst z;rw [db] at hpc;cases hpc
 have spc:Pb (upd H2 wl (.lst [])) (upd (upd H2 wl (.lst [])) pc (.lst (qr.map V.ref))):=wb hpc;refine ⟨⟨_,SqL.of db⟩,?_⟩;have sH2:Pb H H2:=ye sm1 s2 hq0;replace qq:Oc2 (match Vj zn ds rest 1 [] with | .error e=>.error e | .ok sp=>.ok ((zn:Int),sp)) (fun m:Int × List SD=>Kz t c n ds m.1.toNat m.2 H Q E) (fun i k=>iQ t i k H E):=qq;generalize hW0:Vj zn ds rest 1 []=W0 at qq;refine Qh.list (xs:=qr.map V.ref) (fun i σ H'=>(∃ y,σ=[some (V.ref c),some (V.str x),some (V.ref p),some (V.int zn),some (V.ref wl),y])/\NoT H'/\Pb H H'/\H' pc=some (.lst (qr.map V.ref))/\H wl=none /\
  (∃ sp,LO H' wl (List.map sdO sp)/\sp.length <= i/\SpG zn ds sp/\Vj zn ds (rest.drop i) (i + 1) sp=W0) /\
  ∀ (j:Nat) (q:Addr) (r:List Str),i <= j->qr[j]? = some q->rest[j]? = some r->Me t H' q ((j + 1:Nat):Int) r 0/\H q=none) ?_ ?_ ?_ ?_
 ·refine ⟨⟨_,rfl⟩,(nt2.upd).upd,(sH2.trans swl).trans spc,db,sH2.free hwl,⟨[],⟨[],spc _ _ db,LQ.nil _⟩,Nat.le_refl _,(fun s hs=>by simp at hs),hW0⟩,fun j q r _ h1 h2=>?_⟩;obtain ⟨Rj,hqj⟩:=hqa (j + 1) q r (by rw [getElem?_cons_succ];exact h1) (by rw [getElem?_cons_succ];exact h2);exact ⟨((Rj.sameX s2 (PH Rj R0 (by omega)) R0.ins).same swl).same spc,hqj⟩
 ·rintro i σ H' hi zzq;refine zzP fun zzM zzh=>?_
  obtain ⟨_,_,_,h,_⟩:=zzq;subst zzh;exact SqL.of h
 ·rintro i v σ H' hv zzq;refine zzP fun zzM zzh=>?_
  obtain ⟨⟨y,rfl⟩,nt',sm',hpc',hwl0,⟨sp,L,hsl,hG,hwp⟩,Rs⟩:=zzq;obtain ⟨q,hq,rfl⟩:=Kb hv;obtain ⟨hi,_⟩:=List.getElem?_eq_some_iff.mp hq;have hid:i < rest.length:=by omega
  have hr:rest[i]? = some rest[i]:=getElem?_eq_getElem hid;obtain ⟨Rq,hqn⟩:=Rs i q _ (Nat.le_refl _) hq hr;obtain ⟨os,w1,w2⟩:=id L;obtain ⟨_,dq,tq,hqi,hqt⟩:=id Rq;have hosl:os.length=sp.length:=by rw [w2.1,length_map]
  subst zzh;rw [drop_eq_getElem_cons hid] at hwp;unfold Vj at hwp;walk_at "RD";refine ⟨.inl ⟨_,SqL.of w1⟩,?_⟩;refine ⟨q,_,rest[i],c,n,ds,zn,wl,sp,rfl,Rq,by omega,C.same sm',hne,hzz,L,by omega,nt',?_⟩;cases ew:du zn (ii ds sp) rest[i] with
  | error k=>
   rw [ew] at hwp;replace hwp:Except.error (i + 1,k)=W0:=hwp;subst hwp;exact toC qq sm' hqn nt'
  | ok d=>
   rw [ew] at hwp;replace hwp:Vj zn ds (rest.drop (i + 1)) (i + 1 + 1) (sp ++ [d])=W0:=hwp;intro y' H3 s3 nt3 w3 hy3;walk_at "RD";have hwq:wl ≠ q:=Zd w1 hqi (by intro z;cases z);have hw3:H3 wl=some (.lst (os.map V.ref)):=s3 _ _ hwq w1;have hsm3:Pb H H3:=ye sm' s3 hqn;refine ⟨_,hw3,Nat.lt_of_le_of_lt (show (os.map V.ref).length <= 100 by rw [length_map];omega) (by decide),?_⟩;have hyw:y' ≠ wl:=fun z=>by
    subst z;rw [w1] at hy3;cases hy3
   have L3:=L.sameR s3 Rq;refine ⟨⟨_,rfl⟩,nt3.upd,fun b u e=>?_,?_,hwl0,⟨sp ++ [d],⟨os ++ [y'],by rw [db,map_append];rfl,?_⟩,by rw [length_append];show _ + 1 <= _;omega,fun s hs=>?_,hwp⟩,fun j q' r hj h1 h2=>?_⟩
   ·rw [jb (yb e hwl0)];exact hsm3 _ _ e
   ·rw [jb hpw];exact s3 _ _ (Zd hpc' hqi (by intro z;cases z)) hpc'
   ·rw [map_append];refine LQ.app ⟨w2.1,fun j b o hb ho=>?_⟩ (LQ.one (by rw [jb hyw];exact w3));have e:=w2.2 j b o hb ho;obtain ⟨s,_,rfl⟩:=Kb ho;rw [jb (Zd e w1 (by intro z;cases z))];exact s3 _ _ (Zd e hqi (by intro z;cases z)) e
   ·rcases List.mem_append.mp hs with hs | hs
    ·exact hG s hs
    ·rw [List.mem_singleton.mp hs];have:=GH ew;exact ⟨(List.mem_filter.mp this.1).1,this.2⟩
   ·obtain ⟨Rj,hqj⟩:=Rs j q' r (by omega) h1 h2;have R3:=Rj.sameX s3 (PH Rj Rq (by omega)) Rq.ins;refine ⟨?_,hqj⟩;obtain ⟨hz,dx',ta,e1,e2⟩:=R3;refine ⟨hz,dx',ta,by rw [jb (Zd e1 hw3 (by intro z;cases z))];exact e1,?_⟩;rw [jb (fun z=>by
     subst z;rw [hw3] at e2;have e5:=Option.some.inj e2;injection e5 with e6;have hr0:=(hall r (mem_cons_of_mem _ (mem_of_getElem? h2))).1;cases os with
     | nil=>
      cases r with
      | nil=>exact hr0 rfl
      | cons u v=>cases e6
     | cons a r'=>
      cases r with
      | nil=>cases e6
      | cons u v=>injection e6 with e7 _;cases e7)]
    exact e2
 ·rintro σ H' zzq;refine zzP fun zzM zzh=>?_
  obtain ⟨⟨y,rfl⟩,nt',sm',hpc',hwl0,⟨sp,L,hsl,hG,hwp⟩,Rs⟩:=zzq;subst zzh;rw [length_map,hqrl,List.drop_length] at hwp;replace hwp:Except.ok sp=W0:=hwp;subst hwp;replace qq:Kz t c n ds (zn:Int).toNat sp H Q E:=qq;rw [Int.toNat_natCast] at qq;walk_at "RD";exact ⟨c,n,ds,zn,wl,sp,rfl,C.same sm',hn,hD,by omega,L,hG.ok (by rw [length_map] at hsl;omega) (by omega),hG.wOf,nt',qq.step sm' nt'⟩
end
end My
namespace My
open PySem L2
noncomputable abbrev S (x:String):Str:=Str.ofString x
noncomputable def MF (x:Str):Prop:=x.length <= 20/\(32:Nat) ∉ x.cps.toList/\(10:Nat) ∉ x.cps.toList
theorem Vr.b {x:Str} (h:Vr x):MF x:=⟨Nat.le_trans h.1 (by decide),h.2⟩
theorem WC {rs:List (List Str)} (h0:rs ≠ []) (h1:∀ r ∈ rs,r ≠ []) (h2:∀ r ∈ rs,∀ x ∈ r,MF x):Zg (Str.join nl (rs.map (Str.join bk)))=rs:=by
 unfold Zg;rw [CI,oy,Il (by simpa using h0) (fun y hy=>by
  obtain ⟨r,hr,rfl⟩:=List.mem_map.mp hy;rw [dg];intro z;rcases zD z with z | ⟨p,hp,z⟩
  ·cases z
  ·obtain ⟨x,hx,rfl⟩:=List.mem_map.mp hp;exact (h2 r hr x hx).2.2 z),map_map]
 have:∀ r ∈ rs,((fun r=>Txt.split r ⟨#[32]⟩) ∘ Str.join ⟨#[32]⟩) r=r:=fun r hr=>Il (h1 r hr) fun x hx=>(h2 r hr x hx).2.1
 rw [List.map_congr_left this,List.map_id']
theorem Bv {v lo hi:Int} (h0:0 <= v) (h1:v < 1000) (hl:lo <= v) (hh:v <= hi):Xy (num v) lo hi=some v:=Cv (Tm h0 h1 hl hh)
noncomputable def Jg (s:SD):List Str:=[S "free",s.name,num s.b,num s.n]
noncomputable def Vi (z:Int) (sp:List SD):List (List Str):=[S "round",num z] :: sp.map Jg
theorem aF {z:Int} (hz:z <= 240) {known:List Str} {d:SD} (hn:d.name ∈ known) (h:0 <= d.b/\d.b < z/\1 <= d.n/\d.n <= z):du z known (Jg d)=.ok d:=by
 unfold du;rw [if_pos (show wd (Jg d) 0 ∈ [Str.ofString "free"] from by show S "free" ∈ [S "free"];simp),if_pos (show wd (Jg d) 1 ∈ known from hn)];rw [show wd (Jg d) 2=num d.b from rfl,Bv (by omega) (by omega) (by omega) (by omega),show wd (Jg d) 3=num d.n from rfl,Bv (by omega) (by omega) (by omega) (by omega)];rfl
theorem FE {z:Int} {ds:List WD} {ws:List Str} {r:List (List Str)} {i:Nat} {sp:List SD} {d:SD} (h:du z (ii ds sp) ws=.ok d):Vj z ds (ws :: r) i sp=Vj z ds r (i + 1) (sp ++ [d]):=by
 show (match du z (ii ds sp) ws with | .error k=>Except.error (i,k) | .ok d=>Vj z ds r (i + 1) (sp ++ [d]))=_;rw [h]
theorem TD {z:Int} (hz:1 <= z/\z <= 240):Wv [S "round",num z]=.ok z:=by
 unfold Wv;rw [if_pos (show wd [S "round",num z] 0 ∈ [Str.ofString "round"] from by show S "round" ∈ [S "round"];simp),show wd [S "round",num z] 1=num z from rfl,Bv (by omega) (by omega) (by omega) (by omega)];rfl
noncomputable def vL (z:Int) (ds:List WD) (sp:List SD):Prop:=∀ (i:Nat) (d:SD),sp[i]? = some d->d.name ∈ ii ds (sp.take i)/\0 <= d.b/\d.b < z/\1 <= d.n/\d.n <= z
theorem Pu {z:Int} (hz:z <= 240) {ds:List WD} {sp:List SD} (h:vL z ds sp):∀ (n i:Nat),sp.length - i=n->i <= sp.length->Vj z ds ((sp.drop i).map Jg) (i + 1) (sp.take i)=.ok sp
 | 0,i,hn,hi=>by
  have:i=sp.length:=by omega
  subst this;rw [List.drop_length,take_length];rfl
 | n + 1,i,hn,hi=>by
  have hi':i < sp.length:=by omega
  have hd:sp[i]? = some sp[i]:=getElem?_eq_getElem hi';have g:=h i _ hd;rw [drop_eq_getElem_cons hi',map_cons];rw [FE (aF hz g.1 g.2)];have:=Pu hz h n (i + 1) (by omega) hi';rw [md hd] at this;exact this
theorem jC {z:Int} (hz:1 <= z/\z <= 240) {ds:List WD} {sp:List SD} (h:vL z ds sp):jH ds [S "round",num z] (sp.map Jg)=.ok (z,sp):=by
 unfold jH;rw [TD hz];have:=Pu hz.2 h sp.length 0 rfl (Nat.zero_le _);rw [List.drop_zero,take_zero] at this;show (match Vj z ds (sp.map Jg) 1 [] with | .error e=>Except.error e | .ok sp=>Except.ok (z,sp))=_;rw [this]
noncomputable def Og (z:Int) (sp:List SD):Str:=Str.join nl ((Vi z sp).map (Str.join bk))
theorem DF (c:Nat):∀ (l:List (List Nat)) (x:List Nat),l ≠ []->jl c (l ++ [x])=jl c l ++ c :: x
 | [],_,h=>absurd rfl h
 | [a],x,_=>rfl
 | a :: b :: r,x,_=>by
  have:=DF c (b :: r) x (by simp);show a ++ c :: jl c ((b :: r) ++ [x])=(a ++ c :: jl c (b :: r)) ++ c :: x;rw [this,append_assoc,cons_append]
theorem Ux (z:Int):Og z []=Str.ofString "round " ++ num z:=by
 apply Xm;have e1:(Str.ofString "round ").cps.toList=[114,111,117,110,100,32]:=by decide +kernel
 have e2:(Str.ofString "round").cps.toList=[114,111,117,110,100]:=by decide +kernel
 unfold Og Vi;rw [CI,dg,oy];simp only [map_cons,map_nil,jl,dg,Str.cps_append,Array.toList_append,e1,e2,cons_append,nil_append]
theorem Du (z:Int) (sp:List SD) (s:SD):Og z (sp ++ [s])=(((((Og z sp ++ Str.ofString "\nfree ") ++ s.name) ++ Str.ofString " ") ++ num s.b) ++ Str.ofString " ") ++ num s.n:=by
 apply Xm;have e1:(Str.ofString "\nfree ").cps.toList=[10,102,114,101,101,32]:=by decide +kernel
 have e2:(Str.ofString "free").cps.toList=[102,114,101,101]:=by decide +kernel
 have e3:(Str.ofString " ").cps.toList=[32]:=by decide +kernel
 unfold Og;rw [show Vi z (sp ++ [s])=Vi z sp ++ [Jg s] by unfold Vi;rw [map_append,cons_append];rfl];rw [CI,dg,map_append,map_append,map_cons,map_nil,map_cons,map_nil,DF _ _ _ (by unfold Vi;simp),oy];simp only [Str.cps_append,Array.toList_append,dg,Jg,map_cons,map_nil,jl,e1,e2,e3,append_assoc,cons_append,nil_append]
theorem io {α:Type} (z:Nat) (v:α) (b:Int) (hz:0 < z) (l:List α) (hl:l.length=z):∀ (k:Nat) (i:Nat),i < z->(fz z v b k l)[i]? = if ∃ j,j < k/\(b + (j:Int)) % (z:Int)=(i:Int) then some v else l[i]?
 | 0,i,hi=>by rw [if_neg (fun ⟨j,hj,_⟩=>by omega)];rfl
 | k + 1,i,hi=>by
  have ih:=io z v b hz l hl k i hi;have h0:=Int.emod_nonneg (b + (k:Int)) (show (z:Int) ≠ 0 by omega);have h1:=Int.emod_lt_of_pos (b + (k:Int)) (show 0 < (z:Int) by omega);unfold fz KK;by_cases c:(b + (k:Int)) % (z:Int)=(i:Int)
  ·rw [show ((b + (k:Int)) % (z:Int)).toNat=i by omega,getElem?_set_self (by rw [lf,hl];exact hi),if_pos ⟨k,by omega,c⟩]
  ·rw [getElem?_set_ne (by omega),ih];by_cases e:∃ j,j < k/\(b + (j:Int)) % (z:Int)=(i:Int)
   ·obtain ⟨j,hj,ej⟩:=e;rw [if_pos ⟨j,hj,ej⟩,if_pos ⟨j,by omega,ej⟩]
   ·rw [if_neg e,if_neg];rintro ⟨j,hj,ej⟩;by_cases hjk:j=k
    ·subst hjk;exact c ej
    ·exact e ⟨j,by omega,ej⟩
theorem kq {z b i:Int} {n:Int} (hz:0 < z) (hi:0 <= i/\i < z) (hn:0 <= n/\n <= z):(∃ j:Nat,j < n.toNat/\(b + (j:Int)) % z=i)↔(i - b) % z < n:=by
 have h0:=Int.emod_nonneg (i - b) (show z ≠ 0 by omega);have h1:=Int.emod_lt_of_pos (i - b) hz;constructor
 ·rintro ⟨j,hj,e⟩;have:(i - b) % z=j:=by
   rw [<- e,Int.emod_sub_emod,show b + (j:Int) - b=j by omega];exact Int.emod_eq_of_lt (by omega) (by omega)
  omega
 ·intro h;refine ⟨((i - b) % z).toNat,by omega,?_⟩;rw [Int.toNat_of_nonneg h0,Int.add_emod_emod,show b + (i - b)=i by omega];exact Int.emod_eq_of_lt hi.1 hi.2
theorem xK {z:Nat} (hz:0 < z) {b n:Int} (hn:0 <= n/\n <= z) {i:Nat} (hi:i < z):(fmF z [(b,n)])[i]? = some (decide (((i:Int) - b) % (z:Int) < n)):=by
 unfold fmF;rw [List.foldl_cons,List.foldl_nil,io z true b hz _ (length_replicate ..) _ _ hi];have:=kq (z:=z) (b:=b) (i:=i) (n:=n) (by omega) ⟨by omega,by omega⟩ hn;by_cases c:((i:Int) - b) % (z:Int) < n
 ·rw [if_pos (this.mpr c),decide_eq_true c]
 ·rw [if_neg (fun e=>c (this.mp e)),decide_eq_false c,List.getElem?_replicate,if_pos hi]
theorem Fj (m:List Bool):∀ k,0 <= Ef m k
 | 0=>by show (0:Int) <= 0;decide
 | k + 1=>by
  have:=Fj m k;unfold Ef;split <;> omega
theorem iy (m:List Bool) (g:Int) (hg:0 <= g):∀ k:Nat,Ef m k <= g↔(∃ j:Nat,(j:Int) <= g/\j < k/\m[(2 * m.length - 1 - (k - 1 - j)) % m.length]? = some true)\/(k:Int) <= g
 | 0=>by
  constructor
  ·intro _;exact .inr (by omega)
  ·intro _;exact hg
 | k + 1=>by
  by_cases c:m[(2 * m.length - 1 - k) % m.length]? = some true
  ·have e:Ef m (k + 1)=0:=by unfold Ef;rw [if_pos c]
   rw [e];exact ⟨fun _=>.inl ⟨0,by omega,by omega,by rw [show k + 1 - 1 - 0=k by omega];exact c⟩,fun _=>hg⟩
  ·have e:Ef m (k + 1)=Ef m k + 1:=by
    show (if m[(2 * m.length - 1 - k) % m.length]? = some true then 0 else Ef m k + 1)=_;rw [if_neg c]
   rw [e];by_cases hg1:1 <= g
   ·have ih:=iy m (g - 1) (by omega) k;constructor
    ·intro h;rcases ih.mp (by omega) with ⟨j,h1,h2,h3⟩ | h
     ·exact .inl ⟨j + 1,by omega,by omega,by rw [show k + 1 - 1 - (j + 1)=k - 1 - j by omega];exact h3⟩
     ·exact .inr (by omega)
    ·rintro (⟨j,h1,h2,h3⟩ | h)
     ·by_cases hj:j=0
      ·subst hj;rw [show k + 1 - 1 - 0=k by omega] at h3;exact absurd h3 c
      ·have:=ih.mpr (.inl ⟨j - 1,by omega,by omega,by rw [show k - 1 - (j - 1)=k + 1 - 1 - j by omega];exact h3⟩);omega
     ·have:=ih.mpr (.inr (by omega));omega
   ·have:=Fj m k;constructor
    ·intro h;omega
    ·rintro (⟨j,h1,h2,h3⟩ | h)
     ·have hj:j=0:=by omega
      subst hj;rw [show k + 1 - 1 - 0=k by omega] at h3;exact absurd h3 c
     ·omega
theorem oI {m:List Bool} {t:Nat} (ht:t < m.length):(wn m)[t]? = some (Ef m (2 * m.length - t)):=by
 unfold wn;rw [getElem?_map,List.getElem?_range ht];rfl
theorem MH {m:List Bool} (hm:∃ i,i < m.length/\m[i]? = some true) {t:Nat} (ht:t < m.length) (g:Int) (hg:0 <= g):Ef m (2 * m.length - t) <= g↔∃ j:Nat,(j:Int) <= g/\m[(t + j) % m.length]? = some true:=by
 have pos:∀ j,j < 2 * m.length - t->(2 * m.length - 1 - (2 * m.length - t - 1 - j))=t + j:=fun j hj=>by omega
 rw [iy m g hg];constructor
 ·rintro (⟨j,h1,h2,h3⟩ | h)
  ·rw [pos j h2] at h3;exact ⟨j,h1,h3⟩
  ·obtain ⟨i,hi,e⟩:=hm;refine ⟨(i + m.length - t) % m.length,?_,?_⟩
   ·have:=Nat.mod_lt (i + m.length - t) (show 0 < m.length by omega);omega
   ·rw [Nat.add_mod_mod,show t + (i + m.length - t)=i + m.length by omega,Nat.add_mod_right,Nat.mod_eq_of_lt hi];exact e
 ·rintro ⟨j,h1,h2⟩;have hj:=Nat.mod_lt j (show 0 < m.length by omega);have hle:=Nat.mod_le j m.length;refine .inl ⟨j % m.length,by omega,by omega,?_⟩;rw [pos _ (by omega),Nat.add_mod_mod];exact h2
theorem xM {m:List Bool} (hm:∃ i,i < m.length/\m[i]? = some true):∃ i,i < m.reverse.length/\m.reverse[i]? = some true:=by
 obtain ⟨i,hi,e⟩:=hm;refine ⟨m.length - 1 - i,by rw [length_reverse];omega,?_⟩;rw [List.getElem?_reverse (by omega),show m.length - 1 - (m.length - 1 - i)=i by omega];exact e
theorem GA {m:List Bool} {t:Nat} (ht:t < m.length):∃ v,(Os m)[t]? = some v/\0 <= v/\((∃ i,i < m.length/\m[i]? = some true)->∀ g:Int,0 <= g->(v <= g↔∃ j:Nat,(j:Int) <= g/\m[(((t:Int) - (j:Int)) % (m.length:Int)).toNat]? = some true)):=by
 have hr:m.reverse.length=m.length:=length_reverse;have h1:m.length - 1 - t < m.reverse.length:=by omega
 refine ⟨Ef m.reverse (2 * m.reverse.length - (m.length - 1 - t)),?_,Fj _ _,fun hm g hg=>?_⟩
 ·unfold Os;rw [List.getElem?_reverse (by rw [Uo];omega),Uo,hr];have:=oI h1;rw [hr] at this;exact this
 ·rw [MH (xM hm) h1 g hg];have key:∀ j:Nat,m.reverse[(m.length - 1 - t + j) % m.reverse.length]? = m[(((t:Int) - (j:Int)) % (m.length:Int)).toNat]?:=fun j=>by
   rw [hr];have hlt:=Nat.mod_lt (m.length - 1 - t + j) (show 0 < m.length by omega);rw [List.getElem?_reverse (by omega)];congr 1;have h0:=Int.emod_nonneg ((t:Int) - (j:Int)) (show (m.length:Int) ≠ 0 by omega);have e:((t:Int) - (j:Int)) % (m.length:Int)=((m.length - 1 - (m.length - 1 - t + j) % m.length:Nat):Int):=by
    have d:=Nat.div_add_mod (m.length - 1 - t + j) m.length;generalize (m.length - 1 - t + j) / m.length=q at d;generalize (m.length - 1 - t + j) % m.length=r at d hlt ⊢;have e2:(t:Int) - (j:Int)=((m.length - 1 - r:Nat):Int) + (m.length:Int) * (-(q:Int)):=by
     have d':(m.length:Int) * (q:Int) + (r:Int)=((m.length - 1 - t + j:Nat):Int):=by rw [<- d];push_cast;rfl
     rw [Int.mul_neg];omega
    rw [e2,Int.add_mul_emod_self_left];exact Int.emod_eq_of_lt (by omega) (by omega)
   omega
  constructor
  ·rintro ⟨j,h2,h3⟩;exact ⟨j,h2,by rw [<- key j];exact h3⟩
  ·rintro ⟨j,h2,h3⟩;exact ⟨j,h2,by rw [key j];exact h3⟩
theorem gO {z:Nat} (hz:0 < z) {b n:Int} (hn:1 <= n/\n <= z) {t:Nat} (ht:t < z):∃ v,(Os (fmF z [(b,n)]))[t]? = some v/\0 <= v/\∀ g:Int,0 <= g->(v <= g↔∃ j:Nat,(j:Int) <= g/\((t:Int) - (j:Int) - b) % (z:Int) < n):=by
 have hl:(fmF z [(b,n)]).length=z:=Bm _ _;obtain ⟨v,h1,h2,h3⟩:=GA (m:=fmF z [(b,n)]) (t:=t) (by rw [hl];exact ht);refine ⟨v,h1,h2,fun g hg=>?_⟩;have hb0:=Int.emod_nonneg b (show (z:Int) ≠ 0 by omega);have hb1:=Int.emod_lt_of_pos b (show 0 < (z:Int) by omega);have hm:∃ i,i < (fmF z [(b,n)]).length/\(fmF z [(b,n)])[i]? = some true:=by
  refine ⟨(b % (z:Int)).toNat,by rw [hl];omega,?_⟩;rw [xK hz ⟨by omega,hn.2⟩ (by omega),Int.toNat_of_nonneg hb0,decide_eq_true];rw [Int.emod_sub_emod,Int.sub_self,Int.zero_emod];omega
 rw [h3 hm g hg,hl];have key:∀ j:Nat,(fmF z [(b,n)])[(((t:Int) - (j:Int)) % (z:Int)).toNat]? = some (decide (((t:Int) - (j:Int) - b) % (z:Int) < n)):=fun j=>by
  have c0:=Int.emod_nonneg ((t:Int) - (j:Int)) (show (z:Int) ≠ 0 by omega);have c1:=Int.emod_lt_of_pos ((t:Int) - (j:Int)) (show 0 < (z:Int) by omega);rw [xK hz ⟨by omega,hn.2⟩ (by omega),Int.toNat_of_nonneg c0,Int.emod_sub_emod]
 constructor
 ·rintro ⟨j,g1,g2⟩;rw [key j] at g2;exact ⟨j,g1,of_decide_eq_true (Option.some.inj g2)⟩
 ·rintro ⟨j,g1,g2⟩;exact ⟨j,g1,by rw [key j,decide_eq_true g2]⟩
theorem VF {z:Nat} (hz:0 < z):∀ (ps:List (Int × Int)),(∀ p ∈ ps,0 <= p.2/\p.2 <= z)->∀ (l:List Bool),l.length=z->∀ {i:Nat},i < z ->
  (ps.foldl (fun l p=>fz z true p.1 p.2.toNat l) l)[i]? = some ((ps.any fun p=>decide (((i:Int) - p.1) % (z:Int) < p.2)) || l[i]?.getD false)
 | [],_,l,hl,i,hi=>by
  rw [List.foldl_nil,List.any_nil,Bool.false_or,getElem?_eq_getElem (by omega)];rfl
 | p :: ps,h,l,hl,i,hi=>by
  have hp:=h p (mem_cons_self ..);rw [List.foldl_cons,VF hz ps (fun q hq=>h q (mem_cons_of_mem _ hq)) _ (by rw [lf,hl]) hi,io z true p.1 hz l hl _ _ hi,any_cons];have:=kq (z:=z) (b:=p.1) (i:=i) (n:=p.2) (by omega) ⟨by omega,by omega⟩ hp;by_cases c:((i:Int) - p.1) % (z:Int) < p.2
  ·rw [if_pos (this.mpr c),decide_eq_true c];simp
  ·rw [if_neg (fun e=>c (this.mp e)),decide_eq_false c,Bool.false_or]
theorem UN {z:Nat} (hz:0 < z) {ps:List (Int × Int)} (h:∀ p ∈ ps,0 <= p.2/\p.2 <= z) {i:Nat} (hi:i < z):(fmF z ps)[i]? = some (ps.any fun p=>decide (((i:Int) - p.1) % (z:Int) < p.2)):=by
 unfold fmF;rw [VF hz ps h _ (length_replicate ..) hi,List.getElem?_replicate,if_pos hi];simp
structure HR (z:Nat) (ds:List WD) (sp:List SD):Prop where
 al:∀ s ∈ sp,∃ d,wOf ds s.name=some d/\(0 <= s.b/\s.b < z)/\1 <= s.n/\s.n + ze d + Kc d <= z
 far:∀ (i j:Nat) (s e:SD) (d:WD),i ≠ j->sp[i]? = some s->sp[j]? = some e->e.name=s.name->wOf ds s.name=some d->s.n + ze d + Kc d <= (e.b - s.b) % (z:Int)
end My
namespace My
open PySem L2
theorem Cy {α:Type} (z:Nat) (v:α) (b:Int) (hz:0 < z) (l:List α) (hl:l.length=z):∀ (k:Nat) (i:Nat),i < z->(Iv z v b k l)[i]? = if ∃ j,j < k/\(b - 1 - (j:Int)) % (z:Int)=(i:Int) then some v else l[i]?
 | 0,i,hi=>by rw [if_neg (fun ⟨j,hj,_⟩=>by omega)];rfl
 | k + 1,i,hi=>by
  have ih:=Cy z v b hz l hl k i hi;have h0:=Int.emod_nonneg (b - 1 - (k:Int)) (show (z:Int) ≠ 0 by omega);have h1:=Int.emod_lt_of_pos (b - 1 - (k:Int)) (show 0 < (z:Int) by omega);unfold Iv KK;by_cases c:(b - 1 - (k:Int)) % (z:Int)=(i:Int)
  ·rw [show ((b - 1 - (k:Int)) % (z:Int)).toNat=i by omega,getElem?_set_self (by rw [Pg,hl];exact hi),if_pos ⟨k,by omega,c⟩]
  ·rw [getElem?_set_ne (by omega),ih];by_cases e:∃ j,j < k/\(b - 1 - (j:Int)) % (z:Int)=(i:Int)
   ·obtain ⟨j,hj,ej⟩:=e;rw [if_pos ⟨j,hj,ej⟩,if_pos ⟨j,by omega,ej⟩]
   ·rw [if_neg e,if_neg];rintro ⟨j,hj,ej⟩;by_cases hjk:j=k
    ·subst hjk;exact c ej
    ·exact e ⟨j,by omega,ej⟩
theorem cI {z b i:Int} {n:Int} (hz:0 < z) (hi:0 <= i/\i < z) (hn:0 <= n/\n <= z):(∃ j:Nat,j < n.toNat/\(b - 1 - (j:Int)) % z=i)↔z - n <= (i - b) % z:=by
 have h0:=Int.emod_nonneg (i - b) (show z ≠ 0 by omega);have h1:=Int.emod_lt_of_pos (i - b) hz;constructor
 ·rintro ⟨j,hj,e⟩;have:(i - b) % z=z - 1 - j:=by
   rw [<- e,Int.emod_sub_emod,show b - 1 - (j:Int) - b=(z - 1 - j) + z * (-1) by omega,Int.add_mul_emod_self_left];exact Int.emod_eq_of_lt (by omega) (by omega)
  omega
 ·intro h;refine ⟨(z - 1 - (i - b) % z).toNat,by omega,?_⟩;rw [Int.toNat_of_nonneg (by omega),show b - 1 - (z - 1 - (i - b) % z)=(b + (i - b) % z) + z * (-1) by omega,Int.add_mul_emod_self_left,Int.add_emod_emod,show b + (i - b)=i by omega];exact Int.emod_eq_of_lt hi.1 hi.2
noncomputable def vC (s1 s2:SD):Prop:=s1.b + s1.n + 11 <= s2.b\/s2.b + s2.n + 11 <= s1.b
theorem xQ {z:Int} {s1 s2:SD} (h1:0 <= s1.b/\1 <= s1.n/\s1.b + s1.n + 11 <= z) (h2:0 <= s2.b/\1 <= s2.n/\s2.b + s2.n + 11 <= z) (ha:vC s1 s2) {sh t j:Int} (hj:0 <= j/\j <= 8) (c2:(t - (s2.b + sh) % z) % z < s2.n) (c1:(t - j - (s1.b + sh) % z) % z < s1.n):False:=by
 have hz:0 < z:=by omega
 rw [Int.sub_emod_emod] at c1 c2;have a0:=Int.emod_nonneg (t - (s2.b + sh)) (show z ≠ 0 by omega);have b0:=Int.emod_nonneg (t - j - (s1.b + sh)) (show z ≠ 0 by omega);have a1:=Int.emod_add_mul_ediv (t - (s2.b + sh)) z;have b1:=Int.emod_add_mul_ediv (t - j - (s1.b + sh)) z;generalize (t - (s2.b + sh)) % z=u at a0 a1 c2;generalize (t - j - (s1.b + sh)) % z=v at b0 b1 c1;generalize (t - (s2.b + sh)) / z=p at a1;generalize (t - j - (s1.b + sh)) / z=q at b1;have key:z * (p - q)=(s1.b + v) - (s2.b + u) + j:=by rw [Int.mul_sub];omega
 generalize p - q=r at key;unfold vC at ha;by_cases r1:1 <= r
 ·have:=Int.mul_le_mul_of_nonneg_left r1 (show 0 <= z by omega);omega
 ·by_cases r2:r <= -1
  ·have:=Int.mul_le_mul_of_nonneg_left r2 (show 0 <= z by omega);omega
  ·have:r=0:=by omega
   subst this;rw [Int.mul_zero] at key;omega
noncomputable def bp (n:Int) (d:WD):List (List WD)->List (List WD)
 | []=>[[d]]
 | g :: gs=>if g.any (fun e=>mt n e d) then g :: bp n d gs else (g ++ [d]) :: gs
noncomputable def ud (n:Int) (ds:List WD):List (List WD):=ds.foldl (fun gs d=>bp n d gs) []
theorem yw (n:Int) (d:WD):∀ gs,(bp n d gs).flatten.Perm (gs.flatten ++ [d])
 | []=>by simp [bp]
 | g :: gs=>by
  unfold bp;split
  ·rw [flatten_cons,flatten_cons,append_assoc];exact (yw n d gs).append_left g
  ·rw [flatten_cons,flatten_cons,append_assoc,append_assoc];exact List.perm_append_comm.append_left g
noncomputable def WK (n:Int) (g:List WD):Prop:=g.Pairwise fun e d=>mt n e d=false
theorem Wx {n:Int} {d:WD}:∀ {gs:List (List WD)},(∀ g ∈ gs,WK n g)->∀ g ∈ bp n d gs,WK n g
 | [],_,g,hg=>by
  rw [show g=[d] by simpa [bp] using hg];exact List.pairwise_singleton ..
 | g0 :: gs,h,g,hg=>by
  unfold bp at hg;split at hg
  ·rcases List.mem_cons.mp hg with rfl | hg
   ·exact h _ (mem_cons_self ..)
   ·exact Wx (fun x hx=>h x (mem_cons_of_mem _ hx)) g hg
  ·rename_i hc;rcases List.mem_cons.mp hg with rfl | hg
   ·refine List.pairwise_append.mpr ⟨h _ (mem_cons_self ..),List.pairwise_singleton ..,fun e he x hx=>?_⟩;rw [List.mem_singleton.mp hx];cases c:mt n e d with
    | false=>rfl
    | true=>exact absurd (List.any_eq_true.mpr ⟨e,he,c⟩) hc
   ·exact h g (mem_cons_of_mem _ hg)
theorem LF {n:Int} {d:WD}:∀ {gs:List (List WD)},(∀ g ∈ gs,g ≠ [])->∀ g ∈ bp n d gs,g ≠ []
 | [],_,g,hg=>by
  rw [show g=[d] by simpa [bp] using hg];exact List.cons_ne_nil _ _
 | g0 :: gs,h,g,hg=>by
  unfold bp at hg;split at hg
  ·rcases List.mem_cons.mp hg with rfl | hg
   ·exact h _ (mem_cons_self ..)
   ·exact LF (fun x hx=>h x (mem_cons_of_mem _ hx)) g hg
  ·rcases List.mem_cons.mp hg with rfl | hg
   ·simp
   ·exact h g (mem_cons_of_mem _ hg)
theorem yz (n:Int) (ds:List WD) (d:WD):ud n (ds ++ [d])=bp n d (ud n ds):=by
 unfold ud;rw [List.foldl_append];rfl
theorem Fz (n:Int) (ds:List WD):∀ g ∈ ud n ds,WK n g:=by
 unfold ud
 suffices h:∀ gs,(∀ g ∈ gs,WK n g)->∀ g ∈ ds.foldl (fun gs d=>bp n d gs) gs,WK n g from h [] (by simp)
 induction ds with
 | nil=>exact fun gs h=>h
 | cons d ds ih=>exact fun gs h=>ih _ (Wx h)
theorem Rr (n:Int) (ds:List WD):∀ g ∈ ud n ds,g ≠ []:=by
 unfold ud
 suffices h:∀ gs,(∀ g ∈ gs,g ≠ [])->∀ g ∈ ds.foldl (fun gs d=>bp n d gs) gs,g ≠ [] from h [] (by simp)
 induction ds with
 | nil=>exact fun gs h=>h
 | cons d ds ih=>exact fun gs h=>ih _ (LF h)
theorem Ce (n:Int) (ds:List WD):(ud n ds).flatten.Perm ds:=by
 unfold ud
 suffices h:∀ gs,(ds.foldl (fun gs d=>bp n d gs) gs).flatten.Perm (gs.flatten ++ ds) from h []
 induction ds with
 | nil=>intro gs;simp
 | cons d ds ih=>
  intro gs;refine (ih (bp n d gs)).trans ?_;have:=(yw n d gs).append_right ds;rwa [append_assoc] at this
noncomputable def Nh (z sh:Int) (s:SD):SD:=⟨s.name,(s.b + sh) % z,s.n⟩
structure jQ (n:Int) (ds:List WD):Prop where
 nd:(ds.map (·.name)).Nodup
 al:∀ d ∈ ds,(0 <= d.off/\d.off <= 8)/\0 <= d.near/\1 <= d.least
 sy:∀ d ∈ ds,∀ e ∈ ds,mt n d e=mt n e d
theorem GK {xs:List Str} (h:xs.Nodup) {i j:Nat} {x:Str} (hi:xs[i]? = some x) (hj:xs[j]? = some x):i=j:=by
 obtain ⟨i1,e1⟩:=List.getElem?_eq_some_iff.mp hi;obtain ⟨j1,e2⟩:=List.getElem?_eq_some_iff.mp hj;exact (List.getElem_inj h).mp (e1.trans e2.symm)
theorem cA {d:WD} (h:0 <= d.off/\d.off <= 8):0 <= ze d/\ze d + Kc d <= 8:=by
 unfold ze Kc;split <;> omega
theorem nJ {n:Int} {g:List WD} (h:WK n g) {d e:WD} (hd:d ∈ g) (he:e ∈ g) (hne:d ≠ e):mt n d e=false\/mt n e d=false:=by
 obtain ⟨i,hi,rfl⟩:=getElem_of_mem hd;obtain ⟨j,hj,rfl⟩:=getElem_of_mem he;have hp:=List.pairwise_iff_getElem.mp h;by_cases c:i < j
 ·exact .inl (hp i j hi hj c)
 ·by_cases c2:j < i
  ·exact .inr (hp j i hj hi c2)
  ·have:i=j:=by omega
   subst this;exact absurd rfl hne
theorem xq:∀ {gs:List (List WD)},(∀ g ∈ gs,g ≠ [])->gs.length <= gs.flatten.length
 | [],_=>Nat.le_refl _
 | g :: gs,h=>by
  have h1:=xq (gs:=gs) fun x hx=>h x (mem_cons_of_mem _ hx)
  have h2:=List.length_pos_iff.mpr (h g (by simp));rw [flatten_cons,length_append,length_cons];omega
theorem Ju {z:Nat} (hz:0 < z) {ps:List (Int × Int)} (h:∀ p ∈ ps,1 <= p.2/\p.2 <= z) (hne:ps ≠ []) {t:Nat} (ht:t < z):∃ v,(Os (fmF z ps))[t]? = some v/\0 <= v/\∀ g:Int,0 <= g->(v <= g↔∃ j:Nat,(j:Int) <= g/\∃ p ∈ ps,((t:Int) - (j:Int) - p.1) % (z:Int) < p.2):=by
 have hl:(fmF z ps).length=z:=Bm _ _;have hh:∀ p ∈ ps,0 <= p.2/\p.2 <= z:=fun p hp=>⟨by have:=h p hp;omega,(h p hp).2⟩
 obtain ⟨v,h1,h2,h3⟩:=GA (m:=fmF z ps) (t:=t) (by rw [hl];exact ht);refine ⟨v,h1,h2,fun g hg=>?_⟩;obtain ⟨p0,r0,rfl⟩:=List.exists_cons_of_ne_nil hne;have hm:∃ i,i < (fmF z (p0 :: r0)).length/\(fmF z (p0 :: r0))[i]? = some true:=by
  have hb0:=Int.emod_nonneg p0.1 (show (z:Int) ≠ 0 by omega);have hb1:=Int.emod_lt_of_pos p0.1 (show 0 < (z:Int) by omega);refine ⟨(p0.1 % (z:Int)).toNat,by rw [hl];omega,?_⟩;rw [UN hz hh (by omega),any_cons,Int.toNat_of_nonneg hb0,Int.emod_sub_emod,Int.sub_self,Int.zero_emod,decide_eq_true (by have:=h p0 (mem_cons_self ..);omega),Bool.true_or]
 rw [h3 hm g hg,hl];have key:∀ j:Nat,(fmF z (p0 :: r0))[(((t:Int) - (j:Int)) % (z:Int)).toNat]? = some ((p0 :: r0).any fun p=>decide (((t:Int) - (j:Int) - p.1) % (z:Int) < p.2)):=fun j=>by
  have c0:=Int.emod_nonneg ((t:Int) - (j:Int)) (show (z:Int) ≠ 0 by omega);have c1:=Int.emod_lt_of_pos ((t:Int) - (j:Int)) (show 0 < (z:Int) by omega);rw [UN hz hh (by omega),Int.toNat_of_nonneg c0];congr 2;funext p;rw [Int.emod_sub_emod]
 constructor
 ·rintro ⟨j,g1,g2⟩;rw [key j,Option.some.injEq,List.any_eq_true] at g2;obtain ⟨p,hp,e⟩:=g2;exact ⟨j,g1,p,hp,of_decide_eq_true e⟩
 ·rintro ⟨j,g1,p,hp,e⟩;exact ⟨j,g1,by rw [key j,Option.some.injEq,List.any_eq_true];exact ⟨p,hp,decide_eq_true e⟩⟩
theorem uy {n:Int} {z:Nat} (hz:0 < z) {ds:List WD} {sp:List SD} (h1:∀ d ∈ ds,ofN d.name sp ≠ []/\∀ p ∈ ofN d.name sp,1 <= p.2/\p.2 <= (z:Int))
  (h2:∀ d ∈ ds,∀ e ∈ ds,d.name ≠ e.name->mt n d e=true->∀ p ∈ ofN d.name sp,∀ p' ∈ ofN e.name sp,∀ (t j:Nat),t < z->(j:Int) <= Jx d e->((t:Int) - p'.1) % z < p'.2->((t:Int) - j - p.1) % z < p.2->False):Xl n z sp ds=none:=by
 unfold Xl;refine List.findSome?_eq_none_iff.mpr fun d hd=>?_
 unfold zu;refine List.findSome?_eq_none_iff.mpr fun e he=>?_
 suffices h:Yo n z sp d e=none by rw [h];rfl
 unfold Yo;split
 ·rename_i hc
  suffices h:Bn (Jx d e) (jk z sp d.name) (jk z sp e.name)=none by rw [h];rfl
  unfold Bn;refine List.find?_eq_none.mpr fun x hx=>?_
  obtain ⟨⟨x1,x2⟩,t⟩:=x;have h3:=List.mem_zipIdx_iff_getElem?.mp hx;rw [List.getElem?_zip_eq_some] at h3;dsimp only at h3 ⊢;rw [Bool.and_eq_true,decide_eq_true_eq,decide_eq_true_eq];rintro ⟨z2,z1⟩;have ht:t < z:=by
   have:=(List.getElem?_eq_some_iff.mp h3.1).1;rwa [Ll] at this
  unfold jk at h3;have hg:0 <= Jx d e:=by unfold Jx;split <;> omega
  obtain ⟨v1,k1,_,q1⟩:=Ju hz (h1 d hd).2 (h1 d hd).1 ht;obtain ⟨v2,k2,_,q2⟩:=Ju hz (h1 e he).2 (h1 e he).1 ht;rw [h3.1] at k1;rw [h3.2] at k2;cases k1;cases k2;obtain ⟨j,hj,p,hp,hb⟩:=(q1 _ hg).mp z1;obtain ⟨j',hj',p',hp',hb'⟩:=(q2 0 (by omega)).mp (by omega);have:j'=0:=by omega
  subst this;exact h2 d hd e he hc.1 hc.2 p hp p' hp' t j ht hj (by simpa using hb') hb
 ·rfl
structure bD (gs:List (List WD)) (z:Int) (sp:List SD):Prop where
 z0:0 <= z
 nm:sp.map (·.name)=gs.flatten.map (·.name)
 bd:∀ (i:Nat) (d:WD) (s:SD),gs.flatten[i]? = some d->sp[i]? = some s->0 <= s.b/\d.least <= s.n/\s.b + s.n + 11 <= z
 two:∀ (i j:Nat) (s1 s2:SD) (d1 d2:WD),i ≠ j->sp[i]? = some s1->sp[j]? = some s2->gs.flatten[i]? = some d1->gs.flatten[j]? = some d2->vC s1 s2\/∃ g ∈ gs,∃ a b:Nat,a ≠ b/\g[a]? = some d1/\g[b]? = some d2
theorem bD.nil:bD [] 0 []:=⟨Int.le_refl _,rfl,fun i d s h=>by simp at h,fun i j s1 s2 d1 d2 _ h=>by simp at h⟩
theorem bD.len {gs:List (List WD)} {z:Int} {sp:List SD} (h:bD gs z sp):sp.length=gs.flatten.length:=by
 have:=congrArg List.length h.nm;rwa [length_map,length_map] at this
theorem bD.grp {gs:List (List WD)} {z:Int} {sp:List SD} (h:bD gs z sp) {g:List WD} {sp':List SD} {len more:Int} (hl:0 <= len) (hm:11 <= more) (hn:sp'.length=g.length)
  (al:∀ (i:Nat) (d:WD) (s:SD),g[i]? = some d->sp'[i]? = some s->s.name=d.name/\z <= s.b/\d.least <= s.n/\s.b + s.n <= z + len):bD (gs ++ [g]) (z + len + more) (sp ++ sp'):=by
 have hfl:(gs ++ [g]).flatten=gs.flatten ++ g:=by simp
 have hlen:=h.len;have z0:=h.z0;have at1:∀ {i:Nat} {d:WD} {s:SD},(gs.flatten ++ g)[i]? = some d->(sp ++ sp')[i]? = some s->(gs.flatten[i]? = some d/\sp[i]? = some s)\/(sp.length <= i/\g[i - sp.length]? = some d/\sp'[i - sp.length]? = some s):=fun {i d s} h1 h2=>by
  by_cases c:i < sp.length
  ·rw [getElem?_append_left (by omega)] at h1;rw [getElem?_append_left c] at h2;exact .inl ⟨h1,h2⟩
  ·rw [getElem?_append_right (by omega),<- hlen] at h1;rw [getElem?_append_right (by omega)] at h2;exact .inr ⟨by omega,h1,h2⟩
 refine ⟨by omega,?_,fun i d s h1 h2=>?_,fun i j s1 s2 d1 d2 hij h1 h2 h3 h4=>?_⟩
 ·rw [hfl,map_append,map_append,h.nm];congr 1;refine List.ext_getElem? fun i=>?_
  rw [getElem?_map,getElem?_map];by_cases c:i < g.length
  ·have a1:g[i]? = some g[i]:=getElem?_eq_getElem c;have a2:sp'[i]? = some (sp'[i]'(by omega)):=getElem?_eq_getElem (by omega);rw [a1,a2];exact congrArg some (al i _ _ a1 a2).1
  ·rw [List.getElem?_eq_none (by omega),List.getElem?_eq_none (by omega)];rfl
 ·rw [hfl] at h1;rcases at1 h1 h2 with ⟨k1,k2⟩ | ⟨_,k1,k2⟩
  ·have:=h.bd i d s k1 k2;exact ⟨this.1,this.2.1,by omega⟩
  ·have:=al _ d s k1 k2;exact ⟨by omega,this.2.2.1,by omega⟩
 ·rw [hfl] at h3 h4;rcases at1 h3 h1 with ⟨k1,k2⟩ | ⟨i1,k1,k2⟩
  ·rcases at1 h4 h2 with ⟨k3,k4⟩ | ⟨_,k3,k4⟩
   ·rcases h.two i j s1 s2 d1 d2 hij k2 k4 k1 k3 with x | ⟨x,hx,y⟩
    ·exact .inl x
    ·exact .inr ⟨x,List.mem_append_left _ hx,y⟩
   ·have u1:=h.bd i d1 s1 k1 k2;have u2:=al _ d2 s2 k3 k4;exact .inl (.inl (by omega))
  ·rcases at1 h4 h2 with ⟨k3,k4⟩ | ⟨j1,k3,k4⟩
   ·have u1:=h.bd j d2 s2 k3 k4;have u2:=al _ d1 s1 k1 k2;exact .inl (.inr (by omega))
   ·exact .inr ⟨g,mem_append_right _ (List.mem_singleton.mpr rfl),_,_,by omega,k1,k3⟩
noncomputable def SI (z:Int) (ds:List WD) (s e:SD):Prop:=e.name=s.name->∀ d,wOf ds s.name=some d->s.n + ze d + Kc d <= (e.b - s.b) % z/\e.n + ze d + Kc d <= (s.b - e.b) % z
theorem SI.symm {z:Int} {ds:List WD} {s e:SD} (h:SI z ds s e):SI z ds e s:=fun hn d hd=>by
 rw [<- hn] at hd;exact (h hn.symm d hd).symm
theorem cG {z:Int} {ds:List WD} {sp:List SD} (al:∀ s ∈ sp,∃ d,wOf ds s.name=some d/\d.least <= s.n/\s.n + ze d + Kc d <= z) (pw:sp.Pairwise (SI z ds)):Uk ds z sp=none:=by
 unfold Uk;refine List.find?_eq_none.mpr fun e he=>?_
 obtain ⟨s,k⟩:=e;have hk:sp[k]? = some s:=by simpa using List.mem_zipIdx_iff_getElem?.mp he
 obtain ⟨d,hw,hle,hr⟩:=al s (mem_of_getElem? hk);intro c;unfold wu at c;dsimp only at c;rw [hw] at c;have c:(decide (s.n < d.least) || decide (MB z sp k s < s.n + ze d + Kc d))=true:=c;rw [decide_eq_false (show ¬ s.n < d.least by omega),Bool.false_or,decide_eq_true_eq] at c;unfold MB at c;cases hmin:((ofN s.name (sp.eraseIdx k)).map fun p=>(p.1 - s.b) % z).min? with
 | none=>
  rw [hmin] at c;have c:z < s.n + ze d + Kc d:=c;omega
 | some v=>
  rw [hmin] at c;have c:v < s.n + ze d + Kc d:=c;obtain ⟨p,hp,rfl⟩:=List.mem_map.mp (List.min?_mem hmin);obtain ⟨e,hem,en,rfl⟩:=Qk hp;obtain ⟨j,hj,ej⟩:=List.mem_eraseIdx_iff_getElem?.mp hem;have hp:=List.pairwise_iff_getElem.mp pw;obtain ⟨kl,ke⟩:=List.getElem?_eq_some_iff.mp hk;obtain ⟨jl,je⟩:=List.getElem?_eq_some_iff.mp ej;have far:SI z ds s e:=by
   by_cases c1:k < j
   ·have:=hp k j kl jl c1;rwa [ke,je] at this
   ·have:=hp j k jl kl (by omega);rw [ke,je] at this;exact this.symm
  have:=(far en d hw).1;dsimp only at c;omega
theorem pG {z:Int} {ds:List WD} {s e:SD} (hs:0 <= s.b/\1 <= s.n/\s.b + s.n + 11 <= z) (he:0 <= e.b/\1 <= e.n/\e.b + e.n + 11 <= z) (ha:vC s e) (hf:∀ d,wOf ds s.name=some d->ze d + Kc d <= 8) (sh:Int):SI z ds (Nh z sh s) (Nh z sh e):=fun _ d hd=>by
 have f:=hf d hd;show s.n + _ + _ <= ((e.b + sh) % z - (s.b + sh) % z) % z/\e.n + _ + _ <= ((s.b + sh) % z - (e.b + sh) % z) % z;rw [<- Int.sub_emod,<- Int.sub_emod,show e.b + sh - (s.b + sh)=e.b - s.b by omega,show s.b + sh - (e.b + sh)=s.b - e.b by omega];unfold vC at ha;rcases ha with ha | ha
 ·rw [Int.emod_eq_of_lt (show 0 <= e.b - s.b by omega) (by omega),show s.b - e.b=(s.b - e.b + z) + z * (-1) by omega,Int.add_mul_emod_self_left,Int.emod_eq_of_lt (by omega) (by omega)];omega
 ·rw [Int.emod_eq_of_lt (show 0 <= s.b - e.b by omega) (by omega),show e.b - s.b=(e.b - s.b + z) + z * (-1) by omega,Int.add_mul_emod_self_left,Int.emod_eq_of_lt (by omega) (by omega)];omega
theorem vI {z:Nat} (hz:0 < z) {rd fd:Nat} {l:List Str} (hl:l.length=z) {p:Int × Int} (hn:0 <= p.2/\p.2 + fd + rd <= z) {i:Nat} (hi:i < z):(Et z rd fd l p)[i]? =
  if ((i:Int) - p.1) % (z:Int) < p.2 then some (Str.ofString "free") else if ((i:Int) - p.1) % (z:Int) < p.2 + fd then some (Str.ofString "fade") else if (z:Int) - rd <= ((i:Int) - p.1) % (z:Int) then some (Str.ofString "ready") else l[i]?:=by
 obtain ⟨b,n⟩:=p;dsimp only at hn ⊢;unfold Et;have s0:=Int.emod_nonneg ((i:Int) - b) (show (z:Int) ≠ 0 by omega);have s1:=Int.emod_lt_of_pos ((i:Int) - b) (show 0 < (z:Int) by omega);rw [io z _ _ hz _ (by rw [lf,Pg,hl]) _ _ hi,io z _ _ hz _ (by rw [Pg,hl]) _ _ hi,Cy z _ _ hz _ hl _ _ hi];dsimp only;have m1:=kq (z:=z) (b:=b + n) (i:=i) (n:=fd) (by omega) ⟨by omega,by omega⟩ ⟨by omega,by omega⟩;have m2:=kq (z:=z) (b:=b) (i:=i) (n:=n) (by omega) ⟨by omega,by omega⟩ ⟨by omega,by omega⟩;have m3:=cI (z:=z) (b:=b) (i:=i) (n:=rd) (by omega) ⟨by omega,by omega⟩ ⟨by omega,by omega⟩;rw [Int.toNat_natCast] at m1 m3;have f1:((i:Int) - (b + n)) % (z:Int) < fd↔n <= ((i:Int) - b) % (z:Int)/\((i:Int) - b) % (z:Int) < n + fd:=by
  have e:((i:Int) - (b + n)) % (z:Int)=(((i:Int) - b) % (z:Int) - n) % (z:Int):=by
   rw [Int.emod_sub_emod,show (i:Int) - (b + n)=(i:Int) - b - n by omega]
  rw [e];by_cases c:n <= ((i:Int) - b) % (z:Int)
  ·rw [Int.emod_eq_of_lt (by omega) (by omega)];omega
  ·rw [show ((i:Int) - b) % (z:Int) - n=(((i:Int) - b) % (z:Int) - n + z) + (z:Int) * (-1) by omega,Int.add_mul_emod_self_left,Int.emod_eq_of_lt (by omega) (by omega)];omega
 by_cases c1:((i:Int) - b) % (z:Int) < n
 ·rw [if_neg (fun h=>by have:=f1.mp (m1.mp h);omega),if_pos (m2.mpr c1),if_pos c1]
 ·by_cases c2:((i:Int) - b) % (z:Int) < n + fd
  ·rw [if_pos (m1.mpr (f1.mpr ⟨by omega,c2⟩)),if_neg c1,if_pos c2]
  ·rw [if_neg (fun h=>by have:=f1.mp (m1.mp h);omega),if_neg (fun h=>c1 (m2.mp h)),if_neg c1,if_neg c2];by_cases c3:(z:Int) - rd <= ((i:Int) - b) % (z:Int)
   ·rw [if_pos (m3.mpr c3),if_pos c3]
   ·rw [if_neg (fun h=>c3 (m3.mp h)),if_neg c3]
noncomputable def sP (z:Int) (rd fd:Nat) (p q:Int × Int):Prop:=p.2 + fd + rd <= (q.1 - p.1) % z/\q.2 + fd + rd <= (p.1 - q.1) % z
theorem vM {z x:Int} (hz:0 < z) (hx:0 < x % z):(-x) % z=z - x % z:=by
 have h1:=Int.emod_lt_of_pos x hz;have e:-x=(z - x % z) + z * (-(x / z) - 1):=by
  have:=Int.mul_ediv_add_emod x z;rw [Int.mul_sub,Int.mul_neg,Int.mul_one];omega
 rw [e,Int.add_mul_emod_self_left,Int.emod_eq_of_lt (by omega) (by omega)]
theorem sP.clear {z:Int} (hz:0 < z) {rd fd:Nat} {p q:Int × Int} (h:sP z rd fd p q) (hq:1 <= q.2) {i:Int} (hi:(i - p.1) % z < p.2):q.2 + fd <= (i - q.1) % z/\(i - q.1) % z < z - rd:=by
 have h0:=Int.emod_nonneg (i - p.1) (show z ≠ 0 by omega);have hD:0 < (p.1 - q.1) % z:=by have:=h.2;omega
 have hn:=vM hz hD;rw [show -(p.1 - q.1)=q.1 - p.1 by omega] at hn;have e:(i - q.1) % z=((i - p.1) % z + (p.1 - q.1) % z) % z:=by
  rw [<- Int.add_emod,show i - p.1 + (p.1 - q.1)=i - q.1 by omega]
 have h1:=h.1;have h2:=h.2;rw [hn] at h1;rw [e,Int.emod_eq_of_lt (by omega) (by omega)];omega
theorem yp {z:Nat} (hz:0 < z) {rd fd:Nat} {i:Nat} (hi:i < z):∀ (ps:List (Int × Int)) (l:List Str),l.length=z->(∀ p ∈ ps,1 <= p.2/\p.2 + fd + rd <= z)->ps.Pairwise (sP z rd fd) ->
  (l[i]? = some (Str.ofString "free")->∀ p ∈ ps,p.2 + fd <= ((i:Int) - p.1) % (z:Int)/\((i:Int) - p.1) % (z:Int) < z - rd) ->
  ((ps.foldl (Et z rd fd) l)[i]? = some (Str.ofString "free")↔l[i]? = some (Str.ofString "free")\/∃ p ∈ ps,((i:Int) - p.1) % (z:Int) < p.2)
 | [],l,_,_,_,_=>by simp
 | p :: ps,l,hl,hp,pw,hB=>by
  have hp0:=hp p (mem_cons_self ..);obtain ⟨pw1,pw2⟩:=List.pairwise_cons.mp pw;have e:=vI hz hl (p:=p) (rd:=rd) (fd:=fd) ⟨by omega,hp0.2⟩ hi;have ne1:(some (Str.ofString "fade"):Option Str) ≠ some (Str.ofString "free"):=by decide +kernel
  have ne2:(some (Str.ofString "ready"):Option Str) ≠ some (Str.ofString "free"):=by decide +kernel
  have key:(Et z rd fd l p)[i]? = some (Str.ofString "free")↔l[i]? = some (Str.ofString "free")\/((i:Int) - p.1) % (z:Int) < p.2:=by
   rw [e];by_cases c1:((i:Int) - p.1) % (z:Int) < p.2
   ·rw [if_pos c1];simp [c1]
   ·rw [if_neg c1];by_cases c2:((i:Int) - p.1) % (z:Int) < p.2 + fd
    ·rw [if_pos c2];exact ⟨fun h=>absurd h ne1,fun h=>by
      rcases h with h | h
      ·have:=(hB h p (mem_cons_self ..)).1;omega
      ·exact absurd h c1⟩
    ·rw [if_neg c2];by_cases c3:(z:Int) - rd <= ((i:Int) - p.1) % (z:Int)
     ·rw [if_pos c3];exact ⟨fun h=>absurd h ne2,fun h=>by
       rcases h with h | h
       ·have:=(hB h p (mem_cons_self ..)).2;omega
       ·exact absurd h c1⟩
     ·rw [if_neg c3];simp [c1]
  have hl':(Et z rd fd l p).length=z:=by unfold Et;rw [lf,lf,Pg,hl]
  rw [List.foldl_cons,yp hz hi ps _ hl' (fun q hq=>hp q (mem_cons_of_mem _ hq)) pw2 (fun h q hq=>?_),key]
  ·simp only [mem_cons,exists_eq_or_imp,or_assoc]
  ·rcases key.mp h with h | h
   ·exact hB h q (mem_cons_of_mem _ hq)
   ·exact (pw1 q hq).clear (by omega) (hp q (mem_cons_of_mem _ hq)).1 h
theorem rF {z:Nat} (hz:0 < z) {rd fd:Nat} {ps:List (Int × Int)} (hp:∀ p ∈ ps,1 <= p.2/\p.2 + fd + rd <= z) (pw:ps.Pairwise (sP z rd fd)) {i:Nat} (hi:i < z) :
  (Bi z rd fd ps)[i]? = some (Str.ofString "free")↔∃ p ∈ ps,((i:Int) - p.1) % (z:Int) < p.2:=by
 have hn:¬ (List.replicate z (Str.ofString "stop"))[i]? = some (Str.ofString "free"):=by
  rw [List.getElem?_replicate,if_pos hi];decide +kernel
 unfold Bi;rw [yp hz hi ps _ (length_replicate ..) hp pw (fun h=>absurd h hn)];exact ⟨fun h=>h.resolve_left hn,.inr⟩
noncomputable def Sq (z:Nat) (sp:List SD) (d:WD) (turn:Int):Str:=((Pp z sp d)[(turn % (z:Int)).toNat]?).getD (Str.ofString "")
noncomputable def Dp (z:Nat) (sp:List SD) (d:WD) (turn:Int):Bool:=decide (Sq z sp d turn=Str.ofString "free")
theorem RD {z:Nat} (hz:0 < z) (sp:List SD) (d:WD) (turn:Int):(Pp z sp d)[(turn % (z:Int)).toNat]? = some (Sq z sp d turn):=by
 have hll:(Pp z sp d).length=z:=Fh _ _ _ _;have t0:=Int.emod_nonneg turn (show (z:Int) ≠ 0 by omega);have t1:=Int.emod_lt_of_pos turn (show 0 < (z:Int) by omega);unfold Sq;rw [getElem?_eq_getElem (by rw [hll];omega)];rfl
structure gC (n:Int) (ds:List WD) (gs:List (List WD)):Prop where
 ne:∀ g ∈ gs,g ≠ []
 cm:∀ g ∈ gs,WK n g
 nd:∀ g ∈ gs,(g.map (·.name)).Nodup
 fl:∃ ex:List WD,ex.length <= 1/\(∀ d ∈ ex,d ∈ ds)/\gs.flatten.Perm (ds ++ ex)
theorem gC.inn {n:Int} {ds:List WD} {gs:List (List WD)} (G:gC n ds gs) {d:WD} (h:d ∈ gs.flatten):d ∈ ds:=by
 obtain ⟨ex,_,hx,P⟩:=G.fl;rcases List.mem_append.mp (P.mem_iff.mp h) with z | z
 ·exact z
 ·exact hx d z
theorem gC.all {n:Int} {ds:List WD} {gs:List (List WD)} (G:gC n ds gs) {d:WD} (h:d ∈ ds):d ∈ gs.flatten:=by
 obtain ⟨ex,_,_,P⟩:=G.fl;exact P.mem_iff.mpr (List.mem_append_left _ h)
theorem gC.len {n:Int} {ds:List WD} {gs:List (List WD)} (G:gC n ds gs):gs.flatten.length <= ds.length + 1:=by
 obtain ⟨ex,hl,_,P⟩:=G.fl;rw [P.length_eq,length_append];omega
theorem yK {n:Int} {ds:List WD} (nd:(ds.map (·.name)).Nodup):gC n ds (ud n ds):=by
 refine ⟨Rr n ds,Fz n ds,fun g hg=>?_,[],by simp,by simp,by rw [append_nil];exact Ce n ds⟩;have h1:((ud n ds).flatten.map (·.name)).Nodup:=((Ce n ds).map _).nodup_iff.mpr nd;exact h1.sublist ((List.sublist_flatten_of_mem hg).map _)
theorem yA:∀ {gs:List (List WD)} {j:Nat} {g:List WD} (d:WD),gs[j]? = some g->(gs.set j (g ++ [d])).flatten.Perm (gs.flatten ++ [d])
 | [],j,g,d,h=>by simp at h
 | g0 :: gs,0,g,d,h=>by
  cases (show g0=g by simpa using h);show ((g0 ++ [d]) :: gs).flatten.Perm _;rw [flatten_cons,flatten_cons,append_assoc,append_assoc];exact List.Perm.append_left g0 List.perm_append_comm
 | g0 :: gs,j + 1,g,d,h=>by
  rw [getElem?_cons_succ] at h;show (g0 :: gs.set j (g ++ [d])).flatten.Perm _;rw [flatten_cons,flatten_cons,append_assoc];exact List.Perm.append_left g0 (yA d h)
theorem LA {ds:List WD} (nd:(ds.map (·.name)).Nodup) {d e:WD} (hd:d ∈ ds) (he:e ∈ ds) (h:d.name=e.name):d=e:=by
 obtain ⟨i,hi⟩:=getElem?_of_mem hd;obtain ⟨j,hj⟩:=getElem?_of_mem he;have:i=j:=GK nd (x:=d.name) (by rw [getElem?_map,hi];rfl) (by rw [getElem?_map,hj,h];rfl);subst this;rw [hi] at hj;exact Option.some.inj hj
theorem RI {n:Int} {ds:List WD} (nd:(ds.map (·.name)).Nodup) {j:Nat} {g:List WD} {d:WD} (hd:d ∈ ds) (hg:(ud n ds)[j]? = some g) (hn:d ∉ g) (hm:∀ e ∈ g,mt n e d=false):gC n ds ((ud n ds).set j (g ++ [d])):=by
 have G:=yK (n:=n) nd;have hgm:=mem_of_getElem? hg;refine ⟨fun x hx=>?_,fun x hx=>?_,fun x hx=>?_,[d],by simp,by simpa using hd,?_⟩
 ·rcases List.mem_or_eq_of_mem_set hx with z | z
  ·exact G.ne x z
  ·rw [z];simp
 ·rcases List.mem_or_eq_of_mem_set hx with z | z
  ·exact G.cm x z
  ·rw [z];exact List.pairwise_append.mpr ⟨G.cm g hgm,List.pairwise_singleton ..,fun e he y hy=>by rw [List.mem_singleton.mp hy];exact hm e he⟩
 ·rcases List.mem_or_eq_of_mem_set hx with z | z
  ·exact G.nd x z
  ·rw [z,map_append];refine List.nodup_append.mpr ⟨G.nd g hgm,by simp,fun y hy u hu e=>?_⟩;obtain ⟨e1,he1,rfl⟩:=List.mem_map.mp hy;have hu:u=d.name:=by simpa using hu
   have:=LA nd (G.inn (List.mem_flatten.mpr ⟨g,hgm,he1⟩)) hd (e.trans hu);rw [this] at he1;exact hn he1
 ·exact (yA d hg).trans ((Ce n ds).append_right [d])
structure GN (n:Int) (z:Nat) (ds:List WD) (sp:List SD):Prop where
 nv:Tj ds sp=none
 sh:Uk ds z sp=none
 cl:Xl n z sp ds=none
 len:sp.length <= ds.length + 1
 kn:∀ s ∈ sp,(∃ d ∈ ds,s.name=d.name/\wOf ds s.name=some d)/\(0 <= s.b/\s.b < z)/\1 <= s.n/\s.n + 11 <= z
 pw:sp.Pairwise (SI z ds)
 gd:vL z ds sp
theorem tL (x:Str) (sp:List SD):(ofN x sp).length=(sp.map (·.name)).count x:=by
 unfold ofN;rw [length_map,List.count_eq_countP,List.countP_map,List.countP_eq_length_filter];congr 1
theorem oG {x:Str} {sp:List SD} {s:SD} (h:s ∈ sp) (e:s.name=x):(s.b,s.n) ∈ ofN x sp:=by
 unfold ofN;exact List.mem_map.mpr ⟨s,List.mem_filter.mpr ⟨h,by simpa using e⟩,rfl⟩
theorem gA {ds:List WD} (nd:(ds.map (·.name)).Nodup) {d:WD} (hd:d ∈ ds):wOf ds d.name=some d:=by
 unfold wOf;cases e:ds.find? fun x=>decide (x.name=d.name) with
 | none=>
  have:=List.find?_eq_none.mp e d hd;simp at this
 | some x=>
  have h1:x.name=d.name:=by simpa using List.find?_some e
  rw [LA nd (List.mem_of_find?_eq_some e) hd h1]
theorem cO {n:Int} {z:Nat} (hz:0 < z) {ds:List WD} {gs:List (List WD)} {sp rs:List SD} (D:jQ n ds) (G:gC n ds gs) (W:bD gs z sp) (sh:Int) (hp:rs.Perm (sp.map (Nh z sh))):GN n z ds rs:=by
 have hlen:=W.len;have back:∀ (i:Nat) (s:SD),sp[i]? = some s->∃ d ∈ ds,gs.flatten[i]? = some d/\s.name=d.name/\0 <= s.b/\d.least <= s.n/\s.b + s.n + 11 <= z/\1 <= s.n:=fun i s hs=>by
  have il:i < gs.flatten.length:=by rw [<- hlen];exact (List.getElem?_eq_some_iff.mp hs).1
  have hi:gs.flatten[i]? = some gs.flatten[i]:=getElem?_eq_getElem il;have b:=W.bd i _ s hi hs;have en:=congrArg (fun l=>l[i]?) W.nm;rw [getElem?_map,getElem?_map,hi,hs] at en;have hd:=G.inn (mem_of_getElem? hi);have:=(D.al _ hd).2.2;exact ⟨_,hd,hi,Option.some.inj en,b.1,b.2.1,b.2.2,by omega⟩
 have get:∀ {s:SD},s ∈ rs->∃ (i:Nat) (s0:SD),sp[i]? = some s0/\s=Nh z sh s0:=fun {s} h=>by
  obtain ⟨s0,h0,rfl⟩:=List.mem_map.mp (hp.mem_iff.mp h);obtain ⟨i,hi⟩:=getElem?_of_mem h0;exact ⟨i,s0,hi,rfl⟩
 have kn:∀ s ∈ rs,(∃ d ∈ ds,s.name=d.name/\wOf ds s.name=some d)/\(0 <= s.b/\s.b < z)/\1 <= s.n/\s.n + 11 <= z:=fun s hs=>by
  obtain ⟨i,s0,h0,rfl⟩:=get hs;obtain ⟨d,hd,_,en,b0,b1,b2,b3⟩:=back i s0 h0;exact ⟨⟨d,hd,en,by rw [show (Nh z sh s0).name=d.name from en];exact gA D.nd hd⟩,⟨Int.emod_nonneg _ (by omega),Int.emod_lt_of_pos _ (by omega)⟩,b3,by show s0.n + 11 <= _;omega⟩
 have two:∀ (i j:Nat) (s1 s2:SD),i ≠ j->sp[i]? = some s1->sp[j]? = some s2->s1.name=s2.name->vC s1 s2:=fun i j s1 s2 hij h1 h2 en=>by
  obtain ⟨d1,m1,f1,e1,_⟩:=back i s1 h1;obtain ⟨d2,m2,f2,e2,_⟩:=back j s2 h2;rcases W.two i j s1 s2 d1 d2 hij h1 h2 f1 f2 with x | ⟨g,hg,a,b,hab,ha,hb⟩
  ·exact x
  ·exact absurd (GK (G.nd g hg) (x:=d1.name) (by rw [getElem?_map,ha];rfl) (by rw [getElem?_map,hb];show some d2.name=some d1.name;rw [<- e2,<- en,e1])) hab
 have hcnt:∀ x:Str,(rs.map (·.name)).count x <= 2:=fun x=>by
  obtain ⟨ex,hl,_,P⟩:=G.fl;have e1:(rs.map (·.name)).count x=(sp.map (·.name)).count x:=by
   rw [(hp.map _).count_eq,map_map];rfl
  rw [e1,W.nm,(P.map _).count_eq,map_append,List.count_append];have h1:=List.nodup_iff_count.mp D.nd x;have h2:=List.count_le_length (a:=x) (l:=ex.map (·.name));rw [length_map] at h2;omega
 have pw0:(sp.map (Nh z sh)).Pairwise (SI z ds):=by
  refine List.pairwise_iff_getElem.mpr fun i j hi hj hij=>?_
  rw [length_map] at hi hj;rw [getElem_map,getElem_map];have h1:sp[i]? = some sp[i]:=getElem?_eq_getElem hi;have h2:sp[j]? = some sp[j]:=getElem?_eq_getElem hj;obtain ⟨d1,m1,f1,e1,b0,b1,b2,b3⟩:=back i _ h1;obtain ⟨d2,m2,f2,e2,c0,c1,c2,c3⟩:=back j _ h2;intro hn d hd;exact pG (z:=z) (ds:=ds) ⟨b0,b3,b2⟩ ⟨c0,c3,c2⟩ (two i j _ _ (by omega) h1 h2 hn.symm) (fun d hd=>by
   rw [e1,gA D.nd m1] at hd;cases hd;exact (cA (D.al _ m1).1).2) sh hn d hd
 have pw:rs.Pairwise (SI z ds):=(hp.pairwise_iff (fun h=>h.symm)).mpr pw0;refine ⟨?_,?_,?_,?_,kn,pw,fun i s hs=>?_⟩
 ·unfold Tj;refine List.find?_eq_none.mpr fun x hx=>?_
  obtain ⟨d,hd,rfl⟩:=List.mem_map.mp hx;obtain ⟨i,hi⟩:=getElem?_of_mem (G.all hd);have il:i < sp.length:=by rw [hlen];exact (List.getElem?_eq_some_iff.mp hi).1
  have hs:sp[i]? = some sp[i]:=getElem?_eq_getElem il;have en:=congrArg (fun l=>l[i]?) W.nm;rw [getElem?_map,getElem?_map,hi,hs] at en;have hm:Nh z sh sp[i] ∈ rs:=hp.mem_iff.mpr (List.mem_map.mpr ⟨_,mem_of_getElem? hs,rfl⟩);have:=oG hm (x:=d.name) (Option.some.inj en);intro e;rw [List.isEmpty_iff.mp e] at this;cases this
 ·refine cG (fun s hs=>?_) pw;obtain ⟨i,s0,h0,rfl⟩:=get hs;obtain ⟨d,hd,_,en,b0,b1,b2,b3⟩:=back i s0 h0;have f:=cA (D.al d hd).1;exact ⟨d,by rw [show (Nh z sh s0).name=d.name from en];exact gA D.nd hd,b1,by show s0.n + _ + _ <= _;omega⟩
 ·refine uy hz (fun d hd=>⟨?_,fun p hpp=>?_⟩) (fun d hd e he hne hm p hpp p' hpp' t j ht hj c2 c1=>?_)
  ·obtain ⟨i,hi⟩:=getElem?_of_mem (G.all hd);have il:i < sp.length:=by rw [hlen];exact (List.getElem?_eq_some_iff.mp hi).1
   have hs:sp[i]? = some sp[i]:=getElem?_eq_getElem il;have en:=congrArg (fun l=>l[i]?) W.nm;rw [getElem?_map,getElem?_map,hi,hs] at en;have hm:Nh z sh sp[i] ∈ rs:=hp.mem_iff.mpr (List.mem_map.mpr ⟨_,mem_of_getElem? hs,rfl⟩);have:=oG hm (x:=d.name) (Option.some.inj en);intro e;rw [e] at this;cases this
  ·obtain ⟨s,hs,_,rfl⟩:=Qk hpp;have:=kn s hs;exact ⟨this.2.2.1,by show s.n <= _;omega⟩
  ·obtain ⟨s,hs,en1,rfl⟩:=Qk hpp;obtain ⟨u,hu,en2,rfl⟩:=Qk hpp';obtain ⟨i,s0,h0,rfl⟩:=get hs;obtain ⟨k,u0,k0,rfl⟩:=get hu;obtain ⟨d1,m1,f1,e1,b0,b1,b2,b3⟩:=back i s0 h0;obtain ⟨d2,m2,f2,e2,u1,u2,u3,u4⟩:=back k u0 k0;have:d1=d:=LA D.nd m1 hd (e1.symm.trans en1);subst this;have:d2=e:=LA D.nd m2 he (e2.symm.trans en2);subst this;have hg:Jx d1 d2 <= 8:=by
    have:=(D.al d1 hd).1;have:=(D.al d2 he).2.1;unfold Jx;split <;> omega
   have hik:i ≠ k:=fun z'=>by
    subst z';rw [h0] at k0;cases k0;exact hne (e1.symm.trans e2)
   rcases W.two i k s0 u0 d1 d2 hik h0 k0 f1 f2 with ap | ⟨g,hg',a,b,_,ga,gb⟩
   ·exact xQ ⟨b0,b3,b2⟩ ⟨u1,u4,u3⟩ ap (sh:=sh) (t:=t) (j:=j) ⟨by omega,by omega⟩ c2 c1
   ·have:=nJ (G.cm g hg') (mem_of_getElem? ga) (mem_of_getElem? gb) (fun z'=>hne (by rw [z']));rcases this with x | x
    ·rw [x] at hm;cases hm
    ·rw [D.sy d1 hd d2 he,x] at hm;cases hm
 ·rw [hp.length_eq,length_map,hlen];exact G.len
 ·have k:=kn s (mem_of_getElem? hs);obtain ⟨d,hd,en,_⟩:=k.1;refine ⟨?_,k.2.1.1,k.2.1.2,k.2.2.1,by omega⟩;unfold ii;refine List.mem_filter.mpr ⟨List.mem_map.mpr ⟨d,hd,en.symm⟩,decide_eq_true ?_⟩;rw [tL];have h1:=hcnt s.name;have h2:=((List.take_sublist i rs).map (·.name)).count_le s.name;have h3:((rs.take (i + 1)).map (·.name)).count s.name <= 2:=Nat.le_trans (((List.take_sublist (i + 1) rs).map (·.name)).count_le s.name) h1;rw [md hs,map_append,List.count_append] at h3;have h4:(List.map (·.name) [s]).count s.name=1:=by simp
  omega
theorem IP {n:Int} {z:Nat} (hz:0 < z) {ds:List WD} (D:jQ n ds) {sp:List SD} (P:GN n z ds sp) {d:WD} (hd:d ∈ ds) (turn:Int):Dp z sp d turn=sp.any fun s=>decide (s.name=d.name) && decide ((turn - s.b) % (z:Int) < s.n):=by
 have f:=cA (D.al d hd).1;have r:=bx d;have t0:=Int.emod_nonneg turn (show (z:Int) ≠ 0 by omega);have t1:=Int.emod_lt_of_pos turn (show 0 < (z:Int) by omega);have hpw:(ofN d.name sp).Pairwise (sP z (Kc d).toNat (ze d).toNat):=by
  unfold ofN;rw [List.pairwise_map,List.pairwise_filter];refine P.pw.imp fun {a b} h h1 h2=>?_
  have h1:a.name=d.name:=by simpa using h1
  have h2:b.name=d.name:=by simpa using h2
  have:=h (h2.trans h1.symm) d (by rw [h1];exact gA D.nd hd);refine ⟨?_,?_⟩
  ·show a.n + ((ze d).toNat:Int) + ((Kc d).toNat:Int) <= _;rw [Int.toNat_of_nonneg f.1,Int.toNat_of_nonneg r.1];exact this.1
  ·show b.n + ((ze d).toNat:Int) + ((Kc d).toNat:Int) <= _;rw [Int.toNat_of_nonneg f.1,Int.toNat_of_nonneg r.1];exact this.2
 have hb:∀ p ∈ ofN d.name sp,1 <= p.2/\p.2 + ((ze d).toNat:Int) + ((Kc d).toNat:Int) <= z:=fun p hp=>by
  obtain ⟨s,hs,_,rfl⟩:=Qk hp;have:=P.kn s hs;refine ⟨this.2.2.1,?_⟩;rw [Int.toNat_of_nonneg f.1,Int.toNat_of_nonneg r.1];show s.n + _ + _ <= _;omega
 have key:=rF hz hb hpw (i:=(turn % (z:Int)).toNat) (by omega);have hll:(Pp z sp d).length=z:=Fh _ _ _ _;have hat:(Pp z sp d)[(turn % (z:Int)).toNat]? = some (Sq z sp d turn):=by
  unfold Sq;rw [getElem?_eq_getElem (by rw [hll];omega)];rfl
 unfold Dp;rw [Bool.eq_iff_iff,decide_eq_true_eq,List.any_eq_true];have e1:Sq z sp d turn=Str.ofString "free" ↔ (Bi z (Kc d).toNat (ze d).toNat (ofN d.name sp))[(turn % (z:Int)).toNat]? = some (Str.ofString "free"):=by
  rw [show Bi z (Kc d).toNat (ze d).toNat (ofN d.name sp)=Pp z sp d from rfl,hat];simp
 rw [e1,key,Int.toNat_of_nonneg t0];constructor
 ·rintro ⟨p,hp,h⟩;obtain ⟨s,hs,en,rfl⟩:=Qk hp;rw [Int.emod_sub_emod] at h;exact ⟨s,hs,by rw [decide_eq_true en,decide_eq_true h];rfl⟩
 ·rintro ⟨s,hs,h⟩;rw [Bool.and_eq_true,decide_eq_true_eq,decide_eq_true_eq] at h;refine ⟨_,oG hs h.1,?_⟩;rw [Int.emod_sub_emod];exact h.2
end My
namespace My
open PySem L2
noncomputable abbrev Gh (d:WD):List V:=[.str (Ae d.k),.str d.name,.int d.start,.int d.fin,.int d.off,.int d.near,.int d.least]
noncomputable def LW (H:Hp) (wl:Addr) (ds:List WD):Prop:=∃ qs:List Addr,H wl=some (.lst (qs.map V.ref))/\qs.length=ds.length/\∀ (i:Nat) (q:Addr) (d:WD),qs[i]? = some q->ds[i]? = some d->H q=some (.tup (Gh d))
theorem LW.same {H H':Hp} {wl:Addr} {ds:List WD} (h:LW H wl ds) (s:Pb H H'):LW H' wl ds:=by
 obtain ⟨qs,e1,e2,al⟩:=h;exact ⟨qs,s _ _ e1,e2,fun i q d h1 h2=>s _ _ (al i q d h1 h2)⟩
theorem LW.snoc {H:Hp} {wl p:Addr} {ds:List WD} {d:WD} {qs:List Addr} (l1:H wl=some (.lst (qs.map V.ref))) (l2:qs.length=ds.length)
  (al:∀ (i:Nat) (q:Addr) (d:WD),qs[i]? = some q->ds[i]? = some d->H q=some (.tup (Gh d))) (hp:H p=none) :
  LW (upd (upd H p (.tup (Gh d))) wl (.lst (qs.map V.ref ++ [.ref p]))) wl (ds ++ [d]):=by
 have hpw:p ≠ wl:=(yb l1 hp).symm;refine ⟨qs ++ [p],by rw [db,map_append];rfl,by rw [length_append,length_append,l2];rfl,fun i q e h1 h2=>?_⟩;rcases Nf h1 with ⟨z1,z2⟩ | ⟨z1,rfl⟩
 ·rcases Nf h2 with ⟨y1,y2⟩ | ⟨y1,_⟩
  ·have:=al i q e z2 y2;rw [jb (Zd this l1 (by intro z;cases z)),jb (yb this hp)];exact this
  ·omega
 ·rcases Nf h2 with ⟨y1,y2⟩ | ⟨y1,rfl⟩
  ·omega
  ·rw [jb hpw,db]
theorem kH:∀ j,j < 5->(Txt.slice (Str.ofString "lane") none (some (j:Nat))).cps.toList=[108,97,110,101].take j:=by decide +kernel
theorem EM:∀ j,j < 4->(Txt.slice (Str.ofString "way") none (some (j:Nat))).cps.toList=[119,97,121].take j:=by decide +kernel
noncomputable def VJ (k:Nat):Nat:=if k < 9 then 97 + k else 97
theorem dM (k:Nat):97 <= VJ k/\VJ k <= 122:=by unfold VJ;split <;> omega
theorem AH:∀ k,k < 9->∀ j,j < 9->VJ k=VJ j->k=j:=by decide
noncomputable def nm6 (u v k:Nat):Str:=Txt.slice (Str.ofString "lane") none (some (u:Nat)) ++ ⟨#[VJ k]⟩ ++ Txt.slice (Str.ofString "way") none (some (v:Nat))
theorem VE {u v k:Nat} (hu:u < 5) (hv:v < 4):(nm6 u v k).cps.toList=[108,97,110,101].take u ++ [VJ k] ++ [119,97,121].take v:=by
 unfold nm6;rw [Str.cps_append,Array.toList_append,Str.cps_append,Array.toList_append,kH u hu,EM v hv]
theorem lA {u v k:Nat} (hu:u < 5) (hv:v < 4):made (nm6 u v k) lj 8=true:=by
 have e:=VE (k:=k) hu hv;have hl:(nm6 u v k).length=(nm6 u v k).cps.toList.length:=by simp [Str.length]
 refine Ix ?_ ?_ ?_
 ·rw [hl,e,length_append,length_append,List.length_singleton];omega
 ·rw [hl,e,length_append,length_append,length_take,length_take];simp only [length_cons,length_nil];omega
 ·intro c hc;rw [e] at hc;rcases List.mem_append.mp hc with hc | hc
  ·rcases List.mem_append.mp hc with hc | hc
   ·have:=List.mem_of_mem_take hc;simp only [mem_cons,not_mem_nil,or_false] at this;omega
   ·simp only [mem_cons,not_mem_nil,or_false] at hc;have:=dM k;omega
  ·have:=List.mem_of_mem_take hc;simp only [mem_cons,not_mem_nil,or_false] at this;omega
theorem tM {u v k k':Nat} (hu:u < 5) (hv:v < 4) (hk:k < 9) (hk':k' < 9) (e:nm6 u v k=nm6 u v k'):k=k':=by
 have:=congrArg (fun x:Str=>x.cps.toList) e;simp only [VE hu hv] at this;rw [List.append_left_inj,List.append_right_inj] at this;exact AH k hk k' hk' (List.cons.inj this).1
theorem EN {n s j:Int} (h0:0 <= s) (h1:s < n) (h2:0 <= j) (h3:j < n - 1):s ≠ (s + 1 + j) % n:=by
 rw [Int.add_assoc,fK h0 h1 (by omega) (by omega)];split <;> omega
theorem NM:∀ k,k < 9->atI (Str.ofString "abcdefghi").cps.toList ((k:Nat):Int)=some (VJ k):=by decide +kernel
theorem TL {i:Int} (h0:0 <= i) (h1:i < 3):atI [V.str (Str.ofString "car"),V.str (Str.ofString "foot"),V.str (Str.ofString "tram")] i=some (.str (Ae i.toNat)):=by
 have:i=0\/i=1\/i=2:=by omega
 rcases this with rfl | rfl | rfl
 ·exact Bc (j:=0) rfl
 ·exact Bc (j:=1) rfl
 ·exact Bc (j:=2) rfl
structure Qs (n:Int) (ds:List WD):Prop where
 ln:ds.length <= 9
 al:∀ d ∈ ds,WOk n d/\d.off <= 8/\d.least <= 4
 nm:∃ u v,u < 5/\v < 4/\∀ (i:Nat) (d:WD),ds[i]? = some d->d.name=nm6 u v i
theorem Qs.nd {n:Int} {ds:List WD} (h:Qs n ds):(ds.map (·.name)).Nodup:=by
 obtain ⟨u,v,hu,hv,al⟩:=h.nm;refine List.pairwise_iff_getElem.mpr fun i j hi hj hij e=>?_
 rw [length_map] at hi hj;rw [getElem_map,getElem_map,al i _ (getElem?_eq_getElem hi),al j _ (getElem?_eq_getElem hj)] at e;have:=tM hu hv (by have:=h.ln;omega) (by have:=h.ln;omega) e;omega
theorem Qs.cok {n:Int} {ds:List WD} (h:Qs n ds) (hn:2 <= n/\n <= 99) (hl:1 <= ds.length/\ds.length <= 12):COk n ds:=⟨hn,hl,fun d hd=>(h.al d hd).1,h.nd⟩
noncomputable def EO (K:W.Frag) (a:Addr) (ns:List Int):Sp:=fun vs H Q _=>∃ most:Int,vs=[.ref a,.int most]/\(1 <= most/\most <= 9)/\Sc K a ns H /\
 ∀ tp wl n ds H',Pb H H'->Sc K a ns H'->H' tp=some (.tup [.int n,.ref wl])->LW H' wl ds->Qs n ds->(4 <= n/\n <= 16)->(1 <= ds.length/\ds.length <= 9)->Q (.ref tp) H'
section
variable {P:Program} {w:World} {K:W.Frag} {mg:Str->Option Value} {base:Heap} {t:Adr}
theorem kQ (T:Txt w K mg t) (a:Addr) (ns:List Int) (h63:ns.length <= 63):Gb P w K mg base CX0 2 t.nj t.Jj ["_law_script","_law_most"] (EO K a ns):=by
 have g13:Gb P w K mg base CX0 1 t.sf t.qf ["_law_script","_law_k","_law_many"] (Re K a ns):=Ov T a ns h63;refine T.Pm.ok ie (fun vs H Q E h=>?_) (fun _ _ _ s H vs Q E hr h=>?_)
 ·obtain ⟨most,rfl,_⟩:=h;rfl
 obtain ⟨most,rfl,hmost,S,q⟩:=h;refine ⟨_,(cb (Db (i:=2) ie.nd rfl (Or.inl rfl) (Nb Qc xb (Bb g13 hr rfl T.jc T.Vb.kp T.kc .nil Fb (bb (pv 0) (bb xb (bb xb fb))))))
   (cb (Db (i:=3) ie.nd rfl (Or.inl rfl) (Cf fb))
   (cb (Wd PassesOwn.never rfl (Lh rfl T.Nj (bb (Nb Qc xb (Bb g13 hr rfl T.jc T.Vb.kp T.kc .nil Fb (bb (pv 0) (bb xb (bb (pv 1) fb))))) fb)) (Cb (i:=4) ie.nd rfl (Or.inl rfl)) (cb (Db (i:=5) ie.nd rfl (Or.inl rfl) (yd Zf (Cf (bb Rc (bb Rc (bb Rc fb)))) (Bb g13 hr rfl T.jc T.Vb.kp T.kc .nil Fb (bb (pv 0) (bb (Nb Qc xb (pv 4)) (bb xb fb)))) (fun _ _=>rfl)))
   (cb (Db (i:=6) ie.nd rfl (Or.inl rfl) (Bb g13 hr rfl T.jc T.Vb.kp T.kc .nil Fb (bb (pv 0) (bb (Nb Qc xb (pv 4)) (bb (pv 2) fb)))))
   (cb (Db (i:=7) ie.nd rfl (Or.inl rfl) (Nb Mf (Nb Qc (Nb Qc (pv 6) xb) (Bb g13 hr rfl T.jc T.Vb.kp T.kc .nil Fb (bb (pv 0) (bb (Nb Qc xb (pv 4)) (bb (Nb Mg (pv 2) xb) fb))))) (pv 2)))
   (cb (Db (i:=8) ie.nd rfl (Or.inl rfl) (Nb Dd (Nb Dd (jn nK Rc Jr (Lq (Bb g13 hr rfl T.jc T.Vb.kp T.kc .nil Fb (bb (pv 0) (bb xb (bb xb fb)))))) (yd ZJ Rc (pv 4) (fun _ _=>rfl))) (jn nK Rc Jr (Lq (Bb g13 hr rfl T.jc T.Vb.kp T.kc .nil Fb (bb (pv 0) (bb xb (bb xb fb))))))))
   (cb (Db (i:=9) ie.nd rfl (Or.inl rfl) (Uj (bb (pv 6) (bb (pv 7) (bb (Bb g13 hr rfl T.jc T.Vb.kp T.kc .nil Fb (bb (pv 0) (bb (Nb Qc xb (pv 4)) (bb xb fb)))) (bb (Bb g13 hr rfl T.jc T.Vb.kp T.kc .nil Fb (bb (pv 0) (bb (Nb Qc xb (pv 4)) (bb xb fb)))) fb))))))
   (ib (Xb (ol PySem.F.plainAttrs_list PySem.F.slot_list_append PySem.F.type_list_append Pe (pv 3) (bb (Nb uE (Nb uE (Uj (bb (pv 5) (bb (pv 8) fb))) (pv 9)) (Uj (bb (Nb Qc xb (Bb g13 hr rfl T.jc T.Vb.kp T.kc .nil Fb (bb (pv 0) (bb (Nb Qc xb (pv 4)) (bb xb fb))))) fb))) fb))))))))))
   (ib (Lb (Uj (bb (pv 2) (bb (pv 3) fb)))))))),?_⟩
 have Ao:∀ k:Nat,k <= 1000->k <= sizeLine:=fun k h=>Nat.le_trans h (by decide)
 have d1:=uf ns 1 (m:=13) (by decide);have d2:=tf ns 1 (m:=13) (by decide);have d3:=uf ns 4 (m:=most) (by omega);have d4:=tf ns 4 (m:=most) (by omega);have u1:=uf ns 80 (m:=5) (by decide);have u2:=tf ns 80 (m:=5) (by decide);have v1:=uf ns 81 (m:=4) (by decide);have v2:=tf ns 81 (m:=4) (by decide);obtain ⟨u,hu⟩:∃ u:Nat,jj ns 80 5=(u:Nat):=⟨(jj ns 80 5).toNat,by omega⟩;obtain ⟨v,hv⟩:∃ v:Nat,jj ns 81 4=(v:Nat):=⟨(jj ns 81 4).toNat,by omega⟩;refine zS (fun σ' H'=>H'=H/\σ'=[some (.ref a),some (.int most),some (.int (4 + jj ns 1 13)),none,none,none,none,none,none,none]) (fun D hD=>?_) fun zzM zzh=>?_
 ·(walk_at "RD"; repeat (simp only [Re];walk_at "RD"));exact ⟨S,by omega,by omega,by decide,hD _ _ ⟨rfl,rfl⟩⟩
 rintro σ1 H3 ⟨rfl,rfl⟩;subst zzh;generalize hnn:4 + jj ns 1 13=n;have hn:4 <= n/\n <= 16:=by omega
 refine zS (fun σ' H'=>∃ wl,H3 wl=none/\H'=upd H3 wl (.lst [])/\σ'=[some (.ref a),some (.int most),some (.int n),some (.ref wl),none,none,none,none,none,none]) (fun D hD=>?_) fun zzM zzh=>?_
 ·walk_at "RD";exact ⟨Nat.zero_le _,fun wl hwl=>hD _ _ ⟨wl,hwl,rfl,rfl⟩⟩
 rintro σ1 H4 ⟨wl,hwl,rfl,rfl⟩;have S1:=S.new (o:=.lst []) hwl;have s1:Pb H3 (upd H3 wl (.lst [])):=wb hwl;have w1:(upd H3 wl (.lst [])) wl=some (.lst []):=db;subst zzh;generalize upd H3 wl (.lst [])=H4 at S1 s1 w1 ⊢;(walk_at "RD"; repeat (simp only [Re];walk_at "RD"));refine ⟨S1,by omega,by omega,by omega,by omega,by omega,?_⟩;generalize hmm:(1 + jj ns 4 most).toNat=m;refine Qh.range (fun i σ H'=>Sc K a ns H'/\Pb H3 H'/\(∃ ds,LW H' wl ds/\(∀ d ∈ ds,WOk n d/\d.off <= 8/\d.least <= 4)/\(∀ (j:Nat) (d:WD),ds[j]? = some d->d.name=nm6 u v j)/\ds.length=i)/\∃ x1 x2 x3 x4 x5 x6,σ=[some (.ref a),some (.int most),some (.int n),some (.ref wl),x1,x2,x3,x4,x5,x6]) ?_ ?_ ?_
 ·exact ⟨S1,s1,⟨[],⟨[],w1,rfl,fun i q d h=>by simp at h⟩,fun d h=>by simp at h,fun j d h=>by simp at h,rfl⟩,none,none,none,none,none,none,rfl⟩
 ·rintro i σ H' hi zzq;refine zzP fun zzM zzh=>?_
  obtain ⟨S2,s2,⟨ds,L,dw,dn,hdl⟩,x1,x2,x3,x4,x5,x6,rfl⟩:=zzq;have hi4:i < 9:=by omega
  have g1:=uf ns (40 + (i:Int)) (m:=n) (by omega);have g2:=tf ns (40 + (i:Int)) (m:=n) (by omega);have g3:=uf ns (60 + (i:Int)) (m:=n - 1) (by omega);have g4:=tf ns (60 + (i:Int)) (m:=n - 1) (by omega);have g5:=uf ns (20 + (i:Int)) (m:=3) (by decide);have g6:=tf ns (20 + (i:Int)) (m:=3) (by decide);have g7:=uf ns (100 + (i:Int)) (m:=9) (by omega);have g8:=tf ns (100 + (i:Int)) (m:=9) (by omega);have g9:=uf ns (120 + (i:Int)) (m:=9) (by decide);have g10:=tf ns (120 + (i:Int)) (m:=9) (by decide);have g11:=uf ns (140 + (i:Int)) (m:=4) (by decide);have g12:=tf ns (140 + (i:Int)) (m:=4) (by decide);subst zzh;generalize hst:jj ns (40 + (i:Int)) n=st at g1 g2;generalize hfi:(st + 1 + jj ns (60 + (i:Int)) (n - 1)) % n=fi;have hfb:(0 <= fi/\fi < n)/\st ≠ fi:=by
   subst hfi;exact ⟨⟨Int.emod_nonneg _ (by omega),Int.emod_lt_of_pos _ (by omega)⟩,EN g1 g2 g3 g4⟩
  simp only [yg,Mb,set_cons_succ,set_cons_zero,Int.zero_add];refine zzC (fun σ' H2=>Pb H' H2/\Sc K a ns H2/\∃ k:Nat,k < 3/\σ'=[some (.ref a),some (.int most),some (.int n),some (.ref wl),some (.int (i:Nat)),some (.str (Ae k)),x3,x4,x5,x6]) (fun D hD=>?_) fun zzM zzh=>?_
  ·(walk_at "RD"; repeat (simp only [Re];walk_at "RD"));refine ⟨by decide,fun p1 hp1=>⟨S2.new hp1,by omega,by omega,by decide,?_⟩⟩;exact ⟨_,SqL.of db,_,TL g5 g6,hD _ _ ⟨wb hp1,S2.new hp1,_,by omega,rfl⟩⟩
  rintro σ2 H7 ⟨s5,S5,k',hk',rfl⟩;subst zzh;simp only [Mb];refine zzC (fun σ' H2=>H2=H7/\σ'=[some (.ref a),some (.int most),some (.int n),some (.ref wl),some (.int (i:Nat)),some (.str (Ae k')),some (.int st),x4,x5,x6]) (fun D hD=>?_) fun zzM zzh=>?_
  ·(walk_at "RD"; repeat (simp only [Re];walk_at "RD"));rw [hst];exact ⟨S5,by omega,by omega,by omega,hD _ _ ⟨rfl,rfl⟩⟩
  rintro σ2 H8 ⟨rfl,rfl⟩;subst zzh;simp only [Mb];refine zzC (fun σ' H2=>H2=H8/\σ'=[some (.ref a),some (.int most),some (.int n),some (.ref wl),some (.int (i:Nat)),some (.str (Ae k')),some (.int st),some (.int fi),x5,x6]) (fun D hD=>?_) fun zzM zzh=>?_
  ·(walk_at "RD"; repeat (simp only [Re];walk_at "RD"));rw [hfi];exact ⟨S5,by omega,by omega,by omega,by omega,hD _ _ ⟨rfl,rfl⟩⟩
  rintro σ2 H9 ⟨rfl,rfl⟩;subst zzh;simp only [Mb];refine zzC (fun σ' H2=>H2=H9/\σ'=[some (.ref a),some (.int most),some (.int n),some (.ref wl),some (.int (i:Nat)),some (.str (Ae k')),some (.int st),some (.int fi),some (.str (nm6 u v i)),x6]) (fun D hD=>?_) fun zzM zzh=>?_
  ·(walk_at "RD"; repeat (simp only [Re];walk_at "RD"));rw [hu,hv];have hnl:(nm6 u v i).length <= 8:=((Qe (lA (k:=i) (by omega) (by omega))).1).2;unfold nm6 at hnl;rw [Fd,Fd] at hnl;refine ⟨S5,by omega,by omega,by decide,by decide +kernel,by decide +kernel,_,NM i hi4,Ao _ (by omega),S5,by omega,by omega,by decide,by decide +kernel,Ao _ (by rw [Fd];omega),hD _ _ ⟨rfl,rfl⟩⟩
  rintro σ2 H10 ⟨rfl,rfl⟩;subst zzh;simp only [Mb];refine zzC (fun σ' H2=>Pb H10 H2/\Sc K a ns H2/\∃ np,H2 np=some (.tup [.int st,.int fi,.int (jj ns (100 + (i:Int)) 9),.int (jj ns (120 + (i:Int)) 9)])/\σ'=[some (.ref a),some (.int most),some (.int n),some (.ref wl),some (.int (i:Nat)),some (.str (Ae k')),some (.int st),some (.int fi),some (.str (nm6 u v i)),some (.ref np)]) (fun D hD=>?_) fun zzM zzh=>?_
  ·(walk_at "RD"; repeat (simp only [Re];walk_at "RD"));exact ⟨S5,by omega,by omega,by decide,S5,by omega,by omega,by decide,by decide,fun np hnp=>hD _ _ ⟨wb hnp,S5.new hnp,np,db,rfl⟩⟩
  rintro σ2 H11 ⟨s11,S11,np,hnp,rfl⟩;obtain ⟨qs,l1,l2,al⟩:=(L.same s5).same s11;have hwok:WOk n ⟨k',nm6 u v i,st,fi,jj ns (100 + (i:Int)) 9,jj ns (120 + (i:Int)) 9,1 + jj ns (140 + (i:Int)) 4⟩:=
   ⟨hk',lA (by omega) (by omega),⟨g1,g2⟩,hfb.1,hfb.2,⟨g7,by show jj ns (100 + (i:Int)) 9 <= 30;omega⟩,⟨g9,by show jj ns (120 + (i:Int)) 9 <= 30;omega⟩,⟨by show 1 <= 1 + jj ns (140 + (i:Int)) 4;omega,by show 1 + jj ns (140 + (i:Int)) 4 <= 60;omega⟩⟩
  subst zzh;(walk_at "RD"; repeat (simp only [Re];walk_at "RD"));refine ⟨.inl ⟨_,SqL.of l1⟩,by decide,fun p1 hp1=>?_⟩;obtain ⟨Ha,ea⟩:∃ Hx:Hp,Hx=upd H11 p1 (.tup [.str (Ae k'),.str (nm6 u v i)]):=⟨_,rfl⟩;rw [<- ea];have sa:Pb H11 Ha:=by rw [ea];exact wb hp1
  have Sa:Sc K a ns Ha:=by rw [ea];exact S11.new hp1
  have ua:Ha p1=some (.tup [.str (Ae k'),.str (nm6 u v i)]):=by rw [ea];exact db
  clear ea;refine ⟨_,SqT.of ua,_,SqT.of (sa _ _ hnp),by simp,by show 2 + 4 <= sizeLine;decide,(fun z=>by cases z),fun _ p2 hp2=>?_⟩;obtain ⟨Hb,eb⟩:∃ Hx:Hp,Hx=upd Ha p2 (.tup ([V.str (Ae k'),.str (nm6 u v i)] ++ [.int st,.int fi,.int (jj ns (100 + (i:Int)) 9),.int (jj ns (120 + (i:Int)) 9)])):=⟨_,rfl⟩;rw [<- eb];have sb:Pb Ha Hb:=by rw [eb];exact wb hp2
  have Sb:Sc K a ns Hb:=by rw [eb];exact Sa.new hp2
  have ub:Hb p2=some (.tup ([V.str (Ae k'),.str (nm6 u v i)] ++ [.int st,.int fi,.int (jj ns (100 + (i:Int)) 9),.int (jj ns (120 + (i:Int)) 9)])):=by rw [eb];exact db
  clear eb;refine ⟨Sb,by omega,by omega,by decide,by decide,fun p3 hp3=>?_⟩;obtain ⟨Hc,ec⟩:∃ Hx:Hp,Hx=upd Hb p3 (.tup [.int (1 + jj ns (140 + (i:Int)) 4)]):=⟨_,rfl⟩;rw [<- ec];have sc:Pb Hb Hc:=by rw [ec];exact wb hp3
  have Sc':Sc K a ns Hc:=by rw [ec];exact Sb.new hp3
  have uc:Hc p3=some (.tup [.int (1 + jj ns (140 + (i:Int)) 4)]):=by rw [ec];exact db
  clear ec;refine ⟨_,SqT.of (sc _ _ ub),_,SqT.of uc,by simp,by show 6 + 1 <= sizeLine;decide,(fun z=>by cases z),fun _ p4 hp4=>?_⟩;have sac:=(sa.trans sb).trans sc;have l1c:=sac _ _ l1;have alc:∀ (i:Nat) (q:Addr) (d:WD),qs[i]? = some q->ds[i]? = some d->Hc q=some (.tup (Gh d)):=fun i q d x y=>sac _ _ (al i q d x y)
  have hwp:wl ≠ p4:=yb l1c hp4;have L':=LW.snoc (d:=⟨k',nm6 u v i,st,fi,jj ns (100 + (i:Int)) 9,jj ns (120 + (i:Int)) 9,1 + jj ns (140 + (i:Int)) 4⟩) l1c l2 alc hp4;refine ⟨_,by rw [jb hwp];exact l1c,Nat.lt_of_le_of_lt (show (qs.map V.ref).length <= 12 by rw [length_map];omega) (by decide),?_,?_,⟨_,L',fun d hd=>?_,fun j d hd=>?_,by rw [length_append,hdl];rfl⟩,by repeat (first | exact ⟨_,rfl⟩ | refine ⟨⟨_,rfl⟩,?_⟩)⟩
  ·exact (Sc'.new hp4).set (by rw [jb hwp];exact l1c) (fun ob z e=>by cases e)
  ·exact (((((s2.trans s5).trans s11).trans sac).trans (wb hp4)).updN hwl)
  ·rcases List.mem_append.mp hd with z | z
   ·exact dw d z
   ·rw [List.mem_singleton.mp z];exact ⟨hwok,by show jj ns (100 + (i:Int)) 9 <= 8;omega,by show 1 + jj ns (140 + (i:Int)) 4 <= 4;omega⟩
  ·rcases Nf hd with ⟨_,z⟩ | ⟨z1,rfl⟩
   ·exact dn j d z
   ·rw [z1,hdl]
 ·rintro σ H' zzq;refine zzP fun zzM zzh=>?_
  obtain ⟨S2,s2,⟨ds,L,dw,dn,hdl⟩,x1,x2,x3,x4,x5,x6,rfl⟩:=zzq;subst zzh;walk_at "RD";refine ⟨by decide,fun tp htp=>?_⟩;exact q tp wl n ds _ (s2.trans (wb htp)) (S2.new htp) db (L.same (wb htp)) ⟨by omega,dw,u,v,by omega,by omega,dn⟩ hn (by omega)
end
end My
namespace My
open PySem L2
theorem wN (d:WD):((((Ae d.k ++ Str.ofString " ") ++ d.name) ++ Str.ofString " ") ++ Txt.join (Str.ofString " ") [num d.start,num d.fin,num d.off,num d.near,num d.least])=Str.join bk (ul d):=by
 apply Xm;have e5:(Str.ofString " ").cps.toList=[32]:=by decide +kernel
 rw [show Txt.join (Str.ofString " ") [num d.start,num d.fin,num d.off,num d.near,num d.least]=Str.join bk [num d.start,num d.fin,num d.off,num d.near,num d.least] from StrLaws.glued_eq_join _ _];rw [Str.cps_append,Array.toList_append,oy,dg,dg];unfold ul;simp only [Str.cps_append,Array.toList_append,map_cons,map_nil,jl,e5,append_assoc,cons_append,nil_append]
theorem uL (n:Int):Str.ofString "ring " ++ num n=Str.join bk [Str.ofString "ring",num n]:=by
 apply Xm;have e1:(Str.ofString "ring ").cps.toList=[114,105,110,103,32]:=by decide +kernel
 have e2:(Str.ofString "ring").cps.toList=[114,105,110,103]:=by decide +kernel
 rw [oy,dg];simp only [Str.cps_append,Array.toList_append,map_cons,map_nil,jl,e1,e2,cons_append,nil_append]
theorem mF {B:Nat}:∀ {ys:List Str},(∀ y ∈ ys,y.length <= B)->(ys.map (·.length)).sum <= ys.length * B
 | [],_=>by simp
 | a :: r,h=>by
  have h1:=h a (by simp);have h2:=mF (B:=B) (ys:=r) fun y hy=>h y (mem_cons_of_mem _ hy)
  rw [map_cons,List.sum_cons,length_cons,Nat.succ_mul];omega
theorem IM {n:Int} {ds:List WD} (h:COk n ds):∀ y ∈ (Mi n ds).map (Str.join bk),y.length <= 63:=fun y hy=>by
 obtain ⟨r,hr,rfl⟩:=List.mem_map.mp hy;have:=Ms bk 8 r fun x hx=>(h.plain r hr x hx).1
 rw [Px] at this;have hl:r.length <= 7:=by
  rcases List.mem_cons.mp hr with rfl | hr
  ·simp
  ·obtain ⟨d,hd,rfl⟩:=List.mem_map.mp hr;simp [ul]
 omega
noncomputable def AB (K:W.Frag):Sp:=fun vs H Q _=>∃ n wl ds,vs=[.int n,.ref wl]/\LW H wl ds/\Qs n ds/\(2 <= n/\n <= 99)/\(1 <= ds.length/\ds.length <= 12)/\NoT H/\Q (.str (iw n ds)) H
noncomputable def SF (K:W.Frag):Sp:=fun vs H Q _=>∃ n wl ds,vs=[.int n,.ref wl]/\LW H wl ds/\Qs n ds/\(2 <= n/\n <= 99)/\(1 <= ds.length/\ds.length <= 12)/\∀ H',Pb H H'->Q (.str (iw n ds)) H'
section
variable {P:Program} {w:World} {K:W.Frag} {mg:Str->Option Value} {base:Heap} {t:Adr}
theorem bJ (T:Txt w K mg t):Gb P w K mg base CX0 1 t.Pj t.Gj ["_law_places","_law_ways_here"] (AB K):=by
 refine Gb.forget (sp:=SF K) ?_ fun vs H Q E h=>?_
 ·refine T.Qm.ok uk (fun vs H Q E h=>?_) (fun _ _ _ s H vs Q E hr h=>?_)
  ·obtain ⟨n,wl,ds,rfl,_⟩:=h;rfl
  obtain ⟨n,wl,ds,rfl,L,D,hn,hl,q⟩:=h;refine ⟨_,(cb (Db (i:=2) uk.nd rfl (Or.inl rfl) (Cf (bb (Nb Dd Rc (gf zf rfl T.EC vh (bb (pv 0) fb))) fb)))
   (cb (Wd PassesOwn.never rfl (Ac (pv 1)) (Cb (i:=3) uk.nd rfl (Or.inl rfl)) (ib (Xb (ol PySem.F.plainAttrs_list PySem.F.slot_list_append PySem.F.type_list_append Pe (pv 2) (bb (Nb Dd (Nb Dd (Nb Dd (Nb Dd (yd Vc (pv 3) xb (fun _ _=>rfl)) Rc) (yd Vc (pv 3) xb (fun _ _=>rfl))) Rc) (ol PySem.F.plainAttrs_str PySem.F.slot_str_join PySem.F.type_str_join bz Rc (bb (Xg rfl (qO (jn zP (pv 3) (Lq xb) Jr)) (kd (sc:=rb Km) rfl (by decide +kernel)) (N:=["_law_number"]) (sel:=[none]) (Yd (M:=["_law_places","_law_ways_here","_law_rows","_law_way"]) (by decide +kernel)) (Blk.of (fun _ _ _ _=>(Cb (i:=0) (Ug (N:=["_law_number"]) (by decide +kernel) rfl) rfl (Or.inl rfl))) (fun _ _ _ _=>⟨_,ag,by walk_at "B"⟩) (fun _ _ _ _=>⟨_,(gf zf rfl T.EC vh (bb (pv 0) fb)),by walk_at "B"⟩))) fb))) fb)))))
   (ib (Lb (ol PySem.F.plainAttrs_str PySem.F.slot_str_join PySem.F.type_str_join bz Rc (bb (pv 2) fb)))))),?_⟩
  have hC:=D.cok hn hl;obtain ⟨qs,l1,l2,al⟩:=L;have hlen:∀ x:Str,Vr x->x.length <= 8:=fun x h=>h.1
  have Ao:∀ k:Nat,k <= 1000->k <= sizeLine:=fun k h=>Nat.le_trans h (by decide)
  have hr5:(Str.ofString "ring ").length=5:=by decide +kernel
  have hb1:(Str.ofString " ").length=1:=by decide +kernel
  walk_at "RD";have hn8:(Str.ofString (toString n)).length <= 8:=(Xd (v:=n) (by omega) (by omega)).1;refine ⟨Hs (by omega),Ao _ (by rw [hr5];omega),by decide,fun rl hrl'=>?_⟩;rw [uL];have s0:Pb H (upd H rl (.lst [V.str (Str.join bk [Str.ofString "ring",num n])])):=wb hrl';refine ⟨⟨_,SqL.of (s0 _ _ l1)⟩,?_⟩;refine Qh.list (xs:=qs.map V.ref) (fun i σ H'=>Pb H H'/\H' rl=some (.lst (Jb ((Mi n (ds.take i)).map (Str.join bk))))/\∃ x,σ=[some (.int n),some (.ref wl),some (.ref rl),x]) ?_ ?_ ?_ ?_
  ·exact ⟨s0,db,none,rfl⟩
  ·rintro i σ H' hi ⟨sm,_,_⟩;exact SqL.of (sm _ _ l1)
  ·rintro i v σ H' hv zzq;refine zzP fun zzM zzh=>?_
   obtain ⟨sm,hr,x,rfl⟩:=zzq;obtain ⟨q',hq,rfl⟩:=Kb hv;have hid:i < ds.length:=by rw [<- l2];exact (List.getElem?_eq_some_iff.mp hq).1
   have hd:ds[i]? = some ds[i]:=getElem?_eq_getElem hid;have hT:SqT K H' q' (Gh ds[i]):=SqT.of (sm _ _ (al i q' _ hq hd));have hw:=(D.al _ (mem_of_getElem? hd)).1;have b1:=hw.st;have b2:=hw.fi;have b3:=hw.of;have b4:=hw.nr;have b5:=hw.le;have z1:=hlen _ (ou ds[i].k);have z2:=hlen _ (Go hw.nm);have z3:(num ds[i].start).length <= 8:=hlen _ (Xd (v:=ds[i].start) (by omega) (by omega));have z4:(num ds[i].fin).length <= 8:=hlen _ (Xd (v:=ds[i].fin) (by omega) (by omega));have z5:(num ds[i].off).length <= 8:=hlen _ (Xd (v:=ds[i].off) (by omega) (by omega));have z7:(num ds[i].least).length <= 8:=hlen _ (Xd (v:=ds[i].least) (by omega) (by omega));have z6:(num ds[i].near).length <= 8:=hlen _ (Xd (v:=ds[i].near) (by omega) (by omega));subst zzh;walk_at "RD";refine ⟨.inl ⟨_,SqL.of hr⟩,?_⟩;have at0:atI (Gh ds[i]) 0=some (.str (Ae ds[i].k)):=Bc (j:=0) rfl;have at1:atI (Gh ds[i]) 1=some (.str ds[i].name):=Bc (j:=1) rfl;refine ⟨_,hT,_,at0,_,rfl,Ao _ (by omega),_,hT,_,at1,_,rfl,Ao _ (by rw [Fd];omega),Ao _ (by simp only [Fd];omega),?_⟩;have hcut:JC (Gh ds[i]) (some 2) none=[.int ds[i].start,.int ds[i].fin,.int ds[i].off,.int ds[i].near,.int ds[i].least]:=rfl;refine ⟨_,hT,?_,fun p hp=>⟨⟨_,SqT.of db⟩,?_⟩⟩
   ·show ¬ (HT.sIx 7 0 (some 2)=0/\HT.sIx 7 7 none=7);decide
   rw [hcut];have hjn:(Txt.join (Str.ofString " ") [num ds[i].start,num ds[i].fin,num ds[i].off,num ds[i].near,num ds[i].least]).length <= 50:=by
    rw [show Txt.join (Str.ofString " ") [num ds[i].start,num ds[i].fin,num ds[i].off,num ds[i].near,num ds[i].least]=Str.join bk [num ds[i].start,num ds[i].fin,num ds[i].off,num ds[i].near,num ds[i].least] from StrLaws.glued_eq_join _ _];have:=Ms bk 8 [num ds[i].start,num ds[i].fin,num ds[i].off,num ds[i].near,num ds[i].least] (fun y hy=>by
     simp only [mem_cons,not_mem_nil,or_false] at hy;rcases hy with rfl | rfl | rfl | rfl | rfl <;> assumption)
    rw [Px] at this;simp only [length_cons,length_nil] at this;omega
   refine fe.tup_zs (xs:=[.int ds[i].start,.int ds[i].fin,.int ds[i].off,.int ds[i].near,.int ds[i].least]) (zs:=Jb [num ds[i].start,num ds[i].fin,num ds[i].off,num ds[i].near,num ds[i].least]) (SqT.of db) (Ao _ (show 5 <= 1000 by decide)) rfl (fun j v z N hv hz hN=>?_) (fun p2 hp2=>?_)
   ·have key:∃ a:Int,v=.int a/\z=.str (num a)/\0 <= a/\a < 100:=by
     match j,hv,hz with
     | 0,hv,hz=>cases hv;cases hz;exact ⟨_,rfl,rfl,b1.1,by omega⟩
     | 1,hv,hz=>cases hv;cases hz;exact ⟨_,rfl,rfl,b2.1,by omega⟩
     | 2,hv,hz=>cases hv;cases hz;exact ⟨_,rfl,rfl,b3.1,by omega⟩
     | 3,hv,hz=>cases hv;cases hz;exact ⟨_,rfl,rfl,b4.1,by omega⟩
     | 4,hv,hz=>cases hv;cases hz;exact ⟨_,rfl,rfl,by omega,by omega⟩
     | k + 5,hv,hz=>simp at hv
    obtain ⟨a,rfl,rfl,ha0,ha1⟩:=key;walk_at "RD";exact ⟨Sub.name,Hs (by omega),hN⟩
   ·walk_at "RD";have hrp2:rl ≠ p2:=by
     rintro rfl;rw [jb (yb hr hp)] at hp2;rw [hp2] at hr;cases hr
    have hrl:(upd (upd H' p (.tup [.int ds[i].start,.int ds[i].fin,.int ds[i].off,.int ds[i].near,.int ds[i].least])) p2 (.lst (Jb [num ds[i].start,num ds[i].fin,num ds[i].off,num ds[i].near,num ds[i].least]))) rl=some (.lst (Jb ((Mi n (ds.take i)).map (Str.join bk)))):=by
     rw [jb hrp2,jb (yb hr hp)];exact hr
    have sm2:Pb H' (upd (upd H' p (.tup [.int ds[i].start,.int ds[i].fin,.int ds[i].off,.int ds[i].near,.int ds[i].least])) p2 (.lst (Jb [num ds[i].start,num ds[i].fin,num ds[i].off,num ds[i].near,num ds[i].least]))):=(wb hp).trans (wb hp2);have hsq:=SqL.of (K:=K) (H:=upd (upd H' p (.tup [.int ds[i].start,.int ds[i].fin,.int ds[i].off,.int ds[i].near,.int ds[i].least])) p2 (.lst (Jb [num ds[i].start,num ds[i].fin,num ds[i].off,num ds[i].near,num ds[i].least]))) (a:=p2) db;generalize upd (upd H' p (.tup [.int ds[i].start,.int ds[i].fin,.int ds[i].off,.int ds[i].near,.int ds[i].least])) p2 (.lst (Jb [num ds[i].start,num ds[i].fin,num ds[i].off,num ds[i].near,num ds[i].least]))=H2 at hrl sm2 hsq ⊢;refine ⟨_,hsq,?_,Ao _ (by simp only [Fd];omega),_,hrl,?_,?_,?_,_,rfl⟩
    ·simp only [map_cons,map_nil,List.sum_cons,List.sum_nil,length_cons,length_nil];omega
    ·rw [xk,length_map];exact Nat.lt_of_le_of_lt (show (Mi n (ds.take i)).length <= 13 by unfold Mi;rw [length_cons,length_map,length_take];omega) (by decide)
    ·exact fun b u e=>by rw [jb (yb e hrl')];exact sm2 _ _ (sm _ _ e)
    ·rw [db,wN ds[i]];congr 2;unfold Mi Jb;simp;rw [take_add_one,getElem?_map,hd];rfl
  ·rintro σ H' zzq;refine zzP fun zzM zzh=>?_
   obtain ⟨sm,hr,x,rfl⟩:=zzq;subst zzh;walk_at "RD";rw [length_map,l2,take_length] at hr;refine ⟨_,SqL.of hr,?_,?_⟩
   ·have h63:∀ y ∈ (Mi n ds).map (Str.join bk),y.length <= 63:=IM hC;have h13:((Mi n ds).map (Str.join bk)).length <= 13:=by
     unfold Mi;rw [length_map,length_cons,length_map];omega
    have:=mF h63;rw [show (Str.ofString "\n").length=1 by decide +kernel];omega
   ·have:=q H' sm;unfold iw at this;rw [show Txt.join (Str.ofString "\n") ((Mi n ds).map (Str.join bk))=Str.join nl ((Mi n ds).map (Str.join bk)) from StrLaws.glued_eq_join _ _];exact this
 ·obtain ⟨n,wl,ds,h1,h2,h3,h4,h5,nt,q⟩:=h;exact ⟨nt,n,wl,ds,h1,h2,h3,h4,h5,fun H' sm=>⟨sm,q⟩⟩
end
section
variable {P:Program} {w:World} {K:W.Frag} {mg:Str->Option Value} {base:Heap} {t:Adr}
noncomputable def HA (K:W.Frag):Sp:=fun vs H Q _=>∃ n a b d e,vs=[.int n,.ref a,.ref b]/\SqT K H a (Gh d)/\SqT K H b (Gh e)/\WOk n d/\WOk n e/\NoT H/\Q (.bl (mt n d e)) H
noncomputable def HD (K:W.Frag):Sp:=fun vs H Q _=>∃ n a b d e,vs=[.int n,.ref a,.ref b]/\SqT K H a (Gh d)/\SqT K H b (Gh e)/\WOk n d/\WOk n e/\∀ H',Pb H H'->Q (.bl (mt n d e)) H'
theorem dI (T:Txt w K mg t):Gb P w K mg base CX0 1 t.Ij t.Aj ["_law_places","_law_one","_law_other"] (HA K):=by
 refine Gb.forget (sp:=HD K) ?_ fun vs H Q E h=>?_
 ·refine T.zj.ok Ng (fun vs H Q E h=>?_) (fun _ _ _ s H vs Q E hr h=>?_)
  ·obtain ⟨n,a,b,d,e,rfl,_⟩:=h;rfl
  obtain ⟨n,a,b,d,e,rfl,Ta,Tb,hd,he,q⟩:=h;refine ⟨_,(cb (Ye (dc qk (yd Vc (pv 1) xb (fun _ _=>rfl)) (yd Vc (pv 2) xb (fun _ _=>rfl)) (yc _)) (ib (Lb Cm)) zc)
   (cb (Ye (PW.pt (Gr (dc Ni (yd Vc (pv 1) xb (fun _ _=>rfl)) (Uj (bb (yd Vc (pv 2) xb (fun _ _=>rfl)) (bb (yd Vc (pv 2) xb (fun _ _=>rfl)) fb))) (by with_unfolding_all rfl)) (Gp (dc qk (yd Vc (pv 1) xb (fun _ _=>rfl)) (yd Vc (pv 2) xb (fun _ _=>rfl)) (yc _))))) (ib (Lb Cm)) zc)
   (cb (Db (i:=3) Ng.nd rfl (Or.inl rfl) xb)
   (cb (Db (i:=4) Ng.nd rfl (Or.inl rfl) (yd Vc (pv 1) xb (fun _ _=>rfl)))
   (cb (zA PassesOwn.never (dc Dt (pv 4) (yd Vc (pv 1) xb (fun _ _=>rfl)) (yc _)) (cb (Db (i:=4) Ng.nd rfl (Or.inl rfl) (Nb Mf (Nb Qc (pv 4) xb) (pv 0)))
   (ib (Ye (dc Ni (pv 4) (Uj (bb (yd Vc (pv 2) xb (fun _ _=>rfl)) (bb (yd Vc (pv 2) xb (fun _ _=>rfl)) fb))) (by with_unfolding_all rfl)) (ib (Db (i:=3) Ng.nd rfl (Or.inl rfl) (Nb Qc (pv 3) xb))) zc))))
   (ib (Lb (af qk (pv 3) xb (yc _))))))))),?_⟩
  have a2:atI (Gh d) 2=some (.int d.start):=Bc (j:=2) rfl;have a3:atI (Gh d) 3=some (.int d.fin):=Bc (j:=3) rfl;have b2:atI (Gh e) 2=some (.int e.start):=Bc (j:=2) rfl;have b3:atI (Gh e) 3=some (.int e.fin):=Bc (j:=3) rfl;have f1:=hd.st;have f2:=hd.fi;have f3:=he.st;have f4:=he.fi;refine Pc (decide (d.fin=e.fin)) (fun Q hQ=>?_) (fun c=>?_) (fun c=>?_)
  ·walk_at "RD";refine ⟨_,Ta,_,a3,_,Tb,_,b3,rfl,?_⟩;walk_at "RD";exact hQ
  ·walk_at "RD";have:=q H (Pb.refl H);unfold mt zy at this;rw [c,Bool.true_or] at this;exact this
  ·have c':=of_decide_eq_false c;walk_at "RD";refine Uh (fun b H'=>Pb H H'/\b=decide ((d.start=e.start\/d.start=e.fin)\/d.fin=e.start)) (fun Q hQ=>?_) (fun H' ⟨sm,hb⟩=>?_) (fun H' ⟨sm,hb⟩=>?_)
   ·walk_at "RD";refine ⟨_,Ta,_,a2,_,Tb,_,b2,_,Tb,_,b3,by decide,fun p hp=>⟨_,.inr (SqT.of db),rfl,rfl,?_⟩⟩;have s1:Pb H (upd H p (.tup [.int e.start,.int e.fin])):=wb hp;rw [JP];by_cases c1:d.start=e.start\/d.start=e.fin
    ·rw [if_pos (decide_eq_true c1)];exact hQ _ _ ⟨s1,(decide_eq_true (.inl c1)).symm⟩
    ·rw [if_neg (by simpa using c1)];refine ⟨_,Ta.same s1,_,a3,_,Tb.same s1,_,b2,rfl,?_⟩;refine hQ _ _ ⟨s1,?_⟩;walk_at "RD";rw [Bool.eq_iff_iff,decide_eq_true_eq,decide_eq_true_eq];exact ⟨.inr,fun z=>z.resolve_left c1⟩
   ·walk_at "RD";have hb':=of_decide_eq_true hb.symm;have:=q H' sm;unfold mt zy at this;rw [c,Bool.false_or,if_pos (by omega)] at this;exact this
   ·walk_at "RD";have hb':=of_decide_eq_false hb.symm;refine ⟨_,Ta.same sm,_,a2,?_⟩;have hL0:0 <= (d.fin - d.start) % n:=Int.emod_nonneg _ (by omega);have hL1:(d.fin - d.start) % n < n:=Int.emod_lt_of_pos _ (by omega);refine ay (fun σ H2=>Pb H H2/\∃ i:Nat,(i:Int) <= (d.fin - d.start) % n/\σ=[some (.int n),some (.ref a),some (.ref b),some (.int (ind n d.start e.start i + ind n d.start e.fin i)),some (.int ((d.start + i) % n))])
     (fun σ _=>match σ with | [_,_,_,_,some (.int p)]=>((d.fin - d.start) % n - (p - d.start) % n).toNat | _=>0) ?_ ?_
    ·refine ⟨sm,0,hL0,?_⟩;have i0:∀ p,ind n d.start p ((0:Nat):Int)=0:=fun p=>by unfold ind;rw [if_neg (by omega)]
     rw [i0,i0,show (d.start + ((0:Nat):Int)) % n=d.start by rw [show d.start + ((0:Nat):Int)=d.start by omega];exact Int.emod_eq_of_lt f1.1 f1.2];rfl
    ·rintro σ H2 zzq;refine zzP fun zzM zzh=>?_
     obtain ⟨sm2,i,hi,rfl⟩:=zzq;have hdn:((d.start + i) % n - d.start) % n=i:=(yy (n:=n) (s:=d.start) (p:=(d.start + i) % n) (j:=i) f1.1 f1.2 (Int.emod_nonneg _ (by omega)) (Int.emod_lt_of_pos _ (by omega)) (by omega) (by omega)).mp rfl;subst zzh;refine ⟨!decide ((d.start + i) % n=d.fin),fun Q hQ=>?_,fun c2=>?_,fun c2=>?_⟩
     ·walk_at "RD";refine ⟨_,Ta.same sm2,_,a3,rfl,?_⟩;walk_at "RD";exact hQ
     ·have c3:¬ (d.start + i) % n=d.fin:=by simpa using c2
      have hlt:(i:Int) < (d.fin - d.start) % n:=by
       have:(i:Int) ≠ (d.fin - d.start) % n:=fun z=>c3 ((yy f1.1 f1.2 f2.1 f2.2 (by omega) (by omega)).mpr z.symm)
       omega
      have e1:((d.start + i) % n + 1) % n=(d.start + ((i + 1:Nat):Int)) % n:=by
       rw [Int.add_emod,Int.emod_emod_of_dvd _ (Int.dvd_refl n),<- Int.add_emod];congr 1;omega
      have hdn':((d.start + ((i + 1:Nat):Int)) % n - d.start) % n=((i + 1:Nat):Int):=(yy (n:=n) (s:=d.start) (p:=(d.start + ((i + 1:Nat):Int)) % n) (j:=((i + 1:Nat):Int)) f1.1 f1.2 (Int.emod_nonneg _ (by omega)) (Int.emod_lt_of_pos _ (by omega)) (by omega) (by omega)).mp rfl;have k1:=cB (n:=n) (s:=d.start) (p:=e.start) (i:=i) f1.1 f1.2 f3.1 f3.2 (by omega) (by omega);have k2:=cB (n:=n) (s:=d.start) (p:=e.fin) (i:=i) f1.1 f1.2 f4.1 f4.2 (by omega) (by omega);have hne:e.start ≠ e.fin:=he.ne;have ei:((i + 1:Nat):Int)=(i:Int) + 1:=by omega
      walk_at "RD";refine ⟨by omega,?_⟩;rw [e1];refine Uh (fun b H3=>Pb H H3/\b=decide ((d.start + ((i + 1:Nat):Int)) % n=e.start\/(d.start + ((i + 1:Nat):Int)) % n=e.fin)) (fun Q hQ=>?_) (fun H3 ⟨sm3,h3⟩=>?_) (fun H3 ⟨sm3,h3⟩=>?_)
      ·walk_at "RD";refine ⟨_,Tb.same sm2,_,b2,_,Tb.same sm2,_,b3,by decide,fun p hp=>⟨_,.inr (SqT.of db),rfl,rfl,?_⟩⟩;rw [JP];exact hQ _ _ ⟨sm2.trans (wb hp),rfl⟩
      ·have h3':=of_decide_eq_true h3.symm;rw [ei] at h3';walk_at "RD";refine ⟨sm3,⟨i + 1,by omega,?_,rfl⟩,?_⟩
       ·rw [ei,k1,k2];rcases h3' with z | z
        ·rw [if_pos z,if_neg (fun y=>hne (by rw [<- z,<- y]))];omega
        ·rw [if_pos z,if_neg (fun y=>hne (by rw [<- z,<- y]))];omega
       ·rw [hdn,hdn'];omega
      ·have h3':=of_decide_eq_false h3.symm;rw [ei] at h3';walk_at "RD";refine ⟨sm3,⟨i + 1,by omega,?_,rfl⟩,?_⟩
       ·rw [ei,k1,k2,if_neg (fun z=>h3' (.inl z)),if_neg (fun z=>h3' (.inr z))];omega
       ·rw [hdn,hdn'];omega
     ·have c3:(d.start + i) % n=d.fin:=by simpa using c2
      have hL:(d.fin - d.start) % n=i:=by rw [<- c3];exact hdn
      have:=xH f1 f2 f3 f4 c' hb';rw [hL] at this;walk_at "RD";rw [this];exact q H2 sm2
 ·obtain ⟨n,a,b,d,e,h1,h2,h3,h4,h5,nt,q⟩:=h;exact ⟨nt,n,a,b,d,e,h1,h2,h3,h4,h5,fun H' sm=>⟨sm,q⟩⟩
end
end My
namespace My
open PySem L2
structure LGq (H0 H:Hp) (gl:Addr) (qs:List Addr) (gs:List (List WD)):Prop where
 h1:H gl=some (.lst (qs.map V.ref))
 h2:qs.length=gs.length
 h3:qs.Nodup
 h4:gl ∉ qs
 h5:∀ (i:Nat) (q:Addr) (g:List WD),qs[i]? = some q->gs[i]? = some g->LW H q g
 h6:∀ q ∈ qs,H0 q=none
theorem LGq.same {H0 H H':Hp} {gl:Addr} {qs:List Addr} {gs:List (List WD)} (h:LGq H0 H gl qs gs) (s:Pb H H'):LGq H0 H' gl qs gs:=
 ⟨s _ _ h.h1,h.h2,h.h3,h.h4,fun i q g a b=>(h.h5 i q g a b).same s,h.h6⟩
theorem LGq.sameX {H0 H H':Hp} {gl sl:Addr} {qs:List Addr} {gs:List (List WD)} {xs ys:List V} (h:LGq H0 H gl qs gs) (s:Dc sl H H') (h0:H0 sl=some (.lst xs)) (hg:H0 gl=none) (hs:H sl=some (.lst ys)):LGq H0 H' gl qs gs:=by
 refine ⟨s _ _ (fun z=>by rw [z,h0] at hg;cases hg) h.h1,h.h2,h.h3,h.h4,fun i q g a b=>?_,h.h6⟩;obtain ⟨ws,e1,e2,e3⟩:=h.h5 i q g a b;have hq:q ≠ sl:=fun z=>by
  have:=h.h6 q (mem_of_getElem? a);rw [z,h0] at this;cases this
 refine ⟨ws,s _ _ hq e1,e2,fun k r d x y=>?_⟩;have e:=e3 k r d x y;exact s _ _ (Zd e hs (by intro z;cases z)) e
theorem LW.put {H:Hp} {p q:Addr} {ds:List WD} {xs ys:List V} (h:LW H q ds) (hp:H p=some (.lst xs)) (hne:q ≠ p):LW (upd H p (.lst ys)) q ds:=by
 obtain ⟨qs,h1,h2,h3⟩:=h;refine ⟨qs,by rw [jb hne];exact h1,h2,fun i r d a b=>?_⟩;have e:=h3 i r d a b;rw [jb (Zd e hp (by intro z;cases z))];exact e
theorem LGq.put {H0 H:Hp} {gl q w:Addr} {gs:List (List WD)} {j:Nat} {g:List WD} {d:WD} {qs ws:List Addr} (h:LGq H0 H gl qs gs)
  (hq:qs[j]? = some q) (hg:gs[j]? = some g) (hl:H q=some (.lst (ws.map V.ref))) (hwl:ws.length=g.length) (hws:∀ (i:Nat) (r:Addr) (d:WD),ws[i]? = some r->g[i]? = some d->H r=some (.tup (Gh d))) (hw:H w=some (.tup (Gh d))) :
  LGq H0 (upd H q (.lst (ws.map V.ref ++ [.ref w]))) gl qs (gs.set j (g ++ [d])):=by
 obtain ⟨h1,h2,h3,h4,h5,h6⟩:=h;have hqg:gl ≠ q:=fun z=>h4 (by rw [z];exact mem_of_getElem? hq)
 refine ⟨by rw [jb hqg];exact h1,by rw [List.length_set];exact h2,h3,h4,fun i r g' a b=>?_,h6⟩;by_cases c:i=j
 ·subst c;rw [hq] at a;cases a;rw [getElem?_set_self (List.getElem?_eq_some_iff.mp hg).1] at b;cases b;refine ⟨ws ++ [w],by rw [db,map_append];rfl,by rw [length_append,length_append,hwl];rfl,fun i r e a b=>?_⟩;have key:H r=some (.tup (Gh e)):=by
   rcases Nf a with ⟨_,z2⟩ | ⟨z1,rfl⟩
   ·rcases Nf b with ⟨_,y2⟩ | ⟨y1,_⟩
    ·exact hws i r e z2 y2
    ·omega
   ·rcases Nf b with ⟨y1,_⟩ | ⟨_,rfl⟩
    ·omega
    ·exact hw
  rw [jb (Zd key hl (by intro z;cases z))];exact key
 ·rw [getElem?_set_ne (fun e=>c e.symm)] at b;have hne:r ≠ q:=fun e=>by
   subst e;obtain ⟨a1,b1⟩:=List.getElem?_eq_some_iff.mp a;obtain ⟨a2,b2⟩:=List.getElem?_eq_some_iff.mp hq;exact c ((List.getElem_inj h3).mp (b1.trans b2.symm))
  exact (h5 i r g' a b).put hl hne
theorem RF {n:Int} {d:WD}:∀ {gs:List (List WD)} {j:Nat} {g:List WD},gs[j]? = some g->(∀ g' ∈ gs.take j,g'.any (fun e=>mt n e d)=true)->g.any (fun e=>mt n e d)=false->bp n d gs=gs.set j (g ++ [d])
 | [],j,g,h,_,_=>by simp at h
 | g0 :: gs,0,g,h,_,hf=>by
  cases (show g0=g by simpa using h);unfold bp;rw [hf];rfl
 | g0 :: gs,j + 1,g,h,ht,hf=>by
  rw [getElem?_cons_succ] at h;unfold bp;rw [ht g0 (by simp)];show g0 :: bp n d gs=_;rw [RF h (fun g' hg'=>ht g' (by rw [List.take_succ_cons];exact mem_cons_of_mem _ hg')) hf];rfl
theorem iA {n:Int} {d:WD}:∀ {gs:List (List WD)},(∀ g' ∈ gs,g'.any (fun e=>mt n e d)=true)->bp n d gs=gs ++ [[d]]
 | [],_=>rfl
 | g0 :: gs,h=>by
  unfold bp;rw [h g0 (by simp)];show g0 :: bp n d gs=_;rw [iA fun g' hg'=>h g' (mem_cons_of_mem _ hg')];rfl
noncomputable def ky (K:W.Frag) (a:Addr) (ns:List Int):Sp:=fun vs H Q _=>∃ (n:Int) (wl:Addr) (ds:List WD),vs=[.ref a,.int n,.ref wl]/\Sc K a ns H/\LW H wl ds/\(∀ d ∈ ds,WOk n d)/\(ds.map (·.name)).Nodup/\(1 <= ds.length/\ds.length <= 9)/\∀ gl qs gs H',Pb H H'->NoT H'->H gl=none->gC n ds gs->LGq H H' gl qs gs->Q (.ref gl) H'
noncomputable def eqW (xs ys:List V):Bool:=(List.range 7).all fun j=>eqV (xs.getD j .non) (ys.getD j .non)
theorem nw (d:WD):∀ (j:Nat) (x:V),(Gh d)[j]? = some x->nk x=true
 | 0,_,h=>by cases h;rfl
 | 1,_,h=>by cases h;rfl
 | 2,_,h=>by cases h;rfl
 | 3,_,h=>by cases h;rfl
 | 4,_,h=>by cases h;rfl
 | 5,_,h=>by cases h;rfl
 | 6,_,h=>by cases h;rfl
 | j + 7,_,h=>by simp [Gh] at h
theorem yP {K:W.Frag} {H:Hp} {q p:Addr} {d e:WD} (hq:H q=some (.tup (Gh d))) (hp:H p=some (.tup (Gh e))):EqH K H 8 (.ref q) (.ref p) (eqW (Gh d) (Gh e)):=by
 have:=EqH.tup (k:=7) (e:=fun j=>eqV ((Gh d).getD j .non) ((Gh e).getD j .non)) (SqT.of (K:=K) hq) (SqT.of hp) (fun j x y h1 h2=>by
  rw [getD_eq_getElem?_getD,getD_eq_getElem?_getD,h1,h2];exact EqH.flat (nw d j x h1) (nw e j y h2))
 rwa [show ((List.range (min (Gh d).length (Gh e).length)).all (fun j=>eqV ((Gh d).getD j .non) ((Gh e).getD j .non)) && (Gh d).length == (Gh e).length)=eqW (Gh d) (Gh e) from Bool.and_true _] at this
theorem dH (d:WD):eqW (Gh d) (Gh d)=true:=by
 unfold eqW;refine List.all_eq_true.mpr fun j hj=>?_
 have hj:=List.mem_range.mp hj;have e:(Gh d)[j]? = some ((Gh d).getD j .non):=by
  rw [getD_eq_getElem?_getD,getElem?_eq_getElem (show j < (Gh d).length from hj)];rfl
 exact gB (nw d j _ e)
noncomputable def atW (H:Hp) (ys:List V) (q:Addr):Bool:=match H q with
 | some (.tup xs)=>eqW xs ys
 | _=>false
theorem LGq.new {H0 H:Hp} {gl p w:Addr} {gs:List (List WD)} {d:WD} {qs:List Addr} (h:LGq H0 H gl qs gs) (h0:Pb H0 H) (hp:H p=none) (hw:H w=some (.tup (Gh d))) :
  LGq H0 (upd (upd H p (.lst [.ref w])) gl (.lst (qs.map V.ref ++ [.ref p]))) gl (qs ++ [p]) (gs ++ [[d]]):=by
 have hgp:gl ≠ p:=yb h.h1 hp;have hnp:p ∉ qs:=fun z=>by
  obtain ⟨i,hi⟩:=getElem?_of_mem z;have il:i < gs.length:=by rw [<- h.h2];exact (List.getElem?_eq_some_iff.mp hi).1
  obtain ⟨ws,e,_⟩:=h.h5 i p _ hi (getElem?_eq_getElem il);rw [hp] at e;cases e
 refine ⟨by rw [db,map_append];rfl,by rw [length_append,length_append,h.h2];rfl,?_,?_,fun i q g a b=>?_,fun q hq=>?_⟩
 ·refine List.nodup_append.mpr ⟨h.h3,by simp,fun x hx y hy e=>?_⟩;rw [List.mem_singleton.mp hy] at e;rw [e] at hx;exact hnp hx
 ·intro z;rcases List.mem_append.mp z with z | z
  ·exact h.h4 z
  ·exact hgp (List.mem_singleton.mp z)
 ·rcases Nf a with ⟨z1,z2⟩ | ⟨z1,rfl⟩
  ·rcases Nf b with ⟨_,y2⟩ | ⟨y1,_⟩
   ·have L:=h.h5 i q g z2 y2;have hqg:q ≠ gl:=fun z=>h.h4 (by rw [<- z];exact mem_of_getElem? z2)
    exact (L.same (wb hp)).put (by rw [jb hgp];exact h.h1) hqg
   ·have:=h.h2;omega
  ·rcases Nf b with ⟨y1,_⟩ | ⟨_,rfl⟩
   ·have:=h.h2;omega
   ·refine ⟨[w],by rw [jb hgp.symm,db];rfl,rfl,fun k r e x y=>?_⟩;have hk:k=0:=by have:=(List.getElem?_eq_some_iff.mp x).1;simp at this;exact this
    subst hk;cases x;cases y;rw [jb (Zd hw h.h1 (by intro z;cases z)),jb (yb hw hp)];exact hw
 ·rcases List.mem_append.mp hq with z | z
  ·exact h.h6 q z
  ·rw [List.mem_singleton.mp z];exact h0.free hp
section
variable {P:Program} {w:World} {K:W.Frag} {mg:Str->Option Value} {base:Heap} {t:Adr}
theorem oE (T:Txt w K mg t) (a:Addr) (ns:List Int) (h63:ns.length <= 63):Gb P w K mg base CX0 2 t.nh t.mh ["_law_script","_law_places","_law_ways_here"] (ky K a ns):=by
 have g13:Gb P w K mg base CX0 1 t.sf t.qf ["_law_script","_law_k","_law_many"] (Re K a ns):=Ov T a ns h63;have g35:Gb P w K mg base CX0 1 t.Ij t.Aj ["_law_places","_law_one","_law_other"] (HA K):=dI T;refine T.Oj.ok Nd (fun vs H Q E h=>?_) (fun _ _ _ s H vs Q E hr h=>?_)
 ·obtain ⟨n,wl,ds,rfl,_⟩:=h;rfl
 have hU:=hr.units;obtain ⟨n,wl,ds,rfl,S,L,hw,hnd,⟨hdl1,hdl⟩,q⟩:=h;have nt:=S.nt;obtain ⟨ql,l1,l2,lal⟩:=id L;refine ⟨_,(cb (Db (i:=3) Nd.nd rfl (Or.inl rfl) (Cf fb))
   (cb (Wd PassesOwn.never rfl (Ac (pv 2)) (Cb (i:=4) Nd.nd rfl (Or.inr rfl)) (cb (Db (i:=5) Nd.nd rfl (Or.inl rfl) Cm)
   (cb (Wd PassesOwn.never rfl (Ac (pv 3)) (Cb (i:=6) Nd.nd rfl (Or.inl rfl)) (ib (Ye (PW.pt (zx (cj (Ph (pv 5))) (Jq (cj (vq (Xg rfl (Ac (pv 6)) (kd (sc:=rb gh) rfl (by decide +kernel)) (N:=["_law_one","_law_places","_law_way"]) (sel:=[none,some 1,some 4]) (Yd (M:=["_law_script","_law_places","_law_ways_here","_law_groups_here","_law_way","_law_put","_law_group"]) (by decide +kernel)) (Blk.of (fun _ _ _ _=>(Cb (i:=0) (Ug (N:=["_law_one","_law_places","_law_way"]) (by decide +kernel) rfl) rfl (Or.inl rfl))) (fun _ _ _ _=>⟨_,(Nr (Ph (Bb g35 hr rfl T.mr T.zj.kp T.Gs .nil Fb (bb (pv 1) (bb (pv 0) (bb (pv 2) fb)))))),by walk_at "B"⟩) (fun _ _ _ _=>⟨_,(pv 0),by walk_at "B"⟩))) (fun _=>rfl)))))) (cb (Xb (ol PySem.F.plainAttrs_list PySem.F.slot_list_append PySem.F.type_list_append Pe (pv 6) (bb (pv 4) fb)))
   (ib (Db (i:=5) Nd.nd rfl (Or.inl rfl) Cm))) zc)))
   (ib (Ye (cj (Ph (pv 5))) (ib (Xb (ol PySem.F.plainAttrs_list PySem.F.slot_list_append PySem.F.type_list_append Pe (pv 3) (bb (Cf (bb (pv 4) fb)) fb)))) zc)))))
   (cb (Ye (dc qk (Bb g13 hr rfl T.jc T.Vb.kp T.kc .nil Fb (bb (pv 0) (bb xb (bb xb fb)))) xb (yc _)) (cb (Db (i:=4) Nd.nd rfl (Or.inr rfl) (yd Zf (pv 2) (Bb g13 hr rfl T.jc T.Vb.kp T.kc .nil Fb (bb (pv 0) (bb xb (bb (Ed wc rfl T.Ql Zc (bb (pv 2) fb)) fb)))) (fun _ _=>rfl)))
   (ib (Wd PassesOwn.never rfl (Ac (pv 3)) (Cb (i:=6) Nd.nd rfl (Or.inl rfl)) (ib (Ye (PW.pt (zx (dc (sE hU) (pv 4) (pv 6) (by with_unfolding_all rfl)) (Jq (cj (vq (Xg rfl (Ac (pv 6)) (kd (sc:=rb gh) rfl (by decide +kernel)) (N:=["_law_one","_law_places","_law_way"]) (sel:=[none,some 1,some 4]) (Yd (M:=["_law_script","_law_places","_law_ways_here","_law_groups_here","_law_way","_law_put","_law_group"]) (by decide +kernel)) (Blk.of (fun _ _ _ _=>(Cb (i:=0) (Ug (N:=["_law_one","_law_places","_law_way"]) (by decide +kernel) rfl) rfl (Or.inl rfl))) (fun _ _ _ _=>⟨_,(Nr (Ph (Bb g35 hr rfl T.mr T.zj.kp T.Gs .nil Fb (bb (pv 1) (bb (pv 0) (bb (pv 2) fb)))))),by walk_at "B"⟩) (fun _ _ _ _=>⟨_,(pv 0),by walk_at "B"⟩))) (fun _=>rfl)))))) (cb (Xb (ol PySem.F.plainAttrs_list PySem.F.slot_list_append PySem.F.type_list_append Pe (pv 6) (bb (pv 4) fb)))
   (ib EH)) zc))))) zc)
   (ib (Lb (pv 3)))))),?_⟩
 refine zS (fun σ' H'=>Pb H H'/\NoT H'/\∃ gl,H gl=none/\H' gl=some (.lst [])/\σ'=[some (.ref a),some (.int n),some (.ref wl),some (.ref gl),none,none,none]) (fun D hD=>?_) fun zzM zzh=>?_
 ·walk_at "RD";exact ⟨Nat.zero_le _,fun gl hgl=>hD _ _ ⟨wb hgl,nt.upd,gl,hgl,db,rfl⟩⟩
 rintro σ1 H1 ⟨s1,n1,gl,hgl,w1,rfl⟩;subst zzh;refine zS (fun σ' H'=>Pb H H'/\NoT H'/\(∃ qs,LGq H H' gl qs (ud n ds))/\∃ x1 x2 x3,σ'=[some (.ref a),some (.int n),some (.ref wl),some (.ref gl),x1,x2,x3]) (fun D hD=>?_) fun zzM zzh=>?_
 ·walk_at "RD";refine ⟨⟨_,SqL.of (s1 _ _ l1)⟩,?_⟩;refine Qh.list (xs:=ql.map V.ref) (fun i σ H'=>Pb H H'/\NoT H'/\(∃ qs,LGq H H' gl qs (ud n (ds.take i)))/\∃ x1 x2 x3,σ=[some (.ref a),some (.int n),some (.ref wl),some (.ref gl),x1,x2,x3]) ?_ ?_ ?_ ?_
  ·exact ⟨s1,n1,⟨[],w1,rfl,List.nodup_nil,by simp,fun i q g h=>by simp at h,fun q h=>by simp at h⟩,_,_,_,rfl⟩
  ·rintro i σ H' hi ⟨sm,_⟩;exact SqL.of (sm _ _ l1)
  ·rintro i v σ H' hv zzq;refine zzP fun zzM zzh=>?_
   obtain ⟨s2,n2,⟨qs,G⟩,x1,x2,x3,rfl⟩:=zzq;obtain ⟨wi,hwi,rfl⟩:=Kb hv;have hid:i < ds.length:=by rw [<- l2];exact (List.getElem?_eq_some_iff.mp hwi).1
   have hd:ds[i]? = some ds[i]:=getElem?_eq_getElem hid;have ht0:=lal i wi _ hwi hd;have hwd:=hw _ (mem_of_getElem? hd);have enx:ud n (ds.take (i + 1))=bp n ds[i] (ud n (ds.take i)):=by rw [md hd,yz]
   have hmem:∀ g ∈ ud n (ds.take i),∀ e ∈ g,WOk n e:=fun g hg e he=>by
    have:=(Ce n (ds.take i)).mem_iff.mp (List.mem_flatten.mpr ⟨g,hg,he⟩);exact hw e (List.mem_of_mem_take this)
   have hgl9:∀ g ∈ ud n (ds.take i),g.length <= 9:=fun g hg=>by
    have h1:=(Ce n (ds.take i)).length_eq;have h2:=(List.sublist_flatten_of_mem hg).length_le;rw [length_take] at h1;omega
   have hgsl:(ud n (ds.take i)).length <= 9:=by
    have h1:=(Ce n (ds.take i)).length_eq;have h2:=xq (Rr n (ds.take i));rw [length_take] at h1;omega
   subst zzh;generalize ud n (ds.take i)=gs at G enx hmem hgl9 hgsl;simp only [yg,Mb,set_cons_succ,set_cons_zero];refine zzC (fun σ' H2=>H2=H'/\σ'=[some (.ref a),some (.int n),some (.ref wl),some (.ref gl),some (.ref wi),some (.bl false),x3]) (fun D hD=>?_) fun zzM zzh=>?_
   ·walk_at "RD";exact hD _ _ ⟨rfl,rfl⟩
   rintro σ3 H3 ⟨rfl,rfl⟩;subst zzh;simp only [Mb];refine zzC (fun σ' H4=>Pb H H4/\NoT H4/\∃ (p:Bool) (x3:Option V),(p=false->LGq H H4 gl qs gs/\∀ g' ∈ gs,g'.any (fun e=>mt n e ds[i])=true)/\(p=true->LGq H H4 gl qs (bp n ds[i] gs))/\σ'=[some (.ref a),some (.int n),some (.ref wl),some (.ref gl),some (.ref wi),some (.bl p),x3]) (fun D hD=>?_) fun zzM zzh=>?_
   ·walk_at "RD";refine ⟨⟨_,SqL.of G.h1⟩,?_⟩;refine Qh.list (xs:=qs.map V.ref) (fun j σ H4=>Pb H H4/\NoT H4/\∃ (p:Bool) (x3:Option V),(p=false->LGq H H4 gl qs gs/\∀ g' ∈ gs.take j,g'.any (fun e=>mt n e ds[i])=true)/\(p=true->LGq H H4 gl qs (bp n ds[i] gs))/\σ=[some (.ref a),some (.int n),some (.ref wl),some (.ref gl),some (.ref wi),some (.bl p),x3]) ?_ ?_ ?_ ?_
    ·exact ⟨s2,n2,false,_,fun _=>⟨G,fun g' h=>by simp at h⟩,(fun z=>nomatch z),rfl⟩
    ·rintro j σ H4 hj zzq;refine zzP fun zzM zzh=>?_
     obtain ⟨s4,n4,p,x3,hp0,hp1,rfl⟩:=zzq;subst zzh;cases p with
     | false=>exact SqL.of (hp0 rfl).1.h1
     | true=>exact SqL.of (hp1 rfl).h1
    ·rintro j v σ H4 hv zzq;refine zzP fun zzM zzh=>?_
     obtain ⟨s4,n4,p,x3,hp0,hp1,rfl⟩:=zzq;obtain ⟨qj,hqj,rfl⟩:=Kb hv;have hjg:j < gs.length:=by rw [<- G.h2];exact (List.getElem?_eq_some_iff.mp hqj).1
     have hgj:gs[j]? = some gs[j]:=getElem?_eq_getElem hjg;have ht4:=s4 _ _ ht0;subst zzh;simp only [yg,Mb,set_cons_succ,set_cons_zero];refine Uh (fun b H5=>Pb H4 H5/\NoT H5/\(b=true->p=false/\gs[j].any (fun e=>mt n e ds[i])=false)/\(b=false->p=true\/gs[j].any (fun e=>mt n e ds[i])=true)) (fun Q hQ=>?_) (fun H5 r=>?_) (fun H5 r=>?_)
     ·walk_at "RD";cases p with
      | true=>
       rw [if_neg (by decide)];exact hQ _ _ ⟨Pb.refl _,n4,(fun z=>nomatch z),fun _=>.inl rfl⟩
      | false=>
       rw [if_pos (show (!false)=true from rfl)];obtain ⟨G4,hall⟩:=hp0 rfl;obtain ⟨ws,w2,w3,w4⟩:=G4.h5 j qj _ hqj hgj;have hgm:=mem_of_getElem? hgj;refine ⟨⟨_,SqL.of w2⟩,?_⟩;refine fe.list (xs:=ws.map V.ref) (fun k ys H5=>H5=H4/\ys.length <= k/\(ys.isEmpty = !((gs[j].take k).any (fun e=>mt n e ds[i])))) (Nat.le_trans (show (ws.map V.ref).length <= 9 by rw [length_map,w3];exact hgl9 _ hgm) (by decide)) ⟨rfl,Nat.le_refl _,by rw [take_zero];rfl⟩ (fun k ys H5 hk h=>by obtain ⟨rfl,hl,_⟩:=h;exact ⟨SqL.of w2,hl⟩) ?_ ?_
       ·rintro k x ys H5 hx ⟨rfl,hl,hiff⟩ N hN;obtain ⟨wk,hwk,rfl⟩:=Kb hx;have hkg:k < gs[j].length:=by rw [<- w3];exact (List.getElem?_eq_some_iff.mp hwk).1
        have hek:gs[j][k]? = some gs[j][k]:=getElem?_eq_getElem hkg;have htk:(gs[j].take (k + 1)).any (fun e=>mt n e ds[i])=((gs[j].take k).any (fun e=>mt n e ds[i]) || mt n gs[j][k] ds[i]):=by
         rw [md hek,List.any_append];simp
        walk_at "RD";refine ⟨Sub.name,n,wk,wi,gs[j][k],ds[i],rfl,SqT.of (w4 k wk _ hwk hek),SqT.of ht4,hmem _ hgm _ (mem_of_getElem? hek),hwd,n4,_,rfl,?_⟩;cases hb:mt n gs[j][k] ds[i] with
        | true=>
         rw [if_pos rfl];exact hN _ _ ⟨rfl,by rw [length_append,List.length_singleton];omega,by rw [htk,hb,Bool.or_true];simp⟩
        | false=>
         rw [if_neg (by decide)];exact hN _ _ ⟨rfl,by omega,by rw [htk,hb,Bool.or_false];exact hiff⟩
       ·rintro ys H5 ⟨rfl,hl,hiff⟩ p2 hp2;rw [length_map,w3,take_length] at hiff;refine ⟨!ys.isEmpty,.inl ⟨ys,SqL.of db,rfl⟩,hQ _ _ ⟨wb hp2,n4.upd,fun z=>⟨rfl,?_⟩,fun z=>.inr ?_⟩⟩
        ·rw [hiff] at z;simpa using z
        ·rw [hiff] at z;simpa using z
     ·obtain ⟨s5,n5,r,_⟩:=r;obtain ⟨rfl,hany⟩:=r rfl;obtain ⟨G4,hall⟩:=hp0 rfl;have G5:=G4.same s5;obtain ⟨ws,w2,w3,w4⟩:=G5.h5 j qj _ hqj hgj;have hput:=RF (n:=n) (d:=ds[i]) hgj hall hany;walk_at "RD";refine ⟨.inl ⟨_,SqL.of w2⟩,_,w2,Nat.lt_of_le_of_lt (show (ws.map V.ref).length <= 9 by rw [length_map,w3];exact hgl9 _ (mem_of_getElem? hgj)) (by decide),(s4.trans s5).updN (G4.h6 qj (mem_of_getElem? hqj)),n5.upd,true,(fun z=>nomatch z),fun _=>?_,rfl,_,rfl⟩;rw [hput];exact G5.put hqj hgj w2 w3 w4 (s5 _ _ ht4)
     ·obtain ⟨s5,n5,_,r⟩:=r;have r:=r rfl;walk_at "RD";refine ⟨s4.trans s5,n5,p,fun z=>?_,fun z=>(hp1 z).same s5,rfl,_,rfl⟩;obtain ⟨G4,hall⟩:=hp0 z;refine ⟨G4.same s5,fun g' hg'=>?_⟩;rw [md hgj] at hg';rcases List.mem_append.mp hg' with hg' | hg'
      ·exact hall g' hg'
      ·rw [List.mem_singleton.mp hg'];rcases r with r | r
       ·rw [z] at r;cases r
       ·exact r
    ·rintro σ H4 zzq;refine zzP fun zzM zzh=>?_
     obtain ⟨s4,n4,p,x3,hp0,hp1,rfl⟩:=zzq;subst zzh;refine hD _ _ ⟨s4,n4,p,x3,fun z=>?_,hp1,rfl⟩;obtain ⟨a1,a2⟩:=hp0 z;rw [length_map,G.h2,take_length] at a2;exact ⟨a1,a2⟩
   rintro σ4 H4 ⟨s4,n4,p,x3,hp0,hp1,rfl⟩;subst zzh;dsimp only;refine Pc (!p) (fun Q hQ=>?_) (fun cc=>?_) (fun cc=>?_)
   ·walk_at "RD";exact hQ
   ·have hp:p=false:=by simpa using cc
    subst hp;obtain ⟨G4,hall⟩:=hp0 rfl;have ht4:=s4 _ _ ht0;rw [iA hall] at enx;walk_at "RD";refine ⟨.inl ⟨_,SqL.of G4.h1⟩,by decide,fun p2 hp2=>?_⟩;have hwp:gl ≠ p2:=yb G4.h1 hp2;refine ⟨_,by rw [jb hwp];exact G4.h1,Nat.lt_of_le_of_lt (show (qs.map V.ref).length <= 9 by rw [length_map,G4.h2];exact hgsl) (by decide),(s4.trans (wb hp2)).updN hgl,(n4.upd).upd,⟨qs ++ [p2],?_⟩,_,rfl⟩;rw [enx];exact G4.new s4 hp2 ht4
   ·have hp:p=true:=by simpa using cc
    subst hp;have G4:=hp1 rfl;walk_at "RD";exact ⟨s4,n4,⟨qs,by rw [enx];exact G4⟩,_,rfl⟩
  ·rintro σ H' zzq;refine zzP fun zzM zzh=>?_
   obtain ⟨s2,n2,⟨qs,G⟩,x1,x2,x3,rfl⟩:=zzq;subst zzh;rw [length_map,l2,take_length] at G;exact hD _ _ ⟨s2,n2,⟨qs,G⟩,_,_,_,rfl⟩
 rintro σ2 H2 ⟨s2,n2,⟨qs,G⟩,x1,x2,x3,rfl⟩;have S2:=S.same s2 n2;have gF:=yK (n:=n) hnd;have ggl:(ud n ds).length <= 9:=by
  have h1:=(Ce n ds).length_eq;have h2:=xq (Rr n ds);omega
 have gg9:∀ g ∈ ud n ds,g.length <= 9:=fun g hg=>by
  have h1:=(Ce n ds).length_eq;have h2:=(List.sublist_flatten_of_mem hg).length_le;omega
 have gok:∀ g ∈ ud n ds,∀ e ∈ g,WOk n e:=fun g hg e he=>hw e ((Ce n ds).mem_iff.mp (List.mem_flatten.mpr ⟨g,hg,he⟩))
 subst zzh;refine zS (fun σ' H'=>Pb H H'/\NoT H'/\(∃ qs gs,gC n ds gs/\LGq H H' gl qs gs)/\∃ x1 x2 x3,σ'=[some (.ref a),some (.int n),some (.ref wl),some (.ref gl),x1,x2,x3]) (fun D hD=>?_) fun zzM zzh=>?_
 ·refine Pc (decide (jj ns 160 3=1)) (fun Q hQ=>?_) (fun cc=>?_) (fun cc=>?_)
  ·walk_at "RD";refine ⟨_,_,rfl,S2,by decide,by decide,rfl,?_⟩;walk_at "RD";exact hQ
  ·have e1:=uf ns 161 (m:=(ds.length:Int)) (by omega);have e2:=tf ns 161 (m:=(ds.length:Int)) (by omega);obtain ⟨k,hk⟩:∃ k:Nat,jj ns 161 (ds.length:Int)=(k:Int):=⟨_,(Int.toNat_of_nonneg e1).symm⟩;have hkl:k < ds.length:=by omega
   have hdk:ds[k]? = some ds[k]:=getElem?_eq_getElem hkl;have hqk:ql[k]? = some (ql[k]'(by omega)):=getElem?_eq_getElem (by omega);have ewk:=lal k _ _ hqk hdk;have hdm:=mem_of_getElem? hdk;have l2':=s2 _ _ l1;generalize hwk:(ql[k]'(by omega))=wk at hqk ewk;generalize hdd:ds[k]=d at hdk ewk hdm;simp only [Mb];refine zzC (fun σ' H'=>H'=H2/\σ'=[some (.ref a),some (.int n),some (.ref wl),some (.ref gl),some (.ref wk),x2,x3]) (fun D hD=>?_) fun zzM zzh=>?_
   ·walk_at "RD";refine ⟨_,.inl (SqL.of l2'),?_⟩;rw [show (ql.map V.ref).length=ds.length by rw [length_map,l2]];exact ⟨_,_,rfl,S2,by decide,by omega,_,_,rfl,SqL.of l2',_,by rw [hk];exact Bc (by rw [getElem?_map,hqk];rfl),hD _ _ ⟨rfl,rfl⟩⟩
   rintro σ3 H3 ⟨rfl,rfl⟩;subst zzh;walk_at "RD";refine ⟨⟨_,SqL.of G.h1⟩,?_⟩;refine Qh.list (xs:=qs.map V.ref) (fun j σ H4=>Pb H H4/\NoT H4/\LGq H H4 gl qs (ud n ds)/\∃ x3,σ=[some (.ref a),some (.int n),some (.ref wl),some (.ref gl),some (.ref wk),x2,x3]) ?_ ?_ ?_ ?_
   ·exact ⟨s2,n2,G,_,rfl⟩
   ·rintro j σ H4 hj zzq;refine zzP fun zzM zzh=>?_
    obtain ⟨_,_,G4,_⟩:=zzq;subst zzh;exact SqL.of G4.h1
   ·rintro j v σ H4 hv zzq;refine zzP fun zzM zzh=>?_
    obtain ⟨s4,n4,G4,x3,rfl⟩:=zzq;obtain ⟨qj,hqj,rfl⟩:=Kb hv;have hjg:j < (ud n ds).length:=by rw [<- G.h2];exact (List.getElem?_eq_some_iff.mp hqj).1
    obtain ⟨g,hgj⟩:∃ g,(ud n ds)[j]? = some g:=⟨_,getElem?_eq_getElem hjg⟩;have ht4:=s4 _ _ ewk;have hgm:=mem_of_getElem? hgj;obtain ⟨ws,w2,w3,w4⟩:=G4.h5 j qj _ hqj hgj;subst zzh;simp only [yg,Mb,set_cons_succ,set_cons_zero];refine Uh (fun b H5=>Pb H4 H5/\NoT H5/\(b=true->d ∉ g/\g.any (fun e=>mt n e d)=false)) (fun Q hQ=>?_) (fun H5 r=>?_) (fun H5 r=>?_)
    ·walk_at "RD";refine ⟨ws,SqL.of w2,atW H4 (Gh d),fun q hq=>?_,?_⟩
     ·obtain ⟨i,hi⟩:=getElem?_of_mem hq;have hil:i < g.length:=by rw [<- w3];exact (List.getElem?_eq_some_iff.mp hi).1
      have e:=w4 i q _ hi (getElem?_eq_getElem hil);unfold atW;rw [e];exact yP e ht4
     by_cases c:ws.any (atW H4 (Gh d))=true
     ·rw [if_neg (by rw [c];decide)];exact hQ _ _ ⟨Pb.refl _,n4,fun z=>nomatch z⟩
     rw [if_pos (by simpa using c)];have hnot:d ∉ g:=fun hm=>by
      obtain ⟨i,hi⟩:=getElem?_of_mem hm;have hwi:ws[i]? = some (ws[i]'(by rw [w3];exact (List.getElem?_eq_some_iff.mp hi).1)):=getElem?_eq_getElem _;exact c (List.any_eq_true.mpr ⟨_,mem_of_getElem? hwi,by unfold atW;rw [w4 i _ d hwi hi];exact dH d⟩)
     refine ⟨⟨_,SqL.of w2⟩,?_⟩;refine fe.list (xs:=ws.map V.ref) (fun k ys H5=>H5=H4/\ys.length <= k/\(ys.isEmpty = !((g.take k).any (fun e=>mt n e d)))) (Nat.le_trans (show (ws.map V.ref).length <= 9 by rw [length_map,w3];exact gg9 _ hgm) (by decide)) ⟨rfl,Nat.le_refl _,by rw [take_zero];rfl⟩ (fun k ys H5 hk h=>by obtain ⟨rfl,hl,_⟩:=h;exact ⟨SqL.of w2,hl⟩) ?_ ?_
     ·rintro k x ys H5 hx ⟨rfl,hl,hiff⟩ N hN;obtain ⟨wk',hwk',rfl⟩:=Kb hx;have hkg:k < g.length:=by rw [<- w3];exact (List.getElem?_eq_some_iff.mp hwk').1
      have hek:g[k]? = some g[k]:=getElem?_eq_getElem hkg;have htk:(g.take (k + 1)).any (fun e=>mt n e d)=((g.take k).any (fun e=>mt n e d) || mt n g[k] d):=by
       rw [md hek,List.any_append];simp
      walk_at "RD";refine ⟨Sub.name,n,wk',wk,g[k],d,rfl,SqT.of (w4 k wk' _ hwk' hek),SqT.of ht4,gok _ hgm _ (mem_of_getElem? hek),hw d hdm,n4,_,rfl,?_⟩;cases hb:mt n g[k] d with
      | true=>
       rw [if_pos rfl];exact hN _ _ ⟨rfl,by rw [length_append,List.length_singleton];omega,by rw [htk,hb,Bool.or_true];simp⟩
      | false=>
       rw [if_neg (by decide)];exact hN _ _ ⟨rfl,by omega,by rw [htk,hb,Bool.or_false];exact hiff⟩
     ·rintro ys H5 ⟨rfl,hl,hiff⟩ p2 hp2;rw [length_map,w3,take_length] at hiff;refine ⟨!ys.isEmpty,.inl ⟨ys,SqL.of db,rfl⟩,hQ _ _ ⟨wb hp2,n4.upd,fun z=>⟨hnot,?_⟩⟩⟩;rw [hiff] at z;simpa using z
    ·obtain ⟨s5,n5,r⟩:=r;obtain ⟨hnot,hany⟩:=r rfl;have G5:=G4.same s5;obtain ⟨ws,w2,w3,w4⟩:=G5.h5 j qj _ hqj hgj;walk_at "RD";refine ⟨.inl ⟨_,SqL.of w2⟩,_,w2,Nat.lt_of_le_of_lt (show (ws.map V.ref).length <= 9 by rw [length_map,w3];exact gg9 _ hgm) (by decide),hD _ _ ⟨(s4.trans s5).updN (G4.h6 qj (mem_of_getElem? hqj)),n5.upd,⟨qs,_,RI hnd hdm hgj hnot (fun e he=>by have:=List.any_eq_false.mp hany e he;simpa using this),G5.put hqj hgj w2 w3 w4 (s5 _ _ ht4)⟩,_,_,_,rfl⟩⟩
    ·obtain ⟨s5,n5,_⟩:=r;simp only [oh];exact ⟨s4.trans s5,n5,G4.same s5,_,rfl⟩
   ·rintro σ H4 zzq;refine zzP fun zzM zzh=>?_
    obtain ⟨s4,n4,G4,x3,rfl⟩:=zzq;subst zzh;exact hD _ _ ⟨s4,n4,⟨qs,_,gF,G4⟩,_,_,_,rfl⟩
  ·simp only [oh];exact hD _ _ ⟨s2,n2,⟨qs,_,gF,G⟩,_,_,_,rfl⟩
 rintro σ3 H3 ⟨s3,n3,⟨qs,gs,g3,G3⟩,x1,x2,x3,rfl⟩;subst zzh;walk_at "RD";exact q gl qs gs H3 s3 n3 hgl g3 G3
end
end My
namespace My
open PySem L2
theorem WL {r n:Nat} (h:r < n):seqIndex? (r:Int) n=some r:=by
 unfold seqIndex?;simp only;rw [if_neg (show ¬ (r:Int) < 0 by omega),if_pos (by simp;omega),Int.toNat_natCast]
theorem mK {α β:Type} (f:α->β) (l:List α) (r:Nat):(l.map f).eraseIdx r=(l.eraseIdx r).map f:=by
 rw [List.eraseIdx_eq_take_drop_succ,List.eraseIdx_eq_take_drop_succ,map_append,List.map_take,List.map_drop]
theorem Bu {α:Type}:∀ {l:List α} {k:Nat} {x:α},l[k]? = some x->([x] ++ l.eraseIdx k).Perm l
 | [],k,x,h=>by simp at h
 | a :: l,0,x,h=>by
  cases (show a=x by simpa using h);exact List.Perm.refl _
 | a :: l,k + 1,x,h=>by
  rw [getElem?_cons_succ] at h;show (x :: a :: l.eraseIdx k).Perm (a :: l);exact (List.Perm.swap a x _).trans (List.Perm.cons a (Bu h))
theorem LO.snoc {H:Hp} {wl p:Addr} {os:List HO} {o:HO} {qs:List Addr} (l1:H wl=some (.lst (qs.map V.ref))) (lq:LQ H qs os) (hp:H p=none) (ho:∀ xs,o ≠ .lst xs) (hos:∀ u ∈ os,∀ xs,u ≠ .lst xs) :
  LO (upd (upd H p o) wl (.lst (qs.map V.ref ++ [.ref p]))) wl (os ++ [o]):=by
 have hpw:p ≠ wl:=(yb l1 hp).symm;refine ⟨qs ++ [p],by rw [db,map_append];rfl,LQ.app ⟨lq.1,fun i q u hq hu=>?_⟩ (LQ.one (by rw [jb hpw,db]))⟩;have e:=lq.2 i q u hq hu;rw [jb (Zd e l1 (hos u (mem_of_getElem? hu) _)),jb (yb e hp)];exact e
theorem AQ (s:SD):atI [V.str s.name,.int s.b,.int s.n] 0=some (.str s.name):=Bc (j:=0) rfl
theorem gN (s:SD):atI [V.str s.name,.int s.b,.int s.n] 1=some (.int s.b):=Bc (j:=1) rfl
theorem MP (s:SD):atI [V.str s.name,.int s.b,.int s.n] 2=some (.int s.n):=Bc (j:=2) rfl
theorem lQ {sp:List SD}:∀ u ∈ List.map sdO sp,∀ xs,u ≠ .lst xs:=fun u hu xs z=>by
 obtain ⟨s,_,rfl⟩:=List.mem_map.mp hu;cases z
theorem XN (d:WD):atI (Gh d) 1=some (.str d.name):=Bc (j:=1) rfl
theorem lI (d:WD):atI (Gh d) 6=some (.int d.least):=Bc (j:=6) rfl
theorem kK:∀ {l:List Int},l ≠ []->∃ m,m ∈ l/\∀ k ∈ l,k <= m
 | [],h=>absurd rfl h
 | [x],_=>⟨x,by simp,fun k hk=>by rw [List.mem_singleton.mp hk];exact Int.le_refl _⟩
 | x :: y :: r,_=>by
  obtain ⟨m,hm,al⟩:=kK (l:=y :: r) (by simp);by_cases c:x <= m
  ·refine ⟨m,mem_cons_of_mem _ hm,fun k hk=>?_⟩;rcases List.mem_cons.mp hk with rfl | hk
   ·exact c
   ·exact al k hk
  ·refine ⟨x,by simp,fun k hk=>?_⟩;rcases List.mem_cons.mp hk with rfl | hk
   ·exact Int.le_refl _
   ·exact Int.le_trans (al k hk) (by omega)
noncomputable def wy (K:W.Frag) (a:Addr) (ns:List Int):Sp:=fun vs H Q _=>∃ (n:Int) (wl:Addr) (ds:List WD),vs=[.ref a,.int n,.ref wl]/\Sc K a ns H/\LW H wl ds/\Qs n ds/\(1 <= ds.length/\ds.length <= 9) /\
 ∀ (tp rl:Addr) (z:Nat) (gs:List (List WD)) (sp rs:List SD) (sh:Int) (H':Hp),Pb H H'->Sc K a ns H'->H' tp=some (.tup [.int z,.ref rl])->LO H' rl (List.map sdO rs)->gC n ds gs->bD gs z sp->rs.Perm (sp.map (Nh z sh))->(13 <= z/\z <= 190)->Q (.ref tp) H'
section
variable {P:Program} {w:World} {K:W.Frag} {mg:Str->Option Value} {base:Heap} {t:Adr}
theorem zF (T:Txt w K mg t) (a:Addr) (ns:List Int) (h63:ns.length <= 63):Gb P w K mg base CX0 3 t.ji t.Xh ["_law_script","_law_places","_law_ways_here"] (wy K a ns):=by
 have g13:Gb P w K mg base CX0 2 t.sf t.qf ["_law_script","_law_k","_law_many"] (Re K a ns):=(Ov T a ns h63).mono (by decide);have g73:Gb P w K mg base CX0 2 t.nh t.mh ["_law_script","_law_places","_law_ways_here"] (ky K a ns):=oE T a ns h63;refine T.yk.ok Ic (fun vs H Q E h=>?_) (fun _ _ _ s H vs Q E hr h=>?_)
 ·obtain ⟨n,wl,ds,rfl,_⟩:=h;rfl
 obtain ⟨n,wl,ds,rfl,S,L,D,hdl,q⟩:=h;refine ⟨_,(cb (Db (i:=3) Ic.nd rfl (Or.inl rfl) (Cf fb))
   (cb (Db (i:=4) Ic.nd rfl (Or.inr rfl) xb)
   (cb (Wd PassesOwn.never rfl (Ac (Bb g73 hr rfl T.Kv T.Oj.kp T.Uv .nil Fb (bb (pv 0) (bb (pv 1) (bb (pv 2) fb))))) (Cb (i:=5) Ic.nd rfl (Or.inl rfl)) (cb (Db (i:=6) Ic.nd rfl (Or.inl rfl) (Nb Qc (Ed (dF rfl) rfl T.ZO uu (bb (Xg rfl (Ac (pv 5)) (kd (sc:=rb ni) rfl (by decide +kernel)) (N:=["_law_way"]) (sel:=[none]) (Yd (M:=["_law_script","_law_places","_law_ways_here","_law_spans_here","_law_at","_law_group","_law_length","_law_way","_law_late","_law_turns","_law_shift","_law_rows"]) (by decide +kernel)) (Blk.of (fun _ _ _ _=>(Cb (i:=0) (Ug (N:=["_law_way"]) (by decide +kernel) rfl) rfl (Or.inl rfl))) (fun _ _ _ _=>⟨_,ag,by walk_at "B"⟩) (fun _ _ _ _=>⟨_,(yd Vc (pv 0) xb (fun _ _=>rfl)),by walk_at "B"⟩))) fb)) (Bb g13 hr rfl T.jc T.Vb.kp T.kc .nil Fb (bb (pv 0) (bb (Nb Qc xb (pv 4)) (bb xb fb))))))
   (cb (Wd PassesOwn.never rfl (Ac (pv 5)) (Cb (i:=7) Ic.nd rfl (Or.inl rfl)) (cb (Db (i:=8) Ic.nd rfl (Or.inl rfl) (Bb g13 hr rfl T.jc T.Vb.kp T.kc .nil Fb (bb (pv 0) (bb (Nb Qc xb (Ed wc rfl T.Ql Zc (bb (pv 3) fb))) (bb (Nb Qc (Nb Mg (pv 6) (yd Vc (pv 7) xb (fun _ _=>rfl))) xb) fb)))))
   (cb (Db (i:=9) Ic.nd rfl (Or.inl rfl) (Nb Qc (yd Vc (pv 7) xb (fun _ _=>rfl)) (Bb g13 hr rfl T.jc T.Vb.kp T.kc .nil Fb (bb (pv 0) (bb (Nb Qc xb (Ed wc rfl T.Ql Zc (bb (pv 3) fb))) (bb (Nb Qc (Nb Mg (Nb Mg (pv 6) (yd Vc (pv 7) xb (fun _ _=>rfl))) (pv 8)) xb) fb))))))
   (ib (Xb (ol PySem.F.plainAttrs_list PySem.F.slot_list_append PySem.F.type_list_append Pe (pv 3) (bb (Uj (bb (yd Vc (pv 7) xb (fun _ _=>rfl)) (bb (Nb Qc (pv 4) (pv 8)) (bb (pv 9) fb)))) fb)))))))
   (ib (Db (i:=4) Ic.nd rfl (Or.inr rfl) (Nb Qc (Nb Qc (pv 4) (pv 6)) xb))))))
   (cb (Db (i:=10) Ic.nd rfl (Or.inr rfl) (Bb g13 hr rfl T.jc T.Vb.kp T.kc .nil Fb (bb (pv 0) (bb xb (bb (pv 4) fb)))))
   (cb (qh (i:=3) Ic.nd rfl (Or.inl rfl) rfl (Ac (pv 3)) (kd (sc:=rb ni) rfl (by decide +kernel)) (N:=["_law_span","_law_shift","_law_at"]) (sel:=[none,some 10,some 4]) (Yd (M:=["_law_script","_law_places","_law_ways_here","_law_spans_here","_law_at","_law_group","_law_length","_law_way","_law_late","_law_turns","_law_shift","_law_rows"]) (by decide +kernel)) (Blk.of (fun _ _ _ _=>(Cb (i:=0) (Ug (N:=["_law_span","_law_shift","_law_at"]) (by decide +kernel) rfl) rfl (Or.inl rfl))) (fun _ _ _ _=>⟨_,ag,by walk_at "B"⟩) (fun _ _ _ _=>⟨_,(Uj (bb (yd Vc (pv 0) xb (fun _ _=>rfl)) (bb (Nb Mf (Nb Qc (yd Vc (pv 0) xb (fun _ _=>rfl)) (pv 1)) (pv 2)) (bb (yd Vc (pv 0) xb (fun _ _=>rfl)) fb)))),by walk_at "B"⟩)) rfl)
   (cb (Db (i:=11) Ic.nd rfl (Or.inl rfl) (Cf fb))
   (cb (zA PassesOwn.never (dc FD (Ed wc rfl T.Ql Zc (bb (pv 3) fb)) xb (yc _)) (ib (Xb (ol PySem.F.plainAttrs_list PySem.F.slot_list_append PySem.F.type_list_append Pe (pv 11) (bb (ol PySem.F.plainAttrs_list PySem.F.slot_list_pop PySem.F.type_list_pop gI (pv 3) (bb (Bb g13 hr rfl T.jc T.Vb.kp T.kc .nil Fb (bb (pv 0) (bb (Nb Qc xb (Ed wc rfl T.Ql Zc (bb (pv 3) fb))) (bb (Ed wc rfl T.Ql Zc (bb (pv 3) fb)) fb)))) fb)) fb)))))
   (ib (Lb (Uj (bb (pv 4) (bb (pv 11) fb)))))))))))),?_⟩
 refine zS (fun σ' H'=>Pb H H'/\Sc K a ns H'/\∃ sl,H sl=none/\H' sl=some (.lst [])/\σ'=[some (.ref a),some (.int n),some (.ref wl),some (.ref sl),none,none,none,none,none,none,none,none]) (fun D hD=>?_) fun zzM zzh=>?_
 ·walk_at "RD";exact ⟨Nat.zero_le _,fun sl hsl=>hD _ _ ⟨wb hsl,S.new hsl,sl,hsl,db,rfl⟩⟩
 rintro σ1 H1 ⟨s1,S1,sl,hsl,w1,rfl⟩;subst zzh;refine zS (fun σ' H'=>H'=H1/\σ'=[some (.ref a),some (.int n),some (.ref wl),some (.ref sl),some (.int 0),none,none,none,none,none,none,none]) (fun D hD=>?_) fun zzM zzh=>?_
 ·walk_at "RD";exact hD _ _ ⟨rfl,rfl⟩
 rintro σ2 H2 ⟨rfl,rfl⟩;subst zzh;refine zS (fun σ' H'=>Pb H H'/\Sc K a ns H'/\(∃ (z:Nat) (gs:List (List WD)) (sp:List SD),LO H' sl (List.map sdO sp)/\gC n ds gs/\bD gs z sp/\(13 <= z/\z <= 190)/\∃ x5 x6 x7 x8 x9,σ'=[some (.ref a),some (.int n),some (.ref wl),some (.ref sl),some (.int z),x5,x6,x7,x8,x9,none,none])) (fun D' hD=>?_) fun zzM zzh=>?_
 ·walk_at "RD";refine ⟨n,wl,ds,rfl,S1,L.same s1,fun d hd=>(D.al d hd).1,D.nd,by omega,fun gl qs gs H3 s3 n3 hgl G0 G=>?_⟩;have gne:=G0.ne;have gfl:=G0.len;have gl4:gs.length <= 10:=by have:=xq gne;omega
  have gl1:1 <= gs.length:=by
   cases e:gs with
   | nil=>
    obtain ⟨d0,hd0⟩:=List.exists_mem_of_length_pos (show 0 < ds.length by omega);have:=G0.all hd0;rw [e] at this;simp at this
   | cons x y=>simp
  have gok:∀ g ∈ gs,∀ d ∈ g,WOk n d/\d.off <= 8/\d.least <= 4:=fun g hg d hd=>D.al d (G0.inn (List.mem_flatten.mpr ⟨g,hg,hd⟩))
  have gsz:∀ g ∈ gs,g.length <= 10:=fun g hg=>by
   have h1:=(List.sublist_flatten_of_mem hg).length_le;omega
  have S3:=S1.same s3 n3;refine ⟨gl,rfl,⟨_,SqL.of G.h1⟩,?_⟩;refine Qh.list (xs:=qs.map V.ref) (fun i σ H'=>Dc sl H3 H'/\Pb H H'/\Sc K a ns H'/\(∃ (z:Nat) (sp:List SD),LO H' sl (List.map sdO sp)/\bD (gs.take i) z sp/\(13 * i <= z/\z <= 19 * i)/\∃ x5 x6 x7 x8 x9,σ=[some (.ref a),some (.int n),some (.ref wl),some (.ref sl),some (.int z),x5,x6,x7,x8,x9,none,none])) ?_ ?_ ?_ ?_
  ·refine ⟨fun b u _ e=>e,s1.trans s3,S3,0,[],⟨[],s3 _ _ w1,LQ.nil _⟩,by rw [take_zero];exact bD.nil,by omega,_,_,_,_,_,rfl⟩
  ·rintro i σ H' hi ⟨sx,_⟩;exact SqL.of (G.sameX sx w1 hgl (s3 _ _ w1)).h1
  ·rintro i v σ H' hv zzq;refine zzP fun zzM zzh=>?_
   obtain ⟨sx,sm,S4,z,sp,L4,W4,hz,x5,x6,x7,x8,x9,rfl⟩:=zzq;obtain ⟨qi,hqi,rfl⟩:=Kb hv;have hig:i < gs.length:=by rw [<- G.h2];exact (List.getElem?_eq_some_iff.mp hqi).1
   have hgi:gs[i]? = some gs[i]:=getElem?_eq_getElem hig;obtain ⟨ws,v10,v2,v30⟩:=G.h5 i qi _ hqi hgi;have hqs:qi ≠ sl:=fun z'=>by
    have:=G.h6 qi (mem_of_getElem? hqi);rw [z',w1] at this;cases this
   have v1:=sx _ _ hqs v10;have keep:∀ {H6:Hp},Dc sl H3 H6->∀ (k:Nat) (r:Addr) (d:WD),ws[k]? = some r->gs[i][k]? = some d->H6 r=some (.tup (Gh d)):=fun sx6 k r d x y=>sx6 _ _ (Zd (v30 k r d x y) (s3 _ _ w1) (by intro z;cases z)) (v30 k r d x y)
   have v3:=keep sx;have hgm:=mem_of_getElem? hgi;have hg4:=gsz _ hgm;have hsp4:sp.length <= 10:=by
    have h1:=W4.len;have h2:(gs.take i ++ gs.drop i).flatten.length=(gs.take i).flatten.length + (gs.drop i).flatten.length:=by rw [List.flatten_append,length_append]
    rw [List.take_append_drop] at h2;omega
   obtain ⟨m,hm,hmax⟩:=kK (l:=gs[i].map (·.least)) (fun z=>gne _ hgm (List.map_eq_nil_iff.mp z));have hm14:1 <= m/\m <= 4:=by
    obtain ⟨d,hd,rfl⟩:=List.mem_map.mp hm;have:=gok _ hgm d hd;exact ⟨this.1.le.1,this.2.2⟩
   have d1:=uf ns (170 + (z:Int)) (m:=4) (by decide);have d2:=tf ns (170 + (z:Int)) (m:=4) (by decide);subst zzh;simp only [yg,Mb,set_cons_succ,set_cons_zero];refine zzC (fun σ' H5=>Pb H' H5/\Sc K a ns H5/\∃ len:Int,(m <= len/\len <= m + 3)/\σ'=[some (.ref a),some (.int n),some (.ref wl),some (.ref sl),some (.int z),some (.ref qi),some (.int len),x7,x8,x9,none,none]) (fun D' hD=>?_) fun zzM zzh=>?_
   ·walk_at "RD";refine ⟨⟨_,SqL.of v1⟩,?_⟩;refine fe.list_zs (xs:=ws.map V.ref) (zs:=(gs[i].map (·.least)).map V.int) (SqL.of v1) (Nat.le_trans (show (ws.map V.ref).length <= 10 by rw [length_map,v2];exact hg4) (by decide)) (by rw [length_map,length_map,length_map,v2]) (fun j x y N hx hy hN=>?_) (fun p2 hp2=>?_)
    ·obtain ⟨wj,hwj,rfl⟩:=Kb hx;obtain ⟨y',hy',rfl⟩:=Kb hy;obtain ⟨d,hd,rfl⟩:=Kb hy';have ht:=v3 j wj d hwj hd;walk_at "RD";exact ⟨Sub.name,_,SqT.of ht,_,lI _,hN⟩
    ·(walk_at "RD"; repeat (simp only [Re];walk_at "RD"));exact ⟨_,SqL.of db,m,hm,hmax,S4.new hp2,by omega,by omega,by decide,hD _ _ ⟨wb hp2,S4.new hp2,_,⟨by omega,by omega⟩,rfl⟩⟩
   rintro σ5 H5 ⟨s5,S5,len,hlen,rfl⟩;have sx5:Dc sl H3 H5:=fun b u hb e=>s5 _ _ (sx b u hb e)
   subst zzh;simp only [Mb];refine zzC (fun σ' H6=>Dc sl H3 H6/\Pb H H6/\Sc K a ns H6/\∃ sp':List SD,LO H6 sl (List.map sdO (sp ++ sp'))/\sp'.length=gs[i].length/\(∀ (j:Nat) (d:WD) (s:SD),gs[i][j]? = some d->sp'[j]? = some s->s.name=d.name/\(z:Int) <= s.b/\d.least <= s.n/\s.b + s.n <= (z:Int) + len)/\∃ x7 x8 x9,σ'=[some (.ref a),some (.int n),some (.ref wl),some (.ref sl),some (.int z),some (.ref qi),some (.int len),x7,x8,x9,none,none]) (fun D' hD=>?_) fun zzM zzh=>?_
   ·walk_at "RD";refine ⟨⟨_,SqL.of (s5 _ _ v1)⟩,?_⟩;refine Qh.list (xs:=ws.map V.ref) (fun j σ H6=>Dc sl H3 H6/\Pb H H6/\Sc K a ns H6/\∃ sp':List SD,LO H6 sl (List.map sdO (sp ++ sp'))/\sp'.length=j/\(∀ (j:Nat) (d:WD) (s:SD),gs[i][j]? = some d->sp'[j]? = some s->s.name=d.name/\(z:Int) <= s.b/\d.least <= s.n/\s.b + s.n <= (z:Int) + len)/\∃ x7 x8 x9,σ=[some (.ref a),some (.int n),some (.ref wl),some (.ref sl),some (.int z),some (.ref qi),some (.int len),x7,x8,x9,none,none]) ?_ ?_ ?_ ?_
    ·exact ⟨sx5,sm.trans s5,S5,[],by rw [append_nil];exact L4.same s5,rfl,fun j d s _ h=>by simp at h,_,_,_,rfl⟩
    ·rintro j σ H6 hj ⟨sx6,_⟩;exact SqL.of (sx6 _ _ hqs v10)
    ·rintro j v σ H6 hv zzq;refine zzP fun zzM zzh=>?_
     obtain ⟨sx6,sm6,S6,sp',L6,hsl',al6,x7,x8,x9,rfl⟩:=zzq;obtain ⟨wj,hwj,rfl⟩:=Kb hv;have hjg:j < gs[i].length:=by rw [<- v2];exact (List.getElem?_eq_some_iff.mp hwj).1
     have hdj:gs[i][j]? = some gs[i][j]:=getElem?_eq_getElem hjg;have hdm:=mem_of_getElem? hdj;have hdo:=gok _ hgm _ hdm;have hlm:gs[i][j].least <= m:=hmax _ (List.mem_map.mpr ⟨_,hdm,rfl⟩);have hl1:=hdo.1.le.1;have ht6:H6 wj=some (.tup (Gh gs[i][j])):=keep sx6 j wj _ hwj hdj;obtain ⟨os,y1,y2⟩:=L6;have hosl:os.length=sp.length + j:=by rw [y2.1,length_map,length_append,hsl']
     have e1:=uf ns (200 + (os.length:Int)) (m:=len - gs[i][j].least + 1) (by omega);have e2:=tf ns (200 + (os.length:Int)) (m:=len - gs[i][j].least + 1) (by omega);subst zzh;simp only [yg,Mb,set_cons_succ,set_cons_zero];refine zzC (fun σ' H7=>H7=H6/\∃ late:Int,(0 <= late/\late <= len - gs[i][j].least)/\σ'=[some (.ref a),some (.int n),some (.ref wl),some (.ref sl),some (.int z),some (.ref qi),some (.int len),some (.ref wj),some (.int late),x9,none,none]) (fun D' hD=>?_) fun zzM zzh=>?_
     ·(walk_at "RD"; repeat (simp only [Re];walk_at "RD"));refine ⟨_,.inl (SqL.of y1),?_⟩;rw [length_map];exact ⟨_,SqT.of ht6,_,lI _,_,rfl,S6,by omega,by omega,by omega,hD _ _ ⟨rfl,_,⟨e1,by omega⟩,rfl⟩⟩
     rintro σ7 H7 ⟨rfl,late,hlate,rfl⟩;have e3:=uf ns (230 + (os.length:Int)) (m:=len - gs[i][j].least - late + 1) (by omega);have e4:=tf ns (230 + (os.length:Int)) (m:=len - gs[i][j].least - late + 1) (by omega);subst zzh;simp only [Mb];refine zzC (fun σ' H8=>H8=H7/\∃ tu:Int,(gs[i][j].least <= tu/\late + tu <= len)/\σ'=[some (.ref a),some (.int n),some (.ref wl),some (.ref sl),some (.int z),some (.ref qi),some (.int len),some (.ref wj),some (.int late),some (.int tu),none,none]) (fun D' hD=>?_) fun zzM zzh=>?_
     ·(walk_at "RD"; repeat (simp only [Re];walk_at "RD"));refine ⟨_,SqT.of ht6,_,lI _,_,.inl (SqL.of y1),?_⟩;rw [length_map];exact ⟨_,SqT.of ht6,_,lI _,_,rfl,S6,by omega,by omega,by omega,_,rfl,hD _ _ ⟨rfl,_,⟨by omega,by omega⟩,rfl⟩⟩
     rintro σ8 H8 ⟨rfl,tu,htu,rfl⟩;subst zzh;walk_at "RD";refine ⟨.inl ⟨_,SqL.of y1⟩,_,SqT.of ht6,_,XN _,by decide,fun p2 hp2=>?_⟩;have hwp:sl ≠ p2:=yb y1 hp2;have L':=LO.snoc (o:=sdO ⟨gs[i][j].name,(z:Int) + late,tu⟩) y1 y2 hp2 (fun xs z=>by cases z) lQ;refine ⟨_,by rw [jb hwp];exact y1,Nat.lt_of_le_of_lt (show (os.map V.ref).length <= 30 by rw [length_map];omega) (by decide),fun b u hb e=>?_,(sm6.trans (wb hp2)).updN hsl,(S6.new hp2).set (by rw [jb hwp];exact y1) (fun ob z e=>by cases e),sp' ++ [⟨gs[i][j].name,(z:Int) + late,tu⟩],by rw [<- append_assoc,map_append];exact L',by rw [length_append,hsl'];rfl,fun j' d s hd hs=>?_,by repeat (first | exact ⟨_,rfl⟩ | refine ⟨⟨_,rfl⟩,?_⟩)⟩
     ·rw [jb hb];exact (wb hp2) _ _ (sx6 b u hb e)
     ·rcases Nf hs with ⟨_,z'⟩ | ⟨z1,rfl⟩
      ·exact al6 j' d s hd z'
      ·rw [z1,hsl',hdj] at hd;cases hd;exact ⟨rfl,by show (z:Int) <= (z:Int) + late;omega,htu.1,by show (z:Int) + late + tu <= (z:Int) + len;omega⟩
    ·rintro σ H6 zzq;refine zzP fun zzM zzh=>?_
     obtain ⟨sx6,sm6,S6,sp',L6,hsl',al6,x7,x8,x9,rfl⟩:=zzq;subst zzh;rw [length_map,v2] at hsl';exact hD _ _ ⟨sx6,sm6,S6,sp',L6,hsl',al6,_,_,_,rfl⟩
   rintro σ6 H6 ⟨sx6,sm6,S6,sp',L6,hsl',al6,x7,x8,x9,rfl⟩;have W6:=W4.grp (g:=gs[i]) (sp':=sp') (len:=len) (more:=12) (by omega) (by decide) hsl' al6;obtain ⟨z',hz'⟩:∃ z':Nat,(z:Int) + len + 12=(z':Nat):=⟨((z:Int) + len + 12).toNat,by omega⟩;subst zzh;walk_at "RD";refine ⟨sx6,sm6,S6,z',sp ++ sp',L6,?_,by omega,by omega,hz',by repeat (first | exact ⟨_,rfl⟩ | refine ⟨⟨_,rfl⟩,?_⟩)⟩;rw [md hgi,<- hz'];exact W6
  ·rintro σ H' zzq;refine zzP fun zzM zzh=>?_
   obtain ⟨_,sm,S4,z,sp,L4,W4,hz,x5,x6,x7,x8,x9,rfl⟩:=zzq;subst zzh;rw [length_map,G.h2,take_length] at W4;rw [length_map,G.h2] at hz;exact hD _ _ ⟨sm,S4,z,gs,sp,L4,G0,W4,by omega,x5,x6,x7,x8,x9,rfl⟩
 rintro σ3 H3 ⟨s3,S3,z,gs,sp,L3,G3,W3,hz,x5,x6,x7,x8,x9,rfl⟩;subst zzh;refine zS (fun σ' H'=>H'=H3/\∃ sh:Int,σ'=[some (.ref a),some (.int n),some (.ref wl),some (.ref sl),some (.int z),x5,x6,x7,x8,x9,some (.int sh),none]) (fun D hD=>?_) fun zzM zzh=>?_
 ·(walk_at "RD"; repeat (simp only [Re];walk_at "RD"));exact ⟨S3,by omega,by omega,by omega,hD _ _ ⟨rfl,_,rfl⟩⟩
 rintro σ4 H4 ⟨rfl,sh,rfl⟩;obtain ⟨os,l3,lq⟩:=L3;have hol:os.length=sp.length:=by rw [lq.1,length_map]
 have hsl4:sp.length <= 10:=by have:=W3.len;have:=G3.len;omega
 subst zzh;refine zS (fun σ' H'=>Pb H4 H'/\Sc K a ns H'/\∃ (pl:Addr) (os2:List Addr),H4 pl=none/\H' pl=some (.lst (os2.map V.ref))/\LQ H' os2 ((sp.map (Nh z sh)).map sdO)/\σ'=[some (.ref a),some (.int n),some (.ref wl),some (.ref pl),some (.int z),x5,x6,x7,x8,x9,some (.int sh),none]) (fun D hD=>?_) fun zzM zzh=>?_
 ·walk_at "RD";refine ⟨⟨_,SqL.of l3⟩,?_⟩;refine fe.list (xs:=os.map V.ref) (fun i ys H'=>∃ os2:List Addr,ys=os2.map V.ref/\LQ H' os2 (((sp.take i).map (Nh z sh)).map sdO)/\Pb H4 H'/\Sc K a ns H') (Nat.le_trans (show (os.map V.ref).length <= 10 by rw [length_map];omega) (by decide)) ⟨[],rfl,by rw [take_zero];exact LQ.nil _,Pb.refl _,S3⟩ ?_ ?_ ?_
  ·rintro i ys H' hi zzq;refine zzP fun zzM zzh=>?_
   obtain ⟨os2,rfl,r,sm,_⟩:=zzq;subst zzh;exact ⟨(SqL.of l3).same sm,by rw [length_map,r.1,length_map,length_map,length_take];omega⟩
  ·rintro i v ys H' hv ⟨os2,rfl,r,sm,Sm⟩ N hN;obtain ⟨qi,hqi,rfl⟩:=Kb hv;obtain ⟨o,ho,e⟩:=lq.at hqi;obtain ⟨d,hd,rfl⟩:=Kb ho;have e':H' qi=some (.tup [.str d.name,.int d.b,.int d.n]):=sm _ _ e;dsimp only at hN;rw [md hd,map_append,map_append] at hN;walk_at "RD";exact ⟨Sub.name,_,SqT.of e',_,AQ _,_,SqT.of e',_,gN _,_,rfl,by omega,_,SqT.of e',_,MP _,by decide,fun p1 hp1=>hN _ _ ⟨os2 ++ [p1],by rw [map_append];rfl,(r.same (wb hp1)).app (LQ.one db),sm.trans (wb hp1),Sm.new hp1⟩⟩
  ·rintro ys H' ⟨os2,rfl,r,sm,Sm⟩ p1 hp1;rw [length_map,hol,take_length] at r;exact hD _ _ ⟨sm.trans (wb hp1),Sm.new hp1,p1,os2,sm.free hp1,db,r.same (wb hp1),rfl⟩
 rintro σ5 H5 ⟨s5,S5,pl,os2,hpln,l5,lq5,rfl⟩;have hl5:os2.length=sp.length:=by rw [lq5.1,length_map,length_map]
 subst zzh;refine zS (fun σ' H'=>Pb H5 H'/\Sc K a ns H'/\∃ rl,H5 rl=none/\H' rl=some (.lst [])/\σ'=[some (.ref a),some (.int n),some (.ref wl),some (.ref pl),some (.int z),x5,x6,x7,x8,x9,some (.int sh),some (.ref rl)]) (fun D hD=>?_) fun zzM zzh=>?_
 ·walk_at "RD";exact ⟨Nat.zero_le _,fun rl hrl=>hD _ _ ⟨wb hrl,S5.new hrl,rl,hrl,db,rfl⟩⟩
 rintro σ6 H6 ⟨s6,S6,rl,hrl,l6,rfl⟩;have hrp:rl ≠ pl:=fun e=>by rw [e,l5] at hrl;cases hrl
 subst zzh;refine zS (fun σ' H'=>Pb H4 H'/\Sc K a ns H'/\(∃ rs:List SD,LO H' rl (List.map sdO rs)/\rs.Perm (sp.map (Nh z sh)))/\σ'=[some (.ref a),some (.int n),some (.ref wl),some (.ref pl),some (.int z),x5,x6,x7,x8,x9,some (.int sh),some (.ref rl)]) (fun D hD=>?_) fun zzM zzh=>?_
 ·refine ay (fun σ H'=>Pb H4 H'/\Sc K a ns H'/\(∃ (rs ls:List SD) (qa qb:List Addr),H' rl=some (.lst (qa.map V.ref))/\LQ H' qa (List.map sdO rs)/\H' pl=some (.lst (qb.map V.ref))/\LQ H' qb (List.map sdO ls)/\(rs ++ ls).Perm (sp.map (Nh z sh)))/\σ=[some (.ref a),some (.int n),some (.ref wl),some (.ref pl),some (.int z),x5,x6,x7,x8,x9,some (.int sh),some (.ref rl)]) (fun σ H'=>match H' pl with | some (.lst xs)=>xs.length | _=>0) ?_ ?_
  ·exact ⟨s5.trans s6,S6,⟨[],sp.map (Nh z sh),[],os2,l6,LQ.nil _,s6 _ _ l5,lq5.same s6,List.Perm.refl _⟩,rfl⟩
  rintro σ H' zzq;refine zzP fun zzM zzh=>?_
  obtain ⟨s7,S7,⟨rs,ls,qa,qb,la,lqa,lb,lqb,hperm⟩,rfl⟩:=zzq;have hln:rs.length + ls.length <= 10:=by
   have:=hperm.length_eq;rw [length_append,length_map] at this;omega
  have hqb:qb.length=ls.length:=by rw [lqb.1,length_map]
  have hqa:qa.length=rs.length:=by rw [lqa.1,length_map]
  subst zzh;refine ⟨decide (0 < ls.length),fun Q hQ=>?_,fun cc=>?_,fun cc=>?_⟩
  ·walk_at "RD";refine ⟨_,.inl (SqL.of lb),?_⟩;rw [show decide (0 < (((qb.map V.ref).length:Nat):Int))=decide (0 < ls.length) by rw [length_map,hqb];exact decide_eq_decide.mpr (by omega)];exact hQ
  ·have cc:=of_decide_eq_true cc;have e1:=uf ns (260 + (ls.length:Int)) (m:=(ls.length:Int)) (by omega);have e2:=tf ns (260 + (ls.length:Int)) (m:=(ls.length:Int)) (by omega);walk_at "RD";obtain ⟨k,hk⟩:∃ k:Nat,jj ns (260 + (ls.length:Int)) (ls.length:Int)=(k:Int):=⟨_,(Int.toNat_of_nonneg e1).symm⟩;have hkl:k < qb.length:=by omega
   have hql:qb[k]? = some qb[k]:=getElem?_eq_getElem hkl;have hll:k < ls.length:=by omega
   have hlk:ls[k]? = some ls[k]:=getElem?_eq_getElem hll;have hek:H' qb[k]=some (sdO ls[k]):=lqb.2 k _ _ hql (by rw [getElem?_map,hlk];rfl);refine ⟨.inl ⟨_,SqL.of la⟩,.inl ⟨_,SqL.of lb⟩,_,.inl (SqL.of lb),_,.inl (SqL.of lb),?_⟩;rw [length_map,hqb];refine ⟨_,_,rfl,S7,by omega,by omega,_,_,rfl,lb,?_⟩;rw [hk];have lb2:(upd H' pl (.lst ((qb.map V.ref).eraseIdx k))) rl=some (.lst (qa.map V.ref)):=by rw [jb hrp];exact la
   have keep:∀ {q:Addr} {o:SD},H' q=some (sdO o)->(upd (upd H' pl (.lst ((qb.map V.ref).eraseIdx k))) rl (.lst (qa.map V.ref ++ [V.ref qb[k]]))) q=some (sdO o):=fun {q o} e=>by
    rw [jb (Zd e la (by intro z;cases z)),jb (Zd e lb (by intro z;cases z))];exact e
   have keepQ:∀ {qs:List Addr} {os:List SD},LQ H' qs (List.map sdO os)->LQ (upd (upd H' pl (.lst ((qb.map V.ref).eraseIdx k))) rl (.lst (qa.map V.ref ++ [V.ref qb[k]]))) qs (List.map sdO os):=fun {qs os} h=>⟨h.1,fun i q o hq ho=>by
    have e:=h.2 i q o hq ho;obtain ⟨d,_,rfl⟩:=Kb ho;exact keep e⟩
   refine ⟨by omega,by omega,k,WL (by rw [length_map];exact hkl),_,by rw [getElem?_map,hql];rfl,_,lb2,Nat.lt_of_le_of_lt (show (qa.map V.ref).length <= 10 by rw [length_map];omega) (by decide),(s7.updN hpln).updN (s5.free hrl),(S7.set lb (by intro ob z h;cases h)).set lb2 (by intro ob z h;cases h),⟨rs ++ [ls[k]],ls.eraseIdx k,qa ++ [qb[k]],by rw [db,map_append];rfl,?_,qb.eraseIdx k,?_,?_,?_⟩,?_⟩
   ·rw [map_append];exact (keepQ lqa).app (LQ.one (keep hek))
   ·rw [jb (Ne.symm hrp),db,mK]
   ·have h0:=keepQ lqb;refine ⟨by rw [length_map,List.length_eraseIdx_of_lt hkl,List.length_eraseIdx_of_lt hll,hqb],fun i q o hq ho=>?_⟩;rw [<- mK] at ho;rw [List.getElem?_eraseIdx] at hq ho;by_cases c:i < k
    ·rw [if_pos c] at hq ho;exact h0.2 i q o hq ho
    ·rw [if_neg c] at hq ho;exact h0.2 (i + 1) q o hq ho
   ·refine List.Perm.trans ?_ hperm;rw [append_assoc];refine List.Perm.append_left rs ?_;have:=Bu hlk;exact this
   ·rw [jb (Ne.symm hrp),db,lb];show ((qb.map V.ref).eraseIdx k).length < (qb.map V.ref).length;rw [List.length_eraseIdx_of_lt (by rw [length_map];exact hkl)];rw [length_map];omega
  ·have cc:=of_decide_eq_false cc;have:ls=[]:=List.length_eq_zero_iff.mp (by omega);subst this;rw [append_nil] at hperm;exact hD _ _ ⟨s7,S7,⟨rs,⟨qa,la,lqa⟩,hperm⟩,rfl⟩
 rintro σ7 H7 ⟨s7,S7,⟨rs,L7,hperm⟩,rfl⟩;subst zzh;walk_at "RD";refine ⟨by decide,fun tp htp=>?_⟩;exact q tp rl z gs sp rs sh _ (s3.trans (s7.trans (wb htp))) (S7.new htp) db (L7.same (wb htp)) G3 W3 hperm hz
end
end My
namespace My
open PySem L2
noncomputable def WJ (t:Adr):Sp:=fun vs H Q E=>∃ (pl c:Addr) (n:Int) (ds:List WD) (z:Nat) (sp:List SD) (x:Str) (turn:Int),vs=[.ref pl,.str x,.int turn]/\ef t H pl c n ds z sp/\0 < z/\zv x /\
 ((∃ (i:Nat) (d:WD) (v:Str),ds[i]? = some d/\x=d.name/\(Pp z sp d)[(turn % (z:Int)).toNat]? = some v/\Q (.str v) H)\/(Om ds x/\bw t x H E))
noncomputable def wA (t:Adr):Sp:=fun vs H Q E=>∃ (pl c:Addr) (n:Int) (ds:List WD) (z:Nat) (sp:List SD) (x:Str) (turn:Int),vs=[.ref pl,.str x,.int turn]/\ef t H pl c n ds z sp/\0 < z/\zv x /\
 ((∃ (i:Nat) (d:WD),ds[i]? = some d/\x=d.name/\Q (.bl (Dp z sp d turn)) H)\/(Om ds x/\bw t x H E))
noncomputable def bB (t:Adr):Sp:=fun vs H Q _=>∃ (pl c:Addr) (n:Int) (ds:List WD) (z:Nat) (sp:List SD) (i:Nat) (d:WD) (turn:Int),vs=[.ref pl,.str d.name,.int turn]/\ef t H pl c n ds z sp/\0 < z/\zv d.name/\ds[i]? = some d/\Q (.bl (Dp z sp d turn)) H
noncomputable def QF (t:Adr):Sp:=fun vs H Q _=>∃ (pl c:Addr) (n:Int) (ds:List WD) (z:Nat) (sp:List SD),vs=[.ref pl]/\ef t H pl c n ds z sp/\0 < z/\Om ds (Str.ofString "zebra")/\NoT H/\Q (.bl true) H
noncomputable def oJ (t:Adr):Sp:=fun vs H Q _=>∃ (pl c:Addr) (n:Int) (ds:List WD) (z:Nat) (sp:List SD),vs=[.ref pl]/\ef t H pl c n ds z sp/\0 < z/\Om ds (Str.ofString "zebra")/\∀ H',Pb H H'->Q (.bl true) H'
noncomputable def fu (t:Adr):Sp:=fun vs H Q _=>∃ (pl c:Addr) (n:Int) (ds:List WD) (z:Nat) (sp:List SD),vs=[.ref pl]/\ef t H pl c n ds z sp/\(0 < z/\z <= 240)/\sp.length <= 12/\(∀ s ∈ sp,s.name.length <= 8/\(0 <= s.b/\s.b < 1000)/\0 <= s.n/\s.n < 1000)/\NoT H/\Q (.str (Og z sp)) H
noncomputable def Ny (t:Adr):Sp:=fun vs H Q _=>∃ (pl c:Addr) (n:Int) (ds:List WD) (z:Nat) (sp:List SD),vs=[.ref pl]/\ef t H pl c n ds z sp/\(0 < z/\z <= 240)/\sp.length <= 12/\(∀ s ∈ sp,s.name.length <= 8/\(0 <= s.b/\s.b < 1000)/\0 <= s.n/\s.n < 1000)/\∀ H',Pb H H'->Q (.str (Og z sp)) H'
noncomputable def Sw (z:Nat) (rs:List SD) (x:Str) (turn:Int):Bool:=rs.any fun s=>decide (s.name=x) && decide ((turn - s.b) % (z:Int) < s.n)
noncomputable def wB (K:W.Frag):Sp:=fun vs H Q _=>∃ (z:Nat) (rl:Addr) (rs:List SD) (x:Str) (turn:Int),vs=[.int z,.ref rl,.str x,.int turn]/\0 < z/\LO H rl (List.map sdO rs)/\Q (.bl (Sw z rs x turn)) H
noncomputable def DA (t:Adr):Sp:=fun vs H Q _=>∃ (pl c:Addr) (n:Int) (ds:List WD) (z:Nat) (rl nl' tl:Addr) (rs:List SD) (ts:List Int),vs=[.ref pl,.int z,.ref rl,.ref nl',.ref tl]/\ef t H pl c n ds z rs/\0 < z/\LO H rl (List.map sdO rs)/\(∀ d ∈ ds,zv d.name)/\H nl'=some (.lst (Jb (ds.map (·.name))))/\H tl=some (.lst (ts.map V.int))/\(∀ d ∈ ds,∀ turn,Dp z rs d turn=Sw z rs d.name turn)/\Q (.bl true) H
theorem aG:zv (Str.ofString "zebra"):=⟨by decide +kernel,by decide +kernel⟩
theorem ef.same {t:Adr} {H H':Hp} {a c:Addr} {n:Int} {ds:List WD} {z:Nat} {sp:List SD} (h:ef t H a c n ds z sp) (s:Pb H H'):ef t H' a c n ds z sp:=by
 obtain ⟨dx,p,lm,un,h1,h2,h3,⟨r1,a1,b1,c1⟩,⟨r2,a2,b2,c2⟩⟩:=h.at_;exact ⟨dx,p,lm,un,s _ _ h1,h2.same s,h3.same s,⟨r1,a1,s _ _ b1,fun i r d x y=>s _ _ (c1 i r d x y)⟩,⟨r2,a2,s _ _ b2,fun i r d x y=>s _ _ (c2 i r d x y)⟩⟩
section
variable {w:World} {K:W.Frag} {mg:Str->Option Value} {t:Adr} {H:Hp} {a c dx p lm un:Addr} {z:Int}
theorem Xq (T:Txt w K mg t) (e:H a=some (.ins t.ve dx (plF c z p lm un))):Qi K H a (Str.ofString "crossing") (.ref c):=⟨_,dx,_,e,T.Hi,T.ak,Vd HC 0 (Dn ..) (by decide +kernel) rfl⟩
theorem Vv (T:Txt w K mg t) (e:H a=some (.ins t.ve dx (plF c z p lm un))):Qi K H a (Str.ofString "size") (.int z):=⟨_,dx,_,e,T.Hi,T.gp,Vd HC 1 (Dn ..) (by decide +kernel) rfl⟩
end
theorem NK.get {H:Hp} {p:Addr} {ds:List WD} {f:WD->HO} (h:NK H p ds f ds.length) (nd:(ds.map (·.name)).Nodup) {i:Nat} {d:WD} (hd:ds[i]? = some d):∃ r,Is H p (.str d.name) (some (.ref r))/\H r=some (f d):=by
 obtain ⟨rs,hl,hp,al⟩:=h;have hi:i < rs.length:=by rw [hl];exact (List.getElem?_eq_some_iff.mp hd).1
 have hr:rs[i]? = some rs[i]:=getElem?_eq_getElem hi;refine ⟨rs[i],?_,al i _ d hr hd⟩;have:=Is.k (k:=Sum.inr d.name) hp;rw [Yy nd hd hr] at this;exact this
theorem DI {w:World} {K:W.Frag} {mg:Str->Option Value} {t:Adr} {H:Hp} {a c dx p lm un:Addr} {z:Int} (T:Txt w K mg t) (e:H a=some (.ins t.ve dx (plF c z p lm un))):Qi K H a (Str.ofString "spans") (.ref p):=⟨_,dx,_,e,T.Hi,T.Ln,Vd HC 2 (Dn ..) (by decide +kernel) rfl⟩
theorem dr (z:Int):Str.empty ++ Str.ofString "round " ++ Str.ofString (toString z)=Str.join bk [S "round",num z]:=by
 apply Xm;have e1:(Str.ofString "round ").cps.toList=[114,111,117,110,100,32]:=by decide +kernel
 have e2:(Str.ofString "round").cps.toList=[114,111,117,110,100]:=by decide +kernel
 have e3:Str.empty.cps.toList=[]:=by decide +kernel
 rw [oy,dg];simp only [Str.cps_append,Array.toList_append,map_cons,map_nil,jl,e1,e2,e3,cons_append,nil_append]
theorem AA (s:SD):Str.empty ++ Str.ofString "free " ++ s.name ++ Str.ofString " " ++ Str.ofString (toString s.b) ++ Str.ofString " " ++ Str.ofString (toString s.n)=Str.join bk (Jg s):=by
 apply Xm;have e1:(Str.ofString "free ").cps.toList=[102,114,101,101,32]:=by decide +kernel
 have e2:(Str.ofString "free").cps.toList=[102,114,101,101]:=by decide +kernel
 have e3:(Str.ofString " ").cps.toList=[32]:=by decide +kernel
 have e4:Str.empty.cps.toList=[]:=by decide +kernel
 unfold Jg;rw [oy,dg];simp only [Str.cps_append,Array.toList_append,map_cons,map_nil,jl,e1,e2,e3,e4,append_assoc,cons_append,nil_append]
theorem Ao (k:Nat) (h:k <= 1000):k <= sizeLine:=Nat.le_trans h (by decide)
section
variable {P:Program} {w:World} {K:W.Frag} {mg:Str->Option Value} {base:Heap} {t:Adr}
theorem NO (T:Txt w K mg t):Gb P w K mg base (CX1 P w) 5 t.wq t.oq ["plan","name","turn"] (WJ t):=by
 have g74:Gb P w K mg base (CX1 P w) 4 t.Yb t.ic ["self","name"] (Wu t):=EB T;refine T.Tv.okX qD (fun vs H Q E h=>?_) (fun _ _ _ s H vs Q E hr h=>?_)
 ·obtain ⟨pl,c,n,ds,z,sp,x,turn,rfl,_⟩:=h;rfl
 obtain ⟨pl,c,n,ds,z,sp,x,turn,rfl,PA,hz,sm,hq⟩:=h;obtain ⟨dx,p,lm,un,hpl,C,_,NL,_⟩:=PA.at_;obtain ⟨⟨hnd,_⟩,dxc,wl,nd,e1,_,_⟩:=id C;have hu:=CC hr;refine ⟨_,(cb (Xb (Xc (vc (pv 0) rfl) T.Ob T.Mc g74 hr T.Nc .nil ee (bb (pv 1) fb)))
   (ib (Lb (yd Zf (Bq hu (vc (pv 0) rfl) (pv 1) (fun _ _=>rfl)) (Nb Mf (pv 2) (vc (pv 0) rfl)) (fun _ _=>rfl))))),?_⟩
 walk_at "RD";refine ⟨_,Xq T hpl,_,rfl,_,_,e1,qx _ _ _ (by decide +kernel),c,n,ds,x,rfl,C,sm,?_⟩;rcases hq with ⟨i,d,v,hd,rfl,hv,q⟩ | ⟨hs,q⟩
 ·refine .inl ⟨i,d,hd,rfl,fun a W=>?_⟩;obtain ⟨r,hg,hr'⟩:=NL.get hnd hd;have h0:=Int.emod_nonneg turn (show (z:Int) ≠ 0 by omega);walk_at "RD";refine ⟨_,NA T hpl,_,rfl,_,hg,_,Vv T hpl,_,rfl,by omega,_,rfl,_,SqL.of hr',.str v,?_,q⟩;have e:=Bc (xs:=Jb (Pp z sp d)) (j:=(turn % (z:Int)).toNat) (v:=.str v) (by unfold Jb;rw [getElem?_map,hv];rfl);rwa [Int.toNat_of_nonneg h0] at e
 ·exact .inr ⟨hs,q⟩
theorem RA (T:Txt w K mg t):Gb P w K mg base (CX1 P w) 6 t.Nu t.Fu ["plan","name","turn"] (wA t):=by
 have g75:Gb P w K mg base (CX1 P w) 5 t.wq t.oq ["plan","name","turn"] (WJ t):=NO T;refine T.fA.okX cL (fun vs H Q E h=>?_) (fun _ _ _ s H vs Q E hr h=>?_)
 ·obtain ⟨pl,c,n,ds,z,sp,x,turn,rfl,_⟩:=h;rfl
 obtain ⟨pl,c,n,ds,z,sp,x,turn,rfl,PA,hz,sm,hq⟩:=h;refine ⟨_,(ib (Lb (af qk (Bb g75 hr rfl T.uI T.Tv.kp T.RH .nil ee (bb (pv 0) (bb (pv 1) (bb (pv 2) fb)))) Rc (yc _)))),?_⟩;walk_at "RD";refine ⟨pl,c,n,ds,z,sp,x,turn,rfl,PA,hz,sm,?_⟩;rcases hq with ⟨i,d,hd,rfl,q⟩ | ⟨hs,q⟩
 ·refine .inl ⟨i,d,_,hd,rfl,RD hz sp d turn,?_⟩;refine ⟨rfl,?_⟩;rw [show decide (V.str (Sq z sp d turn)=V.str (Str.ofString "free"))=Dp z sp d turn from decide_eq_decide.mpr (by simp)];exact q
 ·exact .inr ⟨hs,q⟩
theorem OH (T:Txt w K mg t):Gb P w K mg base CX0 6 t.Nu t.Fu ["plan","name","turn"] (bB t):=by
 refine (RA T).quiet fun vs H Q E h=>?_
 obtain ⟨pl,c,n,ds,z,sp,i,d,turn,rfl,PA,hz,sm,hd,q⟩:=h;exact ⟨pl,c,n,ds,z,sp,_,turn,rfl,PA,hz,sm,.inl ⟨i,d,hd,rfl,q⟩⟩
theorem cM (T:Txt w K mg t):Gb P w K mg base CX0 7 t.rg t.zg ["_law_plan"] (QF t):=by
 refine Gb.forget (sp:=oJ t) ?_ fun vs H Q E h=>?_
 ·have g76:Gb P w K mg base (CX1 P w) 6 t.Nu t.Fu ["plan","name","turn"] (wA t):=RA T;refine T.og.ok Ff (fun vs H Q E h=>?_) (fun _ _ _ s H vs Q E hr h=>?_)
  ·obtain ⟨pl,c,n,ds,z,sp,rfl,_⟩:=h;rfl
  obtain ⟨pl,c,n,ds,z,sp,rfl,PA,hz,hs,q⟩:=h;refine ⟨_,(cb (Db (i:=1) Ff.nd rfl (Or.inl rfl) Qw)
   (cb (qL (i:=2) (fun _ _=>⟨_,(ib (Xb (uH g76 hr rfl T.EJ T.fA.kp T.DJ .nil DM (bb (pv 0) (bb Rc (bb xb fb)))))),by first | rfl | (dsimp only [Cx.tr,Cx.hn];done) | (dsimp only [Cx.tr,Cx.hn];exact rfl)⟩) rfl T.iE (fun _=>⟨_,(ib (Db (i:=1) Ff.nd rfl (Or.inl rfl) (ZL (pv 2) rfl))),by first | rfl | (dsimp only [Cx.tr,Cx.hn];done) | (dsimp only [Cx.tr,Cx.hn];exact rfl)⟩) Ff.nd rfl rfl)
   (ib (Lb (af qk (pv 1) Rc (yc _)))))),?_⟩
  walk_at "RD";refine ⟨pl,c,n,ds,z,sp,_,3,rfl,PA,by omega,aG,.inr ⟨hs,fun dx H' sm _ hd=>?_⟩⟩;walk_at "RD";refine ⟨_,rfl,T.Zs,fun e he=>?_⟩;walk_at "RD";refine ⟨_,_,he,_,hd,T.Fv,T.Sn,_,rfl,rfl,?_⟩;rw [decide_eq_true rfl];exact q H' sm
 ·obtain ⟨pl,c,n,ds,z,sp,rfl,PA,hz,hs,nt,q⟩:=h;exact ⟨nt,pl,c,n,ds,z,sp,rfl,PA,hz,hs,fun H' s=>⟨s,q⟩⟩
theorem xC (T:Txt w K mg t):Gb P w K mg base CX0 1 t.gn t.Hn ["plan"] (fu t):=by
 refine Gb.forget (sp:=Ny t) ?_ fun vs H Q E h=>?_
 ·refine T.Yn.ok rh (fun vs H Q E h=>?_) (fun _ _ _ s H vs Q E hr h=>?_)
  ·obtain ⟨pl,c,n,ds,z,sp,rfl,_⟩:=h;rfl
  obtain ⟨pl,c,n,ds,z,sp,rfl,PA,hz,hsl,hsp,q⟩:=h;obtain ⟨dx,p,lm,un,hpl,C,L,_,_⟩:=PA.at_;obtain ⟨os,l1,lq⟩:=L;refine ⟨_,(cb (Db (i:=1) rh.nd rfl (Or.inl rfl) (vc (pv 0) rfl))
   (cb (Db (i:=2) rh.nd rfl (Or.inl rfl) (Cf (bb (JA (rq (qG (pv 1) CK))) fb)))
   (cb (Wd PassesOwn.never rfl (Ac (vc (pv 0) rfl)) (Tf (K:=K) (n:=3) rfl rfl (Rb (Cb (i:=3) rh.nd rfl (Or.inl rfl) (.inl rfl)) (Rb (Cb (i:=4) rh.nd rfl (Or.inl rfl) (.inl rfl)) (Rb (Cb (i:=5) rh.nd rfl (Or.inl rfl) (.inl rfl)) Pf)))) (ib (Xb (ol PySem.F.plainAttrs_list PySem.F.slot_list_append PySem.F.type_list_append Pe (pv 2) (bb (JA (rq (nN (pv 3) (rq (qG (pv 4) (rq (qG (pv 5) CK))))))) fb)))))
   (ib (Lb (ol PySem.F.plainAttrs_str PySem.F.slot_str_join PySem.F.type_str_join bz Rc (bb (pv 2) fb))))))),?_⟩
  refine zS (fun σ' H'=>H'=H/\σ'=[some (.ref pl),some (.int z),none,none,none,none]) (fun D hD=>?_) fun zzM zzh=>?_
  ·walk_at "RD";exact ⟨_,Vv T hpl,hD _ _ ⟨rfl,rfl⟩⟩
  rintro σ1 H1 ⟨rfl,rfl⟩;subst zzh;refine zS (fun σ' H'=>Pb H1 H'/\∃ rl,H1 rl=none/\H' rl=some (.lst (Jb [Str.join bk [S "round",num z]]))/\σ'=[some (.ref pl),some (.int z),some (.ref rl),none,none,none]) (fun D hD=>?_) fun zzM zzh=>?_
  ·walk_at "RD";have hn:=eg (n:=(z:Int)) (by omega) (by omega);have e0:Str.empty.length=0:=by decide +kernel
   have e1:(Str.ofString "round ").length=6:=by decide +kernel
   rw [dr];simp only [Fd,e0,e1];refine ⟨Ao _ (by omega),Ji (by omega),Ao _ (by omega),?_,by decide,fun p hp=>hD _ _ ⟨wb hp,p,hp,db,rfl⟩⟩;rw [<- dr];simp only [Fd,e0,e1];exact Ao _ (by omega)
  rintro σ2 H2 ⟨s2,rl,hrl,l2,rfl⟩;subst zzh;refine zS (fun σ' H'=>Pb H1 H'/\H' rl=some (.lst (Jb ((Vi z sp).map (Str.join bk))))/\∃ x3 x4 x5,σ'=[some (.ref pl),some (.int z),some (.ref rl),x3,x4,x5]) (fun D hD=>?_) fun zzM zzh=>?_
  ·walk_at "RD";refine ⟨_,DI T (s2 _ _ hpl),p,rfl,⟨_,SqL.of (s2 _ _ l1)⟩,?_⟩;have hol:os.length=sp.length:=by rw [lq.1,length_map]
   refine Qh.list (xs:=os.map V.ref) (fun i σ H'=>Pb H1 H'/\H' rl=some (.lst (Jb ((Vi z (sp.take i)).map (Str.join bk))))/\∃ x3 x4 x5,σ=[some (.ref pl),some (.int z),some (.ref rl),x3,x4,x5]) ?_ ?_ ?_ ?_
   ·exact ⟨s2,by rw [take_zero];exact l2,_,_,_,rfl⟩
   ·rintro i σ H' hi ⟨sm,_⟩;exact SqL.of (sm _ _ l1)
   ·rintro i v σ H' hv zzq;refine zzP fun zzM zzh=>?_
    obtain ⟨sm,l2',x3,x4,x5,rfl⟩:=zzq;obtain ⟨qi,hqi,rfl⟩:=Kb hv;obtain ⟨o,ho,e⟩:=lq.at hqi;obtain ⟨s,hs,rfl⟩:=Kb ho;have e':H' qi=some (.tup [.str s.name,.int s.b,.int s.n]):=sm _ _ e;have g:=hsp s (mem_of_getElem? hs);have h1:=eg (n:=s.b) (by omega) (by omega);have h2:=eg (n:=s.n) (by omega) (by omega);have e0:Str.empty.length=0:=by decide +kernel
    have e1:(Str.ofString "free ").length=5:=by decide +kernel
    have e2:(Str.ofString " ").length=1:=by decide +kernel
    have hil:i < sp.length:=(List.getElem?_eq_some_iff.mp hs).1;subst zzh;walk_at "RD";have el:(Jb ((Vi z (sp.take i)).map (Str.join bk))).length < sizeLine:=by
     unfold Jb Vi;rw [length_map,length_map,length_cons,length_map,length_take];exact Nat.lt_of_le_of_lt (show _ <= 20 by omega) (by decide)
    refine ⟨_,SqT.of e',rfl,_,_,rfl,_,_,rfl,_,_,rfl,rfl,.inl ⟨_,SqL.of l2'⟩,Ao _ (by rw [e0,e1];decide),_,rfl,by omega,Ao _ (by simp only [Fd,e0,e1];omega),Ao _ (by simp only [Fd,e0,e1,e2];omega),_,rfl,Ji (by omega),Ao _ (by simp only [Fd,e0,e1,e2];omega),Ao _ (by simp only [Fd,e0,e1,e2];omega),_,rfl,Ji (by omega),Ao _ (by simp only [Fd,e0,e1,e2];omega),Ao _ (by simp only [Fd,e0,e1,e2];omega),_,l2',el,sm.updN hrl,?_,?_⟩
    ·rw [db,AA,md hs,show Vi (z:Int) (sp.take i ++ [s])=Vi z (sp.take i) ++ [Jg s] by unfold Vi;rw [map_append,cons_append];rfl];unfold Jb;rw [map_append,map_append];rfl
    ·exact ⟨_,rfl⟩
   ·rintro σ H' zzq;refine zzP fun zzM zzh=>?_
    obtain ⟨sm,l2',x3,x4,x5,rfl⟩:=zzq;subst zzh;rw [length_map,hol,take_length] at l2';exact hD _ _ ⟨sm,l2',_,_,_,rfl⟩
  rintro σ3 H3 ⟨s3,l3,x3,x4,x5,rfl⟩;subst zzh;walk_at "RD";refine ⟨_,SqL.of l3,?_,?_⟩
  ·have hB:∀ y ∈ (Vi z sp).map (Str.join bk),y.length <= 60:=fun y hy=>by
    obtain ⟨r,hr,rfl⟩:=List.mem_map.mp hy;rcases List.mem_cons.mp hr with e | e
    ·subst e;rw [<- dr];have hn:=eg (n:=(z:Int)) (by omega) (by omega);simp only [Fd,show Str.empty.length=0 by decide +kernel,show (Str.ofString "round ").length=6 by decide +kernel];omega
    ·obtain ⟨s,hs,rfl⟩:=List.mem_map.mp e;have g:=hsp s hs;have h1:=eg (n:=s.b) (by omega) (by omega);have h2:=eg (n:=s.n) (by omega) (by omega);rw [<- AA];simp only [Fd,show Str.empty.length=0 by decide +kernel,show (Str.ofString "free ").length=5 by decide +kernel,show (Str.ofString " ").length=1 by decide +kernel];omega
   have:=mF hB;rw [show (Str.ofString "\n").length=1 by decide +kernel];have hl:((Vi z sp).map (Str.join bk)).length <= 13:=by
    unfold Vi;rw [length_map,length_cons,length_map];omega
   omega
  ·rw [show Txt.join (Str.ofString "\n") ((Vi z sp).map (Str.join bk))=Str.join nl ((Vi z sp).map (Str.join bk)) from StrLaws.glued_eq_join _ _];exact q _ s3
 ·obtain ⟨pl,c,n,ds,z,sp,rfl,PA,hz,hsl,hsp,nt,q⟩:=h;exact ⟨nt,pl,c,n,ds,z,sp,rfl,PA,hz,hsl,hsp,fun H' s=>⟨s,q⟩⟩
theorem hJ (T:Txt w K mg t):Gb P w K mg base CX0 1 t.yj t.mj ["_law_size","_law_rows","_law_name","_law_turn"] (wB K):=by
 refine T.Hm.ok zp (fun vs H Q E h=>?_) (fun _ _ _ s H vs Q E hr h=>?_)
 ·obtain ⟨z,rl,rs,x,turn,rfl,_⟩:=h;rfl
 obtain ⟨z,rl,rs,x,turn,rfl,hz,⟨os,l1,lq⟩,q⟩:=h;have hol:os.length=rs.length:=by rw [lq.1,length_map]
 refine ⟨_,(cb (Wd PassesOwn.never rfl (Ac (pv 1)) (Cb (i:=4) zp.nd rfl (Or.inl rfl)) (ib (Ye (PW.pt (zx (dc qk (yd Vc (pv 4) xb (fun _ _=>rfl)) (pv 2) (yc _)) (Jq (dc Av (Nb Mf (Nb Mg (pv 3) (yd Vc (pv 4) xb (fun _ _=>rfl))) (pv 0)) (yd Vc (pv 4) xb (fun _ _=>rfl)) (yc _))))) (ib (Lb Cm)) zc)))
   (ib (Lb Cm))),?_⟩
 walk_at "RD";refine ⟨⟨_,SqL.of l1⟩,?_⟩;refine Qh.list (xs:=os.map V.ref) (fun i σ H'=>H'=H/\Sw z (rs.take i) x turn=false/\∃ x4,σ=[some (.int z),some (.ref rl),some (.str x),some (.int turn),x4]) ?_ ?_ ?_ ?_
 ·exact ⟨rfl,rfl,_,rfl⟩
 ·rintro i σ H' hi ⟨rfl,_⟩;exact SqL.of l1
 ·rintro i v σ H' hv zzq;refine zzP fun zzM zzh=>?_
  obtain ⟨rfl,hf,x4,rfl⟩:=zzq;obtain ⟨qi,hqi,rfl⟩:=Kb hv;obtain ⟨o,ho,e⟩:=lq.at hqi;obtain ⟨s,hs,rfl⟩:=Kb ho;have e':H' qi=some (.tup [.str s.name,.int s.b,.int s.n]):=e;subst zzh;simp only [yg,set_cons_succ,set_cons_zero];have step:Sw z (rs.take (i + 1)) x turn=(decide (s.name=x) && decide ((turn - s.b) % (z:Int) < s.n)):=by
   unfold Sw at hf ⊢;rw [md hs,List.any_append,hf];simp
  refine Pc (decide (s.name=x) && decide ((turn - s.b) % (z:Int) < s.n)) (fun Q hQ=>?_) (fun h=>?_) (fun h=>?_)
  ·walk_at "RD";refine ⟨_,SqT.of e',_,AQ s,rfl,?_⟩;by_cases c:s.name=x
   ·rw [if_pos (by simp [c])];refine ⟨_,SqT.of e',_,gN s,_,rfl,by omega,_,SqT.of e',_,MP s,_,rfl,?_⟩;rw [decide_eq_true c,Bool.true_and] at hQ;exact hQ
   ·rw [if_neg (by simpa using c)];rw [decide_eq_false c,Bool.false_and] at hQ;exact hQ
  ·walk_at "RD";rw [show Sw z rs x turn=true from ?_] at q
   ·exact q
   unfold Sw;exact List.any_eq_true.mpr ⟨s,mem_of_getElem? hs,h⟩
  ·simp only [oh];exact ⟨trivial,by rw [step];exact h,_,rfl⟩
 ·rintro σ H' zzq;refine zzP fun zzM zzh=>?_
  obtain ⟨rfl,hf,x4,rfl⟩:=zzq;subst zzh;rw [length_map,hol,take_length] at hf;rw [hf] at q;walk_at "RD";exact q
theorem mH (T:Txt w K mg t):Gb P w K mg base CX0 7 t.Mj t.oj ["_law_plan","_law_size","_law_rows","_law_names","_law_turns"] (DA t):=by
 have g77:Gb P w K mg base CX0 6 t.Nu t.Fu ["plan","name","turn"] (bB t):=OH T;have g78:Gb P w K mg base CX0 6 t.yj t.mj ["_law_size","_law_rows","_law_name","_law_turn"] (wB K):=(hJ T).mono (by decide);refine T.vj.ok si (fun vs H Q E h=>?_) (fun _ _ _ s H vs Q E hr h=>?_)
 ·obtain ⟨pl,c,n,ds,z,rl,nl',tl,rs,ts,rfl,_⟩:=h;rfl
 obtain ⟨pl,c,n,ds,z,rl,nl',tl,rs,ts,rfl,PA,hz,L,hsm,hn,ht,hfr,q⟩:=h;refine ⟨_,(cb (Wd PassesOwn.never rfl (Ac (pv 3)) (Cb (i:=5) si.nd rfl (Or.inl rfl)) (ib (Wd PassesOwn.never rfl (Ac (pv 4)) (Cb (i:=6) si.nd rfl (Or.inl rfl)) (cb (Db (i:=7) si.nd rfl (Or.inl rfl) (Bb g77 hr rfl T.EJ T.fA.kp T.DJ .nil Fb (bb (pv 0) (bb (pv 5) (bb (pv 6) fb)))))
   (ib (Ye (PW.pt (Gr (cj (Ph (Ed HH rfl T.ly Qo (bb (pv 7) (bb (OM (v:=.ty "bool") rfl T.MO Hz rfl) fb))))) (Gp (dc Dt (pv 7) (Bb g78 hr rfl T.aA T.Hm.kp T.pz .nil Fb (bb (pv 1) (bb (pv 2) (bb (pv 5) (bb (pv 6) fb))))) (yc _))))) (ib (Lb Cm)) zc))))))
   (ib (Lb Cm))),?_⟩
 walk_at "RD";refine ⟨⟨_,SqL.of hn⟩,?_⟩;refine Qh.list (xs:=Jb (ds.map (·.name))) (fun i σ H'=>H'=H/\∃ x5 x6 x7,σ=[some (.ref pl),some (.int z),some (.ref rl),some (.ref nl'),some (.ref tl),x5,x6,x7]) ?_ ?_ ?_ ?_
 ·exact ⟨rfl,_,_,_,rfl⟩
 ·rintro i σ H' hi ⟨rfl,_⟩;exact SqL.of hn
 ·rintro i v σ H' hv zzq;refine zzP fun zzM zzh=>?_
  obtain ⟨rfl,x5,x6,x7,rfl⟩:=zzq;subst zzh;unfold Jb at hv;obtain ⟨nm,hnm,rfl⟩:=Kb hv;obtain ⟨d,hd,rfl⟩:=Kb hnm;have hdm:=mem_of_getElem? hd;walk_at "RD";refine ⟨⟨_,SqL.of ht⟩,?_⟩;refine Qh.list (xs:=ts.map V.int) (fun j σ H2=>H2=H'/\∃ x6 x7,σ=[some (.ref pl),some (.int z),some (.ref rl),some (.ref nl'),some (.ref tl),some (.str d.name),x6,x7]) ?_ ?_ ?_ ?_
  ·exact ⟨rfl,_,_,rfl⟩
  ·rintro j σ H2 hj ⟨rfl,_⟩;exact SqL.of ht
  ·rintro j v σ H2 hv zzq;refine zzP fun zzM zzh=>?_
   obtain ⟨rfl,x6,x7,rfl⟩:=zzq;obtain ⟨turn,htu,rfl⟩:=Kb hv;subst zzh;simp only [yg,Mb,set_cons_succ,set_cons_zero];refine zzC (fun σ' H3=>H3=H2/\σ'=[some (.ref pl),some (.int z),some (.ref rl),some (.ref nl'),some (.ref tl),some (.str d.name),some (.int turn),some (.bl (Dp z rs d turn))]) (fun D hD=>?_) fun zzM zzh=>?_
   ·walk_at "RD";exact ⟨pl,c,n,ds,z,rs,i,d,turn,rfl,PA,hz,hsm d hdm,hd,hD _ _ ⟨rfl,rfl⟩⟩
   rintro σ3 H3 ⟨rfl,rfl⟩;subst zzh;dsimp only;refine Pc false (fun Q hQ=>?_) (fun z=>nomatch z) (fun _=>?_)
   ·walk_at "RD";refine ⟨_,.bl _,true,rfl,?_⟩;rw [if_neg (by decide)];refine ⟨z,rl,rs,d.name,turn,rfl,hz,L,?_⟩;rw [hfr d hdm turn];refine ⟨rfl,?_⟩;rw [decide_eq_true rfl];exact hQ
   ·simp only [oh];exact ⟨trivial,_,_,rfl⟩
  ·rintro σ H2 zzq;refine zzP fun zzM zzh=>?_
   obtain ⟨rfl,x6,x7,rfl⟩:=zzq;subst zzh;exact ⟨rfl,_,_,_,rfl⟩
 ·rintro σ H' zzq;refine zzP fun zzM zzh=>?_
  obtain ⟨rfl,x5,x6,x7,rfl⟩:=zzq;subst zzh;walk_at "RD";exact q
end
end My
namespace My
open PySem L2
theorem Qs.ok16 {n:Int} {ds:List WD} (D:Qs n ds):jQ n ds:=by
 refine ⟨D.nd,fun d hd=>?_,fun d hd e he=>?_⟩
 ·have h:=D.al d hd;exact ⟨⟨h.1.of.1,h.2.1⟩,h.1.nr.1,h.1.le.1⟩
 ·have h:=(D.al d hd).1;have g:=(D.al e he).1;exact WB h.st h.fi g.st g.fi h.ne g.ne
theorem Qs.small {n:Int} {ds:List WD} (D:Qs n ds) {d:WD} (hd:d ∈ ds):zv d.name:=by
 obtain ⟨h1,h2⟩:=Qe (D.al d hd).1.nm;exact ⟨Nat.le_trans h1.2 (by decide),fun c hc=>by have:=h2 c hc;omega⟩
theorem Qs.dok {n:Int} {ds:List WD} (D:Qs n ds):DOk ds:=fun d hd=>⟨D.small hd,(D.al d hd).1.of.1,by have:=(D.al d hd).2.1;omega⟩
theorem ZK:∀ u,u < 5->∀ v,v < 4->∀ k,k < 9->nm6 u v k ≠ Str.ofString "zebra" := by decide +kernel
theorem Qs.strange {n:Int} {ds:List WD} (D:Qs n ds):Om ds (Str.ofString "zebra"):=fun d hd=>by
 obtain ⟨u,v,hu,hv,al⟩:=D.nm;obtain ⟨i,hi⟩:=getElem?_of_mem hd;have hil:=(List.getElem?_eq_some_iff.mp hi).1;rw [al i d hi];exact ZK u hu v hv i (by have:=D.ln;omega)
theorem Qs.dne {n:Int} {ds:List WD} (D:Qs n ds):∀ d ∈ ds,d.name ≠ Str.ofString "" := fun d hd e=>by
 have h:=(Qe (D.al d hd).1.nm).1.1;rw [e] at h;exact absurd h (by decide +kernel)
theorem Cw {n:Int} {z:Nat} {ds:List WD} {sp:List SD} (D:Qs n ds) (A:GN n z ds sp) (hz:1 <= z/\z <= 240):∀ r ∈ Vi z sp,r ≠ []/\r.length <= 9/\∀ x ∈ r,MF x:=fun r hr=>by
 have c:∀ y ∈ [S "round",S "free"],Vr y:=by unfold Vr;decide +kernel
 rcases List.mem_cons.mp hr with e | e
 ·subst e;refine ⟨by simp,by show 2 <= 9;decide,fun x hx=>?_⟩;have:x=S "round" \/ x=num z:=by simpa using hx
  rcases this with rfl | rfl
  ·exact (c _ (by simp)).b
  ·exact (Xd (by omega) (by omega)).b
 ·obtain ⟨d,hd,rfl⟩:=List.mem_map.mp e;refine ⟨by unfold Jg;simp,by show 4 <= 9;decide,fun x hx=>?_⟩;have g:=A.kn d hd;obtain ⟨w,hw,en,_⟩:=g.1;have:x=S "free" \/ x=d.name\/x=num d.b\/x=num d.n:=by simpa [Jg] using hx
  rcases this with rfl | rfl | rfl | rfl
  ·exact (c _ (by simp)).b
  ·rw [en];exact (Go (D.al w hw).1.nm).b
  ·exact (Xd (by omega) (by omega)).b
  ·exact (Xd (by omega) (by omega)).b
theorem wz {n:Int} {z:Nat} {ds:List WD} {sp:List SD} (D:Qs n ds) (A:GN n z ds sp) (hz:1 <= z/\z <= 240):Zg (Og z sp)=[S "round",num z] :: sp.map Jg:=by
 unfold Og;exact WC (by unfold Vi;simp) (fun r hr=>(Cw D A hz r hr).1) (fun r hr=>(Cw D A hz r hr).2.2)
theorem Mo {z:Nat} {sp:List SD} (hz:1 <= z/\z <= 240) (h:∀ s ∈ sp,s.name.length <= 8/\(0 <= s.b/\s.b < 1000)/\0 <= s.n/\s.n < 1000):∀ k,k <= sp.length->(Og z (sp.take k)).length <= 20 + 40 * k
 | 0,_=>by
  have e:(Str.ofString "round ").length=6:=by decide +kernel
  have hn:=eg (n:=(z:Int)) (by omega) (by omega);rw [take_zero,Ux,Fd,e];unfold num;omega
 | k + 1,hk=>by
  have ih:=Mo hz h k (by omega);have hs:sp[k]? = some sp[k]:=getElem?_eq_getElem (by omega);have g:=h _ (mem_of_getElem? hs);have e:(Str.ofString "\nfree ").length=6:=by decide +kernel
  have e2:(Str.ofString " ").length=1:=by decide +kernel
  have h1:=eg (n:=sp[k].b) (by omega) (by omega);have h2:=eg (n:=sp[k].n) (by omega) (by omega);rw [md hs,Du];simp only [Fd,e,e2];unfold num;omega
theorem wG {xs ys:List Str}:∀ x ∈ Jb xs,∀ y ∈ Jb ys,LP x y=true:=fun x hx y hy=>by
 obtain ⟨i,_,rfl⟩:=List.mem_map.mp hx;obtain ⟨j,_,rfl⟩:=List.mem_map.mp hy;rfl
theorem NK.put {H:Hp} {p hl:Addr} {ds:List WD} {f:WD->HO} {m:Nat} {xs ys:List V} (h:NK H p ds f m) (hh:H hl=some (.lst xs)) (hf:∀ d ∈ ds,f d ≠ .lst xs):NK (upd H hl (.lst ys)) p ds f m:=by
 obtain ⟨rs,a1,a2,a3⟩:=h;refine ⟨rs,a1,by rw [jb (Zd a2 hh (by intro z;cases z))];exact a2,fun i r d x y=>?_⟩;have e:=a3 i r d x y;rw [jb (Zd e hh (hf d (mem_of_getElem? y)))];exact e
theorem ef.put {t:Adr} {H H1:Hp} {a c hl:Addr} {n:Int} {ds:List WD} {z:Nat} {sp:List SD} {qs:List Addr} {ys:List V} (PA:ef t H a c n ds z sp) (F:dJ t H1 H a c z) (hH1:H1 hl=some (.lst (qs.map V.ref))) (hh:H hl=some (.lst (qs.map V.ref))) (hq:qs ≠ []) (hz:0 < z) (C:Lc t (upd H hl (.lst ys)) c n ds):ef t (upd H hl (.lst ys)) a c n ds z sp:=by
 obtain ⟨dx,p,lm,un,e1,_,L,N1,N2⟩:=PA.at_;obtain ⟨dx',p',lm',un',e1',hp⟩:=F;rw [e1] at e1';have e:=Option.some.inj e1';injection e with _ _ e3;have hpp:p=p':=by
  unfold plF at e3;simp only [List.cons.injEq,Prod.mk.injEq,V.ref.injEq,true_and,and_true] at e3;exact e3.1
 obtain ⟨q0,qr,rfl⟩:=List.exists_cons_of_ne_nil hq;have hph:p ≠ hl:=fun z=>by rw [hpp] at z;rw [z,hH1] at hp;cases hp
 obtain ⟨qs',l1,l2⟩:=L;refine ⟨dx,p,lm,un,by rw [jb (Zd e1 hh (by intro z;cases z))];exact e1,C,⟨qs',by rw [jb hph];exact l1,l2.1,fun i q o hq ho=>?_⟩,N1.put hh (fun d _ e=>?_),N2.put hh (fun d _ e=>?_)⟩
 ·have e:=l2.2 i q o hq ho;obtain ⟨d,_,rfl⟩:=Kb ho;rw [jb (Zd e hh (by intro z;cases z))];exact e
 ·injection e with e;have hl:(Pp z sp d).length=z:=Fh _ _ _ _;cases hc:Pp z sp d with
  | nil=>rw [hc] at hl;simp at hl;omega
  | cons x r=>rw [hc] at e;unfold Jb at e;simp at e
 ·injection e with e;cases hc:sF z sp d.name with
  | nil=>rw [hc] at e;simp at e
  | cons x r=>rw [hc] at e;simp at e
structure bM (n:Int) (z:Nat) (ds:List WD) (rs:List SD):Prop where
 n4:4 <= n/\n <= 16
 dd:Qs n ds
 zz:13 <= z/\z <= 190
 dl:1 <= ds.length/\ds.length <= 9
 pl:GN n z ds rs
theorem bM.ok {n:Int} {z:Nat} {ds:List WD} {rs:List SD} (I:bM n z ds rs):∀ s ∈ rs,s.name.length <= 8/\(0 <= s.b/\s.b < 1000)/\0 <= s.n/\s.n < 1000:=fun s hs=>by
 have k:=I.pl.kn s hs;obtain ⟨d,hd,en,_⟩:=k.1;have h:=(Qe (I.dd.al d hd).1.nm).1;have:=I.zz;rw [en];exact ⟨h.2,by omega,by omega,by omega⟩
theorem bM.ne {n:Int} {z:Nat} {ds:List WD} {rs:List SD} (I:bM n z ds rs):rs ≠ []:=fun e=>by
 obtain ⟨d0,hd0⟩:=List.exists_mem_of_length_pos (show 0 < ds.length by have:=I.dl;omega);have:=I.pl.nv;unfold Tj at this;have:=List.find?_eq_none.mp this d0.name (List.mem_map.mpr ⟨d0,hd0,rfl⟩);rw [e] at this;exact this rfl
noncomputable def NJ (t:Adr):Sp:=fun vs H Q _=>∃ (c:Addr) (n:Int) (ds:List WD) (z:Nat) (sp:List SD),vs=[.ref c,.str (Og z sp)]/\Lc t H c n ds/\bM n z ds sp/\NoT H/\∀ a H',Pb H H'->NoT H'->ef t H' a c n ds z sp->Q (.ref a) H'
noncomputable def wK (t:Adr):Sp:=fun vs H Q _=>∃ (c:Addr) (n:Int) (ds:List WD) (z:Nat) (p:Addr) (sp:List SD),vs=[.ref c,.int z,.ref p]/\Lc t H c n ds/\bM n z ds sp/\LO H p (List.map sdO sp)/\NoT H/\∀ a H',Pb H H'->NoT H'->ef t H' a c n ds z sp->dJ t H H' a c z->Q (.ref a) H'
section
variable {P:Program} {w:World} {K:W.Frag} {mg:Str->Option Value} {base:Heap} {t:Adr}
theorem kO (T:Txt w K mg t):Gb P w K mg base CX0 6 t.cg t.bg ["crossing","size","rows"] (wK t):=by
 refine (WA T).quiet fun vs H Q E h=>?_
 obtain ⟨c,n,ds,z,p,sp,rfl,C,I,L,nt,q⟩:=h;have hn:=I.n4;have hz:=I.zz;have hl:=I.dl;have R:=I.pl;refine ⟨c,n,ds,z,p,sp,rfl,C,by omega,I.dd.dok,⟨by omega,by omega⟩,L,⟨by have:=R.len;omega,fun s hs=>?_⟩,fun s hs=>?_,nt,fun _ _ _=>q,fun x hx=>?_,fun e _ he=>?_,fun e _ _ he=>?_⟩
 ·have:=R.kn s hs;exact ⟨by omega,by omega,by omega,by omega⟩
 ·obtain ⟨⟨d,_,_,hw⟩,_⟩:=R.kn s hs;exact ⟨d,hw⟩
 ·rw [R.nv] at hx;cases hx
 ·rw [R.sh] at he;cases he
 ·rw [R.cl] at he;cases he
theorem aP (T:Txt w K mg t):Gb P w K mg base CX0 8 t.Oh t.Mh ["crossing","text"] (NJ t):=by
 refine (NH T).quiet fun vs H Q E h=>?_
 obtain ⟨c,n,ds,z,sp,rfl,C,I,nt,q⟩:=h;have hn:=I.n4;have hz:=I.zz;have hl:=I.dl;have R:=I.pl;have hz2:1 <= z/\z <= 240:=by omega
 have htl:=Mo hz2 I.ok sp.length (Nat.le_refl _);rw [take_length] at htl;have hpg:=jC (z:=(z:Int)) (by omega) R.gd;refine ⟨c,n,ds,_,_,_,rfl,C,by omega,I.dd.dok,I.dd.dne,wz I.dd R hz2,by have:=R.len;omega,by rw [length_map];have:=R.len;omega,fun r hr=>⟨(Cw I.dd R hz2 r hr).1,Nat.le_trans (Cw I.dd R hz2 r hr).2.1 (by decide),fun y hy=>Nat.le_trans ((Cw I.dd R hz2 r hr).2.2 y hy).1 (by decide)⟩,nt,?_⟩;rw [hpg];unfold Oc2;dsimp only;rw [Int.toNat_natCast];refine ⟨fun _ _ _ a H' s' n' PA _=>q a H' s' n' PA,fun x hx=>?_,fun e _ he=>?_,fun e _ _ he=>?_⟩
 ·rw [R.nv] at hx;cases hx
 ·rw [R.sh] at he;cases he
 ·rw [R.cl] at he;cases he
theorem DP (T:Txt w K mg t):Gb P w K mg base CX0 10 t.iL t.ZI ["_law_script"] (xN K):=by
 refine T.cQ.ok vf (fun vs H Q E h=>?_) (fun _ _ _ s H vs Q E hr h=>?_)
 ·obtain ⟨a,ns,rfl,_⟩:=h;rfl
 obtain ⟨a,ns,rfl,S0,h63,q⟩:=h;have hU:=hr.units;have g13:Gb P w K mg base CX0 9 t.sf t.qf ["_law_script","_law_k","_law_many"] (Re K a ns):=(Ov T a ns h63).mono (by decide);have g79:Gb P w K mg base CX0 9 t.nj t.Jj ["_law_script","_law_most"] (EO K a ns):=(kQ T a ns h63).mono (by decide);have g80:Gb P w K mg base CX0 9 t.Pj t.Gj ["_law_places","_law_ways_here"] (AB K):=(bJ T).mono (by decide);have g81:Gb P w K mg base CX0 9 t.ji t.Xh ["_law_script","_law_places","_law_ways_here"] (wy K a ns):=(zF T a ns h63).mono (by decide);have g82:Gb P w K mg base CX0 9 t.Hf t.Df ["text"] (KO t):=(wQ T).mono (by decide);have g83:Gb P w K mg base CX0 9 t.Oh t.Mh ["crossing","text"] (NJ t):=(aP T).mono (by decide);have g84:Gb P w K mg base CX0 9 t.cg t.bg ["crossing","size","rows"] (wK t):=(kO T).mono (by decide);have g36:Gb P w K mg base CX0 9 t.gn t.Hn ["plan"] (fu t):=(xC T).mono (by decide);have g16:Gb P w K mg base CX0 9 t.Gc t.ad ["self"] (Hl t):=(Jn T).mono (by decide);have g37:Gb P w K mg base CX0 9 t.rg t.zg ["_law_plan"] (QF t):=(cM T).mono (by decide);have g38:Gb P w K mg base CX0 9 t.Mj t.oj ["_law_plan","_law_size","_law_rows","_law_names","_law_turns"] (DA t):=(mH T).mono (by decide);refine ⟨_,(cb (Db (i:=1) vf.nd rfl (Or.inl rfl) xb)
   (cb (Ye (dc qk (Bb g13 hr rfl T.jc T.Vb.kp T.kc .nil Fb (bb (pv 0) (bb xb (bb xb fb)))) xb (yc _)) (ib (Db (i:=1) vf.nd rfl (Or.inl rfl) xb)) zc)
   (cb (Db (i:=2) vf.nd rfl (Or.inl rfl) (Bb g79 hr rfl T.mz T.Pm.kp T.Mz .nil Fb (bb (pv 0) (bb (pv 1) fb))))
   (cb (Db (i:=3) vf.nd rfl (Or.inl rfl) (Bb g82 hr rfl T.br T.Dh.kp T.Gq .nil Fb (bb (Bb g80 hr rfl T.Lz T.Qm.kp T.Tz .nil Fb (bb (yd Vc (pv 2) xb (fun _ _=>rfl)) (bb (yd Vc (pv 2) xb (fun _ _=>rfl)) fb))) fb)))
   (cb (Db (i:=4) vf.nd rfl (Or.inl rfl) (Bb g81 hr rfl T.xw T.yk.kp T.ux .nil Fb (bb (pv 0) (bb (yd Vc (pv 2) xb (fun _ _=>rfl)) (bb (yd Vc (pv 2) xb (fun _ _=>rfl)) fb)))))
   (cb (Db (i:=5) vf.nd rfl (Or.inl rfl) (yd Vc (pv 4) xb (fun _ _=>rfl)))
   (cb (Db (i:=6) vf.nd rfl (Or.inl rfl) (yd Vc (pv 4) xb (fun _ _=>rfl)))
   (cb (Db (i:=7) vf.nd rfl (Or.inl rfl) (Nb Dd Rc (gf zf rfl T.EC vh (bb (pv 5) fb))))
   (cb (Wd PassesOwn.never rfl (Ac (pv 6)) (Cb (i:=8) vf.nd rfl (Or.inl rfl)) (ib (Db (i:=7) vf.nd rfl (Or.inl rfl) (Nb Dd (Nb Dd (Nb Dd (Nb Dd (Nb Dd (Nb Dd (pv 7) Rc) (yd Vc (pv 8) xb (fun _ _=>rfl))) Rc) (gf zf rfl T.EC vh (bb (yd Vc (pv 8) xb (fun _ _=>rfl)) fb))) Rc) (gf zf rfl T.EC vh (bb (yd Vc (pv 8) xb (fun _ _=>rfl)) fb))))))
   (cb (qh (i:=9) vf.nd rfl (Or.inl rfl) rfl (Ac (yd Vc (pv 2) xb (fun _ _=>rfl))) (kd (sc:=rb PL) rfl (by decide +kernel)) (N:=["_law_way"]) (sel:=[none]) (Yd (M:=["_law_script","_law_most","_law_told","_law_crossing","_law_made","_law_size","_law_rows","_law_text_here","_law_row","_law_names","_law_far","_law_turns","_law_last","_law_plan","_law_handed","_law_other"]) (by decide +kernel)) (Blk.of (fun _ _ _ _=>(Cb (i:=0) (Ug (N:=["_law_way"]) (by decide +kernel) rfl) rfl (Or.inl rfl))) (fun _ _ _ _=>⟨_,ag,by walk_at "B"⟩) (fun _ _ _ _=>⟨_,(yd Vc (pv 0) xb (fun _ _=>rfl)),by walk_at "B"⟩)) rfl)
   (cb (Db (i:=10) vf.nd rfl (Or.inl rfl) (gv (dc FD (Ed wc rfl T.Ql Zc (bb (pv 0) fb)) xb (yc _)) (Nb Mf (yd Zf (pv 0) (Nb jD (Ed wc rfl T.Ql Zc (bb (pv 0) fb)) xb) (fun _ _=>rfl)) (Nb FN xb xb)) xb))
   (cb (Db (i:=11) vf.nd rfl (Or.inl rfl) (Nb SJ (gf (Nt rfl) rfl T.Ww Mm (bb (gf rE rfl T.Nj (by decide +kernel) (bb xb (bb (pv 5) (bb (Nb Qc xb (Nb jD (pv 5) xb)) fb)))) fb)) (Cf (bb (pv 10) (bb (Nb Qc (pv 10) xb) (bb (Nb Qc (pv 10) (pv 5)) fb))))))
   (cb (Wd PassesOwn.never rfl (Ac (pv 6)) (Cb (i:=8) vf.nd rfl (Or.inl rfl)) (cb (Db (i:=12) vf.nd rfl (Or.inl rfl) (Nb Qc (yd Vc (pv 8) xb (fun _ _=>rfl)) (yd Vc (pv 8) xb (fun _ _=>rfl))))
   (ib (Db (i:=11) vf.nd rfl (Or.inl rfl) (Nb SJ (pv 11) (Cf (bb (Nb Qc (yd Vc (pv 8) xb (fun _ _=>rfl)) (Nb Lu xb (pv 5))) (bb (pv 12) (bb (Nb Mg (pv 12) xb) (bb (Nb Mg (Nb Qc (yd Vc (pv 8) xb (fun _ _=>rfl)) (pv 5)) xb) fb))))))))))
   (cb (Db (i:=13) vf.nd rfl (Or.inl rfl) (Bb g83 hr rfl T.Jz T.Nm.kp T.Xz .nil Fb (bb (pv 3) (bb (pv 7) fb))))
   (cb (Db (i:=14) vf.nd rfl (Or.inl rfl) (gf Ay rfl T.Ww Mm (bb (pv 6) fb)))
   (cb (Db (i:=15) vf.nd rfl (Or.inl rfl) (Bb g84 hr rfl T.Yr T.Dj.kp T.Br .nil Fb (bb (pv 3) (bb (pv 5) (bb (pv 14) fb)))))
   (cb (Xb (AN PySem.F.plainAttrs_list PySem.F.slot_list_clear PySem.F.type_list_clear VH (pv 14)))
   (cb (Ye (PW.pt (Gr (dc Dt (Bb g36 hr rfl T.dy T.Yn.kp T.Nx .nil Fb (bb (pv 13) fb)) (pv 7) (yc _)) (Gr (dc Dt (Bb g36 hr rfl T.dy T.Yn.kp T.Nx .nil Fb (bb (pv 15) fb)) (pv 7) (yc _)) (Gr (dc Dt (vc (pv 13) rfl) (pv 5) (yc _)) (Gp (dc Dt (vc (pv 15) rfl) (pv 5) (yc _))))))) (ib (Lb Cm)) zc)
   (cb (Ye (PW.pt (Gr (dc (bO hU) (zd (vc (pv 13) rfl) T.Ob T.Jd g16 hr T.Hd .nil Fb) (pv 9) (yc _)) (Gr (cj (Ph (Bb g37 hr rfl T.gm T.og.kp T.fm .nil Fb (bb (pv 13) fb)))) (Gp (cj (Ph (Bb g37 hr rfl T.gm T.og.kp T.fm .nil Fb (bb (pv 15) fb)))))))) (ib (Lb Cm)) zc)
   (ib (Lb (zE (Bb g38 hr rfl T.Hq T.vj.kp T.Pr .nil Fb (bb (pv 13) (bb (pv 5) (bb (pv 6) (bb (pv 9) (bb (pv 11) fb)))))) (Dx (Bb g38 hr rfl T.Hq T.vj.kp T.Pr .nil Fb (bb (pv 15) (bb (pv 5) (bb (pv 6) (bb (pv 9) (bb (pv 11) fb))))))))))))))))))))))))))))),?_⟩
 refine zS (fun σ' H'=>H'=H/\σ'=[some (.ref a),some (.int 5),none,none,none,none,none,none,none,none,none,none,none,none,none,none]) (fun D' hD=>?_) fun zzM zzh=>?_
 ·walk_at "RD";exact hD _ _ ⟨rfl,rfl⟩
 rintro σ1 H1 ⟨rfl,rfl⟩;subst zzh;refine zS (fun σ' H'=>H'=H1/\∃ most:Int,(1 <= most/\most <= 9)/\σ'=[some (.ref a),some (.int most),none,none,none,none,none,none,none,none,none,none,none,none,none,none]) (fun D' hD=>?_) fun zzM zzh=>?_
 ·refine Pc (decide (jj ns 5 8=1)) (fun Q hQ=>?_) (fun cc=>?_) (fun cc=>?_)
  ·walk_at "RD";refine ⟨_,_,rfl,S0,by decide,by decide,rfl,?_⟩;walk_at "RD";exact hQ
  ·walk_at "RD";exact hD _ _ ⟨rfl,9,by decide,rfl⟩
  ·simp only [oh];exact hD _ _ ⟨rfl,5,by decide,rfl⟩
 rintro σ2 H2 ⟨rfl,most,hmost,rfl⟩;subst zzh;refine zS (fun σ' H'=>Pb H2 H'/\Sc K a ns H'/\∃ tp wl n ds,H' tp=some (.tup [.int n,.ref wl])/\LW H' wl ds/\Qs n ds/\(4 <= n/\n <= 16)/\(1 <= ds.length/\ds.length <= 9)/\σ'=[some (.ref a),some (.int most),some (.ref tp),none,none,none,none,none,none,none,none,none,none,none,none,none]) (fun D' hD=>?_) fun zzM zzh=>?_
 ·walk_at "RD";exact ⟨most,rfl,hmost,S0,fun tp wl n ds H' s3 S3 e3 L3 D3 hn hl=>hD _ _ ⟨s3,S3,tp,wl,n,ds,e3,L3,D3,hn,hl,rfl⟩⟩
 rintro σ3 H3 ⟨s3,S3,tp,wl,n,ds,e3,L3,D,hn,hdl,rfl⟩;subst zzh;refine zS (fun σ' H'=>Pb H3 H'/\Sc K a ns H'/\∃ c,Lc t H' c n ds/\σ'=[some (.ref a),some (.int most),some (.ref tp),some (.ref c),none,none,none,none,none,none,none,none,none,none,none,none]) (fun D' hD=>?_) fun zzM zzh=>?_
 ·walk_at "RD";exact ⟨_,SqT.of e3,_,Bc (j:=0) rfl,_,SqT.of e3,_,Bc (j:=1) rfl,n,wl,ds,rfl,L3,D,by omega,by omega,S3.nt,n,ds,rfl,D.cok (by omega) (by omega),S3.nt,fun c H' s4 n4 C4=>hD _ _ ⟨s4,S3.same s4 n4,c,C4,rfl⟩⟩
 rintro σ4 H4 ⟨s4,S4,c,C4,rfl⟩;subst zzh;refine zS (fun σ' H'=>Pb H4 H'/\Sc K a ns H'/\∃ (mp rl:Addr) (z:Nat) (rs:List SD),H' mp=some (.tup [.int z,.ref rl])/\LO H' rl (List.map sdO rs)/\bM n z ds rs/\σ'=[some (.ref a),some (.int most),some (.ref tp),some (.ref c),some (.ref mp),none,none,none,none,none,none,none,none,none,none,none]) (fun D' hD=>?_) fun zzM zzh=>?_
 ·walk_at "RD";exact ⟨_,SqT.of (s4 _ _ e3),_,Bc (j:=0) rfl,_,SqT.of (s4 _ _ e3),_,Bc (j:=1) rfl,n,wl,ds,rfl,S4,L3.same s4,D,hdl,fun mp rl z gs sp rs sh H' s5 S5 e5 L5 G5 W5 hp hz=>hD _ _ ⟨s5,S5,mp,rl,z,rs,e5,L5,⟨hn,D,hz,hdl,cO (by omega) D.ok16 G5 W5 sh hp⟩,rfl⟩⟩
 rintro σ5 H5 ⟨s5,S5,mp,rl,z,rs,e5,L5,I,rfl⟩;have hz:=I.zz;obtain ⟨os,l5,lq5⟩:=id L5;have hol:os.length=rs.length:=by rw [lq5.1,length_map]
 have hrl:rs.length <= 10:=by have:=I.pl.len;omega
 have C5:=C4.same s5;have L5w:=(L3.same s4).same s5;subst zzh;refine zS (fun σ' H'=>H'=H5/\σ'=[some (.ref a),some (.int most),some (.ref tp),some (.ref c),some (.ref mp),some (.int z),none,none,none,none,none,none,none,none,none,none]) (fun D' hD=>?_) fun zzM zzh=>?_
 ·walk_at "RD";exact ⟨_,SqT.of e5,_,Bc (j:=0) rfl,hD _ _ ⟨rfl,rfl⟩⟩
 rintro σ6 H6 ⟨rfl,rfl⟩;subst zzh;refine zS (fun σ' H'=>H'=H6/\σ'=[some (.ref a),some (.int most),some (.ref tp),some (.ref c),some (.ref mp),some (.int z),some (.ref rl),none,none,none,none,none,none,none,none,none]) (fun D' hD=>?_) fun zzM zzh=>?_
 ·walk_at "RD";exact ⟨_,SqT.of e5,_,Bc (j:=1) rfl,hD _ _ ⟨rfl,rfl⟩⟩
 rintro σ7 H7 ⟨rfl,rfl⟩;subst zzh;refine zS (fun σ' H'=>H'=H7/\σ'=[some (.ref a),some (.int most),some (.ref tp),some (.ref c),some (.ref mp),some (.int z),some (.ref rl),some (.str (Og z [])),none,none,none,none,none,none,none,none]) (fun D' hD=>?_) fun zzM zzh=>?_
 ·walk_at "RD";have hn1:=eg (n:=(z:Int)) (by omega) (by omega);rw [show Str.ofString "round " ++ Str.ofString (toString (z:Int))=Og z [] from (Ux _).symm];exact ⟨Ji (by omega),Ao _ (by rw [show (Str.ofString "round ").length=6 by decide +kernel];omega),hD _ _ ⟨rfl,rfl⟩⟩
 rintro σ8 H8 ⟨rfl,rfl⟩;subst zzh;refine zS (fun σ' H'=>H'=H8/\∃ x8,σ'=[some (.ref a),some (.int most),some (.ref tp),some (.ref c),some (.ref mp),some (.int z),some (.ref rl),some (.str (Og z rs)),x8,none,none,none,none,none,none,none]) (fun D' hD=>?_) fun zzM zzh=>?_
 ·walk_at "RD";refine ⟨⟨_,SqL.of l5⟩,?_⟩;refine Qh.list (xs:=os.map V.ref) (fun i σ H'=>H'=H8/\∃ x8,σ=[some (.ref a),some (.int most),some (.ref tp),some (.ref c),some (.ref mp),some (.int z),some (.ref rl),some (.str (Og z (rs.take i))),x8,none,none,none,none,none,none,none]) ?_ ?_ ?_ ?_
  ·exact ⟨rfl,_,by rw [take_zero]⟩
  ·rintro i σ H' hi ⟨rfl,_⟩;exact SqL.of l5
  ·rintro i v σ H' hv ⟨rfl,x8,rfl⟩;obtain ⟨qi,hqi,rfl⟩:=Kb hv;obtain ⟨o,ho,e⟩:=lq5.at hqi;obtain ⟨s,hs,rfl⟩:=Kb ho;have e':H' qi=some (.tup [.str s.name,.int s.b,.int s.n]):=e;have hi:i < rs.length:=(List.getElem?_eq_some_iff.mp hs).1;have hlen:=Mo (z:=z) (by omega) I.ok i (by omega);have g:=I.ok s (mem_of_getElem? hs);have hsn:=Du z (rs.take i) s;rw [<- md hs] at hsn;walk_at "RD";have h1:=eg (n:=s.b) (by omega) (by omega);have h2:=eg (n:=s.n) (by omega) (by omega);have e1:(Str.ofString "\nfree ").length=6:=by decide +kernel
   have e2:(Str.ofString " ").length=1:=by decide +kernel
   exact ⟨Ao _ (by rw [e1];omega),_,SqT.of e',_,AQ s,_,rfl,Ao _ (by simp only [Fd,e1];omega),Ao _ (by simp only [Fd,e1,e2];omega),_,SqT.of e',_,gN s,_,rfl,Ji (by omega),Ao _ (by simp only [Fd,e1,e2];omega),Ao _ (by simp only [Fd,e1,e2];omega),_,SqT.of e',_,MP s,_,rfl,Ji (by omega),Ao _ (by simp only [Fd,e1,e2];omega),hsn.symm,_,rfl⟩
  ·rintro σ H' ⟨rfl,x8,rfl⟩;rw [length_map,hol,take_length];exact hD _ _ ⟨rfl,_,rfl⟩
 rintro σ9 H9 ⟨rfl,x8,rfl⟩;subst zzh;refine zS (fun σ' H'=>Pb H9 H'/\Sc K a ns H'/\∃ nl',H' nl'=some (.lst (Jb (ds.map (·.name))))/\σ'=[some (.ref a),some (.int most),some (.ref tp),some (.ref c),some (.ref mp),some (.int z),some (.ref rl),some (.str (Og z rs)),x8,some (.ref nl'),none,none,none,none,none,none]) (fun D' hD=>?_) fun zzM zzh=>?_
 ·obtain ⟨qw,w1,w2,w3⟩:=L5w;walk_at "RD";refine ⟨_,SqT.of (s5 _ _ (s4 _ _ e3)),_,Bc (j:=1) rfl,_,rfl,⟨_,SqL.of w1⟩,?_⟩;refine fe.list_zs (xs:=qw.map V.ref) (zs:=Jb (ds.map (·.name))) (SqL.of w1) (Nat.le_trans (show (qw.map V.ref).length <= 9 by rw [length_map];omega) (by decide)) (by rw [xk,length_map,length_map,w2]) (fun j v z N hv hz hN=>?_) (fun p hp=>hD _ _ ⟨wb hp,S5.new hp,p,db,rfl⟩);obtain ⟨qi,hqi,rfl⟩:=Kb hv;unfold Jb at hz;obtain ⟨x,hx,rfl⟩:=Kb hz;obtain ⟨d,hd,rfl⟩:=Kb hx;walk_at "RD";exact ⟨Sub.name,_,SqT.of (w3 j qi d hqi hd),_,XN _,hN⟩
 rintro σ10 H10 ⟨s10,S10,nl',en,rfl⟩;subst zzh;refine zS (fun σ' H'=>H'=H10/\∃ far:Int,σ'=[some (.ref a),some (.int most),some (.ref tp),some (.ref c),some (.ref mp),some (.int z),some (.ref rl),some (.str (Og z rs)),x8,some (.ref nl'),some (.int far),none,none,none,none,none]) (fun D' hD=>?_) fun zzM zzh=>?_
 ·walk_at "RD";refine ⟨_,.inl S10.seq,?_⟩;rw [length_map];by_cases c0:0 < (ns.length:Int)
  ·rw [if_pos (decide_eq_true c0)];refine ⟨_,.inl S10.seq,⟨by decide,by decide⟩,_,S10.seq,?_⟩;rw [length_map,show ((ns.length:Nat):Int) / 2=((ns.length / 2:Nat):Int) by omega];have hj:ns.length / 2 < ns.length:=by omega
   exact ⟨.int ns[ns.length / 2],Bc (by rw [getElem?_map,getElem?_eq_getElem hj];rfl),⟨by decide,by decide,by decide⟩,_,rfl,by decide,hD _ _ ⟨rfl,_,rfl⟩⟩
  ·rw [if_neg (by simpa using c0)];exact hD _ _ ⟨rfl,7,rfl⟩
 rintro σ11 H11 ⟨rfl,far,rfl⟩;subst zzh;refine zS (fun σ' H'=>Pb H11 H'/\Sc K a ns H'/\∃ (tl:Addr) (ts:List Int),H' tl=some (.lst (ts.map V.int))/\ts.length <= 300/\σ'=[some (.ref a),some (.int most),some (.ref tp),some (.ref c),some (.ref mp),some (.int z),some (.ref rl),some (.str (Og z rs)),x8,some (.ref nl'),some (.int far),some (.ref tl),none,none,none,none]) (fun D' hD=>?_) fun zzM zzh=>?_
 ·walk_at "RD";have hq:0 <= (z:Int) / 12/\(z:Int) / 12 <= 20:=by omega
  obtain ⟨m,hm,hm2⟩:∃ m:Nat,Builtin.Range.rangeSize 0 (z:Int) (1 + (z:Int) / 12)=(m:Int)/\m <= 191:=by
   unfold Builtin.Range.rangeSize;rw [if_pos (by omega),if_pos (by omega)];have h0:=Int.ediv_nonneg (show 0 <= (z:Int) - 0 - 1 by omega) (show 0 <= 1 + (z:Int) / 12 by omega);have h1:=Int.ediv_le_self (1 + (z:Int) / 12) (show 0 <= (z:Int) - 0 - 1 by omega);exact ⟨(((z:Int) - 0 - 1) / (1 + (z:Int) / 12) + 1).toNat,by omega,by omega⟩
  refine ⟨⟨by decide,by decide⟩,by decide,by decide,by omega,by omega,by omega,by omega,fun p hp=>⟨0,z,1 + z / 12,db,by decide,by decide,by omega,by omega,by omega,by omega,m,hm,by omega,fun l hl=>⟨by decide,fun p1 hp1=>⟨_,(wb hp1) _ _ db,_,db,Nat.le_trans (show (List.map (fun k:Nat=>V.int (0 + (k:Int) * (1 + (z:Int) / 12))) (List.range m)).length + 3 <= 200 by rw [length_map,length_range];omega) (by decide),fun p2 hp2=>?_⟩⟩⟩⟩;exact hD _ _ ⟨(((wb hp).trans (wb hl)).trans (wb hp1)).trans (wb hp2),(((S10.new hp).new hl).new hp1).new hp2,p2,(List.range m).map (fun k:Nat=>0 + (k:Int) * (1 + (z:Int) / 12)) ++ [far,far + 1,far + z],by rw [db,map_append,map_map];rfl,by rw [length_append,length_map,length_range];show m + 3 <= 300;omega,rfl⟩
 rintro σ12 H12 ⟨s12,S12,tl,ts,et,htl,rfl⟩;subst zzh;refine zS (fun σ' H'=>Pb H12 H'/\Sc K a ns H'/\∃ (tl:Addr) (ts:List Int) (x8 x12:Option V),H' tl=some (.lst (ts.map V.int))/\σ'=[some (.ref a),some (.int most),some (.ref tp),some (.ref c),some (.ref mp),some (.int z),some (.ref rl),some (.str (Og z rs)),x8,some (.ref nl'),some (.int far),some (.ref tl),x12,none,none,none]) (fun D' hD=>?_) fun zzM zzh=>?_
 ·walk_at "RD";have l12:=s12 _ _ (s10 _ _ l5);refine ⟨⟨_,SqL.of l12⟩,?_⟩;refine Qh.list (xs:=os.map V.ref) (fun i σ H'=>Pb H12 H'/\Sc K a ns H'/\∃ (tl:Addr) (ts:List Int) (x8 x12:Option V),H' tl=some (.lst (ts.map V.int))/\ts.length <= 300 + 4 * i/\σ=[some (.ref a),some (.int most),some (.ref tp),some (.ref c),some (.ref mp),some (.int z),some (.ref rl),some (.str (Og z rs)),x8,some (.ref nl'),some (.int far),some (.ref tl),x12,none,none,none]) ?_ ?_ ?_ ?_
  ·exact ⟨Pb.refl _,S12,tl,ts,_,_,et,by omega,rfl⟩
  ·rintro i σ H' hi ⟨sm,_⟩;exact SqL.of (sm _ _ l12)
  ·rintro i v σ H' hv zzq;refine zzP fun zzM zzh=>?_
   obtain ⟨sm,Sm,tl,ts,x8,x12,et,htl,rfl⟩:=zzq;obtain ⟨qi,hqi,rfl⟩:=Kb hv;obtain ⟨o,ho,e⟩:=lq5.at hqi;obtain ⟨s,hs,rfl⟩:=Kb ho;have e':H' qi=some (.tup [.str s.name,.int s.b,.int s.n]):=sm _ _ (s12 _ _ (s10 _ _ e));have hi:i < rs.length:=(List.getElem?_eq_some_iff.mp hs).1;subst zzh;walk_at "RD";refine ⟨_,SqT.of e',_,gN s,_,SqT.of e',_,MP s,_,rfl,_,rfl,_,SqT.of e',_,gN s,.inl ⟨by decide,by decide⟩,_,rfl,_,SqT.of e',_,gN s,_,rfl,by decide,fun p hp=>⟨_,(wb hp) _ _ et,_,db,Nat.le_trans (show (ts.map V.int).length + 4 <= 500 by rw [length_map];omega) (by decide),fun p2 hp2=>?_⟩⟩;exact ⟨(sm.trans (wb hp)).trans (wb hp2),(Sm.new hp).new hp2,p2,ts ++ [s.b + 3 * z,s.b + s.n,s.b + s.n - 1,s.b + z - 1],by rw [db,map_append];rfl,by rw [length_append];show _ + 4 <= _;omega,rfl,_,rfl⟩
  ·rintro σ H' zzq;refine zzP fun zzM zzh=>?_
   obtain ⟨sm,Sm,tl,ts,x8,x12,et,htl,rfl⟩:=zzq;subst zzh;exact hD _ _ ⟨sm,Sm,tl,ts,_,_,et,rfl⟩
 rintro σ13 H13 ⟨s13,S13,tl,ts,x8,x12,et,rfl⟩;have s9:=s10.trans (s12.trans s13);subst zzh;refine zS (fun σ' H'=>Pb H13 H'/\Sc K a ns H'/\∃ pa,ef t H' pa c n ds z rs/\σ'=[some (.ref a),some (.int most),some (.ref tp),some (.ref c),some (.ref mp),some (.int z),some (.ref rl),some (.str (Og z rs)),x8,some (.ref nl'),some (.int far),some (.ref tl),x12,some (.ref pa),none,none]) (fun D' hD=>?_) fun zzM zzh=>?_
 ·walk_at "RD";exact ⟨c,n,ds,z,rs,rfl,C5.same s9,I,S13.nt,fun pa H' s14 n14 PA=>hD _ _ ⟨s14,S13.same s14 n14,pa,PA,rfl⟩⟩
 rintro σ14 H14 ⟨s14,S14,pa,PA,rfl⟩;have sA:=s9.trans s14;subst zzh;refine zS (fun σ' H'=>∃ hl,H14 hl=none/\H'=upd H14 hl (.lst (os.map V.ref))/\σ'=[some (.ref a),some (.int most),some (.ref tp),some (.ref c),some (.ref mp),some (.int z),some (.ref rl),some (.str (Og z rs)),x8,some (.ref nl'),some (.int far),some (.ref tl),x12,some (.ref pa),some (.ref hl),none]) (fun D' hD=>?_) fun zzM zzh=>?_
 ·walk_at "RD";exact ⟨_,.inl (SqL.of (sA _ _ l5)),fun hl hhl=>hD _ _ ⟨hl,hhl,rfl,rfl⟩⟩
 rintro σ15 H15 ⟨hl,hhl,rfl,rfl⟩;have s15:Pb H14 (upd H14 hl (.lst (os.map V.ref))):=wb hhl;have e15:(upd H14 hl (.lst (os.map V.ref))) hl=some (.lst (os.map V.ref)):=db;have S15:Sc K a ns (upd H14 hl (.lst (os.map V.ref))):=S14.new hhl;subst zzh;generalize upd H14 hl (.lst (os.map V.ref))=H15 at s15 e15 S15 ⊢;refine zS (fun σ' H'=>Pb H15 H'/\Sc K a ns H'/\∃ pb,ef t H' pb c n ds z rs/\dJ t H15 H' pb c z/\σ'=[some (.ref a),some (.int most),some (.ref tp),some (.ref c),some (.ref mp),some (.int z),some (.ref rl),some (.str (Og z rs)),x8,some (.ref nl'),some (.int far),some (.ref tl),x12,some (.ref pa),some (.ref hl),some (.ref pb)]) (fun D' hD=>?_) fun zzM zzh=>?_
 ·walk_at "RD";exact ⟨c,n,ds,z,hl,rs,rfl,C5.same (sA.trans s15),I,⟨os,e15,(lq5.same sA).same s15⟩,S15.nt,fun pb H' s16 n16 PB F=>hD _ _ ⟨s16,S15.same s16 n16,pb,PB,F,rfl⟩⟩
 rintro σ16 H16 ⟨s16,S16,pb,PB,F,rfl⟩;subst zzh;refine zS (fun σ' H'=>Pb H14 H'/\Sc K a ns H'/\ef t H' pb c n ds z rs/\σ'=[some (.ref a),some (.int most),some (.ref tp),some (.ref c),some (.ref mp),some (.int z),some (.ref rl),some (.str (Og z rs)),x8,some (.ref nl'),some (.int far),some (.ref tl),x12,some (.ref pa),some (.ref hl),some (.ref pb)]) (fun D' hD=>?_) fun zzM zzh=>?_
 ·have sC:Pb H14 (upd H16 hl (.lst [])):=(s15.trans s16).updN hhl;have P2:=PB.put (ys:=[]) F e15 (s16 _ _ e15) (fun e=>I.ne (List.length_eq_zero_iff.mp (by rw [<- hol,e];rfl))) (by omega) (C5.same (sA.trans sC));walk_at "RD";refine ⟨.inl ⟨_,SqL.of (s16 _ _ e15)⟩,_,s16 _ _ e15,hD _ _ ⟨sC,S16.set (s16 _ _ e15) (by intro ob z h;cases h),P2,rfl⟩⟩
 rintro σ17 H17 ⟨s17,S17,PB7,rfl⟩;have PA7:=PA.same s17;have sB:=sA.trans s17;have C7:=C5.same sB;obtain ⟨dxa,ppa,lma,una,hpa,_,_,_,_⟩:=PA7.at_;obtain ⟨dxb,ppb,lmb,unb,hpb,_,_,_,_⟩:=PB7.at_;obtain ⟨_,dxc,wlc,ndc,ec,_,_⟩:=id C7;subst zzh;refine zS (fun σ' H'=>H'=H17/\σ'=[some (.ref a),some (.int most),some (.ref tp),some (.ref c),some (.ref mp),some (.int z),some (.ref rl),some (.str (Og z rs)),x8,some (.ref nl'),some (.int far),some (.ref tl),x12,some (.ref pa),some (.ref hl),some (.ref pb)]) (fun D' hD=>?_) fun zzM zzh=>?_
 ·refine Pc false (fun Q hQ=>?_) (fun z=>nomatch z) (fun _=>?_)
  ·walk_at "RD";refine ⟨pa,c,n,ds,z,rs,rfl,PA7,by omega,by omega,I.ok,S17.nt,rfl,?_⟩;rw [if_neg (by simp)];refine ⟨pb,c,n,ds,z,rs,rfl,PB7,by omega,by omega,I.ok,S17.nt,rfl,?_⟩;rw [if_neg (by simp)];refine ⟨_,Vv T hpa,rfl,?_⟩;rw [if_neg (by simp)];refine ⟨_,Vv T hpb,rfl,?_⟩;rw [decide_eq_true rfl];exact hQ
  ·simp only [oh];exact hD _ _ ⟨rfl,rfl⟩
 rintro σ18 H18 ⟨rfl,rfl⟩;subst zzh;refine zS (fun σ' H'=>Pb H18 H'/\Sc K a ns H'/\σ'=[some (.ref a),some (.int most),some (.ref tp),some (.ref c),some (.ref mp),some (.int z),some (.ref rl),some (.str (Og z rs)),x8,some (.ref nl'),some (.int far),some (.ref tl),x12,some (.ref pa),some (.ref hl),some (.ref pb)]) (fun D' hD=>?_) fun zzM zzh=>?_
 ·refine Uh (fun b H'=>b=false/\Pb H18 H'/\Sc K a ns H') (fun Q hQ=>?_) (fun H' z=>nomatch z.1) (fun H' z=>?_)
  ·walk_at "RD";refine ⟨_,Xq T hpa,c,rfl,_,_,ec,qx _ _ _ (by decide +kernel),c,n,ds,rfl,C7,fun p hp=>⟨p,rfl,true,?_,?_⟩⟩
   ·have:=EqH.flats (k:=7) (SqL.of (K:=K) (show (upd H18 p (.lst (Jb (ds.map (·.name))))) p=some (.lst (Jb (ds.map (·.name)))) from db)) (SqL.of ((wb hp) _ _ ((s12.trans (s13.trans (s14.trans s17))) _ _ en))) wG;rwa [decide_eq_true rfl] at this
   ·rw [if_neg (by decide)];refine ⟨pa,c,n,ds,z,rs,rfl,PA7.same (wb hp),by omega,D.strange,(S17.new hp).nt,true,rfl,?_⟩;rw [if_neg (by decide)];exact ⟨pb,c,n,ds,z,rs,rfl,PB7.same (wb hp),by omega,D.strange,(S17.new hp).nt,true,rfl,hQ _ _ ⟨rfl,wb hp,S17.new hp⟩⟩
  ·simp only [oh];exact hD _ _ ⟨z.2.1,z.2.2,rfl⟩
 rintro σ19 H19 ⟨s19,S19,rfl⟩;have hfr:∀ d ∈ ds,∀ turn,Dp z rs d turn=Sw z rs d.name turn:=fun d hd turn=>IP (by omega) D.ok16 I.pl hd turn
 subst zzh;walk_at "RD";have en9:=((s12.trans (s13.trans (s14.trans s17))).trans s19) _ _ en;have et9:=((s14.trans s17).trans s19) _ _ et;have L9:=(L5.same sB).same s19;refine ⟨pa,c,n,ds,z,rl,nl',tl,rs,ts,rfl,PA7.same s19,by omega,L9,fun d hd=>D.small hd,en9,et9,hfr,true,rfl,?_⟩;rw [if_pos rfl];exact ⟨pb,c,n,ds,z,rl,nl',tl,rs,ts,rfl,PB7.same s19,by omega,L9,fun d hd=>D.small hd,en9,et9,hfr,q _⟩
end
end My
structure PySem.W.Fast:Prop where(tw16730743115546591198 tw17232241633621979756 tw10151097282695640789 tw13272174958431025438 tw9784536459707246814 tw4379486352776910712 tw15105220744667983371 tw305391699848478267 tw13574471735798563242 tw2589704417044426231 tw2765765874678293063 tw15066646622788055628 tw3421450645939443262 tw6617484434144791829 tw2672094904898965291 tw12152195800958445777 tw9613942398330709968 tw11533838417874554409 tw15423751274110728680 tw4626460878247515150 tw11846058513484640201 tw11167764196195667420 tw15389105723898098179 tw2308643391699218613 tw15574900194023998707 tw7079074462286718937 tw1905097955372122640 tw3911680523480869011 tw1834730353897222042 tw1840361566621750896 tw1397836279806678738 tw10376965761206059008 tw1048009196127536784 tw16678296528337293702 tw9011223136293921319 tw10186139120764600761 tw6935053132932956811 tw17079434483115993465 tw842273286206109935 tw7384360428264312620 tw18262428095615825801 tw18110665138097275366 tw9499957767912906481 tw15639444020056041504 tw5887955081847276540 tw5848694729279904161 tw14499497328807709104 tw14975617149835597798 tw8865637304639366587 tw14055015664022458777 tw8453798804908432691 tw9943009623367829989 tw16361854250569318324 tw6684028107933575940 tw113967676460852221 tw15294737538616277028 tw4127908008210626062 tw5444120166488789127 tw11980756070277435004 tw16222273434364113585 tw9927658126470380891 tw3354838092145143682 tw17129768486301296897 tw10405624904499104423 tw8033266295456734073 tw7279834337112875440 tw18354387603581060613 tw5247400853573404870 tw14039995740618088594 tw16581562659233609100 tw8604489675558093790 tw8010326992997071409 tw6120751748304034026 tw1588778046585652411 tw8339351999925705173 tw18275513249293503168 tw18304921934013661695 tw16318680218316589141 tw12509583402501385227 tw15709898519869358474 tw9846797853386108444 tw3751224827362999106 tw6059458046711058318 tw18079688605365676935 tw17559790838221091455 tw3189940594327501016 tw18110311963038405903 tw8397433853989583399 tw2767664681960042336 tw16312671677697231150 tw13237566674073611729 tw9169727058751985714 tw14916873411993034352 tw4250670790006377690 tw16913569889569391463 tw9769812001641238388 tw13804180732625766746 tw1287037252706320559 tw2287038441940557981 tw14720611910958495249 tw5357594221463548098 tw15611182784108622119 tw18287613544090734016 tw4879490245397240612 tw17067217072959796320 tw15448870765350484536 tw3208689639970255886 tw12392911959314155860 tw14530262537538076922 tw4105108132633947244 tw16234591125619179647 tw6598426746505832291 tw11102729312610057085 tw8264240666750688484 tw10145666685892218595 tw12449248786127994217 tw10790548318074135557 tw13491711909959764785 tw12856886038220395491 tw13275773856668691526 tw15266611151820438655 tw1067918571189409954 tw18173230236103155324 tw9588523743062233126 tw18231292945375021987 tw10215606495038137082 tw7506609713197191427 tw2895797140370453587 tw13178091067381049348 tw4680583197289178346 tw11056151395448509312 tw17186170021630229024 tw8362087981336508082 tw10080233787611490984 tw13388482212304453846 tw17658985482560905807 tw15296842199492457946 tw5458202919636173411 tw14912924340610841364 tw4552521499281206834 tw3252230359918246397 tw14594216021812567061 tw11719301535881131546 tw13751309126792499478 tw14404630789766713852 tw1748815749462010774 tw11085115407420448428 tw15405225917837848554 tw16087787887010130943 tw17974707963602043795 tw15733980683611574498 tw11629109350289987221 tw4151021382879968248 tw12305159216236903602 tw16503017507489817502 tw12244028679771333243 tw9030589500905771344 tw5882826586993221693 tw10363562363871750296 tw5097790587213375752 tw9227915318901430229 tw14742275835302050083 tw16565948575849612153 tw7392647820574718531 tw10882307187636173054 tw10775389658204077249 tw13629973743226484404 tw9551842458985225506 tw1847410335634229376 tw14057812838995391097 tw9062205427318264283 tw13791253316160272081 tw7181916246283472383 tw17083924918872597006 tw8311145693587503842 tw5096876836182526590 tw4359046793037453222 tw2234782816870355934 tw12610945084463336884 tw8863652977560737834 tw17181273322379650181 tw4019638898151206105 tw13215098529172794772 tw6185172464202462642 tw5844785308366355738 tw8649100816373324616 tw3419896431728707145 tw17544740159513317379 tw2888939442430412186 tw9325867140277831976 tw14771452107563662800 tw15733246182344629280 tw6373027392503557704 tw7557563798131162802 tw80371333658505991 tw4184152488846204755 tw14858003048863678302 tw7263443859739001501 tw3204460036353795036 tw10065166147849548863 tw16236706163169714573 tw13792001203319335842 tw5186539378922480020 tw3952677100544600975 tw9512586206804975596 tw3995200070696756339 tw14750933376380352386 tw11792271607830574761 tw15149852223332399729 tw12414639495125188034 tw6748385482868775940 tw9519293913576607882 tw7984621255821835648 tw318712923890997627 tw8088316729716248811 tw16599148481031110417 tw13438960316919821012 tw12526342123169125627 tw10397030955595825138 tw3838738652006625395 tw12272845651926555547 tw10016501127161347036 tw8283930587652360746 tw3462777648038282773 tw18078997560477769577 tw14785314628145168812 tw15154569754683131320 tw7387543591443097344 tw6860455209061997139 tw16145291851505562712 tw13594960273778844000 tw9669481469573006335 tw12529629167481584447 tw16088124118221114415 tw17092952614237754115 tw740533363744559191 tw15802596772963917607 tw8373458216598899107 tw17534298816713548884 tw14067467463754090389 tw5554149781058121382 tw9164674046893057427 tw16228553031137070954 tw4976803142931298499 tw15146854774294560664 tw15982557040485336260 tw957188251067551129 tw1108486349766883787 tw433002784185953255 tw1085840849038114844 tw2565609848526965007 tw2597082138679654820 tw14348030006404120341 tw497991082717090110 tw7222117007032503337 tw3074881398940354035 tw10757175750499267875 tw10479359821666336423 tw6173807032810405307 tw17918166314352450731 tw278936316831040819 tw7955212371064803318 tw9138703499468645333 tw2705057512062551153 tw17515509705884632259 tw5053387449163507683 tw18010712522844153242 tw11192111891080096570 tw313627964672630072 tw17635147175561969591 tw14131009338888073495 tw1132153692565545459 tw4794272519680179595 tw17490126153909949093 tw8122785579668500011 tw518607425977669391 tw2094404563198523870 tw546454367474573967 tw16402362618976135518 tw6780247661875024621 tw10505221833950000525 tw3262977945100264059 tw7718927684954370481 tw9299948604025359207 tw2473423212176059016 tw15618045156985565525 tw7054097042713576714 tw6949384401277157372 tw4363583433176034485 tw11916510188605540849 tw8696262628916559649 tw8676461160461356989 tw10760270668911693759 tw14503402903864939694 tw17227402731782388869 tw8995237753890430626 tw3762365015086678541 tw14137651679566208082 tw1021741390178617315 tw16626840234676432048 tw1670632969969924571 tw13915022341659810642 tw3556019464471504110 tw8692498931810169125 tw16098112640387570321 tw7518046984532258969 tw12177282911788577364 tw10553209592865337759 tw2785821236594461092 tw5753093649073707306 tw12517076605716514213 tw5113970505943326710 tw15041229148185584942 tw4152702066785552502 tw9623195275024479004 tw8891735281950916865 tw2689137762206510349 tw3377956279139762586 tw8098284403460652381 tw18239337948799527086 tw3495641188841656150 tw14292227799541170656 tw15715836452462402763 tw17171544220892090217 tw5203518159025236410 tw10788429271134080601 tw6059392526499972331 tw1100617581217889853 tw8610351811016676855 tw17671800454088315811 tw2191721685391663600 tw13029299620069860687 tw5947503961067871114 tw16267803899251708396 tw15061436032477730635 tw14124339647823297237 tw15294048040819452240 tw18212329633483388576 tw6488869508986832305 tw9622412786366590972 tw5222368922613989027 tw15428786178539678744 tw7550443403151352530 tw5365764391814182742 tw849952564341861877 tw12978198276061285018 tw6804896541526783854 tw18174210743734091813 tw13641459588861728486 tw9878731928982696242 tw1752639055734181482 tw103102122500563296 tw12318467039993239807 tw13683710481536711093 tw17314902708879679724 tw1376502000841130408 tw6517560836804609734 tw13644834224437157814 tw17586011514939705884 tw16947734204815325652 tw9743336308978677726 tw13132198795897672331 tw15160655525806259109 tw18377266454714305336 tw14861433088745082844 tw5793799324013830590 tw6989173354234528477 tw17402417626740303789 tw18003365981897599980 tw11151197573745412761 tw5046250700938735695 tw9574628097450903363 tw13957118487880469896 tw3510626013371962999 tw3165836310030178103 tw5300767356701557580 tw6137423681440550147 tw17178351183643803071 tw904564019126958467 tw3503038752871198874 tw7796463324363877034 tw7245495926045658199 tw13129771688537293819 tw17243960217851779964 tw15977463614574727590 tw7617455322465275954 tw8216275740135908385 tw11484591781538087382 tw11079794540234933658 tw1725960460087736007 tw12751113895846852640 tw12843484247715206027 tw6133489654413188341 tw2542164504963365780 tw12767145308747054088 tw9768919888629476231 tw715878367489706072 tw10640803873757237250 tw7428048509726626297 tw14353265566524828618 tw5911431954646855404 tw5858808117091552361 tw11230889081293086212 tw9796957535107855329 tw6525716442678951594 tw6969187977192486996 tw14925198745134071455 tw870767911651017220 tw3466569504905654038 tw8765754401613035098 tw4128525512709826325 tw13491701882297746817 tw12389757811997793137 tw2714638839955069354 tw4864216691383942374 tw16368020595551579003 tw13793925854844252585 tw13851864978746295547 tw3125494012180987625 tw13046171320481247405 tw13920905692711843841 tw1547491241583061607 tw10468684026596440378 tw13843979956836978860 tw1254491558818272042 tw11572536918303297360 tw13465037289624530309 tw453236145478302768 tw6234877134243673564 tw9333613234861889002 tw7964519212568818884 tw4148461833556251540 tw4319888738847005420 tw8239236820932257526 tw7812065539947078465 tw8340141737714594140 tw18159983783959708443 tw13703400928969514512 tw3020765868038471357 tw7767962183783261467 tw10655866844919133516 tw14820824381384043255 tw7451397220834563516 tw6036060357652902912 tw8343192317354441965 tw3773527883023506201 tw6957776565870179819 tw13174137043288757810 tw12315791861866379141 tw5304655114838694545 tw9929523791346253416 tw10822142796275637083 tw2074895661768837740 tw17585762102099136173 tw13617750080611807741 tw4674689823369308813 tw15941376550156361167 tw16542237089783162785 tw4637993409071174000 tw16587629727101495740 tw15222067243802774401 tw5458174724488919441 tw16027392382672664488 tw10324526842266486078 tw12929483706883565731 tw4779364329033482642 tw10435778897859566321 tw911161653180101173 tw436669400631352750 tw11389179933293963838 tw6553225350017061064 tw4323155914679268554 tw4087321805829664287 tw2373179005126841083 tw12115586063174305232 tw15330542751116425511:True)
open PySem PySem.W PyProof.Rows
set_option maxRecDepth 100000 in
set_option maxHeartbeats 0 in
theorem PySem.Challenge.cw_lampway_k12_a_plan_read_holds : PySem.Challenge.rw_lampway_k12_a_plan_read.Holds := by
 w_on;o_law;k_head;(case hw=>w_witness2)
 k_fill
 refine L2.DH (l:=PySem.Challenge.rw_lampway_k12_a_plan_read) (n:=63) (k:=10) (x := "_law_script") (CX:=L2.CX0) (sp:=L2.xN) rfl (by decide) rfl ⟨rfl,by decide,by decide⟩ (fun w h Y=>PySem.W.kIn_of Y) ?F ?S ?C
 case F=>
  intro w mg fa h KX G hmg;have T:∃ t,My.Txt w (L2.KOf KX) mg t:=by
   dsimp only [L2.KOf];refine' ⟨My.Adr.mk,⟨?maa,?Fab,?mac,?Fad,?mae,?Faf,?mag,?Fah,?mai,?Faj,?mak,?Fal,?mam,?Fan,?mao,?Fap,?maq,?Far,?mas,?Fat,?mau,?Fav,?maw,?Fax,?may,?Faz,?mba,?Fbb,?mbc,?Fbd,?mbe,?Fbf,?mbg,?Fbh,?mbi,?Fbj,?mbk,?Fbl,?mbm,?Fbn,?mbo,?Fbp,?mbq,?Fbr,?mbs,?Fbt,?mbu,?Fbv,?mbw,?Fbx,?mby,?Fbz,?mca,?Fcb,?mcc,?Fcd,?mce,?Fcf,?mcg,?Fch,?mci,?Fcj,?mck,?Fcl,?mcm,?Fcn,?mco,?Fcp,?mcq,?Fcr,?mcs,?Fct,?mcu,?Fcv,?mcw,?Fcx,?mcy,?Fcz,?mda,?Fdb,?mdc,?Fdd,?mde,?Fdf,?mdg,?Fdh,?mdi,?edj,?Fdk,?mdl,?edm,?Fdn,?mdo,?edp,?Fdq,?mdr,?eds,?Fdt,?mdu,?edv,?Fdw,?mdx,?edy,?Fdz,?eea,?Feb,?eec,?Fed,?eee,?Fef,?eeg,?Feh,?eei,?Fej,?eek,?Fel,?eem,?Fen,?meo,?eep,?Feq,?mer,?ees,?Fet,?meu,?eev,?Few,?eex,?Fey,?eez,?Ffa,?mfb,?efc,?Ffd,?efe,?Fff,?efg,?Ffh,?mfi,?efj,?Ffk,?efl,?Ffm,?efn,?Ffo,?mfp,?efq,?Ffr,?efs,?Fft,?efu,?Ffv,?efw,?Ffx,?sfy,?sfz,?sga,?sgb,?sgc,?sgd,?sge,?sgf,?sgg,?ngh,?ngi,?ngj,?sgk,?sgl,?ngm,?ngn,?ngo,?ngp,?ngq,?sgr,?ngs,?ngt,?ngu,?ngv,?ngw,?ngx,?ngy,?sgz,?sha,?shb,?shc,?nhd,?nhe,?nhf,?nhg,?nhh,?nhi,?nhj,?shk,?shl,?shm,?shn,?nho,?nhp,?nhq,?nhr,?nhs,?nht,?nhu,?shv,?shw,?shx,?shy,?nhz,?nia,?nib,?nic,?nid,?nie,?nif,?sig,?sih,?sii,?sij,?sik,?nil,?nim,?nin,?mio,?sip,?xiq,?Xir,?nis,?nit,?riu,?riv,?riw,?rix,?riy,?riz,?xja,?Xjb,?njc,?rjd,?rje,?rjf,?rjg,?rjh,?rji,?xjj,?Xjk,?njl,?rjm,?rjn,?rjo,?rjp,?rjq,?rjr,?xjs,?Xjt,?nju,?njv,?rjw,?rjx,?rjy,?rjz,?rka,?rkb,?xkc,?Xkd,?nke,?nkf,?nkg,?rkh,?rki,?rkj,?rkk,?rkl,?rkm,?dkn,?dko,?dkp,?dkq,?dkr,?dks,?skt,?mku,?vkv,?mkw,?vkx,?mky,?vkz,?mla,?vlb,?mlc,?vld,?mle,?vlf,?mlg,?vlh,?mli,?vlj,?mlk,?vll,?mlm,?vln,?mlo,?vlp,?mlq,?vlr,?bls,?blt,?blu,?blv,?blw,?blx,?bly,?blz,?bma,?bmb,?bmc,?bmd,?lme⟩⟩
   case maa | mac | mae | mag | mai | mak | mam | mao | maq | mas | mau | maw | may | mba | mbc | mbe | mbg | mbi | mbk | mbm | mbo | mbq | mbs | mbu | mbw | mby | mca | mcc | mce | mcg | mci | mck | mcm | mco | mcq | mcs | mcu | mcw | mcy | mda | mdc | mde | mdg | mdi | mdl | mdo | mdr | mdu | mdx | meo | mer | meu | mfb | mfi | mfp | mio | mku | mkw | mky | mla | mlc | mle | mlg | mli | mlk | mlm | mlo | mlq=>(try dsimp only);refine' PySem.W.mg_of KX G ?z;case z=>k_is
   case edj | edm | edp | eds | edv | edy | eea | eec | eee | eeg | eei | eek | eem | eep | ees | eev | eex | eez | efc | efe | efg | efj | efl | efn | efq | efs | efu | efw=>(try dsimp only);k_is
   case sfy | sfz | sga | sgb | sgc | sgd | sge | sgf | sgg | sgk | sgl | sgr | sgz | sha | shb | shc | shk | shl | shm | shn | shv | shw | shx | shy | sig | sih | sii | sij | sik | sip | skt=>(try dsimp only);constructor <;> k_is
   case Fab | Fad | Faf | Fah | Faj | Fal | Fan | Fap | Far | Fat | Fav | Fax | Faz | Fbb | Fbd | Fbf | Fbh | Fbj | Fbl | Fbn | Fbp | Fbr | Fbt | Fbv | Fbx | Fbz | Fcb | Fcd | Fcf | Fch | Fcj | Fcl | Fcn | Fcp | Fcr | Fct | Fcv | Fcx | Fcz | Fdb | Fdd | Fdf | Fdh | Fdk | Fdn | Fdq | Fdt | Fdw | Fdz | Feb | Fed | Fef | Feh | Fej | Fel | Fen | Feq | Fet | Few | Fey | Ffa | Ffd | Fff | Ffh | Ffk | Ffm | Ffo | Ffr | Fft | Ffv | Ffx=>(try dsimp only);refine' L2.qN ?x ?y ?z;(case x=>k_is);(case y=>k_is);(case z=>k_is)
   case ngh | ngi | ngj | ngm | ngn | ngo | ngp | ngq | ngs | ngt | ngu | ngv | ngw | ngx | ngy | nhd | nhe | nhf | nhg | nhh | nhi | nhj | nho | nhp | nhq | nhr | nhs | nht | nhu | nhz | nia | nib | nic | nid | nie | nif | nil | nim | nin | nis | nit | njc | njl | nju | njv | nke | nkf | nkg=>(try dsimp only);unfold L2.Ib;k_is
   case riu | riv | riw | rix | riy | riz | rjd | rje | rjf | rjg | rjh | rji | rjm | rjn | rjo | rjp | rjq | rjr | rjw | rjx | rjy | rjz | rka | rkb | rkh | rki | rkj | rkk | rkl | rkm=>(try dsimp only);kernel_rfl
   case xiq | xja | xjj | xjs | xkc=>(try dsimp only);refine' ⟨?_,by kernel_rfl,?_,?_,?_⟩ <;> k_is
   case Xir | Xjb | Xjk | Xjt | Xkd=>(try dsimp only);refine' L2.mP ?x (by kernel_rfl) ?y;(case x=>k_is);(case y=>k_is)
   case dkn | dko | dkp | dkq | dkr | dks=>(try dsimp only);decide
   case vkv | vkx | vkz | vlb | vld | vlf | vlh | vlj | vll | vln | vlp | vlr=>(try dsimp only);exact ⟨_,rfl⟩
   case bls | blt | blu | blv | blw | blx | bly | blz | bma | bmb | bmc | bmd=>(try dsimp only);refine' PySem.W.mg_none_of KX G ?z;case z=>k_is
   case lme=>(try dsimp only);exact fun _ _=>.of_eq rfl
  obtain ⟨t,T⟩:=T;have e0:=hmg.symm.trans T.gQ;cases e0;exact ⟨t.ZI,T.jN,fun base kb nb=>My.DP T⟩
 case S=>exact fun K H a ns hl hO hS=>⟨a,ns,rfl,L2.Sc.of_only hO hS,hl,fun _=>rfl⟩
 case C=>exact fun _ _ _ _ z=>z
