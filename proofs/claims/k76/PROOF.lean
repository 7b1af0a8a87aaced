import PyProof.Rows.All
import Wide.All
import OpenK.AllK
import Wide.FinOn
import Lean
import PyProof.EqAt
import PyProof.EqKinds
import PyProof.TupleCall
import KE.KTryMore
import PyProof.NsDelKeeps
import PySem.Challenge.RW_lampway_k76_drawings
set_option compiler.extract_closed false
set_option Elab.async false
set_option linter.all false
set_option maxRecDepth 100000
open List (mem_cons_self mem_cons_of_mem mem_append_right size_toArray length_take getElem?_map mem_of_getElem? length_append length_map length_replicate find?_cons length_cons map_cons map_nil lookup_cons getElem?_eq_getElem getD_eq_getElem?_getD take_add_one map_append length_range set_cons_zero set_cons_succ map_map take_of_length_le length_mapIdx)
namespace L2
open PySem PySem.Spec PyProof.Rows
noncomputable abbrev Key:=Sum Int Str
noncomputable def ph:Key->Value->Bool
 | .inl k,v=>Value.isInt k v
 | .inr x,v=>Value.isStrOf x v
noncomputable def uo (w:World):Key->Int
 | .inl k=>hashInt k
 | .inr x=>hashStr w x
theorem Ib:∀ {k:Key} {v:Value},ph k v=true->(∃ i t,k=Sum.inl i/\v=Value.int i t)\/(∃ x t,k=Sum.inr x/\v=Value.str x t)
 | .inl i,v,h=>by
  obtain ⟨t,e⟩:=Value.isInt_shape (k:=i) (v:=v) h;exact .inl ⟨i,t,rfl,e⟩
 | .inr x,v,h=>by
  obtain ⟨t,e⟩:=Value.isStrOf_shape (x:=x) (v:=v) h;exact .inr ⟨x,t,rfl,e⟩
theorem Pi (i:Int) (t:Tok):ph (.inl i) (.int i t)=true:=by simp [ph,Value.isInt]
theorem Xh (x:Str) (t:Tok):ph (.inr x) (.str x t)=true:=by simp [ph,Value.isStrOf]
theorem Om (a b:Int):decide ((Sum.inl a:Key)=Sum.inl b)=(a == b):=by
 by_cases e:a=b
 ·subst e;simp
 ·have h:¬ (Sum.inl a:Key)=Sum.inl b:=fun q=>e (Sum.inl.inj q)
  rw [decide_eq_false h];exact (beq_eq_false_iff_ne.mpr e).symm
theorem fm (a b:Str):decide ((Sum.inr a:Key)=Sum.inr b)=decide (a=b):=by
 by_cases e:a=b
 ·subst e;simp
 ·have h:¬ (Sum.inr a:Key)=Sum.inr b:=fun q=>e (Sum.inr.inj q)
  rw [decide_eq_false h,decide_eq_false e]
theorem wm (a:Int) (b:Str):decide ((Sum.inl a:Key)=Sum.inr b)=false:=decide_eq_false (fun q=>nomatch q)
theorem Rl (a:Str) (b:Int):decide ((Sum.inr a:Key)=Sum.inl b)=false:=decide_eq_false (fun q=>nomatch q)
noncomputable def Mb (prog:Program) (w:World):PySem.KeyKind prog w Key where
 is:=ph
 hash:=uo w
 inj:=fun v a b ha hb=>by
  rcases Ib ha with ⟨i,t,rfl,rfl⟩ | ⟨x,t,rfl,rfl⟩
  ·rcases Ib hb with ⟨j,u,rfl,e⟩ | ⟨y,u,rfl,e⟩
   ·injection e with e1 _;rw [e1]
   ·exact nomatch e
  ·rcases Ib hb with ⟨j,u,rfl,e⟩ | ⟨y,u,rfl,e⟩
   ·exact nomatch e
   ·injection e with e1 _;rw [e1]
 byValue:=fun k v h=>by
  rcases Ib h with ⟨i,t,rfl,rfl⟩ | ⟨x,t,rfl,rfl⟩ <;> rfl
 pyHash:=fun hv h=>by
  rcases Ib hv with ⟨i,t,rfl,rfl⟩ | ⟨x,t,rfl,rfl⟩
  ·exact wpAny_pyHash_int h
  ·exact wpAny_pyHash_str h
 eqBool:=fun hu hv h=>by
  rcases Ib hu with ⟨i,t,rfl,rfl⟩ | ⟨x,t,rfl,rfl⟩
  ·rcases Ib hv with ⟨j,u,rfl,rfl⟩ | ⟨y,u,rfl,rfl⟩
   ·rw [Om] at h;exact wpAny_eqBool_int h
   ·rw [wm] at h;exact SeqAt.EqAt.int_str i t y u _ _ _ _ h
  ·rcases Ib hv with ⟨j,u,rfl,rfl⟩ | ⟨y,u,rfl,rfl⟩
   ·rw [Rl] at h;exact SeqAt.EqAt.str_int x t j u _ _ _ _ h
   ·rw [fm] at h;exact wpAny_eqBool_str h
 «strs»:=fun k x t v h=>by
  rcases Ib h with ⟨i,u,rfl,e⟩ | ⟨y,u,rfl,e⟩
  ·exact nomatch e
  ·injection e with e1 _;subst e1;cases v <;> rfl
theorem rg (prog:Program) (w:World) (i:Int) (t:Tok):(Mb prog w).is (.inl i) (.int i t)=true:=Pi i t
theorem Cg (prog:Program) (w:World) (x:Str) (t:Tok):(Mb prog w).is (.inr x) (.str x t)=true:=Xh x t
end L2
namespace L2
open PySem PySem.Spec PyProof.Rows
inductive V where
 | non | bl (b:Bool) | int (i:Int) | str (x:Str) | byt (b:Array UInt8) | flt (b:UInt64) | ref (a:Addr) | ty (n:String)
 deriving DecidableEq
noncomputable def Qb:V->Value->Prop
 | .non,u=>u=Value.none
 | .bl b,u=>u=Value.bool b
 | .int i,u=>∃ t,u=Value.int i t
 | .str x,u=>∃ t,u=Value.str x t
 | .byt b,u=>∃ t,u=Value.bytes b t
 | .flt b,u=>∃ t,u=Value.float b t
 | .ref a,u=>u=Value.ref a
 | .ty n,u=>u=Value.type n
noncomputable abbrev Pb:List V->List Value->Prop:=Paired Qb
theorem Pb.length {xs:List V} {us:List Value} (r:Pb xs us):xs.length=us.length:=Paired.length r
theorem Pb.get:∀ {xs:List V} {us:List Value} {i:Nat} {x:V},Pb xs us->xs[i]? = some x->∃ u,us[i]? = some u/\Qb x u
 | _,_,_,_,.nil,e=>by simp at e
 | _,_,0,_,.cons r _,e=>by simp at e;subst e;exact ⟨_,rfl,r⟩
 | _,_,i + 1,x,.cons _ t,e=>by
  obtain ⟨u,h1,h2⟩:=Pb.get (i:=i) (x:=x) t (by simpa using e);exact ⟨u,by simpa using h1,h2⟩
theorem Pb.set {x:V} {u:Value} (r:Qb x u):∀ {xs:List V} {us:List Value} (i:Nat),Pb xs us->Pb (xs.set i x) (us.set i u)
 | _,_,_,.nil=>.nil
 | _,_,0,.cons _ t=>.cons r t
 | _,_,i + 1,.cons q t=>.cons q (Pb.set r i t)
theorem Pb.append:∀ {xs ys:List V} {us ws:List Value},Pb xs us->Pb ys ws->Pb (xs ++ ys) (us ++ ws)
 | _,_,_,_,.nil,s=>s
 | _,_,_,_,.cons r t,s=>.cons r (Pb.append t s)
theorem Pb.take:∀ {xs:List V} {us:List Value} (n:Nat),Pb xs us->Pb (xs.take n) (us.take n)
 | _,_,0,_=>.nil
 | _,_,_ + 1,.nil=>.nil
 | _,_,n + 1,.cons r t=>.cons r (Pb.take n t)
theorem Pb.drop:∀ {xs:List V} {us:List Value} (n:Nat),Pb xs us->Pb (xs.drop n) (us.drop n)
 | _,_,0,r=>r
 | _,_,_ + 1,.nil=>.nil
 | _,_,n + 1,.cons _ t=>Pb.drop n t
noncomputable def gh:Option V->Option Value->Prop
 | some v,some u=>Qb v u
 | none,none=>True
 | _,_=>False
noncomputable def KV {κ:Type}:List (κ × V)->List (κ × Value)->Prop:=Paired fun (p:κ × V) (q:κ × Value)=>p.1=q.1/\Qb p.2 q.2
noncomputable def kV:Key->V
 | .inl i=>.int i
 | .inr x=>.str x
inductive HO where
  | lst (xs:List V)
  | tup (xs:List V)
  | dK (kvs:List (Key × V)) | dT (kvs:List (List Key × V))
  | set (S:Int->Bool) (n:Nat)
  | ins (C dx:Addr) (fs:List (Str × V))
  | own (x:Addr)
  | xd (fs:List (Str × V))
  | met (f x:Addr)
  | rng (lo hi:Int)
  | frz (o:Obj) (u:HO)
  | tbl (ps:Array Value)
  | ext (φ:Heap->Prop)
noncomputable abbrev Hp:=Addr->Option HO
noncomputable def upd (H:Hp) (a:Addr) (o:HO):Hp:=fun b=>if b=a then some o else H b
theorem cb {H:Hp} {a:Addr} {o:HO}:upd H a o a=some o:=by unfold upd;rw [if_pos rfl]
theorem fb {H:Hp} {a b:Addr} {o:HO} (h:b ≠ a):upd H a o b=H b:=by unfold upd;rw [if_neg h]
theorem rf {H:Hp} {a b:Addr} {o u:HO} (h:H a=some o) (h':H b=some u) (d:o ≠ u):a ≠ b:=by
 intro e;subst e;rw [h] at h';exact d (Option.some.inj h')
theorem Ab {H:Hp} {a b:Addr} {o:HO} (h:H a=some o) (h':H b=none):a ≠ b:=by
 intro e;subst e;rw [h] at h';cases h'
section
variable (P:Program) (w:World)
noncomputable def Kb (H:Hp) (h:Heap) (a:Addr):HO->Prop
 | .lst xs=>xs.length <= sizeLine/\∃ (its:List Value) (n:Nat),Pb xs its/\h.get? a=some { cls:=.type "list",data:=.seq its.toArray n }
 | .tup xs=>xs.length <= sizeLine/\∃ its:List Value,Pb xs its/\IsTup h a its.toArray
 | .dK kvs=>kvs.length <= sizeLine/\(a == sysModules)=false/\∃ vs,KV kvs vs/\h.DictOf (Mb P w) a vs
 | .dT kvs=>kvs.length <= sizeLine/\(a == sysModules)=false/\∃ xs:List (List Key × Addr × Value),
   Paired (fun (p:List Key × V) (q:List Key × Addr × Value)=>p.1=q.1/\H q.2.1=some (.tup (p.1.map kV))/\Qb p.2 q.2.2) kvs xs /\
   ∃ o es ep,h.get? a=some o/\o.ExactDict/\o.data=.dict es ep/\es.toList=xs.map (entryOfKey (tupleKind (Mb P w)))/\(xs.map (·.1)).Nodup
 | .set S n=>h.SetOf (intKind P w) a S n
 | .ins C dx fs=>H dx=some (.own a)/\fs.length <= 1000/\dx ≠ a/\h.get? a=some (PySem.W.instObj C dx) /\
   ∃ mA,h.Ns1 dx mA/\(∀ f,gh (fs.lookup f) (mA f))/\PySem.Within mA (fs.map (·.1))
 | .own _=>∃ o,h.get? a=some o
 | .xd fs=>∃ mA,h.Ns1 a mA/\∀ f,gh (fs.lookup f) (mA f)
 | .rng lo hi=>∃ t u v,h.get? a=some { cls:=.type "range",data:=.fields #[.int lo t,.int hi u,.int 1 v] }
 | .frz o u=>h.get? a=some o/\Kb H h a u
 | .tbl ps=>h.get? a=some { cls:=.none,data:=.fields ps }
 | .met f x=>h.get? a=some (PySem.W.methodObj (.ref f) (.ref x))
 | .ext φ=>φ h/\(∃ o,h.get? a=some o)/\∀ h1 h2:Heap,φ h1->(∀ o,h1.get? a=some o->h2.get? a=some o)->φ h2
noncomputable def HOk (H:Hp) (h:Heap):Prop:=∀ a o,H a=some o->Kb P w H h a o
end
section
variable {P:Program} {w:World} {H H':Hp} {h h':Heap} {a:Addr} {o:HO}
theorem Kb.lt (x:Kb P w H h a o):a < h.objs.size:=by
 cases o with
 | lst xs=>obtain ⟨_,_,_,_,e⟩:=x;exact Heap.lt_size e
 | tup xs=>obtain ⟨_,_,_,p⟩:=x;exact p.lt
 | dK kvs=>obtain ⟨_,_,_,_,o,_,_,e,_⟩:=x;exact Heap.lt_size e
 | dT kvs=>obtain ⟨_,_,_,_,o,_,_,e,_⟩:=x;exact Heap.lt_size e
 | set S n=>obtain ⟨o,_,_,_,e,_⟩:=x;exact Heap.lt_size e
 | ins C dx fs=>obtain ⟨_,_,_,e,_⟩:=x;exact Heap.lt_size e
 | own y=>obtain ⟨_,e⟩:=x;exact Heap.lt_size e
 | xd fs=>obtain ⟨_,⟨_,_,_,e,_⟩,_⟩:=x;exact Heap.lt_size e
 | rng lo hi=>obtain ⟨_,_,_,e⟩:=x;exact Heap.lt_size e
 | frz ob u=>obtain ⟨e,_⟩:=x;exact Heap.lt_size e
 | tbl ps=>exact Heap.lt_size (show h.get? a=some _ from x)
 | met f y=>exact Heap.lt_size (show h.get? a=some _ from x)
 | ext φ=>obtain ⟨_,⟨_,e⟩,_⟩:=x;exact Heap.lt_size e
theorem Paired.mapP {α β:Type} {F G:α->β->Prop}:∀ {l₁:List α} {l₂:List β},Paired F l₁ l₂->(∀ a b,F a b->G a b)->Paired G l₁ l₂
 | _,_,.nil,_=>.nil
 | _,_,.cons r t,f=>.cons (f _ _ r) (Paired.mapP t f)
theorem Kb.stay (x:Kb P w H h a o) (k:∀ b u,(b=a\/H b=some (.own a))->h.get? b=some u->h'.get? b=some u)
  (ho:∀ b,H b=some (.own a)->H' b=some (.own a)) (ht:∀ b xs,H b=some (.tup xs)->H' b=some (.tup xs)):Kb P w H' h' a o:=by
 induction o with
 | lst xs=>obtain ⟨z,its,n,r,e⟩:=x;exact ⟨z,its,n,r,k _ _ (.inl rfl) e⟩
 | tup xs=>obtain ⟨z,its,r,ob,e,c⟩:=x;exact ⟨z,its,r,ob,k _ _ (.inl rfl) e,c⟩
 | dK kvs=>obtain ⟨z,y,vs,r,ob,es,ep,e,c⟩:=x;exact ⟨z,y,vs,r,ob,es,ep,k _ _ (.inl rfl) e,c⟩
 | dT kvs=>
  obtain ⟨z,y,xs,r,ob,es,ep,e,c⟩:=x;exact ⟨z,y,xs,Paired.mapP r fun p q z=>⟨z.1,ht _ _ z.2.1,z.2.2⟩,ob,es,ep,k _ _ (.inl rfl) e,c⟩
 | set S n=>obtain ⟨ob,es,ep,t,e,c⟩:=x;exact ⟨ob,es,ep,t,k _ _ (.inl rfl) e,c⟩
 | ins C dx fs=>
  obtain ⟨d,z,ne,e,mA,⟨od,es,ep,e2,c⟩,r⟩:=x;exact ⟨ho _ d,z,ne,k _ _ (.inl rfl) e,mA,⟨od,es,ep,k _ _ (.inr d) e2,c⟩,r⟩
 | own y=>obtain ⟨ob,e⟩:=x;exact ⟨ob,k _ _ (.inl rfl) e⟩
 | xd fs=>obtain ⟨mA,⟨od,es,ep,e,c⟩,r⟩:=x;exact ⟨mA,⟨od,es,ep,k _ _ (.inl rfl) e,c⟩,r⟩
 | rng lo hi=>obtain ⟨t,u,v,e⟩:=x;exact ⟨t,u,v,k _ _ (.inl rfl) e⟩
 | frz ob u ih=>obtain ⟨e,q⟩:=x;exact ⟨k _ _ (.inl rfl) e,ih q⟩
 | tbl ps=>
  have e:h.get? a=some { cls:=.none,data:=.fields ps }:=x;show h'.get? a=some { cls:=.none,data:=.fields ps };exact k a _ (.inl rfl) e
 | met f y=>
  have e:h.get? a=some (PySem.W.methodObj (.ref f) (.ref y)):=x;show h'.get? a=some (PySem.W.methodObj (.ref f) (.ref y));exact k a _ (.inl rfl) e
 | ext φ=>obtain ⟨p,⟨o,e⟩,st⟩:=x;exact ⟨st _ _ p fun o q=>k _ _ (.inl rfl) q,⟨o,k _ _ (.inl rfl) e⟩,st⟩
theorem HOk.lt (x:HOk P w H h) (e:H a=some o):a < h.objs.size:=(x a o e).lt
theorem HOk.fresh (x:HOk P w H h) (e:h.objs.size <= a):H a=none:=by
 cases q:H a with
 | none=>rfl
 | some u=>exact absurd (Nat.lt_of_lt_of_le (x.lt q) e) (Nat.lt_irrefl _)
theorem HOk.kept (x:HOk P w H h) (k:∀ b u,h.get? b=some u->h'.get? b=some u):HOk P w H h':=fun a o e=>
 (x a o e).stay (fun b u _ q=>k b u q) (fun _ q=>q) fun _ _ q=>q
theorem HOk.laid (x:HOk P w H h) (k:∀ b u,h.get? b=some u->h'.get? b=some u) (hp:h.objs.size <= a) (new:Kb P w (upd H a o) h' a o):HOk P w (upd H a o) h':=fun b u e=>by
 have hn:=x.fresh hp;by_cases hb:b=a
 ·subst hb;rw [cb] at e;cases e;exact new
 ·rw [fb hb] at e;exact (x b u e).stay (fun c v _ q=>k c v q) (fun c q=>by rw [fb (Ab q hn)];exact q) fun c xs q=>by rw [fb (Ab q hn)];exact q
end
noncomputable def Rd (H:Hp) (a:Addr) (u:HO):Prop:=H a=some u\/∃ o,H a=some (.frz o u)
theorem Rd.of {H:Hp} {a:Addr} {u:HO} (h:H a=some u):Rd H a u:=.inl h
theorem Rd.ok {P:Program} {w:World} {H:Hp} {h:Heap} {a:Addr} {u:HO} (r:Rd H a u) (x:HOk P w H h):Kb P w H h a u:=by
 rcases r with r | ⟨o,r⟩
 ·exact x a u r
 ·obtain ⟨_,q⟩:=x a _ r;exact q
noncomputable def Mut:Option HO->Prop
 | some (.lst _)=>True
 | some (.dK _)=>True
 | some (.dT _)=>True
 | some (.set _ _)=>True
 | some (.ins _ _ _)=>True
 | some (.ext _)=>True
 | _=>False
section
variable {P:Program} {w:World} {H:Hp} {h h':Heap} {x e:Addr} {o':HO}
theorem HOk.write (ok:HOk P w H h) (mu:Mut (H x)) (he:e=x\/H e=some (.own x)) (k:∀ b u,b ≠ e->h.get? b=some u->h'.get? b=some u) (heo:∃ u,h'.get? e=some u)
  (new:Kb P w (upd H x o') h' x o'):HOk P w (upd H x o') h':=fun b u q=>by
 have nown:∀ c y,H c=some (.own y)->c ≠ x:=fun c y r z=>by subst z;rw [r] at mu;exact mu
 have ntup:∀ c xs,H c=some (.tup xs)->c ≠ x:=fun c xs r z=>by subst z;rw [r] at mu;exact mu
 by_cases hb:b=x
 ·subst hb;rw [cb] at q;cases q;exact new
 ·rw [fb hb] at q;by_cases hbe:b=e
  ·have q':H b=some (.own x):=by
    rcases he with z | z
    ·exact absurd (hbe.trans z) hb
    ·rw [hbe];exact z
   rw [q] at q';cases q';obtain ⟨v,hv⟩:=heo;exact ⟨v,by rw [hbe];exact hv⟩
  ·refine (ok b u q).stay (fun c v hc r=>k c v ?_ r) (fun c r=>by rw [fb (nown c b r)];exact r) fun c xs r=>by rw [fb (ntup c xs r)];exact r
   rcases hc with rfl | hc
   ·exact hbe
   ·rintro rfl;rcases he with z | z
    ·exact nown c b hc z
    ·rw [hc] at z;cases z;exact hb rfl
end
structure Un (fs ex:List Addr) (H H':Hp) (h h':Heap):Prop where
 keep:∀ b o,h.get? b=some o->H b=none->b ∉ fs->b ∉ ex->h'.get? b=some o
 slot:∀ b o,h.get? b=some o->H b=none->b ∈ fs->b ∉ ex->∃ sl,h'.get? b=some { o with slots:=sl }
 free:∀ b o,h.get? b=some o->H b=none->b ∉ ex->H' b=none
 there:∀ b o,h.get? b=some o->b ∉ ex->∃ o',h'.get? b=some o'
 tups:∀ b xs,H b=some (.tup xs)->H' b=some (.tup xs)
 frzs:∀ b o u,H b=some (.frz o u)->H' b=some (.frz o u)
 tbls:∀ b ps,H b=some (.tbl ps)->∃ more,H' b=some (.tbl (ps ++ more))
section
variable {fs fs' ex ex':List Addr} {H H1 H2:Hp} {h h1 h2 h':Heap} {a x e:Addr} {o:HO}
theorem Un.any (u:Un fs ex H H1 h h1) {b:Addr} {ob:Obj} (q:h.get? b=some ob) (n:H b=none) (hx:b ∉ ex):∃ sl,h1.get? b=some { ob with slots:=sl }:=by
 by_cases hb:b ∈ fs
 ·exact u.slot b ob q n hb hx
 ·exact ⟨ob.slots,u.keep b ob q n hb hx⟩
theorem Un.trans (a:Un fs ex H H1 h h1) (b:Un fs ex H1 H2 h1 h2):Un fs ex H H2 h h2 where
 keep:=fun c ob q n hc hx=>b.keep c ob (a.keep c ob q n hc hx) (a.free c ob q n hx) hc hx
 slot:=fun c ob q n hc hx=>by
  obtain ⟨sl,e1⟩:=a.slot c ob q n hc hx;obtain ⟨sl',e2⟩:=b.slot c _ e1 (a.free c ob q n hx) hc hx;exact ⟨sl',e2⟩
 free:=fun c ob q n hx=>by
  obtain ⟨o',e1⟩:=a.there c ob q hx;exact b.free c o' e1 (a.free c ob q n hx) hx
 there:=fun c ob q hx=>by
  obtain ⟨o',e1⟩:=a.there c ob q hx;exact b.there c o' e1 hx
 tups:=fun c xs q=>b.tups c xs (a.tups c xs q)
 frzs:=fun c ob xs q=>b.frzs c ob xs (a.frzs c ob xs q)
 tbls:=fun c ps q=>by
  obtain ⟨m1,e1⟩:=a.tbls c ps q;obtain ⟨m2,e2⟩:=b.tbls c _ e1;exact ⟨m1 ++ m2,by rw [e2,Array.append_assoc]⟩
theorem Un.kept (k:∀ b u,h.get? b=some u->h'.get? b=some u):Un fs ex H H h h':=
 ⟨fun b ob q _ _ _=>k b ob q,fun b ob q _ _ _=>⟨ob.slots,k b ob q⟩,fun _ _ _ n _=>n,fun b ob q _=>⟨ob,k b ob q⟩,fun _ _ q=>q,fun _ _ _ q=>q,fun _ ps q=>⟨#[],by rw [q];simp⟩⟩
theorem Un.refl:Un fs ex H H h h:=Un.kept fun _ _ q=>q
theorem Un.laid (k:∀ b u,h.get? b=some u->h'.get? b=some u) (hp:h.objs.size <= a) (hn:H a=none):Un fs ex H (upd H a o) h h' where
 keep:=fun b u q _ _ _=>k b u q
 slot:=fun b u q _ _ _=>⟨u.slots,k b u q⟩
 free:=fun b u q n _=>by rw [fb (Nat.ne_of_lt (Nat.lt_of_lt_of_le (Heap.lt_size q) hp))];exact n
 there:=fun b u q _=>⟨u,k b u q⟩
 tups:=fun b xs q=>by rw [fb (Ab q hn)];exact q
 frzs:=fun b u xs q=>by rw [fb (Ab q hn)];exact q
 tbls:=fun b ps q=>⟨#[],by rw [fb (Ab q hn),q];simp⟩
theorem Un.write (mu:Mut (H x)) (he:e=x\/H e=some (.own x)) (k:∀ b u,b ≠ e->h.get? b=some u->h'.get? b=some u) (heo:∃ u,h'.get? e=some u):Un fs ex H (upd H x o) h h':=by
 have hx:∀ b,H b=none->b ≠ x:=fun b n z=>by subst z;rw [n] at mu;exact mu
 have hb:∀ b,H b=none->b ≠ e:=fun b n z=>by
  subst z;rcases he with r | r
  ·exact hx b n r
  ·rw [n] at r;cases r
 have hm:∀ b u,H b=some u->¬ Mut (some u)->b ≠ x:=fun b u q nm z=>by subst z;rw [q] at mu;exact nm mu
 refine ⟨fun b u q n _ _=>k b u (hb b n) q,fun b u q n _ _=>⟨u.slots,k b u (hb b n) q⟩,fun b u q n _=>by rw [fb (hx b n)];exact n,fun b u q _=>?_,
  fun b xs q=>by rw [fb (hm b _ q fun z=>z)];exact q,fun b u xs q=>by rw [fb (hm b _ q fun z=>z)];exact q,fun b ps q=>⟨#[],by rw [fb (hm b _ q fun z=>z),q];simp⟩⟩
 by_cases hbe:b=e
 ·subst hbe;exact heo
 ·exact ⟨u,k b u hbe q⟩
theorem Un.mono (u:Un fs ex H H1 h h1) (hs:∀ b ∈ fs,b ∈ fs') (hx:∀ b ∈ ex,b ∈ ex'):Un fs' ex' H H1 h h1:=
 ⟨fun b ob q n hb he=>u.keep b ob q n (fun z=>hb (hs b z)) fun z=>he (hx b z),fun _ _ q n _ he=>u.any q n fun z=>he (hx _ z),fun b ob q n he=>u.free b ob q n fun z=>he (hx b z),fun b ob q he=>u.there b ob q fun z=>he (hx b z),u.tups,u.frzs,u.tbls⟩
end
noncomputable def trk (h:Heap) (H:Hp):List Addr:=(List.range h.objs.size).filter fun a=>(H a).isSome
noncomputable def Lj (h:Heap) (H:Hp):Heap:=PySem.W.hideAll h (trk h H)
theorem Ci (h:Heap) (H:Hp):(Lj h H).objs.size=h.objs.size:=PySem.W.hideAll_size _ _
theorem Ej {h:Heap} {H:Hp} {b:Addr} {o:Obj} (e:h.get? b=some o) (n:H b=none):(Lj h H).get? b=some o:=
 PySem.W.hideAll_get _ e fun hm=>by
  have q:(H b).isSome=true:=(List.mem_filter.mp hm).2;rw [n] at q;simp at q
theorem Ak {h:Heap} {H:Hp} {b:Addr} {o:Obj} (e:(Lj h H).get? b=some o):h.get? b=some o/\H b=none:=by
 have e':h.get? b=some o:=PySem.W.of_hideAll (trk h H) e;refine ⟨e',?_⟩;cases q:H b with
 | none=>rfl
 | some x=>
  have hm:b ∈ trk h H:=List.mem_filter.mpr ⟨List.mem_range.mpr (Heap.lt_size e'),by simp [q]⟩;have z:(Lj h H).get? b=none:=PySem.W.hideAll_none (trk h H) hm;rw [z] at e;cases e
noncomputable def Bl (g h:Heap) (L:Addr):List (Addr × Obj):=(List.range h.objs.size).filterMap fun a=>if a=L\/(g.get? a).isSome=true then none else (h.get? a).map fun o=>(a,o)
noncomputable def Fh (g h:Heap) (L d:Addr):List (Addr × Obj):=(Bl g h L).filter fun p=>decide (p.1 ≠ d)
end L2
namespace L2
open PySem PySem.Spec PyProof.Rows
structure Mod (K:W.Frag) (mg:Str->Option Value) (base:Heap):Prop where
 kin:K.In base
 glob:base.Ns mainGlobals mg
 blt:∃ mb,base.Ns builtinsNs mb/\∀ x:Str,x ≠ "__name__" -> mb x=bootBuiltins x
 nolimit:base.NoLimit
structure Cx where
 prog:Program
 w:World
 K:W.Frag
 mg:Str->Option Value
 base:Heap
 A:Around
 N:List Str
 s₀:Shared
 H₀:Hp
 env:Env
 outer:List Env
 stack:List Env
 ex:List Addr
 fn:Str->Bool
 calm:Bool
 pn:List (Addr × Obj)
 xe:Value->Shared->Prop
noncomputable def frs (l:List Env):List Addr:=l.filterMap (·.frame)
noncomputable abbrev Cx.fs (X:Cx):List Addr:=frs X.outer
noncomputable def Vis (sc:Scope) (x:Str):Prop:=sc.names.lookup x=some .local\/sc.names.lookup x=some .cell\/sc.names.lookup x=some .free
noncomputable def Loc (sc:Scope) (x:Str):Prop:=sc.names.lookup x=some .local\/sc.names.lookup x=some .cell
noncomputable def oo (env:Env) (h:Heap) (m:Str->Option Value) (x:Str) (u:Value):Prop:=
 (env.kindOf x=some .local/\m x=some u)\/((env.kindOf x=some .cell\/env.kindOf x=some .free)/\∃ c,env.cells.lookup x=some c/\h.IsCell c (some u))
structure Cx.Ok (X:Cx):Prop where
 mod:Mod X.K X.mg X.base
 kind:X.env.scope.kind=.function
 glob:X.env.globals=mainGlobals
 blt:X.env.builtins=builtinsNs
 above:X.s₀.heap.objs.size <= X.env.locals
 inj:∀ x y c,X.env.cells.lookup x=some c->X.env.cells.lookup y=some c->x=y
 has:∀ x,(X.env.kindOf x=some .cell\/X.env.kindOf x=some .free)->∃ c,X.env.cells.lookup x=some c
 cab:∀ x c,X.fn x=true->X.env.cells.lookup x=some c->X.s₀.heap.objs.size <= c
 hd:X.calm=true->X.A.handled=none
 frames:X.A.frames=some X.stack
 stk:X.stack=X.outer\/(X.stack=X.env :: X.outer/\X.env.frame=some X.env.locals)
 exf:∀ b ∈ X.ex,b ≠ X.env.locals/\∀ x c,X.env.cells.lookup x=some c->c ≠ b
 bs:∀ b o,X.base.get? b=some o->X.s₀.heap.get? b=some o/\X.H₀ b=none
 bsz:X.base.objs.size <= X.s₀.heap.objs.size
 noex:∀ b o,X.base.get? b=some o->b ∉ X.ex
 exfs:∀ b ∈ X.ex,b ∉ X.fs
 funs:X.s₀.heap.FunFrames X.base X.outer
 frf:∀ b ∈ X.fs,X.H₀ b=none
structure Inv (X:Cx) (pins:List (Addr × Obj)) (σ:List (Option V)) (H:Hp) (s:Shared):Prop where
 ok:X.Ok
 os:s.os=X.s₀.os
 bare:AllBare s.gens
 base:Un X.fs X.ex X.H₀ H X.s₀.heap s.heap
 loc:∃ m,s.heap.Ns X.env.locals m/\∀ (i:Nat) (x:Str) (v:V),X.N[i]? = some x->σ[i]? = some (some v)->Vis X.env.scope x->∃ u,Qb v u/\oo X.env s.heap m x u
 cell:∀ x c,X.env.cells.lookup x=some c->∃ v,s.heap.IsCell c v
 free:H X.env.locals=none
 freeC:∀ x c,X.env.cells.lookup x=some c->H c=none
 pin:∀ p ∈ X.pn ++ pins,s.heap.get? p.1=some p.2/\H p.1=none/\p.1 ≠ X.env.locals/\p.1 ∉ X.fs/\∀ v,p.2.data ≠ .cell v
 hok:HOk X.prog X.w H s.heap
 len:σ.length=X.N.length
section
variable {X:Cx} {pins:List (Addr × Obj)} {σ:List (Option V)} {H H':Hp} {s:Shared} {h':Heap}
theorem Cx.Ok.nofr (ok:X.Ok) {b:Addr} {o:Obj} (e:X.base.get? b=some o):b ∉ X.fs:=fun hb=>by
 have:=(ok.funs.mem hb).1;rw [e] at this;cases this
theorem Inv.bs (I:Inv X pins σ H s):∀ b o,X.base.get? b=some o->s.heap.get? b=some o/\H b=none:=fun b o e=>
 ⟨I.base.keep b o (I.ok.bs b o e).1 (I.ok.bs b o e).2 (I.ok.nofr e) (I.ok.noex b o e),I.base.free b o (I.ok.bs b o e).1 (I.ok.bs b o e).2 (I.ok.noex b o e)⟩
theorem Inv.bk (I:Inv X pins σ H s):∀ b o,X.base.get? b=some o->s.heap.get? b=some o:=fun b o e=>(I.bs b o e).1
theorem Inv.mod (I:Inv X pins σ H s):Mod X.K X.mg X.base:=I.ok.mod
theorem Inv.kIn (I:Inv X pins σ H s):X.K.In s.heap:=I.ok.mod.kin.keeps I.bk
theorem Inv.nolimit (I:Inv X pins σ H s):s.heap.NoLimit:=I.ok.mod.nolimit.keeps I.bk
theorem Inv.fr (I:Inv X pins σ H s):∃ m,Fr X.base X.env.locals s.heap m:=
 let ⟨m,hn,_⟩:=I.loc
 ⟨m,hn,I.bk,Nat.le_trans I.ok.bsz I.ok.above⟩
theorem Inv.lt (I:Inv X pins σ H s):X.env.locals < s.heap.objs.size:=let ⟨_,hn,_⟩:=I.loc;hn.lt
theorem Inv.sz (I:Inv X pins σ H s):X.s₀.heap.objs.size <= s.heap.objs.size:=Nat.le_trans I.ok.above (Nat.le_of_lt I.lt)
theorem Inv.nofs (I:Inv X pins σ H s) {a:Addr} (h:s.heap.objs.size <= a):a ∉ X.fs:=fun hb=>by
 obtain ⟨_,o,ho,_⟩:=I.ok.funs.mem hb;exact absurd (Nat.lt_of_lt_of_le (Heap.lt_size ho) (Nat.le_trans I.sz h)) (Nat.lt_irrefl _)
theorem Inv.cne (I:Inv X pins σ H s):∀ x c,X.env.cells.lookup x=some c->c ≠ X.env.locals:=fun x c e z=>by
 obtain ⟨v,o,ho,hd⟩:=I.cell x c e;obtain ⟨m,⟨o',es,ep,ho',hd',_⟩,_⟩:=I.loc;rw [z,ho'] at ho;cases ho;rw [hd'] at hd;cases hd
theorem Inv.funs (I:Inv X pins σ H s):s.heap.FunFrames X.base X.outer:=by
 have all:∀ (l:List Env),(∀ b ∈ frs l,b ∈ X.fs)->X.s₀.heap.FunFrames X.base l->s.heap.FunFrames X.base l:=by
  intro l
  induction l with
  | nil=>intro _ _;trivial
  | cons env r ih=>
   intro hs hl;obtain ⟨hk,⟨L,o,hf,hn,ho,hd⟩,hr⟩:=hl;have hL:L ∈ X.fs:=hs L (by unfold frs;rw [List.filterMap_cons,hf];exact mem_cons_self);obtain ⟨sl,e⟩:=I.base.slot L o ho (I.ok.frf L hL) hL fun z=>I.ok.exfs L z hL
   exact ⟨hk,⟨L,_,hf,hn,e,hd⟩,ih (fun b hb=>hs b (by unfold frs;rw [List.filterMap_cons,hf];exact mem_cons_of_mem _ hb)) hr⟩
 exact all X.outer (fun _ hb=>hb) I.ok.funs
theorem Inv.stack (I:Inv X pins σ H s):s.heap.FunFrames X.base X.stack:=by
 rcases I.ok.stk with e | ⟨e,hf⟩
 ·rw [e];exact I.funs
 ·rw [e];obtain ⟨m,hn,_⟩:=I.loc;refine .cons (by rw [I.ok.kind];decide) hf hn ?_ I.funs;exact Heap.get?_none_of_le (Nat.le_trans I.ok.bsz I.ok.above)
theorem Inv.stkSub (I:Inv X pins σ H s):∀ b ∈ frs X.stack,b ∈ X.env.locals :: X.fs:=fun b hb=>by
 rcases I.ok.stk with e | ⟨e,hf⟩
 ·rw [e] at hb;exact mem_cons_of_mem _ hb
 ·rw [e] at hb;unfold frs at hb;rw [List.filterMap_cons,hf] at hb;exact hb
theorem Inv.stkFree (I:Inv X pins σ H s):∀ b ∈ frs X.stack,H b=none:=fun b hb=>by
 rcases List.mem_cons.mp (I.stkSub b hb) with e | hb
 ·rw [e];exact I.free
 ·obtain ⟨_,o,ho,_⟩:=I.ok.funs.mem hb;exact I.base.free b o ho (I.ok.frf b hb) fun z=>I.ok.exfs b z hb
theorem Inv.step {g':Array GenState} {t':Nat} {d':Drawn} {ch:List Addr} (I:Inv X pins σ H s)
  (hch:∀ b ∈ ch,(b ∈ X.ex\/X.s₀.heap.objs.size <= b)/\b ≠ X.env.locals/\(∀ x c,X.env.cells.lookup x=some c->c ≠ b)/\∀ p ∈ X.pn ++ pins,p.1 ≠ b)
  (keep:∀ b o,b ≠ X.env.locals->b ∉ X.fs->b ∉ ch->s.heap.get? b=some o->H b=none->h'.get? b=some o)
  (slot:∀ b o,b ≠ X.env.locals->b ∈ X.fs->b ∉ ch->s.heap.get? b=some o->H b=none->∃ sl,h'.get? b=some { o with slots:=sl }) (free:∀ b o,b ∉ ch->s.heap.get? b=some o->H b=none->H' b=none)
  (there:∀ b o,b ∉ ch->s.heap.get? b=some o->∃ o',h'.get? b=some o')
  (tups:∀ b xs,H b=some (.tup xs)->H' b=some (.tup xs)) (frzs:∀ b o u,H b=some (.frz o u)->H' b=some (.frz o u)) (tbls:∀ b ps,H b=some (.tbl ps)->∃ more,H' b=some (.tbl (ps ++ more)))
  (ns:∀ m,s.heap.Ns X.env.locals m->h'.Ns X.env.locals m) (hok:HOk X.prog X.w H' h') (hg:AllBare g') :
  Inv X pins σ H' { s with heap:=h',gens:=g',drawn:=d',toks:=t' }:=by
 have neL:∀ b o,X.s₀.heap.get? b=some o->b ≠ X.env.locals:=fun b o e=>Nat.ne_of_lt (Nat.lt_of_lt_of_le (Heap.lt_size e) I.ok.above)
 have neC:∀ b o,X.s₀.heap.get? b=some o->b ∉ X.ex->b ∉ ch:=fun b o e hx hb=>by
  rcases (hch b hb).1 with z | z
  ·exact hx z
  ·exact absurd (Nat.lt_of_lt_of_le (Heap.lt_size e) z) (Nat.lt_irrefl _)
 have cellK:∀ x c,X.env.cells.lookup x=some c->∀ v,s.heap.IsCell c v->h'.IsCell c v:=fun x c e v ⟨o,ho,hd⟩=>by
  have nch:c ∉ ch:=fun z=>(hch c z).2.2.1 x c e rfl
  by_cases hc:c ∈ X.fs
  ·obtain ⟨sl,q⟩:=slot c o (I.cne x c e) hc nch ho (I.freeC x c e);exact ⟨_,q,hd⟩
  ·exact ⟨o,keep c o (I.cne x c e) hc nch ho (I.freeC x c e),hd⟩
 refine ⟨I.ok,I.os,hg,⟨fun b o e n hb hx=>?_,fun b o e n hb hx=>?_,fun b o e n hx=>?_,fun b o e hx=>?_,fun b xs e=>tups b xs (I.base.tups b xs e),fun b o xs e=>frzs b o xs (I.base.frzs b o xs e),fun b ps e=>?_⟩,?_,fun x c e=>?_,?_,fun x c e=>?_,fun p hp=>?_,hok,I.len⟩
 ·exact keep b o (neL b o e) hb (neC b o e hx) (I.base.keep b o e n hb hx) (I.base.free b o e n hx)
 ·obtain ⟨sl,e1⟩:=I.base.slot b o e n hb hx;obtain ⟨sl',e2⟩:=slot b _ (neL b o e) hb (neC b o e hx) e1 (I.base.free b o e n hx);exact ⟨sl',e2⟩
 ·obtain ⟨o',e1⟩:=I.base.there b o e hx;exact free b o' (neC b o e hx) e1 (I.base.free b o e n hx)
 ·obtain ⟨o',e1⟩:=I.base.there b o e hx;exact there b o' (neC b o e hx) e1
 ·obtain ⟨m1,e1⟩:=I.base.tbls b ps e;obtain ⟨m2,e2⟩:=tbls b _ e1;exact ⟨m1 ++ m2,by rw [e2,Array.append_assoc]⟩
 ·obtain ⟨m,hn,hl⟩:=I.loc;refine ⟨m,ns m hn,fun i x v e1 e2 e3=>?_⟩;obtain ⟨u,r,l⟩:=hl i x v e1 e2 e3;refine ⟨u,r,?_⟩;rcases l with l | ⟨k,c,e,z⟩
  ·exact .inl l
  ·exact .inr ⟨k,c,e,cellK x c e _ z⟩
 ·obtain ⟨v,z⟩:=I.cell x c e;exact ⟨v,cellK x c e v z⟩
 ·obtain ⟨m,⟨o,_,_,ho,_⟩,_⟩:=I.loc;exact free _ o (fun z=>(hch _ z).2.1 rfl) ho I.free
 ·obtain ⟨v,o,ho,hd⟩:=I.cell x c e;exact free c o (fun z=>(hch c z).2.2.1 x c e rfl) ho (I.freeC x c e)
 ·obtain ⟨e,n,ne,nf,d⟩:=I.pin p hp;have nch:p.1 ∉ ch:=fun z=>(hch p.1 z).2.2.2 p hp rfl
  exact ⟨keep p.1 p.2 ne nf nch e n,free p.1 p.2 nch e n,ne,nf,d⟩
theorem Inv.un {t':Nat} (I:Inv X pins σ H s) (u:Un X.fs [] H H' s.heap h') (hok:HOk X.prog X.w H' h'):Inv X pins σ H' { s with heap:=h',toks:=t' }:=by
 obtain ⟨m,⟨o,es,ep,ho,r⟩,_⟩:=id I.loc;obtain ⟨sl,hL⟩:=u.any ho I.free (by simp);exact I.step (g':=s.gens) (d':=s.drawn) (ch:=[]) (fun _ z=>nomatch z) (fun b o _ hb _ e n=>u.keep b o e n hb (by simp)) (fun b o _ hb _ e n=>u.slot b o e n hb (by simp)) (fun b o _ e n=>u.free b o e n (by simp)) (fun b o _ e=>u.there b o e (by simp)) u.tups u.frzs u.tbls (fun m' hm=>by
  obtain ⟨o',es',ep',ho',r'⟩:=hm;rw [ho] at ho';cases ho';exact ⟨_,es',ep',hL,r'⟩) hok I.bare
theorem Inv.call {g':Array GenState} {t':Nat} {d':Drawn} {ch:List Addr} (I:Inv X pins σ H s) (u:Un (frs X.stack) ch H H' s.heap h') (hok:HOk X.prog X.w H' h') (hg:AllBare g')
  (hch:∀ b ∈ ch,(b ∈ X.ex\/X.s₀.heap.objs.size <= b)/\b ≠ X.env.locals/\(∀ x c,X.env.cells.lookup x=some c->c ≠ b)/\∀ p ∈ X.pn ++ pins,p.1 ≠ b) :
  Inv X pins σ H' { s with heap:=h',gens:=g',drawn:=d',toks:=t' }:=by
 obtain ⟨m,⟨o,es,ep,ho,r⟩,_⟩:=id I.loc;obtain ⟨sl,hL⟩:=u.any ho I.free fun z=>(hch _ z).2.1 rfl
 exact I.step (ch:=ch) hch (fun b o hL hb hc e n=>u.keep b o e n (fun z=>(List.mem_cons.mp (I.stkSub b z)).elim hL hb) hc) (fun b o _ _ hc e n=>u.any e n hc) (fun b o hc e n=>u.free b o e n hc) (fun b o hc e=>u.there b o e hc) u.tups u.frzs u.tbls (fun m' hm=>by
  obtain ⟨o',es',ep',ho',r'⟩:=hm;rw [ho] at ho';cases ho';exact ⟨_,es',ep',hL,r'⟩) hok hg
theorem Inv.turned {t':Nat} {it:Addr} (I:Inv X pins σ H s) (k:∀ b o,b ≠ it->s.heap.get? b=some o->h'.get? b=some o) (hn:H it=none) (hL:it ≠ X.env.locals)
  (h1:it ∈ X.ex\/X.s₀.heap.objs.size <= it) (h2:∀ x c,X.env.cells.lookup x=some c->c ≠ it) (h3:∀ p ∈ X.pn ++ pins,p.1 ≠ it):Inv X pins σ H { s with heap:=h',toks:=t' }:=by
 have nit:∀ b u,H b=some u->b ≠ it:=fun b u e z=>by rw [z,hn] at e;cases e
 refine I.step (g':=s.gens) (d':=s.drawn) (ch:=[it]) (fun b hb=>?_) (fun b o _ _ hc e _=>k b o (fun z=>hc (by simp [z])) e) (fun b o _ _ hc e _=>⟨o.slots,k b o (fun z=>hc (by simp [z])) e⟩) (fun _ _ _ _ n=>n)
  (fun b o hc e=>⟨o,k b o (fun z=>hc (by simp [z])) e⟩) (fun _ _ e=>e) (fun _ _ _ e=>e) (fun b ps e=>⟨#[],by rw [e];simp⟩) (fun m hm=>?_) (fun b u e=>?_) I.bare
 ·have e:b=it:=by simpa using hb
  subst e;exact ⟨h1,hL,h2,h3⟩
 ·obtain ⟨o,es,ep,ho,r⟩:=hm;exact ⟨o,es,ep,k _ o (Ne.symm hL) ho,r⟩
 ·refine (I.hok b u e).stay (fun c v hc q=>k c v ?_ q) (fun _ q=>q) fun _ _ q=>q
  rcases hc with z | z
  ·rw [z];exact nit b u e
  ·exact nit c _ z
theorem Inv.tok (I:Inv X pins σ H s) (t:Nat):Inv X pins σ H { s with toks:=t }:=I.un (h':=s.heap) (t':=t) Un.refl I.hok
theorem Inv.kept {t':Nat} (I:Inv X pins σ H s) (k:∀ b u,s.heap.get? b=some u->h'.get? b=some u):Inv X pins σ H { s with heap:=h',toks:=t' }:=I.un (Un.kept k) (I.hok.kept k)
theorem Inv.laid {a:Addr} {o:HO} {t':Nat} (I:Inv X pins σ H s) (k:∀ b u,s.heap.get? b=some u->h'.get? b=some u) (hp:s.heap.objs.size <= a) (new:Kb X.prog X.w (upd H a o) h' a o) :
  Inv X pins σ (upd H a o) { s with heap:=h',toks:=t' }:=I.un (Un.laid k hp (I.hok.fresh hp)) (I.hok.laid k hp new)
theorem Inv.write {x e:Addr} {o:HO} {t':Nat} (I:Inv X pins σ H s) (mu:Mut (H x)) (he:e=x\/H e=some (.own x)) (k:∀ b u,b ≠ e->s.heap.get? b=some u->h'.get? b=some u) (heo:∃ u,h'.get? e=some u)
  (new:Kb X.prog X.w (upd H x o) h' x o):Inv X pins σ (upd H x o) { s with heap:=h',toks:=t' }:=I.un (Un.write mu he k heo) (I.hok.write mu he k heo new)
theorem Inv.weak {σ':List (Option V)} (I:Inv X pins σ H s) (hl:σ'.length=σ.length) (w:∀ (i:Nat) v,σ'[i]? = some (some v)->σ[i]? = some (some v)):Inv X pins σ' H s:=
 ⟨I.ok,I.os,I.bare,I.base,let ⟨m,hn,hl'⟩:=I.loc;⟨m,hn,fun i x v e1 e2 e3=>hl' i x v e1 (w i v e2) e3⟩,I.cell,I.free,I.freeC,I.pin,I.hok,hl.trans I.len⟩
theorem Inv.pins_of {pins':List (Addr × Obj)} (I:Inv X pins σ H s) (h:∀ p ∈ pins',s.heap.get? p.1=some p.2/\H p.1=none/\p.1 ≠ X.env.locals/\p.1 ∉ X.fs/\∀ v,p.2.data ≠ .cell v):Inv X pins' σ H s:=
 ⟨I.ok,I.os,I.bare,I.base,I.loc,I.cell,I.free,I.freeC,fun p hp=>(List.mem_append.mp hp).elim (fun z=>I.pin p (List.mem_append_left _ z)) (h p),I.hok,I.len⟩
theorem Xg {N:List Str} (hN:N.Nodup) {i j:Nat} {x:Str} (a:N[i]? = some x) (b:N[j]? = some x):i=j:=by
 obtain ⟨h1,e1⟩:=List.getElem?_eq_some_iff.mp a;obtain ⟨h2,e2⟩:=List.getElem?_eq_some_iff.mp b;exact (List.getElem_inj hN).mp (e1.trans e2.symm)
theorem Vf {M:Model} {A:Around} {E:Value->Shared->Prop} {i:Nat} {x:Str} {v:V} {u:Value} {Q:Unit->Shared->Prop} (I:Inv X pins σ H s) (hN:X.N.Nodup) (hi:X.N[i]? = some x) (hx:Loc X.env.scope x) (r:Qb v u)
  (h:∀ s',Inv X pins (σ.set i (some v)) H s'->(∃ a,Heap.SameBut a s.heap s'.heap/\(a=X.env.locals\/X.env.cells.lookup x=some a))->Q () s') (hf:X.fn x=true\/X.env.scope.names.lookup x=some .local:=by first | exact .inl rfl | exact .inr rfl | assumption):wpAny M A (storeName X.env x u) Q E s:=by
 obtain ⟨m,hn,hl⟩:=id I.loc;have hcls:(X.env.scope.kind == .class || (X.env.scope.kind == .module && X.env.locals != X.env.globals))=false:=by rw [I.ok.kind];rfl
 have hiσ:i < σ.length:=by rw [I.len];exact (List.getElem?_eq_some_iff.mp hi).1
 have cne:=I.cne;have tracked:∀ {a:Addr} {h':Heap},(∃ o,s.heap.get? a=some o/\H a=none)->Heap.SameBut a s.heap h'->HOk X.prog X.w H h':=fun {a h'} ha hs b ob e=>by
  obtain ⟨_,_,hfree⟩:=ha;refine (I.hok b ob e).stay (fun c w' hc q=>(hs.2 c ?_).trans q) (fun _ q=>q) fun _ _ q=>q
  rintro rfl;rcases hc with rfl | hc
  ·rw [hfree] at e;cases e
  ·rw [hfree] at hc;cases hc
 rcases hx with hk | hk
 ·refine wpAny_storeName_local hk hn (fun h' hn' hs=>?_) hcls;obtain ⟨oL,_,_,hoL,_⟩:=id hn;refine h _ ⟨I.ok,I.os,I.bare,⟨fun b o e n hb hx=>?_,fun b o e n hb hx=>?_,I.base.free,fun b o e hx=>?_,I.base.tups,I.base.frzs,I.base.tbls⟩,⟨_,hn',fun j y v' e1 e2 e3=>?_⟩,fun y c e=>?_,I.free,I.freeC,fun p hp=>?_,tracked ⟨oL,hoL,I.free⟩ hs,by simpa using I.len⟩ ⟨_,hs,.inl rfl⟩
  ·exact (hs.2 b (Nat.ne_of_lt (Nat.lt_of_lt_of_le (Heap.lt_size e) I.ok.above))).trans (I.base.keep b o e n hb hx)
  ·obtain ⟨sl,e1⟩:=I.base.slot b o e n hb hx;exact ⟨sl,(hs.2 b (Nat.ne_of_lt (Nat.lt_of_lt_of_le (Heap.lt_size e) I.ok.above))).trans e1⟩
  ·obtain ⟨o',e1⟩:=I.base.there b o e hx;exact ⟨o',(hs.2 b (Nat.ne_of_lt (Nat.lt_of_lt_of_le (Heap.lt_size e) I.ok.above))).trans e1⟩
  ·by_cases hj:j=i
   ·subst hj;rw [hi] at e1;cases e1;rw [List.getElem?_set_self hiσ] at e2;cases e2;exact ⟨u,r,.inl ⟨hk,by simp⟩⟩
   ·rw [List.getElem?_set_ne (Ne.symm hj)] at e2;obtain ⟨u',r',q⟩:=hl j y v' e1 e2 e3;refine ⟨u',r',?_⟩;rcases q with ⟨k,e⟩ | ⟨k,c,e,z⟩
    ·refine .inl ⟨k,?_⟩;have:y ≠ x:=fun e=>hj (Xg hN e1 (e ▸ hi))
     simp [this,e]
    ·exact .inr ⟨k,c,e,z.sameBut hs (cne y c e)⟩
  ·obtain ⟨w',z⟩:=I.cell y c e;exact ⟨w',z.sameBut hs (cne y c e)⟩
  ·obtain ⟨e,n,ne,nf,d⟩:=I.pin p hp;exact ⟨(hs.2 p.1 ne).trans e,n,ne,nf,d⟩
 ·have hfn:X.fn x=true:=by
   rcases hf with z | z
   ·exact z
   ·rw [z] at hk;cases hk
  obtain ⟨c,hc⟩:=I.ok.has x (.inl hk);obtain ⟨w',z⟩:=I.cell x c hc;refine wpAny_storeName_cell I.ok.kind hk hc z (fun h' hc' hs=>?_);obtain ⟨oc,hoc,hocd⟩:=id z;refine h { s with heap:=h' } ⟨I.ok,I.os,I.bare,⟨fun b o e n hb hx=>?_,fun b o e n hb hx=>?_,I.base.free,fun b o e hx=>?_,I.base.tups,I.base.frzs,I.base.tbls⟩,⟨m,hn.sameBut hs (Ne.symm (cne x c hc)),fun j y v' e1 e2 e3=>?_⟩,fun y c' e=>?_,I.free,I.freeC,fun p hp=>?_,tracked ⟨oc,hoc,I.freeC x c hc⟩ hs,by simpa using I.len⟩ ⟨c,hs,.inr hc⟩
  ·exact (hs.2 b (Nat.ne_of_lt (Nat.lt_of_lt_of_le (Heap.lt_size e) (I.ok.cab x c hfn hc)))).trans (I.base.keep b o e n hb hx)
  ·obtain ⟨sl,e1⟩:=I.base.slot b o e n hb hx;exact ⟨sl,(hs.2 b (Nat.ne_of_lt (Nat.lt_of_lt_of_le (Heap.lt_size e) (I.ok.cab x c hfn hc)))).trans e1⟩
  ·obtain ⟨o',e1⟩:=I.base.there b o e hx;exact ⟨o',(hs.2 b (Nat.ne_of_lt (Nat.lt_of_lt_of_le (Heap.lt_size e) (I.ok.cab x c hfn hc)))).trans e1⟩
  ·by_cases hj:j=i
   ·subst hj;rw [hi] at e1;cases e1;rw [List.getElem?_set_self hiσ] at e2;cases e2;exact ⟨u,r,.inr ⟨.inl hk,c,hc,hc'⟩⟩
   ·rw [List.getElem?_set_ne (Ne.symm hj)] at e2;obtain ⟨u',r',q⟩:=hl j y v' e1 e2 e3;refine ⟨u',r',?_⟩;rcases q with q | ⟨k,c',e,z'⟩
    ·exact .inl q
    ·refine .inr ⟨k,c',e,z'.sameBut hs ?_⟩;rintro rfl;exact hj (Xg hN e1 (I.ok.inj _ _ _ e hc ▸ hi))
  ·by_cases hcc:c'=c
   ·subst hcc;exact ⟨_,hc'⟩
   ·obtain ⟨w2,z2⟩:=I.cell y c' e;exact ⟨w2,z2.sameBut hs hcc⟩
  ·obtain ⟨e,n,ne,nf,d⟩:=I.pin p hp;refine ⟨(hs.2 p.1 ?_).trans e,n,ne,nf,d⟩;intro q;rw [q,hoc] at e;have q':oc=p.2:=Option.some.inj e;exact d w' (by rw [<- q'];exact hocd)
theorem jh {M:Model} {A:Around} {E:Value->Shared->Prop} {i:Nat} {x:Str} {v:V} {u:Value} {Q:Unit->Shared->Prop} (I:Inv X pins σ H s) (hN:X.N.Nodup) (hi:X.N[i]? = some x) (hx:Loc X.env.scope x) (r:Qb v u)
  (h:∀ s',Inv X pins (σ.set i (some v)) H s'->Q () s') (hf:X.fn x=true\/X.env.scope.names.lookup x=some .local:=by first | exact .inl rfl | exact .inr rfl | assumption):wpAny M A (storeName X.env x u) Q E s:=
 Vf I hN hi hx r (fun s' I' _=>h s' I') hf
theorem Inv.call' {s':Shared} {ch:List Addr} (I:Inv X pins σ H s) (ho:s'.os=s.os) (u:Un (frs X.stack) ch H H' s.heap s'.heap) (hok:HOk X.prog X.w H' s'.heap) (hg:AllBare s'.gens)
  (hch:∀ b ∈ ch,(b ∈ X.ex\/X.s₀.heap.objs.size <= b)/\b ≠ X.env.locals/\(∀ x c,X.env.cells.lookup x=some c->c ≠ b)/\∀ p ∈ X.pn ++ pins,p.1 ≠ b):Inv X pins σ H' s':=by
 obtain ⟨h',g',d',t',o'⟩:=s';have e:o'=s.os:=ho;subst e;exact I.call (g':=g') (t':=t') (d':=d') u hok hg hch
end
noncomputable abbrev XK:=Value->Option Addr->Hp->Prop
noncomputable abbrev St:=List (Option V)
noncomputable abbrev VK:=V->Hp->Prop
noncomputable abbrev TE:=St->Hp->VK->Prop
noncomputable abbrev TT:=St->Hp->(Bool->Hp->Prop)->Prop
noncomputable abbrev TA:=St->Hp->(List V->Hp->Prop)->Prop
structure Fd where
 nx:St->Hp->Prop
 rt:VK
 bk:St->Hp->Prop:=fun _ _=>False
 ct:St->Hp->Prop:=fun _ _=>False
noncomputable abbrev TS:=Fd->St->Hp->Prop
noncomputable def EP (X:Cx) (pins:List (Addr × Obj)) (σ:St) (Q:VK) (u:Value) (s':Shared):Prop:=∃ v H',Inv X pins σ H' s'/\Qb v u/\Q v H'
noncomputable def TP (X:Cx) (pins:List (Addr × Obj)) (σ:St) (Q:Bool->Hp->Prop) (b:Bool) (s':Shared):Prop:=∃ H',Inv X pins σ H' s'/\Q b H'
noncomputable def AP (X:Cx) (pins:List (Addr × Obj)) (σ:St) (Q:List V->Hp->Prop) (us:List Value) (s':Shared):Prop:=∃ vs H',Inv X pins σ H' s'/\Pb vs us/\Q vs H'
noncomputable def SP (X:Cx) (pins:List (Addr × Obj)) (D:Fd) (f:Flow) (s':Shared):Prop:=
 match f with
 | .next=>∃ σ' H',Inv X pins σ' H' s'/\D.nx σ' H'
 | .brk=>∃ σ' H',Inv X pins σ' H' s'/\D.bk σ' H'
 | .cont=>∃ σ' H',Inv X pins σ' H' s'/\D.ct σ' H'
 | .ret u=>∃ v σ' H',Inv X pins σ' H' s'/\Qb v u/\D.rt v H'
noncomputable def PE (X:Cx) (e:Expr) (t:TE):Prop:=
 ∀ (pins:List (Addr × Obj)) (s:Shared) (σ:St) (H:Hp) (Q:VK),Inv X pins σ H s->t σ H Q->wpAny (model X.prog X.w) X.A (eval e X.env) (EP X pins σ Q) X.xe s
noncomputable def PT (X:Cx) (e:Expr) (t:TT):Prop:=
 ∀ (pins:List (Addr × Obj)) (s:Shared) (σ:St) (H:Hp) (Q:Bool->Hp->Prop),Inv X pins σ H s->t σ H Q->wpAny (model X.prog X.w) X.A (isTrue e X.env (eval e X.env)) (TP X pins σ Q) X.xe s
noncomputable def PW (X:Cx) (e:Expr) (t:TT):Prop:=
 ∀ (whole:Sem Value) (pins:List (Addr × Obj)) (s:Shared) (σ:St) (H:Hp) (Q:Bool->Hp->Prop),Inv X pins σ H s->t σ H Q->wpAny (model X.prog X.w) X.A (isTrue e X.env whole) (TP X pins σ Q) X.xe s
theorem PW.pt {X:Cx} {e:Expr} {t:TT} (h:PW X e t):PT X e t:=h _
noncomputable def PA (X:Cx) (es:List Expr) (t:TA):Prop:=
 ∀ (pos:Pos) (pins:List (Addr × Obj)) (s:Shared) (σ:St) (H:Hp) (Q:List V->Hp->Prop),Inv X pins σ H s->t σ H Q->wpAny (model X.prog X.w) X.A (spliced (backTo pos (starEach es X.env))) (AP X pins σ Q) X.xe s
noncomputable def PS (X:Cx) (st:Stmt) (t:TS):Prop:=
 ∀ (pins:List (Addr × Obj)) (s:Shared) (σ:St) (H:Hp) (D:Fd),Inv X pins σ H s->t D σ H->wpAny (model X.prog X.w) X.A (exec st X.env) (SP X pins D) X.xe s
noncomputable def PSs (X:Cx) (st:List Stmt) (t:TS):Prop:=
 ∀ (pins:List (Addr × Obj)) (s:Shared) (σ:St) (H:Hp) (D:Fd),Inv X pins σ H s->t D σ H->wpAny (model X.prog X.w) X.A (execs st X.env) (SP X pins D) X.xe s
theorem thn {α:Type} {t:Sem α} {Q Q':α->Shared->Prop} {M:Model} {A:Around} {E:Value->Shared->Prop} {s:Shared} (h:wpAny M A t Q E s) (hQ:∀ a s,Q a s->Q' a s):wpAny M A t Q' E s:=wpAny_mono h hQ fun _ _ x=>x
end L2
namespace L2
open PySem PySem.Spec PyProof.Rows
section
variable {X:Cx}
noncomputable def kn (i:Nat):TE:=fun σ H Q=>∃ v,σ[i]? = some (some v)/\Q v H
noncomputable def tC (v:V):TE:=fun _ H Q=>Q v H
theorem gm {i:Nat} {x:Str} {pos:Pos} (hN:X.N[i]? = some x) (hv:Vis X.env.scope x) (hd:(x == ("__debug__" : Str))=false:=by decide) (hcd:(x == ("__classdict__" : Str))=false:=by decide):PE X (.Name x pos) (kn i):=by
 intro pins s σ H Q I h;obtain ⟨v,e,h⟩:=h;obtain ⟨m,hn,hl⟩:=I.loc;obtain ⟨u,r,l⟩:=hl i x v hN e hv;have fin:EP X pins σ Q u s:=⟨v,H,I,r,h⟩;rcases l with ⟨hk,hm⟩ | ⟨hk,c,hc,hcell⟩
 ·exact wpAny_Name (wpAny_loadName_local I.ok.kind hk hn hm fin) hd
 ·rcases hk with hk | hk
  ·exact wpAny_Name (wpAny_loadName_cell I.ok.kind hk hc hcell fin) hd
  ·exact wpAny_Name (wpAny_loadName_free I.ok.kind hk hc hcell fin hcd) hd
theorem ib {i j pos}:PE X (.Constant (.int i) j pos) (tC (.int i)):=fun _ _ _ H _ I h=>wpAny_Constant_int ⟨.int i,H,I.tok _,⟨_,rfl⟩,h⟩
theorem Hj {b j pos}:PE X (.Constant (.bool b) j pos) (tC (.bl b)):=fun _ _ _ H _ I h=>Constant_bool ⟨.bl b,H,I,rfl,h⟩
theorem Ub {x j pos}:PE X (.Constant (.str x) j pos) (tC (.str x)):=fun _ _ _ H _ I h=>Calls.Constant_str ⟨.str x,H,I.tok _,⟨_,rfl⟩,h⟩
noncomputable def Gl (X:Cx) (x:Str):Prop:=X.env.kindOf x=some .globalImplicit
theorem wg {E:Value->Shared->Prop} {pins:List (Addr × Obj)} {s:Shared} {σ:St} {H:Hp} {x:Str} {u:Value} {pos:Pos} {Q:Value->Shared->Prop} (I:Inv X pins σ H s) (hg:Gl X x) (hm:X.mg x=some u) (h:Q u s)
  (hd:(x == ("__debug__" : Str))=false:=by decide):wpAny (model X.prog X.w) X.A (eval (.Name x pos) X.env) Q E s:=
 Calls.Name_function_global I.ok.kind hg (Calls.loadGlobal_global (by rw [I.ok.glob];exact I.mod.glob.keeps I.bk) hm h) hd
theorem Af {E:Value->Shared->Prop} {pins:List (Addr × Obj)} {s:Shared} {σ:St} {H:Hp} {x:Str} {u:Value} {pos:Pos} {Q:Value->Shared->Prop} (I:Inv X pins σ H s) (hg:Gl X x) (hm:X.mg x=none) (hv:bootBuiltins x=some u) (h:Q u s)
  (hn:x ≠ "__name__" := by decide) (hd:(x == ("__debug__" : Str))=false:=by decide):wpAny (model X.prog X.w) X.A (eval (.Name x pos) X.env) Q E s:=by
 obtain ⟨mb,h1,h2⟩:=I.mod.blt;exact Calls.Name_function_global I.ok.kind hg (Calls.loadGlobal_builtin (by rw [I.ok.glob];exact I.mod.glob.keeps I.bk) hm (by rw [I.ok.blt];exact h1.keeps I.bk) ((h2 x hn).trans hv) h) hd
theorem jf {x:Str} {v:V} {u:Value} {pos:Pos} (hg:Gl X x) (hm:X.mg x=some u) (r:Qb v u) (hd:(x == ("__debug__" : Str))=false:=by decide):PE X (.Name x pos) (tC v):=
 fun _ _ _ H _ I h=>wg I hg hm ⟨v,H,I,r,h⟩ hd
theorem kg {x:Str} {v:V} {u:Value} {pos:Pos} (hg:Gl X x) (hm:X.mg x=none) (hv:bootBuiltins x=some u) (r:Qb v u) (hn:x ≠ "__name__" := by decide) (hd:(x == ("__debug__" : Str))=false:=by decide):PE X (.Name x pos) (tC v):=
 fun _ _ _ H _ I h=>Af I hg hm hv ⟨v,H,I,r,h⟩ hn hd
variable {a b:Expr} {ta tb:TE} {pos:Pos}
noncomputable def tB (t:TE):TT:=fun σ H Q=>t σ H fun x H1=>∃ c,x=.bl c/\Q c H1
theorem Vh {e:Expr} {t:TE} (h:PE X e t) (he:∀ whole,isTrue e X.env whole=(do let v <- whole;standAt e.pos;holding [v] (truthy v)):=by intro _;rfl):PT X e (tB t):=by
 intro pins s σ H Q I hw;refine isTrue_plain (thn (h pins s σ H _ I hw) fun v s1 hZ1=>?_) (he _);obtain ⟨x,H1,I1,r1,q1⟩:=hZ1;obtain ⟨d,rfl,q⟩:=q1;cases r1;exact wpAny_truthy_bool ⟨H1,I1,q⟩
variable {tA tB':TT} {Fh:List Expr}
noncomputable def tOr (t u:TT):TT:=fun σ H Q=>t σ H fun c H1=>if c=true then Q true H1 else u σ H1 Q
noncomputable def mo (t:TT):TT:=fun σ H Q=>t σ H fun c H1=>Q (!c) H1
theorem Hi (ha:PT X a tA):PW X (.BoolOp .Or [a] pos) tA:=by
 intro wh pins s σ H Q I h;refine isTrue_or (thn (ha pins s σ H Q I h) fun c s1 e=>?_);cases c with
 | false=>exact isTrue_or_nil e
 | true=>exact e
theorem Gh (ha:PT X a tA) (hb:PW X (.BoolOp .Or (b :: Fh) pos) tB'):PW X (.BoolOp .Or (a :: b :: Fh) pos) (tOr tA tB'):=by
 intro wh pins s σ H Q I h;refine isTrue_or (thn (ha pins s σ H _ I h) fun c s1 hZ1=>?_);obtain ⟨H1,I1,q1⟩:=hZ1;cases c with
 | true=>exact ⟨H1,I1,q1⟩
 | false=>exact hb wh pins s1 σ H1 Q I1 q1
theorem mi (ha:PT X a tA):PT X (.UnaryOp .Not a pos) (mo tA):=by
 intro pins s σ H Q I h;exact isTrue_not (ha pins s σ H (fun c H1=>Q (!c) H1) I h)
noncomputable def Jm (ta tb:TE):TE:=fun σ H Q=>ta σ H fun x H1=>∃ c,x=.bl c/\if c=true then tb σ H1 Q else Q (.bl false) H1
theorem Pm {op} {t:TE} (h:PE X a t):PE X (.BoolOp op [a] pos) t:=fun pins s σ H Q I hw=>BoolOp_one (h pins s σ H Q I hw)
theorem Dm (ha:PE X a ta) (hb:PE X (.BoolOp .And (b :: Fh) pos) tb):PE X (.BoolOp .And (a :: b :: Fh) pos) (Jm ta tb):=by
 intro pins s σ H Q I h;refine BoolOp_and (thn (ha pins s σ H _ I h) fun v s1 hZ1=>?_);obtain ⟨x,H1,I1,r1,q1⟩:=hZ1;obtain ⟨c,rfl,q1⟩:=q1;cases r1;refine wpAny_truthy_bool ?_;cases c with
 | true=>exact hb pins s1 σ H1 Q I1 q1
 | false=>exact ⟨.bl false,H1,I1,rfl,q1⟩
noncomputable def tIf (t:TT) (ta tb:TE):TE:=fun σ H Q=>t σ H fun c H1=>if c=true then ta σ H1 Q else tb σ H1 Q
theorem sf {c:Expr} (hc:PT X c tA) (ha:PE X a ta) (hb:PE X b tb):PE X (.IfExp c a b pos) (tIf tA ta tb):=by
 intro pins s σ H Q I h;refine wpAny_IfExp (thn (hc pins s σ H _ I h) fun d s1 hZ1=>?_);obtain ⟨H1,I1,q1⟩:=hZ1;cases d with
 | true=>exact ha pins s1 σ H1 Q I1 q1
 | false=>exact hb pins s1 σ H1 Q I1 q1
end
end L2
namespace L2
open PySem PySem.Spec PyProof.Rows
noncomputable def SqL (K:W.Frag) (H:Hp) (a:Addr) (xs:List V):Prop:=
 Rd H a (.lst xs) \/
  ∃ (o:Obj) (its:Array Value) (n:Nat),K.lookup a=some o/\o.cls=.type "list" /\ o.dict=none/\o.data=.seq its n/\its.size <= sizeLine/\Pb xs its.toList
noncomputable def SqT (K:W.Frag) (H:Hp) (a:Addr) (xs:List V):Prop:=
 Rd H a (.tup xs) \/
  ∃ (o:Obj) (its:Array Value) (n:Nat),K.lookup a=some o/\o.cls=.type "tuple" /\ o.data=.seq its n/\its.size <= sizeLine/\Pb xs its.toList
noncomputable def qo:Value->Option V
 | .none=>some .non
 | .bool b=>some (.bl b)
 | .int i _=>some (.int i)
 | .str x _=>some (.str x)
 | .bytes b _=>some (.byt b)
 | .float b _=>some (.flt b)
 | .ref a=>some (.ref a)
 | .type n=>some (.ty n)
 | _=>none
theorem Qb.abs {x:V} {u:Value} (r:Qb x u):qo u=some x:=by
 cases x with
 | non=>cases r;rfl
 | bl _=>cases r;rfl
 | int _=>obtain ⟨t,rfl⟩:=r;rfl
 | str _=>obtain ⟨t,rfl⟩:=r;rfl
 | byt _=>obtain ⟨t,rfl⟩:=r;rfl
 | flt _=>obtain ⟨t,rfl⟩:=r;rfl
 | ref _=>cases r;rfl
 | ty _=>cases r;rfl
theorem Qb.inj {x y:V} {u:Value} (r:Qb x u) (q:Qb y u):x=y:=Option.some.inj (r.abs.symm.trans q.abs)
theorem Pb.inj:∀ {xs ys:List V} {us:List Value},Pb xs us->Pb ys us->xs=ys
 | _,_,_,.nil,.nil=>rfl
 | _,_,_,.cons r t,.cons r' t'=>by rw [r.inj r',Pb.inj t t']
section
variable {X:Cx} {pins:List (Addr × Obj)} {σ:St} {H:Hp} {s:Shared} {a:Addr} {xs ys:List V}
theorem SqL.of {K:W.Frag} (h:H a=some (.lst xs)):SqL K H a xs:=.inl (.inl h)
theorem SqT.of {K:W.Frag} (h:H a=some (.tup xs)):SqT K H a xs:=.inl (.inl h)
theorem Inv.list (I:Inv X pins σ H s) (h:SqL X.K H a xs):∃ its:List Value,Pb xs its/\PlainL s.heap a its.toArray/\xs.length <= sizeLine:=by
 rcases h with h | ⟨o,its,n,hk,hc,hd,hs,hz,r⟩
 ·obtain ⟨z,its,n,r,e⟩:=h.ok I.hok;exact ⟨its,r,⟨_,n,e,rfl,rfl,rfl⟩,z⟩
 ·refine ⟨its.toList,r,⟨o,n,I.kIn a o hk,hc,hd,by simpa using hs⟩,?_⟩;have e:=r.length;simp only [Array.length_toList] at e;omega
theorem Inv.tuple (I:Inv X pins σ H s) (h:SqT X.K H a xs):∃ its:List Value,Pb xs its/\IsTup s.heap a its.toArray/\xs.length <= sizeLine:=by
 rcases h with h | ⟨o,its,n,hk,hc,hs,hz,r⟩
 ·obtain ⟨z,its,r,p⟩:=h.ok I.hok;exact ⟨its,r,p,z⟩
 ·refine ⟨its.toList,r,⟨o,I.kIn a o hk,hc,n,by simpa using hs⟩,?_⟩;have e:=r.length;simp only [Array.length_toList] at e;omega
theorem Inv.list_inj (I:Inv X pins σ H s) (h:SqL X.K H a xs) (h':SqL X.K H a ys):xs=ys:=by
 obtain ⟨its,r,⟨o,n,e,_,_,d⟩,_⟩:=I.list h;obtain ⟨its',r',⟨o',n',e',_,_,d'⟩,_⟩:=I.list h';rw [e] at e';cases e';rw [d] at d';injection d' with d1 _;have:its=its':=by simpa using congrArg Array.toList d1
 subst this;exact r.inj r'
theorem Inv.tuple_inj (I:Inv X pins σ H s) (h:SqT X.K H a xs) (h':SqT X.K H a ys):xs=ys:=by
 obtain ⟨its,r,⟨o,e,_,n,d⟩,_⟩:=I.tuple h;obtain ⟨its',r',⟨o',e',_,n',d'⟩,_⟩:=I.tuple h';rw [e] at e';cases e';rw [d] at d';injection d' with d1 _;have:its=its':=by simpa using congrArg Array.toList d1
 subst this;exact r.inj r'
end
noncomputable abbrev Cx.wish (X:Cx) (E:Value->Shared->Prop):Cx:={ X with xe:=E }
noncomputable abbrev Cx.nox (X:Cx):Cx:=X.wish fun _ _=>False
theorem Cx.Ok.wish {X:Cx} (ok:X.Ok) (E:Value->Shared->Prop):(X.wish E).Ok:=
 ⟨ok.mod,ok.kind,ok.glob,ok.blt,ok.above,ok.inj,ok.has,ok.cab,ok.hd,ok.frames,ok.stk,ok.exf,ok.bs,ok.bsz,ok.noex,ok.exfs,ok.funs,ok.frf⟩
theorem Cx.Ok.unwish {X:Cx} {E:Value->Shared->Prop} (ok:(X.wish E).Ok):X.Ok:=
 ⟨ok.mod,ok.kind,ok.glob,ok.blt,ok.above,ok.inj,ok.has,ok.cab,ok.hd,ok.frames,ok.stk,ok.exf,ok.bs,ok.bsz,ok.noex,ok.exfs,ok.funs,ok.frf⟩
section
variable {X:Cx} {pins:List (Addr × Obj)} {σ:St} {H:Hp} {s:Shared} {E:Value->Shared->Prop}
theorem Inv.wish (I:Inv X pins σ H s) (E:Value->Shared->Prop):Inv (X.wish E) pins σ H s:=⟨I.ok.wish E,I.os,I.bare,I.base,I.loc,I.cell,I.free,I.freeC,I.pin,I.hok,I.len⟩
theorem Inv.unwish (I:Inv (X.wish E) pins σ H s):Inv X pins σ H s:=⟨I.ok.unwish,I.os,I.bare,I.base,I.loc,I.cell,I.free,I.freeC,I.pin,I.hok,I.len⟩
theorem SP.unwish {D:Fd} {f:Flow} {s':Shared} (h:SP (X.wish E) pins D f s'):SP X pins D f s':=by
 cases f with
 | next=>obtain ⟨σ',H',I,q⟩:=h;exact ⟨σ',H',I.unwish,q⟩
 | brk=>obtain ⟨σ',H',I,q⟩:=h;exact ⟨σ',H',I.unwish,q⟩
 | cont=>obtain ⟨σ',H',I,q⟩:=h;exact ⟨σ',H',I.unwish,q⟩
 | ret u=>obtain ⟨v,σ',H',I,r,q⟩:=h;exact ⟨v,σ',H',I.unwish,r,q⟩
theorem PE.nox {e:Expr} {t:TE} (h:PE X.nox e t):PE X e t:=fun pins s σ H Q I hw=>
 wpAny_mono (h pins s σ H Q (I.wish _) hw) (fun _ _ ⟨v,H',I',r,q⟩=>⟨v,H',I'.unwish,r,q⟩) fun _ _ z=>False.elim z
theorem PT.nox {e:Expr} {t:TT} (h:PT X.nox e t):PT X e t:=fun pins s σ H Q I hw=>
 wpAny_mono (h pins s σ H Q (I.wish _) hw) (fun _ _ ⟨H',I',q⟩=>⟨H',I'.unwish,q⟩) fun _ _ z=>False.elim z
theorem PSs.nox {st:List Stmt} {t:TS} (h:PSs X.nox st t):PSs X st t:=fun pins s σ H D I hw=>
 wpAny_mono (h pins s σ H D (I.wish _) hw) (fun _ _ q=>q.unwish) fun _ _ z=>False.elim z
end
section
variable {X:Cx} {st:Stmt} {Fh:List Stmt} {t u:TS} {e:Expr} {te:TE} {pos:Pos}
noncomputable def Fm:TS:=fun D σ H=>D.nx σ H
noncomputable def ko (t u:TS):TS:=fun D σ H=>t { D with nx:=u D } σ H
theorem zc:PSs X [] Fm:=fun _ _ σ H _ I h=>wpAny_execs_nil ⟨σ,H,I,h⟩
theorem bb (h1:PS X st t) (h2:PSs X Fh u):PSs X (st :: Fh) (ko t u):=by
 intro pins s σ H D I h;refine wpAny_execs_cons (thn (h1 pins s σ H { D with nx:=u D } I h) fun f s1 q=>?_);cases f with
 | next=>
  obtain ⟨σ',H',I',q⟩:=q;exact h2 pins s1 σ' H' D I' q
 | ret v=>exact q
 | brk=>exact q
 | cont=>exact q
theorem Eb (h1:PS X st t):PSs X [st] t:=by
 intro pins s σ H D I h;refine wpAny_execs_cons (thn (h1 pins s σ H D I h) fun f s1 q=>?_);cases f with
 | next=>exact wpAny_execs_nil q
 | ret v=>exact q
 | brk=>exact q
 | cont=>exact q
theorem Inv.quiet {pins:List (Addr × Obj)} {σ:St} {H:Hp} {s:Shared} (I:Inv X pins σ H s):interactive X.env=false:=by simp [interactive,I.ok.kind]
noncomputable def Xl (te:TE):TS:=fun D σ H=>te σ H fun _ H1=>D.nx σ H1
theorem Oc (he:PE X e te) (hs:swapsWith e none pos.line X.env=pure false:=by rfl):PS X (.Expr e pos) (Xl te):=by
 intro pins s σ H D I h;exact wpAny_Expr_any (thn (he pins s σ H _ I h) fun v s1 ⟨x,H1,I1,r1,q1⟩=>⟨σ,H1,I1,q1⟩) I.quiet hs
noncomputable def ao (te:TE):TS:=fun D σ H=>te σ H D.rt
theorem Qc (he:PE X e te):PS X (.Return (some e) pos) (ao te):=by
 intro pins s σ H D I h;exact wpAny_Return_some (thn (he pins s σ H _ I h) fun v s1 ⟨x,H1,I1,r1,q1⟩=>⟨x,σ,H1,I1,r1,q1⟩)
noncomputable def sn (c:TT) (t u:TS):TS:=fun D σ H=>c σ H fun b H1=>if b=true then t D σ H1 else u D σ H1
theorem Ee {c:Expr} {a b:List Stmt} {tc:TT} (hc:PT X c tc) (ha:PSs X a t) (hb:PSs X b u):PS X (.If c a b pos) (sn tc t u):=by
 intro pins s σ H D I h;refine wpAny_If (thn (hc pins s σ H _ I h) fun d s1 hZ1=>?_);obtain ⟨H1,I1,q1⟩:=hZ1;cases d with
 | true=>exact ha pins s1 σ H1 D I1 q1
 | false=>exact hb pins s1 σ H1 D I1 q1
end
noncomputable abbrev TG:=V->St->Hp->(St->Hp->Prop)->Prop
noncomputable def PG (X:Cx) (target:Expr) (t:TG):Prop:=
 ∀ (pins:List (Addr × Obj)) (s:Shared) (σ:St) (H:Hp) (v:V) (u:Value) (Q:St->Hp->Prop),Inv X pins σ H s->Qb v u->t v σ H Q ->
  wpAny (model X.prog X.w) X.A (assign target X.env u) (fun _ s'=>∃ σ' H',Inv X pins σ' H' s'/\Q σ' H') X.xe s
section
variable {X:Cx} {pos:Pos}
noncomputable def Sj (i:Nat):TG:=fun v σ H Q=>Q (σ.set i (some v)) H
theorem Sb {i:Nat} {x:Str} (hN:X.N.Nodup) (hi:X.N[i]? = some x) (hx:Loc X.env.scope x) (hf:X.fn x=true\/X.env.scope.names.lookup x=some .local:=by first | exact .inl rfl | exact .inr rfl | assumption):PG X (.Name x pos) (Sj i):=by
 intro pins s σ H v u Q I r h;exact wpAny_assign_Name (jh I hN hi hx r (fun s' I'=>⟨_,H,I',h⟩) hf)
noncomputable def xn (te:TE) (g:TG):TS:=fun D σ H=>te σ H fun x H1=>g x σ H1 D.nx
theorem Gb {i:Nat} {x:Str} {e:Expr} {te:TE} {pos':Pos} (hN:X.N.Nodup) (hi:X.N[i]? = some x) (hx:Loc X.env.scope x) (he:PE X e te) (hs:swapsWith e (some (.Name x pos')) pos.line X.env=pure false:=by rfl) (hf:X.fn x=true\/X.env.scope.names.lookup x=some .local:=by first | exact .inl rfl | exact .inr rfl | assumption) :
  PS X (.Assign [.Name x pos'] e pos) (xn te (Sj i)):=by
 intro pins s σ H D I h;refine wpAny_Assign_Name (thn (he pins s σ H _ I h) fun v s1 hZ1=>?_) hs;obtain ⟨y,H1,I1,r1,q1⟩:=hZ1;exact jh I1 hN hi hx r1 (fun s2 I2=>⟨_,H1,I2,q1⟩) hf
end
section
variable {X:Cx} {pos:Pos}
end
structure It where
 go:Nat->Hp->Prop
 yld:Nat->Hp->V->Hp->Prop
 stop:Nat->Hp->Prop
noncomputable def Qg (X:Cx) (pins:List (Addr × Obj)) (H:Hp) (b:Addr):Prop:=
 H b=none/\b ≠ X.env.locals/\b ∉ X.fs/\(b ∈ X.ex\/X.s₀.heap.objs.size <= b)/\(∀ x c,X.env.cells.lookup x=some c->c ≠ b)/\∀ p ∈ X.pn ++ pins,p.1 ≠ b
theorem Inv.fpOk {X:Cx} {pins:List (Addr × Obj)} {σ:St} {H H':Hp} {s:Shared} {b:Addr} (I:Inv X pins σ H s) (hb:s.heap.objs.size <= b) (hn:H' b=none):Qg X pins H' b:=by
 refine ⟨hn,Nat.ne_of_gt (Nat.lt_of_lt_of_le I.lt hb),I.nofs hb,.inr (Nat.le_trans I.sz hb),fun x c e z=>?_,fun p hp z=>?_⟩
 ·obtain ⟨v,q⟩:=I.cell x c e;exact absurd (Nat.lt_of_lt_of_le q.lt (by rw [z];exact hb)) (Nat.lt_irrefl _)
 ·exact absurd (Nat.lt_of_lt_of_le (Heap.lt_size (I.pin p hp).1) (by rw [z];exact hb)) (Nat.lt_irrefl _)
structure lm (P:Program) (w:World) (K:W.Frag) (tg:Expr) (J:It) (fp:List Addr) (it:Addr) (tn:Nat->Heap->Prop):Prop where
 mem:it ∈ fp
 obj:∀ i h,tn i h->∀ b ∈ fp,∃ o,h.get? b=some o/\∀ v,o.data ≠ .cell v
 keep:∀ i h h',tn i h->(∀ b ∈ fp,∀ o,h.get? b=some o->h'.get? b=some o)->tn i h'
 item:∀ (X:Cx),X.prog=P->X.w=w->X.K=K->X.calm=true->∀ (i:Nat) (pins:List (Addr × Obj)) (s:Shared) (σ:St) (H:Hp) (E:Value->Shared->Prop),Inv X pins σ H s->(∀ b ∈ fp,Qg X pins H b)->tn i s.heap->J.go i H ->
  wpAny (model P w) X.A (pyNext (.ref it)) (fun r s1=>∃ u,r=some u /\
   wpAny (model P w) X.A (letOwnedTupleGo tg (.ref it) u) (fun _ s2=>∃ x H',Inv X pins σ H' s2/\Qb x u/\J.yld i H x H'/\tn (i + 1) s2.heap/\∀ b ∈ fp,H' b=none) E s1) E s
 done:∀ (X:Cx),X.prog=P->X.w=w->X.K=K->X.calm=true->∀ (i:Nat) (pins:List (Addr × Obj)) (s:Shared) (σ:St) (H:Hp) (E:Value->Shared->Prop),Inv X pins σ H s->(∀ b ∈ fp,Qg X pins H b)->tn i s.heap->J.stop i H ->
  wpAny (model P w) X.A (pyNext (.ref it)) (fun r s1=>r=none/\Inv X pins σ H s1) E s
 self:∀ (A:Around) (i:Nat) (s:Shared) (Q:Value->Shared->Prop) (E:Value->Shared->Prop),tn i s.heap->Q (.ref it) s->wpAny (model P w) A (pyIter (.ref it)) Q E s
noncomputable abbrev TI:=St->Hp->(It->Hp->Prop)->Prop
noncomputable def PIE (X:Cx) (pins:List (Addr × Obj)) (σ:St) (tg:Expr) (R:It->Hp->Prop) (itv:Value) (s2:Shared):Prop:=
 ∃ (it:Addr) (fp:List Addr) (tn:Nat->Heap->Prop) (J:It) (H':Hp),itv=.ref it/\Inv X pins σ H' s2/\lm X.prog X.w X.K tg J fp it tn/\tn 0 s2.heap/\(∀ b ∈ fp,Qg X pins H' b)/\R J H'
noncomputable def PI (X:Cx) (tg iter:Expr) (wi:TI):Prop:=
 ∀ (pins:List (Addr × Obj)) (s:Shared) (σ:St) (H:Hp) (R:It->Hp->Prop),Inv X pins σ H s->wi σ H R ->
  wpAny (model X.prog X.w) X.A (eval iter X.env) (fun v s1=>wpAny (model X.prog X.w) X.A (pyIter v) (PIE X pins σ tg R) X.xe s1) X.xe s
theorem Ek {M:Model} {A:Around} {E:Value->Shared->Prop} {s:Shared} {tg:Expr} {it:Addr} {u:Value} {o:Obj} {n:String} {vs:Array Value} {Q:Unit->Shared->Prop} (ho:s.heap.get? it=some o) (hc:o.cls=.type n) (hd:o.data=.fields vs)
    (hn:["enumerate","zip","dict_itemiterator","dict_reverseitemiterator","odict_iterator","itertools.zip_longest","itertools.pairwise"].contains n=false) (hQ:Q () s):wpAny M A (letOwnedTupleGo tg (.ref it) u) Q E s:=by
  unfold letOwnedTupleGo;cases tg <;> first
    | exact wpAny_pure hQ
    | (cases u <;> first
        | exact wpAny_pure hQ
        | (refine wpAny_bind (wpAny_load ho ?_)
           rw [hc,hd];show wpAny M A (if (["enumerate","zip","dict_itemiterator","dict_reverseitemiterator","odict_iterator","itertools.zip_longest","itertools.pairwise"].contains n && vs[0]? == some (rawInt _))=true then _ else _) Q E s;rw [if_neg (by intro h;rw [hn,Bool.false_and] at h;cases h)];exact wpAny_pure hQ))
noncomputable def Itl (K:W.Frag) (a:Addr):It:=
 ⟨fun i H=>∃ xs x,SqL K H a xs/\xs[i]? = some x,fun i H x H'=>H'=H/\∀ xs,SqL K H a xs->xs[i]? = some x,fun i H=>∃ xs,SqL K H a xs/\xs.length <= i⟩
noncomputable def Itr (lo:Int) (n:Nat):It:=⟨fun i _=>i < n,fun i H x H'=>H'=H/\x=.int (lo + i),fun i _=>n <= i⟩
theorem Wi {P:Program} {w:World} {K:W.Frag} {tg:Expr} (a it:Addr):lm P w K tg (Itl K a) [it] it (fun i h=>h.IsListIter it a i) where
 mem:=by simp
 obj:=fun i h st b hb=>by
  have e:b=it:=by simpa using hb
  subst e;obtain ⟨o,e,c,d⟩:=st;exact ⟨o,e,fun v z=>by rw [d] at z;cases z⟩
 keep:=fun i h h' st k=>st.at fun o e=>k it (by simp) o e
 item:=by
  intro X hP hw hK hc i pins s σ H E I hf st hg;subst hP hw hK;obtain ⟨xs,x,hq,hx⟩:=hg;obtain ⟨its,rv,p,hz⟩:=I.list hq;obtain ⟨u,hu,ru⟩:=rv.get hx;obtain ⟨f0,f1,f2,f3,f4,f5⟩:=hf it (by simp);refine wpAny_pyNext_list_item st p.isList (x:=u) (by simpa using hu) fun h' st' sb=>?_
  have I1:Inv X pins σ H { s with heap:=h' }:=I.turned (t':=s.toks) (fun b o hb e=>(sb.2 b hb).trans e) f0 f1 f3 f4 f5;obtain ⟨o,e,c,d⟩:=id st';exact ⟨u,rfl,Ek (s:={ s with heap:=h' }) e c d (by decide) ⟨x,H,I1,ru,⟨rfl,fun ys hy=>by rw [I.list_inj hy hq];exact hx⟩,st',fun b hb=>(hf b hb).1⟩⟩
 done:=by
  intro X hP hw hK hc i pins s σ H E I hf st hg;subst hP hw hK;obtain ⟨xs,hq,hx⟩:=hg;obtain ⟨its,rv,p,hz⟩:=I.list hq;obtain ⟨f0,f1,f2,f3,f4,f5⟩:=hf it (by simp);have hl:=rv.length;exact wpAny_pyNext_list_end (I.ok.hd hc) st p.isList (by simp;omega) fun h' eb=>⟨rfl,I.turned (t':=s.toks) (fun b o hb e=>eb b o hb e) f0 f1 f3 f4 f5⟩
 self:=fun _ _ _ _ _ st h=>wpAny_pyIter_listiter st h
theorem rh {P:Program} {w:World} {K:W.Frag} {tg:Expr} (it:Addr) (lo:Int) (n:Nat):lm P w K tg (Itr lo n) [it] it (fun i h=>IsRangeIter h it (lo + (i:Nat) * 1) ((n:Int) - (i:Nat)) 1) where
 mem:=by simp
 obj:=fun i h st b hb=>by
  have e:b=it:=by simpa using hb
  subst e;exact ⟨_,st,fun v z=>by
   have z':Data.fields _=Data.cell v:=z;cases z'⟩
 keep:=fun i h h' st k=>k it (by simp) _ st
 item:=by
  intro X hP hw hK hc i pins s σ H E I hf st hg;subst hP hw hK;obtain ⟨f0,f1,f2,f3,f4,f5⟩:=hf it (by simp);have W:=Walks.range (prog:=X.prog) (w:=X.w) (I.ok.hd hc) it lo 1 n;refine W.item i s _ _ hg st fun v h' tk hv st' kk=>?_
  obtain ⟨t,rfl⟩:=hv;have I1:Inv X pins σ H { s with heap:=h',toks:=tk }:=I.turned (fun b o hb e=>kk b o (by simpa using hb) e) f0 f1 f3 f4 f5;refine ⟨_,rfl,Ek (s:={ s with heap:=h',toks:=tk }) (n := "range_iterator") st' rfl rfl (by decide) ⟨.int (lo + i),H,I1,⟨t,?_⟩,⟨rfl,rfl⟩,st',fun b hb=>(hf b hb).1⟩⟩;rw [Int.mul_one]
 done:=by
  intro X hP hw hK hc i pins s σ H E I hf st hg;subst hP hw hK;obtain ⟨f0,f1,f2,f3,f4,f5⟩:=hf it (by simp);exact wpAny_pyNext_range_end (I.ok.hd hc) st (by have:n <= i:=hg;omega) fun h' eb=>⟨rfl,I.turned (t':=s.toks) (fun b o hb e=>eb b o hb e) f0 f1 f3 f4 f5⟩
 self:=fun _ _ _ _ _ st h=>wpAny_pyIter_rangeiter st h
end L2
namespace L2
open PySem PySem.Spec PyProof.Rows
section
variable {X:Cx} {tg:Expr}
noncomputable def Cm (K:W.Frag) (tl:TE):TI:=fun σ H R=>tl σ H fun x H1=>∃ a,x=.ref a/\(∃ xs,SqL K H1 a xs)/\R (Itl K a) H1
theorem Tc {l:Expr} {tl:TE} (hl:PE X l tl):PI X tg l (Cm X.K tl):=by
 intro pins s σ H R I h;refine thn (hl pins s σ H _ I h) fun v s1 hZ1=>?_
 obtain ⟨x,H1,I1,r1,q1⟩:=hZ1;obtain ⟨a,e,⟨xs,hq⟩,q⟩:=q1;subst e;cases r1;obtain ⟨its,rv,p,hz⟩:=I1.list hq;refine wpAny_pyIter_list p.isList ?_;refine ⟨s1.heap.objs.size,[s1.heap.objs.size],_,_,H1,rfl,I1.kept (t':=s1.toks) fun b o e=>Heap.get?_push_of_some _ e,Wi a _,⟨_,Heap.get?_push_size _ rfl,rfl,rfl⟩,fun b hb=>?_,q⟩;have e:b=s1.heap.objs.size:=by simpa using hb
 subst e;exact I1.fpOk (Nat.le_refl _) (I1.hok.fresh (Nat.le_refl _))
theorem Rg {pins:List (Addr × Obj)} {σ:St} {H:Hp} {s:Shared} {R:It->Hp->Prop} {E:Value->Shared->Prop} {lo hi:Int} {t u v:Tok} {tk:Nat} (I:Inv X pins σ H s) (h1:-(2 ^ 62) <= lo) (h2:lo < 2 ^ 62) (h3:-(2 ^ 62) <= hi) (h4:hi < 2 ^ 62)
  (q:R (Itr lo (hi - lo).toNat) H):wpAny (model X.prog X.w) X.A (pyIter (.ref s.heap.objs.size)) (PIE X pins σ tg R) E { s with heap:=s.heap.push { cls:=.type "range",data:=.fields #[.int lo t,.int hi u,.int 1 v] },toks:=tk }:=by
 refine wpAny_pyIter_range (IsRange.new ..) (small_one h1 h2 h3 h4) ?_;have I1:Inv X pins σ H { s with heap:=s.heap.push { cls:=.type "range",data:=.fields #[.int lo t,.int hi u,.int 1 v] },toks:=tk }:=I.kept fun b o e=>Heap.get?_push_of_some _ e
 refine ⟨(s.heap.push { cls:=.type "range",data:=.fields #[.int lo t,.int hi u,.int 1 v] }).objs.size,[(s.heap.push { cls:=.type "range",data:=.fields #[.int lo t,.int hi u,.int 1 v] }).objs.size],_,_,H,rfl,
  I1.kept (t':=tk) fun b o e=>Heap.get?_push_of_some _ e,rh _ lo (hi - lo).toNat,?_,fun b hb=>?_,q⟩
 ·have e1:lo + ((0:Nat):Int) * 1=lo:=by simp
  have e2:(((hi - lo).toNat:Nat):Int) - ((0:Nat):Int)=Builtin.Range.rangeSize lo hi 1:=by rw [rangeSize_one];split <;> omega
  show IsRangeIter _ _ (lo + ((0:Nat):Int) * 1) ((((hi - lo).toNat:Nat):Int) - ((0:Nat):Int)) 1;rw [e1,e2];exact Heap.get?_push_size _ rfl
 ·have e:b=(s.heap.push { cls:=.type "range",data:=.fields #[.int lo t,.int hi u,.int 1 v] }).objs.size:=by simpa using hb
  subst e;exact I1.fpOk (Nat.le_refl _) (I1.hok.fresh (Nat.le_refl _))
noncomputable def om (ta:TA):TI:=fun σ H R=>ta σ H fun vs H1=>∃ j:Int,vs=[.int j]/\-(2 ^ 62) <= j/\j < 2 ^ 62/\R (Itr 0 j.toNat) H1
noncomputable def Im (ta:TA):TI:=fun σ H R=>ta σ H fun vs H1=>∃ i j:Int,vs=[.int i,.int j]/\(-(2 ^ 62) <= i/\i < 2 ^ 62/\-(2 ^ 62) <= j/\j < 2 ^ 62)/\R (Itr i (j - i).toNat) H1
theorem Ac {a:Expr} {ta:TA} {p pos:Pos} (hg:Gl X "range") (hm:X.mg "range"=none) (ha:PA X [a] ta) (hs:starEach [a] X.env=[(false,eval a X.env)]:=by rfl):PI X tg (.Call (.Name "range" p) [a] [] pos) (om ta):=by
 intro pins s σ H R I h;refine Call_ (Af I hg hm boot_range (PyProof.Rows.callWith_type1 (thn (ha pos pins s σ H _ I h) fun us s1 hZ1=>?_) hs rfl));obtain ⟨vs,H1,I1,r1,q1⟩:=hZ1;obtain ⟨j,e,q1,q2,q⟩:=q1;subst e;cases r1 with
 | cons r rr=>
  cases rr;obtain ⟨t,rfl⟩:=r;exact call_range_1 (Rg I1 (by omega) (by omega) q1 q2 (by simpa using q))
theorem xi {a b:Expr} {ta:TA} {p pos:Pos} (hg:Gl X "range") (hm:X.mg "range"=none) (ha:PA X [a,b] ta) (hs:starEach [a,b] X.env=[(false,eval a X.env),(false,eval b X.env)]:=by rfl) (hs2:starEach [b] X.env=[(false,eval b X.env)]:=by rfl) :
  PI X tg (.Call (.Name "range" p) [a,b] [] pos) (Im ta):=by
 intro pins s σ H R I h;refine Call_ (Af I hg hm boot_range (PyProof.Rows.callWith_type1 (thn (ha pos pins s σ H _ I h) fun us s1 hZ1=>?_) (by rw [hs,hs2]) (by rw [hs2];rfl)));obtain ⟨vs,H1,I1,r1,q1⟩:=hZ1;obtain ⟨i,j,e,⟨q1,q2,q3,q4⟩,q⟩:=q1;subst e;cases r1 with
 | cons r rr=>
  cases rr with
  | cons r' rr=>
   cases rr;obtain ⟨t,rfl⟩:=r;obtain ⟨t',rfl⟩:=r';exact call_range_2 (Rg I1 q1 q2 q3 q4 q)
noncomputable def Ln (wi:TI) (g:TG) (tb:TS):TS:=fun D σ H=>wi σ H fun J H1=>∃ W:Nat->Nat->St->Hp->Prop,(∃ m,W 0 m σ H1)/\∀ i m σ H,W i m σ H ->
 (J.stop i H/\D.nx σ H)\/(J.go i H/\∃ N:St->Hp->Prop,(∀ σ' H',N σ' H'->∃ m',m' < m/\W (i + 1) m' σ' H')/\∀ x H',J.yld i H x H'->g x σ H' fun σ2 H2=>tb { D with nx:=N,ct:=N,bk:=D.nx } σ2 H2)
noncomputable def Sf (fp:List Addr) (h:Heap):List (Addr × Obj):=fp.filterMap fun b=>(h.get? b).map fun o=>(b,o)
theorem jd {fp:List Addr} {h:Heap} {b:Addr} {o:Obj} (hb:b ∈ fp) (e:h.get? b=some o):(b,o) ∈ Sf fp h:=List.mem_filterMap.mpr ⟨b,hb,by rw [e];rfl⟩
theorem Qh {fp:List Addr} {h:Heap} {p:Addr × Obj} (hp:p ∈ Sf fp h):p.1 ∈ fp/\h.get? p.1=some p.2:=by
 obtain ⟨b,hb,e⟩:=List.mem_filterMap.mp hp;cases q:h.get? b with
 | none=>rw [q] at e;cases e
 | some o=>
  rw [q] at e;have e':(b,o)=p:=Option.some.inj e;subst e';exact ⟨hb,q⟩
theorem Inv.pinned {pins:List (Addr × Obj)} {σ:St} {H:Hp} {s:Shared} {fp:List Addr} (I:Inv X pins σ H s) (hf:∀ b ∈ fp,Qg X pins H b) (ho:∀ b ∈ fp,∃ o,s.heap.get? b=some o/\∀ v,o.data ≠ .cell v):Inv X (pins ++ Sf fp s.heap) σ H s:=
 I.pins_of fun p hp=>(List.mem_append.mp hp).elim (fun z=>I.pin p (mem_append_right _ z)) fun z=>by
  obtain ⟨hb,e⟩:=Qh z;obtain ⟨f0,f1,f2,_⟩:=hf p.1 hb;obtain ⟨o,e',d⟩:=ho p.1 hb;rw [e] at e';cases e';exact ⟨e,f0,f1,f2,d⟩
theorem Inv.unpinned {pins pl:List (Addr × Obj)} {σ:St} {H:Hp} {s:Shared} (I:Inv X (pins ++ pl) σ H s):Inv X pins σ H s:=I.pins_of fun p hp=>I.pin p (mem_append_right _ (List.mem_append_left _ hp))
theorem ae {iter:Expr} {body:List Stmt} {wi:TI} {g:TG} {tb:TS} {pos:Pos} (hp:PassesOwn (model X.prog X.w) X.A X.env X.xe) (hc:X.calm=true) (hi:PI X tg iter wi) (hg:PG X tg g) (hb:PSs X body tb)
  (hs:∀ x,foldedSetIterable iter X.env x=pure x:=by intro _;rfl):PS X (.For tg iter body [] pos) (Ln wi g tb):=by
 intro pins s σ H D I h;refine wpAny_For (thn (hi pins s σ H _ I h) fun v s1 h1=>thn h1 fun itv s2 h2=>?_) hs;obtain ⟨it,fp,tn,J,H2,e,I2,T,st2,f2,W,⟨m0,w0⟩,turn⟩:=h2;subst e;have stat:∀ {H':Hp},(∀ b ∈ fp,H' b=none)->∀ b ∈ fp,Qg X pins H' b:=fun hn b hb=>⟨hn b hb,(f2 b hb).2⟩
 refine codeAny_forLoop_any (fun n s'=>∃ i σ' H',Inv X pins σ' H' s'/\tn i s'.heap/\(∀ b ∈ fp,H' b=none)/\W i n σ' H') ?_ m0 ⟨0,σ,H2,I2,st2,fun b hb=>(f2 b hb).1,w0⟩;rintro n s3 ⟨i,σ3,H3,I3,st3,fr3,w3⟩;rcases turn i n σ3 H3 w3 with ⟨stop,qn⟩ | ⟨go,N,hN,step⟩
 ·refine wpAny_passesOwn hp (thn (T.done X rfl rfl rfl hc i pins s3 σ3 H3 X.xe I3 (stat fr3) st3 stop) fun r s4 hZ1=>?_);obtain ⟨hr,I4⟩:=hZ1;subst hr;exact wpAny_execs_nil ⟨σ3,H3,I4,qn⟩
 ·refine wpAny_passesOwn hp (thn (T.item X rfl rfl rfl hc i pins s3 σ3 H3 X.xe I3 (stat fr3) st3 go) fun r s4 hZ1=>?_);obtain ⟨u,hr,h4⟩:=hZ1;subst hr;refine wpAny_passesOwn hp (thn h4 fun _ s5 hZ1=>?_);obtain ⟨x,H5,I5,r5,y5,st5,fr5⟩:=hZ1;have I5':=I5.pinned (stat fr5) (T.obj _ _ st5);refine wpAny_passesOwn hp (thn (hg _ s5 σ3 H5 x u _ I5' r5 (step x H5 y5)) fun _ s6 hZ1=>?_);obtain ⟨σ6,H6,I6,q6⟩:=hZ1;refine wpAny_passesOwn hp (thn (hb _ s6 σ6 H6 _ I6 q6) fun f s7 q7=>?_);have again:∀ {σ7:St} {H7:Hp},Inv X (pins ++ Sf fp s5.heap) σ7 H7 s7->N σ7 H7->∃ m,m < n/\∃ i σ' H',Inv X pins σ' H' s7/\tn i s7.heap/\(∀ b ∈ fp,H' b=none)/\W i m σ' H':=fun {σ7 H7} I7 n7=>by
   obtain ⟨m',hm,w7⟩:=hN σ7 H7 n7;refine ⟨m',hm,i + 1,σ7,H7,I7.unpinned,T.keep _ _ _ st5 fun b hb o e=>(I7.pin (b,o) (mem_append_right _ (mem_append_right _ (jd hb e)))).1,fun b hb=>?_,w7⟩;obtain ⟨o,e,d⟩:=T.obj _ _ st5 b hb;exact (I7.pin (b,o) (mem_append_right _ (mem_append_right _ (jd hb e)))).2.1
  cases f with
  | next=>obtain ⟨σ7,H7,I7,n7⟩:=q7;exact again I7 n7
  | cont=>obtain ⟨σ7,H7,I7,n7⟩:=q7;exact again I7 n7
  | brk=>obtain ⟨σ7,H7,I7,q7⟩:=q7;exact ⟨σ7,H7,I7.unpinned,q7⟩
  | ret v=>obtain ⟨x7,σ7,H7,I7,r7,q7⟩:=q7;exact ⟨x7,σ7,H7,I7.unpinned,r7,q7⟩
end
theorem kj {K:W.Frag} {a:Addr} {xs:List V} {g:TG} {tb:TS} {D:Fd} {σ:St} {H:Hp} (Pv:Nat->St->Hp->Prop) (h0:Pv 0 σ H) (hl:∀ i σ H,i <= xs.length->Pv i σ H->SqL K H a xs)
  (hs:∀ i x σ H,xs[i]? = some x->Pv i σ H->g x σ H fun σ2 H2=>tb { D with nx:=Pv (i + 1),ct:=Pv (i + 1),bk:=D.nx } σ2 H2) (hd:∀ σ H,Pv xs.length σ H->D.nx σ H) :
  ∃ W:Nat->Nat->St->Hp->Prop,(∃ m,W 0 m σ H)/\∀ i m σ H,W i m σ H ->
   ((Itl K a).stop i H/\D.nx σ H)\/((Itl K a).go i H/\∃ N:St->Hp->Prop,(∀ σ' H',N σ' H'->∃ m',m' < m/\W (i + 1) m' σ' H')/\∀ x H',(Itl K a).yld i H x H'->g x σ H' fun σ2 H2=>tb { D with nx:=N,ct:=N,bk:=D.nx } σ2 H2):=by
 refine ⟨fun i m σ H=>m=xs.length - i/\i <= xs.length/\Pv i σ H,⟨xs.length,by simp,Nat.zero_le _,h0⟩,?_⟩;rintro i m σ H ⟨rfl,hi,p⟩;have q:=hl i σ H hi p;by_cases hlt:i < xs.length
 ·refine .inr ⟨⟨xs,xs[i],q,by simp [hlt]⟩,Pv (i + 1),fun σ' H' p'=>⟨xs.length - (i + 1),by omega,rfl,hlt,p'⟩,fun x H' y=>?_⟩;obtain ⟨e,y⟩:=y;subst e;exact hs i x σ _ (y xs q) p
 ·have e:i=xs.length:=by omega
  subst e;exact .inl ⟨⟨xs,q,Nat.le_refl _⟩,hd σ H p⟩
theorem bi {lo:Int} {n:Nat} {g:TG} {tb:TS} {D:Fd} {σ:St} {H:Hp} (Pv:Nat->St->Hp->Prop) (h0:Pv 0 σ H)
  (hs:∀ i σ H,i < n->Pv i σ H->g (.int (lo + i)) σ H fun σ2 H2=>tb { D with nx:=Pv (i + 1),ct:=Pv (i + 1),bk:=D.nx } σ2 H2) (hd:∀ σ H,Pv n σ H->D.nx σ H) :
  ∃ W:Nat->Nat->St->Hp->Prop,(∃ m,W 0 m σ H)/\∀ i m σ H,W i m σ H ->
   ((Itr lo n).stop i H/\D.nx σ H)\/((Itr lo n).go i H/\∃ N:St->Hp->Prop,(∀ σ' H',N σ' H'->∃ m',m' < m/\W (i + 1) m' σ' H')/\∀ x H',(Itr lo n).yld i H x H'->g x σ H' fun σ2 H2=>tb { D with nx:=N,ct:=N,bk:=D.nx } σ2 H2):=by
 refine ⟨fun i m σ H=>m=n - i/\i <= n/\Pv i σ H,⟨n,by simp,Nat.zero_le _,h0⟩,?_⟩;rintro i m σ H ⟨rfl,hi,p⟩;by_cases hlt:i < n
 ·refine .inr ⟨hlt,Pv (i + 1),fun σ' H' p'=>⟨n - (i + 1),by omega,rfl,hlt,p'⟩,fun x H' y=>?_⟩;obtain ⟨e,y⟩:=y;subst e y;exact hs i σ _ hlt p
 ·have e:i=n:=by omega
  subst e;exact .inl ⟨Nat.le_refl _,hd σ H p⟩
end L2
namespace L2
open PySem PySem.Spec PyProof.Rows
noncomputable abbrev R2:=V->V->Hp->VK->Prop
noncomputable def OpR (X:Cx) (f:Value->Value->Sem Value) (r:R2):Prop:=
 ∀ (pins:List (Addr × Obj)) (s:Shared) (σ:St) (H:Hp) (x y:V) (v u:Value) (Q:VK),Inv X pins σ H s->Qb x v->Qb y u->r x y H Q ->
  wpAny (model X.prog X.w) X.A (f v u) (EP X pins σ Q) X.xe s
noncomputable def Bf (X:Cx) (f:Value) (r:List V->Hp->VK->Prop):Prop:=
 ∀ (pins:List (Addr × Obj)) (s:Shared) (σ:St) (H:Hp) (xs:List V) (us:List Value) (Q:VK),Inv X pins σ H s->Pb xs us->r xs H Q ->
  wpAny (model X.prog X.w) X.A (call f us) (EP X pins σ Q) X.xe s
noncomputable def Bo (X:Cx) (r:V->Hp->(Bool->Hp->Prop)->Prop):Prop:=
 ∀ (pins:List (Addr × Obj)) (s:Shared) (σ:St) (H:Hp) (x:V) (v:Value) (Q:Bool->Hp->Prop),Inv X pins σ H s->Qb x v->r x H Q ->
  wpAny (model X.prog X.w) X.A (truthy v) (TP X pins σ Q) X.xe s
noncomputable def tOp (r:R2) (ta tb:TE):TE:=fun σ H Q=>ta σ H fun x H1=>tb σ H1 fun y H2=>r x y H2 Q
noncomputable def rI (C:Int->Int->Prop) (g:Int->Int->V):R2:=fun x y H Q=>∃ i j,x=.int i/\y=.int j/\C i j/\Q (g i j) H
noncomputable def rI0 (g:Int->Int->V):R2:=fun x y H Q=>∃ i j,x=.int i/\y=.int j/\Q (g i j) H
section
variable {X:Cx} {a b c:Expr} {ta tb tc:TE} {pos:Pos}
theorem bn (ha:PE X a ta) (hb:PE X b tb) {pins:List (Addr × Obj)} {s:Shared} {σ:St} {H:Hp} {R:V->V->Hp->Prop} (I:Inv X pins σ H s)
  (h:ta σ H fun x H1=>tb σ H1 fun y H2=>R x y H2) {Q:Value->Shared->Prop} {f:Value->Value->Sem Value}
  (hf:∀ v u s2 x y H2,Inv X pins σ H2 s2->Qb x v->Qb y u->R x y H2->wpAny (model X.prog X.w) X.A (f v u) Q X.xe s2) :
  wpAny (model X.prog X.w) X.A (eval a X.env) (fun v s₁=>wpAny (model X.prog X.w) X.A (eval b X.env) (fun u s₂=>wpAny (model X.prog X.w) X.A (f v u) Q X.xe s₂) X.xe s₁) X.xe s:=by
 refine thn (ha pins s σ H _ I h) fun v s1 hZ1=>?_
 obtain ⟨x,H1,I1,r1,q1⟩:=hZ1;refine thn (hb pins s1 σ H1 _ I1 q1) fun u s2 hZ1=>?_
 obtain ⟨y,H2,I2,r2,q2⟩:=hZ1;exact hf v u s2 x y H2 I2 r1 r2 q2
theorem Jb {op:Operator} {r:R2} (ho:OpR X (binaryOp op) r) (ha:PE X a ta) (hb:PE X b tb):PE X (.BinOp a op b pos) (tOp r ta tb):=by
 intro pins s σ H Q I h;exact wpAny_BinOp (bn ha hb I h fun v u s2 x y H2 I2 rx ry q=>ho pins s2 σ H2 x y v u Q I2 rx ry q)
theorem opI {f:Value->Value->Sem Value} {C:Int->Int->Prop} {g:Int->Int->Int}
  (rule:∀ (i j:Int) (t u:Tok) (s:Shared) (Q:Value->Shared->Prop) (E:Value->Shared->Prop),C i j->Q (.int (g i j) s.toks) { s with toks:=s.toks + 1 }->wpAny (model X.prog X.w) X.A (f (.int i t) (.int j u)) Q E s) :
  OpR X f (rI C fun i j=>.int (g i j)):=by
 intro pins s σ H x y v u Q I rx ry h;obtain ⟨i,j,rfl,rfl,hc,q⟩:=h;obtain ⟨t,rfl⟩:=rx;obtain ⟨t',rfl⟩:=ry;exact rule i j t t' s _ _ hc ⟨.int (g i j),H,I.tok _,⟨_,rfl⟩,q⟩
theorem ro {f:Value->Value->Sem Value} {g:Int->Int->Int}
  (rule:∀ (i j:Int) (t u:Tok) (s:Shared) (Q:Value->Shared->Prop) (E:Value->Shared->Prop),Q (.int (g i j) s.toks) { s with toks:=s.toks + 1 }->wpAny (model X.prog X.w) X.A (f (.int i t) (.int j u)) Q E s) :
  OpR X f (rI0 fun i j=>.int (g i j)):=by
 intro pins s σ H x y v u Q I rx ry h;obtain ⟨i,j,rfl,rfl,q⟩:=h;obtain ⟨t,rfl⟩:=rx;obtain ⟨t',rfl⟩:=ry;exact rule i j t t' s _ _ ⟨.int (g i j),H,I.tok _,⟨_,rfl⟩,q⟩
theorem so {f:Value->Value->Sem Value} {g:Int->Int->Bool}
  (rule:∀ (i j:Int) (t u:Tok) (s:Shared) (Q:Value->Shared->Prop) (E:Value->Shared->Prop),Q (.bool (g i j)) s->wpAny (model X.prog X.w) X.A (f (.int i t) (.int j u)) Q E s) :
  OpR X f (rI0 fun i j=>.bl (g i j)):=by
 intro pins s σ H x y v u Q I rx ry h;obtain ⟨i,j,rfl,rfl,q⟩:=h;obtain ⟨t,rfl⟩:=rx;obtain ⟨t',rfl⟩:=ry;exact rule i j t t' s _ _ ⟨.bl (g i j),H,I,rfl,q⟩
noncomputable def zo (i j:Int):Prop:=0 < j/\j < 1073741824
noncomputable def xo (i j:Int):Prop:=0 <= j/\j <= 1000000/\i.natAbs < 2 ^ 64
noncomputable def Fk (i j:Int):Prop:=(-(2 ^ 64) < i/\i < 2 ^ 64)\/(-(2 ^ 64) < j/\j < 2 ^ 64)
theorem Fk.ok {i j:Int} (h:Fk i j):IntMulOk i j:=by
 rcases h with ⟨h1,h2⟩ | ⟨h1,h2⟩
 ·exact .of_left (intBits_le_64 h1 h2)
 ·exact .of_right (intBits_le_64 h1 h2)
theorem vc:OpR X (binaryOp .Add) (rI0 fun i j=>.int (i + j)):=ro fun _ _ _ _ _ _ _ q=>add_int q
theorem Me:OpR X (binaryOp .Mult) (rI Fk fun i j=>.int (i * j)):=opI fun _ _ _ _ _ _ _ hc q=>mul_int q hc.ok
theorem Ll:OpR X (binaryOp .FloorDiv) (rI zo fun i j=>.int (i / j)):=opI fun i j _ _ _ _ _ hc q=>by
 have h1:(0:Int) < j:=hc.1;have h2:j < 1073741824:=hc.2;exact floordiv_int (by omega) (by rw [Int.fdiv_eq_ediv_of_nonneg i (by omega)];exact q) (.inl (PyProof.noPylong_small (by omega)))
theorem ud:OpR X (binaryOp .Mod) (rI (fun _ j=>0 < j) fun i j=>.int (i % j)):=opI fun i j _ _ _ _ _ hc q=>by
 have h1:(0:Int) < j:=hc;exact mod_int' (by omega) (by rw [Int.fmod_eq_emod_of_nonneg i (by omega)];exact q)
theorem Sm:OpR X (binaryOp .Pow) (rI xo fun i j=>.int (i ^ j.toNat)):=opI fun _ _ _ _ _ _ _ hc q=>pow_int_small hc.1 hc.2.1 hc.2.2 q
end
noncomputable def Kn:V->V->Bool
 | .non,.non=>true | .non,.int _=>true | .int _,.non=>true | .non,.bl _=>true | .bl _,.non=>true | .non,.str _=>true | .str _,.non=>true
 | .int _,.int _=>true | .bl _,.bl _=>true | .str _,.str _=>true | .byt _,.byt _=>true
 | .int _,.str _=>true | .str _,.int _=>true | .bl _,.str _=>true | .str _,.bl _=>true
 | _,_=>false
noncomputable def rEq:R2:=fun x y H Q=>Kn x y=true/\Q (.bl (decide (x=y))) H
theorem ul {i j:Int}:decide (V.int i=V.int j)=(i == j):=by
 rw [Bool.eq_iff_iff];simp
theorem vm {i j:Bool}:decide (V.bl i=V.bl j)=(i == j):=by
 rw [Bool.eq_iff_iff];simp
theorem Cl {i j:Str}:decide (V.str i=V.str j)=(i == j):=by
 rw [Bool.eq_iff_iff];simp
theorem Rk {i j:Array UInt8}:decide (V.byt i=V.byt j)=(i.toList == j.toList):=by
 rw [Bool.eq_iff_iff];cases i;cases j;simp
section
variable {X:Cx} {a b c:Expr} {ta tb tc:TE} {pos:Pos}
theorem qc {pins:List (Addr × Obj)} {σ:St} {H:Hp} {s:Shared} {Q:VK} {k k':Bool} (I:Inv X pins σ H s) (q:Q (.bl k) H) (e:k=k'):EP X pins σ Q (.bool k') s:=by
 subst e;exact ⟨.bl k,H,I,rfl,q⟩
theorem oh:OpR X (compareOp .Eq) rEq:=by
 intro pins s σ H x y v u Q I rx ry h;obtain ⟨hs,q⟩:=h;cases x with
 | non=>
  cases rx;cases y with
  | non=>cases ry;exact PySem.EqNone.eq_none_none (qc I q (by simp))
  | bl j=>cases ry;exact PySem.EqNone.eq_none_bool (qc I q (by simp))
  | int j=>obtain ⟨t',rfl⟩:=ry;exact PySem.EqNone.eq_none_int (qc I q (by simp))
  | str j=>obtain ⟨t',rfl⟩:=ry;exact PySem.EqNone.eq_none_str (qc I q (by simp))
  | _=>exact absurd (show false=true from hs) Bool.false_ne_true
 | bl i=>
  cases rx;cases y with
  | non=>cases ry;exact PySem.EqNone.eq_bool_none (qc I q (by simp))
  | bl j=>cases ry;exact eq_bool (qc I q vm)
  | str j=>obtain ⟨t',rfl⟩:=ry;exact PySem.EqMixed.eq_bool_str (qc I q (by simp))
  | _=>exact absurd (show false=true from hs) Bool.false_ne_true
 | int i=>
  obtain ⟨t,rfl⟩:=rx;cases y with
  | non=>cases ry;exact PySem.EqNone.eq_int_none (qc I q (by simp))
  | int j=>obtain ⟨t',rfl⟩:=ry;exact eq_int (qc I q ul)
  | str j=>obtain ⟨t',rfl⟩:=ry;exact PySem.EqMixed.eq_int_str (qc I q (by simp))
  | _=>exact absurd (show false=true from hs) Bool.false_ne_true
 | str i=>
  obtain ⟨t,rfl⟩:=rx;cases y with
  | non=>cases ry;exact PySem.EqNone.eq_str_none (qc I q (by simp))
  | bl j=>cases ry;exact PySem.EqMixed.eq_str_bool (qc I q (by simp))
  | int j=>obtain ⟨t',rfl⟩:=ry;exact PySem.EqMixed.eq_str_int (qc I q (by simp))
  | str j=>obtain ⟨t',rfl⟩:=ry;exact eq_str (qc I q Cl)
  | _=>exact absurd (show false=true from hs) Bool.false_ne_true
 | byt i=>
  obtain ⟨t,rfl⟩:=rx;cases y with
  | byt j=>obtain ⟨t',rfl⟩:=ry;exact PySem.W.eq_bytes (qc I q Rk)
  | _=>exact absurd (show false=true from hs) Bool.false_ne_true
 | _=>cases y <;> exact absurd (show false=true from hs) Bool.false_ne_true
theorem Yk:OpR X (compareOp .Gt) (rI0 fun i j=>.bl (decide (j < i))):=so fun _ _ _ _ _ _ _ q=>gt_int q
theorem ic (b:Expr) {op:CmpOp} (h:op ≠ .In:=by decide) (h2:op ≠ .NotIn:=by decide):behindInMarks op b=false:=by
 have e1:(op == CmpOp.In)=false:=by cases op <;> first | rfl | exact absurd rfl h
 have e2:(op == CmpOp.NotIn)=false:=by cases op <;> first | rfl | exact absurd rfl h2
 cases b <;> simp [behindInMarks,e1,e2]
theorem ki {op:CmpOp} {r:R2} (ho:OpR X (compareOp op) r) (ha:PE X a ta) (hb:PE X b tb) (hm:behindInMarks op b=false):PE X (.Compare a [op] [b] pos) (tOp r ta tb):=by
 intro pins s σ H Q I h;exact wpAny_Compare1 (bn ha hb I h fun v u s2 x y H2 I2 rx ry q=>ho pins s2 σ H2 x y v u Q I2 rx ry q) hm
noncomputable def Tm (t:TE):TT:=fun σ H Q=>t σ H fun x H'=>∃ k,x=.bl k/\Q k H'
theorem Zb {op:CmpOp} {r:R2} (ho:OpR X (compareOp op) r) (ha:PE X a ta) (hb:PE X b tb) (hm:behindInMarks op b=false):PT X (.Compare a [op] [b] pos) (Tm (tOp r ta tb)):=by
 intro pins s σ H Q I h;refine wpAny_isTrue_Compare1 (thn (ha pins s σ H _ I h) fun v s1 ⟨x,H1,I1,r1,q1⟩=>thn (hb pins s1 σ H1 _ I1 q1) fun u s2 ⟨y,H2,I2,r2,q2⟩=>
  thn (ho pins s2 σ H2 x y v u _ I2 r1 r2 q2) fun c s3 ⟨z,H3,I3,r3,k,e,q3⟩=>?_) hm
 subst e;cases r3;exact wpAny_truthy_bool ⟨H3,I3,q3⟩
noncomputable def io (K:W.Frag) (x:V) (H:Hp) (k:Bool):Prop:=
 match x with
 | .non=>k=false
 | .bl b=>k=b
 | .int i=>k=(i != 0)
 | .str y=>y.length <= sizeLine/\k=((y.length:Int) != 0)
 | .byt y=>y.size <= sizeLine/\k=((y.size:Int) != 0)
 | .ref p=>(∃ xs,SqL K H p xs/\k = !xs.isEmpty)\/(∃ xs,SqT K H p xs/\k = !xs.isEmpty)\/∃ kvs,H p=some (.dK kvs)/\k = !kvs.isEmpty
 | _=>False
theorem nh {κ:Type} {kvs:List (κ × V)} {vs:List (κ × Value)} (r:KV kvs vs):(!vs.isEmpty) = !kvs.isEmpty:=by
 cases r <;> rfl
theorem Oe {xs:List V} {its:List Value} (r:Pb xs its):(!its.toArray.isEmpty) = !xs.isEmpty:=by
 cases r <;> simp
theorem Tf:(sizeLine:Nat) < 2 ^ 63:=by rw [sizeLine_eq];decide
theorem Zl:Bo X (fun x H Q=>∃ k,io X.K x H k/\Q k H):=by
 intro pins s σ H x v Q I rx h;obtain ⟨k,e,q⟩:=h;have hl:=Tf;have hs:sizeLine=16777216:=sizeLine_eq;cases x with
 | non=>
  cases rx;have e':k=false:=e;subst e';exact truthy_none ⟨H,I,q⟩
 | bl b=>
  cases rx;have e':k=b:=e;subst e';exact wpAny_truthy_bool ⟨H,I,q⟩
 | int i=>
  obtain ⟨t,rfl⟩:=rx;have e':k=(i != 0):=e;subst e';exact PySem.P.truthy_int ⟨H,I,q⟩
 | str y=>
  obtain ⟨t,rfl⟩:=rx;obtain ⟨hy,e'⟩:y.length <= sizeLine/\k=((y.length:Int) != 0):=e;subst e';exact PySem.P.truthy_str (by omega) ⟨H,I.tok _,q⟩
 | byt y=>
  obtain ⟨t,rfl⟩:=rx;obtain ⟨hy,e'⟩:y.size <= sizeLine/\k=((y.size:Int) != 0):=e;subst e';exact PySem.W.truthy_bytes (by omega) ⟨H,I.tok _,q⟩
 | ref p=>
  cases rx;have e':(∃ xs,SqL X.K H p xs/\k = !xs.isEmpty)\/(∃ xs,SqT X.K H p xs/\k = !xs.isEmpty)\/∃ kvs,H p=some (.dK kvs)/\k = !kvs.isEmpty:=e;rcases e' with ⟨xs,hx,e'⟩ | ⟨xs,hx,e'⟩ | ⟨kvs,hx,e'⟩
  ·subst e';obtain ⟨its,r,pl,hz⟩:=I.list hx;have hlen:=r.length;exact wpAny_truthy_list pl.isList (by simp only [size_toArray];omega) ⟨H,I.tok _,by rw [Oe r];exact q⟩
  ·subst e';obtain ⟨its,r,pl,hz⟩:=I.tuple hx;have hlen:=r.length;exact truthy_tuple pl (by simp only [size_toArray];omega) ⟨H,I.tok _,by rw [Oe r];exact q⟩
  ·subst e';obtain ⟨hz,hS,vs,r,m⟩:kvs.length <= sizeLine/\(p == sysModules)=false/\∃ vs,KV kvs vs/\s.heap.DictOf (Mb X.prog X.w) p vs:=I.hok p _ hx;have hlen:kvs.length=vs.length:=Paired.length r;exact wpAny_truthy_dict hS m (by omega) ⟨H,I.tok _,by rw [nh r];exact q⟩
 | _=>exact (show False from e).elim
theorem Mj (ha:PE X a ta) (he:∀ whole,isTrue a X.env whole=(do let v <- whole;standAt a.pos;holding [v] (truthy v))) :
  PT X a (fun σ H Q=>ta σ H fun x H'=>∃ k,io X.K x H' k/\Q k H'):=by
 intro pins s σ H Q I h;exact isTrue_plain (thn (ha pins s σ H _ I h) fun v s1 ⟨x,H1,I1,r1,q1⟩=>Zl pins s1 σ H1 x v Q I1 r1 q1) (he _)
theorem Wb:OpR X (binaryOp .Add) (fun x y H Q=>∃ i j,x=.str i/\y=.str j/\i.length + j.length <= sizeLine/\Q (.str (i ++ j)) H):=by
 intro pins s σ H x y v u Q I rx ry h;obtain ⟨i,j,rfl,rfl,hz,q⟩:=h;obtain ⟨t,rfl⟩:=rx;obtain ⟨t',rfl⟩:=ry;exact add_str (fun t' tk=>⟨.str (i ++ j),H,I.tok _,⟨_,rfl⟩,q⟩) hz
theorem Wf {x:V} {us:List Value} (r:Pb [x] us):∃ u,us=[u]/\Qb x u:=by
 cases r with
 | cons r1 r2=>cases r2;exact ⟨_,rfl,r1⟩
theorem An {x y:V} {us:List Value} (r:Pb [x,y] us):∃ u w',us=[u,w']/\Qb x u/\Qb y w':=by
 cases r with
 | cons r1 r2=>
  cases r2 with
  | cons r3 r4=>cases r4;exact ⟨_,_,rfl,r1,r3⟩
theorem zf:Bf X (.type "str") (fun xs H Q=>∃ i,xs=[.int i]/\i.natAbs.log2 < 1920/\Q (.str (toString i)) H):=by
 intro pins s σ H xs us Q I r h;obtain ⟨i,rfl,hz,q⟩:=h;obtain ⟨u,rfl,t,rfl⟩:=Wf r;exact PySem.P.str_of_int hz ⟨.str _,H,I.tok _,⟨_,rfl⟩,q⟩
end
end L2
namespace L2
open PySem PySem.Spec PyProof.Rows
structure cn (h:Heap) (x dx C:Addr) (mA:Str->Option Value):Prop where
 obj:h.get? x=some (PySem.W.instObj C dx)
 ns:h.Ns1 dx mA
 ne:dx ≠ x
theorem Di {h:Heap} {dx:Addr} {mA:Str->Option Value} (n:h.Ns1 dx mA):∃ od,h.get? dx=some od/\∀ name,PySem.W.lookIn name od=some (mA name):=by
 obtain ⟨o,es,ep,ho,hd,hk,_,hm⟩:=n;refine ⟨o,ho,fun name=>?_⟩;have e:=hm name;unfold nsFind findBy at e;rw [<- Array.find?_toList] at e;unfold PySem.W.lookIn;rw [hd];dsimp only;split
 ·rename_i y q;rw [q] at e;exact congrArg some e
 ·rename_i q;rw [q] at e;have a:es.toList.any (·.refKey)=false:=by
   rw [List.any_eq_false];intro y hy;obtain ⟨z,t,hkey⟩:=hk y (Array.mem_toList_iff.mp hy);simp [DictEntry.refKey,hkey]
  have a':¬ es.toList.any (·.refKey)=true:=by rw [a];exact Bool.false_ne_true
  rw [if_neg a'];exact congrArg some e
theorem cn.look {h:Heap} {x dx C:Addr} {mA:Str->Option Value} (I:cn h x dx C mA):∃ od,PySem.W.InstAt h x (PySem.W.instObj C dx) C (some od)/\∀ name,PySem.W.lookIn name od=some (mA name):=
 let ⟨od,ho,hl⟩:=Di I.ns
 ⟨od,⟨I.obj,rfl,rfl,ho⟩,hl⟩
section
variable {prog:Program} {w:World} {A:Around} {E:Value->Shared->Prop} {s:Shared} {K:W.Frag} {x dx C f:Addr} {mA:Str->Option Value} {name:Str} {v:Value}
end
theorem gh.some_of {v:V} {o:Option Value} (r:gh (some v) o):∃ u,o=some u/\Qb v u:=by
 cases o with
 | none=>exact (show False from r).elim
 | some u=>exact ⟨u,rfl,r⟩
section
variable {P:Program} {w:World} {H H':Hp} {h h':Heap} {a C dx:Addr} {fs fs':List (Str × V)}
theorem kl (hok:HOk P w H h) (e:H a=some (.ins C dx fs)):∃ mA,cn h a dx C mA/\(∀ f,gh (fs.lookup f) (mA f))/\PySem.Within mA (fs.map (·.1))/\fs.length <= 1000/\H dx=some (.own a):=by
 obtain ⟨d,z,ne,ob,mA,n,r,q⟩:=(show Kb P w H h a (.ins C dx fs) from hok a _ e);exact ⟨mA,⟨ob,n,ne⟩,r,q,z,d⟩
end
structure Cls (K:W.Frag) (C:Addr):Prop where
 pg:PySem.W.plainGet K C Str.empty=true
 hd:PySem.W.hasDictIn K C=true
 po:PySem.W.plainOver K C=true
 sa:PySem.W.findIn K (.ref C) "__setattr__"=some (some (.builtin "object.__setattr__"))
theorem Cls.get {K:W.Frag} {C:Addr} (c:Cls K C) (f:Str):PySem.W.plainGet K C f=true:=c.pg
structure Con (K:W.Frag) (C:Addr) (f:Str) (v:V) (u:Value):Prop where
 at_:PySem.W.findIn K (.ref C) f=some (some u)
 rel:Qb v u
 get:PySem.W.specialIn K u "__get__"=some none
 cp:PySem.W.copiedNames.contains f=false
structure yo (K:W.Frag) (C:Addr) (m:Str) (f:Addr):Prop where
 at_:PySem.W.findIn K (.ref C) m=some (some (.ref f))
 fn:PySem.W.isFn K (.ref f)=true
 kp:PySem.W.keepIn K (.ref f)=true
section
variable {X:Cx} {pins:List (Addr × Obj)} {σ:St} {H:Hp} {s:Shared} {a C dx:Addr} {fs:List (Str × V)} {f:Str} {v:V} {A:Around} {E:Value->Shared->Prop}
end
section
variable {X:Cx} {o e value:Expr} {f:Str} {pos pos' tpos:Pos} {ta tv:TE}
end
section
variable {X:Cx} {pins:List (Addr × Obj)} {σ:St} {H:Hp} {s:Shared} {A:Around} {E:Value->Shared->Prop} {Q:Value->Shared->Prop} {c:Value} {b:Bool}
inductive fh (K:W.Frag) (H:Hp):V->Value->Prop where
 | non:fh K H .non (.type "NoneType")
 | bl (x:Bool):fh K H (.bl x) (.type "bool")
 | int (i:Int):fh K H (.int i) (.type "int")
 | str (x:Str):fh K H (.str x) (.type "str")
 | flt (x:UInt64):fh K H (.flt x) (.type "float")
 | lst {a:Addr} {xs:List V} (e:H a=some (.lst xs)):fh K H (.ref a) (.type "list")
 | frz {a:Addr} {o:Obj} {xs:List V} (e:H a=some (.frz o (.lst xs))):fh K H (.ref a) (.type "list")
 | tup {a:Addr} {xs:List V} (e:H a=some (.tup xs)):fh K H (.ref a) (.type "tuple")
 | dK {a:Addr} {kvs:List (Key × V)} (e:H a=some (.dK kvs)):fh K H (.ref a) (.type "dict")
 | dT {a:Addr} {kvs:List (List Key × V)} (e:H a=some (.dT kvs)):fh K H (.ref a) (.type "dict")
 | ins {a C dx:Addr} {fs:List (Str × V)} (e:H a=some (.ins C dx fs)) (cl:Cls K C) (ha:PySem.W.findIn K (.ref C) "__class__"=some (some (.builtin "object.__class__")))
   (hn:PySem.W.specialIn K (.builtin "object.__class__") "__get__"=some (some (.builtin "getset_descriptor.__get__"))) (htk:PySem.W.takesIn K (.builtin "object.__class__")=some true)
   (hm:PySem.W.mroIn K C (.type "object")=some true):fh K H (.ref a) (.ref C)
theorem vi {x:V} {u t:Value} (I:Inv X pins σ H s) (rx:Qb x u) (ty:fh X.K H x t) (e:PySem.W.kitOne X.K t c=some b) (h:∀ tk,Q (.bool b) { s with toks:=tk }) :
  wpAny (model X.prog X.w) A (call (.builtin "isinstance") [u,c]) Q E s:=by
 cases ty with
 | non=>cases (show u=Value.none from rx);exact PySem.W.kia_one PySem.W.kitx_none I.kIn True.intro e (fun z=>nomatch z) h
 | bl y=>cases (show u=Value.bool y from rx);exact PySem.W.kia_one PySem.W.kitx_bool I.kIn True.intro e (fun z=>nomatch z) h
 | int i=>obtain ⟨t,q⟩:=(show ∃ t,u=Value.int i t from rx);cases q;exact PySem.W.kia_one PySem.W.kitx_int I.kIn True.intro e (fun z=>nomatch z) h
 | str y=>obtain ⟨t,q⟩:=(show ∃ t,u=Value.str y t from rx);cases q;exact PySem.W.kia_one PySem.W.kitx_str I.kIn True.intro e (fun z=>nomatch z) h
 | flt y=>obtain ⟨t,q⟩:=(show ∃ t,u=Value.float y t from rx);cases q;exact PySem.W.kia_one PySem.W.kitx_float I.kIn True.intro e (fun z=>nomatch z) h
 | @lst a xs ea=>
  cases (show u=Value.ref a from rx);obtain ⟨_,_,n,_,h1⟩:=(show Kb X.prog X.w H s.heap a (.lst xs) from I.hok a _ ea);exact PySem.W.kia_one PySem.W.kitx_list I.kIn ⟨_,h1,rfl⟩ e (fun z=>nomatch z) h
 | @frz a ob xs ea=>
  cases (show u=Value.ref a from rx);obtain ⟨_,_,_,n,_,h1⟩:=(show Kb X.prog X.w H s.heap a (.frz ob (.lst xs)) from I.hok a _ ea);exact PySem.W.kia_one PySem.W.kitx_list I.kIn ⟨_,h1,rfl⟩ e (fun z=>nomatch z) h
 | @tup a xs ea=>
  cases (show u=Value.ref a from rx);obtain ⟨_,_,_,p⟩:=(show Kb X.prog X.w H s.heap a (.tup xs) from I.hok a _ ea);obtain ⟨o,h1,h2,_⟩:=p;exact PySem.W.kia_one PySem.W.kitx_tuple I.kIn ⟨o,h1,h2⟩ e (fun z=>nomatch z) h
 | @dK a kvs ea=>
  cases (show u=Value.ref a from rx);obtain ⟨_,_,vs,_,p⟩:=(show Kb X.prog X.w H s.heap a (.dK kvs) from I.hok a _ ea);obtain ⟨o,es,ep,h1,h2,_⟩:=p;exact PySem.W.kia_one PySem.W.kitx_dict I.kIn ⟨o,h1,h2.1⟩ e (fun z=>nomatch z) h
 | @dT a kvs ea=>
  cases (show u=Value.ref a from rx);obtain ⟨_,_,xs,_,o,es,ep,h1,h2,_⟩:=(show Kb X.prog X.w H s.heap a (.dT kvs) from I.hok a _ ea);exact PySem.W.kia_one PySem.W.kitx_dict I.kIn ⟨o,h1,h2.1⟩ e (fun z=>nomatch z) h
 | @ins a C dx fs ea cl ha hn htk hm=>
  cases (show u=Value.ref a from rx);obtain ⟨mA,O,_⟩:=kl I.hok ea;obtain ⟨od,J,_⟩:=O.look;exact PySem.W.kia_one (PySem.W.kitx_own (cl.get _) cl.hd ha hn htk hm) I.kIn J e (fun z=>nomatch z) h
end
end L2
namespace L2
open PySem PySem.Spec PyProof.Rows
structure Xd (k:Nat) (A:Around):Prop where
 hd:A.handled=none
 dp:A.depth + 3 * k + 5 < recursionLimit
 un:A.units + 16 * k + 200 < cLine
theorem Xd.mono {j k:Nat} {A:Around} (r:Xd k A) (h:j <= k):Xd j A:=⟨r.hd,by have:=r.dp;omega,by have:=r.un;omega⟩
theorem Xd.deeper {k:Nat} {A:Around} (r:Xd (k + 1) A) (env:Env):Xd k (A.deeper env):=
 ⟨r.hd,by have:=r.dp;show A.depth + 1 + 3 * k + 5 < _;omega,by have:=r.un;show A.units + 3 + 16 * k + 200 < _;omega⟩
theorem Xd.in1 {k:Nat} {A:Around} (r:Xd (k + 1) A):Xd k A.in1:=
 ⟨r.hd,by have:=r.dp;show A.depth + 3 * k + 5 < _;omega,by have:=r.un;show A.units + 1 + 16 * k + 200 < _;omega⟩
theorem Xd.depth {k:Nat} {A:Around} (r:Xd k A):A.depth < recursionLimit:=by have:=r.dp;omega
theorem Xd.units {k:Nat} {A:Around} (r:Xd k A):A.units + 64 < cLine:=by have:=r.un;omega
noncomputable def Sn:TA:=fun _ H Q=>Q [] H
noncomputable def Hm (ta:TE) (tr:TA):TA:=fun σ H Q=>ta σ H fun x H1=>tr σ H1 fun xs H2=>Q (x :: xs) H2
section
variable {X:Cx} {e:Expr} {es:List Expr} {te:TE} {t:TA} {pos:Pos}
theorem gb:PA X [] Sn:=fun _ _ _ _ H Q I h=>Calls.spliced_nil ⟨[],H,I,.nil,h⟩
theorem ab (ha:PE X e te) (hr:PA X es t) (hs:starEach (e :: es) X.env=(false,eval e X.env) :: starEach es X.env:=by rfl):PA X (e :: es) (Hm te t):=by
 intro pos pins s σ H Q I h;rw [hs];show wpAny _ _ (spliced ((false,eval e X.env) :: backTo pos (starEach es X.env))) _ _ s;refine Calls.spliced_cons (thn (ha pins s σ H _ I h) fun u s1 hZ1=>?_);obtain ⟨x,H1,I1,r1,q1⟩:=hZ1;exact thn (hr pos pins s1 σ H1 _ I1 q1) fun us s2 ⟨xs,H2,I2,r2,q2⟩=>⟨x :: xs,H2,I2,.cons r1 r2,q2⟩
noncomputable def Nn (t:TA):TE:=fun σ H Q=>t σ H fun xs H1=>xs.length <= sizeLine/\∀ p,H1 p=none->Q (.ref p) (upd H1 p (.lst xs))
theorem pe (h:PA X es t):PE X (.List es pos) (Nn t):=by
 intro pins s σ H Q I hq;refine wpAny_List_spliced (thn (h pos pins s σ H _ I hq) fun us s1 ⟨xs,H1,I1,r,z,q⟩=>⟨by rw [<- r.length];exact z,?_⟩);have hf:H1 s1.heap.objs.size=none:=I1.hok.fresh (Nat.le_refl _);refine ⟨.ref s1.heap.objs.size,upd H1 s1.heap.objs.size (.lst xs),I1.laid (t':=s1.toks) (fun b u e=>Heap.get?_push_of_some _ e) (Nat.le_refl _) ?_,rfl,q _ hf⟩;exact ⟨z,us,0,r,Heap.get?_push_size _ rfl⟩
end
noncomputable abbrev Sp:=List V->Hp->VK->XK->Prop
noncomputable abbrev CXT:=List Env->Hp->Shared->XK->Value->Shared->Prop
structure pk (P:Program) (w:World) (K:W.Frag) (mg:Str->Option Value) (base:Heap) (A:Around) (outer:List Env) (s:Shared) (H:Hp):Prop where
 frames:A.frames=some outer
 mod:Mod K mg base
 bs:∀ b o,base.get? b=some o->s.heap.get? b=some o/\H b=none
 bsz:base.objs.size <= s.heap.objs.size
 funs:s.heap.FunFrames base outer
 frf:∀ b ∈ frs outer,H b=none
 hok:HOk P w H s.heap
 bare:AllBare s.gens
noncomputable def CE (outer:List Env) (P:Program) (w:World) (H:Hp) (s:Shared) (Q:VK) (u:Value) (s':Shared):Prop:=
 ∃ v H',s'.os=s.os/\AllBare s'.gens/\Un (frs outer) [] H H' s.heap s'.heap/\HOk P w H' s'.heap/\Qb v u/\Q v H'
noncomputable def CR (CX:CXT) (outer:List Env) (P:Program) (w:World) (H:Hp) (s:Shared) (Q:VK) (E:XK) (r:Result) (s':Shared):Prop:=
 match r with
 | .ok (.ret u)=>CE outer P w H s Q u s'
 | .ok _=>False
 | .error e=>CX outer H s E e s'
structure Gc (P:Program) (w:World) (K:W.Frag) (mg:Str->Option Value) (base:Heap) (CX:CXT) (k:Nat) (f:Addr) (fd:FuncData) (ps:List Str) (sp:Sp):Prop where
 len:∀ vs H Q E,sp vs H Q E->vs.length=ps.length
 run:∀ (A:Around) (outer:List Env) (s:Shared) (H:Hp) (args:Args) (us:List Value) (vs:List V) (Q:VK) (E:XK),Xd k A->pk P w K mg base A outer s H->BindsTo s fd args (ps.zip us)->Pb vs us->sp vs H Q E ->
  codeAny (model P w) A (.call (.ref f) args) (CR CX outer P w H s Q E) s
theorem Gc.mono {P:Program} {w:World} {K:W.Frag} {mg:Str->Option Value} {base:Heap} {CX:CXT} {j k:Nat} {f:Addr} {fd:FuncData} {ps:List Str} {sp:Sp} (F:Gc P w K mg base CX j f fd ps sp) (h:j <= k) :
  Gc P w K mg base CX k f fd ps sp:=⟨F.len,fun A outer s H args us vs Q E hr=>F.run A outer s H args us vs Q E (hr.mono h)⟩
theorem Gc.imp {P:Program} {w:World} {K:W.Frag} {mg:Str->Option Value} {base:Heap} {CX:CXT} {k:Nat} {f:Addr} {fd:FuncData} {ps:List Str} {sp sp':Sp} (F:Gc P w K mg base CX k f fd ps sp)
  (h:∀ vs H Q E,sp' vs H Q E->sp vs H Q E):Gc P w K mg base CX k f fd ps sp':=
 ⟨fun vs H Q E q=>F.len vs H Q E (h _ _ _ _ q),fun A outer s H args us vs Q E hr he hb hv hs=>F.run A outer s H args us vs Q E hr he hb hv (h _ _ _ _ hs)⟩
theorem pk.in1 {P:Program} {w:World} {K:W.Frag} {mg:Str->Option Value} {base:Heap} {A:Around} {outer:List Env} {s:Shared} {H:Hp} (e:pk P w K mg base A outer s H) :
  pk P w K mg base A.in1 outer s H:=⟨e.frames,e.mod,e.bs,e.bsz,e.funs,e.frf,e.hok,e.bare⟩
section
variable {X:Cx} {pins:List (Addr × Obj)} {σ:St} {H:Hp} {s s':Shared}
theorem Inv.env0 (I:Inv X pins σ H s):pk X.prog X.w X.K X.mg X.base X.A X.stack s H:=
 ⟨I.ok.frames,I.ok.mod,I.bs,Nat.le_trans I.ok.bsz I.sz,I.stack,I.stkFree,I.hok,I.bare⟩
theorem Inv.after {Q:VK} {u:Value} (I:Inv X pins σ H s) (h:CE X.stack X.prog X.w H s Q u s'):EP X pins σ Q u s':=by
 obtain ⟨v,H',os,bare,un,hok,r,q⟩:=h;obtain ⟨hh,g,d,t,os'⟩:=s';obtain rfl:os'=s.os:=os;exact ⟨v,H',I.call (h':=hh) (g':=g) (d':=d) (t':=t) (ch:=[]) un hok bare (fun b z=>absurd z (by simp)),r,q⟩
end
noncomputable def dm (sp:Sp) (dvs:List V) (E:XK) (t:TA):TE:=fun σ H Q=>t σ H fun vs H1=>sp (vs ++ dvs) H1 Q E
noncomputable def Vd (K:W.Frag) (fd:FuncData) (ps:List Str) (ds:List Value):Prop:=
 ∀ (s:Shared) (us:List Value),K.In s.heap->(us ++ ds).length=ps.length->BindsTo s fd ⟨us,[]⟩ (ps.zip (us ++ ds))
theorem Vd.all {K:W.Frag} {fd:FuncData} {ps:List Str} (h:∀ us:List Value,us.length=ps.length->bindArgs fd ⟨us,[]⟩=pure (ps.zip us)):Vd K fd ps []:=fun s us _ hl=>by
 rw [List.append_nil] at hl ⊢;exact .of_eq (h us hl)
noncomputable def Uh (CX:CXT) (X:Cx) (E:XK):Prop:=∀ (pins:List (Addr × Obj)) (σ:St) (H:Hp) (s:Shared) (e:Value) (s':Shared),Inv X pins σ H s->CX X.stack H s E e s'->X.xe e s'
section
variable {X:Cx} {CX:CXT} {k:Nat} {f C:Addr} {fd:FuncData} {ps:List Str} {sp:Sp} {dvs:List V} {ds:List Value} {E:XK} {x m:Str} {p pos apos:Pos} {e o:Expr} {es:List Expr} {ta:TE} {t:TA}
theorem Km {pins:List (Addr × Obj)} {σ:St} {H:Hp} {s:Shared} {Q:VK} {us:List Value} {vs:List V} (F:Gc X.prog X.w X.K X.mg X.base CX k f fd ps sp) (hr:Xd k X.A) (hb:Vd X.K fd ps ds) (hd:Pb dvs ds) (hx:Uh CX X E)
  (I:Inv X pins σ H s) (r:Pb vs us) (h:sp (vs ++ dvs) H Q E):wpAny (model X.prog X.w) X.A (call (.ref f) us) (EP X pins σ Q) X.xe s:=by
 have r2:Pb (vs ++ dvs) (us ++ ds):=r.append hd;have hl:(us ++ ds).length=ps.length:=by rw [<- r2.length];exact F.len _ _ _ _ h
 refine wpAny_call (codeAny_mono (F.run X.A X.stack s H ⟨us,[]⟩ (us ++ ds) (vs ++ dvs) Q E hr I.env0 (hb s us I.kIn hl) r2 h) fun r s' hq=>?_);cases r with
 | error e=>exact hx pins σ H s e s' I hq
 | ok fl=>
  cases fl with
  | ret u=>exact I.after hq
  | next=>exact False.elim hq
  | brk=>exact False.elim hq
  | cont=>exact False.elim hq
theorem Fb (F:Gc X.prog X.w X.K X.mg X.base CX k f fd ps sp) (hr:Xd k X.A) (hg:Gl X x) (hm:X.mg x=some (.ref f)) (hk:PySem.W.keepIn X.K (.ref f)=true) (hb:Vd X.K fd ps ds) (hd:Pb dvs ds) (hx:Uh CX X E)
  (ha:PA X (e :: es) t) (hdb:(x == ("__debug__" : Str))=false:=by decide) (he:starEach (e :: es) X.env=(false,eval e X.env) :: starEach es X.env:=by rfl) (hpl:(backTo pos (starEach es X.env)).any (·.1)=false:=by rfl) :
  PE X (.Call (.Name x p) (e :: es) [] pos) (dm sp dvs E t):=by
 intro pins s σ H Q I h;refine wpAny_Call_Name_kw (wg I hg hm ?_ hdb);refine PySem.W.callWith_K (h₀:=X.base) I.ok.mod.kin hk (thn (ha pos pins s σ H _ I h) fun us s1 ⟨vs,H1,I1,r,q⟩=>⟨I1.kIn,?_⟩) he hpl;exact Km F hr hb hd hx I1 r q
structure Mk (K:W.Frag) (C f:Addr):Prop where
 makes:PySem.W.makesIn K C=true
 init:PySem.W.findIn K (.ref C) "__init__"=some (some (.ref f))
 fn:PySem.W.isFn K (.ref f)=true
 kp:PySem.W.keepIn K (.ref C)=true
end
section
variable {X:Cx} {CX:CXT} {k:Nat} {f C:Addr} {fd:FuncData} {ps ks:List Str} {sp:Sp} {E:XK} {x m:Str} {p pos apos kpos:Pos} {e o:Expr} {es:List Expr} {kws:List Keyword} {te ta:TE} {t tk:TA} {nm:Option Str}
structure Qn (K:W.Frag) (fd:FuncData) (ps ks:List Str) (g:List Value->List Value->List Value) (gV:List V->List V->List V):Prop where
 to:∀ (s:Shared) (us ws:List Value),K.In s.heap->(g us ws).length=ps.length->BindsTo s fd ⟨us,ks.zip ws⟩ (ps.zip (g us ws))
 rel:∀ {vs:List V} {us:List Value} {zs:List V} {ws:List Value},Pb vs us->Pb zs ws->Pb (gV vs zs) (g us ws)
variable {g:List Value->List Value->List Value} {gV:List V->List V->List V}
end
structure pc (N P:List Str) (sc:Scope):Prop where
 kind:sc.kind=.function
 co:sc.isCoroutine=false
 gen:sc.isGenerator=false
 nd:N.Nodup
 pre:N.take P.length=P
 par:∀ x ∈ P,sc.names.lookup x=some .local\/sc.names.lookup x=some .cell
 nofree:∀ y ∈ sc.names,y.2 ≠ .free
theorem bg {kindOf:Str->Option NameKind} {x:Str}:∀ {binds:List (Str × Value)} {m:Str->Option Value},(∀ v,(x,v) ∉ binds)->bindL kindOf binds m x=m x
 | [],_,_=>rfl
 | (n,v) :: r,m,h=>by
  unfold bindL;rw [bg fun w hw=>h w (mem_cons_of_mem _ hw)];split
  ·have:x ≠ n:=by rintro rfl;exact h v mem_cons_self
   simp [this]
  ·rfl
theorem uf {kindOf:Str->Option NameKind} {x:Str}:∀ {binds:List (Str × Value)} {m:Str->Option Value},(∀ v,(x,v) ∉ binds)->bindC kindOf binds m x=m x
 | [],_,_=>rfl
 | (n,v) :: r,m,h=>by
  unfold bindC;rw [uf fun w hw=>h w (mem_cons_of_mem _ hw)];split
  ·rfl
  ·have:x ≠ n:=by rintro rfl;exact h v mem_cons_self
   simp [this]
theorem Yf {kindOf:Str->Option NameKind} {x:Str} {v:Value}:∀ {P:List Str} {vs:List Value} {i:Nat} {m:Str->Option Value},P.Nodup->P[i]? = some x->vs[i]? = some v->kindOf x=some .local ->
  bindL kindOf (P.zip vs) m x=some v
 | [],_,_,_,_,h,_,_=>by simp at h
 | _ :: _,[],_,_,_,_,h,_=>by simp at h
 | p :: P,w :: vs,0,m,nd,h1,h2,hk=>by
  simp at h1 h2;subst h1;subst h2;show bindL kindOf ((p,w) :: P.zip vs) m p=_;unfold bindL;rw [bg fun v hv=>(List.nodup_cons.mp nd).1 (List.of_mem_zip hv).1,if_pos hk];simp
 | p :: P,w :: vs,i + 1,m,nd,h1,h2,hk=>by
  show bindL kindOf ((p,w) :: P.zip vs) m x=_;unfold bindL;exact Yf (i:=i) (List.nodup_cons.mp nd).2 (by simpa using h1) (by simpa using h2) hk
theorem Pf {kindOf:Str->Option NameKind} {x:Str} {v:Value}:∀ {P:List Str} {vs:List Value} {i:Nat} {m:Str->Option Value},P.Nodup->P[i]? = some x->vs[i]? = some v->kindOf x ≠ some .local ->
  bindC kindOf (P.zip vs) m x=some v
 | [],_,_,_,_,h,_,_=>by simp at h
 | _ :: _,[],_,_,_,_,h,_=>by simp at h
 | p :: P,w :: vs,0,m,nd,h1,h2,hk=>by
  simp at h1 h2;subst h1;subst h2;show bindC kindOf ((p,w) :: P.zip vs) m p=_;unfold bindC;rw [uf fun v hv=>(List.nodup_cons.mp nd).1 (List.of_mem_zip hv).1,if_neg hk];simp
 | p :: P,w :: vs,i + 1,m,nd,h1,h2,hk=>by
  show bindC kindOf ((p,w) :: P.zip vs) m x=_;unfold bindC;exact Pf (i:=i) (List.nodup_cons.mp nd).2 (by simpa using h1) (by simpa using h2) hk
noncomputable def Xe (N:List Str) (vs:List V):St:=vs.map some ++ List.replicate (N.length - vs.length) none
noncomputable def Tk (CX:CXT) (P:Program) (w:World) (K:W.Frag) (mg:Str->Option Value) (base:Heap) (N:List Str) (qual:Str) (scope:Scope) (f:Addr) (cd:Value) (A:Around) (outer:List Env) (s:Shared) (H:Hp) (E:XK):Cx where
 prog:=P
 w:=w
 K:=K
 mg:=mg
 base:=base
 A:=A.deeper (envOfC qual scope s.heap.objs.size f cd)
 N:=N
 s₀:=s
 H₀:=H
 env:=envOfC qual scope s.heap.objs.size f cd
 outer:=outer
 stack:=envOfC qual scope s.heap.objs.size f cd :: outer
 ex:=[]
 calm:=true
 fn:=fun _=>true
 pn:=[]
 xe:=fun e s'=>wpAny (model P w) (A.deeper (envOfC qual scope s.heap.objs.size f cd)) (leaving (envOfC qual scope s.heap.objs.size f cd) e) (fun _ s''=>CX outer H s E e s'') (fun e' s''=>CX outer H s E e' s'') s'
theorem Kg {sc:Scope} {n:Nat} {x:Str} (h:sc.names.lookup x=some .cell):∃ c,(cellsFrom n sc.names []).lookup x=some c:=by
 have q:=PySem.W.cellsFrom_some sc.names n [] (.inl h);exact Option.isSome_iff_exists.mp q
theorem fi {CX:CXT} {P:Program} {w:World} {K:W.Frag} {mg:Str->Option Value} {base:Heap} {N ps:List Str} {qual:Str} {scope:Scope} {f:Addr} {cd:Value} {A:Around} {outer:List Env} {s s1:Shared} {H:Hp} {E:XK} {us:List Value} {vs:List V}
  (S:pc N ps scope) (hd:A.handled=none) (e0:pk P w K mg base A outer s H) (hl:vs.length=ps.length) (r:Pb vs us)
  (x:InCallC s s.heap.objs.size (bindL (envOfC qual scope s.heap.objs.size f cd).kindOf (ps.zip us) fun _=>none) (cellsFrom (s.heap.objs.size + 1) scope.names []) (bindC (envOfC qual scope s.heap.objs.size f cd).kindOf (ps.zip us) fun _=>none) s1) :
  Inv (Tk CX P w K mg base N qual scope f cd A outer s H E) [] (Xe N vs) H s1:=by
 have hpl:ps.length <= N.length:=by have:=congrArg List.length S.pre;rw [length_take] at this;omega
 obtain ⟨h1,tk,rfl,hk⟩:=x.done;have noA:∀ b:Addr,b ∉ (Tk CX P w K mg base N qual scope f cd A outer s H E).ex:=fun b z=>absurd (show b ∈ ([]:List Addr) from z) (by simp)
 refine ⟨⟨e0.mod,S.kind,rfl,rfl,Nat.le_refl _,fun y z c h1 h2=>?_,fun y hy=>?_,fun y c _ h=>?_,fun _=>hd,Around.frames_deeper e0.frames,.inr ⟨rfl,rfl⟩,fun b z=>absurd z (noA b),e0.bs,e0.bsz,fun b _ _=>noA b,fun b z=>absurd z (noA b),e0.funs,e0.frf⟩,
  rfl,e0.bare,Un.kept hk,⟨_,x.toInCall.ns,fun i y v h1 h2 h3=>?_⟩,fun y c h=>⟨_,x.cell y c h⟩,e0.hok.fresh (Nat.le_refl _),fun y c h=>?_,fun p hp=>absurd (show p ∈ ([]:List (Addr × Obj)) from hp) (by simp),e0.hok.kept hk,?_⟩
 ·exact name_of_addr x.apart (PySem.mem_of_lookup h1) (PySem.mem_of_lookup h2)
 ·have hy:scope.names.lookup y=some .cell\/scope.names.lookup y=some .free:=hy;rcases hy with hy | hy
  ·exact Kg hy
  ·exact absurd rfl (S.nofree _ (PySem.mem_of_lookup hy))
 ·exact Nat.le_of_lt (x.above y c (PySem.mem_of_lookup h))
 ·have hi:i < vs.length:=by
   unfold Xe at h2;by_cases hi:i < vs.length
   ·exact hi
   ·rw [List.getElem?_append_right (by simpa using hi)] at h2;rw [List.getElem?_replicate] at h2;split at h2 <;> cases h2
  have ha:vs[i]? = some v:=by
   unfold Xe at h2;rw [List.getElem?_append_left (by simpa using hi),getElem?_map] at h2;cases e:vs[i]? with
   | none=>rw [e] at h2;cases h2
   | some a=>rw [e] at h2;cases h2;rfl
  obtain ⟨u,hu,rv⟩:=r.get ha;have hp:ps[i]? = some y:=by
   rw [<- S.pre,List.getElem?_take_of_lt (by omega)];exact h1
  have ndP:ps.Nodup:=by rw [<- S.pre];exact S.nd.sublist (List.take_sublist _ _)
  refine ⟨u,rv,?_⟩;rcases S.par y (mem_of_getElem? hp) with k | k
  ·exact .inl ⟨k,Yf ndP hp hu k⟩
  ·obtain ⟨c,e⟩:=Kg (n:=s.heap.objs.size + 1) k;refine .inr ⟨.inl k,c,e,?_⟩;have q:=x.cell y c e;rw [Pf ndP hp hu (by show scope.names.lookup y ≠ _;rw [k];decide)] at q;exact q
 ·exact e0.hok.fresh (Nat.le_of_lt (x.above y c (PySem.mem_of_lookup h)))
 ·unfold Xe;show _=N.length;rw [length_append,length_map,length_replicate];omega
theorem Jn {CX:CXT} {P:Program} {w:World} {K:W.Frag} {mg:Str->Option Value} {base:Heap} {k:Nat} {f:Addr} {name qual:Str} {params:Arguments} {body:List Stmt} {scope:Scope} {dV kV doc pm cdv ct oc:Value} {an od:Option Addr}
  {osl:Array (Option Value)} {N ps:List Str} {sp:Sp} (lk:K.lookup f=some ⟨oc,od,.func (PySem.W.fnOf name qual params body scope dV kV doc pm an cdv ct),osl⟩) (hcd:PySem.W.codeIn K cdv qual=true) (S:pc N ps scope)
  (len:∀ vs H Q E,sp vs H Q E->vs.length=ps.length)
  (hbody:∀ (A:Around) (outer:List Env) (s:Shared) (H:Hp) (vs:List V) (Q:VK) (E:XK),Xd k (A.deeper (envOfC qual scope s.heap.objs.size f cdv))->sp vs H Q E ->
   ∃ t,PSs (Tk CX P w K mg base N qual scope f cdv A outer s H E) body t/\t { nx:=fun _ H'=>Q .non H',rt:=Q } (Xe N vs) H) :
  Gc P w K mg base CX (k + 1) f (PySem.W.fnOf name qual params body scope dV kV doc pm an cdv ct) ps sp:=by
 refine ⟨len,fun A outer s H args us vs Q E hr e0 hb r hsp=>?_⟩;have hl:=len _ _ _ _ hsp;have KX:K.In s.heap:=e0.mod.kin.keeps fun b o e=>(e0.bs b o e).1
 have lim:s.heap.NoLimit:=e0.mod.nolimit.keeps fun b o e=>(e0.bs b o e).1
 have hkind:∀ y ∈ ps.zip us,scope.names.lookup y.1=some .local\/(scope.names.lookup y.1=some .cell/\((cellsFrom (s.heap.objs.size + 1) scope.names []).lookup y.1).isSome=true):=fun ⟨n,v⟩ hy=>by
  rcases S.par n (List.of_mem_zip hy).1 with q | q
  ·exact .inl q
  ·exact .inr ⟨q,PySem.W.cellsFrom_some _ _ _ (.inl q)⟩
 refine codeAny_call_function hr.depth (KX _ _ lk) rfl S.co S.gen rfl (PySem.W.codeRec_of KX hcd) (hb _ _ _ _ ?_);refine wpAny_newFunctionEnv_cells S.kind hkind fun env he s1 x=>?_
 subst he;refine ⟨lim.keeps x.toInCall.keep,codeAny_func ?_⟩;obtain ⟨t,ht,hq⟩:=hbody A outer s H vs Q E (hr.deeper _) hsp;have I:Inv (Tk CX P w K mg base N qual scope f cdv A outer s H E) [] (Xe N vs) H s1:=fi S hr.hd e0 hl r x;refine wpAny_mono (ht [] s1 (Xe N vs) H _ I hq) (fun fl s' hs=>?_) fun e s' hs=>hs
 have fin:∀ {σ':St} {H':Hp} {v:V} {u:Value},Inv (Tk CX P w K mg base N qual scope f cdv A outer s H E) [] σ' H' s'->Qb v u->Q v H'->CE outer P w H s Q u s':=
  fun {σ' H' v u} J rv q=>⟨v,H',J.os,J.bare,J.base,J.hok,rv,q⟩
 cases fl with
 | ret u=>
  obtain ⟨v,σ',H',J,rv,q⟩:=hs;exact fin J rv q
 | next=>
  obtain ⟨σ',H',J,q⟩:=hs;exact fin (v:=V.non) (u:=Value.none) J rfl q
 | brk=>
  obtain ⟨_,_,_,q⟩:=hs;exact False.elim q
 | cont=>
  obtain ⟨_,_,_,q⟩:=hs;exact False.elim q
end L2
namespace L2
open PySem PySem.Spec PyProof.Rows
section
variable {X:Cx} {x:Str} {p pos:Pos} {e:Expr} {es:List Expr} {t:TA} {id T:String} {r:List V->Hp->VK->Prop}
noncomputable def tCB (r:List V->Hp->VK->Prop) (t:TA):TE:=fun σ H Q=>t σ H fun vs H1=>r vs H1 Q
theorem gc (hc:Bf X (.builtin id) r) (hg:Gl X x) (hm:X.mg x=none) (hv:bootBuiltins x=some (.builtin id)) (ha:PA X (e :: es) t) (hn:x ≠ "__name__" := by decide) (hdb:(x == ("__debug__" : Str))=false:=by decide)
  (he:starEach (e :: es) X.env=(false,eval e X.env) :: starEach es X.env:=by rfl) (hpl:(backTo pos (starEach es X.env)).any (·.1)=false:=by rfl):PE X (.Call (.Name x p) (e :: es) [] pos) (tCB r t):=by
 intro pins s σ H Q I h;refine wpAny_Call_Name_kw (Af I hg hm hv ?_ hn hdb);exact PyProof.Rows.callWith_builtin1 (thn (ha pos pins s σ H _ I h) fun us s1 ⟨vs,H1,I1,r1,q1⟩=>hc pins s1 σ H1 vs us Q I1 r1 q1) he hpl
theorem ad (hc:Bf X (.type T) r) (hg:Gl X x) (hm:X.mg x=none) (hv:bootBuiltins x=some (.type T)) (ha:PA X (e :: es) t) (hn:x ≠ "__name__" := by decide) (hdb:(x == ("__debug__" : Str))=false:=by decide)
  (he:starEach (e :: es) X.env=(false,eval e X.env) :: starEach es X.env:=by rfl) (hpl:(backTo pos (starEach es X.env)).any (·.1)=false:=by rfl):PE X (.Call (.Name x p) (e :: es) [] pos) (tCB r t):=by
 intro pins s σ H Q I h;refine wpAny_Call_Name_kw (Af I hg hm hv ?_ hn hdb);exact PyProof.Rows.callWith_type1 (thn (ha pos pins s σ H _ I h) fun us s1 ⟨vs,H1,I1,r1,q1⟩=>hc pins s1 σ H1 vs us Q I1 r1 q1) he hpl
end
end L2
namespace HT
open PySem PyProof.Rows
section
open PySem.SeqAt
open PySem.AutoSeq1 (wpAny_loadPart')
open PySem.MeetsSeq PySem.MeetsSeq2 PySem.MeetsSeq3
end
section
variable {prog:Program} {w:World} {A:Around} {E:Value->Shared->Prop} {s:Shared}
noncomputable def sIx (n d:Nat):Option Int->Nat
 | none=>d
 | some v=>if v < 0 then (v + (n:Int)).toNat else min v.toNat n
theorem sIx_none (n d:Nat):sIx n d none=d:=rfl
theorem sIx_nat (n d k:Nat):sIx n d (some (k:Int))=min k n:=by
 show (if (k:Int) < 0 then ((k:Int) + (n:Int)).toNat else min (k:Int).toNat n)=min k n;rw [if_neg (by omega),Int.toNat_natCast]
end
end HT
namespace L2
open PySem PySem.Spec PyProof.Rows
noncomputable abbrev TO:=St->Hp->(Option Int->Hp->Prop)->Prop
noncomputable def PO (X:Cx) (e:Option Expr) (t:TO):Prop:=
 ∀ (pins:List (Addr × Obj)) (s:Shared) (σ:St) (H:Hp) (Q:Option Int->Hp->Prop),Inv X pins σ H s->t σ H Q ->
  wpAny (model X.prog X.w) X.A (evalPart e X.env) (fun u s'=>∃ o H',Inv X pins σ H' s'/\IsPart u o/\Q o H') X.xe s
noncomputable def Zi:TO:=fun _ H Q=>Q none H
noncomputable def em (t:TE):TO:=fun σ H Q=>t σ H fun x H1=>∃ i,x=.int i/\Q (some i) H1
section
variable {X:Cx} {e:Expr} {te:TE} {lo hi:Option Expr} {tl th:TO} {pos p2:Pos}
theorem re:PO X none Zi:=by
 intro pins s σ H Q I h;rw [evalPart_none];exact wpAny_pure ⟨none,H,I,.none,h⟩
theorem Ed (h:PE X e te):PO X (some e) (em te):=by
 intro pins s σ H Q I hw;rw [evalPart_some];refine thn (h pins s σ H _ I hw) fun u s1 hZ1=>?_
 obtain ⟨x,H1,I1,r1,q1⟩:=hZ1;obtain ⟨i,rfl,q⟩:=q1;obtain ⟨t,rfl⟩:=r1;exact ⟨some i,H1,I1,.int i t,q⟩
noncomputable def SlR (X:Cx) (r:V->Option Int->Option Int->Hp->VK->Prop):Prop:=
 ∀ (pins:List (Addr × Obj)) (s:Shared) (σ:St) (H:Hp) (x:V) (v vl vu:Value) (lo hi:Option Int) (sl:Addr) (Q:VK),Inv X pins σ H s->Qb x v->s.heap.IsSliceOf sl vl vu .none->IsPart vl lo->IsPart vu hi->r x lo hi H Q ->
  ∃ T id,typeLookup (.type T) "__getitem__"=pure (some (.builtin id))/\s.TypeIs v T/\wpAny (model X.prog X.w) X.A (getItem v (.ref sl)) (EP X pins σ Q) X.xe s
noncomputable def tSl (r:V->Option Int->Option Int->Hp->VK->Prop) (te:TE) (tl th:TO):TE:=fun σ H Q=>te σ H fun x H1=>tl σ H1 fun l H2=>th σ H2 fun u H3=>r x l u H3 Q
theorem kd {r:V->Option Int->Option Int->Hp->VK->Prop} (hr:SlR X r) (he:PE X e te) (hl:PO X lo tl) (hu:PO X hi th):PE X (.Subscript e (.Slice lo hi none p2) pos) (tSl r te tl th):=by
 intro pins s σ H Q I h;refine Subscript_ (thn (he pins s σ H _ I h) fun v s1 hZ1=>?_);obtain ⟨x,H1,I1,r1,q1⟩:=hZ1;refine wpAny_Slice (thn (hl pins s1 σ H1 _ I1 q1) fun vl s2 ⟨l,H2,I2,pl,q2⟩=>thn (hu pins s2 σ H2 _ I2 q2) fun vu s3 hZ1=>?_);obtain ⟨u,H3,I3,pu,q3⟩:=hZ1;rw [evalPart_none];refine wpAny_pure ?_;have I4:Inv X pins σ H3 { s3 with heap:=s3.heap.push { cls:=.type "slice",data:=.fields #[vl,vu,.none] } }:=I3.kept (t':=s3.toks) fun b ob q=>Heap.get?_push_of_some _ q
 obtain ⟨T,id,hT,ht,hg⟩:=hr pins { s3 with heap:=s3.heap.push { cls:=.type "slice",data:=.fields #[vl,vu,.none] } } σ H3 x v vl vu l u s3.heap.objs.size Q I4 r1 (Heap.IsSliceOf.new ..) pl pu q3;show wpAny (model X.prog X.w) X.A (subscriptTail e (.Slice lo hi none p2) v (.ref s3.heap.objs.size)) (EP X pins σ Q) X.xe { s3 with heap:=s3.heap.push { cls:=.type "slice",data:=.fields #[vl,vu,.none] } };exact tail_any (ops:=[.ref s3.heap.objs.size,v]) ht hT hg (by with_unfolding_all rfl)
noncomputable def Sk (xs:List V) (lo hi:Option Int):List V:=(xs.drop (HT.sIx xs.length 0 lo)).take (HT.sIx xs.length xs.length hi - HT.sIx xs.length 0 lo)
theorem xg (xs:List V) (lo hi:Option Int):(Sk xs lo hi).length <= xs.length:=by
 unfold Sk;rw [length_take,List.length_drop];omega
end
end L2
namespace L2
open PySem PySem.Spec PyProof.Rows
noncomputable def ixN (n:Nat) (i:Int):Option Nat:=if 0 <= i then (if i < n then some i.toNat else none) else if -(n:Int) <= i then some (i + n).toNat else none
noncomputable def atI {α:Type} (xs:List α) (i:Int):Option α:=(ixN xs.length i).bind fun j=>xs[j]?
theorem ol {n:Nat} {i:Int} {j:Nat} (h:ixN n i=some j):seqIndex? i n=some j/\j < n/\-(n:Int) <= i/\i < n:=by
 unfold ixN at h;by_cases h0:0 <= i
 ·rw [if_pos h0] at h;by_cases h1:i < n
  ·rw [if_pos h1] at h;have e:i.toNat=j:=Option.some.inj h;exact ⟨by rw [seqIndex_of h0 h1,e],by omega,by omega,h1⟩
  ·rw [if_neg h1] at h;cases h
 ·rw [if_neg h0] at h;by_cases h1:-(n:Int) <= i
  ·rw [if_pos h1] at h;have e:(i + n).toNat=j:=Option.some.inj h;exact ⟨by rw [seqIndex_neg (by omega) h1,e],by omega,h1,by omega⟩
  ·rw [if_neg h1] at h;cases h
theorem aj {α:Type} {xs:List α} {i:Int} {v:α} (h:atI xs i=some v):∃ j,seqIndex? i xs.length=some j/\xs[j]? = some v/\j < xs.length/\-(xs.length:Int) <= i/\i < xs.length:=by
 unfold atI at h;cases e:ixN xs.length i with
 | none=>rw [e] at h;cases h
 | some j=>
  rw [e] at h;obtain ⟨h1,h2,h3,h4⟩:=ol e;exact ⟨j,h1,h,h2,h3,h4⟩
theorem yc {α:Type} {xs:List α} {j:Nat} {v:α} (h:xs[j]? = some v):atI xs (j:Int)=some v:=by
 have hj:j < xs.length:=(List.getElem?_eq_some_iff.mp h).1;have e:ixN xs.length (j:Int)=some j:=by
  unfold ixN;rw [if_pos (by omega),if_pos (by omega)];simp
 unfold atI;rw [e];exact h
noncomputable def zl (b:Expr):Prop:=∀ o i,subscripted b false o i=operate [o,i] (getItem o i)
noncomputable def IxR (X:Cx) (r:R2):Prop:=
 ∀ (value slice:Expr) (pins:List (Addr × Obj)) (s:Shared) (σ:St) (H:Hp) (x y:V) (v u:Value) (Q:VK),Inv X pins σ H s->Qb x v->Qb y u->r x y H Q ->
  subscripted slice false v u=operate [v,u] (getItem v u)->wpAny (model X.prog X.w) X.A (subscriptTail value slice v u) (EP X pins σ Q) X.xe s
noncomputable def MtR (X:Cx) (id:String) (r:V->List V->Hp->VK->Prop):Prop:=
 ∀ (pins:List (Addr × Obj)) (s:Shared) (σ:St) (H:Hp) (x:V) (xs:List V) (v:Value) (us:List Value) (Q:VK),Inv X pins σ H s->Qb x v->Pb xs us->r x xs H Q ->
  wpAny (model X.prog X.w) X.A (call (.builtin id) (v :: us)) (EP X pins σ Q) X.xe s
section
variable {X:Cx} {a b:Expr} {ta tb:TE} {pos:Pos}
theorem ye {r:R2} (hr:IxR X r) (ha:PE X a ta) (hb:PE X b tb) (hs:zl b):PE X (.Subscript a b pos) (tOp r ta tb):=by
 intro pins s σ H Q I h;exact Subscript_ (bn ha hb I h fun v u s2 x y H2 I2 rx ry q=>hr a b pins s2 σ H2 x y v u Q I2 rx ry q (hs _ _))
noncomputable def On (K:W.Frag):R2:=fun x y H Q=>∃ p xs i v,x=.ref p/\y=.int i/\SqL K H p xs/\atI xs i=some v/\Q v H
noncomputable def Tn:R2:=fun x y H Q=>∃ z i c,x=.str z/\y=.int i/\z.length <= sizeLine/\atI z.cps.toList i=some c/\Q (.str ⟨#[c]⟩) H
theorem Ud:IxR X (On X.K):=by
 intro value slice pins s σ H x y v u Q I rx ry h hs;obtain ⟨p,xs,i,z,rfl,rfl,hq,he,q⟩:=h;cases rx;obtain ⟨t,rfl⟩:=ry;obtain ⟨its,r,pl,hz⟩:=I.list hq;obtain ⟨j,h1,h2,h3,h4,h5⟩:=aj he;obtain ⟨w,ew,rw'⟩:=r.get h2;have hl:=r.length;have hn:=Tf;have fin:EP X pins σ Q w s:=⟨z,H,I,rw',q⟩;by_cases h0:0 <= i
 ·have hj:i.toNat=j:=by
   rw [seqIndex_of h0 h5] at h1;exact Option.some.inj h1
  exact item_listR pl.isList h0 (by omega) (by rw [hj];simpa using ew) fin hs
 ·have hj:(i + (its.toArray.size:Int)).toNat=j:=by
   rw [seqIndex_neg (by omega) h4] at h1;rw [size_toArray,<- hl];exact Option.some.inj h1
  exact subscriptTail_builtinR (x:=w) pl.isList.typeIs slot_list_getitem.lookup
   (wpAny_getItem_list_neg (Q:=fun r s'=>r=w/\EP X pins σ Q r s') pl.isList (by omega) (by rw [size_toArray] <;> omega) (by omega) (by rw [hj];simpa using ew) ⟨rfl,fin⟩) hs
theorem vf:IxR X Tn:=by
 intro value slice pins s σ H x y v u Q I rx ry h hs;obtain ⟨z,i,c,rfl,rfl,hz,he,q⟩:=h;obtain ⟨t,rfl⟩:=rx;obtain ⟨t',rfl⟩:=ry;obtain ⟨j,h1,h2,h3,h4,h5⟩:=aj he;have hl:z.cps.toList.length=z.length:=by simp [Str.length]
 rw [hl] at h1 h4 h5;have hn:=Tf;exact tail_any (typeIs_str s z t) slot_str_getitem.lookup (getItem_str (c:=c) (by
  have e1:decide (i < -(2 ^ 63:Int))=false:=decide_eq_false (by omega);have e2:decide (i ≥ 2 ^ 63)=false:=decide_eq_false (by omega);rw [e1,e2,Bool.or_false]) (by rw [h1];simpa using h2) ⟨.str ⟨#[c]⟩,H,I.tok _,⟨_,rfl⟩,q⟩) hs
theorem Inv.lst {pins:List (Addr × Obj)} {σ:St} {H:Hp} {s:Shared} {p:Addr} {xs:List V} (I:Inv X pins σ H s) (h:H p=some (.lst xs)) :
  ∃ (its:List Value) (n:Nat),Pb xs its/\s.heap.get? p=some { cls:=.type "list",data:=.seq its.toArray n }/\xs.length <= sizeLine:=by
 obtain ⟨z,its,n,r,e⟩:=I.hok p _ h;exact ⟨its,n,r,e,z⟩
theorem Kf (lo hi:Option Int) (n:Nat):(sliceBounds lo hi none n).1=((HT.sIx n 0 lo:Nat):Int)/\(sliceBounds lo hi none n).2.1=((HT.sIx n n hi:Nat):Int)/\(sliceBounds lo hi none n).2.2=1:=by
 refine ⟨?_,?_,rfl⟩
 ·cases lo with
  | none=>simp [sliceBounds,HT.sIx]
  | some i=>
   simp only [sliceBounds,HT.sIx,Option.getD_none,show (1:Int) > 0 by decide,if_true];by_cases h:i < 0
   ·simp only [h,if_true] <;> omega
   ·simp only [h,if_false] <;> omega
 ·cases hi with
  | none=>simp [sliceBounds,HT.sIx]
  | some i=>
   simp only [sliceBounds,HT.sIx,Option.getD_none,show (1:Int) > 0 by decide,if_true];by_cases h:i < 0
   ·simp only [h,if_true] <;> omega
   ·simp only [h,if_false] <;> omega
theorem df (its:List Value) (lo hi:Option Int):slicePick its.toArray lo hi none=((its.drop (HT.sIx its.length 0 lo)).take (HT.sIx its.length its.length hi - HT.sIx its.length 0 lo)).toArray:=by
 obtain ⟨h1,h2,h3⟩:=Kf lo hi its.toArray.size;unfold slicePick;rw [h1,h2,h3];simp only [sliceRange_one,pick_run,size_toArray] <;> rfl
noncomputable def Rn (K:W.Frag):V->Option Int->Option Int->Hp->VK->Prop:=fun x lo hi H Q=>∃ a xs,x=.ref a/\SqL K H a xs/\∀ p,H p=none->Q (.ref p) (upd H p (.lst (Sk xs lo hi)))
theorem Il:SlR X (Rn X.K):=by
 intro pins s σ H x v vl vu lo hi sl Q I rx hs pl pu h;obtain ⟨a,xs,rfl,hx,q⟩:=h;cases rx;obtain ⟨its,r,ht,hz⟩:=I.list hx;have hlen:=r.length;refine ⟨"list",_,slot_list_getitem.lookup,ht.isList.typeIs,?_⟩;refine wpAny_getItem_list_slice ht.isList hs pl pu .none (by simp) ?_ (by rw [size_toArray] <;> omega);rw [df,<- hlen];refine ⟨.ref s.heap.objs.size,_,I.laid (t':=s.toks) (o:=.lst (Sk xs lo hi)) (fun b ob q=>Heap.get?_push_of_some _ q) (Nat.le_refl _) ?_,rfl,q _ (I.hok.fresh (Nat.le_refl _))⟩;exact ⟨Nat.le_trans (xg xs lo hi) hz,_,0,(r.drop (HT.sIx xs.length 0 lo)).take (HT.sIx xs.length xs.length hi - HT.sIx xs.length 0 lo),Heap.get?_push_size _ rfl⟩
noncomputable def Fe:V->Bool
 | .non=>true
 | .bl _=>true
 | .int _=>true
 | .str _=>true
 | _=>false
noncomputable def eqV:V->V->Bool
 | .non,.non=>true
 | .bl a,.bl b=>a == b
 | .bl a,.int b=>(if a then 1 else 0) == b
 | .int a,.bl b=>a == (if b then 1 else 0)
 | .int a,.int b=>a == b
 | .str a,.str b=>a == b
 | _,_=>false
theorem ck {A:Around} {s:Shared} {y x:V} {u v:Value} (ry:Qb y u) (rx:Qb x v) (fy:Fe y=true) (fx:Fe x=true):SeqAt.EqAt A s u v (eqV y x):=by
 cases y with
 | non=>
  cases ry;cases x with
  | non=>cases rx;exact SeqAt.EqAt.same _
  | bl b=>cases rx;exact SeqAt.EqAt.none_bool b
  | int b=>obtain ⟨t,rfl⟩:=rx;exact SeqAt.EqAt.none_int b t
  | str b=>obtain ⟨t,rfl⟩:=rx;exact SeqAt.EqAt.none_str b t
  | _=>exact absurd (show false=true from fx) Bool.false_ne_true
 | bl a=>
  cases ry;cases x with
  | non=>cases rx;exact SeqAt.EqAt.bool_none a
  | bl b=>cases rx;exact SeqAt.EqAt.bool_bool a b
  | int b=>obtain ⟨t,rfl⟩:=rx;exact SeqAt.EqAt.bool_int a b t
  | str b=>obtain ⟨t,rfl⟩:=rx;exact SeqAt.EqAt.bool_str a b t
  | _=>exact absurd (show false=true from fx) Bool.false_ne_true
 | int a=>
  obtain ⟨t',rfl⟩:=ry;cases x with
  | non=>cases rx;exact SeqAt.EqAt.int_none a t'
  | bl b=>cases rx;exact SeqAt.EqAt.int_bool a t' b
  | int b=>obtain ⟨t,rfl⟩:=rx;exact SeqAt.EqAt.int_int a t' b t
  | str b=>obtain ⟨t,rfl⟩:=rx;exact SeqAt.EqAt.int_str a t' b t
  | _=>exact absurd (show false=true from fx) Bool.false_ne_true
 | str a=>
  obtain ⟨t',rfl⟩:=ry;cases x with
  | non=>cases rx;exact SeqAt.EqAt.str_none a t'
  | bl b=>cases rx;exact SeqAt.EqAt.str_bool a t' b
  | int b=>obtain ⟨t,rfl⟩:=rx;exact SeqAt.EqAt.str_int a t' b t
  | str b=>obtain ⟨t,rfl⟩:=rx;exact SeqAt.EqAt.str_str a t' b t
  | _=>exact absurd (show false=true from fx) Bool.false_ne_true
 | _=>exact absurd (show false=true from fy) Bool.false_ne_true
theorem Vb:Bf X (.builtin "len") (fun xs H Q=>∃ p ys,xs=[.ref p]/\(SqL X.K H p ys\/SqT X.K H p ys)/\Q (.int ys.length) H):=by
 intro pins s σ H xs us Q I r h;obtain ⟨p,ys,rfl,hq,q⟩:=h;obtain ⟨u,rfl,rx⟩:=Wf r;cases rx;have hn:=Tf;rcases hq with hq | hq
 ·obtain ⟨its,r',pl,hz⟩:=I.list hq;have hlen:=r'.length;exact Calls.call_len_list pl.isList (by simp only [size_toArray] <;> omega) ⟨.int ys.length,H,I.tok _,⟨s.toks + 1,by rw [size_toArray,hlen]⟩,q⟩
 ·obtain ⟨its,r',pl,hz⟩:=I.tuple hq;have hlen:=r'.length;exact len_tuple pl (by simp only [size_toArray] <;> omega) ⟨.int ys.length,H,I.tok _,⟨s.toks + 1,by rw [size_toArray,hlen]⟩,q⟩
theorem Uf:Bf X (.builtin "len") (fun xs H Q=>∃ z,xs=[.str z]/\z.length <= sizeLine/\Q (.int z.length) H):=by
 intro pins s σ H xs us Q I r h;obtain ⟨z,rfl,hz,q⟩:=h;obtain ⟨u,rfl,t,rfl⟩:=Wf r;have hn:=Tf;exact len_str (by omega) ⟨.int z.length,H,I.tok _,⟨_,rfl⟩,q⟩
theorem Yd:Bf X (.type "list") (fun xs H Q=>∃ p ys,xs=[.ref p]/\(SqL X.K H p ys\/SqT X.K H p ys)/\∀ l,H l=none->Q (.ref l) (upd H l (.lst ys))):=by
 intro pins s σ H xs us Q I r h;obtain ⟨p,ys,rfl,hq,q⟩:=h;obtain ⟨u,rfl,rx⟩:=Wf r;cases rx;have fin:∀ (its:List Value),Pb ys its->ys.length <= sizeLine->∀ (h':Heap) (c':Nat),(∀ b o',s.heap.get? b=some o'->h'.get? b=some o') ->
   h'.get? s.heap.objs.size=some { cls:=.type "list",dict:=none,data:=.seq its.toArray c',slots:=#[] }->EP X pins σ Q (.ref s.heap.objs.size) { s with heap:=h' }:=fun its r' hz h' c' kp e=>
  ⟨.ref s.heap.objs.size,_,I.laid (t':=s.toks) kp (Nat.le_refl _) (show Kb X.prog X.w _ h' _ (.lst ys) from ⟨hz,its,c',r',e⟩),rfl,q _ (I.hok.fresh (Nat.le_refl _))⟩
 rcases hq with hq | hq
 ·obtain ⟨its,r',pl,hz⟩:=I.list hq;have hlen:=r'.length;obtain ⟨o,ho,hc,n,hd⟩:=pl.isList;exact call_list_seq p (.inl rfl) ho hc hd (fun h' c' kp e=>fin its r' hz h' c' kp e) (by simp only [size_toArray] <;> omega)
 ·obtain ⟨its,r',pl,hz⟩:=I.tuple hq;have hlen:=r'.length;obtain ⟨o,ho,hc,n,hd⟩:=pl;exact call_list_seq p (.inr rfl) ho hc hd (fun h' c' kp e=>fin its r' hz h' c' kp e) (by simp only [size_toArray] <;> omega)
noncomputable def tyV (K:W.Frag) (T:String) (x:V) (H:Hp):Prop:=match x with
 | .str _=>T = "str"
 | .int _=>T = "int"
 | .ref p=>(T = "list" /\ ∃ xs,SqL K H p xs)\/(T = "tuple" /\ ∃ o,K.lookup p=some o/\o.cls=.type "tuple" /\ o.dict=none) \/
   (T = "dict" /\ ((∃ kvs,H p=some (.dK kvs))\/∃ kvs,H p=some (.dT kvs)))\/(T = "set" /\ ∃ S n,H p=some (.set S n))
 | _=>False
theorem nk {pins:List (Addr × Obj)} {σ:St} {H:Hp} {s:Shared} {T:String} {x:V} {v:Value} (I:Inv X pins σ H s) (r:Qb x v) (ty:tyV X.K T x H) :
  s.TypeIs v T/\∀ a,v=.ref a->∃ ob,s.heap.get? a=some ob/\ob.dict=none:=by
 cases x with
 | str z=>
  obtain ⟨t,rfl⟩:=r;cases (show T = "str" from ty);exact ⟨typeIs_str s z t,fun _ e=>nomatch e⟩
 | int i=>
  obtain ⟨t,rfl⟩:=r;cases (show T = "int" from ty);exact ⟨typeIs_int s i t,fun _ e=>nomatch e⟩
 | ref p=>
  cases r;rcases ty with ⟨rfl,xs,hq⟩ | ⟨rfl,o,hk,hc,hd⟩ | ⟨rfl,hk⟩ | ⟨rfl,S,n,hk⟩
  ·obtain ⟨its,_,pl,_⟩:=I.list hq;refine ⟨pl.isList.typeIs,fun a e=>?_⟩;cases e;obtain ⟨o,n,e,c,hd,_⟩:=pl;exact ⟨o,e,hd⟩
  ·refine ⟨⟨o,I.kIn p o hk,hc⟩,fun a e=>?_⟩;cases e;exact ⟨o,I.kIn _ o hk,hd⟩
  ·have z:∃ o,s.heap.get? p=some o/\o.ExactDict:=by
    rcases hk with ⟨kvs,hk⟩ | ⟨kvs,hk⟩
    ·obtain ⟨_,_,_,_,o,_,_,e,ex,_⟩:=I.hok p _ hk;exact ⟨o,e,ex⟩
    ·obtain ⟨_,_,_,_,o,_,_,e,ex,_⟩:=I.hok p _ hk;exact ⟨o,e,ex⟩
   obtain ⟨o,e,ex⟩:=z;refine ⟨⟨o,e,ex.1⟩,fun a e2=>?_⟩;cases e2;exact ⟨o,e,ex.2.1⟩
  ·obtain ⟨o,_,_,_,e,ex,_⟩:=I.hok p _ hk;refine ⟨⟨o,e,ex.1⟩,fun a e2=>?_⟩;cases e2;exact ⟨o,e,ex.2.1⟩
 | _=>exact False.elim ty
noncomputable def Wn (K:W.Frag) (T:String) (r:V->List V->Hp->VK->Prop) (to:TE):TE:=fun σ H Q=>to σ H fun x H1=>tyV K T x H1/\r x [] H1 Q
noncomputable def tBM (K:W.Frag) (T:String) (r:V->List V->Hp->VK->Prop) (to:TE) (t:TA):TE:=fun σ H Q=>to σ H fun x H1=>tyV K T x H1/\t σ H1 fun xs H2=>r x xs H2 Q
variable {o e:Expr} {es:List Expr} {to:TE} {t:TA} {name:Str} {apos cpos:Pos} {T id:String} {r:V->List V->Hp->VK->Prop}
theorem Lg (pa:PlainAttrs T) (slot:Slot T name id) (hty:typeOf (.builtin id)=pure (.type "method_descriptor")) (hm:MtR X id r) (ho:PE X o to)
  (hbase:attributeBase o name X.env (eval o X.env)=eval o X.env:=by rfl) (hline:(apos.endLine == cpos.line)=true:=by rfl):PE X (.Call (.Attribute o name apos) [] [] cpos) (Wn X.K T r to):=by
 intro pins s σ H Q I h;refine wpAny_Call_method0_late hbase hline (thn (ho pins s σ H _ I h) fun v s1 hZ1=>?_);obtain ⟨x,H1,I1,r1,ty,q1⟩:=hZ1;obtain ⟨h1,h2⟩:=nk I1 r1 ty;exact ⟨T,id,pa,slot,hty,h1,h2,Calls.callWith_builtin rfl (PySem.evalArgs_none (hm pins s1 σ H1 x [] v [] Q I1 r1 .nil q1))⟩
theorem Hd (pa:PlainAttrs T) (slot:Slot T name id) (hty:typeOf (.builtin id)=pure (.type "method_descriptor")) (hm:MtR X id r) (ho:PE X o to) (ha:PA X (e :: es) t)
  (hbase:attributeBase o name X.env (eval o X.env)=eval o X.env:=by rfl)
  (hfew:((backTo cpos (starEach (e :: es) X.env)).all (fun x=>!x.1) && (backToKw cpos (keywordEach [] X.env)).all (fun x=>x.1.isSome)
   && decide ((e :: es).length + ([]:List Keyword).length + (if ([]:List Keyword).isEmpty then 0 else 1) < 30))=true:=by rfl)
  (hline:(apos.endLine == cpos.line)=true:=by rfl) (hs:starEach (e :: es) X.env=(false,eval e X.env) :: starEach es X.env:=by rfl) (hplain:(backTo cpos (starEach es X.env)).any (·.1)=false:=by rfl) :
  PE X (.Call (.Attribute o name apos) (e :: es) [] cpos) (tBM X.K T r to t):=by
 intro pins s σ H Q I h;refine wpAny_Call_method_late hbase hfew hline rfl (thn (ho pins s σ H _ I h) fun v s1 hZ1=>?_);obtain ⟨x,H1,I1,r1,ty,q1⟩:=hZ1;obtain ⟨h1,h2⟩:=nk I1 r1 ty;refine ⟨T,id,pa,slot,hty,h1,h2,?_⟩;have hA:=ha cpos pins s1 σ H1 _ I1 q1;rw [hs] at hA ⊢;refine Calls.callWith_builtin (by show (false || (backTo cpos (starEach es X.env)).any (·.1))=false;rw [hplain] <;> rfl) (Calls.evalArgs_plain ?_);exact thn hA fun us s2 ⟨vs,H2,I2,r2,q2⟩=>hm pins s2 σ H2 x vs v us Q I2 r1 r2 q2
end
end L2
namespace L2
open PySem PySem.Spec PyProof.Rows
noncomputable def MtM (X:Cx) (id:String) (r:V->List V->Hp->VK->Prop):Prop:=
 ∀ (pins:List (Addr × Obj)) (s:Shared) (σ:St) (H:Hp) (x:V) (xs:List V) (v:Value) (us:List Value) (Q:VK),Inv X pins σ H s->Qb x v->Pb xs us->r x xs H Q ->
  wpAny (model X.prog X.w) X.A (call (.builtin id) (v :: us)) (EP X pins σ Q) X.xe s
theorem Pb.one:∀ {x:V} {us:List Value},Pb [x] us->∃ u,us=[u]/\Qb x u
 | _,_,.cons r .nil=>⟨_,rfl,r⟩
theorem Pb.two:∀ {x y:V} {us:List Value},Pb [x,y] us->∃ u v,us=[u,v]/\Qb x u/\Qb y v
 | _,_,_,.cons r (.cons q .nil)=>⟨_,_,rfl,r,q⟩
theorem Pb.zero:∀ {us:List Value},Pb [] us->us=[]
 | _,.nil=>rfl
theorem Pb.reverse {xs:List V} {us:List Value} (h:Pb xs us):Pb xs.reverse us.reverse:=by
 induction h with
 | nil=>exact .nil
 | cons r t ih=>rw [List.reverse_cons,List.reverse_cons];exact Pb.append ih (.cons r .nil)
section
variable {X:Cx} {pins:List (Addr × Obj)} {σ:St} {H:Hp} {s:Shared} {l b:Addr} {xs ys zs:List V}
theorem Inv.lset {its its':List Value} {n:Nat} {f:Array Value->Array Value} {t':Nat} (I:Inv X pins σ H s) (hH:H l=some (.lst xs))
  (e:s.heap.get? l=some { cls:=.type "list",data:=.seq its.toArray n }) (hf:f its.toArray=its'.toArray) (hv:Pb ys its') (hz:ys.length <= sizeLine) :
  Inv X pins σ (upd H l (.lst ys)) { s with heap:=s.heap.update l (Obj.mapSeq f),toks:=t' }:=by
 have q:=PySem.IsL.update e f;rw [hf] at q;refine I.write (x:=l) (e:=l) (by rw [hH];exact trivial) (.inl rfl) (fun b' u hb hu=>(Heap.get?_update_other s.heap (Obj.mapSeq f) (Ne.symm hb)).trans hu) ⟨_,q⟩ ?_;exact ⟨hz,its',_,hv,q⟩
theorem Inv.fresh (I:Inv X pins σ H s):H s.heap.objs.size=none:=I.hok.fresh (Nat.le_refl _)
theorem Inv.lstM (I:Inv X pins σ H s) (hH:H l=some (.lst xs)):xs.length <= sizeLine/\∃ (its:List Value) (n:Nat),Pb xs its/\xs.length=its.length/\s.heap.get? l=some { cls:=.type "list",data:=.seq its.toArray n }:=by
 obtain ⟨z,its,n,r,e⟩:=I.hok l _ hH;exact ⟨z,its,n,r,r.length,e⟩
theorem jj {n:Nat} (h:n <= sizeLine):Builtin.List.listTooLong n=false:=by
 unfold Builtin.List.listTooLong;exact decide_eq_false (by omega)
end
section
variable {X:Cx}
noncomputable def Ii:V->List V->Hp->VK->Prop:=fun x vs H Q=>∃ l xs y,x=.ref l/\vs=[y]/\H l=some (.lst xs)/\xs.length < sizeLine/\Q .non (upd H l (.lst (xs ++ [y])))
theorem bd:MtM X "list.append" Ii:=by
 intro pins s σ H x vs v us Q I rx rv h;obtain ⟨l,xs,y,rfl,rfl,hH,hz,q⟩:=h;cases rx;obtain ⟨u,rfl,ru⟩:=rv.one;obtain ⟨z,its,n,r,hl,e⟩:=I.lstM hH;refine call_meets F.slot_list_append ⟨_,e,rfl⟩ F.entry_list_append (F.args_list_append_2 _ _) (PySem.list_append l its.toArray n u (by rw [size_toArray];omega)) ⟨e,?_⟩;refine ⟨.non,_,I.lset (its':=its ++ [u]) hH e (by simp) (r.append (.cons ru .nil)) ?_,rfl,q⟩;rw [length_append,List.length_singleton];omega
noncomputable def Wh:V->List V->Hp->VK->Prop:=fun x vs H Q=>∃ l b xs zs,x=.ref l/\vs=[.ref b]/\H l=some (.lst xs)/\H b=some (.lst zs)/\xs.length + zs.length <= sizeLine/\Q .non (upd H l (.lst (xs ++ zs)))
theorem Fi:MtM X "list.extend" Wh:=by
 intro pins s σ H x vs v us Q I rx rv h;obtain ⟨l,b,xs,zs,rfl,rfl,hH,hB,hz,q⟩:=h;cases rx;obtain ⟨u,rfl,ru⟩:=rv.one;cases ru;obtain ⟨z,its,n,r,hl,e⟩:=I.lstM hH;obtain ⟨z2,its2,n2,r2,hl2,e2⟩:=I.lstM hB;have hsz:its.toArray.size + its2.toArray.size <= sizeLine:=by rw [size_toArray,size_toArray];omega
 have hlong:¬ (!its.toArray.isEmpty && Builtin.List.listTooLong (its.toArray.size + its2.toArray.size))=true:=by
  rw [jj hsz,Bool.and_false];exact Bool.false_ne_true
 refine call_meets F.slot_list_extend ⟨_,e,rfl⟩ F.entry_list_extend (F.args_list_extend_2 _ _)
  (AutoSeq1.list_extend_list_list_0 l its.toArray n b its2.toArray n2 hlong (by rw [size_toArray];omega) (by omega)) ⟨e,e2,?_⟩
 refine ⟨.non,_,I.lset (its':=its ++ its2) hH e (by simp) (r.append r2) ?_,rfl,q⟩;rw [length_append];omega
noncomputable def Vg:V->List V->Hp->VK->Prop:=fun x vs H Q=>∃ l xs,x=.ref l/\vs=[]/\H l=some (.lst xs)/\Q .non (upd H l (.lst xs.reverse))
theorem Ch:MtM X "list.reverse" Vg:=by
 intro pins s σ H x vs v us Q I rx rv h;obtain ⟨l,xs,rfl,rfl,hH,q⟩:=h;cases rx;have hus:=rv.zero;subst hus;obtain ⟨z,its,n,r,hl,e⟩:=I.lstM hH;refine call_meets F.slot_list_reverse ⟨_,e,rfl⟩ F.entry_list_reverse (F.args_list_reverse_1 _) (AutoSeq1.list_reverse_list_0 l its.toArray n (by rw [size_toArray];omega)) ⟨e,?_⟩;refine ⟨.non,_,I.lset (its':=its.reverse) hH e (by simp) r.reverse ?_,rfl,q⟩;rw [List.length_reverse];omega
end
section
variable {prog:Program} {w:World} {A:Around} {E:Value->Shared->Prop} {s:Shared}
end
section
variable {X:Cx}
end
end L2
namespace L2
open PySem PySem.Spec PyProof.Rows
section
variable {κ:Type} [DecidableEq κ]
noncomputable def Dg (kvs:List (κ × V)) (k:κ):Option V:=(kvs.find? fun kv=>decide (kv.1=k)).map (·.2)
noncomputable def ig (kvs:List (κ × V)) (k:κ) (v:V):List (κ × V):=
 if (kvs.any fun kv=>decide (kv.1=k))=true then kvs.map (fun kv=>if kv.1=k then (kv.1,v) else kv) else kvs ++ [(k,v)]
noncomputable def ym (kvs:List (κ × V)) (k:κ):List (κ × V):=kvs.filter fun kv=>decide (kv.1 ≠ k)
theorem gf {p:κ × V} {r:List (κ × V)} {k:κ} (e:p.1=k):Dg (p :: r) k=some p.2:=by simp [Dg,find?_cons,e]
theorem ff {p:κ × V} {r:List (κ × V)} {k:κ} (e:¬ p.1=k):Dg (p :: r) k=Dg r k:=by simp [Dg,find?_cons,e]
theorem bh (k:κ):∀ kvs:List (κ × V),(kvs.any fun kv=>decide (kv.1=k))=(Dg kvs k).isSome
 | []=>rfl
 | p :: r=>by
  rw [List.any_cons];by_cases e:p.1=k
  ·simp only [gf e,decide_eq_true e,Bool.true_or,Option.isSome_some]
  ·rw [ff e,decide_eq_false e,Bool.false_or];exact bh k r
theorem ue (kvs:List (κ × V)) (k:κ) (v:V):(ig kvs k v).length <= kvs.length + 1:=by
 unfold ig;split
 ·rw [length_map];omega
 ·rw [length_append,length_cons,List.length_nil];omega
theorem gh.isSome_eq {o:Option V} {u:Option Value} (r:gh o u):o.isSome=u.isSome:=by
 cases o with
 | none=>cases u with
  | none=>rfl
  | some _=>exact (show False from r).elim
 | some _=>cases u with
  | none=>exact (show False from r).elim
  | some _=>rfl
theorem gh.getD {o:Option V} {u:Option Value} {d:V} {d':Value} (r:gh o u) (rd:Qb d d'):Qb (o.getD d) (u.getD d'):=by
 cases o with
 | none=>cases u with
  | none=>exact rd
  | some _=>exact (show False from r).elim
 | some _=>cases u with
  | none=>exact (show False from r).elim
  | some _=>exact r
theorem KV.val {kvs:List (κ × V)} {vs:List (κ × Value)} (r:KV kvs vs) (k:κ):gh (Dg kvs k) (valueAt vs k):=by
 unfold KV at r
 induction r with
 | nil=>exact True.intro
 | @cons p q ps qs h t ih=>
  obtain ⟨h1,h2⟩:=h;by_cases e:p.1=k
  ·have e':q.1=k:=h1.symm.trans e;have b:valueAt (q :: qs) k=some q.2:=by simp [valueAt,find?_cons,e']
   rw [gf e,b];exact h2
  ·have e':¬ q.1=k:=fun z=>e (h1.trans z)
   have b:valueAt (q :: qs) k=valueAt qs k:=by simp [valueAt,find?_cons,e']
   rw [ff e,b];exact ih
theorem KV.any {kvs:List (κ × V)} {vs:List (κ × Value)} (r:KV kvs vs) (k:κ):(kvs.any fun kv=>decide (kv.1=k))=vs.any fun kv=>decide (kv.1=k):=by
 unfold KV at r
 induction r with
 | nil=>rfl
 | cons h t ih=>rw [List.any_cons,List.any_cons,ih,h.1]
theorem KV.repl {kvs:List (κ × V)} {vs:List (κ × Value)} (r:KV kvs vs) (k:κ) {y:V} {u:Value} (ry:Qb y u) :
  KV (kvs.map fun kv=>if kv.1=k then (kv.1,y) else kv) (vs.map fun kv=>if kv.1=k then (kv.1,u) else kv):=by
 unfold KV at r ⊢
 induction r with
 | nil=>exact .nil
 | @cons p q ps qs h t ih=>
  rw [map_cons,map_cons];refine .cons ?_ ih;obtain ⟨h1,h2⟩:=h;by_cases e:p.1=k
  ·rw [if_pos e,if_pos (h1.symm.trans e)];exact ⟨h1,ry⟩
  ·rw [if_neg e,if_neg (fun z=>e (h1.trans z))];exact ⟨h1,h2⟩
theorem KV.put {kvs:List (κ × V)} {vs:List (κ × Value)} (r:KV kvs vs) (k:κ) {y:V} {u:Value} (ry:Qb y u):KV (ig kvs k y) (stored vs k u):=by
 unfold ig stored;rw [r.any k];by_cases e:(vs.any fun kv=>decide (kv.1=k))=true
 ·rw [if_pos e,if_pos e];exact r.repl k ry
 ·rw [if_neg e,if_neg e];exact Paired.snoc r ⟨rfl,ry⟩
theorem KV.drop {kvs:List (κ × V)} {vs:List (κ × Value)} (r:KV kvs vs) (k:κ):KV (ym kvs k) (without vs k):=by
 unfold KV at r ⊢;unfold ym without
 induction r with
 | nil=>exact .nil
 | @cons p q ps qs h t ih=>
  obtain ⟨h1,h2⟩:=h;rw [List.filter_cons,List.filter_cons];by_cases e:p.1=k
  ·have a:¬ decide (p.1 ≠ k)=true:=by simp [e]
   have b:¬ decide (q.1 ≠ k)=true:=by simp [h1.symm.trans e]
   rw [if_neg a,if_neg b];exact ih
  ·have e':¬ q.1=k:=fun z=>e (h1.trans z)
   have a:decide (p.1 ≠ k)=true:=by simp [e]
   have b:decide (q.1 ≠ k)=true:=by simp [e']
   rw [if_pos a,if_pos b];exact .cons ⟨h1,h2⟩ ih
theorem KV.length {kvs:List (κ × V)} {vs:List (κ × Value)} (r:KV kvs vs):kvs.length=vs.length:=Paired.length r
end
theorem Kk {P:Program} {w:World} {k:Key} {u:Value} (r:Qb (kV k) u):(Mb P w).is k u=true:=by
 cases k with
 | inl i=>obtain ⟨t,e⟩:=(show ∃ t,u=Value.int i t from r);subst e;exact rg P w i t
 | inr x=>obtain ⟨t,e⟩:=(show ∃ t,u=Value.str x t from r);subst e;exact Cg P w x t
theorem Mf {P:Program} {w:World}:∀ {ks:List Key} {us:List Value},Pb (ks.map kV) us->ItemsAre (Mb P w) ks us
 | [],_,r=>by rw [map_nil] at r;cases r;exact .nil
 | k :: ks,_,r=>by
  rw [map_cons] at r;cases r with
  | cons h t=>exact .cons (Kk h) (Mf t)
noncomputable abbrev KT (H:Hp):List (List Key × V)->List (List Key × Addr × Value)->Prop:=Paired fun p q=>p.1=q.1/\H q.2.1=some (.tup (p.1.map kV))/\Qb p.2 q.2.2
theorem KT.val {H:Hp} {kvs:List (List Key × V)} {xs:List (List Key × Addr × Value)} (r:KT H kvs xs) (k:List Key):gh (Dg kvs k) ((atKey xs k).map (·.2)):=by
 induction r with
 | nil=>exact True.intro
 | @cons p q ps qs h t ih=>
  obtain ⟨h1,_,h2⟩:=h;by_cases e:p.1=k
  ·have e':q.1=k:=h1.symm.trans e;have b:atKey (q :: qs) k=some q.2:=by simp [atKey,find?_cons,e']
   rw [gf e,b];exact h2
  ·have e':¬ q.1=k:=fun z=>e (h1.trans z)
   have b:atKey (q :: qs) k=atKey qs k:=by simp [atKey,find?_cons,e']
   rw [ff e,b];exact ih
theorem KT.repl {H:Hp} {kvs:List (List Key × V)} {xs:List (List Key × Addr × Value)} (r:KT H kvs xs) (k:List Key) {y:V} {u:Value} (ry:Qb y u) :
  KT H (kvs.map fun kv=>if kv.1=k then (kv.1,y) else kv) (xs.map (putAt k u)):=by
 induction r with
 | nil=>exact .nil
 | @cons p q ps qs h t ih=>
  rw [map_cons,map_cons];refine .cons ?_ ih;obtain ⟨h1,h2,h3⟩:=h;unfold putAt;by_cases e:p.1=k
  ·rw [if_pos e,if_pos (h1.symm.trans e)];exact ⟨h1,h2,ry⟩
  ·rw [if_neg e,if_neg (fun z=>e (h1.trans z))];exact ⟨h1,h2,h3⟩
theorem KT.put {H:Hp} {kvs:List (List Key × V)} {xs:List (List Key × Addr × Value)} (r:KT H kvs xs) (k:List Key) {b:Addr} {y:V} {u:Value} (hb:H b=some (.tup (k.map kV))) (ry:Qb y u) :
  KT H (ig kvs k y) (storedH xs k b u):=by
 have e:(kvs.any fun kv=>decide (kv.1=k))=(atKey xs k).isSome:=by
  rw [bh,(r.val k).isSome_eq,Option.isSome_map]
 unfold ig storedH;rw [e];by_cases q:(atKey xs k).isSome=true
 ·rw [if_pos q,if_pos q];exact r.repl k ry
 ·rw [if_neg q,if_neg q];exact Paired.snoc r ⟨rfl,hb,ry⟩
theorem KT.keeps {H H':Hp} {kvs:List (List Key × V)} {xs:List (List Key × Addr × Value)} (r:KT H kvs xs) (ht:∀ b ys,H b=some (.tup ys)->H' b=some (.tup ys)):KT H' kvs xs:=
 Paired.mapP r fun _ _ z=>⟨z.1,ht _ _ z.2.1,z.2.2⟩
section
variable {P:Program} {w:World} {H:Hp} {h:Heap} {a:Addr}
theorem Lm {u:HO} (ok:HOk P w H h) (e:Rd H a u):Kb P w H h a u:=e.ok ok
theorem Wj {kvs:List (Key × V)} (ok:HOk P w H h) (e:Rd H a (.dK kvs)):kvs.length <= sizeLine/\(a == sysModules)=false/\∃ vs,KV kvs vs/\h.DictOf (Mb P w) a vs:=
 show Kb P w H h a (.dK kvs) from Lm ok e
theorem ci {kvs:List (Key × V)} (ok:HOk P w H h) (e:H a=some (.dK kvs)):kvs.length <= sizeLine/\(a == sysModules)=false/\∃ vs,KV kvs vs/\h.DictOf (Mb P w) a vs:=Wj ok (.inl e)
theorem gi {ks:List Key} (ok:HOk P w H h) (e:H a=some (.tup (ks.map kV))):(tupleKind (Mb P w)).is h ks a:=by
 obtain ⟨_,its,r,o,h1,h2,n,h3⟩:=(show Kb P w H h a (.tup (ks.map kV)) from ok a _ e);exact ⟨o,its.toArray,n,h1,h2,h3,by simpa using Mf r⟩
theorem jl {kvs:List (List Key × V)} (ok:HOk P w H h) (e:Rd H a (.dT kvs)):kvs.length <= sizeLine/\(a == sysModules)=false /\
  ∃ xs,KT H kvs xs/\h.DictOfH (tupleKind (Mb P w)) a xs:=by
 obtain ⟨z,y,xs,r,o,es,ep,h1,h2,h3,h4,h5⟩:=(show Kb P w H h a (.dT kvs) from Lm ok e);refine ⟨z,y,xs,r,o,es,ep,h1,h2,h3,h4,fun x hx=>?_,h5⟩;have all:∀ {l:List (List Key × V)} {m:List (List Key × Addr × Value)},KT H l m->∀ x ∈ m,(tupleKind (Mb P w)).is h x.1 x.2.1:=by
  intro l m q
  induction q with
  | nil=>intro x hx;exact nomatch hx
  | @cons p q ps qs hq t ih=>
   intro x hx;rcases List.mem_cons.mp hx with e | hx
   ·subst e;exact gi ok (by rw [<- hq.1];exact hq.2.1)
   ·exact ih x hx
 exact all r x hx
theorem Dn {kvs:List (List Key × V)} (ok:HOk P w H h) (e:H a=some (.dT kvs)):kvs.length <= sizeLine/\(a == sysModules)=false /\
  ∃ xs,KT H kvs xs/\h.DictOfH (tupleKind (Mb P w)) a xs:=jl ok (.inl e)
end
noncomputable def gj (H:Hp) (a:Addr) (y:V) (r:Option V):Prop:=
 (∃ kvs k,Rd H a (.dK kvs)/\y=kV k/\r=Dg kvs k)\/∃ kvs k b,Rd H a (.dT kvs)/\y=.ref b/\H b=some (.tup (k.map kV))/\r=Dg kvs k
noncomputable def Xj (H:Hp) (a:Addr) (y v:V) (H':Hp):Prop:=
 (∃ kvs k,H a=some (.dK kvs)/\y=kV k/\kvs.length < sizeLine/\H'=upd H a (.dK (ig kvs k v))) \/
 ∃ kvs k b,H a=some (.dT kvs)/\y=.ref b/\H b=some (.tup (k.map kV))/\kvs.length < sizeLine/\H'=upd H a (.dT (ig kvs k v))
theorem gj.k {H:Hp} {a:Addr} {kvs:List (Key × V)} {k:Key} (e:H a=some (.dK kvs)):gj H a (kV k) (Dg kvs k):=.inl ⟨kvs,k,.inl e,rfl,rfl⟩
theorem gj.t {H:Hp} {a b:Addr} {kvs:List (List Key × V)} {k:List Key} (e:H a=some (.dT kvs)) (eb:H b=some (.tup (k.map kV))):gj H a (.ref b) (Dg kvs k):=.inr ⟨kvs,k,b,.inl e,rfl,eb,rfl⟩
theorem Xj.k {H:Hp} {a:Addr} {kvs:List (Key × V)} {k:Key} {v:V} (e:H a=some (.dK kvs)) (hl:kvs.length < sizeLine):Xj H a (kV k) v (upd H a (.dK (ig kvs k v))):=.inl ⟨kvs,k,e,rfl,hl,rfl⟩
theorem Xj.t {H:Hp} {a b:Addr} {kvs:List (List Key × V)} {k:List Key} {v:V} (e:H a=some (.dT kvs)) (eb:H b=some (.tup (k.map kV))) (hl:kvs.length < sizeLine) :
  Xj H a (.ref b) v (upd H a (.dT (ig kvs k v))):=.inr ⟨kvs,k,b,e,rfl,eb,hl,rfl⟩
section
variable {X:Cx} {pins:List (Addr × Obj)} {σ:St} {H:Hp} {s:Shared} {a:Addr} {y v:V} {u r:Value} {o:Option V} {A:Around} {E:Value->Shared->Prop}
theorem Inv.big (I:Inv X pins σ H s):sysModules < s.heap.objs.size:=by
 have h:mainGlobals < s.heap.objs.size:=(I.mod.glob.keeps I.bk).lt;exact Nat.lt_trans (by decide) h
theorem ti {Q:Value->Shared->Prop} (hu:A.units + 1 < cLine) (I:Inv X pins σ H s) (g:gj H a y (some v)) (ry:Qb y u) (h:∀ w' s',Inv X pins σ H s'->Qb v w'->Q w' s') :
  wpAny (model X.prog X.w) A (getItem (.ref a) u) Q E s:=by
 rcases g with ⟨kvs,k,e,ey,l⟩ | ⟨kvs,k,b,e,ey,eb,l⟩
 ·subst ey;obtain ⟨z,hd,vs,rel,dd⟩:=Wj I.hok e;obtain ⟨w',hw,rw'⟩:=gh.some_of (v:=v) (o:=valueAt vs k) (by rw [l];exact rel.val k);exact wpAny_getItem_of (Kk ry) dd.mapOf hw (h w' _ (I.tok _) rw')
 ·subst ey;cases (show u=Value.ref b from ry);obtain ⟨z,hd,xs,rel,dd⟩:=jl I.hok e;obtain ⟨w',hw,rw'⟩:=gh.some_of (v:=v) (o:=(atKey xs k).map (·.2)) (by rw [l];exact rel.val k);obtain ⟨p,hp,hp2⟩:=Option.map_eq_some_iff.mp hw;refine wpAny_getItem_heap (tupleKind_room_in1 hu) (gi I.hok eb) dd hp ?_;rw [hp2];exact h w' _ (I.tok _) rw'
theorem Gg {h':Heap} {t':Nat} {ob:HO} (I:Inv X pins σ H s) (mu:Mut (H a)) (hs:Heap.SameBut a s.heap h') (he:∃ q,h'.get? a=some q) (new:Kb X.prog X.w (upd H a ob) h' a ob) :
  Inv X pins σ (upd H a ob) { s with heap:=h',toks:=t' }:=
 I.write (x:=a) (e:=a) mu (.inl rfl) (fun b q hb z=>(hs.2 b hb).trans z) he new
theorem Xi {P:Program} {w:World} {H':Hp} {h':Heap} {kvs:List (Key × V)} {vs:List (Key × Value)} (z:kvs.length <= sizeLine) (hd:(a == sysModules)=false) (rel:KV kvs vs) (dd:h'.DictOf (Mb P w) a vs) :
  Kb P w H' h' a (.dK kvs):=⟨z,hd,vs,rel,dd⟩
theorem yi {H':Hp} {Q:Unit->Shared->Prop} (hu:A.units + 1 < cLine) (I:Inv X pins σ H s) (g:Xj H a y v H') (ry:Qb y u) (rv:Qb v r) (h:∀ s',Inv X pins σ H' s'->Q () s') :
  wpAny (model X.prog X.w) A (setItem (.ref a) u r) Q E s:=by
 rcases g with ⟨kvs,k,e,ey,l,eH⟩ | ⟨kvs,k,b,e,ey,eb,l,eH⟩
 ·subst ey eH;obtain ⟨z,hd,vs,rel,dd⟩:=ci I.hok e;have hz:vs.length <= sizeLine:=by rw [<- rel.length];exact z
  have hl:(ig kvs k v).length <= sizeLine:=by have:=ue kvs k v;omega
  refine wpAny_setItem_pairs (hsz:=hz) (Kk ry) dd fun h' dd' hs=>h _ ?_
  have he:∃ q,h'.get? a=some q:=let ⟨q,_,_,hq,_⟩:=dd';⟨q,hq⟩;exact Gg I (by rw [e];exact True.intro) hs he (Xi hl hd (rel.put k rv) dd')
 ·subst ey eH;cases (show u=Value.ref b from ry);obtain ⟨z,hd,xs,rel,dd⟩:=Dn I.hok e;have hz:xs.length <= sizeLine:=by rw [<- Paired.length rel];exact z
  have hl:(ig kvs k v).length <= sizeLine:=by have:=ue kvs k v;omega
  refine wpAny_setItem_heap (hsz:=hz) (tupleKind_room_in1 hu) (gi I.hok eb) dd fun h' dd' hs=>h _ ?_
  obtain ⟨q,es,ep,hq,h2,h3,h4,_,h5⟩:=dd';refine Gg I (by rw [e];exact True.intro) hs ⟨q,hq⟩ ⟨hl,hd,_,(rel.put k eb rv).keeps fun c ys ec=>?_,q,es,ep,hq,h2,h3,h4,h5⟩;rw [fb (rf ec e (fun z=>nomatch z))];exact ec
end
section
variable {X:Cx} {pins:List (Addr × Obj)} {σ:St} {H:Hp} {s:Shared} {a:Addr} {kvs:List (Key × V)} {k:Key} {u:Value} {A:Around} {E:Value->Shared->Prop}
theorem Ck {Q:Value->Shared->Prop} (I:Inv X pins σ H s) (e:H a=some (.dK kvs)) (h:∀ s',Inv X pins σ (upd H a (.dK [])) s'->Q .none s'):wpAny (model X.prog X.w) A (call (.builtin "dict.clear") [.ref a]) Q E s:=by
 obtain ⟨z,hd,vs,rel,dd⟩:=ci I.hok e;refine call_meetsIn PySem.F.slot_dict_clear dd.typeIs PySem.F.entry_dict_clear (PySem.F.args_dict_clear_1 _) (meets_dict_clear (Mb X.prog X.w) a) ⟨vs,dd,by rw [<- rel.length];exact z,fun h' dd' hs=>h _ ?_⟩;have he:∃ q,h'.get? a=some q:=let ⟨q,_,_,hq,_⟩:=dd';⟨q,hq⟩;exact Gg (t':=s.toks) I (by rw [e];exact True.intro) hs he (Xi (Nat.zero_le _) hd .nil dd')
end
noncomputable def vn (i:Expr):Prop:=∀ ov iv,subscripted i false ov iv=operate [ov,iv] (getItem ov iv)
theorem Oi {prog:Program} {w:World} {A:Around} {E:Value->Shared->Prop} {s:Shared} {env:Env} {value slice:Expr} {pos:Pos} {T id:String} {Q:Value->Shared->Prop}
  (hl:typeLookup (.type T) "__getitem__"=pure (some (.builtin id))) (hs:vn slice)
  (h:wpAny (model prog w) A (eval value env) (fun o s₁=>wpAny (model prog w) A (eval slice env) (fun i s₂=>s₂.TypeIs o T/\wpAny (model prog w) A (getItem o i) Q E s₂) E s₁) E s) :
  wpAny (model prog w) A (eval (.Subscript value slice pos) env) Q E s:=by
 refine Subscript_ (wpAny_mono h (fun o s₁ h₁=>wpAny_mono h₁ (fun i s₂ h₂=>?_) fun _ _ x=>x) fun _ _ x=>x);obtain ⟨hT,h₂⟩:=h₂;unfold subscriptTail;refine wpAny_bind ?_;rw [getitemInPython_of_ne hT.not_modules];refine wpAny_bind (wpAny_specialOf hT hl ?_);have fin:wpAny (model prog w) A (subscripted slice false o i) (fun r s₃=>wpAny (model prog w) A (letTemporaryGo value o r >>= fun _=>pure r) Q E s₃) E s₂:=by
  rw [hs o i];exact wpAny_operating (wpAny_mono h₂ (fun r s₃ h₃=>wpAny_bind (wpAny_letTemporaryGo (wpAny_pure h₃))) fun _ _ x=>x)
 first
  | exact wpAny_pure (wpAny_bind fin)
  | exact wpAny_bind (wpAny_pure (wpAny_bind fin))
  | exact wpAny_bind fin
theorem Fg {X:Cx} {pins:List (Addr × Obj)} {σ:St} {H:Hp} {s:Shared} {a:Addr} {y:V} {o:Option V} (I:Inv X pins σ H s) (g:gj H a y o):s.TypeIs (.ref a) "dict" := by
 rcases g with ⟨kvs,k,e,_,_⟩ | ⟨kvs,k,b,e,_,_,_⟩
 ·obtain ⟨_,_,vs,_,dd⟩:=Wj I.hok e;exact dd.typeIs
 ·obtain ⟨_,_,xs,_,dd⟩:=jl I.hok e;exact dd.typeIs
noncomputable def Am (td ty:TE):TE:=fun σ H Q=>td σ H fun x H1=>ty σ H1 fun y H2=>∃ a v,x=.ref a/\gj H2 a y (some v)/\Q v H2
noncomputable def Mm (td ty tv:TE):TS:=fun D σ H=>tv σ H fun v H1=>td σ H1 fun x H2=>ty σ H2 fun y H3=>∃ a H4,x=.ref a/\Xj H3 a y v H4/\D.nx σ H4
section
variable {X:Cx} {o i e value:Expr} {pos pos' tpos:Pos} {td ty tv:TE}
theorem zi (hu:X.A.units + 1 < cLine) (ho:PE X o td) (hi:PE X i ty) (hs:vn i):PE X (.Subscript o i pos) (Am td ty):=by
 intro pins s σ H Q I h;refine Oi PySem.F.slot_dict_getitem.lookup hs (thn (ho pins s σ H _ I h) fun u s1 ⟨x,H1,I1,rx,q1⟩=>thn (hi pins s1 σ H1 _ I1 q1) fun iv s2 hZ1=>?_);obtain ⟨y,H2,I2,ry,a,v,ex,g,q2⟩:=hZ1;subst ex;obtain rfl:u=Value.ref a:=rx;exact ⟨Fg I2 g,ti hu I2 g ry fun w' s3 I3 rw'=>⟨v,H2,I3,rw',q2⟩⟩
theorem bj (hu:X.A.units + 1 < cLine) (ho:PE X o td) (hi:PE X i ty) (hv:PE X value tv) (hs:swapsWith value (some (.Subscript o i pos')) pos.line X.env=pure false) :
  PS X (.Assign [.Subscript o i pos'] value pos) (Mm td ty tv):=by
 intro pins s σ H D I h;refine wpAny_Assign_Subscript (thn (hv pins s σ H _ I h) fun r s1 ⟨v,H1,I1,rv,q1⟩=>thn (ho pins s1 σ H1 _ I1 q1) fun u s2 ⟨x,H2,I2,rx,q2⟩=>thn (hi pins s2 σ H2 _ I2 q2) fun iv s3 hZ1=>?_) hs;obtain ⟨y,H3,I3,ry,a,H4,ex,g,q3⟩:=hZ1;subst ex;obtain rfl:u=Value.ref a:=rx;exact yi hu I3 g ry rv fun s4 I4=>⟨σ,H4,I4,q3⟩
end
theorem Dj {P:Program} {w:World} {H:Hp} (h:Heap) (hb:sysModules < h.objs.size):Kb P w H (h.push { cls:=.type "dict",data:=.dict #[] }) h.objs.size (.dK []):=
 ⟨Nat.zero_le _,beq_eq_false_iff_ne.mpr (Ne.symm (Nat.ne_of_lt hb)),[],.nil,Heap.DictOf.new h⟩
noncomputable def ik:TE:=fun _ H Q=>∀ p,H p=none->Q (.ref p) (upd H p (.dK []))
section
variable {X:Cx} {pos:Pos}
theorem dh:PE X (.Dict [] [] pos) ik:=fun pins s σ H Q I h=>
 wpAny_Dict_empty ⟨.ref s.heap.objs.size,_,I.laid (a:=s.heap.objs.size) (o:=.dK []) (t':=s.toks) (fun _ _ q=>Heap.get?_push_of_some _ q) (Nat.le_refl _) (Dj s.heap I.big),rfl,h _ (I.hok.fresh (Nat.le_refl _))⟩
end
structure M1 (X:Cx) (o:Expr) (m:Str) (apos:Pos) (e:Expr) (cpos:Pos):Prop where
 base:attributeBase o m X.env (eval o X.env)=eval o X.env
 few:((backTo cpos (starEach [e] X.env)).all (fun x=>!x.1) && (backToKw cpos (keywordEach [] X.env)).all (fun x=>x.1.isSome)
  && decide (([e]:List Expr).length + ([]:List Keyword).length + (if ([]:List Keyword).isEmpty then 0 else 1) < 30))=true
 line:(apos.endLine == cpos.line)=true
 trees:backTo cpos (starEach [e] X.env)=[(false,eval e X.env)]
structure M2 (X:Cx) (o:Expr) (m:Str) (apos:Pos) (e f:Expr) (cpos:Pos):Prop where
 base:attributeBase o m X.env (eval o X.env)=eval o X.env
 few:((backTo cpos (starEach [e,f] X.env)).all (fun x=>!x.1) && (backToKw cpos (keywordEach [] X.env)).all (fun x=>x.1.isSome)
  && decide (([e,f]:List Expr).length + ([]:List Keyword).length + (if ([]:List Keyword).isEmpty then 0 else 1) < 30))=true
 line:(apos.endLine == cpos.line)=true
 trees:backTo cpos (starEach [e,f] X.env)=[(false,eval e X.env),(false,eval f X.env)]
section
variable {X:Cx} {pins:List (Addr × Obj)} {σ:St} {H:Hp} {s:Shared} {a:Addr} {y d:V} {u r:Value} {o:Option V} {A:Around} {E:Value->Shared->Prop}
end
section
variable {X:Cx} {o e f:Expr} {apos cpos:Pos} {td ty tx:TE}
end
section
variable {X:Cx} {pins:List (Addr × Obj)} {σ:St} {H:Hp} {s:Shared} {a:Addr} {kvs:List (Key × V)} {A:Around} {E:Value->Shared->Prop}
theorem Rj {Q:Value->Shared->Prop} (I:Inv X pins σ H s) (e:Rd H a (.dK kvs)) (h:∀ p s',H p=none->Inv X pins σ (upd H p (.dK kvs)) s'->Q (.ref p) s'):wpAny (model X.prog X.w) A (call (.type "dict") [.ref a]) Q E s:=by
 obtain ⟨z,hd,vs,rel,dd⟩:=Wj I.hok e;refine kt_call_dict hd dd (by rw [<- rel.length];exact z) fun h' dd' hs=>?_
 refine h _ _ (I.hok.fresh (Nat.le_refl _)) (I.laid (a:=s.heap.objs.size) (o:=.dK kvs) (t':=s.toks) (fun b q hq=>?_) (Nat.le_refl _) (Xi z (beq_eq_false_iff_ne.mpr (Ne.symm (Nat.ne_of_lt I.big))) rel dd'));exact (hs.2 b (Nat.ne_of_lt (Heap.lt_size hq))).trans (Heap.get?_push_of_some _ hq)
end
section
variable {X:Cx} {pins:List (Addr × Obj)} {σ:St} {H:Hp} {s:Shared} {a:Addr} {y:V} {u:Value} {A:Around} {E:Value->Shared->Prop}
end
end L2
namespace Att
open PySem PySem.W PySem.Calls PyProof.Rows
theorem we {P:Params} {h:Heap}:∀ (ns:List Int) (vs:List Value),WellAll P h vs (ns.map WData.int)->IntsAre vs ns:=by
 intro ns
 induction ns with
 | nil=>
  intro vs w;rw [map_nil] at w;cases w;exact .nil
 | cons n ns ih=>
  intro vs w;rw [map_cons] at w;cases w with
  | cons a b=>
   cases a;exact .cons _ _ (ih _ b)
theorem Ei {l:OpenLaw} {n:Nat} (hn:l.most=some n) {P:Params} {h:Heap} {args:List WData} {vals:List Value}
  (hpre:l.row.toRowW.claim.pre args=true) (hwl:WellAll P h vals args) :
  ∃ a vs ns,vals=[Value.ref a]/\args=[WData.list (ns.map WData.int)]/\h.get? a=some { cls:=.type "list",data:=.seq vs.toArray }/\IntsAre vs ns/\ns.length <= n:=by
 have hsh:WShape.hasAll [] args [.list .int]=true:=(pre_splitW hpre).1;have hc:l.pre.holds [] { args:=args }=true:=(pre_splitW hpre).2;obtain ⟨d,r,rfl,h1,h2⟩:=hasAllW_cons hsh;obtain rfl:=hasAllW_nil h2;obtain ⟨xs,rfl,h3⟩:=hasW_list h1;obtain ⟨ns,rfl⟩:=items_int h3;have hlen:ns.length <= n:=by
  unfold OpenLaw.pre at hc;have h4:(WTm.not (.lt (.lit (.int (n:Int))) (.len (.arg 0)))).holds [] { args:=[.list (ns.map .int)] }=true:=by
   have h4:=(holds_andW hc).1;rw [hn] at h4;exact h4
  have h5:=condW_of h4 (w_not (w_lt w_lit (w_len_list (w_arg rfl))));rw [length_map] at h5;refine Nat.le_of_not_lt fun q=>?_
  have q':(n:Int) < ((ns.length:Nat):Int):=by omega
  first
   | (rw [decide_eq_true q'] at h5;exact absurd h5 (by decide))
   | (simp at h5;omega)
 cases hwl with
 | cons w1 w2=>
  cases w2;cases w1 with
  | list ho hall=>exact ⟨_,_,ns,rfl,rfl,ho,we ns _ hall,hlen⟩
theorem Jh (l:OpenLaw) (args:List WData):l.row.toRowW.claim.post args (.bool true) args=true:=
 postW_of (r:=l.row.toRowW) (X:=(true == true))
  (show WShape.has [] (.bool true) .bool=true by first | rfl | decide | simp [WShape.has,WShape.arms,WShape.armsAll])
  (show (WTm.eq .res (.lit (.bool true))).value [] { args:=args,res:=some (.bool true),after:=args }=some (.bool (true == true)) from w_eq_bool (w_res rfl) w_lit) rfl
theorem attach_call {l:OpenLaw} {n:Nat} {q:Program} {loose:List Str} {XP:(Str->Option Value)->Heap->Prop} {YP:World->Heap->Prop} {d:DefRec}
  (hn:l.most=some n) (hdf:d.params.defaults=[])
  (call:∀ (w:World) (s₀ s₁:Shared) (mg mb:Str->Option Value) (fa:Addr) (o:Obj) (pm cd doc:Value) (a:Addr) (vs:List Value) (ns:List Int),
   Ground q loose [] XP w s₀ mg mb s₁.heap->YP w s₁.heap ->
   s₁.heap.get? fa=some o->o.data=.func (docDef d.name d.params d.body d.scope pm cd doc)->s₁.heap.CodeRec cd d.name->mg d.name=some (.ref fa) ->
   s₁.heap.get? a=some { cls:=.type "list",data:=.seq vs.toArray }->IntsAre vs ns->ns.length <= n->s₁.gens=#[] ->
   codeAny (model l.prog w) callerA (.call (.ref fa) ⟨[.ref a],[]⟩) (fun r s'=>r=.ok (.ret (.bool true))/\OldK s₁.heap s'.heap/\s'.os=s₁.os/\AllBare s'.gens) s₁) :
  WalkO q loose XP YP l.row.toRowW d [] (fun f vs=>PySem.call f vs):=by
 intro w s₀ s₁ mg mb G Y fa o pm cd doc dV kV ho hd hcd hD hmg hg args vals as hpre hlay hrd hwl hlo;obtain rfl:dV=.none:=Dflts.none hD hdf;obtain rfl:kV=.none:=Dflts.noKw hD;obtain ⟨a,vs,ns,rfl,rfl,hobj,hints,hlen⟩:=Ei hn hpre hwl;refine enter_call (codeAny_mono (call w s₀ s₁ mg mb fa o pm cd doc a vs ns G Y ho (fd_plain hd) hcd hmg hobj hints hlen hg) fun r s' hq=>?_);obtain ⟨rfl,h2,h3,h4⟩:=hq;exact ⟨.inl ⟨.bool true,.bool true,[],rfl,fun _=>rfl,.bool true,Jh l _,fun _=>⟨List.Pairwise.nil,fun _ hm=>(nomatch hm)⟩⟩,h2,h3,h4⟩
section
variable {prog:Program} {w:World} {A:Around} {E:Value->Shared->Prop} {s:Shared} {K:Frag}
end
end Att
namespace L2
open PySem PySem.Spec PyProof.Rows
theorem ag:∀ {vs:List Value} {ns:List Int},IntsAre vs ns->Pb (ns.map V.int) vs
 | _,_,.nil=>.nil
 | _,_,.cons n t h=>.cons ⟨t,rfl⟩ (ag h)
noncomputable def Tl (H:Hp):Prop:=∀ b,H b=none\/∃ o xs,H b=some (.frz o (.lst xs))
theorem nj {P:Program} {w:World} {K:W.Frag} {mg mb:Str->Option Value} {CX:CXT} {k:Nat} {fa a:Addr} {fd:FuncData} {x:Str} {sp:Sp} {s₁:Shared} {vs:List Value} {ns:List Int}
  (KX:K.In s₁.heap) (hns:s₁.heap.Ns mainGlobals mg) (hb:s₁.heap.Ns builtinsNs mb) (hbb:∀ x:Str,x ≠ "__name__" -> mb x=bootBuiltins x) (hlim:s₁.heap.NoLimit) (hg:s₁.gens=#[])
  (ha:s₁.heap.get? a=some { cls:=.type "list",data:=.seq vs.toArray }) (hi:IntsAre vs ns) (hl:ns.length <= sizeLine) (hr:Xd k callerA)
  (F:∀ base:Heap,K.In base->base.Ns mainGlobals mg->Gc P w K mg base CX k fa fd [x] sp) (hbind:∀ (s:Shared) (u:Value),BindsTo s fd ⟨[u],[]⟩ [(x,u)])
  (hsp:∀ H:Hp,Tl H->SqL K H a (ns.map V.int)->sp [.ref a] H (fun v _=>v=.bl true) fun _ _ _=>False)
  (hCX:∀ H e s',CX [] H s₁ (fun _ _ _=>False) e s'->False) :
  codeAny (model P w) callerA (.call (.ref fa) ⟨[.ref a],[]⟩) (fun r s'=>r=.ok (.ret (.bool true))/\OldK s₁.heap s'.heap/\s'.os=s₁.os/\AllBare s'.gens) s₁:=by
 have rv:=ag hi;have lenV:=hi.length;have core:∀ H:Hp,Tl H->SqL K H a (ns.map V.int)->HOk P w H s₁.heap->(∀ b,H b ≠ none->b=a)->(H a ≠ none->K.lookup a=none) ->
   codeAny (model P w) callerA (.call (.ref fa) ⟨[.ref a],[]⟩) (fun r s'=>r=.ok (.ret (.bool true))/\OldK s₁.heap s'.heap/\s'.os=s₁.os/\AllBare s'.gens) s₁:=by
  intro H hO hS hok hA hK;have base_of:∀ {b:Addr} {o:Obj},s₁.heap.get? b=some o->H b=none->(Lj s₁.heap H).get? b=some o:=fun e n=>Ej e n
  have noA:∀ {b:Addr} {o:Obj} {es:Array DictEntry} {ep:Nat},s₁.heap.get? b=some o->o.data=.dict es ep->H b=none:=fun {b o es ep} e d=>by
   cases q:H b with
   | none=>rfl
   | some u=>
    have e':b=a:=hA b (by rw [q];simp);subst e';rw [ha] at e;cases e;have d':Data.seq vs.toArray _=Data.dict es ep:=d;cases d'
  have nsK:∀ {b:Addr} {m:Str->Option Value},s₁.heap.Ns b m->(Lj s₁.heap H).Ns b m:=fun {b m} ⟨o,es,ep,e,d,r⟩=>⟨o,es,ep,base_of e (noA e d),d,r⟩
  have hKb:K.In (Lj s₁.heap H):=fun b o e=>base_of (KX b o e) (by
   cases q:H b with
   | none=>rfl
   | some u=>
    have e':b=a:=hA b (by rw [q];simp);subst e';rw [hK (by rw [q];simp)] at e;cases e)
  have hM:Mod K mg (Lj s₁.heap H):=⟨hKb,nsK hns,⟨mb,nsK hb,hbb⟩,let ⟨mc,h1,h2⟩:=hlim;⟨mc,nsK h1,h2⟩⟩;have e0:pk P w K mg (Lj s₁.heap H) callerA [] s₁ H:=⟨rfl,hM,fun b o e=>Ak e,Nat.le_of_eq (Ci _ _),trivial,fun b hb=>absurd (show b ∈ ([]:List Addr) from hb) (by simp),hok,.of_eq hg⟩;refine codeAny_mono ((F _ hKb (nsK hns)).run callerA [] s₁ H ⟨[.ref a],[]⟩ [.ref a] [.ref a] _ _ hr e0 (hbind s₁ (.ref a)) (.cons rfl .nil) (hsp H hO hS)) fun r s' h=>?_
  cases r with
  | error e=>exact (hCX H e s' h).elim
  | ok fl=>
   cases fl with
   | next=>exact False.elim h
   | brk=>exact False.elim h
   | cont=>exact False.elim h
   | ret u=>
    obtain ⟨v,H',os,bare,un,hok',r',q⟩:=h;have q':v=.bl true:=q;subst q';obtain rfl:u=Value.bool true:=r';refine ⟨rfl,OldK.of_keep fun b o e=>?_,os,bare⟩;cases q:H b with
    | none=>exact un.keep b o e q (by intro z;exact absurd (show b ∈ ([]:List Addr) from z) (by simp)) (by simp)
    | some u=>
     rcases hO b with z | ⟨ob,xs,z⟩
     ·rw [q] at z;cases z
     ·have z2:=un.frzs b ob _ z;obtain ⟨e1,_⟩:=hok b _ z;obtain ⟨e2,_⟩:=hok' b _ z2;rw [e] at e1;cases e1;exact e2
 cases hk:K.lookup a with
 | some o=>
  have e:=KX a o hk;rw [ha] at e;cases e;refine core (fun _=>none) (fun _=>.inl rfl) (.inr ⟨_,vs.toArray,_,hk,rfl,rfl,rfl,by rw [size_toArray,lenV];exact hl,by simpa using rv⟩) (fun b u z=>by have z':(none:Option HO)=some u:=z;cases z') (fun b z=>absurd rfl z) fun z=>absurd rfl z
 | none=>
  refine core (fun b=>if b=a then some (.frz { cls:=.type "list",data:=.seq vs.toArray } (.lst (ns.map V.int))) else none) (fun b=>?_) (.inl (.inr ⟨{ cls:=.type "list",data:=.seq vs.toArray },if_pos rfl⟩)) (fun b u z=>?_) (fun b z=>?_) fun _=>hk
  ·by_cases hb:b=a
   ·exact .inr ⟨_,_,if_pos hb⟩
   ·exact .inl (if_neg hb)
  ·by_cases hb:b=a
   ·have z':=(if_pos hb).symm.trans z;cases z';subst hb;exact ⟨ha,by rw [length_map];exact hl,vs,_,rv,ha⟩
   ·have z':=(if_neg hb).symm.trans z;cases z'
  ·by_cases hb:b=a
   ·exact hb
   ·exact absurd (if_neg hb) z
end L2
namespace L2
open PySem PySem.Spec PyProof.Rows
noncomputable abbrev KOf {K:W.Frag} {h:Heap} (_:K.In h):W.Frag:=K
theorem Vk {l:PySem.W.OpenLaw} {n k:Nat} {q:Program} {loose:List Str} {XP:(Str->Option Value)->Heap->Prop} {YP:World->Heap->Prop} {d:DefRec} {K:Params->W.Frag} {CX:World->CXT} {sp:World->Sp} {x:Str}
  (hn:l.most=some n) (hn2:n <= sizeLine) (hdf:d.params.defaults=[]) (hr:Xd k callerA)
  (hY:∀ (w:World) (h:Heap),YP w h->(K w.params).In h)
  (F:∀ (w:World) (mg:Str->Option Value) (fa:Addr) (h:Heap),(K w.params).In h->h.Ns mainGlobals mg->mg d.name=some (.ref fa) ->
   ∃ fd:FuncData,(∀ (s:Shared) (u:Value),BindsTo s fd ⟨[u],[]⟩ [(x,u)]) /\
    ∀ base:Heap,(K w.params).In base->base.Ns mainGlobals mg->Gc l.prog w (K w.params) mg base (CX w) k fa fd [x] (sp w))
  (hsp:∀ (w:World) (H:Hp) (a:Addr) (ns:List Int),ns.length <= n->Tl H->SqL (K w.params) H a (ns.map V.int)->sp w [.ref a] H (fun v _=>v=.bl true) fun _ _ _=>False)
  (hCX:∀ (w:World) (H:Hp) (s:Shared) (e:Value) (s':Shared),CX w [] H s (fun _ _ _=>False) e s'->False) :
  PySem.W.WalkO q loose XP YP l.row.toRowW d [] (fun f vs=>PySem.call f vs):=by
 refine Att.attach_call hn hdf fun w s₀ s₁ mg mb fa o pm cd doc a vs ns G Y ho hd hcd hmg hobj hints hlen hg=>?_
 have KX:=hY w _ Y;obtain ⟨fd,hb,hF⟩:=F w mg fa _ KX G.T.g hmg;exact nj KX G.T.g G.T.b G.T.builtins G.T.nolimit hg hobj hints (Nat.le_trans hlen hn2) hr hF hb (fun H hO hS=>hsp w H a ns hlen hO hS) fun H e s'=>hCX w H s₁ e s'
theorem oj {l:PySem.W.OpenLaw} {n k:Nat} {q:Program} {loose:List Str} {XP:(Str->Option Value)->Heap->Prop} {YP:World->Heap->Prop} {d:DefRec} {K:Params->W.Frag} {CX:CXT} {sp:W.Frag->Sp} {x:Str}
  (hn:l.most=some n) (hn2:n <= sizeLine) (hdf:d.params.defaults=[]) (hr:Xd k callerA)
  (hY:∀ (w:World) (h:Heap),YP w h->(K w.params).In h)
  (F:∀ (w:World) (mg:Str->Option Value) (fa:Addr) (h:Heap),(K w.params).In h->h.Ns mainGlobals mg->mg d.name=some (.ref fa) ->
   ∃ fd:FuncData,(∀ (s:Shared) (u:Value),BindsTo s fd ⟨[u],[]⟩ [(x,u)]) /\
    ∀ base:Heap,(K w.params).In base->base.Ns mainGlobals mg->Gc l.prog w (K w.params) mg base CX k fa fd [x] (sp (K w.params)))
  (hsp:∀ (K:W.Frag) (H:Hp) (a:Addr) (ns:List Int),ns.length <= n->Tl H->SqL K H a (ns.map V.int)->sp K [.ref a] H (fun v _=>v=.bl true) fun _ _ _=>False)
  (hCX:∀ (H:Hp) (s:Shared) (e:Value) (s':Shared),CX [] H s (fun _ _ _=>False) e s'->False) :
  PySem.W.WalkO q loose XP YP l.row.toRowW d [] (fun f vs=>PySem.call f vs):=
 Vk (K:=K) (CX:=fun _=>CX) (sp:=fun w=>sp (K w.params)) hn hn2 hdf hr hY F (fun w H a ns h1 h2 h3=>hsp (K w.params) H a ns h1 h2 h3) fun _ H s e s'=>hCX H s e s'
end L2
namespace L2
open PySem PySem.Spec PyProof.Rows
noncomputable def Ze (s:Stmt):Arguments:=match s with
 | .FunctionDef _ a _ _ _ _ _ _ _ _=>a
 | _=>{ posonlyargs:=[],args:=[],vararg:=none,kwonlyargs:=[],kw_defaults:=[],kwarg:=none,defaults:=[] }
noncomputable def Ce (s:Stmt):List Stmt:=match s with
 | .FunctionDef _ _ b _ _ _ _ _ _ _=>b
 | _=>[]
noncomputable def yb (s:Stmt):Scope:=match s with
 | .FunctionDef _ _ _ _ _ _ sc _ _ _=>sc
 | _=>{ kind:=.function,names:=[],isGenerator:=false,isCoroutine:=false }
noncomputable abbrev CX0:CXT:=fun _ _ _ _ _ _=>False
noncomputable abbrev E0:XK:=fun _ _ _=>False
theorem kc {X:Cx}:Uh CX0 X E0:=fun _ _ _ _ _ _ _ h=>h.elim
structure Fun (K:W.Frag) (x qual:Str) (st:Stmt) (f:Addr) (fd:FuncData):Prop where
 ex:∃ (oc:Value) (od:Option Addr) (kV doc pm:Value) (an:Option Addr) (cdv ct:Value) (osl:Array (Option Value)),
  fd=PySem.W.fnOf x qual (Ze st) (Ce st) (yb st) .none kV doc pm an cdv ct/\K.lookup f=some ⟨oc,od,.func fd,osl⟩/\PySem.W.codeIn K cdv qual=true
 kp:PySem.W.keepIn K (.ref f)=true
section
variable {P:Program} {w:World} {K:W.Frag} {mg:Str->Option Value} {base:Heap}
theorem Fun.ok {x qual:Str} {st:Stmt} {f:Addr} {fd:FuncData} {N ps:List Str} {k:Nat} {sp:Sp} (F:Fun K x qual st f fd) (S:pc N ps (yb st)) (len:∀ vs H Q E,sp vs H Q E->vs.length=ps.length)
  (hbody:∀ (cdv:Value) (A:Around) (outer:List Env) (s:Shared) (H:Hp) (vs:List V) (Q:VK) (E:XK),Xd k (A.deeper (envOfC qual (yb st) s.heap.objs.size f cdv))->sp vs H Q E ->
   ∃ t,PSs (Tk CX0 P w K mg base N qual (yb st) f cdv A outer s H E).nox (Ce st) t/\t { nx:=fun _ H'=>Q .non H',rt:=Q } (Xe N vs) H):Gc P w K mg base CX0 (k + 1) f fd ps sp:=by
 obtain ⟨oc,od,kV,doc,pm,an,cdv,ct,osl,rfl,lk,hcd⟩:=F.ex;refine Jn lk hcd S len fun A outer s H vs Q E hr hsp=>?_
 obtain ⟨t,h,q⟩:=hbody cdv A outer s H vs Q E hr hsp;exact ⟨t,h.nox,q⟩
theorem Fun.binds {x qual:Str} {st:Stmt} {f:Addr} {fd:FuncData} {ps:List Str} (F:Fun K x qual st f fd)
  (h:∀ (kV doc pm:Value) (an:Option Addr) (cdv ct:Value) (us:List Value),us.length=ps.length->bindArgs (PySem.W.fnOf x qual (Ze st) (Ce st) (yb st) .none kV doc pm an cdv ct) ⟨us,[]⟩=pure (ps.zip us)):Vd K fd ps []:=by
 obtain ⟨oc,od,kV,doc,pm,an,cdv,ct,osl,rfl,lk,hcd⟩:=F.ex;exact .all (h kV doc pm an cdv ct)
theorem Gm {x qual:Str} {st:Stmt} {f:Addr} {oc:Value} {od an:Option Addr} {osl:Array (Option Value)} {kV doc pm cdv ct:Value} (l:K.lookup f=some ⟨oc,od,.func (PySem.W.fnOf x qual (Ze st) (Ce st) (yb st) .none kV doc pm an cdv ct),osl⟩)
  (c:PySem.W.codeIn K cdv qual=true) (k:PySem.W.keepIn K (.ref f)=true):Fun K x qual st f (PySem.W.fnOf x qual (Ze st) (Ce st) (yb st) .none kV doc pm an cdv ct):=⟨⟨oc,od,kV,doc,pm,an,cdv,ct,osl,rfl,l,c⟩,k⟩
end
theorem fj {A:Around} {k:Nat} (hr:Xd k A):A.units + 1 < cLine:=Nat.lt_of_le_of_lt (Nat.add_le_add_left (by decide:1 <= 64) _) hr.units
section
variable {X:Cx}
theorem pv (i:Nat) {x:Str} {pos:Pos} (hN:X.N[i]? = some x:=by rfl) (hv:Vis X.env.scope x:=by first | exact Or.inl rfl | exact Or.inr (Or.inl rfl) | exact Or.inr (Or.inr rfl)) (hd:(x == ("__debug__" : Str))=false:=by decide)
  (hcd:(x == ("__classdict__" : Str))=false:=by decide):PE X (.Name x pos) (kn i):=gm hN hv hd hcd
end
noncomputable def Nb (H H':Hp):Prop:=∀ b o,H b=some o->H' b=some o
theorem Nb.refl (H:Hp):Nb H H:=fun _ _ h=>h
theorem Nb.trans {H H1 H2:Hp} (a:Nb H H1) (b:Nb H1 H2):Nb H H2:=fun c o h=>b c o (a c o h)
theorem Nb.free {H H':Hp} (e:Nb H H') {l:Addr} (h:H' l=Option.none):H l=Option.none:=by
 cases q:H l with
 | none=>rfl
 | some o=>
  rw [e l o q] at h;cases h
theorem Nb.seq {K:W.Frag} {H H':Hp} {a:Addr} {xs:List V} (e:Nb H H') (h:SqL K H a xs):SqL K H' a xs:=by
 rcases h with (h | ⟨o,h⟩) | h
 ·exact .inl (.inl (e _ _ h))
 ·exact .inl (.inr ⟨o,e _ _ h⟩)
 ·exact .inr h
section
variable {κ:Type} [DecidableEq κ]
end
end L2
set_option maxHeartbeats 4000000
namespace L2
open PySem PySem.Spec PyProof.Rows
noncomputable def tf (cells:List (Str × Addr)):List (Str × NameKind)->List (Str × Addr)->List (Str × Addr)
 | [],acc=>acc
 | (n,k) :: r,acc=>if k == .free then (match cells.lookup n with | some c=>tf cells r ((n,c) :: acc) | none=>tf cells r acc) else tf cells r acc
theorem qg {env:Env}:∀ (names:List (Str × NameKind)) (acc:List (Str × Addr)),(∀ y ∈ names,y.2=.free->∃ c,env.cells.lookup y.1=some c) ->
  (forIn names acc (fun (x:Str × NameKind) (cs:List (Str × Addr))=>(if (x.2 == .free)=true then do let a <- cellOf env x.1;pure (ForInStep.yield ((x.1,a) :: cs)) else pure (ForInStep.yield cs):Sem (ForInStep (List (Str × Addr))))))=pure (tf env.cells names acc)
 | [],acc,_=>rfl
 | (n,k) :: r,acc,h=>by
  have hr:∀ y ∈ r,y.2=.free->∃ c,env.cells.lookup y.1=some c:=fun y hy=>h y (mem_cons_of_mem _ hy)
  rw [List.forIn_cons];by_cases hk:(k == NameKind.free)=true
  ·have e:k=.free:=by simpa using hk
   obtain ⟨c,hc⟩:=h (n,k) mem_cons_self e;have hc':env.cells.lookup n=some c:=hc;simp only [tf,hk,if_true,hc',cellOf];exact qg r _ hr
  ·simp only [tf,hk];exact qg r _ hr
theorem si {scope:Scope} {env:Env} (h:∀ y ∈ scope.names,y.2=.free->∃ c,env.cells.lookup y.1=some c):closureFor scope env=pure (tf env.cells scope.names []):=by
 unfold closureFor;exact congrArg (fun t=>t >>= pure) (qg scope.names [] h)
theorem ie {cells:List (Str × Addr)}:∀ (names:List (Str × NameKind)) (acc:List (Str × Addr)) {x:Str} {c:Addr},(tf cells names acc).lookup x=some c->acc.lookup x=some c\/cells.lookup x=some c
 | [],acc,x,c,h=>.inl h
 | (n,k) :: r,acc,x,c,h=>by
  unfold tf at h;split at h
  ·cases q:cells.lookup n with
   | none=>rw [q] at h;exact ie r acc h
   | some d=>
    rw [q] at h;rcases ie r _ h with z | z
    ·rw [lookup_cons] at z;by_cases hx:(x == n)=true
     ·rw [hx] at z;have e:x=n:=by simpa using hx
      subst e
      right;rw [q];exact z
     ·have hx':(x == n)=false:=by simpa using hx
      rw [hx'] at z;exact .inl z
    ·exact .inr z
  ·exact ie r acc h
theorem Jd {cells:List (Str × Addr)}:∀ (names:List (Str × NameKind)) (acc:List (Str × Addr)) {x:Str} {c:Addr},acc.lookup x=some c->cells.lookup x=some c->(tf cells names acc).lookup x=some c
 | [],acc,x,c,h,_=>h
 | (n,k) :: r,acc,x,c,h,hc=>by
  unfold tf;split
  ·cases q:cells.lookup n with
   | none=>exact Jd r acc h hc
   | some d=>
    refine Jd r _ ?_ hc;rw [lookup_cons];by_cases hx:(x == n)=true
    ·have e:x=n:=by simpa using hx
     subst e;rw [hx];rw [q] at hc;exact hc
    ·have hx':(x == n)=false:=by simpa using hx
     rw [hx'];exact h
  ·exact Jd r acc h hc
theorem Kd {cells:List (Str × Addr)}:∀ (names:List (Str × NameKind)) (acc:List (Str × Addr)) {x:Str} {c:Addr},(x,NameKind.free) ∈ names->cells.lookup x=some c->(tf cells names acc).lookup x=some c
 | [],_,_,_,h,_=>nomatch h
 | (n,k) :: r,acc,x,c,h,hc=>by
  rcases List.mem_cons.mp h with e | h
  ·cases e;unfold tf;rw [if_pos (by decide),hc];refine Jd r _ ?_ hc;rw [lookup_cons];simp
  ·unfold tf;split
   ·cases q:cells.lookup n with
    | none=>exact Kd r acc h hc
    | some d=>exact Kd r _ h hc
   ·exact Kd r acc h hc
theorem Pd {α:Type}:∀ {l:List (Str × α)} {x:Str} {a:α},l.lookup x=some a->(x,a) ∈ l
 | [],_,_,h=>by simp at h
 | (n,b) :: r,x,a,h=>by
  rw [lookup_cons] at h;by_cases hx:(x == n)=true
  ·have e:x=n:=by simpa using hx
   subst e;rw [hx] at h;have e2:b=a:=Option.some.inj h;subst e2;exact mem_cons_self
  ·have hx':(x == n)=false:=by simpa using hx
   rw [hx'] at h;exact mem_cons_of_mem _ (Pd h)
theorem Bg {env:Env} {scope:Scope} {x:Str} {k:NameKind} (h:(relabel scope env).names.lookup x=some k) (hk:k=.cell\/k=.free) (hc:∀ y ∈ scope.names,y.2 ≠ .cell):(x,NameKind.free) ∈ scope.names:=by
 have h1:=Pd h;obtain ⟨⟨n,j⟩,hm,e⟩:=List.mem_map.mp h1;have e':(if (j == NameKind.free && env.scope.kind == .function && env.kindOf n == some .cell)=true then (n,NameKind.cell) else (n,j))=(x,k):=e;split at e'
 ·rename_i hcond;have e1:n=x:=(Prod.mk.inj e').1;subst e1;have hj:j=.free:=by
   simp only [Bool.and_eq_true] at hcond;simpa using hcond.1.1
  subst hj;exact hm
 ·have e1:n=x:=(Prod.mk.inj e').1;have e2:j=k:=(Prod.mk.inj e').2;subst e1;subst e2;rcases hk with z | z
  ·exact absurd z (hc _ hm)
  ·subst z;exact hm
theorem Bd {env:Env} {scope:Scope} {x:Str} (h:scope.names.lookup x=some .free):(relabel scope env).names.lookup x=some .cell\/(relabel scope env).names.lookup x=some .free:=by
 have all:∀ (names:List (Str × NameKind)),names.lookup x=some .free ->
   (names.map fun (n,k)=>if (k == NameKind.free && env.scope.kind == .function && env.kindOf n == some .cell) then (n,NameKind.cell) else (n,k)).lookup x=some .cell \/
   (names.map fun (n,k)=>if (k == NameKind.free && env.scope.kind == .function && env.kindOf n == some .cell) then (n,NameKind.cell) else (n,k)).lookup x=some .free:=by
  intro names
  induction names with
  | nil=>intro h;simp at h
  | cons p r ih=>
   obtain ⟨n,k⟩:=p;intro h;rw [map_cons];by_cases hx:(x == n)=true
   ·simp only [lookup_cons,hx] at h;have hk:k=.free:=Option.some.inj h;subst hk;by_cases hc:(NameKind.free == NameKind.free && env.scope.kind == .function && env.kindOf n == some .cell)=true
    ·left;simp only [if_pos hc,lookup_cons,hx]
    ·right;simp only [if_neg hc,lookup_cons,hx]
   ·have hx':(x == n)=false:=by simpa using hx
    simp only [lookup_cons,hx'] at h;by_cases hc:(k == NameKind.free && env.scope.kind == .function && env.kindOf n == some .cell)=true
    ·simp only [if_pos hc,lookup_cons,hx'];exact ih h
    ·simp only [if_neg hc,lookup_cons,hx'];exact ih h
 exact all scope.names h
noncomputable abbrev Cx.block (X:Cx) (scope:Scope) (C:Addr) (N:List Str) (s:Shared) (H:Hp) (fp:List Addr):Cx where
 prog:=X.prog
 w:=X.w
 K:=X.K
 mg:=X.mg
 base:=X.base
 A:=X.A
 N:=N
 s₀:=s
 H₀:=H
 env:=compEnvC scope (tf X.env.cells scope.names []) C X.env
 outer:=X.stack
 stack:=X.stack
 ex:=fp
 fn:=fun _=>false
 calm:=X.calm
 pn:=[]
 xe:=fun _ _=>False
structure Zd (env:Env) (scope:Scope):Prop where
 kind:scope.kind=.function
 nocell:∀ y ∈ scope.names,y.2 ≠ .cell
 fr:∀ y ∈ scope.names,y.2=.free->env.kindOf y.1=some .cell\/env.kindOf y.1=some .free
 loc:∀ x ∈ scope.names,x.2=.local->scope.names.lookup x.1=some .local
noncomputable def blk (sel:List (Option Nat)) (σ:St):St:=sel.map fun o=>o.bind fun j=>(σ[j]?).join
noncomputable def ji (M:List Str) (scope:Scope) (N:List Str) (sel:List (Option Nat)):Prop:=
 sel.length=N.length/\∀ (i j:Nat) (x:Str),sel[i]? = some (some j)->N[i]? = some x->M[j]? = some x/\scope.names.lookup x=some .free
section
variable {X:Cx} {pins:List (Addr × Obj)} {σ:St} {H:Hp} {s:Shared} {scope:Scope} {fp:List Addr} {C:Addr} {N:List Str}
theorem Zd.cells (S:Zd X.env scope) (ok:X.Ok):∀ y ∈ scope.names,y.2=.free->∃ c,X.env.cells.lookup y.1=some c:=fun y hy e=>ok.has y.1 (S.fr y hy e)
theorem He {x:Str} {c:Addr} (h:(tf X.env.cells scope.names []).lookup x=some c):X.env.cells.lookup x=some c:=by
 rcases ie _ _ h with z | z
 ·simp at z
 ·exact z
theorem Mg (I:Inv X pins σ H s) (S:Zd X.env scope) (hf:∀ b ∈ fp,Qg X pins H b) (hs:∀ b ∈ fp,b < s.heap.objs.size) (hC:s.heap.objs.size <= C):(X.block scope C N s H fp).Ok where
 mod:=I.ok.mod
 kind:=S.kind
 glob:=I.ok.glob
 blt:=I.ok.blt
 above:=hC
 inj:=fun x y c h1 h2=>I.ok.inj x y c (He h1) (He h2)
 has:=fun x h=>by
  have hk:∃ k,(relabel scope X.env).names.lookup x=some k/\(k=.cell\/k=.free):=by
   rcases h with h | h
   ·exact ⟨_,h,.inl rfl⟩
   ·exact ⟨_,h,.inr rfl⟩
  obtain ⟨k,h1,h2⟩:=hk;have hm:=Bg h1 h2 S.nocell;obtain ⟨c,hc⟩:=S.cells I.ok _ hm rfl;exact ⟨c,Kd _ _ hm hc⟩
 cab:=fun _ _ h _=>nomatch h
 hd:=I.ok.hd
 frames:=I.ok.frames
 stk:=.inl rfl
 exf:=fun b hb=>⟨Nat.ne_of_lt (Nat.lt_of_lt_of_le (hs b hb) hC),fun x c e=>(hf b hb).2.2.2.2.1 x c (He e)⟩
 bs:=I.bs
 bsz:=Nat.le_trans I.ok.bsz I.sz
 noex:=fun b o e hb=>by
  rcases (hf b hb).2.2.2.1 with z | z
  ·exact I.ok.noex b o e z
  ·exact absurd (Nat.lt_of_lt_of_le (Nat.lt_of_lt_of_le (Heap.lt_size e) I.ok.bsz) z) (Nat.lt_irrefl _)
 exfs:=fun b hb hz=>by
  rcases List.mem_cons.mp (I.stkSub b hz) with z | z
  ·exact (hf b hb).2.1 z
  ·exact (hf b hb).2.2.1 z
 funs:=I.stack
 frf:=I.stkFree
theorem Gi {h':Heap} {t':Nat} {m:Str->Option Value} {sel:List (Option Nat)} (I:Inv X pins σ H s) (S:Zd X.env scope) (hf:∀ b ∈ fp,Qg X pins H b) (hs:∀ b ∈ fp,b < s.heap.objs.size) (hC:s.heap.objs.size <= C)
  (k:∀ b o,s.heap.get? b=some o->h'.get? b=some o) (hn:h'.Ns C m) (hsel:ji X.N scope N sel):Inv (X.block scope C N s H fp) [] (blk sel σ) H { s with heap:=h',toks:=t' } where
 ok:=Mg I S hf hs hC
 os:=rfl
 bare:=I.bare
 base:=Un.kept k
 loc:=by
  refine ⟨m,hn,fun i x v e1 e2 e3=>?_⟩;obtain ⟨m0,hn0,hl⟩:=I.loc;obtain ⟨j,ej,eσ⟩:∃ j,sel[i]? = some (some j)/\σ[j]? = some (some v):=by
   unfold blk at e2;rw [getElem?_map] at e2;cases q:sel[i]? with
   | none=>rw [q] at e2;cases e2
   | some o=>
    rw [q] at e2;cases o with
    | none=>cases e2
    | some j=>
     refine ⟨j,rfl,?_⟩;have e2':(σ[j]?).join=some v:=Option.some.inj e2;cases r:σ[j]? with
     | none=>rw [r] at e2';cases e2'
     | some z=>rw [r] at e2';exact congrArg some e2'
  obtain ⟨eN,hfr⟩:=hsel.2 i j x ej e1;have hm:=Pd hfr;have hk:=S.fr _ hm rfl;have hv:Vis X.env.scope x:=hk.elim (fun z=>.inr (.inl z)) fun z=>.inr (.inr z)
  obtain ⟨u,r,l⟩:=hl j x v eN eσ hv;refine ⟨u,r,?_⟩;rcases l with ⟨hloc,_⟩ | ⟨_,c,hc,hcell⟩
  ·rcases hk with z | z <;> (have z':X.env.kindOf x=_:=z;rw [hloc] at z';cases z')
  ·refine .inr ⟨?_,c,Kd _ _ hm hc,?_⟩
   ·exact Bd hfr
   ·obtain ⟨o,ho,hd⟩:=hcell;exact ⟨o,k _ _ ho,hd⟩
 cell:=fun x c e=>by
  obtain ⟨v,o,ho,hd⟩:=I.cell x c (He e);exact ⟨v,o,k _ _ ho,hd⟩
 free:=I.hok.fresh hC
 freeC:=fun x c e=>I.freeC x c (He e)
 pin:=fun p hp=>nomatch hp
 hok:=I.hok.kept k
 len:=by unfold blk;rw [length_map];exact hsel.1
theorem Inv.adopt {a:Addr} {o:HO} (I:Inv X pins σ H s) (fo:Qg X pins H a) (new:Kb X.prog X.w (upd H a o) s.heap a o):Inv X pins σ (upd H a o) s:=by
 obtain ⟨hn,hL,hfs,hex,hcl,hpn⟩:=fo;refine I.step (g':=s.gens) (d':=s.drawn) (t':=s.toks) (h':=s.heap) (ch:=[a]) (fun b hb=>?_) (fun b o _ _ _ e _=>e) (fun b o _ _ _ e _=>⟨o.slots,e⟩) (fun b o hb e n=>?_) (fun b o _ e=>⟨o,e⟩)
  (fun b xs e=>?_) (fun b o u e=>?_) (fun b ps e=>⟨#[],?_⟩) (fun m hm=>hm) (fun b u e=>?_) I.bare
 ·have e:b=a:=by simpa using hb
  subst e;exact ⟨hex,hL,hcl,hpn⟩
 ·rw [fb (fun z=>hb (by simp [z]))];exact n
 ·rw [fb (Ab e hn)];exact e
 ·rw [fb (Ab e hn)];exact e
 ·rw [fb (Ab e hn),e];simp
 ·by_cases hb:b=a
  ·subst hb;rw [cb] at e;cases e;exact new
  ·rw [fb hb] at e;exact (I.hok b u e).stay (fun c v _ q=>q) (fun c q=>by rw [fb (Ab q hn)];exact q) fun c xs q=>by rw [fb (Ab q hn)];exact q
end
theorem ld {prog:Program} {w:World} {A:Around} {R:Result->Shared->Prop} {s:Shared} {elt target iter:Expr} {ifs:List Expr} {scope:Scope} {pos:Pos} {it acc:Value} {env:Env} (I:Nat->Shared->Prop)
  (turn:∀ n s,I n s->wpAny (model prog w) A (pyNext it) (fun r s₁=>match r with
   | none=>R (.ok .next) s₁
   | some v=>wpAny (model prog w) A (letOwnedTupleGo target it v) (fun _ s₀=>wpAny (model prog w) A (assign target env v) (fun _ s₂=>
     wpAny (model prog w) A (forIn ifs true fun c r=>if r=true then do let ok <- isTrue c env (eval c env);pure (ForInStep.yield ok) else pure (ForInStep.yield r)) (fun ok s₃=>
      if ok=true then wpAny (model prog w) A (eval elt env) (fun x s₄=>
       wpAny (model prog w) A (call (.builtin "list.append") [acc,x]) (fun _ s₅=>∃ m,m < n/\I m s₅) (fun _ _=>False) s₄) (fun _ _=>False) s₃
      else ∃ m,m < n/\I m s₃) (fun _ _=>False) s₂) (fun _ _=>False) s₀) (fun _ _=>False) s₁) (fun _ _=>False) s)
  (n:Nat) (h:I n s) :
  codeAny (model prog w) A (.compLoop (.ListComp elt [⟨target,iter,ifs,0⟩] scope pos) 0 it acc env) R s:=by
 refine codeAny_loop rfl I (fun n s hI=>?_) n h;show wpAny _ A ((compTurn (.ListComp elt [⟨target,iter,ifs,0⟩] scope pos) 0 it acc env).onRaise (fun x=>do noteFrame x env;theTreesLotGoes x)) _ _ s;refine wpAny_noted (wpAny_noRaise ?_);rw [compTurn_list];refine wpAny_bind (wpAny_standAt (wpAny_bind (wpAny_mono (turn n s hI) (fun r s₁ h₁=>?_) fun _ _ h'=>h')));cases r with
 | none=>exact wpAny_pure h₁
 | some v=>
  refine wpAny_bind (wpAny_mono h₁ (fun _ s₀ h₀=>?_) fun _ _ h'=>h');refine wpAny_bind (wpAny_mono h₀ (fun _ s₂ h₂=>wpAny_bind (wpAny_mono h₂ (fun ok s₃ h₃=>?_) fun _ _ h'=>h')) fun _ _ h'=>h');cases ok with
  | false=>exact wpAny_pure ⟨rfl,h₃⟩
  | true=>
   exact wpAny_bind (wpAny_bind (wpAny_mono h₃ (fun x s₄ h₄=>wpAny_bind (wpAny_mono h₄ (fun _ s₅ h₅=>wpAny_pure (wpAny_pure ⟨rfl,h₅⟩)) fun _ _ h'=>h')) fun _ _ h'=>h'))
noncomputable def PTs (X:Cx) (ifs:List Expr) (t:TT):Prop:=
 ∀ (pins:List (Addr × Obj)) (s:Shared) (σ:St) (H:Hp) (Q:Bool->Hp->Prop),Inv X pins σ H s->t σ H Q ->
  wpAny (model X.prog X.w) X.A (forIn ifs true fun c r=>if r=true then do let ok <- isTrue c X.env (eval c X.env);pure (ForInStep.yield ok) else pure (ForInStep.yield r)) (TP X pins σ Q) X.xe s
noncomputable def Vi:TT:=fun _ H Q=>Q true H
theorem Ic {X:Cx}:PTs X [] Vi:=fun _ _ _ H _ I h=>wpAny_tests_nil ⟨H,I,h⟩
noncomputable def Sub (σ σ':St):Prop:=σ'.length=σ.length/\∀ (i:Nat) (v:V),σ[i]? = some (some v)->σ'[i]? = some (some v)
theorem Sub.refl (σ:St):Sub σ σ:=⟨rfl,fun _ _ h=>h⟩
theorem Sub.set {σ σ':St} {i:Nat} {x:Option V} (h:Sub σ σ') (e:σ[i]? = some none):Sub σ (σ'.set i x):=by
 refine ⟨by rw [List.length_set];exact h.1,fun j v q=>?_⟩;have hj:i ≠ j:=fun z=>by subst z;rw [e] at q;cases q
 rw [List.getElem?_set_ne hj];exact h.2 j v q
noncomputable def Eh (J:It) (g:TG) (tc:TT) (te:TE) (σb:St) (Q:VK) (W:Nat->Nat->List V->Hp->Prop):Prop:=∀ i m ys H,W i m ys H ->
 (J.stop i H/\∀ p,H p=none->Q (.ref p) (upd H p (.lst ys))) \/
 (J.go i H/\ys.length < sizeLine/\∀ x H',J.yld i H x H'->g x σb H' fun σ2 H2=>Sub σb σ2/\tc σ2 H2 fun c H3=>if c=true then te σ2 H3 fun y H4=>∃ m',m' < m/\W (i + 1) m' (ys ++ [y]) H4 else ∃ m',m' < m/\W (i + 1) m' ys H3)
noncomputable def ml (wi:TI) (g:TG) (tc:TT) (te:TE) (sel:List (Option Nat)):TE:=fun σ H Q=>wi σ H fun J H1=>∃ W:Nat->Nat->List V->Hp->Prop,(∃ m,W 0 m [] H1)/\Eh J g tc te (blk sel σ) Q W
section
variable {X:Cx} {elt tg iter:Expr} {ifs:List Expr} {scope:Scope} {pos:Pos} {wi:TI} {g:TG} {tc:TT} {te:TE} {N:List Str} {sel:List (Option Nat)}
structure Blk (X:Cx) (scope:Scope) (N:List Str) (tg elt:Expr) (ifs:List Expr) (g:TG) (tc:TT) (te:TE):Prop where
 tgt:∀ C s H fp,PG (X.block scope C N s H fp) tg g
 tests:∀ C s H fp,PTs (X.block scope C N s H fp) ifs tc
 elem:∀ C s H fp,PE (X.block scope C N s H fp) elt te
theorem Blk.of {X:Cx} {scope:Scope} {N:List Str} {tg elt:Expr} {ifs:List Expr} {g:TG} {tc:TT} {te:TE} (h1:∀ C s H fp,PG (X.block scope C N s H fp) tg g)
  (h2:∀ C s H fp,∃ t,PTs (X.block scope C N s H fp) ifs t/\t=tc) (h3:∀ C s H fp,∃ t,PE (X.block scope C N s H fp) elt t/\t=te):Blk X scope N tg elt ifs g tc te:=
 ⟨h1,fun C s H fp=>by obtain ⟨t,h,rfl⟩:=h2 C s H fp;exact h,fun C s H fp=>by obtain ⟨t,h,rfl⟩:=h3 C s H fp;exact h⟩
theorem Jf {pins:List (Addr × Obj)} {s₂:Shared} {σ:St} {H₂:Hp} {Q:VK} {it:Addr} {fp:List Addr} {tn:Nat->Heap->Prop} {J:It} {W:Nat->Nat->List V->Hp->Prop} {E:Value->Shared->Prop} {RR:Value->Addr->Result->Shared->Prop}
  (hc:X.calm=true) (S:Zd X.env scope) (hsel:ji X.N scope N sel) (B:Blk X scope N tg elt ifs g tc te) (I2:Inv X pins σ H₂ s₂) (T:lm X.prog X.w X.K tg J fp it tn) (st2:tn 0 s₂.heap) (f2:∀ b ∈ fp,Qg X pins H₂ b)
  (w0:∃ m,W 0 m [] H₂) (hW:Eh J g tc te (blk sel σ) Q W)
  (fin:∀ D C ys H' s',Inv X pins σ (upd H' D (.lst ys)) s'->(∃ m,s'.heap.Ns C m)->Qg X pins (upd H' D (.lst ys)) C->Q (.ref D) (upd H' D (.lst ys))->RR (.ref D) C (.ok .next) s') :
  wpAny (model X.prog X.w) X.A (newList []) (fun acc s₃=>wpAny (model X.prog X.w) X.A (newFunctionEnv scope X.env.globals (tf X.env.cells scope.names []) [] X.env.qual none .none (some X.env)) (fun cenv s₄=>
   codeAny (model X.prog X.w) X.A (.compStart (.ListComp elt [⟨tg,iter,ifs,0⟩] scope pos) 0 (.ref it) acc { cenv with scope:=relabel scope X.env }) (RR acc cenv.locals) s₄) E s₃) E s₂:=by
 refine wpAny_newObj_type (wpAny_newFunctionEnv S.nocell (by intro y hy;simp at hy) (fun h₁ hns₁ hsb₁=>?_) S.kind);dsimp only at hns₁ hsb₁ ⊢;generalize hH2:s₂.heap.push { cls:=.type "list",dict:=none,data:=.seq ([]:List Value).toArray }=H2 at hns₁ hsb₁ ⊢;have hC:H2.objs.size=s₂.heap.objs.size + 1:=by rw [<- hH2,Heap.size_push]
 have hDC:s₂.heap.objs.size ≠ H2.objs.size:=by rw [hC];exact Nat.ne_of_lt (Nat.lt_succ_self _)
 have hCle:s₂.heap.objs.size <= H2.objs.size:=by rw [hC];exact Nat.le_succ _
 have below:∀ b,b < s₂.heap.objs.size->b ≠ H2.objs.size/\b ≠ s₂.heap.objs.size:=fun b hb=>⟨by rw [hC];exact Nat.ne_of_lt (Nat.lt_succ_of_lt hb),Nat.ne_of_lt hb⟩
 have old:∀ b o,s₂.heap.get? b=some o->h₁.get? b=some o:=fun b o e=>hsb₁.extBut b o (below b (Heap.lt_size e)).1 (Heap.get?_push_of_some _ (hH2 ▸ Heap.get?_push_of_some _ e))
 have hacc:h₁.get? s₂.heap.objs.size=some { cls:=.type "list",data:=.seq ([]:List Value).toArray }:=hsb₁.extBut _ _ hDC (Heap.get?_push_of_some _ (hH2 ▸ Heap.get?_push_size _ rfl));have fps:∀ b ∈ fp,b < s₂.heap.objs.size:=fun b hb=>by
  obtain ⟨o,e,_⟩:=T.obj _ _ st2 b hb;exact Heap.lt_size e
 generalize hCe:H2.objs.size=C at *;generalize hDe:s₂.heap.objs.size=D at *;have st1:tn 0 h₁:=T.keep _ _ _ st2 fun b _ o e=>old b o e
 have IB0:Inv (X.block scope C N s₂ H₂ fp) [] (blk sel σ) H₂ { s₂ with heap:=h₁,toks:=s₂.toks + ([]:List (Str × Value)).length }:=
  Gi I2 S f2 (fun b hb=>by rw [hDe];exact fps b hb) (by rw [hDe];exact hCle) old hns₁ hsel
 have hDfs:D ∉ (X.block scope C N s₂ H₂ fp).fs:=fun z=>by
  have z':=I2.stkSub D z;rcases List.mem_cons.mp z' with e | e
  ·exact absurd I2.lt (by rw [<- e,hDe];exact Nat.lt_irrefl _)
  ·exact I2.nofs (by rw [hDe];exact Nat.le_refl _) e
 have loop:∀ s₃:Shared,s₃ = { s₂ with heap:=h₁,toks:=s₂.toks + ([]:List (Str × Value)).length } ->
   codeAny (model X.prog X.w) X.A (.compLoop (.ListComp elt [⟨tg,iter,ifs,0⟩] scope pos) 0 (.ref it) (.ref D) (compEnvC scope (tf X.env.cells scope.names []) C X.env)) (RR (.ref D) C) s₃:=by
  rintro s₃ rfl;obtain ⟨m0,w0⟩:=w0;refine ld (fun k s'=>∃ i ys us n H',Inv (X.block scope C N s₂ H₂ fp) [(D,{ cls:=.type "list",data:=.seq us n })] (blk sel σ) H' s'/\(∃ vs:List Value,us=vs.toArray/\Pb ys vs)/\ys.length <= sizeLine/\tn i s'.heap/\(∀ b ∈ fp,H' b=none)/\W i k ys H') ?_ m0
   ⟨0,[],_,0,H₂,IB0.pins_of fun p hp=>?_,⟨[],rfl,.nil⟩,Nat.zero_le _,st1,fun b hb=>(f2 b hb).1,w0⟩
  ·rintro k s' ⟨i,ys,us,n,H',IB,⟨vs,rfl,rv⟩,hyz,st,fr,w⟩;have fpB:∀ {pl:List (Addr × Obj)} {H'':Hp},(∀ p ∈ pl,p.1=D)->(∀ b ∈ fp,H'' b=none)->∀ b ∈ fp,Qg (X.block scope C N s₂ H₂ fp) pl H'' b:=fun {pl H''} hp hn b hb=>
    ⟨hn b hb,(below b (fps b hb)).1,(Mg (N:=N) (C:=C) I2 S f2 (fun b hb=>by rw [hDe];exact fps b hb) (by rw [hDe];exact hCle)).exfs b hb,.inl hb,fun x c e=>(f2 b hb).2.2.2.2.1 x c (He e),fun p hpp z=>by
     have hpp':p ∈ pl:=by simpa using hpp
     exact (below b (fps b hb)).2 (by rw [<- z];exact hp p hpp')⟩
   have hD1:∀ p ∈ [((D,{ cls:=.type "list",data:=.seq vs.toArray n }):Addr × Obj)],p.1=D:=fun p hp=>by
    have e:p=(D,{ cls:=.type "list",data:=.seq vs.toArray n }):=by simpa using hp
    rw [e]
   rcases hW i k ys H' w with ⟨stop,qn⟩ | ⟨go,hlen,step⟩
   ·refine thn (T.done (X.block scope C N s₂ H₂ fp) rfl rfl rfl hc i _ s' _ H' _ IB (fpB hD1 fr) st stop) fun r s4 hZ1=>?_
    obtain ⟨hr,I4⟩:=hZ1;subst hr;have pD:=I4.pin (D,{ cls:=.type "list",data:=.seq vs.toArray n }) (by simp);have hDn:H' D=none:=pD.2.1;have IX:Inv X pins σ H' s4:=I2.call' (ch:=fp) I4.os I4.base I4.hok I4.bare fun b hb=>⟨(f2 b hb).2.2.2.1,(f2 b hb).2.1,(f2 b hb).2.2.2.2.1,(f2 b hb).2.2.2.2.2⟩
    have foD:Qg X pins H' D:=I2.fpOk (by rw [hDe];exact Nat.le_refl _) hDn;have IA:Inv X pins σ (upd H' D (.lst ys)) s4:=IX.adopt foD ⟨hyz,vs,n,rv,pD.1⟩;obtain ⟨mC,hnC,_⟩:=I4.loc;refine fin D C ys H' s4 IA ⟨mC,hnC⟩ (I2.fpOk (by rw [hDe];exact hCle) ?_) (qn D hDn);rw [fb (Ne.symm hDC)];exact I4.free
   ·refine thn (T.item (X.block scope C N s₂ H₂ fp) rfl rfl rfl hc i _ s' _ H' _ IB (fpB hD1 fr) st go) fun r s4 hZ1=>?_
    obtain ⟨u,hr,h4⟩:=hZ1;subst hr;refine thn h4 fun _ s5 hZ1=>?_
    obtain ⟨x,H5,I5,r5,y5,st5,fr5⟩:=hZ1;have I5':=I5.pinned (fpB hD1 fr5) (T.obj _ _ st5);refine thn (B.tgt C s₂ H₂ fp _ s5 _ H5 x u _ I5' r5 (step x H5 y5)) fun _ s6 hZ1=>?_
    obtain ⟨σ6,H6,I6,sb,q6⟩:=hZ1;refine thn (B.tests C s₂ H₂ fp _ s6 σ6 H6 _ I6 q6) fun c s7 hZ1=>?_
    obtain ⟨H7,I7,q7⟩:=hZ1;have again:∀ {σ8:St} {H8:Hp} {s8:Shared},Inv (X.block scope C N s₂ H₂ fp) ([(D,{ cls:=.type "list",data:=.seq vs.toArray n })] ++ Sf fp s5.heap) σ8 H8 s8->tn (i + 1) s8.heap/\(∀ b ∈ fp,H8 b=none):=fun {σ8 H8 s8} I8=>by
     refine ⟨T.keep _ _ _ st5 fun b hb o e=>(I8.pin (b,o) (mem_append_right _ (mem_append_right _ (jd hb e)))).1,fun b hb=>?_⟩;obtain ⟨o,e,d⟩:=T.obj _ _ st5 b hb;exact (I8.pin (b,o) (mem_append_right _ (mem_append_right _ (jd hb e)))).2.1
    have back:∀ {H8:Hp} {s8:Shared} {pl:List (Addr × Obj)},Inv (X.block scope C N s₂ H₂ fp) pl σ6 H8 s8->Inv (X.block scope C N s₂ H₂ fp) pl (blk sel σ) H8 s8:=fun {H8 s8 pl} I8=>I8.weak sb.1.symm sb.2
    cases c with
    | false=>
     obtain ⟨m',hm,w'⟩:=q7;obtain ⟨t1,t2⟩:=again I7;exact ⟨m',hm,i + 1,ys,_,n,H7,back I7.unpinned,⟨vs,rfl,rv⟩,hyz,t1,t2,w'⟩
    | true=>
     refine thn (B.elem C s₂ H₂ fp _ s7 σ6 H7 _ I7 q7) fun v s8 hZ1=>?_
     obtain ⟨y,H8,I8,r8,m',hm,w'⟩:=hZ1;obtain ⟨t1,t2⟩:=again I8;have pD:=I8.pin (D,{ cls:=.type "list",data:=.seq vs.toArray n }) (by simp);refine append_at (hsz:=by have:=rv.length;rw [size_toArray];omega) pD.1 fun h9 hs9 hD9=>?_
     have IB':Inv (X.block scope C N s₂ H₂ fp) [] (blk sel σ) H8 s8:=(back I8).pins_of fun p hp=>nomatch hp
     have foD:Qg (X.block scope C N s₂ H₂ fp) [] H8 D:=⟨pD.2.1,hDC,hDfs,.inr (by show s₂.heap.objs.size <= D;rw [hDe];exact Nat.le_refl _),(fun x c e z=>by
      obtain ⟨cv,o,ho,hd⟩:=I8.cell x c e;rw [z,pD.1] at ho;cases ho;cases hd),(fun p hp=>nomatch hp)⟩
     have I9:Inv (X.block scope C N s₂ H₂ fp) [] (blk sel σ) H8 { s8 with heap:=h9 }:=IB'.turned (t':=s8.toks) (it:=D) (fun b o hb e=>(hs9.2 b hb).trans e) foD.1 foD.2.1 foD.2.2.2.1 foD.2.2.2.2.1 foD.2.2.2.2.2;refine ⟨m',hm,i + 1,ys ++ [y],vs.toArray.push v,n + 1,H8,I9.pins_of fun p hp=>?_,⟨vs ++ [v],by simp,Paired.snoc rv r8⟩,by rw [length_append,List.length_singleton];omega,T.keep _ _ _ t1 fun b hb o e=>(hs9.2 b (below b (fps b hb)).2).trans e,t2,w'⟩;have e:p=(D,{ cls:=.type "list",data:=.seq (vs.toArray.push v) (n + 1) }):=by simpa using hp
     subst e;exact ⟨hD9,pD.2.1,hDC,hDfs,fun v z=>by cases z⟩
  ·have e:p=(D,{ cls:=.type "list",data:=.seq ([]:List Value).toArray }):=by simpa using hp
   subst e;exact ⟨hacc,I2.hok.fresh (by rw [hDe];exact Nat.le_refl _),hDC,hDfs,fun v z=>by cases z⟩
 exact codeAny_compStart_list (loop _ rfl) (T.self _ 0 _ _ _ st1 (loop _ rfl))
theorem Wc (hc:X.calm=true) (hi:PI X tg iter wi) (S:Zd X.env scope) (hsel:ji X.N scope N sel) (B:Blk X scope N tg elt ifs g tc te)
  (hs:∀ x,foldedSetIterable iter X.env x=pure x:=by intro _;rfl):PE X (.ListComp elt [⟨tg,iter,ifs,0⟩] scope pos) (ml wi g tc te sel):=by
 intro pins s σ H Q I h;rw [eval_ListComp];refine wpAny_comprehension_free (use:=none) rfl hs (si (S.cells I.ok)) S.kind S.loc ?_;refine thn (hi pins s σ H _ I h) fun v s1 h1=>thn h1 fun itv s2 h2=>?_
 obtain ⟨it,fp,tn,J,H2,e,I2,T,st2,f2,W,w0,hW⟩:=h2;subst e;refine Jf (RR:=fun acc C=>compPost (model X.prog X.w) X.A X.xe none (EP X pins σ Q) acc C) hc S hsel B I2 T st2 f2 w0 hW fun D C ys H' s' I' ⟨m,hm⟩ fo q=>?_
 exact ⟨m,hm,fun h' hsb=>⟨.ref D,_,I'.turned (t':=s'.toks) (it:=C) (fun b o hb e=>(hsb.2 b hb).trans e) fo.1 fo.2.1 fo.2.2.2.1 fo.2.2.2.2.1 fo.2.2.2.2.2,rfl,q⟩⟩
theorem zh {i:Nat} {y:Str} {py spos:Pos} (hN:X.N.Nodup) (hi:X.N[i]? = some y) (hx:Loc X.env.scope y) (hc:X.calm=true) (hit:PI X tg iter wi) (S:Zd X.env scope) (hsel:ji X.N scope N sel) (B:Blk X scope N tg elt ifs g tc te)
  (hsw:swapsWith (.ListComp elt [⟨tg,iter,ifs,0⟩] scope pos) (some (.Name y py)) spos.line X.env=pure true) (hf:X.fn y=true\/X.env.scope.names.lookup y=some .local:=by first | exact .inl rfl | exact .inr rfl | assumption)
  (hs:∀ x,foldedSetIterable iter X.env x=pure x:=by intro _;rfl):PS X (.Assign [.Name y py] (.ListComp elt [⟨tg,iter,ifs,0⟩] scope pos) spos) (xn (ml wi g tc te sel) (Sj i)):=by
 intro pins s σ H D I h;rw [exec_Assign_Name_used _ _ _ _ hsw];refine wpAny_bind (wpAny_standAt (wpAny_bind ?_));show wpAny _ X.A (do let _ <- comprehension (.ListComp elt [⟨tg,iter,ifs,0⟩] scope pos) scope X.env _ (newList []) false (eval iter X.env) (some (assign (.Name y py) X.env))) _ _ s;refine wpAny_bind (wpAny_mono (wpAny_comprehension_free (use:=some (assign (.Name y py) X.env)) (Q:=fun _ s'=>SP X pins D .next s') rfl hs (si (S.cells I.ok)) S.kind S.loc ?_) (fun _ s' hq=>wpAny_pure (wpAny_pure hq)) fun _ _ e=>e);refine thn (hit pins s σ H _ I h) fun v s1 h1=>thn h1 fun itv s2 h2=>?_
 obtain ⟨it,fp,tn,J,H2,e,I2,T,st2,f2,W,w0,hW⟩:=h2;subst e;refine Jf (RR:=fun acc C=>compPost (model X.prog X.w) X.A X.xe (some (assign (.Name y py) X.env)) (fun _ s'=>SP X pins D .next s') acc C) hc S hsel B I2 T st2 f2 w0 hW fun Da C ys H' s' I' ⟨m,hm⟩ fo q=>?_
 show wpAny _ X.A (assign (.Name y py) X.env (.ref Da)) _ _ _;refine wpAny_assign_Name (Vf I' hN hi hx (show Qb (.ref Da) (.ref Da) from rfl) (fun s3 I3 hZ1=>?_) hf);obtain ⟨a,hsb,ha⟩:=hZ1;have hCa:C ≠ a:=by
  rcases ha with z | z
  ·rw [z];exact fo.2.1
  ·exact fun w=>fo.2.2.2.2.1 y a z w.symm
 refine ⟨m,hm.sameBut hsb hCa,fun h' hsb'=>⟨_,_,I3.turned (t':=s3.toks) (it:=C) (fun b o hb e=>(hsb'.2 b hb).trans e) fo.1 fo.2.1 fo.2.2.2.1 fo.2.2.2.2.1 fo.2.2.2.2.2,q⟩⟩
end
noncomputable def Kc (Pv:Nat->List V->Hp->Prop) (g:TG) (tc:TT) (te:TE) (σb:St) (i:Nat) (x:V) (ys:List V) (H:Hp):Prop:=
 ∀ N:List V->Hp->Prop,(∀ ys' H',Pv (i + 1) ys' H'->N ys' H')->g x σb H fun σ2 H2=>Sub σb σ2/\tc σ2 H2 fun c H3=>if c=true then te σ2 H3 fun y H4=>N (ys ++ [y]) H4 else N ys H3
theorem Nh {K:W.Frag} {a:Addr} {xs:List V} {g:TG} {tc:TT} {te:TE} {σb:St} {Q:VK} {H:Hp} (Pv:Nat->List V->Hp->Prop) (hz:xs.length <= sizeLine) (h0:Pv 0 [] H) (hl:∀ i ys H,i <= xs.length->Pv i ys H->SqL K H a xs/\ys.length <= i)
  (hs:∀ i x ys H,xs[i]? = some x->Pv i ys H->Kc Pv g tc te σb i x ys H) (hd:∀ ys H,Pv xs.length ys H->∀ p,H p=none->Q (.ref p) (upd H p (.lst ys))) :
  ∃ W:Nat->Nat->List V->Hp->Prop,(∃ m,W 0 m [] H)/\Eh (Itl K a) g tc te σb Q W:=by
 refine ⟨fun i m ys H=>m=xs.length - i/\i <= xs.length/\Pv i ys H,⟨xs.length,by simp,Nat.zero_le _,h0⟩,?_⟩;rintro i m ys H ⟨rfl,hi,p⟩;have q:=(hl i ys H hi p).1;have hyl:=(hl i ys H hi p).2;by_cases hlt:i < xs.length
 ·refine .inr ⟨⟨xs,xs[i],q,by simp [hlt]⟩,by omega,fun x H' y=>?_⟩;obtain ⟨e,y⟩:=y;subst e;exact hs i x ys _ (y xs q) p (fun ys' H'=>∃ m',m' < xs.length - i/\m'=xs.length - (i + 1)/\i + 1 <= xs.length/\Pv (i + 1) ys' H') fun ys' H' r=>⟨xs.length - (i + 1),by omega,rfl,hlt,r⟩
 ·have e:i=xs.length:=by omega
  subst e;exact .inl ⟨⟨xs,q,Nat.le_refl _⟩,hd ys H p⟩
theorem Ah {lo:Int} {n:Nat} {g:TG} {tc:TT} {te:TE} {σb:St} {Q:VK} {H:Hp} (Pv:Nat->List V->Hp->Prop) (hz:n <= sizeLine) (h0:Pv 0 [] H) (hl:∀ i ys H,i <= n->Pv i ys H->ys.length <= i)
  (hs:∀ i ys H,i < n->Pv i ys H->Kc Pv g tc te σb i (.int (lo + i)) ys H) (hd:∀ ys H,Pv n ys H->∀ p,H p=none->Q (.ref p) (upd H p (.lst ys))) :
  ∃ W:Nat->Nat->List V->Hp->Prop,(∃ m,W 0 m [] H)/\Eh (Itr lo n) g tc te σb Q W:=by
 refine ⟨fun i m ys H=>m=n - i/\i <= n/\Pv i ys H,⟨n,by simp,Nat.zero_le _,h0⟩,?_⟩;rintro i m ys H ⟨rfl,hi,p⟩;have hyl:=hl i ys H hi p;by_cases hlt:i < n
 ·refine .inr ⟨hlt,by omega,fun x H' y=>?_⟩;obtain ⟨e,y⟩:=y;subst e y;exact hs i ys _ hlt p (fun ys' H'=>∃ m',m' < n - i/\m'=n - (i + 1)/\i + 1 <= n/\Pv (i + 1) ys' H') fun ys' H' r=>⟨n - (i + 1),by omega,rfl,hlt,r⟩
 ·have e:i=n:=by omega
  subst e;exact .inl ⟨Nat.le_refl _,hd ys H p⟩
end L2
namespace L2
open PySem PySem.Spec PyProof.Rows
noncomputable def Its (xs:List V):It:=⟨fun i _=>i < xs.length,fun i H x H'=>H'=H/\xs[i]? = some x,fun i _=>xs.length <= i⟩
noncomputable def pd (c:Nat):Str:=⟨#[c]⟩
section
variable {X:Cx} {tg:Expr}
end
theorem Dk {xs:List V} {g:TG} {tb:TS} {D:Fd} {σ:St} {H:Hp} (Pv:Nat->St->Hp->Prop) (h0:Pv 0 σ H)
  (hs:∀ i x σ H,xs[i]? = some x->Pv i σ H->g x σ H fun σ2 H2=>tb { D with nx:=Pv (i + 1),ct:=Pv (i + 1),bk:=D.nx } σ2 H2) (hd:∀ σ H,Pv xs.length σ H->D.nx σ H) :
  ∃ W:Nat->Nat->St->Hp->Prop,(∃ m,W 0 m σ H)/\∀ i m σ H,W i m σ H ->
   ((Its xs).stop i H/\D.nx σ H)\/((Its xs).go i H/\∃ N:St->Hp->Prop,(∀ σ' H',N σ' H'->∃ m',m' < m/\W (i + 1) m' σ' H')/\∀ x H',(Its xs).yld i H x H'->g x σ H' fun σ2 H2=>tb { D with nx:=N,ct:=N,bk:=D.nx } σ2 H2):=by
 refine ⟨fun i m σ H=>m=xs.length - i/\i <= xs.length/\Pv i σ H,⟨xs.length,by simp,Nat.zero_le _,h0⟩,?_⟩;rintro i m σ H ⟨rfl,hi,p⟩;by_cases hlt:i < xs.length
 ·refine .inr ⟨hlt,Pv (i + 1),fun σ' H' p'=>⟨xs.length - (i + 1),by omega,rfl,hlt,p'⟩,fun x H' y=>?_⟩;obtain ⟨e,y⟩:=y;subst e;exact hs i x σ _ y p
 ·have e:i=xs.length:=by omega
  subst e;exact .inl ⟨Nat.le_refl _,hd σ H p⟩
theorem sj {xs:List V} {g:TG} {tc:TT} {te:TE} {σb:St} {Q:VK} {H:Hp} (Pv:Nat->List V->Hp->Prop) (hz:xs.length <= sizeLine) (h0:Pv 0 [] H) (hl:∀ i ys H,i <= xs.length->Pv i ys H->ys.length <= i)
  (hs:∀ i x ys H,xs[i]? = some x->Pv i ys H->Kc Pv g tc te σb i x ys H) (hd:∀ ys H,Pv xs.length ys H->∀ p,H p=none->Q (.ref p) (upd H p (.lst ys))) :
  ∃ W:Nat->Nat->List V->Hp->Prop,(∃ m,W 0 m [] H)/\Eh (Its xs) g tc te σb Q W:=by
 refine ⟨fun i m ys H=>m=xs.length - i/\i <= xs.length/\Pv i ys H,⟨xs.length,by simp,Nat.zero_le _,h0⟩,?_⟩;rintro i m ys H ⟨rfl,hi,p⟩;have hyl:=hl i ys H hi p;by_cases hlt:i < xs.length
 ·refine .inr ⟨hlt,by omega,fun x H' y=>?_⟩;obtain ⟨e,y⟩:=y;subst e;exact hs i x ys _ y p (fun ys' H'=>∃ m',m' < xs.length - i/\m'=xs.length - (i + 1)/\i + 1 <= xs.length/\Pv (i + 1) ys' H') fun ys' H' r=>⟨xs.length - (i + 1),by omega,rfl,hlt,r⟩
 ·have e:i=xs.length:=by omega
  subst e;exact .inl ⟨Nat.le_refl _,hd ys H p⟩
section
variable {X:Cx}
noncomputable def Xn:V->Option Int->Option Int->Hp->VK->Prop:=fun x lo hi H Q=>∃ z,x=.str z/\z.length <= sizeLine/\Q (.str (Txt.slice z lo hi)) H
theorem Lf:SlR X Xn:=by
 intro pins s σ H x v vl vu lo hi sl Q I rx hs pl pu h;obtain ⟨z,rfl,hz,q⟩:=h;obtain ⟨t,rfl⟩:=rx;refine ⟨"str",_,F.slot_str_getitem.lookup,typeIs_str s z t,?_⟩;have fin:∀ t' k,EP X pins σ Q (.str (Txt.slice z lo hi) t') { s with toks:=k }:=fun t' k=>⟨.str _,H,I.tok _,⟨_,rfl⟩,q⟩
 cases pl with
 | none=>
  cases pu with
  | none=>exact wpAny_getItem_str_slice (l:=none) (u:=none) (st:=none) hs rfl (post_val_or_str ⟨Nat.le_trans (Txt.slice_le z _ _) hz,fin⟩)
  | int j uj=>exact wpAny_getItem_str_slice (l:=none) (u:=some (j,uj)) (st:=none) hs rfl (post_val_or_str ⟨Nat.le_trans (Txt.slice_le z _ _) hz,fin⟩)
 | int i ui=>
  cases pu with
  | none=>exact wpAny_getItem_str_slice (l:=some (i,ui)) (u:=none) (st:=none) hs rfl (post_val_or_str ⟨Nat.le_trans (Txt.slice_le z _ _) hz,fin⟩)
  | int j uj=>exact wpAny_getItem_str_slice (l:=some (i,ui)) (u:=some (j,uj)) (st:=none) hs rfl (post_val_or_str ⟨Nat.le_trans (Txt.slice_le z _ _) hz,fin⟩)
noncomputable def Bb (ys:List Str):List V:=ys.map V.str
theorem Le:∀ {ys:List Str} {us:List Value},Pb (Bb ys) us->StrsAre us ys:=by
 intro ys
 induction ys with
 | nil=>intro us r;cases r;exact .nil
 | cons y ys ih=>
  intro us r;cases r with
  | cons r1 r2=>
   obtain ⟨t,rfl⟩:=r1;exact .cons y t (ih r2)
noncomputable def mm (K:W.Frag):V->List V->Hp->VK->Prop:=fun x vs H Q=>∃ sep p ys,x=.str sep/\vs=[.ref p]/\SqL K H p (Bb ys)/\(ys.map (·.length)).sum + ys.length * sep.length <= 16777216/\Q (.str (Txt.join sep ys)) H
theorem me:MtR X "str.join" (mm X.K):=by
 intro pins s σ H x xs v us Q I rx rv h;obtain ⟨sep,p,ys,rfl,rfl,hq,hz,q⟩:=h;obtain ⟨t,rfl⟩:=rx;obtain ⟨u,rfl,ru⟩:=Wf rv;cases ru;obtain ⟨its,r,pl,_⟩:=I.list hq;exact join_list pl.isList (by simpa using Le r) hz fun t' k=>⟨.str _,H,I.tok _,⟨_,rfl⟩,q⟩
end
section
variable {X:Cx}
theorem bf:Bf X (.builtin "isinstance") (fun xs H Q=>∃ x T t b,xs=[x,.ty T]/\fh X.K H x t/\PySem.W.kitOne X.K t (.type T)=some b/\Q (.bl b) H):=by
 intro pins s σ H xs us Q I r h;obtain ⟨x,T,t,b,rfl,ty,e,q⟩:=h;obtain ⟨u,u2,rfl,rx,r2⟩:=An r;cases r2;exact vi I rx ty e fun tk=>⟨.bl b,H,I.tok _,rfl,q⟩
end
end L2
namespace L2
open PySem PySem.Spec PyProof.Rows
theorem Ye {X:Cx} {N:List Str} (h:N.Nodup) (e:X.N=N):X.N.Nodup:=e ▸ h
noncomputable def qi (sc scope:Scope):Bool:=
 (scope.kind == .function) && scope.names.all (fun y=>y.2 != .cell) && scope.names.all (fun y=>y.2 != .free || sc.names.lookup y.1 == some .cell || sc.names.lookup y.1 == some .free) &&
  scope.names.all (fun y=>y.2 != .local || scope.names.lookup y.1 == some .local)
theorem Yb {env:Env} {sc scope:Scope} (he:env.scope=sc) (h:qi sc scope=true):Zd env scope:=by
 subst he;unfold qi at h;simp only [Bool.and_eq_true,List.all_eq_true] at h;obtain ⟨⟨⟨h1,h2⟩,h3⟩,h4⟩:=h;refine ⟨by simpa using h1,fun y hy e=>?_,fun y hy e=>?_,fun y hy e=>?_⟩
 ·have:=h2 y hy;rw [e] at this;exact absurd this (by decide)
 ·have:=h3 y hy;rw [e] at this;simp only [Bool.or_eq_true] at this;rcases this with (z | z) | z
  ·exact absurd z (by decide)
  ·exact .inl (show env.scope.names.lookup y.1=some .cell by simpa using z)
  ·exact .inr (show env.scope.names.lookup y.1=some .free by simpa using z)
 ·have:=h4 y hy;rw [e] at this;simp only [Bool.or_eq_true] at this;rcases this with z | z
  ·exact absurd z (by decide)
  ·simpa using z
noncomputable def bo (M:List Str) (scope:Scope) (N:List Str) (sel:List (Option Nat)):Bool:=
 sel.length == N.length && (sel.zip N).all fun p=>match p.1 with | none=>true | some j=>M[j]? == some p.2 && scope.names.lookup p.2 == some .free
theorem jc {M:List Str} {scope:Scope} {N:List Str} {sel:List (Option Nat)} (h:bo M scope N sel=true):ji M scope N sel:=by
 unfold bo at h;simp only [Bool.and_eq_true,List.all_eq_true] at h;refine ⟨by simpa using h.1,fun i j x e1 e2=>?_⟩;have hm:(some j,x) ∈ sel.zip N:=by
  rw [List.mem_iff_getElem?];exact ⟨i,by rw [List.getElem?_zip_eq_some];exact ⟨e1,e2⟩⟩
 have:=h.2 _ hm;simp only [Bool.and_eq_true] at this;exact ⟨by simpa using this.1,by simpa using this.2⟩
noncomputable def noT:HO->Bool
 | .dT _=>false
 | .frz _ u=>noT u
 | _=>true
noncomputable def NoT (H:Hp):Prop:=∀ b o,H b=some o->noT o=true
theorem Kb.back {P:Program} {w:World} {H H':Hp} {h h':Heap} {a:Addr}:∀ (o:HO),noT o=true->Kb P w H' h' a o->Kb P w H h a o->Kb P w H h' a o
 | .lst _,_,x,_=>x
 | .tup _,_,x,_=>x
 | .dK _,_,x,_=>x
 | .dT _,e,_,_=>absurd e (by unfold noT;decide)
 | .set _ _,_,x,_=>x
 | .ins _ _ _,_,x,y=>⟨y.1,x.2⟩
 | .own _,_,x,_=>x
 | .xd _,_,x,_=>x
 | .met _ _,_,x,_=>x
 | .rng _ _,_,x,_=>x
 | .frz ob u,e,x,y=>⟨x.1,Kb.back u (by unfold noT at e;exact e) x.2 y.2⟩
 | .tbl _,_,x,_=>x
 | .ext _,_,x,_=>x
section
variable {P:Program} {w:World} {K:W.Frag} {mg:Str->Option Value} {base:Heap}
theorem Gc.forget {k:Nat} {f:Addr} {fd:FuncData} {ps:List Str} {sp sp':Sp} (F:Gc P w K mg base CX0 k f fd ps sp)
  (h:∀ vs H Q E,sp' vs H Q E->NoT H/\sp vs H (fun v H'=>Nb H H'/\Q v H) E):Gc P w K mg base CX0 k f fd ps sp':=by
 refine ⟨fun vs H Q E q=>F.len vs H _ E (h vs H Q E q).2,fun A outer s H args us vs Q E hr he hb hv hs=>?_⟩;obtain ⟨nt,q⟩:=h vs H Q E hs;refine codeAny_mono (F.run A outer s H args us vs _ E hr he hb hv q) fun r s' hq=>?_
 cases r with
 | error e=>exact hq
 | ok fl=>
  cases fl with
  | next=>exact hq
  | brk=>exact hq
  | cont=>exact hq
  | ret u=>
   obtain ⟨v,H',os,bare,un,hok,rv,sm,q'⟩:=hq;exact ⟨v,H,os,bare,⟨un.keep,un.slot,fun _ _ _ n _=>n,un.there,fun _ _ z=>z,fun _ _ _ z=>z,fun _ ps z=>⟨#[],by rw [z];simp⟩⟩,fun a o e=>(hok a o (sm a o e)).back o (nt a o e) (he.hok a o e),rv,q'⟩
end
theorem Cb {H:Hp} {p:Addr} {o:HO} (h:H p=none):Nb H (upd H p o):=fun b u q=>by rw [fb (Ab q h)];exact q
theorem Nb.updN {H H1:Hp} {p:Addr} {o:HO} (s:Nb H H1) (h:H p=none):Nb H (upd H1 p o):=fun b u q=>by rw [fb (Ab q h)];exact s b u q
structure Sc (K:W.Frag) (a:Addr) (ns:List Int) (H:Hp):Prop where
 sq:(∃ o,H a=some (.frz o (.lst (ns.map V.int))))\/∃ (o:Obj) (its:Array Value) (n:Nat),K.lookup a=some o/\o.cls=.type "list" /\ o.dict=none/\o.data=.seq its n/\its.size <= sizeLine/\Pb (ns.map V.int) its.toList
 nt:NoT H
section
variable {K:W.Frag} {a p:Addr} {ns:List Int} {H H':Hp} {o:HO}
theorem Sc.seq (s:Sc K a ns H):SqL K H a (ns.map V.int):=by
 rcases s.sq with ⟨o,h⟩ | h
 ·exact .inl (.inr ⟨o,h⟩)
 ·exact .inr h
theorem Sc.new (s:Sc K a ns H) (hp:H p=none) (ho:noT o=true:=by rfl):Sc K a ns (upd H p o):=by
 refine ⟨?_,fun b u e=>?_⟩
 ·rcases s.sq with ⟨ob,h⟩ | h
  ·exact .inl ⟨ob,by rw [fb (Ab h hp)];exact h⟩
  ·exact .inr h
 ·by_cases hb:b=p
  ·subst hb;rw [cb] at e;cases e;exact ho
  ·rw [fb hb] at e;exact s.nt b u e
theorem Sc.set {u:HO} (s:Sc K a ns H) (hp:H p=some u) (hu:∀ ob z,u ≠ .frz ob z) (ho:noT o=true:=by rfl):Sc K a ns (upd H p o):=by
 refine ⟨?_,fun b x e=>?_⟩
 ·rcases s.sq with ⟨ob,h⟩ | h
  ·refine .inl ⟨ob,?_⟩;have hne:a ≠ p:=fun z=>by subst z;rw [hp] at h;exact hu _ _ (Option.some.inj h)
   rw [fb hne];exact h
  ·exact .inr h
 ·by_cases hb:b=p
  ·subst hb;rw [cb] at e;cases e;exact ho
  ·rw [fb hb] at e;exact s.nt b x e
theorem Sc.of_only (hO:Tl H) (hS:SqL K H a (ns.map V.int)):Sc K a ns H:=by
 refine ⟨?_,fun b u e=>?_⟩
 ·rcases hS with (h | ⟨o,h⟩) | h
  ·rcases hO a with z | ⟨ob,xs,z⟩
   ·rw [h] at z;cases z
   ·rw [h] at z;cases z
  ·exact .inl ⟨o,h⟩
  ·exact .inr h
 ·rcases hO b with z | ⟨ob,xs,z⟩
  ·rw [e] at z;cases z
  ·rw [e] at z;cases z;rfl
end
noncomputable def zm (K:W.Frag):Sp:=fun vs H Q _=>∃ (a:Addr) (ns:List Int),vs=[.ref a]/\Sc K a ns H/\ns.length <= 63/\∀ H',Q (.bl true) H'
theorem bc:bootBuiltins "len"=some (.builtin "len"):=PySem.boot_len
theorem dc:bootBuiltins "isinstance"=some (.builtin "isinstance"):=by decide +kernel
theorem xh:bootBuiltins "str"=some (.type "str"):=by decide +kernel
theorem Dc:bootBuiltins "list"=some (.type "list"):=by decide +kernel
theorem Ad:bootBuiltins "dict"=some (.type "dict"):=by decide +kernel
theorem Rd.same {H H':Hp} {a:Addr} {o:HO} (h:Rd H a o) (s:Nb H H'):Rd H' a o:=by
 rcases h with h | ⟨ob,h⟩
 ·exact .inl (s _ _ h)
 ·exact .inr ⟨ob,s _ _ h⟩
theorem SqL.same {K:W.Frag} {H H':Hp} {a:Addr} {xs:List V} (h:SqL K H a xs) (s:Nb H H'):SqL K H' a xs:=by
 rcases h with h | h
 ·exact .inl (h.same s)
 ·exact .inr h
theorem SqT.same {K:W.Frag} {H H':Hp} {a:Addr} {xs:List V} (h:SqT K H a xs) (s:Nb H H'):SqT K H' a xs:=by
 rcases h with h | h
 ·exact .inl (h.same s)
 ·exact .inr h
theorem NoT.upd {H:Hp} {p:Addr} {o:HO} (h:NoT H) (ho:noT o=true:=by rfl):NoT (upd H p o):=fun b u e=>by
 by_cases hb:b=p
 ·subst hb;rw [cb] at e;cases e;exact ho
 ·rw [fb hb] at e;exact h b u e
theorem Sc.same {K:W.Frag} {a:Addr} {ns:List Int} {H H':Hp} (s:Sc K a ns H) (sm:Nb H H') (nt:NoT H'):Sc K a ns H':=by
 refine ⟨?_,nt⟩;rcases s.sq with ⟨o,h⟩ | h
 ·exact .inl ⟨o,sm _ _ h⟩
 ·exact .inr h
end L2
namespace L2
open PySem PySem.Spec PyProof.Rows
structure Fo (K:W.Frag) (C:Addr) (m:Str) (f:Addr):Prop where
 rd:PySem.W.readsIn K C (.type "type")=true
 fd:PySem.W.findCls K (.ref C) (.type "type") m=some (.val (.ref f))
 ga:PySem.W.specialIn K (.ref C) "__getattribute__"=some (some (.builtin "type.__getattribute__"))
 kp:PySem.W.keepIn K (.ref f)=true
structure Go (P:Program) (w:World) (K:W.Frag) (mg:Str->Option Value) (base:Heap) (CX:CXT) (k:Nat) (OK:Addr->Prop) (m:Str) (ps:List Str) (SPV:Addr->Sp):Prop where
 ok:∀ C,OK C->∃ f fd,Cls K C/\yo K C m f/\Gc P w K mg base CX k f fd ps (SPV C)/\Vd K fd ps []
section
variable {X:Cx} {CX:CXT} {k:Nat} {f C:Addr} {fd:FuncData} {ps:List Str} {sp:Sp} {dvs:List V} {ds:List Value} {E:XK} {x m:Str} {p pos apos:Pos} {e o:Expr} {es:List Expr} {ta:TE} {t:TA}
variable {OK:Addr->Prop} {SPV:Addr->Sp}
end
noncomputable def Zm (w:World) (K:W.Frag) (u:Value) (kvs:List (Str × V)):Prop:=
 ∃ a es n,u=.ref a/\K.lookup a=some ⟨.type "dict",none,.dict es n,#[]⟩/\PySem.W.KeysLit w.params es.toList/\∀ x v,(x,v) ∈ kvs->∃ u',PySem.W.nsIn K a x=some (some u')/\Qb v u'
theorem ze {β:Type}:∀ {kvs:List (Str × β)} {x:Str} {v:β},kvs.lookup x=some v->(x,v) ∈ kvs
 | [],_,_,h=>by cases h
 | (k,y) :: r,x,v,h=>by
  rw [List.lookup] at h;by_cases e:x=k
  ·subst e;rw [beq_self_eq_true] at h;cases h;exact mem_cons_self ..
  ·rw [beq_eq_false_iff_ne.mpr e] at h;exact mem_cons_of_mem _ (ze h)
noncomputable abbrev SVs:=List (Str × V)
noncomputable def ak (kvs:SVs) (ty:TE):TE:=fun σ H Q=>ty σ H fun y H1=>∃ x v,y=.str x/\kvs.lookup x=some v/\Q v H1
section
variable {X:Cx} {x:Str} {p pos:Pos} {i:Expr} {ty:TE} {u:Value} {kvs:List (Str × V)}
theorem Zg (hg:Gl X x) (hm:X.mg x=some u) (D:Zm X.w X.K u kvs) (hi:PE X i ty) (hs:vn i) (hdb:(x == ("__debug__" : Str))=false:=by decide):PE X (.Subscript (.Name x p) i pos) (ak kvs ty):=by
 intro pins s σ H Q I h;obtain ⟨a,es,n,rfl,hl,hk,hv⟩:=D;refine Oi PySem.F.slot_dict_getitem.lookup hs (wg I hg hm (thn (hi pins s σ H _ I h) fun iv s2 hZ1=>?_) hdb);obtain ⟨y,H2,I2,ry,z,v,ey,l,q⟩:=hZ1;subst ey;obtain ⟨t,rfl⟩:=ry;obtain ⟨u',e1,e2⟩:=hv z v (ze l);have hm:=PySem.W.mapOf_K (prog:=X.prog) (w:=X.w) I2.kIn hl hk;exact ⟨hm.typeIs,wpAny_getItem_of (strKind_is X.prog X.w z t) hm (PySem.W.find_K hl e1) ⟨v,H2,I2.tok _,e2,q⟩⟩
end
end L2
namespace L2
open PySem PySem.Spec PyProof.Rows
noncomputable def Itz (K:W.Frag) (a b:Addr):It:=
  ⟨fun i H=>∃ xs ys x y,SqL K H a xs/\SqL K H b ys/\xs[i]? = some x/\ys[i]? = some y,
   fun i H v H'=>∃ p x y,H p=none/\v=.ref p/\(∀ xs,SqL K H a xs->xs[i]? = some x)/\(∀ ys,SqL K H b ys->ys[i]? = some y)/\H'=upd H p (.tup [x,y]),
   fun i H=>∃ xs ys,SqL K H a xs/\SqL K H b ys/\(xs.length <= i\/ys.length <= i)⟩
section
variable {X:Cx}
end
section
variable {X:Cx}
end
end L2
namespace L2
open PySem PySem.Spec PyProof.Rows
inductive EqH (K:W.Frag) (H:Hp):Nat->V->V->Bool->Prop
 | flat {k:Nat} {x y:V} (hx:Fe x=true) (hy:Fe y=true):EqH K H k x y (eqV x y)
 | lst {k:Nat} {p q:Addr} {xs ys:List V} {e:Nat->Bool} (hp:SqL K H p xs) (hq:SqL K H q ys) (hl:xs.length=ys.length) (he:∀ (j:Nat) (x y:V),xs[j]? = some x->ys[j]? = some y->EqH K H k x y (e j)):EqH K H (k + 1) (.ref p) (.ref q) ((List.range xs.length).all e)
 | lstN {k:Nat} {p q:Addr} {xs ys:List V} (hp:SqL K H p xs) (hq:SqL K H q ys) (hl:xs.length ≠ ys.length):EqH K H (k + 1) (.ref p) (.ref q) false
 | tup {k:Nat} {p q:Addr} {xs ys:List V} {e:Nat->Bool} (hp:SqT K H p xs) (hq:SqT K H q ys) (he:∀ (j:Nat) (x y:V),xs[j]? = some x->ys[j]? = some y->EqH K H k x y (e j)):EqH K H (k + 1) (.ref p) (.ref q) ((List.range (min xs.length ys.length)).all e && xs.length == ys.length)
theorem Tg {x:V} (h:Fe x=true):eqV x x=true:=by
 cases x <;> first | rfl | (simp [eqV];done) | cases h
theorem Re {n:Nat} {e:Nat->Bool} (h:∀ j,j < n->e j=true):(List.range n).all e=true:=by
 rw [List.all_eq_true];exact fun j hj=>h j (List.mem_range.mp hj)
section
variable {X:Cx} {pins:List (Addr × Obj)} {σ:St} {H:Hp} {s:Shared}
theorem EqH.self (I:Inv X pins σ H s) {k:Nat} {x y:V} {b:Bool} (h:EqH X.K H k x y b) (e:x=y):b=true:=by
 induction h with
 | flat hx hy=>subst e;exact Tg hx
 | @lst k p q xs ys f hp hq hl he ih=>
  injection e with e;subst e;have:=I.list_inj hp hq;subst this;refine Re fun j hj=>?_
  exact ih j xs[j] xs[j] (getElem?_eq_getElem hj) (getElem?_eq_getElem hj) rfl
 | lstN hp hq hl=>
  injection e with e;subst e;have:=I.list_inj hp hq;subst this;exact absurd rfl hl
 | @tup k p q xs ys f hp hq he ih=>
  injection e with e;subst e;have:=I.tuple_inj hp hq;subst this;rw [Bool.and_eq_true];refine ⟨Re fun j hj=>?_,by simp⟩;have hj':j < xs.length:=by omega
  exact ih j xs[j] xs[j] (getElem?_eq_getElem hj') (getElem?_eq_getElem hj') rfl
theorem Xc (A:Around):A.in1.units=A.units + 1:=rfl
theorem eh (I:Inv X pins σ H s) {k:Nat} {x y:V} {b:Bool} (h:EqH X.K H k x y b):∀ (A:Around) (v u:Value),A.units + k < cLine->Qb x v->Qb y u ->
  SeqAt.EqAt A s v u b/\(∀ p q,x=.ref p->y=.ref q->SeqAt.RcAt A s v u b):=by
 induction h with
 | flat hx hy=>
  intro A v u hu rx ry;refine ⟨ck rx ry hx hy,fun p q e _=>?_⟩;subst e;cases hx
 | @lst k p q xs ys f hp hq hl he ih=>
  intro A v u hu rx ry;cases rx;cases ry;obtain ⟨its,r,pl,hz⟩:=I.list hp;obtain ⟨jts,r',pl',hz'⟩:=I.list hq;have l1:=r.length;have l2:=r'.length;have rc:SeqAt.RcAt A s (.ref p) (.ref q) ((List.range xs.length).all f):=by
   have:=SeqAt.RcAt.lists (A:=A) (e:=f) pl.isList pl'.isList (by simp only [size_toArray];omega) (by omega) fun j h1 h2=>by
    simp only [size_toArray] at h1 h2;have hj:j < xs.length:=by omega
    have hj':j < ys.length:=by omega
    obtain ⟨a,ha,ra⟩:=r.get (getElem?_eq_getElem hj);obtain ⟨c,hc,rc⟩:=r'.get (getElem?_eq_getElem hj');have ea:its.toArray[j]=a:=by
     have:=getElem?_eq_getElem h1;rw [ha] at this;simpa using (Option.some.inj this).symm
    have ec:jts.toArray[j]=c:=by
     have:=getElem?_eq_getElem h2;rw [hc] at this;simpa using (Option.some.inj this).symm
    rw [ea,ec];exact (ih j _ _ (getElem?_eq_getElem hj) (getElem?_eq_getElem hj') A.in1 a c (by rw [Xc];omega) ra rc).1
   rwa [size_toArray,<- l1] at this
  refine ⟨?_,fun _ _ _ _=>rc⟩;by_cases hne:p=q
  ·have hb:=(EqH.lst hp hq hl he).self I (congrArg V.ref hne);rw [hb,hne];exact SeqAt.EqAt.same _
  ·exact SeqAt.EqAt.of_refs hne rc
 | @lstN k p q xs ys hp hq hl=>
  intro A v u hu rx ry;cases rx;cases ry;obtain ⟨its,r,pl,hz⟩:=I.list hp;obtain ⟨jts,r',pl',hz'⟩:=I.list hq;have l1:=r.length;have l2:=r'.length;have rc:SeqAt.RcAt A s (.ref p) (.ref q) false:=SeqAt.RcAt.lists_lengths pl.isList pl'.isList (by simp only [size_toArray,bne_iff_ne,ne_eq];omega) (by omega);refine ⟨SeqAt.EqAt.of_refs (fun e=>hl ?_) rc,fun _ _ _ _=>rc⟩;subst e;rw [I.list_inj hp hq]
 | @tup k p q xs ys f hp hq he ih=>
  intro A v u hu rx ry;cases rx;cases ry;obtain ⟨its,r,pl,hz⟩:=I.tuple hp;obtain ⟨jts,r',pl',hz'⟩:=I.tuple hq;have l1:=r.length;have l2:=r'.length;have rc:SeqAt.RcAt A s (.ref p) (.ref q) ((List.range (min xs.length ys.length)).all f && xs.length == ys.length):=by
   have:=SeqAt.RcAt.tuples (A:=A) (e:=f) pl pl' (by omega) fun j h1 h2=>by
    simp only [size_toArray] at h1 h2;have hj:j < xs.length:=by omega
    have hj':j < ys.length:=by omega
    obtain ⟨a,ha,ra⟩:=r.get (getElem?_eq_getElem hj);obtain ⟨c,hc,rc⟩:=r'.get (getElem?_eq_getElem hj');have ea:its.toArray[j]=a:=by
     have:=getElem?_eq_getElem h1;rw [ha] at this;simpa using (Option.some.inj this).symm
    have ec:jts.toArray[j]=c:=by
     have:=getElem?_eq_getElem h2;rw [hc] at this;simpa using (Option.some.inj this).symm
    rw [ea,ec];exact (ih j _ _ (getElem?_eq_getElem hj) (getElem?_eq_getElem hj') A.in1 a c (by rw [Xc];omega) ra rc).1
   rwa [size_toArray,size_toArray,<- l1,<- l2] at this
  refine ⟨?_,fun _ _ _ _=>rc⟩;by_cases hne:p=q
  ·have hb:=(EqH.tup hp hq he).self I (congrArg V.ref hne);rw [hb,hne];exact SeqAt.EqAt.same _
  ·exact SeqAt.EqAt.of_refs hne rc
end
section
variable {X:Cx} {pins:List (Addr × Obj)} {σ:St} {H:Hp} {s:Shared}
theorem Zf (I:Inv X pins σ H s) {k:Nat} {A:Around} {xs ys:List V} {its jts:List Value} {f:Nat->Bool} (hu:A.units + k < cLine) (r:Pb xs its) (r':Pb ys jts)
  (he:∀ (j:Nat) (x y:V),xs[j]? = some x->ys[j]? = some y->EqH X.K H k x y (f j)):∀ j (h1:j < its.toArray.size) (h2:j < jts.toArray.size),SeqAt.EqAt A s its.toArray[j] jts.toArray[j] (f j):=fun j h1 h2=>by
 simp only [size_toArray] at h1 h2;have l1:=r.length;have l2:=r'.length;have hj:j < xs.length:=by omega
 have hj':j < ys.length:=by omega
 obtain ⟨a,ha,ra⟩:=r.get (getElem?_eq_getElem hj);obtain ⟨c,hc,rc⟩:=r'.get (getElem?_eq_getElem hj');have ea:its.toArray[j]=a:=by
  have:=getElem?_eq_getElem h1;rw [ha] at this;simpa using (Option.some.inj this).symm
 have ec:jts.toArray[j]=c:=by
  have:=getElem?_eq_getElem h2;rw [hc] at this;simpa using (Option.some.inj this).symm
 rw [ea,ec];exact (eh I (he j _ _ (getElem?_eq_getElem hj) (getElem?_eq_getElem hj')) A a c hu ra rc).1
theorem xm (I:Inv X pins σ H s) {k:Nat} {p q:Addr} {b:Bool} (h:EqH X.K H k (.ref p) (.ref q) b) (A:Around) (hu:A.units + k < cLine):SeqAt.RcNeAt A s (.ref p) (.ref q) (!b):=by
 cases h with
 | flat hx hy=>cases hx
 | @lst k _ _ xs ys f hp hq hl he=>
  obtain ⟨its,r,pl,hz⟩:=I.list hp;obtain ⟨jts,r',pl',hz'⟩:=I.list hq;have l1:=r.length;have l2:=r'.length;have:=SeqAt.RcNeAt.lists (A:=A) (e:=f) pl.isList pl'.isList (by simp only [size_toArray];omega) (by omega) (Zf I (A:=A.in1) (k:=k) (by rw [Xc];omega) r r' he);rwa [size_toArray,<- l1] at this
 | @lstN k _ _ xs ys hp hq hl=>
  obtain ⟨its,r,pl,hz⟩:=I.list hp;obtain ⟨jts,r',pl',hz'⟩:=I.list hq;have l1:=r.length;have l2:=r'.length;exact SeqAt.RcNeAt.lists_lengths pl.isList pl'.isList (by simp only [size_toArray,bne_iff_ne,ne_eq];omega) (by omega)
 | @tup k _ _ xs ys f hp hq he=>
  obtain ⟨its,r,pl,hz⟩:=I.tuple hp;obtain ⟨jts,r',pl',hz'⟩:=I.tuple hq;have l1:=r.length;have l2:=r'.length;have:=SeqAt.RcNeAt.tuples (A:=A) (e:=f) pl pl' (by omega) (Zf I (A:=A.in1) (k:=k) (by rw [Xc];omega) r r' he);rwa [size_toArray,size_toArray,<- l1,<- l2] at this
end
section
variable {X:Cx}
noncomputable def Yn (K:W.Frag):R2:=fun x y H Q=>∃ p q b,x=.ref p/\y=.ref q/\EqH K H 8 (.ref p) (.ref q) b/\Q (.bl (!b)) H
theorem dj (hU:X.A.units + 64 < cLine):OpR X (compareOp .NotEq) (Yn X.K):=by
 intro pins s σ H x y v u Q I rx ry h;obtain ⟨p,q,b,rfl,rfl,hE,q'⟩:=h;cases rx;cases ry;exact xm I hE X.A (by omega) _ _ _ _ ⟨.bl (!b),H,I,rfl,q'⟩
noncomputable def Vn (K:W.Frag):R2:=fun x y H Q=>∃ p q b,x=.ref p/\y=.ref q/\EqH K H 8 (.ref p) (.ref q) b/\Q (.bl b) H
theorem Vm (hU:X.A.units + 64 < cLine):OpR X (compareOp .Eq) (Vn X.K):=by
 intro pins s σ H x y v u Q I rx ry h;obtain ⟨p,q,b,rfl,rfl,hE,q'⟩:=h;exact (eh I hE X.A v u (by omega) rx ry).2 p q rfl rfl _ _ _ _ ⟨.bl b,H,I,rfl,q'⟩
end
theorem EqH.mono {K:W.Frag} {H:Hp} {j k:Nat} {x y:V} {b:Bool} (h:EqH K H j x y b):j <= k->EqH K H k x y b:=by
 induction h generalizing k with
 | flat hx hy=>exact fun _=>.flat hx hy
 | lst hp hq hl he ih=>
  intro hk;obtain ⟨m,rfl⟩:∃ m,k=m + 1:=⟨k - 1,by omega⟩;exact .lst hp hq hl fun j x y h1 h2=>ih j x y h1 h2 (by omega)
 | lstN hp hq hl=>
  intro hk;obtain ⟨m,rfl⟩:∃ m,k=m + 1:=⟨k - 1,by omega⟩;exact .lstN hp hq hl
 | tup hp hq he ih=>
  intro hk;obtain ⟨m,rfl⟩:∃ m,k=m + 1:=⟨k - 1,by omega⟩;exact .tup hp hq fun j x y h1 h2=>ih j x y h1 h2 (by omega)
noncomputable def rn:V->V->Bool
 | .int _,.int _=>true
 | .str _,.str _=>true
 | .bl _,.bl _=>true
 | .non,.non=>true
 | _,_=>false
theorem ng {x y:V} (h:rn x y=true):Fe x=true/\Fe y=true/\eqV x y=decide (x=y):=by
 cases x <;> cases y <;> first | (exfalso;simp [rn] at h;done) | (refine ⟨rfl,rfl,?_⟩;rfl) | (refine ⟨rfl,rfl,?_⟩;rw [Bool.eq_iff_iff];simp [eqV];done)
theorem EqH.flats {K:W.Frag} {H:Hp} {k:Nat} {p q:Addr} {xs ys:List V} (hp:SqL K H p xs) (hq:SqL K H q ys) (h:∀ x ∈ xs,∀ y ∈ ys,rn x y=true):EqH K H (k + 1) (.ref p) (.ref q) (decide (xs=ys)):=by
 by_cases hl:xs.length=ys.length
 ·have hd:decide (xs=ys)=(List.range xs.length).all fun j=>eqV (xs.getD j .non) (ys.getD j .non):=by
   rw [Bool.eq_iff_iff,decide_eq_true_eq,List.all_eq_true];constructor
   ·rintro rfl j hj;have hj':=List.mem_range.mp hj;have hm:xs.getD j .non ∈ xs:=by rw [getD_eq_getElem?_getD,getElem?_eq_getElem hj'];exact List.getElem_mem hj'
    rw [(ng (h _ hm _ hm)).2.2,decide_eq_true rfl]
   ·intro z;refine List.ext_getElem hl fun j h1 h2=>?_
    have:=z j (List.mem_range.mpr h1);rw [getD_eq_getElem?_getD,getD_eq_getElem?_getD,getElem?_eq_getElem h1,getElem?_eq_getElem h2] at this;have w:eqV xs[j] ys[j]=true:=this;rw [(ng (h _ (List.getElem_mem h1) _ (List.getElem_mem h2))).2.2,decide_eq_true_eq] at w;exact w
  rw [hd];refine .lst hp hq hl fun j x y h1 h2=>?_
  have e:=ng (h x (mem_of_getElem? h1) y (mem_of_getElem? h2));rw [getD_eq_getElem?_getD,getD_eq_getElem?_getD,h1,h2];exact .flat e.1 e.2.1
 ·rw [decide_eq_false (fun z=>hl (by rw [z]))];exact .lstN hp hq hl
end L2
namespace L2
open PySem PySem.Spec PyProof.Rows PySem.Builtin PySem.Builtin.ObjectAttr
noncomputable abbrev bmV:List Value:=[.type "ValueError",.type "Exception",.type "BaseException",.type "object"]
noncomputable def ek (K:W.Frag) (C fI:Addr):Bool:=
 match K.lookup C with
 | some ⟨.type "type",_,.cls cd,sl⟩=>
  match cd.mro,sl.toList with
  | .ref D :: tl,[_,_,_,_,some (.builtin n),_]=>
   (D == C) && (n == "ValueError.__new__") && (cd.hasDel == false) && (cd.hasDict == true) && PySem.W.tailIn K bmV tl && PySem.W.nsOkIn K cd.ns && (PySem.W.nsIn K cd.ns "__init__" == some (some (.ref fI)))
  | _,_=>false
 | _=>false
section
variable {P:Program} {w:World} {A:Around} {h:Heap} {g:Array GenState} {d:Drawn} {t:Nat} {os:OsState} {K:W.Frag} {C fI:Addr} {R:Result->Shared->Prop}
end
noncomputable def il:List Value->Bool
 | .ref _ :: r=>il r
 | l=>l == bmV
structure vo (K:W.Frag) (C:Addr):Prop where
 hd:PySem.W.hasDictIn K C=true
 ov:((PySem.W.clsIn K C).any fun cd=>il cd.mro)=true
 sa:PySem.W.findIn K (.ref C) "__setattr__"=some (some (.builtin "object.__setattr__"))
 ga:PySem.W.findIn K (.ref C) "__getattribute__"=some (some (.builtin "BaseException.__getattribute__"))
 gt:PySem.W.findIn K (.ref C) "__getattr__"=some none
 ex:∃ fI,ek K C fI=true
noncomputable def XF (x C:Addr) (od:Option Addr):Heap->Prop:=fun h=>∃ vs sl,h.get? x=some ⟨.ref C,od,.fields vs,sl⟩/\1 < vs.size/\vs[1]? = some .none
noncomputable def XD (dx:Addr) (fs:List (Str × V)):Heap->Prop:=fun h=>∃ mA,h.Ns1 dx mA/\(∀ f,gh (fs.lookup f) (mA f))/\PySem.Within mA (fs.map (·.1))
theorem XF.at {x C:Addr} {od:Option Addr} {h h':Heap} (z:XF x C od h) (k:∀ o,h.get? x=some o->h'.get? x=some o):XF x C od h':=let ⟨vs,sl,e,r⟩:=z;⟨vs,sl,k _ e,r⟩
theorem XD.at {dx:Addr} {fs:List (Str × V)} {h h':Heap} (z:XD dx fs h) (k:∀ o,h.get? dx=some o->h'.get? dx=some o):XD dx fs h':=let ⟨mA,e,r⟩:=z;⟨mA,e.at k,r⟩
theorem XF.ok {P:Program} {w:World} {H:Hp} {h:Heap} {x C:Addr} {od:Option Addr} (z:XF x C od h):Kb P w H h x (.ext (XF x C od)):=by
 obtain ⟨vs,sl,e,r⟩:=id z;exact ⟨z,⟨_,e⟩,fun h1 h2 q k=>q.at k⟩
theorem XD.ok {P:Program} {w:World} {H:Hp} {h:Heap} {dx:Addr} {fs:List (Str × V)} (z:XD dx fs h):Kb P w H h dx (.ext (XD dx fs)):=by
 obtain ⟨mA,⟨o,es,ep,e,_⟩,_⟩:=id z;exact ⟨z,⟨_,e⟩,fun h1 h2 q k=>q.at k⟩
section
variable {prog:Program} {w:World} {A:Around} {E:Value->Shared->Prop} {K:W.Frag} {C x:Addr} {s:Shared} {R:Result->Shared->Prop}
end
section
variable {X:Cx} {pins:List (Addr × Obj)} {σ:St} {H:Hp} {s:Shared} {x C dx:Addr} {fs:List (Str × V)} {f:Str} {y:V} {u:Value} {A:Around} {E:Value->Shared->Prop} {Q:Unit->Shared->Prop}
noncomputable def XA (x C:Addr) (od:Option Addr):Heap->Prop:=fun h=>∃ vs sl,h.get? x=some ⟨.ref C,od,.fields vs,sl⟩
theorem XA.at {x C:Addr} {od:Option Addr} {h h':Heap} (z:XA x C od h) (k:∀ o,h.get? x=some o->h'.get? x=some o):XA x C od h':=let ⟨vs,sl,e⟩:=z;⟨vs,sl,k _ e⟩
theorem XA.ok {P:Program} {w:World} {H:Hp} {h:Heap} {x C:Addr} {od:Option Addr} (z:XA x C od h):Kb P w H h x (.ext (XA x C od)):=by
 obtain ⟨vs,sl,e⟩:=id z;exact ⟨z,⟨_,e⟩,fun h1 h2 q k=>q.at k⟩
end
noncomputable abbrev TJ:=St->Hp->(Hp->Prop)->Prop
section
variable {X:Cx} {e:Expr} {es:List Expr} {n:Nat} {t:TJ} {te:TE} {pos:Pos}
end
structure Do (K:W.Frag) (L:Addr) (m:Str):Prop where
 rd:PySem.W.readsIn K L (.type "type")=true
 fd:PySem.W.findCls K (.ref L) (.type "type") m=some (.val (.builtin "ValueError.__init__"))
 ga:PySem.W.specialIn K (.ref L) "__getattribute__"=some (some (.builtin "type.__getattribute__"))
section
variable {X:Cx} {L:Addr} {x:Str} {p pos apos:Pos} {e:Expr} {es:List Expr} {t:TA}
end
structure MkX (K:W.Frag) (C fI:Addr):Prop where
 e:ek K C fI=true
 fn:PySem.W.typeIn K (.ref fI)=some (.type "function")
 kp:PySem.W.keepIn K (.ref C)=true
section
variable {X:Cx} {k:Nat} {f C:Addr} {fd:FuncData} {ps:List Str} {sp:Sp} {x g:Str} {p pos pos' apos:Pos} {e o value:Expr} {es:List Expr} {ta tv:TE} {t:TA}
end
end L2
namespace L2
open PySem PySem.Spec PyProof.Rows PySem.Builtin PySem.Builtin.ObjectAttr
noncomputable def FlA (x C:Addr) (od:Option Addr) (T:Addr) (fl:Value) (h:Heap):Prop:=
 T ≠ x/\∃ vs sl oT ts,h.get? x=some ⟨.ref C,od,.fields vs,sl⟩/\vs[1]? = some (.ref T)/\h.get? T=some oT/\oT.data=.fields ts/\ts[3]? = some fl
structure Kp (fs:List Addr) (x:Addr) (To:Option Addr) (h h':Heap):Prop where
 keep:∀ b o,h.get? b=some o->b ∉ fs->b ≠ x->some b ≠ To->h'.get? b=some o
 slot:∀ b o,h.get? b=some o->b ∈ fs->∃ sl,h'.get? b=some { o with slots:=sl }
 there:∀ b o,h.get? b=some o->∃ o',h'.get? b=some o'
section
variable {M:Model} {A:Around} {E:Value->Shared->Prop} {s:Shared}
theorem nofr {base h:Heap} {l:List Env} {b:Addr} {o:Obj} {vs:Array Value} (hl:h.FunFrames base l) (e:h.get? b=some o) (d:o.data=.fields vs):b ∉ frs l:=fun hm=>by
 obtain ⟨_,o',e',nf⟩:=hl.mem hm;rw [e] at e';cases e';exact nf vs d
end
section
variable {P:Program} {w:World} {H:Hp} {h h':Heap} {fs:List Addr} {x C T:Addr} {od:Option Addr} {fl:Value} {To:Option Addr} {o:HO}
theorem Kp.hok (k:Kp fs x To h h') (ok:HOk P w H h) (hfs:∀ b ∈ fs,H b=none) (hT:∀ t,To=some t->H t=none) (mu:Mut (H x)) (new:XA x C od h'):HOk P w (upd H x (.ext (XA x C od))) h':=fun b u q=>by
 have nown:∀ c y,H c=some (.own y)->c ≠ x:=fun c y r z=>by subst z;rw [r] at mu;exact mu
 have ntup:∀ c xs,H c=some (.tup xs)->c ≠ x:=fun c xs r z=>by subst z;rw [r] at mu;exact mu
 have kk:∀ c v,c ≠ x->H c ≠ none->h.get? c=some v->h'.get? c=some v:=fun c v n1 n2 r=>k.keep c v r (fun z=>n2 (hfs c z)) n1 fun z=>n2 (hT c z.symm)
 by_cases hb:b=x
 ·subst hb;rw [cb] at q;cases q;exact new.ok
 ·rw [fb hb] at q;refine (ok b u q).stay (fun c v hc r=>?_) (fun c r=>by rw [fb (nown c b r)];exact r) fun c xs r=>by rw [fb (ntup c xs r)];exact r
  rcases hc with rfl | hc
  ·exact kk c v hb (by rw [q];exact fun z=>by cases z) r
  ·exact kk c v (nown c b hc) (by rw [hc];exact fun z=>by cases z) r
theorem Kp.un (k:Kp fs x To h h') (hT:∀ t,To=some t->H t=none) (mu:Mut (H x)):Un fs To.toList H (upd H x o) h h':=by
 have hx:∀ b,H b=none->b ≠ x:=fun b n z=>by subst z;rw [n] at mu;exact mu
 have hm:∀ b u,H b=some u->¬ Mut (some u)->b ≠ x:=fun b u q nm z=>by subst z;rw [q] at mu;exact nm mu
 refine ⟨fun b u q n n1 n2=>k.keep b u q n1 (hx b n) fun z=>n2 (by rw [<- z];simp),fun b u q n n1 n2=>k.slot b u q n1,fun b u q n _=>by rw [fb (hx b n)];exact n,fun b u q _=>k.there b u q,
  fun b xs q=>by rw [fb (hm b _ q fun z=>z)];exact q,fun b u xs q=>by rw [fb (hm b _ q fun z=>z)];exact q,fun b ps q=>⟨#[],by rw [fb (hm b _ q fun z=>z),q];simp⟩⟩
end
noncomputable def CX1 (P:Program) (w:World):CXT:=fun outer H s E e s'=>
 ∃ x C od H' T,e=.ref x/\s'.os=s.os/\AllBare s'.gens/\Un (frs outer) [] H H' s.heap s'.heap/\HOk P w H' s'.heap/\H' x=some (.ext (XA x C od))/\s.heap.objs.size <= T/\H' T=none/\FlA x C od T .none s'.heap/\E (.ref C) od H'
structure Fr1 (X:Cx):Prop where
 st:X.stack=X.env :: X.outer
 fr:X.env.frame=some X.env.locals
noncomputable def Ao (X:Cx) (pins:List (Addr × Obj)) (T:Addr):Prop:=(T ∈ X.ex\/X.s₀.heap.objs.size <= T)/\T ≠ X.env.locals/\(∀ x c,X.env.cells.lookup x=some c->c ≠ T)/\∀ p ∈ X.pn ++ pins,p.1 ≠ T
section
variable {X:Cx} {pins:List (Addr × Obj)} {σ:St} {H:Hp} {s:Shared} {T x C:Addr} {od:Option Addr} {E:St->XK} {M:Model} {A:Around} {E':Value->Shared->Prop} {Q:Unit->Shared->Prop} {e fl:Value} {h':Heap}
end
section
variable {P:Program} {w:World} {K:W.Frag} {mg:Str->Option Value} {base:Heap} {N:List Str} {qual:Str} {scope:Scope} {f:Addr} {cd:Value} {A:Around} {outer:List Env} {s:Shared} {H:Hp} {E:XK}
end
section
variable {X:Cx} {CX:CXT} {k:Nat} {f C:Addr} {fd:FuncData} {ps:List Str} {sp:Sp} {dvs:List V} {ds:List Value} {E:St->XK} {x m:Str} {p pos apos:Pos} {e o:Expr} {es:List Expr} {ta:TE} {t:TA}
end
noncomputable abbrev Cx.tr (X:Cx) (pn:List (Addr × Obj)) (E:Value->Shared->Prop):Cx:={ X with pn:=X.pn ++ pn,xe:=E }
noncomputable abbrev Cx.hn (X:Cx) (e:Value):Cx:={ X with A:=X.A.mark (some e),calm:=false,xe:=fun _ _=>False }
section
variable {X:Cx} {pins pins':List (Addr × Obj)} {σ:St} {H:Hp} {s:Shared} {E:Value->Shared->Prop} {e:Value}
theorem Cx.Ok.tr (ok:X.Ok) (pn:List (Addr × Obj)) (E:Value->Shared->Prop):(X.tr pn E).Ok:=
 ⟨ok.mod,ok.kind,ok.glob,ok.blt,ok.above,ok.inj,ok.has,ok.cab,ok.hd,ok.frames,ok.stk,ok.exf,ok.bs,ok.bsz,ok.noex,ok.exfs,ok.funs,ok.frf⟩
theorem Cx.Ok.hn (ok:X.Ok) (e:Value):(X.hn e).Ok:=
 ⟨ok.mod,ok.kind,ok.glob,ok.blt,ok.above,ok.inj,ok.has,ok.cab,(fun z=>Bool.noConfusion z),ok.frames,ok.stk,ok.exf,ok.bs,ok.bsz,ok.noex,ok.exfs,ok.funs,ok.frf⟩
theorem Inv.tr (I:Inv X pins σ H s) (E:Value->Shared->Prop):Inv (X.tr pins E) [] σ H s:=⟨I.ok.tr pins E,I.os,I.bare,I.base,I.loc,I.cell,I.free,I.freeC,fun p hp=>I.pin p (by simpa using hp),I.hok,I.len⟩
theorem Inv.hn (I:Inv X pins σ H s) (e:Value):Inv (X.hn e) pins σ H s:=⟨I.ok.hn e,I.os,I.bare,I.base,I.loc,I.cell,I.free,I.freeC,I.pin,I.hok,I.len⟩
end
noncomputable def Fd.gone (D:Fd) (i:Nat):Fd:={ nx:=fun σ H=>D.nx (σ.set i none) H,rt:=D.rt,bk:=fun σ H=>D.bk (σ.set i none) H,ct:=fun σ H=>D.ct (σ.set i none) H }
section
variable {X:Cx} {body suite:List Stmt} {b0:Stmt} {x n:Str} {c:Addr} {i:Nat} {tb:(St->XK)->TS} {th:TS} {xp hp pos:Pos}
end
theorem xl (D:Fd) (i:Nat) (σ:St) (H:Hp):(D.gone i).nx σ H=D.nx (σ.set i none) H:=rfl
theorem Zk (D:Fd) (i:Nat) (v:V) (H:Hp):(D.gone i).rt v H=D.rt v H:=rfl
theorem OwnTail.has {h:Heap} {bm tl:List Value} {v:Value} (T:OwnTail h bm tl) (e:bm.contains v=true):tl.contains v=true:=by
 induction T with
 | base=>exact e
 | own _ _ _ _ ih=>rw [List.contains_cons,ih,Bool.or_true]
section
variable {X:Cx} {e:Expr} {te:TE} {pos:Pos} {E:St->XK}
theorem PS.nox {X:Cx} {st:Stmt} {t:TS} (h:PS X.nox st t):PS X st t:=fun pins s σ H D I hw=>
 wpAny_mono (h pins s σ H D (I.wish _) hw) (fun _ _ q=>q.unwish) fun _ _ z=>False.elim z
end
noncomputable def xeB (B:Cx) (E:XK) (e:Value) (s':Shared):Prop:=
 ∃ pins fl σ' H' x C od T,e=.ref x/\Inv B pins σ' H' s'/\H' x=some (.ext (XA x C od))/\H' T=none/\Ao B pins T/\B.s₀.heap.objs.size <= T/\FlA x C od T fl s'.heap/\E (.ref C) od H'
structure Mn (X:Cx) (scope:Scope) (N:List Str) (tg elt:Expr) (ifs:List Expr) (g:TG) (tc:TT) (te:XK->TE):Prop where
 tgt:∀ E C s H fp,PG ((X.block scope C N s H fp).wish (xeB (X.block scope C N s H fp) E)) tg g
 tests:∀ E C s H fp,PTs ((X.block scope C N s H fp).wish (xeB (X.block scope C N s H fp) E)) ifs tc
 elem:∀ E C s H fp,PE ((X.block scope C N s H fp).wish (xeB (X.block scope C N s H fp) E)) elt (te E)
theorem Mn.of {X:Cx} {scope:Scope} {N:List Str} {tg elt:Expr} {ifs:List Expr} {g:TG} {tc:TT} {te:XK->TE} (h1:∀ E C s H fp,PG ((X.block scope C N s H fp).wish (xeB (X.block scope C N s H fp) E)) tg g)
  (h2:∀ E C s H fp,∃ t,PTs ((X.block scope C N s H fp).wish (xeB (X.block scope C N s H fp) E)) ifs t/\t=tc) (h3:∀ E C s H fp,∃ t,PE ((X.block scope C N s H fp).wish (xeB (X.block scope C N s H fp) E)) elt t/\t=te E):Mn X scope N tg elt ifs g tc te:=
 ⟨h1,fun E C s H fp=>by obtain ⟨t,h,rfl⟩:=h2 E C s H fp;exact h,fun E C s H fp=>by obtain ⟨t,h,e⟩:=h3 E C s H fp;rw [<- e];exact h⟩
section
variable {X:Cx} {elt tg iter:Expr} {ifs:List Expr} {scope:Scope} {pos:Pos} {wi:TI} {g:TG} {tc:TT} {te:XK->TE} {N:List Str} {sel:List (Option Nat)}
theorem FlA.but {x C T c:Addr} {od:Option Addr} {fl:Value} {h h':Heap} (z:FlA x C od T fl h) (n1:x ≠ c) (n2:T ≠ c) (k:∀ b,b ≠ c->h'.get? b=h.get? b):FlA x C od T fl h':=by
 obtain ⟨ne,vs,sl,oT,ts,he,h1,hT,hd,h3⟩:=z;exact ⟨ne,vs,sl,oT,ts,(k _ n1).trans he,h1,(k _ n2).trans hT,hd,h3⟩
end
structure Zn (K:W.Frag) (C:Addr):Prop where
 cl:Cls K C
 ha:PySem.W.findIn K (.ref C) "__class__"=some (some (.builtin "object.__class__"))
 hn:PySem.W.specialIn K (.builtin "object.__class__") "__get__"=some (some (.builtin "getset_descriptor.__get__"))
 htk:PySem.W.takesIn K (.builtin "object.__class__")=some true
 hm:PySem.W.mroIn K C (.type "object")=some true
theorem Zn.ty {K:W.Frag} {H:Hp} {C a dx:Addr} {fs:List (Str × V)} (c:Zn K C) (e:H a=some (.ins C dx fs)):fh K H (.ref a) (.ref C):=.ins e c.cl c.ha c.hn c.htk c.hm
end L2
namespace L2
open PySem PySem.Spec PyProof.Rows
section
variable {X:Cx} {tg:Expr}
end
section
variable {prog:Program} {w:World} {A:Around} {E:Value->Shared->Prop} {s:Shared} {it l:Addr} {items:Array Value}
end
section
variable {X:Cx}
end
section
variable {prog:Program} {w:World} {A:Around} {R:Result->Shared->Prop} {I:Addr} {fp wr:List Addr} {n:Nat} {P:Nat->Value->Prop} {St:Nat->Heap->Prop}
end
section
variable {prog:Program} {w:World} {A:Around} {E:Value->Shared->Prop} {s:Shared}
end
section
variable {X:Cx}
end
end L2
namespace L2
open PySem PySem.Spec PyProof.Rows
structure Jo (K:W.Frag) (C:Addr):Prop where
 x:vo K C
 ha:PySem.W.findIn K (.ref C) "__class__"=some (some (.builtin "object.__class__"))
 hn:PySem.W.specialIn K (.builtin "object.__class__") "__get__"=some (some (.builtin "getset_descriptor.__get__"))
 htk:PySem.W.takesIn K (.builtin "object.__class__")=some true
 hm:PySem.W.mroIn K C (.type "object")=some true
section
variable {prog:Program} {w:World} {A:Around} {E:Value->Shared->Prop} {s:Shared} {K:W.Frag} {x C:Addr} {od:Obj} {dx:Addr} {vs:Array Value} {sl:Array (Option Value)}
end
section
variable {X:Cx}
end
theorem Gc.quiet {P:Program} {w:World} {K:W.Frag} {mg:Str->Option Value} {base:Heap} {k:Nat} {f:Addr} {fd:FuncData} {ps:List Str} {sp sp':Sp} (F:Gc P w K mg base (CX1 P w) k f fd ps sp)
  (h:∀ vs H Q E,sp' vs H Q E->sp vs H Q (fun _ _ _=>False)):Gc P w K mg base CX0 k f fd ps sp':=by
 refine ⟨fun vs H Q E q=>F.len vs H _ _ (h vs H Q E q),fun A outer s H args us vs Q E hr he hb hv hs=>?_⟩;refine codeAny_mono (F.run A outer s H args us vs Q _ hr he hb hv (h vs H Q E hs)) fun r s' hq=>?_
 cases r with
 | error e=>
  obtain ⟨x,C,od,H',T,_,_,_,_,_,_,_,_,_,z⟩:=hq;exact z.elim
 | ok fl=>cases fl <;> exact hq
end L2
namespace L2
open PySem PySem.Spec PyProof.Rows
structure Td (k:Nat) (A:Around):Prop where
 dp:A.depth + 3 * k + 5 < recursionLimit
 un:A.units + 16 * k + 200 < cLine
theorem Xd.h {k:Nat} {A:Around} (r:Xd k A):Td k A:=⟨r.dp,r.un⟩
theorem Td.mono {j k:Nat} {A:Around} (r:Td k A) (h:j <= k):Td j A:=⟨by have:=r.dp;omega,by have:=r.un;omega⟩
theorem Td.deeper {k:Nat} {A:Around} (r:Td (k + 1) A) (env:Env):Td k (A.deeper env):=
 ⟨by have:=r.dp;show A.depth + 1 + 3 * k + 5 < _;omega,by have:=r.un;show A.units + 3 + 16 * k + 200 < _;omega⟩
theorem Td.depth {k:Nat} {A:Around} (r:Td k A):A.depth < recursionLimit:=by have:=r.dp;omega
theorem Td.units {k:Nat} {A:Around} (r:Td k A):A.units + 64 < cLine:=by have:=r.un;omega
theorem Xd.hn {k:Nat} {X:Cx} {e:Value} (r:Xd k X.A):Td k (X.hn e).A:=⟨r.dp,r.un⟩
structure Nl (P:Program) (w:World) (K:W.Frag) (mg:Str->Option Value) (base:Heap) (CX:CXT) (k:Nat) (f:Addr) (fd:FuncData) (ps:List Str) (sp:Sp):Prop where
 len:∀ vs H Q E,sp vs H Q E->vs.length=ps.length
 run:∀ (A:Around) (outer:List Env) (s:Shared) (H:Hp) (args:Args) (us:List Value) (vs:List V) (Q:VK) (E:XK),Td k A->pk P w K mg base A outer s H->BindsTo s fd args (ps.zip us)->Pb vs us->sp vs H Q E ->
  codeAny (model P w) A (.call (.ref f) args) (CR CX outer P w H s Q E) s
theorem Nl.mono {P:Program} {w:World} {K:W.Frag} {mg:Str->Option Value} {base:Heap} {CX:CXT} {j k:Nat} {f:Addr} {fd:FuncData} {ps:List Str} {sp:Sp} (F:Nl P w K mg base CX j f fd ps sp) (h:j <= k) :
  Nl P w K mg base CX k f fd ps sp:=⟨F.len,fun A outer s H args us vs Q E hr=>F.run A outer s H args us vs Q E (hr.mono h)⟩
section
variable {X:Cx} {CX:CXT} {k:Nat} {f C:Addr} {fd:FuncData} {ps:List Str} {sp:Sp} {dvs:List V} {ds:List Value} {E:XK} {x m:Str} {p pos apos:Pos} {e o:Expr} {es:List Expr} {ta:TE} {t:TA}
end
noncomputable def mn (CX:CXT) (P:Program) (w:World) (K:W.Frag) (mg:Str->Option Value) (base:Heap) (N:List Str) (qual:Str) (scope:Scope) (f:Addr) (cd:Value) (A:Around) (outer:List Env) (s:Shared) (H:Hp) (E:XK):Cx where
 prog:=P
 w:=w
 K:=K
 mg:=mg
 base:=base
 A:=A.deeper (envOfC qual scope s.heap.objs.size f cd)
 N:=N
 s₀:=s
 H₀:=H
 env:=envOfC qual scope s.heap.objs.size f cd
 outer:=outer
 stack:=envOfC qual scope s.heap.objs.size f cd :: outer
 ex:=[]
 calm:=false
 fn:=fun _=>true
 pn:=[]
 xe:=fun e s'=>wpAny (model P w) (A.deeper (envOfC qual scope s.heap.objs.size f cd)) (leaving (envOfC qual scope s.heap.objs.size f cd) e) (fun _ s''=>CX outer H s E e s'') (fun e' s''=>CX outer H s E e' s'') s'
section
variable {P:Program} {w:World} {K:W.Frag} {mg:Str->Option Value} {base:Heap}
end
end L2
namespace L2
open PySem PySem.Spec PyProof.Rows
section
variable {X:Cx}
end
end L2
namespace L2
open PySem PySem.Spec PyProof.Rows
section
variable {α:Type} {M:List α->Prop}
theorem us1 (h:∀ a,M [a]):∀ us:List α,us.length=1->M us | [a],_=>h a
theorem us2 (h:∀ a b,M [a,b]):∀ us:List α,us.length=2->M us | [a,b],_=>h a b
theorem us3 (h:∀ a b c,M [a,b,c]):∀ us:List α,us.length=3->M us | [a,b,c],_=>h a b c
end
structure XB (K:W.Frag) (C:Addr):Prop where
 hd:PySem.W.hasDictIn K C=true
 ov:((PySem.W.clsIn K C).any fun cd=>il cd.mro)=true
 sa:PySem.W.findIn K (.ref C) "__setattr__"=some (some (.builtin "object.__setattr__"))
 ga:PySem.W.findIn K (.ref C) "__getattribute__"=some (some (.builtin "BaseException.__getattribute__"))
 gt:PySem.W.findIn K (.ref C) "__getattr__"=some none
structure IB (K:W.Frag) (C:Addr):Prop where
 ha:PySem.W.findIn K (.ref C) "__class__"=some (some (.builtin "object.__class__"))
 hn:PySem.W.specialIn K (.builtin "object.__class__") "__get__"=some (some (.builtin "getset_descriptor.__get__"))
 htk:PySem.W.takesIn K (.builtin "object.__class__")=some true
 hm:PySem.W.mroIn K C (.type "object")=some true
end L2
namespace L2
open PySem PySem.Spec PyProof.Rows
section
variable {X:Cx}
end
end L2
namespace L2
open PySem PySem.Spec PyProof.Rows
noncomputable def yn (p d:Addr):Heap->Prop:=fun h=>PySem.W.KdlKeysView h p d
noncomputable def Fn (p d:Addr):Heap->Prop:=fun h=>h.IsValuesView p d
theorem yn.ok {P:Program} {w:World} {H:Hp} {h:Heap} {p d:Addr} (z:yn p d h):Kb P w H h p (.ext (yn p d)):=
 ⟨z,let ⟨o,ho,_⟩:=z;⟨o,ho⟩,fun _ _ z1 k=>let ⟨o,ho,x⟩:=z1;⟨o,k o ho,x⟩⟩
theorem Fn.ok {P:Program} {w:World} {H:Hp} {h:Heap} {p d:Addr} (z:Fn p d h):Kb P w H h p (.ext (Fn p d)):=
 ⟨z,let ⟨o,ho,_⟩:=z;⟨o,ho⟩,fun _ _ z1 k=>let ⟨o,ho,x⟩:=z1;⟨o,k o ho,x⟩⟩
section
variable {X:Cx}
noncomputable def Qi (K:W.Frag):V->List V->Hp->VK->Prop:=fun x vs H Q=>∃ l ys k j,x=.ref l/\vs=[.str k]/\SqL K H l (Bb ys)/\ys[j]? = some k/\(∀ m,m < j->ys[m]? ≠ some k)/\ys.length <= 1000/\Q (.int (j:Nat)) H
theorem Sd (k:Str):∀ {vs:List Value} {ns:List Str},StrsAre vs ns->∀ (j:Nat) (h1:j < vs.length) (h2:j < ns.length),isStrOf k vs[j]=(ns[j] == k)
 | _,_,.cons n t _,0,_,_=>rfl
 | _,_,.cons n t r,j + 1,h1,h2=>Sd k r j (Nat.lt_of_succ_lt_succ h1) (Nat.lt_of_succ_lt_succ h2)
theorem se:∀ {vs:List Value} {ns:List Str},StrsAre vs ns->vs.length=ns.length
 | _,_,.nil=>rfl
 | _,_,.cons _ _ r=>congrArg (· + 1) (se r)
theorem Yh:MtR X "list.index" (Qi X.K):=by
 intro pins s σ H x xs v us Q I rx rv h;obtain ⟨l,ks,k,j,rfl,rfl,hq,hk,hno,hl,q⟩:=h;cases (show v=Value.ref l from rx);obtain ⟨u,rfl,ru⟩:=Wf rv;obtain ⟨tu,rfl⟩:=(show ∃ t,u=Value.str k t from ru);obtain ⟨its,ri,pl,hz⟩:=I.list hq;have hi:=Le ri;have hlen:=se hi;have hj:j < ks.length:=(List.getElem?_eq_some_iff.mp hk).1;obtain ⟨⟨cls,dd,data,sl⟩,ho,hc,n,hd⟩:=id pl.isList;simp only at hc hd;subst hc hd;refine call_meets PySem.F.slot_list_index ⟨_,ho,rfl⟩ PySem.F.entry_list_index (PySem.F.args_list_index_2 _ _)
  (PySem.SeqAt.list_indexAt l its.toArray n dd sl (.str k tu) (isStrOf k) j (by simpa [hlen] using hj) (by omega) ?_ ?_) ⟨ho,fun y hy=>(eq_isStrOf k tu hi y (by simpa using hy)).at _ _,.int _,H,I.tok _,⟨_,rfl⟩,q⟩
 ·show isStrOf k its[j]=true;rw [Sd k hi _ (by omega) hj];simpa using (List.getElem?_eq_some_iff.mp hk).2
 ·intro m hm hlt;show isStrOf k its[m]=false;rw [Sd k hi m (by simpa using hm) (by omega)];have:=hno m hlt;rw [getElem?_eq_getElem (by omega)] at this;simpa using this
end
end L2
namespace L2
open PySem PySem.Spec PyProof.Rows
noncomputable abbrev TF:=St->Hp->Str->(Str->Hp->Prop)->Prop
section
variable {X:Cx} {e:Expr} {es:List Expr} {t:TF} {te:TE} {pos:Pos}
end
end L2
namespace L2
open PySem PySem.Spec PyProof.Rows
noncomputable def dn (p:Addr) (a b c:Int):Heap->Prop:=fun h=>∃ t u v,IsRange h p a b c t u v
theorem dn.ok {P:Program} {w:World} {H:Hp} {h:Heap} {p:Addr} {a b c:Int} (z:dn p a b c h):Kb P w H h p (.ext (dn p a b c)):=
 ⟨z,let ⟨_,_,_,e⟩:=z;⟨_,e⟩,fun _ _ z1 k=>let ⟨t,u,v,e⟩:=z1;⟨t,u,v,k _ e⟩⟩
section
variable {X:Cx}
end
end L2
namespace L2
open PySem PySem.Spec PyProof.Rows
noncomputable def Co (c:Addr) (qual:Str):Heap->Prop:=fun h=>h.CodeRec (.ref c) qual
noncomputable def Tab (H:Hp) (Pt:Addr) (pos:Pos) (qual:Str):Prop:=
 ∃ ps,H Pt=some (.tbl ps)/\(ps=#[]\/∃ c',ps=#[rawInt pos.line,rawInt pos.col,.ref c']/\H c'=some (.ext (Co c' qual)))
noncomputable def Ag (Pt:Addr) (H H':Hp):Prop:=∀ b o,b ≠ Pt->H b=some o->H' b=some o
theorem Ag.refl (Pt:Addr) (H:Hp):Ag Pt H H:=fun _ _ _ h=>h
theorem Ag.trans {Pt:Addr} {H H1 H2:Hp} (a:Ag Pt H H1) (b:Ag Pt H1 H2):Ag Pt H H2:=fun c o n h=>b c o n (a c o n h)
theorem Nb.p {Pt:Addr} {H H':Hp} (s:Nb H H'):Ag Pt H H':=fun b o _ h=>s b o h
theorem Tab.ne {H:Hp} {Pt b:Addr} {pos:Pos} {qual:Str} {o:HO} (t:Tab H Pt pos qual) (h:H b=some o) (ho:∀ ps,o ≠ .tbl ps):b ≠ Pt:=fun e=>by
 obtain ⟨ps,e1,_⟩:=t;subst e;rw [e1] at h;exact ho ps (Option.some.inj h).symm
theorem Tab.step {H H':Hp} {Pt:Addr} {pos:Pos} {qual:Str} (t:Tab H Pt pos qual) (s:Nb H H'):Tab H' Pt pos qual:=by
 obtain ⟨ps,e,d⟩:=t;refine ⟨ps,s _ _ e,?_⟩;rcases d with d | ⟨c',d,e'⟩
 ·exact .inl d
 ·exact .inr ⟨c',d,s _ _ e'⟩
structure Eo (X:Cx) (c Pt:Addr):Prop where
 code:X.env.code=.ref c
 hd:PySem.W.CodeHd X.base c Pt
 bm:X.base.BuiltinsAt X.mg Pt
section
variable {X:Cx} {pins:List (Addr × Obj)} {σ:St} {H:Hp} {s:Shared} {params:Arguments} {body:Expr} {scope:Scope} {pos:Pos} {c Pt:Addr} {clos:List (Str × Addr)} {Q:Value->Shared->Prop}
end
section
variable {P:Program} {w:World} {K:W.Frag} {mg:Str->Option Value} {base:Heap}
end
structure Ho (p y:Str) (sc:Scope):Prop where
 kind:sc.kind=.function
 co:sc.isCoroutine=false
 gen:sc.isGenerator=false
 ne:p ≠ y
 par:sc.names.lookup p=some .local
 yf:sc.names.lookup y=some .free
 nocell:∀ z ∈ sc.names,z.2 ≠ .cell
 one:∀ z ∈ sc.names,z.2=.free->z.1=y
section
variable {X:Cx} {pins:List (Addr × Obj)} {σ:St} {H:Hp} {s:Shared} {k:Nat} {f c' cl:Addr} {q p y:Str} {params:Arguments} {body:Expr} {scope:Scope} {v:V} {t:TE}
end
end L2
namespace L2
open PySem PySem.Spec PyProof.Rows
end L2
namespace L2
open PySem PySem.Spec PyProof.Rows
section
variable {P:Program} {w:World} {A:Around} {E:Value->Shared->Prop} {s:Shared}
structure Ql (h:Heap) (d:Addr) (o:Obj) (es:Array DictEntry) (ep:Nat):Prop where
 at_:h.get? d=some o
 ex:o.ExactDict
 dat:o.data=.dict es ep
theorem Uk {d:Addr} {o:Obj} {es:Array DictEntry} {ep:Nat} (r:Ql s.heap d o es ep):s.TypeIs (.ref d) "dict" := ⟨o,r.at_,r.ex.1⟩
theorem Ti {d:Addr} {o:Obj} {es:Array DictEntry} {ep:Nat} {Q:Value->Shared->Prop} (hd:(d == sysModules)=false) (r:Ql s.heap d o es ep)
  (hQ:Q (.ref s.heap.objs.size) { s with heap:=s.heap.push { cls:=.type "dict_keyiterator",data:=.fields #[.ref d,.int 0 0,.int es.size 0,.int ep 0] } }) :
  wpAny (model P w) A (pyIter (.ref d)) Q E s:=by
 have hT:=Uk r;refine wpAny_pyIter_slot hT F.slot_dict_iter (wpAny_call_entry F.slot_dict_iter hT F.entry_dict_iter ?_ (F.args_dict_iter_1 _));unfold Builtin.«dict.__iter__» Builtin.Dict.dictSlotNone;refine wpAny_bind (wpAny_bind (wpAny_notOrdered_dict hT (wpAny_pure ?_)));show wpAny _ _ (Builtin.Dict.showsAll d >>= _) _ _ s;unfold Builtin.Dict.showsAll;rw [if_neg (by rw [hd];exact Bool.false_ne_true)];refine wpAny_bind (wpAny_pure (wpAny_bind (wpAny_dictEntries r.at_ r.dat (wpAny_bind (wpAny_dictEpoch r.at_ r.dat ?_)))));refine wpAny_bind (wpAny_newObj_type (wpAny_pure ⟨_,rfl,"dict_keyiterator",_,⟨_,Heap.get?_push_size _ rfl,rfl⟩,F.slot_dict_keyiterator_next.lookup,?_⟩));simpa [rawInt] using hQ
theorem Ni {it d:Addr} {o:Obj} {i ep:Nat} {es:Array DictEntry} {e:DictEntry} {Q:Option Value->Shared->Prop} (hit:s.heap.IsKeyIter it d i es.size ep) (r:Ql s.heap d o es ep) (hx:es[i]? = some e)
  (hQ:∀ h',h'.IsKeyIter it d (i + 1) es.size ep->Heap.SameBut it s.heap h'->Q (some e.key) { s with heap:=h' }):wpAny (model P w) A (pyNext (.ref it)) Q E s:=by
 obtain ⟨oi,ho,hc,hd⟩:=id hit;have hown:Builtin.Dict_items.ownsTuple "dict_keyiterator"=false:=by decide
 have hlt:i < es.size:=by
  rcases Nat.lt_or_ge i es.size with h | h
  ·exact h
  ·rw [Array.getElem?_eq_none h] at hx;cases hx
 unfold pyNext;refine wpAny_bind (wpAny_attempt (wpAny_callSpecial?_slot (name:=Str.ofString "__next__") hit.typeIs F.slot_dict_keyiterator_next
  (wpAny_call_entry F.slot_dict_keyiterator_next hit.typeIs F.entry_dict_keyiterator_next ?_ (F.args_dict_keyiterator_next_1 _))))
 refine wpAny_bind (wpAny_pure (wpAny_bind (wpAny_bind ?_)))
 first | refine wpAny_bind (wpAny_typeNameOfWhole_keyiter hit.typeIs (wpAny_pure ?_)) | refine wpAny_bind (wpAny_typeNameOf_keyiter hit.typeIs (wpAny_pure ?_))
 refine wpAny_bind (wpAny_fieldsOf ho hd ?_);simp only [hown,Bool.false_eq_true,if_false];show wpAny _ _ (if (Value.ref d == Value.none)=true then _ else _) _ _ s;rw [if_neg (show ¬ ((Value.ref d == Value.none)=true) from Bool.false_ne_true)];refine wpAny_bind (wpAny_pure (wpAny_bind (wpAny_dictEntries r.at_ r.dat ?_)));rw [if_neg (by simp)];refine wpAny_bind (wpAny_pure (wpAny_bind (wpAny_dictEpoch r.at_ r.dat ?_)));rw [if_neg (by simp)];refine wpAny_pure ?_;simp only [show ¬ ((i:Int) < 0) from by omega,if_false,Int.toNat_natCast,hx];refine wpAny_bind ?_
 first | refine wpAny_bind (wpAny_typeNameOfWhole_keyiter hit.typeIs (wpAny_pure ?_)) | refine wpAny_bind (wpAny_typeNameOf_keyiter hit.typeIs (wpAny_pure ?_))
 refine wpAny_bind (wpAny_isOneOf_keyiter hit.typeIs ?_);show wpAny _ _ (setField (.ref it) 1 (rawInt ((i:Int) + 1)) >>= _) _ _ s;refine wpAny_bind (wpAny_setField ho hd (by simp) ?_);have hit':(s.heap.update it (Obj.mapFields (·.setIfInBounds 1 (rawInt ((i:Int) + 1))))).IsKeyIter it d (i + 1) es.size ep:=
  ⟨_,Heap.get?_update_self _ ho (Obj.isFreed_of_fields (Obj.data_mapFields hd _)),(Obj.cls_mapFields ..).trans hc,by rw [Obj.data_mapFields hd];simp [rawInt]⟩
 refine wpAny_bind (wpAny_holding (wpAny_bind (wpAny_isOneOf_keyiter (s:={ s with heap:=s.heap.update it (Obj.mapFields (·.setIfInBounds 1 (rawInt ((i:Int) + 1)))) }) hit'.typeIs ?_)));show wpAny _ _ (pure e.key) _ _ _;exact wpAny_pure (wpAny_pure ⟨_,rfl,wpAny_pure (hQ _ hit' (Heap.SameBut.update ..))⟩)
theorem tj {it d:Addr} {o:Obj} {i ep:Nat} {es:Array DictEntry} {Q:Option Value->Shared->Prop} (hh:A.handled=none) (hit:s.heap.IsKeyIter it d i es.size ep) (r:Ql s.heap d o es ep) (hx:es.size <= i)
  (hQ:∀ h',Heap.ExtBut it s.heap h'->Q none { s with heap:=h' }):wpAny (model P w) A (pyNext (.ref it)) Q E s:=by
 obtain ⟨oi,ho,hc,hd⟩:=id hit;have hown:Builtin.Dict_items.ownsTuple "dict_keyiterator"=false:=by decide
 unfold pyNext;refine wpAny_bind (wpAny_attempt (wpAny_callSpecial?_slot (name:=Str.ofString "__next__") hit.typeIs F.slot_dict_keyiterator_next
  (wpAny_call_entry F.slot_dict_keyiterator_next hit.typeIs F.entry_dict_keyiterator_next ?_ (F.args_dict_keyiterator_next_1 _))))
 refine wpAny_bind (wpAny_pure (wpAny_bind (wpAny_bind ?_)))
 first | refine wpAny_bind (wpAny_typeNameOfWhole_keyiter hit.typeIs (wpAny_pure ?_)) | refine wpAny_bind (wpAny_typeNameOf_keyiter hit.typeIs (wpAny_pure ?_))
 refine wpAny_bind (wpAny_fieldsOf ho hd ?_);simp only [hown,Bool.false_eq_true,if_false];show wpAny _ _ (if (Value.ref d == Value.none)=true then _ else _) _ _ s;rw [if_neg (show ¬ ((Value.ref d == Value.none)=true) from Bool.false_ne_true)];refine wpAny_bind (wpAny_pure (wpAny_bind (wpAny_dictEntries r.at_ r.dat ?_)));rw [if_neg (by simp)];refine wpAny_bind (wpAny_pure (wpAny_bind (wpAny_dictEpoch r.at_ r.dat ?_)));rw [if_neg (by simp)];refine wpAny_pure ?_;simp only [show ¬ ((i:Int) < 0) from by omega,if_false,Int.toNat_natCast,Array.getElem?_eq_none hx];refine wpAny_bind ?_
 first | refine wpAny_bind (wpAny_typeNameOfWhole_keyiter hit.typeIs (wpAny_pure ?_)) | refine wpAny_bind (wpAny_typeNameOf_keyiter hit.typeIs (wpAny_pure ?_))
 show wpAny _ _ (setField (.ref it) 0 .none >>= _) _ _ s;refine wpAny_bind (wpAny_setField ho hd (by simp) ?_);show wpAny _ _ (newExc (.type "StopIteration") [] >>= _) _ _ _;refine wpAny_bind ?_;simp only [newExc,newTuple];refine wpAny_bind (wpAny_newObj_type ?_ (by size_fits));refine wpAny_bind (m:=firstArgMember _ _) (wpAny_of_eq (a:=Value.none) (by first | rfl | (simp only [firstArgMember];rfl)) ?_);refine wpAny_newObj_type ?_ (by size_fits);simp only [raiseNew];refine wpAny_bind (wpAny_handled ?_);rw [show A.in1.handled=none from hh];refine wpAny_bind (wpAny_pure (wpAny_throw ?_));refine wpAny_bind (wpAny_isInstance (T := "StopIteration") (b:=true) ⟨_,Heap.get?_push_size _ rfl,rfl⟩ isSubtype_stop ?_);exact wpAny_pure (hQ _ (((Heap.SameBut.update ..).extBut.push _).push _))
end
noncomputable def AtO (a:Addr) (o:Obj):Heap->Prop:=fun h=>h.get? a=some o
structure Io (P:Program) (w:World) (H:Hp) (a:Addr) (kvs:List (List Key × V)) (o:Obj) (es:Array DictEntry) (ep:Nat) (xs:List (List Key × Addr × Value)):Prop where
 at_:H a=some (.ext (AtO a o))
 ex:o.ExactDict
 dat:o.data=.dict es ep
 ent:es.toList=xs.map (entryOfKey (tupleKind (Mb P w)))
 nd:(xs.map (·.1)).Nodup
 ks:Paired (fun (p:List Key × V) (q:List Key × Addr × Value)=>p.1=q.1/\H q.2.1=some (.tup (p.1.map kV))/\Qb p.2 q.2.2) kvs xs
 sz:kvs.length <= sizeLine
 ns:(a == sysModules)=false
section
variable {P:Program} {w:World} {H H':Hp} {h:Heap} {a:Addr} {kvs:List (List Key × V)}
end
section
variable {X:Cx} {pins:List (Addr × Obj)} {σ:St} {H:Hp} {s:Shared} {a b:Addr} {kvs:List (List Key × V)} {k:List Key} {v:V} {r:Value} {A:Around} {E:Value->Shared->Prop}
theorem Cj {o':HO} (I:Inv X pins σ H s) (mu:Mut (H a)) (ex:∃ u,s.heap.get? a=some u) (new:Kb X.prog X.w (upd H a o') s.heap a o'):Inv X pins σ (upd H a o') s:=
 I.un (t':=s.toks) (h':=s.heap) (Un.write mu (.inl rfl) (fun _ _ _ q=>q) ex) (I.hok.write mu (.inl rfl) (fun _ _ _ q=>q) ex new)
end
section
variable {X:Cx} {o i e value:Expr} {pos pos' tpos:Pos} {td ty tv:TE}
end
section
variable {X:Cx} {tg:Expr}
end
end L2
namespace L2
open PySem PySem.Spec PyProof.Rows
noncomputable def jn (p d:Addr):Heap->Prop:=fun h=>h.IsItemsView p d
theorem jn.ok {P:Program} {w:World} {H:Hp} {h:Heap} {p d:Addr} (z:jn p d h):Kb P w H h p (.ext (jn p d)):=
 ⟨z,let ⟨o,ho,_⟩:=z;⟨o,ho⟩,fun _ _ z1 k=>let ⟨o,ho,x⟩:=z1;⟨o,k o ho,x⟩⟩
structure nn (H H':Hp) (l:Addr) (as:List Addr) (kvs:List (Key × V)):Prop where
 same:∀ b o,H b=some o->H' b=some o
 fresh:H l=none
 frAll:∀ a ∈ as,H a=none
 at_:H' l=some (.lst (as.map V.ref))
 len:as.length=kvs.length
 al:∀ (j:Nat) (a:Addr) (q:Key × V),as[j]? = some a->kvs[j]? = some q->H' a=some (.tup [kV q.1,q.2])
 only:∀ b o,H' b=some o->H b=some o\/o=.lst (as.map V.ref)\/∃ q ∈ kvs,o=.tup [kV q.1,q.2]
section
variable {X:Cx}
noncomputable def Zh:V->List V->Hp->VK->Prop:=fun x vs H Q=>∃ d kvs,x=.ref d/\vs=[]/\H d=some (.dK kvs)/\Q .non (upd H d (.dK []))
theorem Cf:MtR X "dict.clear" Zh:=by
 intro pins s σ H x xs v us Q I rx rv h;obtain ⟨d,kvs,rfl,rfl,e,q⟩:=h;cases (show v=Value.ref d from rx);cases rv;exact Ck I e fun s' I'=>⟨.non,_,I',rfl,q⟩
end
end L2
namespace L2
open PySem PySem.Spec PyProof.Rows
noncomputable def EqO (P:Program) (w:World) (A:Around) (s:Shared) (v u:Value):Prop:=∀ (E:Value->Shared->Prop) (Q:Bool->Shared->Prop),Q true s->wpAny (model P w) A (eqBool v u) Q E s
noncomputable abbrev eo (dd:Option Addr) (xs:Array Value) (n:Nat) (sl:Array (Option Value)):Obj:=⟨.type "list",dd,.seq xs n,sl⟩
section
open AutoSeq1 (wpAny_loadPart')
open MeetsSeq MeetsSeq2 MeetsSeq3 SeqRoads2
variable {P:Program} {w:World} {l b:Addr} {xs ys:Array Value} {n m:Nat} {dd de:Option Addr} {sl sm:Array (Option Value)}
noncomputable def ve (P:Program) (w:World) (l b:Addr) (xs ys:Array Value) (n m:Nat) (dd de:Option Addr) (sl sm:Array (Option Value)) (r:Bool):_root_.PySem.Spec:=fun A R s=>
 s.heap.get? l=some (eo dd xs n sl)/\s.heap.get? b=some (eo de ys m sm)/\(∀ j (h1:j < xs.size) (h2:j < ys.size),EqO P w A.in1 s xs[j] ys[j])/\R (.ok (.ret (.bool r))) s
theorem Ng (hz:xs.size=ys.size):∀ (k i:Nat),xs.size - i=k->MeetsIn P w (Builtin.«list.__eq__.loop» ⟨[.ref l,.ref b,rawInt i,rawInt 2],[]⟩) (ve P w l b xs ys n m dd de sl sm true)
 | 0,i,hk=>by
  rintro A R ⟨hp,g,d,tk,os⟩ ⟨e1,e2,eq,hR⟩
  wp_walk using wpAny_loadPart' e1,wpAny_loadPart' e2
  have o1:xs[((i:Nat):Int).toNat]? = none:=by rw [Int.toNat_natCast];exact Array.getElem?_eq_none (by omega)
  have o2:ys[((i:Nat):Int).toNat]? = none:=by rw [Int.toNat_natCast];exact Array.getElem?_eq_none (by omega)
  rw [o1,o2]
  wp_walk using wpAny_loadPart' e1,wpAny_loadPart' e2
  show R (.ok (.ret (.bool (xs.size == ys.size)))) _;rw [hz,beq_self_eq_true];exact hR
 | k + 1,i,hk=>by
  rintro A R ⟨hp,g,d,tk,os⟩ ⟨e1,e2,eq,hR⟩
  wp_walk using wpAny_loadPart' e1,wpAny_loadPart' e2
  have i1:i < xs.size:=by omega
  have i2:i < ys.size:=by omega
  have o1:xs[((i:Nat):Int).toNat]? = some xs[i]:=by rw [Int.toNat_natCast];exact Array.getElem?_eq_getElem i1
  have o2:ys[((i:Nat):Int).toNat]? = some ys[i]:=by rw [Int.toNat_natCast];exact Array.getElem?_eq_getElem i2
  rw [o1,o2];refine wpAny_bind (eq i i1 i2 _ _ ?_)
  wp_walk
  rw [show (i:Int) + 1=((i + 1:Nat):Int) from rfl];exact ⟨plainId_quiet plain_eq_loop _,codeAny_builtin entry_eq_loop (by
   rw [Around.under_plainId plain_eq_loop _];exact Ng hz k (i + 1) (by omega) A R _ ⟨e1,e2,eq,hR⟩)⟩
theorem Nf (hz:xs.size=ys.size):∀ (k i:Nat),xs.size - i=k->MeetsIn P w (Builtin.«list.__eq__.loop» ⟨[.ref l,.ref b,rawInt i,rawInt 3],[]⟩) (ve P w l b xs ys n m dd de sl sm false)
 | 0,i,hk=>by
  rintro A R ⟨hp,g,d,tk,os⟩ ⟨e1,e2,eq,hR⟩
  wp_walk using wpAny_loadPart' e1,wpAny_loadPart' e2
  have o1:xs[((i:Nat):Int).toNat]? = none:=by rw [Int.toNat_natCast];exact Array.getElem?_eq_none (by omega)
  have o2:ys[((i:Nat):Int).toNat]? = none:=by rw [Int.toNat_natCast];exact Array.getElem?_eq_none (by omega)
  rw [o1,o2]
  wp_walk using wpAny_loadPart' e1,wpAny_loadPart' e2
  show R (.ok (.ret (.bool (xs.size != ys.size)))) _;rw [hz,bne_self_eq_false];exact hR
 | k + 1,i,hk=>by
  rintro A R ⟨hp,g,d,tk,os⟩ ⟨e1,e2,eq,hR⟩
  wp_walk using wpAny_loadPart' e1,wpAny_loadPart' e2
  have i1:i < xs.size:=by omega
  have i2:i < ys.size:=by omega
  have o1:xs[((i:Nat):Int).toNat]? = some xs[i]:=by rw [Int.toNat_natCast];exact Array.getElem?_eq_getElem i1
  have o2:ys[((i:Nat):Int).toNat]? = some ys[i]:=by rw [Int.toNat_natCast];exact Array.getElem?_eq_getElem i2
  rw [o1,o2];refine wpAny_bind (eq i i1 i2 _ _ ?_)
  wp_walk
  rw [show (i:Int) + 1=((i + 1:Nat):Int) from rfl];exact ⟨plainId_quiet plain_eq_loop _,codeAny_builtin entry_eq_loop (by
   rw [Around.under_plainId plain_eq_loop _];exact Nf hz k (i + 1) (by omega) A R _ ⟨e1,e2,eq,hR⟩)⟩
theorem Rm (hz:xs.size=ys.size):MeetsIn P w (Builtin.«list.__eq__» ⟨[.ref l,.ref b],[]⟩) (ve P w l b xs ys n m dd de sl sm true):=by
 rintro A R ⟨hp,g,d,tk,os⟩ ⟨e1,e2,eq,hR⟩;have f3:=AutoSeq1.sub_list_list;have hne:¬ (xs.size != ys.size)=true:=by rw [hz,bne_self_eq_false];decide
 wp_walk using wpAny_loadPart' e1,wpAny_loadPart' e2
 exact ⟨plainId_quiet plain_eq_loop _,codeAny_builtin entry_eq_loop (by
  rw [Around.under_plainId plain_eq_loop _];exact Ng hz _ 0 rfl A R _ ⟨e1,e2,eq,hR⟩)⟩
theorem cm (hz:xs.size=ys.size):MeetsIn P w (Builtin.«list.__ne__» ⟨[.ref l,.ref b],[]⟩) (ve P w l b xs ys n m dd de sl sm false):=by
 rintro A R ⟨hp,g,d,tk,os⟩ ⟨e1,e2,eq,hR⟩;have f3:=AutoSeq1.sub_list_list;have hne:¬ (xs.size != ys.size)=true:=by rw [hz,bne_self_eq_false];decide
 wp_walk using wpAny_loadPart' e1,wpAny_loadPart' e2
 exact ⟨plainId_quiet plain_eq_loop _,codeAny_builtin entry_eq_loop (by
  rw [Around.under_plainId plain_eq_loop _];exact Nf hz _ 0 rfl A R _ ⟨e1,e2,eq,hR⟩)⟩
end
theorem Qe {kvs:List (Key × V)} (nd:(kvs.map (·.1)).Nodup) {k:Key} {v:V} (h:(k,v) ∈ kvs):Dg kvs k=some v:=by
 induction kvs with
 | nil=>cases h
 | cons kv r ih=>
  rw [map_cons,List.nodup_cons] at nd;unfold Dg;rw [find?_cons];rcases List.mem_cons.mp h with e | e
  ·rw [<- e];simp
  ·have hne:kv.1 ≠ k:=fun z=>nd.1 (by rw [z];exact List.mem_map.mpr ⟨(k,v),e,rfl⟩)
   rw [decide_eq_false hne];exact ih nd.2 e
theorem Rh {A:Around} {s:Shared} {kvs:List (Key × V)} (nd:(kvs.map (·.1)).Nodup) (fl:∀ kv ∈ kvs,Fe kv.2=true) {ub:List (Key × Value)} (rb:KV kvs ub) :
  ∀ {Fh:List (Key × V)} {ua:List (Key × Value)},KV Fh ua->(∀ kv ∈ Fh,kv ∈ kvs)->PySem.W.KeqHits A s ub ua true:=by
 intro Fh ua ra hin;unfold KV at ra
 induction ra with
 | nil=>exact .nil
 | @cons p q ps qs h t ih=>
  obtain ⟨k,v⟩:=p;obtain ⟨k',u⟩:=q;obtain ⟨e1,e2⟩:=h;have e1:k=k':=e1;subst e1;have hm:=hin (k,v) (mem_cons_self ..);have hv:=rb.val k;rw [Qe nd hm] at hv;cases hy:valueAt ub k with
  | none=>rw [hy] at hv;cases hv
  | some y=>
   rw [hy] at hv;have f:=fl _ hm;have:=ck (A:=A) (s:=s) (show Qb v u from e2) (show Qb v y from hv) f f;rw [Tg f] at this;exact .hit hy this (ih fun kv hkv=>hin kv (mem_cons_of_mem _ hkv))
section
variable {X:Cx} {pins:List (Addr × Obj)} {σ:St} {H:Hp} {s:Shared}
theorem Dl (I:Inv X pins σ H s) {a b:Addr} {kvs:List (Key × V)} (ea:H a=some (.dK kvs)) (eb:H b=some (.dK kvs)) (nd:(kvs.map (·.1)).Nodup) (fl:∀ kv ∈ kvs,Fe kv.2=true) {A:Around} (hu:A.units < cLine):EqO X.prog X.w A s (.ref a) (.ref b):=by
 intro E Q hq;by_cases hab:a=b
 ·subst hab;exact SeqAt.EqAt.same _ _ _ _ _ hq
 obtain ⟨_,la,va,ra,da⟩:=ci I.hok ea;obtain ⟨_,lb,vb,rb,db⟩:=ci I.hok eb;unfold eqBool;refine wpAny_holding ?_;refine wpAny_ite_split (fun z=>absurd (by have:=eq_of_beq z;injection this) hab) (fun _=>?_);have hl:va.length=vb.length:=ra.length.symm.trans rb.length;refine wpAny_bind (PySem.W.keq_eq (r:=true) la lb da db hu (fun _=>Rh nd fl rb ra fun _ h=>h) ?_);rw [hl,beq_self_eq_true];exact wpAny_truthy_bool hq
structure DL (H:Hp) (p:Addr) (ps:List Addr) (ks:List (List (Key × V))):Prop where
 at_:H p=some (.lst (ps.map V.ref))
 len:ps.length=ks.length
 al:∀ (j:Nat) (a:Addr) (kvs:List (Key × V)),ps[j]? = some a->ks[j]? = some kvs->H a=some (.dK kvs)
noncomputable def Ol (ks:List (List (Key × V))):Prop:=∀ kvs ∈ ks,(kvs.map (·.1)).Nodup/\∀ kv ∈ kvs,Fe kv.2=true
theorem Ke {ps:List Addr} {its:List Value} (r:Pb (ps.map V.ref) its) {j:Nat} (h:j < its.toArray.size):∃ a,ps[j]? = some a/\its.toArray[j]=.ref a:=by
 have l:=r.length;rw [length_map] at l;have hj:j < ps.length:=by rw [size_toArray] at h;omega
 have hp:ps[j]? = some ps[j]:=getElem?_eq_getElem hj;obtain ⟨v,hv,rv⟩:=r.get (show (ps.map V.ref)[j]? = some (V.ref ps[j]) by rw [getElem?_map,hp];rfl);refine ⟨ps[j],hp,?_⟩;have e:=Array.getElem?_eq_getElem h;rw [List.getElem?_toArray,hv] at e;rw [<- Option.some.inj e];cases rv;rfl
theorem Te (I:Inv X pins σ H s) {p q:Addr} {ps qs:List Addr} {ks:List (List (Key × V))} (hp:DL H p ps ks) (hq:DL H q qs ks) (ok:Ol ks) {A:Around} (hu:A.units + 1 < cLine) :
  ∃ xs ys n m dd de sl sm,xs.size=ys.size/\s.TypeIs (.ref p) "list" /\ s.TypeIs (.ref q) "list" /\ ∀ (r:Bool) (R:Result->Shared->Prop),R (.ok (.ret (.bool r))) s->ve X.prog X.w p q xs ys n m dd de sl sm r A R s:=by
 obtain ⟨its,r1,⟨⟨k1,dd,dt,sl⟩,n,g1,c1,d1,x1⟩,_⟩:=I.list (SqL.of (K:=X.K) hp.at_);obtain ⟨jts,r2,⟨⟨k2,de,du,sm⟩,m,g2,c2,d2,x2⟩,_⟩:=I.list (SqL.of (K:=X.K) hq.at_);have l1:=r1.length;have l2:=r2.length;rw [length_map] at l1 l2;have e1:=hp.len;have e2:=hq.len;simp only at c1 d1 x1 c2 d2 x2;subst c1 d1 x1 c2 d2 x2;refine ⟨its.toArray,jts.toArray,n,m,_,_,sl,sm,by rw [size_toArray,size_toArray];omega,⟨_,g1,rfl⟩,⟨_,g2,rfl⟩,fun r R hR=>⟨g1,g2,fun j h1 h2=>?_,hR⟩⟩;obtain ⟨a,ha,ea⟩:=Ke r1 h1;obtain ⟨b,hb,eb⟩:=Ke r2 h2;have hk:ks[j]? = some (ks[j]'(by rw [<- e1];exact (List.getElem?_eq_some_iff.mp ha).1)):=getElem?_eq_getElem _;obtain ⟨nd,fl⟩:=ok _ (mem_of_getElem? hk);rw [ea,eb];exact Dl I (hp.al j a _ ha hk) (hq.al j b _ hb hk) nd fl (by rw [Xc];omega)
end
section
variable {X:Cx}
noncomputable def jo:R2:=fun x y H Q=>∃ p q ps qs ks,x=.ref p/\y=.ref q/\DL H p ps ks/\DL H q qs ks/\Ol ks/\Q (.bl true) H
noncomputable def Pn:R2:=fun x y H Q=>∃ p q ps qs ks,x=.ref p/\y=.ref q/\DL H p ps ks/\DL H q qs ks/\Ol ks/\Q (.bl false) H
theorem Um (hU:X.A.units + 64 < cLine):OpR X (compareOp .Eq) jo:=by
 intro pins s σ H x y v u Q I rx ry h;obtain ⟨p,q,ps,qs,ks,rfl,rfl,hp,hq,ok,k⟩:=h;cases rx;cases ry;obtain ⟨xs,ys,n,m,dd,de,sl,sm,hz,t1,t2,two⟩:=Te I hp hq ok (A:=X.A) (by omega);exact wpAny_richCompare_same_room (op:=.Eq) t1 t2 F.slot_list_eq (call_meetsIn F.slot_list_eq t1 F.entry_list_eq (F.args_list_eq_2 _ _) (Rm hz) (two true _ ⟨(fun x=>nomatch x),.bl true,H,I,rfl,k⟩)) (by omega)
theorem gk (hU:X.A.units + 64 < cLine):OpR X (compareOp .NotEq) Pn:=by
 intro pins s σ H x y v u Q I rx ry h;obtain ⟨p,q,ps,qs,ks,rfl,rfl,hp,hq,ok,k⟩:=h;cases rx;cases ry;obtain ⟨xs,ys,n,m,dd,de,sl,sm,hz,t1,t2,two⟩:=Te I hp hq ok (A:=X.A) (by omega);exact wpAny_richCompare_same_room (op:=.NotEq) t1 t2 F.slot_list_ne (call_meetsIn F.slot_list_ne t1 F.entry_list_ne (F.args_list_ne_2 _ _) (cm hz) (two false _ ⟨(fun x=>nomatch x),.bl false,H,I,rfl,k⟩)) (by omega)
end
end L2
namespace L2
open PySem PySem.Spec PyProof.Rows
section
variable {X:Cx} {pins:List (Addr × Obj)} {σ:St} {H:Hp} {s:Shared} {d:Addr} {o:Obj} {kvs:List (Key × V)}
theorem vj (I:Inv X pins σ H s) (e:H d=some (.dK kvs)) (g:s.heap.get? d=some o):Inv X pins σ (upd H d (.frz o (.dK kvs))) s:=
 Cj I (by rw [e];exact True.intro) ⟨o,g⟩ ⟨g,I.hok d _ e⟩
theorem Lh (I:Inv X pins σ H s) (e:H d=some (.frz o (.dK kvs))) (nf:∀ o u,X.H₀ d ≠ some (.frz o u)):Inv X pins σ (upd H d (.dK kvs)) s:=by
 have ne:∀ {b:Addr} {u:Option HO},H b=u->(∀ o',u ≠ some (.frz o' (.dK kvs)))->b ≠ d:=fun {b u} q h z=>h o (by rw [<- q,z];exact e)
 refine ⟨I.ok,I.os,I.bare,⟨I.base.keep,I.base.slot,fun b o' q n hx=>?_,I.base.there,fun b xs q=>?_,fun b o' u q=>?_,fun b ps q=>?_⟩,I.loc,I.cell,?_,fun x c q=>?_,fun p hp=>?_,fun b u q=>?_,I.len⟩
 ·have h:=I.base.free b o' q n hx;rw [fb (ne h (fun _ z=>by cases z))];exact h
 ·have h:=I.base.tups b xs q;rw [fb (ne h (fun _ z=>by cases z))];exact h
 ·have h:=I.base.frzs b o' u q;rw [fb (fun z=>nf o' u (by rw [<- z];exact q))];exact h
 ·obtain ⟨m,h⟩:=I.base.tbls b ps q;exact ⟨m,by rw [fb (ne h (fun _ z=>by cases z))];exact h⟩
 ·rw [fb (ne I.free (fun _ z=>by cases z))];exact I.free
 ·rw [fb (ne (I.freeC x c q) (fun _ z=>by cases z))];exact I.freeC x c q
 ·obtain ⟨h1,h2,h3⟩:=I.pin p hp;exact ⟨h1,by rw [fb (ne h2 (fun _ z=>by cases z))];exact h2,h3⟩
 ·by_cases hb:b=d
  ·subst hb;rw [cb] at q;cases q;exact (I.hok b _ e).2
  ·rw [fb hb] at q;refine (I.hok b u q).stay (fun _ _ _ r=>r) (fun c r=>?_) (fun c xs r=>?_)
   ·rw [fb (ne r (fun _ z=>by cases z))];exact r
   ·rw [fb (ne r (fun _ z=>by cases z))];exact r
end
noncomputable def Itq (d:Addr) (o:Obj) (kvs:List (Key × V)):It:=
 ⟨fun i H=>H d=some (.frz o (.dK kvs))/\i < kvs.length,fun i H x H'=>H'=H/\∃ k v,kvs[i]? = some (k,v)/\x=kV k,fun i H=>H d=some (.frz o (.dK kvs))/\kvs.length <= i⟩
theorem Ik {P:Program} {w:World} {K:W.Frag} {tg:Expr} {d it:Addr} {o:Obj} {es:Array DictEntry} {ep:Nat} {kvs:List (Key × V)} (ex:o.ExactDict) (ho:o.data=.dict es ep)
  (hl:es.size=kvs.length) (ks:∀ (i:Nat) (e:DictEntry),es[i]? = some e->∃ k v,kvs[i]? = some (k,v)/\Qb (kV k) e.key):lm P w K tg (Itq d o kvs) [it] it (fun i h=>h.IsKeyIter it d i es.size ep) where
 mem:=by simp
 obj:=fun i h st b hb=>by
  have e:b=it:=by simpa using hb
  subst e;obtain ⟨o,e,c,d⟩:=st;exact ⟨o,e,fun v z=>by rw [d] at z;cases z⟩
 keep:=fun i h h' st k=>st.at fun o e=>k it (by simp) o e
 item:=by
  intro X hP hw hK hc i pins s σ H E I hf st hg;subst hP hw hK;obtain ⟨hq,hx⟩:=hg;have r:Ql s.heap d o es ep:=⟨(I.hok d _ hq).1,ex,ho⟩;obtain ⟨f0,f1,f2,f3,f4,f5⟩:=hf it (by simp);obtain ⟨q,hq2⟩:∃ q,es[i]? = some q:=⟨_,Array.getElem?_eq_getElem (show i < es.size by omega)⟩;obtain ⟨k,v,hkv,rk⟩:=ks i q hq2;refine Ni st r hq2 fun h' st' sb=>?_
  have I1:Inv X pins σ H { s with heap:=h' }:=I.turned (t':=s.toks) (fun b o hb e=>(sb.2 b hb).trans e) f0 f1 f3 f4 f5;obtain ⟨o2,e,c,dd⟩:=id st';exact ⟨_,rfl,Ek (s:={ s with heap:=h' }) e c dd (by decide) ⟨kV k,H,I1,rk,⟨rfl,k,v,hkv,rfl⟩,st',fun b hb=>(hf b hb).1⟩⟩
 done:=by
  intro X hP hw hK hc i pins s σ H E I hf st hg;subst hP hw hK;obtain ⟨hq,hx⟩:=hg;have r:Ql s.heap d o es ep:=⟨(I.hok d _ hq).1,ex,ho⟩;obtain ⟨f0,f1,f2,f3,f4,f5⟩:=hf it (by simp);exact tj (I.ok.hd hc) st r (by omega) fun h' eb=>⟨rfl,I.turned (t':=s.toks) (fun b o hb e=>eb b o hb e) f0 f1 f3 f4 f5⟩
 self:=fun _ _ _ _ _ st h=>wpAny_pyIter_keyiter st h
theorem xk {P:Program} {w:World} {k:Key} {v:Value} (h:(Mb P w).is k v=true):Qb (kV k) v:=by
 rcases Ib (k:=k) (v:=v) h with ⟨i,t,rfl,rfl⟩ | ⟨x,t,rfl,rfl⟩
 ·exact ⟨t,rfl⟩
 ·exact ⟨t,rfl⟩
theorem Pe {P:Program} {w:World}:∀ {es:List DictEntry} {vs:List (Key × Value)} {kvs:List (Key × V)},Pairs (Mb P w) es vs->KV kvs vs->es.length=kvs.length/\∀ (i:Nat) (e:DictEntry),es[i]? = some e->∃ k v,kvs[i]? = some (k,v)/\Qb (kV k) e.key
 | _,_,_,.nil,r=>by
  unfold KV at r;cases r;exact ⟨rfl,fun i e h=>by simp at h⟩
 | _,_,_,.cons hk _ t,r=>by
  unfold KV at r;cases r with
  | @cons p q ps qs h r'=>
   obtain ⟨l,al⟩:=Pe t (kvs:=ps) r';refine ⟨by rw [length_cons,length_cons,l],fun i e he=>?_⟩;cases i with
   | zero=>
    cases he;refine ⟨p.1,p.2,rfl,xk (P:=P) (w:=w) ?_⟩;rw [h.1];exact hk
   | succ i=>exact al i e he
section
variable {X:Cx} {tg:Expr}
noncomputable def iDk (tl:TE):TI:=fun σ H R=>tl σ H fun x H1=>∃ d kvs,x=.ref d/\H1 d=some (.dK kvs)/\∀ o,R (Itq d o kvs) (upd H1 d (.frz o (.dK kvs)))
theorem Em {l:Expr} {tl:TE} (hl:PE X l tl):PI X tg l (iDk tl):=by
 intro pins s σ H R I h;refine thn (hl pins s σ H _ I h) fun v s1 hZ1=>?_
 obtain ⟨x,H1,I1,r1,q1⟩:=hZ1;obtain ⟨d,kvs,e,ed,q⟩:=q1;subst e;cases r1;obtain ⟨_,hd,vs,rel,o,es,ep,g,ex,dat,_,pr,_⟩:=ci I1.hok ed;obtain ⟨hl,ks⟩:=Pe pr rel;have I2:=vj I1 ed g;refine Ti hd ⟨g,ex,dat⟩ ?_;refine ⟨s1.heap.objs.size,[s1.heap.objs.size],_,_,_,rfl,I2.kept (t':=s1.toks) fun b o e=>Heap.get?_push_of_some _ e,Ik ex dat (by rw [<- hl];exact Array.length_toList.symm) (fun i e h=>ks i e (by rw [<- Array.getElem?_toList] at h;exact h)),⟨_,Heap.get?_push_size _ rfl,rfl,rfl⟩,fun b hb=>?_,q o⟩;have e:b=s1.heap.objs.size:=by simpa using hb
 subst e;exact I2.fpOk (Nat.le_refl _) (I2.hok.fresh (Nat.le_refl _))
noncomputable def Bm (t:TE):TE:=fun σ H Q=>∃ d kvs,H d=some (.dK kvs)/\t σ H fun v H'=>∃ o,H' d=some (.frz o (.dK kvs))/\Q v (upd H' d (.dK kvs))
theorem Ri {e:Expr} {t:TE} (h:PE X e t):PE X e (Bm t):=by
 intro pins s σ H Q I q;obtain ⟨d,kvs,ed,q⟩:=q;refine thn (h pins s σ H _ I q) fun v s1 ⟨x,H1,I1,r1,o,e1,q1⟩=>⟨x,_,Lh I1 e1 (fun o' u z=>?_),r1,q1⟩
 have:=I.base.frzs d o' u z;rw [ed] at this;cases this
noncomputable def Ui:V->List V->Hp->VK->Prop:=fun x vs H Q=>∃ z,x=.str z/\vs=[]/\z.length <= sizeLine/\Q (.str (Txt.rstrip z)) H
theorem Mi:MtR X "str.rstrip" Ui:=by
 intro pins s σ H x xs v us Q I rx rv h;obtain ⟨z,rfl,rfl,hz,q⟩:=h;obtain ⟨t,rfl⟩:=rx;cases rv;exact PySem.SC.rstrip (fun t' k=>⟨.str _,H,I.tok _,⟨_,rfl⟩,q⟩) hz
noncomputable def jk:V->List V->Hp->VK->Prop:=fun x vs H Q=>∃ z i,x=.str z/\vs=[.int i]/\PadOk i=true/\Q (.str (Txt.ljust z i)) H
theorem Pg:MtR X "str.ljust" jk:=by
 intro pins s σ H x xs v us Q I rx rv h;obtain ⟨z,i,rfl,rfl,hp,q⟩:=h;obtain ⟨t,rfl⟩:=rx;obtain ⟨u,rfl,t',rfl⟩:=Wf rv;exact PySem.SC.ljust hp fun t' k=>⟨.str _,H,I.tok _,⟨_,rfl⟩,q⟩
theorem Je:Bf X (.type "dict") (fun xs H Q=>∃ d kvs,xs=[.ref d]/\H d=some (.dK kvs)/\∀ p,H p=none->Q (.ref p) (upd H p (.dK kvs))):=by
 intro pins s σ H xs us Q I r h;obtain ⟨d,kvs,rfl,ed,q⟩:=h;obtain ⟨u,rfl,ru⟩:=Wf r;cases ru;exact Rj I (.inl ed) fun p s' hp I'=>⟨.ref p,_,I',rfl,q p hp⟩
end
theorem Li {w:World} {K:W.Frag} {a:Addr} {es:Array DictEntry} {n:Nat} {kvs:List (Str × V)} (x:K.lookup a=some ⟨.type "dict",none,.dict es n,#[]⟩) (y:PySem.W.KeysLit w.params es.toList)
  (z:∀ x v,(x,v) ∈ kvs->∃ u',PySem.W.nsIn K a x=some (some u')/\Qb v u'):Zm w K (.ref a) kvs:=⟨a,es,n,rfl,x,y,z⟩
theorem Sg {K:W.Frag} {a:Addr} {x:Str} {v:V} {u:Value} (h:PySem.W.nsIn K a x=some (some u)) (r:Qb v u):∃ u',PySem.W.nsIn K a x=some (some u')/\Qb v u':=⟨u,h,r⟩
end L2
namespace L2
open PySem PySem.Spec PyProof.Rows
theorem El (i:Nat) (σ:St) (H:Hp) (Q:VK):kn i σ H Q=(∃ v,σ[i]? = some (some v)/\Q v H):=rfl
theorem Bn (v:V) (x_0:St) (H:Hp) (Q:VK):tC v x_0 H Q=(Q v H):=rfl
theorem gn (t:TE) (σ:St) (H:Hp) (Q:(Bool->Hp->Prop)):tB t σ H Q=(t σ H fun x H1=>∃ c,x=.bl c/\Q c H1):=rfl
theorem qm (t u:TT) (σ:St) (H:Hp) (Q:(Bool->Hp->Prop)):tOr t u σ H Q=(t σ H fun c H1=>if c=true then Q true H1 else u σ H1 Q):=rfl
theorem ql (t:TT) (σ:St) (H:Hp) (Q:(Bool->Hp->Prop)):mo t σ H Q=(t σ H fun c H1=>Q (!c) H1):=rfl
theorem Pj (ta tb:TE) (σ:St) (H:Hp) (Q:VK):Jm ta tb σ H Q=(ta σ H fun x H1=>∃ c,x=.bl c/\if c=true then tb σ H1 Q else Q (.bl false) H1):=rfl
theorem Ul (t:TT) (ta tb:TE) (σ:St) (H:Hp) (Q:VK):tIf t ta tb σ H Q=(t σ H fun c H1=>if c=true then ta σ H1 Q else tb σ H1 Q):=rfl
theorem Xb (D:Fd) (σ:St) (H:Hp):Fm  D σ H=(D.nx σ H):=rfl
theorem jb (t u:TS) (D:Fd) (σ:St) (H:Hp):ko t u D σ H=(t { D with nx:=u D } σ H):=rfl
theorem Oj (te:TE) (D:Fd) (σ:St) (H:Hp):Xl te D σ H=(te σ H fun _ H1=>D.nx σ H1):=rfl
theorem zk (te:TE) (D:Fd) (σ:St) (H:Hp):ao te D σ H=(te σ H D.rt):=rfl
theorem gd (i:Nat) (v:V) (σ:St) (H:Hp) (Q:(St->Hp->Prop)):Sj i v σ H Q=(Q (σ.set i (some v)) H):=rfl
theorem Gk (te:TE) (g:TG) (D:Fd) (σ:St) (H:Hp):xn te g D σ H=(te σ H fun x H1=>g x σ H1 D.nx):=rfl
theorem rj (K:W.Frag) (tl:TE) (σ:St) (H:Hp) (R:(It->Hp->Prop)):Cm K tl σ H R=(tl σ H fun x H1=>∃ a,x=.ref a/\(∃ xs,SqL K H1 a xs)/\R (Itl K a) H1):=rfl
theorem rm (r:R2) (ta tb:TE) (σ:St) (H:Hp) (Q:VK):tOp r ta tb σ H Q=(ta σ H fun x H1=>tb σ H1 fun y H2=>r x y H2 Q):=rfl
theorem zn (C:Int->Int->Prop) (g:Int->Int->V) (x:V) (y:V) (H:Hp) (Q:VK):rI C g x y H Q=(∃ i j,x=.int i/\y=.int j/\C i j/\Q (g i j) H):=rfl
theorem km (g:Int->Int->V) (x:V) (y:V) (H:Hp) (Q:VK):rI0 g x y H Q=(∃ i j,x=.int i/\y=.int j/\Q (g i j) H):=rfl
theorem im (x:V) (y:V) (H:Hp) (Q:VK):rEq  x y H Q=(Kn x y=true/\Q (.bl (decide (x=y))) H):=rfl
theorem mj (t:TE) (σ:St) (H:Hp) (Q:(Bool->Hp->Prop)):Tm t σ H Q=(t σ H fun x H'=>∃ k,x=.bl k/\Q k H'):=rfl
theorem uk (x_0:St) (H:Hp) (Q:(List V->Hp->Prop)):Sn  x_0 H Q=(Q [] H):=rfl
theorem zj (ta:TE) (tr:TA) (σ:St) (H:Hp) (Q:(List V->Hp->Prop)):Hm ta tr σ H Q=(ta σ H fun x H1=>tr σ H1 fun xs H2=>Q (x :: xs) H2):=rfl
theorem Xk (t:TA) (σ:St) (H:Hp) (Q:VK):Nn t σ H Q=(t σ H fun xs H1=>xs.length <= sizeLine/\∀ p,H1 p=none->Q (.ref p) (upd H1 p (.lst xs))):=rfl
theorem Jj (sp:Sp) (dvs:List V) (E:XK) (t:TA) (σ:St) (H:Hp) (Q:VK):dm sp dvs E t σ H Q=(t σ H fun vs H1=>sp (vs ++ dvs) H1 Q E):=rfl
theorem Qm (r:List V->Hp->VK->Prop) (t:TA) (σ:St) (H:Hp) (Q:VK):tCB r t σ H Q=(t σ H fun vs H1=>r vs H1 Q):=rfl
theorem qh (x_0:St) (H:Hp) (Q:(Option Int->Hp->Prop)):Zi  x_0 H Q=(Q none H):=rfl
theorem Uj (t:TE) (σ:St) (H:Hp) (Q:(Option Int->Hp->Prop)):em t σ H Q=(t σ H fun x H1=>∃ i,x=.int i/\Q (some i) H1):=rfl
theorem um (r:V->Option Int->Option Int->Hp->VK->Prop) (te:TE) (tl th:TO) (σ:St) (H:Hp) (Q:VK):tSl r te tl th σ H Q=(te σ H fun x H1=>tl σ H1 fun l H2=>th σ H2 fun u H3=>r x l u H3 Q):=rfl
theorem Al (K:W.Frag) (x:V) (y:V) (H:Hp) (Q:VK):On K x y H Q=(∃ p xs i v,x=.ref p/\y=.int i/\SqL K H p xs/\atI xs i=some v/\Q v H):=rfl
theorem sk (x:V) (y:V) (H:Hp) (Q:VK):Tn  x y H Q=(∃ z i c,x=.str z/\y=.int i/\z.length <= sizeLine/\atI z.cps.toList i=some c/\Q (.str ⟨#[c]⟩) H):=rfl
theorem yk (K:W.Frag) (x:V) (lo:Option Int) (hi:Option Int) (H:Hp) (Q:VK):Rn K x lo hi H Q=(∃ a xs,x=.ref a/\SqL K H a xs/\∀ p,H p=none->Q (.ref p) (upd H p (.lst (Sk xs lo hi)))):=rfl
theorem Jl (K:W.Frag) (T:String) (r:V->List V->Hp->VK->Prop) (to:TE) (σ:St) (H:Hp) (Q:VK):Wn K T r to σ H Q=(to σ H fun x H1=>tyV K T x H1/\r x [] H1 Q):=rfl
theorem am (K:W.Frag) (T:String) (r:V->List V->Hp->VK->Prop) (to:TE) (t:TA) (σ:St) (H:Hp) (Q:VK):tBM K T r to t σ H Q=(to σ H fun x H1=>tyV K T x H1/\t σ H1 fun xs H2=>r x xs H2 Q):=rfl
theorem mh (x:V) (vs:List V) (H:Hp) (Q:VK):Ii  x vs H Q=(∃ l xs y,x=.ref l/\vs=[y]/\H l=some (.lst xs)/\xs.length < sizeLine/\Q .non (upd H l (.lst (xs ++ [y])))):=rfl
theorem sh (x:V) (vs:List V) (H:Hp) (Q:VK):Wh  x vs H Q=(∃ l b xs zs,x=.ref l/\vs=[.ref b]/\H l=some (.lst xs)/\H b=some (.lst zs)/\xs.length + zs.length <= sizeLine/\Q .non (upd H l (.lst (xs ++ zs)))):=rfl
theorem vg (x:V) (vs:List V) (H:Hp) (Q:VK):Vg  x vs H Q=(∃ l xs,x=.ref l/\vs=[]/\H l=some (.lst xs)/\Q .non (upd H l (.lst xs.reverse))):=rfl
theorem Fj (td ty:TE) (σ:St) (H:Hp) (Q:VK):Am td ty σ H Q=(td σ H fun x H1=>ty σ H1 fun y H2=>∃ a v,x=.ref a/\gj H2 a y (some v)/\Q v H2):=rfl
theorem ij (td ty tv:TE) (D:Fd) (σ:St) (H:Hp):Mm td ty tv D σ H=(tv σ H fun v H1=>td σ H1 fun x H2=>ty σ H2 fun y H3=>∃ a H4,x=.ref a/\Xj H3 a y v H4/\D.nx σ H4):=rfl
theorem ai (x_0:St) (H:Hp) (Q:VK):ik  x_0 H Q=(∀ p,H p=none->Q (.ref p) (upd H p (.dK []))):=rfl
theorem Qj (x_0:St) (H:Hp) (Q:(Bool->Hp->Prop)):Vi  x_0 H Q=(Q true H):=rfl
theorem Hk (x:V) (lo:Option Int) (hi:Option Int) (H:Hp) (Q:VK):Xn  x lo hi H Q=(∃ z,x=.str z/\z.length <= sizeLine/\Q (.str (Txt.slice z lo hi)) H):=rfl
theorem Nj (K:W.Frag) (x:V) (vs:List V) (H:Hp) (Q:VK):mm K x vs H Q=(∃ sep p ys,x=.str sep/\vs=[.ref p]/\SqL K H p (Bb ys)/\(ys.map (·.length)).sum + ys.length * sep.length <= 16777216/\Q (.str (Txt.join sep ys)) H):=rfl
theorem Oh (kvs:SVs) (ty:TE) (σ:St) (H:Hp) (Q:VK):ak kvs ty σ H Q=(ty σ H fun y H1=>∃ x v,y=.str x/\kvs.lookup x=some v/\Q v H1):=rfl
theorem Pk (K:W.Frag) (x:V) (y:V) (H:Hp) (Q:VK):Yn K x y H Q=(∃ p q b,x=.ref p/\y=.ref q/\EqH K H 8 (.ref p) (.ref q) b/\Q (.bl (!b)) H):=rfl
theorem yl (K:W.Frag) (x:V) (y:V) (H:Hp) (Q:VK):Vn K x y H Q=(∃ p q b,x=.ref p/\y=.ref q/\EqH K H 8 (.ref p) (.ref q) b/\Q (.bl b) H):=rfl
theorem uh (K:W.Frag) (x:V) (vs:List V) (H:Hp) (Q:VK):Qi K x vs H Q=(∃ l ys k j,x=.ref l/\vs=[.str k]/\SqL K H l (Bb ys)/\ys[j]? = some k/\(∀ m,m < j->ys[m]? ≠ some k)/\ys.length <= 1000/\Q (.int (j:Nat)) H):=rfl
theorem Bh (x:V) (vs:List V) (H:Hp) (Q:VK):Zh  x vs H Q=(∃ d kvs,x=.ref d/\vs=[]/\H d=some (.dK kvs)/\Q .non (upd H d (.dK []))):=rfl
theorem Lk (x:V) (y:V) (H:Hp) (Q:VK):jo  x y H Q=(∃ p q ps qs ks,x=.ref p/\y=.ref q/\DL H p ps ks/\DL H q qs ks/\Ol ks/\Q (.bl true) H):=rfl
theorem Qk (x:V) (y:V) (H:Hp) (Q:VK):Pn  x y H Q=(∃ p q ps qs ks,x=.ref p/\y=.ref q/\DL H p ps ks/\DL H q qs ks/\Ol ks/\Q (.bl false) H):=rfl
theorem Sl (tl:TE) (σ:St) (H:Hp) (R:(It->Hp->Prop)):iDk tl σ H R=(tl σ H fun x H1=>∃ d kvs,x=.ref d/\H1 d=some (.dK kvs)/\∀ o,R (Itq d o kvs) (upd H1 d (.frz o (.dK kvs)))):=rfl
theorem xj (t:TE) (σ:St) (H:Hp) (Q:VK):Bm t σ H Q=(∃ d kvs,H d=some (.dK kvs)/\t σ H fun v H'=>∃ o,H' d=some (.frz o (.dK kvs))/\Q v (upd H' d (.dK kvs))):=rfl
theorem Dh (x:V) (vs:List V) (H:Hp) (Q:VK):Ui  x vs H Q=(∃ z,x=.str z/\vs=[]/\z.length <= sizeLine/\Q (.str (Txt.rstrip z)) H):=rfl
theorem Sh (x:V) (vs:List V) (H:Hp) (Q:VK):jk  x vs H Q=(∃ z i,x=.str z/\vs=[.int i]/\PadOk i=true/\Q (.str (Txt.ljust z i)) H):=rfl
noncomputable def Se (J:It) (g:TG) (tb:TS) (D:Fd) (σ:St) (H:Hp):Prop:=∃ W:Nat->Nat->St->Hp->Prop,(∃ m,W 0 m σ H)/\∀ i m σ H,W i m σ H ->
 (J.stop i H/\D.nx σ H)\/(J.go i H/\∃ N:St->Hp->Prop,(∀ σ' H',N σ' H'->∃ m',m' < m/\W (i + 1) m' σ' H')/\∀ x H',J.yld i H x H'->g x σ H' fun σ2 H2=>tb { D with nx:=N,ct:=N,bk:=D.nx } σ2 H2)
theorem Kl (wi:TI) (g:TG) (tb:TS) (D:Fd) (σ:St) (H:Hp):Ln wi g tb D σ H=wi σ H fun J H1=>Se J g tb D σ H1:=rfl
noncomputable def fc (J:It) (g:TG) (tc:TT) (te:TE) (σb:St) (Q:VK) (H:Hp):Prop:=∃ W:Nat->Nat->List V->Hp->Prop,(∃ m,W 0 m [] H)/\Eh J g tc te σb Q W
theorem Tj (wi:TI) (g:TG) (tc:TT) (te:TE) (sel:List (Option Nat)) (σ:St) (H:Hp) (Q:VK):ml wi g tc te sel σ H Q=wi σ H fun J H1=>fc J g tc te (blk sel σ) Q H1:=rfl
theorem Aj (ta:TA) (σ:St) (H:Hp) (R:It->Hp->Prop):om ta σ H R=(ta σ H fun vs H1=>∃ j:Int,vs=[.int j]/\-4611686018427387904 <= j/\j < 4611686018427387904/\R (Itr 0 j.toNat) H1):=rfl
theorem Gj (ta:TA) (σ:St) (H:Hp) (R:It->Hp->Prop):Im ta σ H R=(ta σ H fun vs H1=>∃ i j:Int,vs=[.int i,.int j]/\(-4611686018427387904 <= i/\i < 4611686018427387904/\-4611686018427387904 <= j/\j < 4611686018427387904)/\R (Itr i (j - i).toNat) H1):=rfl
theorem Ml (sel:List (Option Nat)) (σ:St):blk sel σ=sel.map fun o=>o.bind fun j=>(σ[j]?).join:=rfl
theorem Fc {c:TT} {t u:TS} {D:Fd} {σ:St} {H:Hp} (b:Bool) (hc:∀ Q:Bool->Hp->Prop,Q b H->c σ H Q) (h1:b=true->t D σ H) (h2:b=false->u D σ H):sn c t u D σ H:=by
 refine hc _ ?_;cases b with
 | true=>exact h1 rfl
 | false=>exact h2 rfl
theorem Yj {c:TT} {t u:TS} {D:Fd} {σ:St} {H:Hp} (R:Bool->Hp->Prop) (hc:∀ Q:Bool->Hp->Prop,(∀ b H',R b H'->Q b H')->c σ H Q) (h1:∀ H',R true H'->t D σ H') (h2:∀ H',R false H'->u D σ H'):sn c t u D σ H:=by
 refine hc _ fun b H' r=>?_
 cases b with
 | true=>exact h1 H' r
 | false=>exact h2 H' r
theorem qb {t:TS} {D:Fd} {σ:St} {H:Hp} (R:St->Hp->Prop) (h:∀ D':Fd,(∀ σ H,R σ H->D'.nx σ H)->D'.rt=D.rt->D'.bk=D.bk->D'.ct=D.ct->t D' σ H) (hR:∀ σ H,R σ H->D.nx σ H):t D σ H:=h D hR rfl rfl rfl
theorem zC {t:TS} {D:Fd} {σ:St} {H:Hp} (R:St->Hp->Prop) (h:∀ D':Fd,(∀ σ H,R σ H->D'.nx σ H)->t D' σ H) (hR:∀ M,M=D.nx->∀ σ H,R σ H->M σ H):t D σ H:=h D (hR _ rfl)
theorem zP {p:Prop} (h:∀ q,q=p->q):p:=h p rfl
theorem zD {t:TS} {D:Fd} {σ:St} {H:Hp} (R:St->Hp->Prop) (h:∀ D':Fd,(∀ σ H,R σ H->D'.nx σ H)->t D' σ H) (hR:∀ σ H,R σ H->D.nx σ H):t D σ H:=h D hR
theorem Hg (x y:Str):(x ++ y).length=x.length + y.length:=by
 show (x.cps ++ y.cps).size=_;rw [Array.size_append];rfl
theorem Se.range {lo:Int} {n:Nat} {g:TG} {tb:TS} {D:Fd} {σ:St} {H:Hp} (Pv:Nat->St->Hp->Prop) (h0:Pv 0 σ H)
  (hs:∀ i σ H,i < n->Pv i σ H->g (.int (lo + i)) σ H fun σ2 H2=>tb { D with nx:=Pv (i + 1),ct:=Pv (i + 1),bk:=D.nx } σ2 H2) (hd:∀ σ H,Pv n σ H->D.nx σ H):Se (Itr lo n) g tb D σ H:=bi Pv h0 hs hd
theorem Se.list {K:W.Frag} {a:Addr} {xs:List V} {g:TG} {tb:TS} {D:Fd} {σ:St} {H:Hp} (Pv:Nat->St->Hp->Prop) (h0:Pv 0 σ H) (hl:∀ i σ H,i <= xs.length->Pv i σ H->SqL K H a xs)
  (hs:∀ i x σ H,xs[i]? = some x->Pv i σ H->g x σ H fun σ2 H2=>tb { D with nx:=Pv (i + 1),ct:=Pv (i + 1),bk:=D.nx } σ2 H2) (hd:∀ σ H,Pv xs.length σ H->D.nx σ H):Se (Itl K a) g tb D σ H:=kj Pv h0 hl hs hd
theorem Se.its {xs:List V} {g:TG} {tb:TS} {D:Fd} {σ:St} {H:Hp} (Pv:Nat->St->Hp->Prop) (h0:Pv 0 σ H)
  (hs:∀ i x σ H,xs[i]? = some x->Pv i σ H->g x σ H fun σ2 H2=>tb { D with nx:=Pv (i + 1),ct:=Pv (i + 1),bk:=D.nx } σ2 H2) (hd:∀ σ H,Pv xs.length σ H->D.nx σ H):Se (Its xs) g tb D σ H:=Dk Pv h0 hs hd
theorem fc.list {K:W.Frag} {a:Addr} {xs:List V} {g:TG} {tc:TT} {te:TE} {σb:St} {Q:VK} {H:Hp} (Pv:Nat->List V->Hp->Prop) (hz:xs.length <= sizeLine) (h0:Pv 0 [] H) (hl:∀ i ys H,i <= xs.length->Pv i ys H->SqL K H a xs/\ys.length <= i)
  (hs:∀ i x ys H,xs[i]? = some x->Pv i ys H->Kc Pv g tc te σb i x ys H) (hd:∀ ys H,Pv xs.length ys H->∀ p,H p=none->Q (.ref p) (upd H p (.lst ys))):fc (Itl K a) g tc te σb Q H:=Nh Pv hz h0 hl hs hd
theorem fc.its {xs:List V} {g:TG} {tc:TT} {te:TE} {σb:St} {Q:VK} {H:Hp} (Pv:Nat->List V->Hp->Prop) (hz:xs.length <= sizeLine) (h0:Pv 0 [] H) (hl:∀ i ys H,i <= xs.length->Pv i ys H->ys.length <= i)
  (hs:∀ i x ys H,xs[i]? = some x->Pv i ys H->Kc Pv g tc te σb i x ys H) (hd:∀ ys H,Pv xs.length ys H->∀ p,H p=none->Q (.ref p) (upd H p (.lst ys))):fc (Its xs) g tc te σb Q H:=sj Pv hz h0 hl hs hd
theorem fc.range {lo:Int} {n:Nat} {g:TG} {tc:TT} {te:TE} {σb:St} {Q:VK} {H:Hp} (Pv:Nat->List V->Hp->Prop) (hz:n <= sizeLine) (h0:Pv 0 [] H) (hl:∀ i ys H,i <= n->Pv i ys H->ys.length <= i)
  (hs:∀ i ys H,i < n->Pv i ys H->Kc Pv g tc te σb i (.int (lo + i)) ys H) (hd:∀ ys H,Pv n ys H->∀ p,H p=none->Q (.ref p) (upd H p (.lst ys))):fc (Itr lo n) g tc te σb Q H:=Ah Pv hz h0 hl hs hd
theorem cf {α β:Type} {xs:List α} {i:Nat} {x:α} (f:α->β) (h:xs[i]? = some x):(xs.take (i + 1)).map f=(xs.take i).map f ++ [f x]:=by
 rw [take_add_one,h,map_append];rfl
theorem fc.range_map {lo:Int} {n:Nat} {g:TG} {te:TE} {σb:St} {Q:VK} {H:Hp} (f:Nat->V) (hz:n <= sizeLine) (hs:∀ (i:Nat) (N:V->Hp->Prop),i < n->N (f i) H->g (.int (lo + i)) σb H fun σ2 H2=>Sub σb σ2/\te σ2 H2 N)
  (hd:∀ p,H p=none->Q (.ref p) (upd H p (.lst ((List.range n).map f)))):fc (Itr lo n) g Vi te σb Q H:=by
 refine fc.range (fun i ys H'=>H'=H/\ys=(List.range i).map f) hz ⟨rfl,rfl⟩ (fun i ys H' hi ⟨_,e⟩=>?_) (fun i ys H' hi ⟨e1,e2⟩ N hN=>?_) (fun ys H' ⟨e1,e2⟩ p hp=>?_)
 ·rw [e,length_map,length_range];exact Nat.le_refl _
 ·subst e1;exact hs i (fun y H4=>N (ys ++ [y]) H4) hi (hN _ _ ⟨rfl,by rw [e2,List.range_succ,map_append];rfl⟩)
 ·subst e1;rw [e2];exact hd p hp
theorem fc.list_mk {K:W.Frag} {a:Addr} {xs:List V} {g:TG} {te:TE} {σb:St} {Q:VK} {H:Hp} (f:V->HO) (hl:SqL K H a xs) (hz:xs.length <= sizeLine) (hn:∀ x,noT (f x)=true)
  (hs:∀ (i:Nat) (x:V) (H1:Hp) (N:V->Hp->Prop),xs[i]? = some x->Nb H H1->(NoT H->NoT H1)->(∀ q,H1 q=none->N (.ref q) (upd H1 q (f x)))->g x σb H1 fun σ2 H2=>Sub σb σ2/\te σ2 H2 N)
  (hd:∀ (qs:List Addr) (H1:Hp),Nb H H1->(NoT H->NoT H1)->qs.length=xs.length->(∀ (j:Nat) (q:Addr) (x:V),qs[j]? = some q->xs[j]? = some x->H1 q=some (f x)/\H q=none)->∀ p,H1 p=none->Q (.ref p) (upd H1 p (.lst (qs.map V.ref)))):fc (Itl K a) g Vi te σb Q H:=by
 refine fc.list (fun i ys H'=>∃ qs:List Addr,ys=qs.map V.ref/\qs.length=i/\Nb H H'/\(NoT H->NoT H')/\∀ (j:Nat) (q:Addr) (x:V),qs[j]? = some q->xs[j]? = some x->H' q=some (f x)/\H q=none) hz
  ⟨[],rfl,rfl,Nb.refl H,id,fun j q x h _=>by simp at h⟩ ?_ ?_ ?_
 ·rintro i ys H' hi zq;refine zP fun zM zzh=>?_
  obtain ⟨qs,e,e2,sm,_,_⟩:=zq;subst zzh;exact ⟨hl.same sm,by rw [e,length_map];omega⟩
 ·rintro i x ys H' hx ⟨qs,e1,e2,sm,nt,al⟩ N hN;refine hs i x H' (fun y H4=>N (ys ++ [y]) H4) hx sm nt fun q hq=>hN _ _ ⟨qs ++ [q],by rw [e1,map_append];rfl,by rw [length_append,e2];rfl,sm.updN (sm.free hq),fun n=>(nt n).upd (hn x),fun j q' x' h1 h2=>?_⟩
  by_cases hj:j < qs.length
  ·rw [List.getElem?_append_left hj] at h1;obtain ⟨z1,z2⟩:=al j q' x' h1 h2;exact ⟨by rw [fb (Ab z1 hq)];exact z1,z2⟩
  ·rw [List.getElem?_append_right (by omega)] at h1;have hj0:j - qs.length=0:=by
    cases hh:j - qs.length with
    | zero=>rfl
    | succ n=>rw [hh] at h1;simp at h1
   rw [hj0] at h1;have e3:q=q':=by simpa using h1
   subst e3;have e4:j=i:=by omega
   subst e4;rw [hx] at h2;cases h2;exact ⟨cb,sm.free hq⟩
 ·rintro ys H' ⟨qs,e1,e2,sm,nt,al⟩ p hp;subst e1;exact hd qs H' sm nt e2 al p hp
theorem Se.of {J:It} {n:Nat} {g:TG} {tb:TS} {D:Fd} {σ:St} {H:Hp} (Pv:Nat->St->Hp->Prop) (h0:Pv 0 σ H) (hgo:∀ i σ H,i < n->Pv i σ H->J.go i H) (hst:∀ σ H,Pv n σ H->J.stop n H)
  (hs:∀ i σ H x H',i < n->Pv i σ H->J.yld i H x H'->g x σ H' fun σ2 H2=>tb { D with nx:=Pv (i + 1),ct:=Pv (i + 1),bk:=D.nx } σ2 H2) (hd:∀ σ H,Pv n σ H->D.nx σ H):Se J g tb D σ H:=by
 refine ⟨fun i m σ H=>m=n - i/\i <= n/\Pv i σ H,⟨n,by simp,Nat.zero_le _,h0⟩,?_⟩;rintro i m σ H ⟨rfl,hi,p⟩;by_cases hlt:i < n
 ·exact .inr ⟨hgo i σ H hlt p,Pv (i + 1),fun σ' H' p'=>⟨n - (i + 1),by omega,rfl,hlt,p'⟩,fun x H' y=>hs i σ H x H' hlt p y⟩
 ·have e:i=n:=by omega
  subst e;exact .inl ⟨hst σ H p,hd σ H p⟩
theorem fc.of {J:It} {n:Nat} {g:TG} {tc:TT} {te:TE} {σb:St} {Q:VK} {H:Hp} (Pv:Nat->List V->Hp->Prop) (hz:n <= sizeLine) (h0:Pv 0 [] H) (hgo:∀ i ys H,i < n->Pv i ys H->J.go i H) (hst:∀ ys H,Pv n ys H->J.stop n H) (hl:∀ i ys H,i < n->Pv i ys H->ys.length <= i)
  (hs:∀ i ys H x H',i < n->Pv i ys H->J.yld i H x H'->Kc Pv g tc te σb i x ys H') (hd:∀ ys H,Pv n ys H->∀ p,H p=none->Q (.ref p) (upd H p (.lst ys))):fc J g tc te σb Q H:=by
 refine ⟨fun i m ys H=>m=n - i/\i <= n/\Pv i ys H,⟨n,by simp,Nat.zero_le _,h0⟩,?_⟩;rintro i m ys H ⟨rfl,hi,p⟩;by_cases hlt:i < n
 ·have hyl:=hl i ys H hlt p;refine .inr ⟨hgo i ys H hlt p,by omega,fun x H' y=>?_⟩;exact hs i ys H x H' hlt p y (fun ys' H'=>∃ m',m' < n - i/\m'=n - (i + 1)/\i + 1 <= n/\Pv (i + 1) ys' H') fun ys' H' r=>⟨n - (i + 1),by omega,rfl,hlt,r⟩
 ·have e:i=n:=by omega
  subst e;exact .inl ⟨hst ys H p,hd ys H p⟩
section
variable {K:W.Frag} {a b:Addr} {xs ys:List V} {g:TG} {tb:TS} {D:Fd} {σ σb:St} {H:Hp} {tc:TT} {te:TE} {Q:VK}
theorem Se.zip (Pv:Nat->St->Hp->Prop) (h0:Pv 0 σ H) (hl:∀ i σ H,i <= xs.length->Pv i σ H->SqL K H a xs/\SqL K H b ys) (n:Nat) (hn:n=min xs.length ys.length)
  (hs:∀ i x y σ H p,xs[i]? = some x->ys[i]? = some y->Pv i σ H->H p=none->g (.ref p) σ (upd H p (.tup [x,y])) fun σ2 H2=>tb { D with nx:=Pv (i + 1),ct:=Pv (i + 1),bk:=D.nx } σ2 H2) (hd:∀ σ H,Pv n σ H->D.nx σ H):Se (Itz K a b) g tb D σ H:=by
 subst hn;refine Se.of (n:=min xs.length ys.length) Pv h0 (fun i σ H hi p=>?_) (fun σ H p=>?_) (fun i σ H v H' hi p y=>?_) hd
 ·obtain ⟨z1,z2⟩:=hl i σ H (by omega) p;exact ⟨xs,ys,xs[i],ys[i],z1,z2,by rw [getElem?_eq_getElem (by omega)],by rw [getElem?_eq_getElem (by omega)]⟩
 ·obtain ⟨z1,z2⟩:=hl _ σ H (by omega) p;exact ⟨xs,ys,z1,z2,by omega⟩
 ·obtain ⟨q,x,y,hq,rfl,hx,hy,rfl⟩:=y;obtain ⟨z1,z2⟩:=hl i σ H (by omega) p;exact hs i x y σ H q (hx xs z1) (hy ys z2) p hq
end
theorem fc.list_zs {K:W.Frag} {a:Addr} {xs zs:List V} {g:TG} {te:TE} {σb:St} {Q:VK} {H:Hp} (hl:SqL K H a xs) (hz:xs.length <= sizeLine) (he:zs.length=xs.length)
  (hs:∀ (i:Nat) (x z:V) (N:V->Hp->Prop),xs[i]? = some x->zs[i]? = some z->N z H->g x σb H fun σ2 H2=>Sub σb σ2/\te σ2 H2 N) (hd:∀ p,H p=none->Q (.ref p) (upd H p (.lst zs))):fc (Itl K a) g Vi te σb Q H:=by
 refine fc.list (fun i ys H'=>H'=H/\ys=zs.take i) hz ⟨rfl,rfl⟩ (fun i ys H' hi ⟨e0,e⟩=>?_) (fun i x ys H' hx ⟨e1,e2⟩ N hN=>?_) (fun ys H' ⟨e1,e2⟩ p hp=>?_)
 ·subst e0;exact ⟨hl,by rw [e,length_take];omega⟩
 ·subst e1;have hi:i < zs.length:=by rw [he];exact (List.getElem?_eq_some_iff.mp hx).1
  have hz':zs[i]? = some zs[i]:=getElem?_eq_getElem hi;exact hs i x zs[i] (fun y H4=>N (ys ++ [y]) H4) hx hz' (hN _ _ ⟨rfl,by rw [e2,take_add_one,hz'];rfl⟩)
 ·subst e1;rw [e2,<- he,List.take_length];exact hd p hp
theorem Sub.name {r:St} {v:Option V}:Sub (none :: r) (v :: r):=by
 refine ⟨rfl,fun i w h=>?_⟩;cases i with
 | zero=>cases h
 | succ i=>exact h
end L2
local macro_rules | `(tactic| walk_at "RD")=>`(tactic| ((try dsimp only [L2.Tk,L2.mn,L2.Cx.nox,L2.Cx.wish,L2.Cx.block,L2.Cx.tr,L2.Cx.hn]);(try simp only [L2.El,L2.Bn,L2.gn,L2.qm,L2.ql,L2.Pj,L2.Ul,L2.Xb,L2.jb,L2.Oj,L2.zk,L2.gd,L2.Gk,L2.rj,L2.rm,L2.zn,L2.km,L2.im,L2.mj,L2.uk,L2.zj,L2.Xk,L2.Jj,L2.Qm,L2.qh,L2.Uj,L2.um,L2.Al,L2.sk,L2.yk,L2.Jl,L2.am,L2.mh,L2.sh,L2.vg,L2.Fj,L2.ij,L2.ai,L2.Qj,L2.Hk,L2.Nj,L2.Oh,L2.Pk,L2.yl,L2.uh,L2.Bh,L2.Lk,L2.Qk,L2.Sl,L2.xj,L2.Dh,L2.Sh,L2.Kl,L2.Tj,L2.Aj,L2.Gj,L2.xl,L2.Zk,L2.Xe,L2.Ml,map_cons,map_nil,Option.bind_none,Option.bind_some,Option.join_some,Option.join_none,length_cons,List.length_nil,Nat.reduceAdd,Nat.reduceSub,Nat.zero_add,List.replicate,List.cons_append,List.nil_append,List.append_nil,set_cons_zero,set_cons_succ,List.getElem?_cons_zero,List.getElem?_cons_succ,Option.some.injEq,L2.V.int.injEq,L2.V.bl.injEq,L2.V.str.injEq,L2.V.ref.injEq,L2.V.ty.injEq,exists_eq_left',exists_eq_left,exists_and_left,List.cons.injEq,and_true,true_and,and_assoc,Int.zero_add,reduceCtorEq,false_and,exists_false,and_false,ite_true,ite_false,if_true,if_false,Bool.false_eq_true,L2.Kn,L2.tyV,false_or,or_false,Bool.not_true,Bool.not_false,decide_true,decide_false])))
namespace My
open PySem L2
noncomputable abbrev q0:List Str:=["name","rows"]
noncomputable abbrev q5:List Str:=["_law_script","_law_k","_law_many"]
noncomputable abbrev q8:List Str:=["_law_script","_law_names_here","_law_many","_law_cell","_law_begin","_law_rows_here","_law_due","_law_name","_law_handed","_law_found","_law_row","_law_texts","_law_back"]
noncomputable abbrev q9:List Str:=["_law_one"]
noncomputable abbrev q10:List Str:=["begin","rows"]
noncomputable abbrev q11:List Str:=["_law_script","_law_many"]
noncomputable abbrev q12:List Str:=["_law_script","_law_names_here","_law_many"]
noncomputable abbrev q14:List Str:=["begin","rows","figures","texts"]
noncomputable def top (i:Nat):Stmt:=PySem.Challenge.pw_lampway_k76_drawings.main.body.getD i (.Pass ⟨0,0,0,0⟩)
noncomputable abbrev Cd:Stmt:=top 5
theorem Wd:pc ["name","rows","signs"] q0 (yb Cd):=⟨rfl,rfl,rfl,by decide +kernel,rfl,by decide +kernel,by decide +kernel⟩
noncomputable abbrev mf:Stmt:=top 6
theorem We:pc q14 q10 (yb mf):=⟨rfl,rfl,rfl,by decide +kernel,rfl,by decide +kernel,by decide +kernel⟩
noncomputable abbrev eg:Stmt:=top 7
theorem Bc:pc ["texts","rows","place","row","text"] ["texts"] (yb eg):=⟨rfl,rfl,rfl,by decide +kernel,rfl,by decide +kernel,by decide +kernel⟩
noncomputable abbrev qe:Stmt:=top 9
theorem Zc:pc ["_law_script","_law_k","_law_many","_law_cell","_law_seed"] q5 (yb qe):=⟨rfl,rfl,rfl,by decide +kernel,rfl,by decide +kernel,by decide +kernel⟩
noncomputable abbrev Rc:Stmt:=top 10
theorem zb:pc ["_law_script","_law_many","_law_letters","_law_word","_law_size","_law_at","_law_first","_law_some","_law_k","_law_name","_law_sign_here"] q11 (yb Rc):=⟨rfl,rfl,rfl,by decide +kernel,rfl,by decide +kernel,by decide +kernel⟩
noncomputable abbrev De:Stmt:=top 11
theorem Ob:pc ["_law_script","_law_names_here","_law_many","_law_rows_here","_law_k","_law_row","_law_n","_law_at"] q12 (yb De):=⟨rfl,rfl,rfl,by decide +kernel,rfl,by decide +kernel,by decide +kernel⟩
noncomputable abbrev le:Stmt:=top 12
theorem xf:pc q9 q9 (yb le):=⟨rfl,rfl,rfl,by decide +kernel,rfl,by decide +kernel,by decide +kernel⟩
noncomputable abbrev og:Stmt:=top 13
theorem lc:pc q8 ["_law_script"] (yb og):=⟨rfl,rfl,rfl,by decide +kernel,rfl,by decide +kernel,by decide +kernel⟩
noncomputable abbrev Ae:List (Str × V):=[((Str.ofString "."),.str (Str.ofString "stop")),((Str.ofString ":"),.str (Str.ofString "ready")),((Str.ofString "|"),.str (Str.ofString "free")),((Str.ofString "~"),.str (Str.ofString "fade"))]
noncomputable abbrev Gf:List (Str × V):=[((Str.ofString "stop"),.str (Str.ofString ".")),((Str.ofString "ready"),.str (Str.ofString ":")),((Str.ofString "free"),.str (Str.ofString "|")),((Str.ofString "fade"),.str (Str.ofString "~"))]
set_option genInjectivity false in
set_option genInjectivity false in
structure Adr where
 {Hc pf Nd ac xc Ec Lc dl:Addr}
 {Nc Ue Ld cc wc Cc Mc pj:FuncData}
 {di Rf sd Bi:Value}
structure Txt (w:World) (K:W.Frag) (mg:Str->Option Value) (t:Adr):Prop where
 jg:mg "drawn_way"=some (.ref t.Hc)
 yd:Fun K "drawn_way" "drawn_way" Cd t.Hc t.Nc
 Si:mg "drawn"=some (.ref t.pf)
 lf:Fun K "drawn" "drawn" mf t.pf t.Ue
 cg:mg "undrawn"=some (.ref t.Nd)
 Od:Fun K "undrawn" "undrawn" eg t.Nd t.Ld
 xb:mg "_law_draw"=some (.ref t.ac)
 pb:Fun K "_law_draw" "_law_draw" qe t.ac t.cc
 Of:mg "_law_names"=some (.ref t.xc)
 Yc:Fun K "_law_names" "_law_names" Rc t.xc t.wc
 yg:mg "_law_rows"=some (.ref t.Ec)
 Dd:Fun K "_law_rows" "_law_rows" De t.Ec t.Cc
 Jg:mg "_law_sign"=some (.ref t.Lc)
 zd:Fun K "_law_sign" "_law_sign" le t.Lc t.Mc
 Hn:mg "law"=some (.ref t.dl)
 En:Fun K "law" "law" og t.dl t.pj
 Ph:mg "AHEAD"=some t.di
 li:Qb (.int 9) t.di
 ni:mg "COLOURS"=some t.Rf
 Ai:Zm w K t.Rf Ae
 qd:mg "MOST_LETTERS"=some t.sd
 md:Qb (.int 8) t.sd
 vk:mg "SIGNS"=some t.Bi
 Nk:Zm w K t.Bi Gf
 Ki:mg "dict"=none
 Uc:mg "isinstance"=none
 ug:mg "len"=none
 Wg:mg "list"=none
 vd:mg "range"=none
 Cn:mg "str"=none
 Yl:∀ (s:Shared) (u:Value),BindsTo s t.pj ⟨[u],[]⟩ [("_law_script",u)]
section
variable {w:World} {K:W.Frag} {mg:Str->Option Value} {t:Adr} (T:Txt w K mg t)
include T
theorem Txt.Ig:Vd K t.Nc q0 []:=T.yd.binds fun _ _ _ _ _ _=>us2 fun _ _=>rfl
theorem Txt.Yi:Vd K t.Ue q10 []:=T.lf.binds fun _ _ _ _ _ _=>us2 fun _ _=>rfl
theorem Txt.Ef:Vd K t.Ld ["texts"] []:=T.Od.binds fun _ _ _ _ _ _=>us1 fun _=>rfl
theorem Txt.wb:Vd K t.cc q5 []:=T.pb.binds fun _ _ _ _ _ _=>us3 fun _ _ _=>rfl
theorem Txt.Xf:Vd K t.wc q11 []:=T.Yc.binds fun _ _ _ _ _ _=>us2 fun _ _=>rfl
theorem Txt.lg:Vd K t.Cc q12 []:=T.Dd.binds fun _ _ _ _ _ _=>us3 fun _ _ _=>rfl
theorem Txt.Eg:Vd K t.Mc q9 []:=T.zd.binds fun _ _ _ _ _ _=>us1 fun _=>rfl
end
noncomputable def fe (ns:List Int) (k m:Int):Int:=
 ((((if 0 < (ns.length:Int) then ns.getD (k % (ns.length:Int)).toNat 0 else 0) % 1000003 + 31 * k * k + 1) * 48271 % 999983 * 7919) % 524287) % m
theorem uc (ns:List Int) (k:Int) {m:Int} (h:0 < m):0 <= fe ns k m:=Int.emod_nonneg _ (by omega)
theorem nc (ns:List Int) (k:Int) {m:Int} (h:0 < m):fe ns k m < m:=Int.emod_lt_of_pos _ h
noncomputable def Lb (K:W.Frag) (a:Addr) (ns:List Int):Sp:=fun vs H Q _=>∃ k m,vs=[.ref a,.int k,.int m]/\Sc K a ns H/\(0 <= k/\k < 1000000)/\0 < m/\Q (.int (fe ns k m)) H
section
variable {P:Program} {w:World} {K:W.Frag} {mg:Str->Option Value} {base:Heap} {t:Adr}
theorem zg (T:Txt w K mg t) (a:Addr) (ns:List Int) (h63:ns.length <= 63):Gc P w K mg base CX0 1 t.ac t.cc q5 (Lb K a ns):=by
 refine T.pb.ok Zc (fun vs H Q E h=>?_) (fun _ _ _ s H vs Q E hr h=>?_)
 ·obtain ⟨k,m,rfl,_⟩:=h;rfl
 obtain ⟨k,m,rfl,S,⟨h0,h1⟩,hm,q⟩:=h;refine ⟨_,(bb (Gb (i:=3) Zc.nd rfl (Or.inl rfl) (sf (Zb Yk (gc Vb rfl T.ug bc (ab (pv 0) gb)) ib (ic _)) (ye Ud (pv 0) (Jb ud (pv 1) (gc Vb rfl T.ug bc (ab (pv 0) gb))) (fun _ _=>rfl)) ib))
   (bb (Gb (i:=4) Zc.nd rfl (Or.inl rfl) (Jb vc (Jb vc (Jb ud (pv 3) ib) (Jb Me (Jb Me ib (pv 1)) (pv 1))) ib))
   (Eb (Qc (Jb ud (Jb ud (Jb Me (Jb ud (Jb Me (pv 4) ib) ib) ib) ib) (pv 2)))))),?_⟩
 walk_at "RD";refine ⟨_,.inl S.seq,?_⟩;rw [length_map];have hkk:(0:Int) <= k * k/\k * k < 1000000 * 1000000:=⟨Int.mul_nonneg h0 h0,Int.mul_lt_mul' (by omega) h1 h0 (by decide)⟩;have fin:∀ i:Int,(0:Int) < 1000003/\Fk 31 k/\Fk (31 * k) k/\Fk (i % 1000003 + 31 * k * k + 1) 48271/\(0:Int) < 999983/\Fk ((i % 1000003 + 31 * k * k + 1) * 48271 % 999983) 7919/\(0:Int) < 524287/\0 < m:=by
  intro i;refine ⟨by decide,.inl (by decide),.inr (by omega),.inr (by decide),by decide,.inr (by decide),by decide,hm⟩
 by_cases c:(0:Int) < (ns.length:Int)
 ·rw [if_pos (decide_eq_true c)];have hk:0 <= k % (ns.length:Int)/\k % (ns.length:Int) < (ns.length:Int):=⟨Int.emod_nonneg _ (by omega),Int.emod_lt_of_pos _ c⟩;refine ⟨_,.inl S.seq,by rw [length_map];exact c,_,S.seq,?_⟩;rw [length_map];have hj:(k % (ns.length:Int)).toNat < ns.length:=by omega
  refine ⟨.int ns[(k % (ns.length:Int)).toNat],?_,_,rfl,?_⟩
  ·have e:=yc (xs:=ns.map V.int) (j:=(k % (ns.length:Int)).toNat) (v:=.int ns[(k % (ns.length:Int)).toNat]) (by rw [getElem?_map,getElem?_eq_getElem hj] <;> rfl);rwa [Int.toNat_of_nonneg hk.1] at e
  ·obtain ⟨f1,f2,f3,f4,f5,f6,f7,f8⟩:=fin ns[(k % (ns.length:Int)).toNat];refine ⟨f1,f2,f3,f4,f5,f6,f7,f8,?_⟩;have e:fe ns k m=(((ns[(k % (ns.length:Int)).toNat] % 1000003 + 31 * k * k + 1) * 48271 % 999983 * 7919) % 524287) % m:=by
    unfold fe;rw [if_pos c,getD_eq_getElem?_getD,getElem?_eq_getElem hj];rfl
   rw [<- e];exact q
 ·rw [if_neg (by simpa using c)];obtain ⟨f1,f2,f3,f4,f5,f6,f7,f8⟩:=fin 0;refine ⟨f1,f2,f3,f4,f5,f6,f7,f8,?_⟩;have e:fe ns k m=(((0 % 1000003 + 31 * k * k + 1) * 48271 % 999983 * 7919) % 524287) % m:=by
   unfold fe;rw [if_neg c]
  rw [<- e];exact q
end
end My
namespace My
open PySem L2
theorem Pc {α β:Type} {f:α->β} {l:List α} {i:Nat} {y:β} (h:(l.map f)[i]? = some y):∃ x,l[i]? = some x/\y=f x:=by
 rw [getElem?_map] at h;cases e:l[i]? with
 | none=>rw [e] at h;cases h
 | some x=>rw [e] at h;exact ⟨x,rfl,(Option.some.inj h).symm⟩
theorem Qd {α:Type} {l:List α} {a y:α} {i:Nat} (h:(l ++ [a])[i]? = some y):(i < l.length/\l[i]? = some y)\/(i=l.length/\y=a):=by
 by_cases c:i < l.length
 ·rw [List.getElem?_append_left c] at h;exact .inl ⟨c,h⟩
 ·rw [List.getElem?_append_right (by omega)] at h;have:i - l.length=0:=by
   cases hh:i - l.length with
   | zero=>rfl
   | succ n=>rw [hh] at h;simp at h
  rw [this] at h;exact .inr ⟨by omega,(Option.some.inj h).symm⟩
theorem Rb (ws:List Str):(Bb ws).length=ws.length:=by unfold Bb;rw [length_map]
theorem ge {ws:List Str} {i:Nat} {x:Str} (h:ws[i]? = some x):(Bb ws)[i]? = some (.str x):=by unfold Bb;rw [getElem?_map,h];rfl
theorem Ge (ws:List Str) (x:Str):Bb ws ++ [.str x]=Bb (ws ++ [x]):=by unfold Bb;rw [map_append];rfl
theorem ei (a b:List Str):Bb a ++ Bb b=Bb (a ++ b):=by unfold Bb;rw [map_append]
noncomputable def yh (c:Nat):Str:=[Str.ofString "stop",Str.ofString "ready",Str.ofString "free",Str.ofString "fade"].getD c (Str.ofString "stop")
noncomputable def Ie (c:Nat):Nat:=[46,58,124,126].getD c 46
noncomputable def mkS (l:List Nat):Str:=⟨l.toArray⟩
theorem qf (l:List Nat):(mkS l).cps.toList=l:=rfl
theorem ii (l:List Nat):(mkS l).length=l.length:=size_toArray ..
theorem cj {x y:Str} (h:x.cps.toList=y.cps.toList):x=y:=by
 obtain ⟨⟨a⟩⟩:=x;obtain ⟨⟨b⟩⟩:=y;cases (show a=b from h);rfl
theorem Yg {x:Str} {l:List Nat} (h:x.cps.toList=l):x=mkS l:=cj h
noncomputable def Tb (xs:List Str) (cs:List Nat):List (Key × V):=List.zipWith (fun x c=>(Sum.inr x,V.str (yh c))) xs cs
structure Nm (xs:List Str):Prop where
 ln:1 <= xs.length/\xs.length <= 6
 nd:xs.Nodup
 al:∀ x ∈ xs,(1 <= x.length/\x.length <= 8)/\∀ c ∈ x.cps.toList,97 <= c/\c <= 122
structure Css (xs:List Str) (css:List (List Nat)):Prop where
 ln:css.length <= 300
 al:∀ cs ∈ css,cs.length=xs.length/\∀ c ∈ cs,c < 4
theorem Gd {xs:List Str} {cs:List Nat} (h:cs.length=xs.length):(Tb xs cs).map (·.1)=xs.map Sum.inr:=by
 unfold Tb;rw [List.map_zipWith];refine List.ext_getElem (by simp [h]) fun i h1 h2=>?_
 rw [List.getElem_zipWith,List.getElem_map]
theorem oe {xs:List Str} (h:xs.Nodup):(xs.map (Sum.inr:Str->Key)).Nodup:=by
 refine List.pairwise_map.mpr (h.imp fun z e=>z (Sum.inr.inj e))
theorem Jc {xs:List Str} {cs:List Nat} (h:cs.length=xs.length):(Tb xs cs).length=xs.length:=by unfold Tb;rw [List.length_zipWith,h,Nat.min_self]
theorem af {xs:List Str} {cs:List Nat} {j c:Nat} {x:Str} (hx:xs[j]? = some x) (hc:cs[j]? = some c):(Tb xs cs)[j]? = some (Sum.inr x,V.str (yh c)):=by
 unfold Tb;rw [List.getElem?_zipWith,hx,hc]
theorem kh {xs:List Str} {cs:List Nat} (N:Nm xs) (hl:cs.length=xs.length) {j c:Nat} {x:Str} (hx:xs[j]? = some x) (hc:cs[j]? = some c):Dg (Tb xs cs) (Sum.inr x)=some (V.str (yh c)):=
 Qe (by rw [Gd hl];exact oe N.nd) (mem_of_getElem? (af hx hc))
theorem Css.ks {xs:List Str} {css:List (List Nat)} (N:Nm xs) (C:Css xs css):Ol (css.map (Tb xs)):=fun kvs hk=>by
 obtain ⟨cs,hcs,rfl⟩:=List.mem_map.mp hk;refine ⟨by rw [Gd (C.al cs hcs).1];exact oe N.nd,fun kv hkv=>?_⟩;unfold Tb at hkv;obtain ⟨i,hi,e⟩:=List.getElem_of_mem hkv;rw [List.getElem_zipWith] at e;rw [<- e];rfl
noncomputable def Ff (css:List (List Nat)) (j:Nat):List Nat:=css.map fun cs=>Ie (cs.getD j 0)
noncomputable def Md (x:Str) (j:Nat) (css:List (List Nat)):List Nat:=x.cps.toList ++ List.replicate (9 - x.length) 32 ++ Ff css j
noncomputable def Ym (b:Int) (n:Nat):List Nat:=(List.range n).map fun k:Nat=>48 + ((b + (k:Int)) % 10).toNat
noncomputable def ee (b:Int) (n:Nat):List Nat:=List.replicate 9 32 ++ Ym b n
noncomputable def gg (b:Int) (xs:List Str) (css:List (List Nat)):List Str:=mkS (ee b css.length) :: (if css=[] then [] else xs.mapIdx fun j x=>mkS (Md x j css))
theorem tm:∀ ys:List Str,(Str.join ⟨#[]⟩ ys).cps.toList=(ys.map (·.cps.toList)).flatten
 | []=>rfl
 | [a]=>by
  show a.cps.toList=_;simp
 | a :: b :: r=>by
  show (a ++ ⟨#[]⟩ ++ Str.join ⟨#[]⟩ (b :: r)).cps.toList=_;rw [Str.cps_append,Array.toList_append,Str.cps_append,Array.toList_append,tm (b :: r)];simp
theorem Be {α:Type} (f:α->Nat) (l:List α):(Txt.join (Str.ofString "") (l.map fun a=>pd (f a))).cps.toList=l.map f:=by
 rw [show Txt.join (Str.ofString "") (l.map fun a=>pd (f a))=Str.join ⟨#[]⟩ (l.map fun a=>pd (f a)) from StrLaws.glued_eq_join _ _,tm,map_map]
 induction l with
 | nil=>rfl
 | cons a l ih=>rw [map_cons,List.flatten_cons,ih];rfl
theorem dg {α:Type} (f:α->Nat) (l:List α):(List.map (fun x:Str=>x.length) (l.map fun a=>pd (f a))).sum=l.length:=by
 rw [map_map]
 induction l with
 | nil=>rfl
 | cons a l ih=>rw [map_cons,List.sum_cons,ih,length_cons,Nat.add_comm];rfl
theorem vh (x:Str) {n:Nat}:(Txt.ljust x (n:Int)).cps.toList=x.cps.toList ++ List.replicate (n - x.length) 32:=by
 have:=PyProof.Rows.ljustF_list x (n:Int) 32;rw [Int.toNat_natCast] at this;exact this
theorem Vj (x:V) (xs:List V):Sk (x :: xs) (some 1) none=xs:=by
 unfold Sk;rw [show (1:Int)=((1:Nat):Int) from rfl,HT.sIx_nat,HT.sIx_none];simp
theorem je (x:Str) {b:Nat} (hb:b <= x.cps.toList.length):(Txt.slice x none (some (b:Int))).cps.toList=x.cps.toList.take b:=by
 have hx:x.length=x.cps.toList.length:=by simp [Str.length]
 have e:=StrLaws.sliceText_nat x (Nat.zero_le b) (by rw [hx];exact hb);have:Txt.slice x none (some (b:Int))=StrLaws.sliceText x (some ((0:Nat):Int)) (some (b:Int)):=by
  show StrLaws.sliceText x none (some (b:Int))=StrLaws.sliceText x (some ((0:Nat):Int)) (some (b:Int));unfold StrLaws.sliceText;rw [StrLaws.sliceIdx_none_lo];rfl
 rw [this,e];rfl
theorem Kj {x:Str} (h:x.length <= 8) (j:Nat) (css:List (List Nat)):(Md x j css).length=9 + css.length:=by
 have hx:x.cps.toList.length=x.length:=Array.length_toList;unfold Md Ff;rw [length_append,length_append,length_replicate,length_map,hx];omega
theorem Ji {x:Str} (h:x.length <= 8) (j:Nat) (css:List (List Nat)):(Md x j css).take 8=x.cps.toList ++ List.replicate (8 - x.length) 32:=by
 have hx:x.cps.toList.length=x.length:=Array.length_toList;unfold Md;rw [List.append_assoc,List.take_append,hx,take_of_length_le (by omega),List.take_append,List.take_replicate,length_replicate,show 8 - x.length - (9 - x.length)=0 by omega,List.take_zero,List.append_nil,show min (8 - x.length) (9 - x.length)=8 - x.length by omega]
theorem nl {x:Str} (h:x.length <= 8) {j i c:Nat} {css:List (List Nat)} {cs:List Nat} (hcs:css[i]? = some cs) (hc:cs[j]? = some c):(Md x j css)[9 + i]? = some (Ie c):=by
 have hx:x.cps.toList.length=x.length:=Array.length_toList;unfold Md Ff;have l9:(x.cps.toList ++ List.replicate (9 - x.length) 32).length=9:=by rw [length_append,length_replicate,hx];omega
 rw [List.getElem?_append_right (by rw [l9];omega),l9,Nat.add_sub_cancel_left,getElem?_map,hcs];show some (Ie (cs.getD j 0))=_;rw [getD_eq_getElem?_getD,hc];rfl
theorem qj {xs:List Str} {cs:List Nat} (N:Nm xs) (hl:cs.length=xs.length) {k c:Nat} {x:Str} (hx:xs[k]? = some x) (hc:cs[k]? = some c):ig ((Tb xs cs).take k) (Sum.inr x) (V.str (yh c))=(Tb xs cs).take (k + 1):=by
 have nd:((Tb xs cs).map (·.1)).Nodup:=by rw [Gd hl];exact oe N.nd
 have hat:=af hx hc;unfold ig;rw [if_neg,take_add_one,hat]
 ·rfl
 ·intro z;obtain ⟨kv,hkv,e⟩:=List.any_eq_true.mp z;have e:kv.1=Sum.inr x:=of_decide_eq_true e;obtain ⟨i,hi,e2⟩:=List.getElem_of_mem hkv;rw [length_take] at hi;rw [List.getElem_take] at e2;obtain ⟨hk,e3⟩:=List.getElem?_eq_some_iff.mp hat;have:=(List.getElem_inj (xs:=(Tb xs cs).map (·.1)) (i:=i) (j:=k) (h₀:=by rw [length_map];omega) (h₁:=by rw [length_map];omega) nd).mp (by rw [List.getElem_map,List.getElem_map,e2,e3];exact e);omega
end My
namespace My
open PySem L2
theorem Hl:∀ {c:Nat},c < 4->List.lookup (yh c) Gf=some (V.str (pd (Ie c)))
 | 0,_=>by decide +kernel
 | 1,_=>by decide +kernel
 | 2,_=>by decide +kernel
 | 3,_=>by decide +kernel
theorem el:∀ {c:Nat},c < 4->List.lookup (pd (Ie c)) Ae=some (V.str (yh c))
 | 0,_=>by decide +kernel
 | 1,_=>by decide +kernel
 | 2,_=>by decide +kernel
 | 3,_=>by decide +kernel
structure DLr (H:Hp) (p:Addr) (ps:List Addr) (ks:List (List (Key × V))):Prop where
 at_:H p=some (.lst (ps.map V.ref))
 len:ps.length=ks.length
 al:∀ (j:Nat) (a:Addr) (kvs:List (Key × V)),ps[j]? = some a->ks[j]? = some kvs->Rd H a (.dK kvs)
theorem Vc {H H':Hp} {p:Addr} {ps:List Addr} {ks:List (List (Key × V))} (h:DL H p ps ks) (s:Nb H H'):DL H' p ps ks:=⟨s _ _ h.at_,h.len,fun j a kvs h1 h2=>s _ _ (h.al j a kvs h1 h2)⟩
noncomputable def Kh:Sp:=fun vs H Q _=>∃ xs css j x p ps,vs=[.str x,.ref p]/\Nm xs/\Css xs css/\xs[j]? = some x/\DLr H p ps (css.map (Tb xs))/\NoT H/\Q (.str (mkS (Md x j css))) H
noncomputable def Bj:Sp:=fun vs H Q _=>∃ xs css j x p ps,vs=[.str x,.ref p]/\Nm xs/\Css xs css/\xs[j]? = some x/\DLr H p ps (css.map (Tb xs))/\NoT H/\∀ H',Nb H H'->Q (.str (mkS (Md x j css))) H'
section
variable {P:Program} {w:World} {K:W.Frag} {mg:Str->Option Value} {base:Heap} {t:Adr}
theorem Bk (T:Txt w K mg t):Gc P w K mg base CX0 1 t.Hc t.Nc q0 Kh:=by
 refine Gc.forget (sp:=Bj) ?_ fun vs H Q E h=>?_
 ·refine T.yd.ok Wd (fun vs H Q E h=>?_) (fun _ _ _ s H vs Q E hr h=>?_)
  ·obtain ⟨xs,css,j,x,p,ps,rfl,_⟩:=h;rfl
  obtain ⟨xs,css,j,x,p,ps,rfl,N,C,hx,D,nt,q⟩:=h;have hu:=fj hr;have hU:=hr.units;have hpn:(ps.map V.ref).length=css.length:=by rw [length_map,D.len,length_map]
  have hcl:=C.ln;have hj:j < xs.length:=(List.getElem?_eq_some_iff.mp hx).1;have hN:=N.al x (mem_of_getElem? hx);have bigT:∀ k:Nat,k <= 10000->k <= sizeLine:=fun k h=>Nat.le_trans h (by decide)
  refine ⟨_,(bb (Gb (i:=2) Wd.nd rfl (Or.inl rfl) (Hd PySem.F.plainAttrs_str PySem.F.slot_str_join PySem.F.type_str_join me Ub (ab (Wc rfl (Tc (pv 1)) (Yb (sc:=yb Cd) rfl (by decide +kernel)) (N:=["row","name"]) (sel:=[none,some 0]) (jc (M:=["name","rows","signs"]) (by decide +kernel)) (Blk.of (fun _ _ _ _=>(Sb (i:=0) (Ye (N:=["row","name"]) (by decide +kernel) rfl) rfl (Or.inl rfl))) (fun _ _ _ _=>⟨_,Ic,by first | rfl | (dsimp only [Cx.block];done) | (dsimp only [Cx.block];exact rfl)⟩) (fun _ _ _ _=>⟨_,(Zg rfl T.vk T.Nk (zi hu (pv 0) (pv 1) (fun _ _=>rfl)) (fun _ _=>rfl)),by first | rfl | (dsimp only [Cx.block];done) | (dsimp only [Cx.block];exact rfl)⟩))) gb)))
   (Eb (Qc (Jb Wb (Jb Wb (Hd PySem.F.plainAttrs_str PySem.F.slot_str_ljust PySem.F.type_str_ljust Pg (pv 0) (ab (jf rfl T.qd T.md) gb)) Ub) (pv 2))))),?_⟩
  simp only [jb];refine zC (fun σ' H'=>Nb H H'/\∃ sg:Str,sg.cps.toList=Ff css j/\σ'=[some (.str x),some (.ref p),some (.str sg)]) (fun D' hD=>?_) fun zM zzh=>?_
  ·walk_at "RD";refine ⟨⟨_,SqL.of D.at_⟩,?_⟩;refine fc.list_zs (xs:=ps.map V.ref) (zs:=Bb (css.map fun cs=>pd (Ie (cs.getD j 0)))) (SqL.of D.at_) (by rw [hpn];exact bigT _ (by omega)) (by unfold Bb;rw [length_map,length_map,hpn]) (fun i v z N' hv hz hN'=>?_) (fun pn hpn'=>?_)
   ·obtain ⟨a,ha,rfl⟩:=Pc hv;obtain ⟨y,hy,rfl⟩:=Pc hz;obtain ⟨cs,hcs,rfl⟩:=Pc hy;obtain ⟨k1,k2⟩:=C.al cs (mem_of_getElem? hcs);have hc:cs[j]? = some (cs[j]'(by omega)):=getElem?_eq_getElem _;have hc4:=k2 _ (mem_of_getElem? hc);rw [getD_eq_getElem?_getD,hc] at hN';generalize cs[j]'(by omega)=c at hc hc4 hN';have rd:=D.al i a (Tb xs cs) ha (by rw [getElem?_map,hcs];rfl);have hg:gj H a (.str x) (some (V.str (yh c))):=.inl ⟨_,Sum.inr x,rd,rfl,(kh N k1 hx hc).symm⟩;walk_at "RD";exact ⟨Sub.name,_,hg,_,rfl,_,Hl hc4,hN'⟩
   ·refine ⟨pn,rfl,css.map fun cs=>pd (Ie (cs.getD j 0)),SqL.of cb,?_,hD _ _ ⟨Cb hpn',_,Be (fun cs:List Nat=>Ie (cs.getD j 0)) css,rfl⟩⟩;rw [dg (fun cs:List Nat=>Ie (cs.getD j 0)),show (Str.ofString "").length=0 by decide +kernel];omega
  rintro σ1 H1 ⟨s1,sg,hsg,rfl⟩;have lj:=vh x (n:=8);have ll:(Txt.ljust x 8).length=8:=by
   show (Txt.ljust x ((8:Nat):Int)).cps.size=8;rw [<- Array.length_toList,lj,length_append,length_replicate,Array.length_toList];have:=hN.1;show x.length + (8 - x.length)=8;omega
  have lsg:sg.length=css.length:=by
   show sg.cps.size=css.length;rw [<- Array.length_toList,hsg];unfold Ff;rw [length_map]
  have lb:(Str.ofString " ").length=1:=by decide +kernel
  subst zzh;walk_at "RD";refine ⟨by decide,bigT _ (by omega),bigT _ (by rw [Hg];omega),?_⟩;rw [Yg (x:=Txt.ljust x 8 ++ Str.ofString " " ++ sg) (l:=Md x j css) ?_]
  ·exact q _ s1
  ·rw [Str.cps_append,Array.toList_append,Str.cps_append,Array.toList_append,hsg,show Txt.ljust x 8=Txt.ljust x ((8:Nat):Int) from rfl,lj,show (Str.ofString " ").cps.toList=List.replicate 1 32 by decide +kernel];unfold Md;rw [List.append_assoc x.cps.toList,List.replicate_append_replicate];have:=hN.1;rw [show 8 - x.length + 1=9 - x.length by omega]
 ·obtain ⟨xs,css,j,x,p,ps,rfl,N,C,hx,D,nt,q⟩:=h;exact ⟨nt,xs,css,j,x,p,ps,rfl,N,C,hx,D,nt,fun H' sm=>⟨sm,q⟩⟩
end
theorem en {n:Nat} (h:n < 10):n.log2 < 1920:=(show ∀ n,n < 10->Nat.log2 n < 1920 by decide) n h
theorem Zj:∀ k:Nat,k < 10->Str.ofString (toString ((k:Nat):Int))=pd (48 + k):=by decide +kernel
noncomputable def Ug:Sp:=fun vs H Q _=>∃ b xs css p ps,vs=[.int b,.ref p]/\Nm xs/\Css xs css/\DL H p ps (css.map (Tb xs))/\NoT H/\∀ q H',Nb H H'->NoT H'->H q=none->H' q=some (.lst (Bb (gg b xs css)))->Q (.ref q) H'
section
variable {P:Program} {w:World} {K:W.Frag} {mg:Str->Option Value} {base:Heap} {t:Adr}
theorem wj (T:Txt w K mg t):Gc P w K mg base CX0 2 t.pf t.Ue q10 Ug:=by
 have g5:Gc P w K mg base CX0 1 t.Hc t.Nc q0 Kh:=Bk T;refine T.lf.ok We (fun vs H Q E h=>?_) (fun _ _ _ s H vs Q E hr h=>?_)
 ·obtain ⟨b,xs,css,p,ps,rfl,_⟩:=h;rfl
 obtain ⟨b,xs,css,p,ps,rfl,N,C,D,nt,q⟩:=h;have hu:=fj hr;have hU:=hr.units;have hpn:(ps.map V.ref).length=css.length:=by rw [length_map,D.len,length_map]
 have hcl:=C.ln;have bigT:∀ k:Nat,k <= 10000->k <= sizeLine:=fun k h=>Nat.le_trans h (by decide)
 refine ⟨_,(bb (Gb (i:=2) We.nd rfl (Or.inl rfl) (Hd PySem.F.plainAttrs_str PySem.F.slot_str_join PySem.F.type_str_join me Ub (ab (Wc rfl (Ac rfl T.vd (ab (gc Vb rfl T.ug bc (ab (pv 1) gb)) gb)) (Yb (sc:=yb mf) rfl (by decide +kernel)) (N:=["step","begin"]) (sel:=[none,some 0]) (jc (M:=q14) (by decide +kernel)) (Blk.of (fun _ _ _ _=>(Sb (i:=0) (Ye (N:=["step","begin"]) (by decide +kernel) rfl) rfl (Or.inl rfl))) (fun _ _ _ _=>⟨_,Ic,by first | rfl | (dsimp only [Cx.block];done) | (dsimp only [Cx.block];exact rfl)⟩) (fun _ _ _ _=>⟨_,(ad zf rfl T.Cn xh (ab (Jb ud (Jb vc (pv 1) (pv 0)) ib) gb)),by first | rfl | (dsimp only [Cx.block];done) | (dsimp only [Cx.block];exact rfl)⟩))) gb)))
   (bb (Gb (i:=3) We.nd rfl (Or.inl rfl) (pe (ab (Jb Wb (Hd PySem.F.plainAttrs_str PySem.F.slot_str_ljust PySem.F.type_str_ljust Pg Ub (ab (jf rfl T.Ph T.li) gb)) (pv 2)) gb)))
   (bb (Ee (Mj (pv 1) (fun _=>rfl)) (Eb (Oc (Hd PySem.F.plainAttrs_list PySem.F.slot_list_extend PySem.F.type_list_extend Fi (pv 3) (ab (Ri (Wc rfl (Em (ye Ud (pv 1) ib (fun _ _=>rfl))) (Yb (sc:=yb mf) rfl (by decide +kernel)) (N:=q0) (sel:=[none,some 1]) (jc (M:=q14) (by decide +kernel)) (Blk.of (fun _ _ _ _=>(Sb (i:=0) (Ye (N:=q0) (by decide +kernel) rfl) rfl (Or.inl rfl))) (fun _ _ _ _=>⟨_,Ic,by first | rfl | (dsimp only [Cx.block];done) | (dsimp only [Cx.block];exact rfl)⟩) (fun _ _ _ _=>⟨_,(Fb g5 hr rfl T.jg T.yd.kp T.Ig .nil kc (ab (pv 0) (ab (pv 1) gb))),by first | rfl | (dsimp only [Cx.block];done) | (dsimp only [Cx.block];exact rfl)⟩)))) gb)))) zc)
   (Eb (Qc (pv 3)))))),?_⟩
 simp only [jb];refine zC (fun σ' H'=>Nb H H'/\NoT H'/\∃ fg:Str,fg.cps.toList=Ym b css.length/\σ'=[some (.int b),some (.ref p),some (.str fg),none]) (fun D' hD=>?_) fun zM zzh=>?_
 ·walk_at "RD";refine ⟨_,.inl (SqL.of D.at_),by omega,by rw [hpn];omega,?_⟩;rw [hpn,Int.toNat_natCast];refine fc.range_map (n:=css.length) (fun i=>V.str (pd (48 + ((b + (i:Int)) % 10).toNat))) (bigT _ (by omega)) (fun i N' hi hN'=>?_) (fun pn hpn'=>?_)
  ·have m1:0 <= (b + (i:Int)) % 10:=Int.emod_nonneg _ (by decide);have m2:(b + (i:Int)) % 10 < 10:=Int.emod_lt_of_pos _ (by decide);have e:=Zj ((b + (i:Int)) % 10).toNat (by omega);rw [Int.toNat_of_nonneg m1] at e;walk_at "RD";refine ⟨Sub.name,by decide,en (by omega),?_⟩;rw [e];exact hN'
  ·have e:(List.range css.length).map (fun i:Nat=>V.str (pd (48 + ((b + (i:Int)) % 10).toNat)))=Bb ((List.range css.length).map fun i:Nat=>pd (48 + ((b + (i:Int)) % 10).toNat)):=by unfold Bb;rw [map_map];rfl
   refine ⟨pn,rfl,(List.range css.length).map fun i:Nat=>pd (48 + ((b + (i:Int)) % 10).toNat),by rw [<- e];exact SqL.of cb,?_,hD _ _ ⟨Cb hpn',nt.upd,_,Be (fun i:Nat=>48 + ((b + (i:Int)) % 10).toNat) (List.range css.length),rfl⟩⟩;rw [dg (fun i:Nat=>48 + ((b + (i:Int)) % 10).toNat),length_range,show (Str.ofString "").length=0 by decide +kernel];omega
 rintro σ1 H1 ⟨s1,n1,fg,hfg,rfl⟩;have lfg:fg.length=css.length:=by
  show fg.cps.size=css.length;rw [<- Array.length_toList,hfg];unfold Ym;rw [length_map,length_range]
 have e9:(Txt.ljust (Str.ofString " ") 9).cps.toList=List.replicate 9 32:=by decide +kernel
 have l9:(Txt.ljust (Str.ofString " ") 9).length=9:=by decide +kernel
 subst zzh;simp only [jb];refine zC (fun σ' H'=>Nb H H'/\NoT H'/\∃ tp,H tp=none/\H' tp=some (.lst (Bb [mkS (ee b css.length)]))/\σ'=[some (.int b),some (.ref p),some (.str fg),some (.ref tp)]) (fun D' hD=>?_) fun zM zzh=>?_
 ·walk_at "RD";refine ⟨by decide,bigT _ (by omega),by decide,fun tp htp=>hD _ _ ⟨s1.trans (Cb htp),n1.upd,tp,s1.free htp,?_,rfl⟩⟩;rw [cb,Yg (x:=Txt.ljust (Str.ofString " ") 9 ++ fg) (l:=ee b css.length) (by rw [Str.cps_append,Array.toList_append,e9,hfg];rfl)];rfl
 rintro σ2 H2 ⟨s2,n2,tp,htp,w2,rfl⟩;subst zzh;simp only [jb];refine zC (fun σ' H'=>Nb H H'/\NoT H'/\H' tp=some (.lst (Bb (gg b xs css)))/\σ'=[some (.int b),some (.ref p),some (.str fg),some (.ref tp)]) (fun D' hD=>?_) fun zM zzh=>?_
 ·refine Fc (decide (css ≠ [])) (fun Q hQ=>?_) (fun zz=>?_) (fun zz=>?_)
  ·walk_at "RD";refine ⟨_,.inl ⟨_,SqL.of (s2 _ _ D.at_),rfl⟩,?_⟩;rw [show (!(ps.map V.ref).isEmpty)=decide (css ≠ []) by
    rw [Bool.eq_iff_iff,Bool.not_eq_true',decide_eq_true_eq,<- Bool.not_eq_true,List.isEmpty_iff,<- List.length_eq_zero_iff,hpn,ne_eq,List.length_eq_zero_iff]]
   exact hQ
  ·have hc:css ≠ []:=of_decide_eq_true zz;have hc0:css[0]? = some (css[0]'(List.length_pos_iff.mpr hc)):=getElem?_eq_getElem _;generalize css[0]'(List.length_pos_iff.mpr hc)=c0 at hc0;obtain ⟨a0,ha0⟩:∃ a,ps[0]? = some a:=⟨_,getElem?_eq_getElem (show 0 < ps.length by rw [D.len,length_map];exact List.length_pos_iff.mpr hc)⟩;have D2:=Vc D s2;have e0:=D2.al 0 a0 (Tb xs c0) ha0 (by rw [getElem?_map,hc0];rfl);have hl0:=(C.al c0 (mem_of_getElem? hc0)).1;have hpa:p ≠ a0:=rf D2.at_ e0 (by intro z;cases z);have htn:tp ≠ a0:=rf w2 e0 (by intro z;cases z);walk_at "RD";refine ⟨.inl ⟨_,SqL.of w2⟩,a0,Tb xs c0,e0,_,SqL.of D2.at_,_,yc (j:=0) (by rw [getElem?_map,ha0];rfl),a0,rfl,Tb xs c0,e0,fun o=>?_⟩;generalize hHf:upd H2 a0 (.frz o (.dK (Tb xs c0)))=Hf;have ef:Hf a0=some (.frz o (.dK (Tb xs c0))):=by rw [<- hHf];exact cb
   have kf:∀ {b:Addr} {u:HO},b ≠ a0->H2 b=some u->Hf b=some u:=fun hb e=>by rw [<- hHf,fb hb];exact e
   have Df:DLr Hf p ps (css.map (Tb xs)):=⟨kf hpa D2.at_,D2.len,fun j a kvs h1 h2=>by
    have e:=D2.al j a kvs h1 h2;by_cases ca:a=a0
    ·rw [ca] at e ⊢;rw [e0] at e;cases e;exact .inr ⟨o,ef⟩
    ·exact .inl (kf ca e)⟩
   have nf:NoT Hf:=by rw [<- hHf];exact n2.upd
   refine fc.of (n:=xs.length) (fun i ys H'=>H'=Hf/\ys=(Bb (xs.mapIdx fun j x=>mkS (Md x j css))).take i) (bigT _ (by have:=N.ln;omega)) ⟨rfl,rfl⟩ (fun i ys H' hi e=>⟨by rw [e.1];exact ef,by rw [Jc hl0];exact hi⟩) (fun ys H' e=>⟨by rw [e.1];exact ef,by rw [Jc hl0];exact Nat.le_refl _⟩) (fun i ys H' hi e=>by rw [e.2,length_take];omega) ?_ ?_
   ·rintro i ys H' v H'' hi ⟨rfl,rfl⟩ ⟨rfl,k,v',hkv,rfl⟩ N' hN';have hx:xs[i]? = some xs[i]:=getElem?_eq_getElem hi;generalize xs[i]=x at hx;have hci:c0[i]? = some (c0[i]'(by omega)):=getElem?_eq_getElem _;rw [af hx hci] at hkv;cases hkv;walk_at "RD";refine ⟨Sub.name,xs,css,i,x,p,ps,rfl,N,C,hx,Df,nf,hN' _ _ ⟨rfl,?_⟩⟩;rw [take_add_one,ge (show (xs.mapIdx fun j x=>mkS (Md x j css))[i]? = some (mkS (Md x i css)) by rw [List.getElem?_mapIdx,hx];rfl)];rfl
   ·rintro ys H' ⟨rfl,rfl⟩ pn hpn';have hna:pn ≠ a0:=fun z=>by rw [z,ef] at hpn';cases hpn'
    rw [take_of_length_le (by rw [Rb,length_mapIdx];exact Nat.le_refl _)];refine ⟨o,by rw [fb (Ne.symm hna)];exact ef,pn,rfl,Bb [mkS (ee b css.length)],?_,_,by rw [fb hna];exact cb,?_,?_⟩
    ·rw [fb htn,fb (fun z=>by rw [<- z,kf htn w2] at hpn';cases hpn')];exact kf htn w2
    ·exact Nat.le_trans (show _ <= 7 by rw [Rb,Rb,length_mapIdx];have:=N.ln;show 1 + xs.length <= 7;omega) (by decide)
    ·have sF:Nb H2 (upd (upd H' pn (.lst (Bb (xs.mapIdx fun j x=>mkS (Md x j css))))) a0 (.dK (Tb xs c0))):=fun b' u e=>by
      by_cases ca:b'=a0
      ·rw [ca,cb];rw [ca,e0] at e;exact e
      ·have:=kf ca e;rw [fb ca,fb (fun z=>by rw [z,hpn'] at this;cases this)];exact this
     refine hD _ _ ⟨(s2.trans sF).updN htp,(nf.upd.upd).upd,?_,rfl⟩;rw [cb,ei];unfold gg;rw [if_neg hc];rfl
  ·simp only [Xb];have hc:css=[]:=by simpa using of_decide_eq_false zz
   refine hD _ _ ⟨s2,n2,?_,rfl⟩;rw [w2];unfold gg;rw [if_pos hc]
 rintro σ3 H3 ⟨s3,n3,w3,rfl⟩;subst zzh;walk_at "RD";exact q tp H3 s3 n3 htp w3
end
theorem wk:∀ {c:Nat},97 <= c->c <= 122->PyProof.Rows.spS ⟨#[c]⟩=false:=fun {c} h1 h2=>(show ∀ c,c < 123->97 <= c->PyProof.Rows.spS ⟨#[c]⟩=false by decide +kernel) c (by omega) h1
theorem pi {x:Str} {l:List Nat} {n:Nat} (e:x.cps.toList=l ++ List.replicate n 32) (h0:1 <= l.length) (al:∀ c ∈ l,97 <= c/\c <= 122):(Txt.rstrip x).cps.toList=l:=by
 have hA:∀ c ∈ x.cps.toList,c < 128:=fun c hc=>by
  rw [e] at hc;rcases List.mem_append.mp hc with z | z
  ·have:=al c z;omega
  ·rw [List.eq_of_mem_replicate z];decide
 have hxl:x.length=l.length + n:=by
  show x.cps.size=_;rw [<- Array.length_toList,e,length_append,length_replicate]
 have gt:∀ k,x.cps.getD k 0=(l ++ List.replicate n 32).getD k 0:=fun k=>by
  rw [<- e,Array.getD_eq_getD_getElem?,getD_eq_getElem?_getD,Array.getElem?_toList]
 have gl:∀ k,k < l.length->PyProof.Rows.spS ⟨#[x.cps.getD k 0]⟩=false:=fun k hk=>by
  rw [gt,getD_eq_getElem?_getD,List.getElem?_append_left hk,getElem?_eq_getElem hk];have:=al _ (List.getElem_mem hk);exact wk this.1 this.2
 have gs:∀ k,l.length <= k->k < l.length + n->PyProof.Rows.spS ⟨#[x.cps.getD k 0]⟩=true:=fun k h1 h2=>by
  rw [gt,getD_eq_getElem?_getD,List.getElem?_append_right h1,List.getElem?_replicate,if_pos (by omega)];decide +kernel
 obtain ⟨hi,a1,a2,a3,a4⟩:=PyProof.Rows.rstrip_cut hA;have hhi:hi=l.length:=by
  rcases Nat.lt_trichotomy hi l.length with z | z | z
  ·have:=a3 (l.length - 1) (by omega) (by omega);rw [gl _ (by omega)] at this;cases this
  ·exact z
  ·rcases a4 with y | y
   ·omega
   ·rw [gs (hi - 1) (by omega) (by omega)] at y;cases y
 rw [a2,hhi];show (x.cps.extract 0 l.length).toList=l;rw [Array.toList_extract,e];simp
noncomputable def fk:Sp:=fun vs H Q _=>∃ b xs css tl,vs=[.ref tl]/\Nm xs/\Css xs css/\css ≠ []/\H tl=some (.lst (Bb (gg b xs css)))/\NoT H/\∀ q qs H',Nb H H'->NoT H'->H q=none->(∀ a ∈ qs,H a=none)->qs.Nodup->DL H' q qs (css.map (Tb xs))->Q (.ref q) H'
section
variable {P:Program} {w:World} {K:W.Frag} {mg:Str->Option Value} {base:Heap} {t:Adr}
theorem Xm (T:Txt w K mg t):Gc P w K mg base CX0 1 t.Nd t.Ld ["texts"] fk:=by
 refine T.Od.ok Bc (fun vs H Q E h=>?_) (fun _ _ _ s H vs Q E hr h=>?_)
 ·obtain ⟨b,xs,css,tl,rfl,_⟩:=h;rfl
 obtain ⟨b,xs,css,tl,rfl,N,C,hc,wt,nt,q⟩:=h;have hu:=fj hr;have hU:=hr.units;have hcl:=C.ln;have hnl:=N.ln;have bigT:∀ k:Nat,k <= 10000->k <= sizeLine:=fun k h=>Nat.le_trans h (by decide)
 have hd:gg b xs css=mkS (ee b css.length) :: xs.mapIdx fun j x=>mkS (Md x j css):=by unfold gg;rw [if_neg hc]
 have lh:(mkS (ee b css.length)).length=9 + css.length:=by
  rw [ii];unfold ee Ym;rw [length_append,length_replicate,length_map,length_range]
 refine ⟨_,(bb (Gb (i:=1) Bc.nd rfl (Or.inl rfl) (pe gb))
   (bb (ae PassesOwn.never rfl (xi rfl T.vd (ab (jf rfl T.Ph T.li) (ab (gc Uf rfl T.ug bc (ab (ye Ud (pv 0) ib (fun _ _=>rfl)) gb)) gb))) (Sb (i:=2) Bc.nd rfl (Or.inl rfl)) (bb (Gb (i:=3) Bc.nd rfl (Or.inl rfl) dh)
   (bb (ae PassesOwn.never rfl (Tc (kd Il (pv 0) (Ed ib) re)) (Sb (i:=4) Bc.nd rfl (Or.inl rfl)) (Eb (bj hu (pv 3) (Lg PySem.F.plainAttrs_str PySem.F.slot_str_rstrip PySem.F.type_str_rstrip Mi (kd Lf (pv 4) re (Ed (jf rfl T.qd T.md)))) (Zg rfl T.ni T.Ai (ye vf (pv 4) (pv 2) (fun _ _=>rfl)) (fun _ _=>rfl)) rfl)))
   (Eb (Oc (Hd PySem.F.plainAttrs_list PySem.F.slot_list_append PySem.F.type_list_append bd (pv 1) (ab (pv 3) gb)))))))
   (Eb (Qc (pv 1))))),?_⟩
 simp only [jb];refine zC (fun σ' H'=>Nb H H'/\NoT H'/\∃ rp,H rp=none/\H' rp=some (.lst [])/\σ'=[some (.ref tl),some (.ref rp),none,none,none]) (fun D' hD=>?_) fun zM zzh=>?_
 ·walk_at "RD";exact ⟨Nat.zero_le _,fun rp hrp=>hD _ _ ⟨Cb hrp,nt.upd,rp,hrp,cb,rfl⟩⟩
 rintro σ1 H1 ⟨s1,n1,rp,hrp,w1,rfl⟩;subst zzh;simp only [jb];refine zC (fun σ' H'=>Nb H H'/\NoT H'/\(∃ qs:List Addr,DL H' rp qs (css.map (Tb xs))/\qs.Nodup/\∀ a ∈ qs,H a=none)/\∃ x2 x3 x4,σ'=[some (.ref tl),some (.ref rp),x2,x3,x4]) (fun D' hD=>?_) fun zM zzh=>?_
 ·walk_at "RD";refine ⟨_,SqL.of (s1 _ _ wt),_,yc (j:=0) (ge (by rw [hd];rfl)),_,rfl,bigT _ (by omega),by decide,by decide,by omega,by omega,?_⟩;rw [lh,show (((9 + css.length:Nat):Int) - 9).toNat=css.length by omega];refine Se.range (fun i σ H'=>Nb H H'/\NoT H'/\(∃ qs:List Addr,DL H' rp qs ((css.take i).map (Tb xs))/\qs.Nodup/\∀ a ∈ qs,H a=none)/\∃ x2 x3 x4,σ=[some (.ref tl),some (.ref rp),x2,x3,x4]) ⟨s1,n1,⟨[],⟨w1,rfl,fun j a kvs h=>by simp at h⟩,List.nodup_nil,fun a h=>by simp at h⟩,_,_,_,rfl⟩ ?_ ?_
  ·rintro i σ H' hi zq;refine zP fun zM zzh=>?_
   obtain ⟨s2,n2,⟨qs,D2,nd2,fr2⟩,x2,x3,x4,rfl⟩:=zq;have hcs:css[i]? = some css[i]:=getElem?_eq_getElem hi;subst zzh;generalize css[i]=cs at hcs;obtain ⟨k1,k2⟩:=C.al cs (mem_of_getElem? hcs);have hqn:qs.length=i:=by rw [D2.len,length_map,length_take];omega
   simp only [gd,jb,set_cons_succ,set_cons_zero];refine zC (fun σ' H3=>Nb H' H3/\NoT H3/\∃ dp,H' dp=none/\H3 dp=some (.dK [])/\σ'=[some (.ref tl),some (.ref rp),some (.int (9 + (i:Int))),some (.ref dp),x4]) (fun D3 hD3=>?_) fun zM zzh=>?_
   ·walk_at "RD";exact fun dp hdp=>hD3 _ _ ⟨Cb hdp,n2.upd,dp,hdp,cb,rfl⟩
   rintro σ3 H3 ⟨s3,n3,dp,hdp,w3,rfl⟩;subst zzh;simp only [jb];refine zC (fun σ' H4=>Nb H' H4/\NoT H4/\H4 dp=some (.dK (Tb xs cs))/\∃ x4,σ'=[some (.ref tl),some (.ref rp),some (.int (9 + (i:Int))),some (.ref dp),x4]) (fun D3 hD3=>?_) fun zM zzh=>?_
   ·walk_at "RD";refine ⟨_,SqL.of ((s2.trans s3) _ _ wt),fun lp hlp=>⟨⟨_,SqL.of cb⟩,?_⟩⟩;rw [hd,show Bb (mkS (ee b css.length) :: xs.mapIdx fun j x=>mkS (Md x j css))=.str (mkS (ee b css.length)) :: Bb (xs.mapIdx fun j x=>mkS (Md x j css)) from rfl,Vj];generalize hHb:upd H3 lp (.lst (Bb (xs.mapIdx fun j x=>mkS (Md x j css))))=Hb;have eb:Hb lp=some (.lst (Bb (xs.mapIdx fun j x=>mkS (Md x j css)))):=by rw [<- hHb];exact cb
    have sb:Nb H3 Hb:=by rw [<- hHb];exact Cb hlp
    have nb:NoT Hb:=by rw [<- hHb];exact n3.upd
    have hld:lp ≠ dp:=fun z=>by rw [z,w3] at hlp;cases hlp
    refine Se.list (xs:=Bb (xs.mapIdx fun j x=>mkS (Md x j css))) (fun k σ H5=>(∀ b,b ≠ dp->H5 b=Hb b)/\NoT H5/\H5 dp=some (.dK ((Tb xs cs).take k))/\∃ y,σ=[some (.ref tl),some (.ref rp),some (.int (9 + (i:Int))),some (.ref dp),y]) ⟨fun _ _=>rfl,nb,sb _ _ w3,_,rfl⟩ (fun k σ H5 hk e=>SqL.of (by rw [e.1 lp hld];exact eb)) ?_ ?_
    ·rintro k v σ H5 hv zq;refine zP fun zM zzh=>?_
     obtain ⟨o5,n5,w5,y,rfl⟩:=zq;obtain ⟨tx,htx,rfl⟩:=Pc (show ((xs.mapIdx fun j x=>mkS (Md x j css)).map V.str)[k]? = some v from hv);subst zzh;rw [List.getElem?_mapIdx] at htx;cases hx:xs[k]? with
     | none=>rw [hx] at htx;cases htx
     | some x=>
     rw [hx] at htx;cases htx;have hN:=N.al x (mem_of_getElem? hx);have hkl:k < xs.length:=(List.getElem?_eq_some_iff.mp hx).1;have hck:cs[k]? = some (cs[k]'(by omega)):=getElem?_eq_getElem _;have hc4:=k2 _ (mem_of_getElem? hck);generalize cs[k]'(by omega)=c at hck hc4;have wl:=Kj hN.1.2 k css;have tl8:(Txt.slice (mkS (Md x k css)) none (some 8)).cps.toList=x.cps.toList ++ List.replicate (8 - x.length) 32:=by
      have:=je (mkS (Md x k css)) (b:=8) (by rw [qf,wl];omega);rw [qf,Ji hN.1.2] at this;exact this
     have rs:Txt.rstrip (Txt.slice (mkS (Md x k css)) none (some 8))=x:=cj (pi tl8 (by rw [Array.length_toList];exact hN.1.1) hN.2);have ls:=Txt.slice_le (mkS (Md x k css)) none (some 8);have lw:(mkS (Md x k css)).length=9 + css.length:=by rw [ii,wl]
     walk_at "RD";refine ⟨bigT _ (by omega),_,?_,_,el hc4,bigT _ (by omega),bigT _ (by omega),_,by rw [rs];exact Xj.k (k:=Sum.inr x) w5 (Nat.lt_of_le_of_lt (show _ <= 6 by rw [length_take,Jc k1];omega) (by decide)),fun b' hb=>by rw [fb hb];exact o5 b' hb,n5.upd,by rw [cb,qj N k1 hx hck],_,rfl⟩;rw [qf,show (9:Int) + (i:Int)=((9 + i:Nat):Int) by omega];exact yc (nl hN.1.2 hcs hck)
    ·rintro σ H5 zq;refine zP fun zM zzh=>?_
     obtain ⟨o5,n5,w5,y,rfl⟩:=zq;subst zzh;rw [Rb,length_mapIdx,take_of_length_le (by rw [Jc k1];exact Nat.le_refl _)] at w5;exact hD3 _ _ ⟨fun b' u e=>by
      have hb:b' ≠ dp:=fun z=>by rw [z,hdp] at e;cases e
      rw [o5 b' hb];exact sb _ _ (s3 _ _ e),n5,w5,_,rfl⟩
   rintro σ4 H4 ⟨s4,n4,w4,x4',rfl⟩;have rp4:=s4 _ _ D2.at_;have hdr:rp ≠ dp:=fun z=>by rw [<- z,D2.at_] at hdp;cases hdp
   subst zzh;walk_at "RD";refine ⟨.inl ⟨_,SqL.of rp4⟩,_,rp4,Nat.lt_of_le_of_lt (show _ <= 300 by rw [length_map,hqn];omega) (by decide),(s2.trans s4).updN hrp,n4.upd,⟨qs ++ [dp],⟨by rw [cb,map_append];rfl,by rw [length_append,hqn,length_map,length_take];show i + 1=_;omega,fun j a kvs h1 h2=>?_⟩,?_,fun a ha=>?_⟩,?_⟩
   ·rw [cf (Tb xs) hcs] at h2;have hlm:((css.take i).map (Tb xs)).length=i:=by rw [length_map,length_take];omega
    rcases Qd h1 with ⟨z1,z2⟩ | ⟨z1,rfl⟩
    ·rcases Qd h2 with ⟨y1,y2⟩ | ⟨y1,_⟩
     ·have e:=s4 _ _ (D2.al j a kvs z2 y2);rw [fb (rf e rp4 (by intro z;cases z))];exact e
     ·omega
    ·rcases Qd h2 with ⟨y1,_⟩ | ⟨_,rfl⟩
     ·omega
     ·rw [fb (Ne.symm hdr)];exact w4
   ·refine List.nodup_append.mpr ⟨nd2,List.nodup_cons.mpr ⟨by simp,List.nodup_nil⟩,fun a ha b' hb' e=>?_⟩;rw [List.mem_singleton.mp hb'] at e;obtain ⟨j,hj⟩:=List.getElem?_of_mem ha;have hjl:j < ((css.take i).map (Tb xs)).length:=by rw [<- D2.len];exact (List.getElem?_eq_some_iff.mp hj).1
    have:=D2.al j a _ hj (getElem?_eq_getElem hjl);rw [e,hdp] at this;cases this
   ·rcases List.mem_append.mp ha with z | z
    ·exact fr2 a z
    ·rw [List.mem_singleton.mp z];exact s2.free hdp
   ·exact ⟨_,rfl⟩
  ·rintro σ H' zq;refine zP fun zM zzh=>?_
   obtain ⟨s2,n2,⟨qs,D2,nd2,fr2⟩,x2,x3,x4,rfl⟩:=zq;subst zzh;rw [List.take_length] at D2;exact hD _ _ ⟨s2,n2,⟨qs,D2,nd2,fr2⟩,_,_,_,rfl⟩
 rintro σ2 H2 ⟨s2,n2,⟨qs,D2,nd2,fr2⟩,x2,x3,x4,rfl⟩;subst zzh;walk_at "RD";exact q rp qs H2 s2 n2 hrp fr2 nd2 D2
end
end My
namespace My
open PySem L2
theorem dk {i:Int} (h0:0 <= i) (h1:i < 26):∃ c:Nat,atI (Str.ofString "abcdefghijklmnopqrstuvwxyz").cps.toList i=some c/\c=97 + i.toNat:=by
 have:∀ k,k < 26->atI (Str.ofString "abcdefghijklmnopqrstuvwxyz").cps.toList ((k:Nat):Int)=some (97 + k):=by decide +kernel
 refine ⟨97 + i.toNat,?_,rfl⟩;have e:=this i.toNat (by omega);rwa [Int.toNat_of_nonneg h0] at e
theorem Hh (x:Str) {a b:Nat} (hab:a <= b) (hb:b <= x.cps.toList.length):(Txt.slice x (some (a:Int)) (some (b:Int))).cps.toList=(x.cps.toList.drop a).take (b - a):=by
 have hx:x.length=x.cps.toList.length:=by simp [Str.length]
 have e:=StrLaws.sliceText_nat x hab (by rw [hx];exact hb);rw [show Txt.slice x (some (a:Int)) (some (b:Int))=StrLaws.sliceText x (some (a:Int)) (some (b:Int)) from rfl,e]
noncomputable def nmB (l:List Nat) (k:Nat):List Nat:=l.take (k + 1)
noncomputable def nmD (l:List Nat) (a z f k:Nat):List Nat:=l.take a ++ [97 + (f + 7 * k) % 26] ++ (l.drop (a + 1)).take (z - (a + 1))
theorem Jk {l:List Nat} (hl:l.length=8) {a z f i j:Nat} (ha:a < 8) (hi:i < 6) (hj:j < 6) (e:nmD l a z f i=nmD l a z f j):i=j:=by
 have h1:∀ k,(nmD l a z f k)[a]? = some (97 + (f + 7 * k) % 26):=fun k=>by
  unfold nmD;rw [List.append_assoc,List.getElem?_append_right (by rw [length_take];omega),length_take,show a - min a l.length=0 by omega];rfl
 have h2:=h1 i;rw [e,h1 j] at h2;have:=Option.some.inj h2;omega
theorem Nm.of {g:Nat->List Nat} {m:Nat} {xs:List Str} (hm:1 <= m/\m <= 6) (hxs:xs.map (·.cps.toList)=(List.range m).map g) (ok:∀ k,k < m->(1 <= (g k).length/\(g k).length <= 8)/\∀ c ∈ g k,97 <= c/\c <= 122) (inj:∀ i j,i < m->j < m->g i=g j->i=j):Nm xs/\Nm xs.reverse:=by
 have hxl:xs.length=m:=by have:=congrArg List.length hxs;rwa [length_map,length_map,length_range] at this
 have hat:∀ (i:Nat) (x:Str),xs[i]? = some x->i < m/\x.cps.toList=g i:=fun i x hx=>by
  have hi:i < m:=by rw [<- hxl];exact (List.getElem?_eq_some_iff.mp hx).1
  have e:=congrArg (fun l=>l[i]?) hxs
  try dsimp only at e
  rw [getElem?_map,hx,getElem?_map,List.getElem?_range hi] at e;exact ⟨hi,Option.some.inj e⟩
 have nd:xs.Nodup:=List.pairwise_iff_getElem.mpr fun i j hi hj hij e=>by
  obtain ⟨a1,a2⟩:=hat i _ (getElem?_eq_getElem hi);obtain ⟨b1,b2⟩:=hat j _ (getElem?_eq_getElem hj);rw [e,b2] at a2;have:=inj i j a1 b1 a2.symm;omega
 have al:∀ x ∈ xs,(1 <= x.length/\x.length <= 8)/\∀ c ∈ x.cps.toList,97 <= c/\c <= 122:=fun x hx=>by
  obtain ⟨i,hi⟩:=List.getElem?_of_mem hx;obtain ⟨a1,a2⟩:=hat i x hi;have:=ok i a1;rw [<- a2,Array.length_toList] at this;exact this
 exact ⟨⟨by omega,nd,al⟩,⟨by rw [List.length_reverse];omega,(List.reverse_perm xs).nodup_iff.mpr nd,fun x hx=>al x (List.mem_reverse.mp hx)⟩⟩
noncomputable def Qf (K:W.Frag) (a:Addr) (ns:List Int):Sp:=fun vs H Q _=>∃ m:Nat,vs=[.ref a,.int m]/\Sc K a ns H/\(1 <= m/\m <= 6)/\∀ p xs H',Nb H H'->Sc K a ns H'->H p=none->H' p=some (.lst (Bb xs))->Nm xs->Q (.ref p) H'
section
variable {P:Program} {w:World} {K:W.Frag} {mg:Str->Option Value} {base:Heap} {t:Adr}
theorem Th (T:Txt w K mg t) (a:Addr) (ns:List Int) (h63:ns.length <= 63):Gc P w K mg base CX0 2 t.xc t.wc q11 (Qf K a ns):=by
 have g0:Gc P w K mg base CX0 1 t.ac t.cc q5 (Lb K a ns):=zg T a ns h63;refine T.Yc.ok zb (fun vs H Q E h=>?_) (fun _ _ _ s H vs Q E hr h=>?_)
 ·obtain ⟨m,rfl,_⟩:=h;rfl
 obtain ⟨m,rfl,S,hm,q⟩:=h;have hL:(Str.ofString "abcdefghijklmnopqrstuvwxyz").length=26:=by decide +kernel
 refine ⟨_,(bb (Gb (i:=2) zb.nd rfl (Or.inr rfl) Ub)
   (bb (Gb (i:=3) zb.nd rfl (Or.inl rfl) (Hd PySem.F.plainAttrs_str PySem.F.slot_str_join PySem.F.type_str_join me Ub (ab (Wc rfl (Ac rfl T.vd (ab ib gb)) (Yb (sc:=yb Rc) rfl (by decide +kernel)) (N:=["_law_k","_law_letters","_law_script"]) (sel:=[none,some 2,some 0]) (jc (M:=["_law_script","_law_many","_law_letters","_law_word","_law_size","_law_at","_law_first","_law_some","_law_k","_law_name","_law_sign_here"]) (by decide +kernel)) (Blk.of (fun _ _ _ _=>(Sb (i:=0) (Ye (N:=["_law_k","_law_letters","_law_script"]) (by decide +kernel) rfl) rfl (Or.inl rfl))) (fun _ _ _ _=>⟨_,Ic,by first | rfl | (dsimp only [Cx.block];done) | (dsimp only [Cx.block];exact rfl)⟩) (fun _ _ _ _=>⟨_,(ye vf (pv 1) (Fb g0 hr rfl T.xb T.pb.kp T.wb .nil kc (ab (pv 2) (ab (Jb vc ib (pv 0)) (ab ib gb)))) (fun _ _=>rfl)),by first | rfl | (dsimp only [Cx.block];done) | (dsimp only [Cx.block];exact rfl)⟩))) gb)))
   (bb (Gb (i:=4) zb.nd rfl (Or.inl rfl) (Jb vc ib (Fb g0 hr rfl T.xb T.pb.kp T.wb .nil kc (ab (pv 0) (ab ib (ab ib gb))))))
   (bb (Gb (i:=5) zb.nd rfl (Or.inl rfl) (Fb g0 hr rfl T.xb T.pb.kp T.wb .nil kc (ab (pv 0) (ab ib (ab (pv 4) gb)))))
   (bb (Gb (i:=6) zb.nd rfl (Or.inl rfl) (Fb g0 hr rfl T.xb T.pb.kp T.wb .nil kc (ab (pv 0) (ab ib (ab ib gb)))))
   (bb (Gb (i:=7) zb.nd rfl (Or.inl rfl) (pe gb))
   (bb (ae PassesOwn.never rfl (Ac rfl T.vd (ab (pv 1) gb)) (Sb (i:=8) zb.nd rfl (Or.inl rfl)) (bb (Gb (i:=9) zb.nd rfl (Or.inl rfl) (kd Lf (pv 3) re (Ed (Jb vc (pv 8) ib))))
   (bb (Ee (Zb oh (Fb g0 hr rfl T.xb T.pb.kp T.wb .nil kc (ab (pv 0) (ab ib (ab ib gb)))) ib (ic _)) (bb (Gb (i:=10) zb.nd rfl (Or.inl rfl) (ye vf (pv 2) (Jb ud (Jb vc (pv 6) (Jb Me ib (pv 8))) ib) (fun _ _=>rfl)))
   (Eb (Gb (i:=9) zb.nd rfl (Or.inl rfl) (Jb Wb (Jb Wb (kd Lf (pv 3) re (Ed (pv 5))) (pv 10)) (kd Lf (pv 3) (Ed (Jb vc (pv 5) ib)) (Ed (pv 4))))))) zc)
   (Eb (Oc (Hd PySem.F.plainAttrs_list PySem.F.slot_list_append PySem.F.type_list_append bd (pv 7) (ab (pv 9) gb)))))))
   (bb (Ee (Zb oh (Fb g0 hr rfl T.xb T.pb.kp T.wb .nil kc (ab (pv 0) (ab ib (ab ib gb)))) ib (ic _)) (Eb (Oc (Lg PySem.F.plainAttrs_list PySem.F.slot_list_reverse PySem.F.type_list_reverse Ch (pv 7)))) zc)
   (Eb (Qc (pv 7))))))))))),?_⟩
 simp only [jb];refine zC (fun σ' H'=>H'=H/\σ'=[some (.ref a),some (.int m),some (.str (Str.ofString "abcdefghijklmnopqrstuvwxyz")),none,none,none,none,none,none,none,none]) (fun D' hD=>?_) fun zM zzh=>?_
 ·walk_at "RD";exact hD _ _ ⟨rfl,rfl⟩
 rintro σ1 H1 ⟨rfl,rfl⟩;subst zzh;simp only [jb];refine zC (fun σ' H'=>Nb H1 H'/\Sc K a ns H'/\∃ wd:Str,wd.cps.toList.length=8/\(∀ c ∈ wd.cps.toList,97 <= c/\c <= 122)/\σ'=[some (.ref a),some (.int m),some (.str (Str.ofString "abcdefghijklmnopqrstuvwxyz")),some (.str wd),none,none,none,none,none,none,none]) (fun D' hD=>?_) fun zM zzh=>?_
 ·walk_at "RD";refine ⟨by decide,by decide,?_⟩;refine fc.range_map (n:=8) (fun i=>V.str (pd (97 + (fe ns (100 + (i:Int)) 26).toNat))) (by decide) (fun i N hi hN=>?_) (fun p hp=>?_)
  ·have d1:=uc ns (100 + (i:Int)) (m:=26) (by decide);have d2:=nc ns (100 + (i:Int)) (m:=26) (by decide);obtain ⟨c,hc,rfl⟩:=dk d1 d2;(walk_at "RD"; repeat (simp only [Lb];walk_at "RD"));exact ⟨Sub.name,S,by omega,by omega,by decide,by rw [hL];decide,_,hc,hN⟩
  ·have e:(List.range 8).map (fun i:Nat=>V.str (pd (97 + (fe ns (100 + (i:Int)) 26).toNat)))=Bb ((List.range 8).map fun i:Nat=>pd (97 + (fe ns (100 + (i:Int)) 26).toNat)):=by unfold Bb;rw [map_map];rfl
   refine ⟨p,rfl,(List.range 8).map fun i:Nat=>pd (97 + (fe ns (100 + (i:Int)) 26).toNat),by rw [<- e];exact SqL.of cb,?_,?_⟩
   ·rw [dg (fun i:Nat=>97 + (fe ns (100 + (i:Int)) 26).toNat),length_range,show (Str.ofString "").length=0 by decide +kernel,Nat.mul_zero];decide
   ·have ej:=Be (fun i:Nat=>97 + (fe ns (100 + (i:Int)) 26).toNat) (List.range 8);refine hD _ _ ⟨Cb hp,S.new hp,_,by rw [ej,length_map,length_range],fun c hc=>?_,rfl⟩;rw [ej] at hc;obtain ⟨i,_,rfl⟩:=List.mem_map.mp hc;have d1:=uc ns (100 + (i:Int)) (m:=26) (by decide);have d2:=nc ns (100 + (i:Int)) (m:=26) (by decide);omega
 rintro σ2 H2 ⟨s2,S2,wd,hwl,hwa,rfl⟩;have hwn:wd.length=8:=by
  have:wd.length=wd.cps.toList.length:=by simp [Str.length]
  omega
 have z1:=uc ns 112 (m:=8) (by decide);have z2:=nc ns 112 (m:=8) (by decide);obtain ⟨z,hz⟩:∃ z:Nat,1 + fe ns 112 8=(z:Int):=⟨(1 + fe ns 112 8).toNat,(Int.toNat_of_nonneg (by omega)).symm⟩;have a1:=uc ns 113 (m:=(z:Int)) (by omega);have a2:=nc ns 113 (m:=(z:Int)) (by omega);obtain ⟨at_,hat⟩:∃ z':Nat,fe ns 113 (z:Int)=(z':Int):=⟨_,(Int.toNat_of_nonneg a1).symm⟩;have f1:=uc ns 114 (m:=26) (by decide);have f2:=nc ns 114 (m:=26) (by decide);obtain ⟨f,hf⟩:∃ z':Nat,fe ns 114 26=(z':Int):=⟨_,(Int.toNat_of_nonneg f1).symm⟩;subst zzh;simp only [jb];refine zC (fun σ' H'=>H'=H2/\σ'=[some (.ref a),some (.int m),some (.str (Str.ofString "abcdefghijklmnopqrstuvwxyz")),some (.str wd),some (.int z),none,none,none,none,none,none]) (fun D' hD=>?_) fun zM zzh=>?_
 ·(walk_at "RD"; repeat (simp only [Lb];walk_at "RD"));refine ⟨S2,by decide,by decide,by decide,?_⟩;rw [hz];exact hD _ _ ⟨rfl,rfl⟩
 rintro σ3 H3 ⟨rfl,rfl⟩;subst zzh;simp only [jb];refine zC (fun σ' H'=>H'=H3/\σ'=[some (.ref a),some (.int m),some (.str (Str.ofString "abcdefghijklmnopqrstuvwxyz")),some (.str wd),some (.int z),some (.int at_),none,none,none,none,none]) (fun D' hD=>?_) fun zM zzh=>?_
 ·(walk_at "RD"; repeat (simp only [Lb];walk_at "RD"));refine ⟨S2,by decide,by decide,by omega,?_⟩;rw [hat];exact hD _ _ ⟨rfl,rfl⟩
 rintro σ3 H3 ⟨rfl,rfl⟩;subst zzh;simp only [jb];refine zC (fun σ' H'=>H'=H3/\σ'=[some (.ref a),some (.int m),some (.str (Str.ofString "abcdefghijklmnopqrstuvwxyz")),some (.str wd),some (.int z),some (.int at_),some (.int f),none,none,none,none]) (fun D' hD=>?_) fun zM zzh=>?_
 ·(walk_at "RD"; repeat (simp only [Lb];walk_at "RD"));refine ⟨S2,by decide,by decide,by decide,?_⟩;rw [hf];exact hD _ _ ⟨rfl,rfl⟩
 rintro σ3 H3 ⟨rfl,rfl⟩;subst zzh;simp only [jb];refine zC (fun σ' H'=>Nb H3 H'/\Sc K a ns H'/\∃ rl,H3 rl=none/\H' rl=some (.lst (Bb []))/\σ'=[some (.ref a),some (.int m),some (.str (Str.ofString "abcdefghijklmnopqrstuvwxyz")),some (.str wd),some (.int z),some (.int at_),some (.int f),some (.ref rl),none,none,none]) (fun D' hD=>?_) fun zM zzh=>?_
 ·walk_at "RD";exact ⟨Nat.zero_le _,fun rl hrl=>hD _ _ ⟨Cb hrl,S2.new hrl,rl,hrl,cb,rfl⟩⟩
 rintro σ4 H4 ⟨s4,S4,rl,hrl,w4,rfl⟩;have w0:=uc ns 110 (m:=2) (by decide);have w1:=nc ns 110 (m:=2) (by decide);subst zzh;generalize hway:fe ns 110 2=way at w0 w1;obtain ⟨g,hg⟩:∃ g:Nat->List Nat,g=fun k=>if way=1 then nmD wd.cps.toList at_ z f k else nmB wd.cps.toList k:=⟨_,rfl⟩
 simp only [jb];refine zC (fun σ' H'=>Nb H3 H'/\Sc K a ns H'/\(∃ xs:List Str,H' rl=some (.lst (Bb xs))/\xs.map (·.cps.toList)=(List.range m).map g)/\∃ x8 x9 x10,σ'=[some (.ref a),some (.int m),some (.str (Str.ofString "abcdefghijklmnopqrstuvwxyz")),some (.str wd),some (.int z),some (.int at_),some (.int f),some (.ref rl),x8,x9,x10]) (fun D' hD=>?_) fun zM zzh=>?_
 ·walk_at "RD";refine ⟨by omega,by omega,?_⟩;rw [Int.toNat_natCast];refine Se.range (fun i σ H'=>Nb H3 H'/\Sc K a ns H'/\(∃ xs:List Str,H' rl=some (.lst (Bb xs))/\xs.map (·.cps.toList)=(List.range i).map g)/\∃ x8 x9 x10,σ=[some (.ref a),some (.int m),some (.str (Str.ofString "abcdefghijklmnopqrstuvwxyz")),some (.str wd),some (.int z),some (.int at_),some (.int f),some (.ref rl),x8,x9,x10]) ⟨s4,S4,⟨[],w4,rfl⟩,_,_,_,rfl⟩ ?_ ?_
  ·rintro k σ H' hk zq;refine zP fun zM zzh=>?_
   obtain ⟨s5,S5,⟨xs,w5,hxs⟩,x8,x9,x10,rfl⟩:=zq;have hxl:xs.length=k:=by have:=congrArg List.length hxs;rwa [length_map,length_map,length_range] at this
   subst zzh;simp only [gd,jb,set_cons_succ,set_cons_zero,Int.zero_add];refine zC (fun σ' H2=>H2=H'/\∃ nm:Str,nm.cps.toList=nmB wd.cps.toList k/\σ'=[some (.ref a),some (.int m),some (.str (Str.ofString "abcdefghijklmnopqrstuvwxyz")),some (.str wd),some (.int z),some (.int at_),some (.int f),some (.ref rl),some (.int (k:Nat)),some (.str nm),x10]) (fun D2 hD2=>?_) fun zM zzh=>?_
   ·walk_at "RD";refine ⟨by rw [hwn];decide,hD2 _ _ ⟨rfl,_,?_,rfl⟩⟩;rw [show ((k:Int) + 1)=((k + 1:Nat):Int) by omega,je wd (by omega)];rfl
   rintro σ6 H6 ⟨rfl,nm,hnm,rfl⟩;subst zzh;simp only [jb];refine zC (fun σ' H2=>H2=H6/\∃ nm:Str,nm.cps.toList=g k/\∃ x10,σ'=[some (.ref a),some (.int m),some (.str (Str.ofString "abcdefghijklmnopqrstuvwxyz")),some (.str wd),some (.int z),some (.int at_),some (.int f),some (.ref rl),some (.int (k:Nat)),some (.str nm),x10]) (fun D2 hD2=>?_) fun zM zzh=>?_
   ·refine Fc (decide (way=1)) (fun Q hQ=>?_) (fun zz=>?_) (fun zz=>?_)
    ·(walk_at "RD"; repeat (simp only [Lb];walk_at "RD"));refine ⟨S5,by decide,by decide,by decide,?_⟩;rw [hway];exact hQ
    ·have hgk:g k=nmD wd.cps.toList at_ z f k:=by rw [hg];exact if_pos (of_decide_eq_true zz)
     obtain ⟨c,hc,hcc⟩:=dk (i:=((f:Int) + 7 * (k:Int)) % 26) (Int.emod_nonneg _ (by decide)) (Int.emod_lt_of_pos _ (by decide));have ecc:(((f:Int) + 7 * (k:Int)) % 26).toNat=(f + 7 * k) % 26:=by omega
     rw [ecc] at hcc;have l1:=Txt.slice_le wd none (some (at_:Int));have l2:=Txt.slice_le wd (some ((at_:Int) + 1)) (some (z:Int));have bigT:∀ k:Nat,k <= 1000->k <= sizeLine:=fun k h=>Nat.le_trans h (by decide)
     have l3:(pd c).length=1:=rfl;walk_at "RD";refine ⟨.inl (by decide),by decide,by rw [hL];decide,_,hc,by rw [hwn];decide,bigT _ (by show _ + 1 <= 1000;omega),by rw [hwn];decide,bigT _ (by rw [Hg];show _ + 1 + _ <= 1000;omega),hD2 _ _ ⟨rfl,_,?_,_,rfl⟩⟩;rw [hgk,Str.cps_append,Array.toList_append,Str.cps_append,Array.toList_append,je wd (by omega),show ((at_:Int) + 1)=((at_ + 1:Nat):Int) by omega,Hh wd (by omega) (by omega),hcc];rfl
    ·simp only [Xb];exact hD2 _ _ ⟨rfl,nm,by rw [hnm,hg];exact (if_neg (of_decide_eq_false zz)).symm,_,rfl⟩
   rintro σ7 H7 ⟨rfl,nm',hnm',x10',rfl⟩;subst zzh;walk_at "RD";refine ⟨.inl ⟨_,SqL.of w5⟩,_,w5,Nat.lt_of_le_of_lt (show _ <= 6 by rw [Rb,hxl];omega) (by decide),s5.updN hrl,S5.set w5 (fun _ _ z=>by cases z),⟨xs ++ [nm'],by rw [cb,Ge],by rw [map_append,hxs,List.range_succ,map_append,map_cons,map_nil,hnm'];rfl⟩,_,rfl⟩
  ·rintro σ H' zq;refine zP fun zM zzh=>?_
   obtain ⟨s5,S5,h5,x8,x9,x10,rfl⟩:=zq;subst zzh;exact hD _ _ ⟨s5,S5,h5,_,_,_,rfl⟩
 rintro σ5 H5 ⟨s5,S5,⟨xs,w5,hxs⟩,x8,x9,x10,rfl⟩;have NN:=Nm.of hm hxs (fun k hk=>by
  rw [hg];dsimp only;have ha:at_ < z:=by omega
  split
  ·unfold nmD;refine ⟨by rw [length_append,length_append,length_take,length_take,List.length_drop,hwl];show 1 <= _ + 1 + _/\_ + 1 + _ <= 8;omega,fun c hc=>?_⟩;rcases List.mem_append.mp hc with y | y
   ·rcases List.mem_append.mp y with y | y
    ·exact hwa c (List.mem_of_mem_take y)
    ·rw [List.mem_singleton.mp y];omega
   ·exact hwa c (List.mem_of_mem_drop (List.mem_of_mem_take y))
  ·unfold nmB;exact ⟨by rw [length_take,hwl];omega,fun c hc=>hwa c (List.mem_of_mem_take hc)⟩) (fun i j hi hj e=>by
  rw [hg] at e;dsimp only at e;by_cases c1:way=1
  ·rw [if_pos c1,if_pos c1] at e;exact Jk hwl (by omega) (by omega) (by omega) e
  ·rw [if_neg c1,if_neg c1] at e;have:=congrArg List.length e;unfold nmB at this;rw [length_take,length_take,hwl] at this
   omega)
 subst zzh;simp only [jb];refine zC (fun σ' H'=>Nb H3 H'/\Sc K a ns H'/\(∃ xs:List Str,H' rl=some (.lst (Bb xs))/\Nm xs)/\σ'=[some (.ref a),some (.int m),some (.str (Str.ofString "abcdefghijklmnopqrstuvwxyz")),some (.str wd),some (.int z),some (.int at_),some (.int f),some (.ref rl),x8,x9,x10]) (fun D' hD=>?_) fun zM zzh=>?_
 ·refine Fc (decide (fe ns 111 2=1)) (fun Q hQ=>?_) (fun zz=>?_) (fun zz=>?_)
  ·(walk_at "RD"; repeat (simp only [Lb];walk_at "RD"));exact ⟨S5,by decide,by decide,by decide,hQ⟩
  ·walk_at "RD";refine ⟨.inl ⟨_,SqL.of w5⟩,_,w5,hD _ _ ⟨s5.updN hrl,S5.set w5 (fun _ _ z=>by cases z),⟨xs.reverse,?_,NN.2⟩,rfl⟩⟩;rw [cb];unfold Bb;rw [List.map_reverse]
  ·simp only [Xb];exact hD _ _ ⟨s5,S5,⟨xs,w5,NN.1⟩,rfl⟩
 rintro σ6 H6 ⟨s6,S6,⟨ys,w6,N6⟩,rfl⟩;subst zzh;walk_at "RD";exact q rl ys H6 (s2.trans s6) S6 (s2.free hrl) w6 N6
end
end My
namespace My
open PySem L2
theorem Ih {xs:List Str} (N:Nm xs) {n c:Nat} {cs:List Nat} {x:Str} (hl:cs.length=n) (hx:xs[n]? = some x):ig (Tb (xs.take n) cs) (Sum.inr x) (V.str (yh c))=Tb (xs.take (n + 1)) (cs ++ [c]):=by
 have hn:=(List.getElem?_eq_some_iff.mp hx).1;have hlt:(xs.take n).length=n:=by rw [length_take];omega
 unfold ig;rw [if_neg,take_add_one,hx]
 ·unfold Tb;rw [List.zipWith_append (by rw [hlt,hl])];rfl
 ·intro z;obtain ⟨kv,hkv,e⟩:=List.any_eq_true.mp z;have e:kv.1=Sum.inr x:=of_decide_eq_true e;have hk:kv.1 ∈ (Tb (xs.take n) cs).map (·.1):=List.mem_map.mpr ⟨kv,hkv,rfl⟩;rw [Gd (by rw [hlt,hl]),e] at hk;obtain ⟨y,hy,ey⟩:=List.mem_map.mp hk;have ey:y=x:=Sum.inr.inj ey;subst ey;obtain ⟨i,hi,e2⟩:=List.getElem_of_mem hy;rw [hlt] at hi;rw [List.getElem_take] at e2;have:=(List.getElem_inj N.nd).mp (e2.trans (List.getElem?_eq_some_iff.mp hx).2.symm);omega
noncomputable def Gn:List Str:=[Str.ofString "stop",Str.ofString "ready",Str.ofString "free",Str.ofString "fade"]
theorem Wm:∀ c,c < 4->Gn[c]? = some (yh c)/\(∀ m,m < c->Gn[m]? ≠ some (yh c))/\atI (Str.ofString ".:|~").cps.toList (c:Int)=some (Ie c):=by decide +kernel
theorem wo:∀ {c:Nat},c < 4->atI [V.str (Str.ofString "stop"),V.str (Str.ofString "ready"),V.str (Str.ofString "free"),V.str (Str.ofString "fade")] (c:Int)=some (.str (yh c))
 | 0,_=>yc (j:=0) rfl
 | 1,_=>yc (j:=1) rfl
 | 2,_=>yc (j:=2) rfl
 | 3,_=>yc (j:=3) rfl
noncomputable def Og (K:W.Frag) (a:Addr) (ns:List Int):Sp:=fun vs H Q _=>∃ (np:Addr) (xs:List Str) (m:Nat),vs=[.ref a,.ref np,.int m]/\Sc K a ns H/\H np=some (.lst (Bb xs))/\Nm xs/\m <= 200/\∀ p ps css H',Nb H H'->Sc K a ns H'->DL H' p ps (css.map (Tb xs))->Css xs css->css.length=m->Q (.ref p) H'
noncomputable def ah:Sp:=fun vs H Q _=>∃ c:Nat,vs=[.str (yh c)]/\c < 4/\NoT H/\Q (.str (pd (Ie c))) H
noncomputable def Mh:Sp:=fun vs H Q _=>∃ c:Nat,vs=[.str (yh c)]/\c < 4/\NoT H/\∀ H',Nb H H'->Q (.str (pd (Ie c))) H'
section
variable {P:Program} {w:World} {K:W.Frag} {mg:Str->Option Value} {base:Heap} {t:Adr}
theorem yj (T:Txt w K mg t):Gc P w K mg base CX0 1 t.Lc t.Mc q9 ah:=by
 refine Gc.forget (sp:=Mh) ?_ fun vs H Q E h=>?_
 ·refine T.zd.ok xf (fun vs H Q E h=>?_) (fun _ _ _ s H vs Q E hr h=>?_)
  ·obtain ⟨c,rfl,_⟩:=h;rfl
  obtain ⟨c,rfl,h4,nt,q⟩:=h;refine ⟨_,(Eb (Qc (ye vf Ub (Hd PySem.F.plainAttrs_list PySem.F.slot_list_index PySem.F.type_list_index Yh (pe (ab Ub (ab Ub (ab Ub (ab Ub gb))))) (ab (pv 0) gb)) (fun _ _=>rfl)))),?_⟩;obtain ⟨i1,i2,i3⟩:=Wm c h4;walk_at "RD";exact ⟨by decide,fun p hp=>⟨.inl ⟨_,SqL.of cb⟩,Gn,SqL.of cb,c,i1,i2,by decide,by decide +kernel,Ie c,i3,q _ (Cb hp)⟩⟩
 ·obtain ⟨c,rfl,h4,nt,q⟩:=h;exact ⟨nt,c,rfl,h4,nt,fun H' sm=>⟨sm,q⟩⟩
theorem Ij (T:Txt w K mg t) (a:Addr) (ns:List Int) (h63:ns.length <= 63):Gc P w K mg base CX0 2 t.Ec t.Cc q12 (Og K a ns):=by
 have g0:Gc P w K mg base CX0 1 t.ac t.cc q5 (Lb K a ns):=zg T a ns h63;refine T.Dd.ok Ob (fun vs H Q E h=>?_) (fun _ _ _ s H vs Q E hr h=>?_)
 ·obtain ⟨np,xs,m,rfl,_⟩:=h;rfl
 obtain ⟨np,xs,m,rfl,S,wn,N,hm,q⟩:=h;have hu:=fj hr;have hnl:=N.ln;refine ⟨_,(bb (Gb (i:=3) Ob.nd rfl (Or.inl rfl) (pe gb))
   (bb (ae PassesOwn.never rfl (Ac rfl T.vd (ab (pv 2) gb)) (Sb (i:=4) Ob.nd rfl (Or.inl rfl)) (bb (Gb (i:=5) Ob.nd rfl (Or.inl rfl) dh)
   (bb (ae PassesOwn.never rfl (Ac rfl T.vd (ab (gc Vb rfl T.ug bc (ab (pv 1) gb)) gb)) (Sb (i:=6) Ob.nd rfl (Or.inl rfl)) (bb (Gb (i:=7) Ob.nd rfl (Or.inl rfl) (pv 4))
   (bb (Ee (Zb oh (Fb g0 hr rfl T.xb T.pb.kp T.wb .nil kc (ab (pv 0) (ab ib (ab ib gb)))) ib (ic _)) (Eb (Gb (i:=7) Ob.nd rfl (Or.inl rfl) (Jb Ll (pv 4) (Jb vc ib (Fb g0 hr rfl T.xb T.pb.kp T.wb .nil kc (ab (pv 0) (ab (Jb vc ib (pv 6)) (ab ib gb)))))))) zc)
   (Eb (bj hu (pv 5) (ye Ud (pv 1) (pv 6) (fun _ _=>rfl)) (ye Ud (pe (ab Ub (ab Ub (ab Ub (ab Ub gb))))) (Fb g0 hr rfl T.xb T.pb.kp T.wb .nil kc (ab (pv 0) (ab (Jb vc (Jb vc ib (Jb Me ib (pv 7))) (pv 6)) (ab ib gb)))) (fun _ _=>rfl)) rfl)))))
   (Eb (Oc (Hd PySem.F.plainAttrs_list PySem.F.slot_list_append PySem.F.type_list_append bd (pv 3) (ab (pv 5) gb)))))))
   (Eb (Qc (pv 3))))),?_⟩
 simp only [jb];refine zC (fun σ' H'=>Nb H H'/\Sc K a ns H'/\∃ rp,H rp=none/\H' rp=some (.lst [])/\σ'=[some (.ref a),some (.ref np),some (.int m),some (.ref rp),none,none,none,none]) (fun D' hD=>?_) fun zM zzh=>?_
 ·walk_at "RD";exact ⟨Nat.zero_le _,fun rp hrp=>hD _ _ ⟨Cb hrp,S.new hrp,rp,hrp,cb,rfl⟩⟩
 rintro σ1 H1 ⟨s1,S1,rp,hrp,w1,rfl⟩;subst zzh;simp only [jb];refine zC (fun σ' H'=>Nb H H'/\Sc K a ns H'/\(∃ qs css,DL H' rp qs (css.map (Tb xs))/\Css xs css/\css.length=m)/\∃ x4 x5 x6 x7,σ'=[some (.ref a),some (.ref np),some (.int m),some (.ref rp),x4,x5,x6,x7]) (fun D' hD=>?_) fun zM zzh=>?_
 ·walk_at "RD";refine ⟨by omega,by omega,?_⟩;rw [Int.toNat_natCast];refine Se.range (fun i σ H'=>Nb H H'/\Sc K a ns H'/\(∃ qs css,DL H' rp qs (css.map (Tb xs))/\Css xs css/\css.length=i)/\∃ x4 x5 x6 x7,σ=[some (.ref a),some (.ref np),some (.int m),some (.ref rp),x4,x5,x6,x7]) ⟨s1,S1,⟨[],[],⟨w1,rfl,fun j a kvs h=>by simp at h⟩,⟨Nat.zero_le _,fun cs h=>by simp at h⟩,rfl⟩,_,_,_,_,rfl⟩ ?_ ?_
  ·rintro i σ H' hi zq;refine zP fun zM zzh=>?_
   obtain ⟨s2,S2,⟨qs,css,D2,C2,hcl⟩,x4,x5,x6,x7,rfl⟩:=zq;have hqn:qs.length=i:=by rw [D2.len,length_map,hcl]
   subst zzh;simp only [gd,jb,set_cons_succ,set_cons_zero,Int.zero_add];refine zC (fun σ' H3=>Nb H' H3/\Sc K a ns H3/\∃ dp,H' dp=none/\H3 dp=some (.dK (Tb (xs.take 0) []))/\σ'=[some (.ref a),some (.ref np),some (.int m),some (.ref rp),some (.int (i:Nat)),some (.ref dp),x6,x7]) (fun D3 hD3=>?_) fun zM zzh=>?_
   ·walk_at "RD";exact fun dp hdp=>hD3 _ _ ⟨Cb hdp,S2.new hdp,dp,hdp,cb,rfl⟩
   rintro σ3 H3 ⟨s3,S3,dp,hdp,w3,rfl⟩;subst zzh;simp only [jb];refine zC (fun σ' H4=>Nb H' H4/\Sc K a ns H4/\(∃ cs,cs.length=xs.length/\(∀ c ∈ cs,c < 4)/\H4 dp=some (.dK (Tb xs cs)))/\∃ x6 x7,σ'=[some (.ref a),some (.ref np),some (.int m),some (.ref rp),some (.int (i:Nat)),some (.ref dp),x6,x7]) (fun D3 hD3=>?_) fun zM zzh=>?_
   ·have wn3:=(s2.trans s3) _ _ wn;walk_at "RD";refine ⟨_,.inl (SqL.of wn3),by omega,by rw [Rb];omega,?_⟩;rw [Rb,Int.toNat_natCast];refine Se.range (fun n σ H5=>Nb H' H5/\Sc K a ns H5/\(∃ cs,cs.length=n/\(∀ c ∈ cs,c < 4)/\H5 dp=some (.dK (Tb (xs.take n) cs)))/\∃ x6 x7,σ=[some (.ref a),some (.ref np),some (.int m),some (.ref rp),some (.int (i:Nat)),some (.ref dp),x6,x7]) ⟨s3,S3,⟨[],rfl,fun c h=>by simp at h,w3⟩,_,_,rfl⟩ ?_ ?_
    ·rintro n σ H5 hn zq;refine zP fun zM zzh=>?_
     obtain ⟨s5,S5,⟨cs,hcs,hc4,w5⟩,x6,x7,rfl⟩:=zq;have hx:xs[n]? = some xs[n]:=getElem?_eq_getElem hn;subst zzh;generalize xs[n]=x at hx;simp only [gd,jb,set_cons_succ,set_cons_zero,Int.zero_add];refine zC (fun σ' H6=>H6=H5/\σ'=[some (.ref a),some (.ref np),some (.int m),some (.ref rp),some (.int (i:Nat)),some (.ref dp),some (.int (n:Nat)),some (.int (i:Nat))]) (fun D4 hD4=>?_) fun zM zzh=>?_
     ·walk_at "RD";exact hD4 _ _ ⟨rfl,rfl⟩
     rintro σ6 H6 ⟨rfl,rfl⟩;subst zzh;simp only [jb];refine zC (fun σ' H7=>H7=H6/\∃ at_:Int,(0 <= at_/\at_ <= 200)/\σ'=[some (.ref a),some (.ref np),some (.int m),some (.ref rp),some (.int (i:Nat)),some (.ref dp),some (.int (n:Nat)),some (.int at_)]) (fun D4 hD4=>?_) fun zM zzh=>?_
     ·refine Fc (decide (fe ns 5 2=0)) (fun Q hQ=>?_) (fun zz=>?_) (fun zz=>?_)
      ·(walk_at "RD"; repeat (simp only [Lb];walk_at "RD"));exact ⟨S5,by decide,by decide,by decide,hQ⟩
      ·have d1:=uc ns (6 + (n:Int)) (m:=4) (by decide);have d2:=nc ns (6 + (n:Int)) (m:=4) (by decide);(walk_at "RD"; repeat (simp only [Lb];walk_at "RD"));exact ⟨S5,by omega,by omega,by decide,⟨by omega,by omega⟩,hD4 _ _ ⟨rfl,_,⟨Int.ediv_nonneg (by omega) (by omega),Int.le_trans (Int.ediv_le_self _ (by omega)) (by omega)⟩,rfl⟩⟩
      ·simp only [Xb];exact hD4 _ _ ⟨rfl,_,⟨by omega,by omega⟩,rfl⟩
     rintro σ7 H7 ⟨rfl,at_,hat,rfl⟩;have d1:=uc ns (200 + 7 * at_ + (n:Int)) (m:=4) (by decide);have d2:=nc ns (200 + 7 * at_ + (n:Int)) (m:=4) (by decide);obtain ⟨c,hc⟩:∃ c:Nat,fe ns (200 + 7 * at_ + (n:Int)) 4=(c:Int):=⟨_,(Int.toNat_of_nonneg d1).symm⟩;subst zzh;(walk_at "RD"; repeat (simp only [Lb];walk_at "RD"));refine ⟨by decide,fun p hp=>⟨.inl (by decide),S5.new hp,by omega,by omega,by decide,?_⟩⟩;rw [hc];have w6:=(Cb (o:=.lst [V.str (Str.ofString "stop"),V.str (Str.ofString "ready"),V.str (Str.ofString "free"),V.str (Str.ofString "fade")]) hp) _ _ w5;refine ⟨_,SqL.of cb,_,wo (by omega),_,SqL.of ((Cb hp) _ _ (s5 _ _ (s2 _ _ wn))),_,yc (ge hx),_,Xj.k (k:=Sum.inr x) w6 (Nat.lt_of_le_of_lt (show _ <= 6 by rw [Jc (by rw [hcs,length_take];omega),length_take];omega) (by decide)),(s5.trans (Cb hp)).updN hdp,(S5.new hp).set w6 (fun _ _ z=>by cases z),⟨cs ++ [c],by rw [length_append,hcs];rfl,fun c' h=>?_,by rw [cb,Ih N hcs hx]⟩,?_⟩
     ·rcases List.mem_append.mp h with z | z
      ·exact hc4 c' z
      ·rw [List.mem_singleton.mp z];omega
     ·repeat (first | exact ⟨_,rfl⟩ | refine ⟨⟨_,rfl⟩,?_⟩)
    ·rintro σ H5 zq;refine zP fun zM zzh=>?_
     obtain ⟨s5,S5,⟨cs,hcs,hc4,w5⟩,x6,x7,rfl⟩:=zq;subst zzh;rw [List.take_length] at w5;exact hD3 _ _ ⟨s5,S5,⟨cs,hcs,hc4,w5⟩,_,_,rfl⟩
   rintro σ4 H4 ⟨s4,S4,⟨cs,hcs,hc4,w4⟩,x6',x7',rfl⟩;have rp4:=s4 _ _ D2.at_;have hdr:rp ≠ dp:=fun z=>by rw [<- z,D2.at_] at hdp;cases hdp
   subst zzh;walk_at "RD";refine ⟨.inl ⟨_,SqL.of rp4⟩,_,rp4,Nat.lt_of_le_of_lt (show _ <= 300 by rw [length_map,hqn];omega) (by decide),(s2.trans s4).updN hrp,S4.set rp4 (fun _ _ z=>by cases z),⟨qs ++ [dp],css ++ [cs],⟨by rw [cb,map_append];rfl,by rw [length_append,hqn,length_map,length_append,hcl];rfl,fun j a' kvs h1 h2=>?_⟩,⟨by rw [length_append,hcl];show i + 1 <= 300;omega,fun cs' h=>?_⟩,by rw [length_append,hcl];rfl⟩,?_⟩
   ·rw [map_append] at h2;have hlm:(css.map (Tb xs)).length=i:=by rw [length_map,hcl]
    rcases Qd h1 with ⟨z1,z2⟩ | ⟨z1,rfl⟩
    ·rcases Qd (show (css.map (Tb xs) ++ [Tb xs cs])[j]? = some kvs from h2) with ⟨y1,y2⟩ | ⟨y1,_⟩
     ·have e:=s4 _ _ (D2.al j a' kvs z2 y2);rw [fb (rf e rp4 (by intro z;cases z))];exact e
     ·omega
    ·rcases Qd (show (css.map (Tb xs) ++ [Tb xs cs])[j]? = some kvs from h2) with ⟨y1,_⟩ | ⟨_,rfl⟩
     ·omega
     ·rw [fb (Ne.symm hdr)];exact w4
   ·rcases List.mem_append.mp h with z | z
    ·exact C2.al cs' z
    ·rw [List.mem_singleton.mp z];exact ⟨hcs,hc4⟩
   ·repeat (first | exact ⟨_,rfl⟩ | refine ⟨⟨_,rfl⟩,?_⟩ | exact ⟨⟨_,rfl⟩,_,rfl⟩)
  ·rintro σ H' zq;refine zP fun zM zzh=>?_
   obtain ⟨s2,S2,h2,x4,x5,x6,x7,rfl⟩:=zq;subst zzh;exact hD _ _ ⟨s2,S2,h2,_,_,_,_,rfl⟩
 rintro σ2 H2 ⟨s2,S2,⟨qs,css,D2,C2,hcl⟩,x4,x5,x6,x7,rfl⟩;subst zzh;walk_at "RD";exact q rp qs css H2 s2 S2 D2 C2 hcl
end
end My
namespace My
open PySem L2
theorem Pl:(Str.ofString "         ").cps.toList=List.replicate 9 32/\(Str.ofString "         ").length=9:=by decide +kernel
theorem Wl:∀ k,k < 10->atI (Str.ofString "0123456789").cps.toList ((k:Nat):Int)=some (48 + k):=by decide +kernel
theorem no {x:Str} (h:x.length <= 8):(x.cps.toList ++ List.replicate 9 32).take 9=x.cps.toList ++ List.replicate (9 - x.length) 32:=by
 have hx:x.cps.toList.length=x.length:=Array.length_toList;rw [List.take_append,hx,take_of_length_le (by omega),List.take_replicate,show min (9 - x.length) 9=9 - x.length by omega]
theorem qk {K:W.Frag}:PySem.W.kitOne K (.type "list") (.type "list")=some true:=by
 unfold PySem.W.kitOne;rw [if_pos (by decide)]
theorem jm {K:W.Frag}:PySem.W.kitOne K (.type "dict") (.type "dict")=some true:=by
 unfold PySem.W.kitOne;rw [if_pos (by decide)]
theorem Ve {K:W.Frag} {H:Hp} {p q:Addr} {ws:List Str} (hp:H p=some (.lst (Bb ws))) (hq:H q=some (.lst (Bb ws))):EqH K H 8 (.ref p) (.ref q) true:=by
 have:=EqH.flats (k:=7) (SqL.of (K:=K) hp) (SqL.of (K:=K) hq) (fun x hx y hy=>by
  obtain ⟨a,_,rfl⟩:=List.mem_map.mp hx;obtain ⟨b,_,rfl⟩:=List.mem_map.mp hy
  rfl)
 rwa [decide_eq_true rfl] at this
theorem Fl {b:Int} {xs:List Str} {css:List (List Nat)} (N:Nm xs):(gg b xs css).length <= 7:=by
 unfold gg;rw [length_cons];have:=N.ln;split
 ·rw [List.length_nil];omega
 ·rw [length_mapIdx];omega
noncomputable def Wk (H:Hp):V->List (Key × V)
 | .ref a=>(match H a with | some (.dK k)=>k | _=>[])
 | _=>[]
theorem ke {H:Hp} {a:Addr} {k:List (Key × V)} (e:H a=some (.dK k)):Wk H (.ref a)=k:=by
 show (match H a with | some (.dK k)=>k | _=>[])=k;rw [e]
section
variable {P:Program} {w:World} {K:W.Frag} {mg:Str->Option Value} {base:Heap} {t:Adr}
theorem Vl (T:Txt w K mg t):Gc P w K mg base CX0 6 t.dl t.pj ["_law_script"] (zm K):=by
 refine T.En.ok lc (fun vs H Q E h=>?_) (fun _ _ _ s H vs Q E hr h=>?_)
 ·obtain ⟨a,ns,rfl,_⟩:=h;rfl
 obtain ⟨a,ns,rfl,S0,h63,q⟩:=h;have hu:=fj hr;have hU:=hr.units;have bigT:∀ k:Nat,k <= 10000->k <= sizeLine:=fun k h=>Nat.le_trans h (by decide)
 have g0:Gc P w K mg base CX0 5 t.ac t.cc q5 (Lb K a ns):=(zg T a ns h63).mono (by decide);have g6:Gc P w K mg base CX0 5 t.xc t.wc q11 (Qf K a ns):=(Th T a ns h63).mono (by decide);have g7:Gc P w K mg base CX0 5 t.Ec t.Cc q12 (Og K a ns):=(Ij T a ns h63).mono (by decide);have g8:Gc P w K mg base CX0 5 t.Lc t.Mc q9 ah:=(yj T).mono (by decide);have g3:Gc P w K mg base CX0 5 t.pf t.Ue q10 Ug:=(wj T).mono (by decide);have g4:Gc P w K mg base CX0 5 t.Nd t.Ld ["texts"] fk:=(Xm T).mono (by decide);refine ⟨_,(bb (Gb (i:=1) lc.nd rfl (Or.inl rfl) (Fb g6 hr rfl T.Of T.Yc.kp T.Xf .nil kc (ab (pv 0) (ab (Jb vc ib (Fb g0 hr rfl T.xb T.pb.kp T.wb .nil kc (ab (pv 0) (ab ib (ab ib gb))))) gb))))
   (bb (Gb (i:=2) lc.nd rfl (Or.inl rfl) (Fb g0 hr rfl T.xb T.pb.kp T.wb .nil kc (ab (pv 0) (ab ib (ab ib gb)))))
   (bb (Ee (Zb oh (Fb g0 hr rfl T.xb T.pb.kp T.wb .nil kc (ab (pv 0) (ab ib (ab ib gb)))) ib (ic _)) (Eb (Gb (i:=2) lc.nd rfl (Or.inl rfl) (Fb g0 hr rfl T.xb T.pb.kp T.wb .nil kc (ab (pv 0) (ab ib (ab ib gb)))))) zc)
   (bb (Gb (i:=3) lc.nd rfl (Or.inl rfl) (sf (Zb Yk (gc Vb rfl T.ug bc (ab (pv 0) gb)) ib (ic _)) (ye Ud (pv 0) (Jb ud ib (gc Vb rfl T.ug bc (ab (pv 0) gb))) (fun _ _=>rfl)) ib))
   (bb (Gb (i:=4) lc.nd rfl (Or.inr rfl) (sf (Zb oh (Fb g0 hr rfl T.xb T.pb.kp T.wb .nil kc (ab (pv 0) (ab ib (ab ib gb)))) ib (ic _)) (Jb ud (pv 3) (Jb Sm ib ib)) (Fb g0 hr rfl T.xb T.pb.kp T.wb .nil kc (ab (pv 0) (ab ib (ab ib gb))))))
   (bb (Gb (i:=5) lc.nd rfl (Or.inl rfl) (Fb g7 hr rfl T.yg T.Dd.kp T.lg .nil kc (ab (pv 0) (ab (pv 1) (ab (pv 2) gb)))))
   (bb (Gb (i:=6) lc.nd rfl (Or.inl rfl) (pe (ab (Jb Wb Ub (Hd PySem.F.plainAttrs_str PySem.F.slot_str_join PySem.F.type_str_join me Ub (ab (Wc rfl (Ac rfl T.vd (ab (pv 2) gb)) (Yb (sc:=yb og) rfl (by decide +kernel)) (N:=["_law_k","_law_begin"]) (sel:=[none,some 4]) (jc (M:=q8) (by decide +kernel)) (Blk.of (fun _ _ _ _=>(Sb (i:=0) (Ye (N:=["_law_k","_law_begin"]) (by decide +kernel) rfl) rfl (Or.inl rfl))) (fun _ _ _ _=>⟨_,Ic,by first | rfl | (dsimp only [Cx.block];done) | (dsimp only [Cx.block];exact rfl)⟩) (fun _ _ _ _=>⟨_,(ye vf Ub (Jb ud (Jb vc (pv 1) (pv 0)) ib) (fun _ _=>rfl)),by first | rfl | (dsimp only [Cx.block];done) | (dsimp only [Cx.block];exact rfl)⟩))) gb))) gb)))
   (bb (Ee (Zb Yk (pv 2) ib (ic _)) (Eb (ae PassesOwn.never rfl (Tc (pv 1)) (Sb (i:=7) lc.nd rfl (Or.inr rfl)) (Eb (Oc (Hd PySem.F.plainAttrs_list PySem.F.slot_list_append PySem.F.type_list_append bd (pv 6) (ab (Jb Wb (kd Lf (Jb Wb (pv 7) Ub) re (Ed ib)) (Hd PySem.F.plainAttrs_str PySem.F.slot_str_join PySem.F.type_str_join me Ub (ab (Wc rfl (Tc (pv 5)) (Yb (sc:=yb og) rfl (by decide +kernel)) (N:=["_law_row","_law_name"]) (sel:=[none,some 7]) (jc (M:=q8) (by decide +kernel)) (Blk.of (fun _ _ _ _=>(Sb (i:=0) (Ye (N:=["_law_row","_law_name"]) (by decide +kernel) rfl) rfl (Or.inl rfl))) (fun _ _ _ _=>⟨_,Ic,by first | rfl | (dsimp only [Cx.block];done) | (dsimp only [Cx.block];exact rfl)⟩) (fun _ _ _ _=>⟨_,(Fb g8 hr rfl T.Jg T.zd.kp T.Eg .nil kc (ab (zi hu (pv 0) (pv 1) (fun _ _=>rfl)) gb)),by first | rfl | (dsimp only [Cx.block];done) | (dsimp only [Cx.block];exact rfl)⟩))) gb))) gb)))))) zc)
   (bb (zh (i:=8) lc.nd rfl (Or.inl rfl) rfl (Tc (pv 5)) (Yb (sc:=yb og) rfl (by decide +kernel)) (N:=["_law_row"]) (sel:=[none]) (jc (M:=q8) (by decide +kernel)) (Blk.of (fun _ _ _ _=>(Sb (i:=0) (Ye (N:=["_law_row"]) (by decide +kernel) rfl) rfl (Or.inl rfl))) (fun _ _ _ _=>⟨_,Ic,by first | rfl | (dsimp only [Cx.block];done) | (dsimp only [Cx.block];exact rfl)⟩) (fun _ _ _ _=>⟨_,(ad Je rfl T.Ki Ad (ab (pv 0) gb)),by first | rfl | (dsimp only [Cx.block];done) | (dsimp only [Cx.block];exact rfl)⟩)) rfl)
   (bb (Gb (i:=9) lc.nd rfl (Or.inl rfl) (Fb g3 hr rfl T.Si T.lf.kp T.Yi .nil kc (ab (pv 4) (ab (pv 8) gb))))
   (bb (Ee (PW.pt (Gh (mi (Vh (gc bf rfl T.Uc dc (ab (pv 9) (ab (kg (v:=.ty "list") rfl T.Wg Dc rfl) gb))))) (Gh (Zb (dj hU) (pv 9) (pv 6) (ic _)) (Hi (Zb (gk hU) (pv 8) (pv 5) (ic _)))))) (Eb (Qc Hj)) zc)
   (bb (Ee (Zb oh (pv 2) ib (ic _)) (Eb (Qc Hj)) zc)
   (bb (ae PassesOwn.never rfl (Tc (pv 8)) (Sb (i:=10) lc.nd rfl (Or.inl rfl)) (Eb (Oc (Lg PySem.F.plainAttrs_dict PySem.F.slot_dict_clear PySem.F.type_dict_clear Cf (pv 10)))))
   (bb (Oc (Hd PySem.F.plainAttrs_list PySem.F.slot_list_append PySem.F.type_list_append bd (pv 9) (ab Ub gb)))
   (bb (Gb (i:=11) lc.nd rfl (Or.inl rfl) (ad Yd rfl T.Wg Dc (ab (pv 6) gb)))
   (bb (Gb (i:=12) lc.nd rfl (Or.inl rfl) (Fb g4 hr rfl T.cg T.Od.kp T.Ef .nil kc (ab (pv 11) gb)))
   (bb (Ee (PW.pt (Gh (mi (Vh (gc bf rfl T.Uc dc (ab (pv 12) (ab (kg (v:=.ty "list") rfl T.Wg Dc rfl) gb))))) (Gh (Zb (gk hU) (pv 12) (pv 5) (ic _)) (Hi (Zb (dj hU) (pv 11) (pv 6) (ic _)))))) (Eb (Qc Hj)) zc)
   (bb (ae PassesOwn.never rfl (Tc (pv 12)) (Sb (i:=10) lc.nd rfl (Or.inl rfl)) (bb (Ee (PW.pt (Gh (mi (Vh (gc bf rfl T.Uc dc (ab (pv 10) (ab (kg (v:=.ty "dict") rfl T.Ki Ad rfl) gb))))) (Hi (Zb (dj hU) (Ri (Wc rfl (Em (pv 10)) (Yb (sc:=yb og) rfl (by decide +kernel)) (N:=["_law_name"]) (sel:=[none]) (jc (M:=q8) (by decide +kernel)) (Blk.of (fun _ _ _ _=>(Sb (i:=0) (Ye (N:=["_law_name"]) (by decide +kernel) rfl) rfl (Or.inl rfl))) (fun _ _ _ _=>⟨_,Ic,by first | rfl | (dsimp only [Cx.block];done) | (dsimp only [Cx.block];exact rfl)⟩) (fun _ _ _ _=>⟨_,(pv 0),by first | rfl | (dsimp only [Cx.block];done) | (dsimp only [Cx.block];exact rfl)⟩)))) (pv 1) (ic _))))) (Eb (Qc Hj)) zc)
   (Eb (Oc (Lg PySem.F.plainAttrs_dict PySem.F.slot_dict_clear PySem.F.type_dict_clear Cf (pv 10))))))
   (Eb (Qc (Dm (ki (Um hU) (Fb g4 hr rfl T.cg T.Od.kp T.Ef .nil kc (ab (ad Yd rfl T.Wg Dc (ab (pv 6) gb)) gb)) (pv 5) (ic _)) (Pm (ki (Vm hU) (Fb g3 hr rfl T.Si T.lf.kp T.Yi .nil kc (ab (pv 4) (ab (Wc rfl (Tc (pv 5)) (Yb (sc:=yb og) rfl (by decide +kernel)) (N:=["_law_row"]) (sel:=[none]) (jc (M:=q8) (by decide +kernel)) (Blk.of (fun _ _ _ _=>(Sb (i:=0) (Ye (N:=["_law_row"]) (by decide +kernel) rfl) rfl (Or.inl rfl))) (fun _ _ _ _=>⟨_,Ic,by first | rfl | (dsimp only [Cx.block];done) | (dsimp only [Cx.block];exact rfl)⟩) (fun _ _ _ _=>⟨_,(ad Je rfl T.Ki Ad (ab (pv 0) gb)),by first | rfl | (dsimp only [Cx.block];done) | (dsimp only [Cx.block];exact rfl)⟩))) gb))) (pv 6) (ic _)))))))))))))))))))))))),?_⟩
 simp only [jb];refine zC (fun σ' H'=>Nb H H'/\Sc K a ns H'/\∃ np xs,H' np=some (.lst (Bb xs))/\Nm xs/\σ'=[some (.ref a),some (.ref np),none,none,none,none,none,none,none,none,none,none,none]) (fun D' hD=>?_) fun zM zzh=>?_
 ·have d1:=uc ns 0 (m:=6) (by decide);have d2:=nc ns 0 (m:=6) (by decide);obtain ⟨v,hv⟩:∃ v:Nat,fe ns 0 6=(v:Int):=⟨_,(Int.toNat_of_nonneg d1).symm⟩;(walk_at "RD"; repeat (simp only [Lb];walk_at "RD"));refine ⟨S0,by decide,by decide,by decide,1 + v,?_,S0,by omega,fun p xs H' s' S' _ w' N'=>hD _ _ ⟨s',S',p,xs,w',N',rfl⟩⟩;rw [hv,Int.natCast_add];rfl
 rintro σ1 H1 ⟨s1,S1,np,xs,wn,N,rfl⟩;subst zzh;simp only [jb];refine zC (fun σ' H'=>H'=H1/\∃ m:Nat,m <= 200/\σ'=[some (.ref a),some (.ref np),some (.int m),none,none,none,none,none,none,none,none,none,none]) (fun D' hD=>?_) fun zM zzh=>?_
 ·have d1:=uc ns 1 (m:=41) (by decide);have d2:=nc ns 1 (m:=41) (by decide);obtain ⟨m,hm⟩:∃ m:Nat,fe ns 1 41=(m:Int):=⟨_,(Int.toNat_of_nonneg d1).symm⟩;(walk_at "RD"; repeat (simp only [Lb];walk_at "RD"));refine ⟨S1,by decide,by decide,by decide,?_⟩;rw [hm];exact hD _ _ ⟨rfl,m,by omega,rfl⟩
 rintro σ2 H2 ⟨rfl,m0,hm0,rfl⟩;subst zzh;simp only [jb];refine zC (fun σ' H'=>H'=H2/\∃ m:Nat,m <= 200/\σ'=[some (.ref a),some (.ref np),some (.int m),none,none,none,none,none,none,none,none,none,none]) (fun D' hD=>?_) fun zM zzh=>?_
 ·have d1:=uc ns 1 (m:=201) (by decide);have d2:=nc ns 1 (m:=201) (by decide);obtain ⟨m,hm⟩:∃ m:Nat,fe ns 1 201=(m:Int):=⟨_,(Int.toNat_of_nonneg d1).symm⟩;refine Fc (decide (fe ns 2 8=0)) (fun Q hQ=>?_) (fun zz=>?_) (fun zz=>?_)
  ·(walk_at "RD"; repeat (simp only [Lb];walk_at "RD"));exact ⟨S1,by decide,by decide,by decide,hQ⟩
  ·(walk_at "RD"; repeat (simp only [Lb];walk_at "RD"));refine ⟨S1,by decide,by decide,by decide,?_⟩;rw [hm];exact hD _ _ ⟨rfl,m,by omega,rfl⟩
  ·simp only [Xb];exact hD _ _ ⟨rfl,m0,hm0,rfl⟩
 rintro σ2 H2 ⟨rfl,m,hm,rfl⟩;subst zzh;simp only [jb];refine zC (fun σ' H'=>H'=H2/\∃ c:Int,σ'=[some (.ref a),some (.ref np),some (.int m),some (.int c),none,none,none,none,none,none,none,none,none]) (fun D' hD=>?_) fun zM zzh=>?_
 ·walk_at "RD";refine ⟨_,.inl S1.seq,?_⟩;rw [length_map];by_cases c:(0:Int) < (ns.length:Int)
  ·rw [if_pos (decide_eq_true c)];refine ⟨_,.inl S1.seq,by rw [length_map];exact c,_,S1.seq,?_⟩;rw [length_map];have hk:0 <= (3:Int) % (ns.length:Int)/\(3:Int) % (ns.length:Int) < (ns.length:Int):=⟨Int.emod_nonneg _ (by omega),Int.emod_lt_of_pos _ c⟩;have hj:((3:Int) % (ns.length:Int)).toNat < ns.length:=by omega
   have e:=yc (xs:=ns.map V.int) (j:=((3:Int) % (ns.length:Int)).toNat) (v:=.int ns[((3:Int) % (ns.length:Int)).toNat]) (by rw [getElem?_map,getElem?_eq_getElem hj] <;> rfl);rw [Int.toNat_of_nonneg hk.1] at e;exact ⟨_,e,hD _ _ ⟨rfl,_,rfl⟩⟩
  ·rw [if_neg (by simpa using c)];exact hD _ _ ⟨rfl,_,rfl⟩
 rintro σ3 H3 ⟨rfl,ce,rfl⟩;subst zzh;simp only [jb];refine zC (fun σ' H'=>H'=H3/\∃ b:Int,σ'=[some (.ref a),some (.ref np),some (.int m),some (.int ce),some (.int b),none,none,none,none,none,none,none,none]) (fun D' hD=>?_) fun zM zzh=>?_
 ·(walk_at "RD"; repeat (simp only [Lb];walk_at "RD"));refine ⟨S1,by decide,by decide,by decide,?_⟩;split
  ·exact ⟨⟨by decide,by decide,by decide⟩,by decide,hD _ _ ⟨rfl,_,rfl⟩⟩
  ·exact ⟨S1,by decide,by decide,by decide,hD _ _ ⟨rfl,_,rfl⟩⟩
 rintro σ3 H3 ⟨rfl,b,rfl⟩;subst zzh;simp only [jb];refine zC (fun σ' H'=>Nb H3 H'/\Sc K a ns H'/\∃ rp ps css,DL H' rp ps (css.map (Tb xs))/\Css xs css/\css.length=m/\σ'=[some (.ref a),some (.ref np),some (.int m),some (.int ce),some (.int b),some (.ref rp),none,none,none,none,none,none,none]) (fun D' hD=>?_) fun zM zzh=>?_
 ·walk_at "RD";exact ⟨np,xs,m,rfl,S1,wn,N,hm,fun p ps css H' s' S' D' C' hl=>hD _ _ ⟨s',S',p,ps,css,D',C',hl,rfl⟩⟩
 rintro σ4 H4 ⟨s4,S4,rp,ps,css,D4,C,hcm,rfl⟩;have hcl:=C.ln;have wn4:=s4 _ _ wn;have hpn:(ps.map V.ref).length=m:=by rw [length_map,D4.len,length_map,hcm]
 subst zzh;simp only [jb];refine zC (fun σ' H'=>Nb H4 H'/\Sc K a ns H'/\∃ dp,H4 dp=none/\H' dp=some (.lst (Bb [mkS (ee b css.length)]))/\σ'=[some (.ref a),some (.ref np),some (.int m),some (.int ce),some (.int b),some (.ref rp),some (.ref dp),none,none,none,none,none,none]) (fun D' hD=>?_) fun zM zzh=>?_
 ·walk_at "RD";refine ⟨by omega,by omega,?_⟩;rw [Int.toNat_natCast];refine fc.range_map (n:=m) (fun i=>V.str (pd (48 + ((b + (i:Int)) % 10).toNat))) (bigT _ (by omega)) (fun i N' hi hN'=>?_) (fun pn hpn'=>?_)
  ·have m1:0 <= (b + (i:Int)) % 10:=Int.emod_nonneg _ (by decide);have m2:(b + (i:Int)) % 10 < 10:=Int.emod_lt_of_pos _ (by decide);have e:=Wl ((b + (i:Int)) % 10).toNat (by omega);rw [Int.toNat_of_nonneg m1] at e;walk_at "RD";exact ⟨Sub.name,by decide,by decide +kernel,_,e,hN'⟩
  ·have e:(List.range m).map (fun i:Nat=>V.str (pd (48 + ((b + (i:Int)) % 10).toNat)))=Bb ((List.range m).map fun i:Nat=>pd (48 + ((b + (i:Int)) % 10).toNat)):=by unfold Bb;rw [map_map];rfl
   have ej:=Be (fun i:Nat=>48 + ((b + (i:Int)) % 10).toNat) (List.range m);have lj:(Txt.join (Str.ofString "") ((List.range m).map fun i:Nat=>pd (48 + ((b + (i:Int)) % 10).toNat))).length=m:=by
    show (Txt.join (Str.ofString "") ((List.range m).map fun i:Nat=>pd (48 + ((b + (i:Int)) % 10).toNat))).cps.size=m;rw [<- Array.length_toList,ej,length_map,length_range]
   refine ⟨pn,rfl,(List.range m).map fun i:Nat=>pd (48 + ((b + (i:Int)) % 10).toNat),by rw [<- e];exact SqL.of cb,?_,bigT _ (by rw [Pl.2,lj];omega),by decide,fun dp hdp=>hD _ _ ⟨(Cb hpn').trans (Cb hdp),(S4.new hpn').new hdp,dp,(Cb hpn').free hdp,?_,rfl⟩⟩
   ·rw [dg (fun i:Nat=>48 + ((b + (i:Int)) % 10).toNat),length_range,show (Str.ofString "").length=0 by decide +kernel];omega
   ·rw [cb,Yg (x:=Str.ofString "         " ++ Txt.join (Str.ofString "") ((List.range m).map fun i:Nat=>pd (48 + ((b + (i:Int)) % 10).toNat))) (l:=ee b css.length) (by rw [Str.cps_append,Array.toList_append,Pl.1,ej,hcm];rfl)];rfl
 rintro σ5 H5 ⟨s5,S5,dp,hdp,w5,rfl⟩;subst zzh;simp only [jb];refine zC (fun σ' H'=>Nb H4 H'/\Sc K a ns H'/\H' dp=some (.lst (Bb (gg b xs css)))/\∃ x7,σ'=[some (.ref a),some (.ref np),some (.int m),some (.int ce),some (.int b),some (.ref rp),some (.ref dp),x7,none,none,none,none,none]) (fun D' hD=>?_) fun zM zzh=>?_
 ·refine Fc (decide (css ≠ [])) (fun Q hQ=>?_) (fun zz=>?_) (fun zz=>?_)
  ·walk_at "RD";rw [show decide ((0:Int) < (m:Int))=decide (css ≠ []) from decide_eq_decide.mpr (by rw [<- hcm,ne_eq,<- List.length_eq_zero_iff];omega)];exact hQ
  ·have hc:css ≠ []:=of_decide_eq_true zz;have D5:=Vc D4 s5;have wn5:=s5 _ _ wn4;walk_at "RD";refine ⟨⟨_,SqL.of wn5⟩,?_⟩;refine Se.list (xs:=Bb xs) (fun i σ H'=>Nb H4 H'/\Sc K a ns H'/\H' dp=some (.lst (Bb (mkS (ee b css.length) :: (xs.mapIdx fun j x=>mkS (Md x j css)).take i)))/\∃ x7,σ=[some (.ref a),some (.ref np),some (.int m),some (.int ce),some (.int b),some (.ref rp),some (.ref dp),x7,none,none,none,none,none]) ⟨s5,S5,w5,_,rfl⟩ (fun i σ H' hi e=>SqL.of (e.1 _ _ wn4)) ?_ ?_
   ·rintro i v σ H' hv zq;refine zP fun zM zzh=>?_
    obtain ⟨s6,S6,w6,x7,rfl⟩:=zq;obtain ⟨x,hx,rfl⟩:=Pc hv;have hN:=N.al x (mem_of_getElem? hx);have hil:i < xs.length:=(List.getElem?_eq_some_iff.mp hx).1;have hnl:=N.ln;have D6:=Vc D4 s6;have lx9:(x ++ Str.ofString "         ").length=x.length + 9:=by rw [Hg,Pl.2]
    have l6:=D6.len;have ej:=Be (fun cs:List Nat=>Ie (cs.getD i 0)) css;have lj:(Txt.join (Str.ofString "") (css.map fun cs=>pd (Ie (cs.getD i 0)))).length=css.length:=by
     show (Txt.join (Str.ofString "") (css.map fun cs=>pd (Ie (cs.getD i 0)))).cps.size=css.length;rw [<- Array.length_toList,ej,length_map]
    have ls:=Txt.slice_le (x ++ Str.ofString "         ") none (some 9);subst zzh;walk_at "RD";refine ⟨.inl ⟨_,SqL.of w6⟩,bigT _ (by rw [Pl.2];omega),bigT _ (by omega),⟨_,SqL.of D6.at_⟩,?_⟩;refine fc.list_zs (xs:=ps.map V.ref) (zs:=Bb (css.map fun cs=>pd (Ie (cs.getD i 0)))) (SqL.of D6.at_) (by rw [hpn];exact bigT _ (by omega)) (by unfold Bb;rw [length_map,length_map,hpn,hcm]) (fun k v z N' hv hz hN'=>?_) (fun pn hpn'=>?_)
    ·obtain ⟨a',ha',rfl⟩:=Pc hv;obtain ⟨y,hy,rfl⟩:=Pc hz;obtain ⟨cs,hcs,rfl⟩:=Pc hy;obtain ⟨k1,k2⟩:=C.al cs (mem_of_getElem? hcs);have hck:cs[i]? = some (cs[i]'(by omega)):=getElem?_eq_getElem _;have hc4:=k2 _ (mem_of_getElem? hck);rw [getD_eq_getElem?_getD,hck] at hN';generalize cs[i]'(by omega)=c at hck hc4 hN';have hg:=gj.k (k:=Sum.inr x) (D6.al k a' (Tb xs cs) ha' (by rw [getElem?_map,hcs];rfl));rw [kh N k1 hx hck] at hg;walk_at "RD";exact ⟨Sub.name,_,hg,c,rfl,hc4,S6.nt,hN'⟩
    ·refine ⟨pn,rfl,css.map fun cs=>pd (Ie (cs.getD i 0)),SqL.of cb,?_,bigT _ (by omega),_,(Cb hpn') _ _ w6,Nat.lt_of_le_of_lt (show _ <= 7 by rw [Rb,length_cons,length_take,length_mapIdx];omega) (by decide),(s6.trans (Cb hpn')).updN hdp,(S6.new hpn').set ((Cb hpn') _ _ w6) (fun _ _ z=>by cases z),?_,_,rfl⟩
     ·rw [dg (fun cs:List Nat=>Ie (cs.getD i 0)),show (Str.ofString "").length=0 by decide +kernel];omega
     ·rw [cb,Yg (x:=Txt.slice (x ++ Str.ofString "         ") none (some 9) ++ Txt.join (Str.ofString "") (css.map fun cs=>pd (Ie (cs.getD i 0)))) (l:=Md x i css) ?_,Ge,List.cons_append,take_add_one,List.getElem?_mapIdx,hx]
      ·rfl
      ·have:=je (x ++ Str.ofString "         ") (b:=9) (by rw [Str.cps_append,Array.toList_append,Pl.1,length_append,length_replicate];omega);rw [Str.cps_append,Array.toList_append,ej,show Txt.slice (x ++ Str.ofString "         ") none (some 9)=Txt.slice (x ++ Str.ofString "         ") none (some ((9:Nat):Int)) from rfl,this,Str.cps_append,Array.toList_append,Pl.1,no hN.1.2];rfl
   ·rintro σ H' zq;refine zP fun zM zzh=>?_
    obtain ⟨s6,S6,w6,x7,rfl⟩:=zq;subst zzh;refine hD _ _ ⟨s6,S6,?_,_,rfl⟩;rw [w6];unfold gg;rw [if_neg hc,Rb,take_of_length_le (by rw [length_mapIdx];exact Nat.le_refl _)]
  ·simp only [Xb];have hc:css=[]:=by simpa using of_decide_eq_false zz
   refine hD _ _ ⟨s5,S5,?_,_,rfl⟩;rw [w5];unfold gg;rw [if_pos hc]
 rintro σ6 H6 ⟨s6,S6,w6,x7,rfl⟩;have D6:=Vc D4 s6;subst zzh;simp only [jb];refine zC (fun σ' H'=>Nb H6 H'/\Sc K a ns H'/\∃ hp qs,DL H' hp qs (css.map (Tb xs))/\(∀ a ∈ qs,H6 a=none)/\σ'=[some (.ref a),some (.ref np),some (.int m),some (.int ce),some (.int b),some (.ref rp),some (.ref dp),x7,some (.ref hp),none,none,none,none]) (fun D' hD=>?_) fun zM zzh=>?_
 ·walk_at "RD";refine ⟨⟨_,SqL.of D6.at_⟩,?_⟩;refine fc.list_mk (xs:=ps.map V.ref) (fun v=>.dK (Wk H6 v)) (SqL.of D6.at_) (by rw [hpn];exact bigT _ (by omega)) (fun v=>rfl) (fun i v H1 N' hv sm nt1 hN'=>?_) (fun qs H1' sm nt1 hl al p2 hp2=>?_)
  ·obtain ⟨a',ha',rfl⟩:=Pc hv;have hk:(css.map (Tb xs))[i]? = some ((css.map (Tb xs))[i]'(by rw [<- D6.len];exact (List.getElem?_eq_some_iff.mp ha').1)):=getElem?_eq_getElem _;have e:=D6.al i a' _ ha' hk;walk_at "RD";refine ⟨Sub.name,_,sm _ _ e,fun p hp=>?_⟩;have:=hN' p hp;rw [ke e] at this;exact this
  ·have sP:=sm.updN (o:=.lst (qs.map V.ref)) (sm.free hp2);have hq:∀ (j:Nat) (q':Addr) (kvs:List (Key × V)),qs[j]? = some q'->(css.map (Tb xs))[j]? = some kvs->H1' q'=some (.dK kvs)/\H6 q'=none:=fun j q' kvs h1 h2=>by
    have hj:j < ps.length:=by rw [D6.len];exact (List.getElem?_eq_some_iff.mp h2).1
    have e:=D6.al j _ kvs (getElem?_eq_getElem hj) h2;have:=al j q' (.ref ps[j]) h1 (by rw [getElem?_map,getElem?_eq_getElem hj];rfl);rw [ke e] at this;exact this
   have hql:qs.length=(css.map (Tb xs)).length:=by rw [hl,length_map,D6.len]
   refine hD _ _ ⟨sP,S6.same sP (nt1 S6.nt).upd,p2,qs,⟨cb,hql,fun j q' kvs h1 h2=>?_⟩,fun a' ha'=>?_,rfl⟩
   ·have e:=(hq j q' kvs h1 h2).1;rw [fb (Ab e hp2)];exact e
   ·obtain ⟨j,hj⟩:=List.getElem?_of_mem ha';have hjl:j < (css.map (Tb xs)).length:=by rw [<- hql];exact (List.getElem?_eq_some_iff.mp hj).1
    exact (hq j a' _ hj (getElem?_eq_getElem hjl)).2
 rintro σ7 H7 ⟨s7,S7,hp,qs,D7,fr7,rfl⟩;subst zzh;simp only [jb];refine zC (fun σ' H'=>Nb H7 H'/\Sc K a ns H'/\∃ fp,H7 fp=none/\H' fp=some (.lst (Bb (gg b xs css)))/\σ'=[some (.ref a),some (.ref np),some (.int m),some (.int ce),some (.int b),some (.ref rp),some (.ref dp),x7,some (.ref hp),some (.ref fp),none,none,none]) (fun D' hD=>?_) fun zM zzh=>?_
 ·walk_at "RD";exact ⟨b,xs,css,hp,qs,rfl,N,C,D7,S7.nt,fun fp H' s' n' hf wf=>hD _ _ ⟨s',S7.same s' n',fp,hf,wf,rfl⟩⟩
 rintro σ8 H8 ⟨s8,S8,fp,hfp,w8,rfl⟩;have s68:=s7.trans s8;have D8:=Vc D7 s8;have R8:=Vc D6 s68;have w68:=s68 _ _ w6;subst zzh;simp only [jb];refine zC (fun σ' H'=>H'=H8/\σ'=[some (.ref a),some (.ref np),some (.int m),some (.int ce),some (.int b),some (.ref rp),some (.ref dp),x7,some (.ref hp),some (.ref fp),none,none,none]) (fun D' hD=>?_) fun zM zzh=>?_
 ·refine Fc false (fun Q hQ=>?_) (fun z=>nomatch z) (fun _=>?_)
  ·walk_at "RD";refine ⟨_,.lst w8,true,qk,?_⟩;rw [if_neg (by decide)];refine ⟨_,Ve w8 w68,?_⟩;rw [if_neg (by decide)];exact ⟨qs,ps,_,D8,R8,C.ks N,hQ⟩
  ·simp only [Xb];exact hD _ _ ⟨rfl,rfl⟩
 rintro σ8 H8 ⟨rfl,rfl⟩;subst zzh;simp only [jb];refine qb (fun σ' H'=>H'=H8/\css ≠ []/\σ'=[some (.ref a),some (.ref np),some (.int m),some (.int ce),some (.int b),some (.ref rp),some (.ref dp),x7,some (.ref hp),some (.ref fp),none,none,none]) (fun D' hD hrt _ _=>?_) ?_
 ·refine Fc (decide (m=0)) (fun Q hQ=>?_) (fun z=>?_) (fun zz=>?_)
  ·walk_at "RD";rw [show decide ((m:Int)=0)=decide (m=0) from decide_eq_decide.mpr (by omega)];exact hQ
  ·walk_at "RD";rw [hrt];exact q _
  ·simp only [Xb];exact hD _ _ ⟨rfl,fun e=>of_decide_eq_false zz (by rw [<- hcm,e];rfl),rfl⟩
 rintro σ8 H8 ⟨rfl,hc,rfl⟩;simp only [jb];refine zC (fun σ' H'=>Nb H6 H'/\NoT H'/\H' fp=some (.lst (Bb (gg b xs css)))/\∃ x10,σ'=[some (.ref a),some (.ref np),some (.int m),some (.int ce),some (.int b),some (.ref rp),some (.ref dp),x7,some (.ref hp),some (.ref fp),x10,none,none]) (fun D' hD=>?_) fun zM zzh=>?_
 ·walk_at "RD";refine ⟨⟨_,SqL.of D8.at_⟩,?_⟩;refine Se.list (xs:=qs.map V.ref) (fun i σ H'=>Nb H6 H'/\NoT H'/\H' hp=some (.lst (qs.map V.ref))/\H' fp=some (.lst (Bb (gg b xs css)))/\(∀ a' ∈ qs,∃ k,H' a'=some (.dK k))/\∃ x10,σ=[some (.ref a),some (.ref np),some (.int m),some (.int ce),some (.int b),some (.ref rp),some (.ref dp),x7,some (.ref hp),some (.ref fp),x10,none,none]) ⟨s68,S8.nt,D8.at_,w8,fun a' ha'=>?_,_,rfl⟩ (fun i σ H' hi e=>SqL.of e.2.2.1) ?_ ?_
  ·obtain ⟨j,hj⟩:=List.getElem?_of_mem ha';have hjl:j < (css.map (Tb xs)).length:=by rw [<- D8.len];exact (List.getElem?_eq_some_iff.mp hj).1
   exact ⟨_,D8.al j a' _ hj (getElem?_eq_getElem hjl)⟩
  ·rintro i v σ H' hv zq;refine zP fun zM zzh=>?_
   obtain ⟨s9,n9,hp9,fp9,al9,x10,rfl⟩:=zq;obtain ⟨a',ha',rfl⟩:=Pc hv;have hm':=mem_of_getElem? ha';obtain ⟨k9,e9⟩:=al9 a' hm';subst zzh;walk_at "RD";refine ⟨.inr (.inr (.inl (.inl ⟨_,e9⟩))),_,e9,s9.updN (fr7 a' hm'),n9.upd,by rw [fb (rf hp9 e9 (by intro z;cases z))];exact hp9,by rw [fb (rf fp9 e9 (by intro z;cases z))];exact fp9,fun a2 h2=>?_,_,rfl⟩;by_cases c:a2=a'
   ·rw [c];exact ⟨_,cb⟩
   ·rw [fb c];exact al9 a2 h2
  ·rintro σ H' zq;refine zP fun zM zzh=>?_
   obtain ⟨s9,n9,hp9,fp9,al9,x10,rfl⟩:=zq;subst zzh;exact hD _ _ ⟨s9,n9,fp9,_,rfl⟩
 rintro σ9 H9 ⟨s9,n9,w9,x10,rfl⟩;have w69:=s9 _ _ w6;subst zzh;simp only [jb];refine zC (fun σ' H'=>Nb H6 H'/\NoT H'/\σ'=[some (.ref a),some (.ref np),some (.int m),some (.int ce),some (.int b),some (.ref rp),some (.ref dp),x7,some (.ref hp),some (.ref fp),x10,none,none]) (fun D' hD=>?_) fun zM zzh=>?_
 ·walk_at "RD";exact ⟨.inl ⟨_,SqL.of w9⟩,_,w9,Nat.lt_of_le_of_lt (show _ <= 7 by rw [Rb];exact Fl N) (by decide),hD _ _ ⟨s9.updN (s7.free hfp),n9.upd,rfl⟩⟩
 rintro σA HA ⟨sA,nA,rfl⟩;subst zzh;simp only [jb];refine zC (fun σ' H'=>Nb HA H'/\NoT H'/\∃ tp,HA tp=none/\H' tp=some (.lst (Bb (gg b xs css)))/\σ'=[some (.ref a),some (.ref np),some (.int m),some (.int ce),some (.int b),some (.ref rp),some (.ref dp),x7,some (.ref hp),some (.ref fp),x10,some (.ref tp),none]) (fun D' hD=>?_) fun zM zzh=>?_
 ·walk_at "RD";exact ⟨_,.inl (SqL.of (sA _ _ w6)),fun l hl=>hD _ _ ⟨Cb hl,nA.upd,l,hl,cb,rfl⟩⟩
 rintro σB HB ⟨sB,nB,tp,htp,wB,rfl⟩;subst zzh;simp only [jb];refine zC (fun σ' H'=>Nb HB H'/\NoT H'/\∃ bp bs,DL H' bp bs (css.map (Tb xs))/\bs.Nodup/\(∀ a ∈ bs,HB a=none)/\HB bp=none/\σ'=[some (.ref a),some (.ref np),some (.int m),some (.int ce),some (.int b),some (.ref rp),some (.ref dp),x7,some (.ref hp),some (.ref fp),x10,some (.ref tp),some (.ref bp)]) (fun D' hD=>?_) fun zM zzh=>?_
 ·walk_at "RD";exact ⟨b,xs,css,tp,rfl,N,C,hc,wB,nB,fun bp bs H' s' n' hb fr nd D=>hD _ _ ⟨s',n',bp,bs,D,nd,fr,hb,rfl⟩⟩
 rintro σC HC ⟨sC,nC,bp,bs,DC,ndC,frC,hbp,rfl⟩;have s6B:=sA.trans sB;have s6C:=s6B.trans sC;have RC:=Vc D6 s6C;subst zzh;simp only [jb];refine zC (fun σ' H'=>H'=HC/\σ'=[some (.ref a),some (.ref np),some (.int m),some (.int ce),some (.int b),some (.ref rp),some (.ref dp),x7,some (.ref hp),some (.ref fp),x10,some (.ref tp),some (.ref bp)]) (fun D' hD=>?_) fun zM zzh=>?_
 ·refine Fc false (fun Q hQ=>?_) (fun z=>nomatch z) (fun _=>?_)
  ·walk_at "RD";refine ⟨_,.lst DC.at_,true,qk,?_⟩;rw [if_neg (by decide)];exact ⟨bs,ps,_,DC,RC,C.ks N,_,Ve (sC _ _ wB) (s6C _ _ w6),hQ⟩
  ·simp only [Xb];exact hD _ _ ⟨rfl,rfl⟩
 rintro σC HC ⟨rfl,rfl⟩;subst zzh;simp only [jb];refine zC (fun σ' H'=>Nb H6 H'/\NoT H'/\∃ x10,σ'=[some (.ref a),some (.ref np),some (.int m),some (.int ce),some (.int b),some (.ref rp),some (.ref dp),x7,some (.ref hp),some (.ref fp),x10,some (.ref tp),some (.ref bp)]) (fun D' hD=>?_) fun zM zzh=>?_
 ·walk_at "RD";refine ⟨⟨_,SqL.of DC.at_⟩,?_⟩;refine Se.list (xs:=bs.map V.ref) (fun i σ H'=>Nb H6 H'/\NoT H'/\H' bp=some (.lst (bs.map V.ref))/\(∀ (j:Nat) (a':Addr) (kvs:List (Key × V)),i <= j->bs[j]? = some a'->(css.map (Tb xs))[j]? = some kvs->H' a'=some (.dK kvs))/\∃ x10,σ=[some (.ref a),some (.ref np),some (.int m),some (.int ce),some (.int b),some (.ref rp),some (.ref dp),x7,some (.ref hp),some (.ref fp),x10,some (.ref tp),some (.ref bp)]) ⟨s6C,nC,DC.at_,fun j a' kvs _ h1 h2=>DC.al j a' kvs h1 h2,_,rfl⟩ (fun i σ H' hi e=>SqL.of e.2.2.1) ?_ ?_
  ·rintro i v σ H' hv zq;refine zP fun zM zzh=>?_
   obtain ⟨sD,nD,bpD,alD,x10,rfl⟩:=zq;obtain ⟨a',ha',rfl⟩:=Pc hv;have hil:i < css.length:=by
    have:=(List.getElem?_eq_some_iff.mp ha').1;rw [DC.len,length_map] at this;exact this
   have hcs:css[i]? = some css[i]:=getElem?_eq_getElem hil;subst zzh;generalize css[i]=cs at hcs;obtain ⟨k1,k2⟩:=C.al cs (mem_of_getElem? hcs);have eD:=alD i a' (Tb xs cs) (Nat.le_refl _) ha' (by rw [getElem?_map,hcs];rfl);have wnD:=sD _ _ (s6 _ _ wn4);have hna:np ≠ a':=rf wnD eD (by intro z;cases z);simp only [gd,jb,set_cons_succ,set_cons_zero];refine zC (fun σ' H2=>Nb H' H2/\NoT H2/\σ'=[some (.ref a),some (.ref np),some (.int m),some (.int ce),some (.int b),some (.ref rp),some (.ref dp),x7,some (.ref hp),some (.ref fp),some (.ref a'),some (.ref tp),some (.ref bp)]) (fun D2 hD2=>?_) fun zM zzh=>?_
   ·refine Yj (fun b' H2=>b'=false/\Nb H' H2/\NoT H2) (fun Q hQ=>?_) (fun H2 z=>nomatch z.1) (fun H2 z=>?_)
    ·walk_at "RD";refine ⟨_,.dK eD,true,jm,?_⟩;rw [if_neg (by decide)];refine ⟨a',Tb xs cs,eD,Tb xs cs,eD,fun o=>?_⟩;generalize hHf:upd H' a' (.frz o (.dK (Tb xs cs)))=Hf;have ef:Hf a'=some (.frz o (.dK (Tb xs cs))):=by rw [<- hHf];exact cb
     have kf:∀ {b:Addr} {u:HO},b ≠ a'->H' b=some u->Hf b=some u:=fun hb e=>by rw [<- hHf,fb hb];exact e
     have nf:NoT Hf:=by rw [<- hHf];exact nD.upd
     refine fc.of (n:=xs.length) (fun i ys H'=>H'=Hf/\ys=(Bb xs).take i) (bigT _ (by have:=N.ln;omega)) ⟨rfl,rfl⟩ (fun i ys H' hi e=>⟨by rw [e.1];exact ef,by rw [Jc k1];exact hi⟩) (fun ys H' e=>⟨by rw [e.1];exact ef,by rw [Jc k1];exact Nat.le_refl _⟩) (fun i ys H' hi e=>by rw [e.2,length_take];omega) ?_ ?_
     ·rintro k ys H2 v H3 hk ⟨rfl,rfl⟩ ⟨rfl,k',v',hkv,rfl⟩ N' hN';have hx:xs[k]? = some xs[k]:=getElem?_eq_getElem hk;generalize xs[k]=x at hx;have hck:cs[k]? = some (cs[k]'(by omega)):=getElem?_eq_getElem _;rw [af hx hck] at hkv;cases hkv;walk_at "RD";refine ⟨Sub.name,hN' _ _ ⟨rfl,?_⟩⟩;rw [take_add_one,ge hx];rfl
     ·rintro ys H2 ⟨rfl,rfl⟩ pn hpn';have hpa:pn ≠ a':=fun z=>by rw [z,ef] at hpn';cases hpn'
      rw [take_of_length_le (by rw [Rb];exact Nat.le_refl _)];have sF:Nb H' (upd (upd H2 pn (.lst (Bb xs))) a' (.dK (Tb xs cs))):=fun b' u e=>by
       by_cases ca:b'=a'
       ·rw [ca,cb];rw [ca,eD] at e;exact e
       ·have:=kf ca e;rw [fb ca,fb (fun z=>by rw [z,hpn'] at this;cases this)];exact this
      refine ⟨o,by rw [fb (Ne.symm hpa)];exact ef,pn,rfl,true,Ve (by rw [fb hpa];exact cb) (sF _ _ wnD),hQ _ _ ⟨rfl,sF,nf.upd.upd⟩⟩
    ·simp only [Xb];exact hD2 _ _ ⟨z.2.1,z.2.2,rfl⟩
   rintro σE HE ⟨sE,nE,rfl⟩;have eE:=sE _ _ eD;subst zzh;walk_at "RD";refine ⟨.inr (.inr (.inl (.inl ⟨_,eE⟩))),_,eE,(sD.trans sE).updN (s6B.free (frC a' (mem_of_getElem? ha'))),nE.upd,?_,fun j a2 kvs hj h1 h2=>?_,_,rfl⟩
   ·have:=sE _ _ bpD;rw [fb (rf this eE (by intro z;cases z))];exact this
   ·have hne:a2 ≠ a':=fun z=>by
     rw [z] at h1;obtain ⟨l1,e1⟩:=List.getElem?_eq_some_iff.mp ha';obtain ⟨l2,e2⟩:=List.getElem?_eq_some_iff.mp h1;have:=(List.getElem_inj ndC).mp (e1.trans e2.symm);omega
    rw [fb hne];exact sE _ _ (alD j a2 kvs (by omega) h1 h2)
  ·rintro σ H' zq;refine zP fun zM zzh=>?_
   obtain ⟨sD,nD,_,_,x10,rfl⟩:=zq;subst zzh;exact hD _ _ ⟨sD,nD,_,rfl⟩
 rintro σD HD ⟨sD,nD,x10',rfl⟩;have wD:=sD _ _ w6;subst zzh;walk_at "RD";refine ⟨_,.inl (SqL.of wD),fun l hl=>⟨b,xs,css,l,rfl,N,C,hc,cb,nD.upd,fun bp' bs' H' s' n' _ _ _ Db=>?_⟩⟩;have s1':=sD.trans ((Cb hl).trans s');have R':=Vc D6 s1';refine ⟨bp',rfl,bs',ps,_,Db,R',C.ks N,⟨_,SqL.of R'.at_⟩,?_⟩;refine fc.list_mk (xs:=ps.map V.ref) (fun v=>.dK (Wk H' v)) (SqL.of R'.at_) (by rw [hpn];exact bigT _ (by omega)) (fun v=>rfl) (fun i v H1 N' hv sm nt1 hN'=>?_) (fun qs H1' sm nt1 hl' al p2 hp2=>?_)
 ·obtain ⟨a',ha',rfl⟩:=Pc hv;have hk:(css.map (Tb xs))[i]? = some ((css.map (Tb xs))[i]'(by rw [<- R'.len];exact (List.getElem?_eq_some_iff.mp ha').1)):=getElem?_eq_getElem _;have e:=R'.al i a' _ ha' hk;walk_at "RD";refine ⟨Sub.name,_,sm _ _ e,fun p hp=>?_⟩;have:=hN' p hp;rw [ke e] at this;exact this
 ·have sP:=sm.updN (o:=.lst (qs.map V.ref)) (sm.free hp2);refine ⟨b,xs,css,p2,qs,rfl,N,C,⟨cb,by rw [hl',length_map,R'.len],fun j q' kvs h1 h2=>?_⟩,(nt1 n').upd,fun fq H2 s2 n2 _ wf=>⟨fq,rfl,_,Ve wf ((s1'.trans (sP.trans s2)) _ _ w6),q _⟩⟩;have hj:j < ps.length:=by rw [R'.len];exact (List.getElem?_eq_some_iff.mp h2).1
  have e:=R'.al j _ kvs (getElem?_eq_getElem hj) h2;have:=(al j q' (.ref ps[j]) h1 (by rw [getElem?_map,getElem?_eq_getElem hj];rfl)).1;rw [ke e] at this;rw [fb (Ab this hp2)];exact this
end
end My
structure PySem.W.Fast:Prop where(tw3161981084441249266 tw4269143582899289642 tw3242252140518375668 tw7449115066701284409 tw12485737693071633364 tw4248108086939512778 tw1654327371142871227 tw15427969889484692301 tw11765622167554885709 tw6343921781626012010 tw13656372952706769106 tw9208342868826186657 tw7907055690680920667 tw477247376211212288 tw11494010668283117113 tw13140213792842452456 tw14061383420486762041 tw4957600820238190812 tw18097799507211657420 tw14775920607193266794 tw12663877570143626064 tw4111924051123201965 tw13093507591114610977 tw2996644830245661488 tw9796848262289905091 tw799391971191433601 tw16120266553939319545 tw379805047835801109 tw14307218792189158341 tw2948191575627523516 tw18081053515176054951 tw14206425799820450871 tw8926499368337924678 tw3790340671898963670 tw2538645797496683499 tw8302250077071128273 tw4819532430075930533 tw1619762547566891236 tw13482393347595475386 tw7176070282043486917 tw17745942314533428037 tw1503283422777577815 tw4144179469030729409 tw13006236078150452252 tw4719904368005111366 tw5220699563407223656:True)
open PySem PySem.W PyProof.Rows
set_option maxRecDepth 100000 in
set_option maxHeartbeats 0 in
theorem PySem.Challenge.cw_lampway_k76_drawings_holds : PySem.Challenge.rw_lampway_k76_drawings.Holds := by
 w_on;o_law;k_head;(case hw=>w_witness2)
 k_fill
 refine L2.oj (l:=PySem.Challenge.rw_lampway_k76_drawings) (n:=63) (k:=6) (x := "_law_script") (CX:=L2.CX0) (sp:=L2.zm) rfl (by decide) rfl ⟨rfl,by decide,by decide⟩ (fun w h Y=>PySem.W.kIn_of Y) ?F ?S ?C
 case F=>
  intro w mg fa h KX G hmg;have T:∃ t,My.Txt w (L2.KOf KX) mg t:=by
   dsimp only [L2.KOf];refine' ⟨My.Adr.mk,⟨?maa,?Fab,?mac,?Fad,?mae,?Faf,?mag,?Fah,?mai,?Faj,?mak,?Fal,?mam,?Fan,?mao,?Fap,?maq,?var,?mas,?tat,?mau,?vav,?maw,?tax,?bay,?baz,?bba,?bbb,?bbc,?bbd,?lbe⟩⟩
   case maa | mac | mae | mag | mai | mak | mam | mao | maq | mas | mau | maw=>(try dsimp only);refine' PySem.W.mg_of KX G ?z;case z=>k_is
   case Fab | Fad | Faf | Fah | Faj | Fal | Fan | Fap=>(try dsimp only);refine' L2.Gm ?x ?y ?z;(case x=>k_is);(case y=>k_is);(case z=>k_is)
   case var | vav=>(try dsimp only);exact ⟨_,rfl⟩
   case bay | baz | bba | bbb | bbc | bbd=>(try dsimp only);refine' PySem.W.mg_none_of KX G ?z;case z=>k_is
   case tat=>(try dsimp only);refine' L2.Li ?x ?y ?z;(case x=>k_is);(case y=>k_keys);(case z=>intro x v h;simp only [List.mem_cons,List.not_mem_nil,or_false,Prod.mk.injEq] at h;rcases h with ⟨rfl,rfl⟩ | ⟨rfl,rfl⟩ | ⟨rfl,rfl⟩ | ⟨rfl,rfl⟩;all_goals (refine' L2.Sg ?px0 ?rx0;(case px0=>k_is);(case rx0=>exact ⟨_,rfl⟩)))
   case tax=>(try dsimp only);refine' L2.Li ?x ?y ?z;(case x=>k_is);(case y=>k_keys);(case z=>intro x v h;simp only [List.mem_cons,List.not_mem_nil,or_false,Prod.mk.injEq] at h;rcases h with ⟨rfl,rfl⟩ | ⟨rfl,rfl⟩ | ⟨rfl,rfl⟩ | ⟨rfl,rfl⟩;all_goals (refine' L2.Sg ?px0 ?rx0;(case px0=>k_is);(case rx0=>exact ⟨_,rfl⟩)))
   case lbe=>(try dsimp only);exact fun _ _=>.of_eq rfl
  obtain ⟨t,T⟩:=T;have e0:=hmg.symm.trans T.Hn;cases e0;exact ⟨t.pj,T.Yl,fun base kb nb=>My.Vl T⟩
 case S=>exact fun K H a ns hl hO hS=>⟨a,ns,rfl,L2.Sc.of_only hO hS,hl,fun _=>rfl⟩
 case C=>exact fun _ _ _ _ z=>z
