import PyProof.Rows.All
import Wide.All
import OpenK.AllK
import Wide.FinOn
import Lean
import PyProof.EqAt
import PyProof.EqKinds
import PyProof.TupleCall
import KE.KTryMore
import PyProof.NsDelKeeps
import PySem.Challenge.RW_lampway_k31_stages_words_refused
set_option compiler.extract_closed false
set_option Elab.async false
set_option linter.all false
set_option maxRecDepth 100000
open List (mem_cons_self mem_cons_of_mem mem_append_left getElem?_set_self getElem?_set_ne mem_append_right size_toArray length_cons map_cons length_map append_nil length_take getElem?_append_right getElem?_append_left getElem?_map mem_of_getElem? length_append length_drop length_set any_cons replicate_succ flatten_cons append_assoc nil_append find?_cons cons_append length_nil map_nil lookup_cons all_eq_true getElem_mem mem_cons not_mem_nil take_of_length_le getElem?_eq_getElem getD_eq_getElem?_getD getElem?_of_mem take_add_one map_append take_length length_range range_succ set_cons_zero set_cons_succ map_map flatMap_cons take_zero drop_eq_getElem_cons drop_length exists_cons_of_ne_nil mem_of_mem_take mem_of_mem_drop map_take mem_or_eq_of_mem_set set_set)
namespace L2
open PySem PySem.Spec PyProof.Rows
noncomputable abbrev Key:=Sum Int Str
noncomputable def oB:Key->Value->Bool
 | .inl k,v=>Value.isInt k v
 | .inr x,v=>Value.isStrOf x v
noncomputable def KO (w:World):Key->Int
 | .inl k=>hashInt k
 | .inr x=>hashStr w x
theorem Ae:∀ {k:Key} {v:Value},oB k v=true->(∃ i t,k=Sum.inl i/\v=Value.int i t)\/(∃ x t,k=Sum.inr x/\v=Value.str x t)
 | .inl i,v,h=>by
  obtain ⟨t,e⟩:=Value.isInt_shape (k:=i) (v:=v) h;exact .inl ⟨i,t,rfl,e⟩
 | .inr x,v,h=>by
  obtain ⟨t,e⟩:=Value.isStrOf_shape (x:=x) (v:=v) h;exact .inr ⟨x,t,rfl,e⟩
theorem OE (i:Int) (t:Tok):oB (.inl i) (.int i t)=true:=by simp [oB,Value.isInt]
theorem nE (x:Str) (t:Tok):oB (.inr x) (.str x t)=true:=by simp [oB,Value.isStrOf]
theorem pL (a b:Int):decide ((Sum.inl a:Key)=Sum.inl b)=(a == b):=by
 by_cases e:a=b
 ·subst e;simp
 ·have h:¬ (Sum.inl a:Key)=Sum.inl b:=fun q=>e (Sum.inl.inj q)
  rw [decide_eq_false h];exact (beq_eq_false_iff_ne.mpr e).symm
theorem KM (a b:Str):decide ((Sum.inr a:Key)=Sum.inr b)=decide (a=b):=by
 by_cases e:a=b
 ·subst e;simp
 ·have h:¬ (Sum.inr a:Key)=Sum.inr b:=fun q=>e (Sum.inr.inj q)
  rw [decide_eq_false h,decide_eq_false e]
theorem aM (a:Int) (b:Str):decide ((Sum.inl a:Key)=Sum.inr b)=false:=decide_eq_false (fun q=>nomatch q)
theorem cL (a:Str) (b:Int):decide ((Sum.inr a:Key)=Sum.inl b)=false:=decide_eq_false (fun q=>nomatch q)
noncomputable def zf (prog:Program) (w:World):PySem.KeyKind prog w Key where
 is:=oB
 hash:=KO w
 inj:=fun v a b ha hb=>by
  rcases Ae ha with ⟨i,t,rfl,rfl⟩ | ⟨x,t,rfl,rfl⟩
  ·rcases Ae hb with ⟨j,u,rfl,e⟩ | ⟨y,u,rfl,e⟩
   ·injection e with e1 _;rw [e1]
   ·exact nomatch e
  ·rcases Ae hb with ⟨j,u,rfl,e⟩ | ⟨y,u,rfl,e⟩
   ·exact nomatch e
   ·injection e with e1 _;rw [e1]
 byValue:=fun k v h=>by
  rcases Ae h with ⟨i,t,rfl,rfl⟩ | ⟨x,t,rfl,rfl⟩ <;> rfl
 pyHash:=fun hv h=>by
  rcases Ae hv with ⟨i,t,rfl,rfl⟩ | ⟨x,t,rfl,rfl⟩
  ·exact wpAny_pyHash_int h
  ·exact wpAny_pyHash_str h
 eqBool:=fun hu hv h=>by
  rcases Ae hu with ⟨i,t,rfl,rfl⟩ | ⟨x,t,rfl,rfl⟩
  ·rcases Ae hv with ⟨j,u,rfl,rfl⟩ | ⟨y,u,rfl,rfl⟩
   ·rw [pL] at h;exact wpAny_eqBool_int h
   ·rw [aM] at h;exact SeqAt.EqAt.int_str i t y u _ _ _ _ h
  ·rcases Ae hv with ⟨j,u,rfl,rfl⟩ | ⟨y,u,rfl,rfl⟩
   ·rw [cL] at h;exact SeqAt.EqAt.str_int x t j u _ _ _ _ h
   ·rw [KM] at h;exact wpAny_eqBool_str h
 «strs»:=fun k x t v h=>by
  rcases Ae h with ⟨i,u,rfl,e⟩ | ⟨y,u,rfl,e⟩
  ·exact nomatch e
  ·injection e with e1 _;subst e1;cases v <;> rfl
theorem yy (prog:Program) (w:World) (i:Int) (t:Tok):(zf prog w).is (.inl i) (.int i t)=true:=OE i t
theorem Vy (prog:Program) (w:World) (x:Str) (t:Tok):(zf prog w).is (.inr x) (.str x t)=true:=nE x t
end L2
namespace L2
open PySem PySem.Spec PyProof.Rows
inductive V where
 | non | bl (b:Bool) | int (i:Int) | str (x:Str) | byt (b:Array UInt8) | flt (b:UInt64) | ref (a:Addr) | ty (n:String)
 deriving DecidableEq
noncomputable def Td:V->Value->Prop
 | .non,u=>u=Value.none
 | .bl b,u=>u=Value.bool b
 | .int i,u=>∃ t,u=Value.int i t
 | .str x,u=>∃ t,u=Value.str x t
 | .byt b,u=>∃ t,u=Value.bytes b t
 | .flt b,u=>∃ t,u=Value.float b t
 | .ref a,u=>u=Value.ref a
 | .ty n,u=>u=Value.type n
noncomputable abbrev Sd:List V->List Value->Prop:=Paired Td
theorem Sd.length {xs:List V} {us:List Value} (r:Sd xs us):xs.length=us.length:=Paired.length r
theorem Sd.get:∀ {xs:List V} {us:List Value} {i:Nat} {x:V},Sd xs us->xs[i]? = some x->∃ u,us[i]? = some u/\Td x u
 | _,_,_,_,.nil,e=>by simp at e
 | _,_,0,_,.cons r _,e=>by simp at e;subst e;exact ⟨_,rfl,r⟩
 | _,_,i + 1,x,.cons _ t,e=>by
  obtain ⟨u,h1,h2⟩:=Sd.get (i:=i) (x:=x) t (by simpa using e);exact ⟨u,by simpa using h1,h2⟩
theorem Sd.set {x:V} {u:Value} (r:Td x u):∀ {xs:List V} {us:List Value} (i:Nat),Sd xs us->Sd (xs.set i x) (us.set i u)
 | _,_,_,.nil=>.nil
 | _,_,0,.cons _ t=>.cons r t
 | _,_,i + 1,.cons q t=>.cons q (Sd.set r i t)
theorem Sd.append:∀ {xs ys:List V} {us ws:List Value},Sd xs us->Sd ys ws->Sd (xs ++ ys) (us ++ ws)
 | _,_,_,_,.nil,s=>s
 | _,_,_,_,.cons r t,s=>.cons r (Sd.append t s)
theorem Sd.take:∀ {xs:List V} {us:List Value} (n:Nat),Sd xs us->Sd (xs.take n) (us.take n)
 | _,_,0,_=>.nil
 | _,_,_ + 1,.nil=>.nil
 | _,_,n + 1,.cons r t=>.cons r (Sd.take n t)
theorem Sd.drop:∀ {xs:List V} {us:List Value} (n:Nat),Sd xs us->Sd (xs.drop n) (us.drop n)
 | _,_,0,r=>r
 | _,_,_ + 1,.nil=>.nil
 | _,_,n + 1,.cons _ t=>Sd.drop n t
theorem Sd.none_of:∀ {xs:List V} {us:List Value} {i:Nat},Sd xs us->xs[i]? = none->us[i]? = none:=fun {xs us i} r e=>by
 have h1:=r.length;have h2:xs.length <= i:=List.getElem?_eq_none_iff.mp e;exact List.getElem?_eq_none_iff.mpr (by omega)
noncomputable def Ds:Option V->Option Value->Prop
 | some v,some u=>Td v u
 | none,none=>True
 | _,_=>False
noncomputable def KV {κ:Type}:List (κ × V)->List (κ × Value)->Prop:=Paired fun (p:κ × V) (q:κ × Value)=>p.1=q.1/\Td p.2 q.2
noncomputable def kV:Key->V
 | .inl i=>.int i
 | .inr x=>.str x
inductive HO where
  | lst (xs:List V)
  | tup (xs:List V)
  | dK (kvs:List (Key × V)) | dT (kvs:List (List Key × V))
  | set (S:Int->Bool) (n:Nat)
  | ins (C dx:Addr) (fs:List (Str × V))
  | own (x:Addr)
  | xd (fs:List (Str × V))
  | met (f x:Addr)
  | rng (lo hi:Int)
  | frz (o:Obj) (u:HO)
  | tbl (ps:Array Value)
  | ext (φ:Heap->Prop)
noncomputable abbrev Hp:=Addr->Option HO
noncomputable def upd (H:Hp) (a:Addr) (o:HO):Hp:=fun b=>if b=a then some o else H b
theorem gb {H:Hp} {a:Addr} {o:HO}:upd H a o a=some o:=by unfold upd;rw [if_pos rfl]
theorem zb {H:Hp} {a b:Addr} {o:HO} (h:b ≠ a):upd H a o b=H b:=by unfold upd;rw [if_neg h]
theorem Vk {H:Hp} {a:Addr} {o u:HO}:upd (upd H a o) a u=upd H a u:=by
 funext b;unfold upd;split <;> rfl
theorem af {H:Hp} {a b:Addr} {o u:HO} (h:H a=some o) (h':H b=some u) (d:o ≠ u):a ≠ b:=by
 intro e;subst e;rw [h] at h';exact d (Option.some.inj h')
theorem Kb {H:Hp} {a b:Addr} {o:HO} (h:H a=some o) (h':H b=none):a ≠ b:=by
 intro e;subst e;rw [h] at h';cases h'
section
variable (P:Program) (w:World)
noncomputable def vd (H:Hp) (h:Heap) (a:Addr):HO->Prop
 | .lst xs=>xs.length <= sizeLine/\∃ (its:List Value) (n:Nat),Sd xs its/\h.get? a=some { cls:=.type "list",data:=.seq its.toArray n }
 | .tup xs=>xs.length <= sizeLine/\∃ its:List Value,Sd xs its/\IsTup h a its.toArray
 | .dK kvs=>kvs.length <= sizeLine/\(a == sysModules)=false/\∃ vs,KV kvs vs/\h.DictOf (zf P w) a vs
 | .dT kvs=>kvs.length <= sizeLine/\(a == sysModules)=false/\∃ xs:List (List Key × Addr × Value),
   Paired (fun (p:List Key × V) (q:List Key × Addr × Value)=>p.1=q.1/\H q.2.1=some (.tup (p.1.map kV))/\Td p.2 q.2.2) kvs xs /\
   ∃ o es ep,h.get? a=some o/\o.ExactDict/\o.data=.dict es ep/\es.toList=xs.map (entryOfKey (tupleKind (zf P w)))/\(xs.map (·.1)).Nodup
 | .set S n=>h.SetOf (intKind P w) a S n
 | .ins C dx fs=>H dx=some (.own a)/\fs.length <= 1000/\dx ≠ a/\h.get? a=some (PySem.W.instObj C dx) /\
   ∃ mA,h.Ns1 dx mA/\(∀ f,Ds (fs.lookup f) (mA f))/\PySem.Within mA (fs.map (·.1))
 | .own _=>∃ o,h.get? a=some o
 | .xd fs=>∃ mA,h.Ns1 a mA/\∀ f,Ds (fs.lookup f) (mA f)
 | .rng lo hi=>∃ t u v,h.get? a=some { cls:=.type "range",data:=.fields #[.int lo t,.int hi u,.int 1 v] }
 | .frz o u=>h.get? a=some o/\vd H h a u
 | .tbl ps=>h.get? a=some { cls:=.none,data:=.fields ps }
 | .met f x=>h.get? a=some (PySem.W.methodObj (.ref f) (.ref x))
 | .ext φ=>φ h/\(∃ o,h.get? a=some o)/\∀ h1 h2:Heap,φ h1->(∀ o,h1.get? a=some o->h2.get? a=some o)->φ h2
noncomputable def HOk (H:Hp) (h:Heap):Prop:=∀ a o,H a=some o->vd P w H h a o
end
section
variable {P:Program} {w:World} {H H':Hp} {h h':Heap} {a:Addr} {o:HO}
theorem vd.lt (x:vd P w H h a o):a < h.objs.size:=by
 cases o with
 | lst xs=>obtain ⟨_,_,_,_,e⟩:=x;exact Heap.lt_size e
 | tup xs=>obtain ⟨_,_,_,p⟩:=x;exact p.lt
 | dK kvs=>obtain ⟨_,_,_,_,o,_,_,e,_⟩:=x;exact Heap.lt_size e
 | dT kvs=>obtain ⟨_,_,_,_,o,_,_,e,_⟩:=x;exact Heap.lt_size e
 | set S n=>obtain ⟨o,_,_,_,e,_⟩:=x;exact Heap.lt_size e
 | ins C dx fs=>obtain ⟨_,_,_,e,_⟩:=x;exact Heap.lt_size e
 | own y=>obtain ⟨_,e⟩:=x;exact Heap.lt_size e
 | xd fs=>obtain ⟨_,⟨_,_,_,e,_⟩,_⟩:=x;exact Heap.lt_size e
 | rng lo hi=>obtain ⟨_,_,_,e⟩:=x;exact Heap.lt_size e
 | frz ob u=>obtain ⟨e,_⟩:=x;exact Heap.lt_size e
 | tbl ps=>exact Heap.lt_size (show h.get? a=some _ from x)
 | met f y=>exact Heap.lt_size (show h.get? a=some _ from x)
 | ext φ=>obtain ⟨_,⟨_,e⟩,_⟩:=x;exact Heap.lt_size e
theorem Paired.mapP {α β:Type} {F G:α->β->Prop}:∀ {l₁:List α} {l₂:List β},Paired F l₁ l₂->(∀ a b,F a b->G a b)->Paired G l₁ l₂
 | _,_,.nil,_=>.nil
 | _,_,.cons r t,f=>.cons (f _ _ r) (Paired.mapP t f)
theorem vd.stay (x:vd P w H h a o) (k:∀ b u,(b=a\/H b=some (.own a))->h.get? b=some u->h'.get? b=some u)
  (ho:∀ b,H b=some (.own a)->H' b=some (.own a)) (ht:∀ b xs,H b=some (.tup xs)->H' b=some (.tup xs)):vd P w H' h' a o:=by
 induction o with
 | lst xs=>obtain ⟨z,its,n,r,e⟩:=x;exact ⟨z,its,n,r,k _ _ (.inl rfl) e⟩
 | tup xs=>obtain ⟨z,its,r,ob,e,c⟩:=x;exact ⟨z,its,r,ob,k _ _ (.inl rfl) e,c⟩
 | dK kvs=>obtain ⟨z,y,vs,r,ob,es,ep,e,c⟩:=x;exact ⟨z,y,vs,r,ob,es,ep,k _ _ (.inl rfl) e,c⟩
 | dT kvs=>
  obtain ⟨z,y,xs,r,ob,es,ep,e,c⟩:=x;exact ⟨z,y,xs,Paired.mapP r fun p q z=>⟨z.1,ht _ _ z.2.1,z.2.2⟩,ob,es,ep,k _ _ (.inl rfl) e,c⟩
 | set S n=>obtain ⟨ob,es,ep,t,e,c⟩:=x;exact ⟨ob,es,ep,t,k _ _ (.inl rfl) e,c⟩
 | ins C dx fs=>
  obtain ⟨d,z,ne,e,mA,⟨od,es,ep,e2,c⟩,r⟩:=x;exact ⟨ho _ d,z,ne,k _ _ (.inl rfl) e,mA,⟨od,es,ep,k _ _ (.inr d) e2,c⟩,r⟩
 | own y=>obtain ⟨ob,e⟩:=x;exact ⟨ob,k _ _ (.inl rfl) e⟩
 | xd fs=>obtain ⟨mA,⟨od,es,ep,e,c⟩,r⟩:=x;exact ⟨mA,⟨od,es,ep,k _ _ (.inl rfl) e,c⟩,r⟩
 | rng lo hi=>obtain ⟨t,u,v,e⟩:=x;exact ⟨t,u,v,k _ _ (.inl rfl) e⟩
 | frz ob u ih=>obtain ⟨e,q⟩:=x;exact ⟨k _ _ (.inl rfl) e,ih q⟩
 | tbl ps=>
  have e:h.get? a=some { cls:=.none,data:=.fields ps }:=x;show h'.get? a=some { cls:=.none,data:=.fields ps };exact k a _ (.inl rfl) e
 | met f y=>
  have e:h.get? a=some (PySem.W.methodObj (.ref f) (.ref y)):=x;show h'.get? a=some (PySem.W.methodObj (.ref f) (.ref y));exact k a _ (.inl rfl) e
 | ext φ=>obtain ⟨p,⟨o,e⟩,st⟩:=x;exact ⟨st _ _ p fun o q=>k _ _ (.inl rfl) q,⟨o,k _ _ (.inl rfl) e⟩,st⟩
theorem HOk.lt (x:HOk P w H h) (e:H a=some o):a < h.objs.size:=(x a o e).lt
theorem HOk.fresh (x:HOk P w H h) (e:h.objs.size <= a):H a=none:=by
 cases q:H a with
 | none=>rfl
 | some u=>exact absurd (Nat.lt_of_lt_of_le (x.lt q) e) (Nat.lt_irrefl _)
theorem HOk.kept (x:HOk P w H h) (k:∀ b u,h.get? b=some u->h'.get? b=some u):HOk P w H h':=fun a o e=>
 (x a o e).stay (fun b u _ q=>k b u q) (fun _ q=>q) fun _ _ q=>q
theorem HOk.laid (x:HOk P w H h) (k:∀ b u,h.get? b=some u->h'.get? b=some u) (hp:h.objs.size <= a) (new:vd P w (upd H a o) h' a o):HOk P w (upd H a o) h':=fun b u e=>by
 have hn:=x.fresh hp;by_cases hb:b=a
 ·subst hb;rw [gb] at e;cases e;exact new
 ·rw [zb hb] at e;exact (x b u e).stay (fun c v _ q=>k c v q) (fun c q=>by rw [zb (Kb q hn)];exact q) fun c xs q=>by rw [zb (Kb q hn)];exact q
end
noncomputable def Rd (H:Hp) (a:Addr) (u:HO):Prop:=H a=some u\/∃ o,H a=some (.frz o u)
theorem Rd.of {H:Hp} {a:Addr} {u:HO} (h:H a=some u):Rd H a u:=.inl h
theorem Rd.ok {P:Program} {w:World} {H:Hp} {h:Heap} {a:Addr} {u:HO} (r:Rd H a u) (x:HOk P w H h):vd P w H h a u:=by
 rcases r with r | ⟨o,r⟩
 ·exact x a u r
 ·obtain ⟨_,q⟩:=x a _ r;exact q
noncomputable def Mut:Option HO->Prop
 | some (.lst _)=>True
 | some (.dK _)=>True
 | some (.dT _)=>True
 | some (.set _ _)=>True
 | some (.ins _ _ _)=>True
 | some (.ext _)=>True
 | _=>False
section
variable {P:Program} {w:World} {H:Hp} {h h':Heap} {x e:Addr} {o':HO}
theorem HOk.write (ok:HOk P w H h) (mu:Mut (H x)) (he:e=x\/H e=some (.own x)) (k:∀ b u,b ≠ e->h.get? b=some u->h'.get? b=some u) (heo:∃ u,h'.get? e=some u)
  (new:vd P w (upd H x o') h' x o'):HOk P w (upd H x o') h':=fun b u q=>by
 have nown:∀ c y,H c=some (.own y)->c ≠ x:=fun c y r z=>by subst z;rw [r] at mu;exact mu
 have ntup:∀ c xs,H c=some (.tup xs)->c ≠ x:=fun c xs r z=>by subst z;rw [r] at mu;exact mu
 by_cases hb:b=x
 ·subst hb;rw [gb] at q;cases q;exact new
 ·rw [zb hb] at q;by_cases hbe:b=e
  ·have q':H b=some (.own x):=by
    rcases he with z | z
    ·exact absurd (hbe.trans z) hb
    ·rw [hbe];exact z
   rw [q] at q';cases q';obtain ⟨v,hv⟩:=heo;exact ⟨v,by rw [hbe];exact hv⟩
  ·refine (ok b u q).stay (fun c v hc r=>k c v ?_ r) (fun c r=>by rw [zb (nown c b r)];exact r) fun c xs r=>by rw [zb (ntup c xs r)];exact r
   rcases hc with rfl | hc
   ·exact hbe
   ·rintro rfl;rcases he with z | z
    ·exact nown c b hc z
    ·rw [hc] at z;cases z;exact hb rfl
end
structure Un (fs ex:List Addr) (H H':Hp) (h h':Heap):Prop where
 keep:∀ b o,h.get? b=some o->H b=none->b ∉ fs->b ∉ ex->h'.get? b=some o
 slot:∀ b o,h.get? b=some o->H b=none->b ∈ fs->b ∉ ex->∃ sl,h'.get? b=some { o with slots:=sl }
 free:∀ b o,h.get? b=some o->H b=none->b ∉ ex->H' b=none
 there:∀ b o,h.get? b=some o->b ∉ ex->∃ o',h'.get? b=some o'
 tups:∀ b xs,H b=some (.tup xs)->H' b=some (.tup xs)
 frzs:∀ b o u,H b=some (.frz o u)->H' b=some (.frz o u)
 tbls:∀ b ps,H b=some (.tbl ps)->∃ more,H' b=some (.tbl (ps ++ more))
section
variable {fs fs' ex ex':List Addr} {H H1 H2:Hp} {h h1 h2 h':Heap} {a x e:Addr} {o:HO}
theorem Un.any (u:Un fs ex H H1 h h1) {b:Addr} {ob:Obj} (q:h.get? b=some ob) (n:H b=none) (hx:b ∉ ex):∃ sl,h1.get? b=some { ob with slots:=sl }:=by
 by_cases hb:b ∈ fs
 ·exact u.slot b ob q n hb hx
 ·exact ⟨ob.slots,u.keep b ob q n hb hx⟩
theorem Un.trans (a:Un fs ex H H1 h h1) (b:Un fs ex H1 H2 h1 h2):Un fs ex H H2 h h2 where
 keep:=fun c ob q n hc hx=>b.keep c ob (a.keep c ob q n hc hx) (a.free c ob q n hx) hc hx
 slot:=fun c ob q n hc hx=>by
  obtain ⟨sl,e1⟩:=a.slot c ob q n hc hx;obtain ⟨sl',e2⟩:=b.slot c _ e1 (a.free c ob q n hx) hc hx;exact ⟨sl',e2⟩
 free:=fun c ob q n hx=>by
  obtain ⟨o',e1⟩:=a.there c ob q hx;exact b.free c o' e1 (a.free c ob q n hx) hx
 there:=fun c ob q hx=>by
  obtain ⟨o',e1⟩:=a.there c ob q hx;exact b.there c o' e1 hx
 tups:=fun c xs q=>b.tups c xs (a.tups c xs q)
 frzs:=fun c ob xs q=>b.frzs c ob xs (a.frzs c ob xs q)
 tbls:=fun c ps q=>by
  obtain ⟨m1,e1⟩:=a.tbls c ps q;obtain ⟨m2,e2⟩:=b.tbls c _ e1;exact ⟨m1 ++ m2,by rw [e2,Array.append_assoc]⟩
theorem Un.kept (k:∀ b u,h.get? b=some u->h'.get? b=some u):Un fs ex H H h h':=
 ⟨fun b ob q _ _ _=>k b ob q,fun b ob q _ _ _=>⟨ob.slots,k b ob q⟩,fun _ _ _ n _=>n,fun b ob q _=>⟨ob,k b ob q⟩,fun _ _ q=>q,fun _ _ _ q=>q,fun _ ps q=>⟨#[],by rw [q];simp⟩⟩
theorem Un.refl:Un fs ex H H h h:=Un.kept fun _ _ q=>q
theorem Un.laid (k:∀ b u,h.get? b=some u->h'.get? b=some u) (hp:h.objs.size <= a) (hn:H a=none):Un fs ex H (upd H a o) h h' where
 keep:=fun b u q _ _ _=>k b u q
 slot:=fun b u q _ _ _=>⟨u.slots,k b u q⟩
 free:=fun b u q n _=>by rw [zb (Nat.ne_of_lt (Nat.lt_of_lt_of_le (Heap.lt_size q) hp))];exact n
 there:=fun b u q _=>⟨u,k b u q⟩
 tups:=fun b xs q=>by rw [zb (Kb q hn)];exact q
 frzs:=fun b u xs q=>by rw [zb (Kb q hn)];exact q
 tbls:=fun b ps q=>⟨#[],by rw [zb (Kb q hn),q];simp⟩
theorem Un.write (mu:Mut (H x)) (he:e=x\/H e=some (.own x)) (k:∀ b u,b ≠ e->h.get? b=some u->h'.get? b=some u) (heo:∃ u,h'.get? e=some u):Un fs ex H (upd H x o) h h':=by
 have hx:∀ b,H b=none->b ≠ x:=fun b n z=>by subst z;rw [n] at mu;exact mu
 have hb:∀ b,H b=none->b ≠ e:=fun b n z=>by
  subst z;rcases he with r | r
  ·exact hx b n r
  ·rw [n] at r;cases r
 have hm:∀ b u,H b=some u->¬ Mut (some u)->b ≠ x:=fun b u q nm z=>by subst z;rw [q] at mu;exact nm mu
 refine ⟨fun b u q n _ _=>k b u (hb b n) q,fun b u q n _ _=>⟨u.slots,k b u (hb b n) q⟩,fun b u q n _=>by rw [zb (hx b n)];exact n,fun b u q _=>?_,
  fun b xs q=>by rw [zb (hm b _ q fun z=>z)];exact q,fun b u xs q=>by rw [zb (hm b _ q fun z=>z)];exact q,fun b ps q=>⟨#[],by rw [zb (hm b _ q fun z=>z),q];simp⟩⟩
 by_cases hbe:b=e
 ·subst hbe;exact heo
 ·exact ⟨u,k b u hbe q⟩
theorem Un.mono (u:Un fs ex H H1 h h1) (hs:∀ b ∈ fs,b ∈ fs') (hx:∀ b ∈ ex,b ∈ ex'):Un fs' ex' H H1 h h1:=
 ⟨fun b ob q n hb he=>u.keep b ob q n (fun z=>hb (hs b z)) fun z=>he (hx b z),fun _ _ q n _ he=>u.any q n fun z=>he (hx _ z),fun b ob q n he=>u.free b ob q n fun z=>he (hx b z),fun b ob q he=>u.there b ob q fun z=>he (hx b z),u.tups,u.frzs,u.tbls⟩
end
noncomputable def trk (h:Heap) (H:Hp):List Addr:=(List.range h.objs.size).filter fun a=>(H a).isSome
noncomputable def dH (h:Heap) (H:Hp):Heap:=PySem.W.hideAll h (trk h H)
theorem XC (h:Heap) (H:Hp):(dH h H).objs.size=h.objs.size:=PySem.W.hideAll_size _ _
theorem XG {h:Heap} {H:Hp} {b:Addr} {o:Obj} (e:h.get? b=some o) (n:H b=none):(dH h H).get? b=some o:=
 PySem.W.hideAll_get _ e fun hm=>by
  have q:(H b).isSome=true:=(List.mem_filter.mp hm).2;rw [n] at q;simp at q
theorem WI {h:Heap} {H:Hp} {b:Addr} {o:Obj} (e:(dH h H).get? b=some o):h.get? b=some o/\H b=none:=by
 have e':h.get? b=some o:=PySem.W.of_hideAll (trk h H) e;refine ⟨e',?_⟩;cases q:H b with
 | none=>rfl
 | some x=>
  have hm:b ∈ trk h H:=List.mem_filter.mpr ⟨List.mem_range.mpr (Heap.lt_size e'),by simp [q]⟩;have z:(dH h H).get? b=none:=PySem.W.hideAll_none (trk h H) hm;rw [z] at e;cases e
noncomputable def gJ (g h:Heap) (L:Addr):List (Addr × Obj):=(List.range h.objs.size).filterMap fun a=>if a=L\/(g.get? a).isSome=true then none else (h.get? a).map fun o=>(a,o)
noncomputable def rest (g h:Heap) (L d:Addr):List (Addr × Obj):=(gJ g h L).filter fun p=>decide (p.1 ≠ d)
end L2
namespace L2
open PySem PySem.Spec PyProof.Rows
structure Mod (K:W.Frag) (mg:Str->Option Value) (base:Heap):Prop where
 kin:K.In base
 glob:base.Ns mainGlobals mg
 blt:∃ mb,base.Ns builtinsNs mb/\∀ x:Str,x ≠ "__name__" -> mb x=bootBuiltins x
 nolimit:base.NoLimit
structure Cx where
 prog:Program
 w:World
 K:W.Frag
 mg:Str->Option Value
 base:Heap
 A:Around
 N:List Str
 s₀:Shared
 H₀:Hp
 env:Env
 outer:List Env
 stack:List Env
 ex:List Addr
 fn:Str->Bool
 calm:Bool
 pn:List (Addr × Obj)
 xe:Value->Shared->Prop
noncomputable def frs (l:List Env):List Addr:=l.filterMap (·.frame)
noncomputable abbrev Cx.fs (X:Cx):List Addr:=frs X.outer
noncomputable def Vis (sc:Scope) (x:Str):Prop:=sc.names.lookup x=some .local\/sc.names.lookup x=some .cell\/sc.names.lookup x=some .free
noncomputable def Loc (sc:Scope) (x:Str):Prop:=sc.names.lookup x=some .local\/sc.names.lookup x=some .cell
noncomputable def FO (env:Env) (h:Heap) (m:Str->Option Value) (x:Str) (u:Value):Prop:=
 (env.kindOf x=some .local/\m x=some u)\/((env.kindOf x=some .cell\/env.kindOf x=some .free)/\∃ c,env.cells.lookup x=some c/\h.IsCell c (some u))
structure Cx.Ok (X:Cx):Prop where
 mod:Mod X.K X.mg X.base
 kind:X.env.scope.kind=.function
 glob:X.env.globals=mainGlobals
 blt:X.env.builtins=builtinsNs
 above:X.s₀.heap.objs.size <= X.env.locals
 inj:∀ x y c,X.env.cells.lookup x=some c->X.env.cells.lookup y=some c->x=y
 has:∀ x,(X.env.kindOf x=some .cell\/X.env.kindOf x=some .free)->∃ c,X.env.cells.lookup x=some c
 cab:∀ x c,X.fn x=true->X.env.cells.lookup x=some c->X.s₀.heap.objs.size <= c
 hd:X.calm=true->X.A.handled=none
 frames:X.A.frames=some X.stack
 stk:X.stack=X.outer\/(X.stack=X.env :: X.outer/\X.env.frame=some X.env.locals)
 exf:∀ b ∈ X.ex,b ≠ X.env.locals/\∀ x c,X.env.cells.lookup x=some c->c ≠ b
 bs:∀ b o,X.base.get? b=some o->X.s₀.heap.get? b=some o/\X.H₀ b=none
 bsz:X.base.objs.size <= X.s₀.heap.objs.size
 noex:∀ b o,X.base.get? b=some o->b ∉ X.ex
 exfs:∀ b ∈ X.ex,b ∉ X.fs
 funs:X.s₀.heap.FunFrames X.base X.outer
 frf:∀ b ∈ X.fs,X.H₀ b=none
structure Inv (X:Cx) (pins:List (Addr × Obj)) (σ:List (Option V)) (H:Hp) (s:Shared):Prop where
 ok:X.Ok
 os:s.os=X.s₀.os
 bare:AllBare s.gens
 base:Un X.fs X.ex X.H₀ H X.s₀.heap s.heap
 loc:∃ m,s.heap.Ns X.env.locals m/\∀ (i:Nat) (x:Str) (v:V),X.N[i]? = some x->σ[i]? = some (some v)->Vis X.env.scope x->∃ u,Td v u/\FO X.env s.heap m x u
 cell:∀ x c,X.env.cells.lookup x=some c->∃ v,s.heap.IsCell c v
 free:H X.env.locals=none
 freeC:∀ x c,X.env.cells.lookup x=some c->H c=none
 pin:∀ p ∈ X.pn ++ pins,s.heap.get? p.1=some p.2/\H p.1=none/\p.1 ≠ X.env.locals/\p.1 ∉ X.fs/\∀ v,p.2.data ≠ .cell v
 hok:HOk X.prog X.w H s.heap
 len:σ.length=X.N.length
section
variable {X:Cx} {pins:List (Addr × Obj)} {σ:List (Option V)} {H H':Hp} {s:Shared} {h':Heap}
theorem Cx.Ok.nofr (ok:X.Ok) {b:Addr} {o:Obj} (e:X.base.get? b=some o):b ∉ X.fs:=fun hb=>by
 have:=(ok.funs.mem hb).1;rw [e] at this;cases this
theorem Inv.bs (I:Inv X pins σ H s):∀ b o,X.base.get? b=some o->s.heap.get? b=some o/\H b=none:=fun b o e=>
 ⟨I.base.keep b o (I.ok.bs b o e).1 (I.ok.bs b o e).2 (I.ok.nofr e) (I.ok.noex b o e),I.base.free b o (I.ok.bs b o e).1 (I.ok.bs b o e).2 (I.ok.noex b o e)⟩
theorem Inv.bk (I:Inv X pins σ H s):∀ b o,X.base.get? b=some o->s.heap.get? b=some o:=fun b o e=>(I.bs b o e).1
theorem Inv.mod (I:Inv X pins σ H s):Mod X.K X.mg X.base:=I.ok.mod
theorem Inv.kIn (I:Inv X pins σ H s):X.K.In s.heap:=I.ok.mod.kin.keeps I.bk
theorem Inv.nolimit (I:Inv X pins σ H s):s.heap.NoLimit:=I.ok.mod.nolimit.keeps I.bk
theorem Inv.fr (I:Inv X pins σ H s):∃ m,Fr X.base X.env.locals s.heap m:=
 let ⟨m,hn,_⟩:=I.loc
 ⟨m,hn,I.bk,Nat.le_trans I.ok.bsz I.ok.above⟩
theorem Inv.lt (I:Inv X pins σ H s):X.env.locals < s.heap.objs.size:=let ⟨_,hn,_⟩:=I.loc;hn.lt
theorem Inv.sz (I:Inv X pins σ H s):X.s₀.heap.objs.size <= s.heap.objs.size:=Nat.le_trans I.ok.above (Nat.le_of_lt I.lt)
theorem Inv.nofs (I:Inv X pins σ H s) {a:Addr} (h:s.heap.objs.size <= a):a ∉ X.fs:=fun hb=>by
 obtain ⟨_,o,ho,_⟩:=I.ok.funs.mem hb;exact absurd (Nat.lt_of_lt_of_le (Heap.lt_size ho) (Nat.le_trans I.sz h)) (Nat.lt_irrefl _)
theorem Inv.cne (I:Inv X pins σ H s):∀ x c,X.env.cells.lookup x=some c->c ≠ X.env.locals:=fun x c e z=>by
 obtain ⟨v,o,ho,hd⟩:=I.cell x c e;obtain ⟨m,⟨o',es,ep,ho',hd',_⟩,_⟩:=I.loc;rw [z,ho'] at ho;cases ho;rw [hd'] at hd;cases hd
theorem Inv.funs (I:Inv X pins σ H s):s.heap.FunFrames X.base X.outer:=by
 have all:∀ (l:List Env),(∀ b ∈ frs l,b ∈ X.fs)->X.s₀.heap.FunFrames X.base l->s.heap.FunFrames X.base l:=by
  intro l
  induction l with
  | nil=>intro _ _;trivial
  | cons env r ih=>
   intro hs hl;obtain ⟨hk,⟨L,o,hf,hn,ho,hd⟩,hr⟩:=hl;have hL:L ∈ X.fs:=hs L (by unfold frs;rw [List.filterMap_cons,hf];exact mem_cons_self);obtain ⟨sl,e⟩:=I.base.slot L o ho (I.ok.frf L hL) hL fun z=>I.ok.exfs L z hL
   exact ⟨hk,⟨L,_,hf,hn,e,hd⟩,ih (fun b hb=>hs b (by unfold frs;rw [List.filterMap_cons,hf];exact mem_cons_of_mem _ hb)) hr⟩
 exact all X.outer (fun _ hb=>hb) I.ok.funs
theorem Inv.stack (I:Inv X pins σ H s):s.heap.FunFrames X.base X.stack:=by
 rcases I.ok.stk with e | ⟨e,hf⟩
 ·rw [e];exact I.funs
 ·rw [e];obtain ⟨m,hn,_⟩:=I.loc;refine .cons (by rw [I.ok.kind];decide) hf hn ?_ I.funs;exact Heap.get?_none_of_le (Nat.le_trans I.ok.bsz I.ok.above)
theorem Inv.stkSub (I:Inv X pins σ H s):∀ b ∈ frs X.stack,b ∈ X.env.locals :: X.fs:=fun b hb=>by
 rcases I.ok.stk with e | ⟨e,hf⟩
 ·rw [e] at hb;exact mem_cons_of_mem _ hb
 ·rw [e] at hb;unfold frs at hb;rw [List.filterMap_cons,hf] at hb;exact hb
theorem Inv.stkFree (I:Inv X pins σ H s):∀ b ∈ frs X.stack,H b=none:=fun b hb=>by
 rcases List.mem_cons.mp (I.stkSub b hb) with e | hb
 ·rw [e];exact I.free
 ·obtain ⟨_,o,ho,_⟩:=I.ok.funs.mem hb;exact I.base.free b o ho (I.ok.frf b hb) fun z=>I.ok.exfs b z hb
theorem Inv.step {g':Array GenState} {t':Nat} {d':Drawn} {ch:List Addr} (I:Inv X pins σ H s)
  (hch:∀ b ∈ ch,(b ∈ X.ex\/X.s₀.heap.objs.size <= b)/\b ≠ X.env.locals/\(∀ x c,X.env.cells.lookup x=some c->c ≠ b)/\∀ p ∈ X.pn ++ pins,p.1 ≠ b)
  (keep:∀ b o,b ≠ X.env.locals->b ∉ X.fs->b ∉ ch->s.heap.get? b=some o->H b=none->h'.get? b=some o)
  (slot:∀ b o,b ≠ X.env.locals->b ∈ X.fs->b ∉ ch->s.heap.get? b=some o->H b=none->∃ sl,h'.get? b=some { o with slots:=sl }) (free:∀ b o,b ∉ ch->s.heap.get? b=some o->H b=none->H' b=none)
  (there:∀ b o,b ∉ ch->s.heap.get? b=some o->∃ o',h'.get? b=some o')
  (tups:∀ b xs,H b=some (.tup xs)->H' b=some (.tup xs)) (frzs:∀ b o u,H b=some (.frz o u)->H' b=some (.frz o u)) (tbls:∀ b ps,H b=some (.tbl ps)->∃ more,H' b=some (.tbl (ps ++ more)))
  (ns:∀ m,s.heap.Ns X.env.locals m->h'.Ns X.env.locals m) (hok:HOk X.prog X.w H' h') (hg:AllBare g') :
  Inv X pins σ H' { s with heap:=h',gens:=g',drawn:=d',toks:=t' }:=by
 have neL:∀ b o,X.s₀.heap.get? b=some o->b ≠ X.env.locals:=fun b o e=>Nat.ne_of_lt (Nat.lt_of_lt_of_le (Heap.lt_size e) I.ok.above)
 have neC:∀ b o,X.s₀.heap.get? b=some o->b ∉ X.ex->b ∉ ch:=fun b o e hx hb=>by
  rcases (hch b hb).1 with z | z
  ·exact hx z
  ·exact absurd (Nat.lt_of_lt_of_le (Heap.lt_size e) z) (Nat.lt_irrefl _)
 have cellK:∀ x c,X.env.cells.lookup x=some c->∀ v,s.heap.IsCell c v->h'.IsCell c v:=fun x c e v ⟨o,ho,hd⟩=>by
  have nch:c ∉ ch:=fun z=>(hch c z).2.2.1 x c e rfl
  by_cases hc:c ∈ X.fs
  ·obtain ⟨sl,q⟩:=slot c o (I.cne x c e) hc nch ho (I.freeC x c e);exact ⟨_,q,hd⟩
  ·exact ⟨o,keep c o (I.cne x c e) hc nch ho (I.freeC x c e),hd⟩
 refine ⟨I.ok,I.os,hg,⟨fun b o e n hb hx=>?_,fun b o e n hb hx=>?_,fun b o e n hx=>?_,fun b o e hx=>?_,fun b xs e=>tups b xs (I.base.tups b xs e),fun b o xs e=>frzs b o xs (I.base.frzs b o xs e),fun b ps e=>?_⟩,?_,fun x c e=>?_,?_,fun x c e=>?_,fun p hp=>?_,hok,I.len⟩
 ·exact keep b o (neL b o e) hb (neC b o e hx) (I.base.keep b o e n hb hx) (I.base.free b o e n hx)
 ·obtain ⟨sl,e1⟩:=I.base.slot b o e n hb hx;obtain ⟨sl',e2⟩:=slot b _ (neL b o e) hb (neC b o e hx) e1 (I.base.free b o e n hx);exact ⟨sl',e2⟩
 ·obtain ⟨o',e1⟩:=I.base.there b o e hx;exact free b o' (neC b o e hx) e1 (I.base.free b o e n hx)
 ·obtain ⟨o',e1⟩:=I.base.there b o e hx;exact there b o' (neC b o e hx) e1
 ·obtain ⟨m1,e1⟩:=I.base.tbls b ps e;obtain ⟨m2,e2⟩:=tbls b _ e1;exact ⟨m1 ++ m2,by rw [e2,Array.append_assoc]⟩
 ·obtain ⟨m,hn,hl⟩:=I.loc;refine ⟨m,ns m hn,fun i x v e1 e2 e3=>?_⟩;obtain ⟨u,r,l⟩:=hl i x v e1 e2 e3;refine ⟨u,r,?_⟩;rcases l with l | ⟨k,c,e,z⟩
  ·exact .inl l
  ·exact .inr ⟨k,c,e,cellK x c e _ z⟩
 ·obtain ⟨v,z⟩:=I.cell x c e;exact ⟨v,cellK x c e v z⟩
 ·obtain ⟨m,⟨o,_,_,ho,_⟩,_⟩:=I.loc;exact free _ o (fun z=>(hch _ z).2.1 rfl) ho I.free
 ·obtain ⟨v,o,ho,hd⟩:=I.cell x c e;exact free c o (fun z=>(hch c z).2.2.1 x c e rfl) ho (I.freeC x c e)
 ·obtain ⟨e,n,ne,nf,d⟩:=I.pin p hp;have nch:p.1 ∉ ch:=fun z=>(hch p.1 z).2.2.2 p hp rfl
  exact ⟨keep p.1 p.2 ne nf nch e n,free p.1 p.2 nch e n,ne,nf,d⟩
theorem Inv.un {t':Nat} (I:Inv X pins σ H s) (u:Un X.fs [] H H' s.heap h') (hok:HOk X.prog X.w H' h'):Inv X pins σ H' { s with heap:=h',toks:=t' }:=by
 obtain ⟨m,⟨o,es,ep,ho,r⟩,_⟩:=id I.loc;obtain ⟨sl,hL⟩:=u.any ho I.free (by simp);exact I.step (g':=s.gens) (d':=s.drawn) (ch:=[]) (fun _ z=>nomatch z) (fun b o _ hb _ e n=>u.keep b o e n hb (by simp)) (fun b o _ hb _ e n=>u.slot b o e n hb (by simp)) (fun b o _ e n=>u.free b o e n (by simp)) (fun b o _ e=>u.there b o e (by simp)) u.tups u.frzs u.tbls (fun m' hm=>by
  obtain ⟨o',es',ep',ho',r'⟩:=hm;rw [ho] at ho';cases ho';exact ⟨_,es',ep',hL,r'⟩) hok I.bare
theorem Inv.call {g':Array GenState} {t':Nat} {d':Drawn} {ch:List Addr} (I:Inv X pins σ H s) (u:Un (frs X.stack) ch H H' s.heap h') (hok:HOk X.prog X.w H' h') (hg:AllBare g')
  (hch:∀ b ∈ ch,(b ∈ X.ex\/X.s₀.heap.objs.size <= b)/\b ≠ X.env.locals/\(∀ x c,X.env.cells.lookup x=some c->c ≠ b)/\∀ p ∈ X.pn ++ pins,p.1 ≠ b) :
  Inv X pins σ H' { s with heap:=h',gens:=g',drawn:=d',toks:=t' }:=by
 obtain ⟨m,⟨o,es,ep,ho,r⟩,_⟩:=id I.loc;obtain ⟨sl,hL⟩:=u.any ho I.free fun z=>(hch _ z).2.1 rfl
 exact I.step (ch:=ch) hch (fun b o hL hb hc e n=>u.keep b o e n (fun z=>(List.mem_cons.mp (I.stkSub b z)).elim hL hb) hc) (fun b o _ _ hc e n=>u.any e n hc) (fun b o hc e n=>u.free b o e n hc) (fun b o hc e=>u.there b o e hc) u.tups u.frzs u.tbls (fun m' hm=>by
  obtain ⟨o',es',ep',ho',r'⟩:=hm;rw [ho] at ho';cases ho';exact ⟨_,es',ep',hL,r'⟩) hok hg
theorem Inv.turned {t':Nat} {it:Addr} (I:Inv X pins σ H s) (k:∀ b o,b ≠ it->s.heap.get? b=some o->h'.get? b=some o) (hn:H it=none) (hL:it ≠ X.env.locals)
  (h1:it ∈ X.ex\/X.s₀.heap.objs.size <= it) (h2:∀ x c,X.env.cells.lookup x=some c->c ≠ it) (h3:∀ p ∈ X.pn ++ pins,p.1 ≠ it):Inv X pins σ H { s with heap:=h',toks:=t' }:=by
 have nit:∀ b u,H b=some u->b ≠ it:=fun b u e z=>by rw [z,hn] at e;cases e
 refine I.step (g':=s.gens) (d':=s.drawn) (ch:=[it]) (fun b hb=>?_) (fun b o _ _ hc e _=>k b o (fun z=>hc (by simp [z])) e) (fun b o _ _ hc e _=>⟨o.slots,k b o (fun z=>hc (by simp [z])) e⟩) (fun _ _ _ _ n=>n)
  (fun b o hc e=>⟨o,k b o (fun z=>hc (by simp [z])) e⟩) (fun _ _ e=>e) (fun _ _ _ e=>e) (fun b ps e=>⟨#[],by rw [e];simp⟩) (fun m hm=>?_) (fun b u e=>?_) I.bare
 ·have e:b=it:=by simpa using hb
  subst e;exact ⟨h1,hL,h2,h3⟩
 ·obtain ⟨o,es,ep,ho,r⟩:=hm;exact ⟨o,es,ep,k _ o (Ne.symm hL) ho,r⟩
 ·refine (I.hok b u e).stay (fun c v hc q=>k c v ?_ q) (fun _ q=>q) fun _ _ q=>q
  rcases hc with z | z
  ·rw [z];exact nit b u e
  ·exact nit c _ z
theorem Inv.tok (I:Inv X pins σ H s) (t:Nat):Inv X pins σ H { s with toks:=t }:=I.un (h':=s.heap) (t':=t) Un.refl I.hok
theorem Inv.kept {t':Nat} (I:Inv X pins σ H s) (k:∀ b u,s.heap.get? b=some u->h'.get? b=some u):Inv X pins σ H { s with heap:=h',toks:=t' }:=I.un (Un.kept k) (I.hok.kept k)
theorem Inv.laid {a:Addr} {o:HO} {t':Nat} (I:Inv X pins σ H s) (k:∀ b u,s.heap.get? b=some u->h'.get? b=some u) (hp:s.heap.objs.size <= a) (new:vd X.prog X.w (upd H a o) h' a o) :
  Inv X pins σ (upd H a o) { s with heap:=h',toks:=t' }:=I.un (Un.laid k hp (I.hok.fresh hp)) (I.hok.laid k hp new)
theorem Inv.write {x e:Addr} {o:HO} {t':Nat} (I:Inv X pins σ H s) (mu:Mut (H x)) (he:e=x\/H e=some (.own x)) (k:∀ b u,b ≠ e->s.heap.get? b=some u->h'.get? b=some u) (heo:∃ u,h'.get? e=some u)
  (new:vd X.prog X.w (upd H x o) h' x o):Inv X pins σ (upd H x o) { s with heap:=h',toks:=t' }:=I.un (Un.write mu he k heo) (I.hok.write mu he k heo new)
theorem Inv.weak {σ':List (Option V)} (I:Inv X pins σ H s) (hl:σ'.length=σ.length) (w:∀ (i:Nat) v,σ'[i]? = some (some v)->σ[i]? = some (some v)):Inv X pins σ' H s:=
 ⟨I.ok,I.os,I.bare,I.base,let ⟨m,hn,hl'⟩:=I.loc;⟨m,hn,fun i x v e1 e2 e3=>hl' i x v e1 (w i v e2) e3⟩,I.cell,I.free,I.freeC,I.pin,I.hok,hl.trans I.len⟩
theorem Inv.pins_of {pins':List (Addr × Obj)} (I:Inv X pins σ H s) (h:∀ p ∈ pins',s.heap.get? p.1=some p.2/\H p.1=none/\p.1 ≠ X.env.locals/\p.1 ∉ X.fs/\∀ v,p.2.data ≠ .cell v):Inv X pins' σ H s:=
 ⟨I.ok,I.os,I.bare,I.base,I.loc,I.cell,I.free,I.freeC,fun p hp=>(List.mem_append.mp hp).elim (fun z=>I.pin p (mem_append_left _ z)) (h p),I.hok,I.len⟩
theorem Hv {N:List Str} (hN:N.Nodup) {i j:Nat} {x:Str} (a:N[i]? = some x) (b:N[j]? = some x):i=j:=by
 obtain ⟨h1,e1⟩:=List.getElem?_eq_some_iff.mp a;obtain ⟨h2,e2⟩:=List.getElem?_eq_some_iff.mp b;exact (List.getElem_inj hN).mp (e1.trans e2.symm)
theorem fw {M:Model} {A:Around} {E:Value->Shared->Prop} {i:Nat} {x:Str} {v:V} {u:Value} {Q:Unit->Shared->Prop} (I:Inv X pins σ H s) (hN:X.N.Nodup) (hi:X.N[i]? = some x) (hx:Loc X.env.scope x) (r:Td v u)
  (h:∀ s',Inv X pins (σ.set i (some v)) H s'->(∃ a,Heap.SameBut a s.heap s'.heap/\(a=X.env.locals\/X.env.cells.lookup x=some a))->Q () s') (hf:X.fn x=true\/X.env.scope.names.lookup x=some .local:=by first | exact .inl rfl | exact .inr rfl | assumption):wpAny M A (storeName X.env x u) Q E s:=by
 obtain ⟨m,hn,hl⟩:=id I.loc;have hcls:(X.env.scope.kind == .class || (X.env.scope.kind == .module && X.env.locals != X.env.globals))=false:=by rw [I.ok.kind];rfl
 have hiσ:i < σ.length:=by rw [I.len];exact (List.getElem?_eq_some_iff.mp hi).1
 have cne:=I.cne;have tracked:∀ {a:Addr} {h':Heap},(∃ o,s.heap.get? a=some o/\H a=none)->Heap.SameBut a s.heap h'->HOk X.prog X.w H h':=fun {a h'} ha hs b ob e=>by
  obtain ⟨_,_,hfree⟩:=ha;refine (I.hok b ob e).stay (fun c w' hc q=>(hs.2 c ?_).trans q) (fun _ q=>q) fun _ _ q=>q
  rintro rfl;rcases hc with rfl | hc
  ·rw [hfree] at e;cases e
  ·rw [hfree] at hc;cases hc
 rcases hx with hk | hk
 ·refine wpAny_storeName_local hk hn (fun h' hn' hs=>?_) hcls;obtain ⟨oL,_,_,hoL,_⟩:=id hn;refine h _ ⟨I.ok,I.os,I.bare,⟨fun b o e n hb hx=>?_,fun b o e n hb hx=>?_,I.base.free,fun b o e hx=>?_,I.base.tups,I.base.frzs,I.base.tbls⟩,⟨_,hn',fun j y v' e1 e2 e3=>?_⟩,fun y c e=>?_,I.free,I.freeC,fun p hp=>?_,tracked ⟨oL,hoL,I.free⟩ hs,by simpa using I.len⟩ ⟨_,hs,.inl rfl⟩
  ·exact (hs.2 b (Nat.ne_of_lt (Nat.lt_of_lt_of_le (Heap.lt_size e) I.ok.above))).trans (I.base.keep b o e n hb hx)
  ·obtain ⟨sl,e1⟩:=I.base.slot b o e n hb hx;exact ⟨sl,(hs.2 b (Nat.ne_of_lt (Nat.lt_of_lt_of_le (Heap.lt_size e) I.ok.above))).trans e1⟩
  ·obtain ⟨o',e1⟩:=I.base.there b o e hx;exact ⟨o',(hs.2 b (Nat.ne_of_lt (Nat.lt_of_lt_of_le (Heap.lt_size e) I.ok.above))).trans e1⟩
  ·by_cases hj:j=i
   ·subst hj;rw [hi] at e1;cases e1;rw [getElem?_set_self hiσ] at e2;cases e2;exact ⟨u,r,.inl ⟨hk,by simp⟩⟩
   ·rw [getElem?_set_ne (Ne.symm hj)] at e2;obtain ⟨u',r',q⟩:=hl j y v' e1 e2 e3;refine ⟨u',r',?_⟩;rcases q with ⟨k,e⟩ | ⟨k,c,e,z⟩
    ·refine .inl ⟨k,?_⟩;have:y ≠ x:=fun e=>hj (Hv hN e1 (e ▸ hi))
     simp [this,e]
    ·exact .inr ⟨k,c,e,z.sameBut hs (cne y c e)⟩
  ·obtain ⟨w',z⟩:=I.cell y c e;exact ⟨w',z.sameBut hs (cne y c e)⟩
  ·obtain ⟨e,n,ne,nf,d⟩:=I.pin p hp;exact ⟨(hs.2 p.1 ne).trans e,n,ne,nf,d⟩
 ·have hfn:X.fn x=true:=by
   rcases hf with z | z
   ·exact z
   ·rw [z] at hk;cases hk
  obtain ⟨c,hc⟩:=I.ok.has x (.inl hk);obtain ⟨w',z⟩:=I.cell x c hc;refine wpAny_storeName_cell I.ok.kind hk hc z (fun h' hc' hs=>?_);obtain ⟨oc,hoc,hocd⟩:=id z;refine h { s with heap:=h' } ⟨I.ok,I.os,I.bare,⟨fun b o e n hb hx=>?_,fun b o e n hb hx=>?_,I.base.free,fun b o e hx=>?_,I.base.tups,I.base.frzs,I.base.tbls⟩,⟨m,hn.sameBut hs (Ne.symm (cne x c hc)),fun j y v' e1 e2 e3=>?_⟩,fun y c' e=>?_,I.free,I.freeC,fun p hp=>?_,tracked ⟨oc,hoc,I.freeC x c hc⟩ hs,by simpa using I.len⟩ ⟨c,hs,.inr hc⟩
  ·exact (hs.2 b (Nat.ne_of_lt (Nat.lt_of_lt_of_le (Heap.lt_size e) (I.ok.cab x c hfn hc)))).trans (I.base.keep b o e n hb hx)
  ·obtain ⟨sl,e1⟩:=I.base.slot b o e n hb hx;exact ⟨sl,(hs.2 b (Nat.ne_of_lt (Nat.lt_of_lt_of_le (Heap.lt_size e) (I.ok.cab x c hfn hc)))).trans e1⟩
  ·obtain ⟨o',e1⟩:=I.base.there b o e hx;exact ⟨o',(hs.2 b (Nat.ne_of_lt (Nat.lt_of_lt_of_le (Heap.lt_size e) (I.ok.cab x c hfn hc)))).trans e1⟩
  ·by_cases hj:j=i
   ·subst hj;rw [hi] at e1;cases e1;rw [getElem?_set_self hiσ] at e2;cases e2;exact ⟨u,r,.inr ⟨.inl hk,c,hc,hc'⟩⟩
   ·rw [getElem?_set_ne (Ne.symm hj)] at e2;obtain ⟨u',r',q⟩:=hl j y v' e1 e2 e3;refine ⟨u',r',?_⟩;rcases q with q | ⟨k,c',e,z'⟩
    ·exact .inl q
    ·refine .inr ⟨k,c',e,z'.sameBut hs ?_⟩;rintro rfl;exact hj (Hv hN e1 (I.ok.inj _ _ _ e hc ▸ hi))
  ·by_cases hcc:c'=c
   ·subst hcc;exact ⟨_,hc'⟩
   ·obtain ⟨w2,z2⟩:=I.cell y c' e;exact ⟨w2,z2.sameBut hs hcc⟩
  ·obtain ⟨e,n,ne,nf,d⟩:=I.pin p hp;refine ⟨(hs.2 p.1 ?_).trans e,n,ne,nf,d⟩;intro q;rw [q,hoc] at e;have q':oc=p.2:=Option.some.inj e;exact d w' (by rw [<- q'];exact hocd)
theorem gq {M:Model} {A:Around} {E:Value->Shared->Prop} {i:Nat} {x:Str} {v:V} {u:Value} {Q:Unit->Shared->Prop} (I:Inv X pins σ H s) (hN:X.N.Nodup) (hi:X.N[i]? = some x) (hx:Loc X.env.scope x) (r:Td v u)
  (h:∀ s',Inv X pins (σ.set i (some v)) H s'->Q () s') (hf:X.fn x=true\/X.env.scope.names.lookup x=some .local:=by first | exact .inl rfl | exact .inr rfl | assumption):wpAny M A (storeName X.env x u) Q E s:=
 fw I hN hi hx r (fun s' I' _=>h s' I') hf
theorem Inv.call' {s':Shared} {ch:List Addr} (I:Inv X pins σ H s) (ho:s'.os=s.os) (u:Un (frs X.stack) ch H H' s.heap s'.heap) (hok:HOk X.prog X.w H' s'.heap) (hg:AllBare s'.gens)
  (hch:∀ b ∈ ch,(b ∈ X.ex\/X.s₀.heap.objs.size <= b)/\b ≠ X.env.locals/\(∀ x c,X.env.cells.lookup x=some c->c ≠ b)/\∀ p ∈ X.pn ++ pins,p.1 ≠ b):Inv X pins σ H' s':=by
 obtain ⟨h',g',d',t',o'⟩:=s';have e:o'=s.os:=ho;subst e;exact I.call (g':=g') (t':=t') (d':=d') u hok hg hch
end
noncomputable abbrev XK:=Value->Option Addr->Hp->Prop
noncomputable abbrev St:=List (Option V)
noncomputable abbrev VK:=V->Hp->Prop
noncomputable abbrev TE:=St->Hp->VK->Prop
noncomputable abbrev TT:=St->Hp->(Bool->Hp->Prop)->Prop
noncomputable abbrev TA:=St->Hp->(List V->Hp->Prop)->Prop
structure Mi where
 nx:St->Hp->Prop
 rt:VK
 bk:St->Hp->Prop:=fun _ _=>False
 ct:St->Hp->Prop:=fun _ _=>False
noncomputable abbrev TS:=Mi->St->Hp->Prop
noncomputable def EP (X:Cx) (pins:List (Addr × Obj)) (σ:St) (Q:VK) (u:Value) (s':Shared):Prop:=∃ v H',Inv X pins σ H' s'/\Td v u/\Q v H'
noncomputable def TP (X:Cx) (pins:List (Addr × Obj)) (σ:St) (Q:Bool->Hp->Prop) (b:Bool) (s':Shared):Prop:=∃ H',Inv X pins σ H' s'/\Q b H'
noncomputable def AP (X:Cx) (pins:List (Addr × Obj)) (σ:St) (Q:List V->Hp->Prop) (us:List Value) (s':Shared):Prop:=∃ vs H',Inv X pins σ H' s'/\Sd vs us/\Q vs H'
noncomputable def SP (X:Cx) (pins:List (Addr × Obj)) (D:Mi) (f:Flow) (s':Shared):Prop:=
 match f with
 | .next=>∃ σ' H',Inv X pins σ' H' s'/\D.nx σ' H'
 | .brk=>∃ σ' H',Inv X pins σ' H' s'/\D.bk σ' H'
 | .cont=>∃ σ' H',Inv X pins σ' H' s'/\D.ct σ' H'
 | .ret u=>∃ v σ' H',Inv X pins σ' H' s'/\Td v u/\D.rt v H'
noncomputable def PE (X:Cx) (e:Expr) (t:TE):Prop:=
 ∀ (pins:List (Addr × Obj)) (s:Shared) (σ:St) (H:Hp) (Q:VK),Inv X pins σ H s->t σ H Q->wpAny (model X.prog X.w) X.A (eval e X.env) (EP X pins σ Q) X.xe s
noncomputable def PT (X:Cx) (e:Expr) (t:TT):Prop:=
 ∀ (pins:List (Addr × Obj)) (s:Shared) (σ:St) (H:Hp) (Q:Bool->Hp->Prop),Inv X pins σ H s->t σ H Q->wpAny (model X.prog X.w) X.A (isTrue e X.env (eval e X.env)) (TP X pins σ Q) X.xe s
noncomputable def PW (X:Cx) (e:Expr) (t:TT):Prop:=
 ∀ (whole:Sem Value) (pins:List (Addr × Obj)) (s:Shared) (σ:St) (H:Hp) (Q:Bool->Hp->Prop),Inv X pins σ H s->t σ H Q->wpAny (model X.prog X.w) X.A (isTrue e X.env whole) (TP X pins σ Q) X.xe s
theorem PW.pt {X:Cx} {e:Expr} {t:TT} (h:PW X e t):PT X e t:=h _
noncomputable def PA (X:Cx) (es:List Expr) (t:TA):Prop:=
 ∀ (pos:Pos) (pins:List (Addr × Obj)) (s:Shared) (σ:St) (H:Hp) (Q:List V->Hp->Prop),Inv X pins σ H s->t σ H Q->wpAny (model X.prog X.w) X.A (spliced (backTo pos (starEach es X.env))) (AP X pins σ Q) X.xe s
noncomputable def PS (X:Cx) (st:Stmt) (t:TS):Prop:=
 ∀ (pins:List (Addr × Obj)) (s:Shared) (σ:St) (H:Hp) (D:Mi),Inv X pins σ H s->t D σ H->wpAny (model X.prog X.w) X.A (exec st X.env) (SP X pins D) X.xe s
noncomputable def PSs (X:Cx) (st:List Stmt) (t:TS):Prop:=
 ∀ (pins:List (Addr × Obj)) (s:Shared) (σ:St) (H:Hp) (D:Mi),Inv X pins σ H s->t D σ H->wpAny (model X.prog X.w) X.A (execs st X.env) (SP X pins D) X.xe s
theorem thn {α:Type} {t:Sem α} {Q Q':α->Shared->Prop} {M:Model} {A:Around} {E:Value->Shared->Prop} {s:Shared} (h:wpAny M A t Q E s) (hQ:∀ a s,Q a s->Q' a s):wpAny M A t Q' E s:=wpAny_mono h hQ fun _ _ x=>x
end L2
namespace L2
open PySem PySem.Spec PyProof.Rows
section
variable {X:Cx}
noncomputable def zN (i:Nat):TE:=fun σ H Q=>∃ v,σ[i]? = some (some v)/\Q v H
noncomputable def tC (v:V):TE:=fun _ H Q=>Q v H
theorem vL {i:Nat} {x:Str} {pos:Pos} (hN:X.N[i]? = some x) (hv:Vis X.env.scope x) (hd:(x == ("__debug__" : Str))=false:=by decide) (hcd:(x == ("__classdict__" : Str))=false:=by decide):PE X (.Name x pos) (zN i):=by
 intro pins s σ H Q I h;obtain ⟨v,e,h⟩:=h;obtain ⟨m,hn,hl⟩:=I.loc;obtain ⟨u,r,l⟩:=hl i x v hN e hv;have fin:EP X pins σ Q u s:=⟨v,H,I,r,h⟩;rcases l with ⟨hk,hm⟩ | ⟨hk,c,hc,hcell⟩
 ·exact wpAny_Name (wpAny_loadName_local I.ok.kind hk hn hm fin) hd
 ·rcases hk with hk | hk
  ·exact wpAny_Name (wpAny_loadName_cell I.ok.kind hk hc hcell fin) hd
  ·exact wpAny_Name (wpAny_loadName_free I.ok.kind hk hc hcell fin hcd) hd
theorem ib {i j pos}:PE X (.Constant (.int i) j pos) (tC (.int i)):=fun _ _ _ H _ I h=>wpAny_Constant_int ⟨.int i,H,I.tok _,⟨_,rfl⟩,h⟩
theorem cy {b j pos}:PE X (.Constant (.bool b) j pos) (tC (.bl b)):=fun _ _ _ H _ I h=>Constant_bool ⟨.bl b,H,I,rfl,h⟩
theorem Oz {j pos}:PE X (.Constant .none j pos) (tC .non):=fun _ _ _ H _ I h=>Constant_none ⟨.non,H,I,rfl,h⟩
theorem Jb {x j pos}:PE X (.Constant (.str x) j pos) (tC (.str x)):=fun _ _ _ H _ I h=>Calls.Constant_str ⟨.str x,H,I.tok _,⟨_,rfl⟩,h⟩
noncomputable def Gl (X:Cx) (x:Str):Prop:=X.env.kindOf x=some .globalImplicit
theorem ll {E:Value->Shared->Prop} {pins:List (Addr × Obj)} {s:Shared} {σ:St} {H:Hp} {x:Str} {u:Value} {pos:Pos} {Q:Value->Shared->Prop} (I:Inv X pins σ H s) (hg:Gl X x) (hm:X.mg x=some u) (h:Q u s)
  (hd:(x == ("__debug__" : Str))=false:=by decide):wpAny (model X.prog X.w) X.A (eval (.Name x pos) X.env) Q E s:=
 Calls.Name_function_global I.ok.kind hg (Calls.loadGlobal_global (by rw [I.ok.glob];exact I.mod.glob.keeps I.bk) hm h) hd
theorem Gu {E:Value->Shared->Prop} {pins:List (Addr × Obj)} {s:Shared} {σ:St} {H:Hp} {x:Str} {u:Value} {pos:Pos} {Q:Value->Shared->Prop} (I:Inv X pins σ H s) (hg:Gl X x) (hm:X.mg x=none) (hv:bootBuiltins x=some u) (h:Q u s)
  (hn:x ≠ "__name__" := by decide) (hd:(x == ("__debug__" : Str))=false:=by decide):wpAny (model X.prog X.w) X.A (eval (.Name x pos) X.env) Q E s:=by
 obtain ⟨mb,h1,h2⟩:=I.mod.blt;exact Calls.Name_function_global I.ok.kind hg (Calls.loadGlobal_builtin (by rw [I.ok.glob];exact I.mod.glob.keeps I.bk) hm (by rw [I.ok.blt];exact h1.keeps I.bk) ((h2 x hn).trans hv) h) hd
theorem qe {x:Str} {v:V} {u:Value} {pos:Pos} (hg:Gl X x) (hm:X.mg x=some u) (r:Td v u) (hd:(x == ("__debug__" : Str))=false:=by decide):PE X (.Name x pos) (tC v):=
 fun _ _ _ H _ I h=>ll I hg hm ⟨v,H,I,r,h⟩ hd
theorem Uy {x:Str} {v:V} {u:Value} {pos:Pos} (hg:Gl X x) (hm:X.mg x=none) (hv:bootBuiltins x=some u) (r:Td v u) (hn:x ≠ "__name__" := by decide) (hd:(x == ("__debug__" : Str))=false:=by decide):PE X (.Name x pos) (tC v):=
 fun _ _ _ H _ I h=>Gu I hg hm hv ⟨v,H,I,r,h⟩ hn hd
variable {a b:Expr} {ta tb:TE} {pos:Pos}
noncomputable def PC (X:Cx) (op:CmpOp) (a b:Expr) (t:TE):Prop:=
 ∀ (pins:List (Addr × Obj)) (s:Shared) (σ:St) (H:Hp) (Q:VK),Inv X pins σ H s->t σ H Q ->
  wpAny (model X.prog X.w) X.A (eval a X.env) (fun v s₁=>wpAny (model X.prog X.w) X.A (eval b X.env) (fun u s₂=>wpAny (model X.prog X.w) X.A (compareOp op v u) (EP X pins σ Q) X.xe s₂) X.xe s₁) X.xe s
theorem pF (b:Expr) {op:CmpOp} (h:op ≠ .In) (h2:op ≠ .NotIn):behindInMarks op b=false:=by
 have e1:(op == CmpOp.In)=false:=by cases op <;> first | rfl | exact absurd rfl h
 have e2:(op == CmpOp.NotIn)=false:=by cases op <;> first | rfl | exact absurd rfl h2
 cases b <;> simp [behindInMarks,e1,e2]
noncomputable def tB (t:TE):TT:=fun σ H Q=>t σ H fun x H1=>∃ c,x=.bl c/\Q c H1
theorem mI {op:CmpOp} {t:TE} (h:PC X op a b t) (h1:behindInMarks op b=false:=by first | exact pF _ (by decide) (by decide) | rfl):PT X (.Compare a [op] [b] pos) (tB t):=by
 intro pins s σ H Q I hw;refine wpAny_isTrue_Compare1 (thn (h pins s σ H _ I hw) fun v s1 h1=>thn h1 fun u s2 h2=>thn h2 fun c s3 hZ1=>?_) h1;obtain ⟨x,H1,I1,r1,q1⟩:=hZ1;obtain ⟨d,rfl,q⟩:=q1;cases r1;exact wpAny_truthy_bool ⟨H1,I1,q⟩
theorem zi {e:Expr} {t:TE} (h:PE X e t) (he:∀ whole,isTrue e X.env whole=(do let v <- whole;standAt e.pos;holding [v] (truthy v)):=by intro _;rfl):PT X e (tB t):=by
 intro pins s σ H Q I hw;refine isTrue_plain (thn (h pins s σ H _ I hw) fun v s1 hZ1=>?_) (he _);obtain ⟨x,H1,I1,r1,q1⟩:=hZ1;obtain ⟨d,rfl,q⟩:=q1;cases r1;exact wpAny_truthy_bool ⟨H1,I1,q⟩
variable {tA tB':TT} {rest:List Expr}
noncomputable def tO (t u:TT):TT:=fun σ H Q=>t σ H fun c H1=>if c=true then u σ H1 Q else Q false H1
noncomputable def tOr (t u:TT):TT:=fun σ H Q=>t σ H fun c H1=>if c=true then Q true H1 else u σ H1 Q
noncomputable def mO (t:TT):TT:=fun σ H Q=>t σ H fun c H1=>Q (!c) H1
theorem Cj (ha:PT X a tA):PW X (.BoolOp .And [a] pos) tA:=by
 intro wh pins s σ H Q I h;refine isTrue_and (thn (ha pins s σ H Q I h) fun c s1 e=>?_);cases c with
 | true=>exact isTrue_and_nil e
 | false=>exact e
theorem nu (ha:PT X a tA):PW X (.BoolOp .Or [a] pos) tA:=by
 intro wh pins s σ H Q I h;refine isTrue_or (thn (ha pins s σ H Q I h) fun c s1 e=>?_);cases c with
 | false=>exact isTrue_or_nil e
 | true=>exact e
theorem Ol (ha:PT X a tA) (hb:PW X (.BoolOp .And (b :: rest) pos) tB'):PW X (.BoolOp .And (a :: b :: rest) pos) (tO tA tB'):=by
 intro wh pins s σ H Q I h;refine isTrue_and (thn (ha pins s σ H _ I h) fun c s1 hZ1=>?_);obtain ⟨H1,I1,q1⟩:=hZ1;cases c with
 | true=>exact hb wh pins s1 σ H1 Q I1 q1
 | false=>exact ⟨H1,I1,q1⟩
theorem wy (ha:PT X a tA) (hb:PW X (.BoolOp .Or (b :: rest) pos) tB'):PW X (.BoolOp .Or (a :: b :: rest) pos) (tOr tA tB'):=by
 intro wh pins s σ H Q I h;refine isTrue_or (thn (ha pins s σ H _ I h) fun c s1 hZ1=>?_);obtain ⟨H1,I1,q1⟩:=hZ1;cases c with
 | true=>exact ⟨H1,I1,q1⟩
 | false=>exact hb wh pins s1 σ H1 Q I1 q1
theorem uu (ha:PT X a tA):PT X (.UnaryOp .Not a pos) (mO tA):=by
 intro pins s σ H Q I h;exact isTrue_not (ha pins s σ H (fun c H1=>Q (!c) H1) I h)
noncomputable def HL (ta tb:TE):TE:=fun σ H Q=>ta σ H fun x H1=>∃ c,x=.bl c/\if c=true then tb σ H1 Q else Q (.bl false) H1
noncomputable def kO (ta tb:TE):TE:=fun σ H Q=>ta σ H fun x H1=>∃ c,x=.bl c/\if c=true then Q (.bl true) H1 else tb σ H1 Q
noncomputable def EL (ta:TE):TE:=fun σ H Q=>ta σ H fun x H1=>∃ c,x=.bl c/\Q (.bl (!c)) H1
theorem Ew {op} {t:TE} (h:PE X a t):PE X (.BoolOp op [a] pos) t:=fun pins s σ H Q I hw=>BoolOp_one (h pins s σ H Q I hw)
theorem aE (ha:PE X a ta) (hb:PE X (.BoolOp .And (b :: rest) pos) tb):PE X (.BoolOp .And (a :: b :: rest) pos) (HL ta tb):=by
 intro pins s σ H Q I h;refine BoolOp_and (thn (ha pins s σ H _ I h) fun v s1 hZ1=>?_);obtain ⟨x,H1,I1,r1,q1⟩:=hZ1;obtain ⟨c,rfl,q1⟩:=q1;cases r1;refine wpAny_truthy_bool ?_;cases c with
 | true=>exact hb pins s1 σ H1 Q I1 q1
 | false=>exact ⟨.bl false,H1,I1,rfl,q1⟩
theorem jL (ha:PE X a ta) (hb:PE X (.BoolOp .Or (b :: rest) pos) tb):PE X (.BoolOp .Or (a :: b :: rest) pos) (kO ta tb):=by
 intro pins s σ H Q I h;refine BoolOp_or (thn (ha pins s σ H _ I h) fun v s1 hZ1=>?_);obtain ⟨x,H1,I1,r1,q1⟩:=hZ1;obtain ⟨c,rfl,q1⟩:=q1;cases r1;refine wpAny_truthy_bool ?_;cases c with
 | false=>exact hb pins s1 σ H1 Q I1 q1
 | true=>exact ⟨.bl true,H1,I1,rfl,q1⟩
theorem sL (ha:PE X a ta):PE X (.UnaryOp .Not a pos) (EL ta):=by
 intro pins s σ H Q I h;refine UnaryOp_ (thn (ha pins s σ H _ I h) fun v s1 hZ1=>?_);obtain ⟨x,H1,I1,r1,q1⟩:=hZ1;obtain ⟨c,rfl,q1⟩:=q1;cases r1;exact not_of (wpAny_truthy_bool ⟨.bl (!c),H1,I1,rfl,q1⟩)
noncomputable def tIf (t:TT) (ta tb:TE):TE:=fun σ H Q=>t σ H fun c H1=>if c=true then ta σ H1 Q else tb σ H1 Q
theorem Jv {c:Expr} (hc:PT X c tA) (ha:PE X a ta) (hb:PE X b tb):PE X (.IfExp c a b pos) (tIf tA ta tb):=by
 intro pins s σ H Q I h;refine wpAny_IfExp (thn (hc pins s σ H _ I h) fun d s1 hZ1=>?_);obtain ⟨H1,I1,q1⟩:=hZ1;cases d with
 | true=>exact ha pins s1 σ H1 Q I1 q1
 | false=>exact hb pins s1 σ H1 Q I1 q1
end
end L2
namespace L2
open PySem PySem.Spec PyProof.Rows
noncomputable def SqL (K:W.Frag) (H:Hp) (a:Addr) (xs:List V):Prop:=
 Rd H a (.lst xs) \/
  ∃ (o:Obj) (its:Array Value) (n:Nat),K.lookup a=some o/\o.cls=.type "list" /\ o.dict=none/\o.data=.seq its n/\its.size <= sizeLine/\Sd xs its.toList
noncomputable def SqT (K:W.Frag) (H:Hp) (a:Addr) (xs:List V):Prop:=
 Rd H a (.tup xs) \/
  ∃ (o:Obj) (its:Array Value) (n:Nat),K.lookup a=some o/\o.cls=.type "tuple" /\ o.data=.seq its n/\its.size <= sizeLine/\Sd xs its.toList
noncomputable def DO:Value->Option V
 | .none=>some .non
 | .bool b=>some (.bl b)
 | .int i _=>some (.int i)
 | .str x _=>some (.str x)
 | .bytes b _=>some (.byt b)
 | .float b _=>some (.flt b)
 | .ref a=>some (.ref a)
 | .type n=>some (.ty n)
 | _=>none
theorem Td.abs {x:V} {u:Value} (r:Td x u):DO u=some x:=by
 cases x with
 | non=>cases r;rfl
 | bl _=>cases r;rfl
 | int _=>obtain ⟨t,rfl⟩:=r;rfl
 | str _=>obtain ⟨t,rfl⟩:=r;rfl
 | byt _=>obtain ⟨t,rfl⟩:=r;rfl
 | flt _=>obtain ⟨t,rfl⟩:=r;rfl
 | ref _=>cases r;rfl
 | ty _=>cases r;rfl
theorem Td.inj {x y:V} {u:Value} (r:Td x u) (q:Td y u):x=y:=Option.some.inj (r.abs.symm.trans q.abs)
theorem Sd.inj:∀ {xs ys:List V} {us:List Value},Sd xs us->Sd ys us->xs=ys
 | _,_,_,.nil,.nil=>rfl
 | _,_,_,.cons r t,.cons r' t'=>by rw [r.inj r',Sd.inj t t']
section
variable {X:Cx} {pins:List (Addr × Obj)} {σ:St} {H:Hp} {s:Shared} {a:Addr} {xs ys:List V}
theorem SqL.of {K:W.Frag} (h:H a=some (.lst xs)):SqL K H a xs:=.inl (.inl h)
theorem SqT.of {K:W.Frag} (h:H a=some (.tup xs)):SqT K H a xs:=.inl (.inl h)
theorem Inv.list (I:Inv X pins σ H s) (h:SqL X.K H a xs):∃ its:List Value,Sd xs its/\PlainL s.heap a its.toArray/\xs.length <= sizeLine:=by
 rcases h with h | ⟨o,its,n,hk,hc,hd,hs,hz,r⟩
 ·obtain ⟨z,its,n,r,e⟩:=h.ok I.hok;exact ⟨its,r,⟨_,n,e,rfl,rfl,rfl⟩,z⟩
 ·refine ⟨its.toList,r,⟨o,n,I.kIn a o hk,hc,hd,by simpa using hs⟩,?_⟩;have e:=r.length;simp only [Array.length_toList] at e;omega
theorem Inv.tuple (I:Inv X pins σ H s) (h:SqT X.K H a xs):∃ its:List Value,Sd xs its/\IsTup s.heap a its.toArray/\xs.length <= sizeLine:=by
 rcases h with h | ⟨o,its,n,hk,hc,hs,hz,r⟩
 ·obtain ⟨z,its,r,p⟩:=h.ok I.hok;exact ⟨its,r,p,z⟩
 ·refine ⟨its.toList,r,⟨o,I.kIn a o hk,hc,n,by simpa using hs⟩,?_⟩;have e:=r.length;simp only [Array.length_toList] at e;omega
theorem Inv.list_inj (I:Inv X pins σ H s) (h:SqL X.K H a xs) (h':SqL X.K H a ys):xs=ys:=by
 obtain ⟨its,r,⟨o,n,e,_,_,d⟩,_⟩:=I.list h;obtain ⟨its',r',⟨o',n',e',_,_,d'⟩,_⟩:=I.list h';rw [e] at e';cases e';rw [d] at d';injection d' with d1 _;have:its=its':=by simpa using congrArg Array.toList d1
 subst this;exact r.inj r'
theorem Inv.tuple_inj (I:Inv X pins σ H s) (h:SqT X.K H a xs) (h':SqT X.K H a ys):xs=ys:=by
 obtain ⟨its,r,⟨o,e,_,n,d⟩,_⟩:=I.tuple h;obtain ⟨its',r',⟨o',e',_,n',d'⟩,_⟩:=I.tuple h';rw [e] at e';cases e';rw [d] at d';injection d' with d1 _;have:its=its':=by simpa using congrArg Array.toList d1
 subst this;exact r.inj r'
end
noncomputable abbrev Cx.wish (X:Cx) (E:Value->Shared->Prop):Cx:={ X with xe:=E }
noncomputable abbrev Cx.nox (X:Cx):Cx:=X.wish fun _ _=>False
theorem Cx.Ok.wish {X:Cx} (ok:X.Ok) (E:Value->Shared->Prop):(X.wish E).Ok:=
 ⟨ok.mod,ok.kind,ok.glob,ok.blt,ok.above,ok.inj,ok.has,ok.cab,ok.hd,ok.frames,ok.stk,ok.exf,ok.bs,ok.bsz,ok.noex,ok.exfs,ok.funs,ok.frf⟩
theorem Cx.Ok.unwish {X:Cx} {E:Value->Shared->Prop} (ok:(X.wish E).Ok):X.Ok:=
 ⟨ok.mod,ok.kind,ok.glob,ok.blt,ok.above,ok.inj,ok.has,ok.cab,ok.hd,ok.frames,ok.stk,ok.exf,ok.bs,ok.bsz,ok.noex,ok.exfs,ok.funs,ok.frf⟩
section
variable {X:Cx} {pins:List (Addr × Obj)} {σ:St} {H:Hp} {s:Shared} {E:Value->Shared->Prop}
theorem Inv.wish (I:Inv X pins σ H s) (E:Value->Shared->Prop):Inv (X.wish E) pins σ H s:=⟨I.ok.wish E,I.os,I.bare,I.base,I.loc,I.cell,I.free,I.freeC,I.pin,I.hok,I.len⟩
theorem Inv.unwish (I:Inv (X.wish E) pins σ H s):Inv X pins σ H s:=⟨I.ok.unwish,I.os,I.bare,I.base,I.loc,I.cell,I.free,I.freeC,I.pin,I.hok,I.len⟩
theorem SP.unwish {D:Mi} {f:Flow} {s':Shared} (h:SP (X.wish E) pins D f s'):SP X pins D f s':=by
 cases f with
 | next=>obtain ⟨σ',H',I,q⟩:=h;exact ⟨σ',H',I.unwish,q⟩
 | brk=>obtain ⟨σ',H',I,q⟩:=h;exact ⟨σ',H',I.unwish,q⟩
 | cont=>obtain ⟨σ',H',I,q⟩:=h;exact ⟨σ',H',I.unwish,q⟩
 | ret u=>obtain ⟨v,σ',H',I,r,q⟩:=h;exact ⟨v,σ',H',I.unwish,r,q⟩
theorem PE.nox {e:Expr} {t:TE} (h:PE X.nox e t):PE X e t:=fun pins s σ H Q I hw=>
 wpAny_mono (h pins s σ H Q (I.wish _) hw) (fun _ _ ⟨v,H',I',r,q⟩=>⟨v,H',I'.unwish,r,q⟩) fun _ _ z=>False.elim z
theorem PT.nox {e:Expr} {t:TT} (h:PT X.nox e t):PT X e t:=fun pins s σ H Q I hw=>
 wpAny_mono (h pins s σ H Q (I.wish _) hw) (fun _ _ ⟨H',I',q⟩=>⟨H',I'.unwish,q⟩) fun _ _ z=>False.elim z
theorem PSs.nox {st:List Stmt} {t:TS} (h:PSs X.nox st t):PSs X st t:=fun pins s σ H D I hw=>
 wpAny_mono (h pins s σ H D (I.wish _) hw) (fun _ _ q=>q.unwish) fun _ _ z=>False.elim z
end
section
variable {X:Cx} {st:Stmt} {rest:List Stmt} {t u:TS} {e:Expr} {te:TE} {pos:Pos}
noncomputable def CL:TS:=fun D σ H=>D.nx σ H
noncomputable def vO (t u:TS):TS:=fun D σ H=>t { D with nx:=u D } σ H
theorem fc:PSs X [] CL:=fun _ _ σ H _ I h=>wpAny_execs_nil ⟨σ,H,I,h⟩
theorem db (h1:PS X st t) (h2:PSs X rest u):PSs X (st :: rest) (vO t u):=by
 intro pins s σ H D I h;refine wpAny_execs_cons (thn (h1 pins s σ H { D with nx:=u D } I h) fun f s1 q=>?_);cases f with
 | next=>
  obtain ⟨σ',H',I',q⟩:=q;exact h2 pins s1 σ' H' D I' q
 | ret v=>exact q
 | brk=>exact q
 | cont=>exact q
theorem lb (h1:PS X st t):PSs X [st] t:=by
 intro pins s σ H D I h;refine wpAny_execs_cons (thn (h1 pins s σ H D I h) fun f s1 q=>?_);cases f with
 | next=>exact wpAny_execs_nil q
 | ret v=>exact q
 | brk=>exact q
 | cont=>exact q
theorem Inv.quiet {pins:List (Addr × Obj)} {σ:St} {H:Hp} {s:Shared} (I:Inv X pins σ H s):interactive X.env=false:=by simp [interactive,I.ok.kind]
noncomputable def pM (te:TE):TS:=fun D σ H=>te σ H fun _ H1=>D.nx σ H1
theorem nc (he:PE X e te) (hs:swapsWith e none pos.line X.env=pure false:=by rfl):PS X (.Expr e pos) (pM te):=by
 intro pins s σ H D I h;exact wpAny_Expr_any (thn (he pins s σ H _ I h) fun v s1 ⟨x,H1,I1,r1,q1⟩=>⟨σ,H1,I1,q1⟩) I.quiet hs
noncomputable def bN (te:TE):TS:=fun D σ H=>te σ H D.rt
theorem Qb (he:PE X e te):PS X (.Return (some e) pos) (bN te):=by
 intro pins s σ H D I h;exact wpAny_Return_some (thn (he pins s σ H _ I h) fun v s1 ⟨x,H1,I1,r1,q1⟩=>⟨x,σ,H1,I1,r1,q1⟩)
noncomputable def DN (c:TT) (t u:TS):TS:=fun D σ H=>c σ H fun b H1=>if b=true then t D σ H1 else u D σ H1
theorem Gd {c:Expr} {a b:List Stmt} {tc:TT} (hc:PT X c tc) (ha:PSs X a t) (hb:PSs X b u):PS X (.If c a b pos) (DN tc t u):=by
 intro pins s σ H D I h;refine wpAny_If (thn (hc pins s σ H _ I h) fun d s1 hZ1=>?_);obtain ⟨H1,I1,q1⟩:=hZ1;cases d with
 | true=>exact ha pins s1 σ H1 D I1 q1
 | false=>exact hb pins s1 σ H1 D I1 q1
noncomputable def YH:TS:=fun _ _ _=>False
theorem lh:PS X st YH:=fun _ _ _ _ _ _ h=>h.elim
end
noncomputable abbrev TG:=V->St->Hp->(St->Hp->Prop)->Prop
noncomputable abbrev TGs:=List V->St->Hp->(St->Hp->Prop)->Prop
noncomputable def PG (X:Cx) (target:Expr) (t:TG):Prop:=
 ∀ (pins:List (Addr × Obj)) (s:Shared) (σ:St) (H:Hp) (v:V) (u:Value) (Q:St->Hp->Prop),Inv X pins σ H s->Td v u->t v σ H Q ->
  wpAny (model X.prog X.w) X.A (assign target X.env u) (fun _ s'=>∃ σ' H',Inv X pins σ' H' s'/\Q σ' H') X.xe s
noncomputable def PGs (X:Cx) (ts:List Expr) (t:TGs):Prop:=
 ∀ (pins:List (Addr × Obj)) (s:Shared) (σ:St) (H:Hp) (vs:List V) (us:List Value) (Q:St->Hp->Prop),Inv X pins σ H s->Sd vs us->t vs σ H Q ->
  wpAny (model X.prog X.w) X.A (assignInOrder ((assignEach ts X.env).map (·.2)) us) (fun _ s'=>∃ σ' H',Inv X pins σ' H' s'/\Q σ' H') X.xe s
noncomputable abbrev WM:=V->V->V->Hp->(Hp->Prop)->Prop
noncomputable def jO (X:Cx) (t:WM):Prop:=
 ∀ (pins:List (Addr × Obj)) (s:Shared) (σ:St) (H:Hp) (o i v:V) (ov iv u:Value) (Q:Hp->Prop),Inv X pins σ H s->Td o ov->Td i iv->Td v u->t o i v H Q ->
  wpAny (model X.prog X.w) X.A (setItem ov iv u) (fun _ s'=>∃ H',Inv X pins σ H' s'/\Q H') X.xe s
section
variable {X:Cx} {pos:Pos}
noncomputable def Kw (i:Nat):TG:=fun v σ H Q=>Q (σ.set i (some v)) H
theorem Cb {i:Nat} {x:Str} (hN:X.N.Nodup) (hi:X.N[i]? = some x) (hx:Loc X.env.scope x) (hf:X.fn x=true\/X.env.scope.names.lookup x=some .local:=by first | exact .inl rfl | exact .inr rfl | assumption):PG X (.Name x pos) (Kw i):=by
 intro pins s σ H v u Q I r h;exact wpAny_assign_Name (gq I hN hi hx r (fun s' I'=>⟨_,H,I',h⟩) hf)
noncomputable def VM:TGs:=fun vs σ H Q=>vs=[]/\Q σ H
noncomputable def BA (t:TG) (u:TGs):TGs:=fun vs σ H Q=>∃ v r,vs=v :: r/\t v σ H fun σ' H'=>u r σ' H' Q
theorem Vg:PGs X [] VM:=by
 intro pins s σ H vs us Q I r h;obtain ⟨e,h⟩:=h;subst e;cases r;exact assignInOrder_nil ⟨σ,H,I,h⟩
theorem qc {e:Expr} {es:List Expr} {t:TG} {u:TGs} (h1:PG X e t) (h2:PGs X es u)
  (hs:(assignEach (e :: es) X.env).map (·.2)=assign e X.env :: (assignEach es X.env).map (·.2):=by rfl):PGs X (e :: es) (BA t u):=by
 intro pins s σ H vs us Q I r h;obtain ⟨v,vr,e1,h⟩:=h;subst e1;cases r with
 | cons r rr=>
  rw [hs];refine assignInOrder_cons (thn (h1 pins s σ H _ _ _ I r h) fun _ s1 hZ1=>?_);obtain ⟨σ1,H1,I1,q1⟩:=hZ1;exact h2 pins s1 σ1 H1 _ _ Q I1 rr q1
noncomputable def yM (K:W.Frag) (n:Nat) (t:TGs):TG:=fun v σ H Q=>∃ a xs,v=.ref a/\SqT K H a xs/\xs.length=n/\t xs σ H Q
theorem HM {es:List Expr} {k:Nat} {t:TGs} {n:Nat} (hc:X.calm=true) (h:PGs X es t)
  (hn:(assignEach es X.env).length=n:=by rfl) (hst:(assignEach es X.env).findIdx? (·.1)=none:=by rfl):PG X (.Tuple es k pos) (yM X.K n t):=by
 intro pins s σ H v u Q I r hw;obtain ⟨a,xs,e1,hq,hl,hw⟩:=hw;subst e1;cases r;obtain ⟨its,rv,ht,hz⟩:=I.tuple hq;refine assign_Tuple_tuple (I.ok.hd hc) ht (by simp [hn,<- hl,rv.length]) hst fun h' hx=>?_
 have I1:Inv X pins σ H { s with heap:=h' }:=I.kept (t':=s.toks) fun b o e=>hx b o (Nat.ne_of_lt (Heap.lt_size e)) e
 exact h pins _ σ H xs _ Q I1 (by simpa using rv) hw
noncomputable def oO (to ti:TE) (t:WM):TG:=fun v σ H Q=>to σ H fun o H1=>ti σ H1 fun i H2=>t o i v H2 fun H3=>Q σ H3
theorem Vo {o i:Expr} {to ti:TE} {t:WM} (ho:PE X o to) (hi:PE X i ti) (hs:jO X t)
  (ha:∀ v,assign (.Subscript o i pos) X.env v=(do
   let ov <- holding [v] (eval o X.env)
   let iv <- holding [v,ov] (eval i X.env)
   standAt pos
   holding [v,ov,iv] (setItem ov iv v)
   release [v,ov,iv] []):=by intro _;rfl):PG X (.Subscript o i pos) (oO to ti t):=by
 intro pins s σ H v u Q I r h;rw [ha];refine wpAny_bind (wpAny_holding (thn (ho pins s σ H _ I h) fun ov s1 hZ1=>?_));obtain ⟨x,H1,I1,r1,q1⟩:=hZ1;refine wpAny_bind (wpAny_holding (thn (hi pins s1 σ H1 _ I1 q1) fun iv s2 hZ1=>?_));obtain ⟨y,H2,I2,r2,q2⟩:=hZ1;refine wpAny_bind (wpAny_standAt (wpAny_bind (wpAny_holding (thn (hs pins s2 σ H2 x y v ov iv u _ I2 r1 r2 r q2) fun _ s3 hZ1=>?_))));obtain ⟨H3,I3,q3⟩:=hZ1;exact wpAny_release ⟨σ,H3,I3,q3⟩
noncomputable def QM (te:TE) (g:TG):TS:=fun D σ H=>te σ H fun x H1=>g x σ H1 D.nx
theorem gn {tg e:Expr} {te:TE} {g:TG} (he:PE X e te) (hg:PG X tg g) (hs:swapsWithSole [tg] e pos.line X.env=pure false:=by rfl) (hw:swappedStores [tg] e X.env=pure none:=by rfl)
  (h1:(assignEach [tg] X.env).map (·.2)=[assign tg X.env]:=by rfl):PS X (.Assign [tg] e pos) (QM te g):=by
 intro pins s σ H D I h;refine wpAny_Assign_stores (thn (he pins s σ H _ I h) fun v s1 hZ1=>?_) hs hw;obtain ⟨x,H1,I1,r1,q1⟩:=hZ1;rw [h1];exact thn (hg pins s1 σ H1 x v _ I1 r1 q1) fun _ s2 q=>q
theorem Fb {i:Nat} {x:Str} {e:Expr} {te:TE} {pos':Pos} (hN:X.N.Nodup) (hi:X.N[i]? = some x) (hx:Loc X.env.scope x) (he:PE X e te) (hs:swapsWith e (some (.Name x pos')) pos.line X.env=pure false:=by rfl) (hf:X.fn x=true\/X.env.scope.names.lookup x=some .local:=by first | exact .inl rfl | exact .inr rfl | assumption) :
  PS X (.Assign [.Name x pos'] e pos) (QM te (Kw i)):=by
 intro pins s σ H D I h;refine wpAny_Assign_Name (thn (he pins s σ H _ I h) fun v s1 hZ1=>?_) hs;obtain ⟨y,H1,I1,r1,q1⟩:=hZ1;exact gq I1 hN hi hx r1 (fun s2 I2=>⟨_,H1,I2,q1⟩) hf
end
section
variable {X:Cx} {pos:Pos}
noncomputable def dI (c:TT) (tb:TS):TS:=fun D σ H=>∃ W:Nat->St->Hp->Prop,(∃ m,W m σ H)/\∀ m σ H,W m σ H ->
 c σ H fun b H1=>if b=true then ∃ N:St->Hp->Prop,(∀ σ' H',N σ' H'->∃ m',m' < m/\W m' σ' H')/\tb { D with nx:=N,ct:=N,bk:=D.nx } σ H1 else D.nx σ H1
theorem GG {c:Expr} {body:List Stmt} {tc:TT} {tb:TS} (hp:PassesOwn (model X.prog X.w) X.A X.env X.xe) (hc:PT X c tc) (hb:PSs X body tb):PS X (.While c body [] pos) (dI tc tb):=by
 intro pins s σ H D I h;obtain ⟨W,⟨m0,w0⟩,turn⟩:=h;refine wpAny_While (codeAny_whileLoop (fun n s'=>∃ σ' H',Inv X pins σ' H' s'/\W n σ' H') ?_ m0 ⟨σ,H,I,w0⟩);rintro n s1 ⟨σ1,H1,I1,w1⟩;refine wpAny_passesOwn hp (thn (hc pins s1 σ1 H1 _ I1 (turn n σ1 H1 w1)) fun b s2 hZ1=>?_);obtain ⟨H2,I2,q2⟩:=hZ1;cases b with
 | true=>
  obtain ⟨N,hN,q2⟩:=q2;rw [if_pos rfl];refine wpAny_passesOwn hp (thn (hb pins s2 σ1 H2 _ I2 q2) fun f s3 q3=>?_);cases f with
  | next=>
   obtain ⟨σ3,H3,I3,n3⟩:=q3;obtain ⟨m',hm,w3⟩:=hN σ3 H3 n3;exact ⟨m',hm,σ3,H3,I3,w3⟩
  | cont=>
   obtain ⟨σ3,H3,I3,n3⟩:=q3;obtain ⟨m',hm,w3⟩:=hN σ3 H3 n3;exact ⟨m',hm,σ3,H3,I3,w3⟩
  | brk=>exact q3
  | ret v=>exact q3
 | false=>
  rw [if_neg Bool.false_ne_true];exact wpAny_execs_nil ⟨σ1,H2,I2,q2⟩
end
structure It where
 go:Nat->Hp->Prop
 yld:Nat->Hp->V->Hp->Prop
 stop:Nat->Hp->Prop
noncomputable def Uw (X:Cx) (pins:List (Addr × Obj)) (H:Hp) (b:Addr):Prop:=
 H b=none/\b ≠ X.env.locals/\b ∉ X.fs/\(b ∈ X.ex\/X.s₀.heap.objs.size <= b)/\(∀ x c,X.env.cells.lookup x=some c->c ≠ b)/\∀ p ∈ X.pn ++ pins,p.1 ≠ b
theorem Inv.fpOk {X:Cx} {pins:List (Addr × Obj)} {σ:St} {H H':Hp} {s:Shared} {b:Addr} (I:Inv X pins σ H s) (hb:s.heap.objs.size <= b) (hn:H' b=none):Uw X pins H' b:=by
 refine ⟨hn,Nat.ne_of_gt (Nat.lt_of_lt_of_le I.lt hb),I.nofs hb,.inr (Nat.le_trans I.sz hb),fun x c e z=>?_,fun p hp z=>?_⟩
 ·obtain ⟨v,q⟩:=I.cell x c e;exact absurd (Nat.lt_of_lt_of_le q.lt (by rw [z];exact hb)) (Nat.lt_irrefl _)
 ·exact absurd (Nat.lt_of_lt_of_le (Heap.lt_size (I.pin p hp).1) (by rw [z];exact hb)) (Nat.lt_irrefl _)
structure wJ (P:Program) (w:World) (K:W.Frag) (tg:Expr) (J:It) (fp:List Addr) (it:Addr) (tn:Nat->Heap->Prop):Prop where
 mem:it ∈ fp
 obj:∀ i h,tn i h->∀ b ∈ fp,∃ o,h.get? b=some o/\∀ v,o.data ≠ .cell v
 keep:∀ i h h',tn i h->(∀ b ∈ fp,∀ o,h.get? b=some o->h'.get? b=some o)->tn i h'
 item:∀ (X:Cx),X.prog=P->X.w=w->X.K=K->X.calm=true->∀ (i:Nat) (pins:List (Addr × Obj)) (s:Shared) (σ:St) (H:Hp) (E:Value->Shared->Prop),Inv X pins σ H s->(∀ b ∈ fp,Uw X pins H b)->tn i s.heap->J.go i H ->
  wpAny (model P w) X.A (pyNext (.ref it)) (fun r s1=>∃ u,r=some u /\
   wpAny (model P w) X.A (letOwnedTupleGo tg (.ref it) u) (fun _ s2=>∃ x H',Inv X pins σ H' s2/\Td x u/\J.yld i H x H'/\tn (i + 1) s2.heap/\∀ b ∈ fp,H' b=none) E s1) E s
 done:∀ (X:Cx),X.prog=P->X.w=w->X.K=K->X.calm=true->∀ (i:Nat) (pins:List (Addr × Obj)) (s:Shared) (σ:St) (H:Hp) (E:Value->Shared->Prop),Inv X pins σ H s->(∀ b ∈ fp,Uw X pins H b)->tn i s.heap->J.stop i H ->
  wpAny (model P w) X.A (pyNext (.ref it)) (fun r s1=>r=none/\Inv X pins σ H s1) E s
 self:∀ (A:Around) (i:Nat) (s:Shared) (Q:Value->Shared->Prop) (E:Value->Shared->Prop),tn i s.heap->Q (.ref it) s->wpAny (model P w) A (pyIter (.ref it)) Q E s
noncomputable abbrev TI:=St->Hp->(It->Hp->Prop)->Prop
noncomputable def PIE (X:Cx) (pins:List (Addr × Obj)) (σ:St) (tg:Expr) (R:It->Hp->Prop) (itv:Value) (s2:Shared):Prop:=
 ∃ (it:Addr) (fp:List Addr) (tn:Nat->Heap->Prop) (J:It) (H':Hp),itv=.ref it/\Inv X pins σ H' s2/\wJ X.prog X.w X.K tg J fp it tn/\tn 0 s2.heap/\(∀ b ∈ fp,Uw X pins H' b)/\R J H'
noncomputable def PI (X:Cx) (tg iter:Expr) (wi:TI):Prop:=
 ∀ (pins:List (Addr × Obj)) (s:Shared) (σ:St) (H:Hp) (R:It->Hp->Prop),Inv X pins σ H s->wi σ H R ->
  wpAny (model X.prog X.w) X.A (eval iter X.env) (fun v s1=>wpAny (model X.prog X.w) X.A (pyIter v) (PIE X pins σ tg R) X.xe s1) X.xe s
theorem rG {M:Model} {A:Around} {E:Value->Shared->Prop} {s:Shared} {tg:Expr} {it:Addr} {u:Value} {o:Obj} {n:String} {vs:Array Value} {Q:Unit->Shared->Prop} (ho:s.heap.get? it=some o) (hc:o.cls=.type n) (hd:o.data=.fields vs)
    (hn:["enumerate","zip","dict_itemiterator","dict_reverseitemiterator","odict_iterator","itertools.zip_longest","itertools.pairwise"].contains n=false) (hQ:Q () s):wpAny M A (letOwnedTupleGo tg (.ref it) u) Q E s:=by
  unfold letOwnedTupleGo;cases tg <;> first
    | exact wpAny_pure hQ
    | (cases u <;> first
        | exact wpAny_pure hQ
        | (refine wpAny_bind (wpAny_load ho ?_)
           rw [hc,hd];show wpAny M A (if (["enumerate","zip","dict_itemiterator","dict_reverseitemiterator","odict_iterator","itertools.zip_longest","itertools.pairwise"].contains n && vs[0]? == some (rawInt _))=true then _ else _) Q E s;rw [if_neg (by intro h;rw [hn,Bool.false_and] at h;cases h)];exact wpAny_pure hQ))
noncomputable def Itl (K:W.Frag) (a:Addr):It:=
 ⟨fun i H=>∃ xs x,SqL K H a xs/\xs[i]? = some x,fun i H x H'=>H'=H/\∀ xs,SqL K H a xs->xs[i]? = some x,fun i H=>∃ xs,SqL K H a xs/\xs.length <= i⟩
noncomputable def Itt (K:W.Frag) (a:Addr):It:=
 ⟨fun i H=>∃ xs x,SqT K H a xs/\xs[i]? = some x,fun i H x H'=>H'=H/\∀ xs,SqT K H a xs->xs[i]? = some x,fun i H=>∃ xs,SqT K H a xs/\xs.length <= i⟩
noncomputable def Itr (lo:Int) (n:Nat):It:=⟨fun i _=>i < n,fun i H x H'=>H'=H/\x=.int (lo + i),fun i _=>n <= i⟩
theorem ID {P:Program} {w:World} {K:W.Frag} {tg:Expr} (a it:Addr):wJ P w K tg (Itl K a) [it] it (fun i h=>h.IsListIter it a i) where
 mem:=by simp
 obj:=fun i h st b hb=>by
  have e:b=it:=by simpa using hb
  subst e;obtain ⟨o,e,c,d⟩:=st;exact ⟨o,e,fun v z=>by rw [d] at z;cases z⟩
 keep:=fun i h h' st k=>st.at fun o e=>k it (by simp) o e
 item:=by
  intro X hP hw hK hc i pins s σ H E I hf st hg;subst hP hw hK;obtain ⟨xs,x,hq,hx⟩:=hg;obtain ⟨its,rv,p,hz⟩:=I.list hq;obtain ⟨u,hu,ru⟩:=rv.get hx;obtain ⟨f0,f1,f2,f3,f4,f5⟩:=hf it (by simp);refine wpAny_pyNext_list_item st p.isList (x:=u) (by simpa using hu) fun h' st' sb=>?_
  have I1:Inv X pins σ H { s with heap:=h' }:=I.turned (t':=s.toks) (fun b o hb e=>(sb.2 b hb).trans e) f0 f1 f3 f4 f5;obtain ⟨o,e,c,d⟩:=id st';exact ⟨u,rfl,rG (s:={ s with heap:=h' }) e c d (by decide) ⟨x,H,I1,ru,⟨rfl,fun ys hy=>by rw [I.list_inj hy hq];exact hx⟩,st',fun b hb=>(hf b hb).1⟩⟩
 done:=by
  intro X hP hw hK hc i pins s σ H E I hf st hg;subst hP hw hK;obtain ⟨xs,hq,hx⟩:=hg;obtain ⟨its,rv,p,hz⟩:=I.list hq;obtain ⟨f0,f1,f2,f3,f4,f5⟩:=hf it (by simp);have hl:=rv.length;exact wpAny_pyNext_list_end (I.ok.hd hc) st p.isList (by simp;omega) fun h' eb=>⟨rfl,I.turned (t':=s.toks) (fun b o hb e=>eb b o hb e) f0 f1 f3 f4 f5⟩
 self:=fun _ _ _ _ _ st h=>wpAny_pyIter_listiter st h
theorem rA {P:Program} {w:World} {K:W.Frag} {tg:Expr} (a it:Addr):wJ P w K tg (Itt K a) [it] it (fun i h=>h.IsTupleIter it a i) where
 mem:=by simp
 obj:=fun i h st b hb=>by
  have e:b=it:=by simpa using hb
  subst e;obtain ⟨o,e,c,d⟩:=st;exact ⟨o,e,fun v z=>by rw [d] at z;cases z⟩
 keep:=fun i h h' st k=>st.at fun o e=>k it (by simp) o e
 item:=by
  intro X hP hw hK hc i pins s σ H E I hf st hg;subst hP hw hK;obtain ⟨xs,x,hq,hx⟩:=hg;obtain ⟨its,rv,p,hz⟩:=I.tuple hq;obtain ⟨u,hu,ru⟩:=rv.get hx;obtain ⟨f0,f1,f2,f3,f4,f5⟩:=hf it (by simp);refine wpAny_pyNext_tuple_item st (show s.heap.IsTuple a its.toArray from p) (x:=u) (by simpa using hu) fun h' st' sb=>?_
  have I1:Inv X pins σ H { s with heap:=h' }:=I.turned (t':=s.toks) (fun b o hb e=>(sb.2 b hb).trans e) f0 f1 f3 f4 f5;obtain ⟨o,e,c,d⟩:=id st';exact ⟨u,rfl,rG (s:={ s with heap:=h' }) e c d (by decide) ⟨x,H,I1,ru,⟨rfl,fun ys hy=>by rw [I.tuple_inj hy hq];exact hx⟩,st',fun b hb=>(hf b hb).1⟩⟩
 done:=by
  intro X hP hw hK hc i pins s σ H E I hf st hg;subst hP hw hK;obtain ⟨xs,hq,hx⟩:=hg;obtain ⟨its,rv,p,hz⟩:=I.tuple hq;obtain ⟨f0,f1,f2,f3,f4,f5⟩:=hf it (by simp);have hl:=rv.length;exact wpAny_pyNext_tuple_end (I.ok.hd hc) st (show s.heap.IsTuple a its.toArray from p) (by simp;omega) fun h' eb=>⟨rfl,I.turned (t':=s.toks) (fun b o hb e=>eb b o hb e) f0 f1 f3 f4 f5⟩
 self:=fun _ _ _ _ _ st h=>wpAny_pyIter_tupleiter st h
theorem iA {P:Program} {w:World} {K:W.Frag} {tg:Expr} (it:Addr) (lo:Int) (n:Nat):wJ P w K tg (Itr lo n) [it] it (fun i h=>IsRangeIter h it (lo + (i:Nat) * 1) ((n:Int) - (i:Nat)) 1) where
 mem:=by simp
 obj:=fun i h st b hb=>by
  have e:b=it:=by simpa using hb
  subst e;exact ⟨_,st,fun v z=>by
   have z':Data.fields _=Data.cell v:=z;cases z'⟩
 keep:=fun i h h' st k=>k it (by simp) _ st
 item:=by
  intro X hP hw hK hc i pins s σ H E I hf st hg;subst hP hw hK;obtain ⟨f0,f1,f2,f3,f4,f5⟩:=hf it (by simp);have W:=Walks.range (prog:=X.prog) (w:=X.w) (I.ok.hd hc) it lo 1 n;refine W.item i s _ _ hg st fun v h' tk hv st' kk=>?_
  obtain ⟨t,rfl⟩:=hv;have I1:Inv X pins σ H { s with heap:=h',toks:=tk }:=I.turned (fun b o hb e=>kk b o (by simpa using hb) e) f0 f1 f3 f4 f5;refine ⟨_,rfl,rG (s:={ s with heap:=h',toks:=tk }) (n := "range_iterator") st' rfl rfl (by decide) ⟨.int (lo + i),H,I1,⟨t,?_⟩,⟨rfl,rfl⟩,st',fun b hb=>(hf b hb).1⟩⟩;rw [Int.mul_one]
 done:=by
  intro X hP hw hK hc i pins s σ H E I hf st hg;subst hP hw hK;obtain ⟨f0,f1,f2,f3,f4,f5⟩:=hf it (by simp);exact wpAny_pyNext_range_end (I.ok.hd hc) st (by have:n <= i:=hg;omega) fun h' eb=>⟨rfl,I.turned (t':=s.toks) (fun b o hb e=>eb b o hb e) f0 f1 f3 f4 f5⟩
 self:=fun _ _ _ _ _ st h=>wpAny_pyIter_rangeiter st h
end L2
namespace L2
open PySem PySem.Spec PyProof.Rows
section
variable {X:Cx} {tg:Expr}
noncomputable def IM (K:W.Frag) (tl:TE):TI:=fun σ H R=>tl σ H fun x H1=>∃ a,x=.ref a/\(∃ xs,SqL K H1 a xs)/\R (Itl K a) H1
noncomputable def nO (K:W.Frag) (tl:TE):TI:=fun σ H R=>tl σ H fun x H1=>∃ a,x=.ref a/\(∃ xs,SqT K H1 a xs)/\R (Itt K a) H1
theorem Dc {l:Expr} {tl:TE} (hl:PE X l tl):PI X tg l (IM X.K tl):=by
 intro pins s σ H R I h;refine thn (hl pins s σ H _ I h) fun v s1 hZ1=>?_
 obtain ⟨x,H1,I1,r1,q1⟩:=hZ1;obtain ⟨a,e,⟨xs,hq⟩,q⟩:=q1;subst e;cases r1;obtain ⟨its,rv,p,hz⟩:=I1.list hq;refine wpAny_pyIter_list p.isList ?_;refine ⟨s1.heap.objs.size,[s1.heap.objs.size],_,_,H1,rfl,I1.kept (t':=s1.toks) fun b o e=>Heap.get?_push_of_some _ e,ID a _,⟨_,Heap.get?_push_size _ rfl,rfl,rfl⟩,fun b hb=>?_,q⟩;have e:b=s1.heap.objs.size:=by simpa using hb
 subst e;exact I1.fpOk (Nat.le_refl _) (I1.hok.fresh (Nat.le_refl _))
theorem ZL {l:Expr} {tl:TE} (hl:PE X l tl):PI X tg l (nO X.K tl):=by
 intro pins s σ H R I h;refine thn (hl pins s σ H _ I h) fun v s1 hZ1=>?_
 obtain ⟨x,H1,I1,r1,q1⟩:=hZ1;obtain ⟨a,e,⟨xs,hq⟩,q⟩:=q1;subst e;cases r1;obtain ⟨its,rv,p,hz⟩:=I1.tuple hq;refine wpAny_pyIter_tuple (show s1.heap.IsTuple a its.toArray from p) ?_;refine ⟨s1.heap.objs.size,[s1.heap.objs.size],_,_,H1,rfl,I1.kept (t':=s1.toks) fun b o e=>Heap.get?_push_of_some _ e,rA a _,⟨_,Heap.get?_push_size _ rfl,rfl,rfl⟩,fun b hb=>?_,q⟩;have e:b=s1.heap.objs.size:=by simpa using hb
 subst e;exact I1.fpOk (Nat.le_refl _) (I1.hok.fresh (Nat.le_refl _))
theorem gz {pins:List (Addr × Obj)} {σ:St} {H:Hp} {s:Shared} {R:It->Hp->Prop} {E:Value->Shared->Prop} {lo hi:Int} {t u v:Tok} {tk:Nat} (I:Inv X pins σ H s) (h1:-(2 ^ 62) <= lo) (h2:lo < 2 ^ 62) (h3:-(2 ^ 62) <= hi) (h4:hi < 2 ^ 62)
  (q:R (Itr lo (hi - lo).toNat) H):wpAny (model X.prog X.w) X.A (pyIter (.ref s.heap.objs.size)) (PIE X pins σ tg R) E { s with heap:=s.heap.push { cls:=.type "range",data:=.fields #[.int lo t,.int hi u,.int 1 v] },toks:=tk }:=by
 refine wpAny_pyIter_range (IsRange.new ..) (small_one h1 h2 h3 h4) ?_;have I1:Inv X pins σ H { s with heap:=s.heap.push { cls:=.type "range",data:=.fields #[.int lo t,.int hi u,.int 1 v] },toks:=tk }:=I.kept fun b o e=>Heap.get?_push_of_some _ e
 refine ⟨(s.heap.push { cls:=.type "range",data:=.fields #[.int lo t,.int hi u,.int 1 v] }).objs.size,[(s.heap.push { cls:=.type "range",data:=.fields #[.int lo t,.int hi u,.int 1 v] }).objs.size],_,_,H,rfl,
  I1.kept (t':=tk) fun b o e=>Heap.get?_push_of_some _ e,iA _ lo (hi - lo).toNat,?_,fun b hb=>?_,q⟩
 ·have e1:lo + ((0:Nat):Int) * 1=lo:=by simp
  have e2:(((hi - lo).toNat:Nat):Int) - ((0:Nat):Int)=Builtin.Range.rangeSize lo hi 1:=by rw [rangeSize_one];split <;> omega
  show IsRangeIter _ _ (lo + ((0:Nat):Int) * 1) ((((hi - lo).toNat:Nat):Int) - ((0:Nat):Int)) 1;rw [e1,e2];exact Heap.get?_push_size _ rfl
 ·have e:b=(s.heap.push { cls:=.type "range",data:=.fields #[.int lo t,.int hi u,.int 1 v] }).objs.size:=by simpa using hb
  subst e;exact I1.fpOk (Nat.le_refl _) (I1.hok.fresh (Nat.le_refl _))
noncomputable def rM (ta:TA):TI:=fun σ H R=>ta σ H fun vs H1=>∃ j:Int,vs=[.int j]/\-(2 ^ 62) <= j/\j < 2 ^ 62/\R (Itr 0 j.toNat) H1
noncomputable def oM (ta:TA):TI:=fun σ H R=>ta σ H fun vs H1=>∃ i j:Int,vs=[.int i,.int j]/\(-(2 ^ 62) <= i/\i < 2 ^ 62/\-(2 ^ 62) <= j/\j < 2 ^ 62)/\R (Itr i (j - i).toNat) H1
theorem Of {a:Expr} {ta:TA} {p pos:Pos} (hg:Gl X "range") (hm:X.mg "range"=none) (ha:PA X [a] ta) (hs:starEach [a] X.env=[(false,eval a X.env)]:=by rfl):PI X tg (.Call (.Name "range" p) [a] [] pos) (rM ta):=by
 intro pins s σ H R I h;refine Call_ (Gu I hg hm boot_range (PyProof.Rows.callWith_type1 (thn (ha pos pins s σ H _ I h) fun us s1 hZ1=>?_) hs rfl));obtain ⟨vs,H1,I1,r1,q1⟩:=hZ1;obtain ⟨j,e,q1,q2,q⟩:=q1;subst e;cases r1 with
 | cons r rr=>
  cases rr;obtain ⟨t,rfl⟩:=r;exact call_range_1 (gz I1 (by omega) (by omega) q1 q2 (by simpa using q))
theorem NC {a b:Expr} {ta:TA} {p pos:Pos} (hg:Gl X "range") (hm:X.mg "range"=none) (ha:PA X [a,b] ta) (hs:starEach [a,b] X.env=[(false,eval a X.env),(false,eval b X.env)]:=by rfl) (hs2:starEach [b] X.env=[(false,eval b X.env)]:=by rfl) :
  PI X tg (.Call (.Name "range" p) [a,b] [] pos) (oM ta):=by
 intro pins s σ H R I h;refine Call_ (Gu I hg hm boot_range (PyProof.Rows.callWith_type1 (thn (ha pos pins s σ H _ I h) fun us s1 hZ1=>?_) (by rw [hs,hs2]) (by rw [hs2];rfl)));obtain ⟨vs,H1,I1,r1,q1⟩:=hZ1;obtain ⟨i,j,e,⟨q1,q2,q3,q4⟩,q⟩:=q1;subst e;cases r1 with
 | cons r rr=>
  cases rr with
  | cons r' rr=>
   cases rr;obtain ⟨t,rfl⟩:=r;obtain ⟨t',rfl⟩:=r';exact call_range_2 (gz I1 q1 q2 q3 q4 q)
noncomputable def LN (wi:TI) (g:TG) (tb:TS):TS:=fun D σ H=>wi σ H fun J H1=>∃ W:Nat->Nat->St->Hp->Prop,(∃ m,W 0 m σ H1)/\∀ i m σ H,W i m σ H ->
 (J.stop i H/\D.nx σ H)\/(J.go i H/\∃ N:St->Hp->Prop,(∀ σ' H',N σ' H'->∃ m',m' < m/\W (i + 1) m' σ' H')/\∀ x H',J.yld i H x H'->g x σ H' fun σ2 H2=>tb { D with nx:=N,ct:=N,bk:=D.nx } σ2 H2)
noncomputable def vw (fp:List Addr) (h:Heap):List (Addr × Obj):=fp.filterMap fun b=>(h.get? b).map fun o=>(b,o)
theorem Al {fp:List Addr} {h:Heap} {b:Addr} {o:Obj} (hb:b ∈ fp) (e:h.get? b=some o):(b,o) ∈ vw fp h:=List.mem_filterMap.mpr ⟨b,hb,by rw [e];rfl⟩
theorem BE {fp:List Addr} {h:Heap} {p:Addr × Obj} (hp:p ∈ vw fp h):p.1 ∈ fp/\h.get? p.1=some p.2:=by
 obtain ⟨b,hb,e⟩:=List.mem_filterMap.mp hp;cases q:h.get? b with
 | none=>rw [q] at e;cases e
 | some o=>
  rw [q] at e;have e':(b,o)=p:=Option.some.inj e;subst e';exact ⟨hb,q⟩
theorem Inv.pinned {pins:List (Addr × Obj)} {σ:St} {H:Hp} {s:Shared} {fp:List Addr} (I:Inv X pins σ H s) (hf:∀ b ∈ fp,Uw X pins H b) (ho:∀ b ∈ fp,∃ o,s.heap.get? b=some o/\∀ v,o.data ≠ .cell v):Inv X (pins ++ vw fp s.heap) σ H s:=
 I.pins_of fun p hp=>(List.mem_append.mp hp).elim (fun z=>I.pin p (mem_append_right _ z)) fun z=>by
  obtain ⟨hb,e⟩:=BE z;obtain ⟨f0,f1,f2,_⟩:=hf p.1 hb;obtain ⟨o,e',d⟩:=ho p.1 hb;rw [e] at e';cases e';exact ⟨e,f0,f1,f2,d⟩
theorem Inv.unpinned {pins pl:List (Addr × Obj)} {σ:St} {H:Hp} {s:Shared} (I:Inv X (pins ++ pl) σ H s):Inv X pins σ H s:=I.pins_of fun p hp=>I.pin p (mem_append_right _ (mem_append_left _ hp))
theorem Re {iter:Expr} {body:List Stmt} {wi:TI} {g:TG} {tb:TS} {pos:Pos} (hp:PassesOwn (model X.prog X.w) X.A X.env X.xe) (hc:X.calm=true) (hi:PI X tg iter wi) (hg:PG X tg g) (hb:PSs X body tb)
  (hs:∀ x,foldedSetIterable iter X.env x=pure x:=by intro _;rfl):PS X (.For tg iter body [] pos) (LN wi g tb):=by
 intro pins s σ H D I h;refine wpAny_For (thn (hi pins s σ H _ I h) fun v s1 h1=>thn h1 fun itv s2 h2=>?_) hs;obtain ⟨it,fp,tn,J,H2,e,I2,T,st2,f2,W,⟨m0,w0⟩,turn⟩:=h2;subst e;have stat:∀ {H':Hp},(∀ b ∈ fp,H' b=none)->∀ b ∈ fp,Uw X pins H' b:=fun hn b hb=>⟨hn b hb,(f2 b hb).2⟩
 refine codeAny_forLoop_any (fun n s'=>∃ i σ' H',Inv X pins σ' H' s'/\tn i s'.heap/\(∀ b ∈ fp,H' b=none)/\W i n σ' H') ?_ m0 ⟨0,σ,H2,I2,st2,fun b hb=>(f2 b hb).1,w0⟩;rintro n s3 ⟨i,σ3,H3,I3,st3,fr3,w3⟩;rcases turn i n σ3 H3 w3 with ⟨stop,qn⟩ | ⟨go,N,hN,step⟩
 ·refine wpAny_passesOwn hp (thn (T.done X rfl rfl rfl hc i pins s3 σ3 H3 X.xe I3 (stat fr3) st3 stop) fun r s4 hZ1=>?_);obtain ⟨hr,I4⟩:=hZ1;subst hr;exact wpAny_execs_nil ⟨σ3,H3,I4,qn⟩
 ·refine wpAny_passesOwn hp (thn (T.item X rfl rfl rfl hc i pins s3 σ3 H3 X.xe I3 (stat fr3) st3 go) fun r s4 hZ1=>?_);obtain ⟨u,hr,h4⟩:=hZ1;subst hr;refine wpAny_passesOwn hp (thn h4 fun _ s5 hZ1=>?_);obtain ⟨x,H5,I5,r5,y5,st5,fr5⟩:=hZ1;have I5':=I5.pinned (stat fr5) (T.obj _ _ st5);refine wpAny_passesOwn hp (thn (hg _ s5 σ3 H5 x u _ I5' r5 (step x H5 y5)) fun _ s6 hZ1=>?_);obtain ⟨σ6,H6,I6,q6⟩:=hZ1;refine wpAny_passesOwn hp (thn (hb _ s6 σ6 H6 _ I6 q6) fun f s7 q7=>?_);have again:∀ {σ7:St} {H7:Hp},Inv X (pins ++ vw fp s5.heap) σ7 H7 s7->N σ7 H7->∃ m,m < n/\∃ i σ' H',Inv X pins σ' H' s7/\tn i s7.heap/\(∀ b ∈ fp,H' b=none)/\W i m σ' H':=fun {σ7 H7} I7 n7=>by
   obtain ⟨m',hm,w7⟩:=hN σ7 H7 n7;refine ⟨m',hm,i + 1,σ7,H7,I7.unpinned,T.keep _ _ _ st5 fun b hb o e=>(I7.pin (b,o) (mem_append_right _ (mem_append_right _ (Al hb e)))).1,fun b hb=>?_,w7⟩;obtain ⟨o,e,d⟩:=T.obj _ _ st5 b hb;exact (I7.pin (b,o) (mem_append_right _ (mem_append_right _ (Al hb e)))).2.1
  cases f with
  | next=>obtain ⟨σ7,H7,I7,n7⟩:=q7;exact again I7 n7
  | cont=>obtain ⟨σ7,H7,I7,n7⟩:=q7;exact again I7 n7
  | brk=>obtain ⟨σ7,H7,I7,q7⟩:=q7;exact ⟨σ7,H7,I7.unpinned,q7⟩
  | ret v=>obtain ⟨x7,σ7,H7,I7,r7,q7⟩:=q7;exact ⟨x7,σ7,H7,I7.unpinned,r7,q7⟩
end
theorem OF {K:W.Frag} {a:Addr} {xs:List V} {g:TG} {tb:TS} {D:Mi} {σ:St} {H:Hp} (Pv:Nat->St->Hp->Prop) (h0:Pv 0 σ H) (hl:∀ i σ H,i <= xs.length->Pv i σ H->SqL K H a xs)
  (hs:∀ i x σ H,xs[i]? = some x->Pv i σ H->g x σ H fun σ2 H2=>tb { D with nx:=Pv (i + 1),ct:=Pv (i + 1),bk:=D.nx } σ2 H2) (hd:∀ σ H,Pv xs.length σ H->D.nx σ H) :
  ∃ W:Nat->Nat->St->Hp->Prop,(∃ m,W 0 m σ H)/\∀ i m σ H,W i m σ H ->
   ((Itl K a).stop i H/\D.nx σ H)\/((Itl K a).go i H/\∃ N:St->Hp->Prop,(∀ σ' H',N σ' H'->∃ m',m' < m/\W (i + 1) m' σ' H')/\∀ x H',(Itl K a).yld i H x H'->g x σ H' fun σ2 H2=>tb { D with nx:=N,ct:=N,bk:=D.nx } σ2 H2):=by
 refine ⟨fun i m σ H=>m=xs.length - i/\i <= xs.length/\Pv i σ H,⟨xs.length,by simp,Nat.zero_le _,h0⟩,?_⟩;rintro i m σ H ⟨rfl,hi,p⟩;have q:=hl i σ H hi p;by_cases hlt:i < xs.length
 ·refine .inr ⟨⟨xs,xs[i],q,by simp [hlt]⟩,Pv (i + 1),fun σ' H' p'=>⟨xs.length - (i + 1),by omega,rfl,hlt,p'⟩,fun x H' y=>?_⟩;obtain ⟨e,y⟩:=y;subst e;exact hs i x σ _ (y xs q) p
 ·have e:i=xs.length:=by omega
  subst e;exact .inl ⟨⟨xs,q,Nat.le_refl _⟩,hd σ H p⟩
theorem iE {lo:Int} {n:Nat} {g:TG} {tb:TS} {D:Mi} {σ:St} {H:Hp} (Pv:Nat->St->Hp->Prop) (h0:Pv 0 σ H)
  (hs:∀ i σ H,i < n->Pv i σ H->g (.int (lo + i)) σ H fun σ2 H2=>tb { D with nx:=Pv (i + 1),ct:=Pv (i + 1),bk:=D.nx } σ2 H2) (hd:∀ σ H,Pv n σ H->D.nx σ H) :
  ∃ W:Nat->Nat->St->Hp->Prop,(∃ m,W 0 m σ H)/\∀ i m σ H,W i m σ H ->
   ((Itr lo n).stop i H/\D.nx σ H)\/((Itr lo n).go i H/\∃ N:St->Hp->Prop,(∀ σ' H',N σ' H'->∃ m',m' < m/\W (i + 1) m' σ' H')/\∀ x H',(Itr lo n).yld i H x H'->g x σ H' fun σ2 H2=>tb { D with nx:=N,ct:=N,bk:=D.nx } σ2 H2):=by
 refine ⟨fun i m σ H=>m=n - i/\i <= n/\Pv i σ H,⟨n,by simp,Nat.zero_le _,h0⟩,?_⟩;rintro i m σ H ⟨rfl,hi,p⟩;by_cases hlt:i < n
 ·refine .inr ⟨hlt,Pv (i + 1),fun σ' H' p'=>⟨n - (i + 1),by omega,rfl,hlt,p'⟩,fun x H' y=>?_⟩;obtain ⟨e,y⟩:=y;subst e y;exact hs i σ _ hlt p
 ·have e:i=n:=by omega
  subst e;exact .inl ⟨Nat.le_refl _,hd σ H p⟩
end L2
namespace L2
open PySem PySem.Spec PyProof.Rows
noncomputable abbrev R2:=V->V->Hp->VK->Prop
noncomputable def OpR (X:Cx) (f:Value->Value->Sem Value) (r:R2):Prop:=
 ∀ (pins:List (Addr × Obj)) (s:Shared) (σ:St) (H:Hp) (x y:V) (v u:Value) (Q:VK),Inv X pins σ H s->Td x v->Td y u->r x y H Q ->
  wpAny (model X.prog X.w) X.A (f v u) (EP X pins σ Q) X.xe s
noncomputable def UnR (X:Cx) (f:Value->Sem Value) (r:V->Hp->VK->Prop):Prop:=
 ∀ (pins:List (Addr × Obj)) (s:Shared) (σ:St) (H:Hp) (x:V) (v:Value) (Q:VK),Inv X pins σ H s->Td x v->r x H Q ->
  wpAny (model X.prog X.w) X.A (f v) (EP X pins σ Q) X.xe s
noncomputable def gk (X:Cx) (f:Value) (r:List V->Hp->VK->Prop):Prop:=
 ∀ (pins:List (Addr × Obj)) (s:Shared) (σ:St) (H:Hp) (xs:List V) (us:List Value) (Q:VK),Inv X pins σ H s->Sd xs us->r xs H Q ->
  wpAny (model X.prog X.w) X.A (call f us) (EP X pins σ Q) X.xe s
noncomputable def GO (X:Cx) (r:V->Hp->(Bool->Hp->Prop)->Prop):Prop:=
 ∀ (pins:List (Addr × Obj)) (s:Shared) (σ:St) (H:Hp) (x:V) (v:Value) (Q:Bool->Hp->Prop),Inv X pins σ H s->Td x v->r x H Q ->
  wpAny (model X.prog X.w) X.A (truthy v) (TP X pins σ Q) X.xe s
noncomputable def tOp (r:R2) (ta tb:TE):TE:=fun σ H Q=>ta σ H fun x H1=>tb σ H1 fun y H2=>r x y H2 Q
noncomputable def tUn (r:V->Hp->VK->Prop) (ta:TE):TE:=fun σ H Q=>ta σ H fun x H1=>r x H1 Q
noncomputable def rI (C:Int->Int->Prop) (g:Int->Int->V):R2:=fun x y H Q=>∃ i j,x=.int i/\y=.int j/\C i j/\Q (g i j) H
noncomputable def rI0 (g:Int->Int->V):R2:=fun x y H Q=>∃ i j,x=.int i/\y=.int j/\Q (g i j) H
noncomputable def rU (g:Int->V):V->Hp->VK->Prop:=fun x H Q=>∃ i,x=.int i/\Q (g i) H
section
variable {X:Cx} {a b c:Expr} {ta tb tc:TE} {pos:Pos}
theorem GN (ha:PE X a ta) (hb:PE X b tb) {pins:List (Addr × Obj)} {s:Shared} {σ:St} {H:Hp} {R:V->V->Hp->Prop} (I:Inv X pins σ H s)
  (h:ta σ H fun x H1=>tb σ H1 fun y H2=>R x y H2) {Q:Value->Shared->Prop} {f:Value->Value->Sem Value}
  (hf:∀ v u s2 x y H2,Inv X pins σ H2 s2->Td x v->Td y u->R x y H2->wpAny (model X.prog X.w) X.A (f v u) Q X.xe s2) :
  wpAny (model X.prog X.w) X.A (eval a X.env) (fun v s₁=>wpAny (model X.prog X.w) X.A (eval b X.env) (fun u s₂=>wpAny (model X.prog X.w) X.A (f v u) Q X.xe s₂) X.xe s₁) X.xe s:=by
 refine thn (ha pins s σ H _ I h) fun v s1 hZ1=>?_
 obtain ⟨x,H1,I1,r1,q1⟩:=hZ1;refine thn (hb pins s1 σ H1 _ I1 q1) fun u s2 hZ1=>?_
 obtain ⟨y,H2,I2,r2,q2⟩:=hZ1;exact hf v u s2 x y H2 I2 r1 r2 q2
theorem Pb {op:Operator} {r:R2} (ho:OpR X (binaryOp op) r) (ha:PE X a ta) (hb:PE X b tb):PE X (.BinOp a op b pos) (tOp r ta tb):=by
 intro pins s σ H Q I h;exact wpAny_BinOp (GN ha hb I h fun v u s2 x y H2 I2 rx ry q=>ho pins s2 σ H2 x y v u Q I2 rx ry q)
theorem uN {op:UnaryOp} {r:V->Hp->VK->Prop} (ho:UnR X (unaryOp op) r) (ha:PE X a ta):PE X (.UnaryOp op a pos) (tUn r ta):=by
 intro pins s σ H Q I h;exact UnaryOp_ (thn (ha pins s σ H _ I h) fun v s1 ⟨x,H1,I1,r1,q1⟩=>ho pins s1 σ H1 x v Q I1 r1 q1)
theorem opI {f:Value->Value->Sem Value} {C:Int->Int->Prop} {g:Int->Int->Int}
  (rule:∀ (i j:Int) (t u:Tok) (s:Shared) (Q:Value->Shared->Prop) (E:Value->Shared->Prop),C i j->Q (.int (g i j) s.toks) { s with toks:=s.toks + 1 }->wpAny (model X.prog X.w) X.A (f (.int i t) (.int j u)) Q E s) :
  OpR X f (rI C fun i j=>.int (g i j)):=by
 intro pins s σ H x y v u Q I rx ry h;obtain ⟨i,j,rfl,rfl,hc,q⟩:=h;obtain ⟨t,rfl⟩:=rx;obtain ⟨t',rfl⟩:=ry;exact rule i j t t' s _ _ hc ⟨.int (g i j),H,I.tok _,⟨_,rfl⟩,q⟩
theorem UN {f:Value->Value->Sem Value} {g:Int->Int->Int}
  (rule:∀ (i j:Int) (t u:Tok) (s:Shared) (Q:Value->Shared->Prop) (E:Value->Shared->Prop),Q (.int (g i j) s.toks) { s with toks:=s.toks + 1 }->wpAny (model X.prog X.w) X.A (f (.int i t) (.int j u)) Q E s) :
  OpR X f (rI0 fun i j=>.int (g i j)):=by
 intro pins s σ H x y v u Q I rx ry h;obtain ⟨i,j,rfl,rfl,q⟩:=h;obtain ⟨t,rfl⟩:=rx;obtain ⟨t',rfl⟩:=ry;exact rule i j t t' s _ _ ⟨.int (g i j),H,I.tok _,⟨_,rfl⟩,q⟩
theorem QN {f:Value->Value->Sem Value} {g:Int->Int->Bool}
  (rule:∀ (i j:Int) (t u:Tok) (s:Shared) (Q:Value->Shared->Prop) (E:Value->Shared->Prop),Q (.bool (g i j)) s->wpAny (model X.prog X.w) X.A (f (.int i t) (.int j u)) Q E s) :
  OpR X f (rI0 fun i j=>.bl (g i j)):=by
 intro pins s σ H x y v u Q I rx ry h;obtain ⟨i,j,rfl,rfl,q⟩:=h;obtain ⟨t,rfl⟩:=rx;obtain ⟨t',rfl⟩:=ry;exact rule i j t t' s _ _ ⟨.bl (g i j),H,I,rfl,q⟩
noncomputable def ZB (i j:Int):Prop:=(-(2 ^ 64) < i/\i < 2 ^ 64)\/(-(2 ^ 64) < j/\j < 2 ^ 64)
theorem ZB.ok {i j:Int} (h:ZB i j):IntMulOk i j:=by
 rcases h with ⟨h1,h2⟩ | ⟨h1,h2⟩
 ·exact .of_left (intBits_le_64 h1 h2)
 ·exact .of_right (intBits_le_64 h1 h2)
theorem Pc:OpR X (binaryOp .Add) (rI0 fun i j=>.int (i + j)):=UN fun _ _ _ _ _ _ _ q=>add_int q
theorem ck:OpR X (binaryOp .Sub) (rI0 fun i j=>.int (i - j)):=UN fun _ _ _ _ _ _ _ q=>sub_int q
theorem Mh:OpR X (binaryOp .Mult) (rI ZB fun i j=>.int (i * j)):=opI fun _ _ _ _ _ _ _ hc q=>mul_int q hc.ok
theorem Og:OpR X (binaryOp .Mod) (rI (fun _ j=>0 < j) fun i j=>.int (i % j)):=opI fun i j _ _ _ _ _ hc q=>by
 have h1:(0:Int) < j:=hc;exact mod_int' (by omega) (by rw [Int.fmod_eq_emod_of_nonneg i (by omega)];exact q)
theorem unI {f:Value->Sem Value} {g:Int->Int}
  (rule:∀ (i:Int) (t:Tok) (s:Shared) (Q:Value->Shared->Prop) (E:Value->Shared->Prop),Q (.int (g i) s.toks) { s with toks:=s.toks + 1 }->wpAny (model X.prog X.w) X.A (f (.int i t)) Q E s) :
  UnR X f (rU fun i=>.int (g i)):=by
 intro pins s σ H x v Q I rx h;obtain ⟨i,rfl,q⟩:=h;obtain ⟨t,rfl⟩:=rx;exact rule i t s _ _ ⟨.int (g i),H,I.tok _,⟨_,rfl⟩,q⟩
theorem KL:UnR X (unaryOp .USub) (rU fun i=>.int (-i)):=unI fun _ _ _ _ _ q=>neg_int q
end
noncomputable def zM:V->V->Bool
 | .non,.non=>true | .non,.int _=>true | .int _,.non=>true | .non,.bl _=>true | .bl _,.non=>true | .non,.str _=>true | .str _,.non=>true
 | .int _,.int _=>true | .bl _,.bl _=>true | .str _,.str _=>true | .byt _,.byt _=>true
 | .int _,.str _=>true | .str _,.int _=>true | .bl _,.str _=>true | .str _,.bl _=>true
 | _,_=>false
noncomputable def rEq:R2:=fun x y H Q=>zM x y=true/\Q (.bl (decide (x=y))) H
noncomputable def rNe:R2:=fun x y H Q=>zM x y=true/\Q (.bl (!decide (x=y))) H
theorem aF {i j:Int}:decide (V.int i=V.int j)=(i == j):=by
 rw [Bool.eq_iff_iff];simp
theorem vH {i j:Bool}:decide (V.bl i=V.bl j)=(i == j):=by
 rw [Bool.eq_iff_iff];simp
theorem kD {i j:Str}:decide (V.str i=V.str j)=(i == j):=by
 rw [Bool.eq_iff_iff];simp
theorem VC {i j:Array UInt8}:decide (V.byt i=V.byt j)=(i.toList == j.toList):=by
 rw [Bool.eq_iff_iff];cases i;cases j;simp
section
variable {X:Cx} {a b c:Expr} {ta tb tc:TE} {pos:Pos}
theorem Jd {pins:List (Addr × Obj)} {σ:St} {H:Hp} {s:Shared} {Q:VK} {k k':Bool} (I:Inv X pins σ H s) (q:Q (.bl k) H) (e:k=k'):EP X pins σ Q (.bool k') s:=by
 subst e;exact ⟨.bl k,H,I,rfl,q⟩
theorem ve:OpR X (compareOp .Eq) rEq:=by
 intro pins s σ H x y v u Q I rx ry h;obtain ⟨hs,q⟩:=h;cases x with
 | non=>
  cases rx;cases y with
  | non=>cases ry;exact PySem.EqNone.eq_none_none (Jd I q (by simp))
  | bl j=>cases ry;exact PySem.EqNone.eq_none_bool (Jd I q (by simp))
  | int j=>obtain ⟨t',rfl⟩:=ry;exact PySem.EqNone.eq_none_int (Jd I q (by simp))
  | str j=>obtain ⟨t',rfl⟩:=ry;exact PySem.EqNone.eq_none_str (Jd I q (by simp))
  | _=>exact absurd (show false=true from hs) Bool.false_ne_true
 | bl i=>
  cases rx;cases y with
  | non=>cases ry;exact PySem.EqNone.eq_bool_none (Jd I q (by simp))
  | bl j=>cases ry;exact eq_bool (Jd I q vH)
  | str j=>obtain ⟨t',rfl⟩:=ry;exact PySem.EqMixed.eq_bool_str (Jd I q (by simp))
  | _=>exact absurd (show false=true from hs) Bool.false_ne_true
 | int i=>
  obtain ⟨t,rfl⟩:=rx;cases y with
  | non=>cases ry;exact PySem.EqNone.eq_int_none (Jd I q (by simp))
  | int j=>obtain ⟨t',rfl⟩:=ry;exact eq_int (Jd I q aF)
  | str j=>obtain ⟨t',rfl⟩:=ry;exact PySem.EqMixed.eq_int_str (Jd I q (by simp))
  | _=>exact absurd (show false=true from hs) Bool.false_ne_true
 | str i=>
  obtain ⟨t,rfl⟩:=rx;cases y with
  | non=>cases ry;exact PySem.EqNone.eq_str_none (Jd I q (by simp))
  | bl j=>cases ry;exact PySem.EqMixed.eq_str_bool (Jd I q (by simp))
  | int j=>obtain ⟨t',rfl⟩:=ry;exact PySem.EqMixed.eq_str_int (Jd I q (by simp))
  | str j=>obtain ⟨t',rfl⟩:=ry;exact eq_str (Jd I q kD)
  | _=>exact absurd (show false=true from hs) Bool.false_ne_true
 | byt i=>
  obtain ⟨t,rfl⟩:=rx;cases y with
  | byt j=>obtain ⟨t',rfl⟩:=ry;exact PySem.W.eq_bytes (Jd I q VC)
  | _=>exact absurd (show false=true from hs) Bool.false_ne_true
 | _=>cases y <;> exact absurd (show false=true from hs) Bool.false_ne_true
theorem Ly:OpR X (compareOp .NotEq) rNe:=by
 intro pins s σ H x y v u Q I rx ry h;obtain ⟨hs,q⟩:=h;cases x with
 | non=>
  cases rx;cases y with
  | non=>cases ry;exact PySem.EqNone.ne_none_none (Jd I q (by simp))
  | bl j=>cases ry;exact PySem.EqNone.ne_none_bool (Jd I q (by simp))
  | int j=>obtain ⟨t',rfl⟩:=ry;exact PySem.EqNone.ne_none_int (Jd I q (by simp))
  | str j=>obtain ⟨t',rfl⟩:=ry;exact PySem.EqNone.ne_none_str (Jd I q (by simp))
  | _=>exact absurd (show false=true from hs) Bool.false_ne_true
 | bl i=>
  cases rx;cases y with
  | non=>cases ry;exact PySem.EqNone.ne_bool_none (Jd I q (by simp))
  | bl j=>cases ry;exact ne_bool (Jd I q (congrArg not vH))
  | str j=>obtain ⟨t',rfl⟩:=ry;exact PySem.EqMixed.ne_bool_str (Jd I q (by simp))
  | _=>exact absurd (show false=true from hs) Bool.false_ne_true
 | int i=>
  obtain ⟨t,rfl⟩:=rx;cases y with
  | non=>cases ry;exact PySem.EqNone.ne_int_none (Jd I q (by simp))
  | int j=>obtain ⟨t',rfl⟩:=ry;exact ne_int (Jd I q (congrArg not aF))
  | str j=>obtain ⟨t',rfl⟩:=ry;exact PySem.EqMixed.ne_int_str (Jd I q (by simp))
  | _=>exact absurd (show false=true from hs) Bool.false_ne_true
 | str i=>
  obtain ⟨t,rfl⟩:=rx;cases y with
  | non=>cases ry;exact PySem.EqNone.ne_str_none (Jd I q (by simp))
  | bl j=>cases ry;exact PySem.EqMixed.ne_str_bool (Jd I q (by simp))
  | int j=>obtain ⟨t',rfl⟩:=ry;exact PySem.EqMixed.ne_str_int (Jd I q (by simp))
  | str j=>obtain ⟨t',rfl⟩:=ry;exact ne_str (Jd I q (congrArg not kD))
  | _=>exact absurd (show false=true from hs) Bool.false_ne_true
 | byt i=>
  obtain ⟨t,rfl⟩:=rx;cases y with
  | byt j=>obtain ⟨t',rfl⟩:=ry;exact PySem.W.ne_bytes (Jd I q (congrArg not VC))
  | _=>exact absurd (show false=true from hs) Bool.false_ne_true
 | _=>cases y <;> exact absurd (show false=true from hs) Bool.false_ne_true
theorem Iu:OpR X (compareOp .Lt) (rI0 fun i j=>.bl (decide (i < j))):=QN fun _ _ _ _ _ _ _ q=>lt_int q
theorem mq:OpR X (compareOp .Gt) (rI0 fun i j=>.bl (decide (j < i))):=QN fun _ _ _ _ _ _ _ q=>gt_int q
theorem RD:OpR X (compareOp .In) (fun x y H Q=>∃ i j,x=.str i/\y=.str j/\Q (.bl (!(Builtin.Str.occurrences j i 0 j.length 1).isEmpty)) H):=by
 intro pins s σ H x y v u Q I rx ry h;obtain ⟨i,j,rfl,rfl,q⟩:=h;obtain ⟨t,rfl⟩:=rx;obtain ⟨t',rfl⟩:=ry;exact in_str (Jd I q rfl)
theorem MC:OpR X (compareOp .IsNot) (fun x y H Q=>y=.non/\Q (.bl (!decide (x=.non))) H):=by
 intro pins s σ H x y v u Q I rx ry h;obtain ⟨rfl,q⟩:=h;cases ry;refine isnot_none_gen (Jd I q ?_);cases x <;> first
  | (cases rx;rfl)
  | (obtain ⟨t,rfl⟩:=rx;rfl)
theorem OpR.or {f:Value->Value->Sem Value} {r r':R2} (h:OpR X f r) (h':OpR X f r'):OpR X f (fun x y H Q=>r x y H Q\/r' x y H Q):=by
 intro pins s σ H x y v u Q I rx ry q;rcases q with q | q
 ·exact h pins s σ H x y v u Q I rx ry q
 ·exact h' pins s σ H x y v u Q I rx ry q
theorem Sb (b:Expr) {op:CmpOp} (h:op ≠ .In:=by decide) (h2:op ≠ .NotIn:=by decide):behindInMarks op b=false:=by
 have e1:(op == CmpOp.In)=false:=by cases op <;> first | rfl | exact absurd rfl h
 have e2:(op == CmpOp.NotIn)=false:=by cases op <;> first | rfl | exact absurd rfl h2
 cases b <;> simp [behindInMarks,e1,e2]
theorem Dd {op:CmpOp} {r:R2} (ho:OpR X (compareOp op) r) (ha:PE X a ta) (hb:PE X b tb) (hm:behindInMarks op b=false):PE X (.Compare a [op] [b] pos) (tOp r ta tb):=by
 intro pins s σ H Q I h;exact wpAny_Compare1 (GN ha hb I h fun v u s2 x y H2 I2 rx ry q=>ho pins s2 σ H2 x y v u Q I2 rx ry q) hm
noncomputable def QL (t:TE):TT:=fun σ H Q=>t σ H fun x H'=>∃ k,x=.bl k/\Q k H'
theorem Ob {op:CmpOp} {r:R2} (ho:OpR X (compareOp op) r) (ha:PE X a ta) (hb:PE X b tb) (hm:behindInMarks op b=false):PT X (.Compare a [op] [b] pos) (QL (tOp r ta tb)):=by
 intro pins s σ H Q I h;refine wpAny_isTrue_Compare1 (thn (ha pins s σ H _ I h) fun v s1 ⟨x,H1,I1,r1,q1⟩=>thn (hb pins s1 σ H1 _ I1 q1) fun u s2 ⟨y,H2,I2,r2,q2⟩=>
  thn (ho pins s2 σ H2 x y v u _ I2 r1 r2 q2) fun c s3 ⟨z,H3,I3,r3,k,e,q3⟩=>?_) hm
 subst e;cases r3;exact wpAny_truthy_bool ⟨H3,I3,q3⟩
noncomputable def VN (K:W.Frag) (x:V) (H:Hp) (k:Bool):Prop:=
 match x with
 | .non=>k=false
 | .bl b=>k=b
 | .int i=>k=(i != 0)
 | .str y=>y.length <= sizeLine/\k=((y.length:Int) != 0)
 | .byt y=>y.size <= sizeLine/\k=((y.size:Int) != 0)
 | .ref p=>(∃ xs,SqL K H p xs/\k = !xs.isEmpty)\/(∃ xs,SqT K H p xs/\k = !xs.isEmpty)\/∃ kvs,H p=some (.dK kvs)/\k = !kvs.isEmpty
 | _=>False
theorem BB {κ:Type} {kvs:List (κ × V)} {vs:List (κ × Value)} (r:KV kvs vs):(!vs.isEmpty) = !kvs.isEmpty:=by
 cases r <;> rfl
theorem iu {xs:List V} {its:List Value} (r:Sd xs its):(!its.toArray.isEmpty) = !xs.isEmpty:=by
 cases r <;> simp
theorem Jr:(sizeLine:Nat) < 2 ^ 63:=by rw [sizeLine_eq];decide
theorem lM:GO X (fun x H Q=>∃ k,VN X.K x H k/\Q k H):=by
 intro pins s σ H x v Q I rx h;obtain ⟨k,e,q⟩:=h;have hl:=Jr;have hs:sizeLine=16777216:=sizeLine_eq;cases x with
 | non=>
  cases rx;have e':k=false:=e;subst e';exact truthy_none ⟨H,I,q⟩
 | bl b=>
  cases rx;have e':k=b:=e;subst e';exact wpAny_truthy_bool ⟨H,I,q⟩
 | int i=>
  obtain ⟨t,rfl⟩:=rx;have e':k=(i != 0):=e;subst e';exact PySem.P.truthy_int ⟨H,I,q⟩
 | str y=>
  obtain ⟨t,rfl⟩:=rx;obtain ⟨hy,e'⟩:y.length <= sizeLine/\k=((y.length:Int) != 0):=e;subst e';exact PySem.P.truthy_str (by omega) ⟨H,I.tok _,q⟩
 | byt y=>
  obtain ⟨t,rfl⟩:=rx;obtain ⟨hy,e'⟩:y.size <= sizeLine/\k=((y.size:Int) != 0):=e;subst e';exact PySem.W.truthy_bytes (by omega) ⟨H,I.tok _,q⟩
 | ref p=>
  cases rx;have e':(∃ xs,SqL X.K H p xs/\k = !xs.isEmpty)\/(∃ xs,SqT X.K H p xs/\k = !xs.isEmpty)\/∃ kvs,H p=some (.dK kvs)/\k = !kvs.isEmpty:=e;rcases e' with ⟨xs,hx,e'⟩ | ⟨xs,hx,e'⟩ | ⟨kvs,hx,e'⟩
  ·subst e';obtain ⟨its,r,pl,hz⟩:=I.list hx;have hlen:=r.length;exact wpAny_truthy_list pl.isList (by simp only [size_toArray];omega) ⟨H,I.tok _,by rw [iu r];exact q⟩
  ·subst e';obtain ⟨its,r,pl,hz⟩:=I.tuple hx;have hlen:=r.length;exact truthy_tuple pl (by simp only [size_toArray];omega) ⟨H,I.tok _,by rw [iu r];exact q⟩
  ·subst e';obtain ⟨hz,hS,vs,r,m⟩:kvs.length <= sizeLine/\(p == sysModules)=false/\∃ vs,KV kvs vs/\s.heap.DictOf (zf X.prog X.w) p vs:=I.hok p _ hx;have hlen:kvs.length=vs.length:=Paired.length r;exact wpAny_truthy_dict hS m (by omega) ⟨H,I.tok _,by rw [BB r];exact q⟩
 | _=>exact (show False from e).elim
theorem Tz (ha:PE X a ta) (he:∀ whole,isTrue a X.env whole=(do let v <- whole;standAt a.pos;holding [v] (truthy v))) :
  PT X a (fun σ H Q=>ta σ H fun x H'=>∃ k,VN X.K x H' k/\Q k H'):=by
 intro pins s σ H Q I h;exact isTrue_plain (thn (ha pins s σ H _ I h) fun v s1 ⟨x,H1,I1,r1,q1⟩=>lM pins s1 σ H1 x v Q I1 r1 q1) (he _)
theorem Ec:OpR X (binaryOp .Add) (fun x y H Q=>∃ i j,x=.str i/\y=.str j/\i.length + j.length <= sizeLine/\Q (.str (i ++ j)) H):=by
 intro pins s σ H x y v u Q I rx ry h;obtain ⟨i,j,rfl,rfl,hz,q⟩:=h;obtain ⟨t,rfl⟩:=rx;obtain ⟨t',rfl⟩:=ry;exact add_str (fun t' tk=>⟨.str (i ++ j),H,I.tok _,⟨_,rfl⟩,q⟩) hz
theorem Vr {x:V} {us:List Value} (r:Sd [x] us):∃ u,us=[u]/\Td x u:=by
 cases r with
 | cons r1 r2=>cases r2;exact ⟨_,rfl,r1⟩
theorem rB {x y:V} {us:List Value} (r:Sd [x,y] us):∃ u w',us=[u,w']/\Td x u/\Td y w':=by
 cases r with
 | cons r1 r2=>
  cases r2 with
  | cons r3 r4=>cases r4;exact ⟨_,_,rfl,r1,r3⟩
theorem uC (hc:X.calm=true):gk X (.builtin "max") (fun xs H Q=>∃ i j,xs=[.int i,.int j]/\Q (.int (if j > i then j else i)) H):=by
 intro pins s σ H xs us Q I r h;obtain ⟨i,j,rfl,q⟩:=h;obtain ⟨u,w',rfl,⟨t,rfl⟩,⟨t',rfl⟩⟩:=rB r;refine max_two_ints (I.ok.hd hc) fun h' tk k=>⟨_,H,I.kept k,?_,q⟩
 by_cases hj:j > i
 ·rw [if_pos hj,if_pos hj];exact ⟨_,rfl⟩
 ·rw [if_neg hj,if_neg hj];exact ⟨_,rfl⟩
theorem Rv:gk X (.type "int") (fun xs H Q=>(∃ i,xs=[.int i]/\Q (.int i) H)\/∃ k,xs=[.bl k]/\Q (.int (if k then 1 else 0)) H):=by
 intro pins s σ H xs us Q I r h;rcases h with ⟨i,rfl,q⟩ | ⟨k,rfl,q⟩
 ·obtain ⟨u,rfl,t,rfl⟩:=Vr r;exact call_int_int ⟨.int i,H,I,⟨_,rfl⟩,q⟩
 ·obtain ⟨u,rfl,r1⟩:=Vr r;cases r1;exact call_int_bool ⟨.int (if k then 1 else 0),H,I.tok _,⟨_,rfl⟩,q⟩
theorem Ff:gk X (.type "str") (fun xs H Q=>∃ i,xs=[.int i]/\i.natAbs.log2 < 1920/\Q (.str (toString i)) H):=by
 intro pins s σ H xs us Q I r h;obtain ⟨i,rfl,hz,q⟩:=h;obtain ⟨u,rfl,t,rfl⟩:=Vr r;exact PySem.P.str_of_int hz ⟨.str _,H,I.tok _,⟨_,rfl⟩,q⟩
end
end L2
namespace L2
open PySem PySem.Spec PyProof.Rows
structure eJ (h:Heap) (x dx C:Addr) (mA:Str->Option Value):Prop where
 obj:h.get? x=some (PySem.W.instObj C dx)
 ns:h.Ns1 dx mA
 ne:dx ≠ x
theorem Tm {h:Heap} {dx:Addr} {mA:Str->Option Value} (n:h.Ns1 dx mA):∃ od,h.get? dx=some od/\∀ name,PySem.W.lookIn name od=some (mA name):=by
 obtain ⟨o,es,ep,ho,hd,hk,_,hm⟩:=n;refine ⟨o,ho,fun name=>?_⟩;have e:=hm name;unfold nsFind findBy at e;rw [<- Array.find?_toList] at e;unfold PySem.W.lookIn;rw [hd];dsimp only;split
 ·rename_i y q;rw [q] at e;exact congrArg some e
 ·rename_i q;rw [q] at e;have a:es.toList.any (·.refKey)=false:=by
   rw [List.any_eq_false];intro y hy;obtain ⟨z,t,hkey⟩:=hk y (Array.mem_toList_iff.mp hy);simp [DictEntry.refKey,hkey]
  have a':¬ es.toList.any (·.refKey)=true:=by rw [a];exact Bool.false_ne_true
  rw [if_neg a'];exact congrArg some e
theorem eJ.look {h:Heap} {x dx C:Addr} {mA:Str->Option Value} (I:eJ h x dx C mA):∃ od,PySem.W.InstAt h x (PySem.W.instObj C dx) C (some od)/\∀ name,PySem.W.lookIn name od=some (mA name):=
 let ⟨od,ho,hl⟩:=Tm I.ns
 ⟨od,⟨I.obj,rfl,rfl,ho⟩,hl⟩
section
variable {prog:Program} {w:World} {A:Around} {E:Value->Shared->Prop} {s:Shared} {K:W.Frag} {x dx C f:Addr} {mA:Str->Option Value} {name:Str} {v:Value}
theorem SJ {expr:Bool} {Q:Value->Shared->Prop} (X:K.In s.heap) (I:eJ s.heap x dx C mA) (hg:PySem.W.plainGet K C name=true) (hh:PySem.W.hasDictIn K C=true)
  (ha:PySem.W.findIn K (.ref C) name=some none) (hv:mA name=some v) (hv':PySem.W.handedIn v=true) (h:Q v { s with toks:=s.toks + 1 }) :
  wpAny (model prog w) A (getAttr (.ref x) name expr) Q E s:=by
 obtain ⟨od,J,hl⟩:=I.look;exact PySem.W.get_value X J (PySem.W.plainGet_of hg).1 (PySem.W.findObj_own hh ha rfl (by rw [hl,hv])) hv' h
theorem vF {pl:Sem Bool} {Q:Value × List Value->Shared->Prop} (X:K.In s.heap) (I:eJ s.heap x dx C mA) (hg:PySem.W.plainGet K C name=true)
  (hf:PySem.W.findIn K (.ref C) name=some (some (.ref f))) (ht:PySem.W.isFn K (.ref f)=true) (hv:mA name=none) (h:Q (.ref f,[.ref x]) s) :
  wpAny (model prog w) A (getMethod (.ref x) name pl) Q E s:=by
 obtain ⟨od,J,hl⟩:=I.look;exact PySem.W.method_fn X J (PySem.W.plainGet_of hg).1 (PySem.W.plainGet_of hg).2 hf (beq_iff_eq.mp ht) (by show (PySem.W.lookIn name od).map (·.isSome)=some false;rw [hl,hv];rfl) h
theorem MJ {ns:List Str} {Q:Unit->Shared->Prop} (X:K.In s.heap) (I:eJ s.heap x dx C mA)
  (hs:PySem.W.findIn K (.ref C) "__setattr__"=some (some (.builtin "object.__setattr__"))) (hp:PySem.W.plainOver K C=true) (ht:PySem.W.takerIn K C name=some none) (hh:PySem.W.hasDictIn K C=true)
  (hw:PySem.Within mA ns) (hsz:ns.length <= sizeLine)
  (h:∀ h',eJ h' x dx C (fun y=>if y=name then some v else mA y)->Heap.SameBut dx s.heap h'->Q () { s with heap:=h',toks:=s.toks + 2 }) :
  wpAny (model prog w) A (setAttr (.ref x) name v) Q E s:=by
 obtain ⟨od,J,hl⟩:=I.look;refine PySem.W.set_plain X J hs (PySem.W.osa_open (s:={ s with toks:=s.toks + 1 }) (r:=none) X J hp ht fun b=>?_);obtain ⟨cd,hc,hd'⟩:=PySem.W.any_some hh;have hx:s.heap.get? x=some ⟨.ref C,some dx,.plain,#[]⟩:=I.obj;refine wpAny_bind (wpAny_pure (wpAny_bind (wpAny_bind (wpAny_loadPart hx (wpAny_bind (PySem.W.Looks.here (s:={ s with toks:=s.toks + 1 }) (PySem.W.looks_clsIn X hc) ?_))))));rw [hd'];refine wpAny_pure (a:=some dx) (wpAny_bind (wpAny_pure (wpAny_bind ?_)));refine wpAny_nsSet1 (s:={ s with toks:=s.toks + 1 }) I.ns fun h' hn2 hs2=>?_
 obtain ⟨oD,esD,epD,hoD,hdD,hcD⟩:=hn2.count (PySem.Within.cons name v hw);refine wpAny_bind (wpAny_lookBehind hoD (by rw [hdD];exact pastItsLine_dict (Nat.le_trans hcD (by rw [length_cons];omega))) ?_);exact wpAny_pure (h _ ⟨(hs2.2 _ (Ne.symm I.ne)).trans I.obj,hn2,I.ne⟩ hs2)
theorem ZF {R:Result->Shared->Prop} {vs:List Value} {kw:List (Str × Value)} (X:K.In s.heap) (hm:PySem.W.makesIn K C=true)
  (hi:PySem.W.findIn K (.ref C) "__init__"=some (some (.ref f))) (hf:PySem.W.typeIn K (.ref f)=some (.type "function"))
  (h:codeAny (model prog w) (A.under (.builtin "type.__call__" ⟨.ref C :: vs,kw⟩)) (.call (.ref f) ⟨.ref (s.heap.objs.size + 1) :: vs,kw⟩) (PySem.W.InitBack (s.heap.objs.size + 1) R)
   { s with heap:=(s.heap.push PySem.W.emptyDict).push (PySem.W.instObj C s.heap.objs.size) }) :
  codeAny (model prog w) A (.call (.ref C) ⟨vs,kw⟩) R s:=by
 obtain ⟨hh,g,d,t,os⟩:=s;exact PySem.W.make_core (PySem.W.makes_of X hm) (PySem.W.looks_findIn X hi) (fun self=>PySem.W.bind_fn X self hf) (.inl rfl) h
end
noncomputable def qh (f:Str) (v:V):List (Str × V)->List (Str × V)
 | []=>[(f,v)]
 | (g,x) :: r=>if g=f then (g,v) :: r else (g,x) :: qh f v r
theorem tm (f g:Str) (v:V):∀ fs:List (Str × V),(qh f v fs).lookup g=if g=f then some v else fs.lookup g
 | []=>by
  show List.lookup g [(f,v)]=_;by_cases h:g=f
  ·have hb:(g == f)=true:=beq_iff_eq.mpr h;simp only [List.lookup,hb,if_pos h]
  ·have hb:(g == f)=false:=beq_eq_false_iff_ne.mpr h;simp only [List.lookup,hb,if_neg h]
 | (k,x) :: r=>by
  have ih:=tm f g v r;rw [show qh f v ((k,x) :: r)=(if k=f then (k,v) :: r else (k,x) :: qh f v r) from rfl];by_cases hk:k=f
  ·rw [if_pos hk];by_cases h:g=k
   ·have hb:(g == k)=true:=beq_iff_eq.mpr h;simp only [List.lookup,hb,if_pos (h.trans hk)]
   ·have hb:(g == k)=false:=beq_eq_false_iff_ne.mpr h;simp only [List.lookup,hb,if_neg (fun e:g=f=>h (e.trans hk.symm))]
  ·rw [if_neg hk];by_cases h:g=k
   ·have hb:(g == k)=true:=beq_iff_eq.mpr h;simp only [List.lookup,hb,if_neg (fun e:g=f=>hk (h.symm.trans e))]
   ·have hb:(g == k)=false:=beq_eq_false_iff_ne.mpr h;simp only [List.lookup,hb];exact ih
theorem yl (f:Str) (v:V):∀ fs:List (Str × V),f ∈ (qh f v fs).map (·.1)/\∀ g,g ∈ fs.map (·.1)->g ∈ (qh f v fs).map (·.1)
 | []=>⟨by simp [qh],fun g h=>by simp at h⟩
 | (k,x) :: r=>by
  obtain ⟨i1,i2⟩:=yl f v r;rw [show qh f v ((k,x) :: r)=(if k=f then (k,v) :: r else (k,x) :: qh f v r) from rfl];by_cases hk:k=f
  ·rw [if_pos hk];subst hk;exact ⟨by simp,fun g h=>by simpa using h⟩
  ·rw [if_neg hk];refine ⟨?_,fun g h=>?_⟩
   ·rw [map_cons];exact mem_cons_of_mem _ i1
   ·rw [map_cons] at h ⊢;rcases List.mem_cons.mp h with e | e
    ·exact List.mem_cons.mpr (.inl e)
    ·exact mem_cons_of_mem _ (i2 g e)
theorem Em (f:Str) (v:V):∀ fs:List (Str × V),(qh f v fs).length <= fs.length + 1
 | []=>by simp [qh]
 | (k,x) :: r=>by
  have ih:=Em f v r;rw [show qh f v ((k,x) :: r)=(if k=f then (k,v) :: r else (k,x) :: qh f v r) from rfl];by_cases hk:k=f
  ·rw [if_pos hk,length_cons,length_cons];omega
  ·rw [if_neg hk,length_cons,length_cons];omega
theorem Ds.some_of {v:V} {o:Option Value} (r:Ds (some v) o):∃ u,o=some u/\Td v u:=by
 cases o with
 | none=>exact (show False from r).elim
 | some u=>exact ⟨u,rfl,r⟩
theorem Ds.none_of {o:Option Value} (r:Ds none o):o=none:=by
 cases o with
 | none=>rfl
 | some u=>exact (show False from r).elim
theorem Ax {v:V} {u:Value} (r:Td v u):PySem.W.handedIn u=true:=by
 cases v with
 | non=>cases (show u=Value.none from r);rfl
 | bl b=>cases (show u=Value.bool b from r);rfl
 | int i=>obtain ⟨t,e⟩:=(show ∃ t,u=Value.int i t from r);cases e;rfl
 | str x=>obtain ⟨t,e⟩:=(show ∃ t,u=Value.str x t from r);cases e;rfl
 | byt b=>obtain ⟨t,e⟩:=(show ∃ t,u=Value.bytes b t from r);cases e;rfl
 | flt b=>obtain ⟨t,e⟩:=(show ∃ t,u=Value.float b t from r);cases e;rfl
 | ref a=>cases (show u=Value.ref a from r);rfl
 | ty n=>cases (show u=Value.type n from r);rfl
section
variable {P:Program} {w:World} {H H':Hp} {h h':Heap} {a C dx:Addr} {fs fs':List (Str × V)}
theorem Im (hok:HOk P w H h) (e:H a=some (.ins C dx fs)):∃ mA,eJ h a dx C mA/\(∀ f,Ds (fs.lookup f) (mA f))/\PySem.Within mA (fs.map (·.1))/\fs.length <= 1000/\H dx=some (.own a):=by
 obtain ⟨d,z,ne,ob,mA,n,r,q⟩:=(show vd P w H h a (.ins C dx fs) from hok a _ e);exact ⟨mA,⟨ob,n,ne⟩,r,q,z,d⟩
end
structure Cls (K:W.Frag) (C:Addr):Prop where
 pg:PySem.W.plainGet K C Str.empty=true
 hd:PySem.W.hasDictIn K C=true
 po:PySem.W.plainOver K C=true
 sa:PySem.W.findIn K (.ref C) "__setattr__"=some (some (.builtin "object.__setattr__"))
theorem Cls.get {K:W.Frag} {C:Addr} (c:Cls K C) (f:Str):PySem.W.plainGet K C f=true:=c.pg
noncomputable def Xb (K:W.Frag) (C:Addr) (f:Str):Prop:=PySem.W.findIn K (.ref C) f=some none
theorem Xb.taker {K:W.Frag} {C:Addr} {f:Str} (n:Xb K C f):PySem.W.takerIn K C f=some none:=by
 unfold PySem.W.takerIn;rw [show PySem.W.findIn K (.ref C) f=some none from n];rfl
structure Con (K:W.Frag) (C:Addr) (f:Str) (v:V) (u:Value):Prop where
 at_:PySem.W.findIn K (.ref C) f=some (some u)
 rel:Td v u
 get:PySem.W.specialIn K u "__get__"=some none
 cp:PySem.W.copiedNames.contains f=false
structure cu (K:W.Frag) (C:Addr) (m:Str) (f:Addr):Prop where
 at_:PySem.W.findIn K (.ref C) m=some (some (.ref f))
 fn:PySem.W.isFn K (.ref f)=true
 kp:PySem.W.keepIn K (.ref f)=true
section
variable {X:Cx} {pins:List (Addr × Obj)} {σ:St} {H:Hp} {s:Shared} {a C dx:Addr} {fs:List (Str × V)} {f:Str} {v:V} {A:Around} {E:Value->Shared->Prop}
theorem gu {b:Bool} {Q:Value->Shared->Prop} (I:Inv X pins σ H s) (e:H a=some (.ins C dx fs)) (c:Cls X.K C) (n:Xb X.K C f) (l:fs.lookup f=some v)
  (h:∀ u s',Inv X pins σ H s'->Td v u->Q u s'):wpAny (model X.prog X.w) A (getAttr (.ref a) f b) Q E s:=by
 obtain ⟨mA,O,r,_,_,_⟩:=Im I.hok e;obtain ⟨u,hu,ru⟩:=Ds.some_of (v:=v) (o:=mA f) (by rw [<- l];exact r f);exact SJ I.kIn O (c.get f) c.hd n hu (Ax ru) (h u _ (I.tok _) ru)
theorem Go {m:Str} {g:Addr} {pl:Sem Bool} {Q:Value × List Value->Shared->Prop} (I:Inv X pins σ H s) (e:H a=some (.ins C dx fs)) (c:Cls X.K C) (k:cu X.K C m g) (l:fs.lookup m=none)
  (h:Q (.ref g,[.ref a]) s):wpAny (model X.prog X.w) A (getMethod (.ref a) m pl) Q E s:=by
 obtain ⟨mA,O,r,_,_,_⟩:=Im I.hok e;have hn:mA m=none:=Ds.none_of (by rw [<- l];exact r m);exact vF I.kIn O (c.get m) k.at_ k.fn hn h
theorem ou {y:V} {u:Value} {Q:Unit->Shared->Prop} (I:Inv X pins σ H s) (e:H a=some (.ins C dx fs)) (c:Cls X.K C) (n:Xb X.K C f) (hl:fs.length < 1000) (ry:Td y u)
  (h:∀ s',Inv X pins σ (upd H a (.ins C dx (qh f y fs))) s'->Q () s'):wpAny (model X.prog X.w) A (setAttr (.ref a) f u) Q E s:=by
 obtain ⟨mA,O,r,wi,_,ho⟩:=Im I.hok e;have hz:(fs.map (·.1)).length <= sizeLine:=by rw [length_map,sizeLine_eq];omega
 refine MJ I.kIn O c.sa c.po n.taker c.hd wi hz fun h' O' sb=>h _ ?_
 have hd:∃ o,h'.get? dx=some o:=let ⟨o,_,_,e',_⟩:=O'.ns;⟨o,e'⟩;refine I.write (x:=a) (e:=dx) (by rw [e];exact True.intro) (.inr ho) (fun b q hb z=>(sb.2 b hb).trans z) hd ?_;refine ⟨by rw [zb O.ne];exact ho,?_,O.ne,O'.obj,_,O'.ns,fun g=>?_,fun g hg=>?_⟩
 ·have:=Em f y fs;omega
 ·show Ds ((qh f y fs).lookup g) (if g=f then some u else mA g);rw [tm];by_cases q:g=f
  ·rw [if_pos q,if_pos q];exact ry
  ·rw [if_neg q,if_neg q];exact r g
 ·by_cases q:g=f
  ·rw [q];exact (yl f y fs).1
  ·refine (yl f y fs).2 g (wi g fun z=>hg ?_);show (if g=f then some u else mA g)=none;rw [if_neg q];exact z
theorem Inv.made (I:Inv X pins σ H s):Inv X pins σ (upd (upd H s.heap.objs.size (.own (s.heap.objs.size + 1))) (s.heap.objs.size + 1) (.ins C s.heap.objs.size []))
  { s with heap:=(s.heap.push PySem.W.emptyDict).push (PySem.W.instObj C s.heap.objs.size) }:=by
 have e1:(s.heap.push PySem.W.emptyDict).get? s.heap.objs.size=some PySem.W.emptyDict:=Heap.get?_push_size s.heap rfl;have e2:((s.heap.push PySem.W.emptyDict).push (PySem.W.instObj C s.heap.objs.size)).get? (s.heap.objs.size + 1)=some (PySem.W.instObj C s.heap.objs.size):=by
  have:=Heap.get?_push_size (s.heap.push PySem.W.emptyDict) (o:=PySem.W.instObj C s.heap.objs.size) rfl;rwa [Heap.size_push] at this
 have e3:(s.heap.push PySem.W.emptyDict).Ns s.heap.objs.size (fun _=>none):=⟨PySem.W.emptyDict,#[],_,e1,rfl,(fun e he=>absurd he (by simp)),fun _=>rfl⟩;have I1:=I.laid (a:=s.heap.objs.size) (o:=.own (s.heap.objs.size + 1)) (h':=s.heap.push PySem.W.emptyDict) (t':=s.toks) (fun b u q=>Heap.get?_push_of_some _ q) (Nat.le_refl _) ⟨_,e1⟩;refine I1.laid (a:=s.heap.objs.size + 1) (o:=.ins C s.heap.objs.size []) (t':=s.toks) (fun b u q=>Heap.get?_push_of_some _ q) (Nat.le_of_eq (Heap.size_push _ _)) ?_;have ne:s.heap.objs.size ≠ s.heap.objs.size + 1:=Nat.ne_of_lt (Nat.lt_succ_self _);refine ⟨by rw [zb ne,gb],Nat.zero_le _,ne,e2,fun _=>none,(Heap.Ns1.of_empty e3).at fun o q=>Heap.get?_push_of_some _ q,fun _=>True.intro,fun y hy=>absurd rfl hy⟩
theorem fD {prog:Program} {w:World} {env:Env} {e:Expr} {f:Str} {pos:Pos} {s:Shared} {Q:Value->Shared->Prop} (hb:attributeBase e f env (eval e env)=eval e env)
  (h:wpAny (model prog w) A (eval e env) (fun o s₁=>wpAny (model prog w) A (getAttr o f true) Q E s₁) E s):wpAny (model prog w) A (eval (.Attribute e f pos) env) Q E s:=
 Attribute_any_ h (by rw [arm_eval_Attribute,hb])
end
noncomputable def ZM (K:W.Frag) (ta:TE) (f:Str):TE:=fun σ H Q=>ta σ H fun x H1=>∃ a C dx fs v,x=.ref a/\H1 a=some (.ins C dx fs)/\Cls K C/\Xb K C f/\fs.lookup f=some v/\Q v H1
noncomputable def zO (K:W.Frag) (ta tv:TE) (f:Str):TS:=fun D σ H=>tv σ H fun y H1=>ta σ H1 fun x H2=>∃ a C dx fs,x=.ref a/\H2 a=some (.ins C dx fs)/\Cls K C/\Xb K C f/\fs.length < 1000 /\
 D.nx σ (upd H2 a (.ins C dx (qh f y fs)))
noncomputable def YN (X:Cx) (op:Operator) (rd:V->V->Hp->VK->Prop):Prop:=
 ∀ (pins:List (Addr × Obj)) (s:Shared) (σ:St) (H:Hp) (x y:V) (u v:Value) (Q:VK),Inv X pins σ H s->Td x u->Td y v->rd x y H Q->wpAny (model X.prog X.w) X.A (inplaceOp op u v) (EP X pins σ Q) X.xe s
noncomputable def ZE (K:W.Frag) (ta tv:TE) (rd:V->V->Hp->VK->Prop) (f:Str):TS:=fun D σ H=>ta σ H fun x H1=>∃ a C dx fs v,x=.ref a/\H1 a=some (.ins C dx fs)/\Cls K C/\Xb K C f/\fs.lookup f=some v /\
 tv σ H1 fun y H2=>rd v y H2 fun z H3=>∃ dx' fs',H3 a=some (.ins C dx' fs')/\fs'.length < 1000/\D.nx σ (upd H3 a (.ins C dx' (qh f z fs')))
section
variable {X:Cx} {o e value:Expr} {f:Str} {pos pos' tpos:Pos} {ta tv:TE}
theorem Tc (he:PE X e ta) (hb:attributeBase e f X.env (eval e X.env)=eval e X.env):PE X (.Attribute e f pos) (ZM X.K ta f):=by
 intro pins s σ H Q I h;refine fD hb (thn (he pins s σ H _ I h) fun u s1 hZ1=>?_);obtain ⟨x,H1,I1,rx,a,C,dx,fs,v,ex,ea,c,n,l,q⟩:=hZ1;subst ex;obtain rfl:u=Value.ref a:=rx;exact gu I1 ea c n l fun u' s2 I2 ru=>⟨v,H1,I2,ru,q⟩
theorem tf (ha:PE X o ta) (hv:PE X value tv) (hs:swapsWith value (some (.Attribute o f pos')) pos.line X.env=pure false):PS X (.Assign [.Attribute o f pos'] value pos) (zO X.K ta tv f):=by
 intro pins s σ H D I h;refine plainObj_wpAny_Assign_Attribute (thn (hv pins s σ H _ I h) fun u s1 ⟨y,H1,I1,ry,q⟩=>thn (ha pins s1 σ H1 _ I1 q) fun ov s2 hZ1=>?_) hs;obtain ⟨x,H2,I2,rx,a,C,dx,fs,ex,ea,c,n,l,q2⟩:=hZ1;subst ex;obtain rfl:ov=Value.ref a:=rx;exact ou I2 ea c n l ry fun s3 I3=>⟨σ,_,I3,q2⟩
theorem dw {op:Operator} {rd:V->V->Hp->VK->Prop} (ha:PE X o ta) (hv:PE X value tv) (hop:YN X op rd):PS X (.AugAssign (.Attribute o f tpos) op value pos) (ZE X.K ta tv rd f):=by
 intro pins s σ H D I h;refine wpAny_AugAssign_AttributeAny (thn (ha pins s σ H _ I h) fun ov s1 hZ1=>?_);obtain ⟨x,H1,I1,rx,a,C,dx,fs,v,ex,ea,c,n,l,q⟩:=hZ1;subst ex;obtain rfl:ov=Value.ref a:=rx;refine gu I1 ea c n l fun u s2 I2 ru=>thn (hv pins s2 σ H1 _ I2 q) fun w3 s3 ⟨y,H2,I3,ry,q3⟩=>thn (hop pins s3 σ H2 v y u w3 _ I3 ru ry q3) fun w4 s4 hZ1=>?_
 obtain ⟨z,H3,I4,rz,dx',fs',ea',l',q4⟩:=hZ1;exact ou I4 ea' c n l' rz fun s5 I5=>⟨σ,_,I5,q4⟩
noncomputable def lO:V->V->Hp->VK->Prop:=fun x y H Q=>∃ i j,x=.int i/\y=.int j/\Q (.int (i + j)) H
theorem QH:YN X .Add lO:=by
 rintro pins s σ H x y u v Q I rx ry ⟨i,j,rfl,rfl,q⟩;obtain ⟨t,rfl⟩:=(show ∃ t,u=Value.int i t from rx);obtain ⟨t',rfl⟩:=(show ∃ t',v=Value.int j t' from ry);exact PyProof.Rows.iadd_int ⟨.int (i + j),H,I.tok _,⟨_,rfl⟩,q⟩
end
section
variable {X:Cx} {pins:List (Addr × Obj)} {σ:St} {H:Hp} {s:Shared} {A:Around} {E:Value->Shared->Prop} {Q:Value->Shared->Prop} {c:Value} {b:Bool}
inductive Cz (K:W.Frag) (H:Hp):V->Value->Prop where
 | non:Cz K H .non (.type "NoneType")
 | bl (x:Bool):Cz K H (.bl x) (.type "bool")
 | int (i:Int):Cz K H (.int i) (.type "int")
 | str (x:Str):Cz K H (.str x) (.type "str")
 | flt (x:UInt64):Cz K H (.flt x) (.type "float")
 | lst {a:Addr} {xs:List V} (e:H a=some (.lst xs)):Cz K H (.ref a) (.type "list")
 | frz {a:Addr} {o:Obj} {xs:List V} (e:H a=some (.frz o (.lst xs))):Cz K H (.ref a) (.type "list")
 | tup {a:Addr} {xs:List V} (e:H a=some (.tup xs)):Cz K H (.ref a) (.type "tuple")
 | dK {a:Addr} {kvs:List (Key × V)} (e:H a=some (.dK kvs)):Cz K H (.ref a) (.type "dict")
 | dT {a:Addr} {kvs:List (List Key × V)} (e:H a=some (.dT kvs)):Cz K H (.ref a) (.type "dict")
 | ins {a C dx:Addr} {fs:List (Str × V)} (e:H a=some (.ins C dx fs)) (cl:Cls K C) (ha:PySem.W.findIn K (.ref C) "__class__"=some (some (.builtin "object.__class__")))
   (hn:PySem.W.specialIn K (.builtin "object.__class__") "__get__"=some (some (.builtin "getset_descriptor.__get__"))) (htk:PySem.W.takesIn K (.builtin "object.__class__")=some true)
   (hm:PySem.W.mroIn K C (.type "object")=some true):Cz K H (.ref a) (.ref C)
theorem UC {x:V} {u t:Value} (I:Inv X pins σ H s) (rx:Td x u) (ty:Cz X.K H x t) (e:PySem.W.kitOne X.K t c=some b) (h:∀ tk,Q (.bool b) { s with toks:=tk }) :
  wpAny (model X.prog X.w) A (call (.builtin "isinstance") [u,c]) Q E s:=by
 cases ty with
 | non=>cases (show u=Value.none from rx);exact PySem.W.kia_one PySem.W.kitx_none I.kIn True.intro e (fun z=>nomatch z) h
 | bl y=>cases (show u=Value.bool y from rx);exact PySem.W.kia_one PySem.W.kitx_bool I.kIn True.intro e (fun z=>nomatch z) h
 | int i=>obtain ⟨t,q⟩:=(show ∃ t,u=Value.int i t from rx);cases q;exact PySem.W.kia_one PySem.W.kitx_int I.kIn True.intro e (fun z=>nomatch z) h
 | str y=>obtain ⟨t,q⟩:=(show ∃ t,u=Value.str y t from rx);cases q;exact PySem.W.kia_one PySem.W.kitx_str I.kIn True.intro e (fun z=>nomatch z) h
 | flt y=>obtain ⟨t,q⟩:=(show ∃ t,u=Value.float y t from rx);cases q;exact PySem.W.kia_one PySem.W.kitx_float I.kIn True.intro e (fun z=>nomatch z) h
 | @lst a xs ea=>
  cases (show u=Value.ref a from rx);obtain ⟨_,_,n,_,h1⟩:=(show vd X.prog X.w H s.heap a (.lst xs) from I.hok a _ ea);exact PySem.W.kia_one PySem.W.kitx_list I.kIn ⟨_,h1,rfl⟩ e (fun z=>nomatch z) h
 | @frz a ob xs ea=>
  cases (show u=Value.ref a from rx);obtain ⟨_,_,_,n,_,h1⟩:=(show vd X.prog X.w H s.heap a (.frz ob (.lst xs)) from I.hok a _ ea);exact PySem.W.kia_one PySem.W.kitx_list I.kIn ⟨_,h1,rfl⟩ e (fun z=>nomatch z) h
 | @tup a xs ea=>
  cases (show u=Value.ref a from rx);obtain ⟨_,_,_,p⟩:=(show vd X.prog X.w H s.heap a (.tup xs) from I.hok a _ ea);obtain ⟨o,h1,h2,_⟩:=p;exact PySem.W.kia_one PySem.W.kitx_tuple I.kIn ⟨o,h1,h2⟩ e (fun z=>nomatch z) h
 | @dK a kvs ea=>
  cases (show u=Value.ref a from rx);obtain ⟨_,_,vs,_,p⟩:=(show vd X.prog X.w H s.heap a (.dK kvs) from I.hok a _ ea);obtain ⟨o,es,ep,h1,h2,_⟩:=p;exact PySem.W.kia_one PySem.W.kitx_dict I.kIn ⟨o,h1,h2.1⟩ e (fun z=>nomatch z) h
 | @dT a kvs ea=>
  cases (show u=Value.ref a from rx);obtain ⟨_,_,xs,_,o,es,ep,h1,h2,_⟩:=(show vd X.prog X.w H s.heap a (.dT kvs) from I.hok a _ ea);exact PySem.W.kia_one PySem.W.kitx_dict I.kIn ⟨o,h1,h2.1⟩ e (fun z=>nomatch z) h
 | @ins a C dx fs ea cl ha hn htk hm=>
  cases (show u=Value.ref a from rx);obtain ⟨mA,O,_⟩:=Im I.hok ea;obtain ⟨od,J,_⟩:=O.look;exact PySem.W.kia_one (PySem.W.kitx_own (cl.get _) cl.hd ha hn htk hm) I.kIn J e (fun z=>nomatch z) h
end
end L2
namespace L2
open PySem PySem.Spec PyProof.Rows
structure pj (k:Nat) (A:Around):Prop where
 hd:A.handled=none
 dp:A.depth + 3 * k + 5 < recursionLimit
 un:A.units + 16 * k + 200 < cLine
theorem pj.mono {j k:Nat} {A:Around} (r:pj k A) (h:j <= k):pj j A:=⟨r.hd,by have:=r.dp;omega,by have:=r.un;omega⟩
theorem pj.deeper {k:Nat} {A:Around} (r:pj (k + 1) A) (env:Env):pj k (A.deeper env):=
 ⟨r.hd,by have:=r.dp;show A.depth + 1 + 3 * k + 5 < _;omega,by have:=r.un;show A.units + 3 + 16 * k + 200 < _;omega⟩
theorem pj.in1 {k:Nat} {A:Around} (r:pj (k + 1) A):pj k A.in1:=
 ⟨r.hd,by have:=r.dp;show A.depth + 3 * k + 5 < _;omega,by have:=r.un;show A.units + 1 + 16 * k + 200 < _;omega⟩
theorem iB {A:Around} {C:Addr} {us:List Value} {kw:List (Str × Value)}:(A.under (.builtin "type.__call__" ⟨.ref C :: us,kw⟩)).depth=A.depth + 1:=by
 first | rfl | simp [Around.under,Code.weight,Code.isCreation,Code.isGuard,Code.isCaller,Code.frames,Code.isFrame,guardIds]
theorem yB {A:Around} {C:Addr} {us:List Value} {kw:List (Str × Value)}:(A.under (.builtin "type.__call__" ⟨.ref C :: us,kw⟩)).units=A.units + 1:=by
 first | rfl | simp [Around.under,Code.cUnits,Code.frames,Code.isFrame]
theorem pj.make {k:Nat} {A:Around} (r:pj (k + 1) A) (C:Addr) (us:List Value) (kw:List (Str × Value)):pj k (A.under (.builtin "type.__call__" ⟨.ref C :: us,kw⟩)):=
 ⟨r.hd,by have:=r.dp;rw [iB];omega,by have:=r.un;rw [yB];omega⟩
theorem pj.depth {k:Nat} {A:Around} (r:pj k A):A.depth < recursionLimit:=by have:=r.dp;omega
theorem pj.units {k:Nat} {A:Around} (r:pj k A):A.units + 64 < cLine:=by have:=r.un;omega
noncomputable def RM:TA:=fun _ H Q=>Q [] H
noncomputable def aL (ta:TE) (tr:TA):TA:=fun σ H Q=>ta σ H fun x H1=>tr σ H1 fun xs H2=>Q (x :: xs) H2
section
variable {X:Cx} {e:Expr} {es:List Expr} {te:TE} {t:TA} {pos:Pos}
theorem fb:PA X [] RM:=fun _ _ _ _ H Q I h=>Calls.spliced_nil ⟨[],H,I,.nil,h⟩
theorem cb (ha:PE X e te) (hr:PA X es t) (hs:starEach (e :: es) X.env=(false,eval e X.env) :: starEach es X.env:=by rfl):PA X (e :: es) (aL te t):=by
 intro pos pins s σ H Q I h;rw [hs];show wpAny _ _ (spliced ((false,eval e X.env) :: backTo pos (starEach es X.env))) _ _ s;refine Calls.spliced_cons (thn (ha pins s σ H _ I h) fun u s1 hZ1=>?_);obtain ⟨x,H1,I1,r1,q1⟩:=hZ1;exact thn (hr pos pins s1 σ H1 _ I1 q1) fun us s2 ⟨xs,H2,I2,r2,q2⟩=>⟨x :: xs,H2,I2,.cons r1 r2,q2⟩
noncomputable def MN (t:TA):TE:=fun σ H Q=>t σ H fun xs H1=>xs.length <= sizeLine/\∀ p,H1 p=none->Q (.ref p) (upd H1 p (.tup xs))
noncomputable def sO (t:TA):TE:=fun σ H Q=>t σ H fun xs H1=>xs.length <= sizeLine/\∀ p,H1 p=none->Q (.ref p) (upd H1 p (.lst xs))
theorem br {x1} (h:PA X es t):PE X (.Tuple es x1 pos) (MN t):=by
 intro pins s σ H Q I hq;refine wpAny_Tuple_spliced (thn (h pos pins s σ H _ I hq) fun us s1 ⟨xs,H1,I1,r,z,q⟩=>⟨by rw [<- r.length];exact z,?_⟩);have hf:H1 s1.heap.objs.size=none:=I1.hok.fresh (Nat.le_refl _);refine ⟨.ref s1.heap.objs.size,upd H1 s1.heap.objs.size (.tup xs),I1.laid (t':=s1.toks) (fun b u e=>Heap.get?_push_of_some _ e) (Nat.le_refl _) ?_,rfl,q _ hf⟩;exact ⟨z,us,r,⟨_,Heap.get?_push_size _ rfl,rfl,_,rfl⟩⟩
theorem sd (h:PA X es t):PE X (.List es pos) (sO t):=by
 intro pins s σ H Q I hq;refine wpAny_List_spliced (thn (h pos pins s σ H _ I hq) fun us s1 ⟨xs,H1,I1,r,z,q⟩=>⟨by rw [<- r.length];exact z,?_⟩);have hf:H1 s1.heap.objs.size=none:=I1.hok.fresh (Nat.le_refl _);refine ⟨.ref s1.heap.objs.size,upd H1 s1.heap.objs.size (.lst xs),I1.laid (t':=s1.toks) (fun b u e=>Heap.get?_push_of_some _ e) (Nat.le_refl _) ?_,rfl,q _ hf⟩;exact ⟨z,us,0,r,Heap.get?_push_size _ rfl⟩
end
noncomputable abbrev Sp:=List V->Hp->VK->XK->Prop
noncomputable abbrev CXT:=List Env->Hp->Shared->XK->Value->Shared->Prop
structure QD (P:Program) (w:World) (K:W.Frag) (mg:Str->Option Value) (base:Heap) (A:Around) (outer:List Env) (s:Shared) (H:Hp):Prop where
 frames:A.frames=some outer
 mod:Mod K mg base
 bs:∀ b o,base.get? b=some o->s.heap.get? b=some o/\H b=none
 bsz:base.objs.size <= s.heap.objs.size
 funs:s.heap.FunFrames base outer
 frf:∀ b ∈ frs outer,H b=none
 hok:HOk P w H s.heap
 bare:AllBare s.gens
noncomputable def CE (outer:List Env) (P:Program) (w:World) (H:Hp) (s:Shared) (Q:VK) (u:Value) (s':Shared):Prop:=
 ∃ v H',s'.os=s.os/\AllBare s'.gens/\Un (frs outer) [] H H' s.heap s'.heap/\HOk P w H' s'.heap/\Td v u/\Q v H'
noncomputable def CR (CX:CXT) (outer:List Env) (P:Program) (w:World) (H:Hp) (s:Shared) (Q:VK) (E:XK) (r:Result) (s':Shared):Prop:=
 match r with
 | .ok (.ret u)=>CE outer P w H s Q u s'
 | .ok _=>False
 | .error e=>CX outer H s E e s'
structure Ub (P:Program) (w:World) (K:W.Frag) (mg:Str->Option Value) (base:Heap) (CX:CXT) (k:Nat) (f:Addr) (fd:FuncData) (ps:List Str) (sp:Sp):Prop where
 len:∀ vs H Q E,sp vs H Q E->vs.length=ps.length
 run:∀ (A:Around) (outer:List Env) (s:Shared) (H:Hp) (args:Args) (us:List Value) (vs:List V) (Q:VK) (E:XK),pj k A->QD P w K mg base A outer s H->BindsTo s fd args (ps.zip us)->Sd vs us->sp vs H Q E ->
  codeAny (model P w) A (.call (.ref f) args) (CR CX outer P w H s Q E) s
theorem Ub.mono {P:Program} {w:World} {K:W.Frag} {mg:Str->Option Value} {base:Heap} {CX:CXT} {j k:Nat} {f:Addr} {fd:FuncData} {ps:List Str} {sp:Sp} (F:Ub P w K mg base CX j f fd ps sp) (h:j <= k) :
  Ub P w K mg base CX k f fd ps sp:=⟨F.len,fun A outer s H args us vs Q E hr=>F.run A outer s H args us vs Q E (hr.mono h)⟩
theorem Ub.imp {P:Program} {w:World} {K:W.Frag} {mg:Str->Option Value} {base:Heap} {CX:CXT} {k:Nat} {f:Addr} {fd:FuncData} {ps:List Str} {sp sp':Sp} (F:Ub P w K mg base CX k f fd ps sp)
  (h:∀ vs H Q E,sp' vs H Q E->sp vs H Q E):Ub P w K mg base CX k f fd ps sp':=
 ⟨fun vs H Q E q=>F.len vs H Q E (h _ _ _ _ q),fun A outer s H args us vs Q E hr he hb hv hs=>F.run A outer s H args us vs Q E hr he hb hv (h _ _ _ _ hs)⟩
theorem QD.make {P:Program} {w:World} {K:W.Frag} {mg:Str->Option Value} {base:Heap} {A:Around} {outer:List Env} {s:Shared} {H:Hp} (e:QD P w K mg base A outer s H) (C:Addr) (us:List Value) (kw:List (Str × Value)) :
  QD P w K mg base (A.under (.builtin "type.__call__" ⟨.ref C :: us,kw⟩)) outer s H:=⟨by first | exact e.frames | (simpa [Around.under,Code.envs,Code.isFrame,pushEnvs] using e.frames),e.mod,e.bs,e.bsz,e.funs,e.frf,e.hok,e.bare⟩
theorem QD.in1 {P:Program} {w:World} {K:W.Frag} {mg:Str->Option Value} {base:Heap} {A:Around} {outer:List Env} {s:Shared} {H:Hp} (e:QD P w K mg base A outer s H) :
  QD P w K mg base A.in1 outer s H:=⟨e.frames,e.mod,e.bs,e.bsz,e.funs,e.frf,e.hok,e.bare⟩
section
variable {X:Cx} {pins:List (Addr × Obj)} {σ:St} {H:Hp} {s s':Shared}
theorem Inv.env0 (I:Inv X pins σ H s):QD X.prog X.w X.K X.mg X.base X.A X.stack s H:=
 ⟨I.ok.frames,I.ok.mod,I.bs,Nat.le_trans I.ok.bsz I.sz,I.stack,I.stkFree,I.hok,I.bare⟩
theorem Inv.after {Q:VK} {u:Value} (I:Inv X pins σ H s) (h:CE X.stack X.prog X.w H s Q u s'):EP X pins σ Q u s':=by
 obtain ⟨v,H',os,bare,un,hok,r,q⟩:=h;obtain ⟨hh,g,d,t,os'⟩:=s';obtain rfl:os'=s.os:=os;exact ⟨v,H',I.call (h':=hh) (g':=g) (d':=d) (t':=t) (ch:=[]) un hok bare (fun b z=>absurd z (by simp)),r,q⟩
end
noncomputable def jJ (sp:Sp) (dvs:List V) (E:XK) (t:TA):TE:=fun σ H Q=>t σ H fun vs H1=>sp (vs ++ dvs) H1 Q E
noncomputable def AI (C:Addr) (m:Str) (sp:Sp) (dvs:List V) (E:XK) (ta:TE) (t:TA):TE:=fun σ H Q=>ta σ H fun x H1=>∃ a dx fs,x=.ref a/\H1 a=some (.ins C dx fs)/\fs.lookup m=none /\
 t σ H1 fun vs H2=>sp (x :: (vs ++ dvs)) H2 Q E
noncomputable def FL (C:Addr) (sp:Sp) (dvs:List V) (E:XK) (t:TA):TE:=fun σ H Q=>t σ H fun vs H1=>∀ x dx,H1 x=none->H1 dx=none->dx ≠ x ->
 sp (.ref x :: (vs ++ dvs)) (upd (upd H1 dx (.own x)) x (.ins C dx [])) (fun v H2=>v=.non/\Q (.ref x) H2) E
noncomputable def vc (K:W.Frag) (fd:FuncData) (ps:List Str) (ds:List Value):Prop:=
 ∀ (s:Shared) (us:List Value),K.In s.heap->(us ++ ds).length=ps.length->BindsTo s fd ⟨us,[]⟩ (ps.zip (us ++ ds))
theorem vc.all {K:W.Frag} {fd:FuncData} {ps:List Str} (h:∀ us:List Value,us.length=ps.length->bindArgs fd ⟨us,[]⟩=pure (ps.zip us)):vc K fd ps []:=fun s us _ hl=>by
 rw [append_nil] at hl ⊢;exact .of_eq (h us hl)
noncomputable def Tl (CX:CXT) (X:Cx) (E:XK):Prop:=∀ (pins:List (Addr × Obj)) (σ:St) (H:Hp) (s:Shared) (e:Value) (s':Shared),Inv X pins σ H s->CX X.stack H s E e s'->X.xe e s'
section
variable {X:Cx} {CX:CXT} {k:Nat} {f C:Addr} {fd:FuncData} {ps:List Str} {sp:Sp} {dvs:List V} {ds:List Value} {E:XK} {x m:Str} {p pos apos:Pos} {e o:Expr} {es:List Expr} {ta:TE} {t:TA}
theorem Hw {pins:List (Addr × Obj)} {σ:St} {H:Hp} {s:Shared} {Q:VK} {us:List Value} {vs:List V} (F:Ub X.prog X.w X.K X.mg X.base CX k f fd ps sp) (hr:pj k X.A) (hb:vc X.K fd ps ds) (hd:Sd dvs ds) (hx:Tl CX X E)
  (I:Inv X pins σ H s) (r:Sd vs us) (h:sp (vs ++ dvs) H Q E):wpAny (model X.prog X.w) X.A (call (.ref f) us) (EP X pins σ Q) X.xe s:=by
 have r2:Sd (vs ++ dvs) (us ++ ds):=r.append hd;have hl:(us ++ ds).length=ps.length:=by rw [<- r2.length];exact F.len _ _ _ _ h
 refine wpAny_call (codeAny_mono (F.run X.A X.stack s H ⟨us,[]⟩ (us ++ ds) (vs ++ dvs) Q E hr I.env0 (hb s us I.kIn hl) r2 h) fun r s' hq=>?_);cases r with
 | error e=>exact hx pins σ H s e s' I hq
 | ok fl=>
  cases fl with
  | ret u=>exact I.after hq
  | next=>exact False.elim hq
  | brk=>exact False.elim hq
  | cont=>exact False.elim hq
theorem vb (F:Ub X.prog X.w X.K X.mg X.base CX k f fd ps sp) (hr:pj k X.A) (hg:Gl X x) (hm:X.mg x=some (.ref f)) (hk:PySem.W.keepIn X.K (.ref f)=true) (hb:vc X.K fd ps ds) (hd:Sd dvs ds) (hx:Tl CX X E)
  (ha:PA X (e :: es) t) (hdb:(x == ("__debug__" : Str))=false:=by decide) (he:starEach (e :: es) X.env=(false,eval e X.env) :: starEach es X.env:=by rfl) (hpl:(backTo pos (starEach es X.env)).any (·.1)=false:=by rfl) :
  PE X (.Call (.Name x p) (e :: es) [] pos) (jJ sp dvs E t):=by
 intro pins s σ H Q I h;refine wpAny_Call_Name_kw (ll I hg hm ?_ hdb);refine PySem.W.callWith_K (h₀:=X.base) I.ok.mod.kin hk (thn (ha pos pins s σ H _ I h) fun us s1 ⟨vs,H1,I1,r,q⟩=>⟨I1.kIn,?_⟩) he hpl;exact Hw F hr hb hd hx I1 r q
theorem qd {pl:Sem Bool} (he:PE X o ta) (c:Cls X.K C) (hm:cu X.K C m f) (F:Ub X.prog X.w X.K X.mg X.base CX k f fd ps sp) (hr:pj k X.A) (hb:vc X.K fd ps ds) (hd:Sd dvs ds) (hx:Tl CX X E) (ha:PA X (e :: es) t)
  (hst:starEach (e :: es) X.env=(false,eval e X.env) :: starEach es X.env:=by rfl) (hpl:(backTo pos (starEach es X.env)).any (·.1)=false:=by rfl)
  (ht:eval (.Call (.Attribute o m apos) (e :: es) [] pos) X.env=(do
   let ov <- eval o X.env
   standAt apos.atName
   let (f,first) <- holding [ov] (getMethod ov m pl)
   callWith pos f first (backTo pos (starEach (e :: es) X.env)) (backToKw pos (keywordEach [] X.env))):=by rfl) :
  PE X (.Call (.Attribute o m apos) (e :: es) [] pos) (AI C m sp dvs E ta t):=by
 intro pins s σ H Q I h;refine PySem.W.methodCall_KW (pl:=pl) (thn (he pins s σ H _ I h) fun u s1 hZ1=>?_) ht;obtain ⟨x,H1,I1,rx,a,dx,fs,ex,ea,l,q⟩:=hZ1;subst ex;obtain rfl:u=Value.ref a:=rx;refine Go I1 ea c hm l ?_;refine PySem.W.callWith_K (first:=[.ref a]) (h₀:=X.base) I.ok.mod.kin hm.kp (thn (ha pos pins s1 σ H1 _ I1 q) fun us s2 ⟨vs,H2,I2,r,q2⟩=>⟨I2.kIn,?_⟩) hst hpl;exact Hw (us:=.ref a :: us) (vs:=.ref a :: vs) F hr hb hd hx I2 (.cons rfl r) q2
theorem Be {pl:Sem Bool} (he:PE X o ta) (c:Cls X.K C) (hm:cu X.K C m f) (F:Ub X.prog X.w X.K X.mg X.base CX k f fd ps sp) (hr:pj k X.A) (hb:vc X.K fd ps ds) (hd:Sd dvs ds) (hx:Tl CX X E)
  (ht:eval (.Call (.Attribute o m apos) [] [] pos) X.env=(do
   let ov <- eval o X.env
   standAt apos.atName
   let (f,first) <- holding [ov] (getMethod ov m pl)
   callWith pos f first (backTo pos (starEach [] X.env)) (backToKw pos (keywordEach [] X.env))):=by rfl) :
  PE X (.Call (.Attribute o m apos) [] [] pos) (AI C m sp dvs E ta RM):=by
 intro pins s σ H Q I h;refine PySem.W.methodCall_KW (pl:=pl) (thn (he pins s σ H _ I h) fun u s1 hZ1=>?_) ht;obtain ⟨x,H1,I1,rx,a,dx,fs,ex,ea,l,q⟩:=hZ1;subst ex;obtain rfl:u=Value.ref a:=rx;refine Go I1 ea c hm l ?_;exact PySem.W.callWith_K0 (first:=[.ref a]) I1.kIn hm.kp (Hw (us:=[.ref a]) (vs:=[.ref a]) F hr hb hd hx I1 (.cons rfl .nil) q)
structure Mk (K:W.Frag) (C f:Addr):Prop where
 makes:PySem.W.makesIn K C=true
 init:PySem.W.findIn K (.ref C) "__init__"=some (some (.ref f))
 fn:PySem.W.isFn K (.ref f)=true
 kp:PySem.W.keepIn K (.ref C)=true
theorem mH {pins:List (Addr × Obj)} {σ:St} {H:Hp} {s:Shared} {Q:VK} {us:List Value} {vs:List V} (M:Mk X.K C f) (F:Ub X.prog X.w X.K X.mg X.base CX k f fd ps sp) (hr:pj (k + 1) X.A) (hb:vc X.K fd ps ds) (hd:Sd dvs ds)
  (hx:Tl CX X E) (I:Inv X pins σ H s) (r:Sd vs us)
  (h:∀ x dx,H x=none->H dx=none->dx ≠ x->sp (.ref x :: (vs ++ dvs)) (upd (upd H dx (.own x)) x (.ins C dx [])) (fun v H2=>v=.non/\Q (.ref x) H2) E) :
  wpAny (model X.prog X.w) X.A (call (.ref C) us) (EP X pins σ Q) X.xe s:=by
 have hq:=h (s.heap.objs.size + 1) s.heap.objs.size (I.hok.fresh (Nat.le_succ _)) (I.hok.fresh (Nat.le_refl _)) (Nat.ne_of_lt (Nat.lt_succ_self _));have I2:=Inv.made (C:=C) I;have r2:Sd (V.ref (s.heap.objs.size + 1) :: (vs ++ dvs)) (Value.ref (s.heap.objs.size + 1) :: (us ++ ds)):=.cons rfl (r.append hd);have hl:(Value.ref (s.heap.objs.size + 1) :: us ++ ds).length=ps.length:=by
  have e:=r2.length;rw [F.len _ _ _ _ hq] at e;exact e.symm
 refine wpAny_call (ZF (f:=f) I.kIn M.makes M.init (beq_iff_eq.mp M.fn) (codeAny_mono (F.run _ X.stack _ _ ⟨Value.ref (s.heap.objs.size + 1) :: us,[]⟩ (Value.ref (s.heap.objs.size + 1) :: (us ++ ds)) _ _ E (hr.make C us [])
  (I2.env0.make C us []) (hb _ (Value.ref (s.heap.objs.size + 1) :: us) I2.kIn hl) r2 hq) fun r s' hq'=>?_))
 cases r with
 | error e=>exact hx pins σ _ _ e s' I2 hq'
 | ok fl=>
  cases fl with
  | ret u=>
   obtain ⟨v,H',I3,rv,ev,q3⟩:=I2.after hq';subst ev;exact ⟨rv,⟨V.ref (s.heap.objs.size + 1),H',I3,rfl,q3⟩⟩
  | next=>exact False.elim hq'
  | brk=>exact False.elim hq'
  | cont=>exact False.elim hq'
theorem qo (M:Mk X.K C f) (F:Ub X.prog X.w X.K X.mg X.base CX k f fd ps sp) (hr:pj (k + 1) X.A) (hg:Gl X x) (hm:X.mg x=some (.ref C)) (hb:vc X.K fd ps ds) (hd:Sd dvs ds) (hx:Tl CX X E)
  (ha:PA X (e :: es) t) (hdb:(x == ("__debug__" : Str))=false:=by decide) (he:starEach (e :: es) X.env=(false,eval e X.env) :: starEach es X.env:=by rfl) (hpl:(backTo pos (starEach es X.env)).any (·.1)=false:=by rfl) :
  PE X (.Call (.Name x p) (e :: es) [] pos) (FL C sp dvs E t):=by
 intro pins s σ H Q I h;refine wpAny_Call_Name_kw (ll I hg hm ?_ hdb);refine PySem.W.callWith_K (h₀:=X.base) I.ok.mod.kin M.kp (thn (ha pos pins s σ H _ I h) fun us s1 ⟨vs,H1,I1,r,q⟩=>⟨I1.kIn,?_⟩) he hpl;exact mH M F hr hb hd hx I1 r q
end
section
variable {X:Cx} {CX:CXT} {k:Nat} {f C:Addr} {fd:FuncData} {ps ks:List Str} {sp:Sp} {E:XK} {x m:Str} {p pos apos kpos:Pos} {e o:Expr} {es:List Expr} {kws:List Keyword} {te ta:TE} {t tk:TA} {nm:Option Str}
structure xO (K:W.Frag) (fd:FuncData) (ps ks:List Str) (g:List Value->List Value->List Value) (gV:List V->List V->List V):Prop where
 to:∀ (s:Shared) (us ws:List Value),K.In s.heap->(g us ws).length=ps.length->BindsTo s fd ⟨us,ks.zip ws⟩ (ps.zip (g us ws))
 rel:∀ {vs:List V} {us:List Value} {zs:List V} {ws:List Value},Sd vs us->Sd zs ws->Sd (gV vs zs) (g us ws)
variable {g:List Value->List Value->List Value} {gV:List V->List V->List V}
end
structure Hb (N P:List Str) (sc:Scope):Prop where
 kind:sc.kind=.function
 co:sc.isCoroutine=false
 gen:sc.isGenerator=false
 nd:N.Nodup
 pre:N.take P.length=P
 par:∀ x ∈ P,sc.names.lookup x=some .local\/sc.names.lookup x=some .cell
 nofree:∀ y ∈ sc.names,y.2 ≠ .free
theorem Nw {kindOf:Str->Option NameKind} {x:Str}:∀ {binds:List (Str × Value)} {m:Str->Option Value},(∀ v,(x,v) ∉ binds)->bindL kindOf binds m x=m x
 | [],_,_=>rfl
 | (n,v) :: r,m,h=>by
  unfold bindL;rw [Nw fun w hw=>h w (mem_cons_of_mem _ hw)];split
  ·have:x ≠ n:=by rintro rfl;exact h v mem_cons_self
   simp [this]
  ·rfl
theorem aw {kindOf:Str->Option NameKind} {x:Str}:∀ {binds:List (Str × Value)} {m:Str->Option Value},(∀ v,(x,v) ∉ binds)->bindC kindOf binds m x=m x
 | [],_,_=>rfl
 | (n,v) :: r,m,h=>by
  unfold bindC;rw [aw fun w hw=>h w (mem_cons_of_mem _ hw)];split
  ·rfl
  ·have:x ≠ n:=by rintro rfl;exact h v mem_cons_self
   simp [this]
theorem Sw {kindOf:Str->Option NameKind} {x:Str} {v:Value}:∀ {P:List Str} {vs:List Value} {i:Nat} {m:Str->Option Value},P.Nodup->P[i]? = some x->vs[i]? = some v->kindOf x=some .local ->
  bindL kindOf (P.zip vs) m x=some v
 | [],_,_,_,_,h,_,_=>by simp at h
 | _ :: _,[],_,_,_,_,h,_=>by simp at h
 | p :: P,w :: vs,0,m,nd,h1,h2,hk=>by
  simp at h1 h2;subst h1;subst h2;show bindL kindOf ((p,w) :: P.zip vs) m p=_;unfold bindL;rw [Nw fun v hv=>(List.nodup_cons.mp nd).1 (List.of_mem_zip hv).1,if_pos hk];simp
 | p :: P,w :: vs,i + 1,m,nd,h1,h2,hk=>by
  show bindL kindOf ((p,w) :: P.zip vs) m x=_;unfold bindL;exact Sw (i:=i) (List.nodup_cons.mp nd).2 (by simpa using h1) (by simpa using h2) hk
theorem Vv {kindOf:Str->Option NameKind} {x:Str} {v:Value}:∀ {P:List Str} {vs:List Value} {i:Nat} {m:Str->Option Value},P.Nodup->P[i]? = some x->vs[i]? = some v->kindOf x ≠ some .local ->
  bindC kindOf (P.zip vs) m x=some v
 | [],_,_,_,_,h,_,_=>by simp at h
 | _ :: _,[],_,_,_,_,h,_=>by simp at h
 | p :: P,w :: vs,0,m,nd,h1,h2,hk=>by
  simp at h1 h2;subst h1;subst h2;show bindC kindOf ((p,w) :: P.zip vs) m p=_;unfold bindC;rw [aw fun v hv=>(List.nodup_cons.mp nd).1 (List.of_mem_zip hv).1,if_neg hk];simp
 | p :: P,w :: vs,i + 1,m,nd,h1,h2,hk=>by
  show bindC kindOf ((p,w) :: P.zip vs) m x=_;unfold bindC;exact Vv (i:=i) (List.nodup_cons.mp nd).2 (by simpa using h1) (by simpa using h2) hk
noncomputable def start (N:List Str) (vs:List V):St:=vs.map some ++ List.replicate (N.length - vs.length) none
noncomputable def FE (CX:CXT) (P:Program) (w:World) (K:W.Frag) (mg:Str->Option Value) (base:Heap) (N:List Str) (qual:Str) (scope:Scope) (f:Addr) (cd:Value) (A:Around) (outer:List Env) (s:Shared) (H:Hp) (E:XK):Cx where
 prog:=P
 w:=w
 K:=K
 mg:=mg
 base:=base
 A:=A.deeper (envOfC qual scope s.heap.objs.size f cd)
 N:=N
 s₀:=s
 H₀:=H
 env:=envOfC qual scope s.heap.objs.size f cd
 outer:=outer
 stack:=envOfC qual scope s.heap.objs.size f cd :: outer
 ex:=[]
 calm:=true
 fn:=fun _=>true
 pn:=[]
 xe:=fun e s'=>wpAny (model P w) (A.deeper (envOfC qual scope s.heap.objs.size f cd)) (leaving (envOfC qual scope s.heap.objs.size f cd) e) (fun _ s''=>CX outer H s E e s'') (fun e' s''=>CX outer H s E e' s'') s'
theorem kz {sc:Scope} {n:Nat} {x:Str} (h:sc.names.lookup x=some .cell):∃ c,(cellsFrom n sc.names []).lookup x=some c:=by
 have q:=PySem.W.cellsFrom_some sc.names n [] (.inl h);exact Option.isSome_iff_exists.mp q
theorem YC {CX:CXT} {P:Program} {w:World} {K:W.Frag} {mg:Str->Option Value} {base:Heap} {N ps:List Str} {qual:Str} {scope:Scope} {f:Addr} {cd:Value} {A:Around} {outer:List Env} {s s1:Shared} {H:Hp} {E:XK} {us:List Value} {vs:List V}
  (S:Hb N ps scope) (hd:A.handled=none) (e0:QD P w K mg base A outer s H) (hl:vs.length=ps.length) (r:Sd vs us)
  (x:InCallC s s.heap.objs.size (bindL (envOfC qual scope s.heap.objs.size f cd).kindOf (ps.zip us) fun _=>none) (cellsFrom (s.heap.objs.size + 1) scope.names []) (bindC (envOfC qual scope s.heap.objs.size f cd).kindOf (ps.zip us) fun _=>none) s1) :
  Inv (FE CX P w K mg base N qual scope f cd A outer s H E) [] (start N vs) H s1:=by
 have hpl:ps.length <= N.length:=by have:=congrArg List.length S.pre;rw [length_take] at this;omega
 obtain ⟨h1,tk,rfl,hk⟩:=x.done;have noA:∀ b:Addr,b ∉ (FE CX P w K mg base N qual scope f cd A outer s H E).ex:=fun b z=>absurd (show b ∈ ([]:List Addr) from z) (by simp)
 refine ⟨⟨e0.mod,S.kind,rfl,rfl,Nat.le_refl _,fun y z c h1 h2=>?_,fun y hy=>?_,fun y c _ h=>?_,fun _=>hd,Around.frames_deeper e0.frames,.inr ⟨rfl,rfl⟩,fun b z=>absurd z (noA b),e0.bs,e0.bsz,fun b _ _=>noA b,fun b z=>absurd z (noA b),e0.funs,e0.frf⟩,
  rfl,e0.bare,Un.kept hk,⟨_,x.toInCall.ns,fun i y v h1 h2 h3=>?_⟩,fun y c h=>⟨_,x.cell y c h⟩,e0.hok.fresh (Nat.le_refl _),fun y c h=>?_,fun p hp=>absurd (show p ∈ ([]:List (Addr × Obj)) from hp) (by simp),e0.hok.kept hk,?_⟩
 ·exact name_of_addr x.apart (PySem.mem_of_lookup h1) (PySem.mem_of_lookup h2)
 ·have hy:scope.names.lookup y=some .cell\/scope.names.lookup y=some .free:=hy;rcases hy with hy | hy
  ·exact kz hy
  ·exact absurd rfl (S.nofree _ (PySem.mem_of_lookup hy))
 ·exact Nat.le_of_lt (x.above y c (PySem.mem_of_lookup h))
 ·have hi:i < vs.length:=by
   unfold start at h2;by_cases hi:i < vs.length
   ·exact hi
   ·rw [getElem?_append_right (by simpa using hi)] at h2;rw [List.getElem?_replicate] at h2;split at h2 <;> cases h2
  have ha:vs[i]? = some v:=by
   unfold start at h2;rw [getElem?_append_left (by simpa using hi),getElem?_map] at h2;cases e:vs[i]? with
   | none=>rw [e] at h2;cases h2
   | some a=>rw [e] at h2;cases h2;rfl
  obtain ⟨u,hu,rv⟩:=r.get ha;have hp:ps[i]? = some y:=by
   rw [<- S.pre,List.getElem?_take_of_lt (by omega)];exact h1
  have ndP:ps.Nodup:=by rw [<- S.pre];exact S.nd.sublist (List.take_sublist _ _)
  refine ⟨u,rv,?_⟩;rcases S.par y (mem_of_getElem? hp) with k | k
  ·exact .inl ⟨k,Sw ndP hp hu k⟩
  ·obtain ⟨c,e⟩:=kz (n:=s.heap.objs.size + 1) k;refine .inr ⟨.inl k,c,e,?_⟩;have q:=x.cell y c e;rw [Vv ndP hp hu (by show scope.names.lookup y ≠ _;rw [k];decide)] at q;exact q
 ·exact e0.hok.fresh (Nat.le_of_lt (x.above y c (PySem.mem_of_lookup h)))
 ·unfold start;show _=N.length;rw [length_append,length_map,List.length_replicate];omega
theorem MM {CX:CXT} {P:Program} {w:World} {K:W.Frag} {mg:Str->Option Value} {base:Heap} {k:Nat} {f:Addr} {name qual:Str} {params:Arguments} {body:List Stmt} {scope:Scope} {dV kV doc pm cdv ct oc:Value} {an od:Option Addr}
  {osl:Array (Option Value)} {N ps:List Str} {sp:Sp} (lk:K.lookup f=some ⟨oc,od,.func (PySem.W.fnOf name qual params body scope dV kV doc pm an cdv ct),osl⟩) (hcd:PySem.W.codeIn K cdv qual=true) (S:Hb N ps scope)
  (len:∀ vs H Q E,sp vs H Q E->vs.length=ps.length)
  (hbody:∀ (A:Around) (outer:List Env) (s:Shared) (H:Hp) (vs:List V) (Q:VK) (E:XK),pj k (A.deeper (envOfC qual scope s.heap.objs.size f cdv))->sp vs H Q E ->
   ∃ t,PSs (FE CX P w K mg base N qual scope f cdv A outer s H E) body t/\t { nx:=fun _ H'=>Q .non H',rt:=Q } (start N vs) H) :
  Ub P w K mg base CX (k + 1) f (PySem.W.fnOf name qual params body scope dV kV doc pm an cdv ct) ps sp:=by
 refine ⟨len,fun A outer s H args us vs Q E hr e0 hb r hsp=>?_⟩;have hl:=len _ _ _ _ hsp;have KX:K.In s.heap:=e0.mod.kin.keeps fun b o e=>(e0.bs b o e).1
 have lim:s.heap.NoLimit:=e0.mod.nolimit.keeps fun b o e=>(e0.bs b o e).1
 have hkind:∀ y ∈ ps.zip us,scope.names.lookup y.1=some .local\/(scope.names.lookup y.1=some .cell/\((cellsFrom (s.heap.objs.size + 1) scope.names []).lookup y.1).isSome=true):=fun ⟨n,v⟩ hy=>by
  rcases S.par n (List.of_mem_zip hy).1 with q | q
  ·exact .inl q
  ·exact .inr ⟨q,PySem.W.cellsFrom_some _ _ _ (.inl q)⟩
 refine codeAny_call_function hr.depth (KX _ _ lk) rfl S.co S.gen rfl (PySem.W.codeRec_of KX hcd) (hb _ _ _ _ ?_);refine wpAny_newFunctionEnv_cells S.kind hkind fun env he s1 x=>?_
 subst he;refine ⟨lim.keeps x.toInCall.keep,codeAny_func ?_⟩;obtain ⟨t,ht,hq⟩:=hbody A outer s H vs Q E (hr.deeper _) hsp;have I:Inv (FE CX P w K mg base N qual scope f cdv A outer s H E) [] (start N vs) H s1:=YC S hr.hd e0 hl r x;refine wpAny_mono (ht [] s1 (start N vs) H _ I hq) (fun fl s' hs=>?_) fun e s' hs=>hs
 have fin:∀ {σ':St} {H':Hp} {v:V} {u:Value},Inv (FE CX P w K mg base N qual scope f cdv A outer s H E) [] σ' H' s'->Td v u->Q v H'->CE outer P w H s Q u s':=
  fun {σ' H' v u} J rv q=>⟨v,H',J.os,J.bare,J.base,J.hok,rv,q⟩
 cases fl with
 | ret u=>
  obtain ⟨v,σ',H',J,rv,q⟩:=hs;exact fin J rv q
 | next=>
  obtain ⟨σ',H',J,q⟩:=hs;exact fin (v:=V.non) (u:=Value.none) J rfl q
 | brk=>
  obtain ⟨_,_,_,q⟩:=hs;exact False.elim q
 | cont=>
  obtain ⟨_,_,_,q⟩:=hs;exact False.elim q
end L2
namespace L2
open PySem PySem.Spec PyProof.Rows
section
variable {X:Cx} {x:Str} {p pos:Pos} {e:Expr} {es:List Expr} {t:TA} {id T:String} {r:List V->Hp->VK->Prop}
noncomputable def tCB (r:List V->Hp->VK->Prop) (t:TA):TE:=fun σ H Q=>t σ H fun vs H1=>r vs H1 Q
theorem Vb (hc:gk X (.builtin id) r) (hg:Gl X x) (hm:X.mg x=none) (hv:bootBuiltins x=some (.builtin id)) (ha:PA X (e :: es) t) (hn:x ≠ "__name__" := by decide) (hdb:(x == ("__debug__" : Str))=false:=by decide)
  (he:starEach (e :: es) X.env=(false,eval e X.env) :: starEach es X.env:=by rfl) (hpl:(backTo pos (starEach es X.env)).any (·.1)=false:=by rfl):PE X (.Call (.Name x p) (e :: es) [] pos) (tCB r t):=by
 intro pins s σ H Q I h;refine wpAny_Call_Name_kw (Gu I hg hm hv ?_ hn hdb);exact PyProof.Rows.callWith_builtin1 (thn (ha pos pins s σ H _ I h) fun us s1 ⟨vs,H1,I1,r1,q1⟩=>hc pins s1 σ H1 vs us Q I1 r1 q1) he hpl
theorem sf (hc:gk X (.type T) r) (hg:Gl X x) (hm:X.mg x=none) (hv:bootBuiltins x=some (.type T)) (ha:PA X (e :: es) t) (hn:x ≠ "__name__" := by decide) (hdb:(x == ("__debug__" : Str))=false:=by decide)
  (he:starEach (e :: es) X.env=(false,eval e X.env) :: starEach es X.env:=by rfl) (hpl:(backTo pos (starEach es X.env)).any (·.1)=false:=by rfl):PE X (.Call (.Name x p) (e :: es) [] pos) (tCB r t):=by
 intro pins s σ H Q I h;refine wpAny_Call_Name_kw (Gu I hg hm hv ?_ hn hdb);exact PyProof.Rows.callWith_type1 (thn (ha pos pins s σ H _ I h) fun us s1 ⟨vs,H1,I1,r1,q1⟩=>hc pins s1 σ H1 vs us Q I1 r1 q1) he hpl
end
end L2
namespace HT
open PySem PyProof.Rows
section
open PySem.SeqAt
open PySem.AutoSeq1 (wpAny_loadPart')
open PySem.MeetsSeq PySem.MeetsSeq2 PySem.MeetsSeq3
end
section
variable {prog:Program} {w:World} {A:Around} {E:Value->Shared->Prop} {s:Shared}
noncomputable def sIx (n d:Nat):Option Int->Nat
 | none=>d
 | some v=>if v < 0 then (v + (n:Int)).toNat else min v.toNat n
theorem sIx_none (n d:Nat):sIx n d none=d:=rfl
theorem sIx_nat (n d k:Nat):sIx n d (some (k:Int))=min k n:=by
 show (if (k:Int) < 0 then ((k:Int) + (n:Int)).toNat else min (k:Int).toNat n)=min k n;rw [if_neg (by omega),Int.toNat_natCast]
theorem jM (n d:Nat) (hd:d <= n) (o:Option Int):sIx n d o <= n:=by
 cases o with
 | none=>exact hd
 | some v=>
  show (if v < 0 then (v + (n:Int)).toNat else min v.toNat n) <= n;by_cases hv:v < 0
  ·rw [if_pos hv];omega
  ·rw [if_neg hv];exact Nat.min_le_right _ _
theorem aD (v:Int) (n d:Nat):(if v < 0 then max (v + (n:Int)) 0 else min v (n:Int))=((sIx n d (some v):Nat):Int):=by
 show (if v < 0 then max (v + (n:Int)) 0 else min v (n:Int))=(((if v < 0 then (v + (n:Int)).toNat else min v.toNat n):Nat):Int);by_cases hv:v < 0
 ·simp only [if_pos hv];omega
 ·simp only [if_neg hv];omega
theorem EA (lo hi:Option Int) (n:Nat):Builtin.Slice.sliceAdjust lo hi 1 (n:Int)=(((sIx n 0 lo:Nat):Int),((sIx n n hi:Nat):Int)):=by
 have h1:¬ ((1:Int) < 0):=by omega
 unfold Builtin.Slice.sliceAdjust;simp only [h1,if_false];refine Prod.ext ?_ ?_
 ·cases lo with
  | none=>rfl
  | some v=>exact aD v n 0
 ·cases hi with
  | none=>rfl
  | some v=>exact aD v n n
theorem bB (i j:Nat):Builtin.Slice.slicePlaces (i:Int) (j:Int) 1=j - i:=by
 unfold Builtin.Slice.slicePlaces;have h1:(1:Int) > 0:=by omega
 simp only [h1,if_true,Int.ediv_one];split <;> omega
theorem wu {v:Value} {o:Option Int} {Q:Option Int->Shared->Prop} (p:IsPart v o) (h:Q o s):wpAny (model prog w) A (Builtin.Slice.slicePartIndex v) Q E s:=by
 cases p with
 | none=>exact slicePart_none h
 | int i t=>exact slicePart_int h
theorem Np {sl:Addr} {vl vu:Value} {lo hi:Option Int} {n:Nat} {Q:Int × Int × Nat->Shared->Prop} (hs:s.heap.IsSliceOf sl vl vu .none) (pl:IsPart vl lo) (pu:IsPart vu hi)
  (h:Q (((sIx n 0 lo:Nat):Int),1,sIx n n hi - sIx n 0 lo) s):wpAny (model prog w) A (Builtin.Slice.sliceApplied (.ref sl) (pure (n:Int))) Q E s:=by
 obtain ⟨os,hos,hcs,hds⟩:=id hs;unfold Builtin.Slice.sliceApplied Builtin.Slice.sliceFields;refine wpAny_bind (wpAny_bind (wpAny_field hos hds (x:=vl) rfl (wpAny_bind (wpAny_field hos hds (x:=vu) rfl (wpAny_bind (wpAny_field hos hds (x:=.none) rfl (wpAny_pure ?_)))))));refine wpAny_bind (slicePart_none ?_);show wpAny _ _ (if ((1:Int) == 0)=true then _ else _) _ _ s;rw [if_neg (by decide)];refine wpAny_bind (wu pl (wpAny_bind (wu pu (wpAny_bind (wpAny_pure ?_)))));show wpAny _ _ (match Builtin.Slice.sliceAdjust lo hi 1 (n:Int) with | (lo,hi)=>pure (lo,(1:Int),Builtin.Slice.slicePlaces lo hi 1)) _ _ s;rw [EA lo hi n];show wpAny _ _ (pure (((sIx n 0 lo:Nat):Int),(1:Int),Builtin.Slice.slicePlaces ((sIx n 0 lo:Nat):Int) ((sIx n n hi:Nat):Int) 1)) _ _ s;rw [bB];exact wpAny_pure h
theorem EG (xs:Array Value) (i k:Nat):((List.range k).filterMap fun (m:Nat)=>xs[((i:Int) + (m:Int) * 1).toNat]?).toArray=((xs.toList.drop i).take k).toArray:=by
 have e:(fun (m:Nat)=>xs[((i:Int) + (m:Int) * 1).toNat]?)=fun m=>xs[i + m]?:=by
  funext m;have:((i:Int) + (m:Int) * 1).toNat=i + m:=by omega
  rw [this]
 rw [e];have:=pick_run xs i k;rw [List.filterMap_map] at this;have e2:((fun x=>xs[x]?) ∘ fun x=>i + x)=fun m=>xs[i + m]?:=rfl
 rw [e2] at this;rw [this]
theorem getItem_tuple_cut {t sl:Addr} {items:Array Value} {vl vu:Value} {lo hi:Option Int} {Q:Value->Shared->Prop} (ht:IsTup s.heap t items) (hs:s.heap.IsSliceOf sl vl vu .none) (pl:IsPart vl lo) (pu:IsPart vu hi)
  (hw:¬ (sIx items.size 0 lo=0/\sIx items.size items.size hi=items.size))
  (h:Q (.ref s.heap.objs.size) { s with heap:=s.heap.push { cls:=.type "tuple",data:=.seq ((items.toList.drop (sIx items.size 0 lo)).take (sIx items.size items.size hi - sIx items.size 0 lo)).toArray } })
  (hsz:items.size <= sizeLine):wpAny (model prog w) A (getItem (.ref t) (.ref sl)) Q E s:=by
 have htake:sizeOk (.seq ((items.toList.drop (sIx items.size 0 lo)).take (sIx items.size items.size hi - sIx items.size 0 lo)).toArray):=by
  show ((items.toList.drop (sIx items.size 0 lo)).take (sIx items.size items.size hi - sIx items.size 0 lo)).toArray.size <= sizeLine;rw [size_toArray,length_take,length_drop,Array.length_toList];omega
 have hj:sIx items.size items.size hi <= items.size:=jM _ _ (Nat.le_refl _) hi;obtain ⟨os,hos,hcs,hds⟩:=id hs;have hTs:s.TypeIs (.ref sl) "slice" := ⟨os,hos,hcs⟩;unfold getItem
 try with_reducible refine wpAny_holding ?_
 first | refine wpAny_bind (wpAny_pure ?_) | skip
 refine wpAny_bind (wpAny_sequenceKey ht.typeIs (by decide) ?_);refine wpAny_bind (wpAny_callSpecial?_slot (name:=Str.ofString "__getitem__") ht.typeIs PyProof.Rows.slot_tuple_getitem
  (wpAny_call_entry PyProof.Rows.slot_tuple_getitem ht.typeIs entry_tuple_getitem ?_ (args_tuple_getitem _ _)))
 show wpAny _ _ (Builtin.Tuple.tupleItemsOf (.ref t) >>= _) _ _ s;refine wpAny_bind (tupleItemsOf_ ht ?_);refine wpAny_bind (wpAny_typeOf hTs ?_);rw [if_pos (by decide)];refine wpAny_bind (Np hs pl pu ?_);have hno:¬ ((((sIx items.size 0 lo:Nat):Int) == 0 && (1:Int) == 1 && (sIx items.size items.size hi - sIx items.size 0 lo) == items.size)=true):=by
  intro q;rw [Bool.and_eq_true,Bool.and_eq_true] at q;have q1:((sIx items.size 0 lo:Nat):Int)=0:=eq_of_beq q.1.1;have q2:sIx items.size items.size hi - sIx items.size 0 lo=items.size:=eq_of_beq q.2;exact hw ⟨by omega,by omega⟩
 show wpAny _ _ (if (((sIx items.size 0 lo:Nat):Int) == 0 && (1:Int) == 1 && (sIx items.size items.size hi - sIx items.size 0 lo) == items.size)=true then _ else _) _ _ s;rw [if_neg hno,EG]
 first
  | exact wpAny_bind (m:=Builtin.Tuple.tupleExact _) (wpAny_newObj_type (wpAny_pure ⟨_,rfl,wpAny_pure h⟩) htake)
  | exact wpAny_bind (m:=Builtin.Tuple.tupleExact _) (wpAny_newObj_type (wpAny_bind (wpAny_pure (wpAny_pure ⟨_,rfl,wpAny_pure h⟩))) htake)
  | exact wpAny_bind (wpAny_bind (m:=Builtin.Tuple.tupleExact _) (wpAny_newObj_type (wpAny_pure (wpAny_pure ⟨_,rfl,wpAny_pure h⟩)) htake))
  | exact wpAny_bind (wpAny_bind (m:=Builtin.Tuple.tupleExact _) (wpAny_newObj_type (wpAny_pure ⟨_,rfl,wpAny_pure h⟩) htake))
end
end HT
namespace L2
open PySem PySem.Spec PyProof.Rows
noncomputable abbrev TO:=St->Hp->(Option Int->Hp->Prop)->Prop
noncomputable def PO (X:Cx) (e:Option Expr) (t:TO):Prop:=
 ∀ (pins:List (Addr × Obj)) (s:Shared) (σ:St) (H:Hp) (Q:Option Int->Hp->Prop),Inv X pins σ H s->t σ H Q ->
  wpAny (model X.prog X.w) X.A (evalPart e X.env) (fun u s'=>∃ o H',Inv X pins σ H' s'/\IsPart u o/\Q o H') X.xe s
noncomputable def OC:TO:=fun _ H Q=>Q none H
noncomputable def RL (t:TE):TO:=fun σ H Q=>t σ H fun x H1=>∃ i,x=.int i/\Q (some i) H1
section
variable {X:Cx} {e:Expr} {te:TE} {lo hi:Option Expr} {tl th:TO} {pos p2:Pos}
theorem lf:PO X none OC:=by
 intro pins s σ H Q I h;rw [evalPart_none];exact wpAny_pure ⟨none,H,I,.none,h⟩
theorem Ke (h:PE X e te):PO X (some e) (RL te):=by
 intro pins s σ H Q I hw;rw [evalPart_some];refine thn (h pins s σ H _ I hw) fun u s1 hZ1=>?_
 obtain ⟨x,H1,I1,r1,q1⟩:=hZ1;obtain ⟨i,rfl,q⟩:=q1;obtain ⟨t,rfl⟩:=r1;exact ⟨some i,H1,I1,.int i t,q⟩
noncomputable def SlR (X:Cx) (r:V->Option Int->Option Int->Hp->VK->Prop):Prop:=
 ∀ (pins:List (Addr × Obj)) (s:Shared) (σ:St) (H:Hp) (x:V) (v vl vu:Value) (lo hi:Option Int) (sl:Addr) (Q:VK),Inv X pins σ H s->Td x v->s.heap.IsSliceOf sl vl vu .none->IsPart vl lo->IsPart vu hi->r x lo hi H Q ->
  ∃ T id,typeLookup (.type T) "__getitem__"=pure (some (.builtin id))/\s.TypeIs v T/\wpAny (model X.prog X.w) X.A (getItem v (.ref sl)) (EP X pins σ Q) X.xe s
theorem SlR.or {r r':V->Option Int->Option Int->Hp->VK->Prop} (h:SlR X r) (h':SlR X r'):SlR X (fun x lo hi H Q=>r x lo hi H Q\/r' x lo hi H Q):=by
 intro pins s σ H x v vl vu lo hi sl Q I rx hs pl pu q;rcases q with q | q
 ·exact h pins s σ H x v vl vu lo hi sl Q I rx hs pl pu q
 ·exact h' pins s σ H x v vl vu lo hi sl Q I rx hs pl pu q
noncomputable def tSl (r:V->Option Int->Option Int->Hp->VK->Prop) (te:TE) (tl th:TO):TE:=fun σ H Q=>te σ H fun x H1=>tl σ H1 fun l H2=>th σ H2 fun u H3=>r x l u H3 Q
theorem fe {r:V->Option Int->Option Int->Hp->VK->Prop} (hr:SlR X r) (he:PE X e te) (hl:PO X lo tl) (hu:PO X hi th):PE X (.Subscript e (.Slice lo hi none p2) pos) (tSl r te tl th):=by
 intro pins s σ H Q I h;refine Subscript_ (thn (he pins s σ H _ I h) fun v s1 hZ1=>?_);obtain ⟨x,H1,I1,r1,q1⟩:=hZ1;refine wpAny_Slice (thn (hl pins s1 σ H1 _ I1 q1) fun vl s2 ⟨l,H2,I2,pl,q2⟩=>thn (hu pins s2 σ H2 _ I2 q2) fun vu s3 hZ1=>?_);obtain ⟨u,H3,I3,pu,q3⟩:=hZ1;rw [evalPart_none];refine wpAny_pure ?_;have I4:Inv X pins σ H3 { s3 with heap:=s3.heap.push { cls:=.type "slice",data:=.fields #[vl,vu,.none] } }:=I3.kept (t':=s3.toks) fun b ob q=>Heap.get?_push_of_some _ q
 obtain ⟨T,id,hT,ht,hg⟩:=hr pins { s3 with heap:=s3.heap.push { cls:=.type "slice",data:=.fields #[vl,vu,.none] } } σ H3 x v vl vu l u s3.heap.objs.size Q I4 r1 (Heap.IsSliceOf.new ..) pl pu q3;show wpAny (model X.prog X.w) X.A (subscriptTail e (.Slice lo hi none p2) v (.ref s3.heap.objs.size)) (EP X pins σ Q) X.xe { s3 with heap:=s3.heap.push { cls:=.type "slice",data:=.fields #[vl,vu,.none] } };exact tail_any (ops:=[.ref s3.heap.objs.size,v]) ht hT hg (by with_unfolding_all rfl)
noncomputable def Kt (xs:List V) (lo hi:Option Int):List V:=(xs.drop (HT.sIx xs.length 0 lo)).take (HT.sIx xs.length xs.length hi - HT.sIx xs.length 0 lo)
theorem kq (xs:List V) (lo hi:Option Int):(Kt xs lo hi).length <= xs.length:=by
 unfold Kt;rw [length_take,length_drop];omega
noncomputable def WN (K:W.Frag):V->Option Int->Option Int->Hp->VK->Prop:=fun x lo hi H Q=>∃ a xs,x=.ref a/\SqT K H a xs /\
 ¬ (HT.sIx xs.length 0 lo=0/\HT.sIx xs.length xs.length hi=xs.length)/\∀ p,H p=none->Q (.ref p) (upd H p (.tup (Kt xs lo hi)))
theorem NL:SlR X (WN X.K):=by
 intro pins s σ H x v vl vu lo hi sl Q I rx hs pl pu h;obtain ⟨a,xs,rfl,hx,hw,q⟩:=h;cases rx;obtain ⟨its,r,ht,hz⟩:=I.tuple hx;have hlen:its.toArray.size=xs.length:=by rw [size_toArray];exact r.length.symm
 refine ⟨"tuple",_,PyProof.Rows.slot_tuple_getitem.lookup,ht.typeIs,?_⟩;refine HT.getItem_tuple_cut ht hs pl pu (by rw [hlen];exact hw) ?_ (by rw [hlen];exact hz);rw [hlen];refine ⟨.ref s.heap.objs.size,_,I.laid (t':=s.toks) (o:=.tup (Kt xs lo hi)) (fun b ob q=>Heap.get?_push_of_some _ q) (Nat.le_refl _) ?_,rfl,q _ (I.hok.fresh (Nat.le_refl _))⟩;exact ⟨Nat.le_trans (kq xs lo hi) hz,_,(r.drop (HT.sIx xs.length 0 lo)).take (HT.sIx xs.length xs.length hi - HT.sIx xs.length 0 lo),IsTup.new _ _⟩
end
end L2
namespace L2
open PySem PySem.Spec PyProof.Rows
noncomputable def ixN (n:Nat) (i:Int):Option Nat:=if 0 <= i then (if i < n then some i.toNat else none) else if -(n:Int) <= i then some (i + n).toNat else none
noncomputable def atI {α:Type} (xs:List α) (i:Int):Option α:=(ixN xs.length i).bind fun j=>xs[j]?
theorem yC {n:Nat} {i:Int} {j:Nat} (h:ixN n i=some j):seqIndex? i n=some j/\j < n/\-(n:Int) <= i/\i < n:=by
 unfold ixN at h;by_cases h0:0 <= i
 ·rw [if_pos h0] at h;by_cases h1:i < n
  ·rw [if_pos h1] at h;have e:i.toNat=j:=Option.some.inj h;exact ⟨by rw [seqIndex_of h0 h1,e],by omega,by omega,h1⟩
  ·rw [if_neg h1] at h;cases h
 ·rw [if_neg h0] at h;by_cases h1:-(n:Int) <= i
  ·rw [if_pos h1] at h;have e:(i + n).toNat=j:=Option.some.inj h;exact ⟨by rw [seqIndex_neg (by omega) h1,e],by omega,h1,by omega⟩
  ·rw [if_neg h1] at h;cases h
theorem ly {α:Type} {xs:List α} {i:Int} {v:α} (h:atI xs i=some v):∃ j,seqIndex? i xs.length=some j/\xs[j]? = some v/\j < xs.length/\-(xs.length:Int) <= i/\i < xs.length:=by
 unfold atI at h;cases e:ixN xs.length i with
 | none=>rw [e] at h;cases h
 | some j=>
  rw [e] at h;obtain ⟨h1,h2,h3,h4⟩:=yC e;exact ⟨j,h1,h,h2,h3,h4⟩
theorem Eb {α:Type} {xs:List α} {j:Nat} {v:α} (h:xs[j]? = some v):atI xs (j:Int)=some v:=by
 have hj:j < xs.length:=(List.getElem?_eq_some_iff.mp h).1;have e:ixN xs.length (j:Int)=some j:=by
  unfold ixN;rw [if_pos (by omega),if_pos (by omega)];simp
 unfold atI;rw [e];exact h
theorem Uz {α:Type} (xs:List α) (v:α):atI (xs ++ [v]) (-1)=some v:=by
 have hl:(xs ++ [v]).length=xs.length + 1:=by simp
 have e:ixN (xs ++ [v]).length (-1)=some xs.length:=by
  unfold ixN;rw [hl,if_neg (by decide),if_pos (by omega)];congr 1;omega
 unfold atI;rw [e];show (xs ++ [v])[xs.length]? = some v;simp
noncomputable def BK (b:Expr):Prop:=∀ o i,subscripted b false o i=operate [o,i] (getItem o i)
noncomputable def IxR (X:Cx) (r:R2):Prop:=
 ∀ (value slice:Expr) (pins:List (Addr × Obj)) (s:Shared) (σ:St) (H:Hp) (x y:V) (v u:Value) (Q:VK),Inv X pins σ H s->Td x v->Td y u->r x y H Q ->
  subscripted slice false v u=operate [v,u] (getItem v u)->wpAny (model X.prog X.w) X.A (subscriptTail value slice v u) (EP X pins σ Q) X.xe s
noncomputable def MtR (X:Cx) (id:String) (r:V->List V->Hp->VK->Prop):Prop:=
 ∀ (pins:List (Addr × Obj)) (s:Shared) (σ:St) (H:Hp) (x:V) (xs:List V) (v:Value) (us:List Value) (Q:VK),Inv X pins σ H s->Td x v->Sd xs us->r x xs H Q ->
  wpAny (model X.prog X.w) X.A (call (.builtin id) (v :: us)) (EP X pins σ Q) X.xe s
section
variable {X:Cx} {a b:Expr} {ta tb:TE} {pos:Pos}
theorem IxR.or {r r':R2} (h:IxR X r) (h':IxR X r'):IxR X (fun x y H Q=>r x y H Q\/r' x y H Q):=by
 intro value slice pins s σ H x y v u Q I rx ry q hs;rcases q with q | q
 ·exact h value slice pins s σ H x y v u Q I rx ry q hs
 ·exact h' value slice pins s σ H x y v u Q I rx ry q hs
theorem MtR.or {id:String} {r r':V->List V->Hp->VK->Prop} (h:MtR X id r) (h':MtR X id r'):MtR X id (fun x xs H Q=>r x xs H Q\/r' x xs H Q):=by
 intro pins s σ H x xs v us Q I rx rs q;rcases q with q | q
 ·exact h pins s σ H x xs v us Q I rx rs q
 ·exact h' pins s σ H x xs v us Q I rx rs q
theorem ic {r:R2} (hr:IxR X r) (ha:PE X a ta) (hb:PE X b tb) (hs:BK b):PE X (.Subscript a b pos) (tOp r ta tb):=by
 intro pins s σ H Q I h;exact Subscript_ (GN ha hb I h fun v u s2 x y H2 I2 rx ry q=>hr a b pins s2 σ H2 x y v u Q I2 rx ry q (hs _ _))
noncomputable def aO (K:W.Frag):R2:=fun x y H Q=>∃ p xs i v,x=.ref p/\y=.int i/\SqL K H p xs/\atI xs i=some v/\Q v H
noncomputable def cO (K:W.Frag):R2:=fun x y H Q=>∃ p xs i v,x=.ref p/\y=.int i/\SqT K H p xs/\atI xs i=some v/\Q v H
noncomputable def PN:R2:=fun x y H Q=>∃ z i c,x=.str z/\y=.int i/\z.length <= sizeLine/\atI z.cps.toList i=some c/\Q (.str ⟨#[c]⟩) H
theorem Yb:IxR X (aO X.K):=by
 intro value slice pins s σ H x y v u Q I rx ry h hs;obtain ⟨p,xs,i,z,rfl,rfl,hq,he,q⟩:=h;cases rx;obtain ⟨t,rfl⟩:=ry;obtain ⟨its,r,pl,hz⟩:=I.list hq;obtain ⟨j,h1,h2,h3,h4,h5⟩:=ly he;obtain ⟨w,ew,rw'⟩:=r.get h2;have hl:=r.length;have hn:=Jr;have fin:EP X pins σ Q w s:=⟨z,H,I,rw',q⟩;by_cases h0:0 <= i
 ·have hj:i.toNat=j:=by
   rw [seqIndex_of h0 h5] at h1;exact Option.some.inj h1
  exact item_listR pl.isList h0 (by omega) (by rw [hj];simpa using ew) fin hs
 ·have hj:(i + (its.toArray.size:Int)).toNat=j:=by
   rw [seqIndex_neg (by omega) h4] at h1;rw [size_toArray,<- hl];exact Option.some.inj h1
  exact subscriptTail_builtinR (x:=w) pl.isList.typeIs slot_list_getitem.lookup
   (wpAny_getItem_list_neg (Q:=fun r s'=>r=w/\EP X pins σ Q r s') pl.isList (by omega) (by rw [size_toArray] <;> omega) (by omega) (by rw [hj];simpa using ew) ⟨rfl,fin⟩) hs
theorem ie:IxR X (cO X.K):=by
 intro value slice pins s σ H x y v u Q I rx ry h hs;obtain ⟨p,xs,i,z,rfl,rfl,hq,he,q⟩:=h;cases rx;obtain ⟨t,rfl⟩:=ry;obtain ⟨its,r,pl,hz⟩:=I.tuple hq;obtain ⟨j,h1,h2,h3,h4,h5⟩:=ly he;obtain ⟨w,ew,rw'⟩:=r.get h2;have hl:=r.length;have hn:=Jr;have fin:EP X pins σ Q w s:=⟨z,H,I,rw',q⟩;exact subscriptTail_builtinR (x:=w) pl.typeIs slot_tuple_getitem.lookup
  (getItem_tuple (j:=j) (Q:=fun r s'=>r=w/\EP X pins σ Q r s') pl (by omega) (by omega) (by rw [size_toArray,<- hl];exact h1) (by simpa using ew) ⟨rfl,fin⟩) hs
theorem pz:IxR X PN:=by
 intro value slice pins s σ H x y v u Q I rx ry h hs;obtain ⟨z,i,c,rfl,rfl,hz,he,q⟩:=h;obtain ⟨t,rfl⟩:=rx;obtain ⟨t',rfl⟩:=ry;obtain ⟨j,h1,h2,h3,h4,h5⟩:=ly he;have hl:z.cps.toList.length=z.length:=by simp [Str.length]
 rw [hl] at h1 h4 h5;have hn:=Jr;exact tail_any (typeIs_str s z t) slot_str_getitem.lookup (getItem_str (c:=c) (by
  have e1:decide (i < -(2 ^ 63:Int))=false:=decide_eq_false (by omega);have e2:decide (i ≥ 2 ^ 63)=false:=decide_eq_false (by omega);rw [e1,e2,Bool.or_false]) (by rw [h1];simpa using h2) ⟨.str ⟨#[c]⟩,H,I.tok _,⟨_,rfl⟩,q⟩) hs
theorem WA (its:List Value) (n j:Nat) (u:Value):Obj.mapSeq (·.setIfInBounds j u) { cls:=.type "list",data:=.seq its.toArray n } = { cls:=.type "list",data:=.seq (its.set j u).toArray n }:=by
 simp [Obj.mapSeq]
theorem Inv.lst {pins:List (Addr × Obj)} {σ:St} {H:Hp} {s:Shared} {p:Addr} {xs:List V} (I:Inv X pins σ H s) (h:H p=some (.lst xs)) :
  ∃ (its:List Value) (n:Nat),Sd xs its/\s.heap.get? p=some { cls:=.type "list",data:=.seq its.toArray n }/\xs.length <= sizeLine:=by
 obtain ⟨z,its,n,r,e⟩:=I.hok p _ h;exact ⟨its,n,r,e,z⟩
theorem Inv.lstUpd {pins:List (Addr × Obj)} {σ:St} {H:Hp} {s:Shared} {p:Addr} {xs ys:List V} {its its':List Value} {n n':Nat} {f:Obj->Obj} (I:Inv X pins σ H s) (h:H p=some (.lst xs))
  (ho:s.heap.get? p=some { cls:=.type "list",data:=.seq its.toArray n }) (hf:f { cls:=.type "list",data:=.seq its.toArray n } = { cls:=.type "list",data:=.seq its'.toArray n' }) (r:Sd ys its') (hz:ys.length <= sizeLine) (t:Nat) :
  Inv X pins σ (upd H p (.lst ys)) { s with heap:=s.heap.update p f,toks:=t }:=by
 have e:(s.heap.update p f).get? p=some { cls:=.type "list",data:=.seq its'.toArray n' }:=by
  rw [Heap.get?_update_self f ho (by rw [hf] <;> rfl),hf]
 refine I.write (x:=p) (e:=p) (by rw [h];trivial) (.inl rfl) (fun b u hb q=>(Heap.get?_update_other _ _ (Ne.symm hb)).trans q) ⟨_,e⟩ ?_;exact ⟨hz,its',n',r,e⟩
noncomputable def kM:V->V->V->Hp->(Hp->Prop)->Prop:=fun o i v H Q=>∃ p xs k j,o=.ref p/\i=.int k/\H p=some (.lst xs)/\ixN xs.length k=some j/\Q (upd H p (.lst (xs.set j v)))
theorem Vh:jO X kM:=by
 intro pins s σ H o i v ov iv u Q I ro ri rv h;obtain ⟨p,xs,k,j,rfl,rfl,hp,hj,q⟩:=h;cases ro;obtain ⟨t,rfl⟩:=ri;obtain ⟨its,n,r,ho,hz⟩:=I.lst hp;obtain ⟨h1,h2,h3,h4⟩:=yC hj;have hl:=r.length;have hn:=Jr;have I':Inv X pins σ (upd H p (.lst (xs.set j v))) { s with heap:=s.heap.update p (Obj.mapSeq (·.setIfInBounds j u)) }:=
  I.lstUpd hp ho (WA its n j u) (r.set rv j) (by rw [length_set];exact hz) s.toks
 by_cases h0:0 <= k
 ·have hk:k.toNat=j:=by
   rw [seqIndex_of h0 h4] at h1;exact Option.some.inj h1
  exact PySem.W.ki_setAt ho h0 (by omega) (by rw [size_toArray,<- hl];exact h4) (by rw [hk];exact ⟨_,I',q⟩)
 ·have hk:(k + (its.toArray.size:Int)).toNat=j:=by
   rw [seqIndex_neg (by omega) h3] at h1;rw [size_toArray,<- hl];exact Option.some.inj h1
  exact PySem.W.ki_setBack ho (by omega) (by rw [size_toArray,<- hl];exact h3) (by omega) (by rw [hk];exact ⟨_,I',q⟩)
theorem Yv (lo hi:Option Int) (n:Nat):(sliceBounds lo hi none n).1=((HT.sIx n 0 lo:Nat):Int)/\(sliceBounds lo hi none n).2.1=((HT.sIx n n hi:Nat):Int)/\(sliceBounds lo hi none n).2.2=1:=by
 refine ⟨?_,?_,rfl⟩
 ·cases lo with
  | none=>simp [sliceBounds,HT.sIx]
  | some i=>
   simp only [sliceBounds,HT.sIx,Option.getD_none,show (1:Int) > 0 by decide,if_true];by_cases h:i < 0
   ·simp only [h,if_true] <;> omega
   ·simp only [h,if_false] <;> omega
 ·cases hi with
  | none=>simp [sliceBounds,HT.sIx]
  | some i=>
   simp only [sliceBounds,HT.sIx,Option.getD_none,show (1:Int) > 0 by decide,if_true];by_cases h:i < 0
   ·simp only [h,if_true] <;> omega
   ·simp only [h,if_false] <;> omega
theorem Iv (its:List Value) (lo hi:Option Int):slicePick its.toArray lo hi none=((its.drop (HT.sIx its.length 0 lo)).take (HT.sIx its.length its.length hi - HT.sIx its.length 0 lo)).toArray:=by
 obtain ⟨h1,h2,h3⟩:=Yv lo hi its.toArray.size;unfold slicePick;rw [h1,h2,h3];simp only [sliceRange_one,pick_run,size_toArray] <;> rfl
noncomputable def eO (K:W.Frag):V->Option Int->Option Int->Hp->VK->Prop:=fun x lo hi H Q=>∃ a xs,x=.ref a/\SqL K H a xs/\∀ p,H p=none->Q (.ref p) (upd H p (.lst (Kt xs lo hi)))
theorem Fm:SlR X (eO X.K):=by
 intro pins s σ H x v vl vu lo hi sl Q I rx hs pl pu h;obtain ⟨a,xs,rfl,hx,q⟩:=h;cases rx;obtain ⟨its,r,ht,hz⟩:=I.list hx;have hlen:=r.length;refine ⟨"list",_,slot_list_getitem.lookup,ht.isList.typeIs,?_⟩;refine wpAny_getItem_list_slice ht.isList hs pl pu .none (by simp) ?_ (by rw [size_toArray] <;> omega);rw [Iv,<- hlen];refine ⟨.ref s.heap.objs.size,_,I.laid (t':=s.toks) (o:=.lst (Kt xs lo hi)) (fun b ob q=>Heap.get?_push_of_some _ q) (Nat.le_refl _) ?_,rfl,q _ (I.hok.fresh (Nat.le_refl _))⟩;exact ⟨Nat.le_trans (kq xs lo hi) hz,_,0,(r.drop (HT.sIx xs.length 0 lo)).take (HT.sIx xs.length xs.length hi - HT.sIx xs.length 0 lo),Heap.get?_push_size _ rfl⟩
noncomputable def sk:V->Bool
 | .non=>true
 | .bl _=>true
 | .int _=>true
 | .str _=>true
 | _=>false
noncomputable def eqV:V->V->Bool
 | .non,.non=>true
 | .bl a,.bl b=>a == b
 | .bl a,.int b=>(if a then 1 else 0) == b
 | .int a,.bl b=>a == (if b then 1 else 0)
 | .int a,.int b=>a == b
 | .str a,.str b=>a == b
 | _,_=>false
theorem KH {A:Around} {s:Shared} {y x:V} {u v:Value} (ry:Td y u) (rx:Td x v) (fy:sk y=true) (fx:sk x=true):SeqAt.EqAt A s u v (eqV y x):=by
 cases y with
 | non=>
  cases ry;cases x with
  | non=>cases rx;exact SeqAt.EqAt.same _
  | bl b=>cases rx;exact SeqAt.EqAt.none_bool b
  | int b=>obtain ⟨t,rfl⟩:=rx;exact SeqAt.EqAt.none_int b t
  | str b=>obtain ⟨t,rfl⟩:=rx;exact SeqAt.EqAt.none_str b t
  | _=>exact absurd (show false=true from fx) Bool.false_ne_true
 | bl a=>
  cases ry;cases x with
  | non=>cases rx;exact SeqAt.EqAt.bool_none a
  | bl b=>cases rx;exact SeqAt.EqAt.bool_bool a b
  | int b=>obtain ⟨t,rfl⟩:=rx;exact SeqAt.EqAt.bool_int a b t
  | str b=>obtain ⟨t,rfl⟩:=rx;exact SeqAt.EqAt.bool_str a b t
  | _=>exact absurd (show false=true from fx) Bool.false_ne_true
 | int a=>
  obtain ⟨t',rfl⟩:=ry;cases x with
  | non=>cases rx;exact SeqAt.EqAt.int_none a t'
  | bl b=>cases rx;exact SeqAt.EqAt.int_bool a t' b
  | int b=>obtain ⟨t,rfl⟩:=rx;exact SeqAt.EqAt.int_int a t' b t
  | str b=>obtain ⟨t,rfl⟩:=rx;exact SeqAt.EqAt.int_str a t' b t
  | _=>exact absurd (show false=true from fx) Bool.false_ne_true
 | str a=>
  obtain ⟨t',rfl⟩:=ry;cases x with
  | non=>cases rx;exact SeqAt.EqAt.str_none a t'
  | bl b=>cases rx;exact SeqAt.EqAt.str_bool a t' b
  | int b=>obtain ⟨t,rfl⟩:=rx;exact SeqAt.EqAt.str_int a t' b t
  | str b=>obtain ⟨t,rfl⟩:=rx;exact SeqAt.EqAt.str_str a t' b t
  | _=>exact absurd (show false=true from fx) Bool.false_ne_true
 | _=>exact absurd (show false=true from fy) Bool.false_ne_true
noncomputable def eqU (x:V) (u:Value):Bool:=match u with
 | .none=>eqV .non x
 | .bool b=>eqV (.bl b) x
 | .int i _=>eqV (.int i) x
 | .str z _=>eqV (.str z) x
 | _=>false
theorem qI {x y:V} {u:Value} (r:Td y u) (f:sk y=true):eqU x u=eqV y x:=by
 cases y with
 | non=>cases r;rfl
 | bl b=>cases r;rfl
 | int i=>obtain ⟨t,rfl⟩:=r;rfl
 | str z=>obtain ⟨t,rfl⟩:=r;rfl
 | _=>exact absurd (show false=true from f) Bool.false_ne_true
theorem xr {x:V}:∀ {xs:List V} {us:List Value},Sd xs us->xs.all sk=true->us.any (eqU x)=xs.any fun y=>eqV y x
 | _,_,.nil,_=>rfl
 | y :: xs,u :: us,.cons r t,f=>by
  rw [List.all_cons,Bool.and_eq_true] at f;rw [any_cons,any_cons,qI r f.1,xr t f.2]
theorem Rn {A:Around} {s:Shared} {x:V} {v:Value} (rx:Td x v) (fx:sk x=true):∀ {xs:List V} {us:List Value},Sd xs us->xs.all sk=true->∀ u ∈ us,SeqAt.EqAt A s u v (eqU x u)
 | _,_,.nil,_=>fun u hu=>by cases hu
 | y :: xs,u :: us,.cons r t,f=>fun u' hu=>by
  rw [List.all_cons,Bool.and_eq_true] at f;rcases List.mem_cons.mp hu with rfl | hu
  ·rw [qI r f.1];exact KH r rx f.1 fx
  ·exact Rn rx fx t f.2 u' hu
noncomputable def inV (x:V) (xs:List V):Bool:=xs.any fun y=>eqV y x
noncomputable def rIn (K:W.Frag) (neg:Bool):R2:=fun x y H Q=>∃ p xs,y=.ref p/\(SqL K H p xs\/SqT K H p xs)/\sk x=true/\xs.all sk=true/\Q (.bl (if neg then !inV x xs else inV x xs)) H
theorem Vn:OpR X (compareOp .In) (rIn X.K false):=by
 intro pins s σ H x y v u Q I rx ry h;obtain ⟨p,xs,rfl,hq,fx,fs,q⟩:=h;cases ry;rcases hq with hq | hq
 ·obtain ⟨its,r,pl,hz⟩:=I.list hq;refine SeqAt.in_listAt (eqU x) pl.isList (fun w hw=>Rn rx fx r fs w (by simpa using hw)) ⟨.bl _,H,I,rfl,?_⟩;rw [show its.toArray.any (eqU x)=its.any (eqU x) by simp,xr r fs];exact q
 ·obtain ⟨its,r,pl,hz⟩:=I.tuple hq;refine SeqAt.in_tupleAt (eqU x) pl (fun w hw=>Rn rx fx r fs w (by simpa using hw)) ⟨.bl _,H,I,rfl,?_⟩;rw [show its.toArray.any (eqU x)=its.any (eqU x) by simp,xr r fs];exact q
theorem Jg:OpR X (compareOp .NotIn) (rIn X.K true):=by
 intro pins s σ H x y v u Q I rx ry h;obtain ⟨p,xs,rfl,hq,fx,fs,q⟩:=h;cases ry;rcases hq with hq | hq
 ·obtain ⟨its,r,pl,hz⟩:=I.list hq;refine SeqAt.notIn_listAt (eqU x) pl.isList (fun w hw=>Rn rx fx r fs w (by simpa using hw)) ⟨.bl _,H,I,rfl,?_⟩;rw [show its.toArray.any (eqU x)=its.any (eqU x) by simp,xr r fs];exact q
 ·obtain ⟨its,r,pl,hz⟩:=I.tuple hq;refine SeqAt.notIn_tupleAt (eqU x) pl (fun w hw=>Rn rx fx r fs w (by simpa using hw)) ⟨.bl _,H,I,rfl,?_⟩;rw [show its.toArray.any (eqU x)=its.any (eqU x) by simp,xr r fs];exact q
theorem Ib:gk X (.builtin "len") (fun xs H Q=>∃ p ys,xs=[.ref p]/\(SqL X.K H p ys\/SqT X.K H p ys)/\Q (.int ys.length) H):=by
 intro pins s σ H xs us Q I r h;obtain ⟨p,ys,rfl,hq,q⟩:=h;obtain ⟨u,rfl,rx⟩:=Vr r;cases rx;have hn:=Jr;rcases hq with hq | hq
 ·obtain ⟨its,r',pl,hz⟩:=I.list hq;have hlen:=r'.length;exact Calls.call_len_list pl.isList (by simp only [size_toArray] <;> omega) ⟨.int ys.length,H,I.tok _,⟨s.toks + 1,by rw [size_toArray,hlen]⟩,q⟩
 ·obtain ⟨its,r',pl,hz⟩:=I.tuple hq;have hlen:=r'.length;exact len_tuple pl (by simp only [size_toArray] <;> omega) ⟨.int ys.length,H,I.tok _,⟨s.toks + 1,by rw [size_toArray,hlen]⟩,q⟩
theorem Ro:gk X (.builtin "len") (fun xs H Q=>∃ z,xs=[.str z]/\z.length <= sizeLine/\Q (.int z.length) H):=by
 intro pins s σ H xs us Q I r h;obtain ⟨z,rfl,hz,q⟩:=h;obtain ⟨u,rfl,t,rfl⟩:=Vr r;have hn:=Jr;exact len_str (by omega) ⟨.int z.length,H,I.tok _,⟨_,rfl⟩,q⟩
theorem gk.or {f:Value} {r r':List V->Hp->VK->Prop} (h:gk X f r) (h':gk X f r'):gk X f (fun xs H Q=>r xs H Q\/r' xs H Q):=by
 intro pins s σ H xs us Q I rs q;rcases q with q | q
 ·exact h pins s σ H xs us Q I rs q
 ·exact h' pins s σ H xs us Q I rs q
noncomputable def tyV (K:W.Frag) (T:String) (x:V) (H:Hp):Prop:=match x with
 | .str _=>T = "str"
 | .int _=>T = "int"
 | .ref p=>(T = "list" /\ ∃ xs,SqL K H p xs)\/(T = "tuple" /\ ∃ o,K.lookup p=some o/\o.cls=.type "tuple" /\ o.dict=none) \/
   (T = "dict" /\ ((∃ kvs,H p=some (.dK kvs))\/∃ kvs,H p=some (.dT kvs)))\/(T = "set" /\ ∃ S n,H p=some (.set S n))
 | _=>False
theorem eI {pins:List (Addr × Obj)} {σ:St} {H:Hp} {s:Shared} {T:String} {x:V} {v:Value} (I:Inv X pins σ H s) (r:Td x v) (ty:tyV X.K T x H) :
  s.TypeIs v T/\∀ a,v=.ref a->∃ ob,s.heap.get? a=some ob/\ob.dict=none:=by
 cases x with
 | str z=>
  obtain ⟨t,rfl⟩:=r;cases (show T = "str" from ty);exact ⟨typeIs_str s z t,fun _ e=>nomatch e⟩
 | int i=>
  obtain ⟨t,rfl⟩:=r;cases (show T = "int" from ty);exact ⟨typeIs_int s i t,fun _ e=>nomatch e⟩
 | ref p=>
  cases r;rcases ty with ⟨rfl,xs,hq⟩ | ⟨rfl,o,hk,hc,hd⟩ | ⟨rfl,hk⟩ | ⟨rfl,S,n,hk⟩
  ·obtain ⟨its,_,pl,_⟩:=I.list hq;refine ⟨pl.isList.typeIs,fun a e=>?_⟩;cases e;obtain ⟨o,n,e,c,hd,_⟩:=pl;exact ⟨o,e,hd⟩
  ·refine ⟨⟨o,I.kIn p o hk,hc⟩,fun a e=>?_⟩;cases e;exact ⟨o,I.kIn _ o hk,hd⟩
  ·have z:∃ o,s.heap.get? p=some o/\o.ExactDict:=by
    rcases hk with ⟨kvs,hk⟩ | ⟨kvs,hk⟩
    ·obtain ⟨_,_,_,_,o,_,_,e,ex,_⟩:=I.hok p _ hk;exact ⟨o,e,ex⟩
    ·obtain ⟨_,_,_,_,o,_,_,e,ex,_⟩:=I.hok p _ hk;exact ⟨o,e,ex⟩
   obtain ⟨o,e,ex⟩:=z;refine ⟨⟨o,e,ex.1⟩,fun a e2=>?_⟩;cases e2;exact ⟨o,e,ex.2.1⟩
  ·obtain ⟨o,_,_,_,e,ex,_⟩:=I.hok p _ hk;refine ⟨⟨o,e,ex.1⟩,fun a e2=>?_⟩;cases e2;exact ⟨o,e,ex.2.1⟩
 | _=>exact False.elim ty
noncomputable def iO (K:W.Frag) (T:String) (r:V->List V->Hp->VK->Prop) (to:TE):TE:=fun σ H Q=>to σ H fun x H1=>tyV K T x H1/\r x [] H1 Q
noncomputable def tBM (K:W.Frag) (T:String) (r:V->List V->Hp->VK->Prop) (to:TE) (t:TA):TE:=fun σ H Q=>to σ H fun x H1=>tyV K T x H1/\t σ H1 fun xs H2=>r x xs H2 Q
variable {o e:Expr} {es:List Expr} {to:TE} {t:TA} {name:Str} {apos cpos:Pos} {T id:String} {r:V->List V->Hp->VK->Prop}
theorem iI (pa:PlainAttrs T) (slot:Slot T name id) (hty:typeOf (.builtin id)=pure (.type "method_descriptor")) (hm:MtR X id r) (ho:PE X o to)
  (hbase:attributeBase o name X.env (eval o X.env)=eval o X.env:=by rfl) (hline:(apos.endLine == cpos.line)=true:=by rfl):PE X (.Call (.Attribute o name apos) [] [] cpos) (iO X.K T r to):=by
 intro pins s σ H Q I h;refine wpAny_Call_method0_late hbase hline (thn (ho pins s σ H _ I h) fun v s1 hZ1=>?_);obtain ⟨x,H1,I1,r1,ty,q1⟩:=hZ1;obtain ⟨h1,h2⟩:=eI I1 r1 ty;exact ⟨T,id,pa,slot,hty,h1,h2,Calls.callWith_builtin rfl (PySem.evalArgs_none (hm pins s1 σ H1 x [] v [] Q I1 r1 .nil q1))⟩
theorem Se (pa:PlainAttrs T) (slot:Slot T name id) (hty:typeOf (.builtin id)=pure (.type "method_descriptor")) (hm:MtR X id r) (ho:PE X o to) (ha:PA X (e :: es) t)
  (hbase:attributeBase o name X.env (eval o X.env)=eval o X.env:=by rfl)
  (hfew:((backTo cpos (starEach (e :: es) X.env)).all (fun x=>!x.1) && (backToKw cpos (keywordEach [] X.env)).all (fun x=>x.1.isSome)
   && decide ((e :: es).length + ([]:List Keyword).length + (if ([]:List Keyword).isEmpty then 0 else 1) < 30))=true:=by rfl)
  (hline:(apos.endLine == cpos.line)=true:=by rfl) (hs:starEach (e :: es) X.env=(false,eval e X.env) :: starEach es X.env:=by rfl) (hplain:(backTo cpos (starEach es X.env)).any (·.1)=false:=by rfl) :
  PE X (.Call (.Attribute o name apos) (e :: es) [] cpos) (tBM X.K T r to t):=by
 intro pins s σ H Q I h;refine wpAny_Call_method_late hbase hfew hline rfl (thn (ho pins s σ H _ I h) fun v s1 hZ1=>?_);obtain ⟨x,H1,I1,r1,ty,q1⟩:=hZ1;obtain ⟨h1,h2⟩:=eI I1 r1 ty;refine ⟨T,id,pa,slot,hty,h1,h2,?_⟩;have hA:=ha cpos pins s1 σ H1 _ I1 q1;rw [hs] at hA ⊢;refine Calls.callWith_builtin (by show (false || (backTo cpos (starEach es X.env)).any (·.1))=false;rw [hplain] <;> rfl) (Calls.evalArgs_plain ?_);exact thn hA fun us s2 ⟨vs,H2,I2,r2,q2⟩=>hm pins s2 σ H2 x vs v us Q I2 r1 r2 q2
end
end L2
namespace L2
open PySem PySem.Spec PyProof.Rows
noncomputable def MtM (X:Cx) (id:String) (r:V->List V->Hp->VK->Prop):Prop:=
 ∀ (pins:List (Addr × Obj)) (s:Shared) (σ:St) (H:Hp) (x:V) (xs:List V) (v:Value) (us:List Value) (Q:VK),Inv X pins σ H s->Td x v->Sd xs us->r x xs H Q ->
  wpAny (model X.prog X.w) X.A (call (.builtin id) (v :: us)) (EP X pins σ Q) X.xe s
theorem Sd.one:∀ {x:V} {us:List Value},Sd [x] us->∃ u,us=[u]/\Td x u
 | _,_,.cons r .nil=>⟨_,rfl,r⟩
theorem Sd.two:∀ {x y:V} {us:List Value},Sd [x,y] us->∃ u v,us=[u,v]/\Td x u/\Td y v
 | _,_,_,.cons r (.cons q .nil)=>⟨_,_,rfl,r,q⟩
theorem Sd.zero:∀ {us:List Value},Sd [] us->us=[]
 | _,.nil=>rfl
theorem Sd.rep {xs:List V} {us:List Value} (h:Sd xs us):∀ k:Nat,Sd (List.replicate k xs).flatten (List.replicate k us).flatten
 | 0=>.nil
 | k + 1=>by
  rw [replicate_succ,replicate_succ,flatten_cons,flatten_cons];exact Sd.append h (Sd.rep h k)
theorem Qv (its:List Value):∀ (k:Nat) (acc:List Value),
  List.foldl (fun x1 x2=>x1 ++ x2) acc.toArray (List.replicate k its.toArray)=(acc ++ (List.replicate k its).flatten).toArray
 | 0,acc=>by simp
 | k + 1,acc=>by
  have e:acc.toArray ++ its.toArray=(acc ++ its).toArray:=by simp
  have e2:(acc ++ its) ++ (List.replicate k its).flatten=acc ++ (List.replicate (k + 1) its).flatten:=by
   rw [replicate_succ,flatten_cons,append_assoc]
  rw [<- e2,<- Qv its k (acc ++ its),<- e,replicate_succ,List.foldl_cons]
section
variable {X:Cx} {pins:List (Addr × Obj)} {σ:St} {H:Hp} {s:Shared} {l b:Addr} {xs ys zs:List V}
theorem Inv.lset {its its':List Value} {n:Nat} {f:Array Value->Array Value} {t':Nat} (I:Inv X pins σ H s) (hH:H l=some (.lst xs))
  (e:s.heap.get? l=some { cls:=.type "list",data:=.seq its.toArray n }) (hf:f its.toArray=its'.toArray) (hv:Sd ys its') (hz:ys.length <= sizeLine) :
  Inv X pins σ (upd H l (.lst ys)) { s with heap:=s.heap.update l (Obj.mapSeq f),toks:=t' }:=by
 have q:=PySem.IsL.update e f;rw [hf] at q;refine I.write (x:=l) (e:=l) (by rw [hH];exact trivial) (.inl rfl) (fun b' u hb hu=>(Heap.get?_update_other s.heap (Obj.mapSeq f) (Ne.symm hb)).trans hu) ⟨_,q⟩ ?_;exact ⟨hz,its',_,hv,q⟩
theorem Inv.lnew {its:List Value} {t':Nat} (I:Inv X pins σ H s) (hv:Sd ys its) (hz:ys.length <= sizeLine) :
  Inv X pins σ (upd H s.heap.objs.size (.lst ys)) { s with heap:=s.heap.push { cls:=.type "list",data:=.seq its.toArray },toks:=t' }:=
 I.laid (fun _ _ q=>Heap.get?_push_of_some _ q) (Nat.le_refl _) ⟨hz,its,0,hv,Heap.get?_push_size _ rfl⟩
theorem Inv.fresh (I:Inv X pins σ H s):H s.heap.objs.size=none:=I.hok.fresh (Nat.le_refl _)
theorem Inv.lstM (I:Inv X pins σ H s) (hH:H l=some (.lst xs)):xs.length <= sizeLine/\∃ (its:List Value) (n:Nat),Sd xs its/\xs.length=its.length/\s.heap.get? l=some { cls:=.type "list",data:=.seq its.toArray n }:=by
 obtain ⟨z,its,n,r,e⟩:=I.hok l _ hH;exact ⟨z,its,n,r,r.length,e⟩
theorem uz {n:Nat} (h:n <= sizeLine):Builtin.List.listTooLong n=false:=by
 unfold Builtin.List.listTooLong;exact decide_eq_false (by omega)
end
section
variable {X:Cx}
noncomputable def AC:V->List V->Hp->VK->Prop:=fun x vs H Q=>∃ l xs y,x=.ref l/\vs=[y]/\H l=some (.lst xs)/\xs.length < sizeLine/\Q .non (upd H l (.lst (xs ++ [y])))
theorem we:MtM X "list.append" AC:=by
 intro pins s σ H x vs v us Q I rx rv h;obtain ⟨l,xs,y,rfl,rfl,hH,hz,q⟩:=h;cases rx;obtain ⟨u,rfl,ru⟩:=rv.one;obtain ⟨z,its,n,r,hl,e⟩:=I.lstM hH;refine call_meets F.slot_list_append ⟨_,e,rfl⟩ F.entry_list_append (F.args_list_append_2 _ _) (PySem.list_append l its.toArray n u (by rw [size_toArray];omega)) ⟨e,?_⟩;refine ⟨.non,_,I.lset (its':=its ++ [u]) hH e (by simp) (r.append (.cons ru .nil)) ?_,rfl,q⟩;rw [length_append,List.length_singleton];omega
noncomputable def RB:V->List V->Hp->VK->Prop:=fun x vs H Q=>∃ l b xs zs,x=.ref l/\vs=[.ref b]/\H l=some (.lst xs)/\H b=some (.lst zs)/\xs.length + zs.length <= sizeLine/\Q .non (upd H l (.lst (xs ++ zs)))
theorem Hq:MtM X "list.extend" RB:=by
 intro pins s σ H x vs v us Q I rx rv h;obtain ⟨l,b,xs,zs,rfl,rfl,hH,hB,hz,q⟩:=h;cases rx;obtain ⟨u,rfl,ru⟩:=rv.one;cases ru;obtain ⟨z,its,n,r,hl,e⟩:=I.lstM hH;obtain ⟨z2,its2,n2,r2,hl2,e2⟩:=I.lstM hB;have hsz:its.toArray.size + its2.toArray.size <= sizeLine:=by rw [size_toArray,size_toArray];omega
 have hlong:¬ (!its.toArray.isEmpty && Builtin.List.listTooLong (its.toArray.size + its2.toArray.size))=true:=by
  rw [uz hsz,Bool.and_false];exact Bool.false_ne_true
 refine call_meets F.slot_list_extend ⟨_,e,rfl⟩ F.entry_list_extend (F.args_list_extend_2 _ _)
  (AutoSeq1.list_extend_list_list_0 l its.toArray n b its2.toArray n2 hlong (by rw [size_toArray];omega) (by omega)) ⟨e,e2,?_⟩
 refine ⟨.non,_,I.lset (its':=its ++ its2) hH e (by simp) (r.append r2) ?_,rfl,q⟩;rw [length_append];omega
noncomputable def TN:R2:=fun x y H Q=>∃ l b xs zs,x=.ref l/\y=.ref b/\H l=some (.lst xs)/\H b=some (.lst zs)/\xs.length + zs.length <= sizeLine/\∀ p,H p=none->Q (.ref p) (upd H p (.lst (xs ++ zs)))
theorem nw:OpR X (binaryOp .Add) TN:=by
 intro pins s σ H x y v u Q I rx ry h;obtain ⟨l,b,xs,zs,rfl,rfl,hH,hB,hz,q⟩:=h;cases rx;cases ry;obtain ⟨z,its,n,r,hl,e⟩:=I.lstM hH;obtain ⟨z2,its2,n2,r2,hl2,e2⟩:=I.lstM hB;refine PySem.P.add_list e e2 ?_ (by rw [size_toArray,size_toArray];omega);have ea:its.toArray ++ its2.toArray=(its ++ its2).toArray:=by simp
 rw [ea];exact ⟨.ref _,_,I.lnew (t':=s.toks) (r.append r2) (by rw [length_append];omega),rfl,q _ I.fresh⟩
noncomputable def fO:R2:=fun x y H Q=>∃ l k xs,x=.ref l/\y=.int k/\H l=some (.lst xs)/\-(2 ^ 63) <= k/\k < 2 ^ 63/\xs.length * k.toNat <= sizeLine /\
 ∀ p,H p=none->Q (.ref p) (upd H p (.lst (List.replicate k.toNat xs).flatten))
theorem aJ {α:Type} (xs:List α) (k:Nat):(List.replicate k xs).flatten.length=k * xs.length:=by
 induction k with
 | zero=>simp
 | succ k ih=>rw [replicate_succ,flatten_cons,length_append,ih,Nat.succ_mul,Nat.add_comm]
theorem gL:OpR X (binaryOp .Mult) fO:=by
 intro pins s σ H x y v u Q I rx ry h;obtain ⟨l,k,xs,rfl,rfl,hH,h1,h2,hz,q⟩:=h;cases rx;obtain ⟨t,rfl⟩:=ry;obtain ⟨z,its,n,r,hl,e⟩:=I.lstM hH;have hlen:its.toArray.size * k.toNat <= sizeLine:=by rw [size_toArray,<- hl];exact hz
 have hcap:¬ its.toArray.size * k.toNat > (2 ^ 63 - 1) / 8:=by
  have:(sizeLine:Nat) <= (2 ^ 63 - 1) / 8:=by decide
  omega
 have hfit:¬ (!Builtin.List.listFitsIndex k)=true:=by
  rw [fitsIndex_both h1 h2];exact Bool.false_ne_true
 have hlong:¬ Builtin.List.listTooLong (its.toArray.size * k.toNat)=true:=by
  rw [uz hlen];exact Bool.false_ne_true
 have hnew:List.foldl (fun x1 x2=>x1 ++ x2) #[] (List.replicate (if its.toArray.isEmpty=true then 0 else k.toNat) its.toArray)=(List.replicate k.toNat its).flatten.toArray:=by
  have f0:∀ m:Nat,List.foldl (fun x1 x2=>x1 ++ x2) #[] (List.replicate m its.toArray)=(List.replicate m its).flatten.toArray:=fun m=>by
   have:=Qv its m [];rw [nil_append] at this;exact this
  rw [f0];cases its with
  | nil=>simp
  | cons a r'=>rw [if_neg (by simp)]
 refine wpAny_binaryOp_repeat_ref (T := "list") (U := "int") (by decide) ⟨_,e,rfl⟩ (fun s'=>typeIs_int s' k t) noFill_list_mul F.fills_int_mul F.slot_int_rmul repeat_list F.slot_int_index.lookup
  (call_meets F.slot_int_rmul (typeIs_int s k t) F.entry_int_rmul (F.args_int_rmul_2 _ _) (int___rmul___int_list k t l its.toArray n)
   ⟨e,rfl,⟨_,e,rfl⟩,call_meets F.slot_list_mul ⟨_,e,rfl⟩ F.entry_list_mul (F.args_list_mul_2 _ _) (AutoListH.list___mul___list_int_3 l its.toArray n k t hfit hcap hlong) ⟨e,?_⟩⟩)
 rw [hnew];exact ⟨.ref _,_,I.lnew (t':=s.toks) (r.rep k.toNat) (by rw [aJ,Nat.mul_comm];exact hz),rfl,q _ I.fresh⟩
end
section
variable {prog:Program} {w:World} {A:Around} {E:Value->Shared->Prop} {s:Shared}
end
section
variable {X:Cx}
end
end L2
namespace L2
open PySem PySem.Spec PyProof.Rows
section
variable {κ:Type} [DecidableEq κ]
noncomputable def jk (kvs:List (κ × V)) (k:κ):Option V:=(kvs.find? fun kv=>decide (kv.1=k)).map (·.2)
noncomputable def Mo (kvs:List (κ × V)) (k:κ) (v:V):List (κ × V):=
 if (kvs.any fun kv=>decide (kv.1=k))=true then kvs.map (fun kv=>if kv.1=k then (kv.1,v) else kv) else kvs ++ [(k,v)]
noncomputable def OL (kvs:List (κ × V)) (k:κ):List (κ × V):=kvs.filter fun kv=>decide (kv.1 ≠ k)
theorem Rf {p:κ × V} {r:List (κ × V)} {k:κ} (e:p.1=k):jk (p :: r) k=some p.2:=by simp [jk,find?_cons,e]
theorem Pf {p:κ × V} {r:List (κ × V)} {k:κ} (e:¬ p.1=k):jk (p :: r) k=jk r k:=by simp [jk,find?_cons,e]
theorem Rp (k:κ):∀ kvs:List (κ × V),(kvs.any fun kv=>decide (kv.1=k))=(jk kvs k).isSome
 | []=>rfl
 | p :: r=>by
  rw [any_cons];by_cases e:p.1=k
  ·simp only [Rf e,decide_eq_true e,Bool.true_or,Option.isSome_some]
  ·rw [Pf e,decide_eq_false e,Bool.false_or];exact Rp k r
theorem qz (k j:κ) (y:V):∀ kvs:List (κ × V),jk (kvs.map fun kv=>if kv.1=k then (kv.1,y) else kv) j=(jk kvs j).map fun x=>if j=k then y else x
 | []=>rfl
 | p :: r=>by
  have ih:=qz k j y r;rw [map_cons];by_cases h:p.1=k
  ·rw [if_pos h];by_cases e:p.1=j
   ·rw [Rf (p:=(p.1,y)) e,Rf e,Option.map_some,if_pos (e.symm.trans h)]
   ·rw [Pf (p:=(p.1,y)) e,Pf e,ih]
  ·rw [if_neg h];by_cases e:p.1=j
   ·rw [Rf (p:=p) e,Rf e,Option.map_some,if_neg (fun z=>h (e.trans z))]
   ·rw [Pf (p:=p) e,Pf e,ih]
theorem Lw (k j:κ) (y:V):∀ kvs:List (κ × V),jk kvs k=none->jk (kvs ++ [(k,y)]) j=if j=k then some y else jk kvs j
 | [],_=>by
  by_cases e:k=j
  ·rw [if_pos e.symm];exact Rf (p:=(k,y)) e
  ·rw [if_neg (fun z=>e z.symm)];exact Pf (p:=(k,y)) e
 | p :: r,hn=>by
  rw [cons_append];have hk:¬ p.1=k:=fun z=>by rw [Rf z] at hn;cases hn
  rw [Pf hk] at hn;have ih:=Lw k j y r hn;by_cases e:p.1=j
  ·rw [Rf e,Rf e,if_neg (fun z=>hk (e.trans z))]
  ·rw [Pf e,Pf e,ih]
theorem sG (kvs:List (κ × V)) (k j:κ) (y:V):jk (Mo kvs k y) j=if j=k then some y else jk kvs j:=by
 unfold Mo;by_cases a:(kvs.any fun kv=>decide (kv.1=k))=true
 ·rw [if_pos a,qz];rw [Rp] at a;by_cases e:j=k
  ·obtain ⟨x,hx⟩:=Option.isSome_iff_exists.mp a;rw [if_pos e,e,hx,Option.map_some,if_pos rfl]
  ·rw [if_neg e];cases jk kvs j with
   | none=>rfl
   | some x=>rw [Option.map_some,if_neg e]
 ·rw [if_neg a];refine Lw k j y kvs ?_;rw [Rp] at a;cases q:jk kvs k with
  | none=>rfl
  | some x=>rw [q] at a;exact (a rfl).elim
theorem Sr (kvs:List (κ × V)) (k:κ) (v:V):(Mo kvs k v).length <= kvs.length + 1:=by
 unfold Mo;split
 ·rw [length_map];omega
 ·rw [length_append,length_cons,length_nil];omega
theorem Ds.isSome_eq {o:Option V} {u:Option Value} (r:Ds o u):o.isSome=u.isSome:=by
 cases o with
 | none=>cases u with
  | none=>rfl
  | some _=>exact (show False from r).elim
 | some _=>cases u with
  | none=>exact (show False from r).elim
  | some _=>rfl
theorem Ds.getD {o:Option V} {u:Option Value} {d:V} {d':Value} (r:Ds o u) (rd:Td d d'):Td (o.getD d) (u.getD d'):=by
 cases o with
 | none=>cases u with
  | none=>exact rd
  | some _=>exact (show False from r).elim
 | some _=>cases u with
  | none=>exact (show False from r).elim
  | some _=>exact r
theorem KV.val {kvs:List (κ × V)} {vs:List (κ × Value)} (r:KV kvs vs) (k:κ):Ds (jk kvs k) (valueAt vs k):=by
 unfold KV at r
 induction r with
 | nil=>exact True.intro
 | @cons p q ps qs h t ih=>
  obtain ⟨h1,h2⟩:=h;by_cases e:p.1=k
  ·have e':q.1=k:=h1.symm.trans e;have b:valueAt (q :: qs) k=some q.2:=by simp [valueAt,find?_cons,e']
   rw [Rf e,b];exact h2
  ·have e':¬ q.1=k:=fun z=>e (h1.trans z)
   have b:valueAt (q :: qs) k=valueAt qs k:=by simp [valueAt,find?_cons,e']
   rw [Pf e,b];exact ih
theorem KV.any {kvs:List (κ × V)} {vs:List (κ × Value)} (r:KV kvs vs) (k:κ):(kvs.any fun kv=>decide (kv.1=k))=vs.any fun kv=>decide (kv.1=k):=by
 unfold KV at r
 induction r with
 | nil=>rfl
 | cons h t ih=>rw [any_cons,any_cons,ih,h.1]
theorem KV.repl {kvs:List (κ × V)} {vs:List (κ × Value)} (r:KV kvs vs) (k:κ) {y:V} {u:Value} (ry:Td y u) :
  KV (kvs.map fun kv=>if kv.1=k then (kv.1,y) else kv) (vs.map fun kv=>if kv.1=k then (kv.1,u) else kv):=by
 unfold KV at r ⊢
 induction r with
 | nil=>exact .nil
 | @cons p q ps qs h t ih=>
  rw [map_cons,map_cons];refine .cons ?_ ih;obtain ⟨h1,h2⟩:=h;by_cases e:p.1=k
  ·rw [if_pos e,if_pos (h1.symm.trans e)];exact ⟨h1,ry⟩
  ·rw [if_neg e,if_neg (fun z=>e (h1.trans z))];exact ⟨h1,h2⟩
theorem KV.put {kvs:List (κ × V)} {vs:List (κ × Value)} (r:KV kvs vs) (k:κ) {y:V} {u:Value} (ry:Td y u):KV (Mo kvs k y) (stored vs k u):=by
 unfold Mo stored;rw [r.any k];by_cases e:(vs.any fun kv=>decide (kv.1=k))=true
 ·rw [if_pos e,if_pos e];exact r.repl k ry
 ·rw [if_neg e,if_neg e];exact Paired.snoc r ⟨rfl,ry⟩
theorem KV.drop {kvs:List (κ × V)} {vs:List (κ × Value)} (r:KV kvs vs) (k:κ):KV (OL kvs k) (without vs k):=by
 unfold KV at r ⊢;unfold OL without
 induction r with
 | nil=>exact .nil
 | @cons p q ps qs h t ih=>
  obtain ⟨h1,h2⟩:=h;rw [List.filter_cons,List.filter_cons];by_cases e:p.1=k
  ·have a:¬ decide (p.1 ≠ k)=true:=by simp [e]
   have b:¬ decide (q.1 ≠ k)=true:=by simp [h1.symm.trans e]
   rw [if_neg a,if_neg b];exact ih
  ·have e':¬ q.1=k:=fun z=>e (h1.trans z)
   have a:decide (p.1 ≠ k)=true:=by simp [e]
   have b:decide (q.1 ≠ k)=true:=by simp [e']
   rw [if_pos a,if_pos b];exact .cons ⟨h1,h2⟩ ih
theorem KV.length {kvs:List (κ × V)} {vs:List (κ × Value)} (r:KV kvs vs):kvs.length=vs.length:=Paired.length r
end
theorem DG {P:Program} {w:World} {k:Key} {u:Value} (r:Td (kV k) u):(zf P w).is k u=true:=by
 cases k with
 | inl i=>obtain ⟨t,e⟩:=(show ∃ t,u=Value.int i t from r);subst e;exact yy P w i t
 | inr x=>obtain ⟨t,e⟩:=(show ∃ t,u=Value.str x t from r);subst e;exact Vy P w x t
theorem wx {P:Program} {w:World}:∀ {ks:List Key} {us:List Value},Sd (ks.map kV) us->ItemsAre (zf P w) ks us
 | [],_,r=>by rw [map_nil] at r;cases r;exact .nil
 | k :: ks,_,r=>by
  rw [map_cons] at r;cases r with
  | cons h t=>exact .cons (DG h) (wx t)
noncomputable abbrev KT (H:Hp):List (List Key × V)->List (List Key × Addr × Value)->Prop:=Paired fun p q=>p.1=q.1/\H q.2.1=some (.tup (p.1.map kV))/\Td p.2 q.2.2
theorem KT.val {H:Hp} {kvs:List (List Key × V)} {xs:List (List Key × Addr × Value)} (r:KT H kvs xs) (k:List Key):Ds (jk kvs k) ((atKey xs k).map (·.2)):=by
 induction r with
 | nil=>exact True.intro
 | @cons p q ps qs h t ih=>
  obtain ⟨h1,_,h2⟩:=h;by_cases e:p.1=k
  ·have e':q.1=k:=h1.symm.trans e;have b:atKey (q :: qs) k=some q.2:=by simp [atKey,find?_cons,e']
   rw [Rf e,b];exact h2
  ·have e':¬ q.1=k:=fun z=>e (h1.trans z)
   have b:atKey (q :: qs) k=atKey qs k:=by simp [atKey,find?_cons,e']
   rw [Pf e,b];exact ih
theorem KT.repl {H:Hp} {kvs:List (List Key × V)} {xs:List (List Key × Addr × Value)} (r:KT H kvs xs) (k:List Key) {y:V} {u:Value} (ry:Td y u) :
  KT H (kvs.map fun kv=>if kv.1=k then (kv.1,y) else kv) (xs.map (putAt k u)):=by
 induction r with
 | nil=>exact .nil
 | @cons p q ps qs h t ih=>
  rw [map_cons,map_cons];refine .cons ?_ ih;obtain ⟨h1,h2,h3⟩:=h;unfold putAt;by_cases e:p.1=k
  ·rw [if_pos e,if_pos (h1.symm.trans e)];exact ⟨h1,h2,ry⟩
  ·rw [if_neg e,if_neg (fun z=>e (h1.trans z))];exact ⟨h1,h2,h3⟩
theorem KT.put {H:Hp} {kvs:List (List Key × V)} {xs:List (List Key × Addr × Value)} (r:KT H kvs xs) (k:List Key) {b:Addr} {y:V} {u:Value} (hb:H b=some (.tup (k.map kV))) (ry:Td y u) :
  KT H (Mo kvs k y) (storedH xs k b u):=by
 have e:(kvs.any fun kv=>decide (kv.1=k))=(atKey xs k).isSome:=by
  rw [Rp,(r.val k).isSome_eq,Option.isSome_map]
 unfold Mo storedH;rw [e];by_cases q:(atKey xs k).isSome=true
 ·rw [if_pos q,if_pos q];exact r.repl k ry
 ·rw [if_neg q,if_neg q];exact Paired.snoc r ⟨rfl,hb,ry⟩
theorem KT.keeps {H H':Hp} {kvs:List (List Key × V)} {xs:List (List Key × Addr × Value)} (r:KT H kvs xs) (ht:∀ b ys,H b=some (.tup ys)->H' b=some (.tup ys)):KT H' kvs xs:=
 Paired.mapP r fun _ _ z=>⟨z.1,ht _ _ z.2.1,z.2.2⟩
section
variable {P:Program} {w:World} {H:Hp} {h:Heap} {a:Addr}
theorem tL {u:HO} (ok:HOk P w H h) (e:Rd H a u):vd P w H h a u:=e.ok ok
theorem xG {kvs:List (Key × V)} (ok:HOk P w H h) (e:Rd H a (.dK kvs)):kvs.length <= sizeLine/\(a == sysModules)=false/\∃ vs,KV kvs vs/\h.DictOf (zf P w) a vs:=
 show vd P w H h a (.dK kvs) from tL ok e
theorem gN {kvs:List (Key × V)} (ok:HOk P w H h) (e:H a=some (.dK kvs)):kvs.length <= sizeLine/\(a == sysModules)=false/\∃ vs,KV kvs vs/\h.DictOf (zf P w) a vs:=xG ok (.inl e)
theorem jz {ks:List Key} (ok:HOk P w H h) (e:H a=some (.tup (ks.map kV))):(tupleKind (zf P w)).is h ks a:=by
 obtain ⟨_,its,r,o,h1,h2,n,h3⟩:=(show vd P w H h a (.tup (ks.map kV)) from ok a _ e);exact ⟨o,its.toArray,n,h1,h2,h3,by simpa using wx r⟩
theorem AG {kvs:List (List Key × V)} (ok:HOk P w H h) (e:Rd H a (.dT kvs)):kvs.length <= sizeLine/\(a == sysModules)=false /\
  ∃ xs,KT H kvs xs/\h.DictOfH (tupleKind (zf P w)) a xs:=by
 obtain ⟨z,y,xs,r,o,es,ep,h1,h2,h3,h4,h5⟩:=(show vd P w H h a (.dT kvs) from tL ok e);refine ⟨z,y,xs,r,o,es,ep,h1,h2,h3,h4,fun x hx=>?_,h5⟩;have all:∀ {l:List (List Key × V)} {m:List (List Key × Addr × Value)},KT H l m->∀ x ∈ m,(tupleKind (zf P w)).is h x.1 x.2.1:=by
  intro l m q
  induction q with
  | nil=>intro x hx;exact nomatch hx
  | @cons p q ps qs hq t ih=>
   intro x hx;rcases List.mem_cons.mp hx with e | hx
   ·subst e;exact jz ok (by rw [<- hq.1];exact hq.2.1)
   ·exact ih x hx
 exact all r x hx
theorem aN {kvs:List (List Key × V)} (ok:HOk P w H h) (e:H a=some (.dT kvs)):kvs.length <= sizeLine/\(a == sysModules)=false /\
  ∃ xs,KT H kvs xs/\h.DictOfH (tupleKind (zf P w)) a xs:=AG ok (.inl e)
end
noncomputable def Cw (H:Hp) (a:Addr) (y:V) (r:Option V):Prop:=
 (∃ kvs k,Rd H a (.dK kvs)/\y=kV k/\r=jk kvs k)\/∃ kvs k b,Rd H a (.dT kvs)/\y=.ref b/\H b=some (.tup (k.map kV))/\r=jk kvs k
noncomputable def dF (H:Hp) (a:Addr) (y v:V) (H':Hp):Prop:=
 (∃ kvs k,H a=some (.dK kvs)/\y=kV k/\kvs.length < sizeLine/\H'=upd H a (.dK (Mo kvs k v))) \/
 ∃ kvs k b,H a=some (.dT kvs)/\y=.ref b/\H b=some (.tup (k.map kV))/\kvs.length < sizeLine/\H'=upd H a (.dT (Mo kvs k v))
theorem Cw.k {H:Hp} {a:Addr} {kvs:List (Key × V)} {k:Key} (e:H a=some (.dK kvs)):Cw H a (kV k) (jk kvs k):=.inl ⟨kvs,k,.inl e,rfl,rfl⟩
theorem Cw.t {H:Hp} {a b:Addr} {kvs:List (List Key × V)} {k:List Key} (e:H a=some (.dT kvs)) (eb:H b=some (.tup (k.map kV))):Cw H a (.ref b) (jk kvs k):=.inr ⟨kvs,k,b,.inl e,rfl,eb,rfl⟩
theorem dF.k {H:Hp} {a:Addr} {kvs:List (Key × V)} {k:Key} {v:V} (e:H a=some (.dK kvs)) (hl:kvs.length < sizeLine):dF H a (kV k) v (upd H a (.dK (Mo kvs k v))):=.inl ⟨kvs,k,e,rfl,hl,rfl⟩
theorem dF.t {H:Hp} {a b:Addr} {kvs:List (List Key × V)} {k:List Key} {v:V} (e:H a=some (.dT kvs)) (eb:H b=some (.tup (k.map kV))) (hl:kvs.length < sizeLine) :
  dF H a (.ref b) v (upd H a (.dT (Mo kvs k v))):=.inr ⟨kvs,k,b,e,rfl,eb,hl,rfl⟩
section
variable {X:Cx} {pins:List (Addr × Obj)} {σ:St} {H:Hp} {s:Shared} {a:Addr} {y v:V} {u r:Value} {o:Option V} {A:Around} {E:Value->Shared->Prop}
theorem Inv.big (I:Inv X pins σ H s):sysModules < s.heap.objs.size:=by
 have h:mainGlobals < s.heap.objs.size:=(I.mod.glob.keeps I.bk).lt;exact Nat.lt_trans (by decide) h
theorem FC {Q:Value->Shared->Prop} (hu:A.units + 1 < cLine) (I:Inv X pins σ H s) (g:Cw H a y (some v)) (ry:Td y u) (h:∀ w' s',Inv X pins σ H s'->Td v w'->Q w' s') :
  wpAny (model X.prog X.w) A (getItem (.ref a) u) Q E s:=by
 rcases g with ⟨kvs,k,e,ey,l⟩ | ⟨kvs,k,b,e,ey,eb,l⟩
 ·subst ey;obtain ⟨z,hd,vs,rel,dd⟩:=xG I.hok e;obtain ⟨w',hw,rw'⟩:=Ds.some_of (v:=v) (o:=valueAt vs k) (by rw [l];exact rel.val k);exact wpAny_getItem_of (DG ry) dd.mapOf hw (h w' _ (I.tok _) rw')
 ·subst ey;cases (show u=Value.ref b from ry);obtain ⟨z,hd,xs,rel,dd⟩:=AG I.hok e;obtain ⟨w',hw,rw'⟩:=Ds.some_of (v:=v) (o:=(atKey xs k).map (·.2)) (by rw [l];exact rel.val k);obtain ⟨p,hp,hp2⟩:=Option.map_eq_some_iff.mp hw;refine wpAny_getItem_heap (tupleKind_room_in1 hu) (jz I.hok eb) dd hp ?_;rw [hp2];exact h w' _ (I.tok _) rw'
theorem MI {Q:Value->Shared->Prop} (hu:A.units + 1 < cLine) (I:Inv X pins σ H s) (g:Cw H a y o) (ry:Td y u) (h:∀ s',Inv X pins σ H s'->Q (.bool (!o.isSome)) s') :
  wpAny (model X.prog X.w) A (compareOp .NotIn u (.ref a)) Q E s:=by
 rcases g with ⟨kvs,k,e,ey,l⟩ | ⟨kvs,k,b,e,ey,eb,l⟩
 ·subst ey;obtain ⟨z,hd,vs,rel,dd⟩:=xG I.hok e;refine wpAny_notIn_of (DG ry) hd dd.mapOf ?_;rw [<- (rel.val k).isSome_eq,<- l];exact h _ (I.tok _)
 ·subst ey;cases (show u=Value.ref b from ry);obtain ⟨z,hd,xs,rel,dd⟩:=AG I.hok e;refine wpAny_notIn_heap (tupleKind_room_in1 hu) (jz I.hok eb) hd dd ?_;have q:=(rel.val k).isSome_eq;rw [Option.isSome_map] at q;rw [<- q,<- l];exact h _ (I.tok _)
theorem vE {h':Heap} {t':Nat} {ob:HO} (I:Inv X pins σ H s) (mu:Mut (H a)) (hs:Heap.SameBut a s.heap h') (he:∃ q,h'.get? a=some q) (new:vd X.prog X.w (upd H a ob) h' a ob) :
  Inv X pins σ (upd H a ob) { s with heap:=h',toks:=t' }:=
 I.write (x:=a) (e:=a) mu (.inl rfl) (fun b q hb z=>(hs.2 b hb).trans z) he new
theorem rL {P:Program} {w:World} {H':Hp} {h':Heap} {kvs:List (Key × V)} {vs:List (Key × Value)} (z:kvs.length <= sizeLine) (hd:(a == sysModules)=false) (rel:KV kvs vs) (dd:h'.DictOf (zf P w) a vs) :
  vd P w H' h' a (.dK kvs):=⟨z,hd,vs,rel,dd⟩
theorem Zw {H':Hp} {Q:Unit->Shared->Prop} (hu:A.units + 1 < cLine) (I:Inv X pins σ H s) (g:dF H a y v H') (ry:Td y u) (rv:Td v r) (h:∀ s',Inv X pins σ H' s'->Q () s') :
  wpAny (model X.prog X.w) A (setItem (.ref a) u r) Q E s:=by
 rcases g with ⟨kvs,k,e,ey,l,eH⟩ | ⟨kvs,k,b,e,ey,eb,l,eH⟩
 ·subst ey eH;obtain ⟨z,hd,vs,rel,dd⟩:=gN I.hok e;have hz:vs.length <= sizeLine:=by rw [<- rel.length];exact z
  have hl:(Mo kvs k v).length <= sizeLine:=by have:=Sr kvs k v;omega
  refine wpAny_setItem_pairs (hsz:=hz) (DG ry) dd fun h' dd' hs=>h _ ?_
  have he:∃ q,h'.get? a=some q:=let ⟨q,_,_,hq,_⟩:=dd';⟨q,hq⟩;exact vE I (by rw [e];exact True.intro) hs he (rL hl hd (rel.put k rv) dd')
 ·subst ey eH;cases (show u=Value.ref b from ry);obtain ⟨z,hd,xs,rel,dd⟩:=aN I.hok e;have hz:xs.length <= sizeLine:=by rw [<- Paired.length rel];exact z
  have hl:(Mo kvs k v).length <= sizeLine:=by have:=Sr kvs k v;omega
  refine wpAny_setItem_heap (hsz:=hz) (tupleKind_room_in1 hu) (jz I.hok eb) dd fun h' dd' hs=>h _ ?_
  obtain ⟨q,es,ep,hq,h2,h3,h4,_,h5⟩:=dd';refine vE I (by rw [e];exact True.intro) hs ⟨q,hq⟩ ⟨hl,hd,_,(rel.put k eb rv).keeps fun c ys ec=>?_,q,es,ep,hq,h2,h3,h4,h5⟩;rw [zb (af ec e (fun z=>nomatch z))];exact ec
end
section
variable {X:Cx} {pins:List (Addr × Obj)} {σ:St} {H:Hp} {s:Shared} {a:Addr} {kvs:List (Key × V)} {k:Key} {u:Value} {A:Around} {E:Value->Shared->Prop}
end
noncomputable def pO (i:Expr):Prop:=∀ ov iv,subscripted i false ov iv=operate [ov,iv] (getItem ov iv)
theorem dJ {prog:Program} {w:World} {A:Around} {E:Value->Shared->Prop} {s:Shared} {env:Env} {value slice:Expr} {pos:Pos} {T id:String} {Q:Value->Shared->Prop}
  (hl:typeLookup (.type T) "__getitem__"=pure (some (.builtin id))) (hs:pO slice)
  (h:wpAny (model prog w) A (eval value env) (fun o s₁=>wpAny (model prog w) A (eval slice env) (fun i s₂=>s₂.TypeIs o T/\wpAny (model prog w) A (getItem o i) Q E s₂) E s₁) E s) :
  wpAny (model prog w) A (eval (.Subscript value slice pos) env) Q E s:=by
 refine Subscript_ (wpAny_mono h (fun o s₁ h₁=>wpAny_mono h₁ (fun i s₂ h₂=>?_) fun _ _ x=>x) fun _ _ x=>x);obtain ⟨hT,h₂⟩:=h₂;unfold subscriptTail;refine wpAny_bind ?_;rw [getitemInPython_of_ne hT.not_modules];refine wpAny_bind (wpAny_specialOf hT hl ?_);have fin:wpAny (model prog w) A (subscripted slice false o i) (fun r s₃=>wpAny (model prog w) A (letTemporaryGo value o r >>= fun _=>pure r) Q E s₃) E s₂:=by
  rw [hs o i];exact wpAny_operating (wpAny_mono h₂ (fun r s₃ h₃=>wpAny_bind (wpAny_letTemporaryGo (wpAny_pure h₃))) fun _ _ x=>x)
 first
  | exact wpAny_pure (wpAny_bind fin)
  | exact wpAny_bind (wpAny_pure (wpAny_bind fin))
  | exact wpAny_bind fin
theorem Hx {X:Cx} {pins:List (Addr × Obj)} {σ:St} {H:Hp} {s:Shared} {a:Addr} {y:V} {o:Option V} (I:Inv X pins σ H s) (g:Cw H a y o):s.TypeIs (.ref a) "dict" := by
 rcases g with ⟨kvs,k,e,_,_⟩ | ⟨kvs,k,b,e,_,_,_⟩
 ·obtain ⟨_,_,vs,_,dd⟩:=xG I.hok e;exact dd.typeIs
 ·obtain ⟨_,_,xs,_,dd⟩:=AG I.hok e;exact dd.typeIs
noncomputable def NK (td ty:TE):TE:=fun σ H Q=>td σ H fun x H1=>ty σ H1 fun y H2=>∃ a v,x=.ref a/\Cw H2 a y (some v)/\Q v H2
noncomputable def VB (ty td:TE):TE:=fun σ H Q=>ty σ H fun y H1=>td σ H1 fun x H2=>∃ a o,x=.ref a/\Cw H2 a y o/\Q (.bl (!o.isSome)) H2
noncomputable def UK (td ty tv:TE):TS:=fun D σ H=>tv σ H fun v H1=>td σ H1 fun x H2=>ty σ H2 fun y H3=>∃ a H4,x=.ref a/\dF H3 a y v H4/\D.nx σ H4
section
variable {X:Cx} {o i e value:Expr} {pos pos' tpos:Pos} {td ty tv:TE}
theorem zE (hu:X.A.units + 1 < cLine) (ho:PE X o td) (hi:PE X i ty) (hs:pO i):PE X (.Subscript o i pos) (NK td ty):=by
 intro pins s σ H Q I h;refine dJ PySem.F.slot_dict_getitem.lookup hs (thn (ho pins s σ H _ I h) fun u s1 ⟨x,H1,I1,rx,q1⟩=>thn (hi pins s1 σ H1 _ I1 q1) fun iv s2 hZ1=>?_);obtain ⟨y,H2,I2,ry,a,v,ex,g,q2⟩:=hZ1;subst ex;obtain rfl:u=Value.ref a:=rx;exact ⟨Hx I2 g,FC hu I2 g ry fun w' s3 I3 rw'=>⟨v,H2,I3,rw',q2⟩⟩
theorem Dw (hu:X.A.units + 1 < cLine) (hi:PE X i ty) (ho:PE X o td):PC X .NotIn i o (VB ty td):=by
 intro pins s σ H Q I h;refine thn (hi pins s σ H _ I h) fun iv s1 ⟨y,H1,I1,ry,q1⟩=>thn (ho pins s1 σ H1 _ I1 q1) fun u s2 hZ1=>?_
 obtain ⟨x,H2,I2,rx,a,ov,ex,g,q2⟩:=hZ1;subst ex;obtain rfl:u=Value.ref a:=rx;exact MI hu I2 g ry fun s3 I3=>⟨.bl (!ov.isSome),H2,I3,rfl,q2⟩
theorem JC (hu:X.A.units + 1 < cLine) (ho:PE X o td) (hi:PE X i ty) (hv:PE X value tv) (hs:swapsWith value (some (.Subscript o i pos')) pos.line X.env=pure false) :
  PS X (.Assign [.Subscript o i pos'] value pos) (UK td ty tv):=by
 intro pins s σ H D I h;refine wpAny_Assign_Subscript (thn (hv pins s σ H _ I h) fun r s1 ⟨v,H1,I1,rv,q1⟩=>thn (ho pins s1 σ H1 _ I1 q1) fun u s2 ⟨x,H2,I2,rx,q2⟩=>thn (hi pins s2 σ H2 _ I2 q2) fun iv s3 hZ1=>?_) hs;obtain ⟨y,H3,I3,ry,a,H4,ex,g,q3⟩:=hZ1;subst ex;obtain rfl:u=Value.ref a:=rx;exact Zw hu I3 g ry rv fun s4 I4=>⟨σ,H4,I4,q3⟩
end
theorem IG {P:Program} {w:World} {H:Hp} (h:Heap) (hb:sysModules < h.objs.size):vd P w H (h.push { cls:=.type "dict",data:=.dict #[] }) h.objs.size (.dK []):=
 ⟨Nat.zero_le _,beq_eq_false_iff_ne.mpr (Ne.symm (Nat.ne_of_lt hb)),[],.nil,Heap.DictOf.new h⟩
theorem KF {P:Program} {w:World} {H:Hp} (h:Heap) (hb:sysModules < h.objs.size):vd P w H (h.push { cls:=.type "dict",data:=.dict #[] }) h.objs.size (.dT []):=
 ⟨Nat.zero_le _,beq_eq_false_iff_ne.mpr (Ne.symm (Nat.ne_of_lt hb)),[],.nil,_,#[],0,Heap.get?_push_size _ rfl,⟨rfl,rfl,rfl⟩,rfl,rfl,List.nodup_nil⟩
noncomputable def JH:TE:=fun _ H Q=>∀ p,H p=none->Q (.ref p) (upd H p (.dK []))
noncomputable def jI:TE:=fun _ H Q=>∀ p,H p=none->Q (.ref p) (upd H p (.dT []))
section
variable {X:Cx} {pos:Pos}
theorem Jz:PE X (.Dict [] [] pos) JH:=fun pins s σ H Q I h=>
 wpAny_Dict_empty ⟨.ref s.heap.objs.size,_,I.laid (a:=s.heap.objs.size) (o:=.dK []) (t':=s.toks) (fun _ _ q=>Heap.get?_push_of_some _ q) (Nat.le_refl _) (IG s.heap I.big),rfl,h _ (I.hok.fresh (Nat.le_refl _))⟩
theorem WF:PE X (.Dict [] [] pos) jI:=fun pins s σ H Q I h=>
 wpAny_Dict_empty ⟨.ref s.heap.objs.size,_,I.laid (a:=s.heap.objs.size) (o:=.dT []) (t':=s.toks) (fun _ _ q=>Heap.get?_push_of_some _ q) (Nat.le_refl _) (KF s.heap I.big),rfl,h _ (I.hok.fresh (Nat.le_refl _))⟩
end
structure M1 (X:Cx) (o:Expr) (m:Str) (apos:Pos) (e:Expr) (cpos:Pos):Prop where
 base:attributeBase o m X.env (eval o X.env)=eval o X.env
 few:((backTo cpos (starEach [e] X.env)).all (fun x=>!x.1) && (backToKw cpos (keywordEach [] X.env)).all (fun x=>x.1.isSome)
  && decide (([e]:List Expr).length + ([]:List Keyword).length + (if ([]:List Keyword).isEmpty then 0 else 1) < 30))=true
 line:(apos.endLine == cpos.line)=true
 trees:backTo cpos (starEach [e] X.env)=[(false,eval e X.env)]
structure M2 (X:Cx) (o:Expr) (m:Str) (apos:Pos) (e f:Expr) (cpos:Pos):Prop where
 base:attributeBase o m X.env (eval o X.env)=eval o X.env
 few:((backTo cpos (starEach [e,f] X.env)).all (fun x=>!x.1) && (backToKw cpos (keywordEach [] X.env)).all (fun x=>x.1.isSome)
  && decide (([e,f]:List Expr).length + ([]:List Keyword).length + (if ([]:List Keyword).isEmpty then 0 else 1) < 30))=true
 line:(apos.endLine == cpos.line)=true
 trees:backTo cpos (starEach [e,f] X.env)=[(false,eval e X.env),(false,eval f X.env)]
section
variable {X:Cx} {pins:List (Addr × Obj)} {σ:St} {H:Hp} {s:Shared} {a:Addr} {y d:V} {u r:Value} {o:Option V} {A:Around} {E:Value->Shared->Prop}
end
section
variable {X:Cx} {o e f:Expr} {apos cpos:Pos} {td ty tx:TE}
end
section
variable {X:Cx} {pins:List (Addr × Obj)} {σ:St} {H:Hp} {s:Shared} {a:Addr} {kvs:List (Key × V)} {A:Around} {E:Value->Shared->Prop}
end
section
variable {X:Cx} {pins:List (Addr × Obj)} {σ:St} {H:Hp} {s:Shared} {a:Addr} {y:V} {u:Value} {A:Around} {E:Value->Shared->Prop}
end
end L2
namespace Att
open PySem PySem.W PySem.Calls PyProof.Rows
theorem Nq {P:Params} {h:Heap}:∀ (ns:List Int) (vs:List Value),WellAll P h vs (ns.map WData.int)->IntsAre vs ns:=by
 intro ns
 induction ns with
 | nil=>
  intro vs w;rw [map_nil] at w;cases w;exact .nil
 | cons n ns ih=>
  intro vs w;rw [map_cons] at w;cases w with
  | cons a b=>
   cases a;exact .cons _ _ (ih _ b)
theorem rC {l:OpenLaw} {n:Nat} (hn:l.most=some n) {P:Params} {h:Heap} {args:List WData} {vals:List Value}
  (hpre:l.row.toRowW.claim.pre args=true) (hwl:WellAll P h vals args) :
  ∃ a vs ns,vals=[Value.ref a]/\args=[WData.list (ns.map WData.int)]/\h.get? a=some { cls:=.type "list",data:=.seq vs.toArray }/\IntsAre vs ns/\ns.length <= n:=by
 have hsh:WShape.hasAll [] args [.list .int]=true:=(pre_splitW hpre).1;have hc:l.pre.holds [] { args:=args }=true:=(pre_splitW hpre).2;obtain ⟨d,r,rfl,h1,h2⟩:=hasAllW_cons hsh;obtain rfl:=hasAllW_nil h2;obtain ⟨xs,rfl,h3⟩:=hasW_list h1;obtain ⟨ns,rfl⟩:=items_int h3;have hlen:ns.length <= n:=by
  unfold OpenLaw.pre at hc;have h4:(WTm.not (.lt (.lit (.int (n:Int))) (.len (.arg 0)))).holds [] { args:=[.list (ns.map .int)] }=true:=by
   have h4:=(holds_andW hc).1;rw [hn] at h4;exact h4
  have h5:=condW_of h4 (w_not (w_lt w_lit (w_len_list (w_arg rfl))));rw [length_map] at h5;refine Nat.le_of_not_lt fun q=>?_
  have q':(n:Int) < ((ns.length:Nat):Int):=by omega
  first
   | (rw [decide_eq_true q'] at h5;exact absurd h5 (by decide))
   | (simp at h5;omega)
 cases hwl with
 | cons w1 w2=>
  cases w2;cases w1 with
  | list ho hall=>exact ⟨_,_,ns,rfl,rfl,ho,Nq ns _ hall,hlen⟩
theorem YB (l:OpenLaw) (args:List WData):l.row.toRowW.claim.post args (.bool true) args=true:=
 postW_of (r:=l.row.toRowW) (X:=(true == true))
  (show WShape.has [] (.bool true) .bool=true by first | rfl | decide | simp [WShape.has,WShape.arms,WShape.armsAll])
  (show (WTm.eq .res (.lit (.bool true))).value [] { args:=args,res:=some (.bool true),after:=args }=some (.bool (true == true)) from w_eq_bool (w_res rfl) w_lit) rfl
theorem attach_call {l:OpenLaw} {n:Nat} {q:Program} {loose:List Str} {XP:(Str->Option Value)->Heap->Prop} {YP:World->Heap->Prop} {d:DefRec}
  (hn:l.most=some n) (hdf:d.params.defaults=[])
  (call:∀ (w:World) (s₀ s₁:Shared) (mg mb:Str->Option Value) (fa:Addr) (o:Obj) (pm cd doc:Value) (a:Addr) (vs:List Value) (ns:List Int),
   Ground q loose [] XP w s₀ mg mb s₁.heap->YP w s₁.heap ->
   s₁.heap.get? fa=some o->o.data=.func (docDef d.name d.params d.body d.scope pm cd doc)->s₁.heap.CodeRec cd d.name->mg d.name=some (.ref fa) ->
   s₁.heap.get? a=some { cls:=.type "list",data:=.seq vs.toArray }->IntsAre vs ns->ns.length <= n->s₁.gens=#[] ->
   codeAny (model l.prog w) callerA (.call (.ref fa) ⟨[.ref a],[]⟩) (fun r s'=>r=.ok (.ret (.bool true))/\OldK s₁.heap s'.heap/\s'.os=s₁.os/\AllBare s'.gens) s₁) :
  WalkO q loose XP YP l.row.toRowW d [] (fun f vs=>PySem.call f vs):=by
 intro w s₀ s₁ mg mb G Y fa o pm cd doc dV kV ho hd hcd hD hmg hg args vals as hpre hlay hrd hwl hlo;obtain rfl:dV=.none:=Dflts.none hD hdf;obtain rfl:kV=.none:=Dflts.noKw hD;obtain ⟨a,vs,ns,rfl,rfl,hobj,hints,hlen⟩:=rC hn hpre hwl;refine enter_call (codeAny_mono (call w s₀ s₁ mg mb fa o pm cd doc a vs ns G Y ho (fd_plain hd) hcd hmg hobj hints hlen hg) fun r s' hq=>?_);obtain ⟨rfl,h2,h3,h4⟩:=hq;exact ⟨.inl ⟨.bool true,.bool true,[],rfl,fun _=>rfl,.bool true,YB l _,fun _=>⟨List.Pairwise.nil,fun _ hm=>(nomatch hm)⟩⟩,h2,h3,h4⟩
section
variable {prog:Program} {w:World} {A:Around} {E:Value->Shared->Prop} {s:Shared} {K:Frag}
end
end Att
namespace L2
open PySem PySem.Spec PyProof.Rows
theorem px:∀ {vs:List Value} {ns:List Int},IntsAre vs ns->Sd (ns.map V.int) vs
 | _,_,.nil=>.nil
 | _,_,.cons n t h=>.cons ⟨t,rfl⟩ (px h)
noncomputable def DM (H:Hp):Prop:=∀ b,H b=none\/∃ o xs,H b=some (.frz o (.lst xs))
theorem FG {P:Program} {w:World} {K:W.Frag} {mg mb:Str->Option Value} {CX:CXT} {k:Nat} {fa a:Addr} {fd:FuncData} {x:Str} {sp:Sp} {s₁:Shared} {vs:List Value} {ns:List Int}
  (KX:K.In s₁.heap) (hns:s₁.heap.Ns mainGlobals mg) (hb:s₁.heap.Ns builtinsNs mb) (hbb:∀ x:Str,x ≠ "__name__" -> mb x=bootBuiltins x) (hlim:s₁.heap.NoLimit) (hg:s₁.gens=#[])
  (ha:s₁.heap.get? a=some { cls:=.type "list",data:=.seq vs.toArray }) (hi:IntsAre vs ns) (hl:ns.length <= sizeLine) (hr:pj k callerA)
  (F:∀ base:Heap,K.In base->base.Ns mainGlobals mg->Ub P w K mg base CX k fa fd [x] sp) (hbind:∀ (s:Shared) (u:Value),BindsTo s fd ⟨[u],[]⟩ [(x,u)])
  (hsp:∀ H:Hp,DM H->SqL K H a (ns.map V.int)->sp [.ref a] H (fun v _=>v=.bl true) fun _ _ _=>False)
  (hCX:∀ H e s',CX [] H s₁ (fun _ _ _=>False) e s'->False) :
  codeAny (model P w) callerA (.call (.ref fa) ⟨[.ref a],[]⟩) (fun r s'=>r=.ok (.ret (.bool true))/\OldK s₁.heap s'.heap/\s'.os=s₁.os/\AllBare s'.gens) s₁:=by
 have rv:=px hi;have lenV:=hi.length;have core:∀ H:Hp,DM H->SqL K H a (ns.map V.int)->HOk P w H s₁.heap->(∀ b,H b ≠ none->b=a)->(H a ≠ none->K.lookup a=none) ->
   codeAny (model P w) callerA (.call (.ref fa) ⟨[.ref a],[]⟩) (fun r s'=>r=.ok (.ret (.bool true))/\OldK s₁.heap s'.heap/\s'.os=s₁.os/\AllBare s'.gens) s₁:=by
  intro H hO hS hok hA hK;have base_of:∀ {b:Addr} {o:Obj},s₁.heap.get? b=some o->H b=none->(dH s₁.heap H).get? b=some o:=fun e n=>XG e n
  have noA:∀ {b:Addr} {o:Obj} {es:Array DictEntry} {ep:Nat},s₁.heap.get? b=some o->o.data=.dict es ep->H b=none:=fun {b o es ep} e d=>by
   cases q:H b with
   | none=>rfl
   | some u=>
    have e':b=a:=hA b (by rw [q];simp);subst e';rw [ha] at e;cases e;have d':Data.seq vs.toArray _=Data.dict es ep:=d;cases d'
  have nsK:∀ {b:Addr} {m:Str->Option Value},s₁.heap.Ns b m->(dH s₁.heap H).Ns b m:=fun {b m} ⟨o,es,ep,e,d,r⟩=>⟨o,es,ep,base_of e (noA e d),d,r⟩
  have hKb:K.In (dH s₁.heap H):=fun b o e=>base_of (KX b o e) (by
   cases q:H b with
   | none=>rfl
   | some u=>
    have e':b=a:=hA b (by rw [q];simp);subst e';rw [hK (by rw [q];simp)] at e;cases e)
  have hM:Mod K mg (dH s₁.heap H):=⟨hKb,nsK hns,⟨mb,nsK hb,hbb⟩,let ⟨mc,h1,h2⟩:=hlim;⟨mc,nsK h1,h2⟩⟩;have e0:QD P w K mg (dH s₁.heap H) callerA [] s₁ H:=⟨rfl,hM,fun b o e=>WI e,Nat.le_of_eq (XC _ _),trivial,fun b hb=>absurd (show b ∈ ([]:List Addr) from hb) (by simp),hok,.of_eq hg⟩;refine codeAny_mono ((F _ hKb (nsK hns)).run callerA [] s₁ H ⟨[.ref a],[]⟩ [.ref a] [.ref a] _ _ hr e0 (hbind s₁ (.ref a)) (.cons rfl .nil) (hsp H hO hS)) fun r s' h=>?_
  cases r with
  | error e=>exact (hCX H e s' h).elim
  | ok fl=>
   cases fl with
   | next=>exact False.elim h
   | brk=>exact False.elim h
   | cont=>exact False.elim h
   | ret u=>
    obtain ⟨v,H',os,bare,un,hok',r',q⟩:=h;have q':v=.bl true:=q;subst q';obtain rfl:u=Value.bool true:=r';refine ⟨rfl,OldK.of_keep fun b o e=>?_,os,bare⟩;cases q:H b with
    | none=>exact un.keep b o e q (by intro z;exact absurd (show b ∈ ([]:List Addr) from z) (by simp)) (by simp)
    | some u=>
     rcases hO b with z | ⟨ob,xs,z⟩
     ·rw [q] at z;cases z
     ·have z2:=un.frzs b ob _ z;obtain ⟨e1,_⟩:=hok b _ z;obtain ⟨e2,_⟩:=hok' b _ z2;rw [e] at e1;cases e1;exact e2
 cases hk:K.lookup a with
 | some o=>
  have e:=KX a o hk;rw [ha] at e;cases e;refine core (fun _=>none) (fun _=>.inl rfl) (.inr ⟨_,vs.toArray,_,hk,rfl,rfl,rfl,by rw [size_toArray,lenV];exact hl,by simpa using rv⟩) (fun b u z=>by have z':(none:Option HO)=some u:=z;cases z') (fun b z=>absurd rfl z) fun z=>absurd rfl z
 | none=>
  refine core (fun b=>if b=a then some (.frz { cls:=.type "list",data:=.seq vs.toArray } (.lst (ns.map V.int))) else none) (fun b=>?_) (.inl (.inr ⟨{ cls:=.type "list",data:=.seq vs.toArray },if_pos rfl⟩)) (fun b u z=>?_) (fun b z=>?_) fun _=>hk
  ·by_cases hb:b=a
   ·exact .inr ⟨_,_,if_pos hb⟩
   ·exact .inl (if_neg hb)
  ·by_cases hb:b=a
   ·have z':=(if_pos hb).symm.trans z;cases z';subst hb;exact ⟨ha,by rw [length_map];exact hl,vs,_,rv,ha⟩
   ·have z':=(if_neg hb).symm.trans z;cases z'
  ·by_cases hb:b=a
   ·exact hb
   ·exact absurd (if_neg hb) z
end L2
namespace L2
open PySem PySem.Spec PyProof.Rows
noncomputable abbrev KOf {K:W.Frag} {h:Heap} (_:K.In h):W.Frag:=K
theorem AK {l:PySem.W.OpenLaw} {n k:Nat} {q:Program} {loose:List Str} {XP:(Str->Option Value)->Heap->Prop} {YP:World->Heap->Prop} {d:DefRec} {K:Params->W.Frag} {CX:World->CXT} {sp:World->Sp} {x:Str}
  (hn:l.most=some n) (hn2:n <= sizeLine) (hdf:d.params.defaults=[]) (hr:pj k callerA)
  (hY:∀ (w:World) (h:Heap),YP w h->(K w.params).In h)
  (F:∀ (w:World) (mg:Str->Option Value) (fa:Addr) (h:Heap),(K w.params).In h->h.Ns mainGlobals mg->mg d.name=some (.ref fa) ->
   ∃ fd:FuncData,(∀ (s:Shared) (u:Value),BindsTo s fd ⟨[u],[]⟩ [(x,u)]) /\
    ∀ base:Heap,(K w.params).In base->base.Ns mainGlobals mg->Ub l.prog w (K w.params) mg base (CX w) k fa fd [x] (sp w))
  (hsp:∀ (w:World) (H:Hp) (a:Addr) (ns:List Int),ns.length <= n->DM H->SqL (K w.params) H a (ns.map V.int)->sp w [.ref a] H (fun v _=>v=.bl true) fun _ _ _=>False)
  (hCX:∀ (w:World) (H:Hp) (s:Shared) (e:Value) (s':Shared),CX w [] H s (fun _ _ _=>False) e s'->False) :
  PySem.W.WalkO q loose XP YP l.row.toRowW d [] (fun f vs=>PySem.call f vs):=by
 refine Att.attach_call hn hdf fun w s₀ s₁ mg mb fa o pm cd doc a vs ns G Y ho hd hcd hmg hobj hints hlen hg=>?_
 have KX:=hY w _ Y;obtain ⟨fd,hb,hF⟩:=F w mg fa _ KX G.T.g hmg;exact FG KX G.T.g G.T.b G.T.builtins G.T.nolimit hg hobj hints (Nat.le_trans hlen hn2) hr hF hb (fun H hO hS=>hsp w H a ns hlen hO hS) fun H e s'=>hCX w H s₁ e s'
theorem MF {l:PySem.W.OpenLaw} {n k:Nat} {q:Program} {loose:List Str} {XP:(Str->Option Value)->Heap->Prop} {YP:World->Heap->Prop} {d:DefRec} {K:Params->W.Frag} {CX:CXT} {sp:W.Frag->Sp} {x:Str}
  (hn:l.most=some n) (hn2:n <= sizeLine) (hdf:d.params.defaults=[]) (hr:pj k callerA)
  (hY:∀ (w:World) (h:Heap),YP w h->(K w.params).In h)
  (F:∀ (w:World) (mg:Str->Option Value) (fa:Addr) (h:Heap),(K w.params).In h->h.Ns mainGlobals mg->mg d.name=some (.ref fa) ->
   ∃ fd:FuncData,(∀ (s:Shared) (u:Value),BindsTo s fd ⟨[u],[]⟩ [(x,u)]) /\
    ∀ base:Heap,(K w.params).In base->base.Ns mainGlobals mg->Ub l.prog w (K w.params) mg base CX k fa fd [x] (sp (K w.params)))
  (hsp:∀ (K:W.Frag) (H:Hp) (a:Addr) (ns:List Int),ns.length <= n->DM H->SqL K H a (ns.map V.int)->sp K [.ref a] H (fun v _=>v=.bl true) fun _ _ _=>False)
  (hCX:∀ (H:Hp) (s:Shared) (e:Value) (s':Shared),CX [] H s (fun _ _ _=>False) e s'->False) :
  PySem.W.WalkO q loose XP YP l.row.toRowW d [] (fun f vs=>PySem.call f vs):=
 AK (K:=K) (CX:=fun _=>CX) (sp:=fun w=>sp (K w.params)) hn hn2 hdf hr hY F (fun w H a ns h1 h2 h3=>hsp (K w.params) H a ns h1 h2 h3) fun _ H s e s'=>hCX H s e s'
end L2
namespace L2
open PySem PySem.Spec PyProof.Rows
noncomputable def Ed (s:Stmt) (j:Nat):Stmt:=match s with
 | .ClassDef _ _ _ body _ _ _ _ _ _ _=>body.getD j (.Pass ⟨0,0,0,0⟩)
 | _=>.Pass ⟨0,0,0,0⟩
noncomputable def xv (s:Stmt):Arguments:=match s with
 | .FunctionDef _ a _ _ _ _ _ _ _ _=>a
 | _=>{ posonlyargs:=[],args:=[],vararg:=none,kwonlyargs:=[],kw_defaults:=[],kwarg:=none,defaults:=[] }
noncomputable def bo (s:Stmt):List Stmt:=match s with
 | .FunctionDef _ _ b _ _ _ _ _ _ _=>b
 | _=>[]
noncomputable def pb (s:Stmt):Scope:=match s with
 | .FunctionDef _ _ _ _ _ _ sc _ _ _=>sc
 | _=>{ kind:=.function,names:=[],isGenerator:=false,isCoroutine:=false }
noncomputable abbrev CX0:CXT:=fun _ _ _ _ _ _=>False
noncomputable abbrev E0:XK:=fun _ _ _=>False
theorem Db {X:Cx}:Tl CX0 X E0:=fun _ _ _ _ _ _ _ h=>h.elim
structure Fun (K:W.Frag) (x qual:Str) (st:Stmt) (f:Addr) (fd:FuncData):Prop where
 ex:∃ (oc:Value) (od:Option Addr) (kV doc pm:Value) (an:Option Addr) (cdv ct:Value) (osl:Array (Option Value)),
  fd=PySem.W.fnOf x qual (xv st) (bo st) (pb st) .none kV doc pm an cdv ct/\K.lookup f=some ⟨oc,od,.func fd,osl⟩/\PySem.W.codeIn K cdv qual=true
 kp:PySem.W.keepIn K (.ref f)=true
section
variable {P:Program} {w:World} {K:W.Frag} {mg:Str->Option Value} {base:Heap}
theorem Fun.ok {x qual:Str} {st:Stmt} {f:Addr} {fd:FuncData} {N ps:List Str} {k:Nat} {sp:Sp} (F:Fun K x qual st f fd) (S:Hb N ps (pb st)) (len:∀ vs H Q E,sp vs H Q E->vs.length=ps.length)
  (hbody:∀ (cdv:Value) (A:Around) (outer:List Env) (s:Shared) (H:Hp) (vs:List V) (Q:VK) (E:XK),pj k (A.deeper (envOfC qual (pb st) s.heap.objs.size f cdv))->sp vs H Q E ->
   ∃ t,PSs (FE CX0 P w K mg base N qual (pb st) f cdv A outer s H E).nox (bo st) t/\t { nx:=fun _ H'=>Q .non H',rt:=Q } (start N vs) H):Ub P w K mg base CX0 (k + 1) f fd ps sp:=by
 obtain ⟨oc,od,kV,doc,pm,an,cdv,ct,osl,rfl,lk,hcd⟩:=F.ex;refine MM lk hcd S len fun A outer s H vs Q E hr hsp=>?_
 obtain ⟨t,h,q⟩:=hbody cdv A outer s H vs Q E hr hsp;exact ⟨t,h.nox,q⟩
theorem Fun.binds {x qual:Str} {st:Stmt} {f:Addr} {fd:FuncData} {ps:List Str} (F:Fun K x qual st f fd)
  (h:∀ (kV doc pm:Value) (an:Option Addr) (cdv ct:Value) (us:List Value),us.length=ps.length->bindArgs (PySem.W.fnOf x qual (xv st) (bo st) (pb st) .none kV doc pm an cdv ct) ⟨us,[]⟩=pure (ps.zip us)):vc K fd ps []:=by
 obtain ⟨oc,od,kV,doc,pm,an,cdv,ct,osl,rfl,lk,hcd⟩:=F.ex;exact .all (h kV doc pm an cdv ct)
theorem iL {x qual:Str} {st:Stmt} {f:Addr} {oc:Value} {od an:Option Addr} {osl:Array (Option Value)} {kV doc pm cdv ct:Value} (l:K.lookup f=some ⟨oc,od,.func (PySem.W.fnOf x qual (xv st) (bo st) (pb st) .none kV doc pm an cdv ct),osl⟩)
  (c:PySem.W.codeIn K cdv qual=true) (k:PySem.W.keepIn K (.ref f)=true):Fun K x qual st f (PySem.W.fnOf x qual (xv st) (bo st) (pb st) .none kV doc pm an cdv ct):=⟨⟨oc,od,kV,doc,pm,an,cdv,ct,osl,rfl,l,c⟩,k⟩
end
theorem jy {A:Around} {k:Nat} (hr:pj k A):A.units + 1 < cLine:=Nat.lt_of_le_of_lt (Nat.add_le_add_left (by decide:1 <= 64) _) hr.units
section
variable {X:Cx}
theorem pv (i:Nat) {x:Str} {pos:Pos} (hN:X.N[i]? = some x:=by rfl) (hv:Vis X.env.scope x:=by first | exact Or.inl rfl | exact Or.inr (Or.inl rfl) | exact Or.inr (Or.inr rfl)) (hd:(x == ("__debug__" : Str))=false:=by decide)
  (hcd:(x == ("__classdict__" : Str))=false:=by decide):PE X (.Name x pos) (zN i):=vL hN hv hd hcd
end
noncomputable def bc (H H':Hp):Prop:=∀ b o,H b=some o->H' b=some o
theorem bc.refl (H:Hp):bc H H:=fun _ _ h=>h
theorem bc.trans {H H1 H2:Hp} (a:bc H H1) (b:bc H1 H2):bc H H2:=fun c o h=>b c o (a c o h)
theorem bc.free {H H':Hp} (e:bc H H') {l:Addr} (h:H' l=Option.none):H l=Option.none:=by
 cases q:H l with
 | none=>rfl
 | some o=>
  rw [e l o q] at h;cases h
theorem bc.seq {K:W.Frag} {H H':Hp} {a:Addr} {xs:List V} (e:bc H H') (h:SqL K H a xs):SqL K H' a xs:=by
 rcases h with (h | ⟨o,h⟩) | h
 ·exact .inl (.inl (e _ _ h))
 ·exact .inl (.inr ⟨o,e _ _ h⟩)
 ·exact .inr h
section
variable {κ:Type} [DecidableEq κ]
end
end L2
set_option maxHeartbeats 4000000
namespace L2
open PySem PySem.Spec PyProof.Rows
noncomputable def Mv (cells:List (Str × Addr)):List (Str × NameKind)->List (Str × Addr)->List (Str × Addr)
 | [],acc=>acc
 | (n,k) :: r,acc=>if k == .free then (match cells.lookup n with | some c=>Mv cells r ((n,c) :: acc) | none=>Mv cells r acc) else Mv cells r acc
theorem qy {env:Env}:∀ (names:List (Str × NameKind)) (acc:List (Str × Addr)),(∀ y ∈ names,y.2=.free->∃ c,env.cells.lookup y.1=some c) ->
  (forIn names acc (fun (x:Str × NameKind) (cs:List (Str × Addr))=>(if (x.2 == .free)=true then do let a <- cellOf env x.1;pure (ForInStep.yield ((x.1,a) :: cs)) else pure (ForInStep.yield cs):Sem (ForInStep (List (Str × Addr))))))=pure (Mv env.cells names acc)
 | [],acc,_=>rfl
 | (n,k) :: r,acc,h=>by
  have hr:∀ y ∈ r,y.2=.free->∃ c,env.cells.lookup y.1=some c:=fun y hy=>h y (mem_cons_of_mem _ hy)
  rw [List.forIn_cons];by_cases hk:(k == NameKind.free)=true
  ·have e:k=.free:=by simpa using hk
   obtain ⟨c,hc⟩:=h (n,k) mem_cons_self e;have hc':env.cells.lookup n=some c:=hc;simp only [Mv,hk,if_true,hc',cellOf];exact qy r _ hr
  ·simp only [Mv,hk];exact qy r _ hr
theorem gE {scope:Scope} {env:Env} (h:∀ y ∈ scope.names,y.2=.free->∃ c,env.cells.lookup y.1=some c):closureFor scope env=pure (Mv env.cells scope.names []):=by
 unfold closureFor;exact congrArg (fun t=>t >>= pure) (qy scope.names [] h)
theorem cq {cells:List (Str × Addr)}:∀ (names:List (Str × NameKind)) (acc:List (Str × Addr)) {x:Str} {c:Addr},(Mv cells names acc).lookup x=some c->acc.lookup x=some c\/cells.lookup x=some c
 | [],acc,x,c,h=>.inl h
 | (n,k) :: r,acc,x,c,h=>by
  unfold Mv at h;split at h
  ·cases q:cells.lookup n with
   | none=>rw [q] at h;exact cq r acc h
   | some d=>
    rw [q] at h;rcases cq r _ h with z | z
    ·rw [lookup_cons] at z;by_cases hx:(x == n)=true
     ·rw [hx] at z;have e:x=n:=by simpa using hx
      subst e
      right;rw [q];exact z
     ·have hx':(x == n)=false:=by simpa using hx
      rw [hx'] at z;exact .inl z
    ·exact .inr z
  ·exact cq r acc h
theorem rn {cells:List (Str × Addr)}:∀ (names:List (Str × NameKind)) (acc:List (Str × Addr)) {x:Str} {c:Addr},acc.lookup x=some c->cells.lookup x=some c->(Mv cells names acc).lookup x=some c
 | [],acc,x,c,h,_=>h
 | (n,k) :: r,acc,x,c,h,hc=>by
  unfold Mv;split
  ·cases q:cells.lookup n with
   | none=>exact rn r acc h hc
   | some d=>
    refine rn r _ ?_ hc;rw [lookup_cons];by_cases hx:(x == n)=true
    ·have e:x=n:=by simpa using hx
     subst e;rw [hx];rw [q] at hc;exact hc
    ·have hx':(x == n)=false:=by simpa using hx
     rw [hx'];exact h
  ·exact rn r acc h hc
theorem Rm {cells:List (Str × Addr)}:∀ (names:List (Str × NameKind)) (acc:List (Str × Addr)) {x:Str} {c:Addr},(x,NameKind.free) ∈ names->cells.lookup x=some c->(Mv cells names acc).lookup x=some c
 | [],_,_,_,h,_=>nomatch h
 | (n,k) :: r,acc,x,c,h,hc=>by
  rcases List.mem_cons.mp h with e | h
  ·cases e;unfold Mv;rw [if_pos (by decide),hc];refine rn r _ ?_ hc;rw [lookup_cons];simp
  ·unfold Mv;split
   ·cases q:cells.lookup n with
    | none=>exact Rm r acc h hc
    | some d=>exact Rm r _ h hc
   ·exact Rm r acc h hc
theorem zo {α:Type}:∀ {l:List (Str × α)} {x:Str} {a:α},l.lookup x=some a->(x,a) ∈ l
 | [],_,_,h=>by simp at h
 | (n,b) :: r,x,a,h=>by
  rw [lookup_cons] at h;by_cases hx:(x == n)=true
  ·have e:x=n:=by simpa using hx
   subst e;rw [hx] at h;have e2:b=a:=Option.some.inj h;subst e2;exact mem_cons_self
  ·have hx':(x == n)=false:=by simpa using hx
   rw [hx'] at h;exact mem_cons_of_mem _ (zo h)
theorem Sx {env:Env} {scope:Scope} {x:Str} {k:NameKind} (h:(relabel scope env).names.lookup x=some k) (hk:k=.cell\/k=.free) (hc:∀ y ∈ scope.names,y.2 ≠ .cell):(x,NameKind.free) ∈ scope.names:=by
 have h1:=zo h;obtain ⟨⟨n,j⟩,hm,e⟩:=List.mem_map.mp h1;have e':(if (j == NameKind.free && env.scope.kind == .function && env.kindOf n == some .cell)=true then (n,NameKind.cell) else (n,j))=(x,k):=e;split at e'
 ·rename_i hcond;have e1:n=x:=(Prod.mk.inj e').1;subst e1;have hj:j=.free:=by
   simp only [Bool.and_eq_true] at hcond;simpa using hcond.1.1
  subst hj;exact hm
 ·have e1:n=x:=(Prod.mk.inj e').1;have e2:j=k:=(Prod.mk.inj e').2;subst e1;subst e2;rcases hk with z | z
  ·exact absurd z (hc _ hm)
  ·subst z;exact hm
theorem Cm {env:Env} {scope:Scope} {x:Str} (h:scope.names.lookup x=some .free):(relabel scope env).names.lookup x=some .cell\/(relabel scope env).names.lookup x=some .free:=by
 have all:∀ (names:List (Str × NameKind)),names.lookup x=some .free ->
   (names.map fun (n,k)=>if (k == NameKind.free && env.scope.kind == .function && env.kindOf n == some .cell) then (n,NameKind.cell) else (n,k)).lookup x=some .cell \/
   (names.map fun (n,k)=>if (k == NameKind.free && env.scope.kind == .function && env.kindOf n == some .cell) then (n,NameKind.cell) else (n,k)).lookup x=some .free:=by
  intro names
  induction names with
  | nil=>intro h;simp at h
  | cons p r ih=>
   obtain ⟨n,k⟩:=p;intro h;rw [map_cons];by_cases hx:(x == n)=true
   ·simp only [lookup_cons,hx] at h;have hk:k=.free:=Option.some.inj h;subst hk;by_cases hc:(NameKind.free == NameKind.free && env.scope.kind == .function && env.kindOf n == some .cell)=true
    ·left;simp only [if_pos hc,lookup_cons,hx]
    ·right;simp only [if_neg hc,lookup_cons,hx]
   ·have hx':(x == n)=false:=by simpa using hx
    simp only [lookup_cons,hx'] at h;by_cases hc:(k == NameKind.free && env.scope.kind == .function && env.kindOf n == some .cell)=true
    ·simp only [if_pos hc,lookup_cons,hx'];exact ih h
    ·simp only [if_neg hc,lookup_cons,hx'];exact ih h
 exact all scope.names h
noncomputable abbrev Cx.block (X:Cx) (scope:Scope) (C:Addr) (N:List Str) (s:Shared) (H:Hp) (fp:List Addr):Cx where
 prog:=X.prog
 w:=X.w
 K:=X.K
 mg:=X.mg
 base:=X.base
 A:=X.A
 N:=N
 s₀:=s
 H₀:=H
 env:=compEnvC scope (Mv X.env.cells scope.names []) C X.env
 outer:=X.stack
 stack:=X.stack
 ex:=fp
 fn:=fun _=>false
 calm:=X.calm
 pn:=[]
 xe:=fun _ _=>False
structure up (env:Env) (scope:Scope):Prop where
 kind:scope.kind=.function
 nocell:∀ y ∈ scope.names,y.2 ≠ .cell
 fr:∀ y ∈ scope.names,y.2=.free->env.kindOf y.1=some .cell\/env.kindOf y.1=some .free
 loc:∀ x ∈ scope.names,x.2=.local->scope.names.lookup x.1=some .local
noncomputable def blk (sel:List (Option Nat)) (σ:St):St:=sel.map fun o=>o.bind fun j=>(σ[j]?).join
noncomputable def ZD (M:List Str) (scope:Scope) (N:List Str) (sel:List (Option Nat)):Prop:=
 sel.length=N.length/\∀ (i j:Nat) (x:Str),sel[i]? = some (some j)->N[i]? = some x->M[j]? = some x/\scope.names.lookup x=some .free
section
variable {X:Cx} {pins:List (Addr × Obj)} {σ:St} {H:Hp} {s:Shared} {scope:Scope} {fp:List Addr} {C:Addr} {N:List Str}
theorem up.cells (S:up X.env scope) (ok:X.Ok):∀ y ∈ scope.names,y.2=.free->∃ c,X.env.cells.lookup y.1=some c:=fun y hy e=>ok.has y.1 (S.fr y hy e)
theorem ju {x:Str} {c:Addr} (h:(Mv X.env.cells scope.names []).lookup x=some c):X.env.cells.lookup x=some c:=by
 rcases cq _ _ h with z | z
 ·simp at z
 ·exact z
theorem Lz (I:Inv X pins σ H s) (S:up X.env scope) (hf:∀ b ∈ fp,Uw X pins H b) (hs:∀ b ∈ fp,b < s.heap.objs.size) (hC:s.heap.objs.size <= C):(X.block scope C N s H fp).Ok where
 mod:=I.ok.mod
 kind:=S.kind
 glob:=I.ok.glob
 blt:=I.ok.blt
 above:=hC
 inj:=fun x y c h1 h2=>I.ok.inj x y c (ju h1) (ju h2)
 has:=fun x h=>by
  have hk:∃ k,(relabel scope X.env).names.lookup x=some k/\(k=.cell\/k=.free):=by
   rcases h with h | h
   ·exact ⟨_,h,.inl rfl⟩
   ·exact ⟨_,h,.inr rfl⟩
  obtain ⟨k,h1,h2⟩:=hk;have hm:=Sx h1 h2 S.nocell;obtain ⟨c,hc⟩:=S.cells I.ok _ hm rfl;exact ⟨c,Rm _ _ hm hc⟩
 cab:=fun _ _ h _=>nomatch h
 hd:=I.ok.hd
 frames:=I.ok.frames
 stk:=.inl rfl
 exf:=fun b hb=>⟨Nat.ne_of_lt (Nat.lt_of_lt_of_le (hs b hb) hC),fun x c e=>(hf b hb).2.2.2.2.1 x c (ju e)⟩
 bs:=I.bs
 bsz:=Nat.le_trans I.ok.bsz I.sz
 noex:=fun b o e hb=>by
  rcases (hf b hb).2.2.2.1 with z | z
  ·exact I.ok.noex b o e z
  ·exact absurd (Nat.lt_of_lt_of_le (Nat.lt_of_lt_of_le (Heap.lt_size e) I.ok.bsz) z) (Nat.lt_irrefl _)
 exfs:=fun b hb hz=>by
  rcases List.mem_cons.mp (I.stkSub b hz) with z | z
  ·exact (hf b hb).2.1 z
  ·exact (hf b hb).2.2.1 z
 funs:=I.stack
 frf:=I.stkFree
theorem YE {h':Heap} {t':Nat} {m:Str->Option Value} {sel:List (Option Nat)} (I:Inv X pins σ H s) (S:up X.env scope) (hf:∀ b ∈ fp,Uw X pins H b) (hs:∀ b ∈ fp,b < s.heap.objs.size) (hC:s.heap.objs.size <= C)
  (k:∀ b o,s.heap.get? b=some o->h'.get? b=some o) (hn:h'.Ns C m) (hsel:ZD X.N scope N sel):Inv (X.block scope C N s H fp) [] (blk sel σ) H { s with heap:=h',toks:=t' } where
 ok:=Lz I S hf hs hC
 os:=rfl
 bare:=I.bare
 base:=Un.kept k
 loc:=by
  refine ⟨m,hn,fun i x v e1 e2 e3=>?_⟩;obtain ⟨m0,hn0,hl⟩:=I.loc;obtain ⟨j,ej,eσ⟩:∃ j,sel[i]? = some (some j)/\σ[j]? = some (some v):=by
   unfold blk at e2;rw [getElem?_map] at e2;cases q:sel[i]? with
   | none=>rw [q] at e2;cases e2
   | some o=>
    rw [q] at e2;cases o with
    | none=>cases e2
    | some j=>
     refine ⟨j,rfl,?_⟩;have e2':(σ[j]?).join=some v:=Option.some.inj e2;cases r:σ[j]? with
     | none=>rw [r] at e2';cases e2'
     | some z=>rw [r] at e2';exact congrArg some e2'
  obtain ⟨eN,hfr⟩:=hsel.2 i j x ej e1;have hm:=zo hfr;have hk:=S.fr _ hm rfl;have hv:Vis X.env.scope x:=hk.elim (fun z=>.inr (.inl z)) fun z=>.inr (.inr z)
  obtain ⟨u,r,l⟩:=hl j x v eN eσ hv;refine ⟨u,r,?_⟩;rcases l with ⟨hloc,_⟩ | ⟨_,c,hc,hcell⟩
  ·rcases hk with z | z <;> (have z':X.env.kindOf x=_:=z;rw [hloc] at z';cases z')
  ·refine .inr ⟨?_,c,Rm _ _ hm hc,?_⟩
   ·exact Cm hfr
   ·obtain ⟨o,ho,hd⟩:=hcell;exact ⟨o,k _ _ ho,hd⟩
 cell:=fun x c e=>by
  obtain ⟨v,o,ho,hd⟩:=I.cell x c (ju e);exact ⟨v,o,k _ _ ho,hd⟩
 free:=I.hok.fresh hC
 freeC:=fun x c e=>I.freeC x c (ju e)
 pin:=fun p hp=>nomatch hp
 hok:=I.hok.kept k
 len:=by unfold blk;rw [length_map];exact hsel.1
theorem Inv.adopt {a:Addr} {o:HO} (I:Inv X pins σ H s) (fo:Uw X pins H a) (new:vd X.prog X.w (upd H a o) s.heap a o):Inv X pins σ (upd H a o) s:=by
 obtain ⟨hn,hL,hfs,hex,hcl,hpn⟩:=fo;refine I.step (g':=s.gens) (d':=s.drawn) (t':=s.toks) (h':=s.heap) (ch:=[a]) (fun b hb=>?_) (fun b o _ _ _ e _=>e) (fun b o _ _ _ e _=>⟨o.slots,e⟩) (fun b o hb e n=>?_) (fun b o _ e=>⟨o,e⟩)
  (fun b xs e=>?_) (fun b o u e=>?_) (fun b ps e=>⟨#[],?_⟩) (fun m hm=>hm) (fun b u e=>?_) I.bare
 ·have e:b=a:=by simpa using hb
  subst e;exact ⟨hex,hL,hcl,hpn⟩
 ·rw [zb (fun z=>hb (by simp [z]))];exact n
 ·rw [zb (Kb e hn)];exact e
 ·rw [zb (Kb e hn)];exact e
 ·rw [zb (Kb e hn),e];simp
 ·by_cases hb:b=a
  ·subst hb;rw [gb] at e;cases e;exact new
  ·rw [zb hb] at e;exact (I.hok b u e).stay (fun c v _ q=>q) (fun c q=>by rw [zb (Kb q hn)];exact q) fun c xs q=>by rw [zb (Kb q hn)];exact q
end
theorem Ml {prog:Program} {w:World} {A:Around} {R:Result->Shared->Prop} {s:Shared} {elt target iter:Expr} {ifs:List Expr} {scope:Scope} {pos:Pos} {it acc:Value} {env:Env} (I:Nat->Shared->Prop)
  (turn:∀ n s,I n s->wpAny (model prog w) A (pyNext it) (fun r s₁=>match r with
   | none=>R (.ok .next) s₁
   | some v=>wpAny (model prog w) A (letOwnedTupleGo target it v) (fun _ s₀=>wpAny (model prog w) A (assign target env v) (fun _ s₂=>
     wpAny (model prog w) A (forIn ifs true fun c r=>if r=true then do let ok <- isTrue c env (eval c env);pure (ForInStep.yield ok) else pure (ForInStep.yield r)) (fun ok s₃=>
      if ok=true then wpAny (model prog w) A (eval elt env) (fun x s₄=>
       wpAny (model prog w) A (call (.builtin "list.append") [acc,x]) (fun _ s₅=>∃ m,m < n/\I m s₅) (fun _ _=>False) s₄) (fun _ _=>False) s₃
      else ∃ m,m < n/\I m s₃) (fun _ _=>False) s₂) (fun _ _=>False) s₀) (fun _ _=>False) s₁) (fun _ _=>False) s)
  (n:Nat) (h:I n s) :
  codeAny (model prog w) A (.compLoop (.ListComp elt [⟨target,iter,ifs,0⟩] scope pos) 0 it acc env) R s:=by
 refine codeAny_loop rfl I (fun n s hI=>?_) n h;show wpAny _ A ((compTurn (.ListComp elt [⟨target,iter,ifs,0⟩] scope pos) 0 it acc env).onRaise (fun x=>do noteFrame x env;theTreesLotGoes x)) _ _ s;refine wpAny_noted (wpAny_noRaise ?_);rw [compTurn_list];refine wpAny_bind (wpAny_standAt (wpAny_bind (wpAny_mono (turn n s hI) (fun r s₁ h₁=>?_) fun _ _ h'=>h')));cases r with
 | none=>exact wpAny_pure h₁
 | some v=>
  refine wpAny_bind (wpAny_mono h₁ (fun _ s₀ h₀=>?_) fun _ _ h'=>h');refine wpAny_bind (wpAny_mono h₀ (fun _ s₂ h₂=>wpAny_bind (wpAny_mono h₂ (fun ok s₃ h₃=>?_) fun _ _ h'=>h')) fun _ _ h'=>h');cases ok with
  | false=>exact wpAny_pure ⟨rfl,h₃⟩
  | true=>
   exact wpAny_bind (wpAny_bind (wpAny_mono h₃ (fun x s₄ h₄=>wpAny_bind (wpAny_mono h₄ (fun _ s₅ h₅=>wpAny_pure (wpAny_pure ⟨rfl,h₅⟩)) fun _ _ h'=>h')) fun _ _ h'=>h'))
noncomputable def PTs (X:Cx) (ifs:List Expr) (t:TT):Prop:=
 ∀ (pins:List (Addr × Obj)) (s:Shared) (σ:St) (H:Hp) (Q:Bool->Hp->Prop),Inv X pins σ H s->t σ H Q ->
  wpAny (model X.prog X.w) X.A (forIn ifs true fun c r=>if r=true then do let ok <- isTrue c X.env (eval c X.env);pure (ForInStep.yield ok) else pure (ForInStep.yield r)) (TP X pins σ Q) X.xe s
noncomputable def Oy:TT:=fun _ H Q=>Q true H
theorem Fd {X:Cx}:PTs X [] Oy:=fun _ _ _ H _ I h=>wpAny_tests_nil ⟨H,I,h⟩
theorem Gq {X:Cx} {c:Expr} {t:TT} (h:PT X c t):PTs X [c] t:=fun pins s σ H Q I q=>wpAny_tests_one (h pins s σ H Q I q)
noncomputable def Sub (σ σ':St):Prop:=σ'.length=σ.length/\∀ (i:Nat) (v:V),σ[i]? = some (some v)->σ'[i]? = some (some v)
theorem Sub.refl (σ:St):Sub σ σ:=⟨rfl,fun _ _ h=>h⟩
theorem Sub.set {σ σ':St} {i:Nat} {x:Option V} (h:Sub σ σ') (e:σ[i]? = some none):Sub σ (σ'.set i x):=by
 refine ⟨by rw [length_set];exact h.1,fun j v q=>?_⟩;have hj:i ≠ j:=fun z=>by subst z;rw [e] at q;cases q
 rw [getElem?_set_ne hj];exact h.2 j v q
noncomputable def vy (J:It) (g:TG) (tc:TT) (te:TE) (σb:St) (Q:VK) (W:Nat->Nat->List V->Hp->Prop):Prop:=∀ i m ys H,W i m ys H ->
 (J.stop i H/\∀ p,H p=none->Q (.ref p) (upd H p (.lst ys))) \/
 (J.go i H/\ys.length < sizeLine/\∀ x H',J.yld i H x H'->g x σb H' fun σ2 H2=>Sub σb σ2/\tc σ2 H2 fun c H3=>if c=true then te σ2 H3 fun y H4=>∃ m',m' < m/\W (i + 1) m' (ys ++ [y]) H4 else ∃ m',m' < m/\W (i + 1) m' ys H3)
noncomputable def CI (wi:TI) (g:TG) (tc:TT) (te:TE) (sel:List (Option Nat)):TE:=fun σ H Q=>wi σ H fun J H1=>∃ W:Nat->Nat->List V->Hp->Prop,(∃ m,W 0 m [] H1)/\vy J g tc te (blk sel σ) Q W
section
variable {X:Cx} {elt tg iter:Expr} {ifs:List Expr} {scope:Scope} {pos:Pos} {wi:TI} {g:TG} {tc:TT} {te:TE} {N:List Str} {sel:List (Option Nat)}
structure Blk (X:Cx) (scope:Scope) (N:List Str) (tg elt:Expr) (ifs:List Expr) (g:TG) (tc:TT) (te:TE):Prop where
 tgt:∀ C s H fp,PG (X.block scope C N s H fp) tg g
 tests:∀ C s H fp,PTs (X.block scope C N s H fp) ifs tc
 elem:∀ C s H fp,PE (X.block scope C N s H fp) elt te
theorem Blk.of {X:Cx} {scope:Scope} {N:List Str} {tg elt:Expr} {ifs:List Expr} {g:TG} {tc:TT} {te:TE} (h1:∀ C s H fp,PG (X.block scope C N s H fp) tg g)
  (h2:∀ C s H fp,∃ t,PTs (X.block scope C N s H fp) ifs t/\t=tc) (h3:∀ C s H fp,∃ t,PE (X.block scope C N s H fp) elt t/\t=te):Blk X scope N tg elt ifs g tc te:=
 ⟨h1,fun C s H fp=>by obtain ⟨t,h,rfl⟩:=h2 C s H fp;exact h,fun C s H fp=>by obtain ⟨t,h,rfl⟩:=h3 C s H fp;exact h⟩
theorem vx {pins:List (Addr × Obj)} {s₂:Shared} {σ:St} {H₂:Hp} {Q:VK} {it:Addr} {fp:List Addr} {tn:Nat->Heap->Prop} {J:It} {W:Nat->Nat->List V->Hp->Prop} {E:Value->Shared->Prop} {RR:Value->Addr->Result->Shared->Prop}
  (hc:X.calm=true) (S:up X.env scope) (hsel:ZD X.N scope N sel) (B:Blk X scope N tg elt ifs g tc te) (I2:Inv X pins σ H₂ s₂) (T:wJ X.prog X.w X.K tg J fp it tn) (st2:tn 0 s₂.heap) (f2:∀ b ∈ fp,Uw X pins H₂ b)
  (w0:∃ m,W 0 m [] H₂) (hW:vy J g tc te (blk sel σ) Q W)
  (fin:∀ D C ys H' s',Inv X pins σ (upd H' D (.lst ys)) s'->(∃ m,s'.heap.Ns C m)->Uw X pins (upd H' D (.lst ys)) C->Q (.ref D) (upd H' D (.lst ys))->RR (.ref D) C (.ok .next) s') :
  wpAny (model X.prog X.w) X.A (newList []) (fun acc s₃=>wpAny (model X.prog X.w) X.A (newFunctionEnv scope X.env.globals (Mv X.env.cells scope.names []) [] X.env.qual none .none (some X.env)) (fun cenv s₄=>
   codeAny (model X.prog X.w) X.A (.compStart (.ListComp elt [⟨tg,iter,ifs,0⟩] scope pos) 0 (.ref it) acc { cenv with scope:=relabel scope X.env }) (RR acc cenv.locals) s₄) E s₃) E s₂:=by
 refine wpAny_newObj_type (wpAny_newFunctionEnv S.nocell (by intro y hy;simp at hy) (fun h₁ hns₁ hsb₁=>?_) S.kind);dsimp only at hns₁ hsb₁ ⊢;generalize hH2:s₂.heap.push { cls:=.type "list",dict:=none,data:=.seq ([]:List Value).toArray }=H2 at hns₁ hsb₁ ⊢;have hC:H2.objs.size=s₂.heap.objs.size + 1:=by rw [<- hH2,Heap.size_push]
 have hDC:s₂.heap.objs.size ≠ H2.objs.size:=by rw [hC];exact Nat.ne_of_lt (Nat.lt_succ_self _)
 have hCle:s₂.heap.objs.size <= H2.objs.size:=by rw [hC];exact Nat.le_succ _
 have below:∀ b,b < s₂.heap.objs.size->b ≠ H2.objs.size/\b ≠ s₂.heap.objs.size:=fun b hb=>⟨by rw [hC];exact Nat.ne_of_lt (Nat.lt_succ_of_lt hb),Nat.ne_of_lt hb⟩
 have old:∀ b o,s₂.heap.get? b=some o->h₁.get? b=some o:=fun b o e=>hsb₁.extBut b o (below b (Heap.lt_size e)).1 (Heap.get?_push_of_some _ (hH2 ▸ Heap.get?_push_of_some _ e))
 have hacc:h₁.get? s₂.heap.objs.size=some { cls:=.type "list",data:=.seq ([]:List Value).toArray }:=hsb₁.extBut _ _ hDC (Heap.get?_push_of_some _ (hH2 ▸ Heap.get?_push_size _ rfl));have fps:∀ b ∈ fp,b < s₂.heap.objs.size:=fun b hb=>by
  obtain ⟨o,e,_⟩:=T.obj _ _ st2 b hb;exact Heap.lt_size e
 generalize hCe:H2.objs.size=C at *;generalize hDe:s₂.heap.objs.size=D at *;have st1:tn 0 h₁:=T.keep _ _ _ st2 fun b _ o e=>old b o e
 have IB0:Inv (X.block scope C N s₂ H₂ fp) [] (blk sel σ) H₂ { s₂ with heap:=h₁,toks:=s₂.toks + ([]:List (Str × Value)).length }:=
  YE I2 S f2 (fun b hb=>by rw [hDe];exact fps b hb) (by rw [hDe];exact hCle) old hns₁ hsel
 have hDfs:D ∉ (X.block scope C N s₂ H₂ fp).fs:=fun z=>by
  have z':=I2.stkSub D z;rcases List.mem_cons.mp z' with e | e
  ·exact absurd I2.lt (by rw [<- e,hDe];exact Nat.lt_irrefl _)
  ·exact I2.nofs (by rw [hDe];exact Nat.le_refl _) e
 have loop:∀ s₃:Shared,s₃ = { s₂ with heap:=h₁,toks:=s₂.toks + ([]:List (Str × Value)).length } ->
   codeAny (model X.prog X.w) X.A (.compLoop (.ListComp elt [⟨tg,iter,ifs,0⟩] scope pos) 0 (.ref it) (.ref D) (compEnvC scope (Mv X.env.cells scope.names []) C X.env)) (RR (.ref D) C) s₃:=by
  rintro s₃ rfl;obtain ⟨m0,w0⟩:=w0;refine Ml (fun k s'=>∃ i ys us n H',Inv (X.block scope C N s₂ H₂ fp) [(D,{ cls:=.type "list",data:=.seq us n })] (blk sel σ) H' s'/\(∃ vs:List Value,us=vs.toArray/\Sd ys vs)/\ys.length <= sizeLine/\tn i s'.heap/\(∀ b ∈ fp,H' b=none)/\W i k ys H') ?_ m0
   ⟨0,[],_,0,H₂,IB0.pins_of fun p hp=>?_,⟨[],rfl,.nil⟩,Nat.zero_le _,st1,fun b hb=>(f2 b hb).1,w0⟩
  ·rintro k s' ⟨i,ys,us,n,H',IB,⟨vs,rfl,rv⟩,hyz,st,fr,w⟩;have fpB:∀ {pl:List (Addr × Obj)} {H'':Hp},(∀ p ∈ pl,p.1=D)->(∀ b ∈ fp,H'' b=none)->∀ b ∈ fp,Uw (X.block scope C N s₂ H₂ fp) pl H'' b:=fun {pl H''} hp hn b hb=>
    ⟨hn b hb,(below b (fps b hb)).1,(Lz (N:=N) (C:=C) I2 S f2 (fun b hb=>by rw [hDe];exact fps b hb) (by rw [hDe];exact hCle)).exfs b hb,.inl hb,fun x c e=>(f2 b hb).2.2.2.2.1 x c (ju e),fun p hpp z=>by
     have hpp':p ∈ pl:=by simpa using hpp
     exact (below b (fps b hb)).2 (by rw [<- z];exact hp p hpp')⟩
   have hD1:∀ p ∈ [((D,{ cls:=.type "list",data:=.seq vs.toArray n }):Addr × Obj)],p.1=D:=fun p hp=>by
    have e:p=(D,{ cls:=.type "list",data:=.seq vs.toArray n }):=by simpa using hp
    rw [e]
   rcases hW i k ys H' w with ⟨stop,qn⟩ | ⟨go,hlen,step⟩
   ·refine thn (T.done (X.block scope C N s₂ H₂ fp) rfl rfl rfl hc i _ s' _ H' _ IB (fpB hD1 fr) st stop) fun r s4 hZ1=>?_
    obtain ⟨hr,I4⟩:=hZ1;subst hr;have pD:=I4.pin (D,{ cls:=.type "list",data:=.seq vs.toArray n }) (by simp);have hDn:H' D=none:=pD.2.1;have IX:Inv X pins σ H' s4:=I2.call' (ch:=fp) I4.os I4.base I4.hok I4.bare fun b hb=>⟨(f2 b hb).2.2.2.1,(f2 b hb).2.1,(f2 b hb).2.2.2.2.1,(f2 b hb).2.2.2.2.2⟩
    have foD:Uw X pins H' D:=I2.fpOk (by rw [hDe];exact Nat.le_refl _) hDn;have IA:Inv X pins σ (upd H' D (.lst ys)) s4:=IX.adopt foD ⟨hyz,vs,n,rv,pD.1⟩;obtain ⟨mC,hnC,_⟩:=I4.loc;refine fin D C ys H' s4 IA ⟨mC,hnC⟩ (I2.fpOk (by rw [hDe];exact hCle) ?_) (qn D hDn);rw [zb (Ne.symm hDC)];exact I4.free
   ·refine thn (T.item (X.block scope C N s₂ H₂ fp) rfl rfl rfl hc i _ s' _ H' _ IB (fpB hD1 fr) st go) fun r s4 hZ1=>?_
    obtain ⟨u,hr,h4⟩:=hZ1;subst hr;refine thn h4 fun _ s5 hZ1=>?_
    obtain ⟨x,H5,I5,r5,y5,st5,fr5⟩:=hZ1;have I5':=I5.pinned (fpB hD1 fr5) (T.obj _ _ st5);refine thn (B.tgt C s₂ H₂ fp _ s5 _ H5 x u _ I5' r5 (step x H5 y5)) fun _ s6 hZ1=>?_
    obtain ⟨σ6,H6,I6,sb,q6⟩:=hZ1;refine thn (B.tests C s₂ H₂ fp _ s6 σ6 H6 _ I6 q6) fun c s7 hZ1=>?_
    obtain ⟨H7,I7,q7⟩:=hZ1;have again:∀ {σ8:St} {H8:Hp} {s8:Shared},Inv (X.block scope C N s₂ H₂ fp) ([(D,{ cls:=.type "list",data:=.seq vs.toArray n })] ++ vw fp s5.heap) σ8 H8 s8->tn (i + 1) s8.heap/\(∀ b ∈ fp,H8 b=none):=fun {σ8 H8 s8} I8=>by
     refine ⟨T.keep _ _ _ st5 fun b hb o e=>(I8.pin (b,o) (mem_append_right _ (mem_append_right _ (Al hb e)))).1,fun b hb=>?_⟩;obtain ⟨o,e,d⟩:=T.obj _ _ st5 b hb;exact (I8.pin (b,o) (mem_append_right _ (mem_append_right _ (Al hb e)))).2.1
    have back:∀ {H8:Hp} {s8:Shared} {pl:List (Addr × Obj)},Inv (X.block scope C N s₂ H₂ fp) pl σ6 H8 s8->Inv (X.block scope C N s₂ H₂ fp) pl (blk sel σ) H8 s8:=fun {H8 s8 pl} I8=>I8.weak sb.1.symm sb.2
    cases c with
    | false=>
     obtain ⟨m',hm,w'⟩:=q7;obtain ⟨t1,t2⟩:=again I7;exact ⟨m',hm,i + 1,ys,_,n,H7,back I7.unpinned,⟨vs,rfl,rv⟩,hyz,t1,t2,w'⟩
    | true=>
     refine thn (B.elem C s₂ H₂ fp _ s7 σ6 H7 _ I7 q7) fun v s8 hZ1=>?_
     obtain ⟨y,H8,I8,r8,m',hm,w'⟩:=hZ1;obtain ⟨t1,t2⟩:=again I8;have pD:=I8.pin (D,{ cls:=.type "list",data:=.seq vs.toArray n }) (by simp);refine append_at (hsz:=by have:=rv.length;rw [size_toArray];omega) pD.1 fun h9 hs9 hD9=>?_
     have IB':Inv (X.block scope C N s₂ H₂ fp) [] (blk sel σ) H8 s8:=(back I8).pins_of fun p hp=>nomatch hp
     have foD:Uw (X.block scope C N s₂ H₂ fp) [] H8 D:=⟨pD.2.1,hDC,hDfs,.inr (by show s₂.heap.objs.size <= D;rw [hDe];exact Nat.le_refl _),(fun x c e z=>by
      obtain ⟨cv,o,ho,hd⟩:=I8.cell x c e;rw [z,pD.1] at ho;cases ho;cases hd),(fun p hp=>nomatch hp)⟩
     have I9:Inv (X.block scope C N s₂ H₂ fp) [] (blk sel σ) H8 { s8 with heap:=h9 }:=IB'.turned (t':=s8.toks) (it:=D) (fun b o hb e=>(hs9.2 b hb).trans e) foD.1 foD.2.1 foD.2.2.2.1 foD.2.2.2.2.1 foD.2.2.2.2.2;refine ⟨m',hm,i + 1,ys ++ [y],vs.toArray.push v,n + 1,H8,I9.pins_of fun p hp=>?_,⟨vs ++ [v],by simp,Paired.snoc rv r8⟩,by rw [length_append,List.length_singleton];omega,T.keep _ _ _ t1 fun b hb o e=>(hs9.2 b (below b (fps b hb)).2).trans e,t2,w'⟩;have e:p=(D,{ cls:=.type "list",data:=.seq (vs.toArray.push v) (n + 1) }):=by simpa using hp
     subst e;exact ⟨hD9,pD.2.1,hDC,hDfs,fun v z=>by cases z⟩
  ·have e:p=(D,{ cls:=.type "list",data:=.seq ([]:List Value).toArray }):=by simpa using hp
   subst e;exact ⟨hacc,I2.hok.fresh (by rw [hDe];exact Nat.le_refl _),hDC,hDfs,fun v z=>by cases z⟩
 exact codeAny_compStart_list (loop _ rfl) (T.self _ 0 _ _ _ st1 (loop _ rfl))
theorem Qd (hc:X.calm=true) (hi:PI X tg iter wi) (S:up X.env scope) (hsel:ZD X.N scope N sel) (B:Blk X scope N tg elt ifs g tc te)
  (hs:∀ x,foldedSetIterable iter X.env x=pure x:=by intro _;rfl):PE X (.ListComp elt [⟨tg,iter,ifs,0⟩] scope pos) (CI wi g tc te sel):=by
 intro pins s σ H Q I h;rw [eval_ListComp];refine wpAny_comprehension_free (use:=none) rfl hs (gE (S.cells I.ok)) S.kind S.loc ?_;refine thn (hi pins s σ H _ I h) fun v s1 h1=>thn h1 fun itv s2 h2=>?_
 obtain ⟨it,fp,tn,J,H2,e,I2,T,st2,f2,W,w0,hW⟩:=h2;subst e;refine vx (RR:=fun acc C=>compPost (model X.prog X.w) X.A X.xe none (EP X pins σ Q) acc C) hc S hsel B I2 T st2 f2 w0 hW fun D C ys H' s' I' ⟨m,hm⟩ fo q=>?_
 exact ⟨m,hm,fun h' hsb=>⟨.ref D,_,I'.turned (t':=s'.toks) (it:=C) (fun b o hb e=>(hsb.2 b hb).trans e) fo.1 fo.2.1 fo.2.2.2.1 fo.2.2.2.2.1 fo.2.2.2.2.2,rfl,q⟩⟩
theorem uh {i:Nat} {y:Str} {py spos:Pos} (hN:X.N.Nodup) (hi:X.N[i]? = some y) (hx:Loc X.env.scope y) (hc:X.calm=true) (hit:PI X tg iter wi) (S:up X.env scope) (hsel:ZD X.N scope N sel) (B:Blk X scope N tg elt ifs g tc te)
  (hsw:swapsWith (.ListComp elt [⟨tg,iter,ifs,0⟩] scope pos) (some (.Name y py)) spos.line X.env=pure true) (hf:X.fn y=true\/X.env.scope.names.lookup y=some .local:=by first | exact .inl rfl | exact .inr rfl | assumption)
  (hs:∀ x,foldedSetIterable iter X.env x=pure x:=by intro _;rfl):PS X (.Assign [.Name y py] (.ListComp elt [⟨tg,iter,ifs,0⟩] scope pos) spos) (QM (CI wi g tc te sel) (Kw i)):=by
 intro pins s σ H D I h;rw [exec_Assign_Name_used _ _ _ _ hsw];refine wpAny_bind (wpAny_standAt (wpAny_bind ?_));show wpAny _ X.A (do let _ <- comprehension (.ListComp elt [⟨tg,iter,ifs,0⟩] scope pos) scope X.env _ (newList []) false (eval iter X.env) (some (assign (.Name y py) X.env))) _ _ s;refine wpAny_bind (wpAny_mono (wpAny_comprehension_free (use:=some (assign (.Name y py) X.env)) (Q:=fun _ s'=>SP X pins D .next s') rfl hs (gE (S.cells I.ok)) S.kind S.loc ?_) (fun _ s' hq=>wpAny_pure (wpAny_pure hq)) fun _ _ e=>e);refine thn (hit pins s σ H _ I h) fun v s1 h1=>thn h1 fun itv s2 h2=>?_
 obtain ⟨it,fp,tn,J,H2,e,I2,T,st2,f2,W,w0,hW⟩:=h2;subst e;refine vx (RR:=fun acc C=>compPost (model X.prog X.w) X.A X.xe (some (assign (.Name y py) X.env)) (fun _ s'=>SP X pins D .next s') acc C) hc S hsel B I2 T st2 f2 w0 hW fun Da C ys H' s' I' ⟨m,hm⟩ fo q=>?_
 show wpAny _ X.A (assign (.Name y py) X.env (.ref Da)) _ _ _;refine wpAny_assign_Name (fw I' hN hi hx (show Td (.ref Da) (.ref Da) from rfl) (fun s3 I3 hZ1=>?_) hf);obtain ⟨a,hsb,ha⟩:=hZ1;have hCa:C ≠ a:=by
  rcases ha with z | z
  ·rw [z];exact fo.2.1
  ·exact fun w=>fo.2.2.2.2.1 y a z w.symm
 refine ⟨m,hm.sameBut hsb hCa,fun h' hsb'=>⟨_,_,I3.turned (t':=s3.toks) (it:=C) (fun b o hb e=>(hsb'.2 b hb).trans e) fo.1 fo.2.1 fo.2.2.2.1 fo.2.2.2.2.1 fo.2.2.2.2.2,q⟩⟩
end
noncomputable def nh (Pv:Nat->List V->Hp->Prop) (g:TG) (tc:TT) (te:TE) (σb:St) (i:Nat) (x:V) (ys:List V) (H:Hp):Prop:=
 ∀ N:List V->Hp->Prop,(∀ ys' H',Pv (i + 1) ys' H'->N ys' H')->g x σb H fun σ2 H2=>Sub σb σ2/\tc σ2 H2 fun c H3=>if c=true then te σ2 H3 fun y H4=>N (ys ++ [y]) H4 else N ys H3
theorem EE {K:W.Frag} {a:Addr} {xs:List V} {g:TG} {tc:TT} {te:TE} {σb:St} {Q:VK} {H:Hp} (Pv:Nat->List V->Hp->Prop) (hz:xs.length <= sizeLine) (h0:Pv 0 [] H) (hl:∀ i ys H,i <= xs.length->Pv i ys H->SqL K H a xs/\ys.length <= i)
  (hs:∀ i x ys H,xs[i]? = some x->Pv i ys H->nh Pv g tc te σb i x ys H) (hd:∀ ys H,Pv xs.length ys H->∀ p,H p=none->Q (.ref p) (upd H p (.lst ys))) :
  ∃ W:Nat->Nat->List V->Hp->Prop,(∃ m,W 0 m [] H)/\vy (Itl K a) g tc te σb Q W:=by
 refine ⟨fun i m ys H=>m=xs.length - i/\i <= xs.length/\Pv i ys H,⟨xs.length,by simp,Nat.zero_le _,h0⟩,?_⟩;rintro i m ys H ⟨rfl,hi,p⟩;have q:=(hl i ys H hi p).1;have hyl:=(hl i ys H hi p).2;by_cases hlt:i < xs.length
 ·refine .inr ⟨⟨xs,xs[i],q,by simp [hlt]⟩,by omega,fun x H' y=>?_⟩;obtain ⟨e,y⟩:=y;subst e;exact hs i x ys _ (y xs q) p (fun ys' H'=>∃ m',m' < xs.length - i/\m'=xs.length - (i + 1)/\i + 1 <= xs.length/\Pv (i + 1) ys' H') fun ys' H' r=>⟨xs.length - (i + 1),by omega,rfl,hlt,r⟩
 ·have e:i=xs.length:=by omega
  subst e;exact .inl ⟨⟨xs,q,Nat.le_refl _⟩,hd ys H p⟩
theorem sF {K:W.Frag} {a:Addr} {xs:List V} {g:TG} {tc:TT} {te:TE} {σb:St} {Q:VK} {H:Hp} (Pv:Nat->List V->Hp->Prop) (hz:xs.length <= sizeLine) (h0:Pv 0 [] H) (hl:∀ i ys H,i <= xs.length->Pv i ys H->SqT K H a xs/\ys.length <= i)
  (hs:∀ i x ys H,xs[i]? = some x->Pv i ys H->nh Pv g tc te σb i x ys H) (hd:∀ ys H,Pv xs.length ys H->∀ p,H p=none->Q (.ref p) (upd H p (.lst ys))) :
  ∃ W:Nat->Nat->List V->Hp->Prop,(∃ m,W 0 m [] H)/\vy (Itt K a) g tc te σb Q W:=by
 refine ⟨fun i m ys H=>m=xs.length - i/\i <= xs.length/\Pv i ys H,⟨xs.length,by simp,Nat.zero_le _,h0⟩,?_⟩;rintro i m ys H ⟨rfl,hi,p⟩;have q:=(hl i ys H hi p).1;have hyl:=(hl i ys H hi p).2;by_cases hlt:i < xs.length
 ·refine .inr ⟨⟨xs,xs[i],q,by simp [hlt]⟩,by omega,fun x H' y=>?_⟩;obtain ⟨e,y⟩:=y;subst e;exact hs i x ys _ (y xs q) p (fun ys' H'=>∃ m',m' < xs.length - i/\m'=xs.length - (i + 1)/\i + 1 <= xs.length/\Pv (i + 1) ys' H') fun ys' H' r=>⟨xs.length - (i + 1),by omega,rfl,hlt,r⟩
 ·have e:i=xs.length:=by omega
  subst e;exact .inl ⟨⟨xs,q,Nat.le_refl _⟩,hd ys H p⟩
theorem zB {lo:Int} {n:Nat} {g:TG} {tc:TT} {te:TE} {σb:St} {Q:VK} {H:Hp} (Pv:Nat->List V->Hp->Prop) (hz:n <= sizeLine) (h0:Pv 0 [] H) (hl:∀ i ys H,i <= n->Pv i ys H->ys.length <= i)
  (hs:∀ i ys H,i < n->Pv i ys H->nh Pv g tc te σb i (.int (lo + i)) ys H) (hd:∀ ys H,Pv n ys H->∀ p,H p=none->Q (.ref p) (upd H p (.lst ys))) :
  ∃ W:Nat->Nat->List V->Hp->Prop,(∃ m,W 0 m [] H)/\vy (Itr lo n) g tc te σb Q W:=by
 refine ⟨fun i m ys H=>m=n - i/\i <= n/\Pv i ys H,⟨n,by simp,Nat.zero_le _,h0⟩,?_⟩;rintro i m ys H ⟨rfl,hi,p⟩;have hyl:=hl i ys H hi p;by_cases hlt:i < n
 ·refine .inr ⟨hlt,by omega,fun x H' y=>?_⟩;obtain ⟨e,y⟩:=y;subst e y;exact hs i ys _ hlt p (fun ys' H'=>∃ m',m' < n - i/\m'=n - (i + 1)/\i + 1 <= n/\Pv (i + 1) ys' H') fun ys' H' r=>⟨n - (i + 1),by omega,rfl,hlt,r⟩
 ·have e:i=n:=by omega
  subst e;exact .inl ⟨Nat.le_refl _,hd ys H p⟩
end L2
namespace L2
open PySem PySem.Spec PyProof.Rows
noncomputable def Its (xs:List V):It:=⟨fun i _=>i < xs.length,fun i H x H'=>H'=H/\xs[i]? = some x,fun i _=>xs.length <= i⟩
theorem su {P:Program} {w:World} {K:W.Frag} {tg:Expr} {it:Addr} {xs:List V} {PV:Nat->Value->Prop} {St:Nat->Heap->Prop} (hW:∀ A:Around,A.handled=none->Walks P w A it [it] [it] xs.length PV St)
  (hP:∀ i v,PV i v->∃ x,xs[i]? = some x/\Td x v)
  (hgo:∀ i h,St i h->∃ o n vs,h.get? it=some o/\o.cls=.type n/\o.data=.fields vs/\["enumerate","zip","dict_itemiterator","dict_reverseitemiterator","odict_iterator","itertools.zip_longest","itertools.pairwise"].contains n=false)
  (hfr:∀ i h h',St i h->(∀ o,h.get? it=some o->h'.get? it=some o)->St i h')
  (hself:∀ (A:Around) (i:Nat) (s:Shared) (Q:Value->Shared->Prop) (E:Value->Shared->Prop),St i s.heap->Q (.ref it) s->wpAny (model P w) A (pyIter (.ref it)) Q E s) :
  wJ P w K tg (Its xs) [it] it (fun i h=>i <= xs.length/\St i h) where
 mem:=by simp
 obj:=fun i h st b hb=>by
  have e:b=it:=by simpa using hb
  subst e;obtain ⟨o,n,vs,e,_,d,_⟩:=hgo i h st.2;exact ⟨o,e,fun v z=>by rw [d] at z;cases z⟩
 keep:=fun i h h' st k=>⟨st.1,hfr i h h' st.2 fun o e=>k it (by simp) o e⟩
 item:=by
  intro X hP' hw hK hc i pins s σ H E I hf st hg;subst hP' hw hK;obtain ⟨f0,f1,f2,f3,f4,f5⟩:=hf it (by simp);refine (hW X.A (I.ok.hd hc)).item i s _ _ hg st.2 fun v h' tk hv st' kk=>?_
  obtain ⟨x,hx,rx⟩:=hP i v hv;have I1:Inv X pins σ H { s with heap:=h',toks:=tk }:=I.turned (fun b o hb e=>kk b o (by simpa using hb) e) f0 f1 f3 f4 f5;obtain ⟨o,n,vs,e,c,d,nm⟩:=hgo _ _ st';exact ⟨v,rfl,rG (s:={ s with heap:=h',toks:=tk }) e c d nm ⟨x,H,I1,rx,⟨rfl,hx⟩,⟨hg,st'⟩,fun b hb=>(hf b hb).1⟩⟩
 done:=by
  intro X hP' hw hK hc i pins s σ H E I hf st hg;subst hP' hw hK;obtain ⟨f0,f1,f2,f3,f4,f5⟩:=hf it (by simp);have e:i=xs.length:=Nat.le_antisymm st.1 hg;subst e;exact (hW X.A (I.ok.hd hc)).done s _ _ st.2 fun h' tk kk=>⟨rfl,I.turned (fun b o hb e=>kk b o (by simpa using hb) e) f0 f1 f3 f4 f5⟩
 self:=fun A i s Q E st h=>hself A i s Q E st.2 h
noncomputable def Cs (c:Nat):Str:=⟨#[c]⟩
noncomputable def Sj (x:Str):List V:=x.cps.toList.map fun c=>V.str (Cs c)
theorem Hn (x:Str):(Sj x).length=x.cps.size:=by unfold Sj;simp
theorem tE {x:Str} {i c:Nat} (h:x.cps[i]? = some c):(Sj x)[i]? = some (.str (Cs c)):=by
 unfold Sj;rw [getElem?_map,Array.getElem?_toList,h];rfl
theorem bu {x:Str} {i:Nat} {v:Value} (h:SignAt x i v):∃ y,(Sj x)[i]? = some y/\Td y v:=by
 obtain ⟨c,u,hc,rfl⟩:=h;exact ⟨.str (Cs c),tE hc,u,rfl⟩
section
variable {X:Cx} {tg:Expr}
noncomputable def NN (tl:TE):TI:=fun σ H R=>tl σ H fun x H1=>∃ z,x=.str z/\R (Its (Sj z)) H1
theorem bL {l:Expr} {tl:TE} (hl:PE X l tl):PI X tg l (NN tl):=by
 intro pins s σ H R I h;refine thn (hl pins s σ H _ I h) fun v s1 hZ1=>?_
 obtain ⟨x,H1,I1,r1,q1⟩:=hZ1;obtain ⟨z,e,q⟩:=q1;subst e;obtain ⟨t,rfl⟩:=r1;have fo:∀ b ∈ [s1.heap.objs.size],Uw X pins H1 b:=fun b hb=>by
  have e:b=s1.heap.objs.size:=by simpa using hb
  subst e;exact I1.fpOk (Nat.le_refl _) (I1.hok.fresh (Nat.le_refl _))
 have hz:=Hn z;cases ha:z.cps.all (· < 128) with
 | false=>
  refine wpAny_pyIter_wide ha ⟨s1.heap.objs.size,[s1.heap.objs.size],fun i h=>i <= (Sj z).length/\h.IsStrIter s1.heap.objs.size "str_iterator" z t i,_,H1,rfl,I1.kept (t':=s1.toks) fun b o e=>Heap.get?_push_of_some _ e,
   su (fun A hA=>by rw [hz];exact Walks.strWide hA _ z t) (fun i v=>bu) (fun i h ⟨o,e,c,d⟩=>⟨o,_,_,e,c,d,by decide⟩) (fun i h h' ⟨o,e,r⟩ k=>⟨o,k o e,r⟩) (fun A i s Q E st q=>wpAny_pyIter_striter_wide st q),
   ⟨Nat.zero_le _,_,Heap.get?_push_size _ rfl,rfl,rfl⟩,fo,q⟩
 | true=>
  refine wpAny_pyIter_ascii ha ⟨s1.heap.objs.size,[s1.heap.objs.size],fun i h=>i <= (Sj z).length/\h.IsStrIter s1.heap.objs.size "str_ascii_iterator" z t i,_,H1,rfl,I1.kept (t':=s1.toks) fun b o e=>Heap.get?_push_of_some _ e,
   su (fun A hA=>by rw [hz];exact Walks.strAscii hA _ z t) (fun i v=>bu) (fun i h ⟨o,e,c,d⟩=>⟨o,_,_,e,c,d,by decide⟩) (fun i h h' ⟨o,e,r⟩ k=>⟨o,k o e,r⟩) (fun A i s Q E st q=>wpAny_pyIter_striter_ascii st q),
   ⟨Nat.zero_le _,_,Heap.get?_push_size _ rfl,rfl,rfl⟩,fo,q⟩
end
theorem RJ {xs:List V} {g:TG} {tb:TS} {D:Mi} {σ:St} {H:Hp} (Pv:Nat->St->Hp->Prop) (h0:Pv 0 σ H)
  (hs:∀ i x σ H,xs[i]? = some x->Pv i σ H->g x σ H fun σ2 H2=>tb { D with nx:=Pv (i + 1),ct:=Pv (i + 1),bk:=D.nx } σ2 H2) (hd:∀ σ H,Pv xs.length σ H->D.nx σ H) :
  ∃ W:Nat->Nat->St->Hp->Prop,(∃ m,W 0 m σ H)/\∀ i m σ H,W i m σ H ->
   ((Its xs).stop i H/\D.nx σ H)\/((Its xs).go i H/\∃ N:St->Hp->Prop,(∀ σ' H',N σ' H'->∃ m',m' < m/\W (i + 1) m' σ' H')/\∀ x H',(Its xs).yld i H x H'->g x σ H' fun σ2 H2=>tb { D with nx:=N,ct:=N,bk:=D.nx } σ2 H2):=by
 refine ⟨fun i m σ H=>m=xs.length - i/\i <= xs.length/\Pv i σ H,⟨xs.length,by simp,Nat.zero_le _,h0⟩,?_⟩;rintro i m σ H ⟨rfl,hi,p⟩;by_cases hlt:i < xs.length
 ·refine .inr ⟨hlt,Pv (i + 1),fun σ' H' p'=>⟨xs.length - (i + 1),by omega,rfl,hlt,p'⟩,fun x H' y=>?_⟩;obtain ⟨e,y⟩:=y;subst e;exact hs i x σ _ y p
 ·have e:i=xs.length:=by omega
  subst e;exact .inl ⟨Nat.le_refl _,hd σ H p⟩
theorem bH {xs:List V} {g:TG} {tc:TT} {te:TE} {σb:St} {Q:VK} {H:Hp} (Pv:Nat->List V->Hp->Prop) (hz:xs.length <= sizeLine) (h0:Pv 0 [] H) (hl:∀ i ys H,i <= xs.length->Pv i ys H->ys.length <= i)
  (hs:∀ i x ys H,xs[i]? = some x->Pv i ys H->nh Pv g tc te σb i x ys H) (hd:∀ ys H,Pv xs.length ys H->∀ p,H p=none->Q (.ref p) (upd H p (.lst ys))) :
  ∃ W:Nat->Nat->List V->Hp->Prop,(∃ m,W 0 m [] H)/\vy (Its xs) g tc te σb Q W:=by
 refine ⟨fun i m ys H=>m=xs.length - i/\i <= xs.length/\Pv i ys H,⟨xs.length,by simp,Nat.zero_le _,h0⟩,?_⟩;rintro i m ys H ⟨rfl,hi,p⟩;have hyl:=hl i ys H hi p;by_cases hlt:i < xs.length
 ·refine .inr ⟨hlt,by omega,fun x H' y=>?_⟩;obtain ⟨e,y⟩:=y;subst e;exact hs i x ys _ y p (fun ys' H'=>∃ m',m' < xs.length - i/\m'=xs.length - (i + 1)/\i + 1 <= xs.length/\Pv (i + 1) ys' H') fun ys' H' r=>⟨xs.length - (i + 1),by omega,rfl,hlt,r⟩
 ·have e:i=xs.length:=by omega
  subst e;exact .inl ⟨Nat.le_refl _,hd ys H p⟩
section
variable {X:Cx}
noncomputable def XN:V->Option Int->Option Int->Hp->VK->Prop:=fun x lo hi H Q=>∃ z,x=.str z/\z.length <= sizeLine/\Q (.str (Txt.slice z lo hi)) H
theorem jn:SlR X XN:=by
 intro pins s σ H x v vl vu lo hi sl Q I rx hs pl pu h;obtain ⟨z,rfl,hz,q⟩:=h;obtain ⟨t,rfl⟩:=rx;refine ⟨"str",_,F.slot_str_getitem.lookup,typeIs_str s z t,?_⟩;have fin:∀ t' k,EP X pins σ Q (.str (Txt.slice z lo hi) t') { s with toks:=k }:=fun t' k=>⟨.str _,H,I.tok _,⟨_,rfl⟩,q⟩
 cases pl with
 | none=>
  cases pu with
  | none=>exact wpAny_getItem_str_slice (l:=none) (u:=none) (st:=none) hs rfl (post_val_or_str ⟨Nat.le_trans (Txt.slice_le z _ _) hz,fin⟩)
  | int j uj=>exact wpAny_getItem_str_slice (l:=none) (u:=some (j,uj)) (st:=none) hs rfl (post_val_or_str ⟨Nat.le_trans (Txt.slice_le z _ _) hz,fin⟩)
 | int i ui=>
  cases pu with
  | none=>exact wpAny_getItem_str_slice (l:=some (i,ui)) (u:=none) (st:=none) hs rfl (post_val_or_str ⟨Nat.le_trans (Txt.slice_le z _ _) hz,fin⟩)
  | int j uj=>exact wpAny_getItem_str_slice (l:=some (i,ui)) (u:=some (j,uj)) (st:=none) hs rfl (post_val_or_str ⟨Nat.le_trans (Txt.slice_le z _ _) hz,fin⟩)
noncomputable def qb (ys:List Str):List V:=ys.map V.str
theorem Au:∀ {ys:List Str} {us:List Value},Sd (qb ys) us->StrsAre us ys:=by
 intro ys
 induction ys with
 | nil=>intro us r;cases r;exact .nil
 | cons y ys ih=>
  intro us r;cases r with
  | cons r1 r2=>
   obtain ⟨t,rfl⟩:=r1;exact .cons y t (ih r2)
theorem ow:∀ (l:List (Str × Tok)),Sd (qb (l.map (·.1))) (strValues l)
 | []=>.nil
 | (x,t) :: r=>.cons ⟨t,rfl⟩ (ow r)
noncomputable def mM (K:W.Frag):V->List V->Hp->VK->Prop:=fun x vs H Q=>∃ sep p ys,x=.str sep/\vs=[.ref p]/\SqL K H p (qb ys)/\(ys.map (·.length)).sum + ys.length * sep.length <= 16777216/\Q (.str (Txt.join sep ys)) H
theorem vj:MtR X "str.join" (mM X.K):=by
 intro pins s σ H x xs v us Q I rx rv h;obtain ⟨sep,p,ys,rfl,rfl,hq,hz,q⟩:=h;obtain ⟨t,rfl⟩:=rx;obtain ⟨u,rfl,ru⟩:=Vr rv;cases ru;obtain ⟨its,r,pl,_⟩:=I.list hq;exact join_list pl.isList (by simpa using Au r) hz fun t' k=>⟨.str _,H,I.tok _,⟨_,rfl⟩,q⟩
end
theorem cB {prog:Program} {w:World} {A:Around} {E:Value->Shared->Prop} {s:Shared} {x y:Str} {t u:Tok} {Q:Value->Shared->Prop} (hy:(y.length == 0)=false)
  (h:∀ l k,l.map (·.1)=Txt.split x y->Q (.ref s.heap.objs.size) { s with heap:=s.heap.push { cls:=.type "list",data:=.seq (strValues l).toArray },toks:=k }) (hsz:x.length + 2 <= sizeLine) :
  wpAny (model prog w) A (call (.builtin "str.split") [.str x t,.str y u]) Q E s:=by
 have hn:(Builtin.Str.partsBetween x (Builtin.Str.occurrences x y 0 x.length (x.length + 1)) y.length).length <= sizeLine:=by
  have e1:=StrLaws.occ_length_le x y 0 x.length (x.length + 1);rw [length_partsBetween];omega
 cases h1:(decide (x.length < y.length) || decide (Builtin.Str.strKind x < Builtin.Str.strKind y))
 ·cases hf:(Builtin.Str.occurrences x y 0 x.length (x.length + 1)).isEmpty
  ·refine call_meets F.slot_str_split (typeIs_str _ _ _) F.entry_str_split (F.args_str_split_2 _ _) (meets_str_split_sep x y t u h1 hy hf (by omega) hn) ?_;show wants Q E _ { s with toks:=_,heap:=s.heap.push { cls:=.type "list",data:=.seq (strsFrom s.toks (Builtin.Str.partsBetween x (Builtin.Str.occurrences x y 0 x.length (x.length + 1)) y.length)).toArray } };rw [strsFrom_eq];exact h (numbered s.toks _) _ ((numbered_texts _ _).trans ((if_neg (ne_true_of_eq_false h1)).trans (if_neg (ne_true_of_eq_false hf))).symm)
  ·exact call_meets F.slot_str_split (typeIs_str _ _ _) F.entry_str_split (F.args_str_split_2 _ _) (meets_str_split_not_found x y t u h1 hy hf)
    (h [(x,t)] s.toks ((if_neg (ne_true_of_eq_false h1)).trans (if_pos hf)).symm)
 ·exact call_meets F.slot_str_split (typeIs_str _ _ _) F.entry_str_split (F.args_str_split_2 _ _) (meets_str_split_cannot_occur x y t u h1)
   (h [(x,t)] s.toks (if_pos h1).symm)
section
variable {X:Cx}
noncomputable def zH:V->List V->Hp->VK->Prop:=fun x vs H Q=>∃ z y,x=.str z/\vs=[.str y]/\y.length ≠ 0/\z.length + 2 <= sizeLine/\(Txt.split z y).length <= sizeLine/\∀ p,H p=none->Q (.ref p) (upd H p (.lst (qb (Txt.split z y))))
theorem Up:MtR X "str.split" zH:=by
 intro pins s σ H x xs v us Q I rx rv h;obtain ⟨z,y,rfl,rfl,hy,hz,hn,q⟩:=h;obtain ⟨t,rfl⟩:=rx;obtain ⟨u,rfl,ru⟩:=Vr rv;obtain ⟨tu,rfl⟩:=ru;refine cB (by simpa using hy) (fun l k hl=>?_) hz;refine ⟨.ref s.heap.objs.size,_,I.laid (t':=k) (o:=.lst (qb (Txt.split z y))) (fun b o e=>Heap.get?_push_of_some _ e) (Nat.le_refl _) ⟨by unfold qb;rw [length_map];exact hn,strValues l,0,by rw [<- hl];exact ow l,Heap.get?_push_size _ rfl⟩,rfl,q _ (I.hok.fresh (Nat.le_refl _))⟩
theorem zw:gk X (.type "int") (fun xs H Q=>∃ z n,xs=[.str z]/\intText? z=some n/\z.length <= 640/\Q (.int n) H):=by
 intro pins s σ H xs us Q I r h;obtain ⟨z,n,rfl,hn,hz,q⟩:=h;obtain ⟨u,rfl,t,rfl⟩:=Vr r;exact PySem.W.KIN.call_text hn hz ⟨.int n,H,I.tok _,⟨_,rfl⟩,q⟩
theorem jx:∀ {bs:List Bool} {us:List Value},Sd (bs.map V.bl) us->us=bs.map Value.bool
 | [],_,.nil=>rfl
 | b :: bs,_,.cons r t=>by
  have e:_=Value.bool b:=r;rw [e,jx t];rfl
theorem Jx {A:Around} (bs:List Bool):TruthOf X.prog X.w A (fun i v=>(bs.map Value.bool).toArray[i]? = some v) (fun i=>bs.getD i true):=by
 intro i v s Q E hP hQ;have e:(bs.map Value.bool)[i]? = some v:=by simpa using hP
 rw [getElem?_map] at e;cases q:bs[i]? with
 | none=>rw [q] at e;cases e
 | some b=>
  rw [q] at e;have e':Value.bool b=v:=Option.some.inj e;subst e';refine wpAny_truthy_bool ?_;have:bs.getD i true=b:=by simp [List.getD,q]
  have hQ':Q (bs.getD i true) s:=hQ;rw [this] at hQ';exact hQ'
theorem VE (bs:List Bool):(List.range bs.length).all (fun i=>bs.getD i true)=bs.all id:=by
 rw [Bool.eq_iff_iff];simp only [all_eq_true,List.mem_range,id];constructor
 ·intro h b hb;obtain ⟨i,hi,e⟩:=List.mem_iff_getElem.mp hb;have:=h i hi;simp [List.getD,hi,e] at this;exact this
 ·intro h i hi;simp [List.getD,hi];exact h _ (getElem_mem hi)
theorem qG (hc:X.calm=true):gk X (.builtin "all") (fun xs H Q=>∃ (p:Addr) (bs:List Bool),xs=[.ref p]/\SqL X.K H p (bs.map V.bl)/\Q (.bl (bs.all id)) H):=by
 intro pins s σ H xs us Q I r h;obtain ⟨p,bs,rfl,hq,q⟩:=h;obtain ⟨u,rfl,ru⟩:=Vr r;cases ru;obtain ⟨its,rv,pl,_⟩:=I.list hq;have e:=jx rv;subst e;refine call_all_walk (wpAny_pyIter_list pl.isList ?_);have hne:p ≠ s.heap.objs.size:=Nat.ne_of_lt (by obtain ⟨o,_,ho,_⟩:=pl;exact Heap.lt_size ho);refine ⟨s.heap.objs.size,_,_,_,_,_,fun i=>bs.getD i true,rfl,Walks.list (show X.A.in1.handled=none from I.ok.hd hc) _ p hne (bs.map Value.bool).toArray,⟨⟨_,Heap.get?_push_size _ rfl,rfl,rfl⟩,pl.isList.at fun o e=>Heap.get?_push_of_some _ e⟩,Jx bs,fun h' tk kk=>?_⟩;refine ⟨.bl (bs.all id),H,I.kept fun b o e=>kk b o (by simpa using Nat.ne_of_lt (Heap.lt_size e)) (Heap.get?_push_of_some _ e),?_,q⟩;show Value.bool _=Value.bool _;rw [show (bs.map Value.bool).toArray.size=bs.length by simp,VE]
theorem oz:gk X (.builtin "isinstance") (fun xs H Q=>∃ x T t b,xs=[x,.ty T]/\Cz X.K H x t/\PySem.W.kitOne X.K t (.type T)=some b/\Q (.bl b) H):=by
 intro pins s σ H xs us Q I r h;obtain ⟨x,T,t,b,rfl,ty,e,q⟩:=h;obtain ⟨u,u2,rfl,rx,r2⟩:=rB r;cases r2;exact UC I rx ty e fun tk=>⟨.bl b,H,I.tok _,rfl,q⟩
end
end L2
namespace L2
open PySem PySem.Spec PyProof.Rows
theorem se {X:Cx} {N:List Str} (h:N.Nodup) (e:X.N=N):X.N.Nodup:=e ▸ h
noncomputable def vD (sc scope:Scope):Bool:=
 (scope.kind == .function) && scope.names.all (fun y=>y.2 != .cell) && scope.names.all (fun y=>y.2 != .free || sc.names.lookup y.1 == some .cell || sc.names.lookup y.1 == some .free) &&
  scope.names.all (fun y=>y.2 != .local || scope.names.lookup y.1 == some .local)
theorem dc {env:Env} {sc scope:Scope} (he:env.scope=sc) (h:vD sc scope=true):up env scope:=by
 subst he;unfold vD at h;simp only [Bool.and_eq_true,all_eq_true] at h;obtain ⟨⟨⟨h1,h2⟩,h3⟩,h4⟩:=h;refine ⟨by simpa using h1,fun y hy e=>?_,fun y hy e=>?_,fun y hy e=>?_⟩
 ·have:=h2 y hy;rw [e] at this;exact absurd this (by decide)
 ·have:=h3 y hy;rw [e] at this;simp only [Bool.or_eq_true] at this;rcases this with (z | z) | z
  ·exact absurd z (by decide)
  ·exact .inl (show env.scope.names.lookup y.1=some .cell by simpa using z)
  ·exact .inr (show env.scope.names.lookup y.1=some .free by simpa using z)
 ·have:=h4 y hy;rw [e] at this;simp only [Bool.or_eq_true] at this;rcases this with z | z
  ·exact absurd z (by decide)
  ·simpa using z
noncomputable def gO (M:List Str) (scope:Scope) (N:List Str) (sel:List (Option Nat)):Bool:=
 sel.length == N.length && (sel.zip N).all fun p=>match p.1 with | none=>true | some j=>M[j]? == some p.2 && scope.names.lookup p.2 == some .free
theorem Cc {M:List Str} {scope:Scope} {N:List Str} {sel:List (Option Nat)} (h:gO M scope N sel=true):ZD M scope N sel:=by
 unfold gO at h;simp only [Bool.and_eq_true,all_eq_true] at h;refine ⟨by simpa using h.1,fun i j x e1 e2=>?_⟩;have hm:(some j,x) ∈ sel.zip N:=by
  rw [List.mem_iff_getElem?];exact ⟨i,by rw [List.getElem?_zip_eq_some];exact ⟨e1,e2⟩⟩
 have:=h.2 _ hm;simp only [Bool.and_eq_true] at this;exact ⟨by simpa using this.1,by simpa using this.2⟩
noncomputable def noT:HO->Bool
 | .dT _=>false
 | .frz _ u=>noT u
 | _=>true
noncomputable def NoT (H:Hp):Prop:=∀ b o,H b=some o->noT o=true
theorem vd.back {P:Program} {w:World} {H H':Hp} {h h':Heap} {a:Addr}:∀ (o:HO),noT o=true->vd P w H' h' a o->vd P w H h a o->vd P w H h' a o
 | .lst _,_,x,_=>x
 | .tup _,_,x,_=>x
 | .dK _,_,x,_=>x
 | .dT _,e,_,_=>absurd e (by unfold noT;decide)
 | .set _ _,_,x,_=>x
 | .ins _ _ _,_,x,y=>⟨y.1,x.2⟩
 | .own _,_,x,_=>x
 | .xd _,_,x,_=>x
 | .met _ _,_,x,_=>x
 | .rng _ _,_,x,_=>x
 | .frz ob u,e,x,y=>⟨x.1,vd.back u (by unfold noT at e;exact e) x.2 y.2⟩
 | .tbl _,_,x,_=>x
 | .ext _,_,x,_=>x
section
variable {P:Program} {w:World} {K:W.Frag} {mg:Str->Option Value} {base:Heap}
theorem Ub.forget {k:Nat} {f:Addr} {fd:FuncData} {ps:List Str} {sp sp':Sp} (F:Ub P w K mg base CX0 k f fd ps sp)
  (h:∀ vs H Q E,sp' vs H Q E->NoT H/\sp vs H (fun v H'=>bc H H'/\Q v H) E):Ub P w K mg base CX0 k f fd ps sp':=by
 refine ⟨fun vs H Q E q=>F.len vs H _ E (h vs H Q E q).2,fun A outer s H args us vs Q E hr he hb hv hs=>?_⟩;obtain ⟨nt,q⟩:=h vs H Q E hs;refine codeAny_mono (F.run A outer s H args us vs _ E hr he hb hv q) fun r s' hq=>?_
 cases r with
 | error e=>exact hq
 | ok fl=>
  cases fl with
  | next=>exact hq
  | brk=>exact hq
  | cont=>exact hq
  | ret u=>
   obtain ⟨v,H',os,bare,un,hok,rv,sm,q'⟩:=hq;exact ⟨v,H,os,bare,⟨un.keep,un.slot,fun _ _ _ n _=>n,un.there,fun _ _ z=>z,fun _ _ _ z=>z,fun _ ps z=>⟨#[],by rw [z];simp⟩⟩,fun a o e=>(hok a o (sm a o e)).back o (nt a o e) (he.hok a o e),rv,q'⟩
end
theorem jb {H:Hp} {p:Addr} {o:HO} (h:H p=none):bc H (upd H p o):=fun b u q=>by rw [zb (Kb q h)];exact q
theorem bc.updN {H H1:Hp} {p:Addr} {o:HO} (s:bc H H1) (h:H p=none):bc H (upd H1 p o):=fun b u q=>by rw [zb (Kb q h)];exact s b u q
structure Sc (K:W.Frag) (a:Addr) (ns:List Int) (H:Hp):Prop where
 sq:(∃ o,H a=some (.frz o (.lst (ns.map V.int))))\/∃ (o:Obj) (its:Array Value) (n:Nat),K.lookup a=some o/\o.cls=.type "list" /\ o.dict=none/\o.data=.seq its n/\its.size <= sizeLine/\Sd (ns.map V.int) its.toList
 nt:NoT H
section
variable {K:W.Frag} {a p:Addr} {ns:List Int} {H H':Hp} {o:HO}
theorem Sc.seq (s:Sc K a ns H):SqL K H a (ns.map V.int):=by
 rcases s.sq with ⟨o,h⟩ | h
 ·exact .inl (.inr ⟨o,h⟩)
 ·exact .inr h
theorem Sc.new (s:Sc K a ns H) (hp:H p=none) (ho:noT o=true:=by rfl):Sc K a ns (upd H p o):=by
 refine ⟨?_,fun b u e=>?_⟩
 ·rcases s.sq with ⟨ob,h⟩ | h
  ·exact .inl ⟨ob,by rw [zb (Kb h hp)];exact h⟩
  ·exact .inr h
 ·by_cases hb:b=p
  ·subst hb;rw [gb] at e;cases e;exact ho
  ·rw [zb hb] at e;exact s.nt b u e
theorem Sc.set {u:HO} (s:Sc K a ns H) (hp:H p=some u) (hu:∀ ob z,u ≠ .frz ob z) (ho:noT o=true:=by rfl):Sc K a ns (upd H p o):=by
 refine ⟨?_,fun b x e=>?_⟩
 ·rcases s.sq with ⟨ob,h⟩ | h
  ·refine .inl ⟨ob,?_⟩;have hne:a ≠ p:=fun z=>by subst z;rw [hp] at h;exact hu _ _ (Option.some.inj h)
   rw [zb hne];exact h
  ·exact .inr h
 ·by_cases hb:b=p
  ·subst hb;rw [gb] at e;cases e;exact ho
  ·rw [zb hb] at e;exact s.nt b x e
theorem Sc.of_only (hO:DM H) (hS:SqL K H a (ns.map V.int)):Sc K a ns H:=by
 refine ⟨?_,fun b u e=>?_⟩
 ·rcases hS with (h | ⟨o,h⟩) | h
  ·rcases hO a with z | ⟨ob,xs,z⟩
   ·rw [h] at z;cases z
   ·rw [h] at z;cases z
  ·exact .inl ⟨o,h⟩
  ·exact .inr h
 ·rcases hO b with z | ⟨ob,xs,z⟩
  ·rw [e] at z;cases z
  ·rw [e] at z;cases z;rfl
end
noncomputable def xM (K:W.Frag):Sp:=fun vs H Q _=>∃ (a:Addr) (ns:List Int),vs=[.ref a]/\Sc K a ns H/\ns.length <= 63/\∀ H',Q (.bl true) H'
theorem Rb:bootBuiltins "len"=some (.builtin "len"):=PySem.boot_len
theorem RA:bootBuiltins "all"=some (.builtin "all"):=by decide +kernel
theorem wo:bootBuiltins "max"=some (.builtin "max"):=by decide +kernel
theorem ze:bootBuiltins "isinstance"=some (.builtin "isinstance"):=by decide +kernel
theorem Wi:bootBuiltins "int"=some (.type "int"):=by decide +kernel
theorem oh:bootBuiltins "str"=some (.type "str"):=by decide +kernel
theorem gy:bootBuiltins "bool"=some (.type "bool"):=by decide +kernel
theorem Rd.same {H H':Hp} {a:Addr} {o:HO} (h:Rd H a o) (s:bc H H'):Rd H' a o:=by
 rcases h with h | ⟨ob,h⟩
 ·exact .inl (s _ _ h)
 ·exact .inr ⟨ob,s _ _ h⟩
theorem SqL.same {K:W.Frag} {H H':Hp} {a:Addr} {xs:List V} (h:SqL K H a xs) (s:bc H H'):SqL K H' a xs:=by
 rcases h with h | h
 ·exact .inl (h.same s)
 ·exact .inr h
theorem SqT.same {K:W.Frag} {H H':Hp} {a:Addr} {xs:List V} (h:SqT K H a xs) (s:bc H H'):SqT K H' a xs:=by
 rcases h with h | h
 ·exact .inl (h.same s)
 ·exact .inr h
theorem NoT.upd {H:Hp} {p:Addr} {o:HO} (h:NoT H) (ho:noT o=true:=by rfl):NoT (upd H p o):=fun b u e=>by
 by_cases hb:b=p
 ·subst hb;rw [gb] at e;cases e;exact ho
 ·rw [zb hb] at e;exact h b u e
theorem Sc.same {K:W.Frag} {a:Addr} {ns:List Int} {H H':Hp} (s:Sc K a ns H) (sm:bc H H') (nt:NoT H'):Sc K a ns H':=by
 refine ⟨?_,nt⟩;rcases s.sq with ⟨o,h⟩ | h
 ·exact .inl ⟨o,sm _ _ h⟩
 ·exact .inr h
end L2
namespace L2
open PySem PySem.Spec PyProof.Rows
structure ON (K:W.Frag) (C:Addr) (m:Str) (f:Addr):Prop where
 rd:PySem.W.readsIn K C (.type "type")=true
 fd:PySem.W.findCls K (.ref C) (.type "type") m=some (.val (.ref f))
 ga:PySem.W.specialIn K (.ref C) "__getattribute__"=some (some (.builtin "type.__getattribute__"))
 kp:PySem.W.keepIn K (.ref f)=true
structure yK (P:Program) (w:World) (K:W.Frag) (mg:Str->Option Value) (base:Heap) (CX:CXT) (k:Nat) (OK:Addr->Prop) (m:Str) (ps:List Str) (SPV:Addr->Sp):Prop where
 ok:∀ C,OK C->∃ f fd,Cls K C/\cu K C m f/\Ub P w K mg base CX k f fd ps (SPV C)/\vc K fd ps []
noncomputable def lI (OK:Addr->Prop) (m:Str) (SPV:Addr->Sp) (E:XK) (ta:TE) (t:TA):TE:=fun σ H Q=>ta σ H fun x H1=>∃ a C dx fs,x=.ref a/\H1 a=some (.ins C dx fs)/\OK C/\fs.lookup m=none /\
 t σ H1 fun vs H2=>SPV C (x :: vs) H2 Q E
section
variable {X:Cx} {CX:CXT} {k:Nat} {f C:Addr} {fd:FuncData} {ps:List Str} {sp:Sp} {dvs:List V} {ds:List Value} {E:XK} {x m:Str} {p pos apos:Pos} {e o:Expr} {es:List Expr} {ta:TE} {t:TA}
theorem Ku {pl:Sem Bool} (hg:Gl X x) (hm:X.mg x=some (.ref C)) (c:ON X.K C m f) (F:Ub X.prog X.w X.K X.mg X.base CX k f fd ps sp) (hr:pj k X.A) (hb:vc X.K fd ps ds) (hd:Sd dvs ds) (hx:Tl CX X E) (ha:PA X (e :: es) t)
  (hdb:(x == ("__debug__" : Str))=false:=by decide) (hst:starEach (e :: es) X.env=(false,eval e X.env) :: starEach es X.env:=by rfl) (hpl:(backTo pos (starEach es X.env)).any (·.1)=false:=by rfl)
  (ht:eval (.Call (.Attribute (.Name x p) m apos) (e :: es) [] pos) X.env=(do
   let ov <- eval (.Name x p) X.env
   standAt apos.atName
   let (f,first) <- holding [ov] (getMethod ov m pl)
   callWith pos f first (backTo pos (starEach (e :: es) X.env)) (backToKw pos (keywordEach [] X.env))):=by rfl) :
  PE X (.Call (.Attribute (.Name x p) m apos) (e :: es) [] pos) (jJ sp dvs E t):=by
 intro pins s σ H Q I h;refine PySem.W.methodCall_KW (pl:=pl) (ll I hg hm ?_ hdb) ht;refine PySem.W.method_cls I.kIn c.ga (PySem.W.cls_value I.kIn c.rd c.fd rfl ?_);have I1:=I.tok (s.toks + 1);refine PySem.W.callWith_K (first:=[]) (h₀:=X.base) I.ok.mod.kin c.kp (thn (ha pos pins _ σ H _ I1 h) fun us s2 ⟨vs,H2,I2,r,q2⟩=>⟨I2.kIn,?_⟩) hst hpl;exact Hw F hr hb hd hx I2 r q2
variable {OK:Addr->Prop} {SPV:Addr->Sp}
theorem cx {pl:Sem Bool} (he:PE X o ta) (V:yK X.prog X.w X.K X.mg X.base CX k OK m ps SPV) (hr:pj k X.A) (hx:Tl CX X E)
  (ht:eval (.Call (.Attribute o m apos) [] [] pos) X.env=(do
   let ov <- eval o X.env
   standAt apos.atName
   let (f,first) <- holding [ov] (getMethod ov m pl)
   callWith pos f first (backTo pos (starEach [] X.env)) (backToKw pos (keywordEach [] X.env))):=by rfl) :
  PE X (.Call (.Attribute o m apos) [] [] pos) (lI OK m SPV E ta RM):=by
 intro pins s σ H Q I h;refine PySem.W.methodCall_KW (pl:=pl) (thn (he pins s σ H _ I h) fun u s1 hZ1=>?_) ht;obtain ⟨x,H1,I1,rx,a,C,dx,fs,ex,ea,ok,l,q⟩:=hZ1;subst ex;obtain rfl:u=Value.ref a:=rx;obtain ⟨f,fd,c,hm,F,hb⟩:=V.ok C ok;refine Go I1 ea c hm l ?_;exact PySem.W.callWith_K0 (first:=[.ref a]) I1.kIn hm.kp (Hw (us:=[.ref a]) (vs:=[.ref a]) (dvs:=[]) F hr hb .nil hx I1 (.cons rfl .nil) q)
end
section
variable {X:Cx} {x:Str} {p pos:Pos} {i:Expr} {ty:TE} {u:Value} {kvs:List (Str × V)}
end
noncomputable def Nj (K:W.Frag) (H:Hp) (a:Addr) (f:Str) (v:V):Prop:=∃ C dx fs,H a=some (.ins C dx fs)/\Cls K C/\Xb K C f/\fs.lookup f=some v
theorem ud {f:Str} {v:V}:∀ {fs:List (Str × V)} (ks:List Str),fs.map (·.1)=ks->ks.contains f=false->qh f v fs=fs ++ [(f,v)]
 | [],_,_,_=>rfl
 | (g,y) :: r,ks,e,h=>by
  cases e;rw [map_cons,List.contains_cons] at h;have h1:=(Bool.or_eq_false_iff.mp h);have hne:¬ g=f:=fun z=>by
   have:=h1.1;rw [z] at this;simp at this
  show (if g=f then _ else _)=_;rw [if_neg hne,ud _ rfl h1.2];rfl
theorem Sm {f:Str} {v:V} {fs:List (Str × V)} {n:Nat} (h:fs.length < n):(qh f v fs).length < n + 1:=Nat.lt_of_le_of_lt (Em f v fs) (by omega)
theorem Cd {f:Str} {v:V}:∀ {fs:List (Str × V)} (ks:List Str) (i:Nat),fs.map (·.1)=ks->ks.findIdx? (· == f)=some i->fs[i]? = some (f,v)->fs.lookup f=some v
 | [],_,_,_,_,h=>by simp at h
 | (g,y) :: r,ks,i,e,h,hv=>by
  cases e;rw [map_cons,List.findIdx?_cons] at h;rw [List.lookup];by_cases e:g=f
  ·subst e;rw [beq_self_eq_true,if_pos rfl] at h;cases h;have:(g,y)=(g,v):=by simpa using hv
   cases this;rw [beq_self_eq_true]
  ·rw [beq_eq_false_iff_ne.mpr e,if_neg (by decide)] at h;obtain ⟨j,hj,rfl⟩:=Option.map_eq_some_iff.mp h;rw [beq_eq_false_iff_ne.mpr (fun z=>e z.symm)];exact Cd _ j rfl hj (by simpa using hv)
theorem Kn {f:Str}:∀ {fs:List (Str × V)} (ks:List Str),fs.map (·.1)=ks->ks.contains f=false->fs.lookup f=none
 | [],_,_,_=>rfl
 | (g,y) :: r,ks,e,h=>by
  cases e;rw [map_cons,List.contains_cons] at h;have h1:=(Bool.or_eq_false_iff.mp h);rw [List.lookup,h1.1];exact Kn _ rfl h1.2
end L2
namespace L2
open PySem PySem.Spec PyProof.Rows
theorem Inv.turnedL {X:Cx} {pins:List (Addr × Obj)} {σ:St} {H:Hp} {s:Shared} {h':Heap} {t':Nat} {fp:List Addr} (I:Inv X pins σ H s) (k:∀ b o,b ∉ fp->s.heap.get? b=some o->h'.get? b=some o)
  (hf:∀ b ∈ fp,Uw X pins H b):Inv X pins σ H { s with heap:=h',toks:=t' }:=by
 have nit:∀ b u,H b=some u->b ∉ fp:=fun b u e z=>by rw [(hf b z).1] at e;cases e
 refine I.step (g':=s.gens) (d':=s.drawn) (ch:=fp) (fun b hb=>?_) (fun b o _ _ hc e _=>k b o hc e) (fun b o _ _ hc e _=>⟨o.slots,k b o hc e⟩) (fun _ _ _ _ n=>n)
  (fun b o hc e=>⟨o,k b o hc e⟩) (fun _ _ e=>e) (fun _ _ _ e=>e) (fun b ps e=>⟨#[],by rw [e];simp⟩) (fun m hm=>?_) (fun b u e=>?_) I.bare
 ·obtain ⟨f0,f1,f2,f3,f4,f5⟩:=hf b hb;exact ⟨f3,f1,f4,f5⟩
 ·obtain ⟨o,es,ep,ho,r⟩:=hm;exact ⟨o,es,ep,k _ o (fun z=>(hf _ z).2.1 rfl) ho,r⟩
 ·refine (I.hok b u e).stay (fun c v hc q=>k c v ?_ q) (fun _ q=>q) fun _ _ q=>q
  rcases hc with z | z
  ·rw [z];exact nit b u e
  ·exact nit c _ z
noncomputable def Ite (K:W.Frag) (a:Addr):It:=
 ⟨fun i H=>∃ xs x,SqL K H a xs/\xs[i]? = some x,fun i H v H'=>∃ p y,H p=none/\v=.ref p/\(∀ xs,SqL K H a xs->xs[i]? = some y)/\H'=upd H p (.tup [.int i,y]),fun i H=>∃ xs,SqL K H a xs/\xs.length <= i⟩
theorem yE {P:Program} {w:World} {K:W.Frag} {es:List Expr} {k} {pos:Pos} (a e it:Addr) (hne:e ≠ it) :
  wJ P w K (.Tuple es k pos) (Ite K a) [e,it] e (fun i h=>∃ old,IsEnum h e it ((i:Nat):Int) old/\h.IsListIter it a i) where
 mem:=by simp
 obj:=fun i h ⟨old,he,hi⟩ b hb=>by
  simp only [mem_cons,not_mem_nil,or_false] at hb;rcases hb with rfl | rfl
  ·exact ⟨_,he,fun v z=>by
    have z':Data.fields _=Data.cell v:=z;cases z'⟩
  ·obtain ⟨o,q,c,d⟩:=hi;exact ⟨o,q,fun v z=>by rw [d] at z;cases z⟩
 keep:=fun i h h' ⟨old,he,hi⟩ k=>⟨old,k e (by simp) _ he,hi.at fun o q=>k it (by simp) o q⟩
 item:=by
  intro X hP hw hK hc i pins s σ H E I hf ⟨old,he,hi⟩ hg;subst hP hw hK;obtain ⟨xs,x,hq,hx⟩:=hg;obtain ⟨its,rv,p,hz⟩:=I.list hq;obtain ⟨u,hu,ru⟩:=rv.get hx;refine wpAny_pyNext_enum_item he hi p.isList (x:=u) (by simpa using hu) hne fun h1 he1 hi1 ht1 hz1 hk1=>⟨_,rfl,?_⟩
  refine wpAny_letOwnedTupleGo_enum he1 fun h2 he2 hs2=>?_
  replace hs2:Heap.SameBut e h1 h2:=hs2;have hel:e < s.heap.objs.size:=Heap.lt_size he;have hk:∀ b o,b ∉ [e,it]->s.heap.get? b=some o->h2.get? b=some o:=fun b o hb q=>by
   simp only [mem_cons,not_mem_nil,or_false,not_or] at hb;exact hs2.extBut _ _ hb.1 (hk1 b o hb.1 hb.2 q)
  have I1:Inv X pins σ H { s with heap:=h2,toks:=s.toks + 1 }:=I.turnedL hk hf;have fo:Uw X pins H s.heap.objs.size:=I.fpOk (Nat.le_refl _) (I.hok.fresh (Nat.le_refl _));have ht2:h2.get? s.heap.objs.size=some { cls:=.type "tuple",data:=.seq #[.int i s.toks,u] }:=(hs2.2 _ (Nat.ne_of_gt hel)).trans ht1;have I2:=I1.adopt (o:=.tup [.int i,x]) fo ⟨by show 2 <= sizeLine;decide,[.int i s.toks,u],.cons ⟨_,rfl⟩ (.cons ru .nil),⟨_,ht2,rfl,_,rfl⟩⟩;refine ⟨.ref s.heap.objs.size,_,I2,rfl,⟨_,x,fo.1,rfl,fun ys hy=>by rw [I.list_inj hy hq];exact hx,rfl⟩,⟨u,?_,?_⟩,fun b hb=>?_⟩
  ·have e1:((i + 1:Nat):Int)=(i:Int) + 1:=by omega
   rw [e1];exact he2
  ·exact hi1.extBut hs2.extBut (Ne.symm hne)
  ·have hlt:b < s.heap.objs.size:=by
    simp only [mem_cons,not_mem_nil,or_false] at hb;rcases hb with rfl | rfl
    ·exact hel
    ·obtain ⟨o,q,_⟩:=hi;exact Heap.lt_size q
   rw [zb (Nat.ne_of_lt hlt)];exact (hf b hb).1
 done:=by
  intro X hP hw hK hc i pins s σ H E I hf ⟨old,he,hi⟩ hg;subst hP hw hK;obtain ⟨xs,hq,hx⟩:=hg;obtain ⟨its,rv,p,hz⟩:=I.list hq;have hl:=rv.length;exact wpAny_pyNext_enum_end (I.ok.hd hc) he hi p.isList (by simp;omega) fun h' eb=>⟨rfl,I.turnedL (t':=s.toks) (fun b o hb q=>eb b o (fun z=>hb (by simp [z])) q) hf⟩
 self:=fun _ _ _ _ _ ⟨_,he,_⟩ h=>wpAny_pyIter_enum he h
theorem Hs:bootBuiltins "enumerate"=some (.type "enumerate"):=by decide +kernel
noncomputable def Itz (K:W.Frag) (a b:Addr):It:=
  ⟨fun i H=>∃ xs ys x y,SqL K H a xs/\SqL K H b ys/\xs[i]? = some x/\ys[i]? = some y,
   fun i H v H'=>∃ p x y,H p=none/\v=.ref p/\(∀ xs,SqL K H a xs->xs[i]? = some x)/\(∀ ys,SqL K H b ys->ys[i]? = some y)/\H'=upd H p (.tup [x,y]),
   fun i H=>∃ xs ys,SqL K H a xs/\SqL K H b ys/\(xs.length <= i\/ys.length <= i)⟩
section
variable {X:Cx}
noncomputable def TK (K:W.Frag) (ta:TA):TI:=fun σ H R=>ta σ H fun vs H1=>∃ a,vs=[.ref a]/\(∃ xs,SqL K H1 a xs)/\R (Ite K a) H1
theorem Fv {es:List Expr} {k} {tpos:Pos} {a:Expr} {ta:TA} {p pos:Pos} (hg:Gl X "enumerate") (hm:X.mg "enumerate"=none) (ha:PA X [a] ta) (hs:starEach [a] X.env=[(false,eval a X.env)]:=by rfl) :
  PI X (.Tuple es k tpos) (.Call (.Name "enumerate" p) [a] [] pos) (TK X.K ta):=by
 intro pins s σ H R I h;refine Call_ (Gu I hg hm Hs (PyProof.Rows.callWith_type1 (thn (ha pos pins s σ H _ I h) fun us s1 hZ1=>?_) hs rfl));obtain ⟨vs,H1,I1,r1,q1⟩:=hZ1;obtain ⟨a,e,⟨xs,hq⟩,q⟩:=q1;subst e;cases r1 with
 | cons r rr=>
  cases rr;cases r;obtain ⟨its,rv,pl,hz⟩:=I1.list hq;refine call_enumerate_list pl.isList fun h' hE hI hsz hk=>wpAny_pyIter_enum hE ?_
  refine ⟨s1.heap.objs.size + 1,[s1.heap.objs.size + 1,s1.heap.objs.size],_,_,H1,rfl,I1.kept (t':=s1.toks) hk,yE a _ _ (Nat.succ_ne_self _),⟨_,hE,hI⟩,fun b hb=>?_,q⟩;have hb':s1.heap.objs.size <= b:=by
   simp only [mem_cons,not_mem_nil,or_false] at hb;rcases hb with rfl | rfl
   ·exact Nat.le_succ _
   ·exact Nat.le_refl _
  exact I1.fpOk hb' (I1.hok.fresh hb')
end
theorem Qg {X:Cx} {es:List Expr} {k:Nat} {pos:Pos} {t:TGs} {n:Nat} {K:W.Frag} (hK:X.K=K) (hc:X.calm=true) (h:PGs X es t)
  (hn:(assignEach es X.env).length=n:=by rfl) (hst:(assignEach es X.env).findIdx? (·.1)=none:=by rfl):PG X (.Tuple es k pos) (yM K n t):=by
 subst hK;exact HM hc h hn hst
section
variable {X:Cx}
noncomputable def JD:V->List V->Hp->VK->Prop:=fun x vs H Q=>∃ l xs i y,x=.ref l/\vs=[.int i,y]/\H l=some (.lst xs)/\0 <= i/\i < 2 ^ 62/\i <= (xs.length:Int)/\xs.length < sizeLine/\Q .non (upd H l (.lst (xs.take i.toNat ++ y :: xs.drop i.toNat)))
theorem Tk:MtM X "list.insert" JD:=by
 intro pins s σ H x vs v us Q I rx rv h;obtain ⟨l,xs,i,y,rfl,rfl,hH,h0,h1,h2,hz,q⟩:=h;cases rx;cases rv with
 | cons ra rb=>
  cases rb with
  | @cons _ w _ _ rw' rc=>
   cases rc;obtain ⟨t,rfl⟩:=ra;obtain ⟨z,its,n,r,hl,e⟩:=I.lstM hH;refine call_meets F.slot_list_insert ⟨_,e,rfl⟩ F.entry_list_insert (F.args_list_insert_3 _ _ _) (AutoListH.list_insert_list_int_val_1 l its.toArray n i t w (by rw [fitsIndex_both (k:=i) (by omega) (by omega)];decide) (by rw [size_toArray];omega)) ⟨e,?_⟩;refine ⟨.non,_,I.lset (its':=its.take i.toNat ++ w :: its.drop i.toNat) hH e ?_ ((r.take i.toNat).append (.cons rw' (r.drop i.toNat))) ?_,rfl,q⟩
   ·have hk:(if i < 0 then (i + ((its.toArray.size:Nat):Int)).toNat else min i.toNat its.toArray.size)=i.toNat:=by
     rw [if_neg (by omega),size_toArray];omega
    show (its.toArray.extract 0 (if i < 0 then (i + ((its.toArray.size:Nat):Int)).toNat else min i.toNat its.toArray.size)).push w ++ its.toArray.extract (if i < 0 then (i + ((its.toArray.size:Nat):Int)).toNat else min i.toNat its.toArray.size)=_;rw [hk];apply Array.toList_inj.mp;simp;exact take_of_length_le (by rw [length_drop];exact Nat.le_refl _)
   ·rw [length_append,length_cons,length_take,length_drop];omega
end
end L2
namespace L2
open PySem PySem.Spec PyProof.Rows
inductive EqH (K:W.Frag) (H:Hp):Nat->V->V->Bool->Prop
 | flat {k:Nat} {x y:V} (hx:sk x=true) (hy:sk y=true):EqH K H k x y (eqV x y)
 | lst {k:Nat} {p q:Addr} {xs ys:List V} {e:Nat->Bool} (hp:SqL K H p xs) (hq:SqL K H q ys) (hl:xs.length=ys.length) (he:∀ (j:Nat) (x y:V),xs[j]? = some x->ys[j]? = some y->EqH K H k x y (e j)):EqH K H (k + 1) (.ref p) (.ref q) ((List.range xs.length).all e)
 | lstN {k:Nat} {p q:Addr} {xs ys:List V} (hp:SqL K H p xs) (hq:SqL K H q ys) (hl:xs.length ≠ ys.length):EqH K H (k + 1) (.ref p) (.ref q) false
 | tup {k:Nat} {p q:Addr} {xs ys:List V} {e:Nat->Bool} (hp:SqT K H p xs) (hq:SqT K H q ys) (he:∀ (j:Nat) (x y:V),xs[j]? = some x->ys[j]? = some y->EqH K H k x y (e j)):EqH K H (k + 1) (.ref p) (.ref q) ((List.range (min xs.length ys.length)).all e && xs.length == ys.length)
theorem rF {x:V} (h:sk x=true):eqV x x=true:=by
 cases x <;> first | rfl | (simp [eqV];done) | cases h
theorem Bu {n:Nat} {e:Nat->Bool} (h:∀ j,j < n->e j=true):(List.range n).all e=true:=by
 rw [all_eq_true];exact fun j hj=>h j (List.mem_range.mp hj)
section
variable {X:Cx} {pins:List (Addr × Obj)} {σ:St} {H:Hp} {s:Shared}
theorem EqH.self (I:Inv X pins σ H s) {k:Nat} {x y:V} {b:Bool} (h:EqH X.K H k x y b) (e:x=y):b=true:=by
 induction h with
 | flat hx hy=>subst e;exact rF hx
 | @lst k p q xs ys f hp hq hl he ih=>
  injection e with e;subst e;have:=I.list_inj hp hq;subst this;refine Bu fun j hj=>?_
  exact ih j xs[j] xs[j] (getElem?_eq_getElem hj) (getElem?_eq_getElem hj) rfl
 | lstN hp hq hl=>
  injection e with e;subst e;have:=I.list_inj hp hq;subst this;exact absurd rfl hl
 | @tup k p q xs ys f hp hq he ih=>
  injection e with e;subst e;have:=I.tuple_inj hp hq;subst this;rw [Bool.and_eq_true];refine ⟨Bu fun j hj=>?_,by simp⟩;have hj':j < xs.length:=by omega
  exact ih j xs[j] xs[j] (getElem?_eq_getElem hj') (getElem?_eq_getElem hj') rfl
theorem Fw (A:Around):A.in1.units=A.units + 1:=rfl
theorem PF (I:Inv X pins σ H s) {k:Nat} {x y:V} {b:Bool} (h:EqH X.K H k x y b):∀ (A:Around) (v u:Value),A.units + k < cLine->Td x v->Td y u ->
  SeqAt.EqAt A s v u b/\(∀ p q,x=.ref p->y=.ref q->SeqAt.RcAt A s v u b):=by
 induction h with
 | flat hx hy=>
  intro A v u hu rx ry;refine ⟨KH rx ry hx hy,fun p q e _=>?_⟩;subst e;cases hx
 | @lst k p q xs ys f hp hq hl he ih=>
  intro A v u hu rx ry;cases rx;cases ry;obtain ⟨its,r,pl,hz⟩:=I.list hp;obtain ⟨jts,r',pl',hz'⟩:=I.list hq;have l1:=r.length;have l2:=r'.length;have rc:SeqAt.RcAt A s (.ref p) (.ref q) ((List.range xs.length).all f):=by
   have:=SeqAt.RcAt.lists (A:=A) (e:=f) pl.isList pl'.isList (by simp only [size_toArray];omega) (by omega) fun j h1 h2=>by
    simp only [size_toArray] at h1 h2;have hj:j < xs.length:=by omega
    have hj':j < ys.length:=by omega
    obtain ⟨a,ha,ra⟩:=r.get (getElem?_eq_getElem hj);obtain ⟨c,hc,rc⟩:=r'.get (getElem?_eq_getElem hj');have ea:its.toArray[j]=a:=by
     have:=getElem?_eq_getElem h1;rw [ha] at this;simpa using (Option.some.inj this).symm
    have ec:jts.toArray[j]=c:=by
     have:=getElem?_eq_getElem h2;rw [hc] at this;simpa using (Option.some.inj this).symm
    rw [ea,ec];exact (ih j _ _ (getElem?_eq_getElem hj) (getElem?_eq_getElem hj') A.in1 a c (by rw [Fw];omega) ra rc).1
   rwa [size_toArray,<- l1] at this
  refine ⟨?_,fun _ _ _ _=>rc⟩;by_cases hne:p=q
  ·have hb:=(EqH.lst hp hq hl he).self I (congrArg V.ref hne);rw [hb,hne];exact SeqAt.EqAt.same _
  ·exact SeqAt.EqAt.of_refs hne rc
 | @lstN k p q xs ys hp hq hl=>
  intro A v u hu rx ry;cases rx;cases ry;obtain ⟨its,r,pl,hz⟩:=I.list hp;obtain ⟨jts,r',pl',hz'⟩:=I.list hq;have l1:=r.length;have l2:=r'.length;have rc:SeqAt.RcAt A s (.ref p) (.ref q) false:=SeqAt.RcAt.lists_lengths pl.isList pl'.isList (by simp only [size_toArray,bne_iff_ne,ne_eq];omega) (by omega);refine ⟨SeqAt.EqAt.of_refs (fun e=>hl ?_) rc,fun _ _ _ _=>rc⟩;subst e;rw [I.list_inj hp hq]
 | @tup k p q xs ys f hp hq he ih=>
  intro A v u hu rx ry;cases rx;cases ry;obtain ⟨its,r,pl,hz⟩:=I.tuple hp;obtain ⟨jts,r',pl',hz'⟩:=I.tuple hq;have l1:=r.length;have l2:=r'.length;have rc:SeqAt.RcAt A s (.ref p) (.ref q) ((List.range (min xs.length ys.length)).all f && xs.length == ys.length):=by
   have:=SeqAt.RcAt.tuples (A:=A) (e:=f) pl pl' (by omega) fun j h1 h2=>by
    simp only [size_toArray] at h1 h2;have hj:j < xs.length:=by omega
    have hj':j < ys.length:=by omega
    obtain ⟨a,ha,ra⟩:=r.get (getElem?_eq_getElem hj);obtain ⟨c,hc,rc⟩:=r'.get (getElem?_eq_getElem hj');have ea:its.toArray[j]=a:=by
     have:=getElem?_eq_getElem h1;rw [ha] at this;simpa using (Option.some.inj this).symm
    have ec:jts.toArray[j]=c:=by
     have:=getElem?_eq_getElem h2;rw [hc] at this;simpa using (Option.some.inj this).symm
    rw [ea,ec];exact (ih j _ _ (getElem?_eq_getElem hj) (getElem?_eq_getElem hj') A.in1 a c (by rw [Fw];omega) ra rc).1
   rwa [size_toArray,size_toArray,<- l1,<- l2] at this
  refine ⟨?_,fun _ _ _ _=>rc⟩;by_cases hne:p=q
  ·have hb:=(EqH.tup hp hq he).self I (congrArg V.ref hne);rw [hb,hne];exact SeqAt.EqAt.same _
  ·exact SeqAt.EqAt.of_refs hne rc
end
section
variable {X:Cx} {pins:List (Addr × Obj)} {σ:St} {H:Hp} {s:Shared}
end
section
variable {X:Cx}
noncomputable def yO (K:W.Frag):R2:=fun x y H Q=>∃ p q b,x=.ref p/\y=.ref q/\EqH K H 8 (.ref p) (.ref q) b/\Q (.bl b) H
theorem FM (hU:X.A.units + 64 < cLine):OpR X (compareOp .Eq) (yO X.K):=by
 intro pins s σ H x y v u Q I rx ry h;obtain ⟨p,q,b,rfl,rfl,hE,q'⟩:=h;exact (PF I hE X.A v u (by omega) rx ry).2 p q rfl rfl _ _ _ _ ⟨.bl b,H,I,rfl,q'⟩
end
theorem EqH.mono {K:W.Frag} {H:Hp} {j k:Nat} {x y:V} {b:Bool} (h:EqH K H j x y b):j <= k->EqH K H k x y b:=by
 induction h generalizing k with
 | flat hx hy=>exact fun _=>.flat hx hy
 | lst hp hq hl he ih=>
  intro hk;obtain ⟨m,rfl⟩:∃ m,k=m + 1:=⟨k - 1,by omega⟩;exact .lst hp hq hl fun j x y h1 h2=>ih j x y h1 h2 (by omega)
 | lstN hp hq hl=>
  intro hk;obtain ⟨m,rfl⟩:∃ m,k=m + 1:=⟨k - 1,by omega⟩;exact .lstN hp hq hl
 | tup hp hq he ih=>
  intro hk;obtain ⟨m,rfl⟩:∃ m,k=m + 1:=⟨k - 1,by omega⟩;exact .tup hp hq fun j x y h1 h2=>ih j x y h1 h2 (by omega)
noncomputable def YM:V->V->Bool
 | .int _,.int _=>true
 | .str _,.str _=>true
 | .bl _,.bl _=>true
 | .non,.non=>true
 | _,_=>false
theorem Xx {x y:V} (h:YM x y=true):sk x=true/\sk y=true/\eqV x y=decide (x=y):=by
 cases x <;> cases y <;> first | (exfalso;simp [YM] at h;done) | (refine ⟨rfl,rfl,?_⟩;rfl) | (refine ⟨rfl,rfl,?_⟩;rw [Bool.eq_iff_iff];simp [eqV];done)
theorem EqH.flats {K:W.Frag} {H:Hp} {k:Nat} {p q:Addr} {xs ys:List V} (hp:SqL K H p xs) (hq:SqL K H q ys) (h:∀ x ∈ xs,∀ y ∈ ys,YM x y=true):EqH K H (k + 1) (.ref p) (.ref q) (decide (xs=ys)):=by
 by_cases hl:xs.length=ys.length
 ·have hd:decide (xs=ys)=(List.range xs.length).all fun j=>eqV (xs.getD j .non) (ys.getD j .non):=by
   rw [Bool.eq_iff_iff,decide_eq_true_eq,all_eq_true];constructor
   ·rintro rfl j hj;have hj':=List.mem_range.mp hj;have hm:xs.getD j .non ∈ xs:=by rw [getD_eq_getElem?_getD,getElem?_eq_getElem hj'];exact getElem_mem hj'
    rw [(Xx (h _ hm _ hm)).2.2,decide_eq_true rfl]
   ·intro z;refine List.ext_getElem hl fun j h1 h2=>?_
    have:=z j (List.mem_range.mpr h1);rw [getD_eq_getElem?_getD,getD_eq_getElem?_getD,getElem?_eq_getElem h1,getElem?_eq_getElem h2] at this;have w:eqV xs[j] ys[j]=true:=this;rw [(Xx (h _ (getElem_mem h1) _ (getElem_mem h2))).2.2,decide_eq_true_eq] at w;exact w
  rw [hd];refine .lst hp hq hl fun j x y h1 h2=>?_
  have e:=Xx (h x (mem_of_getElem? h1) y (mem_of_getElem? h2));rw [getD_eq_getElem?_getD,getD_eq_getElem?_getD,h1,h2];exact .flat e.1 e.2.1
 ·rw [decide_eq_false (fun z=>hl (by rw [z]))];exact .lstN hp hq hl
end L2
namespace L2
open PySem PySem.Spec PyProof.Rows PySem.Builtin PySem.Builtin.ObjectAttr
theorem xH {H:Hp} {a:Addr} {o:HO} (h:H a=some o):upd H a o=H:=by
 funext b;unfold upd;by_cases e:b=a
 ·rw [if_pos e,e,h]
 ·rw [if_neg e]
noncomputable abbrev bmV:List Value:=[.type "ValueError",.type "Exception",.type "BaseException",.type "object"]
noncomputable def du (K:W.Frag) (C fI:Addr):Bool:=
 match K.lookup C with
 | some ⟨.type "type",_,.cls cd,sl⟩=>
  match cd.mro,sl.toList with
  | .ref D :: tl,[_,_,_,_,some (.builtin n),_]=>
   (D == C) && (n == "ValueError.__new__") && (cd.hasDel == false) && (cd.hasDict == true) && PySem.W.tailIn K bmV tl && PySem.W.nsOkIn K cd.ns && (PySem.W.nsIn K cd.ns "__init__" == some (some (.ref fI)))
  | _,_=>false
 | _=>false
theorem hJ {K:W.Frag} {h:Heap} {N:Addr} {mN:Str->Option Value} {x:Str} {v:Value} (KX:K.In h) (G:h.Ns N mN) (e:PySem.W.nsIn K N x=some (some v)):mN x=some v:=by
 obtain ⟨ob,rows,ep,e1,e2,_,look⟩:=G;unfold PySem.W.nsIn at e;split at e
 ·rename_i ho;have z:=KX _ _ ho;rw [e1] at z;cases z;cases e2;split at e
  ·rename_i en he;cases e;rw [<- look];unfold nsFind findBy;rw [<- Array.find?_toList,he];rfl
  ·split at e <;> cases e
 ·cases e
theorem Pu {K:W.Frag} {h:Heap} {C fI:Addr} (KX:K.In h) (e:du K C fI=true) :
  ∃ tl N nm q bs sn sub ab co dd k0 k1 k2 k3 k5 mN,h.get? C=some (excClassObj nm q C N bs tl true sn sub ab co dd k0 k1 k2 k3 k5 "ValueError.__new__")/\h.Ns N mN/\mN "__init__"=some (.ref fI)/\OwnTail h bmV tl:=by
 unfold du at e;split at e
 ·rename_i dd cd sl ho;split at e
  ·rename_i D tl k0 k1 k2 k3 n k5 hm hs;simp only [Bool.and_eq_true,beq_iff_eq] at e;obtain ⟨⟨⟨⟨⟨⟨e1,e2⟩,e3⟩,e4⟩,e5⟩,e6⟩,e7⟩:=e;obtain ⟨nm,bs,mro,ns,qn,hd,sn,sub,ab,co,del⟩:=cd;simp only at hm e3 e4 e6 e7;subst hm e1 e2 e3 e4;obtain ⟨l⟩:=sl;simp only at hs;subst hs;have G:h.Ns ns (h.nsMap ns):=.of_isNs (PySem.W.isNs_of_in KX e6);exact ⟨tl,ns,nm,qn,bs,sn,sub,ab,co,dd,k0,k1,k2,k3,k5,h.nsMap ns,KX _ _ ho,G,hJ KX G e7,PySem.W.tail_of_in KX e5⟩
  ·cases e
 ·cases e
section
variable {P:Program} {w:World} {A:Around} {h:Heap} {g:Array GenState} {d:Drawn} {t:Nat} {os:OsState} {K:W.Frag} {C fI:Addr} {R:Result->Shared->Prop}
theorem UD {us:List Value} (KX:K.In h) (e:du K C fI=true) (hf:PySem.W.typeIn K (.ref fI)=some (.type "function")) (hz:us.length <= sizeLine)
  (hq:∀ h' x,h.objs.size <= x->Heap.MadeExcOf h h' x (.ref C) us->codeAny (model P w) (A.under (.builtin "type.__call__" ⟨.ref C :: us,[]⟩)) (.call (.ref fI) ⟨.ref x :: us,[]⟩) (PySem.W.InitBack x R) ⟨h',g,d,t,os⟩) :
  codeAny (model P w) A (.call (.ref C) ⟨us,[]⟩) R ⟨h,g,d,t,os⟩:=by
 obtain ⟨tl,N,nm,q,bs,sn,sub,ab,co,dd,k0,k1,k2,k3,k5,mN,hC,hN,hi,T⟩:=Pu KX e;have F:=PySem.F.excBase_ValueError;have f1:=tc_lookup;have f2:=tc_bind (.ref C);have ty:(⟨h,g,d,t,os⟩:Shared).TypeIs (.ref C) "type" := ⟨_,hC,rfl⟩;refine codeAny_of_tree ?_;show wpAny _ _ (callAny (.ref C) _) _ _ _
 repeat (any_goals (first | assumption | with_reducible refine wpAny_loadPart_at hC ?_ | wp_step))
 refine ⟨rfl,?_⟩;refine codeAny_call_builtin_at (Code.quiet_builtin _ (by decide +kernel)) entry_typeCall (wpAny_check_type_call_sub hC ?_)
 repeat (first | with_reducible refine wpAny_loadPart_at hC ?_ | with_reducible refine wpAny_madeBy_exc hC ?_ | wp_step)
 refine codeAny_call_builtin_code (Code.quiet_builtin _ F.quiet) (wpAny_check_new_subT F T hC ?_);refine codeAny_exc_new_subT (rest:=us) F T hC ?_ hz;show wpAny _ _ _ _ _ _;generalize hh:(h.push { cls:=.type "tuple",data:=.seq us.toArray }).push { cls:=.ref C,data:=.fields #[.ref h.objs.size,.none,.none,.none,.bool false,.none] }=h2;have k:∀ b o,h.get? b=some o->h2.get? b=some o:=fun b o z=>by rw [<- hh];exact Heap.get?_push_of_some _ (Heap.get?_push_of_some _ z)
 have hx:h2.get? (h.objs.size + 1)=some { cls:=.ref C,data:=.fields #[.ref h.objs.size,.none,.none,.none,.bool false,.none] }:=by rw [<- hh];heap_get
 have ht:h2.get? h.objs.size=some { cls:=.type "tuple",data:=.seq us.toArray }:=by rw [<- hh];exact Heap.get?_push_of_some _ (Heap.get?_push_at rfl rfl)
 have M:Heap.MadeExcOf h h2 (h.objs.size + 1) (.ref C) us:=⟨k,Heap.get?_none_of_le (Nat.le_succ _),h.objs.size,hx,Heap.get?_none_of_le (Nat.le_refl _),ht⟩;have cC:(Value.ref C :: tl).contains (.ref C)=true:=by simp
 unfold isInstance
 repeat (first | with_reducible refine wpAny_loadPart_at hx ?_ | wp_step)
 refine wpAny_isSubtype_exc (k _ _ hC) ?_;rw [cC]
 repeat wp_step
 show wpAny _ _ (typeLookup (.ref C) _) _ _ _;refine wpAny_typeLookup_tail (k _ _ hC) (hN.keeps k) (T.keeps k) F.mroIs F.init.lookup ?_;rw [hi];refine wpAny_holding (wpAny_bind ((PySem.W.bind_fn (KX.keeps k) _ hf).here (wpAny_bind (wpAny_call ?_))));refine codeAny_mono (hq h2 _ (Nat.le_succ _) M) fun r s' z=>?_
 rcases r with e | (v | _ | _ | _) <;> first | exact z | exact z.elim | skip
 obtain ⟨rfl,z⟩:=z;exact wpAny_pure (wpAny_pure z)
end
noncomputable def GE:List Value->Bool
 | .ref _ :: r=>GE r
 | l=>l == bmV
theorem dl (self:Value):refuseLoop self "__setattr__" bmV=pure ():=by kernel_rfl
theorem So (self:Value):∀ {l:List Value},GE l=true->refuseLoop self "__setattr__" l=pure ()
 | .ref c :: r,e=>by rw [refuseLoop_ref];exact So self (l:=r) e
 | [],e=>by cases e
 | .type n :: r,e=>by rw [show Value.type n :: r=bmV from beq_iff_eq.mp e];exact dl self
 | .none :: r,e=>by rw [show Value.none :: r=bmV from beq_iff_eq.mp e];exact dl self
 | .bool b :: r,e=>by rw [show Value.bool b :: r=bmV from beq_iff_eq.mp e];exact dl self
 | .int b c :: r,e=>by rw [show Value.int b c :: r=bmV from beq_iff_eq.mp e];exact dl self
 | .str b c :: r,e=>by rw [show Value.str b c :: r=bmV from beq_iff_eq.mp e];exact dl self
 | .bytes b c :: r,e=>by rw [show Value.bytes b c :: r=bmV from beq_iff_eq.mp e];exact dl self
 | .float b c :: r,e=>by rw [show Value.float b c :: r=bmV from beq_iff_eq.mp e];exact dl self
 | .builtin b :: r,e=>by rw [show Value.builtin b :: r=bmV from beq_iff_eq.mp e];exact dl self
theorem vn (T:String) (h:bmV.contains (.type T)=true):∀ {l:List Value},GE l=true->l.contains (.type T)=true
 | .ref c :: r,e=>by rw [List.contains_cons,vn T h (l:=r) e,Bool.or_true]
 | [],e=>by cases e
 | .type n :: r,e=>by rw [show Value.type n :: r=bmV from beq_iff_eq.mp e];exact h
 | .none :: r,e=>by rw [show Value.none :: r=bmV from beq_iff_eq.mp e];exact h
 | .bool b :: r,e=>by rw [show Value.bool b :: r=bmV from beq_iff_eq.mp e];exact h
 | .int b c :: r,e=>by rw [show Value.int b c :: r=bmV from beq_iff_eq.mp e];exact h
 | .str b c :: r,e=>by rw [show Value.str b c :: r=bmV from beq_iff_eq.mp e];exact h
 | .bytes b c :: r,e=>by rw [show Value.bytes b c :: r=bmV from beq_iff_eq.mp e];exact h
 | .float b c :: r,e=>by rw [show Value.float b c :: r=bmV from beq_iff_eq.mp e];exact h
 | .builtin b :: r,e=>by rw [show Value.builtin b :: r=bmV from beq_iff_eq.mp e];exact h
structure Nu (K:W.Frag) (C:Addr):Prop where
 hd:PySem.W.hasDictIn K C=true
 ov:((PySem.W.clsIn K C).any fun cd=>GE cd.mro)=true
 sa:PySem.W.findIn K (.ref C) "__setattr__"=some (some (.builtin "object.__setattr__"))
 ga:PySem.W.findIn K (.ref C) "__getattribute__"=some (some (.builtin "BaseException.__getattribute__"))
 gt:PySem.W.findIn K (.ref C) "__getattr__"=some none
 ex:∃ fI,du K C fI=true
noncomputable def XF (x C:Addr) (od:Option Addr):Heap->Prop:=fun h=>∃ vs sl,h.get? x=some ⟨.ref C,od,.fields vs,sl⟩/\1 < vs.size/\vs[1]? = some .none
noncomputable def XD (dx:Addr) (fs:List (Str × V)):Heap->Prop:=fun h=>∃ mA,h.Ns1 dx mA/\(∀ f,Ds (fs.lookup f) (mA f))/\PySem.Within mA (fs.map (·.1))
theorem XF.at {x C:Addr} {od:Option Addr} {h h':Heap} (z:XF x C od h) (k:∀ o,h.get? x=some o->h'.get? x=some o):XF x C od h':=let ⟨vs,sl,e,r⟩:=z;⟨vs,sl,k _ e,r⟩
theorem XD.at {dx:Addr} {fs:List (Str × V)} {h h':Heap} (z:XD dx fs h) (k:∀ o,h.get? dx=some o->h'.get? dx=some o):XD dx fs h':=let ⟨mA,e,r⟩:=z;⟨mA,e.at k,r⟩
theorem XF.ok {P:Program} {w:World} {H:Hp} {h:Heap} {x C:Addr} {od:Option Addr} (z:XF x C od h):vd P w H h x (.ext (XF x C od)):=by
 obtain ⟨vs,sl,e,r⟩:=id z;exact ⟨z,⟨_,e⟩,fun h1 h2 q k=>q.at k⟩
theorem XD.ok {P:Program} {w:World} {H:Hp} {h:Heap} {dx:Addr} {fs:List (Str × V)} (z:XD dx fs h):vd P w H h dx (.ext (XD dx fs)):=by
 obtain ⟨mA,⟨o,es,ep,e,_⟩,_⟩:=id z;exact ⟨z,⟨_,e⟩,fun h1 h2 q k=>q.at k⟩
section
variable {prog:Program} {w:World} {A:Around} {E:Value->Shared->Prop} {K:W.Frag} {C x:Addr} {s:Shared} {R:Result->Shared->Prop}
theorem RN {ox:Obj} {od:Option Obj} {name:Str} {tk:Tok} {v:Value} (KX:K.In s.heap) (J:PySem.W.InstAt s.heap x ox C od) (c:Nu K C) (ht:Xb K C name)
  (h:wpAny (model prog w) A.in1 (storeInOwnDict (.ref x) (.ref C) (.str name tk) name v false)
   (fun fin s'=>match fin with | .done f=>R (.ok f) s' | .again c'=>c'.quiet=true/\codeAny (model prog w) A c' R s') (fun e s'=>R (.error e) s') s) :
  codeAny (model prog w) A (.call (.builtin "object.__setattr__") ⟨[.ref x,.str name tk,v],[]⟩) R s:=by
 have G:=PySem.F.store_object;obtain ⟨cd,hc,ho⟩:=PySem.W.any_some c.ov;have ne:cd.mro.isEmpty=false:=by
  cases q:cd.mro with
  | nil=>rw [q] at ho;cases ho
  | cons _ _=>rfl
 have sub:PySem.W.Looks (model prog w) s.heap (isInstance (.ref x) (.type "object")) true:=
  J.type.andThen (PySem.W.looks_mroIn KX (by unfold PySem.W.mroIn;rw [hc,Option.bind_some,if_neg (by rw [ne];decide),vn "object" (by decide) ho]))
 refine codeAny_call_builtin G.slot.plain G.entry (@PySem.W.check_slot (model prog w) _ _ s "object.__setattr__" "object" "__setattr__" (.ref x) [.str name tk,v] [] _ G.kind G.split sub (G.args (.ref x) (.str name tk) v) ?_);have hm:PySem.W.Looks (model prog w) s.heap (mroOf (.ref C)) cd.mro:=(PySem.W.looks_clsIn KX hc).andThen .now;rw [PySem.W.osa_eq,refuse_eq];refine wpAny_bind (wpAny_bind (J.type.here (wpAny_bind (hm.here ?_))));rw [So _ ho];exact wpAny_pure (wpAny_bind (J.type.here (wpAny_bind ((PySem.W.looks_findIn KX ht).here (wpAny_bind (wpAny_pure h))))))
end
section
variable {X:Cx} {pins:List (Addr × Obj)} {σ:St} {H:Hp} {s:Shared} {x C dx:Addr} {fs:List (Str × V)} {f:Str} {y:V} {u:Value} {A:Around} {E:Value->Shared->Prop} {Q:Unit->Shared->Prop}
theorem BF (I:Inv X pins σ H s) (e:H x=some (.ext (XF x C none))) (c:Nu X.K C) (n:Xb X.K C f) (ry:Td y u)
  (h:∀ dx s',H dx=none->dx ≠ x->Inv X pins σ (upd (upd H x (.ext (XF x C (some dx)))) dx (.ext (XD dx [(f,y)]))) s'->Q () s'):wpAny (model X.prog X.w) A (setAttr (.ref x) f u) Q E s:=by
 obtain ⟨vs,sl,hx,z1,z2⟩:=(show vd X.prog X.w H s.heap x (.ext (XF x C none)) from I.hok _ _ e).1;have J:PySem.W.InstAt s.heap x ⟨.ref C,none,.fields vs,sl⟩ C none:=⟨hx,rfl,rfl,True.intro⟩;refine PySem.W.set_plain I.kIn J c.sa (RN (s:={ s with toks:=s.toks + 1 }) I.kIn J c n ?_);obtain ⟨cd,hc,hd'⟩:=PySem.W.any_some c.hd;refine wpAny_bind (wpAny_pure (wpAny_bind (wpAny_bind (wpAny_loadPart hx (wpAny_bind (PySem.W.Looks.here (s:={ s with toks:=s.toks + 1 }) (PySem.W.looks_clsIn I.kIn hc) ?_))))));rw [hd'];show wpAny _ _ (alloc PySem.W.emptyDict >>= fun d=>(update x fun o=>{ o with dict:=some d }) >>= fun _=>dictMade (.ref C) x d) _ _ _;refine wpAny_bind (wpAny_alloc (wpAny_bind ?_));have hx1:(s.heap.push PySem.W.emptyDict).get? x=some ⟨.ref C,none,.fields vs,sl⟩:=Heap.get?_push_of_some _ hx;have lx:x < s.heap.objs.size:=Heap.lt_size hx;refine wpAny_update hx1 (wpAny_pure ?_);have e1:(s.heap.push PySem.W.emptyDict).get? s.heap.objs.size=some PySem.W.emptyDict:=Heap.get?_push_size s.heap rfl;have e3:(s.heap.push PySem.W.emptyDict).Ns s.heap.objs.size (fun _=>none):=⟨PySem.W.emptyDict,#[],_,e1,rfl,(fun e he=>absurd he (by simp)),fun _=>rfl⟩;generalize hg2:(s.heap.push PySem.W.emptyDict).update x (fun o=>{ o with dict:=some s.heap.objs.size })=h2;have nx:s.heap.objs.size ≠ x:=Nat.ne_of_gt lx;have k2:∀ b,b ≠ x->h2.get? b=(s.heap.push PySem.W.emptyDict).get? b:=fun b hb=>by rw [<- hg2];exact Heap.get?_update_other _ _ (Ne.symm hb)
 have x2:h2.get? x=some ⟨.ref C,some s.heap.objs.size,.fields vs,sl⟩:=by rw [<- hg2];exact Heap.get?_update_self _ hx1 rfl
 have n2:h2.Ns1 s.heap.objs.size (fun _=>none):=(Heap.Ns1.of_empty e3).at fun o q=>(k2 _ nx).trans q
 refine wpAny_bind (wpAny_pure (wpAny_bind ?_));refine wpAny_nsSet1 (s:={ s with heap:=h2,toks:=s.toks + 1 }) n2 fun h3 n3 s3=>?_
 have wi:PySem.Within (fun a=>if a=f then some u else none) [f]:=PySem.Within.cons f u (fun a ha=>absurd rfl ha);obtain ⟨oD,esD,epD,hoD,hdD,hcD⟩:=n3.count wi;refine wpAny_bind (wpAny_lookBehind hoD (by rw [hdD];exact pastItsLine_dict (Nat.le_trans hcD (by rw [sizeLine_eq];show 1 <= _;decide))) ?_);refine wpAny_pure (h s.heap.objs.size _ (I.hok.fresh (Nat.le_refl _)) nx ?_);have k3:∀ b o,b ≠ x->s.heap.get? b=some o->h3.get? b=some o:=fun b o hb q=>
  (s3.2 b (fun z=>by rw [z] at q;exact absurd (Heap.lt_size q) (Nat.lt_irrefl _))).trans ((k2 b hb).trans (Heap.get?_push_of_some _ q))
 have x3:h3.get? x=some ⟨.ref C,some s.heap.objs.size,.fields vs,sl⟩:=(s3.2 x (Ne.symm nx)).trans x2;generalize hgA:s.heap.update x (fun o=>{ o with dict:=some s.heap.objs.size })=hA;have kA:∀ b,b ≠ x->hA.get? b=s.heap.get? b:=fun b hb=>by rw [<- hgA];exact Heap.get?_update_other _ _ (Ne.symm hb)
 have xA:hA.get? x=some ⟨.ref C,some s.heap.objs.size,.fields vs,sl⟩:=by rw [<- hgA];exact Heap.get?_update_self _ hx rfl
 have szA:hA.objs.size=s.heap.objs.size:=by rw [<- hgA];exact Heap.size_update _ _ _
 have IA:=I.write (x:=x) (e:=x) (o:=.ext (XF x C (some s.heap.objs.size))) (h':=hA) (t':=s.toks) (by rw [e];exact True.intro) (.inl rfl) (fun b o hb q=>(kA b hb).trans q) ⟨_,xA⟩ (XF.ok ⟨vs,sl,xA,z1,z2⟩);refine IA.laid (a:=s.heap.objs.size) (h':=h3) (fun b o q=>?_) (Nat.le_of_eq szA) (XD.ok ⟨_,n3,fun g=>?_,wi⟩)
 ·by_cases hb:b=x
  ·subst hb;rw [xA] at q;rw [x3,<- q]
  ·rw [kA b hb] at q;exact k3 b o hb q
 ·show Ds (List.lookup g [(f,y)]) (if g=f then some u else none);by_cases hq:g=f
  ·rw [if_pos hq,hq,List.lookup_cons_self];exact ry
  ·rw [if_neg hq,lookup_cons,beq_false_of_ne hq];exact True.intro
theorem pC (I:Inv X pins σ H s) (e:H x=some (.ext (XF x C (some dx)))) (ed:H dx=some (.ext (XD dx fs))) (c:Nu X.K C) (n:Xb X.K C f) (hl:fs.length < 1000) (ry:Td y u)
  (h:∀ s',Inv X pins σ (upd H dx (.ext (XD dx (qh f y fs)))) s'->Q () s'):wpAny (model X.prog X.w) A (setAttr (.ref x) f u) Q E s:=by
 obtain ⟨vs,sl,hx,z1,z2⟩:=(show vd X.prog X.w H s.heap x (.ext (XF x C (some dx))) from I.hok _ _ e).1;obtain ⟨mA,n1,r,wi⟩:=(show vd X.prog X.w H s.heap dx (.ext (XD dx fs)) from I.hok _ _ ed).1;obtain ⟨od,ho,hlk⟩:=Tm n1;have J:PySem.W.InstAt s.heap x ⟨.ref C,some dx,.fields vs,sl⟩ C (some od):=⟨hx,rfl,rfl,ho⟩;refine PySem.W.set_plain I.kIn J c.sa (RN (s:={ s with toks:=s.toks + 1 }) I.kIn J c n ?_);obtain ⟨cd,hc,hd'⟩:=PySem.W.any_some c.hd;refine wpAny_bind (wpAny_pure (wpAny_bind (wpAny_bind (wpAny_loadPart hx (wpAny_bind (PySem.W.Looks.here (s:={ s with toks:=s.toks + 1 }) (PySem.W.looks_clsIn I.kIn hc) ?_))))));rw [hd'];refine wpAny_pure (a:=some dx) (wpAny_bind (wpAny_pure (wpAny_bind ?_)));refine wpAny_nsSet1 (s:={ s with toks:=s.toks + 1 }) n1 fun h3 n3 s3=>?_
 obtain ⟨oD,esD,epD,hoD,hdD,hcD⟩:=n3.count (PySem.Within.cons f u wi);refine wpAny_bind (wpAny_lookBehind hoD (by rw [hdD];exact pastItsLine_dict (Nat.le_trans hcD (by rw [length_cons,length_map,sizeLine_eq];omega))) ?_);refine wpAny_pure (h _ ?_);refine I.write (x:=dx) (e:=dx) (by rw [ed];exact True.intro) (.inl rfl) (fun b o hb q=>(s3.2 b hb).trans q) ⟨_,hoD⟩ (XD.ok ⟨_,n3,fun g=>?_,fun g hg=>?_⟩)
 ·show Ds ((qh f y fs).lookup g) (if g=f then some u else mA g);rw [tm];by_cases q:g=f
  ·rw [if_pos q,if_pos q];exact ry
  ·rw [if_neg q,if_neg q];exact r g
 ·by_cases q:g=f
  ·rw [q];exact (yl f y fs).1
  ·refine (yl f y fs).2 g (wi g fun z=>hg ?_);show (if g=f then some u else mA g)=none;rw [if_neg q];exact z
noncomputable def XA (x C:Addr) (od:Option Addr):Heap->Prop:=fun h=>∃ vs sl,h.get? x=some ⟨.ref C,od,.fields vs,sl⟩
theorem XA.at {x C:Addr} {od:Option Addr} {h h':Heap} (z:XA x C od h) (k:∀ o,h.get? x=some o->h'.get? x=some o):XA x C od h':=let ⟨vs,sl,e⟩:=z;⟨vs,sl,k _ e⟩
theorem XA.ok {P:Program} {w:World} {H:Hp} {h:Heap} {x C:Addr} {od:Option Addr} (z:XA x C od h):vd P w H h x (.ext (XA x C od)):=by
 obtain ⟨vs,sl,e⟩:=id z;exact ⟨z,⟨_,e⟩,fun h1 h2 q k=>q.at k⟩
theorem JO {b:Bool} {Q:Value->Shared->Prop} (I:Inv X pins σ H s) (e:H x=some (.ext (XA x C (some dx)))) (ed:H dx=some (.ext (XD dx fs))) (c:Nu X.K C) (n:Xb X.K C f) (l:fs.lookup f=some y)
  (h:∀ u s',Inv X pins σ H s'->Td y u->Q u s'):wpAny (model X.prog X.w) A (getAttr (.ref x) f b) Q E s:=by
 obtain ⟨vs,sl,hx⟩:=(show vd X.prog X.w H s.heap x (.ext (XA x C (some dx))) from I.hok _ _ e).1;obtain ⟨mA,n1,r,wi⟩:=(show vd X.prog X.w H s.heap dx (.ext (XD dx fs)) from I.hok _ _ ed).1;obtain ⟨od,ho,hlk⟩:=Tm n1;obtain ⟨u,hu,ru⟩:=Ds.some_of (v:=y) (o:=mA f) (by rw [<- l];exact r f);have J:PySem.W.InstAt s.heap x ⟨.ref C,some dx,.fields vs,sl⟩ C (some od):=⟨hx,rfl,rfl,ho⟩;have fin:=h u _ (I.tok (s.toks + 1)) ru;have KX:=I.kIn;clear h;obtain ⟨cd,hc,hd'⟩:=PySem.W.any_some c.hd;obtain ⟨cd',hc',hov⟩:=PySem.W.any_some c.ov;rw [hc] at hc';cases hc';have hh:=Ax ru;obtain ⟨hp,g,d,t,os⟩:=s;have L0:=J.type (M:=model X.prog X.w);have L1:=PySem.W.looks_findIn (M:=model X.prog X.w) KX c.ga;have L2:=PySem.W.looks_findIn (M:=model X.prog X.w) KX c.gt;have L3:=PySem.W.looks_findIn (M:=model X.prog X.w) KX n;have L4:=PySem.W.looks_own (M:=model X.prog X.w) (name:=f) (r:=some u) KX J hc (by unfold PySem.W.ownOf;rw [if_pos hd'];show PySem.W.lookIn f od=_;rw [hlk,hu]);have FB:=PySem.F.excAttr_ValueError;have f3:=FB.ga.bind (.ref x);have hx0:(b && onTheHeap (Value.builtin "BaseException.__getattribute__"))=false:=by cases b <;> rfl
 have hx2:(Value.builtin "BaseException.__getattribute__" == Value.builtin "object.__getattribute__")=false:=by decide +kernel
 have hx1:(onTheHeap (Value.ref C) && Value.builtin "BaseException.__getattribute__" == Value.builtin "object.__getattribute__")=false:=by rw [hx2];rfl
 unfold getAttr getAttrBy;refine wpAny_bind (wpAny_mkText (wpAny_holding (wpAny_bind (L0.at (wpAny_bind (L1.at ?_))))));dsimp only;rw [if_neg (by rw [hx1];decide)];unfold getAttrByItsOwn
 repeat (any_goals (first | assumption | with_reducible refine PySem.W.Looks.at (by assumption) ?_ | wp_step))
 have ne:cd.mro.isEmpty=false:=by
  cases q:cd.mro with
  | nil=>rw [q] at hov;cases hov
  | cons _ _=>rfl
 have sub:PySem.W.Looks (model X.prog X.w) hp (isInstance (.ref x) (.type "BaseException")) true:=
  L0.andThen (PySem.W.looks_mroIn KX (by unfold PySem.W.mroIn;rw [hc,Option.bind_some,if_neg (by rw [ne];decide),vn "BaseException" (by decide) hov]))
 refine codeAny_call_builtin FB.ga.plain PySem.F.entry_bexc_ga (@PySem.W.check_slot (model X.prog X.w) _ _ ⟨hp,g,d,t + 1,os⟩ "BaseException.__getattribute__" "BaseException" "__getattribute__" (.ref x) [.str f t] [] _ (by decide +kernel) (by decide +kernel) sub (PySem.F.args_bexc_ga (.ref x) (.str f t)) ?_);unfold Builtin.«object.__getattribute__»
 repeat (any_goals (first | assumption | with_reducible refine PySem.W.Looks.at (by assumption) ?_ | wp_step))
 show wpAny _ _ (handedOut u) _ _ _;rw [PySem.W.handedOut_of hh];exact wpAny_pure fin
end
noncomputable abbrev TJ:=St->Hp->(Hp->Prop)->Prop
noncomputable def PJ (X:Cx) (es:List Expr) (n:Nat) (t:TJ):Prop:=
 ∀ (pins:List (Addr × Obj)) (s:Shared) (σ:St) (H:Hp) (Q:Hp->Prop) (acc:Str) (R:Str->Shared->Prop),Inv X pins σ H s->acc.length + n <= sizeLine->t σ H Q ->
  (∀ out H' s',Inv X pins σ H' s'->out.length <= sizeLine->Q H'->R out s')->Joins (model X.prog X.w) X.A X.xe (evalEach es X.env) acc R s
noncomputable def tJ0:TJ:=fun _ H Q=>Q H
noncomputable def tJI (te:TE) (t:TJ):TJ:=fun σ H Q=>te σ H fun v H1=>∃ i,v=.int i/\i.natAbs.log2 < 1920/\t σ H1 Q
noncomputable def jE (t:TJ):TE:=fun σ H Q=>t σ H fun H1=>∀ y:Str,Q (.str y) H1
section
variable {X:Cx} {e:Expr} {es:List Expr} {n:Nat} {t:TJ} {te:TE} {pos:Pos}
theorem dL:PJ X [] 0 tJ0:=fun pins s σ H Q acc R I hl q h=>h acc H s I hl q
theorem yz {c:Str} {k:Nat} (h:PJ X es n t):PJ X (.Constant (.str c) k pos :: es) (n + c.length) t:=fun pins s σ H Q acc R I hl q hR=>by
 show wpAny _ _ _ _ _ _;refine Calls.Constant_str ⟨c,_,rfl,by rw [strLen_append];omega,h pins _ σ H Q _ R (I.tok _) (by rw [strLen_append];omega) q hR⟩
theorem yH (he:PE X e te) (h:PJ X es n t):PJ X (.FormattedValue e (-1) none pos :: es) (n + 2000) (tJI te t):=fun pins s σ H Q acc R I hl q hR=>by
 show wpAny _ _ _ _ _ _;refine wpAny_FormattedValue_plain (thn (he pins s σ H _ I q) fun u s1 hZ1=>?_);obtain ⟨v,H1,I1,r,i,ev,hi,q1⟩:=hZ1;subst ev;obtain ⟨tk,rfl⟩:=(show ∃ tk,u=Value.int i tk from r);have hz:=int_text_fits hi;have hz2:(Str.ofString (toString i)).length <= 2000:=by
  have e:=int_text_length_le (k:=1920) (by decide) hi;rw [PySem.ofString_length];omega
 refine wpAny_formatField_int hi ⟨_,_,rfl,by rw [strLen_append];omega,h pins _ σ H1 Q _ R (I1.tok _) (by rw [strLen_append];omega) q1 hR⟩
theorem tD {e2:Expr} (h:PJ X (e :: e2 :: es) n t) (hn:n <= sizeLine):PE X (.JoinedStr (e :: e2 :: es) pos) (jE t):=by
 intro pins s σ H Q I q;refine wpAny_JoinedStr (h pins s σ H _ _ _ I (by show 0 + n <= _;omega) q fun out H' s' I' hl q'=>⟨hl,?_⟩);exact ⟨.str out,H',I'.tok _,⟨_,rfl⟩,q' out⟩
end
structure wO (K:W.Frag) (L:Addr) (m:Str):Prop where
 rd:PySem.W.readsIn K L (.type "type")=true
 fd:PySem.W.findCls K (.ref L) (.type "type") m=some (.val (.builtin "ValueError.__init__"))
 ga:PySem.W.specialIn K (.ref L) "__getattribute__"=some (some (.builtin "type.__getattribute__"))
noncomputable def HH (K:W.Frag) (t:TA):TE:=fun σ H Q=>t σ H fun vs H1=>∃ x C od v,vs=[.ref x,v]/\H1 x=some (.ext (XF x C od))/\Nu K C/\Q .non H1
section
variable {X:Cx} {L:Addr} {x:Str} {p pos apos:Pos} {e:Expr} {es:List Expr} {t:TA}
theorem PD {pins:List (Addr × Obj)} {σ:St} {H:Hp} {s:Shared} {a C:Addr} {od:Option Addr} {u:Value} {A:Around} {E:Value->Shared->Prop} {Q:Value->Shared->Prop} (I:Inv X pins σ H s) (ea:H a=some (.ext (XF a C od))) (c:Nu X.K C)
  (h:∀ s',Inv X pins σ H s'->Q .none s'):wpAny (model X.prog X.w) A (call (.builtin "ValueError.__init__") [.ref a,u]) Q E s:=by
 obtain ⟨vs,sl,hx,z1,z2⟩:=(show vd X.prog X.w H s.heap a (.ext (XF a C od)) from I.hok _ _ ea).1;obtain ⟨fI,hfI⟩:=c.ex;obtain ⟨tl,N,nm,q,bs,sn,sub,ab,co,dd,k0,k1,k2,k3,k5,mN,hC,hN,hi,T⟩:=Pu I.kIn hfI;have F:=PySem.F.excBase_ValueError;obtain ⟨v0,h0⟩:∃ v0,vs[0]? = some v0:=⟨vs[0]'(by omega),Array.getElem?_eq_getElem (by omega)⟩;obtain ⟨hh,g,d,tt,os⟩:=s;refine wpAny_call (codeAny_call_builtin F.init.plain F.initEntry (wpAny_check_init_subT F T hC hx rfl ?_));show wpAny _ _ (newTuple [u] >>= fun tp=>(do
  let old <- field (.ref a) 0
  setField (.ref a) 0 tp
  if let .ref _:=old then letGo [old] []) >>= fun _=>ret .none) _ _ _
 have hx1:(hh.push { cls:=.type "tuple",data:=.seq [u].toArray }).get? a=some ⟨.ref C,od,.fields vs,sl⟩:=Heap.get?_push_of_some _ hx;refine wpAny_bind (wpAny_newTuple (wpAny_bind (wpAny_bind (wpAny_field hx1 rfl h0 (wpAny_bind (wpAny_setField hx1 rfl (by omega) ?_))))));have x2:=Heap.get?_update_self (h:=hh.push { cls:=.type "tuple",data:=.seq [u].toArray }) (Obj.mapFields (·.setIfInBounds 0 (.ref hh.objs.size))) hx1 rfl;have fin:∀ s',s'=(⟨(hh.push { cls:=.type "tuple",data:=.seq [u].toArray }).update a (Obj.mapFields (·.setIfInBounds 0 (.ref hh.objs.size))),g,d,tt,os⟩:Shared)->Q .none s':=by
  rintro s' rfl;refine h _ ?_;have I1:Inv X pins σ H ⟨hh.push { cls:=.type "tuple",data:=.seq [u].toArray },g,d,tt,os⟩:=I.kept (t':=tt) fun b o q=>Heap.get?_push_of_some _ q
  have:=I1.write (x:=a) (e:=a) (o:=.ext (XF a C od)) (h':=(hh.push { cls:=.type "tuple",data:=.seq [u].toArray }).update a (Obj.mapFields (·.setIfInBounds 0 (.ref hh.objs.size)))) (t':=tt) (by rw [ea];exact True.intro) (.inl rfl)
   (fun b o hb q=>(Heap.get?_update_other _ _ (Ne.symm hb)).trans q) ⟨_,x2⟩ (XF.ok ⟨vs.setIfInBounds 0 (.ref hh.objs.size),sl,x2,by simpa using z1,by rw [Array.getElem?_setIfInBounds_ne (by decide)];exact z2⟩)
  rwa [xH ea] at this
 cases v0 with
 | ref b=>exact wpAny_bind (wpAny_holding (wpAny_point (wpAny_pure (wpAny_pure (fin _ rfl)))))
 | _=>exact wpAny_pure (wpAny_pure (fin _ rfl))
theorem VF {pl:Sem Bool} {m:Str} (hg:Gl X x) (hm:X.mg x=some (.ref L)) (c:wO X.K L m) (ha:PA X (e :: es) t)
  (hdb:(x == ("__debug__" : Str))=false:=by decide) (hst:starEach (e :: es) X.env=(false,eval e X.env) :: starEach es X.env:=by rfl) (hpl:(backTo pos (starEach es X.env)).any (·.1)=false:=by rfl)
  (ht:eval (.Call (.Attribute (.Name x p) m apos) (e :: es) [] pos) X.env=(do
   let ov <- eval (.Name x p) X.env
   standAt apos.atName
   let (f,first) <- holding [ov] (getMethod ov m pl)
   callWith pos f first (backTo pos (starEach (e :: es) X.env)) (backToKw pos (keywordEach [] X.env))):=by rfl) :
  PE X (.Call (.Attribute (.Name x p) m apos) (e :: es) [] pos) (HH X.K t):=by
 intro pins s σ H Q I h;refine PySem.W.methodCall_KW (pl:=pl) (ll I hg hm ?_ hdb) ht;refine PySem.W.method_cls I.kIn c.ga (PySem.W.cls_value I.kIn c.rd c.fd rfl ?_);refine PyProof.Rows.callWith_builtin1 (thn (ha pos pins _ σ H _ (I.tok (s.toks + 1)) h) fun us s2 hZ1=>?_) hst hpl;obtain ⟨vs,H2,I2,r,a,C,od,v,ev,ea,cc,q⟩:=hZ1;subst ev;obtain ⟨u1,u2,rfl,r1,r2⟩:=rB r;obtain rfl:u1=Value.ref a:=r1;exact PD I2 ea cc fun s3 I3=>⟨.non,H2,I3,rfl,q⟩
end
structure MkX (K:W.Frag) (C fI:Addr):Prop where
 e:du K C fI=true
 fn:PySem.W.typeIn K (.ref fI)=some (.type "function")
 kp:PySem.W.keepIn K (.ref C)=true
noncomputable def cI (C:Addr) (sp:Sp) (t:TA):TE:=fun σ H Q=>t σ H fun vs H1=>vs.length <= sizeLine/\∀ x,H1 x=none->sp (.ref x :: vs) (upd H1 x (.ext (XF x C none))) (fun v H2=>v=.non/\Q (.ref x) H2) (fun _ _ _=>False)
noncomputable def MH (K:W.Frag) (ta tv:TE) (f:Str):TS:=fun D σ H=>tv σ H fun y H1=>ta σ H1 fun x H2=>∃ a C,x=.ref a/\H2 a=some (.ext (XF a C none))/\Nu K C/\Xb K C f /\
 ∀ dx,H2 dx=none->dx ≠ a->D.nx σ (upd (upd H2 a (.ext (XF a C (some dx)))) dx (.ext (XD dx [(f,y)])))
noncomputable def kI (K:W.Frag) (ta tv:TE) (f:Str):TS:=fun D σ H=>tv σ H fun y H1=>ta σ H1 fun x H2=>∃ a C dx fs,x=.ref a/\H2 a=some (.ext (XF a C (some dx)))/\H2 dx=some (.ext (XD dx fs))/\Nu K C/\Xb K C f/\fs.length < 1000 /\
 D.nx σ (upd H2 dx (.ext (XD dx (qh f y fs))))
noncomputable def OM (K:W.Frag) (ta:TE) (f:Str):TE:=fun σ H Q=>ta σ H fun x H1=>∃ a C dx fs v,x=.ref a/\H1 a=some (.ext (XA a C (some dx)))/\H1 dx=some (.ext (XD dx fs))/\Nu K C/\Xb K C f/\fs.lookup f=some v/\Q v H1
section
variable {X:Cx} {k:Nat} {f C:Addr} {fd:FuncData} {ps:List Str} {sp:Sp} {x g:Str} {p pos pos' apos:Pos} {e o value:Expr} {es:List Expr} {ta tv:TE} {t:TA}
theorem qD {pins:List (Addr × Obj)} {σ:St} {H:Hp} {s:Shared} {Q:VK} {us:List Value} {vs:List V} (M:MkX X.K C f) (F:Ub X.prog X.w X.K X.mg X.base (fun _ _ _ _ _ _=>False) k f fd ps sp) (hr:pj (k + 1) X.A) (hb:vc X.K fd ps [])
  (I:Inv X pins σ H s) (r:Sd vs us) (hz:vs.length <= sizeLine) (h:∀ x,H x=none->sp (.ref x :: vs) (upd H x (.ext (XF x C none))) (fun v H2=>v=.non/\Q (.ref x) H2) (fun _ _ _=>False)) :
  wpAny (model X.prog X.w) X.A (call (.ref C) us) (EP X pins σ Q) X.xe s:=by
 obtain ⟨hh,g,d,tt,os⟩:=s;refine wpAny_call (UD (fI:=f) I.kIn M.e M.fn (by rw [<- r.length];exact hz) fun h' x hx Mx=>?_);obtain ⟨tp,ox,_,_⟩:=Mx.there;have I2:=I.laid (a:=x) (o:=.ext (XF x C none)) (h':=h') (t':=tt) Mx.keeps hx (XF.ok ⟨_,_,ox,Nat.lt_of_lt_of_eq (show 1 < 6 by decide) rfl,rfl⟩);have hq:=h x (I.hok.fresh hx);have r2:Sd (V.ref x :: vs) (Value.ref x :: us):=.cons rfl r;have hl:((Value.ref x :: us) ++ []).length=ps.length:=by
  rw [append_nil,<- r2.length];exact F.len _ _ _ _ hq
 have hb2:=hb ⟨h',g,d,tt,os⟩ (Value.ref x :: us) I2.kIn hl;rw [append_nil] at hb2;refine codeAny_mono (F.run _ X.stack _ _ ⟨Value.ref x :: us,[]⟩ (Value.ref x :: us) _ _ _ (hr.make C us []) (I2.env0.make C us []) hb2 r2 hq) fun r s' hq'=>?_
 rcases r with e | (u | _ | _ | _) <;> first | exact False.elim hq' | skip
 obtain ⟨v,H',I3,rv,ev,q3⟩:=I2.after hq';subst ev;exact ⟨rv,⟨V.ref x,H',I3,rfl,q3⟩⟩
theorem OG (M:MkX X.K C f) (F:Ub X.prog X.w X.K X.mg X.base (fun _ _ _ _ _ _=>False) k f fd ps sp) (hr:pj (k + 1) X.A) (hg:Gl X x) (hm:X.mg x=some (.ref C)) (hb:vc X.K fd ps [])
  (ha:PA X (e :: es) t) (hdb:(x == ("__debug__" : Str))=false:=by decide) (he:starEach (e :: es) X.env=(false,eval e X.env) :: starEach es X.env:=by rfl) (hpl:(backTo pos (starEach es X.env)).any (·.1)=false:=by rfl) :
  PE X (.Call (.Name x p) (e :: es) [] pos) (cI C sp t):=by
 intro pins s σ H Q I h;refine wpAny_Call_Name_kw (ll I hg hm ?_ hdb);exact PySem.W.callWith_K (h₀:=X.base) I.ok.mod.kin M.kp (thn (ha pos pins s σ H _ I h) fun us s1 ⟨vs,H1,I1,r,hz,q⟩=>⟨I1.kIn,qD M F hr hb I1 r hz q⟩) he hpl
theorem JG (ha:PE X o ta) (hv:PE X value tv) (hs:swapsWith value (some (.Attribute o g pos')) pos.line X.env=pure false):PS X (.Assign [.Attribute o g pos'] value pos) (MH X.K ta tv g):=by
 intro pins s σ H D I h;refine plainObj_wpAny_Assign_Attribute (thn (hv pins s σ H _ I h) fun u s1 ⟨y,H1,I1,ry,q⟩=>thn (ha pins s1 σ H1 _ I1 q) fun ov s2 hZ1=>?_) hs;obtain ⟨x,H2,I2,rx,a,C,ex,ea,c,n,q2⟩:=hZ1;subst ex;obtain rfl:ov=Value.ref a:=rx;exact BF I2 ea c n ry fun dx s3 hd hne I3=>⟨σ,_,I3,q2 dx hd hne⟩
theorem pG (ha:PE X o ta) (hv:PE X value tv) (hs:swapsWith value (some (.Attribute o g pos')) pos.line X.env=pure false):PS X (.Assign [.Attribute o g pos'] value pos) (kI X.K ta tv g):=by
 intro pins s σ H D I h;refine plainObj_wpAny_Assign_Attribute (thn (hv pins s σ H _ I h) fun u s1 ⟨y,H1,I1,ry,q⟩=>thn (ha pins s1 σ H1 _ I1 q) fun ov s2 hZ1=>?_) hs;obtain ⟨x,H2,I2,rx,a,C,dx,fs,ex,ea,ed,c,n,hl,q2⟩:=hZ1;subst ex;obtain rfl:ov=Value.ref a:=rx;exact pC I2 ea ed c n hl ry fun s3 I3=>⟨σ,_,I3,q2⟩
theorem WC (he:PE X e ta) (hb:attributeBase e g X.env (eval e X.env)=eval e X.env):PE X (.Attribute e g pos) (OM X.K ta g):=by
 intro pins s σ H Q I h;refine fD hb (thn (he pins s σ H _ I h) fun u s1 hZ1=>?_);obtain ⟨x,H1,I1,rx,a,C,dx,fs,v,ex,ea,ed,c,n,l,q⟩:=hZ1;subst ex;obtain rfl:u=Value.ref a:=rx;exact JO I1 ea ed c n l fun u s2 I2 ru=>⟨v,H1,I2,ru,q⟩
end
end L2
namespace L2
open PySem PySem.Spec PyProof.Rows PySem.Builtin PySem.Builtin.ObjectAttr
noncomputable def FlA (x C:Addr) (od:Option Addr) (T:Addr) (fl:Value) (h:Heap):Prop:=
 T ≠ x/\∃ vs sl oT ts,h.get? x=some ⟨.ref C,od,.fields vs,sl⟩/\vs[1]? = some (.ref T)/\h.get? T=some oT/\oT.data=.fields ts/\ts[3]? = some fl
theorem FlA.xa {x C T:Addr} {od:Option Addr} {fl:Value} {h:Heap} (z:FlA x C od T fl h):XA x C od h:=let ⟨_,vs,sl,_,_,e,_⟩:=z;⟨vs,sl,e⟩
structure Kp (fs:List Addr) (x:Addr) (To:Option Addr) (h h':Heap):Prop where
 keep:∀ b o,h.get? b=some o->b ∉ fs->b ≠ x->some b ≠ To->h'.get? b=some o
 slot:∀ b o,h.get? b=some o->b ∈ fs->∃ sl,h'.get? b=some { o with slots:=sl }
 there:∀ b o,h.get? b=some o->∃ o',h'.get? b=some o'
section
variable {M:Model} {A:Around} {E:Value->Shared->Prop} {s:Shared}
theorem nofr {base h:Heap} {l:List Env} {b:Addr} {o:Obj} {vs:Array Value} (hl:h.FunFrames base l) (e:h.get? b=some o) (d:o.data=.fields vs):b ∉ frs l:=fun hm=>by
 obtain ⟨_,o',e',nf⟩:=hl.mem hm;rw [e] at e';cases e';exact nf vs d
theorem NF {env env':Env} {L:Addr} (hf:env.frame=some L) (hf':env'.frame=some L):PySem.frameOf env'=PySem.frameOf env:=by
 unfold PySem.frameOf;rw [hf',hf]
theorem uI {base:Heap} {env env':Env} {outer:List Env} {L x C:Addr} {od:Option Addr} {vs:Array Value} {sl:Array (Option Value)} {head:Value} {hn:Bool} {Q:Unit->Shared->Prop}
  (hfr:A.frames=some (env :: outer)) (hl:s.heap.FunFrames base (env :: outer)) (hf:env.frame=some L) (hf':env'.frame=some L) (he:s.heap.get? x=some ⟨.ref C,od,.fields vs,sl⟩) (hz:1 < vs.size)
  (h:∀ h' T,Kp (frs (env :: outer)) x none s.heap h'->s.heap.objs.size <= T->FlA x C od T (rawInt L) h'->Q () { s with heap:=h' }) :
  wpAny M A (do let a <- PySem.frameOf env';let pl <- entryPlaceOf L hn;let b <- EntryCells.newEntry head a .none (rawInt L) .none pl;setField (.ref x) 1 b) Q E s:=by
 have nx:x ∉ frs (env :: outer):=nofr hl he rfl;rw [NF hf hf'];refine wpAny_bind (wpAny_frameOf_fun hfr hl hf fun h1 S=>wpAny_bind (wpAny_entryPlaceOf fun pl hp=>?_));unfold EntryCells.newEntry newFields;refine wpAny_bind (wpAny_newObj_type ?_ (hp.sizeOk5 _ _ _ _ _));have e1:h1.get? x=some ⟨.ref C,od,.fields vs,sl⟩:=(S.2.1 x nx).trans he;obtain ⟨ts,hts,h3⟩:∃ ts:Array Value,([head,.ref L,.none,rawInt L,.none] ++ (if pl.isEmpty then List.replicate 6 Value.none else pl)).toArray=ts/\ts[3]? = some (rawInt L):=⟨_,rfl,by simp⟩;rw [hts];have e2:=Heap.get?_push_of_some (h:=h1) { cls:=.type "traceback",dict:=none,data:=.fields ts } e1;have ne:h1.objs.size ≠ x:=Nat.ne_of_gt (Heap.lt_size e1);have sz:h1.objs.size=s.heap.objs.size:=S.1;refine wpAny_setField e2 rfl hz (h _ h1.objs.size ⟨fun b o q n1 n2 _=>?_,fun b o q n1=>?_,fun b o q=>?_⟩ (Nat.le_of_eq sz.symm) ⟨ne,vs.setIfInBounds 1 (.ref h1.objs.size),sl,{ cls:=.type "traceback",dict:=none,data:=.fields ts },ts,Heap.get?_update_self _ e2 rfl,by simp [hz],?_,rfl,h3⟩)
 ·rw [Heap.get?_update_other _ _ (Ne.symm n2)];exact Heap.get?_push_of_some _ ((S.2.1 b n1).trans q)
 ·obtain ⟨sl',e3⟩:=S.2.2 b o q;have nb:x ≠ b:=fun z=>nx (by rw [z];exact n1)
  exact ⟨sl',(Heap.get?_update_other _ _ nb).trans (Heap.get?_push_of_some _ e3)⟩
 ·by_cases hb:b=x
  ·rw [hb];exact ⟨_,Heap.get?_update_self _ e2 rfl⟩
  ·obtain ⟨sl',e3⟩:=S.2.2 b o q;exact ⟨_,by rw [Heap.get?_update_other _ _ (Ne.symm hb)];exact Heap.get?_push_of_some _ e3⟩
 ·exact (Heap.get?_update_other _ _ (Ne.symm ne)).trans (Heap.get?_push_size h1 rfl)
theorem mB {base:Heap} {env env':Env} {outer:List Env} {L x C:Addr} {od:Option Addr} {vs:Array Value} {sl:Array (Option Value)} {Q:Unit->Shared->Prop}
  (hfr:A.frames=some (env :: outer)) (hl:s.heap.FunFrames base (env :: outer)) (hf:env.frame=some L) (hf':env'.frame=some L) (he:s.heap.get? x=some ⟨.ref C,od,.fields vs,sl⟩) (h1:vs[1]? = some .none)
  (h:∀ h' T,Kp (frs (env :: outer)) x none s.heap h'->s.heap.objs.size <= T->FlA x C od T (rawInt L) h'->Q () { s with heap:=h' }) :
  wpAny M A (noteFrame (.ref x) env') Q E s:=by
 unfold noteFrame;simp only [hf'];refine wpAny_bind (wpAny_field he rfl h1 ?_);rw [if_neg (by decide)];exact uI hfr hl hf hf' he (Array.getElem?_eq_some_iff.mp h1).1 h
theorem aC {base:Heap} {env env':Env} {outer:List Env} {L x C T:Addr} {od:Option Addr} {fl:Value} {Q:Unit->Shared->Prop}
  (hfr:A.frames=some (env :: outer)) (hl:s.heap.FunFrames base (env :: outer)) (hf:env.frame=some L) (hf':env'.frame=some L) (z:FlA x C od T fl s.heap) (hne:¬ (fl == rawInt L)=true)
  (h:∀ h' T',Kp (frs (env :: outer)) x (some T) s.heap h'->s.heap.objs.size <= T'->FlA x C od T' (rawInt L) h'->Q () { s with heap:=h' }) :
  wpAny M A (noteFrame (.ref x) env') Q E s:=by
 obtain ⟨ne,vs,sl,oT,ts,he,h1,hT,hd,h3⟩:=z;unfold noteFrame;simp only [hf'];refine wpAny_bind (wpAny_field he rfl h1 ?_);rw [if_pos (show (Value.ref T != Value.none)=true from by simp)];refine wpAny_bind (wpAny_field hT hd h3 ?_);rw [if_neg hne];refine wpAny_bind (wpAny_setField hT hd (Array.getElem?_eq_some_iff.mp h3).1 ?_);have nT:T ∉ frs (env :: outer):=nofr hl hT hd;have oth:∀ b,b ≠ T->(s.heap.update T (Obj.mapFields (·.setIfInBounds 3 Value.none))).get? b=s.heap.get? b:=fun b hb=>Heap.get?_update_other _ _ (Ne.symm hb)
 have tT:∃ o',(s.heap.update T (Obj.mapFields (·.setIfInBounds 3 Value.none))).get? T=some o':=⟨_,Heap.get?_update_self _ hT (Obj.isFreed_of_fields (Obj.data_mapFields hd _))⟩;have hl2:(s.heap.update T (Obj.mapFields (·.setIfInBounds 3 Value.none))).FunFrames base (env :: outer):=hl.of_keeps fun b o e nf=>⟨o,(oth b fun q=>by rw [q,hT] at e;cases e;exact nf ts hd).trans e,rfl⟩
 refine uI (s:={ s with heap:=s.heap.update T (Obj.mapFields (·.setIfInBounds 3 Value.none)) }) hfr hl2 hf hf' ((oth x (Ne.symm ne)).trans he) (Array.getElem?_eq_some_iff.mp h1).1 fun h' T' k w f=>h h' T' ⟨fun b o q n1 n2 n3=>?_,fun b o q n1=>?_,fun b o q=>?_⟩ ?_ f
 ·exact k.keep b o ((oth b fun y=>n3 (by rw [y])).trans q) n1 n2 (fun y=>by cases y)
 ·exact k.slot b o ((oth b fun y=>nT (y ▸ n1)).trans q) n1
 ·by_cases hb:b=T
  ·subst hb;obtain ⟨o',e'⟩:=tT;exact k.there _ _ e'
  ·exact k.there b o ((oth b hb).trans q)
 ·exact Nat.le_trans (Nat.le_of_eq (Heap.size_update _ _ _).symm) w
theorem flight {x C T:Addr} {od:Option Addr} {fl:Value} {fs:List Addr} {Q:Unit->Shared->Prop} (o:Option Addr) (z:FlA x C od T fl s.heap) (nT:T ∉ fs)
  (h:∀ h',Kp fs x (some T) s.heap h'->FlA x C od T (o.elim .none fun f=>rawInt f) h'->Q () { s with heap:=h' }):wpAny M A (setFlight (.ref x) o) Q E s:=by
 obtain ⟨ne,vs,sl,oT,ts,he,h1,hT,hd,h3⟩:=z;have z3:3 < ts.size:=(Array.getElem?_eq_some_iff.mp h3).1;have oth:∀ b,b ≠ T->(s.heap.update T (Obj.mapFields (·.setIfInBounds 3 (o.elim Value.none fun f=>rawInt f)))).get? b=s.heap.get? b:=fun b hb=>Heap.get?_update_other _ _ (Ne.symm hb)
 have tT:=Heap.get?_update_self (Obj.mapFields (·.setIfInBounds 3 (o.elim Value.none fun f=>rawInt f))) hT (Obj.isFreed_of_fields (Obj.data_mapFields hd _));unfold setFlight;refine wpAny_bind (wpAny_field he rfl h1 ?_);rw [if_pos (show (Value.ref T != Value.none)=true from by simp)];refine wpAny_setField hT hd z3 (h _ ⟨fun b o q _ _ n3=>(oth b fun y=>n3 (by rw [y])).trans q,fun b o q n1=>⟨o.slots,(oth b fun y=>nT (y ▸ n1)).trans q⟩,fun b o q=>?_⟩
  ⟨ne,vs,sl,_,_,(oth x (Ne.symm ne)).trans he,h1,tT,Obj.data_mapFields hd _,by simp [z3]⟩)
 by_cases hb:b=T
 ·subst hb;exact ⟨_,tT⟩
 ·exact ⟨o,(oth b hb).trans q⟩
end
section
variable {P:Program} {w:World} {H:Hp} {h h':Heap} {fs:List Addr} {x C T:Addr} {od:Option Addr} {fl:Value} {To:Option Addr} {o:HO}
theorem Kp.hok (k:Kp fs x To h h') (ok:HOk P w H h) (hfs:∀ b ∈ fs,H b=none) (hT:∀ t,To=some t->H t=none) (mu:Mut (H x)) (new:XA x C od h'):HOk P w (upd H x (.ext (XA x C od))) h':=fun b u q=>by
 have nown:∀ c y,H c=some (.own y)->c ≠ x:=fun c y r z=>by subst z;rw [r] at mu;exact mu
 have ntup:∀ c xs,H c=some (.tup xs)->c ≠ x:=fun c xs r z=>by subst z;rw [r] at mu;exact mu
 have kk:∀ c v,c ≠ x->H c ≠ none->h.get? c=some v->h'.get? c=some v:=fun c v n1 n2 r=>k.keep c v r (fun z=>n2 (hfs c z)) n1 fun z=>n2 (hT c z.symm)
 by_cases hb:b=x
 ·subst hb;rw [gb] at q;cases q;exact new.ok
 ·rw [zb hb] at q;refine (ok b u q).stay (fun c v hc r=>?_) (fun c r=>by rw [zb (nown c b r)];exact r) fun c xs r=>by rw [zb (ntup c xs r)];exact r
  rcases hc with rfl | hc
  ·exact kk c v hb (by rw [q];exact fun z=>by cases z) r
  ·exact kk c v (nown c b hc) (by rw [hc];exact fun z=>by cases z) r
theorem Kp.un (k:Kp fs x To h h') (hT:∀ t,To=some t->H t=none) (mu:Mut (H x)):Un fs To.toList H (upd H x o) h h':=by
 have hx:∀ b,H b=none->b ≠ x:=fun b n z=>by subst z;rw [n] at mu;exact mu
 have hm:∀ b u,H b=some u->¬ Mut (some u)->b ≠ x:=fun b u q nm z=>by subst z;rw [q] at mu;exact nm mu
 refine ⟨fun b u q n n1 n2=>k.keep b u q n1 (hx b n) fun z=>n2 (by rw [<- z];simp),fun b u q n n1 n2=>k.slot b u q n1,fun b u q n _=>by rw [zb (hx b n)];exact n,fun b u q _=>k.there b u q,
  fun b xs q=>by rw [zb (hm b _ q fun z=>z)];exact q,fun b u xs q=>by rw [zb (hm b _ q fun z=>z)];exact q,fun b ps q=>⟨#[],by rw [zb (hm b _ q fun z=>z),q];simp⟩⟩
end
noncomputable def CX1 (P:Program) (w:World):CXT:=fun outer H s E e s'=>
 ∃ x C od H' T,e=.ref x/\s'.os=s.os/\AllBare s'.gens/\Un (frs outer) [] H H' s.heap s'.heap/\HOk P w H' s'.heap/\H' x=some (.ext (XA x C od))/\s.heap.objs.size <= T/\H' T=none/\FlA x C od T .none s'.heap/\E (.ref C) od H'
noncomputable def BC (X:Cx) (E:St->XK):Prop:=∀ (pins:List (Addr × Obj)) (σ:St) (H:Hp) (s:Shared) (x C:Addr) (od:Option Addr),Inv X pins σ H s->H x=some (.ext (XF x C od))->E σ (.ref C) od (upd H x (.ext (XA x C od)))->X.xe (.ref x) s
noncomputable def uy (CX:CXT) (X:Cx) (E:St->XK):Prop:=∀ (pins:List (Addr × Obj)) (σ:St) (H:Hp) (s:Shared) (e:Value) (s':Shared),Inv X pins σ H s->CX X.stack H s (E σ) e s'->X.xe e s'
structure Fr1 (X:Cx):Prop where
 st:X.stack=X.env :: X.outer
 fr:X.env.frame=some X.env.locals
noncomputable def wL (X:Cx) (pins:List (Addr × Obj)) (T:Addr):Prop:=(T ∈ X.ex\/X.s₀.heap.objs.size <= T)/\T ≠ X.env.locals/\(∀ x c,X.env.cells.lookup x=some c->c ≠ T)/\∀ p ∈ X.pn ++ pins,p.1 ≠ T
noncomputable def NB (X:Cx) (pins:List (Addr × Obj)) (E:St->XK) (fl:Value) (e:Value) (s':Shared):Prop:=
 ∃ σ' H' x C od T,e=.ref x/\Inv X pins σ' H' s'/\H' x=some (.ext (XA x C od))/\H' T=none/\wL X pins T/\FlA x C od T fl s'.heap/\E σ' (.ref C) od H'
noncomputable def xeR (X:Cx) (pins:List (Addr × Obj)) (E:St->XK) (e:Value) (s':Shared):Prop:=
 ∃ σ' H' x C od,e=.ref x/\Inv X pins σ' H' s'/\H' x=some (.ext (XF x C od))/\E σ' (.ref C) od (upd H' x (.ext (XA x C od)))
noncomputable def xeT (X:Cx) (pins:List (Addr × Obj)) (E:St->XK) (e:Value) (s':Shared):Prop:=xeR X pins E e s'\/∃ fl,NB X pins E fl e s'
noncomputable def xeA (X:Cx) (E:St->XK) (e:Value) (s':Shared):Prop:=∃ pins,xeT X pins E e s'
section
variable {X:Cx} {pins:List (Addr × Obj)} {σ:St} {H:Hp} {s:Shared} {T x C:Addr} {od:Option Addr} {E:St->XK} {M:Model} {A:Around} {E':Value->Shared->Prop} {Q:Unit->Shared->Prop} {e fl:Value} {h':Heap}
theorem SM (I:Inv X pins σ H s) (hT:s.heap.objs.size <= T):wL X pins T:=by
 have lt:∀ {b:Addr} {o:Obj},s.heap.get? b=some o->b ≠ T:=fun q z=>by
  subst z;exact absurd (Nat.lt_of_lt_of_le (Heap.lt_size q) hT) (Nat.lt_irrefl _)
 refine ⟨.inr (Nat.le_trans I.sz hT),fun z=>?_,fun x c e=>?_,fun p hp=>lt (I.pin p hp).1⟩
 ·obtain ⟨m,⟨o,es,ep,ho,_⟩,_⟩:=I.loc;exact lt ho z.symm
 ·obtain ⟨v,o,ho,_⟩:=I.cell x c e;exact lt ho
theorem DI (I:Inv X pins σ H s) (k:Kp (frs X.stack) x (some T) s.heap h') (ex:H x=some (.ext (XA x C od))) (eT:H T=none) (nT:wL X pins T) (xa:XA x C od h'):Inv X pins σ H { s with heap:=h' }:=by
 have mu:Mut (H x):=by rw [ex];exact True.intro
 have z:∀ t,some T=some t->H t=none:=fun t z=>by cases z;exact eT
 have u1:=k.un (H:=H) (o:=.ext (XA x C od)) z mu;have k1:=k.hok I.hok I.stkFree z mu xa;rw [xH ex] at u1 k1;exact I.call' (s':={ s with heap:=h' }) (ch:=[T]) rfl u1 k1 I.bare fun b hb=>by
  obtain rfl:b=T:=by simpa using hb
  exact nT
theorem UH (F:Fr1 X) (I:Inv X pins σ H s) (k:Kp (frs (X.env :: X.outer)) x (some T) s.heap h') (ex:H x=some (.ext (XA x C od))) (eT:H T=none) (nT:wL X pins T) (xa:XA x C od h'):Inv X pins σ H { s with heap:=h' }:=
 DI I (by rw [F.st];exact k) ex eT nT xa
theorem NB.note (F:Fr1 X) (q:NB X pins E fl e s) (hne:¬ (fl == rawInt X.env.locals)=true) (h:∀ s',NB X pins E (rawInt X.env.locals) e s'->Q () s'):wpAny M X.A (noteFrame e X.env) Q E' s:=by
 obtain ⟨σ,H,x,C,od,T,rfl,I,ex,eT,nT,f,w⟩:=q;have fs:s.heap.FunFrames X.base (X.env :: X.outer):=by rw [<- F.st];exact I.stack
 exact aC (by rw [<- F.st];exact I.ok.frames) fs F.fr F.fr f hne fun h' T' k w' f'=>h _ ⟨σ,H,x,C,od,T',rfl,UH F I k ex eT nT f'.xa,ex,I.hok.fresh w',SM I w',f',w⟩
theorem NB.noted (F:Fr1 X) (q:NB X pins E (rawInt X.env.locals) e s) (h:Q () s):wpAny M X.A (noteFrame e X.env) Q E' s:=by
 obtain ⟨σ,H,x,C,od,T,rfl,I,ex,eT,nT,⟨ne,vs,sl,oT,ts,he,h1,hT,hd,h3⟩,w⟩:=q;unfold noteFrame;simp only [F.fr];refine wpAny_bind (wpAny_field he rfl h1 ?_);rw [if_pos (show (Value.ref T != Value.none)=true from by simp)];refine wpAny_bind (wpAny_field hT hd h3 ?_);rw [if_pos (show (rawInt X.env.locals == rawInt X.env.locals)=true from by simp)];exact wpAny_pure h
theorem xeR.note (F:Fr1 X) (q:xeR X pins E e s) (h:∀ s',NB X pins E (rawInt X.env.locals) e s'->Q () s'):wpAny M X.A (noteFrame e X.env) Q E' s:=by
 obtain ⟨σ,H,x,C,od,rfl,I,ex,w⟩:=q;have fs:s.heap.FunFrames X.base (X.env :: X.outer):=by rw [<- F.st];exact I.stack
 obtain ⟨vs,sl,hx,z1,z2⟩:=(show vd X.prog X.w H s.heap x (.ext (XF x C od)) from I.hok _ _ ex).1;have mu:Mut (H x):=by rw [ex];exact True.intro
 refine mB (by rw [<- F.st];exact I.ok.frames) fs F.fr F.fr hx z2 fun h' T k w' f=>h _ ?_
 have z:∀ t,none=some t->H t=none:=fun t z=>by cases z
 have u1:=k.un (H:=H) (o:=.ext (XA x C od)) z mu;have k1:=k.hok I.hok (by rw [<- F.st];exact I.stkFree) z mu f.xa;rw [<- F.st] at u1;have I2:=I.call' (s':={ s with heap:=h' }) (ch:=[]) rfl u1 k1 I.bare fun b hb=>absurd hb (by simp)
 exact ⟨σ,_,x,C,od,T,rfl,I2,gb,by rw [zb f.1];exact I.hok.fresh w',SM I w',f,w⟩
theorem xeT.note (F:Fr1 X) (q:xeT X pins E e s) (h:∀ s',NB X pins E (rawInt X.env.locals) e s'->Q () s'):wpAny M X.A (noteFrame e X.env) Q E' s:=by
 rcases q with q | ⟨fl,q⟩
 ·exact q.note F h
 ·by_cases c:(fl == rawInt X.env.locals)=true
  ·rw [beq_iff_eq] at c;subst c;exact q.noted F (h _ q)
  ·exact q.note F c h
theorem NB.flight (F:Fr1 X) (o:Option Addr) (q:NB X pins E fl e s) (h:∀ s',NB X pins E (o.elim .none fun f=>rawInt f) e s'->Q () s'):wpAny M A (setFlight e o) Q E' s:=by
 obtain ⟨σ,H,x,C,od,T,rfl,I,ex,eT,nT,f,w⟩:=q;have fs:s.heap.FunFrames X.base (X.env :: X.outer):=by rw [<- F.st];exact I.stack
 have nf:T ∉ frs (X.env :: X.outer):=by
  obtain ⟨_,_,_,oT,ts,_,_,e,d,_⟩:=id f;exact nofr fs e d
 exact L2.flight o f nf fun h' k f'=>h _ ⟨σ,H,x,C,od,T,rfl,UH F I k ex eT nT f'.xa,ex,eT,nT,f',w⟩
theorem xeT.leave (F:Fr1 X) (q:xeT X pins E e s) (h:∀ s',NB X pins E .none e s'->Q () s'):wpAny M X.A (leaving X.env e) Q E' s:=by
 unfold leaving;exact wpAny_bind (q.note F fun s' q'=>q'.flight F none h)
theorem Jy (F:Fr1 X):PassesOwn M X.A X.env (xeT X pins E):=fun e s' q=>by
 refine q.note F fun s2 q2=>?_
 show wpAny _ _ _ _ _ _;obtain ⟨σ,H,x,C,od,T,rfl,I,ex,eT,nT,⟨ne,vs,sl,oT,ts,he,h1,hT,hd,h3⟩,w⟩:=id q2;refine wpAny_bind (wpAny_field he rfl h1 ?_);rw [if_neg (show ¬ (Value.ref T == Value.none)=true from by simp)];rw [F.fr];exact q2.flight F _ fun s3 q3=>.inr ⟨_,q3⟩
theorem Rr (F:Fr1 X):PassesOwn M X.A X.env (xeA X E):=fun e s' ⟨pins,q⟩=>by
 have z:=Jy (M:=M) F e s' q;refine wpAny_mono z (fun _ s2 q2=>?_) fun e2 s2 q2=>?_
 all_goals exact wpAny_mono q2 (fun _ s3 q3=>⟨pins,q3⟩) fun e3 s3 q3=>⟨pins,q3⟩
theorem vK:BC (X.wish (xeA X E)) E:=fun pins σ H s x C od I ex q=>⟨pins,.inl ⟨σ,H,x,C,od,rfl,I.unwish,ex,q⟩⟩
theorem wK {E0:XK} {s':Shared} (I:Inv X pins σ H s) (hq:CX1 X.prog X.w X.stack H s E0 e s') (h:∀ C od H',E0 C od H'->E σ C od H'):xeT X pins E e s':=by
 obtain ⟨x,C,od,H2,T,rfl,os,bare,un,hok,ex,hT,eT,fl,q⟩:=hq;exact .inr ⟨_,σ,H2,x,C,od,T,rfl,I.call' os un hok bare (fun b z=>absurd z (by simp)),ex,eT,SM I hT,fl,h _ _ _ q⟩
end
theorem zh {X:Cx} {E:XK}:Tl (CX1 X.prog X.w) (X.wish (xeA X fun _=>E)) E:=fun pins σ H s e s' I hq=>⟨pins,wK I.unwish hq fun _ _ _ z=>z⟩
theorem FK {X:Cx} {E:XK}:BC (X.wish (xeA X fun _=>E)) (fun _=>E):=vK
section
variable {P:Program} {w:World} {K:W.Frag} {mg:Str->Option Value} {base:Heap} {N:List Str} {qual:Str} {scope:Scope} {f:Addr} {cd:Value} {A:Around} {outer:List Env} {s:Shared} {H:Hp} {E:XK}
theorem gK {e:Value} {s':Shared} (q:xeA (FE (CX1 P w) P w K mg base N qual scope f cd A outer s H E) (fun _=>E) e s'):(FE (CX1 P w) P w K mg base N qual scope f cd A outer s H E).xe e s':=by
 obtain ⟨pins,q⟩:=q;refine q.leave ⟨rfl,rfl⟩ fun s2 q2=>?_
 obtain ⟨σ,H2,x,C,od,T,rfl,I,ex,eT,nT,fl,q⟩:=q2;refine ⟨x,C,od,H2,T,rfl,I.os,I.bare,I.base,I.hok,ex,?_,eT,fl,q⟩;rcases nT.1 with z | z
 ·exact absurd z (by show T ∉ ([]:List Addr);simp)
 ·exact z
end
noncomputable def WH (sp:Sp) (dvs:List V) (E:St->XK) (t:TA):TE:=fun σ H Q=>t σ H fun vs H1=>sp (vs ++ dvs) H1 Q (E σ)
section
variable {X:Cx} {CX:CXT} {k:Nat} {f C:Addr} {fd:FuncData} {ps:List Str} {sp:Sp} {dvs:List V} {ds:List Value} {E:St->XK} {x m:Str} {p pos apos:Pos} {e o:Expr} {es:List Expr} {ta:TE} {t:TA}
theorem FJ {pins:List (Addr × Obj)} {σ:St} {H:Hp} {s:Shared} {Q:VK} {us:List Value} {vs:List V} (F:Ub X.prog X.w X.K X.mg X.base CX k f fd ps sp) (hr:pj k X.A) (hb:vc X.K fd ps ds) (hd:Sd dvs ds) (hx:uy CX X E)
  (I:Inv X pins σ H s) (r:Sd vs us) (h:sp (vs ++ dvs) H Q (E σ)):wpAny (model X.prog X.w) X.A (call (.ref f) us) (EP X pins σ Q) X.xe s:=by
 have r2:Sd (vs ++ dvs) (us ++ ds):=r.append hd;have hl:(us ++ ds).length=ps.length:=by rw [<- r2.length];exact F.len _ _ _ _ h
 refine wpAny_call (codeAny_mono (F.run X.A X.stack s H ⟨us,[]⟩ (us ++ ds) (vs ++ dvs) Q (E σ) hr I.env0 (hb s us I.kIn hl) r2 h) fun r s' hq=>?_);rcases r with e | (u | _ | _ | _)
 ·exact hx pins σ H s e s' I hq
 all_goals first | exact I.after hq | exact False.elim hq
theorem cH (F:Ub X.prog X.w X.K X.mg X.base CX k f fd ps sp) (hr:pj k X.A) (hg:Gl X x) (hm:X.mg x=some (.ref f)) (hk:PySem.W.keepIn X.K (.ref f)=true) (hb:vc X.K fd ps ds) (hd:Sd dvs ds) (hx:uy CX X E)
  (ha:PA X (e :: es) t) (hdb:(x == ("__debug__" : Str))=false:=by decide) (he:starEach (e :: es) X.env=(false,eval e X.env) :: starEach es X.env:=by rfl) (hpl:(backTo pos (starEach es X.env)).any (·.1)=false:=by rfl) :
  PE X (.Call (.Name x p) (e :: es) [] pos) (WH sp dvs E t):=by
 intro pins s σ H Q I h;refine wpAny_Call_Name_kw (ll I hg hm ?_ hdb);exact PySem.W.callWith_K (h₀:=X.base) I.ok.mod.kin hk (thn (ha pos pins s σ H _ I h) fun us s1 ⟨vs,H1,I1,r,q⟩=>⟨I1.kIn,FJ F hr hb hd hx I1 r q⟩) he hpl
end
noncomputable abbrev Cx.tr (X:Cx) (pn:List (Addr × Obj)) (E:Value->Shared->Prop):Cx:={ X with pn:=X.pn ++ pn,xe:=E }
noncomputable abbrev Cx.hn (X:Cx) (e:Value):Cx:={ X with A:=X.A.mark (some e),calm:=false,xe:=fun _ _=>False }
section
variable {X:Cx} {pins pins':List (Addr × Obj)} {σ:St} {H:Hp} {s:Shared} {E:Value->Shared->Prop} {e:Value}
theorem Cx.Ok.tr (ok:X.Ok) (pn:List (Addr × Obj)) (E:Value->Shared->Prop):(X.tr pn E).Ok:=
 ⟨ok.mod,ok.kind,ok.glob,ok.blt,ok.above,ok.inj,ok.has,ok.cab,ok.hd,ok.frames,ok.stk,ok.exf,ok.bs,ok.bsz,ok.noex,ok.exfs,ok.funs,ok.frf⟩
theorem Cx.Ok.untr {pn:List (Addr × Obj)} (ok:(X.tr pn E).Ok):X.Ok:=
 ⟨ok.mod,ok.kind,ok.glob,ok.blt,ok.above,ok.inj,ok.has,ok.cab,ok.hd,ok.frames,ok.stk,ok.exf,ok.bs,ok.bsz,ok.noex,ok.exfs,ok.funs,ok.frf⟩
theorem Cx.Ok.hn (ok:X.Ok) (e:Value):(X.hn e).Ok:=
 ⟨ok.mod,ok.kind,ok.glob,ok.blt,ok.above,ok.inj,ok.has,ok.cab,(fun z=>Bool.noConfusion z),ok.frames,ok.stk,ok.exf,ok.bs,ok.bsz,ok.noex,ok.exfs,ok.funs,ok.frf⟩
theorem Inv.tr (I:Inv X pins σ H s) (E:Value->Shared->Prop):Inv (X.tr pins E) [] σ H s:=⟨I.ok.tr pins E,I.os,I.bare,I.base,I.loc,I.cell,I.free,I.freeC,fun p hp=>I.pin p (by simpa using hp),I.hok,I.len⟩
theorem Inv.untr (I:Inv (X.tr pins E) pins' σ H s):Inv X pins σ H s:=⟨I.ok.untr,I.os,I.bare,I.base,I.loc,I.cell,I.free,I.freeC,fun p hp=>I.pin p (mem_append_left _ hp),I.hok,I.len⟩
theorem Inv.hn (I:Inv X pins σ H s) (e:Value):Inv (X.hn e) pins σ H s:=⟨I.ok.hn e,I.os,I.bare,I.base,I.loc,I.cell,I.free,I.freeC,I.pin,I.hok,I.len⟩
theorem Inv.unhn (ok:X.Ok) (I:Inv (X.hn e) pins σ H s):Inv X pins σ H s:=⟨ok,I.os,I.bare,I.base,I.loc,I.cell,I.free,I.freeC,I.pin,I.hok,I.len⟩
theorem SP.untr {D:Mi} {f:Flow} {s':Shared} (h:SP (X.tr pins E) pins' D f s'):SP X pins D f s':=by
 cases f with
 | next=>obtain ⟨σ',H',I,q⟩:=h;exact ⟨σ',H',I.untr,q⟩
 | brk=>obtain ⟨σ',H',I,q⟩:=h;exact ⟨σ',H',I.untr,q⟩
 | cont=>obtain ⟨σ',H',I,q⟩:=h;exact ⟨σ',H',I.untr,q⟩
 | ret u=>obtain ⟨v,σ',H',I,r,q⟩:=h;exact ⟨v,σ',H',I.untr,r,q⟩
end
theorem EJ {X:Cx} {pins:List (Addr × Obj)} {E:St->XK}:uy (CX1 X.prog X.w) (X.tr pins (xeT X pins E)) E:=by
 intro pins' σ H s e s' I hq;obtain ⟨x,C,od,H2,T,rfl,os,bare,un,hok,ex,hT,eT,fl,q⟩:=hq;have I2:=I.call' os un hok bare (fun b z=>absurd z (by simp));exact .inr ⟨_,σ,H2,x,C,od,T,rfl,I2.untr,ex,eT,SM I.untr hT,fl,q⟩
theorem An {X:Cx} {pins:List (Addr × Obj)} {σ:St} {H:Hp} {s:Shared} {i:Nat} {n:Str} {pos:Pos} {A:Around} {E:Value->Shared->Prop} {Q:Unit->Shared->Prop} (I:Inv X pins σ H s) (hN:X.N.Nodup) (hi:X.N[i]? = some n)
  (hl:X.env.scope.names.lookup n=some .local) (h:∀ s',Inv X pins (σ.set i none) H s'->Q () s'):wpAny (model X.prog X.w) A (do bindName X.env n .none;unbindBehindTheSuite X.env n pos) Q E s:=by
 have hiσ:i < σ.length:=by rw [I.len];exact (List.getElem?_eq_some_iff.mp hi).1
 refine wpAny_bind (wpAny_bindName (gq I hN hi (.inl hl) (v:=.non) (u:=.none) rfl (fun s1 I1=>?_) (.inr hl)));obtain ⟨m,hn,hlk⟩:=I1.loc;have hk:X.env.kindOf n=some .local:=hl;obtain ⟨u,ru,lk⟩:=hlk i n .non hi (getElem?_set_self hiσ) (.inl hl);have hmn:(m n).isSome=true:=by
  rcases lk with ⟨_,e⟩ | ⟨k,_⟩
  ·rw [e];rfl
  ·rcases k with k | k <;> (rw [hk] at k;cases k)
 have hp:(X.env.scope.kind == .class || (X.env.scope.kind == .module && X.env.locals != X.env.globals))=false:=by rw [I.ok.kind];rfl
 unfold unbindBehindTheSuite;refine wpAny_onRaise ?_;unfold unbindName;refine wpAny_bind (wpAny_point (wpAny_bind ?_));unfold deleteName;simp only [hk,hp];rw [if_neg (by decide)];refine wpAny_bind (wpAny_nsDel_keeps hn fun h2 v2 hn2 hs=>?_);rw [hmn];refine wpAny_pure (wpAny_point (h _ ?_));have neL:∀ b o,X.s₀.heap.get? b=some o->b ≠ X.env.locals:=fun b o e=>Nat.ne_of_lt (Nat.lt_of_lt_of_le (Heap.lt_size e) I1.ok.above)
 refine ⟨I1.ok,I1.os,I1.bare,⟨fun b o e n' hb hx=>(hs.2 b (neL b o e)).trans (I1.base.keep b o e n' hb hx),fun b o e n' hb hx=>?_,I1.base.free,fun b o e hx=>?_,I1.base.tups,I1.base.frzs,I1.base.tbls⟩,⟨_,hn2,fun j y v e1 e2 e3=>?_⟩,fun y c e=>?_,I1.free,I1.freeC,fun p hp=>?_,fun b u' e=>?_,by simpa using I.len⟩
 ·obtain ⟨sl,e1⟩:=I1.base.slot b o e n' hb hx;exact ⟨sl,(hs.2 b (neL b o e)).trans e1⟩
 ·obtain ⟨o',e1⟩:=I1.base.there b o e hx;exact ⟨o',(hs.2 b (neL b o e)).trans e1⟩
 ·by_cases hj:j=i
  ·subst hj;rw [getElem?_set_self hiσ] at e2;cases e2
  ·rw [getElem?_set_ne (Ne.symm hj)] at e2;obtain ⟨u',r',q⟩:=hlk j y v e1 (by rw [getElem?_set_ne (Ne.symm hj)];exact e2) e3;refine ⟨u',r',?_⟩;rcases q with ⟨k,e⟩ | ⟨k,c,e,z⟩
   ·refine .inl ⟨k,?_⟩;have:y ≠ n:=fun e=>hj (Hv hN e1 (e ▸ hi))
    simp [this,e]
   ·exact .inr ⟨k,c,e,z.sameBut hs (I1.cne y c e)⟩
 ·obtain ⟨w',z⟩:=I1.cell y c e;exact ⟨w',z.sameBut hs (I1.cne y c e)⟩
 ·obtain ⟨e,n',ne,nf,d⟩:=I1.pin p hp;exact ⟨(hs.2 p.1 ne).trans e,n',ne,nf,d⟩
 ·have nL:∀ c,H c ≠ none->c ≠ X.env.locals:=fun c q z=>q (by rw [z];exact I1.free)
  refine (I1.hok b u' e).stay (fun c v hc q=>(hs.2 c (nL c ?_)).trans q) (fun _ q=>q) fun _ _ q=>q
  rcases hc with rfl | hc
  ·rw [e];exact fun z=>by cases z
  ·rw [hc];exact fun z=>by cases z
noncomputable def Mi.gone (D:Mi) (i:Nat):Mi:={ nx:=fun σ H=>D.nx (σ.set i none) H,rt:=D.rt,bk:=fun σ H=>D.bk (σ.set i none) H,ct:=fun σ H=>D.ct (σ.set i none) H }
noncomputable def BN (K:W.Frag) (c:Addr) (i:Nat) (th:TS) (D:Mi):St->XK:=fun σ C od H=>∃ C',C=.ref C'/\PySem.W.exmOne K C (.ref c)=some true/\∀ x,H x=some (.ext (XA x C' od))->th (D.gone i) (σ.set i (some (.ref x))) H
noncomputable def EN (K:W.Frag) (c:Addr) (i:Nat) (tb:(St->XK)->TS) (th:TS):TS:=fun D σ H=>tb (BN K c i th D) D σ H
section
variable {X:Cx} {body suite:List Stmt} {b0:Stmt} {x n:Str} {c:Addr} {i:Nat} {tb:(St->XK)->TS} {th:TS} {xp hp pos:Pos}
theorem uM (hb:∀ pins E,PSs (X.tr pins (xeT X pins E)) body (tb E)) (hg:Gl X x) (hm:X.mg x=some (.ref c)) (hh:∀ e,PSs (X.hn e) (b0 :: suite) th) (hN:X.N.Nodup) (hi:X.N[i]? = some n)
  (hl:X.env.scope.names.lookup n=some .local) (F:Fr1 X:=by exact ⟨rfl,rfl⟩) (hdb:(x == ("__debug__" : Str))=false:=by decide) :
  PS X (.Try body [.ExceptHandler (some (.Name x xp)) (some n) (b0 :: suite) hp] [] [] pos) (EN X.K c i tb th):=by
 intro pins s σ H D I h;refine wpAny_Try_except (wpAny_mono (hb pins _ [] s σ H D (I.tr _) h) (fun f s1 q=>?_) fun e s1 q=>?_)
 ·have q':=q.untr;cases f with
  | next=>exact wpAny_execs_nil q'
  | brk=>exact q'
  | cont=>exact q'
  | ret u=>exact q'
 ·refine q.note F fun s2 q2=>q2.flight F none fun s3 q3=>?_
  obtain ⟨σ1,H1,a,C,od,T,rfl,I2,ea,eT,nT,fl,C',eC,em,w⟩:=id q3;cases eC;refine wpAny_handleBy_cons (codeAny_handlers_test (ll (I2.hn (.ref a)) hg hm ?_ hdb)) (fun z=>by cases z);have LT:PySem.W.Looks (model X.prog X.w) s3.heap (typeOf (.ref a)) (.ref C):=by
   obtain ⟨vs,sl,e⟩:=fl.xa;exact (PySem.W.Looks.ld e).andThen .now
  refine (PySem.W.exm_one I2.kIn LT em).here ?_;rw [if_pos rfl];refine codeAny_handlers_suite_as (q3.flight F none fun s4 q4=>?_)
  ·obtain ⟨σ1,H1,a',C,od,T,ea',I3,ea,eT,nT,fl,C',eC,em,w⟩:=q4;cases eC;cases ea';refine gq (X:=X.hn (.ref a)) (I3.hn (.ref a)) hN hi (.inl hl) (v:=.ref a) (u:=.ref a) rfl (fun s5 I4=>?_) (.inr hl);refine wpAny_mono (hh (.ref a) pins s5 _ H1 (D.gone i) I4 (w a ea)) (fun f s5 q5=>?_) fun _ _ z=>False.elim z
   cases f with
   | next=>obtain ⟨σ',H',J,q⟩:=q5;exact An (J.unhn I.ok) hN hi hl fun s6 I6=>⟨_,_,I6,q⟩
   | brk=>obtain ⟨σ',H',J,q⟩:=q5;exact An (J.unhn I.ok) hN hi hl fun s6 I6=>⟨_,_,I6,q⟩
   | cont=>obtain ⟨σ',H',J,q⟩:=q5;exact An (J.unhn I.ok) hN hi hl fun s6 I6=>⟨_,_,I6,q⟩
   | ret u=>obtain ⟨v,σ',H',J,r,q⟩:=q5;exact An (J.unhn I.ok) hN hi hl fun s6 I6=>⟨v,_,_,I6,r,q⟩
end
theorem UJ {X:Cx} {body suite:List Stmt} {b0:Stmt} {x n:Str} {c:Addr} {i:Nat} {tb:(St->XK)->TS} {th:TS} {xp hp pos:Pos} (hb:∀ pins E,∃ t,PSs (X.tr pins (xeT X pins E)) body t/\t=tb E) (hg:Gl X x) (hm:X.mg x=some (.ref c))
  (hh:∀ e,∃ t,PSs (X.hn e) (b0 :: suite) t/\t=th) (hN:X.N.Nodup) (hi:X.N[i]? = some n) (hl:X.env.scope.names.lookup n=some .local) (F:Fr1 X:=by exact ⟨rfl,rfl⟩)
  (hdb:(x == ("__debug__" : Str))=false:=by decide):PS X (.Try body [.ExceptHandler (some (.Name x xp)) (some n) (b0 :: suite) hp] [] [] pos) (EN X.K c i tb th):=
 uM (fun pins E=>by obtain ⟨t,h,rfl⟩:=hb pins E;exact h) hg hm (fun e=>by obtain ⟨t,h,rfl⟩:=hh e;exact h) hN hi hl F hdb
theorem GJ (K:W.Frag) (c:Addr) (i:Nat) (tb:(St->XK)->TS) (th:TS) (D:Mi) (σ:St) (H:Hp):EN K c i tb th D σ H=tb (BN K c i th D) D σ H:=rfl
theorem jK (K:W.Frag) (c:Addr) (i:Nat) (th:TS) (D:Mi) (σ:St) (C:Value) (od:Option Addr) (H:Hp) :
  BN K c i th D σ C od H = ∃ C',C=.ref C'/\PySem.W.exmOne K C (.ref c)=some true/\∀ x,H x=some (.ext (XA x C' od))->th (D.gone i) (σ.set i (some (.ref x))) H:=rfl
theorem zK (D:Mi) (i:Nat) (σ:St) (H:Hp):(D.gone i).nx σ H=D.nx (σ.set i none) H:=rfl
theorem VJ (D:Mi) (i:Nat) (v:V) (H:Hp):(D.gone i).rt v H=D.rt v H:=rfl
theorem OwnTail.has {h:Heap} {bm tl:List Value} {v:Value} (T:OwnTail h bm tl) (e:bm.contains v=true):tl.contains v=true:=by
 induction T with
 | base=>exact e
 | own _ _ _ _ ih=>rw [List.contains_cons,ih,Bool.or_true]
noncomputable def EH (K:W.Frag) (E:St->XK) (te:TE):TS:=fun D σ H=>te σ H fun v H1=>∃ x C od,v=.ref x/\H1 x=some (.ext (XF x C od))/\Nu K C/\E σ (.ref C) od (upd H1 x (.ext (XA x C od)))
theorem jA {M:Model} {A:Around} {E:Value->Shared->Prop} {s:Shared} {env:Env} {x:Sem Value} {Q:Flow->Shared->Prop} (hh:A.handled=none)
  (h:wpAny M A x (fun v s1=>∃ e C od vs sl nm q N bs bm hdct sn sub ab col dd k0 k1 k2 k3 k5 newId,v=.ref e/\bm.contains (.type "BaseException")=true /\
   s1.heap.get? C=some (excClassObj nm q C N bs bm hdct sn sub ab col dd k0 k1 k2 k3 k5 newId)/\s1.heap.get? e=some ⟨.ref C,od,.fields vs,sl⟩/\vs[1]? = some .none/\E (.ref e) s1) E s) :
  wpAny M A (raiseStmt env (some x) none) Q E s:=by
 unfold raiseStmt;refine wpAny_bind (wpAny_mono h (fun v s1 h1=>?_) fun _ _ x=>x);obtain ⟨e,C,od,vs,sl,nm,q,N,bs,bm,hdct,sn,sub,ab,col,dd,k0,k1,k2,k3,k5,newId,rfl,hb,hC,he,h1,hE⟩:=h1;have hcB:(Value.ref C :: bm).contains (.type "BaseException")=true:=by rw [List.contains_cons,hb,Bool.or_true]
 obtain ⟨hp,g,d,tk,os⟩:=s1
 repeat (first | with_reducible refine wpAny_loadPart_at he ?_ | with_reducible refine wpAny_loadPart_at hC ?_ | (with_reducible refine wpAny_isSubtype_exc hC ?_;rw [hcB]) | (with_reducible refine wpAny_field he rfl h1 ?_) | wp_step)
 exact wpAny_raiseNew_none hh hE
section
variable {X:Cx} {e:Expr} {te:TE} {pos:Pos} {E:St->XK}
theorem qF (he:PE X e te) (hT:BC X E) (hc:X.calm=true:=by rfl):PS X (.Raise (some e) none pos) (EH X.K E te):=by
 intro pins s σ H D I h;rw [arm_exec_Raise];refine wpAny_bind (wpAny_standAt (jA (I.ok.hd hc) ?_));refine wpAny_bind (thn (he pins s σ H _ I h) fun u s1 ⟨v,H1,I1,r,x,C,od,ev,ex,c,q⟩=>wpAny_bind (wpAny_standAt (wpAny_pure ?_)));subst ev;obtain rfl:u=Value.ref x:=r;obtain ⟨vs,sl,hx,z1,z2⟩:=(show vd X.prog X.w H1 s1.heap x (.ext (XF x C od)) from I1.hok _ _ ex).1;obtain ⟨fI,hfI⟩:=c.ex;obtain ⟨tl,N,nm,q',bs,sn,sub,ab,co,dd,k0,k1,k2,k3,k5,mN,hC,hN,hi,T⟩:=Pu I1.kIn hfI;exact ⟨x,C,od,vs,sl,nm,q',N,bs,tl,true,sn,sub,ab,co,dd,k0,k1,k2,k3,k5,_,rfl,L2.OwnTail.has T (by decide),hC,hx,z2,hT pins σ H1 s1 x C od I1 ex q⟩
theorem PS.nox {X:Cx} {st:Stmt} {t:TS} (h:PS X.nox st t):PS X st t:=fun pins s σ H D I hw=>
 wpAny_mono (h pins s σ H D (I.wish _) hw) (fun _ _ q=>q.unwish) fun _ _ z=>False.elim z
end
theorem Fun.okX {P:Program} {w:World} {K:W.Frag} {mg:Str->Option Value} {base:Heap} {x qual:Str} {st:Stmt} {f:Addr} {fd:FuncData} {N ps:List Str} {k:Nat} {sp:Sp} (F:Fun K x qual st f fd) (S:Hb N ps (pb st))
  (len:∀ vs H Q E,sp vs H Q E->vs.length=ps.length)
  (hbody:∀ (cdv:Value) (A:Around) (outer:List Env) (s:Shared) (H:Hp) (vs:List V) (Q:VK) (E:XK),pj k (A.deeper (envOfC qual (pb st) s.heap.objs.size f cdv))->sp vs H Q E ->
   ∃ t,PSs ((FE (CX1 P w) P w K mg base N qual (pb st) f cdv A outer s H E).wish (xeA (FE (CX1 P w) P w K mg base N qual (pb st) f cdv A outer s H E) fun _=>E)) (bo st) t/\t { nx:=fun _ H'=>Q .non H',rt:=Q } (start N vs) H):Ub P w K mg base (CX1 P w) (k + 1) f fd ps sp:=by
 obtain ⟨oc,od,kV,doc,pm,an,cdv,ct,osl,rfl,lk,hcd⟩:=F.ex;refine MM lk hcd S len fun A outer s H vs Q E hr hsp=>?_
 obtain ⟨t,h,q⟩:=hbody cdv A outer s H vs Q E hr hsp;exact ⟨t,fun pins s1 σ H1 D I hw=>wpAny_mono (h pins s1 σ H1 D (I.wish _) hw) (fun _ _ q=>q.unwish) fun _ _ z=>gK z,q⟩
noncomputable def xeB (B:Cx) (E:XK) (e:Value) (s':Shared):Prop:=
 ∃ pins fl σ' H' x C od T,e=.ref x/\Inv B pins σ' H' s'/\H' x=some (.ext (XA x C od))/\H' T=none/\wL B pins T/\B.s₀.heap.objs.size <= T/\FlA x C od T fl s'.heap/\E (.ref C) od H'
structure ZN (X:Cx) (scope:Scope) (N:List Str) (tg elt:Expr) (ifs:List Expr) (g:TG) (tc:TT) (te:XK->TE):Prop where
 tgt:∀ E C s H fp,PG ((X.block scope C N s H fp).wish (xeB (X.block scope C N s H fp) E)) tg g
 tests:∀ E C s H fp,PTs ((X.block scope C N s H fp).wish (xeB (X.block scope C N s H fp) E)) ifs tc
 elem:∀ E C s H fp,PE ((X.block scope C N s H fp).wish (xeB (X.block scope C N s H fp) E)) elt (te E)
theorem ZN.of {X:Cx} {scope:Scope} {N:List Str} {tg elt:Expr} {ifs:List Expr} {g:TG} {tc:TT} {te:XK->TE} (h1:∀ E C s H fp,PG ((X.block scope C N s H fp).wish (xeB (X.block scope C N s H fp) E)) tg g)
  (h2:∀ E C s H fp,∃ t,PTs ((X.block scope C N s H fp).wish (xeB (X.block scope C N s H fp) E)) ifs t/\t=tc) (h3:∀ E C s H fp,∃ t,PE ((X.block scope C N s H fp).wish (xeB (X.block scope C N s H fp) E)) elt t/\t=te E):ZN X scope N tg elt ifs g tc te:=
 ⟨h1,fun E C s H fp=>by obtain ⟨t,h,rfl⟩:=h2 E C s H fp;exact h,fun E C s H fp=>by obtain ⟨t,h,e⟩:=h3 E C s H fp;rw [<- e];exact h⟩
section
variable {X:Cx} {elt tg iter:Expr} {ifs:List Expr} {scope:Scope} {pos:Pos} {wi:TI} {g:TG} {tc:TT} {te:XK->TE} {N:List Str} {sel:List (Option Nat)}
theorem FlA.but {x C T c:Addr} {od:Option Addr} {fl:Value} {h h':Heap} (z:FlA x C od T fl h) (n1:x ≠ c) (n2:T ≠ c) (k:∀ b,b ≠ c->h'.get? b=h.get? b):FlA x C od T fl h':=by
 obtain ⟨ne,vs,sl,oT,ts,he,h1,hT,hd,h3⟩:=z;exact ⟨ne,vs,sl,oT,ts,(k _ n1).trans he,h1,(k _ n2).trans hT,hd,h3⟩
end
structure uO (K:W.Frag) (C:Addr):Prop where
 cl:Cls K C
 ha:PySem.W.findIn K (.ref C) "__class__"=some (some (.builtin "object.__class__"))
 hn:PySem.W.specialIn K (.builtin "object.__class__") "__get__"=some (some (.builtin "getset_descriptor.__get__"))
 htk:PySem.W.takesIn K (.builtin "object.__class__")=some true
 hm:PySem.W.mroIn K C (.type "object")=some true
theorem uO.ty {K:W.Frag} {H:Hp} {C a dx:Addr} {fs:List (Str × V)} (c:uO K C) (e:H a=some (.ins C dx fs)):Cz K H (.ref a) (.ref C):=.ins e c.cl c.ha c.hn c.htk c.hm
end L2
namespace L2
open PySem PySem.Spec PyProof.Rows
section
variable {X:Cx} {tg:Expr}
end
section
variable {prog:Program} {w:World} {A:Around} {E:Value->Shared->Prop} {s:Shared} {it l:Addr} {items:Array Value}
end
section
variable {X:Cx}
end
section
variable {prog:Program} {w:World} {A:Around} {R:Result->Shared->Prop} {I:Addr} {fp wr:List Addr} {n:Nat} {P:Nat->Value->Prop} {St:Nat->Heap->Prop}
end
section
variable {prog:Program} {w:World} {A:Around} {E:Value->Shared->Prop} {s:Shared}
end
section
variable {X:Cx}
end
end L2
namespace L2
open PySem PySem.Spec PyProof.Rows
structure BI (K:W.Frag) (C:Addr):Prop where
 x:Nu K C
 ha:PySem.W.findIn K (.ref C) "__class__"=some (some (.builtin "object.__class__"))
 hn:PySem.W.specialIn K (.builtin "object.__class__") "__get__"=some (some (.builtin "getset_descriptor.__get__"))
 htk:PySem.W.takesIn K (.builtin "object.__class__")=some true
 hm:PySem.W.mroIn K C (.type "object")=some true
section
variable {prog:Program} {w:World} {A:Around} {E:Value->Shared->Prop} {s:Shared} {K:W.Frag} {x C:Addr} {od:Obj} {dx:Addr} {vs:Array Value} {sl:Array (Option Value)}
theorem qJ {Q:Option Value->Shared->Prop} (c:BI K C) (KX:K.In s.heap) (J:PySem.W.InstAt s.heap x ⟨.ref C,some dx,.fields vs,sl⟩ C (some od)) (h:Q (some (.ref C)) { s with toks:=s.toks + 1 }) :
  wpAny (model prog w) A (getAttr? (.ref x) "__class__") Q E s:=by
 obtain ⟨cd,hc,hd'⟩:=PySem.W.any_some c.x.hd;obtain ⟨cd',hc',hov⟩:=PySem.W.any_some c.x.ov;rw [hc] at hc';cases hc';have hf:PySem.W.findObj K C (some od) "__class__"=some (.bind (.builtin "getset_descriptor.__get__") (.builtin "object.__class__")):=PySem.W.findObj_data (by rw [hc];rfl) c.ha c.hn c.htk;have hm:=c.hm;have ga:=c.x.ga;have gt:=c.x.gt;obtain ⟨hp,g,d,t,os⟩:=s;have L0:=J.type (M:=model prog w);have L1:=PySem.W.looks_findIn (M:=model prog w) KX ga;have L2:=PySem.W.looks_findIn (M:=model prog w) KX gt;have L3:=PySem.W.looks_find (M:=model prog w) KX J hf;have FB:=PySem.F.excAttr_ValueError;have f3:=FB.ga.bind (.ref x);have hx2:(Value.builtin "BaseException.__getattribute__" == Value.builtin "object.__getattribute__")=false:=by decide +kernel
 have hx1:(onTheHeap (Value.ref C) && Value.builtin "BaseException.__getattribute__" == Value.builtin "object.__getattribute__")=false:=by rw [hx2];rfl
 unfold getAttr? getAttrBy? getAttrBy;refine wpAny_bind (wpAny_mkText (wpAny_bind (wpAny_attempt (wpAny_holding (wpAny_bind (L0.at (wpAny_bind (L1.at ?_))))))));dsimp only;rw [if_neg (by rw [hx1];decide)];unfold getAttrByItsOwn
 repeat (any_goals (first | assumption | with_reducible refine PySem.W.Looks.at (by assumption) ?_ | wp_step))
 have ne:cd.mro.isEmpty=false:=by
  cases q:cd.mro with
  | nil=>rw [q] at hov;cases hov
  | cons _ _=>rfl
 have sub:PySem.W.Looks (model prog w) hp (isInstance (.ref x) (.type "BaseException")) true:=
  L0.andThen (PySem.W.looks_mroIn KX (by unfold PySem.W.mroIn;rw [hc,Option.bind_some,if_neg (by rw [ne];decide),vn "BaseException" (by decide) hov]))
 refine codeAny_call_builtin FB.ga.plain PySem.F.entry_bexc_ga (@PySem.W.check_slot (model prog w) _ _ ⟨hp,g,d,t + 1,os⟩ "BaseException.__getattribute__" "BaseException" "__getattribute__" (.ref x) [.str "__class__" t] [] _ (by decide +kernel) (by decide +kernel) sub (PySem.F.args_bexc_ga (.ref x) (.str "__class__" t)) ?_);unfold Builtin.«object.__getattribute__»
 repeat (any_goals (first | assumption | with_reducible refine PySem.W.Looks.at (by assumption) ?_ | wp_step))
 refine PySem.W.class_get (s:=⟨hp,g,d,t + 1,os⟩) (ox:=⟨.ref C,some dx,.fields vs,sl⟩) (od:=some od) KX J hm ?_;refine wpAny_pure ?_;show wpAny _ _ (handedOut (.ref C)) _ _ _;exact PySem.W.handed_on rfl (wpAny_pure h)
theorem Ru (c:BI K C):PySem.W.KitX K (.ref x) (.ref C) (fun h=>∃ dx vs sl od,PySem.W.InstAt h x ⟨.ref C,some dx,.fields vs,sl⟩ C (some od)) where
 ty:=fun _ _ _ ⟨_,_,_,_,I⟩=>I.type
 it:=fun _ _ X _=>by
  obtain ⟨cdD,hcD,_⟩:=PySem.W.any_some c.x.hd;unfold PySem.W.clsIn at hcD;split at hcD
  ·rename_i c' d' cd' sl' ho;intro A' Q' E' s' k q;unfold isType loadHead;exact wpAny_bind (wpAny_loadPart (k _ _ (X _ _ ho)) (wpAny_pure q))
  ·cases hcD
 ne:=fun h tp dd its n sl X htp=>by
  obtain ⟨cdD,hcD,_⟩:=PySem.W.any_some c.x.hd;refine Bool.eq_false_iff.mpr fun q=>?_
  have e:C=tp:=Value.ref.inj (beq_iff_eq.mp q);subst e;unfold PySem.W.clsIn at hcD;split at hcD
  ·rename_i c' d' cd' sl' ho;have z:=(X _ _ ho).symm.trans htp;cases z
  ·cases hcD
 ca:=fun X ⟨_,_,_,_,I⟩ k=>qJ c X I k
end
theorem oC {X:Cx} {pins:List (Addr × Obj)} {σ:St} {H:Hp} {s:Shared} {x C dx:Addr} {fs:List (Str × V)} (I:Inv X pins σ H s) (e:H x=some (.ext (XA x C (some dx)))) (ed:H dx=some (.ext (XD dx fs))) :
  ∃ dx vs sl od,PySem.W.InstAt s.heap x ⟨.ref C,some dx,.fields vs,sl⟩ C (some od):=by
 obtain ⟨vs,sl,hx⟩:=(show vd X.prog X.w H s.heap x (.ext (XA x C (some dx))) from I.hok _ _ e).1;obtain ⟨mA,n1,r,wi⟩:=(show vd X.prog X.w H s.heap dx (.ext (XD dx fs)) from I.hok _ _ ed).1;obtain ⟨od,ho,hlk⟩:=Tm n1;exact ⟨dx,vs,sl,od,hx,rfl,rfl,ho⟩
theorem DE {X:Cx}:gk X (.builtin "isinstance") (fun xs H Q=>∃ x C dx fs D b,xs=[.ref x,.ref D]/\H x=some (.ext (XA x C (some dx)))/\H dx=some (.ext (XD dx fs))/\BI X.K C/\PySem.W.kitOne X.K (.ref C) (.ref D)=some b/\Q (.bl b) H):=by
 intro pins s σ H xs us Q I r h;obtain ⟨x,C,dx,fs,D,b,rfl,e,ed,c,hk,q⟩:=h;obtain ⟨u,u2,rfl,rx,r2⟩:=rB r;cases (show u=Value.ref x from rx);cases (show u2=Value.ref D from r2);exact PySem.W.kia_one (Ru c) I.kIn (oC I e ed) hk (fun z=>nomatch z) fun tk=>⟨.bl b,H,I.tok _,rfl,q⟩
theorem jB {X:Cx}:gk X (.builtin "isinstance") (fun xs H Q=>∃ x C dx fs T b,xs=[.ref x,.ty T]/\H x=some (.ext (XA x C (some dx)))/\H dx=some (.ext (XD dx fs))/\BI X.K C/\PySem.W.kitOne X.K (.ref C) (.type T)=some b/\Q (.bl b) H):=by
 intro pins s σ H xs us Q I r h;obtain ⟨x,C,dx,fs,T,b,rfl,e,ed,c,hk,q⟩:=h;obtain ⟨u,u2,rfl,rx,r2⟩:=rB r;cases (show u=Value.ref x from rx);cases r2;exact PySem.W.kia_one (Ru c) I.kIn (oC I e ed) hk (fun z=>nomatch z) fun tk=>⟨.bl b,H,I.tok _,rfl,q⟩
theorem ax:∀ {cs:List Addr} {us:List Value},Sd (cs.map V.ref) us->us=cs.map Value.ref
 | [],_,.nil=>rfl
 | c :: cs,_,.cons r t=>by
  rw [ax t];cases (show _=Value.ref c from r);rfl
theorem qB {X:Cx}:gk X (.builtin "isinstance") (fun xs H Q=>∃ (x C dx:Addr) (fs:List (Str × V)) (tp:Addr) (cs:List Addr) (b:Bool),xs=[.ref x,.ref tp]/\H x=some (.ext (XA x C (some dx)))/\H dx=some (.ext (XD dx fs))/\BI X.K C/\H tp=some (.tup (cs.map V.ref))/\PySem.W.kitAny X.K (.ref C) (cs.map Value.ref)=some b/\Q (.bl b) H):=by
 intro pins s σ H xs us Q I r h;obtain ⟨x,C,dx,fs,tp,cs,b,rfl,e,ed,c,et,hk,q⟩:=h;obtain ⟨u,u2,rfl,rx,r2⟩:=rB r;cases (show u=Value.ref x from rx);cases (show u2=Value.ref tp from r2);obtain ⟨_,its,rv,ot,h1,h2,n,h3⟩:=(show vd X.prog X.w H s.heap tp (.tup (cs.map V.ref)) from I.hok _ _ et);have e1:=ax rv;subst e1;obtain ⟨cl,dd,dt,sl⟩:=ot;cases (show cl=Value.type "tuple" from h2);cases (show dt=Data.seq _ n from h3);exact PySem.W.kia_tup (Ru c) I.kIn (oC I e ed) h1 hk (fun z=>nomatch z) fun tk=>⟨.bl b,H,I.tok _,rfl,q⟩
theorem uo:bootBuiltins "ValueError"=some (.type "ValueError"):=by decide +kernel
section
variable {X:Cx}
end
theorem Ub.quiet {P:Program} {w:World} {K:W.Frag} {mg:Str->Option Value} {base:Heap} {k:Nat} {f:Addr} {fd:FuncData} {ps:List Str} {sp sp':Sp} (F:Ub P w K mg base (CX1 P w) k f fd ps sp)
  (h:∀ vs H Q E,sp' vs H Q E->sp vs H Q (fun _ _ _=>False)):Ub P w K mg base CX0 k f fd ps sp':=by
 refine ⟨fun vs H Q E q=>F.len vs H _ _ (h vs H Q E q),fun A outer s H args us vs Q E hr he hb hv hs=>?_⟩;refine codeAny_mono (F.run A outer s H args us vs Q _ hr he hb hv (h vs H Q E hs)) fun r s' hq=>?_
 cases r with
 | error e=>
  obtain ⟨x,C,od,H',T,_,_,_,_,_,_,_,_,_,z⟩:=hq;exact z.elim
 | ok fl=>cases fl <;> exact hq
end L2
namespace L2
open PySem PySem.Spec PyProof.Rows
structure jo (k:Nat) (A:Around):Prop where
 dp:A.depth + 3 * k + 5 < recursionLimit
 un:A.units + 16 * k + 200 < cLine
theorem pj.h {k:Nat} {A:Around} (r:pj k A):jo k A:=⟨r.dp,r.un⟩
theorem jo.mono {j k:Nat} {A:Around} (r:jo k A) (h:j <= k):jo j A:=⟨by have:=r.dp;omega,by have:=r.un;omega⟩
theorem jo.deeper {k:Nat} {A:Around} (r:jo (k + 1) A) (env:Env):jo k (A.deeper env):=
 ⟨by have:=r.dp;show A.depth + 1 + 3 * k + 5 < _;omega,by have:=r.un;show A.units + 3 + 16 * k + 200 < _;omega⟩
theorem jo.depth {k:Nat} {A:Around} (r:jo k A):A.depth < recursionLimit:=by have:=r.dp;omega
theorem jo.units {k:Nat} {A:Around} (r:jo k A):A.units + 64 < cLine:=by have:=r.un;omega
theorem pj.hn {k:Nat} {X:Cx} {e:Value} (r:pj k X.A):jo k (X.hn e).A:=⟨r.dp,r.un⟩
structure fJ (P:Program) (w:World) (K:W.Frag) (mg:Str->Option Value) (base:Heap) (CX:CXT) (k:Nat) (f:Addr) (fd:FuncData) (ps:List Str) (sp:Sp):Prop where
 len:∀ vs H Q E,sp vs H Q E->vs.length=ps.length
 run:∀ (A:Around) (outer:List Env) (s:Shared) (H:Hp) (args:Args) (us:List Value) (vs:List V) (Q:VK) (E:XK),jo k A->QD P w K mg base A outer s H->BindsTo s fd args (ps.zip us)->Sd vs us->sp vs H Q E ->
  codeAny (model P w) A (.call (.ref f) args) (CR CX outer P w H s Q E) s
theorem fJ.mono {P:Program} {w:World} {K:W.Frag} {mg:Str->Option Value} {base:Heap} {CX:CXT} {j k:Nat} {f:Addr} {fd:FuncData} {ps:List Str} {sp:Sp} (F:fJ P w K mg base CX j f fd ps sp) (h:j <= k) :
  fJ P w K mg base CX k f fd ps sp:=⟨F.len,fun A outer s H args us vs Q E hr=>F.run A outer s H args us vs Q E (hr.mono h)⟩
section
variable {X:Cx} {CX:CXT} {k:Nat} {f C:Addr} {fd:FuncData} {ps:List Str} {sp:Sp} {dvs:List V} {ds:List Value} {E:XK} {x m:Str} {p pos apos:Pos} {e o:Expr} {es:List Expr} {ta:TE} {t:TA}
end
noncomputable def tN (CX:CXT) (P:Program) (w:World) (K:W.Frag) (mg:Str->Option Value) (base:Heap) (N:List Str) (qual:Str) (scope:Scope) (f:Addr) (cd:Value) (A:Around) (outer:List Env) (s:Shared) (H:Hp) (E:XK):Cx where
 prog:=P
 w:=w
 K:=K
 mg:=mg
 base:=base
 A:=A.deeper (envOfC qual scope s.heap.objs.size f cd)
 N:=N
 s₀:=s
 H₀:=H
 env:=envOfC qual scope s.heap.objs.size f cd
 outer:=outer
 stack:=envOfC qual scope s.heap.objs.size f cd :: outer
 ex:=[]
 calm:=false
 fn:=fun _=>true
 pn:=[]
 xe:=fun e s'=>wpAny (model P w) (A.deeper (envOfC qual scope s.heap.objs.size f cd)) (leaving (envOfC qual scope s.heap.objs.size f cd) e) (fun _ s''=>CX outer H s E e s'') (fun e' s''=>CX outer H s E e' s'') s'
section
variable {P:Program} {w:World} {K:W.Frag} {mg:Str->Option Value} {base:Heap}
end
end L2
namespace L2
open PySem PySem.Spec PyProof.Rows
section
variable {X:Cx}
end
end L2
namespace L2
open PySem PySem.Spec PyProof.Rows
section
variable {α:Type} {M:List α->Prop}
theorem us1 (h:∀ a,M [a]):∀ us:List α,us.length=1->M us | [a],_=>h a
theorem us2 (h:∀ a b,M [a,b]):∀ us:List α,us.length=2->M us | [a,b],_=>h a b
theorem us3 (h:∀ a b c,M [a,b,c]):∀ us:List α,us.length=3->M us | [a,b,c],_=>h a b c
theorem us4 (h:∀ a b c d,M [a,b,c,d]):∀ us:List α,us.length=4->M us | [a,b,c,d],_=>h a b c d
theorem us7 (h:∀ a b c d e f g,M [a,b,c,d,e,f,g]):∀ us:List α,us.length=7->M us | [a,b,c,d,e,f,g],_=>h a b c d e f g
theorem us8 (h:∀ a b c d e f g i,M [a,b,c,d,e,f,g,i]):∀ us:List α,us.length=8->M us | [a,b,c,d,e,f,g,i],_=>h a b c d e f g i
end
structure XB (K:W.Frag) (C:Addr):Prop where
 hd:PySem.W.hasDictIn K C=true
 ov:((PySem.W.clsIn K C).any fun cd=>GE cd.mro)=true
 sa:PySem.W.findIn K (.ref C) "__setattr__"=some (some (.builtin "object.__setattr__"))
 ga:PySem.W.findIn K (.ref C) "__getattribute__"=some (some (.builtin "BaseException.__getattribute__"))
 gt:PySem.W.findIn K (.ref C) "__getattr__"=some none
theorem ZI {K:W.Frag} {C f:Addr} (b:XB K C) (m:MkX K C f):Nu K C:=⟨b.hd,b.ov,b.sa,b.ga,b.gt,_,m.e⟩
structure IB (K:W.Frag) (C:Addr):Prop where
 ha:PySem.W.findIn K (.ref C) "__class__"=some (some (.builtin "object.__class__"))
 hn:PySem.W.specialIn K (.builtin "object.__class__") "__get__"=some (some (.builtin "getset_descriptor.__get__"))
 htk:PySem.W.takesIn K (.builtin "object.__class__")=some true
 hm:PySem.W.mroIn K C (.type "object")=some true
theorem iK {K:W.Frag} {C:Addr} (x:Nu K C) (b:IB K C):BI K C:=⟨x,b.ha,b.hn,b.htk,b.hm⟩
theorem xL {K:W.Frag} {C f:Addr} (i:PySem.W.isFn K (.ref f)=true) (e:du K C f=true) (k:PySem.W.keepIn K (.ref C)=true):MkX K C f:=⟨e,beq_iff_eq.mp i,k⟩
end L2
namespace L2
open PySem PySem.Spec PyProof.Rows
theorem pA {ks:List Int}:∀ {its:List Value},Sd (ks.map V.int) its->∃ xs:List (Int × Tok),its=xs.map (fun p=>Value.int p.1 p.2)/\xs.map (·.1)=ks:=by
 induction ks with
 | nil=>intro its r;cases r;exact ⟨[],rfl,rfl⟩
 | cons k ks ih=>
  intro its r;cases r with
  | cons h t=>
   obtain ⟨xs,e1,e2⟩:=ih t;obtain ⟨tk,rfl⟩:=(show ∃ t,_=Value.int k t from h);exact ⟨(k,tk) :: xs,by rw [map_cons,<- e1],by rw [map_cons,e2]⟩
section
variable {X:Cx}
theorem Bx (hc:X.calm=true):gk X (.builtin "max") (fun xs H Q=>∃ l ks m,xs=[.ref l]/\SqL X.K H l (List.map V.int ks)/\(m ∈ ks/\∀ k ∈ ks,k <= m)/\Q (.int m) H):=by
 intro pins s σ H xs us Q I r h;obtain ⟨l,ks,m,rfl,hq,hm,q⟩:=h;obtain ⟨u,rfl,ru⟩:=Vr r;cases ru;obtain ⟨its,rv,pl,hz⟩:=I.list hq;obtain ⟨xs,e1,e2⟩:=pA rv;have hil:its.toArray=intItems xs.toArray:=by rw [e1];unfold intItems;simp
 have hls:s.heap.IsList l (intItems xs.toArray):=by rw [<- hil];exact pl.isList
 have hxl:xs.length=ks.length:=by rw [<- e2,length_map]
 have hne:0 < xs.toArray.size:=by
  rw [size_toArray,hxl];exact List.length_pos_of_mem hm.1
 refine max_intList (I.ok.hd hc) hls hne fun v h' tk hv hk=>⟨.int m,H,I.kept hk,?_,q⟩
 obtain ⟨tv,rfl⟩:=intItems_at hv;refine ⟨tv,?_⟩;have hb:=argBest_gt (numAt xs.toArray) (xs.toArray.size - 1);generalize argBest (fun i j=>decide (numAt xs.toArray i > numAt xs.toArray j)) (xs.toArray.size - 1)=j at hb ⊢;have hn:∀ i,i < ks.length->ks[i]? = some (numAt xs.toArray i):=fun i hi=>by
  rw [numAt_eq,getD_eq_getElem?_getD];show ks[i]? = some (((xs.map (·.1))[i]?).getD 0);rw [e2,getElem?_eq_getElem hi];rfl
 rw [size_toArray] at hb hne;have h1:=hm.2 _ (mem_of_getElem? (hn j (by omega)));obtain ⟨i,hi⟩:=getElem?_of_mem hm.1;have hil:i < ks.length:=(List.getElem?_eq_some_iff.mp hi).1;have h2:=hb.2 i (by omega);have h3:m=numAt xs.toArray i:=Option.some.inj (hi.symm.trans (hn i hil));rw [show numAt xs.toArray j=m by omega]
end
end L2
namespace L2
open PySem PySem.Spec PyProof.Rows
noncomputable def LM (p d:Addr):Heap->Prop:=fun h=>PySem.W.KdlKeysView h p d
noncomputable def sN (p d:Addr):Heap->Prop:=fun h=>h.IsValuesView p d
theorem LM.ok {P:Program} {w:World} {H:Hp} {h:Heap} {p d:Addr} (z:LM p d h):vd P w H h p (.ext (LM p d)):=
 ⟨z,let ⟨o,ho,_⟩:=z;⟨o,ho⟩,fun _ _ z1 k=>let ⟨o,ho,x⟩:=z1;⟨o,k o ho,x⟩⟩
theorem sN.ok {P:Program} {w:World} {H:Hp} {h:Heap} {p d:Addr} (z:sN p d h):vd P w H h p (.ext (sN p d)):=
 ⟨z,let ⟨o,ho,_⟩:=z;⟨o,ho⟩,fun _ _ z1 k=>let ⟨o,ho,x⟩:=z1;⟨o,k o ho,x⟩⟩
section
variable {X:Cx}
noncomputable def Ct:V->List V->Hp->VK->Prop:=fun x vs H Q=>∃ d kvs,x=.ref d/\vs=[]/\H d=some (.dK kvs)/\∀ p,H p=none->Q (.ref p) (upd H p (.ext (LM p d)))
noncomputable def vC (K:W.Frag):V->List V->Hp->VK->Prop:=fun x vs H Q=>∃ l ys k j,x=.ref l/\vs=[.str k]/\SqL K H l (qb ys)/\ys[j]? = some k/\(∀ m,m < j->ys[m]? ≠ some k)/\ys.length <= 1000/\Q (.int (j:Nat)) H
theorem Io (k:Str):∀ {vs:List Value} {ns:List Str},StrsAre vs ns->∀ (j:Nat) (h1:j < vs.length) (h2:j < ns.length),isStrOf k vs[j]=(ns[j] == k)
 | _,_,.cons n t _,0,_,_=>rfl
 | _,_,.cons n t r,j + 1,h1,h2=>Io k r j (Nat.lt_of_succ_lt_succ h1) (Nat.lt_of_succ_lt_succ h2)
theorem Br:∀ {vs:List Value} {ns:List Str},StrsAre vs ns->vs.length=ns.length
 | _,_,.nil=>rfl
 | _,_,.cons _ _ r=>congrArg (· + 1) (Br r)
theorem CD:MtR X "list.index" (vC X.K):=by
 intro pins s σ H x xs v us Q I rx rv h;obtain ⟨l,ks,k,j,rfl,rfl,hq,hk,hno,hl,q⟩:=h;cases (show v=Value.ref l from rx);obtain ⟨u,rfl,ru⟩:=Vr rv;obtain ⟨tu,rfl⟩:=(show ∃ t,u=Value.str k t from ru);obtain ⟨its,ri,pl,hz⟩:=I.list hq;have hi:=Au ri;have hlen:=Br hi;have hj:j < ks.length:=(List.getElem?_eq_some_iff.mp hk).1;obtain ⟨⟨cls,dd,data,sl⟩,ho,hc,n,hd⟩:=id pl.isList;simp only at hc hd;subst hc hd;refine call_meets PySem.F.slot_list_index ⟨_,ho,rfl⟩ PySem.F.entry_list_index (PySem.F.args_list_index_2 _ _)
  (PySem.SeqAt.list_indexAt l its.toArray n dd sl (.str k tu) (isStrOf k) j (by simpa [hlen] using hj) (by omega) ?_ ?_) ⟨ho,fun y hy=>(eq_isStrOf k tu hi y (by simpa using hy)).at _ _,.int _,H,I.tok _,⟨_,rfl⟩,q⟩
 ·show isStrOf k its[j]=true;rw [Io k hi _ (by omega) hj];simpa using (List.getElem?_eq_some_iff.mp hk).2
 ·intro m hm hlt;show isStrOf k its[m]=false;rw [Io k hi m (by simpa using hm) (by omega)];have:=hno m hlt;rw [getElem?_eq_getElem (by omega)] at this;simpa using this
end
end L2
namespace L2
open PySem PySem.Spec PyProof.Rows
noncomputable abbrev TF:=St->Hp->Str->(Str->Hp->Prop)->Prop
section
variable {X:Cx} {e:Expr} {es:List Expr} {t:TF} {te:TE} {pos:Pos}
end
end L2
namespace L2
open PySem PySem.Spec PyProof.Rows
noncomputable def oN (p:Addr) (a b c:Int):Heap->Prop:=fun h=>∃ t u v,IsRange h p a b c t u v
theorem oN.ok {P:Program} {w:World} {H:Hp} {h:Heap} {p:Addr} {a b c:Int} (z:oN p a b c h):vd P w H h p (.ext (oN p a b c)):=
 ⟨z,let ⟨_,_,_,e⟩:=z;⟨_,e⟩,fun _ _ z1 k=>let ⟨t,u,v,e⟩:=z1;⟨t,u,v,k _ e⟩⟩
section
variable {X:Cx}
end
end L2
namespace L2
open PySem PySem.Spec PyProof.Rows
noncomputable def AO (c:Addr) (qual:Str):Heap->Prop:=fun h=>h.CodeRec (.ref c) qual
noncomputable def Tab (H:Hp) (Pt:Addr) (pos:Pos) (qual:Str):Prop:=
 ∃ ps,H Pt=some (.tbl ps)/\(ps=#[]\/∃ c',ps=#[rawInt pos.line,rawInt pos.col,.ref c']/\H c'=some (.ext (AO c' qual)))
noncomputable def Cy (Pt:Addr) (H H':Hp):Prop:=∀ b o,b ≠ Pt->H b=some o->H' b=some o
theorem Cy.refl (Pt:Addr) (H:Hp):Cy Pt H H:=fun _ _ _ h=>h
theorem Cy.trans {Pt:Addr} {H H1 H2:Hp} (a:Cy Pt H H1) (b:Cy Pt H1 H2):Cy Pt H H2:=fun c o n h=>b c o n (a c o n h)
theorem bc.p {Pt:Addr} {H H':Hp} (s:bc H H'):Cy Pt H H':=fun b o _ h=>s b o h
theorem Tab.ne {H:Hp} {Pt b:Addr} {pos:Pos} {qual:Str} {o:HO} (t:Tab H Pt pos qual) (h:H b=some o) (ho:∀ ps,o ≠ .tbl ps):b ≠ Pt:=fun e=>by
 obtain ⟨ps,e1,_⟩:=t;subst e;rw [e1] at h;exact ho ps (Option.some.inj h).symm
theorem Tab.step {H H':Hp} {Pt:Addr} {pos:Pos} {qual:Str} (t:Tab H Pt pos qual) (s:bc H H'):Tab H' Pt pos qual:=by
 obtain ⟨ps,e,d⟩:=t;refine ⟨ps,s _ _ e,?_⟩;rcases d with d | ⟨c',d,e'⟩
 ·exact .inl d
 ·exact .inr ⟨c',d,s _ _ e'⟩
structure MO (X:Cx) (c Pt:Addr):Prop where
 code:X.env.code=.ref c
 hd:PySem.W.CodeHd X.base c Pt
 bm:X.base.BuiltinsAt X.mg Pt
section
variable {X:Cx} {pins:List (Addr × Obj)} {σ:St} {H:Hp} {s:Shared} {params:Arguments} {body:Expr} {scope:Scope} {pos:Pos} {c Pt:Addr} {clos:List (Str × Addr)} {Q:Value->Shared->Prop}
end
section
variable {P:Program} {w:World} {K:W.Frag} {mg:Str->Option Value} {base:Heap}
end
structure LO (p y:Str) (sc:Scope):Prop where
 kind:sc.kind=.function
 co:sc.isCoroutine=false
 gen:sc.isGenerator=false
 ne:p ≠ y
 par:sc.names.lookup p=some .local
 yf:sc.names.lookup y=some .free
 nocell:∀ z ∈ sc.names,z.2 ≠ .cell
 one:∀ z ∈ sc.names,z.2=.free->z.1=y
section
variable {X:Cx} {pins:List (Addr × Obj)} {σ:St} {H:Hp} {s:Shared} {k:Nat} {f c' cl:Addr} {q p y:Str} {params:Arguments} {body:Expr} {scope:Scope} {v:V} {t:TE}
end
end L2
namespace L2
open PySem PySem.Spec PyProof.Rows
end L2
namespace L2
open PySem PySem.Spec PyProof.Rows
section
variable {P:Program} {w:World} {A:Around} {E:Value->Shared->Prop} {s:Shared}
structure EO (h:Heap) (d:Addr) (o:Obj) (es:Array DictEntry) (ep:Nat):Prop where
 at_:h.get? d=some o
 ex:o.ExactDict
 dat:o.data=.dict es ep
end
noncomputable def AtO (a:Addr) (o:Obj):Heap->Prop:=fun h=>h.get? a=some o
structure KN (P:Program) (w:World) (H:Hp) (a:Addr) (kvs:List (List Key × V)) (o:Obj) (es:Array DictEntry) (ep:Nat) (xs:List (List Key × Addr × Value)):Prop where
 at_:H a=some (.ext (AtO a o))
 ex:o.ExactDict
 dat:o.data=.dict es ep
 ent:es.toList=xs.map (entryOfKey (tupleKind (zf P w)))
 nd:(xs.map (·.1)).Nodup
 ks:Paired (fun (p:List Key × V) (q:List Key × Addr × Value)=>p.1=q.1/\H q.2.1=some (.tup (p.1.map kV))/\Td p.2 q.2.2) kvs xs
 sz:kvs.length <= sizeLine
 ns:(a == sysModules)=false
noncomputable def Vu (P:Program) (w:World) (H:Hp) (a:Addr) (kvs:List (List Key × V)):Prop:=∃ o es ep xs,KN P w H a kvs o es ep xs
section
variable {P:Program} {w:World} {H H':Hp} {h:Heap} {a:Addr} {kvs:List (List Key × V)}
theorem IE (d:Vu P w H a kvs) (s:bc H H'):Vu P w H' a kvs:=by
 obtain ⟨o,es,ep,xs,r⟩:=d;exact ⟨o,es,ep,xs,s _ _ r.at_,r.ex,r.dat,r.ent,r.nd,Paired.mapP r.ks fun p q z=>⟨z.1,s _ _ z.2.1,z.2.2⟩,r.sz,r.ns⟩
theorem LG {p:Addr} {u:HO} (d:Vu P w H a kvs) (hp:p ≠ a) (ht:∀ xs,H p ≠ some (.tup xs)):Vu P w (upd H p u) a kvs:=by
 obtain ⟨o,es,ep,xs,r⟩:=d;exact ⟨o,es,ep,xs,by rw [zb (Ne.symm hp)];exact r.at_,r.ex,r.dat,r.ent,r.nd,Paired.mapP r.ks fun q q' z=>⟨z.1,by rw [zb (fun e=>ht _ (e ▸ z.2.1))];exact z.2.1,z.2.2⟩,r.sz,r.ns⟩
theorem MG {o:Obj} {es:Array DictEntry} {ep:Nat} {xs:List (List Key × Addr × Value)} (ok:HOk P w H h) (r:KN P w H a kvs o es ep xs):EO h a o es ep:=
 ⟨(ok a _ r.at_).1,r.ex,r.dat⟩
theorem rJ (ok:HOk P w H h) (d:Vu P w H a kvs):Mut (H a)/\(∃ u,h.get? a=some u)/\vd P w (upd H a (.dT kvs)) h a (.dT kvs):=by
 obtain ⟨o,es,ep,xs,r⟩:=d;have e:=(MG ok r).at_;refine ⟨by rw [r.at_];exact True.intro,⟨o,e⟩,r.sz,r.ns,xs,Paired.mapP r.ks fun q q' z=>⟨z.1,?_,z.2.2⟩,o,es,ep,e,r.ex,r.dat,r.ent,r.nd⟩;rw [zb (fun e=>by have:=z.2.1;rw [e,r.at_] at this;cases this)];exact z.2.1
theorem BJ {b:Addr} {xs:List V} (d:Vu P w H a kvs) (e:H b=some (.tup xs)):b ≠ a:=fun z=>by
 obtain ⟨o,es,ep,ys,r⟩:=d;have:=r.at_;rw [<- z,e] at this;cases this
end
section
variable {X:Cx} {pins:List (Addr × Obj)} {σ:St} {H:Hp} {s:Shared} {a b:Addr} {kvs:List (List Key × V)} {k:List Key} {v:V} {r:Value} {A:Around} {E:Value->Shared->Prop}
theorem Vz {o':HO} (I:Inv X pins σ H s) (mu:Mut (H a)) (ex:∃ u,s.heap.get? a=some u) (new:vd X.prog X.w (upd H a o') s.heap a o'):Inv X pins σ (upd H a o') s:=
 I.un (t':=s.toks) (h':=s.heap) (Un.write mu (.inl rfl) (fun _ _ _ q=>q) ex) (I.hok.write mu (.inl rfl) (fun _ _ _ q=>q) ex new)
theorem LF (I:Inv X pins σ H s) (d:Vu X.prog X.w H a kvs):Inv X pins σ (upd H a (.dT kvs)) s:=
 have z:=rJ I.hok d
 Vz I z.1 z.2.1 z.2.2
theorem Qz (I:Inv X pins σ H s) (e:H a=some (.dT kvs)):∃ o,Inv X pins σ (upd H a (.ext (AtO a o))) s/\Vu X.prog X.w (upd H a (.ext (AtO a o))) a kvs:=by
 obtain ⟨z,y,xs,r,o,es,ep,h1,h2,h3,h4,h5⟩:=(show vd X.prog X.w H s.heap a (.dT kvs) from I.hok a _ e);refine ⟨o,Vz I (by rw [e];exact True.intro) ⟨o,h1⟩ ⟨h1,⟨o,h1⟩,fun _ _ q k=>k o q⟩,o,es,ep,xs,gb ..,h2,h3,h4,h5,Paired.mapP r fun p q z=>⟨z.1,?_,z.2.2⟩,z,y⟩;rw [zb (fun q=>by have:=z.2.1;rw [q,e] at this;cases this)];exact z.2.1
theorem EM {Q:Unit->Shared->Prop} (hu:A.units + 1 < cLine) (I:Inv X pins σ H s) (d:Vu X.prog X.w H a kvs) (eb:H b=some (.tup (k.map kV))) (hl:kvs.length < sizeLine) (rv:Td v r)
  (h:∀ o s',Inv X pins σ (upd H a (.ext (AtO a o))) s'->Vu X.prog X.w (upd H a (.ext (AtO a o))) a (Mo kvs k v)->Q () s'):wpAny (model X.prog X.w) A (setItem (.ref a) (.ref b) r) Q E s:=by
 refine Zw hu (LF I d) (dF.t (gb ..) (by rw [zb (BJ d eb)];exact eb) hl) (show Td (.ref b) (.ref b) from rfl) rv fun s' I'=>?_
 rw [Vk] at I';obtain ⟨o,I2,d2⟩:=Qz I' (gb ..);rw [Vk] at I2 d2;exact h o s' I2 d2
end
noncomputable def GL (P:Program) (w:World) (td ty tv:TE):TS:=fun D σ H=>tv σ H fun v H1=>td σ H1 fun x H2=>ty σ H2 fun y H3=>∃ a b kvs k,x=.ref a/\y=.ref b/\Vu P w H3 a kvs/\H3 b=some (.tup (k.map kV))/\kvs.length < sizeLine/\∀ o,Vu P w (upd H3 a (.ext (AtO a o))) a (Mo kvs k v)->D.nx σ (upd H3 a (.ext (AtO a o)))
noncomputable def RK (P:Program) (w:World):TE:=fun _ H Q=>∀ p o,H p=none->Vu P w (upd H p (.ext (AtO p o))) p []->Q (.ref p) (upd H p (.ext (AtO p o)))
section
variable {X:Cx} {o i e value:Expr} {pos pos' tpos:Pos} {td ty tv:TE}
theorem EI (hu:X.A.units + 1 < cLine) (ho:PE X o td) (hi:PE X i ty) (hv:PE X value tv) (hs:swapsWith value (some (.Subscript o i pos')) pos.line X.env=pure false) :
  PS X (.Assign [.Subscript o i pos'] value pos) (GL X.prog X.w td ty tv):=by
 intro pins s σ H D I h;refine wpAny_Assign_Subscript (thn (hv pins s σ H _ I h) fun r s1 ⟨v,H1,I1,rv,q1⟩=>thn (ho pins s1 σ H1 _ I1 q1) fun u s2 ⟨x,H2,I2,rx,q2⟩=>thn (hi pins s2 σ H2 _ I2 q2) fun iv s3 hZ1=>?_) hs;obtain ⟨y,H3,I3,ry,a,b,kvs,k,ex,ey,d,eb,hl,q3⟩:=hZ1;subst ex ey;obtain rfl:u=Value.ref a:=rx;obtain rfl:iv=Value.ref b:=ry;exact EM hu I3 d eb hl rv fun ob s4 I4 d4=>⟨σ,_,I4,q3 ob d4⟩
theorem OJ:PE X (.Dict [] [] pos) (RK X.prog X.w):=fun pins s σ H Q I h=>by
 refine thn (WF pins s σ H (fun x H1=>∃ p,x=.ref p/\H p=none/\H1=upd H p (.dT [])) I fun p hp=>⟨p,rfl,hp,rfl⟩) fun v s1 hZ1=>?_
 obtain ⟨x,H1,I1,r1,p,ex,hp,eH⟩:=hZ1;subst ex eH;obtain ⟨o,I2,d2⟩:=Qz I1 (gb ..);rw [Vk] at I2 d2;exact ⟨.ref p,_,I2,r1,h p o hp d2⟩
end
section
variable {X:Cx} {tg:Expr}
end
end L2
namespace L2
open PySem PySem.Spec PyProof.Rows
noncomputable def cN (p d:Addr):Heap->Prop:=fun h=>h.IsItemsView p d
theorem cN.ok {P:Program} {w:World} {H:Hp} {h:Heap} {p d:Addr} (z:cN p d h):vd P w H h p (.ext (cN p d)):=
 ⟨z,let ⟨o,ho,_⟩:=z;⟨o,ho⟩,fun _ _ z1 k=>let ⟨o,ho,x⟩:=z1;⟨o,k o ho,x⟩⟩
structure fN (H H':Hp) (l:Addr) (as:List Addr) (kvs:List (Key × V)):Prop where
 same:∀ b o,H b=some o->H' b=some o
 fresh:H l=none
 frAll:∀ a ∈ as,H a=none
 at_:H' l=some (.lst (as.map V.ref))
 len:as.length=kvs.length
 al:∀ (j:Nat) (a:Addr) (q:Key × V),as[j]? = some a->kvs[j]? = some q->H' a=some (.tup [kV q.1,q.2])
 only:∀ b o,H' b=some o->H b=some o\/o=.lst (as.map V.ref)\/∃ q ∈ kvs,o=.tup [kV q.1,q.2]
section
variable {X:Cx}
noncomputable def AH:V->List V->Hp->VK->Prop:=fun x vs H Q=>∃ z,x=.str z/\vs=[]/\z.length <= sizeLine/\Q (.str (Txt.strip z)) H
theorem Kz:MtR X "str.strip" AH:=by
 intro pins s σ H x xs v us Q I rx rv h;obtain ⟨z,rfl,rfl,hz,q⟩:=h;obtain ⟨t,rfl⟩:=rx;cases rv;exact PySem.SC.strip (fun t' k=>⟨.str _,H,I.tok _,⟨_,rfl⟩,q⟩) hz
theorem xu:OpR X (binaryOp .Mult) (fun x y H Q=>∃ z n,x=.str z/\y=.int n/\MulOk z n/\Q (.str (Txt.mul z n)) H):=by
 intro pins s σ H x y v u Q I rx ry h;obtain ⟨z,n,rfl,rfl,hm,q⟩:=h;obtain ⟨t,rfl⟩:=rx;obtain ⟨t',rfl⟩:=ry;exact PySem.SB.mul hm fun t' k=>⟨.str _,H,I.tok _,⟨_,rfl⟩,q⟩
end
end L2
namespace L2
open PySem PySem.Spec PyProof.Rows
section
open AutoSeq1 (wpAny_loadPart')
open MeetsSeq MeetsSeq2 MeetsSeq3 SeqRoads2
variable {P:Program} {w:World} {l b:Addr} {xs ys:Array Value} {n m:Nat} {dd de:Option Addr} {sl sm:Array (Option Value)}
end
section
variable {X:Cx} {pins:List (Addr × Obj)} {σ:St} {H:Hp} {s:Shared}
structure DL (H:Hp) (p:Addr) (ps:List Addr) (ks:List (List (Key × V))):Prop where
 at_:H p=some (.lst (ps.map V.ref))
 len:ps.length=ks.length
 al:∀ (j:Nat) (a:Addr) (kvs:List (Key × V)),ps[j]? = some a->ks[j]? = some kvs->H a=some (.dK kvs)
end
section
variable {X:Cx}
end
end L2
namespace L2
open PySem PySem.Spec PyProof.Rows
section
variable {X:Cx} {pins:List (Addr × Obj)} {σ:St} {H:Hp} {s:Shared} {d:Addr} {o:Obj} {kvs:List (Key × V)}
end
section
variable {X:Cx} {tg:Expr}
end
end L2
namespace L2
open PySem PySem.Spec PyProof.Rows
theorem LI (i:Nat) (σ:St) (H:Hp) (Q:VK):zN i σ H Q=(∃ v,σ[i]? = some (some v)/\Q v H):=rfl
theorem dN (v:V) (x_0:St) (H:Hp) (Q:VK):tC v x_0 H Q=(Q v H):=rfl
theorem vN (t:TE) (σ:St) (H:Hp) (Q:(Bool->Hp->Prop)):tB t σ H Q=(t σ H fun x H1=>∃ c,x=.bl c/\Q c H1):=rfl
theorem iJ (t u:TT) (σ:St) (H:Hp) (Q:(Bool->Hp->Prop)):tO t u σ H Q=(t σ H fun c H1=>if c=true then u σ H1 Q else Q false H1):=rfl
theorem WL (t u:TT) (σ:St) (H:Hp) (Q:(Bool->Hp->Prop)):tOr t u σ H Q=(t σ H fun c H1=>if c=true then Q true H1 else u σ H1 Q):=rfl
theorem vI (t:TT) (σ:St) (H:Hp) (Q:(Bool->Hp->Prop)):mO t σ H Q=(t σ H fun c H1=>Q (!c) H1):=rfl
theorem oG (ta tb:TE) (σ:St) (H:Hp) (Q:VK):HL ta tb σ H Q=(ta σ H fun x H1=>∃ c,x=.bl c/\if c=true then tb σ H1 Q else Q (.bl false) H1):=rfl
theorem sJ (ta tb:TE) (σ:St) (H:Hp) (Q:VK):kO ta tb σ H Q=(ta σ H fun x H1=>∃ c,x=.bl c/\if c=true then Q (.bl true) H1 else tb σ H1 Q):=rfl
theorem UF (ta:TE) (σ:St) (H:Hp) (Q:VK):EL ta σ H Q=(ta σ H fun x H1=>∃ c,x=.bl c/\Q (.bl (!c)) H1):=rfl
theorem WK (t:TT) (ta tb:TE) (σ:St) (H:Hp) (Q:VK):tIf t ta tb σ H Q=(t σ H fun c H1=>if c=true then ta σ H1 Q else tb σ H1 Q):=rfl
theorem Qc (D:Mi) (σ:St) (H:Hp):CL  D σ H=(D.nx σ H):=rfl
theorem Ab (t u:TS) (D:Mi) (σ:St) (H:Hp):vO t u D σ H=(t { D with nx:=u D } σ H):=rfl
theorem vG (te:TE) (D:Mi) (σ:St) (H:Hp):pM te D σ H=(te σ H fun _ H1=>D.nx σ H1):=rfl
theorem SI (te:TE) (D:Mi) (σ:St) (H:Hp):bN te D σ H=(te σ H D.rt):=rfl
theorem JE (x_0:Mi) (x_1:St) (x_2:Hp):YH  x_0 x_1 x_2=(False):=rfl
theorem cf (i:Nat) (v:V) (σ:St) (H:Hp) (Q:(St->Hp->Prop)):Kw i v σ H Q=(Q (σ.set i (some v)) H):=rfl
theorem cK (vs:List V) (σ:St) (H:Hp) (Q:(St->Hp->Prop)):VM  vs σ H Q=(vs=[]/\Q σ H):=rfl
theorem IF (t:TG) (u:TGs) (vs:List V) (σ:St) (H:Hp) (Q:(St->Hp->Prop)):BA t u vs σ H Q=(∃ v r,vs=v :: r/\t v σ H fun σ' H'=>u r σ' H' Q):=rfl
theorem bK (K:W.Frag) (n:Nat) (t:TGs) (v:V) (σ:St) (H:Hp) (Q:(St->Hp->Prop)):yM K n t v σ H Q=(∃ a xs,v=.ref a/\SqT K H a xs/\xs.length=n/\t xs σ H Q):=rfl
theorem lK (to ti:TE) (t:WM) (v:V) (σ:St) (H:Hp) (Q:(St->Hp->Prop)):oO to ti t v σ H Q=(to σ H fun o H1=>ti σ H1 fun i H2=>t o i v H2 fun H3=>Q σ H3):=rfl
theorem oJ (te:TE) (g:TG) (D:Mi) (σ:St) (H:Hp):QM te g D σ H=(te σ H fun x H1=>g x σ H1 D.nx):=rfl
theorem cG (K:W.Frag) (tl:TE) (σ:St) (H:Hp) (R:(It->Hp->Prop)):IM K tl σ H R=(tl σ H fun x H1=>∃ a,x=.ref a/\(∃ xs,SqL K H1 a xs)/\R (Itl K a) H1):=rfl
theorem kJ (K:W.Frag) (tl:TE) (σ:St) (H:Hp) (R:(It->Hp->Prop)):nO K tl σ H R=(tl σ H fun x H1=>∃ a,x=.ref a/\(∃ xs,SqT K H1 a xs)/\R (Itt K a) H1):=rfl
theorem AL (r:R2) (ta tb:TE) (σ:St) (H:Hp) (Q:VK):tOp r ta tb σ H Q=(ta σ H fun x H1=>tb σ H1 fun y H2=>r x y H2 Q):=rfl
theorem zL (r:V->Hp->VK->Prop) (ta:TE) (σ:St) (H:Hp) (Q:VK):tUn r ta σ H Q=(ta σ H fun x H1=>r x H1 Q):=rfl
theorem kN (C:Int->Int->Prop) (g:Int->Int->V) (x:V) (y:V) (H:Hp) (Q:VK):rI C g x y H Q=(∃ i j,x=.int i/\y=.int j/\C i j/\Q (g i j) H):=rfl
theorem lL (g:Int->Int->V) (x:V) (y:V) (H:Hp) (Q:VK):rI0 g x y H Q=(∃ i j,x=.int i/\y=.int j/\Q (g i j) H):=rfl
theorem XM (g:Int->V) (x:V) (H:Hp) (Q:VK):rU g x H Q=(∃ i,x=.int i/\Q (g i) H):=rfl
theorem nM (x:V) (y:V) (H:Hp) (Q:VK):rEq  x y H Q=(zM x y=true/\Q (.bl (decide (x=y))) H):=rfl
theorem ZK (x:V) (y:V) (H:Hp) (Q:VK):rNe  x y H Q=(zM x y=true/\Q (.bl (!decide (x=y))) H):=rfl
theorem yF (t:TE) (σ:St) (H:Hp) (Q:(Bool->Hp->Prop)):QL t σ H Q=(t σ H fun x H'=>∃ k,x=.bl k/\Q k H'):=rfl
theorem HI (K:W.Frag) (ta tv:TE) (f:Str) (D:Mi) (σ:St) (H:Hp):zO K ta tv f D σ H=(tv σ H fun y H1=>ta σ H1 fun x H2=>∃ a C dx fs,x=.ref a/\H2 a=some (.ins C dx fs)/\Cls K C/\Xb K C f/\fs.length < 1000 /\
 D.nx σ (upd H2 a (.ins C dx (qh f y fs)))):=rfl
theorem VA (K:W.Frag) (ta tv:TE) (rd:V->V->Hp->VK->Prop) (f:Str) (D:Mi) (σ:St) (H:Hp):ZE K ta tv rd f D σ H=(ta σ H fun x H1=>∃ a C dx fs v,x=.ref a/\H1 a=some (.ins C dx fs)/\Cls K C/\Xb K C f/\fs.lookup f=some v /\
 tv σ H1 fun y H2=>rd v y H2 fun z H3=>∃ dx' fs',H3 a=some (.ins C dx' fs')/\fs'.length < 1000/\D.nx σ (upd H3 a (.ins C dx' (qh f z fs')))):=rfl
theorem WJ (x:V) (y:V) (H:Hp) (Q:VK):lO  x y H Q=(∃ i j,x=.int i/\y=.int j/\Q (.int (i + j)) H):=rfl
theorem yJ (x_0:St) (H:Hp) (Q:(List V->Hp->Prop)):RM  x_0 H Q=(Q [] H):=rfl
theorem lH (ta:TE) (tr:TA) (σ:St) (H:Hp) (Q:(List V->Hp->Prop)):aL ta tr σ H Q=(ta σ H fun x H1=>tr σ H1 fun xs H2=>Q (x :: xs) H2):=rfl
theorem XI (t:TA) (σ:St) (H:Hp) (Q:VK):MN t σ H Q=(t σ H fun xs H1=>xs.length <= sizeLine/\∀ p,H1 p=none->Q (.ref p) (upd H1 p (.tup xs))):=rfl
theorem qK (t:TA) (σ:St) (H:Hp) (Q:VK):sO t σ H Q=(t σ H fun xs H1=>xs.length <= sizeLine/\∀ p,H1 p=none->Q (.ref p) (upd H1 p (.lst xs))):=rfl
theorem aG (sp:Sp) (dvs:List V) (E:XK) (t:TA) (σ:St) (H:Hp) (Q:VK):jJ sp dvs E t σ H Q=(t σ H fun vs H1=>sp (vs ++ dvs) H1 Q E):=rfl
theorem JF (C:Addr) (m:Str) (sp:Sp) (dvs:List V) (E:XK) (ta:TE) (t:TA) (σ:St) (H:Hp) (Q:VK):AI C m sp dvs E ta t σ H Q=(ta σ H fun x H1=>∃ a dx fs,x=.ref a/\H1 a=some (.ins C dx fs)/\fs.lookup m=none /\
 t σ H1 fun vs H2=>sp (x :: (vs ++ dvs)) H2 Q E):=rfl
theorem tF (C:Addr) (sp:Sp) (dvs:List V) (E:XK) (t:TA) (σ:St) (H:Hp) (Q:VK):FL C sp dvs E t σ H Q=(t σ H fun vs H1=>∀ x dx,H1 x=none->H1 dx=none->dx ≠ x ->
 sp (.ref x :: (vs ++ dvs)) (upd (upd H1 dx (.own x)) x (.ins C dx [])) (fun v H2=>v=.non/\Q (.ref x) H2) E):=rfl
theorem qL (r:List V->Hp->VK->Prop) (t:TA) (σ:St) (H:Hp) (Q:VK):tCB r t σ H Q=(t σ H fun vs H1=>r vs H1 Q):=rfl
theorem aB (x_0:St) (H:Hp) (Q:(Option Int->Hp->Prop)):OC  x_0 H Q=(Q none H):=rfl
theorem HG (t:TE) (σ:St) (H:Hp) (Q:(Option Int->Hp->Prop)):RL t σ H Q=(t σ H fun x H1=>∃ i,x=.int i/\Q (some i) H1):=rfl
theorem SL (r:V->Option Int->Option Int->Hp->VK->Prop) (te:TE) (tl th:TO) (σ:St) (H:Hp) (Q:VK):tSl r te tl th σ H Q=(te σ H fun x H1=>tl σ H1 fun l H2=>th σ H2 fun u H3=>r x l u H3 Q):=rfl
theorem DJ (K:W.Frag) (x:V) (lo:Option Int) (hi:Option Int) (H:Hp) (Q:VK):WN K x lo hi H Q=(∃ a xs,x=.ref a/\SqT K H a xs /\
 ¬ (HT.sIx xs.length 0 lo=0/\HT.sIx xs.length xs.length hi=xs.length)/\∀ p,H p=none->Q (.ref p) (upd H p (.tup (Kt xs lo hi)))):=rfl
theorem NJ (K:W.Frag) (x:V) (y:V) (H:Hp) (Q:VK):aO K x y H Q=(∃ p xs i v,x=.ref p/\y=.int i/\SqL K H p xs/\atI xs i=some v/\Q v H):=rfl
theorem AJ (K:W.Frag) (x:V) (y:V) (H:Hp) (Q:VK):cO K x y H Q=(∃ p xs i v,x=.ref p/\y=.int i/\SqT K H p xs/\atI xs i=some v/\Q v H):=rfl
theorem DK (x:V) (y:V) (H:Hp) (Q:VK):PN  x y H Q=(∃ z i c,x=.str z/\y=.int i/\z.length <= sizeLine/\atI z.cps.toList i=some c/\Q (.str ⟨#[c]⟩) H):=rfl
theorem kG (o:V) (i:V) (v:V) (H:Hp) (Q:(Hp->Prop)):kM  o i v H Q=(∃ p xs k j,o=.ref p/\i=.int k/\H p=some (.lst xs)/\ixN xs.length k=some j/\Q (upd H p (.lst (xs.set j v)))):=rfl
theorem EK (K:W.Frag) (x:V) (lo:Option Int) (hi:Option Int) (H:Hp) (Q:VK):eO K x lo hi H Q=(∃ a xs,x=.ref a/\SqL K H a xs/\∀ p,H p=none->Q (.ref p) (upd H p (.lst (Kt xs lo hi)))):=rfl
theorem BM (K:W.Frag) (neg:Bool) (x:V) (y:V) (H:Hp) (Q:VK):rIn K neg x y H Q=(∃ p xs,y=.ref p/\(SqL K H p xs\/SqT K H p xs)/\sk x=true/\xs.all sk=true/\Q (.bl (if neg then !inV x xs else inV x xs)) H):=rfl
theorem nJ (K:W.Frag) (T:String) (r:V->List V->Hp->VK->Prop) (to:TE) (σ:St) (H:Hp) (Q:VK):iO K T r to σ H Q=(to σ H fun x H1=>tyV K T x H1/\r x [] H1 Q):=rfl
theorem kL (K:W.Frag) (T:String) (r:V->List V->Hp->VK->Prop) (to:TE) (t:TA) (σ:St) (H:Hp) (Q:VK):tBM K T r to t σ H Q=(to σ H fun x H1=>tyV K T x H1/\t σ H1 fun xs H2=>r x xs H2 Q):=rfl
theorem vB (x:V) (vs:List V) (H:Hp) (Q:VK):AC  x vs H Q=(∃ l xs y,x=.ref l/\vs=[y]/\H l=some (.lst xs)/\xs.length < sizeLine/\Q .non (upd H l (.lst (xs ++ [y])))):=rfl
theorem uB (x:V) (vs:List V) (H:Hp) (Q:VK):RB  x vs H Q=(∃ l b xs zs,x=.ref l/\vs=[.ref b]/\H l=some (.lst xs)/\H b=some (.lst zs)/\xs.length + zs.length <= sizeLine/\Q .non (upd H l (.lst (xs ++ zs)))):=rfl
theorem oK (x:V) (y:V) (H:Hp) (Q:VK):TN  x y H Q=(∃ l b xs zs,x=.ref l/\y=.ref b/\H l=some (.lst xs)/\H b=some (.lst zs)/\xs.length + zs.length <= sizeLine/\∀ p,H p=none->Q (.ref p) (upd H p (.lst (xs ++ zs)))):=rfl
theorem pK (x:V) (y:V) (H:Hp) (Q:VK):fO  x y H Q=(∃ l k xs,x=.ref l/\y=.int k/\H l=some (.lst xs)/\-(2 ^ 63) <= k/\k < 2 ^ 63/\xs.length * k.toNat <= sizeLine /\
 ∀ p,H p=none->Q (.ref p) (upd H p (.lst (List.replicate k.toNat xs).flatten))):=rfl
theorem hG (td ty:TE) (σ:St) (H:Hp) (Q:VK):NK td ty σ H Q=(td σ H fun x H1=>ty σ H1 fun y H2=>∃ a v,x=.ref a/\Cw H2 a y (some v)/\Q v H2):=rfl
theorem uA (ty td:TE) (σ:St) (H:Hp) (Q:VK):VB ty td σ H Q=(ty σ H fun y H1=>td σ H1 fun x H2=>∃ a o,x=.ref a/\Cw H2 a y o/\Q (.bl (!o.isSome)) H2):=rfl
theorem mG (td ty tv:TE) (D:Mi) (σ:St) (H:Hp):UK td ty tv D σ H=(tv σ H fun v H1=>td σ H1 fun x H2=>ty σ H2 fun y H3=>∃ a H4,x=.ref a/\dF H3 a y v H4/\D.nx σ H4):=rfl
theorem fC (x_0:St) (H:Hp) (Q:VK):JH  x_0 H Q=(∀ p,H p=none->Q (.ref p) (upd H p (.dK []))):=rfl
theorem qE (x_0:St) (H:Hp) (Q:VK):jI  x_0 H Q=(∀ p,H p=none->Q (.ref p) (upd H p (.dT []))):=rfl
theorem YF (x_0:St) (H:Hp) (Q:(Bool->Hp->Prop)):Oy  x_0 H Q=(Q true H):=rfl
theorem RI (tl:TE) (σ:St) (H:Hp) (R:(It->Hp->Prop)):NN tl σ H R=(tl σ H fun x H1=>∃ z,x=.str z/\R (Its (Sj z)) H1):=rfl
theorem QJ (x:V) (lo:Option Int) (hi:Option Int) (H:Hp) (Q:VK):XN  x lo hi H Q=(∃ z,x=.str z/\z.length <= sizeLine/\Q (.str (Txt.slice z lo hi)) H):=rfl
theorem pH (K:W.Frag) (x:V) (vs:List V) (H:Hp) (Q:VK):mM K x vs H Q=(∃ sep p ys,x=.str sep/\vs=[.ref p]/\SqL K H p (qb ys)/\(ys.map (·.length)).sum + ys.length * sep.length <= 16777216/\Q (.str (Txt.join sep ys)) H):=rfl
theorem bD (x:V) (vs:List V) (H:Hp) (Q:VK):zH  x vs H Q=(∃ z y,x=.str z/\vs=[.str y]/\y.length ≠ 0/\z.length + 2 <= sizeLine/\(Txt.split z y).length <= sizeLine/\∀ p,H p=none->Q (.ref p) (upd H p (.lst (qb (Txt.split z y))))):=rfl
theorem lD (OK:Addr->Prop) (m:Str) (SPV:Addr->Sp) (E:XK) (ta:TE) (t:TA) (σ:St) (H:Hp) (Q:VK):lI OK m SPV E ta t σ H Q=(ta σ H fun x H1=>∃ a C dx fs,x=.ref a/\H1 a=some (.ins C dx fs)/\OK C/\fs.lookup m=none /\
 t σ H1 fun vs H2=>SPV C (x :: vs) H2 Q E):=rfl
theorem uG (K:W.Frag) (ta:TA) (σ:St) (H:Hp) (R:(It->Hp->Prop)):TK K ta σ H R=(ta σ H fun vs H1=>∃ a,vs=[.ref a]/\(∃ xs,SqL K H1 a xs)/\R (Ite K a) H1):=rfl
theorem MA (x:V) (vs:List V) (H:Hp) (Q:VK):JD  x vs H Q=(∃ l xs i y,x=.ref l/\vs=[.int i,y]/\H l=some (.lst xs)/\0 <= i/\i < 2 ^ 62/\i <= (xs.length:Int)/\xs.length < sizeLine/\Q .non (upd H l (.lst (xs.take i.toNat ++ y :: xs.drop i.toNat)))):=rfl
theorem cJ (K:W.Frag) (x:V) (y:V) (H:Hp) (Q:VK):yO K x y H Q=(∃ p q b,x=.ref p/\y=.ref q/\EqH K H 8 (.ref p) (.ref q) b/\Q (.bl b) H):=rfl
theorem YK (x_0:St) (H:Hp) (Q:(Hp->Prop)):tJ0  x_0 H Q=(Q H):=rfl
theorem yL (te:TE) (t:TJ) (σ:St) (H:Hp) (Q:(Hp->Prop)):tJI te t σ H Q=(te σ H fun v H1=>∃ i,v=.int i/\i.natAbs.log2 < 1920/\t σ H1 Q):=rfl
theorem ZA (t:TJ) (σ:St) (H:Hp) (Q:VK):jE t σ H Q=(t σ H fun H1=>∀ y:Str,Q (.str y) H1):=rfl
theorem KD (K:W.Frag) (t:TA) (σ:St) (H:Hp) (Q:VK):HH K t σ H Q=(t σ H fun vs H1=>∃ x C od v,vs=[.ref x,v]/\H1 x=some (.ext (XF x C od))/\Nu K C/\Q .non H1):=rfl
theorem TC (C:Addr) (sp:Sp) (t:TA) (σ:St) (H:Hp) (Q:VK):cI C sp t σ H Q=(t σ H fun vs H1=>vs.length <= sizeLine/\∀ x,H1 x=none->sp (.ref x :: vs) (upd H1 x (.ext (XF x C none))) (fun v H2=>v=.non/\Q (.ref x) H2) (fun _ _ _=>False)):=rfl
theorem NE (K:W.Frag) (ta tv:TE) (f:Str) (D:Mi) (σ:St) (H:Hp):MH K ta tv f D σ H=(tv σ H fun y H1=>ta σ H1 fun x H2=>∃ a C,x=.ref a/\H2 a=some (.ext (XF a C none))/\Nu K C/\Xb K C f /\
 ∀ dx,H2 dx=none->dx ≠ a->D.nx σ (upd (upd H2 a (.ext (XF a C (some dx)))) dx (.ext (XD dx [(f,y)])))):=rfl
theorem ZC (K:W.Frag) (ta tv:TE) (f:Str) (D:Mi) (σ:St) (H:Hp):kI K ta tv f D σ H=(tv σ H fun y H1=>ta σ H1 fun x H2=>∃ a C dx fs,x=.ref a/\H2 a=some (.ext (XF a C (some dx)))/\H2 dx=some (.ext (XD dx fs))/\Nu K C/\Xb K C f/\fs.length < 1000 /\
 D.nx σ (upd H2 dx (.ext (XD dx (qh f y fs))))):=rfl
theorem oF (K:W.Frag) (ta:TE) (f:Str) (σ:St) (H:Hp) (Q:VK):OM K ta f σ H Q=(ta σ H fun x H1=>∃ a C dx fs v,x=.ref a/\H1 a=some (.ext (XA a C (some dx)))/\H1 dx=some (.ext (XD dx fs))/\Nu K C/\Xb K C f/\fs.lookup f=some v/\Q v H1):=rfl
theorem mD (sp:Sp) (dvs:List V) (E:St->XK) (t:TA) (σ:St) (H:Hp) (Q:VK):WH sp dvs E t σ H Q=(t σ H fun vs H1=>sp (vs ++ dvs) H1 Q (E σ)):=rfl
theorem fE (K:W.Frag) (E:St->XK) (te:TE) (D:Mi) (σ:St) (H:Hp):EH K E te D σ H=(te σ H fun v H1=>∃ x C od,v=.ref x/\H1 x=some (.ext (XF x C od))/\Nu K C/\E σ (.ref C) od (upd H1 x (.ext (XA x C od)))):=rfl
theorem jH (x:V) (vs:List V) (H:Hp) (Q:VK):Ct  x vs H Q=(∃ d kvs,x=.ref d/\vs=[]/\H d=some (.dK kvs)/\∀ p,H p=none->Q (.ref p) (upd H p (.ext (LM p d)))):=rfl
theorem dB (K:W.Frag) (x:V) (vs:List V) (H:Hp) (Q:VK):vC K x vs H Q=(∃ l ys k j,x=.ref l/\vs=[.str k]/\SqL K H l (qb ys)/\ys[j]? = some k/\(∀ m,m < j->ys[m]? ≠ some k)/\ys.length <= 1000/\Q (.int (j:Nat)) H):=rfl
theorem YG (P:Program) (w:World) (td ty tv:TE) (D:Mi) (σ:St) (H:Hp):GL P w td ty tv D σ H=(tv σ H fun v H1=>td σ H1 fun x H2=>ty σ H2 fun y H3=>∃ a b kvs k,x=.ref a/\y=.ref b/\Vu P w H3 a kvs/\H3 b=some (.tup (k.map kV))/\kvs.length < sizeLine/\∀ o,Vu P w (upd H3 a (.ext (AtO a o))) a (Mo kvs k v)->D.nx σ (upd H3 a (.ext (AtO a o)))):=rfl
theorem oH (P:Program) (w:World) (x_0:St) (H:Hp) (Q:VK):RK P w x_0 H Q=(∀ p o,H p=none->Vu P w (upd H p (.ext (AtO p o))) p []->Q (.ref p) (upd H p (.ext (AtO p o)))):=rfl
theorem LD (x:V) (vs:List V) (H:Hp) (Q:VK):AH  x vs H Q=(∃ z,x=.str z/\vs=[]/\z.length <= sizeLine/\Q (.str (Txt.strip z)) H):=rfl
noncomputable def Uj (J:It) (g:TG) (tb:TS) (D:Mi) (σ:St) (H:Hp):Prop:=∃ W:Nat->Nat->St->Hp->Prop,(∃ m,W 0 m σ H)/\∀ i m σ H,W i m σ H ->
 (J.stop i H/\D.nx σ H)\/(J.go i H/\∃ N:St->Hp->Prop,(∀ σ' H',N σ' H'->∃ m',m' < m/\W (i + 1) m' σ' H')/\∀ x H',J.yld i H x H'->g x σ H' fun σ2 H2=>tb { D with nx:=N,ct:=N,bk:=D.nx } σ2 H2)
theorem II (wi:TI) (g:TG) (tb:TS) (D:Mi) (σ:St) (H:Hp):LN wi g tb D σ H=wi σ H fun J H1=>Uj J g tb D σ H1:=rfl
noncomputable def jd (J:It) (g:TG) (tc:TT) (te:TE) (σb:St) (Q:VK) (H:Hp):Prop:=∃ W:Nat->Nat->List V->Hp->Prop,(∃ m,W 0 m [] H)/\vy J g tc te σb Q W
theorem mJ (K:W.Frag) (ta:TE) (f:Str) (σ:St) (H:Hp) (Q:VK):ZM K ta f σ H Q=(ta σ H fun x H1=>∃ a v,x=.ref a/\Nj K H1 a f v/\Q v H1):=by
 unfold ZM Nj;congr 1;funext x H1;apply propext;constructor
 ·rintro ⟨a,C,dx,fs,v,h1,h2,h3,h4,h5,h6⟩;exact ⟨a,v,h1,⟨C,dx,fs,h2,h3,h4,h5⟩,h6⟩
 ·rintro ⟨a,v,h1,⟨C,dx,fs,h2,h3,h4,h5⟩,h6⟩;exact ⟨a,C,dx,fs,v,h1,h2,h3,h4,h5,h6⟩
theorem lG (wi:TI) (g:TG) (tc:TT) (te:TE) (sel:List (Option Nat)) (σ:St) (H:Hp) (Q:VK):CI wi g tc te sel σ H Q=wi σ H fun J H1=>jd J g tc te (blk sel σ) Q H1:=rfl
theorem iH (ta:TA) (σ:St) (H:Hp) (R:It->Hp->Prop):rM ta σ H R=(ta σ H fun vs H1=>∃ j:Int,vs=[.int j]/\-4611686018427387904 <= j/\j < 4611686018427387904/\R (Itr 0 j.toNat) H1):=rfl
theorem bG (ta:TA) (σ:St) (H:Hp) (R:It->Hp->Prop):oM ta σ H R=(ta σ H fun vs H1=>∃ i j:Int,vs=[.int i,.int j]/\(-4611686018427387904 <= i/\i < 4611686018427387904/\-4611686018427387904 <= j/\j < 4611686018427387904)/\R (Itr i (j - i).toNat) H1):=rfl
theorem rK (sel:List (Option Nat)) (σ:St):blk sel σ=sel.map fun o=>o.bind fun j=>(σ[j]?).join:=rfl
theorem ac {c:TT} {t u:TS} {D:Mi} {σ:St} {H:Hp} (b:Bool) (hc:∀ Q:Bool->Hp->Prop,Q b H->c σ H Q) (h1:b=true->t D σ H) (h2:b=false->u D σ H):DN c t u D σ H:=by
 refine hc _ ?_;cases b with
 | true=>exact h1 rfl
 | false=>exact h2 rfl
theorem lv {c:TT} {t u:TS} {D:Mi} {σ:St} {H:Hp} (R:Bool->Hp->Prop) (hc:∀ Q:Bool->Hp->Prop,(∀ b H',R b H'->Q b H')->c σ H Q) (h1:∀ H',R true H'->t D σ H') (h2:∀ H',R false H'->u D σ H'):DN c t u D σ H:=by
 refine hc _ fun b H' r=>?_
 cases b with
 | true=>exact h1 H' r
 | false=>exact h2 H' r
theorem Gb {t:TS} {D:Mi} {σ:St} {H:Hp} (R:St->Hp->Prop) (h:∀ D':Mi,(∀ σ H,R σ H->D'.nx σ H)->D'.rt=D.rt->D'.bk=D.bk->D'.ct=D.ct->t D' σ H) (hR:∀ σ H,R σ H->D.nx σ H):t D σ H:=h D hR rfl rfl rfl
theorem zzC {t:TS} {D:Mi} {σ:St} {H:Hp} (R:St->Hp->Prop) (h:∀ D':Mi,(∀ σ H,R σ H->D'.nx σ H)->t D' σ H) (hR:∀ M,M=D.nx->∀ σ H,R σ H->M σ H):t D σ H:=h D (hR _ rfl)
theorem zP {p:Prop} (h:∀ q,q=p->q):p:=h p rfl
theorem zzD {t:TS} {D:Mi} {σ:St} {H:Hp} (R:St->Hp->Prop) (h:∀ D':Mi,(∀ σ H,R σ H->D'.nx σ H)->t D' σ H) (hR:∀ σ H,R σ H->D.nx σ H):t D σ H:=h D hR
theorem zS {t u:TS} {D:Mi} {σ:St} {H:Hp} (R:St->Hp->Prop) (h:∀ D':Mi,(∀ σ H,R σ H->D'.nx σ H)->t D' σ H) (hR:∀ M,M=u D->∀ σ H,R σ H->M σ H):vO t u D σ H:=h { D with nx:=u D } (hR _ rfl)
theorem GI {te:TE} {D:Mi} {σ:St} {H:Hp} (v:V) (hc:∀ Q:VK,Q v H->te σ H Q) (h:D.rt v H):bN te D σ H:=hc _ h
theorem Ug (x y:Str):(x ++ y).length=x.length + y.length:=by
 show (x.cps ++ y.cps).size=_;rw [Array.size_append];rfl
theorem Uj.range {lo:Int} {n:Nat} {g:TG} {tb:TS} {D:Mi} {σ:St} {H:Hp} (Pv:Nat->St->Hp->Prop) (h0:Pv 0 σ H)
  (hs:∀ i σ H,i < n->Pv i σ H->g (.int (lo + i)) σ H fun σ2 H2=>tb { D with nx:=Pv (i + 1),ct:=Pv (i + 1),bk:=D.nx } σ2 H2) (hd:∀ σ H,Pv n σ H->D.nx σ H):Uj (Itr lo n) g tb D σ H:=iE Pv h0 hs hd
theorem Uj.list {K:W.Frag} {a:Addr} {xs:List V} {g:TG} {tb:TS} {D:Mi} {σ:St} {H:Hp} (Pv:Nat->St->Hp->Prop) (h0:Pv 0 σ H) (hl:∀ i σ H,i <= xs.length->Pv i σ H->SqL K H a xs)
  (hs:∀ i x σ H,xs[i]? = some x->Pv i σ H->g x σ H fun σ2 H2=>tb { D with nx:=Pv (i + 1),ct:=Pv (i + 1),bk:=D.nx } σ2 H2) (hd:∀ σ H,Pv xs.length σ H->D.nx σ H):Uj (Itl K a) g tb D σ H:=OF Pv h0 hl hs hd
theorem Uj.its {xs:List V} {g:TG} {tb:TS} {D:Mi} {σ:St} {H:Hp} (Pv:Nat->St->Hp->Prop) (h0:Pv 0 σ H)
  (hs:∀ i x σ H,xs[i]? = some x->Pv i σ H->g x σ H fun σ2 H2=>tb { D with nx:=Pv (i + 1),ct:=Pv (i + 1),bk:=D.nx } σ2 H2) (hd:∀ σ H,Pv xs.length σ H->D.nx σ H):Uj (Its xs) g tb D σ H:=RJ Pv h0 hs hd
theorem jd.list {K:W.Frag} {a:Addr} {xs:List V} {g:TG} {tc:TT} {te:TE} {σb:St} {Q:VK} {H:Hp} (Pv:Nat->List V->Hp->Prop) (hz:xs.length <= sizeLine) (h0:Pv 0 [] H) (hl:∀ i ys H,i <= xs.length->Pv i ys H->SqL K H a xs/\ys.length <= i)
  (hs:∀ i x ys H,xs[i]? = some x->Pv i ys H->nh Pv g tc te σb i x ys H) (hd:∀ ys H,Pv xs.length ys H->∀ p,H p=none->Q (.ref p) (upd H p (.lst ys))):jd (Itl K a) g tc te σb Q H:=EE Pv hz h0 hl hs hd
theorem jd.its {xs:List V} {g:TG} {tc:TT} {te:TE} {σb:St} {Q:VK} {H:Hp} (Pv:Nat->List V->Hp->Prop) (hz:xs.length <= sizeLine) (h0:Pv 0 [] H) (hl:∀ i ys H,i <= xs.length->Pv i ys H->ys.length <= i)
  (hs:∀ i x ys H,xs[i]? = some x->Pv i ys H->nh Pv g tc te σb i x ys H) (hd:∀ ys H,Pv xs.length ys H->∀ p,H p=none->Q (.ref p) (upd H p (.lst ys))):jd (Its xs) g tc te σb Q H:=bH Pv hz h0 hl hs hd
theorem jd.range {lo:Int} {n:Nat} {g:TG} {tc:TT} {te:TE} {σb:St} {Q:VK} {H:Hp} (Pv:Nat->List V->Hp->Prop) (hz:n <= sizeLine) (h0:Pv 0 [] H) (hl:∀ i ys H,i <= n->Pv i ys H->ys.length <= i)
  (hs:∀ i ys H,i < n->Pv i ys H->nh Pv g tc te σb i (.int (lo + i)) ys H) (hd:∀ ys H,Pv n ys H->∀ p,H p=none->Q (.ref p) (upd H p (.lst ys))):jd (Itr lo n) g tc te σb Q H:=zB Pv hz h0 hl hs hd
theorem Lu {α β:Type} {xs:List α} {i:Nat} {x:α} (f:α->β) (h:xs[i]? = some x):(xs.take (i + 1)).map f=(xs.take i).map f ++ [f x]:=by
 rw [take_add_one,h,map_append];rfl
theorem jd.its_map {xs:List V} {g:TG} {te:TE} {σb:St} {Q:VK} {H:Hp} (f:V->V) (hz:xs.length <= sizeLine) (hs:∀ (i:Nat) (x:V) (N:V->Hp->Prop),xs[i]? = some x->N (f x) H->g x σb H fun σ2 H2=>Sub σb σ2/\te σ2 H2 N)
  (hd:∀ p,H p=none->Q (.ref p) (upd H p (.lst (xs.map f)))):jd (Its xs) g Oy te σb Q H:=by
 refine jd.its (fun i ys H'=>H'=H/\ys=(xs.take i).map f) hz ⟨rfl,rfl⟩ (fun i ys H' hi ⟨_,e⟩=>?_) (fun i x ys H' hx ⟨e1,e2⟩ N hN=>?_) (fun ys H' ⟨e1,e2⟩ p hp=>?_)
 ·rw [e,length_map,length_take];omega
 ·subst e1;exact hs i x (fun y H4=>N (ys ++ [y]) H4) hx (hN _ _ ⟨rfl,by rw [e2,Lu f hx]⟩)
 ·subst e1;rw [e2,take_length];exact hd p hp
theorem jd.range_map {lo:Int} {n:Nat} {g:TG} {te:TE} {σb:St} {Q:VK} {H:Hp} (f:Nat->V) (hz:n <= sizeLine) (hs:∀ (i:Nat) (N:V->Hp->Prop),i < n->N (f i) H->g (.int (lo + i)) σb H fun σ2 H2=>Sub σb σ2/\te σ2 H2 N)
  (hd:∀ p,H p=none->Q (.ref p) (upd H p (.lst ((List.range n).map f)))):jd (Itr lo n) g Oy te σb Q H:=by
 refine jd.range (fun i ys H'=>H'=H/\ys=(List.range i).map f) hz ⟨rfl,rfl⟩ (fun i ys H' hi ⟨_,e⟩=>?_) (fun i ys H' hi ⟨e1,e2⟩ N hN=>?_) (fun ys H' ⟨e1,e2⟩ p hp=>?_)
 ·rw [e,length_map,length_range];exact Nat.le_refl _
 ·subst e1;exact hs i (fun y H4=>N (ys ++ [y]) H4) hi (hN _ _ ⟨rfl,by rw [e2,range_succ,map_append];rfl⟩)
 ·subst e1;rw [e2];exact hd p hp
theorem jd.list_mk {K:W.Frag} {a:Addr} {xs:List V} {g:TG} {te:TE} {σb:St} {Q:VK} {H:Hp} (f:V->HO) (hl:SqL K H a xs) (hz:xs.length <= sizeLine) (hn:∀ x,noT (f x)=true)
  (hs:∀ (i:Nat) (x:V) (H1:Hp) (N:V->Hp->Prop),xs[i]? = some x->bc H H1->(NoT H->NoT H1)->(∀ q,H1 q=none->N (.ref q) (upd H1 q (f x)))->g x σb H1 fun σ2 H2=>Sub σb σ2/\te σ2 H2 N)
  (hd:∀ (qs:List Addr) (H1:Hp),bc H H1->(NoT H->NoT H1)->qs.length=xs.length->(∀ (j:Nat) (q:Addr) (x:V),qs[j]? = some q->xs[j]? = some x->H1 q=some (f x)/\H q=none)->∀ p,H1 p=none->Q (.ref p) (upd H1 p (.lst (qs.map V.ref)))):jd (Itl K a) g Oy te σb Q H:=by
 refine jd.list (fun i ys H'=>∃ qs:List Addr,ys=qs.map V.ref/\qs.length=i/\bc H H'/\(NoT H->NoT H')/\∀ (j:Nat) (q:Addr) (x:V),qs[j]? = some q->xs[j]? = some x->H' q=some (f x)/\H q=none) hz
  ⟨[],rfl,rfl,bc.refl H,id,fun j q x h _=>by simp at h⟩ ?_ ?_ ?_
 ·rintro i ys H' hi zzq;refine zP fun zzM zzh=>?_
  obtain ⟨qs,e,e2,sm,_,_⟩:=zzq;subst zzh;exact ⟨hl.same sm,by rw [e,length_map];omega⟩
 ·rintro i x ys H' hx ⟨qs,e1,e2,sm,nt,al⟩ N hN;refine hs i x H' (fun y H4=>N (ys ++ [y]) H4) hx sm nt fun q hq=>hN _ _ ⟨qs ++ [q],by rw [e1,map_append];rfl,by rw [length_append,e2];rfl,sm.updN (sm.free hq),fun n=>(nt n).upd (hn x),fun j q' x' h1 h2=>?_⟩
  by_cases hj:j < qs.length
  ·rw [getElem?_append_left hj] at h1;obtain ⟨z1,z2⟩:=al j q' x' h1 h2;exact ⟨by rw [zb (Kb z1 hq)];exact z1,z2⟩
  ·rw [getElem?_append_right (by omega)] at h1;have hj0:j - qs.length=0:=by
    cases hh:j - qs.length with
    | zero=>rfl
    | succ n=>rw [hh] at h1;simp at h1
   rw [hj0] at h1;have e3:q=q':=by simpa using h1
   subst e3;have e4:j=i:=by omega
   subst e4;rw [hx] at h2;cases h2;exact ⟨gb,sm.free hq⟩
 ·rintro ys H' ⟨qs,e1,e2,sm,nt,al⟩ p hp;subst e1;exact hd qs H' sm nt e2 al p hp
theorem Uj.of {J:It} {n:Nat} {g:TG} {tb:TS} {D:Mi} {σ:St} {H:Hp} (Pv:Nat->St->Hp->Prop) (h0:Pv 0 σ H) (hgo:∀ i σ H,i < n->Pv i σ H->J.go i H) (hst:∀ σ H,Pv n σ H->J.stop n H)
  (hs:∀ i σ H x H',i < n->Pv i σ H->J.yld i H x H'->g x σ H' fun σ2 H2=>tb { D with nx:=Pv (i + 1),ct:=Pv (i + 1),bk:=D.nx } σ2 H2) (hd:∀ σ H,Pv n σ H->D.nx σ H):Uj J g tb D σ H:=by
 refine ⟨fun i m σ H=>m=n - i/\i <= n/\Pv i σ H,⟨n,by simp,Nat.zero_le _,h0⟩,?_⟩;rintro i m σ H ⟨rfl,hi,p⟩;by_cases hlt:i < n
 ·exact .inr ⟨hgo i σ H hlt p,Pv (i + 1),fun σ' H' p'=>⟨n - (i + 1),by omega,rfl,hlt,p'⟩,fun x H' y=>hs i σ H x H' hlt p y⟩
 ·have e:i=n:=by omega
  subst e;exact .inl ⟨hst σ H p,hd σ H p⟩
theorem jd.of {J:It} {n:Nat} {g:TG} {tc:TT} {te:TE} {σb:St} {Q:VK} {H:Hp} (Pv:Nat->List V->Hp->Prop) (hz:n <= sizeLine) (h0:Pv 0 [] H) (hgo:∀ i ys H,i < n->Pv i ys H->J.go i H) (hst:∀ ys H,Pv n ys H->J.stop n H) (hl:∀ i ys H,i < n->Pv i ys H->ys.length <= i)
  (hs:∀ i ys H x H',i < n->Pv i ys H->J.yld i H x H'->nh Pv g tc te σb i x ys H') (hd:∀ ys H,Pv n ys H->∀ p,H p=none->Q (.ref p) (upd H p (.lst ys))):jd J g tc te σb Q H:=by
 refine ⟨fun i m ys H=>m=n - i/\i <= n/\Pv i ys H,⟨n,by simp,Nat.zero_le _,h0⟩,?_⟩;rintro i m ys H ⟨rfl,hi,p⟩;by_cases hlt:i < n
 ·have hyl:=hl i ys H hlt p;refine .inr ⟨hgo i ys H hlt p,by omega,fun x H' y=>?_⟩;exact hs i ys H x H' hlt p y (fun ys' H'=>∃ m',m' < n - i/\m'=n - (i + 1)/\i + 1 <= n/\Pv (i + 1) ys' H') fun ys' H' r=>⟨n - (i + 1),by omega,rfl,hlt,r⟩
 ·have e:i=n:=by omega
  subst e;exact .inl ⟨hst ys H p,hd ys H p⟩
section
variable {K:W.Frag} {a b:Addr} {xs ys:List V} {g:TG} {tb:TS} {D:Mi} {σ σb:St} {H:Hp} {tc:TT} {te:TE} {Q:VK}
theorem Uj.enum (Pv:Nat->St->Hp->Prop) (h0:Pv 0 σ H) (hl:∀ i σ H,i <= xs.length->Pv i σ H->SqL K H a xs)
  (hs:∀ i x σ H p,xs[i]? = some x->Pv i σ H->H p=none->g (.ref p) σ (upd H p (.tup [.int i,x])) fun σ2 H2=>tb { D with nx:=Pv (i + 1),ct:=Pv (i + 1),bk:=D.nx } σ2 H2) (hd:∀ σ H,Pv xs.length σ H->D.nx σ H):Uj (Ite K a) g tb D σ H:=by
 refine Uj.of (n:=xs.length) Pv h0 (fun i σ H hi p=>⟨xs,xs[i],hl i σ H (Nat.le_of_lt hi) p,by simp [hi]⟩) (fun σ H p=>⟨xs,hl _ σ H (Nat.le_refl _) p,Nat.le_refl _⟩) (fun i σ H v H' hi p y=>?_) hd;obtain ⟨q,x,hq,rfl,hx,rfl⟩:=y;exact hs i x σ H q (hx xs (hl i σ H (Nat.le_of_lt hi) p)) p hq
theorem Uj.zip (Pv:Nat->St->Hp->Prop) (h0:Pv 0 σ H) (hl:∀ i σ H,i <= xs.length->Pv i σ H->SqL K H a xs/\SqL K H b ys) (n:Nat) (hn:n=min xs.length ys.length)
  (hs:∀ i x y σ H p,xs[i]? = some x->ys[i]? = some y->Pv i σ H->H p=none->g (.ref p) σ (upd H p (.tup [x,y])) fun σ2 H2=>tb { D with nx:=Pv (i + 1),ct:=Pv (i + 1),bk:=D.nx } σ2 H2) (hd:∀ σ H,Pv n σ H->D.nx σ H):Uj (Itz K a b) g tb D σ H:=by
 subst hn;refine Uj.of (n:=min xs.length ys.length) Pv h0 (fun i σ H hi p=>?_) (fun σ H p=>?_) (fun i σ H v H' hi p y=>?_) hd
 ·obtain ⟨z1,z2⟩:=hl i σ H (by omega) p;exact ⟨xs,ys,xs[i],ys[i],z1,z2,by rw [getElem?_eq_getElem (by omega)],by rw [getElem?_eq_getElem (by omega)]⟩
 ·obtain ⟨z1,z2⟩:=hl _ σ H (by omega) p;exact ⟨xs,ys,z1,z2,by omega⟩
 ·obtain ⟨q,x,y,hq,rfl,hx,hy,rfl⟩:=y;obtain ⟨z1,z2⟩:=hl i σ H (by omega) p;exact hs i x y σ H q (hx xs z1) (hy ys z2) p hq
theorem jd.enum (Pv:Nat->List V->Hp->Prop) (hz:xs.length <= sizeLine) (h0:Pv 0 [] H) (hl:∀ i ys H,i <= xs.length->Pv i ys H->SqL K H a xs/\ys.length <= i)
  (hs:∀ i x ys H p,xs[i]? = some x->Pv i ys H->H p=none->nh Pv g tc te σb i (.ref p) ys (upd H p (.tup [.int i,x]))) (hd:∀ ys H,Pv xs.length ys H->∀ p,H p=none->Q (.ref p) (upd H p (.lst ys))):jd (Ite K a) g tc te σb Q H:=by
 refine jd.of (n:=xs.length) Pv hz h0 (fun i ys H hi p=>⟨xs,xs[i],(hl i ys H (Nat.le_of_lt hi) p).1,by simp [hi]⟩) (fun ys H p=>⟨xs,(hl _ ys H (Nat.le_refl _) p).1,Nat.le_refl _⟩) (fun i ys H hi p=>(hl i ys H (Nat.le_of_lt hi) p).2) (fun i zs H v H' hi p y=>?_) hd;obtain ⟨q,x,hq,rfl,hx,rfl⟩:=y;exact hs i x zs H q (hx xs (hl i zs H (Nat.le_of_lt hi) p).1) p hq
theorem BG {i j:Nat} {p:Addr} {x y:V} {R:St->Hp->Prop} (h:SqT K H p [x,y]) (q:R ((σ.set i (some x)).set j (some y)) H):yM K 2 (BA (Kw i) (BA (Kw j) VM)) (.ref p) σ H R:=
 ⟨p,_,rfl,h,rfl,x,_,rfl,y,_,rfl,rfl,q⟩
theorem Ln {i j:Nat} {p:Addr} {x y:V} {R:St->Hp->Prop} (q:R ((σ.set i (some x)).set j (some y)) (upd H p (.tup [x,y]))):yM K 2 (BA (Kw i) (BA (Kw j) VM)) (.ref p) σ (upd H p (.tup [x,y])) R:=
 BG (.inl (.inl gb)) q
end
theorem Sub.name2 {r:St} {v w:Option V}:Sub (none :: none :: r) (v :: w :: r):=by
 refine ⟨rfl,fun i u h=>?_⟩
 match i with
 | 0=>cases h
 | 1=>cases h
 | i + 2=>exact h
theorem Sub.name3 {r:St} {v w z:Option V}:Sub (none :: none :: none :: r) (v :: w :: z :: r):=by
 refine ⟨rfl,fun i u h=>?_⟩
 match i with
 | 0=>cases h
 | 1=>cases h
 | 2=>cases h
 | i + 3=>exact h
theorem jd.list_zs {K:W.Frag} {a:Addr} {xs zs:List V} {g:TG} {te:TE} {σb:St} {Q:VK} {H:Hp} (hl:SqL K H a xs) (hz:xs.length <= sizeLine) (he:zs.length=xs.length)
  (hs:∀ (i:Nat) (x z:V) (N:V->Hp->Prop),xs[i]? = some x->zs[i]? = some z->N z H->g x σb H fun σ2 H2=>Sub σb σ2/\te σ2 H2 N) (hd:∀ p,H p=none->Q (.ref p) (upd H p (.lst zs))):jd (Itl K a) g Oy te σb Q H:=by
 refine jd.list (fun i ys H'=>H'=H/\ys=zs.take i) hz ⟨rfl,rfl⟩ (fun i ys H' hi ⟨e0,e⟩=>?_) (fun i x ys H' hx ⟨e1,e2⟩ N hN=>?_) (fun ys H' ⟨e1,e2⟩ p hp=>?_)
 ·subst e0;exact ⟨hl,by rw [e,length_take];omega⟩
 ·subst e1;have hi:i < zs.length:=by rw [he];exact (List.getElem?_eq_some_iff.mp hx).1
  have hz':zs[i]? = some zs[i]:=getElem?_eq_getElem hi;exact hs i x zs[i] (fun y H4=>N (ys ++ [y]) H4) hx hz' (hN _ _ ⟨rfl,by rw [e2,take_add_one,hz'];rfl⟩)
 ·subst e1;rw [e2,<- he,take_length];exact hd p hp
theorem jd.tup_zs {K:W.Frag} {a:Addr} {xs zs:List V} {g:TG} {te:TE} {σb:St} {Q:VK} {H:Hp} (hl:SqT K H a xs) (hz:xs.length <= sizeLine) (he:zs.length=xs.length)
  (hs:∀ (i:Nat) (x z:V) (N:V->Hp->Prop),xs[i]? = some x->zs[i]? = some z->N z H->g x σb H fun σ2 H2=>Sub σb σ2/\te σ2 H2 N) (hd:∀ p,H p=none->Q (.ref p) (upd H p (.lst zs))):jd (Itt K a) g Oy te σb Q H:=by
 refine sF (xs:=xs) (fun i ys H'=>H'=H/\ys=zs.take i) hz ⟨rfl,rfl⟩ (fun i ys H' hi ⟨e0,e⟩=>?_) (fun i x ys H' hx ⟨e1,e2⟩ N hN=>?_) (fun ys H' ⟨e1,e2⟩ p hp=>?_)
 ·subst e0;exact ⟨hl,by rw [e,length_take];omega⟩
 ·subst e1;have hi:i < zs.length:=by rw [he];exact (List.getElem?_eq_some_iff.mp hx).1
  have hz':zs[i]? = some zs[i]:=getElem?_eq_getElem hi;exact hs i x zs[i] (fun y H4=>N (ys ++ [y]) H4) hx hz' (hN _ _ ⟨rfl,by rw [e2,take_add_one,hz'];rfl⟩)
 ·subst e1;rw [e2,<- he,take_length];exact hd p hp
theorem jd.list_sel {K:W.Frag} {a:Addr} {xs:List V} {ss:List (Option V)} {g:TG} {tc:TT} {te:TE} {σb:St} {Q:VK} {H:Hp} (hl:SqL K H a xs) (hz:xs.length <= sizeLine) (he:ss.length=xs.length)
  (hs:∀ (i:Nat) (x:V) (o:Option V) (ys:List V) (N:List V->Hp->Prop),xs[i]? = some x->ss[i]? = some o->N (ys ++ o.toList) H->g x σb H fun σ2 H2=>Sub σb σ2/\tc σ2 H2 fun c H3=>if c=true then te σ2 H3 fun y H4=>N (ys ++ [y]) H4 else N ys H3)
  (hd:∀ p,H p=none->Q (.ref p) (upd H p (.lst (ss.flatMap Option.toList)))):jd (Itl K a) g tc te σb Q H:=by
 refine jd.list (fun i ys H'=>H'=H/\ys=(ss.take i).flatMap Option.toList/\ys.length <= i) hz ⟨rfl,rfl,Nat.le_refl _⟩ (fun i ys H' hi ⟨e0,e,e'⟩=>?_) (fun i x ys H' hx ⟨e1,e2,e3⟩ N hN=>?_) (fun ys H' ⟨e1,e2,_⟩ p hp=>?_)
 ·subst e0;exact ⟨hl,e'⟩
 ·subst e1;have hi:i < ss.length:=by rw [he];exact (List.getElem?_eq_some_iff.mp hx).1
  have hz':ss[i]? = some ss[i]:=getElem?_eq_getElem hi;refine hs i x ss[i] ys N hx hz' (hN _ _ ⟨rfl,by rw [e2,take_add_one,hz',List.flatMap_append];simp,?_⟩);rw [length_append];cases ss[i] <;> simp <;> omega
 ·subst e1;rw [e2,<- he,take_length];exact hd p hp
theorem pE {c:TT} {tb:TS} {D:Mi} {σ:St} {H:Hp} (Pv:St->Hp->Prop) (μ:St->Hp->Nat) (h0:Pv σ H)
  (hs:∀ σ H,Pv σ H->∃ b:Bool,(∀ Q:Bool->Hp->Prop,Q b H->c σ H Q)/\(b=true->tb { D with nx:=fun σ' H'=>Pv σ' H'/\μ σ' H' < μ σ H,ct:=fun σ' H'=>Pv σ' H'/\μ σ' H' < μ σ H,bk:=D.nx } σ H)/\(b=false->D.nx σ H)):dI c tb D σ H:=by
 refine ⟨fun m σ H=>m=μ σ H/\Pv σ H,⟨_,rfl,h0⟩,?_⟩;rintro m σ H ⟨rfl,p⟩;obtain ⟨b,hc,h1,h2⟩:=hs σ H p;refine hc _ ?_;cases b with
 | true=>exact ⟨_,fun σ' H' ⟨p',l⟩=>⟨_,l,rfl,p'⟩,h1 rfl⟩
 | false=>exact h2 rfl
theorem Sub.name {r:St} {v:Option V}:Sub (none :: r) (v :: r):=by
 refine ⟨rfl,fun i w h=>?_⟩;cases i with
 | zero=>cases h
 | succ i=>exact h
end L2
local macro_rules | `(tactic| walk_at "RD")=>`(tactic| ((try dsimp only [L2.FE,L2.tN,L2.Cx.nox,L2.Cx.wish,L2.Cx.block,L2.Cx.tr,L2.Cx.hn]);(try simp only [L2.LI,L2.dN,L2.vN,L2.iJ,L2.WL,L2.vI,L2.oG,L2.sJ,L2.UF,L2.WK,L2.Qc,L2.Ab,L2.vG,L2.SI,L2.JE,L2.cf,L2.cK,L2.IF,L2.bK,L2.lK,L2.oJ,L2.cG,L2.kJ,L2.AL,L2.zL,L2.kN,L2.lL,L2.XM,L2.nM,L2.ZK,L2.yF,L2.HI,L2.VA,L2.WJ,L2.yJ,L2.lH,L2.XI,L2.qK,L2.aG,L2.JF,L2.tF,L2.qL,L2.aB,L2.HG,L2.SL,L2.DJ,L2.NJ,L2.AJ,L2.DK,L2.kG,L2.EK,L2.BM,L2.nJ,L2.kL,L2.vB,L2.uB,L2.oK,L2.pK,L2.hG,L2.uA,L2.mG,L2.fC,L2.qE,L2.YF,L2.RI,L2.QJ,L2.pH,L2.bD,L2.lD,L2.uG,L2.MA,L2.cJ,L2.YK,L2.yL,L2.ZA,L2.KD,L2.TC,L2.NE,L2.ZC,L2.oF,L2.mD,L2.fE,L2.jH,L2.dB,L2.YG,L2.oH,L2.LD,L2.II,L2.lG,L2.iH,L2.bG,L2.mJ,L2.GJ,L2.jK,L2.zK,L2.VJ,L2.start,L2.rK,map_cons,map_nil,Option.bind_none,Option.bind_some,Option.join_some,Option.join_none,length_cons,length_nil,Nat.reduceAdd,Nat.reduceSub,Nat.zero_add,List.replicate,cons_append,nil_append,append_nil,set_cons_zero,set_cons_succ,List.getElem?_cons_zero,List.getElem?_cons_succ,Option.some.injEq,L2.V.int.injEq,L2.V.bl.injEq,L2.V.str.injEq,L2.V.ref.injEq,L2.V.ty.injEq,exists_eq_left',exists_eq_left,exists_and_left,List.cons.injEq,and_true,true_and,and_assoc,Int.zero_add,reduceCtorEq,false_and,exists_false,and_false,ite_true,ite_false,if_true,if_false,Bool.false_eq_true,L2.zM,L2.tyV,false_or,or_false,Bool.not_true,Bool.not_false,decide_true,decide_false])))
local macro_rules | `(tactic| walk_at "B")=>`(tactic| first | rfl | (dsimp only [L2.Cx.block];done) | (dsimp only [L2.Cx.block];exact rfl))
local macro_rules | `(tactic| walk_at "F")=>`(tactic| exact ⟨rfl,rfl,rfl,by decide +kernel,rfl,by decide +kernel,by decide +kernel⟩)
namespace My
open PySem L2
noncomputable abbrev q8:List Str:=["least","most","members"]
noncomputable abbrev q9:List Str:=["crossing","rows"]
noncomputable abbrev q10:List Str:=["self","name","start","end","off","near","least"]
noncomputable abbrev q11:List Str:=["self","name"]
noncomputable abbrev q12:List Str:=["_law_script","_law_k","_law_many"]
noncomputable abbrev q13:List Str:=["self","good"]
noncomputable abbrev q14:List Str:=["crossing","one","other"]
noncomputable abbrev q15:List Str:=["_law_script","_law_ways_here","_law_rows","_law_row"]
noncomputable abbrev q16:List Str:=["self","choices"]
noncomputable abbrev q17:List Str:=["self","low","high"]
noncomputable abbrev q18:List Str:=["_law_one"]
noncomputable abbrev q19:List Str:=["word","signs","most"]
noncomputable abbrev q20:List Str:=["self","kind","name","start","end","off","near","least"]
noncomputable abbrev q21:List Str:=["crossing","name"]
noncomputable abbrev q22:List Str:=["crossing","text"]
noncomputable abbrev q23:List Str:=["places","way","second"]
noncomputable abbrev q24:List Str:=["word","most_figures"]
noncomputable abbrev q25:List Str:=["word","low","high"]
noncomputable abbrev q26:List Str:=["reader","places","start"]
noncomputable abbrev q27:List Str:=["sort","name","start","end","off","near","least"]
noncomputable abbrev q28:List Str:=["_law_script","_law_many"]
noncomputable abbrev q29:List Str:=["_law_script","_law_places","_law_ways_here","_law_crossing","_law_stages_here","_law_rows","_law_names_here","_law_many","_law_seven","_law_row","_law_word","_law_k"]
noncomputable abbrev q30:List Str:=["self","row","word"]
noncomputable abbrev q31:List Str:=["self","row","told"]
noncomputable abbrev q32:List Str:=["self","crossing","rows","one","other"]
noncomputable abbrev q33:List Str:=["places","way","place"]
noncomputable abbrev q34:List Str:=["crossing","first","second","turns","one"]
noncomputable abbrev q35:List Str:=["crossing","first","second"]
noncomputable abbrev q36:List Str:=["reader","crossing","left"]
noncomputable abbrev q37:List Str:=["reader","crossing","rows"]
noncomputable abbrev q38:List Str:=["reader","ways"]
noncomputable abbrev q39:List Str:=["reader","places","ways"]
noncomputable abbrev q40:List Str:=["_law_script","_law_most"]
noncomputable abbrev q41:List Str:=["_law_places","_law_ways_here"]
noncomputable abbrev q42:List Str:=["_law_one","_law_other","_law_places"]
noncomputable abbrev q43:List Str:=["_law_ways_here","_law_one","_law_other"]
noncomputable abbrev q44:List Str:=["_law_script","_law_places","_law_ways_here"]
noncomputable abbrev q45:List Str:=["_law_ways_here","_law_stages_here"]
noncomputable abbrev q46:List Str:=["_law_crossing","_law_text_here"]
noncomputable abbrev q47:List Str:=["_law_crossing","_law_rows","_law_row","_law_word"]
noncomputable abbrev q48:List Str:=["_law_script","_law_ways_here"]
noncomputable abbrev q49:List Str:=["self","crossing","rows"]
noncomputable abbrev q50:List Str:=["self","places","ways"]
noncomputable abbrev q51:List Str:=["name","crossing"]
noncomputable abbrev q52:List Str:=["least","most","members","crossing"]
noncomputable abbrev q53:List Str:=["_law_i","_law_ways_here"]
noncomputable abbrev q54:List Str:=["crossing","rows","told"]
noncomputable abbrev q55:List Str:=["reader","crossing","left","first","members","alike"]
noncomputable abbrev q56:List Str:=["_law_script","_law_ways_here","_law_rows","_law_row","_law_way","_law_parts","_law_at_here","_law_ahead","_law_one","_law_tram","_law_others"]
noncomputable def top (i:Nat):Stmt:=PySem.Challenge.pw_lampway_k31_stages_words_refused.main.body.getD i (.Pass ⟨0,0,0,0⟩)
noncomputable abbrev aA:Stmt:=top 12
theorem Uv:Hb ["places","way","place","steps"] q33 (pb aA):=(by walk_at "F")
noncomputable abbrev yp:Stmt:=top 13
theorem Wu:Hb q23 q23 (pb yp):=(by walk_at "F")
noncomputable abbrev wH:Stmt:=top 14
theorem Ey:Hb ["crossing","one","other","way","second"] q14 (pb wH):=(by walk_at "F")
noncomputable abbrev JM:Stmt:=top 15
theorem eE:Hb ["crossing","one","other","way","second"] q14 (pb JM):=(by walk_at "F")
noncomputable abbrev my:Stmt:=top 21
theorem nG:Hb ["text"] ["text"] (pb my):=(by walk_at "F")
noncomputable abbrev Fk:Stmt:=top 22
theorem Bv:Hb q19 q19 (pb Fk):=(by walk_at "F")
noncomputable abbrev Kr:Stmt:=top 23
theorem Xw:Hb q24 q24 (pb Kr):=(by walk_at "F")
noncomputable abbrev zx:Stmt:=top 24
theorem eu:Hb ["word","low","high","number"] q25 (pb zx):=(by walk_at "F")
noncomputable abbrev Yw:Stmt:=top 25
theorem gB:Hb ["word"] ["word"] (pb Yw):=(by walk_at "F")
noncomputable abbrev Xq:Stmt:=top 28
theorem FA:Hb ["text"] ["text"] (pb Xq):=(by walk_at "F")
noncomputable abbrev qw:Stmt:=top 33
theorem lB:Hb q21 q21 (pb qw):=(by walk_at "F")
noncomputable abbrev lu:Stmt:=top 34
theorem Lh:Hb ["members","homes","number","names","name"] ["members"] (pb lu):=(by walk_at "F")
noncomputable abbrev uf:Stmt:=top 35
theorem Fh:Hb q34 q35 (pb uf):=(by walk_at "F")
noncomputable abbrev vi:Stmt:=top 36
theorem zn:Hb q54 q9 (pb vi):=(by walk_at "F")
noncomputable abbrev Fg:Stmt:=top 37
theorem Zf:Hb q55 q36 (pb Fg):=(by walk_at "F")
noncomputable abbrev vp:Stmt:=top 38
theorem Ej:Hb ["reader","crossing","rows","least","most"] q37 (pb vp):=(by walk_at "F")
noncomputable abbrev Wl:Stmt:=top 39
theorem Wk:Hb ["crossing","rows","left"] q9 (pb Wl):=(by walk_at "F")
noncomputable abbrev Ji:Stmt:=top 40
theorem Tf:Hb ["crossing","rows","homes","name","number"] q9 (pb Ji):=(by walk_at "F")
noncomputable abbrev Ul:Stmt:=top 41
theorem Ve:Hb ["crossing","rows","number","row","one","other"] q9 (pb Ul):=(by walk_at "F")
noncomputable abbrev bn:Stmt:=top 42
theorem Ci:Hb ["crossing","text","rows","reader"] q22 (pb bn):=(by walk_at "F")
noncomputable abbrev ar:Stmt:=top 56
theorem Oo:Hb ["reader","places"] ["reader"] (pb ar):=(by walk_at "F")
noncomputable abbrev Ch:Stmt:=top 57
theorem Xj:Hb ["reader","ways","name"] q38 (pb Ch):=(by walk_at "F")
noncomputable abbrev Qt:Stmt:=top 58
theorem Ty:Hb q26 q26 (pb Qt):=(by walk_at "F")
noncomputable abbrev Xt:Stmt:=top 59
theorem Kx:Hb q27 q27 (pb Xt):=(by walk_at "F")
noncomputable abbrev Fu:Stmt:=top 60
theorem We:Hb ["reader","places","ways","sort","name","start","end","off","near","least"] q39 (pb Fu):=(by walk_at "F")
noncomputable abbrev zk:Stmt:=top 61
theorem Ge:Hb ["text","rows","places","ways","reader"] ["text"] (pb zk):=(by walk_at "F")
noncomputable abbrev oq:Stmt:=top 63
theorem Cf:Hb ["_law_script","_law_k","_law_many","_law_cell","_law_seed"] q12 (pb oq):=(by walk_at "F")
noncomputable abbrev Ek:Stmt:=top 64
theorem Yd:Hb ["_law_script","_law_many","_law_letters","_law_base","_law_way","_law_at_here","_law_names_here","_law_k","_law_sign"] q28 (pb Ek):=(by walk_at "F")
noncomputable abbrev As:Stmt:=top 65
theorem pd:Hb ["_law_script","_law_most","_law_places","_law_names_here","_law_ways_here","_law_k","_law_start","_law_end","_law_sort","_law_off","_law_near"] q40 (pb As):=(by walk_at "F")
noncomputable abbrev Bm:Stmt:=top 66
theorem Nk:Hb ["_law_places","_law_ways_here","_law_rows","_law_way"] q41 (pb Bm):=(by walk_at "F")
noncomputable abbrev zr:Stmt:=top 67
theorem Nh:Hb ["_law_one","_law_other","_law_places","_law_length","_law_start","_law_end"] q42 (pb zr):=(by walk_at "F")
noncomputable abbrev Qo:Stmt:=top 68
theorem Gn:Hb ["_law_ways_here","_law_one","_law_other","_law_tram"] q43 (pb Qo):=(by walk_at "F")
noncomputable abbrev Aj:Stmt:=top 69
theorem kc:Hb ["_law_script","_law_places","_law_ways_here","_law_some","_law_k","_law_fits","_law_j","_law_good","_law_i","_law_stages_here","_law_low","_law_more"] q44 (pb Aj):=(by walk_at "F")
noncomputable abbrev Xf:Stmt:=top 70
theorem Nd:Hb ["_law_ways_here","_law_stages_here","_law_rows","_law_low","_law_high","_law_some"] q45 (pb Xf):=(by walk_at "F")
noncomputable abbrev Zl:Stmt:=top 71
theorem Xe:Hb ["_law_crossing","_law_text_here","_law_found","e"] q46 (pb Zl):=(by walk_at "F")
noncomputable abbrev jr:Stmt:=top 72
theorem Zn:Hb ["_law_crossing","_law_rows","_law_row","_law_word","_law_found","_law_number"] q47 (pb jr):=(by walk_at "F")
noncomputable abbrev Ah:Stmt:=top 73
theorem Wd:Hb ["_law_script","_law_ways_here","_law_known","_law_some","_law_name","_law_letter","_law_at_here"] q48 (pb Ah):=(by walk_at "F")
noncomputable abbrev gf:Stmt:=top 74
theorem jc:Hb q56 q15 (pb gf):=(by walk_at "F")
noncomputable abbrev Yo:Stmt:=top 75
theorem eg:Hb ["_law_script","_law_ways_here","_law_rows","_law_row","_law_way","_law_bad","_law_parts","_law_at_here"] q15 (pb Yo):=(by walk_at "F")
noncomputable abbrev LA:Stmt:=top 76
theorem Xi:Hb q29 ["_law_script"] (pb LA):=(by walk_at "F")
noncomputable abbrev Zm:Stmt:=Ed (top 3) 0
theorem Xn:Hb q30 q30 (pb Zm):=(by walk_at "F")
noncomputable abbrev fk:Stmt:=Ed (top 27) 0
theorem Pk:Hb q31 q31 (pb fk):=(by walk_at "F")
noncomputable abbrev bj:Stmt:=Ed (top 27) 1
theorem Cn:Hb ["self"] ["self"] (pb bj):=(by walk_at "F")
noncomputable abbrev bh:Stmt:=Ed (top 27) 2
theorem Dk:Hb ["self"] ["self"] (pb bh):=(by walk_at "F")
noncomputable abbrev Sh:Stmt:=Ed (top 27) 3
theorem ym:Hb ["self"] ["self"] (pb Sh):=(by walk_at "F")
noncomputable abbrev Tj:Stmt:=Ed (top 27) 4
theorem Zi:Hb q13 q13 (pb Tj):=(by walk_at "F")
noncomputable abbrev Rh:Stmt:=Ed (top 27) 5
theorem Ce:Hb ["self","choices","found"] q16 (pb Rh):=(by walk_at "F")
noncomputable abbrev Bh:Stmt:=Ed (top 27) 6
theorem ue:Hb ["self","low","high","found"] q17 (pb Bh):=(by walk_at "F")
noncomputable abbrev Wh:Stmt:=Ed (top 27) 7
theorem qm:Hb ["self"] ["self"] (pb Wh):=(by walk_at "F")
noncomputable abbrev ff:Stmt:=Ed (top 32) 0
theorem Lf:Hb q32 q49 (pb ff):=(by walk_at "F")
noncomputable abbrev ku:Stmt:=Ed (top 44) 0
theorem Sq:Hb q20 q20 (pb ku):=(by walk_at "F")
noncomputable abbrev On:Stmt:=Ed (top 45) 0
theorem Pn:Hb q10 q10 (pb On):=(by walk_at "F")
noncomputable abbrev Rl:Stmt:=Ed (top 45) 1
theorem Oq:Hb ["self"] ["self"] (pb Rl):=(by walk_at "F")
noncomputable abbrev Om:Stmt:=Ed (top 45) 2
theorem Fs:Hb ["self"] ["self"] (pb Om):=(by walk_at "F")
noncomputable abbrev im:Stmt:=Ed (top 46) 0
theorem Am:Hb q10 q10 (pb im):=(by walk_at "F")
noncomputable abbrev Sk:Stmt:=Ed (top 46) 1
theorem Mp:Hb ["self"] ["self"] (pb Sk):=(by walk_at "F")
noncomputable abbrev dm:Stmt:=Ed (top 46) 2
theorem Tr:Hb ["self"] ["self"] (pb dm):=(by walk_at "F")
noncomputable abbrev Sl:Stmt:=Ed (top 47) 0
theorem zm:Hb q10 q10 (pb Sl):=(by walk_at "F")
noncomputable abbrev Zk:Stmt:=Ed (top 47) 1
theorem Cp:Hb ["self"] ["self"] (pb Zk):=(by walk_at "F")
noncomputable abbrev gm:Stmt:=Ed (top 47) 2
theorem Bs:Hb ["self"] ["self"] (pb gm):=(by walk_at "F")
noncomputable abbrev pk:Stmt:=Ed (top 55) 0
theorem mf:Hb ["self","places","ways","number","way"] q50 (pb pk):=(by walk_at "F")
noncomputable abbrev Rg:Stmt:=Ed (top 55) 1
theorem Bo:Hb ["self"] ["self"] (pb Rg):=(by walk_at "F")
noncomputable abbrev Qi:Stmt:=Ed (top 55) 2
theorem Wm:Hb q11 q11 (pb Qi):=(by walk_at "F")
noncomputable abbrev Yi:Stmt:=Ed (top 55) 3
theorem Bn:Hb q11 q11 (pb Yi):=(by walk_at "F")
set_option genInjectivity false in
set_option genInjectivity false in
structure Adr where
 {Zp Xh Ov GF Kv Gg Hj ol Qn Ck Uk rh lg Lg Dg ki og Eg ug jf Lj Qf Kl Hl Jl bg Md Kg Pj Ij yj Uh dh Oe qg mn Jf ef ni wI Vf He yc gd yd Jc Bc uc zd Kf fg Nf rg mh vf Wf zg rf Uf xg Qe Ad ye Kc Nb Fc Qm Hd Zc ad gc Hm Ac Ir Mq Vq Aq yk Yq Mm:Addr}
 {Yp mi Dx iG Su Ng Oj nk Nm vk Kk xh ng Ig vg ji kg wg yg Ze rj Yf Dl Il Fl cg Pd Hg Jj tj zj di eh Le Cg Jm dg df Oh DF gh wf Lc Bd Xd Rc Nc Hc je kh ph jh Ei xj Bg Jh Gi Ag Ih Oi ag Vd bf Yc:FuncData}
 {Qw lm Tw Xl wp km sr fu Pm wn gp Nr:Value}
structure Txt (w:World) (K:W.Frag) (mg:Str->Option Value) (t:Adr):Prop where
 Bz:mg "in_bow"=some (.ref t.Zp)
 Vp:Fun K "in_bow" "in_bow" aA t.Zp t.Yp
 Gw:mg "bows_cross"=some (.ref t.Xh)
 ul:Fun K "bows_cross" "bows_cross" yp t.Xh t.mi
 NH:mg "meet"=some (.ref t.Ov)
 Hz:Fun K "meet" "meet" wH t.Ov t.Dx
 pN:mg "gap"=some (.ref t.GF)
 LJ:Fun K "gap" "gap" JM t.GF t.iG
 IJ:mg "words"=some (.ref t.Kv)
 xy:Fun K "words" "words" my t.Kv t.Su
 lp:mg "is_made_of"=some (.ref t.Gg)
 bi:Fun K "is_made_of" "is_made_of" Fk t.Gg t.Ng
 Nx:mg "is_number"=some (.ref t.Hj)
 Gm:Fun K "is_number" "is_number" Kr t.Hj t.Oj
 Bw:mg "figured"=some (.ref t.ol)
 Sn:Fun K "figured" "figured" zx t.ol t.nk
 dC:mg "is_name"=some (.ref t.Qn)
 Bq:Fun K "is_name" "is_name" Yw t.Qn t.Nm
 bw:mg "readers"=some (.ref t.Ck)
 cn:Fun K "readers" "readers" Xq t.Ck t.vk
 jq:mg "sort_of"=some (.ref t.Uk)
 Rk:Fun K "sort_of" "sort_of" qw t.Uk t.Kk
 Co:mg "homes_in"=some (.ref t.rh)
 Pi:Fun K "homes_in" "homes_in" lu t.rh t.xh
 jt:mg "change_turns"=some (.ref t.lg)
 Ii:Fun K "change_turns" "change_turns" uf t.lg t.ng
 Uo:mg "names_left"=some (.ref t.Lg)
 ci:Fun K "names_left" "names_left" vi t.Lg t.Ig
 Ps:mg "read_members"=some (.ref t.Dg)
 Bi:Fun K "read_members" "read_members" Fg t.Dg t.vg
 xw:mg "read_stage"=some (.ref t.ki)
 Qk:Fun K "read_stage" "read_stage" vp t.ki t.ji
 yt:mg "refuse_never"=some (.ref t.og)
 Li:Fun K "refuse_never" "refuse_never" Wl t.og t.kg
 Bt:mg "refuse_short"=some (.ref t.Eg)
 Ki:Fun K "refuse_short" "refuse_short" Ji t.Eg t.wg
 Mt:mg "refuse_clash"=some (.ref t.ug)
 Fi:Fun K "refuse_clash" "refuse_clash" Ul t.ug t.yg
 Jn:mg "read_stages"=some (.ref t.jf)
 fh:Fun K "read_stages" "read_stages" bn t.jf t.Ze
 Xy:mg "read_ring"=some (.ref t.Lj)
 vm:Fun K "read_ring" "read_ring" ar t.Lj t.rj
 Lq:mg "read_new_name"=some (.ref t.Qf)
 Kh:Fun K "read_new_name" "read_new_name" Ch t.Qf t.Yf
 YA:mg "read_end"=some (.ref t.Kl)
 Ao:Fun K "read_end" "read_end" Qt t.Kl t.Dl
 CA:mg "made_way"=some (.ref t.Hl)
 io:Fun K "made_way" "made_way" Xt t.Hl t.Il
 eA:mg "read_way"=some (.ref t.Jl)
 Fo:Fun K "read_way" "read_way" Fu t.Jl t.Fl
 Yk:mg "read_crossing"=some (.ref t.bg)
 Hf:Fun K "read_crossing" "read_crossing" zk t.bg t.cg
 wb:mg "_law_draw"=some (.ref t.Md)
 ub:Fun K "_law_draw" "_law_draw" oq t.Md t.Pd
 Po:mg "_law_names"=some (.ref t.Kg)
 Ph:Fun K "_law_names" "_law_names" Ek t.Kg t.Hg
 Ix:mg "_law_ways"=some (.ref t.Pj)
 wm:Fun K "_law_ways" "_law_ways" As t.Pj t.Jj
 Hr:mg "_law_text"=some (.ref t.Ij)
 Gj:Fun K "_law_text" "_law_text" Bm t.Ij t.tj
 Yx:mg "_law_meet"=some (.ref t.yj)
 um:Fun K "_law_meet" "_law_meet" zr t.yj t.zj
 ww:mg "_law_alike"=some (.ref t.Uh)
 Ak:Fun K "_law_alike" "_law_alike" Qo t.Uh t.di
 Qu:mg "_law_stages"=some (.ref t.dh)
 Bj:Fun K "_law_stages" "_law_stages" Aj t.dh t.eh
 Yn:mg "_law_stages_text"=some (.ref t.Oe)
 Mf:Fun K "_law_stages_text" "_law_stages_text" Xf t.Oe t.Le
 Ys:mg "_law_refused"=some (.ref t.qg)
 Ai:Fun K "_law_refused" "_law_refused" Zl t.qg t.Cg
 Km:mg "_law_at"=some (.ref t.mn)
 kj:Fun K "_law_at" "_law_at" jr t.mn t.Jm
 Qr:mg "_law_stranger"=some (.ref t.Jf)
 Eh:Fun K "_law_stranger" "_law_stranger" Ah t.Jf t.dg
 oo:mg "_law_name_fault"=some (.ref t.ef)
 ig:Fun K "_law_name_fault" "_law_name_fault" gf t.ef t.df
 qx:mg "_law_fault"=some (.ref t.ni)
 Xk:Fun K "_law_fault" "_law_fault" Yo t.ni t.Oh
 jN:mg "law"=some (.ref t.wI)
 lN:Fun K "law" "law" LA t.wI t.DF
 Yz:mg "NoText"=some (.ref t.Ac)
 WG:PySem.W.findIn K (.ref t.Ac) "__init__"=some (some (.ref t.Vf))
 Fn:Fun K "__init__" "NoText.__init__" Zm t.Vf t.gh
 Ry:mg "RowReader"=some (.ref t.Nb)
 MB:PySem.W.findIn K (.ref t.Nb) "__init__"=some (some (.ref t.He))
 Yj:Fun K "__init__" "RowReader.__init__" fk t.He t.wf
 xB:PySem.W.findIn K (.ref t.Nb) "ahead"=some (some (.ref t.yc))
 gj:Fun K "ahead" "RowReader.ahead" bj t.yc t.Lc
 Gx:PySem.W.findIn K (.ref t.Nb) "has_more"=some (some (.ref t.gd))
 ah:Fun K "has_more" "RowReader.has_more" bh t.gd t.Bd
 iz:PySem.W.findIn K (.ref t.Nb) "refuse"=some (some (.ref t.yd))
 Qh:Fun K "refuse" "RowReader.refuse" Sh t.yd t.Xd
 JB:PySem.W.findIn K (.ref t.Nb) "take"=some (some (.ref t.Jc))
 Tg:Fun K "take" "RowReader.take" Tj t.Jc t.Rc
 nz:PySem.W.findIn K (.ref t.Nb) "one_of"=some (some (.ref t.Bc))
 Sf:Fun K "one_of" "RowReader.one_of" Rh t.Bc t.Nc
 Rx:PySem.W.findIn K (.ref t.Nb) "figures"=some (some (.ref t.uc))
 Af:Fun K "figures" "RowReader.figures" Bh t.uc t.Hc
 Xz:PySem.W.findIn K (.ref t.Nb) "finish"=some (some (.ref t.zd))
 ii:Fun K "finish" "RowReader.finish" Wh t.zd t.je
 yG:mg "Stages"=some (.ref t.Fc)
 tH:PySem.W.findIn K (.ref t.Fc) "__init__"=some (some (.ref t.Kf))
 En:Fun K "__init__" "Stages.__init__" ff t.Kf t.kh
 kK:mg "Way"=some (.ref t.Qm)
 KK:PySem.W.findIn K (.ref t.Qm) "__init__"=some (some (.ref t.fg))
 Wt:Fun K "__init__" "Way.__init__" ku t.fg t.ph
 QF:mg "CarWay"=some (.ref t.Hd)
 zF:PySem.W.findIn K (.ref t.Hd) "__init__"=some (some (.ref t.Nf))
 Um:Fun K "__init__" "CarWay.__init__" On t.Nf t.jh
 lF:PySem.W.findIn K (.ref t.Hd) "ready"=some (some (.ref t.rg))
 Ql:Fun K "ready" "CarWay.ready" Rl t.rg t.Ei
 wF:PySem.W.findIn K (.ref t.Hd) "fade"=some (some (.ref t.mh))
 Wn:Fun K "fade" "CarWay.fade" Om t.mh t.xj
 zC:mg "FootWay"=some (.ref t.Zc)
 gF:PySem.W.findIn K (.ref t.Zc) "__init__"=some (some (.ref t.vf))
 Vl:Fun K "__init__" "FootWay.__init__" im t.vf t.Bg
 XE:PySem.W.findIn K (.ref t.Zc) "ready"=some (some (.ref t.Wf))
 zl:Fun K "ready" "FootWay.ready" Sk t.Wf t.Jh
 jF:PySem.W.findIn K (.ref t.Zc) "fade"=some (some (.ref t.zg))
 Pl:Fun K "fade" "FootWay.fade" dm t.zg t.Gi
 GC:mg "TramWay"=some (.ref t.ad)
 fF:PySem.W.findIn K (.ref t.ad) "__init__"=some (some (.ref t.rf))
 am:Fun K "__init__" "TramWay.__init__" Sl t.rf t.Ag
 qC:PySem.W.findIn K (.ref t.ad) "ready"=some (some (.ref t.Uf))
 uk:Fun K "ready" "TramWay.ready" Zk t.Uf t.Ih
 iF:PySem.W.findIn K (.ref t.ad) "fade"=some (some (.ref t.xg))
 jm:Fun K "fade" "TramWay.fade" gm t.xg t.Oi
 JA:mg "Crossing"=some (.ref t.gc)
 FD:PySem.W.findIn K (.ref t.gc) "__init__"=some (some (.ref t.Qe))
 xk:Fun K "__init__" "Crossing.__init__" pk t.Qe t.ag
 GB:PySem.W.findIn K (.ref t.gc) "names"=some (some (.ref t.Ad))
 Qj:Fun K "names" "Crossing.names" Rg t.Ad t.Vd
 wA:PySem.W.findIn K (.ref t.gc) "number"=some (some (.ref t.ye))
 Ui:Fun K "number" "Crossing.number" Qi t.ye t.bf
 fB:PySem.W.findIn K (.ref t.gc) "called"=some (some (.ref t.Kc))
 Ri:Fun K "called" "Crossing.called" Yi t.Kc t.Yc
 Bb:Cls K t.Nb
 zy:Mk K t.Nb t.He
 Ld:cu K t.Nb "ahead" t.yc
 Yg:cu K t.Nb "has_more" t.gd
 yi:cu K t.Nb "refuse" t.yd
 Ee:cu K t.Nb "take" t.Jc
 ce:cu K t.Nb "one_of" t.Bc
 Ic:cu K t.Nb "figures" t.uc
 gi:cu K t.Nb "finish" t.zd
 Zj:Xb K t.Nb "row"
 ij:Xb K t.Nb "told"
 Me:Xb K t.Nb "place"
 Ie:Cls K t.Fc
 jG:Mk K t.Fc t.Kf
 Ym:Xb K t.Fc "crossing"
 Yl:Xb K t.Fc "many"
 Gp:Xb K t.Fc "leasts"
 Gr:Xb K t.Fc "mosts"
 gg:Xb K t.Fc "members"
 xq:Xb K t.Fc "sorts"
 Wq:Xb K t.Fc "homes"
 oj:Xb K t.Fc "changes"
 rO:Cls K t.Qm
 xK:Xb K t.Qm "kind"
 eK:Xb K t.Qm "name"
 uH:Xb K t.Qm "start"
 JK:Xb K t.Qm "end"
 LK:Xb K t.Qm "off"
 OI:Xb K t.Qm "near"
 bI:Xb K t.Qm "least"
 Dr:Cls K t.Hd
 AF:Mk K t.Hd t.Nf
 Gs:cu K t.Hd "ready" t.rg
 Yu:cu K t.Hd "fade" t.mh
 Dt:Xb K t.Hd "kind"
 Nt:Xb K t.Hd "name"
 Xr:Xb K t.Hd "start"
 Hu:Xb K t.Hd "end"
 Av:Xb K t.Hd "off"
 Et:Xb K t.Hd "near"
 lq:Xb K t.Hd "least"
 vo:Cls K t.Zc
 uD:Mk K t.Zc t.vf
 Qq:cu K t.Zc "ready" t.Wf
 Is:cu K t.Zc "fade" t.zg
 Fq:Xb K t.Zc "kind"
 uq:Xb K t.Zc "name"
 Pp:Xb K t.Zc "start"
 ut:Xb K t.Zc "end"
 Js:Xb K t.Zc "off"
 dr:Xb K t.Zc "near"
 Jp:Xb K t.Zc "least"
 ao:Cls K t.ad
 SD:Mk K t.ad t.rf
 Jq:cu K t.ad "ready" t.Uf
 Us:cu K t.ad "fade" t.xg
 Er:Xb K t.ad "kind"
 Uq:Xb K t.ad "name"
 Bp:Xb K t.ad "start"
 Zs:Xb K t.ad "end"
 Ft:Xb K t.ad "off"
 Ar:Xb K t.ad "near"
 Ap:Xb K t.ad "least"
 zc:Cls K t.gc
 DA:Mk K t.gc t.Qe
 Sg:cu K t.gc "names" t.Ad
 Jo:cu K t.gc "number" t.ye
 Xc:cu K t.gc "called" t.Kc
 si:Xb K t.gc "places"
 Vj:Xb K t.gc "ways"
 Hh:Xb K t.gc "numbers"
 Pq:mg "LampError"=some (.ref t.Hm)
 By:wO K t.Hm "__init__"
 ND:XB K t.Ac
 Tv:MkX K t.Ac t.Vf
 Lm:Xb K t.Ac "row"
 Nl:Xb K t.Ac "word"
 gD:IB K t.Ac
 Ip:PySem.W.kitOne K (.ref t.Ac) (.ref t.Ac)=some true
 Lr:PySem.W.kitOne K (.ref t.Ac) (.ref t.Ir)=some false
 pr:PySem.W.kitOne K (.ref t.Ac) (.ref t.Mq)=some false
 yq:PySem.W.kitOne K (.ref t.Ac) (.ref t.Vq)=some false
 Kq:PySem.W.kitOne K (.ref t.Ac) (.ref t.Aq)=some false
 Ko:PySem.W.kitOne K (.ref t.Ac) (.ref t.yk)=some false
 Dq:PySem.W.kitOne K (.ref t.Ac) (.ref t.Yq)=some false
 zp:PySem.W.kitOne K (.ref t.Ac) (.ref t.Mm)=some false
 Ll:PySem.W.kitOne K (.ref t.Ac) (.type "ValueError")=some true
 om:PySem.W.exmOne K (.ref t.Ac) (.ref t.Hm)=some true
 KB:PySem.W.exmOne K (.ref t.Ac) (.ref t.Ac)=some true
 pJ:mg "NoWay"=some (.ref t.Ir)
 CJ:mg "Never"=some (.ref t.Mq)
 KI:mg "Short"=some (.ref t.Vq)
 JI:mg "Clash"=some (.ref t.Aq)
 YD:mg "TooMany"=some (.ref t.yk)
 HJ:mg "NoRow"=some (.ref t.Yq)
 FF:mg "NoName"=some (.ref t.Mm)
 nH:t.Qm ≠ t.Hd
 eF:t.Qm ≠ t.Zc
 bF:t.Qm ≠ t.ad
 Ti:t.Hd ≠ t.Zc
 Vi:t.Hd ≠ t.ad
 Yh:t.Zc ≠ t.ad
 xo:ON K t.Qm "__init__" t.fg
 dE:mg "FIGURES"=some t.Qw
 jD:Td (.str (Str.ofString "0123456789")) t.Qw
 Ls:mg "LEAST_PLACES"=some t.lm
 Ms:Td (.int 2) t.lm
 kE:mg "LETTERS"=some t.Tw
 GD:Td (.str (Str.ofString "abcdefghijklmnopqrstuvwxyz")) t.Tw
 ft:mg "MOST_FIGURES"=some t.Xl
 Ht:Td (.int 3) t.Xl
 Pw:mg "MOST_LEAST"=some t.wp
 gx:Td (.int 60) t.wp
 Jt:mg "MOST_LETTERS"=some t.km
 zt:Td (.int 8) t.km
 Ox:mg "MOST_NEAR"=some t.sr
 Ux:Td (.int 30) t.sr
 fA:mg "MOST_OFF"=some t.fu
 gA:Td (.int 30) t.fu
 fv:mg "MOST_PLACES"=some t.Pm
 Lv:Td (.int 99) t.Pm
 Gv:mg "MOST_STAGES"=some t.wn
 dv:Td (.int 6) t.wn
 ip:mg "MOST_TURNS"=some t.gp
 jp:Td (.int 60) t.gp
 Px:mg "MOST_WAYS"=some t.Nr
 Ny:Td (.int 12) t.Nr
 bx:mg "ValueError"=none
 xN:mg "all"=none
 iM:mg "bool"=none
 Dj:mg "enumerate"=none
 ED:mg "int"=none
 Mg:mg "isinstance"=none
 Bf:mg "len"=none
 NI:mg "max"=none
 Hi:mg "range"=none
 vA:mg "str"=none
 BL:∀ (s:Shared) (u:Value),BindsTo s t.DF ⟨[u],[]⟩ [("_law_script",u)]
section
variable {w:World} {K:W.Frag} {mg:Str->Option Value} {t:Adr} (T:Txt w K mg t)
include T
theorem Txt.bz:vc K t.Yp q33 []:=T.Vp.binds fun _ _ _ _ _ _=>us3 fun _ _ _=>rfl
theorem Txt.jw:vc K t.mi q23 []:=T.ul.binds fun _ _ _ _ _ _=>us3 fun _ _ _=>rfl
theorem Txt.PH:vc K t.Dx q14 []:=T.Hz.binds fun _ _ _ _ _ _=>us3 fun _ _ _=>rfl
theorem Txt.FN:vc K t.iG q14 []:=T.LJ.binds fun _ _ _ _ _ _=>us3 fun _ _ _=>rfl
theorem Txt.yI:vc K t.Su ["text"] []:=T.xy.binds fun _ _ _ _ _ _=>us1 fun _=>rfl
theorem Txt.No:vc K t.Ng q19 []:=T.bi.binds fun _ _ _ _ _ _=>us3 fun _ _ _=>rfl
theorem Txt.ky:vc K t.Oj q24 []:=T.Gm.binds fun _ _ _ _ _ _=>us2 fun _ _=>rfl
theorem Txt.Jw:vc K t.nk q25 []:=T.Sn.binds fun _ _ _ _ _ _=>us3 fun _ _ _=>rfl
theorem Txt.VD:vc K t.Nm ["word"] []:=T.Bq.binds fun _ _ _ _ _ _=>us1 fun _=>rfl
theorem Txt.uw:vc K t.vk ["text"] []:=T.cn.binds fun _ _ _ _ _ _=>us1 fun _=>rfl
theorem Txt.nq:vc K t.Kk q21 []:=T.Rk.binds fun _ _ _ _ _ _=>us2 fun _ _=>rfl
theorem Txt.Eo:vc K t.xh ["members"] []:=T.Pi.binds fun _ _ _ _ _ _=>us1 fun _=>rfl
theorem Txt.wt:vc K t.ng q35 []:=T.Ii.binds fun _ _ _ _ _ _=>us3 fun _ _ _=>rfl
theorem Txt.Wo:vc K t.Ig q9 []:=T.ci.binds fun _ _ _ _ _ _=>us2 fun _ _=>rfl
theorem Txt.Os:vc K t.vg q36 []:=T.Bi.binds fun _ _ _ _ _ _=>us3 fun _ _ _=>rfl
theorem Txt.yx:vc K t.ji q37 []:=T.Qk.binds fun _ _ _ _ _ _=>us3 fun _ _ _=>rfl
theorem Txt.Xs:vc K t.kg q9 []:=T.Li.binds fun _ _ _ _ _ _=>us2 fun _ _=>rfl
theorem Txt.Ts:vc K t.wg q9 []:=T.Ki.binds fun _ _ _ _ _ _=>us2 fun _ _=>rfl
theorem Txt.bt:vc K t.yg q9 []:=T.Fi.binds fun _ _ _ _ _ _=>us2 fun _ _=>rfl
theorem Txt.Nn:vc K t.Ze q22 []:=T.fh.binds fun _ _ _ _ _ _=>us2 fun _ _=>rfl
theorem Txt.Wy:vc K t.rj ["reader"] []:=T.vm.binds fun _ _ _ _ _ _=>us1 fun _=>rfl
theorem Txt.Mr:vc K t.Yf q38 []:=T.Kh.binds fun _ _ _ _ _ _=>us2 fun _ _=>rfl
theorem Txt.zA:vc K t.Dl q26 []:=T.Ao.binds fun _ _ _ _ _ _=>us3 fun _ _ _=>rfl
theorem Txt.UA:vc K t.Il q27 []:=T.io.binds fun _ _ _ _ _ _=>us7 fun _ _ _ _ _ _ _=>rfl
theorem Txt.cA:vc K t.Fl q39 []:=T.Fo.binds fun _ _ _ _ _ _=>us3 fun _ _ _=>rfl
theorem Txt.Lk:vc K t.cg ["text"] []:=T.Hf.binds fun _ _ _ _ _ _=>us1 fun _=>rfl
theorem Txt.xb:vc K t.Pd q12 []:=T.ub.binds fun _ _ _ _ _ _=>us3 fun _ _ _=>rfl
theorem Txt.Lo:vc K t.Hg q28 []:=T.Ph.binds fun _ _ _ _ _ _=>us2 fun _ _=>rfl
theorem Txt.Ky:vc K t.Jj q40 []:=T.wm.binds fun _ _ _ _ _ _=>us2 fun _ _=>rfl
theorem Txt.Ur:vc K t.tj q41 []:=T.Gj.binds fun _ _ _ _ _ _=>us2 fun _ _=>rfl
theorem Txt.Lx:vc K t.zj q42 []:=T.um.binds fun _ _ _ _ _ _=>us3 fun _ _ _=>rfl
theorem Txt.Aw:vc K t.di q43 []:=T.Ak.binds fun _ _ _ _ _ _=>us3 fun _ _ _=>rfl
theorem Txt.av:vc K t.eh q44 []:=T.Bj.binds fun _ _ _ _ _ _=>us3 fun _ _ _=>rfl
theorem Txt.dn:vc K t.Le q45 []:=T.Mf.binds fun _ _ _ _ _ _=>us2 fun _ _=>rfl
theorem Txt.Qs:vc K t.Cg q46 []:=T.Ai.binds fun _ _ _ _ _ _=>us2 fun _ _=>rfl
theorem Txt.Tn:vc K t.Jm q47 []:=T.kj.binds fun _ _ _ _ _ _=>us4 fun _ _ _ _=>rfl
theorem Txt.yr:vc K t.dg q48 []:=T.Eh.binds fun _ _ _ _ _ _=>us2 fun _ _=>rfl
theorem Txt.yo:vc K t.df q15 []:=T.ig.binds fun _ _ _ _ _ _=>us4 fun _ _ _ _=>rfl
theorem Txt.Ow:vc K t.Oh q15 []:=T.Xk.binds fun _ _ _ _ _ _=>us4 fun _ _ _ _=>rfl
theorem Txt.mv:vc K t.gh q30 []:=T.Fn.binds fun _ _ _ _ _ _=>us3 fun _ _ _=>rfl
theorem Txt.Dp:vc K t.wf q31 []:=T.Yj.binds fun _ _ _ _ _ _=>us3 fun _ _ _=>rfl
theorem Txt.Kd:vc K t.Lc ["self"] []:=T.gj.binds fun _ _ _ _ _ _=>us1 fun _=>rfl
theorem Txt.Xg:vc K t.Bd ["self"] []:=T.ah.binds fun _ _ _ _ _ _=>us1 fun _=>rfl
theorem Txt.xi:vc K t.Xd ["self"] []:=T.Qh.binds fun _ _ _ _ _ _=>us1 fun _=>rfl
theorem Txt.Fe:vc K t.Rc q13 []:=T.Tg.binds fun _ _ _ _ _ _=>us2 fun _ _=>rfl
theorem Txt.ge:vc K t.Nc q16 []:=T.Sf.binds fun _ _ _ _ _ _=>us2 fun _ _=>rfl
theorem Txt.Gc:vc K t.Hc q17 []:=T.Af.binds fun _ _ _ _ _ _=>us3 fun _ _ _=>rfl
theorem Txt.oi:vc K t.je ["self"] []:=T.ii.binds fun _ _ _ _ _ _=>us1 fun _=>rfl
theorem Txt.Ou:vc K t.kh q49 []:=T.En.binds fun _ _ _ _ _ _=>us3 fun _ _ _=>rfl
theorem Txt.Ho:vc K t.ph q20 []:=T.Wt.binds fun _ _ _ _ _ _=>us8 fun _ _ _ _ _ _ _ _=>rfl
theorem Txt.jv:vc K t.jh q10 []:=T.Um.binds fun _ _ _ _ _ _=>us7 fun _ _ _ _ _ _ _=>rfl
theorem Txt.Es:vc K t.Ei ["self"] []:=T.Ql.binds fun _ _ _ _ _ _=>us1 fun _=>rfl
theorem Txt.uv:vc K t.xj ["self"] []:=T.Wn.binds fun _ _ _ _ _ _=>us1 fun _=>rfl
theorem Txt.At:vc K t.Bg q10 []:=T.Vl.binds fun _ _ _ _ _ _=>us7 fun _ _ _ _ _ _ _=>rfl
theorem Txt.zq:vc K t.Jh ["self"] []:=T.zl.binds fun _ _ _ _ _ _=>us1 fun _=>rfl
theorem Txt.Vs:vc K t.Gi ["self"] []:=T.Pl.binds fun _ _ _ _ _ _=>us1 fun _=>rfl
theorem Txt.Ws:vc K t.Ag q10 []:=T.am.binds fun _ _ _ _ _ _=>us7 fun _ _ _ _ _ _ _=>rfl
theorem Txt.vq:vc K t.Ih ["self"] []:=T.uk.binds fun _ _ _ _ _ _=>us1 fun _=>rfl
theorem Txt.vt:vc K t.Oi ["self"] []:=T.jm.binds fun _ _ _ _ _ _=>us1 fun _=>rfl
theorem Txt.iq:vc K t.ag q50 []:=T.xk.binds fun _ _ _ _ _ _=>us3 fun _ _ _=>rfl
theorem Txt.Pg:vc K t.Vd ["self"] []:=T.Qj.binds fun _ _ _ _ _ _=>us1 fun _=>rfl
theorem Txt.ko:vc K t.bf q11 []:=T.Ui.binds fun _ _ _ _ _ _=>us2 fun _ _=>rfl
theorem Txt.Wc:vc K t.Yc q11 []:=T.Ri.binds fun _ _ _ _ _ _=>us2 fun _ _=>rfl
theorem Txt.wj:Nu K t.Ac:=ZI T.ND T.Tv
theorem Txt.rq:BI K t.Ac:=iK T.wj T.gD
end
noncomputable def Od (ns:List Int) (k m:Int):Int:=
 ((((if 0 < (ns.length:Int) then ns.getD (k % (ns.length:Int)).toNat 0 else 0) % 1000003 + 31 * k * k + 1) * 48271 % 999983 * 7919) % 524287) % m
theorem xc (ns:List Int) (k:Int) {m:Int} (h:0 < m):0 <= Od ns k m:=Int.emod_nonneg _ (by omega)
theorem wc (ns:List Int) (k:Int) {m:Int} (h:0 < m):Od ns k m < m:=Int.emod_lt_of_pos _ h
noncomputable def Te (K:W.Frag) (a:Addr) (ns:List Int):Sp:=fun vs H Q _=>∃ k m,vs=[.ref a,.int k,.int m]/\Sc K a ns H/\(0 <= k/\k < 1000000)/\0 < m/\Q (.int (Od ns k m)) H
section
variable {P:Program} {w:World} {K:W.Frag} {mg:Str->Option Value} {base:Heap} {t:Adr}
theorem AE (T:Txt w K mg t) (a:Addr) (ns:List Int) (h63:ns.length <= 63):Ub P w K mg base CX0 1 t.Md t.Pd q12 (Te K a ns):=by
 refine T.ub.ok Cf (fun vs H Q E h=>?_) (fun _ _ _ s H vs Q E hr h=>?_)
 ·obtain ⟨k,m,rfl,_⟩:=h;rfl
 obtain ⟨k,m,rfl,S,⟨h0,h1⟩,hm,q⟩:=h;refine ⟨_,(db (Fb (i:=3) Cf.nd rfl (Or.inl rfl) (Jv (Ob mq (Vb Ib rfl T.Bf Rb (cb (pv 0) fb)) ib (Sb _)) (ic Yb (pv 0) (Pb Og (pv 1) (Vb Ib rfl T.Bf Rb (cb (pv 0) fb))) (fun _ _=>rfl)) ib))
   (db (Fb (i:=4) Cf.nd rfl (Or.inl rfl) (Pb Pc (Pb Pc (Pb Og (pv 3) ib) (Pb Mh (Pb Mh ib (pv 1)) (pv 1))) ib))
   (lb (Qb (Pb Og (Pb Og (Pb Mh (Pb Og (Pb Mh (pv 4) ib) ib) ib) ib) (pv 2)))))),?_⟩
 walk_at "RD";refine ⟨_,.inl S.seq,?_⟩;rw [length_map];have hkk:(0:Int) <= k * k/\k * k < 1000000 * 1000000:=⟨Int.mul_nonneg h0 h0,Int.mul_lt_mul' (by omega) h1 h0 (by decide)⟩;have fin:∀ i:Int,(0:Int) < 1000003/\ZB 31 k/\ZB (31 * k) k/\ZB (i % 1000003 + 31 * k * k + 1) 48271/\(0:Int) < 999983/\ZB ((i % 1000003 + 31 * k * k + 1) * 48271 % 999983) 7919/\(0:Int) < 524287/\0 < m:=by
  intro i;refine ⟨by decide,.inl (by decide),.inr (by omega),.inr (by decide),by decide,.inr (by decide),by decide,hm⟩
 by_cases c:(0:Int) < (ns.length:Int)
 ·rw [if_pos (decide_eq_true c)];have hk:0 <= k % (ns.length:Int)/\k % (ns.length:Int) < (ns.length:Int):=⟨Int.emod_nonneg _ (by omega),Int.emod_lt_of_pos _ c⟩;refine ⟨_,.inl S.seq,by rw [length_map];exact c,_,S.seq,?_⟩;rw [length_map];have hj:(k % (ns.length:Int)).toNat < ns.length:=by omega
  refine ⟨.int ns[(k % (ns.length:Int)).toNat],?_,_,rfl,?_⟩
  ·have e:=Eb (xs:=ns.map V.int) (j:=(k % (ns.length:Int)).toNat) (v:=.int ns[(k % (ns.length:Int)).toNat]) (by rw [getElem?_map,getElem?_eq_getElem hj] <;> rfl);rwa [Int.toNat_of_nonneg hk.1] at e
  ·obtain ⟨f1,f2,f3,f4,f5,f6,f7,f8⟩:=fin ns[(k % (ns.length:Int)).toNat];refine ⟨f1,f2,f3,f4,f5,f6,f7,f8,?_⟩;have e:Od ns k m=(((ns[(k % (ns.length:Int)).toNat] % 1000003 + 31 * k * k + 1) * 48271 % 999983 * 7919) % 524287) % m:=by
    unfold Od;rw [if_pos c,getD_eq_getElem?_getD,getElem?_eq_getElem hj];rfl
   rw [<- e];exact q
 ·rw [if_neg (by simpa using c)];obtain ⟨f1,f2,f3,f4,f5,f6,f7,f8⟩:=fin 0;refine ⟨f1,f2,f3,f4,f5,f6,f7,f8,?_⟩;have e:Od ns k m=(((0 % 1000003 + 31 * k * k + 1) * 48271 % 999983 * 7919) % 524287) % m:=by
   unfold Od;rw [if_neg c]
  rw [<- e];exact q
end
theorem PM {w:Str}:w=Str.ofString "" ↔ w.length=0:=by
 constructor
 ·rintro rfl;decide +kernel
 ·intro h;have e:w.cps=#[]:=Array.eq_empty_of_size_eq_zero h;have e2:(Str.ofString "").cps=#[]:=by decide +kernel
  cases w;cases h2:Str.ofString "";rw [h2] at e2;simp only at e e2;rw [e,e2]
noncomputable def inL (sg:Str) (c:Nat):Bool:=!(Builtin.Str.occurrences sg (Cs c) 0 sg.length 1).isEmpty
theorem Iy (sg:Str) (c:Nat):inL sg c=decide (c ∈ sg.cps.toList):=StrLaws.found_one sg c
noncomputable def made (w sg:Str) (m:Int):Bool:=if w=Str.ofString "" then false else if m < (w.length:Int) then false else w.cps.toList.all (inL sg)
noncomputable def Cr:Sp:=fun vs H Q _=>∃ w sg m,vs=[.str w,.str sg,.int m]/\w.length <= 1000/\NoT H/\Q (.bl (made w sg m)) H
noncomputable def QG:Sp:=fun vs H Q _=>∃ w sg m,vs=[.str w,.str sg,.int m]/\w.length <= 1000/\∀ H',bc H H'->Q (.bl (made w sg m)) H'
section
variable {P:Program} {w:World} {K:W.Frag} {mg:Str->Option Value} {base:Heap} {t:Adr}
theorem zD (T:Txt w K mg t):Ub P w K mg base CX0 1 t.Gg t.Ng q19 Cr:=by
 refine Ub.forget (sp:=QG) ?_ fun vs H Q E h=>?_
 ·refine T.bi.ok Bv (fun vs H Q E h=>?_) (fun _ _ _ s H vs Q E hr h=>?_)
  ·obtain ⟨w,sg,m,rfl,_⟩:=h;rfl
  obtain ⟨w,sg,m,rfl,hz,q⟩:=h;have hz':w.length <= sizeLine:=Nat.le_trans hz (by decide);refine ⟨_,(db (Gd (PW.pt (wy (Ob ve (pv 0) Jb (Sb _)) (nu (Ob mq (Vb Ro rfl T.Bf Rb (cb (pv 0) fb)) (pv 2) (Sb _))))) (lb (Qb cy)) fc)
   (lb (Qb (Vb (qG rfl) rfl T.xN RA (cb (Qd rfl (bL (pv 0)) (dc (sc:=pb Fk) rfl (by decide +kernel)) (N:=["sign","signs"]) (sel:=[none,some 1]) (Cc (M:=q19) (by decide +kernel)) (Blk.of (fun _ _ _ _=>(Cb (i:=0) (se (N:=["sign","signs"]) (by decide +kernel) rfl) rfl (Or.inl rfl))) (fun _ _ _ _=>⟨_,Fd,by walk_at "B"⟩) (fun _ _ _ _=>⟨_,(Dd RD (pv 0) (pv 1) (by with_unfolding_all rfl)),by walk_at "B"⟩))) fb))))),?_⟩
  walk_at "RD";refine ac (decide (w=Str.ofString "") || decide (m < (w.length:Int))) (fun Q hQ=>?_) (fun hb=>?_) (fun hb=>?_)
  ·walk_at "RD";by_cases c:w=Str.ofString ""
   ·rw [if_pos (decide_eq_true c)];rw [decide_eq_true c,Bool.true_or] at hQ;exact hQ
   ·rw [if_neg (by simpa using c)];rw [decide_eq_false c,Bool.false_or] at hQ;exact ⟨hz',hQ⟩
  ·walk_at "RD";have e:made w sg m=false:=by
    unfold made;simp only [Bool.or_eq_true,decide_eq_true_eq] at hb;by_cases c:w=Str.ofString ""
    ·rw [if_pos c]
    ·rw [if_neg c,if_pos (hb.resolve_left c)]
   have:=q H (bc.refl H);rw [e] at this;exact this
  ·walk_at "RD";have e:made w sg m=w.cps.toList.all (inL sg):=by
    unfold made;simp only [Bool.or_eq_false_iff,decide_eq_false_iff_not] at hb;rw [if_neg hb.1,if_neg hb.2]
   refine jd.its_map (fun x=>match x with | .str y=>.bl (!(Builtin.Str.occurrences sg y 0 sg.length 1).isEmpty) | _=>.non) (by rw [Hn];exact hz') (fun i x N hx hN=>?_) (fun p hp=>?_)
   ·unfold Sj at hx;rw [getElem?_map] at hx;cases hc:w.cps.toList[i]? with
    | none=>rw [hc] at hx;cases hx
    | some c=>
     rw [hc] at hx;have hx':V.str (Cs c)=x:=Option.some.inj hx;subst hx';walk_at "RD";exact ⟨Sub.name,hN⟩
   ·refine ⟨p,rfl,w.cps.toList.map (inL sg),SqL.of ?_,?_⟩
    ·rw [gb];unfold Sj;rw [map_map,map_map];rfl
    ·have:=q (upd H p (.lst (List.map (fun x=>match x with | .str y=>.bl (!(Builtin.Str.occurrences sg y 0 sg.length 1).isEmpty) | _=>.non) (Sj w)))) (jb hp);rw [e] at this;rw [List.all_map];exact this
 ·obtain ⟨w,sg,m,e,hz,nt,q⟩:=h;exact ⟨nt,w,sg,m,e,hz,fun H' sm=>⟨sm,q⟩⟩
end
noncomputable abbrev tK:Str:=Str.ofString "0123456789"
noncomputable def Lp (c:Nat):Bool:=decide (48 <= c/\c <= 57)
theorem DD:tK.cps.toList=[48,49,50,51,52,53,54,55,56,57]:=by decide +kernel
theorem CG (c:Nat):inL tK c=Lp c:=by
 rw [Iy,DD];unfold Lp;rw [Bool.eq_iff_iff];simp only [decide_eq_true_eq,mem_cons,not_mem_nil,or_false];omega
noncomputable abbrev cs (w:Str):List Nat:=w.cps.toList
theorem xE (w:Str):(cs w).length=w.length:=by simp [cs,Str.length]
noncomputable def okB (w:Str):Bool:=decide (1 <= (cs w).length) && decide ((cs w).length <= 3) && (cs w).all Lp && (decide ((cs w).length <= 1) || decide ((cs w).headD 0 ≠ 48))
noncomputable abbrev val (w:Str):Int:=((NumText.digitsVal (cs w):Nat):Int)
noncomputable def Cu (w:Str) (lo hi:Int):V:=if okB w && !(decide (val w < lo) || decide (hi < val w)) then .int (val w) else .non
theorem wC {w:Str} {c:Nat}:w=⟨#[c]⟩↔cs w=[c]:=by
 constructor
 ·rintro rfl;rfl
 ·intro h;cases w with
  | mk a=>
   have e:a=#[c]:=Array.toList_inj.mp h;rw [e]
theorem Zx:Str.ofString "0"=⟨#[48]⟩:=by decide +kernel
theorem Sv (w:Str):made w tK 3=(decide (1 <= (cs w).length) && decide ((cs w).length <= 3) && (cs w).all Lp):=by
 unfold made;have e:(inL tK)=Lp:=funext CG;rw [e];by_cases h1:w=Str.ofString ""
 ·have h2:=PM.mp h1;rw [if_pos h1,xE,h2];rfl
 ·have h2:¬ w.length=0:=fun z=>h1 (PM.mpr z)
  rw [if_neg h1,xE];by_cases h3:(3:Int) < (w.length:Int)
  ·rw [if_pos h3,decide_eq_false (show ¬ w.length <= 3 by omega),Bool.and_false,Bool.false_and]
  ·rw [if_neg h3,decide_eq_true (show 1 <= w.length by omega),decide_eq_true (show w.length <= 3 by omega)];rfl
theorem Ev {l:List Nat} (h:l.all Lp=true):NumText.AllDigits l:=fun c hc=>by
 have:=List.all_eq_true.mp h c hc;simpa [Lp] using this
theorem sM {w:Str} (h:okB w=true):(1 <= (cs w).length/\(cs w).length <= 3)/\(cs w).all Lp=true:=by
 unfold okB at h;simp only [Bool.and_eq_true,decide_eq_true_eq] at h;exact h.1
noncomputable def WB:Sp:=fun vs H Q _=>∃ w,vs=[.str w,.int 3]/\w.length <= 1000/\NoT H/\Q (.bl (okB w)) H
noncomputable def CC:Sp:=fun vs H Q _=>∃ w lo hi,vs=[.str w,.int lo,.int hi]/\w.length <= 1000/\NoT H/\Q (Cu w lo hi) H
section
variable {P:Program} {w:World} {K:W.Frag} {mg:Str->Option Value} {base:Heap} {t:Adr}
theorem XL (T:Txt w K mg t):Ub P w K mg base CX0 2 t.Hj t.Oj q24 WB:=by
 have g19:Ub P w K mg base CX0 1 t.Gg t.Ng q19 Cr:=zD T;refine T.Gm.ok Xw (fun vs H Q E h=>?_) (fun _ _ _ s H vs Q E hr h=>?_)
 ·obtain ⟨w,rfl,_⟩:=h;rfl
 obtain ⟨w,rfl,hz,nt,q⟩:=h;have hz':w.length <= sizeLine:=Nat.le_trans hz (by decide);refine ⟨_,(db (Gd (uu (zi (vb g19 hr rfl T.lp T.bi.kp T.No .nil Db (cb (pv 0) (cb (qe rfl T.dE T.jD) (cb (pv 1) fb)))))) (lb (Qb cy)) fc)
   (lb (Qb (jL (Dd ve (pv 0) Jb (Sb _)) (Ew (Dd Ly (ic pz (pv 0) ib (fun _ _=>rfl)) Jb (Sb _))))))),?_⟩
 refine ac (!made w tK 3) (fun Q hQ=>?_) (fun hb=>?_) (fun hb=>?_)
 ·(walk_at "RD"; repeat (simp only [Cr];walk_at "RD"));exact ⟨hz,nt,hQ⟩
 ·walk_at "RD";have e:okB w=false:=by
   have hb':made w tK 3=false:=by simpa using hb
   rw [Sv] at hb';unfold okB;rw [hb'];rfl
  rw [e] at q;exact q
 ·have hb':made w tK 3=true:=by simpa using hb
  rw [Sv] at hb';rw [Qc];dsimp only;refine GI (.bl (okB w)) (fun Q hQ=>?_) ?_
  case refine_2=>exact q
  walk_at "RD";have hb2:(1 <= (cs w).length/\(cs w).length <= 3)/\(cs w).all Lp=true:=by
   simpa only [Bool.and_eq_true,decide_eq_true_eq] using hb'
  obtain ⟨c,r,hcr⟩:∃ c r,cs w=c :: r:=by
   cases h:cs w with
   | nil=>rw [h] at hb2;exact absurd hb2.1.1 (by decide)
   | cons c r=>exact ⟨c,r,rfl⟩
  have ok:okB w=(decide ((cs w).length <= 1) || decide ((cs w).headD 0 ≠ 48)):=by
   unfold okB;rw [hb',Bool.true_and]
  by_cases c0:w=Str.ofString "0"
  ·rw [if_pos (decide_eq_true c0)];have e:cs w=[48]:=by rw [c0,Zx]
   rw [ok,e] at hQ;exact hQ
  ·rw [if_neg (by simpa using c0)];refine ⟨hz',c,?_,?_⟩
   ·have:=Eb (xs:=cs w) (j:=0) (v:=c) (by rw [hcr];rfl);exact this
   ·have e2:decide ((⟨#[c]⟩:Str)=Str.ofString "0")=decide (c=48):=by
     rw [Zx];by_cases h48:c=48
     ·rw [h48];simp
     ·rw [decide_eq_false h48,decide_eq_false];intro z;have z2:=wC.mp z;exact h48 (List.cons.inj z2).1
    rw [e2];have e3:okB w = !decide (c=48):=by
     rw [ok,hcr];show (decide ((c :: r).length <= 1) || decide (c ≠ 48))=_;by_cases h48:c=48
     ·have hr:r ≠ []:=fun z=>c0 (by rw [Zx];exact wC.mpr (by rw [hcr,z,h48]))
      have:¬ (c :: r).length <= 1:=by
       cases r with
       | nil=>exact absurd rfl hr
       | cons d r=>simp
      rw [decide_eq_false this,h48];rfl
     ·rw [decide_eq_true h48,Bool.or_true,decide_eq_false h48];rfl
    rw [<- e3];exact hQ
theorem DH (T:Txt w K mg t):Ub P w K mg base CX0 3 t.ol t.nk q25 CC:=by
 have g34:Ub P w K mg base CX0 2 t.Hj t.Oj q24 WB:=XL T;refine T.Sn.ok eu (fun vs H Q E h=>?_) (fun _ _ _ s H vs Q E hr h=>?_)
 ·obtain ⟨w,lo,hi,rfl,_⟩:=h;rfl
 obtain ⟨w,lo,hi,rfl,hz,nt,q⟩:=h;refine ⟨_,(db (Gd (uu (zi (vb g34 hr rfl T.Nx T.Gm.kp T.ky .nil Db (cb (pv 0) (cb (qe rfl T.ft T.Ht) fb))))) (lb (Qb Oz)) fc)
   (db (Fb (i:=3) eu.nd rfl (Or.inl rfl) (sf zw rfl T.ED Wi (cb (pv 0) fb)))
   (db (Gd (PW.pt (wy (Ob Iu (pv 3) (pv 1) (Sb _)) (nu (Ob mq (pv 3) (pv 2) (Sb _))))) (lb (Qb Oz)) fc)
   (lb (Qb (pv 3)))))),?_⟩
 refine ac (!okB w) (fun Q hQ=>?_) (fun hb=>?_) (fun hb=>?_)
 ·(walk_at "RD"; repeat (simp only [WB];walk_at "RD"));exact ⟨hz,nt,hQ⟩
 ·walk_at "RD";have hb':okB w=false:=by simpa using hb
  have e:Cu w lo hi=.non:=by unfold Cu;rw [hb'];rfl
  rw [e] at q;exact q
 ·have hb':okB w=true:=by simpa using hb
  have h3:(1 <= (cs w).length/\(cs w).length <= 3)/\(cs w).all Lp=true:=by
   have:=hb';unfold okB at this;simp only [Bool.and_eq_true,decide_eq_true_eq] at this;exact this.1
  have hl:=xE w;have hi':intText? w=some (val w):=intText_digits (Ev h3.2) (fun z=>by have z':cs w=[]:=z;rw [z'] at h3;exact absurd h3.1.1 (by decide)) (by omega);walk_at "RD";refine ⟨val w,hi',by omega,?_⟩;refine ac (decide (val w < lo) || decide (hi < val w)) (fun Q hQ=>?_) (fun hc=>?_) (fun hc=>?_)
  ·walk_at "RD";by_cases c:val w < lo
   ·rw [if_pos (decide_eq_true c)];rw [decide_eq_true c,Bool.true_or] at hQ;exact hQ
   ·rw [if_neg (by simpa using c)];rw [decide_eq_false c,Bool.false_or] at hQ;exact hQ
  ·walk_at "RD";have e:Cu w lo hi=.non:=by unfold Cu;rw [hb',hc];rfl
   rw [e] at q;exact q
  ·walk_at "RD";have e:Cu w lo hi=.int (val w):=by unfold Cu;rw [hb',hc];rfl
   rw [e] at q;exact q
end
theorem Vm {n:Nat} (h:n < 1000):n.log2 < 1920:=by
 by_cases h0:n=0
 ·subst h0;decide
 ·rw [Nat.log2_lt h0];exact Nat.lt_of_lt_of_le h (Nat.le_trans (show 1000 <= 2 ^ 10 by decide) (Nat.pow_le_pow_right (by decide) (by decide)))
theorem SF:∀ n,n < 1000->(Nat.toDigits 10 n).length <= 3:=by decide +kernel
theorem xm {n:Int} (h0:0 <= n) (h1:n <= 999):(Str.ofString (toString n)).length <= 3:=by
 have e:=PySem.W.KIN.signs_num n.toNat;rw [Int.toNat_of_nonneg h0] at e;have l:(Str.ofString (toString n)).length=(Str.ofString (toString n)).cps.toList.length:=by simp [Str.length]
 rw [l,e,length_map];exact SF _ (by omega)
noncomputable abbrev Dh:Str:=Str.ofString "abcdefghijklmnopqrstuvwxyz"
noncomputable def jC:Sp:=fun vs H Q _=>∃ w,vs=[.str w]/\w.length <= 1000/\NoT H/\Q (.bl (made w Dh 8)) H
section
variable {P:Program} {w:World} {K:W.Frag} {mg:Str->Option Value} {base:Heap} {t:Adr}
theorem xJ (T:Txt w K mg t):Ub P w K mg base CX0 2 t.Qn t.Nm ["word"] jC:=by
 have g19:Ub P w K mg base CX0 1 t.Gg t.Ng q19 Cr:=zD T;refine T.Bq.ok gB (fun vs H Q E h=>?_) (fun _ _ _ s H vs Q E hr h=>?_)
 ·obtain ⟨w,rfl,_⟩:=h;rfl
 obtain ⟨w,rfl,hz,nt,q⟩:=h;refine ⟨_,(lb (Qb (vb g19 hr rfl T.lp T.bi.kp T.No .nil Db (cb (pv 0) (cb (qe rfl T.kE T.GD) (cb (qe rfl T.Jt T.zt) fb)))))),?_⟩;(walk_at "RD"; repeat (simp only [Cr];walk_at "RD"));exact ⟨hz,nt,q⟩
end
noncomputable abbrev nl:Str:=Str.ofString "\n"
noncomputable abbrev bk:Str:=Str.ofString " "
theorem JJ:nl=⟨#[10]⟩:=by decide +kernel
theorem AB:bk=⟨#[32]⟩:=by decide +kernel
noncomputable def re (x:Str):List (List Str):=(Txt.split x nl).map fun r=>Txt.split r bk
theorem Ot:∀ {ys:List Str} {y:Str},y ∈ ys->y.length <= (ys.map (·.length)).sum
 | [],_,h=>nomatch h
 | a :: r,y,h=>by
  rw [map_cons,List.sum_cons];rcases List.mem_cons.mp h with rfl | h
  ·omega
  ·have:=Ot h;omega
theorem FI {x y r:Str} (hy:1 <= y.length) (h:r ∈ Txt.split x y):r.length <= x.length + 1:=by
 have h1:=PyProof.Rows.split_weight x y hy;have h2:=Ot h;omega
theorem Hk {x y:Str} (hy:1 <= y.length):(Txt.split x y).length <= x.length + 1:=by
 have h1:=PyProof.Rows.split_weight x y hy;omega
theorem aH (x y:Str):Txt.split x y ≠ []:=by
 unfold Txt.split;split
 ·simp
 ·split
  ·simp
  ·rw [StrLaws.partsBetween_eq];obtain ⟨p,r,e⟩:=StrLaws.partsFrom_ne x y.length 0 (Builtin.Str.occurrences x y 0 x.length (x.length + 1));rw [e];simp
noncomputable def LL (H0 H:Hp) (p:Addr) (rows:List (List Str)):Prop:=∃ qs:List Addr,H p=some (.lst (qs.map V.ref))/\H0 p=none/\p ∉ qs/\qs.length=rows.length/\∀ (i:Nat) (q:Addr) (r:List Str),qs[i]? = some q->rows[i]? = some r->H q=some (.lst (qb r))/\H0 q=none
noncomputable def Zz:Sp:=fun vs H Q _=>∃ x,vs=[.str x]/\x.length <= 20000/\NoT H/\∀ p H',bc H H'->NoT H'->LL H H' p (re x)->Q (.ref p) H'
theorem Xo:nl.length=1:=by decide +kernel
theorem Bk:bk.length=1:=by decide +kernel
section
variable {P:Program} {w:World} {K:W.Frag} {mg:Str->Option Value} {base:Heap} {t:Adr}
theorem mF (T:Txt w K mg t):Ub P w K mg base CX0 1 t.Kv t.Su ["text"] Zz:=by
 refine T.xy.ok nG (fun vs H Q E h=>?_) (fun _ _ _ s H vs Q E hr h=>?_)
 ·obtain ⟨x,rfl,_⟩:=h;rfl
 obtain ⟨x,rfl,hz,nt,q⟩:=h;have hzz:∀ n:Nat,n <= 40000->n <= sizeLine:=fun n h=>Nat.le_trans h (by decide)
 refine ⟨_,(lb (Qb (Qd rfl (Dc (Se PySem.F.plainAttrs_str PySem.F.slot_str_split PySem.F.type_str_split Up (pv 0) (cb Jb fb))) (dc (sc:=pb my) rfl (by decide +kernel)) (N:=["row"]) (sel:=[none]) (Cc (M:=["text"]) (by decide +kernel)) (Blk.of (fun _ _ _ _=>(Cb (i:=0) (se (N:=["row"]) (by decide +kernel) rfl) rfl (Or.inl rfl))) (fun _ _ _ _=>⟨_,Fd,by walk_at "B"⟩) (fun _ _ _ _=>⟨_,(Se PySem.F.plainAttrs_str PySem.F.slot_str_split PySem.F.type_str_split Up (pv 0) (cb Jb fb)),by walk_at "B"⟩))))),?_⟩;walk_at "RD";have hy:1 <= nl.length:=by rw [Xo];exact Nat.le_refl _
 have hy2:1 <= bk.length:=by rw [Bk];exact Nat.le_refl _
 have hs:=Hk (x:=x) hy;have hs':(qb (Txt.split x nl)).length <= sizeLine:=by unfold qb;rw [length_map];exact hzz _ (by omega)
 refine ⟨by rw [Xo];decide,hzz _ (by omega),hzz _ (show (Txt.split x nl).length <= 40000 by omega),fun p hp=>⟨⟨_,SqL.of gb⟩,?_⟩⟩;refine jd.list_mk (xs:=qb (Txt.split x nl)) (fun v=>match v with | .str r=>.lst (qb (Txt.split r bk)) | _=>.lst []) (SqL.of gb) hs' (fun v=>by cases v <;> rfl) (fun i v H1 N hx sm nt1 hN=>?_) (fun qs H1 sm nt1 hl al p2 hp2=>?_)
 ·unfold qb at hx;rw [getElem?_map] at hx;cases hr:(Txt.split x nl)[i]? with
  | none=>rw [hr] at hx;cases hx
  | some r=>
   rw [hr] at hx;have e:=Option.some.inj hx;subst e;have hm:=FI hy (mem_of_getElem? hr);have hs2:=Hk (x:=r) hy2;walk_at "RD";exact ⟨Sub.name,by rw [Bk];decide,hzz _ (by omega),hzz _ (show (Txt.split r bk).length <= 40000 by omega),hN⟩
 ·have sm0:bc H H1:=(jb hp).trans sm;refine q _ _ (sm0.updN (sm0.free hp2)) ((nt1 (nt.upd)).upd) ⟨qs,gb,sm0.free hp2,fun hm=>?_,?_,fun i q' r h1 h2=>?_⟩
  ·obtain ⟨j,hj,e⟩:=List.getElem_of_mem hm;have hj2:j < (qb (Txt.split x nl)).length:=by omega
   have:=al j p2 _ (by rw [getElem?_eq_getElem hj,e]) (getElem?_eq_getElem hj2);rw [hp2] at this;cases this.1
  ·rw [hl];unfold re qb;rw [length_map,length_map]
  ·unfold re at h2;rw [getElem?_map] at h2;cases hr:(Txt.split x nl)[i]? with
   | none=>rw [hr] at h2;cases h2
   | some r0=>
    rw [hr] at h2;have e:=Option.some.inj h2;subst e;have z:=al i q' (.str r0) h1 (by unfold qb;rw [getElem?_map,hr];rfl);refine ⟨by rw [zb (Kb z.1 hp2)];exact z.1,?_⟩;have:=z.2;by_cases hq:q'=p
    ·rw [hq];exact hp
    ·rwa [zb hq] at this
end
end My
namespace My
open PySem L2
structure WD where
 k:Nat
 name:Str
 start:Int
 fin:Int
 off:Int
 near:Int
 least:Int
noncomputable def oe:Nat->Str
 | 0=>Str.ofString "car"
 | 1=>Str.ofString "foot"
 | _=>Str.ofString "tram"
noncomputable def Adr.cw (t:Adr):Nat->Addr
 | 0=>t.Hd
 | 1=>t.Zc
 | _=>t.ad
noncomputable def xt (d:WD):List (Str × V):=[(Str.ofString "kind",.str (oe d.k)),(Str.ofString "name",.str d.name),(Str.ofString "start",.int d.start),(Str.ofString "end",.int d.fin),(Str.ofString "off",.int d.off),(Str.ofString "near",.int d.near),(Str.ofString "least",.int d.least)]
noncomputable abbrev Ss:List Str:=[Str.ofString "kind",Str.ofString "name",Str.ofString "start",Str.ofString "end",Str.ofString "off",Str.ofString "near",Str.ofString "least"]
theorem Yt (d:WD):(xt d).map (·.1)=Ss:=rfl
noncomputable def Pe (t:Adr) (H:Hp) (p:Addr) (d:WD):Prop:=d.k < 3/\∃ dx,H p=some (.ins (t.cw d.k) dx (xt d))
theorem Pe.same {t:Adr} {H H':Hp} {p:Addr} {d:WD} (h:Pe t H p d) (s:bc H H'):Pe t H' p d:=⟨h.1,h.2.imp fun dx e=>s _ _ e⟩
noncomputable def isW (t:Adr) (C:Addr):Prop:=∃ k,k < 3/\C=t.cw k
noncomputable def Xm (d:WD):Int:=match d.k with | 0=>1 | 1=>0 | _=>2
noncomputable def Xu (d:WD):Int:=match d.k with | 0=>2 | 1=>d.off | _=>1
section
variable {w:World} {K:W.Frag} {mg:Str->Option Value} {t:Adr}
theorem Txt.clw (T:Txt w K mg t):∀ k,Cls K (t.cw k)
 | 0=>T.Dr
 | 1=>T.vo
 | _ + 2=>T.ao
theorem Txt.naw (T:Txt w K mg t) {f:Str} (hf:f ∈ Ss):∀ k,Xb K (t.cw k) f:=by
 intro k;simp only [Ss,mem_cons,not_mem_nil,or_false] at hf;rcases hf with rfl | rfl | rfl | rfl | rfl | rfl | rfl
 ·match k with
  | 0=>exact T.Dt
  | 1=>exact T.Fq
  | _ + 2=>exact T.Er
 ·match k with
  | 0=>exact T.Nt
  | 1=>exact T.uq
  | _ + 2=>exact T.Uq
 ·match k with
  | 0=>exact T.Xr
  | 1=>exact T.Pp
  | _ + 2=>exact T.Bp
 ·match k with
  | 0=>exact T.Hu
  | 1=>exact T.ut
  | _ + 2=>exact T.Zs
 ·match k with
  | 0=>exact T.Av
  | 1=>exact T.Js
  | _ + 2=>exact T.Ft
 ·match k with
  | 0=>exact T.Et
  | 1=>exact T.dr
  | _ + 2=>exact T.Ar
 ·match k with
  | 0=>exact T.lq
  | 1=>exact T.Jp
  | _ + 2=>exact T.Ap
theorem Txt.cw_inj (T:Txt w K mg t) {j k:Nat} (hj:j < 3) (hk:k < 3) (e:t.cw j=t.cw k):j=k:=by
 match j,k,hj,hk with
 | 0,0,_,_=>rfl
 | 0,1,_,_=>exact absurd e T.Ti
 | 0,2,_,_=>exact absurd e T.Vi
 | 1,0,_,_=>exact absurd e.symm T.Ti
 | 1,1,_,_=>rfl
 | 1,2,_,_=>exact absurd e T.Yh
 | 2,0,_,_=>exact absurd e.symm T.Vi
 | 2,1,_,_=>exact absurd e.symm T.Yh
 | 2,2,_,_=>rfl
 | j + 3,_,h,_=>omega
 | _,k + 3,_,h=>omega
theorem Pe.fld (T:Txt w K mg t) {H:Hp} {p:Addr} {d:WD} (h:Pe t H p d) {f:Str} {v:V} (i:Nat) (hi:Ss.findIdx? (· == f)=some i) (hv:(xt d)[i]? = some (f,v)):Nj K H p f v:=by
 obtain ⟨_,dx,e⟩:=h;have hm:f ∈ Ss:=by
  obtain ⟨hlt,h1,_⟩:=List.findIdx?_eq_some_iff_getElem.mp hi;have:Ss[i]=f:=by simpa using h1
  rw [<- this];exact getElem_mem hlt
 exact ⟨_,dx,_,e,T.clw _,T.naw hm _,Cd Ss i (Yt d) hi hv⟩
theorem Pe.f_kind (T:Txt w K mg t) {H:Hp} {p:Addr} {d:WD} (h:Pe t H p d):Nj K H p (Str.ofString "kind") (.str (oe d.k)):=h.fld T 0 (by decide +kernel) rfl
theorem Pe.f_name (T:Txt w K mg t) {H:Hp} {p:Addr} {d:WD} (h:Pe t H p d):Nj K H p (Str.ofString "name") (.str d.name):=h.fld T 1 (by decide +kernel) rfl
theorem Pe.f_start (T:Txt w K mg t) {H:Hp} {p:Addr} {d:WD} (h:Pe t H p d):Nj K H p (Str.ofString "start") (.int d.start):=h.fld T 2 (by decide +kernel) rfl
theorem Pe.f_end (T:Txt w K mg t) {H:Hp} {p:Addr} {d:WD} (h:Pe t H p d):Nj K H p (Str.ofString "end") (.int d.fin):=h.fld T 3 (by decide +kernel) rfl
theorem Pe.f_off (T:Txt w K mg t) {H:Hp} {p:Addr} {d:WD} (h:Pe t H p d):Nj K H p (Str.ofString "off") (.int d.off):=h.fld T 4 (by decide +kernel) rfl
theorem Pe.f_near (T:Txt w K mg t) {H:Hp} {p:Addr} {d:WD} (h:Pe t H p d):Nj K H p (Str.ofString "near") (.int d.near):=h.fld T 5 (by decide +kernel) rfl
theorem Pe.f_least (T:Txt w K mg t) {H:Hp} {p:Addr} {d:WD} (h:Pe t H p d):Nj K H p (Str.ofString "least") (.int d.least):=h.fld T 6 (by decide +kernel) rfl
end
noncomputable def Dv (t:Adr):Sp:=fun vs H Q _=>∃ (p dx:Addr) (d:WD),vs=[.ref p,.str (oe d.k),.str d.name,.int d.start,.int d.fin,.int d.off,.int d.near,.int d.least]/\d.k < 3/\H p=some (.ins (t.cw d.k) dx [])/\Q .non (upd H p (.ins (t.cw d.k) dx (xt d)))
noncomputable def Bl (t:Adr) (k:Nat):Sp:=fun vs H Q _=>∃ (p dx:Addr) (d:WD),vs=[.ref p,.str d.name,.int d.start,.int d.fin,.int d.off,.int d.near,.int d.least]/\d.k=k/\H p=some (.ins (t.cw d.k) dx [])/\Q .non (upd H p (.ins (t.cw d.k) dx (xt d)))
section
variable {P:Program} {w:World} {K:W.Frag} {mg:Str->Option Value} {base:Heap} {t:Adr}
theorem Sy (T:Txt w K mg t):Ub P w K mg base CX0 1 t.fg t.ph q20 (Dv t):=by
 refine T.Wt.ok Sq (fun vs H Q E h=>?_) (fun _ _ _ s H vs Q E hr h=>?_)
 ·obtain ⟨p,dx,d,rfl,_⟩:=h;rfl
 obtain ⟨p,dx,d,rfl,hk,hp,q⟩:=h;refine ⟨_,(db (tf (pv 0) (pv 1) rfl)
   (db (tf (pv 0) (pv 2) rfl)
   (db (tf (pv 0) (pv 3) rfl)
   (db (tf (pv 0) (pv 4) rfl)
   (db (tf (pv 0) (pv 5) rfl)
   (db (tf (pv 0) (pv 6) rfl)
   (lb (tf (pv 0) (pv 7) rfl)))))))),?_⟩
 walk_at "RD";have na:∀ {f:Str},f ∈ Ss->Xb K (t.cw d.k) f:=fun hf=>T.naw hf d.k
 refine ⟨_,_,_,hp,T.clw _,na (by decide +kernel),by decide,?_⟩;refine ⟨_,_,_,gb,T.clw _,na (by decide +kernel),Sm (n:=999) (by decide),?_⟩;refine ⟨_,_,_,gb,T.clw _,na (by decide +kernel),Sm (n:=999) (Sm (n:=998) (by decide)),?_⟩;refine ⟨_,_,_,gb,T.clw _,na (by decide +kernel),Sm (n:=999) (Sm (n:=998) (Sm (n:=997) (by decide))),?_⟩;refine ⟨_,_,_,gb,T.clw _,na (by decide +kernel),Sm (n:=999) (Sm (n:=998) (Sm (n:=997) (Sm (n:=996) (by decide)))),?_⟩;refine ⟨_,_,_,gb,T.clw _,na (by decide +kernel),Sm (n:=999) (Sm (n:=998) (Sm (n:=997) (Sm (n:=996) (Sm (n:=995) (by decide))))),?_⟩;refine ⟨_,_,_,gb,T.clw _,na (by decide +kernel),Sm (n:=999) (Sm (n:=998) (Sm (n:=997) (Sm (n:=996) (Sm (n:=995) (Sm (n:=994) (by decide)))))),?_⟩;simp only [Vk];rw [show qh (Str.ofString "kind") (V.str (oe d.k)) ([]:List (Str × V))=[(Str.ofString "kind",V.str (oe d.k))] from ud [] rfl (by decide +kernel),
  show qh (Str.ofString "name") (V.str d.name) ([(Str.ofString "kind",V.str (oe d.k))]:List (Str × V))=[(Str.ofString "kind",V.str (oe d.k)),(Str.ofString "name",V.str d.name)] from ud [Str.ofString "kind"] rfl (by decide +kernel),
  show qh (Str.ofString "start") (V.int d.start) ([(Str.ofString "kind",V.str (oe d.k)),(Str.ofString "name",V.str d.name)]:List (Str × V))=[(Str.ofString "kind",V.str (oe d.k)),(Str.ofString "name",V.str d.name),(Str.ofString "start",V.int d.start)] from ud [Str.ofString "kind",Str.ofString "name"] rfl (by decide +kernel),
  show qh (Str.ofString "end") (V.int d.fin) ([(Str.ofString "kind",V.str (oe d.k)),(Str.ofString "name",V.str d.name),(Str.ofString "start",V.int d.start)]:List (Str × V))=[(Str.ofString "kind",V.str (oe d.k)),(Str.ofString "name",V.str d.name),(Str.ofString "start",V.int d.start),(Str.ofString "end",V.int d.fin)] from ud [Str.ofString "kind",Str.ofString "name",Str.ofString "start"] rfl (by decide +kernel),
  show qh (Str.ofString "off") (V.int d.off) ([(Str.ofString "kind",V.str (oe d.k)),(Str.ofString "name",V.str d.name),(Str.ofString "start",V.int d.start),(Str.ofString "end",V.int d.fin)]:List (Str × V))=[(Str.ofString "kind",V.str (oe d.k)),(Str.ofString "name",V.str d.name),(Str.ofString "start",V.int d.start),(Str.ofString "end",V.int d.fin),(Str.ofString "off",V.int d.off)] from ud [Str.ofString "kind",Str.ofString "name",Str.ofString "start",Str.ofString "end"] rfl (by decide +kernel),
  show qh (Str.ofString "near") (V.int d.near) ([(Str.ofString "kind",V.str (oe d.k)),(Str.ofString "name",V.str d.name),(Str.ofString "start",V.int d.start),(Str.ofString "end",V.int d.fin),(Str.ofString "off",V.int d.off)]:List (Str × V))=[(Str.ofString "kind",V.str (oe d.k)),(Str.ofString "name",V.str d.name),(Str.ofString "start",V.int d.start),(Str.ofString "end",V.int d.fin),(Str.ofString "off",V.int d.off),(Str.ofString "near",V.int d.near)] from ud [Str.ofString "kind",Str.ofString "name",Str.ofString "start",Str.ofString "end",Str.ofString "off"] rfl (by decide +kernel),
  show qh (Str.ofString "least") (V.int d.least) ([(Str.ofString "kind",V.str (oe d.k)),(Str.ofString "name",V.str d.name),(Str.ofString "start",V.int d.start),(Str.ofString "end",V.int d.fin),(Str.ofString "off",V.int d.off),(Str.ofString "near",V.int d.near)]:List (Str × V))=[(Str.ofString "kind",V.str (oe d.k)),(Str.ofString "name",V.str d.name),(Str.ofString "start",V.int d.start),(Str.ofString "end",V.int d.fin),(Str.ofString "off",V.int d.off),(Str.ofString "near",V.int d.near),(Str.ofString "least",V.int d.least)] from ud [Str.ofString "kind",Str.ofString "name",Str.ofString "start",Str.ofString "end",Str.ofString "off",Str.ofString "near"] rfl (by decide +kernel)]
 exact q
theorem nK (T:Txt w K mg t):Ub P w K mg base CX0 2 t.Nf t.jh q10 (Bl t 0):=by
 have g12:Ub P w K mg base CX0 1 t.fg t.ph q20 (Dv t):=Sy T;refine T.Um.ok Pn (fun vs H Q E h=>?_) (fun _ _ _ s H vs Q E hr h=>?_)
 ·obtain ⟨p,dx,d,rfl,_⟩:=h;rfl
 obtain ⟨p,dx,d,rfl,hk,hp,q⟩:=h;refine ⟨_,(lb (nc (Ku rfl T.kK T.xo g12 hr T.Ho .nil Db (cb (pv 0) (cb Jb (cb (pv 1) (cb (pv 2) (cb (pv 3) (cb (pv 4) (cb (pv 5) (cb (pv 6) fb))))))))))),?_⟩;walk_at "RD";exact ⟨p,dx,d,by rw [hk];rfl,by omega,hp,q⟩
theorem zG (T:Txt w K mg t):Ub P w K mg base CX0 2 t.vf t.Bg q10 (Bl t 1):=by
 have g12:Ub P w K mg base CX0 1 t.fg t.ph q20 (Dv t):=Sy T;refine T.Vl.ok Am (fun vs H Q E h=>?_) (fun _ _ _ s H vs Q E hr h=>?_)
 ·obtain ⟨p,dx,d,rfl,_⟩:=h;rfl
 obtain ⟨p,dx,d,rfl,hk,hp,q⟩:=h;refine ⟨_,(lb (nc (Ku rfl T.kK T.xo g12 hr T.Ho .nil Db (cb (pv 0) (cb Jb (cb (pv 1) (cb (pv 2) (cb (pv 3) (cb (pv 4) (cb (pv 5) (cb (pv 6) fb))))))))))),?_⟩;walk_at "RD";exact ⟨p,dx,d,by rw [hk];rfl,by omega,hp,q⟩
theorem NG (T:Txt w K mg t):Ub P w K mg base CX0 2 t.rf t.Ag q10 (Bl t 2):=by
 have g12:Ub P w K mg base CX0 1 t.fg t.ph q20 (Dv t):=Sy T;refine T.am.ok zm (fun vs H Q E h=>?_) (fun _ _ _ s H vs Q E hr h=>?_)
 ·obtain ⟨p,dx,d,rfl,_⟩:=h;rfl
 obtain ⟨p,dx,d,rfl,hk,hp,q⟩:=h;refine ⟨_,(lb (nc (Ku rfl T.kK T.xo g12 hr T.Ho .nil Db (cb (pv 0) (cb Jb (cb (pv 1) (cb (pv 2) (cb (pv 3) (cb (pv 4) (cb (pv 5) (cb (pv 6) fb))))))))))),?_⟩;walk_at "RD";exact ⟨p,dx,d,by rw [hk];rfl,by omega,hp,q⟩
end
noncomputable def xl (t:Adr) (C:Addr):Sp:=fun vs H Q _=>∃ p d,vs=[.ref p]/\Pe t H p d/\C=t.cw d.k/\Q (.int (Xm d)) H
noncomputable def yn (t:Adr) (C:Addr):Sp:=fun vs H Q _=>∃ p d,vs=[.ref p]/\Pe t H p d/\C=t.cw d.k/\Q (.int (Xu d)) H
section
variable {P:Program} {w:World} {K:W.Frag} {mg:Str->Option Value} {base:Heap} {t:Adr}
theorem kr (T:Txt w K mg t):Ub P w K mg base CX0 1 t.rg t.Ei ["self"] (xl t (t.cw 0)):=by
 refine T.Ql.ok Oq (fun vs H Q E h=>?_) (fun _ _ _ s H vs Q E hr h=>?_)
 ·obtain ⟨p,d,rfl,_⟩:=h;rfl
 obtain ⟨p,d,rfl,W,hC,q⟩:=h;have hk:=(T.cw_inj (by decide) W.1 hC).symm;refine ⟨_,(lb (Qb ib)),?_⟩;rw [show Xm d=1 by unfold Xm;simp only [hk]] at q;walk_at "RD";exact q
theorem Fp (T:Txt w K mg t):Ub P w K mg base CX0 1 t.Wf t.Jh ["self"] (xl t (t.cw 1)):=by
 refine T.zl.ok Mp (fun vs H Q E h=>?_) (fun _ _ _ s H vs Q E hr h=>?_)
 ·obtain ⟨p,d,rfl,_⟩:=h;rfl
 obtain ⟨p,d,rfl,W,hC,q⟩:=h;have hk:=(T.cw_inj (by decide) W.1 hC).symm;refine ⟨_,(lb (Qb ib)),?_⟩;rw [show Xm d=0 by unfold Xm;simp only [hk]] at q;walk_at "RD";exact q
theorem Ep (T:Txt w K mg t):Ub P w K mg base CX0 1 t.Uf t.Ih ["self"] (xl t (t.cw 2)):=by
 refine T.uk.ok Cp (fun vs H Q E h=>?_) (fun _ _ _ s H vs Q E hr h=>?_)
 ·obtain ⟨p,d,rfl,_⟩:=h;rfl
 obtain ⟨p,d,rfl,W,hC,q⟩:=h;have hk:=(T.cw_inj (by decide) W.1 hC).symm;refine ⟨_,(lb (Qb ib)),?_⟩;rw [show Xm d=2 by unfold Xm;simp only [hk]] at q;walk_at "RD";exact q
theorem UI (T:Txt w K mg t):yK P w K mg base CX0 1 (isW t) "ready" ["self"] (xl t):=by
 refine ⟨fun C hC=>?_⟩;obtain ⟨k,hk,rfl⟩:=hC
 match k,hk with
 | 0,_=>exact ⟨_,_,T.Dr,T.Gs,kr T,T.Es⟩
 | 1,_=>exact ⟨_,_,T.vo,T.Qq,Fp T,T.zq⟩
 | 2,_=>exact ⟨_,_,T.ao,T.Jq,Ep T,T.vq⟩
theorem Ks (T:Txt w K mg t):Ub P w K mg base CX0 1 t.mh t.xj ["self"] (yn t (t.cw 0)):=by
 refine T.Wn.ok Fs (fun vs H Q E h=>?_) (fun _ _ _ s H vs Q E hr h=>?_)
 ·obtain ⟨p,d,rfl,_⟩:=h;rfl
 obtain ⟨p,d,rfl,W,hC,q⟩:=h;have hk:=(T.cw_inj (by decide) W.1 hC).symm;refine ⟨_,(lb (Qb ib)),?_⟩;rw [show Xu d=2 by unfold Xu;simp only [hk]] at q;walk_at "RD";exact q
theorem cr (T:Txt w K mg t):Ub P w K mg base CX0 1 t.zg t.Gi ["self"] (yn t (t.cw 1)):=by
 refine T.Pl.ok Tr (fun vs H Q E h=>?_) (fun _ _ _ s H vs Q E hr h=>?_)
 ·obtain ⟨p,d,rfl,_⟩:=h;rfl
 obtain ⟨p,d,rfl,W,hC,q⟩:=h;have hk:=(T.cw_inj (by decide) W.1 hC).symm;refine ⟨_,(lb (Qb (Tc (pv 0) rfl))),?_⟩;rw [show Xu d=d.off by unfold Xu;simp only [hk]] at q;walk_at "RD";exact ⟨_,W.f_off T,q⟩
theorem ur (T:Txt w K mg t):Ub P w K mg base CX0 1 t.xg t.Oi ["self"] (yn t (t.cw 2)):=by
 refine T.jm.ok Bs (fun vs H Q E h=>?_) (fun _ _ _ s H vs Q E hr h=>?_)
 ·obtain ⟨p,d,rfl,_⟩:=h;rfl
 obtain ⟨p,d,rfl,W,hC,q⟩:=h;have hk:=(T.cw_inj (by decide) W.1 hC).symm;refine ⟨_,(lb (Qb ib)),?_⟩;rw [show Xu d=1 by unfold Xu;simp only [hk]] at q;walk_at "RD";exact q
theorem vM (T:Txt w K mg t):yK P w K mg base CX0 1 (isW t) "fade" ["self"] (yn t):=by
 refine ⟨fun C hC=>?_⟩;obtain ⟨k,hk,rfl⟩:=hC
 match k,hk with
 | 0,_=>exact ⟨_,_,T.Dr,T.Yu,Ks T,T.uv⟩
 | 1,_=>exact ⟨_,_,T.vo,T.Is,cr T,T.Vs⟩
 | 2,_=>exact ⟨_,_,T.ao,T.Us,ur T,T.vt⟩
end
noncomputable def jl (c:Nat):List (List Nat)->List Nat
 | []=>[]
 | [a]=>a
 | a :: b :: r=>a ++ c :: jl c (b :: r)
theorem AD {c:Nat}:∀ {a b X Y:List Nat},c ∉ a->c ∉ b->a ++ c :: X=b ++ c :: Y->a=b/\X=Y
 | [],[],X,Y,_,_,h=>⟨rfl,(List.cons.inj h).2⟩
 | [],d :: b,X,Y,_,hb,h=>absurd (List.cons.inj h).1 (fun z=>hb (by simp [<- z]))
 | d :: a,[],X,Y,ha,_,h=>absurd (List.cons.inj h).1 (fun z=>ha (by simp [z]))
 | d :: a,e :: b,X,Y,ha,hb,h=>by
  obtain ⟨h1,h2⟩:=List.cons.inj h;obtain ⟨e1,e2⟩:=AD (fun z=>ha (mem_cons_of_mem _ z)) (fun z=>hb (mem_cons_of_mem _ z)) h2;exact ⟨by rw [h1,e1],e2⟩
theorem tI {c:Nat}:∀ {ps qs:List (List Nat)},(∀ p ∈ ps,c ∉ p)->(∀ q ∈ qs,c ∉ q)->ps ≠ []->qs ≠ []->jl c ps=jl c qs->ps=qs
 | [a],[b],_,_,_,_,h=>by rw [show a=b from h]
 | [a],b :: b' :: r,ha,_,_,_,h=>absurd (show c ∈ a by rw [show a=b ++ c :: jl c (b' :: r) from h];simp) (ha a (by simp))
 | a :: a' :: r,[b],_,hb,_,_,h=>absurd (show c ∈ b by rw [show b=a ++ c :: jl c (a' :: r) from h.symm];simp) (hb b (by simp))
 | a :: a' :: r,b :: b' :: s,ha,hb,_,_,h=>by
  obtain ⟨e1,e2⟩:=AD (ha a (by simp)) (hb b (by simp)) (show a ++ c :: jl c (a' :: r)=b ++ c :: jl c (b' :: s) from h);rw [e1,tI (fun p hp=>ha p (mem_cons_of_mem _ hp)) (fun q hq=>hb q (mem_cons_of_mem _ hq)) (by simp) (by simp) e2]
 | [],_,_,_,h,_,_=>absurd rfl h
 | _ :: _,[],_,_,_,h,_=>absurd rfl h
theorem Gz {c d:Nat}:∀ {ps:List (List Nat)},d ∈ jl c ps->d=c\/∃ p ∈ ps,d ∈ p
 | [],h=>nomatch h
 | [a],h=>.inr ⟨a,by simp,h⟩
 | a :: b :: r,h=>by
  rcases List.mem_append.mp (show d ∈ a ++ c :: jl c (b :: r) from h) with h | h
  ·exact .inr ⟨a,by simp,h⟩
  ·rcases List.mem_cons.mp h with h | h
   ·exact .inl h
   ·rcases Gz h with h | ⟨p,hp,h⟩
    ·exact .inl h
    ·exact .inr ⟨p,mem_cons_of_mem _ hp,h⟩
theorem Ni (c:Nat):∀ ys:List Str,(Str.join ⟨#[c]⟩ ys).cps.toList=jl c (ys.map (·.cps.toList))
 | []=>rfl
 | [a]=>rfl
 | a :: b :: r=>by
  show (a ++ ⟨#[c]⟩ ++ Str.join ⟨#[c]⟩ (b :: r)).cps.toList=_;rw [Str.cps_append,Array.toList_append,Str.cps_append,Array.toList_append,Ni c (b :: r)];simp [jl]
theorem wv {x y:Str} (h:x.cps.toList=y.cps.toList):x=y:=by
 cases x;cases y;exact congrArg Str.mk (Array.toList_inj.mp h)
theorem vh {c:Nat} {ys:List Str} (hn:ys ≠ []) (hf:∀ y ∈ ys,c ∉ y.cps.toList):Txt.split (Str.join ⟨#[c]⟩ ys) ⟨#[c]⟩=ys:=by
 have e:=congrArg (·.cps.toList) (StrLaws.join_split (Str.join ⟨#[c]⟩ ys) ⟨#[c]⟩);simp only [Ni] at e;have e2:=tI (c:=c) (ps:=(Txt.split (Str.join ⟨#[c]⟩ ys) ⟨#[c]⟩).map (·.cps.toList)) (qs:=ys.map (·.cps.toList)) (fun p hp=>by
  obtain ⟨y,hy,rfl⟩:=List.mem_map.mp hp;exact StrLaws.split_free _ c y hy) (fun p hp=>by
  obtain ⟨y,hy,rfl⟩:=List.mem_map.mp hp;exact hf y hy) (by simp [aH]) (by simpa using hn) e
 exact (List.map_inj_right fun x y h=>wv h).mp e2
noncomputable abbrev num (v:Int):Str:=Str.ofString (toString v)
theorem uJ:∀ n,n < 1000->(decide (1 <= ((Nat.toDigits 10 n).map Char.toNat).length) && decide (((Nat.toDigits 10 n).map Char.toNat).length <= 3) && ((Nat.toDigits 10 n).map Char.toNat).all Lp && (decide (((Nat.toDigits 10 n).map Char.toNat).length <= 1) || decide (((Nat.toDigits 10 n).map Char.toNat).headD 0 ≠ 48)) &&
  decide (NumText.digitsVal ((Nat.toDigits 10 n).map Char.toNat)=n))=true:=by decide +kernel
theorem Rz {v:Int} (h0:0 <= v) (h1:v < 1000):okB (num v)=true/\val (num v)=v:=by
 have e:=PySem.W.KIN.signs_num v.toNat;rw [Int.toNat_of_nonneg h0] at e;have a:=uJ v.toNat (by omega);rw [<- e,Bool.and_eq_true,decide_eq_true_eq] at a;exact ⟨a.1,by show ((NumText.digitsVal (cs (num v)):Nat):Int)=v;rw [a.2];omega⟩
theorem Wg {v lo hi:Int} (h0:0 <= v) (h1:v < 1000) (hl:lo <= v) (hh:v <= hi):Cu (num v) lo hi=.int v:=by
 obtain ⟨a,b⟩:=Rz h0 h1;unfold Cu;rw [a,b,decide_eq_false (by omega:¬ v < lo),decide_eq_false (by omega:¬ hi < v)];rfl
theorem lJ {u v:Int} (h0:0 <= u) (h1:u < 1000) (h2:0 <= v) (h3:v < 1000) (e:num u=num v):u=v:=by
 rw [<- (Rz h0 h1).2,e,(Rz h2 h3).2]
theorem vz {v:Int} (h0:0 <= v) (h1:v < 1000):∀ c ∈ (num v).cps.toList,48 <= c/\c <= 57:=fun c hc=>by
 have:=List.all_eq_true.mp (sM (Rz h0 h1).1).2 c hc;simpa [Lp] using this
theorem gM:∀ c ∈ Dh.cps.toList,97 <= c/\c <= 122:=by decide +kernel
theorem eM:∀ k,k < 26->97 + k ∈ Dh.cps.toList:=by decide +kernel
theorem Mc {x:Str} (h:made x Dh 8=true):(1 <= x.length/\x.length <= 8)/\∀ c ∈ x.cps.toList,97 <= c/\c <= 122:=by
 unfold made at h;split at h
 ·cases h
 ·rename_i h1;split at h
  ·cases h
  ·rename_i h2;have h3:¬ x.length=0:=fun z=>h1 (PM.mpr z)
   refine ⟨by omega,fun c hc=>?_⟩;have:=List.all_eq_true.mp h c hc;rw [Iy] at this;exact gM c (of_decide_eq_true this)
theorem Zv {x:Str} (h0:1 <= x.length) (h1:x.length <= 8) (h:∀ c ∈ x.cps.toList,97 <= c/\c <= 122):made x Dh 8=true:=by
 unfold made;rw [if_neg (fun z=>by have:=PM.mp z;omega),if_neg (by omega)];refine List.all_eq_true.mpr fun c hc=>?_
 have:=h c hc;rw [Iy];have e:=eM (c - 97) (by omega);rw [show 97 + (c - 97)=c by omega] at e;exact decide_eq_true e
structure WOk (n:Int) (d:WD):Prop where
 k:d.k < 3
 nm:made d.name Dh 8=true
 st:0 <= d.start/\d.start < n
 fi:0 <= d.fin/\d.fin < n
 ne:d.start ≠ d.fin
 of:0 <= d.off/\d.off <= 30
 nr:0 <= d.near/\d.near <= 30
 le:1 <= d.least/\d.least <= 60
structure COk (n:Int) (ds:List WD):Prop where
 nn:2 <= n/\n <= 99
 ln:1 <= ds.length/\ds.length <= 12
 al:∀ d ∈ ds,WOk n d
 nd:(ds.map (·.name)).Nodup
noncomputable def qk (d:WD):List Str:=[oe d.k,d.name,num d.start,num d.fin,num d.off,num d.near,num d.least]
noncomputable def Di (n:Int) (ds:List WD):List (List Str):=[Str.ofString "ring",num n] :: ds.map qk
noncomputable def vv (n:Int) (ds:List WD):Str:=Str.join nl ((Di n ds).map (Str.join bk))
noncomputable def ir (x:Str):Prop:=x.length <= 8/\(32:Nat) ∉ x.cps.toList/\(10:Nat) ∉ x.cps.toList
theorem Tt (k:Nat):ir (oe k):=by
 match k with
 | 0=>exact ⟨by decide +kernel,by decide +kernel,by decide +kernel⟩
 | 1=>exact ⟨by decide +kernel,by decide +kernel,by decide +kernel⟩
 | _ + 2=>exact ⟨show (Str.ofString "tram").length <= 8 by decide +kernel,show (32:Nat) ∉ (Str.ofString "tram").cps.toList by decide +kernel,show (10:Nat) ∉ (Str.ofString "tram").cps.toList by decide +kernel⟩
theorem ae {v:Int} (h0:0 <= v) (h1:v < 1000):ir (num v):=
 ⟨Nat.le_trans (xm h0 (by omega)) (by decide),fun z=>by have:=vz h0 h1 _ z;omega,fun z=>by have:=vz h0 h1 _ z;omega⟩
theorem Si {x:Str} (h:made x Dh 8=true):ir x:=
 ⟨(Mc h).1.2,fun z=>by have:=(Mc h).2 _ z;omega,fun z=>by have:=(Mc h).2 _ z;omega⟩
theorem WOk.plain {n:Int} {d:WD} (h:WOk n d) (hn:n <= 99):∀ x ∈ qk d,ir x:=fun x hx=>by
 have h1:=h.st;have h2:=h.fi;have h3:=h.of;have h4:=h.nr;have h5:=h.le;simp only [qk,mem_cons,not_mem_nil,or_false] at hx;rcases hx with rfl | rfl | rfl | rfl | rfl | rfl | rfl
 ·exact Tt _
 ·exact Si h.nm
 ·exact ae (by omega) (by omega)
 ·exact ae (by omega) (by omega)
 ·exact ae (by omega) (by omega)
 ·exact ae (by omega) (by omega)
 ·exact ae (by omega) (by omega)
theorem COk.plain {n:Int} {ds:List WD} (h:COk n ds):∀ r ∈ Di n ds,∀ x ∈ r,ir x:=fun r hr x hx=>by
 have hn:=h.nn;rcases List.mem_cons.mp hr with rfl | hr
 ·simp only [mem_cons,not_mem_nil,or_false] at hx;rcases hx with rfl | rfl
  ·exact ⟨by decide +kernel,by decide +kernel,by decide +kernel⟩
  ·exact ae (by omega) (by omega)
 ·obtain ⟨d,hd,rfl⟩:=List.mem_map.mp hr;exact (h.al d hd).plain hn.2 x hx
theorem Iw {rs:List (List Str)} (h0:rs ≠ []) (h1:∀ r ∈ rs,r ≠ []) (h2:∀ r ∈ rs,∀ x ∈ r,ir x):re (Str.join nl (rs.map (Str.join bk)))=rs:=by
 unfold re;rw [JJ,AB];rw [vh (by simpa using h0) (fun y hy=>by
  obtain ⟨r,hr,rfl⟩:=List.mem_map.mp hy;rw [Ni];intro z;rcases Gz z with z | ⟨p,hp,z⟩
  ·cases z
  ·obtain ⟨x,hx,rfl⟩:=List.mem_map.mp hp;exact (h2 r hr x hx).2.2 z)]
 rw [map_map];have:∀ r ∈ rs,((fun r=>Txt.split r ⟨#[32]⟩) ∘ Str.join ⟨#[32]⟩) r=r:=fun r hr=>vh (h1 r hr) fun x hx=>(h2 r hr x hx).2.1
 exact (List.map_congr_left this).trans (List.map_id rs)
theorem kB {n:Int} {ds:List WD} (h:COk n ds):re (vv n ds)=Di n ds:=Iw (by simp [Di]) (fun r hr=>by
 rcases List.mem_cons.mp hr with rfl | hr
 ·simp
 ·obtain ⟨d,hd,rfl⟩:=List.mem_map.mp hr;simp [qk]) h.plain
theorem Gh (sep:Str) (B:Nat):∀ ys:List Str,(∀ y ∈ ys,y.length <= B)->(Str.join sep ys).length <= ys.length * (B + sep.length)
 | [],_=>by show (Str.empty).length <= _;exact Nat.zero_le _
 | [a],h=>by
  have:=h a (by simp);show a.length <= _;simp only [length_cons,length_nil];omega
 | a :: b :: r,h=>by
  have h1:=h a (by simp);have h2:=Gh sep B (b :: r) fun y hy=>h y (mem_cons_of_mem _ hy)
  show (a ++ sep ++ Str.join sep (b :: r)).length <= _;rw [Ug,Ug,length_cons,Nat.succ_mul];omega
theorem SE {n:Int} {ds:List WD} (h:COk n ds):(vv n ds).length <= 1000:=by
 have h1:∀ y ∈ (Di n ds).map (Str.join bk),y.length <= 63:=fun y hy=>by
  obtain ⟨r,hr,rfl⟩:=List.mem_map.mp hy;have:=Gh bk 8 r fun x hx=>(h.plain r hr x hx).1
  rw [Bk] at this;have hl:r.length <= 7:=by
   rcases List.mem_cons.mp hr with rfl | hr
   ·simp
   ·obtain ⟨d,hd,rfl⟩:=List.mem_map.mp hr;simp [qk]
  omega
 have h2:=Gh nl 63 _ h1;rw [Xo] at h2;have h3:((Di n ds).map (Str.join bk)).length <= 13:=by
  have:=h.ln;simp [Di];omega
 unfold vv;omega
end My
namespace My
open PySem L2
noncomputable abbrev Ct:List Str:=[Str.ofString "row",Str.ofString "told",Str.ofString "place"]
noncomputable def rdF (row:Int) (ta:Addr) (pl:Int):List (Str × V):=[(Str.ofString "row",.int row),(Str.ofString "told",.ref ta),(Str.ofString "place",.int pl)]
theorem Th (row:Int) (ta:Addr) (pl:Int):(rdF row ta pl).map (·.1)=Ct:=rfl
theorem KC (row:Int) (ta:Addr) (pl v:Int):qh (Str.ofString "place") (.int v) (rdF row ta pl)=rdF row ta v:=by
 unfold rdF;simp only [qh];rw [if_neg (by decide +kernel),if_neg (by decide +kernel)];rfl
noncomputable def Ye (t:Adr) (H:Hp) (p:Addr) (row:Int) (ws:List Str) (pl:Nat):Prop:=
 (ws.length <= 1000/\∀ x ∈ ws,x.length <= 1000)/\∃ dx ta,H p=some (.ins t.Nb dx (rdF row ta pl))/\H ta=some (.lst (qb ws))
noncomputable def Vc (p:Addr) (H H':Hp):Prop:=∀ b u,b ≠ p->H b=some u->H' b=some u
theorem Vc.trans {p:Addr} {H H1 H2:Hp} (a:Vc p H H1) (b:Vc p H1 H2):Vc p H H2:=fun c u n e=>b c u n (a c u n e)
theorem Vc.of {p:Addr} {H H1:Hp} (a:bc H H1):Vc p H H1:=fun c u _ e=>a c u e
theorem Vc.put {p:Addr} {H:Hp} {o:HO}:Vc p H (upd H p o):=fun c u n e=>by rw [zb n];exact e
theorem yb (ws:List Str):(qb ws).length=ws.length:=by unfold qb;rw [length_map]
theorem ke {ws:List Str} {i:Nat} {x:Str} (h:ws[i]? = some x):(qb ws)[i]? = some (.str x):=by unfold qb;rw [getElem?_map,h];rfl
theorem jg (ws:List Str):(qb ws).all sk=true:=by unfold qb;simp [sk]
theorem Kj (x:Str) (xs:List Str):inV (.str x) (qb xs)=decide (x ∈ xs):=by
 unfold inV qb;rw [List.any_map,Bool.eq_iff_iff];simp only [List.any_eq_true,Function.comp,eqV,beq_iff_eq,decide_eq_true_eq];constructor
 ·rintro ⟨y,hy,rfl⟩;exact hy
 ·intro h;exact ⟨x,h,rfl⟩
section
variable {w:World} {K:W.Frag} {mg:Str->Option Value} {t:Adr} {H H':Hp} {p:Addr} {row:Int} {ws:List Str} {pl:Nat}
theorem Ye.same (h:Ye t H p row ws pl) (s:bc H H'):Ye t H' p row ws pl:=by
 obtain ⟨hz,dx,ta,e1,e2⟩:=h;exact ⟨hz,dx,ta,s _ _ e1,s _ _ e2⟩
theorem Ye.sameX {q:Addr} (h:Ye t H p row ws pl) (s:Vc q H H') (n:p ≠ q) (k:∃ C dx fs,H q=some (.ins C dx fs)):Ye t H' p row ws pl:=by
 obtain ⟨hz,dx,ta,e1,e2⟩:=h;obtain ⟨C,dq,fs,e3⟩:=k;exact ⟨hz,dx,ta,s _ _ n e1,s _ _ (af e2 e3 (by intro z;cases z)) e2⟩
theorem Ye.ins (h:Ye t H p row ws pl):∃ C dx fs,H p=some (.ins C dx fs):=by
 obtain ⟨hz,dx,ta,e1,e2⟩:=h;exact ⟨_,_,_,e1⟩
theorem Ye.no {m:Str} (row:Int) (ta:Addr) (pl:Int) (h:Ct.contains m=false):(rdF row ta pl).lookup m=none:=Kn Ct (Th ..) h
theorem Xp (T:Txt w K mg t) {dx ta:Addr} {pl:Int} (e:H p=some (.ins t.Nb dx (rdF row ta pl))):Nj K H p (Str.ofString "place") (.int pl):=
 ⟨_,dx,_,e,T.Bb,T.Me,Cd Ct 2 (Th ..) (by decide +kernel) rfl⟩
theorem ay (T:Txt w K mg t) {dx ta:Addr} {pl:Int} (e:H p=some (.ins t.Nb dx (rdF row ta pl))):Nj K H p (Str.ofString "told") (.ref ta):=
 ⟨_,dx,_,e,T.Bb,T.ij,Cd Ct 1 (Th ..) (by decide +kernel) rfl⟩
end
noncomputable def oI (t:Adr):Sp:=fun vs H Q _=>∃ (p dx ta:Addr) (row:Int),vs=[.ref p,.int row,.ref ta]/\H p=some (.ins t.Nb dx [])/\Q .non (upd H p (.ins t.Nb dx (rdF row ta 0)))
noncomputable def Fj (t:Adr):Sp:=fun vs H Q _=>∃ p row ws pl,vs=[.ref p]/\Ye t H p row ws pl/\pl <= ws.length/\Q (.str (ws.getD pl (Str.ofString ""))) H
noncomputable def ny (t:Adr):Sp:=fun vs H Q _=>∃ p row ws pl,vs=[.ref p]/\Ye t H p row ws pl/\Q (.bl (decide (pl < ws.length))) H
noncomputable def MK (t:Adr) (H:Hp) (p:Addr) (row:Int) (ws:List Str) (pl:Nat) (R:Hp->Prop):Prop:=∀ H',Vc p H H'->(NoT H->NoT H')->Ye t H' p row ws pl->R H'
noncomputable def yv (t:Adr):Sp:=fun vs H Q _=>∃ p row ws pl,vs=[.ref p,.bl true]/\Ye t H p row ws pl/\MK t H p row ws (pl + 1) (Q .non)
noncomputable def gv (K:W.Frag) (t:Adr):Sp:=fun vs H Q _=>∃ p row ws pl x c xs,vs=[.ref p,.ref c]/\Ye t H p row ws pl/\ws[pl]? = some x/\SqL K H c (qb xs)/\x ∈ xs/\MK t H p row ws (pl + 1) (Q (.str x))
noncomputable def Tu (t:Adr):Sp:=fun vs H Q _=>∃ p row ws pl x lo hi v,vs=[.ref p,.int lo,.int hi]/\Ye t H p row ws pl/\ws[pl]? = some x/\Cu x lo hi=.int v/\NoT H/\MK t H p row ws (pl + 1) (Q (.int v))
noncomputable def rE (t:Adr):Sp:=fun vs H Q _=>∃ p row ws pl,vs=[.ref p]/\Ye t H p row ws pl/\pl=ws.length/\Q .non H
section
variable {P:Program} {w:World} {K:W.Frag} {mg:Str->Option Value} {base:Heap} {t:Adr}
theorem VL (T:Txt w K mg t):Ub P w K mg base CX0 1 t.He t.wf q31 (oI t):=by
 refine T.Yj.ok Pk (fun vs H Q E h=>?_) (fun _ _ _ s H vs Q E hr h=>?_)
 ·obtain ⟨p,dx,ta,row,rfl,_⟩:=h;rfl
 obtain ⟨p,dx,ta,row,rfl,hp,q⟩:=h;refine ⟨_,(db (tf (pv 0) (pv 1) rfl)
   (db (tf (pv 0) (pv 2) rfl)
   (lb (tf (pv 0) ib rfl)))),?_⟩
 walk_at "RD";refine ⟨_,_,_,hp,T.Bb,T.Zj,by decide,?_⟩;refine ⟨_,_,_,gb,T.Bb,T.ij,Sm (n:=999) (by decide),?_⟩;refine ⟨_,_,_,gb,T.Bb,T.Me,Sm (n:=999) (Sm (n:=998) (by decide)),?_⟩;simp only [Vk];rw [show qh (Str.ofString "row") (V.int row) ([]:List (Str × V))=[(Str.ofString "row",V.int row)] from ud [] rfl (by decide +kernel),
  show qh (Str.ofString "told") (V.ref ta) ([(Str.ofString "row",V.int row)]:List (Str × V))=[(Str.ofString "row",V.int row),(Str.ofString "told",V.ref ta)] from ud [Str.ofString "row"] rfl (by decide +kernel),
  show qh (Str.ofString "place") (V.int 0) ([(Str.ofString "row",V.int row),(Str.ofString "told",V.ref ta)]:List (Str × V))=[(Str.ofString "row",V.int row),(Str.ofString "told",V.ref ta),(Str.ofString "place",V.int 0)] from ud [Str.ofString "row",Str.ofString "told"] rfl (by decide +kernel)]
 exact q
theorem Cl (T:Txt w K mg t):Ub P w K mg base CX0 1 t.yc t.Lc ["self"] (Fj t):=by
 refine T.gj.ok Cn (fun vs H Q E h=>?_) (fun _ _ _ s H vs Q E hr h=>?_)
 ·obtain ⟨p,row,ws,pl,rfl,_⟩:=h;rfl
 obtain ⟨p,row,ws,pl,rfl,⟨hz,dx,ta,e1,e2⟩,hle,q⟩:=h;refine ⟨_,(db (Gd (Ob ve (Tc (pv 0) rfl) (Vb Ib rfl T.Bf Rb (cb (Tc (pv 0) rfl) fb)) (Sb _)) (lb (Qb Jb)) fc)
   (lb (Qb (ic Yb (Tc (pv 0) rfl) (Tc (pv 0) rfl) (fun _ _=>rfl))))),?_⟩
 walk_at "RD";refine ac (decide ((pl:Int)=(ws.length:Int))) (fun Q hQ=>?_) (fun c=>?_) (fun c=>?_)
 ·walk_at "RD";refine ⟨_,Xp T e1,_,ay T e1,_,rfl,_,.inl (SqL.of e2),rfl,?_⟩;rw [yb];walk_at "RD";exact hQ
 ·walk_at "RD";have c':pl=ws.length:=by have:=of_decide_eq_true c;omega
  rw [show ws.getD pl (Str.ofString "")=Str.ofString "" by rw [getD_eq_getElem?_getD,List.getElem?_eq_none (by omega)];rfl] at q;exact q
 ·walk_at "RD";have c':pl < ws.length:=by have:=of_decide_eq_false c;omega
  have hx:ws[pl]? = some ws[pl]:=getElem?_eq_getElem c';rw [getD_eq_getElem?_getD,hx] at q;exact ⟨_,ay T e1,_,Xp T e1,_,rfl,_,_,rfl,SqL.of e2,_,Eb (ke hx),q⟩
theorem wD (T:Txt w K mg t):Ub P w K mg base CX0 1 t.gd t.Bd ["self"] (ny t):=by
 refine T.ah.ok Dk (fun vs H Q E h=>?_) (fun _ _ _ s H vs Q E hr h=>?_)
 ·obtain ⟨p,row,ws,pl,rfl,_⟩:=h;rfl
 obtain ⟨p,row,ws,pl,rfl,⟨hz,dx,ta,e1,e2⟩,q⟩:=h;refine ⟨_,(lb (Qb (Dd Iu (Tc (pv 0) rfl) (Vb Ib rfl T.Bf Rb (cb (Tc (pv 0) rfl) fb)) (Sb _)))),?_⟩;walk_at "RD";have e:decide (pl < ws.length)=decide ((pl:Int) < (ws.length:Int)):=by rw [Bool.eq_iff_iff];simp
 rw [e] at q;refine ⟨_,Xp T e1,_,ay T e1,_,rfl,_,.inl (SqL.of e2),?_⟩;rw [yb];exact ⟨_,rfl,q⟩
theorem Vx (T:Txt w K mg t):Ub P w K mg base CX0 1 t.Jc t.Rc q13 (yv t):=by
 refine T.Tg.ok Zi (fun vs H Q E h=>?_) (fun _ _ _ s H vs Q E hr h=>?_)
 ·obtain ⟨p,row,ws,pl,rfl,_⟩:=h;rfl
 obtain ⟨p,row,ws,pl,rfl,⟨hz,dx,ta,e1,e2⟩,q⟩:=h;refine ⟨_,(db (Gd (uu (zi (pv 1))) (lb lh) fc)
   (lb (dw (pv 0) ib QH))),?_⟩
 walk_at "RD";refine ac false (fun Q hQ=>?_) (fun hc=>nomatch hc) (fun _=>?_)
 ·walk_at "RD";exact hQ
 ·walk_at "RD";refine ⟨_,_,_,e1,T.Bb,T.Me,_,Cd Ct 2 (Th ..) (by decide +kernel) rfl,_,rfl,_,_,e1,by rw [<- length_map (f:=(·.1)),Th];decide,?_⟩;rw [KC];exact q _ Vc.put (fun n=>n.upd) ⟨hz,dx,ta,gb,by rw [zb (af e2 e1 (by intro z;cases z))];exact e2⟩
theorem Iz (T:Txt w K mg t):Ub P w K mg base CX0 2 t.Bc t.Nc q16 (gv K t):=by
 have g10:Ub P w K mg base CX0 1 t.yc t.Lc ["self"] (Fj t):=Cl T;have g13:Ub P w K mg base CX0 1 t.Jc t.Rc q13 (yv t):=Vx T;refine T.Sf.ok Ce (fun vs H Q E h=>?_) (fun _ _ _ s H vs Q E hr h=>?_)
 ·obtain ⟨p,row,ws,pl,x,c,xs,rfl,_⟩:=h;rfl
 obtain ⟨p,row,ws,pl,x,c,xs,rfl,R,hx,hc,hm,q⟩:=h;refine ⟨_,(db (Fb (i:=2) Ce.nd rfl (Or.inl rfl) (Be (pv 0) T.Bb T.Ld g10 hr T.Kd .nil Db))
   (db (nc (qd (pv 0) T.Bb T.Ee g13 hr T.Fe .nil Db (cb (Dd Vn (pv 2) (pv 1) (by with_unfolding_all rfl)) fb)))
   (lb (Qb (pv 2))))),?_⟩
 have hlt:pl < ws.length:=(List.getElem?_eq_some_iff.mp hx).1;have hg:ws.getD pl (Str.ofString "")=x:=by rw [getD_eq_getElem?_getD,hx];rfl
 obtain ⟨_,dx,ta,e1,e2⟩:=id R;walk_at "RD";refine ⟨_,_,e1,Ye.no _ _ _ (by decide +kernel),⟨p,row,ws,pl,rfl,R,by omega,?_⟩⟩;rw [hg];walk_at "RD";refine ⟨_,_,e1,Ye.no _ _ _ (by decide +kernel),_,.inl hc,rfl,jg xs,?_⟩;rw [Kj,decide_eq_true hm];refine ⟨p,row,ws,pl,rfl,R,fun H' s1 s2 s3=>?_⟩;walk_at "RD";exact q H' s1 s2 s3
theorem Qx (T:Txt w K mg t):Ub P w K mg base CX0 4 t.uc t.Hc q17 (Tu t):=by
 have g10:Ub P w K mg base CX0 3 t.yc t.Lc ["self"] (Fj t):=(Cl T).mono (by decide);have g13:Ub P w K mg base CX0 3 t.Jc t.Rc q13 (yv t):=(Vx T).mono (by decide);have g20:Ub P w K mg base CX0 3 t.ol t.nk q25 CC:=DH T;refine T.Af.ok ue (fun vs H Q E h=>?_) (fun _ _ _ s H vs Q E hr h=>?_)
 ·obtain ⟨p,row,ws,pl,x,lo,hi,v,rfl,_⟩:=h;rfl
 obtain ⟨p,row,ws,pl,x,lo,hi,v,rfl,R,hx,hv,nt,q⟩:=h;refine ⟨_,(db (Fb (i:=3) ue.nd rfl (Or.inl rfl) (vb g20 hr rfl T.Bw T.Sn.kp T.Jw .nil Db (cb (Be (pv 0) T.Bb T.Ld g10 hr T.Kd .nil Db) (cb (pv 1) (cb (pv 2) fb)))))
   (db (nc (qd (pv 0) T.Bb T.Ee g13 hr T.Fe .nil Db (cb (Dd MC (pv 3) Oz (Sb _)) fb)))
   (lb (Qb (pv 3))))),?_⟩
 have hlt:pl < ws.length:=(List.getElem?_eq_some_iff.mp hx).1;have hg:ws.getD pl (Str.ofString "")=x:=by rw [getD_eq_getElem?_getD,hx];rfl
 obtain ⟨hz,dx,ta,e1,e2⟩:=id R;walk_at "RD";refine ⟨_,_,e1,Ye.no _ _ _ (by decide +kernel),⟨p,row,ws,pl,rfl,R,by omega,?_⟩⟩;rw [hg];walk_at "RD";refine ⟨x,lo,hi,rfl,hz.2 x (mem_of_getElem? hx),nt,?_⟩;rw [hv];walk_at "RD";refine ⟨_,_,e1,Ye.no _ _ _ (by decide +kernel),?_⟩;refine ⟨p,row,ws,pl,rfl,R,fun H' s1 s2 s3=>?_⟩;walk_at "RD";exact q H' s1 s2 s3
theorem ZH (T:Txt w K mg t):Ub P w K mg base CX0 2 t.zd t.je ["self"] (rE t):=by
 have g21:Ub P w K mg base CX0 1 t.gd t.Bd ["self"] (ny t):=wD T;refine T.ii.ok qm (fun vs H Q E h=>?_) (fun _ _ _ s H vs Q E hr h=>?_)
 ·obtain ⟨p,row,ws,pl,rfl,_⟩:=h;rfl
 obtain ⟨p,row,ws,pl,rfl,R,hl,q⟩:=h;obtain ⟨hz,dx,ta,e1,e2⟩:=id R;refine ⟨_,(lb (Gd (zi (Be (pv 0) T.Bb T.Yg g21 hr T.Xg .nil Db)) (lb lh) fc)),?_⟩;walk_at "RD";refine ac false (fun Q hQ=>?_) (fun hc=>nomatch hc) (fun _=>?_)
 ·walk_at "RD";refine ⟨_,_,e1,Ye.no _ _ _ (by decide +kernel),⟨p,row,ws,pl,rfl,R,?_⟩⟩;rw [decide_eq_false (by omega)];exact ⟨_,rfl,hQ⟩
 ·walk_at "RD";exact q
end
end My
namespace My
open PySem L2
noncomputable abbrev wd (ws:List Str) (k:Nat):Str:=ws.getD k (Str.ofString "")
theorem PL {ws:List Str} (h:∀ x ∈ ws,x.length <= 1000) (k:Nat):(wd ws k).length <= 1000:=by
 unfold wd;rw [getD_eq_getElem?_getD];cases e:ws[k]? with
 | none=>exact Nat.le_trans (show (Str.ofString "").length <= 0 by decide +kernel) (Nat.zero_le _)
 | some x=>exact h x (mem_of_getElem? e)
theorem vJ {ws:List Str} {k:Nat} (h:wd ws k ≠ Str.ofString ""):k < ws.length:=by
 refine Classical.byContradiction fun z=>h ?_
 unfold wd;rw [getD_eq_getElem?_getD,List.getElem?_eq_none (by omega)];rfl
theorem Eu (w:Str) (lo hi:Int):(∃ v,Cu w lo hi=.int v/\lo <= v/\v <= hi/\w ≠ Str.ofString "")\/Cu w lo hi=.non:=by
 unfold Cu;split
 ·rename_i h;rw [Bool.and_eq_true] at h;refine .inl ⟨val w,rfl,?_,?_,fun z=>?_⟩
  ·have:=h.2;simp at this;omega
  ·have:=h.2;simp at this;omega
  ·have h1:=h.1;rw [z] at h1;exact absurd h1 (by decide +kernel)
 ·exact .inr rfl
theorem sv {i:Int} (h:i.natAbs < 100000):i.natAbs.log2 < 1920:=by
 by_cases h0:i.natAbs=0
 ·rw [h0];decide
 ·exact (Nat.log2_lt h0).mpr (Nat.lt_trans h (by decide))
noncomputable def sw (t:Adr) (i:Int) (k:Nat) (p:Addr) (H:Hp) (E:XK):Prop:=∀ dx H',Vc p H H'->(NoT H->NoT H')->H' dx=some (.ext (XD dx [(Str.ofString "row",.int i),(Str.ofString "word",.int k)]))->E (.ref t.Ac) (some dx) H'
theorem sw.step {t:Adr} {i:Int} {k:Nat} {p:Addr} {H H1:Hp} {E:XK} (h:sw t i k p H E) (s:Vc p H H1) (n:NoT H->NoT H1):sw t i k p H1 E:=fun dx H' s' n' e=>h dx H' (s.trans s') (fun z=>n' (n z)) e
theorem YL {w:World} {K:W.Frag} {mg:Str->Option Value} {t:Adr} {H:Hp} {p:Addr} {row:Int} (T:Txt w K mg t) {dx ta:Addr} {pl:Int} (e:H p=some (.ins t.Nb dx (rdF row ta pl))):Nj K H p (Str.ofString "row") (.int row):=
 ⟨_,dx,_,e,T.Bb,T.Zj,Cd Ct 0 (Th ..) (by decide +kernel) rfl⟩
noncomputable def RH (t:Adr):Sp:=fun vs H Q _=>∃ x i j,vs=[.ref x,.int i,.int j]/\i.natAbs.log2 < 1920/\j.natAbs.log2 < 1920/\H x=some (.ext (XF x t.Ac none)) /\
 ∀ dx,H dx=none->dx ≠ x->Q .non (upd (upd H x (.ext (XF x t.Ac (some dx)))) dx (.ext (XD dx [(Str.ofString "row",.int i),(Str.ofString "word",.int j)])))
noncomputable def Fy (t:Adr):Sp:=fun vs H Q E=>∃ p row ws pl,vs=[.ref p]/\Ye t H p row ws pl/\(0 <= row/\row <= 10000)/\pl <= 10000/\sw t row pl p H E
noncomputable def Mu (t:Adr):Sp:=fun vs H Q E=>∃ p row ws pl g,vs=[.ref p,.bl g]/\Ye t H p row ws pl/\(0 <= row/\row <= 10000)/\pl <= 10000/\(g=true->MK t H p row ws (pl + 1) (Q .non))/\(g=false->sw t row pl p H E)
noncomputable def Yr (K:W.Frag) (t:Adr):Sp:=fun vs H Q E=>∃ p row ws pl c xs,vs=[.ref p,.ref c]/\Ye t H p row ws pl/\(0 <= row/\row <= 10000)/\pl <= ws.length/\SqL K H c (qb xs) /\
 (wd ws pl ∈ xs->MK t H p row ws (pl + 1) (Q (.str (wd ws pl))))/\(wd ws pl ∉ xs->sw t row pl p H E)
noncomputable def wz (t:Adr):Sp:=fun vs H Q E=>∃ p row ws pl lo hi,vs=[.ref p,.int lo,.int hi]/\Ye t H p row ws pl/\(0 <= row/\row <= 10000)/\pl <= ws.length/\NoT H /\
 (∀ v,Cu (wd ws pl) lo hi=.int v->MK t H p row ws (pl + 1) (Q (.int v)))/\(Cu (wd ws pl) lo hi=.non->sw t row pl p H E)
section
variable {P:Program} {w:World} {K:W.Frag} {mg:Str->Option Value} {base:Heap} {t:Adr}
theorem qM (T:Txt w K mg t):Ub P w K mg base CX0 1 t.Vf t.gh q30 (RH t):=by
 refine T.Fn.ok Xn (fun vs H Q E h=>?_) (fun _ _ _ s H vs Q E hr h=>?_)
 ·obtain ⟨x,i,j,rfl,_⟩:=h;rfl
 obtain ⟨x,i,j,rfl,hi,hj,hx,q⟩:=h;refine ⟨_,(db (nc (VF rfl T.Pq T.By (cb (pv 0) (cb (tD (yz (yH (pv 1) (yz (yH (pv 2) dL)))) (by rw [sizeLine_eq];decide)) fb))))
   (db (JG (pv 0) (pv 1) rfl)
   (lb (pG (pv 0) (pv 2) rfl)))),?_⟩
 walk_at "RD";refine ⟨hi,hj,fun y=>⟨_,_,hx,T.wj,?_⟩⟩;refine ⟨_,hx,T.wj,T.Lm,fun dx hd hne=>?_⟩;refine ⟨_,dx,by rw [zb (Ne.symm hne),gb],_,gb,T.wj,T.Nl,show 1 < 1000 by decide,?_⟩;rw [Vk,show qh (Str.ofString "word") (V.int j) ([(Str.ofString "row",V.int i)]:List (Str × V))=[(Str.ofString "row",V.int i),(Str.ofString "word",V.int j)] from ud [Str.ofString "row"] rfl (by decide +kernel)];exact q dx hd hne
theorem PB (T:Txt w K mg t):Ub P w K mg base (CX1 P w) 3 t.yd t.Xd ["self"] (Fy t):=by
 have g35:Ub P w K mg base CX0 1 t.Vf t.gh q30 (RH t):=qM T;refine T.Qh.okX ym (fun vs H Q E h=>?_) (fun _ _ _ s H vs Q E hr h=>?_)
 ·obtain ⟨p,row,ws,pl,rfl,_⟩:=h;rfl
 obtain ⟨p,row,ws,pl,rfl,⟨hz,dx,ta,e1,e2⟩,hrow,hpl,q⟩:=h;refine ⟨_,(lb (qF (OG T.Tv g35 hr rfl T.Yz T.mv (cb (Tc (pv 0) rfl) (cb (Tc (pv 0) rfl) fb))) FK)),?_⟩;walk_at "RD";refine ⟨_,YL T e1,_,Xp T e1,by decide,fun a ha=>⟨a,row,pl,rfl,sv (by omega),sv (by omega),gb,fun d hd hne=>?_⟩⟩;have hd0:H d=none:=by rw [zb hne] at hd;exact hd
 refine ⟨rfl,t.Ac,some d,by rw [zb (Ne.symm hne),gb],T.wj,q d _ (fun b u _ e=>?_) (fun nt=>(((nt.upd).upd).upd).upd) (by rw [zb hne,gb])⟩;rw [zb (Kb e ha),zb (Kb e hd0),zb (Kb e ha),zb (Kb e ha)];exact e
theorem Zy (T:Txt w K mg t):Ub P w K mg base (CX1 P w) 4 t.Jc t.Rc q13 (Mu t):=by
 have g22:Ub P w K mg base (CX1 P w) 3 t.yd t.Xd ["self"] (Fy t):=PB T;refine T.Tg.okX Zi (fun vs H Q E h=>?_) (fun _ _ _ s H vs Q E hr h=>?_)
 ·obtain ⟨p,row,ws,pl,g,rfl,_⟩:=h;rfl
 obtain ⟨p,row,ws,pl,g,rfl,R,hrow,hpl,q1,q2⟩:=h;obtain ⟨hz,dx,ta,e1,e2⟩:=id R;refine ⟨_,(db (Gd (uu (zi (pv 1))) (lb (nc (Be (pv 0) T.Bb T.yi g22 hr T.xi .nil zh))) fc)
   (lb (dw (pv 0) ib QH))),?_⟩
 walk_at "RD";refine ac (!g) (fun Q hQ=>?_) (fun c=>?_) (fun c=>?_)
 ·walk_at "RD";exact hQ
 ·walk_at "RD";have hg:g=false:=by simpa using c
  exact ⟨_,_,e1,Ye.no _ _ _ (by decide +kernel),⟨p,row,ws,pl,rfl,R,hrow,hpl,q2 hg⟩⟩
 ·walk_at "RD";have hg:g=true:=by simpa using c
  refine ⟨_,_,_,e1,T.Bb,T.Me,_,Cd Ct 2 (Th ..) (by decide +kernel) rfl,_,rfl,_,_,e1,by rw [<- length_map (f:=(·.1)),Th];decide,?_⟩;rw [KC];exact q1 hg _ Vc.put (fun n=>n.upd) ⟨hz,dx,ta,gb,by rw [zb (af e2 e1 (by intro z;cases z))];exact e2⟩
theorem mw (T:Txt w K mg t):Ub P w K mg base (CX1 P w) 5 t.Bc t.Nc q16 (Yr K t):=by
 have g10:Ub P w K mg base CX0 4 t.yc t.Lc ["self"] (Fj t):=(Cl T).mono (by decide);have g23:Ub P w K mg base (CX1 P w) 4 t.Jc t.Rc q13 (Mu t):=Zy T;refine T.Sf.okX Ce (fun vs H Q E h=>?_) (fun _ _ _ s H vs Q E hr h=>?_)
 ·obtain ⟨p,row,ws,pl,c,xs,rfl,_⟩:=h;rfl
 obtain ⟨p,row,ws,pl,c,xs,rfl,R,hrow,hpl,hc,q1,q2⟩:=h;refine ⟨_,(db (Fb (i:=2) Ce.nd rfl (Or.inl rfl) (Be (pv 0) T.Bb T.Ld g10 hr T.Kd .nil Db))
   (db (nc (qd (pv 0) T.Bb T.Ee g23 hr T.Fe .nil zh (cb (Dd Vn (pv 2) (pv 1) (by with_unfolding_all rfl)) fb)))
   (lb (Qb (pv 2))))),?_⟩
 obtain ⟨hz,dx,ta,e1,e2⟩:=id R;walk_at "RD";refine ⟨_,_,e1,Ye.no _ _ _ (by decide +kernel),⟨p,row,ws,pl,rfl,R,hpl,?_⟩⟩;walk_at "RD";refine ⟨_,_,e1,Ye.no _ _ _ (by decide +kernel),_,.inl hc,rfl,jg xs,?_⟩;rw [Kj];refine ⟨p,row,ws,pl,_,rfl,R,hrow,by omega,fun g H' s1 s2 s3=>?_,fun g=>q2 (of_decide_eq_false g)⟩;walk_at "RD";exact q1 (of_decide_eq_true g) H' s1 s2 s3
theorem fH (T:Txt w K mg t):Ub P w K mg base (CX1 P w) 5 t.uc t.Hc q17 (wz t):=by
 have g10:Ub P w K mg base CX0 4 t.yc t.Lc ["self"] (Fj t):=(Cl T).mono (by decide);have g23:Ub P w K mg base (CX1 P w) 4 t.Jc t.Rc q13 (Mu t):=Zy T;have g20:Ub P w K mg base CX0 4 t.ol t.nk q25 CC:=(DH T).mono (by decide);refine T.Af.okX ue (fun vs H Q E h=>?_) (fun _ _ _ s H vs Q E hr h=>?_)
 ·obtain ⟨p,row,ws,pl,lo,hi,rfl,_⟩:=h;rfl
 obtain ⟨p,row,ws,pl,lo,hi,rfl,R,hrow,hpl,nt,q1,q2⟩:=h;refine ⟨_,(db (Fb (i:=3) ue.nd rfl (Or.inl rfl) (vb g20 hr rfl T.Bw T.Sn.kp T.Jw .nil Db (cb (Be (pv 0) T.Bb T.Ld g10 hr T.Kd .nil Db) (cb (pv 1) (cb (pv 2) fb)))))
   (db (nc (qd (pv 0) T.Bb T.Ee g23 hr T.Fe .nil zh (cb (Dd MC (pv 3) Oz (Sb _)) fb)))
   (lb (Qb (pv 3))))),?_⟩
 obtain ⟨hz,dx,ta,e1,e2⟩:=id R;walk_at "RD";refine ⟨_,_,e1,Ye.no _ _ _ (by decide +kernel),⟨p,row,ws,pl,rfl,R,hpl,?_⟩⟩;walk_at "RD";refine ⟨_,lo,hi,rfl,PL hz.2 pl,nt,?_⟩;rcases Eu (wd ws pl) lo hi with ⟨v,hv,_⟩ | hv
 ·rw [hv];walk_at "RD";refine ⟨_,_,e1,Ye.no _ _ _ (by decide +kernel),?_⟩;refine ⟨p,row,ws,pl,_,rfl,R,hrow,by omega,fun g H' s1 s2 s3=>?_,fun g=>by cases g⟩;walk_at "RD";exact q1 v hv H' s1 s2 s3
 ·rw [hv];walk_at "RD";refine ⟨_,_,e1,Ye.no _ _ _ (by decide +kernel),?_⟩;exact ⟨p,row,ws,pl,_,rfl,R,hrow,by omega,(fun g=>by cases g),fun g=>q2 hv⟩
end
noncomputable def Oc {α:Type} (m:Except Nat α) (ok:α->Prop) (er:Nat->Prop):Prop:=match m with | .ok a=>ok a | .error k=>er k
noncomputable def ik (x:Str) (lo hi:Int):Option Int:=if okB x && !(decide (val x < lo) || decide (hi < val x)) then some (val x) else none
theorem aI (x:Str) (lo hi:Int):Cu x lo hi=(ik x lo hi).elim .non .int:=by
 unfold Cu ik;split <;> rfl
theorem Jk {x:Str} {lo hi v:Int} (h:Cu x lo hi=.int v):ik x lo hi=some v:=by
 rw [aI] at h;cases e:ik x lo hi with
 | none=>rw [e] at h;cases h
 | some u=>rw [e] at h;injection h with h;rw [h]
theorem Vw {x:Str} {lo hi:Int} (h:Cu x lo hi=.non):ik x lo hi=none:=by
 rw [aI] at h;cases e:ik x lo hi with
 | none=>rfl
 | some u=>rw [e] at h;cases h
theorem QC {ws:List Str} {k:Nat} {lo hi v:Int} (h:Cu (wd ws k) lo hi=.int v):k + 1 <= ws.length/\lo <= v/\v <= hi:=by
 rcases Eu (wd ws k) lo hi with ⟨u,hu,h1,h2,h3⟩ | hn
 ·rw [hu] at h;injection h with h;subst h;exact ⟨vJ h3,h1,h2⟩
 ·rw [hn] at h;cases h
noncomputable def Oc2 {α:Type} (m:Except (Nat × Nat) α) (ok:α->Prop) (er:Nat->Nat->Prop):Prop:=match m with | .ok a=>ok a | .error e=>er e.1 e.2
theorem kf {α:Type} {l:List α} {a x:α} {i:Nat} (h:(l ++ [a])[i]? = some x):(i < l.length/\l[i]? = some x)\/(i=l.length/\x=a):=by
 by_cases hi:i < l.length
 ·rw [getElem?_append_left hi] at h;exact .inl ⟨hi,h⟩
 ·rw [getElem?_append_right (by omega)] at h;have h0:i - l.length=0:=by
   cases hh:i - l.length with
   | zero=>rfl
   | succ m=>rw [hh] at h;simp at h
  rw [h0] at h;exact .inr ⟨by omega,(by simpa using h:a=x).symm⟩
noncomputable def SN (t:Adr) (i k:Nat) (H:Hp) (E:XK):Prop:=∀ dx H',bc H H'->NoT H'->H' dx=some (.ext (XD dx [(Str.ofString "row",.int i),(Str.ofString "word",.int k)]))->E (.ref t.Ac) (some dx) H'
end My
namespace My
open PySem L2
theorem Mb {α β:Type} {f:α->β} {l:List α} {i:Nat} {y:β} (h:(l.map f)[i]? = some y):∃ x,l[i]? = some x/\y=f x:=by
 rw [getElem?_map] at h;cases e:l[i]? with
 | none=>rw [e] at h;cases h
 | some x=>rw [e] at h;exact ⟨x,rfl,(Option.some.inj h).symm⟩
noncomputable def yN (t:Adr) (H0 H:Hp) (p:Addr) (rows:List (List Str)):Prop:=∃ qs:List Addr,H p=some (.lst (qs.map V.ref))/\H0 p=none/\qs.length=rows.length/\∀ (i:Nat) (q:Addr) (r:List Str),qs[i]? = some q->rows[i]? = some r->Ye t H q i r 0/\H0 q=none
noncomputable def eo (t:Adr):Sp:=fun vs H Q _=>∃ x,vs=[.str x]/\x.length <= 20000/\(∀ r ∈ re x,r.length <= 1000/\∀ y ∈ r,y.length <= 1000)/\NoT H/\∀ p H',bc H H'->NoT H'->yN t H H' p (re x)->Q (.ref p) H'
section
variable {P:Program} {w:World} {K:W.Frag} {mg:Str->Option Value} {base:Heap} {t:Adr}
theorem au (T:Txt w K mg t):Ub P w K mg base CX0 3 t.Ck t.vk ["text"] (eo t):=by
 have g36:Ub P w K mg base CX0 2 t.Kv t.Su ["text"] Zz:=(mF T).mono (by decide);have g37:Ub P w K mg base CX0 1 t.He t.wf q31 (oI t):=VL T;refine T.cn.ok FA (fun vs H Q E h=>?_) (fun _ _ _ s H vs Q E hr h=>?_)
 ·obtain ⟨x,rfl,_⟩:=h;rfl
 obtain ⟨x,rfl,hz,hrow,nt,q⟩:=h;refine ⟨_,(lb (Qb (Qd rfl (Fv rfl T.Dj (cb (vb g36 hr rfl T.IJ T.xy.kp T.yI .nil Db (cb (pv 0) fb)) fb)) (dc (sc:=pb Xq) rfl (by decide +kernel)) (N:=["row","told"]) (sel:=[none,none]) (Cc (M:=["text"]) (by decide +kernel)) (Blk.of (fun _ _ _ _=>(Qg (K:=K) (n:=2) rfl rfl (qc (Cb (i:=0) (se (N:=["row","told"]) (by decide +kernel) rfl) rfl (Or.inl rfl) (.inr rfl)) (qc (Cb (i:=1) (se (N:=["row","told"]) (by decide +kernel) rfl) rfl (Or.inl rfl) (.inr rfl)) Vg)))) (fun _ _ _ _=>⟨_,Fd,by walk_at "B"⟩) (fun _ _ _ _=>⟨_,(qo T.zy g37 hr rfl T.Ry T.Dp .nil Db (cb (pv 0) (cb (pv 1) fb))),by walk_at "B"⟩))))),?_⟩;walk_at "RD";refine ⟨x,rfl,hz,nt,fun p H1 sm1 nt1 ⟨ps,hp,hp0,hpn,hpl,hpa⟩=>?_⟩;walk_at "RD";refine ⟨⟨_,SqL.of hp⟩,?_⟩;have hlen:ps.length <= sizeLine:=by
  rw [hpl];unfold re;rw [length_map];have:=Hk (x:=x) (y:=nl) (by rw [Xo];exact Nat.le_refl _);exact Nat.le_trans (show _ <= 40000 by omega) (by decide)
 refine jd.enum (xs:=ps.map V.ref) (fun i ys H2=>bc H1 H2/\NoT H2/\∃ qs:List Addr,ys=qs.map V.ref/\qs.length=i/\∀ (j:Nat) (q:Addr) (r:List Str),qs[j]? = some q->(re x)[j]? = some r->Ye t H2 q j r 0/\H1 q=none)
  (by rw [length_map];exact hlen) ⟨bc.refl H1,nt1,[],rfl,rfl,fun j q r h _=>by simp at h⟩ ?_ ?_ ?_
 ·rintro i ys H2 hi zzq;refine zP fun zzM zzh=>?_
  obtain ⟨s2,n2,qs,rfl,hq,_⟩:=zzq;subst zzh;exact ⟨SqL.of (s2 _ _ hp),by rw [length_map];omega⟩
 ·rintro i v ys H2 p2 hv ⟨s2,n2,qs,rfl,hq,al⟩ hp2 N hN;rw [getElem?_map] at hv;cases hpi:ps[i]? with
  | none=>rw [hpi] at hv;cases hv
  | some pi=>
   rw [hpi] at hv;have e:=(Option.some.inj hv).symm;subst e;refine Ln ?_;walk_at "RD";refine ⟨Sub.name2,fun a dx ha hd hne=>?_⟩;refine ⟨a,dx,pi,i,rfl,gb,rfl,?_⟩;rw [Vk];have s3:bc H2 (upd (upd (upd H2 p2 (.tup [.int i,.ref pi])) dx (.own a)) a (.ins t.Nb dx (rdF i pi 0))):=by
    have s':bc H2 (upd H2 p2 (.tup [.int i,.ref pi])):=jb hp2;exact ((bc.trans s' (jb hd)).updN (s'.free ha))
   obtain ⟨r,hr⟩:∃ r,(re x)[i]? = some r:=⟨(re x)[i]'(by rw [<- hpl];exact (List.getElem?_eq_some_iff.mp hpi).1),getElem?_eq_getElem _⟩;have ha2:H2 a=none:=(jb hp2).free ha;refine hN _ _ ⟨s2.trans s3,((n2.upd).upd).upd,qs ++ [a],by rw [map_append];rfl,by rw [length_append,hq];rfl,fun j q' r' h1 h2=>?_⟩;by_cases hj:j < qs.length
   ·rw [getElem?_append_left hj] at h1;obtain ⟨z1,z2⟩:=al j q' r' h1 h2;exact ⟨z1.same s3,z2⟩
   ·rw [getElem?_append_right (by omega)] at h1;have hj0:j - qs.length=0:=by
     cases hh:j - qs.length with
     | zero=>rfl
     | succ n=>rw [hh] at h1;simp at h1
    rw [hj0] at h1;have e3:a=q':=by simpa using h1
    subst e3;have e4:j=i:=by omega
    subst e4;rw [hr] at h2;cases h2;refine ⟨⟨hrow r (mem_of_getElem? hr),dx,pi,gb,?_⟩,s2.free ha2⟩;exact s3 _ _ (s2 _ _ (hpa j pi r hpi hr).1)
 ·rintro ys H2 ⟨s2,n2,qs,rfl,hq,al⟩ p2 hp2;refine q p2 _ ((sm1.trans s2).updN ((sm1.trans s2).free hp2)) (n2.upd) ⟨qs,gb,(sm1.trans s2).free hp2,by rw [hq,length_map,hpl],fun i q' r h1 h2=>?_⟩;obtain ⟨z1,z2⟩:=al i q' r h1 h2;exact ⟨z1.same (jb hp2),sm1.free z2⟩
end
noncomputable def CO (q:Addr) (H:Hp) (R:Hp->Prop):Prop:=∀ H',Vc q H H'->NoT H'->R H'
noncomputable def xD (t:Adr):Sp:=fun vs H Q _=>∃ q row n,vs=[.ref q]/\Ye t H q row [Str.ofString "ring",num n] 0/\(2 <= n/\n <= 99)/\NoT H/\CO q H (Q (.int n))
noncomputable def Ik (t:Adr) (H:Hp) (wl:Addr) (ds:List WD):Prop:=∃ as:List Addr,H wl=some (.lst (as.map V.ref))/\as.length=ds.length/\∀ (i:Nat) (a:Addr) (d:WD),as[i]? = some a->ds[i]? = some d->Pe t H a d
noncomputable def zu (t:Adr):Sp:=fun vs H Q _=>∃ q row ws pl wl ds x,vs=[.ref q,.ref wl]/\Ye t H q row ws pl/\ws[pl]? = some x/\made x Dh 8=true/\Ik t H wl ds/\ds.length <= 12/\(∀ d ∈ ds,d.name ≠ x)/\NoT H /\
 ∀ H',Vc q H H'->NoT H'->Ye t H' q row ws (pl + 1)->Q (.str x) H'
noncomputable def IH (t:Adr):Sp:=fun vs H Q _=>∃ q row ws pl n st fi,vs=[.ref q,.int n,.int st]/\Ye t H q row ws pl/\ws[pl]? = some (num fi)/\(0 <= st/\st < n)/\(0 <= fi/\fi < n)/\st ≠ fi/\n <= 99/\NoT H /\
 ∀ H',Vc q H H'->NoT H'->Ye t H' q row ws (pl + 1)->Q (.int fi) H'
noncomputable def tz (t:Adr):Sp:=fun vs H Q _=>∃ d:WD,vs=[.str (oe d.k),.str d.name,.int d.start,.int d.fin,.int d.off,.int d.near,.int d.least]/\d.k < 3/\∀ x H',bc H H'->(NoT H->NoT H')->Pe t H' x d->H x=none->Q (.ref x) H'
noncomputable def XH (t:Adr):Sp:=fun vs H Q _=>∃ q row n wl ds d,vs=[.ref q,.int n,.ref wl]/\Ye t H q row (qk d) 0/\WOk n d/\(2 <= n/\n <= 99)/\Ik t H wl ds/\ds.length <= 12/\(∀ e ∈ ds,e.name ≠ d.name)/\NoT H /\
 ∀ x H',Vc q H H'->NoT H'->Pe t H' x d->H x=none->Q (.ref x) H'
theorem Ik.sameX {t:Adr} {H H':Hp} {q wl:Addr} {ds:List WD} {row:Int} {ws:List Str} {pl:Nat} (h:Ik t H wl ds) (s:Vc q H H') (r:Ye t H q row ws pl):Ik t H' wl ds:=by
 obtain ⟨as,e1,e2,al⟩:=h;obtain ⟨hz,dx,ta,e3,e4⟩:=r;refine ⟨as,s _ _ (af e1 e3 (by intro z;cases z)) e1,e2,fun i a d h1 h2=>?_⟩;obtain ⟨hk,dx',e5⟩:=al i a d h1 h2;refine ⟨hk,dx',s _ _ (fun z=>?_) e5⟩;subst z;rw [e5] at e3;have e6:=Option.some.inj e3;injection e6 with _ _ e8;have e9:(7:Nat)=3:=congrArg List.length e8;omega
theorem Ik.same {t:Adr} {H H':Hp} {wl:Addr} {ds:List WD} (h:Ik t H wl ds) (s:bc H H'):Ik t H' wl ds:=by
 obtain ⟨as,e1,e2,al⟩:=h;exact ⟨as,s _ _ e1,e2,fun i a d h1 h2=>(al i a d h1 h2).same s⟩
section
variable {P:Program} {w:World} {K:W.Frag} {mg:Str->Option Value} {base:Heap} {t:Adr}
theorem bJ (T:Txt w K mg t):Ub P w K mg base CX0 5 t.Lj t.rj ["reader"] (xD t):=by
 have g24:Ub P w K mg base CX0 4 t.Bc t.Nc q16 (gv K t):=(Iz T).mono (by decide);have g11:Ub P w K mg base CX0 4 t.uc t.Hc q17 (Tu t):=Qx T;have g25:Ub P w K mg base CX0 4 t.zd t.je ["self"] (rE t):=(ZH T).mono (by decide);refine T.vm.ok Oo (fun vs H Q E h=>?_) (fun _ _ _ s H vs Q E hr h=>?_)
 ·obtain ⟨q,row,n,rfl,_⟩:=h;rfl
 obtain ⟨q,row,n,rfl,R,hn,nt,qq⟩:=h;refine ⟨_,(db (nc (qd (pv 0) T.Bb T.ce g24 hr T.ge .nil Db (cb (sd (cb Jb fb)) fb)))
   (db (Fb (i:=1) Oo.nd rfl (Or.inl rfl) (qd (pv 0) T.Bb T.Ic g11 hr T.Gc .nil Db (cb (qe rfl T.Ls T.Ms) (cb (qe rfl T.fv T.Lv) fb))))
   (db (nc (Be (pv 0) T.Bb T.gi g25 hr T.oi .nil Db))
   (lb (Qb (pv 1)))))),?_⟩
 obtain ⟨_,dx,ta,e1,e2⟩:=id R;walk_at "RD";refine ⟨_,_,e1,Ye.no _ _ _ (by decide +kernel),by decide,fun p hp=>?_⟩;have s0:bc H (upd H p (.lst [V.str (Str.ofString "ring")])):=jb hp;refine ⟨q,row,_,0,Str.ofString "ring",p,[Str.ofString "ring"],rfl,R.same s0,rfl,SqL.of gb,by simp,fun H1 s1 n1 R1=>?_⟩;obtain ⟨_,dx1,ta1,f1,f2⟩:=id R1;walk_at "RD";refine ⟨_,_,f1,Ye.no _ _ _ (by decide +kernel),?_⟩;have nt1:=n1 nt.upd;refine ⟨q,row,_,1,num n,2,99,n,rfl,R1,rfl,Wg (by omega) (by omega) hn.1 hn.2,nt1,fun H2 s2 n2 R2=>?_⟩;obtain ⟨_,dx2,ta2,g1,g2⟩:=id R2;walk_at "RD";refine ⟨_,_,g1,Ye.no _ _ _ (by decide +kernel),?_⟩;refine ⟨q,row,_,2,rfl,R2,rfl,?_⟩;walk_at "RD";exact qq H2 (((Vc.of s0).trans s1).trans s2) (n2 nt1)
theorem qA (T:Txt w K mg t):Ub P w K mg base CX0 3 t.Qf t.Yf q38 (zu t):=by
 have g10:Ub P w K mg base CX0 2 t.yc t.Lc ["self"] (Fj t):=(Cl T).mono (by decide);have g13:Ub P w K mg base CX0 2 t.Jc t.Rc q13 (yv t):=(Vx T).mono (by decide);have g38:Ub P w K mg base CX0 2 t.Qn t.Nm ["word"] jC:=xJ T;refine T.Kh.ok Xj (fun vs H Q E h=>?_) (fun _ _ _ s H vs Q E hr h=>?_)
 ·obtain ⟨q,row,ws,pl,wl,ds,x,rfl,_⟩:=h;rfl
 obtain ⟨q,row,ws,pl,wl,ds,x,rfl,R,hx,hm,hW,hdl,hnew,nt,qq⟩:=h;refine ⟨_,(db (Fb (i:=2) Xj.nd rfl (Or.inl rfl) (Be (pv 0) T.Bb T.Ld g10 hr T.Kd .nil Db))
   (db (nc (qd (pv 0) T.Bb T.Ee g13 hr T.Fe .nil Db (cb (aE (vb g38 hr rfl T.dC T.Bq.kp T.VD .nil Db (cb (pv 2) fb)) (Ew (Dd Jg (pv 2) (Qd rfl (Dc (pv 1)) (dc (sc:=pb Ch) rfl (by decide +kernel)) (N:=["way"]) (sel:=[none]) (Cc (M:=["reader","ways","name"]) (by decide +kernel)) (Blk.of (fun _ _ _ _=>(Cb (i:=0) (se (N:=["way"]) (by decide +kernel) rfl) rfl (Or.inl rfl))) (fun _ _ _ _=>⟨_,Fd,by walk_at "B"⟩) (fun _ _ _ _=>⟨_,(Tc (pv 0) rfl),by walk_at "B"⟩))) (by with_unfolding_all rfl)))) fb)))
   (lb (Qb (pv 2))))),?_⟩
 have hlt:pl < ws.length:=(List.getElem?_eq_some_iff.mp hx).1;have hg:ws.getD pl (Str.ofString "")=x:=by rw [getD_eq_getElem?_getD,hx];rfl
 obtain ⟨hz,dx,ta,e1,e2⟩:=id R;walk_at "RD";refine ⟨_,_,e1,Ye.no _ _ _ (by decide +kernel),⟨q,row,ws,pl,rfl,R,by omega,?_⟩⟩;rw [hg];walk_at "RD";refine ⟨_,_,e1,Ye.no _ _ _ (by decide +kernel),?_⟩;refine ⟨x,rfl,hz.2 x (mem_of_getElem? hx),nt,?_⟩;rw [hm];walk_at "RD";obtain ⟨as,w1,w2,al⟩:=hW;refine ⟨⟨_,SqL.of w1⟩,?_⟩;have hle:(as.map V.ref).length <= sizeLine:=by rw [length_map,w2];exact Nat.le_trans hdl (by decide)
 refine jd.list_zs (xs:=as.map V.ref) (zs:=ds.map fun d=>V.str d.name) (SqL.of w1) hle (by rw [length_map,length_map,w2]) (fun i v z N hv hz' hN=>?_) (fun p hp=>?_)
 ·obtain ⟨a,ha,rfl⟩:=Mb hv;obtain ⟨d,hd,rfl⟩:=Mb hz';walk_at "RD";exact ⟨Sub.name,_,(al i a d ha hd).f_name T,hN⟩
 ·walk_at "RD";have e0:(ds.map fun d=>V.str d.name)=qb (ds.map (·.name)):=by unfold qb;rw [map_map];rfl
  rw [e0];refine ⟨_,.inl (SqL.of gb),rfl,jg _,?_⟩;rw [Kj,decide_eq_false (fun z=>by
   obtain ⟨d,hd,e⟩:=List.mem_map.mp z;exact hnew d hd e)]
  have s0:bc H (upd H p (.lst (qb (ds.map (·.name))))):=jb hp;exact ⟨q,row,ws,pl,rfl,R.same s0,fun H' s1 n1 R1=>qq H' ((Vc.of s0).trans s1) (n1 nt.upd) R1⟩
theorem eL (T:Txt w K mg t):Ub P w K mg base CX0 5 t.Kl t.Dl q26 (IH t):=by
 have g10:Ub P w K mg base CX0 4 t.yc t.Lc ["self"] (Fj t):=(Cl T).mono (by decide);have g11:Ub P w K mg base CX0 4 t.uc t.Hc q17 (Tu t):=Qx T;refine T.Ao.ok Ty (fun vs H Q E h=>?_) (fun _ _ _ s H vs Q E hr h=>?_)
 ·obtain ⟨q,row,ws,pl,n,st,fi,rfl,_⟩:=h;rfl
 obtain ⟨q,row,ws,pl,n,st,fi,rfl,R,hx,hst,hfi,hne,hn,nt,qq⟩:=h;refine ⟨_,(db (Gd (Ob ve (Be (pv 0) T.Bb T.Ld g10 hr T.Kd .nil Db) (sf Ff rfl T.vA oh (cb (pv 2) fb)) (Sb _)) (lb lh) fc)
   (lb (Qb (qd (pv 0) T.Bb T.Ic g11 hr T.Gc .nil Db (cb ib (cb (Pb ck (pv 1) ib) fb)))))),?_⟩
 have hlt:pl < ws.length:=(List.getElem?_eq_some_iff.mp hx).1;have hg:ws.getD pl (Str.ofString "")=num fi:=by rw [getD_eq_getElem?_getD,hx];rfl
 obtain ⟨hz,dx,ta,e1,e2⟩:=id R;walk_at "RD";refine ac false (fun Q hQ=>?_) (fun hc=>nomatch hc) (fun _=>?_)
 ·walk_at "RD";refine ⟨_,_,e1,Ye.no _ _ _ (by decide +kernel),⟨q,row,ws,pl,rfl,R,by omega,?_⟩⟩;rw [hg];walk_at "RD";refine ⟨Vm (by omega),?_⟩;rw [decide_eq_false (fun z=>hne (lJ (by omega) (by omega) (by omega) (by omega) z).symm)];exact hQ
 ·walk_at "RD";refine ⟨_,_,e1,Ye.no _ _ _ (by decide +kernel),⟨q,row,ws,pl,num fi,0,n - 1,fi,rfl,R,hx,Wg (by omega) (by omega) (by omega) (by omega),nt,fun H1 s1 n1 R1=>?_⟩⟩;exact qq H1 s1 (n1 nt) R1
theorem mL {t:Adr} {H:Hp} {x dx:Addr} {d:WD} (hx:H x=none) (hd:H dx=none) (hk:d.k < 3) :
  bc H (upd (upd (upd H dx (.own x)) x (.ins (t.cw d.k) dx [])) x (.ins (t.cw d.k) dx (xt d)))/\(NoT H->NoT (upd (upd (upd H dx (.own x)) x (.ins (t.cw d.k) dx [])) x (.ins (t.cw d.k) dx (xt d)))) /\
   Pe t (upd (upd (upd H dx (.own x)) x (.ins (t.cw d.k) dx [])) x (.ins (t.cw d.k) dx (xt d))) x d:=
 ⟨(((bc.refl H).updN hd).updN hx).updN hx,fun n=>((n.upd).upd).upd,hk,dx,gb⟩
theorem KG (T:Txt w K mg t):Ub P w K mg base CX0 4 t.Hl t.Il q27 (tz t):=by
 have g39:Ub P w K mg base CX0 2 t.Nf t.jh q10 (Bl t 0):=nK T;have g40:Ub P w K mg base CX0 2 t.vf t.Bg q10 (Bl t 1):=zG T;have g41:Ub P w K mg base CX0 2 t.rf t.Ag q10 (Bl t 2):=NG T;refine T.io.ok Kx (fun vs H Q E h=>?_) (fun _ _ _ s H vs Q E hr h=>?_)
 ·obtain ⟨d,rfl,_⟩:=h;rfl
 obtain ⟨d,rfl,hk,q⟩:=h;refine ⟨_,(db (Gd (Ob ve (pv 0) Jb (Sb _)) (lb (Qb (qo T.AF g39 hr rfl T.QF T.jv .nil Db (cb (pv 1) (cb (pv 2) (cb (pv 3) (cb (pv 4) (cb (pv 5) (cb (pv 6) fb))))))))) fc)
   (db (Gd (Ob ve (pv 0) Jb (Sb _)) (lb (Qb (qo T.uD g40 hr rfl T.zC T.At .nil Db (cb (pv 1) (cb (pv 2) (cb (pv 3) (cb (pv 4) (cb (pv 5) (cb (pv 6) fb))))))))) fc)
   (lb (Qb (qo T.SD g41 hr rfl T.GC T.Ws .nil Db (cb (pv 1) (cb (pv 2) (cb (pv 3) (cb (pv 4) (cb (pv 5) (cb (pv 6) fb))))))))))),?_⟩
 have fin:∀ (x dx:Addr),H x=none->H dx=none->Q (.ref x) (upd (upd (upd H dx (.own x)) x (.ins (t.cw d.k) dx [])) x (.ins (t.cw d.k) dx (xt d))):=fun x dx hx hd=>by
  obtain ⟨m1,m2,m3⟩:=mL (t:=t) (d:=d) hx hd hk;exact q x _ m1 m2 m3 hx
 obtain ⟨k,name,start,fi,off,near,least⟩:=d
 match k,hk with
 | 0,_=>
  (walk_at "RD"; repeat (simp only [oe];walk_at "RD"));refine ac true (fun Q hQ=>?_) (fun _=>?_) (fun hc=>nomatch hc)
  ·walk_at "RD";exact hQ
  ·walk_at "RD";exact fun x dx hx hd hne=>⟨x,dx,⟨0,name,start,fi,off,near,least⟩,rfl,rfl,gb,rfl,fin x dx hx hd⟩
 | 1,_=>
  (walk_at "RD"; repeat (simp only [oe];walk_at "RD"));refine ac false (fun Q hQ=>?_) (fun hc=>nomatch hc) (fun _=>?_)
  ·walk_at "RD";rw [decide_eq_false (by decide +kernel)];exact hQ
  ·walk_at "RD";refine ac true (fun Q hQ=>?_) (fun _=>?_) (fun hc=>nomatch hc)
   ·walk_at "RD";exact hQ
   ·walk_at "RD";exact fun x dx hx hd hne=>⟨x,dx,⟨1,name,start,fi,off,near,least⟩,rfl,rfl,gb,rfl,fin x dx hx hd⟩
 | 2,_=>
  (walk_at "RD"; repeat (simp only [oe];walk_at "RD"));refine ac false (fun Q hQ=>?_) (fun hc=>nomatch hc) (fun _=>?_)
  ·walk_at "RD";rw [decide_eq_false (by decide +kernel)];exact hQ
  ·walk_at "RD";refine ac false (fun Q hQ=>?_) (fun hc=>nomatch hc) (fun _=>?_)
   ·walk_at "RD";rw [decide_eq_false (by decide +kernel)];exact hQ
   ·walk_at "RD";exact fun x dx hx hd hne=>⟨x,dx,⟨2,name,start,fi,off,near,least⟩,rfl,rfl,gb,rfl,fin x dx hx hd⟩
theorem CM (T:Txt w K mg t):Ub P w K mg base CX0 6 t.Jl t.Fl q39 (XH t):=by
 have g24:Ub P w K mg base CX0 5 t.Bc t.Nc q16 (gv K t):=(Iz T).mono (by decide);have g11:Ub P w K mg base CX0 5 t.uc t.Hc q17 (Tu t):=(Qx T).mono (by decide);have g25:Ub P w K mg base CX0 5 t.zd t.je ["self"] (rE t):=(ZH T).mono (by decide);have g42:Ub P w K mg base CX0 5 t.Qf t.Yf q38 (zu t):=(qA T).mono (by decide);have g43:Ub P w K mg base CX0 5 t.Kl t.Dl q26 (IH t):=eL T;have g44:Ub P w K mg base CX0 5 t.Hl t.Il q27 (tz t):=(KG T).mono (by decide);refine T.Fo.ok We (fun vs H Q E h=>?_) (fun _ _ _ s H vs Q E hr h=>?_)
 ·obtain ⟨q,row,n,wl,ds,d,rfl,_⟩:=h;rfl
 obtain ⟨q,row,n,wl,ds,d,rfl,R,hd,hn,hW,hdl,hnew,nt,qq⟩:=h;refine ⟨_,(db (Fb (i:=3) We.nd rfl (Or.inl rfl) (qd (pv 0) T.Bb T.ce g24 hr T.ge .nil Db (cb (sd (cb Jb (cb Jb (cb Jb fb)))) fb)))
   (db (Fb (i:=4) We.nd rfl (Or.inl rfl) (vb g42 hr rfl T.Lq T.Kh.kp T.Mr .nil Db (cb (pv 0) (cb (pv 2) fb))))
   (db (Fb (i:=5) We.nd rfl (Or.inl rfl) (qd (pv 0) T.Bb T.Ic g11 hr T.Gc .nil Db (cb ib (cb (Pb ck (pv 1) ib) fb))))
   (db (Fb (i:=6) We.nd rfl (Or.inl rfl) (vb g43 hr rfl T.YA T.Ao.kp T.zA .nil Db (cb (pv 0) (cb (pv 1) (cb (pv 5) fb)))))
   (db (Fb (i:=7) We.nd rfl (Or.inl rfl) (qd (pv 0) T.Bb T.Ic g11 hr T.Gc .nil Db (cb ib (cb (qe rfl T.fA T.gA) fb))))
   (db (Fb (i:=8) We.nd rfl (Or.inl rfl) (qd (pv 0) T.Bb T.Ic g11 hr T.Gc .nil Db (cb ib (cb (qe rfl T.Ox T.Ux) fb))))
   (db (Fb (i:=9) We.nd rfl (Or.inl rfl) (qd (pv 0) T.Bb T.Ic g11 hr T.Gc .nil Db (cb ib (cb (qe rfl T.Pw T.gx) fb))))
   (db (nc (Be (pv 0) T.Bb T.gi g25 hr T.oi .nil Db))
   (lb (Qb (vb g44 hr rfl T.CA T.io.kp T.UA .nil Db (cb (pv 3) (cb (pv 4) (cb (pv 5) (cb (pv 6) (cb (pv 7) (cb (pv 8) (cb (pv 9) fb)))))))))))))))))),?_⟩
 have b1:=hd.st;have b2:=hd.fi;have b3:=hd.of;have b4:=hd.nr;have b5:=hd.le;obtain ⟨_,dx,ta,e1,e2⟩:=id R;walk_at "RD";refine ⟨_,_,e1,Ye.no _ _ _ (by decide +kernel),by decide,fun p hp=>?_⟩;have s0:bc H (upd H p (.lst [V.str (Str.ofString "car"),V.str (Str.ofString "foot"),V.str (Str.ofString "tram")])):=jb hp;have hin:oe d.k ∈ [Str.ofString "car",Str.ofString "foot",Str.ofString "tram"]:=by
  have:=hd.k
  match d.k,this with
  | 0,_=>simp [oe]
  | 1,_=>simp [oe]
  | 2,_=>simp [oe]
 refine ⟨q,row,_,0,oe d.k,p,[Str.ofString "car",Str.ofString "foot",Str.ofString "tram"],rfl,R.same s0,rfl,SqL.of gb,hin,fun H1 s1 n1 R1=>?_⟩;have x1:Vc q H H1:=(Vc.of s0).trans s1;have m1:=n1 nt.upd;walk_at "RD";refine ⟨q,row,_,1,wl,ds,d.name,rfl,R1,rfl,hd.nm,hW.sameX x1 R,hdl,hnew,m1,fun H2 s2 m2 R2=>?_⟩;obtain ⟨_,dx2,ta2,f2,g2⟩:=id R2;have x2:=x1.trans s2;walk_at "RD";refine ⟨_,_,f2,Ye.no _ _ _ (by decide +kernel),⟨q,row,_,2,num d.start,0,n - 1,d.start,rfl,R2,rfl,Wg (by omega) (by omega) (by omega) (by omega),m2,fun H3 s3 n3 R3=>?_⟩⟩;have x3:=x2.trans s3;have m3:=n3 m2;walk_at "RD";refine ⟨q,row,_,3,n,d.start,d.fin,rfl,R3,rfl,b1,b2,hd.ne,hn.2,m3,fun H4 s4 m4 R4=>?_⟩;obtain ⟨_,dx4,ta4,f4,g4⟩:=id R4;have x4:=x3.trans s4;walk_at "RD";refine ⟨_,_,f4,Ye.no _ _ _ (by decide +kernel),⟨q,row,_,4,num d.off,0,30,d.off,rfl,R4,rfl,Wg (by omega) (by omega) (by omega) (by omega),m4,fun H5 s5 n5 R5=>?_⟩⟩;obtain ⟨_,dx5,ta5,f5,g5⟩:=id R5;have x5:=x4.trans s5;have m5:=n5 m4;walk_at "RD";refine ⟨_,_,f5,Ye.no _ _ _ (by decide +kernel),⟨q,row,_,5,num d.near,0,30,d.near,rfl,R5,rfl,Wg (by omega) (by omega) (by omega) (by omega),m5,fun H6 s6 n6 R6=>?_⟩⟩;obtain ⟨_,dx6,ta6,f6,g6⟩:=id R6;have x6:=x5.trans s6;have m6:=n6 m5;walk_at "RD";refine ⟨_,_,f6,Ye.no _ _ _ (by decide +kernel),⟨q,row,_,6,num d.least,1,60,d.least,rfl,R6,rfl,Wg (by omega) (by omega) (by omega) (by omega),m6,fun H7 s7 n7 R7=>?_⟩⟩;obtain ⟨_,dx7,ta7,f7,g7⟩:=id R7;have x7:=x6.trans s7;have m7:=n7 m6;walk_at "RD";refine ⟨_,_,f7,Ye.no _ _ _ (by decide +kernel),⟨q,row,_,7,rfl,R7,rfl,?_⟩⟩;walk_at "RD";refine ⟨d,rfl,hd.k,fun x H8 s8 n8 w8 hx8=>?_⟩;refine qq x H8 (x7.trans (Vc.of s8)) (n8 m7) w8 ?_;cases hH:H x with
 | none=>rfl
 | some u=>
  by_cases hxq:x=q
  ·subst hxq;rw [f7] at hx8;cases hx8
  ·rw [x7 x u hxq hH] at hx8;cases hx8
end
end My
namespace My
open PySem L2
noncomputable abbrev oA:List Str:=[Str.ofString "places",Str.ofString "ways",Str.ofString "numbers"]
noncomputable def cF (n:Int) (wl nd:Addr):List (Str × V):=[(Str.ofString "places",.int n),(Str.ofString "ways",.ref wl),(Str.ofString "numbers",.ref nd)]
theorem bv (n:Int) (wl nd:Addr):(cF n wl nd).map (·.1)=oA:=rfl
noncomputable def nm (ds:List WD) (i:Nat):Str:=((ds[i]?).map (·.name)).getD (Str.ofString "")
noncomputable def LB (ds:List WD) (i:Nat):List (Key × V):=(List.range i).map fun j=>(Sum.inr (nm ds j),V.int j)
theorem Mn {ds:List WD} {i:Nat} {d:WD} (h:ds[i]? = some d):nm ds i=d.name:=by unfold nm;rw [h];rfl
theorem Pr {ds:List WD} (h:(ds.map (·.name)).Nodup) {i j:Nat} (hi:i < ds.length) (hj:j < ds.length) (e:nm ds i=nm ds j):i=j:=by
 rw [Mn (getElem?_eq_getElem hi),Mn (getElem?_eq_getElem hj)] at e;have:=(List.getElem_inj (xs:=ds.map (·.name)) (i:=i) (j:=j) (h₀:=by rw [length_map];exact hi) (h₁:=by rw [length_map];exact hj) h).mp (by rw [List.getElem_map,List.getElem_map];exact e);exact this
theorem qH {ds:List WD} (h:(ds.map (·.name)).Nodup) {i:Nat}:∀ {n:Nat},i < n->n <= ds.length->jk (LB ds n) (Sum.inr (nm ds i))=some (.int i):=by
 intro n
 induction n with
 | zero=>intro hi _;omega
 | succ n ih=>
  intro hi hn;unfold LB jk;rw [range_succ,map_append,List.find?_append];by_cases c:i < n
  ·have:=ih c (by omega);unfold LB jk at this;cases e:List.find? (fun kv=>decide (kv.fst=Sum.inr (nm ds i))) (List.map (fun j=>((Sum.inr (nm ds j):Key),V.int j)) (List.range n)) with
   | none=>rw [e] at this;cases this
   | some p=>rw [e] at this;exact this
  ·have e:i=n:=by omega
   subst e;have no:List.find? (fun kv=>decide (kv.fst=Sum.inr (nm ds i))) (List.map (fun j=>((Sum.inr (nm ds j):Key),V.int j)) (List.range i))=none:=by
    rw [List.find?_eq_none];intro p hp;obtain ⟨j,hj,rfl⟩:=List.mem_map.mp hp;have hj':=List.mem_range.mp hj;simp only [decide_eq_true_eq];intro z;have:=Pr h (by omega) (by omega) (Sum.inr.inj z);omega
   rw [no];simp
theorem RF {ds:List WD} (h:(ds.map (·.name)).Nodup) {n:Nat} (hn:n < ds.length):Mo (LB ds n) (Sum.inr (nm ds n)) (.int n)=LB ds (n + 1):=by
 unfold Mo;have no:((LB ds n).any fun kv=>decide (kv.1=Sum.inr (nm ds n)))=false:=by
  rw [List.any_eq_false];intro p hp;obtain ⟨j,hj,rfl⟩:=List.mem_map.mp hp;have hj':=List.mem_range.mp hj;simp only [decide_eq_true_eq];intro z;have:=Pr h (by omega) hn (Sum.inr.inj z);omega
 rw [no];unfold LB;rw [range_succ,map_append];rfl
theorem sh {H H1 H2:Hp} {q:Addr} (a:bc H H1) (b:Vc q H1 H2) (n:H q=none):bc H H2:=fun c u e=>b c u (Kb e n) (a c u e)
theorem xI {t:Adr} {H:Hp} {p q:Addr} {i j:Int} {ws vs:List Str} {k l:Nat} (a:Ye t H p i ws k) (b:Ye t H q j vs l) (n:i ≠ j):p ≠ q:=fun z=>by
 subst z;obtain ⟨_,dx,ta,e1,_⟩:=a;obtain ⟨_,dx',ta',e2,_⟩:=b;rw [e1] at e2;have e3:=Option.some.inj e2;injection e3 with _ _ e4;unfold rdF at e4;injection e4 with e5 _;injection e5 with _ e6;injection e6 with e7;exact n e7
theorem Ww {t:Adr} {H:Hp} {p q:Addr} {d:WD} {j:Int} {vs:List Str} {l:Nat} (a:Pe t H p d) (b:Ye t H q j vs l):p ≠ q:=fun z=>by
 subst z;obtain ⟨_,dx,e1⟩:=a;obtain ⟨_,dx',ta',e2,_⟩:=b;rw [e1] at e2;have e3:=Option.some.inj e2;injection e3 with _ _ e4;exact absurd (congrArg List.length e4) (by show ¬ (7:Nat)=3;decide)
noncomputable def Uc (t:Adr) (H:Hp) (c:Addr) (n:Int) (ds:List WD):Prop:=
 ((ds.map (·.name)).Nodup/\ds.length <= 12)/\∃ dx wl nd,H c=some (.ins t.gc dx (cF n wl nd))/\Ik t H wl ds/\H nd=some (.dK (LB ds ds.length))
theorem Uc.same {t:Adr} {H H':Hp} {c:Addr} {n:Int} {ds:List WD} (h:Uc t H c n ds) (s:bc H H'):Uc t H' c n ds:=by
 obtain ⟨h0,dx,wl,nd,e1,e2,e3⟩:=h;exact ⟨h0,dx,wl,nd,s _ _ e1,e2.same s,s _ _ e3⟩
theorem EB {m:Str} (n:Int) (wl nd:Addr) (h:oA.contains m=false):(cF n wl nd).lookup m=none:=Kn oA (bv ..) h
section
variable {w:World} {K:W.Frag} {mg:Str->Option Value} {t:Adr} {H:Hp} {c dx wl nd:Addr} {n:Int}
theorem tG (T:Txt w K mg t) (e:H c=some (.ins t.gc dx (cF n wl nd))):Nj K H c (Str.ofString "places") (.int n):=⟨_,dx,_,e,T.zc,T.si,Cd oA 0 (bv ..) (by decide +kernel) rfl⟩
theorem GH (T:Txt w K mg t) (e:H c=some (.ins t.gc dx (cF n wl nd))):Nj K H c (Str.ofString "ways") (.ref wl):=⟨_,dx,_,e,T.zc,T.Vj,Cd oA 1 (bv ..) (by decide +kernel) rfl⟩
theorem js (T:Txt w K mg t) (e:H c=some (.ins t.gc dx (cF n wl nd))):Nj K H c (Str.ofString "numbers") (.ref nd):=⟨_,dx,_,e,T.zc,T.Hh,Cd oA 2 (bv ..) (by decide +kernel) rfl⟩
end
noncomputable def OH (t:Adr):Sp:=fun vs H Q _=>∃ c dx n wl ds,vs=[.ref c,.int n,.ref wl]/\H c=some (.ins t.gc dx [])/\Ik t H wl ds/\(ds.map (·.name)).Nodup/\ds.length <= 12/\NoT H /\
 ∀ H',Vc c H H'->NoT H'->Uc t H' c n ds->Q .non H'
noncomputable def AM (t:Adr):Sp:=fun vs H Q _=>∃ n ds,vs=[.str (vv n ds)]/\COk n ds/\NoT H/\∀ c H',bc H H'->NoT H'->Uc t H' c n ds->Q (.ref c) H'
noncomputable def Qp (t:Adr):Sp:=fun vs H Q _=>∃ c n ds,vs=[.ref c]/\Uc t H c n ds/\∀ p,H p=none->Q (.ref p) (upd H p (.lst (qb (ds.map (·.name)))))
noncomputable def gw (t:Adr):Sp:=fun vs H Q _=>∃ c n ds,∃ i:Nat,∃ d,vs=[.ref c,.str d.name]/\Uc t H c n ds/\ds[i]? = some d/\Q (.int (i:Nat)) H
noncomputable def nj (t:Adr):Sp:=fun vs H Q _=>∃ c n ds,∃ i:Nat,∃ d,vs=[.ref c,.str d.name]/\Uc t H c n ds/\ds[i]? = some d/\∀ a,Pe t H a d->Q (.ref a) H
section
variable {P:Program} {w:World} {K:W.Frag} {mg:Str->Option Value} {base:Heap} {t:Adr}
theorem GM (T:Txt w K mg t):Ub P w K mg base CX0 1 t.Qe t.ag q50 (OH t):=by
 refine T.xk.ok mf (fun vs H Q E h=>?_) (fun _ _ _ s H vs Q E hr h=>?_)
 ·obtain ⟨c,dx,n,wl,ds,rfl,_⟩:=h;rfl
 obtain ⟨c,dx,n,wl,ds,rfl,hc,hW,hnd,hdl,nt,q⟩:=h;have hu:=jy hr;refine ⟨_,(db (tf (pv 0) (pv 1) rfl)
   (db (tf (pv 0) (pv 2) rfl)
   (db (tf (pv 0) Jz rfl)
   (lb (Re PassesOwn.never rfl (Fv rfl T.Dj (cb (pv 2) fb)) (Qg (K:=K) (n:=2) rfl rfl (qc (Cb (i:=3) mf.nd rfl (Or.inl rfl) (.inl rfl)) (qc (Cb (i:=4) mf.nd rfl (Or.inl rfl) (.inl rfl)) Vg))) (lb (JC hu (Tc (pv 0) rfl) (Tc (pv 4) rfl) (pv 3) rfl))))))),?_⟩
 walk_at "RD";refine ⟨_,_,_,hc,T.zc,T.si,by decide,?_⟩;refine ⟨_,_,_,gb,T.zc,T.Vj,Sm (n:=999) (by decide),fun nd hn=>?_⟩;simp only [Vk] at hn ⊢;rw [show qh (Str.ofString "places") (V.int n) ([]:List (Str × V))=[(Str.ofString "places",V.int n)] from rfl,show qh (Str.ofString "ways") (V.ref wl) [(Str.ofString "places",V.int n)]=[(Str.ofString "places",V.int n),(Str.ofString "ways",V.ref wl)] from ud [Str.ofString "places"] rfl (by decide +kernel)] at hn ⊢;have hnc:c ≠ nd:=fun z=>by subst z;rw [gb] at hn;cases hn
 refine ⟨t.gc,dx,[(Str.ofString "places",V.int n),(Str.ofString "ways",V.ref wl)],by rw [zb hnc];exact gb,T.zc,T.Hh,show (2:Nat) < 1000 by decide,?_⟩;rw [show qh (Str.ofString "numbers") (V.ref nd) [(Str.ofString "places",V.int n),(Str.ofString "ways",V.ref wl)]=cF n wl nd from ud [Str.ofString "places",Str.ofString "ways"] rfl (by decide +kernel)];obtain ⟨as,w1,w2,al⟩:=hW;have hHn:H nd=none:=by rw [zb (Ne.symm hnc)] at hn;exact hn
 have sx:Vc c H (upd (upd (upd H c (.ins t.gc dx [(Str.ofString "places",V.int n),(Str.ofString "ways",V.ref wl)])) nd (.dK [])) c (.ins t.gc dx (cF n wl nd))):=fun b u hb e=>by
  rw [zb hb,zb (Kb e hHn),zb hb];exact e
 have hwc:wl ≠ c:=af w1 hc (by intro z;cases z);refine ⟨⟨_,SqL.of (sx _ _ hwc w1)⟩,?_⟩;refine Uj.enum (xs:=as.map V.ref) (fun i σ H'=>(∃ x y,σ=[some (V.ref c),some (V.int n),some (V.ref wl),x,y])/\H' c=some (.ins t.gc dx (cF n wl nd))/\H' nd=some (.dK (LB ds i))/\Vc c H H'/\NoT H') ?_ ?_ ?_ ?_
 ·exact ⟨⟨_,_,rfl⟩,gb,by rw [zb (Ne.symm hnc),gb];rfl,sx,((nt.upd).upd).upd⟩
 ·rintro i σ H' hi zzq;refine zP fun zzM zzh=>?_
  obtain ⟨_,_,_,sx',_⟩:=zzq;subst zzh;exact SqL.of (sx' _ _ hwc w1)
 ·rintro i v σ H' p hv ⟨⟨x,y,rfl⟩,h1,h2,sx',nt'⟩ hp;obtain ⟨a,ha,rfl⟩:=Mb hv;obtain ⟨hi,_⟩:=List.getElem?_eq_some_iff.mp ha;have hid:i < ds.length:=by omega
  have hd:ds[i]? = some ds[i]:=getElem?_eq_getElem hid;have Wa:Pe t H a ds[i]:=al i a _ ha hd;have hac:a ≠ c:=by
   obtain ⟨_,dx',e⟩:=Wa;intro z;subst z;rw [hc] at e;have e2:=Option.some.inj e;injection e2 with _ _ e3;exact absurd (congrArg List.length e3) (by show ¬ (0:Nat)=7;decide)
  have Wa':Pe t H' a ds[i]:=⟨Wa.1,Wa.2.imp fun dx' e=>sx' _ _ hac e⟩;have sp:bc H' (upd H' p (.tup [.int i,.ref a])):=jb hp;refine Ln ?_;walk_at "RD";refine ⟨_,js T (sp _ _ h1),_,(Wa'.same sp).f_name T,_,rfl,_,dF.k (k:=Sum.inr ds[i].name) (sp _ _ h2) (Nat.lt_of_le_of_lt (show (LB ds i).length <= 12 by unfold LB;rw [length_map,length_range];omega) (by decide)),?_⟩;rw [<- Mn hd,RF hnd hid];refine ⟨⟨_,rfl⟩,?_,gb,fun b u hb e=>?_,(nt'.upd).upd⟩
  ·rw [zb hnc];exact sp _ _ h1
  ·rw [zb (Kb e hHn)];exact sp _ _ (sx' b u hb e)
 ·rintro σ H' zzq;refine zP fun zzM zzh=>?_
  obtain ⟨⟨x,y,rfl⟩,h1,h2,sx',nt'⟩:=zzq;subst zzh;walk_at "RD";rw [length_map,w2] at h2;refine q H' sx' nt' ⟨⟨hnd,hdl⟩,dx,wl,nd,h1,⟨as,sx' _ _ hwc w1,w2,fun i a d h3 h4=>?_⟩,h2⟩;have Wa:=al i a d h3 h4;have hac:a ≠ c:=by
   obtain ⟨_,dx',e⟩:=Wa;intro z;subst z;rw [hc] at e;have e2:=Option.some.inj e;injection e2 with _ _ e3;exact absurd (congrArg List.length e3) (by show ¬ (0:Nat)=7;decide)
  exact ⟨Wa.1,Wa.2.imp fun dx' e=>sx' _ _ hac e⟩
theorem OB (T:Txt w K mg t):Ub P w K mg base CX0 1 t.ye t.bf q11 (gw t):=by
 refine T.Ui.ok Wm (fun vs H Q E h=>?_) (fun _ _ _ s H vs Q E hr h=>?_)
 ·obtain ⟨c,n,ds,i,d,rfl,_⟩:=h;rfl
 obtain ⟨c,n,ds,i,d,rfl,⟨⟨hnd,hdl⟩,dx,wl,nd,e1,e2,e3⟩,hd,q⟩:=h;have hu:=jy hr;have hv:jk (LB ds ds.length) (Sum.inr d.name)=some (.int i):=by
  rw [<- Mn hd];exact qH hnd (List.getElem?_eq_some_iff.mp hd).1 (Nat.le_refl _)
 have hg:Cw H nd (.str d.name) (some (.int i)):=by rw [<- hv];exact Cw.k (k:=Sum.inr d.name) e3
 refine ⟨_,(db (Gd (mI (Dw hu (pv 1) (Tc (pv 0) rfl))) (lb lh) fc)
   (lb (Qb (zE hu (Tc (pv 0) rfl) (pv 1) (fun _ _=>rfl))))),?_⟩
 walk_at "RD";refine ac false (fun Q hQ=>?_) (fun hc=>nomatch hc) (fun _=>?_)
 ·walk_at "RD";refine ⟨_,js T e1,_,rfl,_,hg,?_⟩;exact hQ
 ·walk_at "RD";exact ⟨_,js T e1,_,rfl,_,hg,q⟩
theorem el (T:Txt w K mg t):Ub P w K mg base CX0 2 t.Kc t.Yc q11 (nj t):=by
 have g45:Ub P w K mg base CX0 1 t.ye t.bf q11 (gw t):=OB T;refine T.Ri.ok Bn (fun vs H Q E h=>?_) (fun _ _ _ s H vs Q E hr h=>?_)
 ·obtain ⟨c,n,ds,i,d,rfl,_⟩:=h;rfl
 obtain ⟨c,n,ds,i,d,rfl,C,hd,q⟩:=h;obtain ⟨⟨hnd,hdl⟩,dx,wl,nd,e1,⟨as,w1,w2,al⟩,e3⟩:=id C;refine ⟨_,(lb (Qb (ic Yb (Tc (pv 0) rfl) (qd (pv 0) T.zc T.Jo g45 hr T.ko .nil Db (cb (pv 1) fb)) (fun _ _=>rfl)))),?_⟩;walk_at "RD";refine ⟨_,GH T e1,_,_,e1,EB _ _ _ (by decide +kernel),⟨c,n,ds,i,d,rfl,C,hd,?_⟩⟩;have hi:i < as.length:=by rw [w2];exact (List.getElem?_eq_some_iff.mp hd).1
 have ha:as[i]? = some as[i]:=getElem?_eq_getElem hi;walk_at "RD";refine ⟨_,SqL.of w1,_,Eb (show (as.map V.ref)[i]? = some (V.ref as[i]) by rw [getElem?_map,ha];rfl),?_⟩;exact q as[i] (al i _ d ha hd)
theorem wN (T:Txt w K mg t):Ub P w K mg base CX0 7 t.bg t.cg ["text"] (AM t):=by
 have g26:Ub P w K mg base CX0 6 t.Ck t.vk ["text"] (eo t):=(au T).mono (by decide);have g46:Ub P w K mg base CX0 6 t.Lj t.rj ["reader"] (xD t):=(bJ T).mono (by decide);have g47:Ub P w K mg base CX0 6 t.Jl t.Fl q39 (XH t):=CM T;have g48:Ub P w K mg base CX0 5 t.Qe t.ag q50 (OH t):=(GM T).mono (by decide);refine T.Hf.ok Ge (fun vs H Q E h=>?_) (fun _ _ _ s H vs Q E hr h=>?_)
 ·obtain ⟨n,ds,rfl,_⟩:=h;rfl
 obtain ⟨n,ds,rfl,hC,nt,qq⟩:=h;refine ⟨_,(db (Fb (i:=1) Ge.nd rfl (Or.inl rfl) (vb g26 hr rfl T.bw T.cn.kp T.uw .nil Db (cb (pv 0) fb)))
   (db (Fb (i:=2) Ge.nd rfl (Or.inl rfl) (vb g46 hr rfl T.Xy T.vm.kp T.Wy .nil Db (cb (ic Yb (pv 1) ib (fun _ _=>rfl)) fb)))
   (db (Fb (i:=3) Ge.nd rfl (Or.inl rfl) (sd fb))
   (db (Re PassesOwn.never rfl (Dc (fe Fm (pv 1) (Ke ib) lf)) (Cb (i:=4) Ge.nd rfl (Or.inl rfl)) (db (Gd (Ob ve (Vb Ib rfl T.Bf Rb (cb (pv 3) fb)) (qe rfl T.Px T.Ny) (Sb _)) (lb lh) fc)
   (lb (nc (Se PySem.F.plainAttrs_list PySem.F.slot_list_append PySem.F.type_list_append we (pv 3) (cb (vb g47 hr rfl T.eA T.Fo.kp T.cA .nil Db (cb (pv 4) (cb (pv 2) (cb (pv 3) fb)))) fb))))))
   (db (Gd (uu (Tz (pv 3) (fun _=>rfl))) (lb lh) fc)
   (lb (Qb (qo T.DA g48 hr rfl T.JA T.iq .nil Db (cb (pv 2) (cb (pv 3) fb)))))))))),?_⟩
 have hrow:=kB hC;have hlen:=SE hC;have hnn:=hC.nn;have hln:=hC.ln;walk_at "RD";refine ⟨vv n ds,rfl,by omega,?_,nt,fun p H1 sm1 nt1 R=>?_⟩
 ·rw [hrow];intro r hr;refine ⟨?_,fun x hx=>Nat.le_trans (hC.plain r hr x hx).1 (by decide)⟩;rcases List.mem_cons.mp hr with rfl | hr
  ·show (2:Nat) <= 1000;decide
  ·obtain ⟨d,hd,rfl⟩:=List.mem_map.mp hr;show (7:Nat) <= 1000;decide
 rw [hrow] at R;obtain ⟨qs,hp,hp0,hql,hqa⟩:=R;have hql':qs.length=ds.length + 1:=by rw [hql];simp [Di]
 obtain ⟨q0,qr,rfl⟩:∃ q0 qr,qs=q0 :: qr:=by
  cases qs with
  | nil=>simp at hql'
  | cons a b=>exact ⟨a,b,rfl⟩
 obtain ⟨R0,hq0⟩:=hqa 0 q0 _ rfl rfl;walk_at "RD";refine ⟨_,SqL.of hp,_,Eb (j:=0) rfl,⟨q0,_,n,rfl,R0,hnn,nt1,fun H2 s2 nt2=>⟨Nat.zero_le _,fun wl hwl=>?_⟩⟩⟩;obtain ⟨C0,dq0,fq0,hins⟩:=R0.ins;have hpq:p ≠ q0:=af hp hins (by intro z;cases z);have hp2:H2 p=some (.lst ((q0 :: qr).map V.ref)):=s2 _ _ hpq hp;have swl:bc H2 (upd H2 wl (.lst [])):=jb hwl;have hcut:Kt ((q0 :: qr).map V.ref) (some 1) none=qr.map V.ref:=by
  unfold Kt;simp [HT.sIx];exact take_of_length_le (by rw [length_map];exact Nat.le_refl _)
 refine ⟨_,SqL.of (swl _ _ hp2),fun pc hpc=>?_⟩;rw [hcut];have hpw:pc ≠ wl:=fun z=>by subst z;rw [gb] at hpc;cases hpc
 have spc:bc (upd H2 wl (.lst [])) (upd (upd H2 wl (.lst [])) pc (.lst (qr.map V.ref))):=jb hpc;refine ⟨⟨_,SqL.of gb⟩,?_⟩;have sH2:bc H H2:=sh sm1 s2 hq0;have hqrl:qr.length=ds.length:=by simpa using hql'
 refine Uj.list (xs:=qr.map V.ref) (fun i σ H'=>(∃ x,σ=[some (V.str (vv n ds)),some (V.ref p),some (V.int n),some (V.ref wl),x])/\NoT H'/\bc H H'/\H' pc=some (.lst (qr.map V.ref))/\H wl=none/\Ik t H' wl (ds.take i) /\
  ∀ (j:Nat) (q:Addr) (d:WD),i <= j->qr[j]? = some q->ds[j]? = some d->Ye t H' q ((j + 1:Nat):Int) (qk d) 0/\H q=none) ?_ ?_ ?_ ?_
 ·refine ⟨⟨_,rfl⟩,(nt2.upd).upd,(sH2.trans swl).trans spc,gb,sH2.free hwl,⟨[],spc _ _ gb,rfl,fun j a d h=>by simp at h⟩,fun j q d _ h1 h2=>?_⟩;have hr:(Di n ds)[j + 1]? = some (qk d):=by
   unfold Di;rw [List.getElem?_cons_succ,getElem?_map,h2];rfl
  obtain ⟨Rj,hqj⟩:=hqa (j + 1) q _ (by rw [List.getElem?_cons_succ];exact h1) hr;refine ⟨((Rj.sameX s2 (xI Rj R0 (by omega)) R0.ins).same swl).same spc,hqj⟩
 ·rintro i σ H' hi zzq;refine zP fun zzM zzh=>?_
  obtain ⟨_,_,_,h,_⟩:=zzq;subst zzh;exact SqL.of h
 ·rintro i v σ H' hv zzq;refine zP fun zzM zzh=>?_
  obtain ⟨⟨x,rfl⟩,nt',sm',hpc',hwl0,W,Rs⟩:=zzq;obtain ⟨q,hq,rfl⟩:=Mb hv;obtain ⟨hi,_⟩:=List.getElem?_eq_some_iff.mp hq;have hid:i < ds.length:=by omega
  have hd:ds[i]? = some ds[i]:=getElem?_eq_getElem hid;obtain ⟨Rq,hqn⟩:=Rs i q _ (Nat.le_refl _) hq hd;have htl:(ds.take i).length=i:=by rw [length_take];omega
  obtain ⟨as,w1,w2,al⟩:=id W;subst zzh;walk_at "RD";refine ac false (fun Q hQ=>?_) (fun hc=>nomatch hc) (fun _=>?_)
  ·walk_at "RD";refine ⟨_,.inl (SqL.of w1),?_⟩;rw [length_map,w2,htl];rw [decide_eq_false (by omega)] <;> exact hQ
  ·walk_at "RD";refine ⟨.inl ⟨_,SqL.of w1⟩,?_⟩;refine ⟨q,_,n,wl,ds.take i,ds[i],rfl,Rq,hC.al _ (getElem_mem hid),hnn,W,by omega,fun e he z=>?_,nt',fun y H3 s3 nt3 w3 hy3=>?_⟩
   ·obtain ⟨j,hj,rfl⟩:=List.getElem_of_mem he;rw [List.getElem_take] at z;have hj':j < i:=by omega
    have:=Pr hC.nd (i:=j) (j:=i) (by omega) hid (by rw [Mn (getElem?_eq_getElem (by omega)),Mn hd];exact z);omega
   ·walk_at "RD";obtain ⟨Cq,dq,fq,hqi⟩:=Rq.ins;have hwq:wl ≠ q:=af w1 hqi (by intro z;cases z);have hw3:H3 wl=some (.lst (as.map V.ref)):=s3 _ _ hwq w1;have hsm3:bc H H3:=sh sm' s3 hqn;refine ⟨_,hw3,Nat.lt_of_le_of_lt (show (as.map V.ref).length <= 12 by rw [length_map];omega) (by decide),?_⟩;have hyw:y ≠ wl:=fun z=>by
     subst z;rw [w1] at hy3;cases hy3
    refine ⟨⟨_,rfl⟩,nt3.upd,fun b u e=>?_,?_,hwl0,⟨as ++ [y],by rw [gb,map_append];rfl,?_,fun j a d h1 h2=>?_⟩,fun j q' d hj h1 h2=>?_⟩
    ·rw [zb (Kb e hwl0)];exact hsm3 _ _ e
    ·rw [zb hpw];exact s3 _ _ (af hpc' hqi (by intro z;cases z)) hpc'
    ·rw [length_append,w2,htl,length_take];show i + 1=_;omega
    ·by_cases hj:j < as.length
     ·rw [getElem?_append_left hj] at h1;have h2':(ds.take i)[j]? = some d:=by
       rw [List.getElem?_take_of_lt (by omega)];rw [List.getElem?_take_of_lt (by omega)] at h2;exact h2
      obtain ⟨hk,dx',e⟩:=al j a d h1 h2';have haq:a ≠ q:=Ww ⟨hk,dx',e⟩ Rq;have haw:a ≠ wl:=af e w1 (by intro z;cases z);exact ⟨hk,dx',by rw [zb haw];exact s3 _ _ haq e⟩
     ·rw [getElem?_append_right (by omega)] at h1;have hj0:j - as.length=0:=by
       cases hh:j - as.length with
       | zero=>rfl
       | succ m=>rw [hh] at h1;simp at h1
      rw [hj0] at h1;have e3:y=a:=by simpa using h1
      subst e3;have e4:j=i:=by omega
      subst e4;rw [List.getElem?_take_of_lt (by omega),hd] at h2;cases h2;exact ⟨w3.1,w3.2.imp fun dx' e=>by rw [zb hyw];exact e⟩
    ·obtain ⟨Rj,hqj⟩:=Rs j q' d (by omega) h1 h2;have R3:=Rj.sameX s3 (xI Rj Rq (by omega)) Rq.ins;refine ⟨?_,hqj⟩;obtain ⟨hz,dx',ta,e1,e2⟩:=R3;refine ⟨hz,dx',ta,by rw [zb (af e1 hw3 (by intro z;cases z))];exact e1,?_⟩;rw [zb (fun z=>by
      subst z;rw [hw3] at e2;have e5:=Option.some.inj e2;injection e5 with e6;cases as with
      | nil=>exact absurd (congrArg List.length e6) (by show ¬ (0:Nat)=7;decide)
      | cons a r=>injection e6 with e7 _;cases e7)]
     exact e2
 ·rintro σ H' zzq;refine zP fun zzM zzh=>?_
  obtain ⟨⟨x,rfl⟩,nt',sm',hpc',hwl0,W,Rs⟩:=zzq;subst zzh;rw [length_map,hqrl,take_length] at W;obtain ⟨as,w1,w2,al⟩:=id W;walk_at "RD";refine ac false (fun Q hQ=>?_) (fun hc=>nomatch hc) (fun _=>?_)
  ·walk_at "RD";refine ⟨true,.inl ⟨_,SqL.of w1,?_⟩,hQ⟩;cases as with
   | nil=>simp at w2;omega
   | cons a r=>rfl
  ·walk_at "RD";intro c dx hc hdx hne;have sc:bc H' (upd (upd H' dx (.own c)) c (.ins t.gc dx [])):=((bc.refl H').updN hdx).updN hc;refine ⟨c,dx,n,wl,ds,rfl,gb,W.same sc,hC.nd,hln.2,(nt'.upd).upd,fun H5 s5 nt5 C5=>⟨rfl,?_⟩⟩;exact qq c H5 (sh (sm'.trans sc) s5 (sm'.free hc)) nt5 C5
end
section
variable {P:Program} {w:World} {K:W.Frag} {mg:Str->Option Value} {base:Heap} {t:Adr}
theorem qv (T:Txt w K mg t):Ub P w K mg base CX0 1 t.Ad t.Vd ["self"] (Qp t):=by
 refine T.Qj.ok Bo (fun vs H Q E h=>?_) (fun _ _ _ s H vs Q E hr h=>?_)
 ·obtain ⟨c,n,ds,rfl,_⟩:=h;rfl
 obtain ⟨c,n,ds,rfl,⟨⟨hnd,hdl⟩,dx,wl,nd,e1,⟨as,w1,w2,al⟩,e3⟩,q⟩:=h;refine ⟨_,(lb (Qb (Qd rfl (Dc (Tc (pv 0) rfl)) (dc (sc:=pb Rg) rfl (by decide +kernel)) (N:=["way"]) (sel:=[none]) (Cc (M:=["self"]) (by decide +kernel)) (Blk.of (fun _ _ _ _=>(Cb (i:=0) (se (N:=["way"]) (by decide +kernel) rfl) rfl (Or.inl rfl))) (fun _ _ _ _=>⟨_,Fd,by walk_at "B"⟩) (fun _ _ _ _=>⟨_,(Tc (pv 0) rfl),by walk_at "B"⟩))))),?_⟩;walk_at "RD";refine ⟨_,GH T e1,_,rfl,⟨_,SqL.of w1⟩,?_⟩;refine jd.list_zs (xs:=as.map V.ref) (zs:=qb (ds.map (·.name))) (SqL.of w1) (by rw [length_map,w2];exact Nat.le_trans hdl (by decide)) (by rw [yb,length_map,length_map,w2]) (fun i v z N hv hz' hN=>?_) (fun p hp=>q p hp);obtain ⟨a,ha,rfl⟩:=Mb hv;obtain ⟨x,hx,rfl⟩:=Mb hz';obtain ⟨d,hd,rfl⟩:=Mb hx;walk_at "RD";exact ⟨Sub.name,_,(al i a d ha hd).f_name T,hN⟩
end
end My
namespace My
open PySem L2
theorem Sz {n s p:Int} (h0:0 <= s) (h1:s < n) (h2:0 <= p) (h3:p < n):(p - s) % n=if s <= p then p - s else p - s + n:=by
 split
 ·rename_i h;exact Int.emod_eq_of_lt (by omega) (by omega)
 ·rename_i h;have e:(p - s) % n=(p - s + n) % n:=(Int.add_emod_right ..).symm;rw [e];exact Int.emod_eq_of_lt (by omega) (by omega)
noncomputable def Dm (n s f p:Int):Bool:=decide (0 < (p - s) % n) && decide ((p - s) % n < (f - s) % n)
noncomputable def Wx (n s f s2 f2:Int):Bool:=decide (f=f2) || (if (s2=s\/s2=f)\/(f2=s\/f2=f) then false else (Dm n s f s2 != Dm n s f f2))
theorem wG {s f p:Int} (h1:p ≠ s) (h2:p ≠ f) (h3:s ≠ f):((decide (s < f) && decide (f < p) && !decide (s < p)) || (!decide (s < f) && !decide (f < p) && decide (s < p)))=false:=by
 by_cases a:s < f <;> by_cases b:f < p
 ·rw [decide_eq_true a,decide_eq_true b,decide_eq_true (show s < p by omega)];rfl
 ·rw [decide_eq_true a,decide_eq_false b];rfl
 ·rw [decide_eq_false a,decide_eq_true b];rfl
 ·rw [decide_eq_false a,decide_eq_false b,decide_eq_false (show ¬ s < p by omega)];rfl
theorem KA {s p:Int} (h:s ≠ p):decide (p < s) = !decide (s < p):=by
 by_cases a:s < p
 ·rw [decide_eq_true a,decide_eq_false (by omega)];rfl
 ·rw [decide_eq_false a,decide_eq_true (by omega)];rfl
theorem Cv {n s f p:Int} (hs:0 <= s/\s < n) (hf:0 <= f/\f < n) (hp:0 <= p/\p < n) (h1:p ≠ s) (h2:p ≠ f) (h3:s ≠ f):Dm n s f p=((decide (s < p) && decide (p < f)) || (decide (p < f) && decide (f < s)) || (decide (f < s) && decide (s < p))):=by
 unfold Dm;rw [Sz hs.1 hs.2 hp.1 hp.2,Sz hs.1 hs.2 hf.1 hf.2,decide_eq_true (show 0 < (if s <= p then p - s else p - s + n) by split <;> omega),Bool.true_and,KA h3];by_cases a:s < p <;> by_cases b:s < f
 ·rw [if_pos (by omega),if_pos (by omega),decide_eq_true a,decide_eq_true b,show decide (p - s < f - s)=decide (p < f) from decide_eq_decide.mpr (by omega)];cases decide (p < f) <;> rfl
 ·rw [if_pos (by omega),if_neg (by omega),decide_eq_true a,decide_eq_false b,decide_eq_true (show p - s < f - s + n by omega)];cases decide (p < f) <;> rfl
 ·rw [if_neg (by omega),if_pos (by omega),decide_eq_false a,decide_eq_true b,decide_eq_false (show ¬ p - s + n < f - s by omega)];cases decide (p < f) <;> rfl
 ·rw [if_neg (by omega),if_neg (by omega),decide_eq_false a,decide_eq_false b,show decide (p - s + n < f - s + n)=decide (p < f) from decide_eq_decide.mpr (by omega)];cases decide (p < f) <;> rfl
theorem IN:∀ a b c d e g:Bool,((a && d && !b) || (!a && !d && b))=false->((a && e && !c) || (!a && !e && c))=false->((b && g && !c) || (!b && !g && c))=false->((d && g && !e) || (!d && !g && e))=false ->
  (((b && !d) || (!d && !a) || (!a && b)) != ((c && !e) || (!e && !a) || (!a && c)))=(((!b && c) || (c && !g) || (!g && !b)) != ((!d && e) || (e && !g) || (!g && !d))):=by decide +kernel
theorem QA {n s f s2 f2:Int} (hs:0 <= s/\s < n) (hf:0 <= f/\f < n) (hs2:0 <= s2/\s2 < n) (hf2:0 <= f2/\f2 < n) (hne:s ≠ f) (hne2:s2 ≠ f2):Wx n s f s2 f2=Wx n s2 f2 s f:=by
 unfold Wx;by_cases e:f=f2
 ·rw [decide_eq_true e,decide_eq_true e.symm];rfl
 ·rw [decide_eq_false e,decide_eq_false (Ne.symm e)];by_cases c:(s2=s\/s2=f)\/(f2=s\/f2=f)
  ·have c':(s=s2\/s=f2)\/(f=s2\/f=f2):=by omega
   rw [if_pos c,if_pos c']
  ·have c':¬ ((s=s2\/s=f2)\/(f=s2\/f=f2)):=by omega
   rw [if_neg c,if_neg c'];have n1:s2 ≠ s:=by omega
   have n2:s2 ≠ f:=by omega
   have n3:f2 ≠ s:=by omega
   have n4:f2 ≠ f:=by omega
   rw [Bool.false_or,Bool.false_or,Cv hs hf hs2 n1 n2 hne,Cv hs hf hf2 n3 n4 hne,Cv hs2 hf2 hs n1.symm n3.symm hne2,Cv hs2 hf2 hf n2.symm n4.symm hne2,KA n1.symm,KA n2.symm,KA n4.symm,KA hne,KA hne2];exact IN _ _ _ _ _ _ (wG n1 n2 hne) (wG n3 n4 hne) (wG n3 hne2.symm n1.symm) (wG n4 hne2.symm n2.symm)
noncomputable abbrev mt (n:Int) (d e:WD):Bool:=Wx n d.start d.fin e.start e.fin
noncomputable def SH (t:Adr):Sp:=fun vs H Q _=>∃ a d n p,vs=[.int n,.ref a,.int p]/\Pe t H a d/\0 < n/\Q (.bl (Dm n d.start d.fin p)) H
noncomputable def dM (n:Int) (d e:WD):Bool:=if (e.start=d.start\/e.start=d.fin)\/(e.fin=d.start\/e.fin=d.fin) then false else (Dm n d.start d.fin e.start != Dm n d.start d.fin e.fin)
noncomputable def OD (t:Adr):Sp:=fun vs H Q _=>∃ a b d e n,vs=[.int n,.ref a,.ref b]/\Pe t H a d/\Pe t H b e/\0 < n/\NoT H/\Q (.bl (dM n d e)) H
noncomputable def VG (t:Adr):Sp:=fun vs H Q _=>∃ a b d e n,vs=[.int n,.ref a,.ref b]/\Pe t H a d/\Pe t H b e/\0 < n/\∀ H',bc H H'->Q (.bl (dM n d e)) H'
noncomputable def Gy (t:Adr):Sp:=fun vs H Q _=>∃ c n ds,∃ i j:Nat,∃ d e,vs=[.ref c,.str d.name,.str e.name]/\Uc t H c n ds/\0 < n/\ds[i]? = some d/\ds[j]? = some e/\NoT H/\Q (.bl (mt n d e)) H
section
variable {P:Program} {w:World} {K:W.Frag} {mg:Str->Option Value} {base:Heap} {t:Adr}
theorem JL (T:Txt w K mg t):Ub P w K mg base CX0 1 t.Zp t.Yp q33 (SH t):=by
 refine T.Vp.ok Uv (fun vs H Q E h=>?_) (fun _ _ _ s H vs Q E hr h=>?_)
 ·obtain ⟨a,d,n,p,rfl,_⟩:=h;rfl
 obtain ⟨a,d,n,p,rfl,W,hn,q⟩:=h;refine ⟨_,(db (Fb (i:=3) Uv.nd rfl (Or.inl rfl) (Pb Og (Pb ck (pv 2) (Tc (pv 1) rfl)) (pv 0)))
   (lb (Qb (aE (Dd Iu ib (pv 3) (Sb _)) (Ew (Dd Iu (pv 3) (Pb Og (Pb ck (Tc (pv 1) rfl) (Tc (pv 1) rfl)) (pv 0)) (Sb _))))))),?_⟩
 walk_at "RD";refine ⟨_,W.f_start T,_,rfl,hn,?_⟩;unfold Dm at q;by_cases c:0 < (p - d.start) % n
 ·rw [if_pos (decide_eq_true c)];rw [decide_eq_true c,Bool.true_and] at q;exact ⟨_,W.f_end T,_,W.f_start T,_,rfl,_,rfl,hn,q⟩
 ·rw [if_neg (by simpa using c)];rw [decide_eq_false c,Bool.false_and] at q;exact q
theorem dO (x a b:Int):inV (.int x) [.int a,.int b]=decide (x=a\/x=b):=by
 unfold inV;simp only [any_cons,List.any_nil,eqV,Bool.or_false];rw [Bool.eq_iff_iff];simp only [Bool.or_eq_true,beq_iff_eq,decide_eq_true_eq];omega
theorem QI (T:Txt w K mg t):Ub P w K mg base CX0 2 t.Xh t.mi q23 (OD t):=by
 refine Ub.forget (sp:=VG t) ?_ fun vs H Q E h=>?_
 ·have g30:Ub P w K mg base CX0 1 t.Zp t.Yp q33 (SH t):=JL T;refine T.ul.ok Wu (fun vs H Q E h=>?_) (fun _ _ _ s H vs Q E hr h=>?_)
  ·obtain ⟨a,b,d,e,n,rfl,_⟩:=h;rfl
  obtain ⟨a,b,d,e,n,rfl,Wa,Wb,hn,q⟩:=h;refine ⟨_,(db (Gd (PW.pt (wy (Ob Vn (Tc (pv 2) rfl) (sd (cb (Tc (pv 1) rfl) (cb (Tc (pv 1) rfl) fb))) (by with_unfolding_all rfl)) (nu (Ob Vn (Tc (pv 2) rfl) (sd (cb (Tc (pv 1) rfl) (cb (Tc (pv 1) rfl) fb))) (by with_unfolding_all rfl))))) (lb (Qb cy)) fc)
   (lb (Qb (Dd Ly (vb g30 hr rfl T.Bz T.Vp.kp T.bz .nil Db (cb (pv 0) (cb (pv 1) (cb (Tc (pv 2) rfl) fb)))) (vb g30 hr rfl T.Bz T.Vp.kp T.bz .nil Db (cb (pv 0) (cb (pv 1) (cb (Tc (pv 2) rfl) fb)))) (Sb _))))),?_⟩
  walk_at "RD";refine lv (fun b H'=>bc H H'/\b=decide ((e.start=d.start\/e.start=d.fin)\/(e.fin=d.start\/e.fin=d.fin))) (fun Q hQ=>?_) (fun H' ⟨sm,hb⟩=>?_) (fun H' ⟨sm,hb⟩=>?_)
  ·walk_at "RD";refine ⟨_,Wb.f_start T,_,Wa.f_start T,_,Wa.f_end T,by decide,fun p hp=>⟨_,.inl (SqL.of gb),rfl,rfl,?_⟩⟩;have s1:bc H (upd H p (.lst [.int d.start,.int d.fin])):=jb hp;rw [dO];by_cases c1:e.start=d.start\/e.start=d.fin
   ·rw [if_pos (decide_eq_true c1)];exact hQ _ _ ⟨s1,(decide_eq_true (.inl c1)).symm⟩
   ·rw [if_neg (by simpa using c1)];refine ⟨_,(Wb.same s1).f_end T,_,(Wa.same s1).f_start T,_,(Wa.same s1).f_end T,by decide,fun p2 hp2=>⟨_,.inl (SqL.of gb),rfl,rfl,?_⟩⟩;rw [dO];refine hQ _ _ ⟨s1.trans (jb hp2),?_⟩;rw [Bool.eq_iff_iff,decide_eq_true_eq,decide_eq_true_eq];exact ⟨.inr,fun z=>z.resolve_left c1⟩
  ·walk_at "RD";have hb':=of_decide_eq_true hb.symm;have:=q H' sm;unfold dM at this;rw [if_pos hb'] at this;exact this
  ·walk_at "RD";have hb':=of_decide_eq_false hb.symm;refine ⟨_,(Wb.same sm).f_start T,⟨a,d,n,_,rfl,Wa.same sm,hn,?_⟩⟩;refine ⟨_,(Wb.same sm).f_end T,⟨a,d,n,_,rfl,Wa.same sm,hn,?_⟩⟩;refine ⟨rfl,?_⟩;have:=q H' sm;unfold dM at this;rw [if_neg hb'] at this;rw [show (!decide (V.bl (Dm n d.start d.fin e.start)=V.bl (Dm n d.start d.fin e.fin)))=(Dm n d.start d.fin e.start != Dm n d.start d.fin e.fin) by
    cases Dm n d.start d.fin e.start <;> cases Dm n d.start d.fin e.fin <;> rfl]
   exact this
 ·obtain ⟨a,b,d,e,n,h1,h2,h3,h4,nt,q⟩:=h;exact ⟨nt,a,b,d,e,n,h1,h2,h3,h4,fun H' sm=>⟨sm,q⟩⟩
theorem JN (n:Int) (d e:WD):mt n d e=(decide (d.fin=e.fin) || dM n d e):=rfl
theorem IC (T:Txt w K mg t):Ub P w K mg base CX0 3 t.Ov t.Dx q14 (Gy t):=by
 have g9:Ub P w K mg base CX0 2 t.Kc t.Yc q11 (nj t):=el T;have g49:Ub P w K mg base CX0 2 t.Xh t.mi q23 (OD t):=QI T;refine T.Hz.ok Ey (fun vs H Q E h=>?_) (fun _ _ _ s H vs Q E hr h=>?_)
 ·obtain ⟨c,n,ds,i,j,d,e,rfl,_⟩:=h;rfl
 obtain ⟨c,n,ds,i,j,d,e,rfl,C,hn,hd,he,nt,q⟩:=h;obtain ⟨_,dx,wl,nd,e1,e2,e3⟩:=id C;refine ⟨_,(db (Fb (i:=3) Ey.nd rfl (Or.inl rfl) (qd (pv 0) T.zc T.Xc g9 hr T.Wc .nil Db (cb (pv 1) fb)))
   (db (Fb (i:=4) Ey.nd rfl (Or.inl rfl) (qd (pv 0) T.zc T.Xc g9 hr T.Wc .nil Db (cb (pv 2) fb)))
   (lb (Qb (jL (Dd ve (Tc (pv 3) rfl) (Tc (pv 4) rfl) (Sb _)) (Ew (vb g49 hr rfl T.Gw T.ul.kp T.jw .nil Db (cb (Tc (pv 0) rfl) (cb (pv 3) (cb (pv 4) fb)))))))))),?_⟩
 rw [JN] at q;walk_at "RD";refine ⟨_,_,e1,EB _ _ _ (by decide +kernel),⟨c,n,ds,i,d,rfl,C,hd,fun a Wa=>?_⟩⟩;walk_at "RD";refine ⟨_,_,e1,EB _ _ _ (by decide +kernel),⟨c,n,ds,j,e,rfl,C,he,fun b Wb=>?_⟩⟩;walk_at "RD";refine ⟨_,Wa.f_end T,_,Wb.f_end T,rfl,?_⟩;walk_at "RD";by_cases c1:d.fin=e.fin
 ·rw [if_pos (decide_eq_true c1)];rw [decide_eq_true c1,Bool.true_or] at q;exact q
 ·rw [if_neg (by simpa using c1)];rw [decide_eq_false c1,Bool.false_or] at q;exact ⟨_,tG T e1,⟨a,b,d,e,n,rfl,Wa,Wb,hn,nt,q⟩⟩
end
noncomputable def nI (t:Adr):Sp:=fun vs H Q _=>∃ c n ds,∃ i j:Nat,∃ d e,vs=[.ref c,.str d.name,.str e.name]/\Uc t H c n ds/\ds[i]? = some d/\ds[j]? = some e/\Q (.int (if d.off - e.near > 0 then d.off - e.near else 0)) H
section
variable {P:Program} {w:World} {K:W.Frag} {mg:Str->Option Value} {base:Heap} {t:Adr}
theorem wM (T:Txt w K mg t):Ub P w K mg base CX0 3 t.GF t.iG q14 (nI t):=by
 have g9:Ub P w K mg base CX0 2 t.Kc t.Yc q11 (nj t):=el T;refine T.LJ.ok eE (fun vs H Q E h=>?_) (fun _ _ _ s H vs Q E hr h=>?_)
 ·obtain ⟨c,n,ds,i,j,d,e,rfl,_⟩:=h;rfl
 obtain ⟨c,n,ds,i,j,d,e,rfl,C,hd,he,q⟩:=h;obtain ⟨_,dx,wl,nd,e1,e2,e3⟩:=id C;refine ⟨_,(db (Fb (i:=3) eE.nd rfl (Or.inl rfl) (qd (pv 0) T.zc T.Xc g9 hr T.Wc .nil Db (cb (pv 1) fb)))
   (db (Fb (i:=4) eE.nd rfl (Or.inl rfl) (qd (pv 0) T.zc T.Xc g9 hr T.Wc .nil Db (cb (pv 2) fb)))
   (lb (Qb (Vb (uC rfl) rfl T.NI wo (cb ib (cb (Pb ck (Tc (pv 3) rfl) (Tc (pv 4) rfl)) fb))))))),?_⟩
 walk_at "RD";refine ⟨_,_,e1,EB _ _ _ (by decide +kernel),⟨c,n,ds,i,d,rfl,C,hd,fun a Wa=>?_⟩⟩;walk_at "RD";refine ⟨_,_,e1,EB _ _ _ (by decide +kernel),⟨c,n,ds,j,e,rfl,C,he,fun b Wb=>?_⟩⟩;walk_at "RD";refine ⟨_,Wa.f_off T,_,Wb.f_near T,?_⟩;walk_at "RD";exact q
end
noncomputable def BO (x:Str):Prop:=x.length <= 1000/\∀ c ∈ x.cps.toList,c < 16 ^ 8
noncomputable def wOf (ds:List WD) (x:Str):Option WD:=ds.find? fun d=>decide (d.name=x)
theorem Ex {P:Program} {w:World} {K:W.Frag} {mg:Str->Option Value} {base:Heap} {CX:CXT} {j k:Nat} {OK:Addr->Prop} {m:Str} {ps:List Str} {SPV:Addr->Sp} (V:yK P w K mg base CX j OK m ps SPV) (h:j <= k):yK P w K mg base CX k OK m ps SPV:=⟨fun C hC=>by
 obtain ⟨f,fd,h1,h2,h3,h4⟩:=V.ok C hC;exact ⟨f,fd,h1,h2,h3.mono h,h4⟩⟩
end My
namespace My
open PySem L2
theorem Zd {α:Type} {xs:List α} {i:Nat} {x:α} (h:xs[i]? = some x):xs.take (i + 1)=xs.take i ++ [x]:=by
 rw [take_add_one,h];rfl
structure ST where
 lo:Int
 hi:Int
 mem:List Str
noncomputable def stO (r:ST) (m:Addr):HO:=.tup [.int r.lo,.int r.hi,.ref m]
structure fj (H:Hp) (p:Addr) (qs ms:List Addr) (rows:List ST):Prop where
 at_:H p=some (.lst (qs.map V.ref))
 l1:qs.length=rows.length
 l2:ms.length=rows.length
 al:∀ (i:Nat) (q m:Addr) (r:ST),qs[i]? = some q->ms[i]? = some m->rows[i]? = some r->H q=some (stO r m)/\H m=some (.lst (qb r.mem))
theorem fj.same {H H':Hp} {p:Addr} {qs ms:List Addr} {rows:List ST} (h:fj H p qs ms rows) (s:bc H H'):fj H' p qs ms rows:=
 ⟨s _ _ h.at_,h.l1,h.l2,fun i q m r a b c=>⟨s _ _ (h.al i q m r a b c).1,s _ _ (h.al i q m r a b c).2⟩⟩
structure Op (H:Hp) (p:Addr) (ms:List Addr) (mems:List (List Str)):Prop where
 at_:H p=some (.lst (ms.map V.ref))
 ln:ms.length=mems.length
 al:∀ (i:Nat) (m:Addr) (x:List Str),ms[i]? = some m->mems[i]? = some x->H m=some (.lst (qb x))
theorem Op.same {H H':Hp} {p:Addr} {ms:List Addr} {mems:List (List Str)} (h:Op H p ms mems) (s:bc H H'):Op H' p ms mems:=
 ⟨s _ _ h.at_,h.ln,fun i m x a b=>s _ _ (h.al i m x a b)⟩
noncomputable def xf (i:Nat) (kvs:List (Key × V)) (ms:List Str):List (Key × V):=ms.foldl (fun kvs x=>Mo kvs (Sum.inr x) (.int i)) kvs
noncomputable def Ef (mems:List (List Str)):List (Key × V):=mems.zipIdx.foldl (fun kvs e=>xf e.2 kvs e.1) []
theorem fG (kvs:List (Key × V)) (k:Key) (v:V):(Mo kvs k v).length <= kvs.length + 1:=by
 unfold Mo;split
 ·rw [length_map];omega
 ·rw [length_append];exact Nat.le_refl _
theorem xn (i:Nat) (kvs:List (Key × V)) (ms:List Str) (x:Str):xf i kvs (ms ++ [x])=Mo (xf i kvs ms) (Sum.inr x) (.int i):=by
 unfold xf;rw [List.foldl_append];rfl
theorem Hy (mems:List (List Str)) (ms:List Str):Ef (mems ++ [ms])=xf mems.length (Ef mems) ms:=by
 unfold Ef;rw [List.zipIdx_append,List.foldl_append];simp
theorem rk (i:Nat) (x:Str):∀ (ms:List Str) (kvs:List (Key × V)),jk (xf i kvs ms) (Sum.inr x)=if x ∈ ms then some (.int i) else jk kvs (Sum.inr x)
 | [],kvs=>by simp [xf]
 | y :: ms,kvs=>by
  show jk (xf i (Mo kvs (Sum.inr y) (.int i)) ms) (Sum.inr x)=_;rw [rk i x ms,sG];by_cases c:x ∈ ms
  ·rw [if_pos c,if_pos (mem_cons_of_mem _ c)]
  ·rw [if_neg c];by_cases d:x=y
   ·subst d;rw [if_pos rfl,if_pos (mem_cons_self ..)]
   ·rw [if_neg (fun e=>d (Sum.inr.inj e)),if_neg (fun e=>by
     rcases List.mem_cons.mp e with e | e
     ·exact d e
     ·exact c e)]
theorem rm {mems:List (List Str)} {i:Nat} {ms:List Str} (h:mems[i]? = some ms):Ef (mems.take (i + 1))=xf i (Ef (mems.take i)) ms:=by
 rw [Zd h,Hy,length_take,Nat.min_eq_left (Nat.le_of_lt (List.getElem?_eq_some_iff.mp h).1)]
theorem Zq {x:Str}:∀ (n:Nat) (mems:List (List Str)),n <= mems.length->((jk (Ef (mems.take n)) (Sum.inr x)).isSome=true↔∃ ms ∈ mems.take n,x ∈ ms)
 | 0,mems,_=>by simp [Ef,jk]
 | n + 1,mems,hn=>by
  have h:mems[n]? = some mems[n]:=getElem?_eq_getElem (by omega);rw [rm h,rk,Zd h];have ih:=Zq (x:=x) n mems (by omega);by_cases c:x ∈ mems[n]
  ·rw [if_pos c];exact ⟨fun _=>⟨_,mem_append_right _ (List.mem_singleton.mpr rfl),c⟩,fun _=>rfl⟩
  ·rw [if_neg c,ih];constructor
   ·rintro ⟨ms,h1,h2⟩;exact ⟨ms,mem_append_left _ h1,h2⟩
   ·rintro ⟨ms,h1,h2⟩;rcases List.mem_append.mp h1 with h1 | h1
    ·exact ⟨ms,h1,h2⟩
    ·rw [List.mem_singleton.mp h1] at h2;exact absurd h2 c
theorem bq (p:Str->Bool):∀ xs:List Str,((xs.map fun x=>if p x=true then some (V.str x) else none).flatMap Option.toList)=qb (xs.filter p)
 | []=>rfl
 | x :: xs=>by
  rw [map_cons,flatMap_cons,bq p xs];by_cases c:p x=true
  ·rw [if_pos c,List.filter_cons_of_pos c];rfl
  ·rw [if_neg c,List.filter_cons_of_neg c];rfl
noncomputable def told (rows:List ST) (x:Str):Bool:=rows.any fun r=>r.mem.contains x
noncomputable def Je (ds:List WD) (rows:List ST):List Str:=(ds.map (·.name)).filter fun x=>!told rows x
theorem Vt (rows:List ST) (x:Str):(jk (Ef (rows.map (·.mem))) (Sum.inr x)).isSome=told rows x:=by
 rw [Bool.eq_iff_iff];have:=Zq (x:=x) (rows.map (·.mem)).length (rows.map (·.mem)) (Nat.le_refl _);rw [take_length] at this;rw [this];unfold told;rw [List.any_eq_true];constructor
 ·rintro ⟨ms,h1,h2⟩;obtain ⟨r,hr,rfl⟩:=List.mem_map.mp h1;exact ⟨r,hr,by simpa using h2⟩
 ·rintro ⟨r,hr,h⟩;exact ⟨_,List.mem_map.mpr ⟨r,hr,rfl⟩,by simpa using h⟩
noncomputable def Gf (d:WD):Str:=if d.k=2 then Str.ofString "trams" else Str.ofString "others"
noncomputable def Tx (t:Adr):Sp:=fun vs H Q _=>∃ c n ds,∃ i:Nat,∃ d,vs=[.ref c,.str d.name]/\Uc t H c n ds/\ds[i]? = some d/\d.k < 3/\Q (.str (Gf d)) H
noncomputable def Wp:Sp:=fun vs H Q _=>∃ p ms mems,vs=[.ref p]/\Op H p ms mems/\mems.length <= 6/\(∀ x ∈ mems,x.length <= 12)/\∀ h H',bc H H'->(NoT H->NoT H')->H h=none->H' h=some (.dK (Ef mems))->Q (.ref h) H'
noncomputable def iy (t:Adr):Sp:=fun vs H Q _=>∃ c n ds p qs ms rows,vs=[.ref c,.ref p]/\Uc t H c n ds/\fj H p qs ms rows/\rows.length <= 6/\(∀ r ∈ rows,r.mem.length <= 12)/\∀ l H',bc H H'->(NoT H->NoT H')->H l=none->H' l=some (.lst (qb (Je ds rows)))->Q (.ref l) H'
section
variable {P:Program} {w:World} {K:W.Frag} {mg:Str->Option Value} {base:Heap} {t:Adr}
theorem bC (T:Txt w K mg t):Ub P w K mg base CX0 3 t.Uk t.Kk q21 (Tx t):=by
 have g9:Ub P w K mg base CX0 2 t.Kc t.Yc q11 (nj t):=el T;refine T.Rk.ok lB (fun vs H Q E h=>?_) (fun _ _ _ s H vs Q E hr h=>?_)
 ·obtain ⟨c,n,ds,i,d,rfl,_⟩:=h;rfl
 obtain ⟨c,n,ds,i,d,rfl,C,hd,hk,q⟩:=h;obtain ⟨_,dx,wl,nd,e1,_,_⟩:=id C;refine ⟨_,(lb (Qb (Jv (Ob ve (Tc (qd (pv 0) T.zc T.Xc g9 hr T.Wc .nil Db (cb (pv 1) fb)) rfl) Jb (Sb _)) Jb Jb))),?_⟩;walk_at "RD";refine ⟨_,_,e1,EB _ _ _ (by decide +kernel),c,n,ds,i,d,rfl,C,hd,fun a W=>⟨a,rfl,_,W.f_kind T,rfl,?_⟩⟩;unfold Gf at q;have hts:∀ k,k < 3->decide (V.str (oe k)=V.str (Str.ofString "tram"))=decide (k=2):=by decide +kernel
 rw [hts d.k hk];by_cases c2:d.k=2
 ·rw [if_pos (decide_eq_true c2)];rw [if_pos c2] at q;exact q
 ·rw [if_neg (by simpa using c2)];rw [if_neg c2] at q;exact q
theorem Ju (T:Txt w K mg t):Ub P w K mg base CX0 1 t.rh t.xh ["members"] Wp:=by
 refine T.Pi.ok Lh (fun vs H Q E h=>?_) (fun _ _ _ s H vs Q E hr h=>?_)
 ·obtain ⟨p,ms,mems,rfl,_⟩:=h;rfl
 obtain ⟨p,ms,mems,rfl,M,hml,hmx,q⟩:=h;have hu:=jy hr;refine ⟨_,(db (Fb (i:=1) Lh.nd rfl (Or.inl rfl) Jz)
   (db (Re PassesOwn.never rfl (Fv rfl T.Dj (cb (pv 0) fb)) (Qg (K:=K) (n:=2) rfl rfl (qc (Cb (i:=2) Lh.nd rfl (Or.inl rfl) (.inl rfl)) (qc (Cb (i:=3) Lh.nd rfl (Or.inl rfl) (.inl rfl)) Vg))) (lb (Re PassesOwn.never rfl (Dc (pv 3)) (Cb (i:=4) Lh.nd rfl (Or.inl rfl)) (lb (JC hu (pv 1) (pv 4) (pv 2) rfl)))))
   (lb (Qb (pv 1))))),?_⟩
 walk_at "RD";intro h hh;have s0:bc H (upd H h (.dK [])):=jb hh;refine ⟨⟨_,SqL.of (s0 _ _ M.at_)⟩,?_⟩;refine Uj.enum (xs:=ms.map V.ref) (fun i σ H'=>(∃ x y z,σ=[some (.ref p),some (.ref h),x,y,z])/\bc H H'/\(NoT H->NoT H')/\H' h=some (.dK (Ef (mems.take i)))/\(Ef (mems.take i)).length <= 12 * i) ?_ ?_ ?_ ?_
 ·exact ⟨⟨_,_,_,rfl⟩,s0,fun n=>n.upd,by rw [take_zero];exact gb,by rw [take_zero];simp [Ef]⟩
 ·rintro i σ H' hi ⟨_,s1,_⟩;exact SqL.of (s1 _ _ M.at_)
 ·rintro i v σ H' tp hv ⟨⟨x,y,z,rfl⟩,s1,n1,h1,hl1⟩ htp;obtain ⟨m,hm,rfl⟩:=Mb hv;have him:i < mems.length:=by rw [<- M.ln];exact (List.getElem?_eq_some_iff.mp hm).1
  have hms:mems[i]? = some mems[i]:=getElem?_eq_getElem him;have em:=M.al i m _ hm hms;have hxl:=hmx _ (mem_of_getElem? hms);have s2:bc H' (upd H' tp (.tup [.int i,.ref m])):=jb htp;refine Ln ?_;walk_at "RD";have em1:=s2 _ _ (s1 _ _ em);have h2:=s2 _ _ h1;have nb:NoT H->NoT (upd H' tp (.tup [.int i,.ref m])):=fun n=>(n1 n).upd
  have sAll:=s1.trans s2;generalize upd H' tp (.tup [.int i,.ref m])=HA at em1 h2 nb sAll s2 ⊢;refine ⟨⟨_,SqL.of em1⟩,?_⟩;refine Uj.list (xs:=qb mems[i]) (fun j σ H2=>(∃ z,σ=[some (.ref p),some (.ref h),some (.int (i:Nat)),some (.ref m),z])/\bc H H2/\(NoT H->NoT H2)/\H2 h=some (.dK (xf i (Ef (mems.take i)) (mems[i].take j)))/\(xf i (Ef (mems.take i)) (mems[i].take j)).length <= 12 * i + j) ?_ ?_ ?_ ?_
  ·exact ⟨⟨_,rfl⟩,sAll,nb,by rw [take_zero];exact h2,by rw [take_zero];exact hl1⟩
  ·rintro j σ H2 hj ⟨_,s3,_⟩;exact SqL.of (s3 _ _ em)
  ·rintro j v σ H2 hv zzq;refine zP fun zzM zzh=>?_
   obtain ⟨⟨z,rfl⟩,s3,n3,h3,hl3⟩:=zzq;subst zzh;unfold qb at hv;obtain ⟨x,hx,rfl⟩:=Mb hv;have hj:j < mems[i].length:=(List.getElem?_eq_some_iff.mp hx).1;have hpl:=fG (xf i (Ef (mems.take i)) (mems[i].take j)) (Sum.inr x) (.int i);walk_at "RD";refine ⟨_,dF.k (k:=Sum.inr x) h3 (Nat.lt_of_le_of_lt (show _ <= 1000 by omega) (by decide)),⟨_,rfl⟩,s3.updN hh,fun n=>(n3 n).upd,?_,?_⟩
   ·rw [gb,Zd hx,xn]
   ·rw [Zd hx,xn];omega
  ·rintro σ H2 zzq;refine zP fun zzM zzh=>?_
   obtain ⟨⟨z,rfl⟩,s3,n3,h3,hl3⟩:=zzq;subst zzh;rw [yb,take_length,<- rm hms] at h3 hl3;exact ⟨⟨_,_,_,rfl⟩,s3,n3,h3,by omega⟩
 ·rintro σ H' zzq;refine zP fun zzM zzh=>?_
  obtain ⟨⟨x,y,z,rfl⟩,s1,n1,h1,_⟩:=zzq;subst zzh;rw [length_map,M.ln,take_length] at h1;walk_at "RD";exact q h H' s1 n1 hh h1
theorem LC (T:Txt w K mg t):Ub P w K mg base CX0 2 t.Lg t.Ig q9 (iy t):=by
 have g14:Ub P w K mg base CX0 1 t.rh t.xh ["members"] Wp:=Ju T;have g15:Ub P w K mg base CX0 1 t.Ad t.Vd ["self"] (Qp t):=qv T;refine T.ci.ok zn (fun vs H Q E h=>?_) (fun _ _ _ s H vs Q E hr h=>?_)
 ·obtain ⟨c,n,ds,p,qs,ms,rows,rfl,_⟩:=h;rfl
 obtain ⟨c,n,ds,p,qs,ms,rows,rfl,C,R,hrl,hrm,q⟩:=h;have hu:=jy hr;obtain ⟨⟨_,hdl⟩,dx,wl,nd,e1,_,_⟩:=id C;refine ⟨_,(db (Fb (i:=2) zn.nd rfl (Or.inr rfl) (vb g14 hr rfl T.Co T.Pi.kp T.Eo .nil Db (cb (Qd rfl (Dc (pv 1)) (dc (sc:=pb vi) rfl (by decide +kernel)) (N:=q8) (sel:=[none,none,none]) (Cc (M:=q54) (by decide +kernel)) (Blk.of (fun _ _ _ _=>(Qg (K:=K) (n:=3) rfl rfl (qc (Cb (i:=0) (se (N:=q8) (by decide +kernel) rfl) rfl (Or.inl rfl) (.inr rfl)) (qc (Cb (i:=1) (se (N:=q8) (by decide +kernel) rfl) rfl (Or.inl rfl) (.inr rfl)) (qc (Cb (i:=2) (se (N:=q8) (by decide +kernel) rfl) rfl (Or.inl rfl) (.inr rfl)) Vg))))) (fun _ _ _ _=>⟨_,Fd,by walk_at "B"⟩) (fun _ _ _ _=>⟨_,(pv 2),by walk_at "B"⟩))) fb)))
   (lb (Qb (Qd rfl (Dc (Be (pv 0) T.zc T.Sg g15 hr T.Pg .nil Db)) (dc (sc:=pb vi) rfl (by decide +kernel)) (N:=["name","told"]) (sel:=[none,some 2]) (Cc (M:=q54) (by decide +kernel)) (Blk.of (fun _ _ _ _=>(Cb (i:=0) (se (N:=["name","told"]) (by decide +kernel) rfl) rfl (Or.inl rfl))) (fun _ _ _ _=>⟨_,(Gq (mI (Dw hu (pv 0) (pv 1)))),by walk_at "B"⟩) (fun _ _ _ _=>⟨_,(pv 0),by walk_at "B"⟩)))))),?_⟩
 simp only [Ab];walk_at "RD";have hqn:(qs.map V.ref).length=rows.length:=by rw [length_map,R.l1]
 refine ⟨⟨_,SqL.of R.at_⟩,?_⟩;refine jd.list_zs (xs:=qs.map V.ref) (zs:=ms.map V.ref) (SqL.of R.at_) (by rw [hqn];exact Nat.le_trans hrl (by decide)) (by rw [hqn,length_map,R.l2]) (fun j v z N hv hz hN=>?_) (fun pm hpm=>?_)
 ·obtain ⟨qj,hqj,rfl⟩:=Mb hv;obtain ⟨mj,hmj,rfl⟩:=Mb hz;have hj:j < rows.length:=by rw [<- R.l1];exact (List.getElem?_eq_some_iff.mp hqj).1
  have e:=(R.al j qj mj _ hqj hmj (getElem?_eq_getElem hj)).1;walk_at "RD";exact ⟨_,SqT.of e,rfl,_,_,rfl,_,_,rfl,_,_,rfl,rfl,Sub.name3,hN⟩
 ·have sp:bc H (upd H pm (.lst (ms.map V.ref))):=jb hpm;have np:NoT H->NoT (upd H pm (.lst (ms.map V.ref))):=fun n=>n.upd
  have ep:(upd H pm (.lst (ms.map V.ref))) pm=some (.lst (ms.map V.ref)):=gb;generalize upd H pm (.lst (ms.map V.ref))=HA at sp np ep ⊢;refine ⟨pm,ms,rows.map (·.mem),rfl,⟨ep,by rw [R.l2,length_map],fun i m x hm hx=>?_⟩,by rw [length_map];exact hrl,fun x hx=>?_,fun h H1 s1 n1 hh h1=>?_⟩
  ·obtain ⟨r,hr',rfl⟩:=Mb hx;have hqi:qs[i]? = some (qs[i]'(by rw [R.l1];exact (List.getElem?_eq_some_iff.mp hr').1)):=getElem?_eq_getElem _;exact sp _ _ (R.al i _ m r hqi hm hr').2
  ·obtain ⟨r,hr',rfl⟩:=List.mem_map.mp hx;exact hrm r hr'
  ·have sA:=sp.trans s1;have C1:=C.same sA;refine ⟨_,_,sA _ _ e1,EB _ _ _ (by decide +kernel),c,n,ds,rfl,C1,fun pn hpn=>⟨pn,rfl,⟨_,SqL.of gb⟩,?_⟩⟩;have sB:=sA.trans (jb (o:=.lst (qb (ds.map (·.name)))) hpn);have h2:=(jb (o:=.lst (qb (ds.map (·.name)))) hpn) _ _ h1;have nB:NoT H->NoT (upd H1 pn (.lst (qb (ds.map (·.name))))):=fun n=>(n1 (np n)).upd
   have ePn:(upd H1 pn (.lst (qb (ds.map (·.name))))) pn=some (.lst (qb (ds.map (·.name)))):=gb;generalize upd H1 pn (.lst (qb (ds.map (·.name))))=HB at sB h2 nB ePn ⊢;refine jd.list_sel (xs:=qb (ds.map (·.name))) (ss:=(ds.map (·.name)).map fun x=>if (!told rows x)=true then some (V.str x) else none) (SqL.of ePn) (by rw [yb,length_map];exact Nat.le_trans hdl (by decide)) (by rw [yb,length_map]) (fun i v o ys N hv ho hN=>?_) (fun l hl=>?_)
   ·unfold qb at hv;obtain ⟨x,hx,rfl⟩:=Mb hv;obtain ⟨x',hx',rfl⟩:=Mb ho;rw [hx] at hx';cases hx';have hg:Cw HB h (.str x) (jk (Ef (rows.map (·.mem))) (Sum.inr x)):=Cw.k (k:=Sum.inr x) h2;have ht:=Vt rows x;walk_at "RD";refine ⟨Sub.name,_,hg,?_⟩;rw [ht];by_cases c0:(!told rows x)=true
    ·rw [if_pos c0];rw [if_pos c0] at hN;exact hN
    ·rw [if_neg c0];rw [if_neg c0] at hN;simpa using hN
   ·rw [bq];exact q l _ (sB.trans (jb hl)) (fun n=>(nB n).upd) (sB.free hl) gb
end
end My
namespace My
open PySem L2
noncomputable def qu (ds:List WD) (left:List Str) (f:Str):List Str:=left.filter fun x=>decide ((wOf ds x).map Gf=(wOf ds f).map Gf)
noncomputable def Py (alike:List Str):List Str->Nat->List Str->Except Nat (List Str)
 | [],_,ms=>.ok ms
 | x :: r,j,ms=>if x ∈ alike/\x ∉ ms then Py alike r (j + 1) (ms ++ [x]) else .error j
noncomputable def Uu (ds:List WD) (left ws:List Str):Except Nat (List Str):=if wd ws 3 ∈ left then Py (qu ds left (wd ws 3)) (ws.drop 4) 4 [wd ws 3] else .error 3
noncomputable def De (ds:List WD) (rows:List ST) (ws:List Str):Except Nat ST:=if wd ws 0 ∈ [Str.ofString "stage"] then
 (ik (wd ws 1) 1 60).elim (.error 1) fun lo=>(ik (wd ws 2) lo 60).elim (.error 2) fun hi=>match Uu ds (Je ds rows) ws with
  | .error k=>.error k
  | .ok ms=>.ok ⟨lo,hi,ms⟩ else .error 0
theorem kC {alike:List Str}:∀ {r:List Str} {j:Nat} {ms ms':List Str},Py alike r j ms=.ok ms'->ms.Nodup->ms'.Nodup/\(∃ more,ms'=ms ++ more)/\∀ x ∈ ms',x ∈ ms\/x ∈ alike
 | [],j,ms,ms',h,nd=>by
  have h:Except.ok ms=Except.ok (ε:=Nat) ms':=h;cases h;exact ⟨nd,⟨[],by simp⟩,fun x hx=>.inl hx⟩
 | y :: r,j,ms,ms',h,nd=>by
  unfold Py at h;split at h
  ·rename_i c;obtain ⟨h1,⟨more,h2⟩,h3⟩:=kC h (List.nodup_append.mpr ⟨nd,by simp,fun a ha b hb e=>by
    rw [List.mem_singleton.mp hb] at e;rw [e] at ha;exact c.2 ha⟩)
   refine ⟨h1,⟨y :: more,by rw [h2,append_assoc];rfl⟩,fun x hx=>?_⟩;rcases h3 x hx with z | z
   ·rcases List.mem_append.mp z with z | z
    ·exact .inl z
    ·rw [List.mem_singleton.mp z];exact .inr c.1
   ·exact .inr z
  ·cases h
noncomputable def Rt (t:Adr):Sp:=fun vs H Q E=>∃ q row ws c n ds l left,vs=[.ref q,.ref c,.ref l]/\Ye t H q row ws 3/\(0 <= row/\row <= 10000)/\3 <= ws.length/\Uc t H c n ds/\(∀ d ∈ ds,d.k < 3/\d.name ≠ Str.ofString "")/\H l=some (.lst (qb left))/\left.length <= 12/\(∀ x ∈ left,∃ d ∈ ds,d.name=x)/\NoT H /\
 Oc (Uu ds left ws) (fun ms=>∀ m H',Vc q H H'->NoT H'->(∃ u,H' q=some u)->H' m=some (.lst (qb ms))->H m=none->Q (.ref m) H') (fun k=>sw t row k q H E)
noncomputable def Ez (t:Adr):Sp:=fun vs H Q E=>∃ q row ws c n ds p qs ms rows,vs=[.ref q,.ref c,.ref p]/\Ye t H q row ws 0/\(0 <= row/\row <= 10000)/\Uc t H c n ds/\(∀ d ∈ ds,d.k < 3/\d.name ≠ Str.ofString "")/\fj H p qs ms rows/\rows.length <= 6/\(∀ r ∈ rows,r.mem.length <= 12)/\NoT H /\
 Oc (De ds rows ws) (fun s=>∀ x m H',Vc q H H'->NoT H'->H' x=some (stO s m)->H' m=some (.lst (qb s.mem))->H x=none->H m=none->Q (.ref x) H') (fun k=>sw t row k q H E)
theorem Zg {ds:List WD} (nd:(ds.map (·.name)).Nodup) {i:Nat} {d:WD} (h:ds[i]? = some d):wOf ds d.name=some d:=by
 unfold wOf;cases e:ds.find? fun x=>decide (x.name=d.name) with
 | none=>
  have:=List.find?_eq_none.mp e d (mem_of_getElem? h);simp at this
 | some x=>
  have h1:x.name=d.name:=by simpa using List.find?_some e
  obtain ⟨j,hj⟩:=getElem?_of_mem (List.mem_of_find?_eq_some e);have:=Pr nd (List.getElem?_eq_some_iff.mp hj).1 (List.getElem?_eq_some_iff.mp h).1 (by rw [Mn hj,Mn h,h1]);subst this;rw [hj] at h;exact h
theorem Uc.sameR {t:Adr} {H H':Hp} {q c:Addr} {n:Int} {ds:List WD} {row:Int} {ws:List Str} {k:Nat} (h:Uc t H c n ds) (s:Vc q H H') (R:Ye t H q row ws k):Uc t H' c n ds:=by
 obtain ⟨h0,dx',wl,nd,e1,⟨as,w1,w2,al⟩,e3⟩:=h;obtain ⟨_,dq,ta,f1,f2⟩:=id R;refine ⟨h0,dx',wl,nd,s _ _ (fun z=>?_) e1,⟨as,s _ _ (af w1 f1 (by intro z;cases z)) w1,w2,fun i b d hb hd=>?_⟩,s _ _ (af e3 f1 (by intro z;cases z)) e3⟩
 ·subst z;rw [e1] at f1;have e:=Option.some.inj f1;injection e with _ _ e4;unfold cF rdF at e4;injection e4 with e5 _;injection e5 with e6 _;exact absurd e6 (by decide +kernel)
 ·have W:=al i b d hb hd;have hn:=Ww W R;exact ⟨W.1,W.2.imp fun dx e=>s _ _ hn e⟩
theorem XJ {ws:List Str} {j:Nat} (h:j < ws.length):ws.drop j=wd ws j :: ws.drop (j + 1):=by
 rw [drop_eq_getElem_cons h];unfold wd;rw [getD_eq_getElem?_getD,getElem?_eq_getElem h];rfl
theorem fj.sameR {t:Adr} {H H':Hp} {q p:Addr} {qs ms:List Addr} {rows:List ST} {row:Int} {ws:List Str} {k:Nat} (h:fj H p qs ms rows) (s:Vc q H H') (R:Ye t H q row ws k):fj H' p qs ms rows:=by
 obtain ⟨_,dq,ta,f1,f2⟩:=id R;refine ⟨s _ _ (af h.at_ f1 (by intro z;cases z)) h.at_,h.l1,h.l2,fun i q m r a b c=>?_⟩;obtain ⟨e1,e2⟩:=h.al i q m r a b c;exact ⟨s _ _ (af e1 f1 (by intro z;cases z)) e1,s _ _ (af e2 f1 (by intro z;cases z)) e2⟩
section
variable {P:Program} {w:World} {K:W.Frag} {mg:Str->Option Value} {base:Heap} {t:Adr}
theorem GA (T:Txt w K mg t):Ub P w K mg base (CX1 P w) 6 t.Dg t.vg q36 (Rt t):=by
 have g16:Ub P w K mg base (CX1 P w) 5 t.Bc t.Nc q16 (Yr K t):=mw T;have g21:Ub P w K mg base CX0 5 t.gd t.Bd ["self"] (ny t):=(wD T).mono (by decide);have g17:Ub P w K mg base CX0 5 t.Uk t.Kk q21 (Tx t):=(bC T).mono (by decide);refine T.Bi.okX Zf (fun vs H Q E h=>?_) (fun _ _ _ s H vs Q E hr h=>?_)
 ·obtain ⟨q,row,ws,c,n,ds,l,left,rfl,_⟩:=h;rfl
 obtain ⟨q,row,ws,c,n,ds,l,left,rfl,R,hrow,hw3,C,hk,hl,hll,hlin,nt,qq⟩:=h;refine ⟨_,(db (Fb (i:=3) Zf.nd rfl (Or.inr rfl) (qd (pv 0) T.Bb T.ce g16 hr T.ge .nil zh (cb (pv 2) fb)))
   (db (Fb (i:=4) Zf.nd rfl (Or.inr rfl) (sd (cb (pv 3) fb)))
   (db (uh (i:=5) Zf.nd rfl (Or.inl rfl) rfl (Dc (pv 2)) (dc (sc:=pb Fg) rfl (by decide +kernel)) (N:=["name","crossing","first"]) (sel:=[none,some 1,some 3]) (Cc (M:=q55) (by decide +kernel)) (Blk.of (fun _ _ _ _=>(Cb (i:=0) (se (N:=["name","crossing","first"]) (by decide +kernel) rfl) rfl (Or.inl rfl))) (fun _ _ _ _=>⟨_,(Gq (Ob ve (vb g17 hr rfl T.jq T.Rk.kp T.nq .nil Db (cb (pv 1) (cb (pv 0) fb))) (vb g17 hr rfl T.jq T.Rk.kp T.nq .nil Db (cb (pv 1) (cb (pv 2) fb))) (Sb _))),by walk_at "B"⟩) (fun _ _ _ _=>⟨_,(pv 0),by walk_at "B"⟩)) rfl)
   (db (GG (Rr ⟨rfl,rfl⟩) (zi (Be (pv 0) T.Bb T.Yg g21 hr T.Xg .nil Db)) (lb (nc (Se PySem.F.plainAttrs_list PySem.F.slot_list_append PySem.F.type_list_append we (pv 4) (cb (qd (pv 0) T.Bb T.ce g16 hr T.ge .nil zh (cb (Qd rfl (Dc (pv 5)) (dc (sc:=pb Fg) rfl (by decide +kernel)) (N:=["name","members"]) (sel:=[none,some 4]) (Cc (M:=q55) (by decide +kernel)) (Blk.of (fun _ _ _ _=>(Cb (i:=0) (se (N:=["name","members"]) (by decide +kernel) rfl) rfl (Or.inl rfl))) (fun _ _ _ _=>⟨_,(Gq (Ob Jg (pv 0) (pv 1) (by with_unfolding_all rfl))),by walk_at "B"⟩) (fun _ _ _ _=>⟨_,(pv 0),by walk_at "B"⟩))) fb)) fb)))))
   (lb (Qb (pv 4))))))),?_⟩
 obtain ⟨hz,dx,ta,e1,e2⟩:=id R;unfold Uu at qq;walk_at "RD";refine ⟨_,_,e1,Ye.no _ _ _ (by decide +kernel),⟨q,row,ws,3,l,left,rfl,R,hrow,hw3,SqL.of hl,fun hin=>fun H1 s1 n1 R1=>?_,fun hnin=>?_⟩⟩
 case refine_2=>
  rw [if_neg hnin] at qq;exact qq
 rw [if_pos hin] at qq;have nt1:=n1 nt;obtain ⟨d0,hd0,hn0⟩:=hlin _ hin;have l4:4 <= ws.length:=vJ (k:=3) (by rw [<- hn0];exact (hk d0 hd0).2);have C1:=C.sameR s1 R;have hl1:H1 l=some (.lst (qb left)):=s1 _ _ (af hl e1 (by intro z;cases z)) hl;generalize hf:wd ws 3=f0 at qq hin hn0 ⊢;obtain ⟨i0,hi0⟩:=getElem?_of_mem hd0;walk_at "RD";refine ⟨by decide,fun ml hml=>?_⟩;obtain ⟨hz1,dx1,ta1,f1,f2⟩:=id R1;have hmlH:H ml=none:=by
  cases e:H ml with
  | none=>rfl
  | some u=>
   by_cases z:ml=q
   ·rw [z,f1] at hml;cases hml
   ·rw [s1 _ _ z e] at hml;cases hml
 have sB:bc H1 (upd H1 ml (.lst [V.str f0])):=jb hml;have eB:(upd H1 ml (.lst [V.str f0])) ml=some (.lst [V.str f0]):=gb;have nB:NoT (upd H1 ml (.lst [V.str f0])):=nt1.upd;generalize upd H1 ml (.lst [V.str f0])=HB at sB eB nB ⊢;have CB:=C1.same sB;have hlB:=sB _ _ hl1;have hnd:=C.1.1;refine ⟨⟨_,SqL.of hlB⟩,?_⟩;refine jd.list_sel (xs:=qb left) (ss:=left.map fun x=>if decide ((wOf ds x).map Gf=(wOf ds f0).map Gf)=true then some (V.str x) else none) (SqL.of hlB) (by rw [yb];exact Nat.le_trans hll (by decide)) (by rw [yb,length_map]) (fun i v o ys N hv ho hN=>?_) (fun al hal=>?_)
 ·unfold qb at hv;obtain ⟨x,hx,rfl⟩:=Mb hv;obtain ⟨x',hx',rfl⟩:=Mb ho;rw [hx] at hx';cases hx';obtain ⟨d1,hd1,rfl⟩:=hlin x (mem_of_getElem? hx);obtain ⟨j,hj⟩:=getElem?_of_mem hd1;rw [<- hn0,Zg hnd hj,Zg hnd hi0] at hN;walk_at "RD";refine ⟨Sub.name,c,n,ds,j,d1,rfl,CB,hj,(hk d1 hd1).1,c,n,ds,i0,d0,by rw [hn0],CB,hi0,(hk d0 hd0).1,rfl,?_⟩;by_cases c0:Gf d1=Gf d0
  ·simp [c0] at hN ⊢;exact hN
  ·simp [c0] at hN ⊢;exact hN
 rw [bq];rw [show left.filter (fun x=>decide ((wOf ds x).map Gf=(wOf ds f0).map Gf))=qu ds left f0 from rfl];have hall:(qu ds left f0).length <= 12:=by
  unfold qu;exact Nat.le_trans (List.length_filter_le ..) hll
 generalize qu ds left f0=alike at qq hall ⊢;have sC:bc HB (upd HB al (.lst (qb alike))):=jb hal;have eC:(upd HB al (.lst (qb alike))) al=some (.lst (qb alike)):=gb;have nC:NoT (upd HB al (.lst (qb alike))):=nB.upd;have halm:al ≠ ml:=fun z=>by rw [z,eB] at hal;cases hal
 generalize upd HB al (.lst (qb alike))=HC at sC eC nC ⊢;have xC:Vc q H HC:=s1.trans (Vc.of (sB.trans sC));generalize hW0:Py alike (ws.drop 4) 4 [f0]=W0 at qq;refine pE (fun σ H'=>∃ ms:List Str,σ=[some (.ref q),some (.ref c),some (.ref l),some (.str f0),some (.ref ml),some (.ref al)]/\Vc q H H'/\NoT H'/\Ye t H' q row ws (3 + ms.length)/\H' ml=some (.lst (qb ms))/\H' al=some (.lst (qb alike))/\3 + ms.length <= ws.length/\Py alike (ws.drop (3 + ms.length)) (3 + ms.length) ms=W0) (fun σ H'=>match H' ml with | some (.lst xs)=>ws.length - xs.length | _=>0) ?_ ?_
 ·exact ⟨[f0],rfl,xC,nC,R1.same (sB.trans sC),sC _ _ eB,eC,l4,hW0⟩
 rintro σ H' zzq;refine zP fun zzM zzh=>?_
 obtain ⟨ms,rfl,x2,n2,R2,m2,a2,hl2,hW⟩:=zzq;obtain ⟨hz2,dx2,ta2,g1,g2⟩:=id R2;have hmlq:ml ≠ q:=af m2 g1 (by intro z;cases z);have halq:al ≠ q:=af a2 g1 (by intro z;cases z);subst zzh;refine ⟨decide (3 + ms.length < ws.length),fun Q' hQ=>?_,fun cc=>?_,fun cc=>?_⟩
 ·walk_at "RD";exact ⟨_,_,g1,Ye.no _ _ _ (by decide +kernel),⟨q,row,ws,_,rfl,R2,_,rfl,hQ⟩⟩
 ·have cc:=of_decide_eq_true cc;rw [XJ cc] at hW;unfold Py at hW;walk_at "RD";refine ⟨.inl ⟨_,SqL.of m2⟩,?_⟩;refine ⟨_,_,g1,Ye.no _ _ _ (by decide +kernel),⟨_,SqL.of a2⟩,?_⟩;refine jd.list_sel (xs:=qb alike) (ss:=alike.map fun x=>if (!decide (x ∈ ms))=true then some (V.str x) else none) (SqL.of a2) (by rw [yb];exact Nat.le_trans hall (by decide)) (by rw [yb,length_map]) (fun i v o ys N hv ho hN=>?_) (fun cl hcl=>?_)
  ·unfold qb at hv;obtain ⟨x,hx,rfl⟩:=Mb hv;obtain ⟨x',hx',rfl⟩:=Mb ho;rw [hx] at hx';cases hx';walk_at "RD";refine ⟨Sub.name,_,.inl (SqL.of m2),rfl,jg ms,?_⟩;rw [Kj];by_cases c0:x ∈ ms
   ·simp [c0] at hN ⊢;exact hN
   ·simp [c0] at hN ⊢;exact hN
  rw [bq];have sD:bc H' (upd H' cl (.lst (qb (alike.filter fun x=>!decide (x ∈ ms))))):=jb hcl;have eD:(upd H' cl (.lst (qb (alike.filter fun x=>!decide (x ∈ ms))))) cl=some (.lst (qb (alike.filter fun x=>!decide (x ∈ ms)))):=gb;have nD:NoT (upd H' cl (.lst (qb (alike.filter fun x=>!decide (x ∈ ms))))):=n2.upd;generalize upd H' cl (.lst (qb (alike.filter fun x=>!decide (x ∈ ms))))=HD at sD eD nD ⊢;refine ⟨q,row,ws,3 + ms.length,cl,_,rfl,R2.same sD,hrow,by omega,SqL.of eD,fun hin=>fun H2 s2 n3 R3=>?_,fun hnin=>?_⟩
  ·have hc:wd ws (3 + ms.length) ∈ alike/\wd ws (3 + ms.length) ∉ ms:=by
    have:=List.mem_filter.mp hin;exact ⟨this.1,by simpa using this.2⟩
   rw [if_pos hc] at hW;have m3:H2 ml=some (.lst (qb ms)):=s2 _ _ hmlq (sD _ _ m2);have a3:H2 al=some (.lst (qb alike)):=s2 _ _ halq (sD _ _ a2);obtain ⟨hz3,dx3,ta3,k1,k2⟩:=id R3;have hta:ta3 ≠ ml:=fun z=>by
    rw [z,m3] at k2;have e:=Option.some.inj k2;injection e with e;have:=congrArg List.length e;rw [yb,yb] at this;omega
   refine ⟨_,m3,Nat.lt_of_le_of_lt (show (qb ms).length <= 1000 by rw [yb];have:=hz3.1;omega) (by decide),fun b u hb e=>?_,(n3 nD).upd,⟨ms ++ [wd ws (3 + ms.length)],⟨hz3,dx3,ta3,?_,?_⟩,?_,?_,?_,?_⟩,?_⟩
   ·rw [zb (Kb e hmlH)];exact s2 _ _ hb (sD _ _ (x2 _ _ hb e))
   ·rw [zb (Ne.symm hmlq),length_append];exact k1
   ·rw [zb hta];exact k2
   ·rw [gb];unfold qb;rw [map_append];rfl
   ·rw [zb halm];exact a3
   ·rw [length_append];show 3 + (ms.length + 1) <= _;omega
   ·rw [length_append];exact hW
   ·rw [gb,m2];show ws.length - (qb ms ++ [V.str (wd ws (3 + ms.length))]).length < ws.length - (qb ms).length;rw [length_append,yb];show ws.length - (ms.length + 1) < _;omega
  ·rw [if_neg (fun hc=>hnin (List.mem_filter.mpr ⟨hc.1,by simpa using hc.2⟩))] at hW;subst hW;exact (show sw t row (3 + ms.length) q H E from qq).step (x2.trans (Vc.of sD)) fun _=>nD
 ·have cc:=of_decide_eq_false cc;rw [List.drop_of_length_le (by omega)] at hW;replace hW:Except.ok ms=W0:=hW;subst hW;walk_at "RD";exact qq ml H' x2 n2 ⟨_,g1⟩ m2 hmlH
theorem gH (T:Txt w K mg t):Ub P w K mg base (CX1 P w) 7 t.ki t.ji q37 (Ez t):=by
 have g16:Ub P w K mg base (CX1 P w) 6 t.Bc t.Nc q16 (Yr K t):=(mw T).mono (by decide);have g31:Ub P w K mg base (CX1 P w) 6 t.uc t.Hc q17 (wz t):=(fH T).mono (by decide);have g50:Ub P w K mg base (CX1 P w) 6 t.Dg t.vg q36 (Rt t):=GA T;have g27:Ub P w K mg base CX0 6 t.Lg t.Ig q9 (iy t):=(LC T).mono (by decide);refine T.Qk.okX Ej (fun vs H Q E h=>?_) (fun _ _ _ s H vs Q E hr h=>?_)
 ·obtain ⟨q,row,ws,c,n,ds,p,qs,ms,rows,rfl,_⟩:=h;rfl
 obtain ⟨q,row,ws,c,n,ds,p,qs,ms,rows,rfl,R,hrow,C,hk,RQ,hrl,hrm,nt,qq⟩:=h;refine ⟨_,(db (nc (qd (pv 0) T.Bb T.ce g16 hr T.ge .nil zh (cb (sd (cb Jb fb)) fb)))
   (db (Fb (i:=3) Ej.nd rfl (Or.inl rfl) (qd (pv 0) T.Bb T.Ic g31 hr T.Gc .nil zh (cb ib (cb (qe rfl T.ip T.jp) fb))))
   (db (Fb (i:=4) Ej.nd rfl (Or.inl rfl) (qd (pv 0) T.Bb T.Ic g31 hr T.Gc .nil zh (cb (pv 3) (cb (qe rfl T.ip T.jp) fb))))
   (lb (Qb (br (cb (pv 3) (cb (pv 4) (cb (vb g50 hr rfl T.Ps T.Bi.kp T.Os .nil zh (cb (pv 0) (cb (pv 1) (cb (vb g27 hr rfl T.Uo T.ci.kp T.Wo .nil Db (cb (pv 1) (cb (pv 2) fb))) fb)))) fb))))))))),?_⟩
 obtain ⟨_,dx,ta,e1,e2⟩:=id R;walk_at "RD";refine ⟨_,_,e1,Ye.no _ _ _ (by decide +kernel),by decide,fun p0 hp0=>?_⟩;have s0:bc H (upd H p0 (.lst [V.str (Str.ofString "stage")])):=jb hp0;unfold De at qq;refine ⟨q,row,ws,0,p0,[Str.ofString "stage"],rfl,R.same s0,hrow,Nat.zero_le _,SqL.of gb,fun hin=>fun H1 s1 n1 R1=>?_,fun hnin=>?_⟩
 case refine_2=>
  rw [if_neg hnin] at qq;exact (show sw t row 0 q H E from qq).step (Vc.of s0) fun n=>n.upd
 rw [if_pos hin] at qq;obtain ⟨_,dx1,ta1,f1,f2⟩:=id R1;have nt1:=n1 nt.upd;have x1:Vc q H H1:=(Vc.of s0).trans s1;have l1:1 <= ws.length:=vJ (k:=0) (by rw [List.mem_singleton.mp hin];decide +kernel);walk_at "RD";refine ⟨_,_,f1,Ye.no _ _ _ (by decide +kernel),⟨q,row,ws,1,1,60,rfl,R1,hrow,l1,nt1,fun lo hlo=>fun H2 s2 n2 R2=>?_,fun hlo=>?_⟩⟩
 case refine_2=>
  rw [Vw hlo] at qq;exact (show sw t row 1 q H E from qq).step x1 fun _=>nt1
 rw [Jk hlo] at qq;replace qq:Oc ((ik (wd ws 2) lo 60).elim (.error 2) fun hi=>match Uu ds (Je ds rows) ws with | .error k=>.error k | .ok ms=>.ok ⟨lo,hi,ms⟩) (fun s=>∀ x m H',Vc q H H'->NoT H'->H' x=some (stO s m)->H' m=some (.lst (qb s.mem))->H x=none->H m=none->Q (.ref x) H') (fun k=>sw t row k q H E):=qq;have l2:=(QC hlo).1;have nt2:=n2 nt1;have x2:Vc q H H2:=x1.trans s2;obtain ⟨_,dx2,ta2,g1,g2⟩:=id R2;walk_at "RD";refine ⟨_,_,g1,Ye.no _ _ _ (by decide +kernel),⟨q,row,ws,2,lo,60,rfl,R2,hrow,l2,nt2,fun hi hhi=>fun H3 s3 n3 R3=>?_,fun hhi=>?_⟩⟩
 case refine_2=>
  rw [Vw hhi] at qq;exact (show sw t row 2 q H E from qq).step x2 fun _=>nt2
 rw [Jk hhi] at qq;replace qq:Oc (match Uu ds (Je ds rows) ws with | .error k=>.error k | .ok ms=>.ok (⟨lo,hi,ms⟩:ST)) (fun s=>∀ x m H',Vc q H H'->NoT H'->H' x=some (stO s m)->H' m=some (.lst (qb s.mem))->H x=none->H m=none->Q (.ref x) H') (fun k=>sw t row k q H E):=qq;have l3:=(QC hhi).1;have nt3:=n3 nt2;have x3:Vc q H H3:=x2.trans s3;have C3:=C.sameR x3 R;have Q3:=RQ.sameR x3 R;walk_at "RD";refine ⟨c,n,ds,p,qs,ms,rows,rfl,C3,Q3,hrl,hrm,fun l H4 s4 n4 hl hl4=>?_⟩;have x4:Vc q H H4:=x3.trans (Vc.of s4);have nt4:=n4 nt3;have hlf:(Je ds rows).length <= 12:=by
  unfold Je;exact Nat.le_trans (List.length_filter_le ..) (by rw [length_map];exact C.1.2)
 refine ⟨q,row,ws,c,n,ds,l,Je ds rows,rfl,R3.same s4,hrow,l3,C3.same s4,hk,hl4,hlf,fun x hx=>?_,nt4,?_⟩
 ·obtain ⟨d,hd,e⟩:=List.mem_map.mp (List.mem_filter.mp hx).1;exact ⟨d,hd,e⟩
 cases hm:Uu ds (Je ds rows) ws with
 | error k=>
  rw [hm] at qq;exact (show sw t row k q H E from qq).step x4 fun _=>nt4
 | ok mm=>
  rw [hm] at qq;replace qq:∀ x m H',Vc q H H'->NoT H'->H' x=some (stO ⟨lo,hi,mm⟩ m)->H' m=some (.lst (qb mm))->H x=none->H m=none->Q (.ref x) H':=qq;intro m H5 s5 nt5 hq5 hm5 hm4;obtain ⟨_,_,_,hq4,_⟩:=R3.same s4;walk_at "RD";refine ⟨by decide,fun x hx=>?_⟩;have back:∀ {y:Addr} {G:Hp},Vc q H G->G y=none->(∃ u,G q=some u)->H y=none:=fun {y G} sx hy ⟨u,hu⟩=>by
   cases e:H y with
   | none=>rfl
   | some v=>
    by_cases c:y=q
    ·subst c;rw [hu] at hy;cases hy
    ·rw [sx _ _ c e] at hy;cases hy
  exact qq x m _ (x4.trans (s5.trans (Vc.of (jb hx)))) nt5.upd gb ((jb hx) _ _ hm5) (back (x4.trans s5) hx hq5) (back x4 hm4 ⟨_,hq4⟩)
end
end My
namespace My
open PySem L2
theorem Mw {α:Type} [DecidableEq α]:∀ {l l':List α},l.Nodup->(∀ x ∈ l,x ∈ l')->l.length <= l'.length
 | [],_,_,_=>Nat.zero_le _
 | a :: l,l',h,hs=>by
  have ha:=hs a (mem_cons_self ..);have h2:=List.nodup_cons.mp h;have:=Mw (l':=l'.erase a) h2.2 (fun x hx=>(List.mem_erase_of_ne (fun e=>h2.1 (by rw [<- e];exact hx))).mpr (hs x (mem_cons_of_mem _ hx)));rw [List.length_erase_of_mem ha] at this;have hp:=List.length_pos_of_mem ha;rw [length_cons];omega
noncomputable def uE (rows:List ST) (x:Str):Option Nat:=match jk (Ef (rows.map (·.mem))) (Sum.inr x) with
 | some (.int k)=>some k.toNat
 | _=>none
theorem Wr {x:Str}:∀ (n:Nat) (mems:List (List Str)),n <= mems.length->(∃ ms ∈ mems.take n,x ∈ ms)->∃ (k:Nat) (ms:List Str),jk (Ef (mems.take n)) (Sum.inr x)=some (.int (k:Int))/\mems[k]? = some ms/\x ∈ ms
 | 0,mems,_,h=>by
  obtain ⟨ms,h1,_⟩:=h;simp at h1
 | n + 1,mems,hn,h=>by
  have hg:mems[n]? = some mems[n]:=getElem?_eq_getElem (by omega);rw [rm hg,rk];by_cases c:x ∈ mems[n]
  ·rw [if_pos c];exact ⟨n,_,rfl,hg,c⟩
  ·rw [if_neg c];refine Wr n mems (by omega) ?_;obtain ⟨ms,h1,h2⟩:=h;rw [Zd hg] at h1;rcases List.mem_append.mp h1 with h1 | h1
   ·exact ⟨ms,h1,h2⟩
   ·rw [List.mem_singleton.mp h1] at h2;exact absurd h2 c
theorem TB {rows:List ST} {x:Str} (h:told rows x=true):∃ (k:Nat) (r:ST),jk (Ef (rows.map (·.mem))) (Sum.inr x)=some (.int (k:Int))/\uE rows x=some k/\rows[k]? = some r/\x ∈ r.mem:=by
 unfold told at h;obtain ⟨r,hr,hx⟩:=List.any_eq_true.mp h;have:=Wr (x:=x) (rows.map (·.mem)).length (rows.map (·.mem)) (Nat.le_refl _) ⟨r.mem,by rw [take_length];exact List.mem_map.mpr ⟨r,hr,rfl⟩,by simpa using hx⟩;rw [take_length] at this;obtain ⟨k,ms,h1,h2,h3⟩:=this;obtain ⟨r',hr',rfl⟩:=Mb h2;exact ⟨k,r',h1,by unfold uE;rw [h1];rfl,hr',h3⟩
noncomputable def ux (rows:List ST) (d:WD):Option (WD × Nat):=(uE rows d.name).bind fun k=>(rows[k]?).bind fun r=>if r.lo < d.least then some (d,k) else none
noncomputable def Iq (ds:List WD) (rows:List ST):Option (WD × Nat):=ds.findSome? (ux rows)
noncomputable def mtN (n:Int) (ds:List WD) (x y:Str):Bool:=match wOf ds x,wOf ds y with
 | some d,some e=>mt n d e
 | _,_=>false
noncomputable def fm (n:Int) (ds:List WD) (k:Nat) (x y:Str):Option (Str × Str × Nat):=if x ≠ y/\mtN n ds x y=true then some (x,y,k) else none
noncomputable def ls (n:Int) (ds:List WD) (e:ST × Nat):Option (Str × Str × Nat):=e.1.mem.findSome? fun x=>e.1.mem.findSome? fun y=>fm n ds e.2 x y
noncomputable def Tq (n:Int) (ds:List WD) (rows:List ST):Option (Str × Str × Nat):=rows.zipIdx.findSome? (ls n ds)
noncomputable def IK (ds:List WD):Prop:=∀ d ∈ ds,BO d.name/\d.k < 3/\(0 <= d.off/\d.off <= 1000)
structure RIn (ds:List WD) (rows:List ST):Prop where
 ln:rows.length <= 6
 ml:∀ r ∈ rows,r.mem.length <= 12
 inn:∀ r ∈ rows,∀ x ∈ r.mem,∃ d ∈ ds,d.name=x
noncomputable def tw (t:Adr):Sp:=fun vs H Q _=>∃ c n ds p qs ms rows,vs=[.ref c,.ref p]/\Uc t H c n ds/\fj H p qs ms rows/\RIn ds rows/\Je ds rows=[]/\∀ H',bc H H'->(NoT H->NoT H')->Q .non H'
noncomputable def yw (t:Adr):Sp:=fun vs H Q _=>∃ c n ds p qs ms rows,vs=[.ref c,.ref p]/\Uc t H c n ds/\fj H p qs ms rows/\RIn ds rows/\Je ds rows=[]/\Iq ds rows=none/\∀ H',bc H H'->(NoT H->NoT H')->Q .non H'
noncomputable def Wv (t:Adr):Sp:=fun vs H Q _=>∃ c n ds p qs ms rows,vs=[.ref c,.ref p]/\Uc t H c n ds/\0 < n/\fj H p qs ms rows/\RIn ds rows/\NoT H/\Tq n ds rows=none/\∀ H',bc H H'->(NoT H->NoT H')->Q .non H'
noncomputable def Qy (ds:List WD) (x:Str):Int:=((wOf ds x).map Xu).getD 0
noncomputable def Du (ds:List WD) (x:Str):Int:=((wOf ds x).map Xm).getD 0
noncomputable def HK (ds:List WD) (x y:Str):Int:=match wOf ds x,wOf ds y with
 | some d,some e=>if d.off - e.near > 0 then d.off - e.near else 0
 | _,_=>0
noncomputable def chX (n:Int) (ds:List WD) (s:List Str) (x:Str):List Int:=if x ∈ s then [] else (s.filter fun y=>mtN n ds x y).map (HK ds x)
noncomputable def chL (n:Int) (ds:List WD) (f s:List Str):List Int:=[0] ++ f.map (Qy ds) ++ s.map (Du ds) ++ (ds.map (·.name)).flatMap (chX n ds s)
theorem TH {d:WD} {m:Str} (h:Ss.contains m=false):(xt d).lookup m=none:=Kn Ss (Yt _) h
theorem Nz (p:Str->Bool) (g:Str->Int):∀ xs:List Str,((xs.map fun x=>if p x=true then some (V.int (g x)) else none).flatMap Option.toList)=((xs.filter p).map g).map V.int
 | []=>rfl
 | x :: xs=>by
  rw [map_cons,flatMap_cons,Nz p g xs];by_cases c:p x=true
  ·rw [if_pos c,List.filter_cons_of_pos c];rfl
  ·rw [if_neg c,List.filter_cons_of_neg c];rfl
theorem iC:∀ ks:List Int,ks ≠ []->∃ m,m ∈ ks/\∀ k ∈ ks,k <= m
 | [],h=>absurd rfl h
 | [x],_=>⟨x,by simp,fun k hk=>by rw [List.mem_singleton.mp hk];exact Int.le_refl _⟩
 | x :: y :: r,_=>by
  obtain ⟨m,hm,al⟩:=iC (y :: r) (by simp);by_cases c:x <= m
  ·refine ⟨m,mem_cons_of_mem _ hm,fun k hk=>?_⟩;rcases List.mem_cons.mp hk with rfl | hk
   ·exact c
   ·exact al k hk
  ·refine ⟨x,by simp,fun k hk=>?_⟩;rcases List.mem_cons.mp hk with rfl | hk
   ·exact Int.le_refl _
   ·exact Int.le_trans (al k hk) (by omega)
noncomputable def kx (t:Adr):Sp:=fun vs H Q _=>∃ c n ds fa sa f s,vs=[.ref c,.ref fa,.ref sa]/\Uc t H c n ds/\0 < n/\IK ds/\H fa=some (.lst (qb f))/\H sa=some (.lst (qb s))/\(∀ x ∈ f,∃ d ∈ ds,d.name=x)/\(∀ x ∈ s,∃ d ∈ ds,d.name=x)/\f.length <= 12/\s.length <= 12/\NoT H/\∀ v,Q (.int v) H
noncomputable def NA (t:Adr):Sp:=fun vs H Q _=>∃ c n ds fa sa f s,vs=[.ref c,.ref fa,.ref sa]/\Uc t H c n ds/\0 < n/\IK ds/\H fa=some (.lst (qb f))/\H sa=some (.lst (qb s))/\(∀ x ∈ f,∃ d ∈ ds,d.name=x)/\(∀ x ∈ s,∃ d ∈ ds,d.name=x)/\f.length <= 12/\s.length <= 12/\NoT H/\∀ v H',bc H H'->Q (.int v) H'
section
variable {P:Program} {w:World} {K:W.Frag} {mg:Str->Option Value} {base:Heap} {t:Adr}
theorem QB (T:Txt w K mg t):Ub P w K mg base CX0 3 t.og t.kg q9 (tw t):=by
 have g27:Ub P w K mg base CX0 2 t.Lg t.Ig q9 (iy t):=LC T;refine T.Li.ok Wk (fun vs H Q E h=>?_) (fun _ _ _ s H vs Q E hr h=>?_)
 ·obtain ⟨c,n,ds,p,qs,ms,rows,rfl,_⟩:=h;rfl
 obtain ⟨c,n,ds,p,qs,ms,rows,rfl,C,R,I,hL,q⟩:=h;refine ⟨_,(db (Fb (i:=2) Wk.nd rfl (Or.inl rfl) (vb g27 hr rfl T.Uo T.ci.kp T.Wo .nil Db (cb (pv 0) (cb (pv 1) fb))))
   (lb (Gd (Tz (pv 2) (fun _=>rfl)) (lb lh) fc))),?_⟩
 walk_at "RD";refine ⟨c,n,ds,p,qs,ms,rows,rfl,C,R,I.ln,I.ml,fun l H1 s1 n1 hl l1=>?_⟩;dsimp only;rw [hL] at l1;refine ac false (fun Q hQ=>?_) (fun z=>nomatch z) (fun _=>?_)
 ·exact ⟨_,rfl,_,.inl ⟨_,SqL.of l1,rfl⟩,hQ⟩
 ·simp only [Qc];exact q H1 s1 n1
theorem iD (T:Txt w K mg t):Ub P w K mg base CX0 3 t.Eg t.wg q9 (yw t):=by
 have g14:Ub P w K mg base CX0 2 t.rh t.xh ["members"] Wp:=(Ju T).mono (by decide);have g15:Ub P w K mg base CX0 2 t.Ad t.Vd ["self"] (Qp t):=(qv T).mono (by decide);have g9:Ub P w K mg base CX0 2 t.Kc t.Yc q11 (nj t):=el T;refine T.Ki.ok Tf (fun vs H Q E h=>?_) (fun _ _ _ s H vs Q E hr h=>?_)
 ·obtain ⟨c,n,ds,p,qs,ms,rows,rfl,_⟩:=h;rfl
 obtain ⟨c,n,ds,p,qs,ms,rows,rfl,C,R,I,hleft,hnone,q⟩:=h;have hu:=jy hr;obtain ⟨⟨hnd,hdl⟩,dx,wl,nd,e1,_,_⟩:=id C;refine ⟨_,(db (Fb (i:=2) Tf.nd rfl (Or.inl rfl) (vb g14 hr rfl T.Co T.Pi.kp T.Eo .nil Db (cb (Qd rfl (Dc (pv 1)) (dc (sc:=pb Ji) rfl (by decide +kernel)) (N:=q8) (sel:=[none,none,none]) (Cc (M:=["crossing","rows","homes","name","number"]) (by decide +kernel)) (Blk.of (fun _ _ _ _=>(Qg (K:=K) (n:=3) rfl rfl (qc (Cb (i:=0) (se (N:=q8) (by decide +kernel) rfl) rfl (Or.inl rfl) (.inr rfl)) (qc (Cb (i:=1) (se (N:=q8) (by decide +kernel) rfl) rfl (Or.inl rfl) (.inr rfl)) (qc (Cb (i:=2) (se (N:=q8) (by decide +kernel) rfl) rfl (Or.inl rfl) (.inr rfl)) Vg))))) (fun _ _ _ _=>⟨_,Fd,by walk_at "B"⟩) (fun _ _ _ _=>⟨_,(pv 2),by walk_at "B"⟩))) fb)))
   (lb (Re PassesOwn.never rfl (Dc (Be (pv 0) T.zc T.Sg g15 hr T.Pg .nil Db)) (Cb (i:=3) Tf.nd rfl (Or.inl rfl)) (db (Fb (i:=4) Tf.nd rfl (Or.inl rfl) (zE hu (pv 2) (pv 3) (fun _ _=>rfl)))
   (lb (Gd (Ob Iu (ic ie (ic Yb (pv 1) (pv 4) (fun _ _=>rfl)) ib (fun _ _=>rfl)) (Tc (qd (pv 0) T.zc T.Xc g9 hr T.Wc .nil Db (cb (pv 3) fb)) rfl) (Sb _)) (lb lh) fc)))))),?_⟩
 walk_at "RD";have hqn:(qs.map V.ref).length=rows.length:=by rw [length_map,R.l1]
 refine ⟨⟨_,SqL.of R.at_⟩,?_⟩;refine jd.list_zs (xs:=qs.map V.ref) (zs:=ms.map V.ref) (SqL.of R.at_) (by rw [hqn];exact Nat.le_trans I.ln (by decide)) (by rw [hqn,length_map,R.l2]) (fun j v z N hv hz hN=>?_) (fun pm hpm=>?_)
 ·obtain ⟨qj,hqj,rfl⟩:=Mb hv;obtain ⟨mj,hmj,rfl⟩:=Mb hz;have hj:j < rows.length:=by rw [<- R.l1];exact (List.getElem?_eq_some_iff.mp hqj).1
  have e:=(R.al j qj mj _ hqj hmj (getElem?_eq_getElem hj)).1;walk_at "RD";exact ⟨_,SqT.of e,rfl,_,_,rfl,_,_,rfl,_,_,rfl,rfl,Sub.name3,hN⟩
 ·have sp:bc H (upd H pm (.lst (ms.map V.ref))):=jb hpm;have np:NoT H->NoT (upd H pm (.lst (ms.map V.ref))):=fun n=>n.upd
  have ep:(upd H pm (.lst (ms.map V.ref))) pm=some (.lst (ms.map V.ref)):=gb;generalize upd H pm (.lst (ms.map V.ref))=HA at sp np ep ⊢;refine ⟨pm,ms,rows.map (·.mem),rfl,⟨ep,by rw [R.l2,length_map],fun i m x hm hx=>?_⟩,by rw [length_map];exact I.ln,fun x hx=>?_,fun h H1 s1 n1 hh h1=>?_⟩
  ·obtain ⟨r,hr',rfl⟩:=Mb hx;have hqi:qs[i]? = some (qs[i]'(by rw [R.l1];exact (List.getElem?_eq_some_iff.mp hr').1)):=getElem?_eq_getElem _;exact sp _ _ (R.al i _ m r hqi hm hr').2
  ·obtain ⟨r,hr',rfl⟩:=List.mem_map.mp hx;exact I.ml r hr'
  ·have sA:=sp.trans s1;have C1:=C.same sA;refine ⟨_,_,sA _ _ e1,EB _ _ _ (by decide +kernel),c,n,ds,rfl,C1,fun pn hpn=>⟨pn,rfl,⟨_,SqL.of gb⟩,?_⟩⟩;have sB:=sA.trans (jb (o:=.lst (qb (ds.map (·.name)))) hpn);have h2:=(jb (o:=.lst (qb (ds.map (·.name)))) hpn) _ _ h1;have nB:NoT H->NoT (upd H1 pn (.lst (qb (ds.map (·.name))))):=fun n=>(n1 (np n)).upd
   have ePn:(upd H1 pn (.lst (qb (ds.map (·.name))))) pn=some (.lst (qb (ds.map (·.name)))):=gb;generalize upd H1 pn (.lst (qb (ds.map (·.name))))=HB at sB h2 nB ePn ⊢;refine Uj.list (xs:=qb (ds.map (·.name))) (fun i σ H'=>(∃ x y,σ=[some (.ref c),some (.ref p),some (.ref h),x,y])/\H'=HB/\Iq ds rows=(ds.drop i).findSome? (ux rows)) ?_ ?_ ?_ ?_
   ·exact ⟨⟨_,_,rfl⟩,rfl,rfl⟩
   ·rintro i σ H' hi ⟨_,rfl,_⟩;exact SqL.of ePn
   ·rintro i v σ H' hv zzq;refine zP fun zzM zzh=>?_
    obtain ⟨⟨x,y,rfl⟩,rfl,hS⟩:=zzq;subst zzh;unfold qb at hv;obtain ⟨nm,hnm,rfl⟩:=Mb hv;obtain ⟨d,hd,rfl⟩:=Mb hnm;obtain ⟨hi,hdi⟩:=List.getElem?_eq_some_iff.mp hd;have hdm:=mem_of_getElem? hd;have ht:told rows d.name=true:=by
     have:=List.filter_eq_nil_iff.mp hleft d.name (List.mem_map.mpr ⟨d,hdm,rfl⟩);simpa using this
    obtain ⟨k,r,hv1,hk1,hrk,hxm⟩:=TB ht;have hkl:k < rows.length:=(List.getElem?_eq_some_iff.mp hrk).1;have hsd:ux rows d=if r.lo < d.least then some (d,k) else none:=by
     unfold ux;rw [hk1,Option.bind_some,hrk,Option.bind_some]
    rw [drop_eq_getElem_cons hi,List.findSome?_cons,hdi,hsd] at hS;have hg:Cw H' h (.str d.name) (some (.int (k:Int))):=by rw [<- hv1];exact Cw.k (k:=Sum.inr d.name) h2
    have hqk:qs[k]? = some (qs[k]'(by rw [R.l1];exact hkl)):=getElem?_eq_getElem _;have hmk:ms[k]? = some (ms[k]'(by rw [R.l2];exact hkl)):=getElem?_eq_getElem _;have erk:=sB _ _ (R.al k _ _ r hqk hmk hrk).1;simp only [cf,Ab,set_cons_succ,set_cons_zero];refine zzC (fun σ' H2=>H2=H'/\σ'=[some (.ref c),some (.ref p),some (.ref h),some (.str d.name),some (.int (k:Int))]) (fun D' hD'=>?_) fun zzM zzh=>?_
    ·walk_at "RD";exact ⟨_,hg,hD' _ _ ⟨rfl,rfl⟩⟩
    rintro σ2 H2 ⟨rfl,rfl⟩;subst zzh;dsimp only;refine ac (decide (r.lo < d.least)) (fun Q hQ=>?_) (fun hb=>?_) (fun hb=>?_)
    ·walk_at "RD";exact ⟨_,SqL.of (sB _ _ R.at_),_,Eb (by rw [getElem?_map,hqk];rfl),_,rfl,_,SqT.of erk,_,Eb (j:=0) rfl,_,_,sB _ _ e1,EB _ _ _ (by decide +kernel),c,n,ds,i,d,rfl,C.same sB,hd,fun a W=>⟨a,rfl,_,W.f_least T,_,rfl,_,rfl,hQ⟩⟩
    ·have hb:=of_decide_eq_true hb;rw [if_pos hb] at hS;replace hS:Iq ds rows=some (d,k):=hS;rw [hS] at hnone;cases hnone
    ·have hb:=of_decide_eq_false hb;rw [if_neg hb] at hS;simp only [Qc];exact ⟨⟨_,_,rfl⟩,trivial,hS⟩
   ·rintro σ H' zzq;refine zP fun zzM zzh=>?_
    obtain ⟨⟨x,y,rfl⟩,rfl,hS⟩:=zzq;subst zzh;rw [yb,length_map,drop_length] at hS;exact q _ sB nB
theorem DC (T:Txt w K mg t):Ub P w K mg base CX0 4 t.ug t.yg q9 (Wv t):=by
 have g28:Ub P w K mg base CX0 3 t.Ov t.Dx q14 (Gy t):=IC T;refine T.Fi.ok Ve (fun vs H Q E h=>?_) (fun _ _ _ s H vs Q E hr h=>?_)
 ·obtain ⟨c,n,ds,p,qs,ms,rows,rfl,_⟩:=h;rfl
 obtain ⟨c,n,ds,p,qs,ms,rows,rfl,C,hn,R,I,nt,hnone,q⟩:=h;obtain ⟨⟨hnd,hdl⟩,dx,wl,nd,e1,_,_⟩:=id C;refine ⟨_,(lb (Re PassesOwn.never rfl (Fv rfl T.Dj (cb (pv 1) fb)) (Qg (K:=K) (n:=2) rfl rfl (qc (Cb (i:=2) Ve.nd rfl (Or.inl rfl) (.inl rfl)) (qc (Cb (i:=3) Ve.nd rfl (Or.inl rfl) (.inl rfl)) Vg))) (lb (Re PassesOwn.never rfl (Dc (ic ie (pv 3) ib (fun _ _=>rfl))) (Cb (i:=4) Ve.nd rfl (Or.inl rfl)) (lb (Re PassesOwn.never rfl (Dc (ic ie (pv 3) ib (fun _ _=>rfl))) (Cb (i:=5) Ve.nd rfl (Or.inl rfl)) (lb (Gd (PW.pt (Ol (Ob Ly (pv 4) (pv 5) (Sb _)) (Cj (zi (vb g28 hr rfl T.NH T.Hz.kp T.PH .nil Db (cb (pv 0) (cb (pv 4) (cb (pv 5) fb)))))))) (lb lh) fc)))))))),?_⟩;walk_at "RD";have nm3:∀ {x:Str},(∃ d ∈ ds,d.name=x)->∃ (i:Nat) (d:WD),ds[i]? = some d/\d.name=x/\wOf ds x=some d:=fun ⟨d,hd,e⟩=>by
  obtain ⟨i,hi⟩:=getElem?_of_mem hd;exact ⟨i,d,hi,e,by rw [<- e];exact Zg hnd hi⟩
 refine ⟨⟨_,SqL.of R.at_⟩,?_⟩;refine Uj.enum (xs:=qs.map V.ref) (fun i σ H'=>(∃ x y z u,σ=[some (.ref c),some (.ref p),x,y,z,u])/\bc H H'/\NoT H'/\Tq n ds rows=((rows.drop i).zipIdx i).findSome? (ls n ds)) ?_ ?_ ?_ ?_
 ·exact ⟨⟨_,_,_,_,rfl⟩,bc.refl _,nt,rfl⟩
 ·rintro i σ H' hi ⟨_,sm,_⟩;exact SqL.of (sm _ _ R.at_)
 ·rintro i v σ H' tp hv ⟨⟨x,y,z,u,rfl⟩,sm,n1,hS⟩ htp;obtain ⟨qi,hqi,rfl⟩:=Mb hv;have hi:i < rows.length:=by rw [<- R.l1];exact (List.getElem?_eq_some_iff.mp hqi).1
  have hri:rows[i]? = some rows[i]:=getElem?_eq_getElem hi;have hmi:ms[i]? = some (ms[i]'(by rw [R.l2];exact hi)):=getElem?_eq_getElem _;obtain ⟨er,em⟩:=R.al i qi _ _ hqi hmi hri;generalize ms[i]'(by rw [R.l2];exact hi)=m at hmi er em;have hrm:=mem_of_getElem? hri;have hin:=I.inn _ hrm;have hml:=I.ml _ hrm;rw [drop_eq_getElem_cons hi,List.zipIdx_cons,List.findSome?_cons] at hS;generalize hrr:rows[i]=r at er em hin hml hS;have s2:bc H' (upd H' tp (.tup [.int i,.ref qi])):=jb htp;have sB:=sm.trans s2;have nB:NoT (upd H' tp (.tup [.int i,.ref qi])):=n1.upd;refine Ln ?_;generalize upd H' tp (.tup [.int i,.ref qi])=HB at s2 sB nB ⊢;have erB:=sB _ _ er;have emB:=sB _ _ em;walk_at "RD";refine ⟨_,SqT.of erB,_,Eb (j:=2) rfl,m,rfl,⟨_,SqL.of emB⟩,?_⟩;generalize hrest:((rows.drop (i + 1)).zipIdx (i + 1)).findSome? (ls n ds)=rest at hS;refine Uj.list (xs:=qb r.mem) (fun j σ H2=>(∃ z u,σ=[some (.ref c),some (.ref p),some (.int (i:Int)),some (.ref qi),z,u])/\H2=HB/\ls n ds (r,i)=(r.mem.drop j).findSome? (fun x=>r.mem.findSome? fun y=>fm n ds i x y)) ?_ ?_ ?_ ?_
  ·exact ⟨⟨_,_,rfl⟩,rfl,rfl⟩
  ·rintro j σ H2 hj ⟨_,rfl,_⟩;exact SqL.of emB
  ·rintro j v σ H2 hv zzq;refine zP fun zzM zzh=>?_
   obtain ⟨⟨z,u,rfl⟩,rfl,hR⟩:=zzq;subst zzh;unfold qb at hv;obtain ⟨x1,hx1,rfl⟩:=Mb hv;obtain ⟨hj,hxj⟩:=List.getElem?_eq_some_iff.mp hx1;rw [drop_eq_getElem_cons hj,List.findSome?_cons,hxj] at hR;obtain ⟨i1,d1,hd1,hn1,hw1⟩:=nm3 (hin x1 (mem_of_getElem? hx1));generalize hrest2:(r.mem.drop (j + 1)).findSome? (fun x=>r.mem.findSome? fun y=>fm n ds i x y)=rest2 at hR;walk_at "RD";refine ⟨_,SqT.of erB,_,Eb (j:=2) rfl,m,rfl,⟨_,SqL.of emB⟩,?_⟩;refine Uj.list (xs:=qb r.mem) (fun l σ H3=>(∃ u,σ=[some (.ref c),some (.ref p),some (.int (i:Int)),some (.ref qi),some (.str x1),u])/\H3=H2/\(r.mem.findSome? fun y=>fm n ds i x1 y)=(r.mem.drop l).findSome? (fun y=>fm n ds i x1 y)) ?_ ?_ ?_ ?_
   ·exact ⟨⟨_,rfl⟩,rfl,rfl⟩
   ·rintro l σ H3 hl ⟨_,rfl,_⟩;exact SqL.of emB
   ·rintro l v σ H3 hv zzq;refine zP fun zzM zzh=>?_
    obtain ⟨⟨u,rfl⟩,rfl,hL⟩:=zzq;subst zzh;unfold qb at hv;obtain ⟨x2,hx2,rfl⟩:=Mb hv;obtain ⟨hl,hxl⟩:=List.getElem?_eq_some_iff.mp hx2;rw [drop_eq_getElem_cons hl,List.findSome?_cons,hxl] at hL;obtain ⟨i2,d2,hd2,hn2,hw2⟩:=nm3 (hin x2 (mem_of_getElem? hx2));have hmt:mtN n ds x1 x2=mt n d1 d2:=by unfold mtN;rw [hw1,hw2]
    have hc3:fm n ds i x1 x2=if x1 ≠ x2/\mt n d1 d2=true then some (x1,x2,i) else none:=by unfold fm;rw [hmt]
    rw [hc3] at hL;simp only [cf,set_cons_succ,set_cons_zero];refine ac (decide (x1 ≠ x2) && mt n d1 d2) (fun Q hQ=>?_) (fun hb=>?_) (fun hb=>?_)
    ·walk_at "RD";by_cases c0:x1=x2
     ·rw [if_neg (by simp [c0])];rw [decide_eq_false (fun z=>z c0),Bool.false_and] at hQ;exact hQ
     ·rw [if_pos (by simpa using c0)];rw [decide_eq_true c0,Bool.true_and] at hQ;exact ⟨c,n,ds,i1,i2,d1,d2,by rw [hn1,hn2],C.same sB,hn,hd1,hd2,nB,_,rfl,hQ⟩
    ·rw [Bool.and_eq_true,decide_eq_true_eq] at hb;rw [if_pos hb] at hL;replace hL:(r.mem.findSome? fun y=>fm n ds i x1 y)=some (x1,x2,i):=hL;rw [hL] at hR;replace hR:ls n ds (r,i)=some (x1,x2,i):=hR;rw [hR] at hS;replace hS:Tq n ds rows=some (x1,x2,i):=hS;rw [hS] at hnone;cases hnone
    ·have hb:¬ (x1 ≠ x2/\mt n d1 d2=true):=fun z=>by
      rw [decide_eq_true z.1,z.2] at hb;exact nomatch hb
     rw [if_neg hb] at hL;simp only [Qc];exact ⟨⟨_,rfl⟩,trivial,hL⟩
   ·rintro σ H3 zzq;refine zP fun zzM zzh=>?_
    obtain ⟨⟨u,rfl⟩,rfl,hL⟩:=zzq;subst zzh;rw [yb,drop_length] at hL;replace hL:(r.mem.findSome? fun y=>fm n ds i x1 y)=none:=hL;rw [hL] at hR;exact ⟨⟨_,_,rfl⟩,rfl,hR⟩
  ·rintro σ H2 zzq;refine zP fun zzM zzh=>?_
   obtain ⟨⟨z,u,rfl⟩,rfl,hR⟩:=zzq;subst zzh;rw [yb,drop_length] at hR;replace hR:ls n ds (r,i)=none:=hR;rw [hR] at hS;exact ⟨⟨_,_,_,_,rfl⟩,sB,nB,hS⟩
 ·rintro σ H' zzq;refine zP fun zzM zzh=>?_
  obtain ⟨⟨x,y,z,u,rfl⟩,sm,n1,hS⟩:=zzq;subst zzh;rw [length_map,R.l1,drop_length] at hS;exact q _ sm (fun _=>n1)
theorem WE (T:Txt w K mg t):Ub P w K mg base CX0 4 t.lg t.ng q35 (kx t):=by
 refine Ub.forget (sp:=NA t) ?_ fun vs H Q E h=>?_
 ·have g28:Ub P w K mg base CX0 3 t.Ov t.Dx q14 (Gy t):=IC T;have g51:Ub P w K mg base CX0 3 t.GF t.iG q14 (nI t):=wM T;have g15:Ub P w K mg base CX0 3 t.Ad t.Vd ["self"] (Qp t):=(qv T).mono (by decide);have g9:Ub P w K mg base CX0 3 t.Kc t.Yc q11 (nj t):=(el T).mono (by decide);have V_Way_ready:yK P w K mg base CX0 3 (isW t) "ready" ["self"] (xl t):=Ex (UI T) (by decide);have V_Way_fade:yK P w K mg base CX0 3 (isW t) "fade" ["self"] (yn t):=Ex (vM T) (by decide);refine T.Ii.ok Fh (fun vs H Q E h=>?_) (fun _ _ _ s H vs Q E hr h=>?_)
  ·obtain ⟨c,n,ds,fa,sa,f,s,rfl,_⟩:=h;rfl
  obtain ⟨c,n,ds,fa,sa,f,s,rfl,C,hn,hD,hf,hs,fin,sin,hfl,hsl,nt,q⟩:=h;obtain ⟨⟨hnd,hdl⟩,dx,wl,nd,e1,_,_⟩:=id C;refine ⟨_,(db (Fb (i:=3) Fh.nd rfl (Or.inl rfl) (sd (cb ib fb)))
   (db (nc (Se PySem.F.plainAttrs_list PySem.F.slot_list_extend PySem.F.type_list_extend Hq (pv 3) (cb (Qd rfl (Dc (pv 1)) (dc (sc:=pb uf) rfl (by decide +kernel)) (N:=q51) (sel:=[none,some 0]) (Cc (M:=q34) (by decide +kernel)) (Blk.of (fun _ _ _ _=>(Cb (i:=0) (se (N:=q51) (by decide +kernel) rfl) rfl (Or.inl rfl))) (fun _ _ _ _=>⟨_,Fd,by walk_at "B"⟩) (fun _ _ _ _=>⟨_,(cx (qd (pv 1) T.zc T.Xc g9 hr T.Wc .nil Db (cb (pv 0) fb)) V_Way_fade hr Db),by walk_at "B"⟩))) fb)))
   (db (nc (Se PySem.F.plainAttrs_list PySem.F.slot_list_extend PySem.F.type_list_extend Hq (pv 3) (cb (Qd rfl (Dc (pv 2)) (dc (sc:=pb uf) rfl (by decide +kernel)) (N:=q51) (sel:=[none,some 0]) (Cc (M:=q34) (by decide +kernel)) (Blk.of (fun _ _ _ _=>(Cb (i:=0) (se (N:=q51) (by decide +kernel) rfl) rfl (Or.inl rfl))) (fun _ _ _ _=>⟨_,Fd,by walk_at "B"⟩) (fun _ _ _ _=>⟨_,(cx (qd (pv 1) T.zc T.Xc g9 hr T.Wc .nil Db (cb (pv 0) fb)) V_Way_ready hr Db),by walk_at "B"⟩))) fb)))
   (db (Re PassesOwn.never rfl (Dc (Be (pv 0) T.zc T.Sg g15 hr T.Pg .nil Db)) (Cb (i:=4) Fh.nd rfl (Or.inr rfl)) (lb (Gd (Ob Jg (pv 4) (pv 2) (by with_unfolding_all rfl)) (lb (nc (Se PySem.F.plainAttrs_list PySem.F.slot_list_extend PySem.F.type_list_extend Hq (pv 3) (cb (Qd rfl (Dc (pv 2)) (dc (sc:=pb uf) rfl (by decide +kernel)) (N:=["other","crossing","one"]) (sel:=[none,some 0,some 4]) (Cc (M:=q34) (by decide +kernel)) (Blk.of (fun _ _ _ _=>(Cb (i:=0) (se (N:=["other","crossing","one"]) (by decide +kernel) rfl) rfl (Or.inl rfl))) (fun _ _ _ _=>⟨_,(Gq (zi (vb g28 hr rfl T.NH T.Hz.kp T.PH .nil Db (cb (pv 1) (cb (pv 2) (cb (pv 0) fb)))))),by walk_at "B"⟩) (fun _ _ _ _=>⟨_,(vb g51 hr rfl T.pN T.LJ.kp T.FN .nil Db (cb (pv 1) (cb (pv 2) (cb (pv 0) fb)))),by walk_at "B"⟩))) fb)))) fc)))
   (lb (Qb (Vb (Bx rfl) rfl T.NI wo (cb (pv 3) fb)))))))),?_⟩
  refine zS (fun σ' H'=>bc H H'/\NoT H'/\∃ tl,H tl=none/\H' tl=some (.lst ([(0:Int)].map V.int))/\σ'=[some (.ref c),some (.ref fa),some (.ref sa),some (.ref tl),none]) (fun D' hD=>?_) fun zzM zzh=>?_
  ·walk_at "RD";exact ⟨by decide,fun tl htl=>hD _ _ ⟨jb htl,nt.upd,tl,htl,gb,rfl⟩⟩
  rintro σ1 H1 ⟨s1,n1,tl,htl,w1,rfl⟩;subst zzh;refine zS (fun σ' H'=>bc H H'/\NoT H'/\H' tl=some (.lst (([0] ++ f.map (Qy ds)).map V.int))/\σ'=[some (.ref c),some (.ref fa),some (.ref sa),some (.ref tl),none]) (fun D' hD'=>?_) fun zzM zzh=>?_
  ·walk_at "RD";refine ⟨.inl ⟨_,SqL.of w1⟩,⟨_,SqL.of (s1 _ _ hf)⟩,?_⟩;refine jd.list_zs (xs:=qb f) (zs:=(f.map (Qy ds)).map V.int) (SqL.of (s1 _ _ hf)) (by rw [yb];exact Nat.le_trans hfl (by decide)) (by rw [yb,length_map,length_map]) (fun j v z N hv hz hN=>?_) (fun pl hpl=>?_)
   ·unfold qb at hv;obtain ⟨x,hx,rfl⟩:=Mb hv;obtain ⟨y,hy,rfl⟩:=Mb hz;obtain ⟨x',hx',rfl⟩:=Mb hy;rw [hx] at hx';cases hx';obtain ⟨d,hd,rfl⟩:=fin x (mem_of_getElem? hx);obtain ⟨i,hi⟩:=getElem?_of_mem hd;have hfd:Qy ds d.name=Xu d:=by unfold Qy;rw [Zg hnd hi];rfl
    rw [hfd] at hN;walk_at "RD";refine ⟨Sub.name,_,_,s1 _ _ e1,EB _ _ _ (by decide +kernel),c,n,ds,i,d,rfl,C.same s1,hi,fun a W=>?_⟩;obtain ⟨dk,dxw,hway⟩:=id W;exact ⟨a,rfl,_,_,_,hway,⟨_,dk,rfl⟩,TH (by decide +kernel),a,d,rfl,W,rfl,hN⟩
   ·refine ⟨pl,rfl,_,(jb hpl) _ _ w1,_,gb,?_,hD' _ _ ⟨(s1.trans (jb hpl)).updN htl,(n1.upd).upd,by rw [gb,map_append],rfl⟩⟩;rw [length_map,length_map,length_map];exact Nat.le_trans (show _ <= 13 by show 1 + f.length <= 13;omega) (by decide)
  rintro σ2 H2 ⟨s2,n2,w2,rfl⟩;subst zzh;refine zS (fun σ' H'=>bc H H'/\NoT H'/\H' tl=some (.lst (([0] ++ f.map (Qy ds) ++ s.map (Du ds)).map V.int))/\σ'=[some (.ref c),some (.ref fa),some (.ref sa),some (.ref tl),none]) (fun D' hD'=>?_) fun zzM zzh=>?_
  ·walk_at "RD";refine ⟨.inl ⟨_,SqL.of w2⟩,⟨_,SqL.of (s2 _ _ hs)⟩,?_⟩;refine jd.list_zs (xs:=qb s) (zs:=(s.map (Du ds)).map V.int) (SqL.of (s2 _ _ hs)) (by rw [yb];exact Nat.le_trans hsl (by decide)) (by rw [yb,length_map,length_map]) (fun j v z N hv hz hN=>?_) (fun pl hpl=>?_)
   ·unfold qb at hv;obtain ⟨x,hx,rfl⟩:=Mb hv;obtain ⟨y,hy,rfl⟩:=Mb hz;obtain ⟨x',hx',rfl⟩:=Mb hy;rw [hx] at hx';cases hx';obtain ⟨d,hd,rfl⟩:=sin x (mem_of_getElem? hx);obtain ⟨i,hi⟩:=getElem?_of_mem hd;have hfd:Du ds d.name=Xm d:=by unfold Du;rw [Zg hnd hi];rfl
    rw [hfd] at hN;walk_at "RD";refine ⟨Sub.name,_,_,s2 _ _ e1,EB _ _ _ (by decide +kernel),c,n,ds,i,d,rfl,C.same s2,hi,fun a W=>?_⟩;obtain ⟨dk,dxw,hway⟩:=id W;exact ⟨a,rfl,_,_,_,hway,⟨_,dk,rfl⟩,TH (by decide +kernel),a,d,rfl,W,rfl,hN⟩
   ·refine ⟨pl,rfl,_,(jb hpl) _ _ w2,_,gb,?_,hD' _ _ ⟨(s2.trans (jb hpl)).updN htl,(n2.upd).upd,by rw [gb,<- map_append],rfl⟩⟩;rw [length_map,length_map,length_map,length_append,length_map];exact Nat.le_trans (show _ <= 25 by show 1 + f.length + s.length <= 25;omega) (by decide)
  rintro σ3 H3 ⟨s3,n3,w3,rfl⟩;subst zzh;refine zS (fun σ' H'=>bc H H'/\NoT H'/\H' tl=some (.lst ((chL n ds f s).map V.int))/\∃ x4,σ'=[some (.ref c),some (.ref fa),some (.ref sa),some (.ref tl),x4]) (fun D' hD'=>?_) fun zzM zzh=>?_
  ·walk_at "RD";have C3:=C.same s3;refine ⟨_,_,s3 _ _ e1,EB _ _ _ (by decide +kernel),c,n,ds,rfl,C3,fun pn hpn=>⟨pn,rfl,⟨_,SqL.of gb⟩,?_⟩⟩;have sB:=s3.trans (jb (o:=.lst (qb (ds.map (·.name)))) hpn);have nB:NoT (upd H3 pn (.lst (qb (ds.map (·.name))))):=n3.upd;have ePn:(upd H3 pn (.lst (qb (ds.map (·.name))))) pn=some (.lst (qb (ds.map (·.name)))):=gb;have wB:=(jb (o:=.lst (qb (ds.map (·.name)))) hpn) _ _ w3;have hptl:pn ≠ tl:=fun z=>by rw [z,w3] at hpn;cases hpn
   generalize upd H3 pn (.lst (qb (ds.map (·.name))))=HB at sB nB ePn wB ⊢;refine Uj.list (xs:=qb (ds.map (·.name))) (fun i σ H'=>(∃ x,σ=[some (.ref c),some (.ref fa),some (.ref sa),some (.ref tl),x])/\bc H H'/\NoT H'/\H' pn=some (.lst (qb (ds.map (·.name))))/\H' tl=some (.lst (([(0:Int)] ++ f.map (Qy ds) ++ s.map (Du ds) ++ ((ds.map fun d:WD=>d.name).take i).flatMap (chX n ds s)).map V.int))/\(((ds.map fun d:WD=>d.name).take i).flatMap (chX n ds s)).length <= 12 * i) ?_ ?_ ?_ ?_
   ·exact ⟨⟨_,rfl⟩,sB,nB,ePn,by rw [take_zero,List.flatMap_nil,append_nil];exact wB,by simp⟩
   ·rintro i σ H' hi zzq;refine zP fun zzM zzh=>?_
    obtain ⟨_,_,_,e,_⟩:=zzq;subst zzh;exact SqL.of e
   ·rintro i v σ H' hv zzq;refine zP fun zzM zzh=>?_
    obtain ⟨⟨x4,rfl⟩,sm,n4,ePn4,w4,hl4⟩:=zzq;subst zzh;unfold qb at hv;obtain ⟨nm,hnm,rfl⟩:=Mb hv;have hnm':=hnm;obtain ⟨d,hd,rfl⟩:=Mb hnm';have hi12:i < 12:=by have:=(List.getElem?_eq_some_iff.mp hd).1;omega
    have hwd:=Zg hnd hd;simp only [cf,set_cons_succ,set_cons_zero];refine ac (!decide (d.name ∈ s)) (fun Q hQ=>?_) (fun hb=>?_) (fun hb=>?_)
    ·walk_at "RD";refine ⟨_,.inl (SqL.of (sm _ _ hs)),rfl,jg s,?_⟩;rw [Kj];exact hQ
    ·have hb:d.name ∉ s:=by simpa using hb
     have hcx:chX n ds s d.name=(s.filter fun y=>mtN n ds d.name y).map (HK ds d.name):=by unfold chX;rw [if_neg hb]
     walk_at "RD";refine ⟨.inl ⟨_,SqL.of w4⟩,⟨_,SqL.of (sm _ _ hs)⟩,?_⟩;refine jd.list_sel (xs:=qb s) (ss:=s.map fun y=>if mtN n ds d.name y=true then some (V.int (HK ds d.name y)) else none) (SqL.of (sm _ _ hs)) (by rw [yb];exact Nat.le_trans hsl (by decide)) (by rw [yb,length_map]) (fun l v o ys N hv ho hN=>?_) (fun pl hpl=>?_)
     ·unfold qb at hv;obtain ⟨x2,hx2,rfl⟩:=Mb hv;obtain ⟨x',hx',rfl⟩:=Mb ho;rw [hx2] at hx';cases hx';obtain ⟨e,he,rfl⟩:=sin x2 (mem_of_getElem? hx2);obtain ⟨j,hj⟩:=getElem?_of_mem he;have hwe:=Zg hnd hj;have hm2:mtN n ds d.name e.name=mt n d e:=by unfold mtN;rw [hwd,hwe]
      have hg2:HK ds d.name e.name=if d.off - e.near > 0 then d.off - e.near else 0:=by unfold HK;rw [hwd,hwe]
      rw [hm2,hg2] at hN;walk_at "RD";refine ⟨Sub.name,c,n,ds,i,j,d,e,rfl,C.same sm,hn,hd,hj,n4,_,rfl,?_⟩;cases hmt:mt n d e with
      | true=>
       rw [if_pos rfl];rw [hmt,if_pos rfl] at hN;exact ⟨c,n,ds,i,j,d,e,rfl,C.same sm,hd,hj,hN⟩
      | false=>
       rw [if_neg (by decide)];rw [hmt,if_neg (by decide)] at hN;simpa using hN
     ·rw [Nz (fun y=>mtN n ds d.name y) (HK ds d.name),<- hcx];have hcl:(chX n ds s d.name).length <= 12:=by rw [hcx,length_map];exact Nat.le_trans (List.length_filter_le ..) hsl
      refine ⟨pl,rfl,_,(jb hpl) _ _ w4,_,gb,?_,⟨_,rfl⟩,(sm.trans (jb hpl)).updN htl,(n4.upd).upd,by rw [zb hptl];exact (jb hpl) _ _ ePn4,?_,?_⟩
      ·rw [length_map,length_map,length_append,length_append,length_append,length_map,length_map];exact Nat.le_trans (show _ <= 500 by show 1 + f.length + s.length + _ + _ <= 500;omega) (by decide)
      ·rw [gb,Zd hnm,List.flatMap_append,<- map_append];simp
      ·rw [Zd hnm,List.flatMap_append,length_append,flatMap_cons,List.flatMap_nil,append_nil];omega
    ·have hb:d.name ∈ s:=by simpa using hb
     have hcx:chX n ds s d.name=[]:=by unfold chX;rw [if_pos hb]
     simp only [Qc];refine ⟨⟨_,rfl⟩,sm,n4,ePn4,?_,?_⟩
     ·rw [Zd hnm,List.flatMap_append,flatMap_cons,hcx];simpa using w4
     ·rw [Zd hnm,List.flatMap_append,length_append,flatMap_cons,hcx];show _ + 0 <= _;omega
   ·rintro σ H' zzq;refine zP fun zzM zzh=>?_
    obtain ⟨⟨x4,rfl⟩,sm,n4,_,w4,_⟩:=zzq;subst zzh;rw [yb,take_length] at w4;exact hD' _ _ ⟨sm,n4,w4,_,rfl⟩
  rintro σ4 H4 ⟨s4,n4,w4,x4,rfl⟩;subst zzh;walk_at "RD";obtain ⟨mx,h1,h2⟩:=iC (chL n ds f s) (by unfold chL;simp);exact ⟨_,SqL.of w4,mx,h1,h2,q mx H4 s4⟩
 ·obtain ⟨c,n,ds,fa,sa,f,s,rfl,C,hn,hD,hf,hs,fin,sin,hfl,hsl,nt,q⟩:=h;exact ⟨nt,c,n,ds,fa,sa,f,s,rfl,C,hn,hD,hf,hs,fin,sin,hfl,hsl,nt,fun v H' sm=>⟨sm,q v⟩⟩
end
end My
namespace My
open PySem L2
noncomputable abbrev Wz:List Str:=[Str.ofString "crossing",Str.ofString "many",Str.ofString "leasts",Str.ofString "mosts",Str.ofString "members",Str.ofString "sorts",Str.ofString "homes",Str.ofString "changes"]
noncomputable def sgF (c:Addr) (k:Nat) (le mo me so ho ch:Addr):List (Str × V):=[(Str.ofString "crossing",V.ref c),(Str.ofString "many",V.int k),(Str.ofString "leasts",V.ref le),(Str.ofString "mosts",V.ref mo),(Str.ofString "members",V.ref me),(Str.ofString "sorts",V.ref so),(Str.ofString "homes",V.ref ho),(Str.ofString "changes",V.ref ch)]
theorem Zu (c:Addr) (k:Nat) (le mo me so ho ch:Addr):(sgF c k le mo me so ho ch).map (·.1)=Wz:=rfl
noncomputable def CK (ds:List WD) (r:ST):Str:=((r.mem.head?.bind (wOf ds)).map Gf).getD (Str.ofString "")
noncomputable def stK (i j:Nat):List Key:=[Sum.inl (i:Int),Sum.inl (j:Int)]
noncomputable def RC (i j:Nat) (kvs:List (List Key × V)):Prop:=kvs.length <= 6 * i + j
noncomputable def nv (t:Adr) (H:Hp) (a c:Addr) (k:Nat):Prop:=∃ dx le mo me so ho ch,H a=some (.ins t.Fc dx (sgF c k le mo me so ho ch))
noncomputable def sI (t:Adr):Sp:=fun vs H Q _=>∃ a dx c n ds p qs ms rows,vs=[.ref a,.ref c,.ref p]/\H a=some (.ins t.Fc dx [])/\Uc t H c n ds/\0 < n/\IK ds/\fj H p qs ms rows/\RIn ds rows/\(∀ r ∈ rows,r.mem ≠ [])/\NoT H /\
 ∀ H',Vc a H H'->NoT H'->nv t H' a c rows.length->Q .non H'
theorem lC (kvs:List (List Key × V)) (k:List Key) (v:V):(Mo kvs k v).length <= kvs.length + 1:=by
 unfold Mo;split
 ·rw [length_map];omega
 ·rw [length_append];exact Nat.le_refl _
theorem fj.sameA {H H':Hp} {a p C dx:Addr} {qs ms:List Addr} {rows:List ST} (h:fj H p qs ms rows) (s:Vc a H H') (ha:H a=some (.ins C dx [])):fj H' p qs ms rows:=by
 refine ⟨s _ _ (af h.at_ ha (by intro z;cases z)) h.at_,h.l1,h.l2,fun i q m r x y z=>?_⟩;obtain ⟨e1,e2⟩:=h.al i q m r x y z;exact ⟨s _ _ (af e1 ha (by intro z;cases z)) e1,s _ _ (af e2 ha (by intro z;cases z)) e2⟩
theorem xx {H:Hp} {p b C D dx dy:Addr} {x:Str × V} {fs:List (Str × V)} (hp:H p=some (.ins C dx [])) (hb:H b=some (.ins D dy (x :: fs))):b ≠ p:=fun z=>by
 subst z;rw [hp] at hb;cases hb
theorem CN {t:Adr} {H H':Hp} {p a C dx:Addr} {d:WD} (hp:H p=some (.ins C dx [])) (sx:Vc p H H') (h:Pe t H a d):Pe t H' a d:=by
 obtain ⟨h1,dy,e⟩:=h;exact ⟨h1,dy,sx _ _ (xx hp e) e⟩
theorem BD {t:Adr} {H H':Hp} {p c C dx:Addr} {n:Int} {ds:List WD} (hp:H p=some (.ins C dx [])) (sx:Vc p H H') (h:Uc t H c n ds):Uc t H' c n ds:=by
 obtain ⟨h0,dy,wl,nd,e1,⟨as,w1,w2,w3⟩,e3⟩:=h;exact ⟨h0,dy,wl,nd,sx _ _ (xx hp e1) e1,⟨as,sx _ _ (af w1 hp (by intro z;cases z)) w1,w2,fun i a d h1 h2=>CN hp sx (w3 i a d h1 h2)⟩,sx _ _ (af e3 hp (by intro z;cases z)) e3⟩
theorem Op.upd {H:Hp} {b p:Addr} {ms:List Addr} {mems:List (List Str)} {u o:HO} (h:Op H p ms mems) (hb:H b=some u) (hu:∀ xs,u ≠ .lst xs):Op (upd H b o) p ms mems:=by
 refine ⟨by rw [zb (af h.at_ hb (fun z=>hu _ z.symm))];exact h.at_,h.ln,fun i m x a c=>?_⟩;have e:=h.al i m x a c;rw [zb (af e hb (fun z=>hu _ z.symm))];exact e
section
variable {w:World} {K:W.Frag} {mg:Str->Option Value} {t:Adr} {H:Hp} {a c dx le mo me so ho ch:Addr} {k:Nat}
theorem Dy (T:Txt w K mg t) (e:H a=some (.ins t.Fc dx (sgF c k le mo me so ho ch))):Nj K H a (Str.ofString "many") (.int k):=⟨_,dx,_,e,T.Ie,T.Yl,Cd Wz 1 (Zu ..) (by decide +kernel) rfl⟩
theorem Zt (T:Txt w K mg t) (e:H a=some (.ins t.Fc dx (sgF c k le mo me so ho ch))):Nj K H a (Str.ofString "members") (.ref me):=⟨_,dx,_,e,T.Ie,T.gg,Cd Wz 4 (Zu ..) (by decide +kernel) rfl⟩
theorem nA (T:Txt w K mg t) (e:H a=some (.ins t.Fc dx (sgF c k le mo me so ho ch))):Nj K H a (Str.ofString "changes") (.ref ch):=⟨_,dx,_,e,T.Ie,T.oj,Cd Wz 7 (Zu ..) (by decide +kernel) rfl⟩
end
section
variable {P:Program} {w:World} {K:W.Frag} {mg:Str->Option Value} {base:Heap} {t:Adr}
theorem tM (T:Txt w K mg t):Ub P w K mg base CX0 5 t.Kf t.kh q49 (sI t):=by
 have g17:Ub P w K mg base CX0 4 t.Uk t.Kk q21 (Tx t):=(bC T).mono (by decide);have g14:Ub P w K mg base CX0 4 t.rh t.xh ["members"] Wp:=(Ju T).mono (by decide);have g52:Ub P w K mg base CX0 4 t.lg t.ng q35 (kx t):=WE T;refine T.En.ok Lf (fun vs H Q E h=>?_) (fun _ _ _ s H vs Q E hr h=>?_)
 ·obtain ⟨a,dx,c,n,ds,p,qs,ms,rows,rfl,_⟩:=h;rfl
 obtain ⟨a,dx,c,n,ds,p,qs,ms,rows,rfl,ha,C,hn,hD,R,I,hne,nt,q⟩:=h;have hu:=jy hr;have hnd:=C.1.1;have hqn:(qs.map V.ref).length=rows.length:=by rw [length_map,R.l1]
 have hql:(qs.map V.ref).length <= sizeLine:=by rw [hqn];exact Nat.le_trans I.ln (by decide)
 refine ⟨_,(db (tf (pv 0) (pv 1) rfl)
   (db (tf (pv 0) (Vb Ib rfl T.Bf Rb (cb (pv 2) fb)) rfl)
   (db (tf (pv 0) (Qd rfl (Dc (pv 2)) (dc (sc:=pb ff) rfl (by decide +kernel)) (N:=q8) (sel:=[none,none,none]) (Cc (M:=q32) (by decide +kernel)) (Blk.of (fun _ _ _ _=>(Qg (K:=K) (n:=3) rfl rfl (qc (Cb (i:=0) (se (N:=q8) (by decide +kernel) rfl) rfl (Or.inl rfl) (.inr rfl)) (qc (Cb (i:=1) (se (N:=q8) (by decide +kernel) rfl) rfl (Or.inl rfl) (.inr rfl)) (qc (Cb (i:=2) (se (N:=q8) (by decide +kernel) rfl) rfl (Or.inl rfl) (.inr rfl)) Vg))))) (fun _ _ _ _=>⟨_,Fd,by walk_at "B"⟩) (fun _ _ _ _=>⟨_,(pv 0),by walk_at "B"⟩))) rfl)
   (db (tf (pv 0) (Qd rfl (Dc (pv 2)) (dc (sc:=pb ff) rfl (by decide +kernel)) (N:=q8) (sel:=[none,none,none]) (Cc (M:=q32) (by decide +kernel)) (Blk.of (fun _ _ _ _=>(Qg (K:=K) (n:=3) rfl rfl (qc (Cb (i:=0) (se (N:=q8) (by decide +kernel) rfl) rfl (Or.inl rfl) (.inr rfl)) (qc (Cb (i:=1) (se (N:=q8) (by decide +kernel) rfl) rfl (Or.inl rfl) (.inr rfl)) (qc (Cb (i:=2) (se (N:=q8) (by decide +kernel) rfl) rfl (Or.inl rfl) (.inr rfl)) Vg))))) (fun _ _ _ _=>⟨_,Fd,by walk_at "B"⟩) (fun _ _ _ _=>⟨_,(pv 1),by walk_at "B"⟩))) rfl)
   (db (tf (pv 0) (Qd rfl (Dc (pv 2)) (dc (sc:=pb ff) rfl (by decide +kernel)) (N:=q8) (sel:=[none,none,none]) (Cc (M:=q32) (by decide +kernel)) (Blk.of (fun _ _ _ _=>(Qg (K:=K) (n:=3) rfl rfl (qc (Cb (i:=0) (se (N:=q8) (by decide +kernel) rfl) rfl (Or.inl rfl) (.inr rfl)) (qc (Cb (i:=1) (se (N:=q8) (by decide +kernel) rfl) rfl (Or.inl rfl) (.inr rfl)) (qc (Cb (i:=2) (se (N:=q8) (by decide +kernel) rfl) rfl (Or.inl rfl) (.inr rfl)) Vg))))) (fun _ _ _ _=>⟨_,Fd,by walk_at "B"⟩) (fun _ _ _ _=>⟨_,(pv 2),by walk_at "B"⟩))) rfl)
   (db (tf (pv 0) (Qd rfl (Dc (pv 2)) (dc (sc:=pb ff) rfl (by decide +kernel)) (N:=q52) (sel:=[none,none,none,some 1]) (Cc (M:=q32) (by decide +kernel)) (Blk.of (fun _ _ _ _=>(Qg (K:=K) (n:=3) rfl rfl (qc (Cb (i:=0) (se (N:=q52) (by decide +kernel) rfl) rfl (Or.inl rfl) (.inr rfl)) (qc (Cb (i:=1) (se (N:=q52) (by decide +kernel) rfl) rfl (Or.inl rfl) (.inr rfl)) (qc (Cb (i:=2) (se (N:=q52) (by decide +kernel) rfl) rfl (Or.inl rfl) (.inr rfl)) Vg))))) (fun _ _ _ _=>⟨_,Fd,by walk_at "B"⟩) (fun _ _ _ _=>⟨_,(vb g17 hr rfl T.jq T.Rk.kp T.nq .nil Db (cb (pv 3) (cb (ic Yb (pv 2) ib (fun _ _=>rfl)) fb))),by walk_at "B"⟩))) rfl)
   (db (tf (pv 0) (vb g14 hr rfl T.Co T.Pi.kp T.Eo .nil Db (cb (Tc (pv 0) rfl) fb)) rfl)
   (db (tf (pv 0) OJ rfl)
   (lb (Re PassesOwn.never rfl (Of rfl T.Hi (cb (Tc (pv 0) rfl) fb)) (Cb (i:=3) Lf.nd rfl (Or.inl rfl)) (lb (Re PassesOwn.never rfl (Of rfl T.Hi (cb (Tc (pv 0) rfl) fb)) (Cb (i:=4) Lf.nd rfl (Or.inl rfl)) (lb (Gd (Ob Ly (pv 3) (pv 4) (Sb _)) (lb (EI hu (Tc (pv 0) rfl) (br (cb (pv 3) (cb (pv 4) fb))) (vb g52 hr rfl T.jt T.Ii.kp T.wt .nil Db (cb (pv 1) (cb (ic Yb (Tc (pv 0) rfl) (pv 3) (fun _ _=>rfl)) (cb (ic Yb (Tc (pv 0) rfl) (pv 4) (fun _ _=>rfl)) fb)))) rfl)) fc)))))))))))))),?_⟩
 refine zS (fun σ' H'=>Vc a H H'/\NoT H'/\H' a=some (.ins t.Fc dx [(Str.ofString "crossing",V.ref c)])/\σ'=[some (.ref a),some (.ref c),some (.ref p),none,none]) (fun D' hD'=>?_) fun zzM zzh=>?_
 ·walk_at "RD";exact ⟨_,_,_,ha,T.Ie,T.Ym,by decide,hD' _ _ ⟨fun b u hb e=>by rw [zb hb];exact e,nt.upd,gb,rfl⟩⟩
 rintro σ1 H1 ⟨x1,n1,a1,rfl⟩;have R1:=R.sameA x1 ha;subst zzh;refine zS (fun σ' H'=>Vc a H H'/\NoT H'/\H' a=some (.ins t.Fc dx [(Str.ofString "crossing",V.ref c),(Str.ofString "many",V.int (rows.length:Int))])/\σ'=[some (.ref a),some (.ref c),some (.ref p),none,none]) (fun D' hD'=>?_) fun zzM zzh=>?_
 ·walk_at "RD";refine ⟨_,.inl (SqL.of R1.at_),_,_,_,a1,T.Ie,T.Yl,(show (1:Nat) < 1000 by decide),?_⟩;rw [hqn,show qh (Str.ofString "many") (V.int (rows.length:Int)) [(Str.ofString "crossing",V.ref c)]=[(Str.ofString "crossing",V.ref c),(Str.ofString "many",V.int (rows.length:Int))] from ud [Str.ofString "crossing"] rfl (by decide +kernel)];exact hD' _ _ ⟨fun b u hb e=>by rw [zb hb];exact x1 _ _ hb e,n1.upd,gb,rfl⟩
 rintro σ2 H2 ⟨x2,n2,a2,rfl⟩;have R2:=R.sameA x2 ha;subst zzh;refine zS (fun σ' H'=>Vc a H H'/\NoT H'/\∃ le,H' a=some (.ins t.Fc dx [(Str.ofString "crossing",V.ref c),(Str.ofString "many",V.int (rows.length:Int)),(Str.ofString "leasts",V.ref le)])/\σ'=[some (.ref a),some (.ref c),some (.ref p),none,none]) (fun D' hD'=>?_) fun zzM zzh=>?_
 ·walk_at "RD";refine ⟨⟨_,SqL.of R2.at_⟩,?_⟩;refine jd.list_zs (xs:=qs.map V.ref) (zs:=rows.map fun r=>V.int r.lo) (SqL.of R2.at_) hql (by rw [hqn,length_map]) (fun j v z N hv hz hN=>?_) (fun pl hpl=>?_)
  ·obtain ⟨qj,hqj,rfl⟩:=Mb hv;have hj:j < rows.length:=by rw [<- R.l1];exact (List.getElem?_eq_some_iff.mp hqj).1
   have hmj:ms[j]? = some (ms[j]'(by rw [R.l2];exact hj)):=getElem?_eq_getElem _;have hrj:rows[j]? = some rows[j]:=getElem?_eq_getElem hj;obtain ⟨e,em⟩:=R2.al j qj _ _ hqj hmj hrj;obtain ⟨r,hr',rfl⟩:=Mb hz;rw [hrj] at hr';cases hr';walk_at "RD";exact ⟨_,SqT.of e,rfl,_,_,rfl,_,_,rfl,_,_,rfl,rfl,Sub.name3,hN⟩
  ·have hpa:pl ≠ a:=fun z=>by rw [z,a2] at hpl;cases hpl
   refine ⟨_,_,_,(jb hpl) _ _ a2,T.Ie,T.Gp,(show (2:Nat) < 1000 by decide),?_⟩;rw [show qh (Str.ofString "leasts") (V.ref pl) [(Str.ofString "crossing",V.ref c),(Str.ofString "many",V.int (rows.length:Int))]=[(Str.ofString "crossing",V.ref c),(Str.ofString "many",V.int (rows.length:Int)),(Str.ofString "leasts",V.ref pl)] from ud [Str.ofString "crossing",Str.ofString "many"] rfl (by decide +kernel)];exact hD' _ _ ⟨fun b u hb e=>by rw [zb hb];exact (jb hpl) _ _ (x2 _ _ hb e),(n2.upd).upd,pl,gb,rfl⟩
 rintro σ3 H3 ⟨x3,n3,le,a3,rfl⟩;have R3:=R.sameA x3 ha;subst zzh;refine zS (fun σ' H'=>Vc a H H'/\NoT H'/\∃ mo,H' a=some (.ins t.Fc dx [(Str.ofString "crossing",V.ref c),(Str.ofString "many",V.int (rows.length:Int)),(Str.ofString "leasts",V.ref le),(Str.ofString "mosts",V.ref mo)])/\σ'=[some (.ref a),some (.ref c),some (.ref p),none,none]) (fun D' hD'=>?_) fun zzM zzh=>?_
 ·walk_at "RD";refine ⟨⟨_,SqL.of R3.at_⟩,?_⟩;refine jd.list_zs (xs:=qs.map V.ref) (zs:=rows.map fun r=>V.int r.hi) (SqL.of R3.at_) hql (by rw [hqn,length_map]) (fun j v z N hv hz hN=>?_) (fun pl hpl=>?_)
  ·obtain ⟨qj,hqj,rfl⟩:=Mb hv;have hj:j < rows.length:=by rw [<- R.l1];exact (List.getElem?_eq_some_iff.mp hqj).1
   have hmj:ms[j]? = some (ms[j]'(by rw [R.l2];exact hj)):=getElem?_eq_getElem _;have hrj:rows[j]? = some rows[j]:=getElem?_eq_getElem hj;obtain ⟨e,em⟩:=R3.al j qj _ _ hqj hmj hrj;obtain ⟨r,hr',rfl⟩:=Mb hz;rw [hrj] at hr';cases hr';walk_at "RD";exact ⟨_,SqT.of e,rfl,_,_,rfl,_,_,rfl,_,_,rfl,rfl,Sub.name3,hN⟩
  ·have hpa:pl ≠ a:=fun z=>by rw [z,a3] at hpl;cases hpl
   refine ⟨_,_,_,(jb hpl) _ _ a3,T.Ie,T.Gr,(show (3:Nat) < 1000 by decide),?_⟩;rw [show qh (Str.ofString "mosts") (V.ref pl) [(Str.ofString "crossing",V.ref c),(Str.ofString "many",V.int (rows.length:Int)),(Str.ofString "leasts",V.ref le)]=[(Str.ofString "crossing",V.ref c),(Str.ofString "many",V.int (rows.length:Int)),(Str.ofString "leasts",V.ref le),(Str.ofString "mosts",V.ref pl)] from ud [Str.ofString "crossing",Str.ofString "many",Str.ofString "leasts"] rfl (by decide +kernel)];exact hD' _ _ ⟨fun b u hb e=>by rw [zb hb];exact (jb hpl) _ _ (x3 _ _ hb e),(n3.upd).upd,pl,gb,rfl⟩
 rintro σ4 H4 ⟨x4,n4,mo,a4,rfl⟩;have R4:=R.sameA x4 ha;subst zzh;refine zS (fun σ' H'=>Vc a H H'/\NoT H'/\∃ me,H' a=some (.ins t.Fc dx [(Str.ofString "crossing",V.ref c),(Str.ofString "many",V.int (rows.length:Int)),(Str.ofString "leasts",V.ref le),(Str.ofString "mosts",V.ref mo),(Str.ofString "members",V.ref me)])/\H' me=some (.lst (ms.map V.ref))/\σ'=[some (.ref a),some (.ref c),some (.ref p),none,none]) (fun D' hD'=>?_) fun zzM zzh=>?_
 ·walk_at "RD";refine ⟨⟨_,SqL.of R4.at_⟩,?_⟩;refine jd.list_zs (xs:=qs.map V.ref) (zs:=ms.map V.ref) (SqL.of R4.at_) hql (by rw [hqn,length_map,R.l2]) (fun j v z N hv hz hN=>?_) (fun pl hpl=>?_)
  ·obtain ⟨qj,hqj,rfl⟩:=Mb hv;have hj:j < rows.length:=by rw [<- R.l1];exact (List.getElem?_eq_some_iff.mp hqj).1
   have hmj:ms[j]? = some (ms[j]'(by rw [R.l2];exact hj)):=getElem?_eq_getElem _;have hrj:rows[j]? = some rows[j]:=getElem?_eq_getElem hj;obtain ⟨e,em⟩:=R4.al j qj _ _ hqj hmj hrj;obtain ⟨m',hm',rfl⟩:=Mb hz;rw [hmj] at hm';cases hm';walk_at "RD";exact ⟨_,SqT.of e,rfl,_,_,rfl,_,_,rfl,_,_,rfl,rfl,Sub.name3,hN⟩
  ·have hpa:pl ≠ a:=fun z=>by rw [z,a4] at hpl;cases hpl
   refine ⟨_,_,_,(jb hpl) _ _ a4,T.Ie,T.gg,(show (4:Nat) < 1000 by decide),?_⟩;rw [show qh (Str.ofString "members") (V.ref pl) [(Str.ofString "crossing",V.ref c),(Str.ofString "many",V.int (rows.length:Int)),(Str.ofString "leasts",V.ref le),(Str.ofString "mosts",V.ref mo)]=[(Str.ofString "crossing",V.ref c),(Str.ofString "many",V.int (rows.length:Int)),(Str.ofString "leasts",V.ref le),(Str.ofString "mosts",V.ref mo),(Str.ofString "members",V.ref pl)] from ud [Str.ofString "crossing",Str.ofString "many",Str.ofString "leasts",Str.ofString "mosts"] rfl (by decide +kernel)];exact hD' _ _ ⟨fun b u hb e=>by rw [zb hb];exact (jb hpl) _ _ (x4 _ _ hb e),(n4.upd).upd,pl,gb,by rw [zb hpa];exact gb,rfl⟩
 rintro σ5 H5 ⟨x5,n5,me,a5,h5,rfl⟩;have hme:me ≠ a:=af h5 a5 (by intro z;cases z);have C5:=BD ha x5 C;have R5:=R.sameA x5 ha;subst zzh;refine zS (fun σ' H'=>Vc a H H'/\NoT H'/\∃ so,H' a=some (.ins t.Fc dx [(Str.ofString "crossing",V.ref c),(Str.ofString "many",V.int (rows.length:Int)),(Str.ofString "leasts",V.ref le),(Str.ofString "mosts",V.ref mo),(Str.ofString "members",V.ref me),(Str.ofString "sorts",V.ref so)])/\H' me=some (.lst (ms.map V.ref))/\σ'=[some (.ref a),some (.ref c),some (.ref p),none,none]) (fun D' hD'=>?_) fun zzM zzh=>?_
 ·walk_at "RD";refine ⟨⟨_,SqL.of R5.at_⟩,?_⟩;refine jd.list_zs (xs:=qs.map V.ref) (zs:=qb (rows.map (CK ds))) (SqL.of R5.at_) hql (by rw [hqn,yb,length_map]) (fun j v z N hv hz hN=>?_) (fun pl hpl=>?_)
  ·obtain ⟨qj,hqj,rfl⟩:=Mb hv;have hj:j < rows.length:=by rw [<- R.l1];exact (List.getElem?_eq_some_iff.mp hqj).1
   have hmj:ms[j]? = some (ms[j]'(by rw [R.l2];exact hj)):=getElem?_eq_getElem _;have hrj:rows[j]? = some rows[j]:=getElem?_eq_getElem hj;obtain ⟨e,em⟩:=R5.al j qj _ _ hqj hmj hrj;unfold qb at hz;obtain ⟨y,hy,rfl⟩:=Mb hz;obtain ⟨r,hr',rfl⟩:=Mb hy;rw [hrj] at hr';cases hr';obtain ⟨nm,mr,hmem⟩:=exists_cons_of_ne_nil (hne _ (mem_of_getElem? hrj));obtain ⟨d,hd,hdn⟩:=I.inn _ (mem_of_getElem? hrj) nm (by rw [hmem];exact mem_cons_self ..);obtain ⟨i,hi⟩:=getElem?_of_mem hd;have hsr:CK ds rows[j]=Gf d:=by
    unfold CK;rw [hmem];show ((wOf ds nm).map Gf).getD _=_;rw [<- hdn,Zg hnd hi];rfl
   rw [hsr] at hN;rw [hmem] at em;walk_at "RD";exact ⟨_,SqT.of e,rfl,_,_,rfl,_,_,rfl,_,_,rfl,rfl,Sub.name3,_,rfl,_,SqL.of em,_,Eb (j:=0) rfl,c,n,ds,i,d,by rw [hdn],C5,hi,(hD d hd).2.1,hN⟩
  ·have hpa:pl ≠ a:=fun z=>by rw [z,a5] at hpl;cases hpl
   refine ⟨_,_,_,(jb hpl) _ _ a5,T.Ie,T.xq,(show (5:Nat) < 1000 by decide),?_⟩;rw [show qh (Str.ofString "sorts") (V.ref pl) [(Str.ofString "crossing",V.ref c),(Str.ofString "many",V.int (rows.length:Int)),(Str.ofString "leasts",V.ref le),(Str.ofString "mosts",V.ref mo),(Str.ofString "members",V.ref me)]=[(Str.ofString "crossing",V.ref c),(Str.ofString "many",V.int (rows.length:Int)),(Str.ofString "leasts",V.ref le),(Str.ofString "mosts",V.ref mo),(Str.ofString "members",V.ref me),(Str.ofString "sorts",V.ref pl)] from ud [Str.ofString "crossing",Str.ofString "many",Str.ofString "leasts",Str.ofString "mosts",Str.ofString "members"] rfl (by decide +kernel)];exact hD' _ _ ⟨fun b u hb e=>by rw [zb hb];exact (jb hpl) _ _ (x5 _ _ hb e),(n5.upd).upd,pl,gb,by rw [zb hme];exact (jb hpl) _ _ h5,rfl⟩
 rintro σ6 H6 ⟨x6,n6,so,a6,h6,rfl⟩;have R6:=R.sameA x6 ha;have M6:Op H6 me ms (rows.map (·.mem)):=⟨h6,by rw [R.l2,length_map],fun i m x hm hx=>by
  obtain ⟨r,hr',rfl⟩:=Mb hx;have hqi:qs[i]? = some (qs[i]'(by rw [R.l1];exact (List.getElem?_eq_some_iff.mp hr').1)):=getElem?_eq_getElem _;exact (R6.al i _ m r hqi hm hr').2⟩
 subst zzh;refine zS (fun σ' H'=>Vc a H H'/\NoT H'/\∃ ho,H' a=some (.ins t.Fc dx [(Str.ofString "crossing",V.ref c),(Str.ofString "many",V.int (rows.length:Int)),(Str.ofString "leasts",V.ref le),(Str.ofString "mosts",V.ref mo),(Str.ofString "members",V.ref me),(Str.ofString "sorts",V.ref so),(Str.ofString "homes",V.ref ho)])/\Op H' me ms (rows.map (·.mem))/\σ'=[some (.ref a),some (.ref c),some (.ref p),none,none]) (fun D' hD'=>?_) fun zzM zzh=>?_
 ·walk_at "RD";refine ⟨_,⟨_,dx,_,a6,T.Ie,T.gg,Cd [Str.ofString "crossing",Str.ofString "many",Str.ofString "leasts",Str.ofString "mosts",Str.ofString "members",Str.ofString "sorts"] 4 rfl (by decide +kernel) rfl⟩,me,ms,rows.map (·.mem),rfl,M6,by rw [length_map];exact I.ln,fun x hx=>?_,fun h H1 s1 n1' hh h1=>?_⟩
  ·obtain ⟨r,hr',rfl⟩:=List.mem_map.mp hx;exact I.ml r hr'
  ·refine ⟨_,_,_,s1 _ _ a6,T.Ie,T.Wq,(show (6:Nat) < 1000 by decide),?_⟩;rw [show qh (Str.ofString "homes") (V.ref h) [(Str.ofString "crossing",V.ref c),(Str.ofString "many",V.int (rows.length:Int)),(Str.ofString "leasts",V.ref le),(Str.ofString "mosts",V.ref mo),(Str.ofString "members",V.ref me),(Str.ofString "sorts",V.ref so)]=[(Str.ofString "crossing",V.ref c),(Str.ofString "many",V.int (rows.length:Int)),(Str.ofString "leasts",V.ref le),(Str.ofString "mosts",V.ref mo),(Str.ofString "members",V.ref me),(Str.ofString "sorts",V.ref so),(Str.ofString "homes",V.ref h)] from ud [Str.ofString "crossing",Str.ofString "many",Str.ofString "leasts",Str.ofString "mosts",Str.ofString "members",Str.ofString "sorts"] rfl (by decide +kernel)];exact hD' _ _ ⟨fun b u hb e=>by rw [zb hb];exact s1 _ _ (x6 _ _ hb e),(n1' n6).upd,h,gb,(M6.same s1).upd (s1 _ _ a6) (by intro xs z;cases z),rfl⟩
 rintro σ7 H7 ⟨x7,n7,ho,a7,h7,rfl⟩;subst zzh;refine zS (fun σ' H'=>Vc a H H'/\NoT H'/\∃ ch,H ch=none/\H' a=some (.ins t.Fc dx (sgF c rows.length le mo me so ho ch))/\Op H' me ms (rows.map (·.mem))/\Vu P w H' ch []/\(ch ≠ a/\ch ≠ me/\ch ∉ ms)/\σ'=[some (.ref a),some (.ref c),some (.ref p),none,none]) (fun D' hD'=>?_) fun zzM zzh=>?_
 ·walk_at "RD";intro ch o hch hD0;have hca:ch ≠ a:=fun z=>by rw [z,a7] at hch;cases hch
  have hcH:H ch=none:=by
   cases e:H ch with
   | none=>rfl
   | some u=>rw [x7 _ _ hca e] at hch;cases hch
  have nel:∀ {b:Addr} {u:HO},H7 b=some u->ch ≠ b:=fun e z=>by rw [<- z,hch] at e;cases e
  have hcm:ch ∉ ms:=fun z=>by
   obtain ⟨i,hi⟩:=getElem?_of_mem z;have hil:i < (rows.map (·.mem)).length:=by rw [<- h7.ln];exact (List.getElem?_eq_some_iff.mp hi).1
   exact nel (h7.al i ch _ hi (getElem?_eq_getElem hil)) rfl
  have sC:bc H7 (upd H7 ch (.ext (AtO ch o))):=jb hch;refine ⟨_,_,_,sC _ _ a7,T.Ie,T.oj,(show (7:Nat) < 1000 by decide),?_⟩;rw [show qh (Str.ofString "changes") (V.ref ch) [(Str.ofString "crossing",V.ref c),(Str.ofString "many",V.int (rows.length:Int)),(Str.ofString "leasts",V.ref le),(Str.ofString "mosts",V.ref mo),(Str.ofString "members",V.ref me),(Str.ofString "sorts",V.ref so),(Str.ofString "homes",V.ref ho)]=sgF c rows.length le mo me so ho ch from ud [Str.ofString "crossing",Str.ofString "many",Str.ofString "leasts",Str.ofString "mosts",Str.ofString "members",Str.ofString "sorts",Str.ofString "homes"] rfl (by decide +kernel)];exact hD' _ _ ⟨fun b u hb e=>by rw [zb hb];exact sC _ _ (x7 _ _ hb e),(n7.upd).upd,ch,hcH,gb,(h7.same sC).upd (sC _ _ a7) (by intro xs z;cases z),LG hD0 (Ne.symm hca) (fun xs z=>by rw [sC _ _ a7] at z;cases z),⟨hca,nel h7.at_,hcm⟩,rfl⟩
 rintro σ8 H8 ⟨x8,n8,ch,hch,a8,h8,D8,hcc,rfl⟩;subst zzh;walk_at "RD";have hrl:=I.ln;refine ⟨_,Dy T a8,_,rfl,by omega,by omega,?_⟩;rw [Int.toNat_natCast];refine Uj.range (fun i σ H'=>(∃ x y,σ=[some (.ref a),some (.ref c),some (.ref p),x,y])/\Vc a H H'/\NoT H'/\H' a=some (.ins t.Fc dx (sgF c rows.length le mo me so ho ch))/\Op H' me ms (rows.map (·.mem))/\∃ kvs,Vu P w H' ch kvs/\RC i 0 kvs) ⟨⟨_,_,rfl⟩,x8,n8,a8,h8,[],D8,Nat.zero_le _⟩ ?_ ?_
 ·rintro i σ H' hi zzq;refine zP fun zzM zzh=>?_
  obtain ⟨⟨x,y,rfl⟩,x9,n9,a9,h9,kvs,D9,K9⟩:=zzq;have hri:rows[i]? = some rows[i]:=getElem?_eq_getElem hi;have hmi:ms[i]? = some (ms[i]'(by rw [R.l2];exact hi)):=getElem?_eq_getElem _;subst zzh;walk_at "RD";refine ⟨_,Dy T a9,_,rfl,by omega,by omega,?_⟩;rw [Int.toNat_natCast];refine Uj.range (fun j σ H2=>(∃ y,σ=[some (.ref a),some (.ref c),some (.ref p),some (.int (i:Int)),y])/\Vc a H H2/\NoT H2/\H2 a=some (.ins t.Fc dx (sgF c rows.length le mo me so ho ch))/\Op H2 me ms (rows.map (·.mem))/\∃ kvs,Vu P w H2 ch kvs/\RC i j kvs) ⟨⟨_,rfl⟩,x9,n9,a9,h9,kvs,D9,K9⟩ ?_ ?_
  ·rintro j σ H2 hj zzq;refine zP fun zzM zzh=>?_
   obtain ⟨⟨y,rfl⟩,x10,n10,a10,h10,kvs,D10,K10⟩:=zzq;have hrj:rows[j]? = some rows[j]:=getElem?_eq_getElem hj;have hmj:ms[j]? = some (ms[j]'(by rw [R.l2];exact hj)):=getElem?_eq_getElem _;have emi:=h10.al i _ _ hmi (by rw [getElem?_map,hri];rfl);have emj:=h10.al j _ _ hmj (by rw [getElem?_map,hrj];rfl);have ai:=Eb (xs:=ms.map V.ref) (j:=i) (by rw [getElem?_map,hmi];rfl);have aj:=Eb (xs:=ms.map V.ref) (j:=j) (by rw [getElem?_map,hmj];rfl);subst zzh;simp only [cf,set_cons_succ,set_cons_zero,Int.zero_add];by_cases hij:i=j
   ·refine ac false (fun Q hQ=>?_) (fun z=>nomatch z) (fun _=>?_)
    ·walk_at "RD";rw [decide_eq_true (by omega)];exact hQ
    ·simp only [Qc];subst hij;exact ⟨⟨_,rfl⟩,x10,n10,a10,h10,kvs,D10,Nat.le_succ_of_le K10⟩
   ·refine ac true (fun Q hQ=>?_) (fun _=>?_) (fun z=>nomatch z)
    ·walk_at "RD";rw [decide_eq_false (by omega)];exact hQ
    ·walk_at "RD";obtain ⟨hca,cme,cms⟩:=hcc;refine ⟨_,Zt T a10,_,rfl,_,SqL.of h10.at_,_,ai,_,Zt T a10,_,rfl,_,SqL.of h10.at_,_,aj,c,n,ds,_,_,_,_,rfl,BD ha x10 C,hn,hD,emi,emj,I.inn _ (mem_of_getElem? hri),I.inn _ (mem_of_getElem? hrj),I.ml _ (mem_of_getElem? hri),I.ml _ (mem_of_getElem? hrj),n10,fun v=>?_⟩;refine ⟨_,nA T a10,by decide,fun tp htp=>⟨ch,rfl,kvs,IE D10 (jb htp),stK i j,(show upd H2 tp (.tup [V.int (i:Int),V.int (j:Int)]) tp=some (HO.tup [V.int (i:Int),V.int (j:Int)]) from gb),Nat.lt_of_le_of_lt (show kvs.length <= 100 by unfold RC at K10;omega) (by decide),fun o hD2=>?_⟩⟩;have sT:bc H2 (upd H2 tp (.tup [V.int (i:Int),V.int (j:Int)])):=jb htp;refine ⟨⟨_,rfl⟩,fun b u hb e=>by rw [zb (Kb e hch)];exact sT _ _ (x10 _ _ hb e),(n10.upd).upd,by rw [zb (Ne.symm hca)];exact sT _ _ a10,⟨by rw [zb (Ne.symm cme)];exact sT _ _ h10.at_,h10.ln,fun k m x hm hx=>by rw [zb (fun z=>cms (by rw [<- z];exact mem_of_getElem? hm))];exact sT _ _ (h10.al k m x hm hx)⟩,_,hD2,Nat.le_trans (lC ..) (by unfold RC at K10;omega)⟩
  ·rintro σ H2 zzq;refine zP fun zzM zzh=>?_
   obtain ⟨⟨y,rfl⟩,x10,n10,a10,h10,kvs,D10,K10⟩:=zzq;subst zzh;exact ⟨⟨_,_,rfl⟩,x10,n10,a10,h10,kvs,D10,by unfold RC at K10 ⊢;omega⟩
 ·rintro σ H' zzq;refine zP fun zzM zzh=>?_
  obtain ⟨⟨x,y,rfl⟩,x9,n9,a9,h9,kvs,D9,K9⟩:=zzq;subst zzh;exact q _ x9 n9 ⟨dx,le,mo,me,so,ho,ch,a9⟩
end
end My
namespace My
open PySem L2
noncomputable def Ud (ds:List WD):List (List Str)->Nat->List ST->Except (Nat × Nat) (List ST)
 | [],_,rows=>.ok rows
 | ws :: r,i,rows=>if rows.length=6 then .error (i,0) else match De ds rows ws with
  | .error k=>.error (i,k)
  | .ok s=>Ud ds r (i + 1) (rows ++ [s])
noncomputable def EC (t:Adr):Sp:=fun vs H Q E=>∃ c n ds x,vs=[.ref c,.str x]/\Uc t H c n ds/\0 < n/\IK ds/\(∀ d ∈ ds,d.name ≠ Str.ofString "")/\x.length <= 20000/\(re x).length <= 100/\(∀ r ∈ re x,r ≠ []/\r.length <= 1000/\∀ y ∈ r,y.length <= 1000)/\NoT H /\
 Oc2 (Ud ds (re x) 0 []) (fun rows=>Je ds rows=[]/\Iq ds rows=none/\Tq n ds rows=none/\∀ a H',bc H H'->NoT H'->nv t H' a c rows.length->Q (.ref a) H') (fun i k=>SN t i k H E)
theorem tJ {ds:List WD} {left ws ms:List Str} (h:Uu ds left ws=.ok ms):ms ≠ []/\ms.Nodup/\∀ x ∈ ms,x ∈ left:=by
 unfold Uu at h;split at h
 ·rename_i hin;obtain ⟨h1,⟨more,h2⟩,h3⟩:=kC h (by simp);refine ⟨by rw [h2];simp,h1,fun x hx=>?_⟩;rcases h3 x hx with z | z
  ·rw [List.mem_singleton.mp z];exact hin
  ·exact (List.mem_filter.mp z).1
 ·cases h
theorem Xv {ds:List WD} {rows:List ST} {ws:List Str} {s:ST} (h:De ds rows ws=.ok s):s.mem ≠ []/\s.mem.Nodup/\∀ x ∈ s.mem,x ∈ Je ds rows:=by
 unfold De at h;split at h
 ·cases e1:ik (wd ws 1) 1 60 with
  | none=>rw [e1] at h;cases h
  | some lo=>
   rw [e1] at h;replace h:((ik (wd ws 2) lo 60).elim (.error 2) fun hi=>match Uu ds (Je ds rows) ws with | .error k=>.error k | .ok ms=>.ok (⟨lo,hi,ms⟩:ST))=Except.ok s:=h;cases e2:ik (wd ws 2) lo 60 with
   | none=>rw [e2] at h;cases h
   | some hi=>
    rw [e2] at h;replace h:(match Uu ds (Je ds rows) ws with | .error k=>.error k | .ok ms=>.ok (⟨lo,hi,ms⟩:ST))=Except.ok s:=h;cases e3:Uu ds (Je ds rows) ws with
    | error k=>rw [e3] at h;cases h
    | ok ms=>
     rw [e3] at h;replace h:Except.ok (⟨lo,hi,ms⟩:ST)=Except.ok (ε:=Nat) s:=h;cases h;exact tJ e3
 ·cases h
theorem RIn.snoc {ds:List WD} {rows:List ST} (I:RIn ds rows) (hl:ds.length <= 12) (h6:rows.length ≠ 6) {ws:List Str} {s:ST} (h:De ds rows ws=.ok s):RIn ds (rows ++ [s])/\s.mem.length <= 12:=by
 obtain ⟨h1,h2,h3⟩:=Xv h;have h12:s.mem.length <= 12:=by
  have:=Mw h2 h3;have h4:(Je ds rows).length <= ds.length:=by
   unfold Je;exact Nat.le_trans (List.length_filter_le ..) (by rw [length_map];exact Nat.le_refl _)
  omega
 refine ⟨⟨?_,fun r hr=>?_,fun r hr x hx=>?_⟩,h12⟩
 ·have:=I.ln;rw [length_append];show rows.length + 1 <= 6;omega
 ·rcases List.mem_append.mp hr with z | z
  ·exact I.ml r z
  ·rw [List.mem_singleton.mp z];exact h12
 ·rcases List.mem_append.mp hr with z | z
  ·exact I.inn r z x hx
  ·rw [List.mem_singleton.mp z] at hx;obtain ⟨d,hd,e⟩:=List.mem_map.mp (List.mem_filter.mp (h3 x hx)).1;exact ⟨d,hd,e⟩
theorem Zo {xs:List Str} {qs:List Addr} (h:xs ≠ []):qb xs ≠ qs.map V.ref:=fun e=>by
 obtain ⟨y,r,rfl⟩:=exists_cons_of_ne_nil h;cases qs with
 | nil=>cases e
 | cons a b=>injection e with e1 _;cases e1
theorem fj.snoc {H:Hp} {p x m:Addr} {qs ms:List Addr} {rows:List ST} {s:ST} (R:fj H p qs ms rows) (hx:H x=some (stO s m)) (hm:H m=some (.lst (qb s.mem))) (hne:∀ r ∈ rows,r.mem ≠ []) (hs:s.mem ≠ []):fj (upd H p (.lst (qs.map V.ref ++ [V.ref x]))) p (qs ++ [x]) (ms ++ [m]) (rows ++ [s]):=by
 have kt:∀ {b:Addr} {xs:List V},H b=some (.tup xs)->upd H p (.lst (qs.map V.ref ++ [V.ref x])) b=some (.tup xs):=fun e=>by rw [zb (af e R.at_ (by intro z;cases z))];exact e
 have kl:∀ {b:Addr} {xs:List Str},H b=some (.lst (qb xs))->xs ≠ []->upd H p (.lst (qs.map V.ref ++ [V.ref x])) b=some (.lst (qb xs)):=fun e h=>by
  rw [zb (af e R.at_ (fun z=>by injection z with z;exact Zo h z))];exact e
 refine ⟨by rw [gb,map_append];rfl,by rw [length_append,length_append,R.l1];rfl,by rw [length_append,length_append,R.l2];rfl,fun i q m' r a b c=>?_⟩;have l1:=R.l1;have l2:=R.l2;rcases kf c with ⟨c1,c2⟩ | ⟨c1,rfl⟩
 ·rcases kf a with ⟨_,a2⟩ | ⟨a1,_⟩
  ·rcases kf b with ⟨_,b2⟩ | ⟨b1,_⟩
   ·obtain ⟨e1,e2⟩:=R.al i q m' r a2 b2 c2;exact ⟨kt e1,kl e2 (hne r (mem_of_getElem? c2))⟩
   ·omega
  ·omega
 ·rcases kf a with ⟨a1,_⟩ | ⟨_,rfl⟩
  ·omega
  ·rcases kf b with ⟨b1,_⟩ | ⟨_,rfl⟩
   ·omega
   ·exact ⟨kt hx,kl hm hs⟩
section
variable {P:Program} {w:World} {K:W.Frag} {mg:Str->Option Value} {base:Heap} {t:Adr}
theorem mE (T:Txt w K mg t):Ub P w K mg base (CX1 P w) 8 t.jf t.Ze q22 (EC t):=by
 have g26:Ub P w K mg base CX0 7 t.Ck t.vk ["text"] (eo t):=(au T).mono (by decide);have g22:Ub P w K mg base (CX1 P w) 7 t.yd t.Xd ["self"] (Fy t):=(PB T).mono (by decide);have g53:Ub P w K mg base (CX1 P w) 7 t.ki t.ji q37 (Ez t):=gH T;have g54:Ub P w K mg base CX0 7 t.og t.kg q9 (tw t):=(QB T).mono (by decide);have g55:Ub P w K mg base CX0 7 t.Eg t.wg q9 (yw t):=(iD T).mono (by decide);have g56:Ub P w K mg base CX0 7 t.ug t.yg q9 (Wv t):=(DC T).mono (by decide);have g57:Ub P w K mg base CX0 6 t.Kf t.kh q49 (sI t):=(tM T).mono (by decide);refine T.fh.okX Ci (fun vs H Q E h=>?_) (fun _ _ _ s H vs Q E hr h=>?_)
 ·obtain ⟨c,n,ds,x,rfl,_⟩:=h;rfl
 obtain ⟨c,n,ds,x,rfl,C,hn,hD,hne,hxl,hrl,hall,nt,qq⟩:=h;have hk3:∀ d ∈ ds,d.k < 3/\d.name ≠ Str.ofString "" := fun d hd=>⟨(hD d hd).2.1,hne d hd⟩
 refine ⟨_,(db (Fb (i:=2) Ci.nd rfl (Or.inl rfl) (sd fb))
   (db (Re (Rr ⟨rfl,rfl⟩) rfl (Dc (vb g26 hr rfl T.bw T.cn.kp T.uw .nil Db (cb (pv 1) fb))) (Cb (i:=3) Ci.nd rfl (Or.inl rfl)) (db (Gd (Ob ve (Vb Ib rfl T.Bf Rb (cb (pv 2) fb)) (qe rfl T.Gv T.dv) (Sb _)) (lb (nc (Be (pv 3) T.Bb T.yi g22 hr T.xi .nil zh))) fc)
   (lb (nc (Se PySem.F.plainAttrs_list PySem.F.slot_list_append PySem.F.type_list_append we (pv 2) (cb (vb g53 hr rfl T.xw T.Qk.kp T.yx .nil zh (cb (pv 3) (cb (pv 0) (cb (pv 2) fb)))) fb))))))
   (db (nc (vb g54 hr rfl T.yt T.Li.kp T.Xs .nil Db (cb (pv 0) (cb (pv 2) fb))))
   (db (nc (vb g55 hr rfl T.Bt T.Ki.kp T.Ts .nil Db (cb (pv 0) (cb (pv 2) fb))))
   (db (nc (vb g56 hr rfl T.Mt T.Fi.kp T.bt .nil Db (cb (pv 0) (cb (pv 2) fb))))
   (lb (Qb (qo T.jG g57 hr rfl T.yG T.Ou .nil Db (cb (pv 0) (cb (pv 2) fb)))))))))),?_⟩
 have toC:∀ {i k:Nat} {q:Addr} {H1:Hp},SN t i k H E->bc H H1->H q=none->NoT H1->sw t i k q H1 E:=fun {i k q H1} r s n m dx H' s' n' e=>r dx H' (sh s s' n) (n' m) e
 refine zS (fun σ' H'=>bc H H'/\NoT H'/\∃ rl,H rl=none/\H' rl=some (.lst [])/\σ'=[some (.ref c),some (.str x),some (.ref rl),none]) (fun D' hD'=>?_) fun zzM zzh=>?_
 ·walk_at "RD";exact ⟨Nat.zero_le _,fun rl hrl=>hD' _ _ ⟨jb hrl,nt.upd,rl,hrl,gb,rfl⟩⟩
 rintro σ1 H1 ⟨s1,n1,rl,hrl',w1,rfl⟩;subst zzh;generalize hW0:Ud ds (re x) 0 []=W0 at qq;simp only [Ab];refine Gb (fun σ' H'=>bc H H'/\NoT H'/\(∃ qs ms rows,fj H' rl qs ms rows/\RIn ds rows/\(∀ r ∈ rows,r.mem ≠ [])/\Except.ok rows=W0)/\∃ x3,σ'=[some (.ref c),some (.str x),some (.ref rl),x3]) (fun D' hD' hrt _ _=>?_) ?_
 ·walk_at "RD";refine ⟨x,rfl,hxl,fun r hr=>(hall r hr).2,n1,fun p H2 sm2 nt2 RR=>?_⟩;obtain ⟨qr,hp,hp0,hql,hqa⟩:=RR;refine ⟨p,rfl,⟨_,SqL.of hp⟩,?_⟩;have hprl:p ≠ rl:=fun z=>by rw [z,w1] at hp0;cases hp0
  refine Uj.list (xs:=qr.map V.ref) (fun i σ H'=>(∃ y,σ=[some (.ref c),some (.str x),some (.ref rl),y])/\NoT H'/\bc H H'/\H' p=some (.lst (qr.map V.ref)) /\
   (∃ qs ms rows,fj H' rl qs ms rows/\RIn ds rows/\(∀ r ∈ rows,r.mem ≠ [])/\Ud ds ((re x).drop i) i rows=W0) /\
   ∀ (j:Nat) (q:Addr) (r:List Str),i <= j->qr[j]? = some q->(re x)[j]? = some r->Ye t H' q ((j:Nat):Int) r 0/\H q=none) ?_ ?_ ?_ ?_
  ·refine ⟨⟨_,rfl⟩,nt2,s1.trans sm2,hp,⟨[],[],[],⟨sm2 _ _ w1,rfl,rfl,fun i q m r h=>by simp at h⟩,⟨Nat.zero_le _,fun r h=>by simp at h,fun r h=>by simp at h⟩,fun r h=>by simp at h,hW0⟩,fun j q r _ h1 h2=>?_⟩;obtain ⟨Rj,hqj⟩:=hqa j q r h1 h2;exact ⟨Rj,s1.free hqj⟩
  ·rintro i σ H' hi zzq;refine zP fun zzM zzh=>?_
   obtain ⟨_,_,_,h,_⟩:=zzq;subst zzh;exact SqL.of h
  ·rintro i v σ H' hv zzq;refine zP fun zzM zzh=>?_
   obtain ⟨⟨y,rfl⟩,nt',sm',hp',⟨qs,ms,rows,R',I',hme,hwp⟩,Rs⟩:=zzq;obtain ⟨q,hq,rfl⟩:=Mb hv;obtain ⟨hi,_⟩:=List.getElem?_eq_some_iff.mp hq;have hid:i < (re x).length:=by omega
   have hr:(re x)[i]? = some (re x)[i]:=getElem?_eq_getElem hid;obtain ⟨Rq,hqn⟩:=Rs i q _ (Nat.le_refl _) hq hr;obtain ⟨_,dq,tq,hqi,hqt⟩:=id Rq;subst zzh;rw [drop_eq_getElem_cons hid] at hwp;unfold Ud at hwp;simp only [cf,Ab,set_cons_succ,set_cons_zero];refine zzC (fun σ' H3=>H3=H'/\rows.length ≠ 6/\σ'=[some (.ref c),some (.str x),some (.ref rl),some (.ref q)]) (fun D2 hD2=>?_) fun zzM zzh=>?_
   ·refine ac (decide (rows.length=6)) (fun Q' hQ=>?_) (fun hb=>?_) (fun hb=>?_)
    ·walk_at "RD";refine ⟨_,.inl (SqL.of R'.at_),?_⟩;rw [length_map,R'.l1];rw [show decide ((rows.length:Int)=6)=decide (rows.length=6) from decide_eq_decide.mpr (by omega)];exact hQ
    ·have hb:=of_decide_eq_true hb;rw [if_pos hb] at hwp;subst hwp;walk_at "RD";exact ⟨_,_,hqi,Ye.no _ _ _ (by decide +kernel),⟨q,_,_,0,rfl,Rq,by omega,by omega,toC qq sm' hqn nt'⟩⟩
    ·simp only [Qc];exact hD2 _ _ ⟨rfl,of_decide_eq_false hb,rfl⟩
   rintro σ3 H3 ⟨rfl,h6,rfl⟩;subst zzh;rw [if_neg h6] at hwp;walk_at "RD";refine ⟨.inl ⟨_,SqL.of R'.at_⟩,q,_,(re x)[i],c,n,ds,rl,qs,ms,rows,rfl,Rq,by omega,C.same sm',hk3,R',I'.ln,I'.ml,nt',?_⟩;cases ew:De ds rows (re x)[i] with
   | error k=>
    rw [ew] at hwp;replace hwp:Except.error (i,k)=W0:=hwp;subst hwp;exact toC qq sm' hqn nt'
   | ok s=>
    rw [ew] at hwp;replace hwp:Ud ds ((re x).drop (i + 1)) (i + 1) (rows ++ [s])=W0:=hwp;intro x' m H4 s4 nt4 hx4 hm4 hx3 hm3;have hs0:=(Xv ew).1;have R4:=R'.sameR s4 Rq;have hsm4:bc H H4:=sh sm' s4 hqn;have hRI:=I'.snoc C.1.2 h6 ew;have hl4:=I'.ln;refine ⟨_,R4.at_,Nat.lt_of_le_of_lt (show (qs.map V.ref).length <= 6 by rw [length_map,R4.l1];exact hl4) (by decide),⟨_,rfl⟩,nt4.upd,hsm4.updN hrl',by rw [zb hprl];exact s4 _ _ (af hp' hqi (by intro z;cases z)) hp',⟨qs ++ [x'],ms ++ [m],rows ++ [s],R4.snoc hx4 hm4 hme hs0,hRI.1,fun r hr'=>?_,hwp⟩,fun j q' r hj h1 h2=>?_⟩
    ·rcases List.mem_append.mp hr' with z | z
     ·exact hme r z
     ·rw [List.mem_singleton.mp z];exact hs0
    ·obtain ⟨Rj,hqj⟩:=Rs j q' r (by omega) h1 h2;have R5:=Rj.sameX s4 (xI Rj Rq (by omega)) Rq.ins;refine ⟨?_,hqj⟩;obtain ⟨hz,dx',ta,e1,e2⟩:=R5;exact ⟨hz,dx',ta,by rw [zb (af e1 R4.at_ (by intro z;cases z))];exact e1,by rw [zb (af e2 R4.at_ (fun z=>by injection z with z;exact Zo (hall r (mem_of_getElem? h2)).1 z))];exact e2⟩
  ·rintro σ H' zzq;refine zP fun zzM zzh=>?_
   obtain ⟨⟨y,rfl⟩,nt',sm',hp',⟨qs,ms,rows,R',I',hme,hwp⟩,Rs⟩:=zzq;subst zzh;rw [length_map,hql,drop_length] at hwp;exact hD' _ _ ⟨sm',nt',⟨qs,ms,rows,R',I',hme,hwp⟩,_,rfl⟩
 rintro σ2 H2 zzq;refine zP fun zzM zzh=>?_
 obtain ⟨s2,n2,⟨qs,ms,rows,R2,I2,hme,hW⟩,x3,rfl⟩:=zzq;subst zzh;subst hW;obtain ⟨hle,hS,hC,qq⟩:Je ds rows=[]/\Iq ds rows=none/\Tq n ds rows=none/\∀ a H',bc H H'->NoT H'->nv t H' a c rows.length->Q (.ref a) H':=qq;have C2:=C.same s2;walk_at "RD";refine ⟨c,n,ds,rl,qs,ms,rows,rfl,C2,R2,I2,hle,fun H3 s3 n3'=>?_⟩;have n3:=n3' n2;have s23:=s2.trans s3;refine ⟨c,n,ds,rl,qs,ms,rows,rfl,C2.same s3,R2.same s3,I2,hle,hS,fun H4 s4 n4'=>?_⟩;have n4:=n4' n3;have s24:=s23.trans s4;refine ⟨c,n,ds,rl,qs,ms,rows,rfl,C.same s24,hn,(R2.same s3).same s4,I2,n4,hC,fun H5 s5 n5' a dx ha hdx hne'=>?_⟩;have n5:=n5' n4;have s25:=s24.trans s5;have sc:bc H5 (upd (upd H5 dx (.own a)) a (.ins t.Fc dx [])):=((bc.refl H5).updN hdx).updN ha;refine ⟨a,dx,c,n,ds,rl,qs,ms,rows,rfl,gb,(C.same s25).same sc,hn,hD,(((R2.same s3).same s4).same s5).same sc,I2,hme,(n5.upd).upd,fun H6 s6 n6 SA=>⟨rfl,?_⟩⟩;exact qq a H6 (sh (s25.trans sc) s6 (s25.free ha)) n6 SA
end
end My
namespace My
open PySem L2
noncomputable def El (K:W.Frag):Sp:=fun vs H Q _=>∃ (a:Addr) (ns:List Int) (k m:Int),vs=[.ref a,.int k,.int m]/\ns.length <= 63/\SqL K H a (ns.map V.int)/\(0 <= k/\k < 1000000)/\0 < m/\Q (.int (Od ns k m)) H
section
variable {P:Program} {w:World} {K:W.Frag} {mg:Str->Option Value} {base:Heap} {t:Adr}
theorem Dn (T:Txt w K mg t):Ub P w K mg base CX0 1 t.Md t.Pd q12 (El K):=by
 refine T.ub.ok Cf (fun vs H Q E h=>?_) (fun _ _ _ s H vs Q E hr h=>?_)
 ·obtain ⟨a,ns,k,m,rfl,_⟩:=h;rfl
 obtain ⟨a,ns,k,m,rfl,h63,S,⟨h0,h1⟩,hm,q⟩:=h;refine ⟨_,(db (Fb (i:=3) Cf.nd rfl (Or.inl rfl) (Jv (Ob mq (Vb Ib rfl T.Bf Rb (cb (pv 0) fb)) ib (Sb _)) (ic Yb (pv 0) (Pb Og (pv 1) (Vb Ib rfl T.Bf Rb (cb (pv 0) fb))) (fun _ _=>rfl)) ib))
   (db (Fb (i:=4) Cf.nd rfl (Or.inl rfl) (Pb Pc (Pb Pc (Pb Og (pv 3) ib) (Pb Mh (Pb Mh ib (pv 1)) (pv 1))) ib))
   (lb (Qb (Pb Og (Pb Og (Pb Mh (Pb Og (Pb Mh (pv 4) ib) ib) ib) ib) (pv 2)))))),?_⟩
 walk_at "RD";refine ⟨_,.inl S,?_⟩;rw [length_map];have hkk:(0:Int) <= k * k/\k * k < 1000000 * 1000000:=⟨Int.mul_nonneg h0 h0,Int.mul_lt_mul' (by omega) h1 h0 (by decide)⟩;have fin:∀ i:Int,(0:Int) < 1000003/\ZB 31 k/\ZB (31 * k) k/\ZB (i % 1000003 + 31 * k * k + 1) 48271/\(0:Int) < 999983/\ZB ((i % 1000003 + 31 * k * k + 1) * 48271 % 999983) 7919/\(0:Int) < 524287/\0 < m:=by
  intro i;refine ⟨by decide,.inl (by decide),.inr (by omega),.inr (by decide),by decide,.inr (by decide),by decide,hm⟩
 by_cases c:(0:Int) < (ns.length:Int)
 ·rw [if_pos (decide_eq_true c)];have hk:0 <= k % (ns.length:Int)/\k % (ns.length:Int) < (ns.length:Int):=⟨Int.emod_nonneg _ (by omega),Int.emod_lt_of_pos _ c⟩;refine ⟨_,.inl S,by rw [length_map];exact c,_,S,?_⟩;rw [length_map];have hj:(k % (ns.length:Int)).toNat < ns.length:=by omega
  refine ⟨.int ns[(k % (ns.length:Int)).toNat],?_,_,rfl,?_⟩
  ·have e:=Eb (xs:=ns.map V.int) (j:=(k % (ns.length:Int)).toNat) (v:=.int ns[(k % (ns.length:Int)).toNat]) (by rw [getElem?_map,getElem?_eq_getElem hj] <;> rfl);rwa [Int.toNat_of_nonneg hk.1] at e
  ·obtain ⟨f1,f2,f3,f4,f5,f6,f7,f8⟩:=fin ns[(k % (ns.length:Int)).toNat];refine ⟨f1,f2,f3,f4,f5,f6,f7,f8,?_⟩;have e:Od ns k m=(((ns[(k % (ns.length:Int)).toNat] % 1000003 + 31 * k * k + 1) * 48271 % 999983 * 7919) % 524287) % m:=by
    unfold Od;rw [if_pos c,getD_eq_getElem?_getD,getElem?_eq_getElem hj];rfl
   rw [<- e];exact q
 ·rw [if_neg (by simpa using c)];obtain ⟨f1,f2,f3,f4,f5,f6,f7,f8⟩:=fin 0;refine ⟨f1,f2,f3,f4,f5,f6,f7,f8,?_⟩;have e:Od ns k m=(((0 % 1000003 + 31 * k * k + 1) * 48271 % 999983 * 7919) % 524287) % m:=by
   unfold Od;rw [if_neg c]
  rw [<- e];exact q
end
noncomputable def ins {α:Type} (l:List α) (i:Nat) (a:α):List α:=l.take i ++ a :: l.drop i
theorem Im {α:Type} {l:List α} {i:Nat} {a:α} (hi:i <= l.length) (j:Nat):(ins l i a)[j]? = if j < i then l[j]? else if j=i then some a else l[j - 1]?:=by
 unfold ins;have ht:(l.take i).length=i:=by rw [length_take];omega
 by_cases h1:j < i
 ·rw [if_pos h1,getElem?_append_left (by omega),List.getElem?_take_of_lt h1]
 ·rw [if_neg h1,getElem?_append_right (by omega),ht];by_cases h2:j=i
  ·subst h2;rw [if_pos rfl];simp
  ·rw [if_neg h2,show j - i=(j - 1 - i) + 1 by omega,List.getElem?_cons_succ,List.getElem?_drop,show i + (j - 1 - i)=j - 1 by omega]
theorem cE {α:Type} {l:List α} {i:Nat} {a:α} (hi:i <= l.length):(ins l i a).length=l.length + 1:=by
 unfold ins;rw [length_append,length_cons,length_take,length_drop];omega
theorem dD {α:Type} {l:List α} {i:Nat} {a:α} (h:l.Nodup) (n:a ∉ l):(ins l i a).Nodup:=by
 unfold ins;rw [(List.perm_middle).nodup_iff,List.nodup_cons,List.take_append_drop];exact ⟨n,h⟩
theorem yh {α:Type} {l:List α} {i:Nat} {a x:α} (h:x ∈ ins l i a):x=a\/x ∈ l:=by
 unfold ins at h;rcases List.mem_append.mp h with z | z
 ·exact .inr (mem_of_mem_take z)
 ·rcases List.mem_cons.mp z with z | z
  ·exact .inl z
  ·exact .inr (mem_of_mem_drop z)
theorem cD {α β:Type} (f:α->β) (l:List α) (i:Nat) (a:α):(ins l i a).map f=ins (l.map f) i (f a):=by
 unfold ins;rw [map_append,map_cons,map_take,List.map_drop]
theorem Rw (x:Str) {a b:Nat} (hab:a <= b) (hb:b <= x.cps.toList.length):(Txt.slice x (some (a:Int)) (some (b:Int))).cps.toList=(x.cps.toList.drop a).take (b - a):=by
 have hx:x.length=x.cps.toList.length:=by simp [Str.length]
 have e:=StrLaws.sliceText_nat x hab (by rw [hx];exact hb);rw [show Txt.slice x (some (a:Int)) (some (b:Int))=StrLaws.sliceText x (some (a:Int)) (some (b:Int)) from rfl,e]
theorem Tp (x:Str) {b:Nat} (hb:b <= x.cps.toList.length):(Txt.slice x none (some (b:Int))).cps.toList=x.cps.toList.take b:=by
 have:Txt.slice x none (some (b:Int))=Txt.slice x (some ((0:Nat):Int)) (some (b:Int)):=by
  show StrLaws.sliceText x none (some (b:Int))=StrLaws.sliceText x (some ((0:Nat):Int)) (some (b:Int));unfold StrLaws.sliceText;rw [StrLaws.sliceIdx_none_lo];rfl
 rw [this,Rw x (Nat.zero_le _) hb,List.drop_zero,Nat.sub_zero]
theorem Do (x:Str) {a:Nat} (ha:a <= x.cps.toList.length):(Txt.slice x (some (a:Int)) none).cps.toList=x.cps.toList.drop a:=by
 have hx:x.length=x.cps.toList.length:=by simp [Str.length]
 have:Txt.slice x (some (a:Int)) none=Txt.slice x (some (a:Int)) (some ((x.cps.toList.length:Nat):Int)):=by
  show StrLaws.sliceText x (some (a:Int)) none=StrLaws.sliceText x (some (a:Int)) (some ((x.cps.toList.length:Nat):Int));unfold StrLaws.sliceText;rw [StrLaws.sliceIdx_none_hi,<- hx]
 rw [this,Rw x ha (Nat.le_refl _)];exact take_of_length_le (by rw [length_drop];exact Nat.le_refl _)
noncomputable def nmA (l:List Nat) (k:Nat):List Nat:=l.take (k + 1)
noncomputable def nmZ (l:List Nat) (at_ f k:Nat):List Nat:=l.take at_ ++ [97 + (f + k) % 26] ++ l.drop (at_ + 1)
noncomputable def nmC (l:List Nat) (f k j:Nat):List Nat:=[97 + (f + k) % 26] ++ l.take j
theorem gC {l:List Nat} (hl:l.length=8) (al:∀ c ∈ l,97 <= c/\c <= 122) {k:Nat} (hk:k < 8):(nmA l k).length=k + 1/\∀ c ∈ nmA l k,97 <= c/\c <= 122:=by
 unfold nmA;exact ⟨by rw [length_take];omega,fun c hc=>al c (mem_of_mem_take hc)⟩
theorem uL {l:List Nat} (hl:l.length=8) (al:∀ c ∈ l,97 <= c/\c <= 122) {a f k:Nat} (ha:a < 8):(nmZ l a f k).length=8/\∀ c ∈ nmZ l a f k,97 <= c/\c <= 122:=by
 unfold nmZ;refine ⟨by rw [length_append,length_append,length_take,length_drop,List.length_singleton];omega,fun c hc=>?_⟩;rcases List.mem_append.mp hc with hc | hc
 ·rcases List.mem_append.mp hc with hc | hc
  ·exact al c (mem_of_mem_take hc)
  ·rw [List.mem_singleton.mp hc];omega
 ·exact al c (mem_of_mem_drop hc)
theorem TL {l:List Nat} (hl:l.length=8) (al:∀ c ∈ l,97 <= c/\c <= 122) {f k j:Nat} (hj:j < 8):(1 <= (nmC l f k j).length/\(nmC l f k j).length <= 8)/\∀ c ∈ nmC l f k j,97 <= c/\c <= 122:=by
 unfold nmC;refine ⟨by rw [length_append,length_take,List.length_singleton];omega,fun c hc=>?_⟩;rcases List.mem_append.mp hc with hc | hc
 ·rw [List.mem_singleton.mp hc];omega
 ·exact al c (mem_of_mem_take hc)
theorem VI {l:List Nat} (hl:l.length=8) {a f i j:Nat} (ha:a < 8) (hi:i < 8) (hj:j < 8) (e:nmZ l a f i=nmZ l a f j):i=j:=by
 have h1:∀ k,(nmZ l a f k)[a]? = some (97 + (f + k) % 26):=fun k=>by
  unfold nmZ;rw [append_assoc,getElem?_append_right (by rw [length_take];omega),length_take,show a - min a l.length=0 by omega];rfl
 have h2:=h1 i;rw [e,h1 j] at h2;have:=Option.some.inj h2;omega
theorem ZJ {l:List Nat} {f i j u v:Nat} (hi:i < 8) (hj:j < 8) (e:nmC l f i u=nmC l f j v):i=j:=by
 unfold nmC at e;have:=(List.cons.inj e).1;omega
theorem RE {xs:List V} {k:Nat} (h:k <= xs.length):Kt xs none (some ((k:Nat):Int))=xs.take k:=by
 unfold Kt;rw [HT.sIx_nat,Nat.min_eq_left h,HT.sIx_none];simp
noncomputable def six:List Str:=[Str.ofString "stage",Str.ofString "tram",Str.ofString "car",Str.ofString "foot",Str.ofString "ring",Str.ofString "free"]
theorem KJ {x:Str} {l:List Nat} (e:x.cps.toList=l) (h0:1 <= l.length) (h1:l.length <= 8) (al:∀ c ∈ l,97 <= c/\c <= 122):made x Dh 8=true:=by
 have hx:x.length=x.cps.toList.length:=by simp [Str.length]
 exact Zv (by rw [hx,e];exact h0) (by rw [hx,e];exact h1) (by rw [e];exact al)
noncomputable def Nms (m:Nat) (xs:List Str):Prop:=xs.length=m/\xs.Nodup/\∀ x ∈ xs,made x Dh 8=true
theorem oE {i:Int} (h0:0 <= i) (h1:i < 26):∃ c:Nat,atI (Str.ofString "abcdefghijklmnopqrstuvwxyz").cps.toList i=some c/\c=97 + i.toNat:=by
 have:∀ k,k < 26->atI (Str.ofString "abcdefghijklmnopqrstuvwxyz").cps.toList ((k:Nat):Int)=some (97 + k):=by decide +kernel
 refine ⟨97 + i.toNat,?_,rfl⟩;have e:=this i.toNat (by omega);rwa [Int.toNat_of_nonneg h0] at e
theorem NM:∀ ys:List Str,(Str.join ⟨#[]⟩ ys).cps.toList=(ys.map (·.cps.toList)).flatten
 | []=>rfl
 | [a]=>by
  show a.cps.toList=_;simp
 | a :: b :: r=>by
  show (a ++ ⟨#[]⟩ ++ Str.join ⟨#[]⟩ (b :: r)).cps.toList=_;rw [Str.cps_append,Array.toList_append,Str.cps_append,Array.toList_append,NM (b :: r)];simp
theorem Ut (f:Nat->Nat) (n:Nat):(Txt.join (Str.ofString "") ((List.range n).map fun i=>Cs (f i))).cps.toList=(List.range n).map f:=by
 rw [show Txt.join (Str.ofString "") ((List.range n).map fun i=>Cs (f i))=Str.join ⟨#[]⟩ ((List.range n).map fun i=>Cs (f i)) from StrLaws.glued_eq_join _ _,NM,map_map];have:((fun x:Str=>x.cps.toList) ∘ fun i=>Cs (f i))=fun i=>[f i]:=rfl
 rw [this]
 induction (List.range n) with
 | nil=>rfl
 | cons a l ih=>rw [map_cons,flatten_cons,ih];rfl
theorem QK:∀ m,m < 7->(six.take m).length=m/\(six.take m).Nodup/\∀ x ∈ six.take m,made x Dh 8=true:=by decide +kernel
noncomputable def Zr (K:W.Frag) (a:Addr) (ns:List Int):Sp:=fun vs H Q _=>∃ m:Nat,vs=[.ref a,.int m]/\Sc K a ns H/\(1 <= m/\m <= 8)/\∀ p xs H',bc H H'->Sc K a ns H'->H p=none->H' p=some (.lst (qb xs))->Nms m xs->Q (.ref p) H'
section
variable {P:Program} {w:World} {K:W.Frag} {mg:Str->Option Value} {base:Heap} {t:Adr}
theorem lw (T:Txt w K mg t) (a:Addr) (ns:List Int) (h63:ns.length <= 63):Ub P w K mg base CX0 2 t.Kg t.Hg q28 (Zr K a ns):=by
 have g8:Ub P w K mg base CX0 1 t.Md t.Pd q12 (Te K a ns):=AE T a ns h63;refine T.Ph.ok Yd (fun vs H Q E h=>?_) (fun _ _ _ s H vs Q E hr h=>?_)
 ·obtain ⟨m,rfl,_⟩:=h;rfl
 obtain ⟨m,rfl,S,hm,q⟩:=h;have hL:(Str.ofString "abcdefghijklmnopqrstuvwxyz").length=26:=by decide +kernel
 refine ⟨_,(db (Fb (i:=2) Yd.nd rfl (Or.inr rfl) Jb)
   (db (Fb (i:=3) Yd.nd rfl (Or.inl rfl) (Se PySem.F.plainAttrs_str PySem.F.slot_str_join PySem.F.type_str_join vj Jb (cb (Qd rfl (Of rfl T.Hi (cb ib fb)) (dc (sc:=pb Ek) rfl (by decide +kernel)) (N:=["_law_k","_law_letters","_law_script"]) (sel:=[none,some 2,some 0]) (Cc (M:=["_law_script","_law_many","_law_letters","_law_base","_law_way","_law_at_here","_law_names_here","_law_k","_law_sign"]) (by decide +kernel)) (Blk.of (fun _ _ _ _=>(Cb (i:=0) (se (N:=["_law_k","_law_letters","_law_script"]) (by decide +kernel) rfl) rfl (Or.inl rfl))) (fun _ _ _ _=>⟨_,Fd,by walk_at "B"⟩) (fun _ _ _ _=>⟨_,(ic pz (pv 1) (vb g8 hr rfl T.wb T.ub.kp T.xb .nil Db (cb (pv 2) (cb (Pb Pc ib (pv 0)) (cb ib fb)))) (fun _ _=>rfl)),by walk_at "B"⟩))) fb)))
   (db (Fb (i:=4) Yd.nd rfl (Or.inl rfl) (vb g8 hr rfl T.wb T.ub.kp T.xb .nil Db (cb (pv 0) (cb ib (cb ib fb)))))
   (db (Fb (i:=5) Yd.nd rfl (Or.inl rfl) (vb g8 hr rfl T.wb T.ub.kp T.xb .nil Db (cb (pv 0) (cb ib (cb ib fb)))))
   (db (Fb (i:=6) Yd.nd rfl (Or.inl rfl) (sd fb))
   (db (Gd (PW.pt (Ol (Ob ve (vb g8 hr rfl T.wb T.ub.kp T.xb .nil Db (cb (pv 0) (cb ib (cb ib fb)))) ib (Sb _)) (Cj (Ob Iu (pv 1) ib (Sb _))))) (lb (Qb (fe Fm (sd (cb Jb (cb Jb (cb Jb (cb Jb (cb Jb (cb Jb fb))))))) lf (Ke (pv 1))))) fc)
   (db (Re PassesOwn.never rfl (Of rfl T.Hi (cb (pv 1) fb)) (Cb (i:=7) Yd.nd rfl (Or.inl rfl)) (db (Fb (i:=8) Yd.nd rfl (Or.inl rfl) (ic pz (pv 2) (Pb Og (Pb Pc (vb g8 hr rfl T.wb T.ub.kp T.xb .nil Db (cb (pv 0) (cb ib (cb ib fb)))) (pv 7)) ib) (fun _ _=>rfl)))
   (lb (Gd (Ob ve (pv 4) ib (Sb _)) (lb (nc (Se PySem.F.plainAttrs_list PySem.F.slot_list_append PySem.F.type_list_append we (pv 6) (cb (Pb Ec (Pb Ec (fe jn (pv 3) lf (Ke (pv 5))) (pv 8)) (fe jn (pv 3) (Ke (Pb Pc (pv 5) ib)) lf)) fb)))) (lb (Gd (PW.pt (Ol (Ob ve (pv 4) ib (Sb _)) (Cj (Ob Iu (pv 1) ib (Sb _))))) (lb (nc (Se PySem.F.plainAttrs_list PySem.F.slot_list_append PySem.F.type_list_append we (pv 6) (cb (fe jn (pv 3) lf (Ke (Pb Pc (pv 7) ib))) fb)))) (lb (nc (Se PySem.F.plainAttrs_list PySem.F.slot_list_append PySem.F.type_list_append we (pv 6) (cb (Pb Ec (pv 8) (fe jn (pv 3) lf (Ke (vb g8 hr rfl T.wb T.ub.kp T.xb .nil Db (cb (pv 0) (cb (Pb Pc ib (pv 7)) (cb ib fb))))))) fb))))))))))
   (lb (Qb (pv 6)))))))))),?_⟩
 refine zS (fun σ' H'=>H'=H/\σ'=[some (.ref a),some (.int m),some (.str (Str.ofString "abcdefghijklmnopqrstuvwxyz")),none,none,none,none,none,none]) (fun D' hD=>?_) fun zzM zzh=>?_
 ·walk_at "RD";exact hD _ _ ⟨rfl,rfl⟩
 rintro σ1 H1 ⟨rfl,rfl⟩;subst zzh;refine zS (fun σ' H'=>bc H1 H'/\Sc K a ns H'/\∃ wd:Str,wd.cps.toList.length=8/\(∀ c ∈ wd.cps.toList,97 <= c/\c <= 122)/\σ'=[some (.ref a),some (.int m),some (.str (Str.ofString "abcdefghijklmnopqrstuvwxyz")),some (.str wd),none,none,none,none,none]) (fun D' hD=>?_) fun zzM zzh=>?_
 ·walk_at "RD";refine ⟨by decide,by decide,?_⟩;refine jd.range_map (n:=8) (fun i=>V.str (Cs (97 + (Od ns (300 + (i:Int)) 26).toNat))) (by decide) (fun i N hi hN=>?_) (fun p hp=>?_)
  ·have d1:=xc ns (300 + (i:Int)) (m:=26) (by decide);have d2:=wc ns (300 + (i:Int)) (m:=26) (by decide);obtain ⟨c,hc,rfl⟩:=oE d1 d2;(walk_at "RD"; repeat (simp only [Te];walk_at "RD"));exact ⟨Sub.name,S,by omega,by omega,by decide,by rw [hL];decide,_,hc,hN⟩
  ·have e:(List.range 8).map (fun i:Nat=>V.str (Cs (97 + (Od ns (300 + (i:Int)) 26).toNat)))=qb ((List.range 8).map fun i:Nat=>Cs (97 + (Od ns (300 + (i:Int)) 26).toNat)):=by unfold qb;rw [map_map];rfl
   refine ⟨p,rfl,(List.range 8).map fun i:Nat=>Cs (97 + (Od ns (300 + (i:Int)) 26).toNat),by rw [<- e];exact SqL.of gb,?_,?_⟩
   ·have h1:(List.map (fun x:Str=>x.length) ((List.range 8).map fun i:Nat=>Cs (97 + (Od ns (300 + (i:Int)) 26).toNat))).sum=8:=by
     rw [map_map];rfl
    rw [h1,length_map,length_range];decide +kernel
   ·refine hD _ _ ⟨jb hp,S.new hp,_,?_,fun c hc=>?_,rfl⟩
    ·rw [Ut (fun i:Nat=>97 + (Od ns (300 + (i:Int)) 26).toNat) 8,length_map,length_range]
    ·rw [Ut (fun i:Nat=>97 + (Od ns (300 + (i:Int)) 26).toNat) 8] at hc;obtain ⟨i,_,rfl⟩:=List.mem_map.mp hc;have d1:=xc ns (300 + (i:Int)) (m:=26) (by decide);have d2:=wc ns (300 + (i:Int)) (m:=26) (by decide);omega
 rintro σ2 H2 ⟨s2,S2,wd,hwl,hwa,rfl⟩;have hwn:wd.length=8:=by
  have:wd.length=wd.cps.toList.length:=by simp [Str.length]
  omega
 have wy0:=xc ns 310 (m:=3) (by decide);have wy1:=wc ns 310 (m:=3) (by decide);subst zzh;generalize hway:Od ns 310 3=way at wy0 wy1;refine zS (fun σ' H'=>H'=H2/\σ'=[some (.ref a),some (.int m),some (.str (Str.ofString "abcdefghijklmnopqrstuvwxyz")),some (.str wd),some (.int way),none,none,none,none]) (fun D' hD=>?_) fun zzM zzh=>?_
 ·(walk_at "RD"; repeat (simp only [Te];walk_at "RD"));rw [hway];exact ⟨S2,by omega,by omega,by decide,hD _ _ ⟨rfl,rfl⟩⟩
 rintro σ3 H3 ⟨rfl,rfl⟩;obtain ⟨at_,hat,hat1⟩:∃ at_:Nat,Od ns 311 8=(at_:Nat)/\at_ < 8:=by
  have d1:=xc ns 311 (m:=8) (by decide);have d2:=wc ns 311 (m:=8) (by decide);exact ⟨(Od ns 311 8).toNat,by omega,by omega⟩
 subst zzh;refine zS (fun σ' H'=>H'=H3/\σ'=[some (.ref a),some (.int m),some (.str (Str.ofString "abcdefghijklmnopqrstuvwxyz")),some (.str wd),some (.int way),some (.int (at_:Nat)),none,none,none]) (fun D' hD=>?_) fun zzM zzh=>?_
 ·(walk_at "RD"; repeat (simp only [Te];walk_at "RD"));rw [hat];exact ⟨S2,by omega,by omega,by omega,hD _ _ ⟨rfl,rfl⟩⟩
 rintro σ4 H4 ⟨rfl,rfl⟩;obtain ⟨f,hf,hf1⟩:∃ f:Nat,Od ns 312 26=(f:Nat)/\f < 26:=by
  have d1:=xc ns 312 (m:=26) (by decide);have d2:=wc ns 312 (m:=26) (by decide);exact ⟨(Od ns 312 26).toNat,by omega,by omega⟩
 subst zzh;refine zS (fun σ' H'=>Sc K a ns H'/\bc H4 H'/\∃ rl,H4 rl=none/\H' rl=some (.lst [])/\σ'=[some (.ref a),some (.int m),some (.str (Str.ofString "abcdefghijklmnopqrstuvwxyz")),some (.str wd),some (.int way),some (.int (at_:Nat)),some (.ref rl),none,none]) (fun D' hD=>?_) fun zzM zzh=>?_
 ·walk_at "RD";exact ⟨Nat.zero_le _,fun rl hrl=>hD _ _ ⟨S2.new hrl,jb hrl,rl,hrl,gb,rfl⟩⟩
 rintro σ6 H6 ⟨S6,s6,rl,hrl,w6,rfl⟩;subst zzh;simp only [Ab];refine Gb (fun σ' H'=>H'=H6/\σ'=[some (.ref a),some (.int m),some (.str (Str.ofString "abcdefghijklmnopqrstuvwxyz")),some (.str wd),some (.int way),some (.int (at_:Nat)),some (.ref rl),none,none]) (fun D' hD hrt _ _=>?_) ?_
 ·refine ac (decide (Od ns 313 8=0) && decide (m < 7)) (fun Q hQ=>?_) (fun hb=>?_) (fun hb=>?_)
  ·(walk_at "RD"; repeat (simp only [Te];walk_at "RD"));refine ⟨S6,by decide,by decide,by decide,?_⟩;by_cases c0:Od ns 313 8=0
   ·rw [if_pos (decide_eq_true c0),show decide ((m:Int) < 7)=decide (m < 7) from decide_eq_decide.mpr (by omega)];rw [decide_eq_true c0,Bool.true_and] at hQ;exact hQ
   ·rw [if_neg (by simpa using c0)];rw [decide_eq_false c0,Bool.false_and] at hQ;exact hQ
  ·rw [Bool.and_eq_true,decide_eq_true_eq,decide_eq_true_eq] at hb;obtain ⟨k1,k2,k3⟩:=QK m hb.2;walk_at "RD";refine ⟨by decide,fun p hp=>⟨_,SqL.of gb,fun p1 hp1=>?_⟩⟩;rw [hrt];refine q p1 (six.take m) _ (s2.trans (s6.trans ((jb hp).trans (jb hp1)))) ((S6.new hp).new hp1) ((s2.trans (s6.trans (jb hp))).free hp1) ?_ ⟨k1,k2,k3⟩;rw [gb,RE (show m <= 6 by omega)];unfold qb six;rw [map_take];rfl
  ·simp only [Qc];exact hD _ _ ⟨rfl,rfl⟩
 rintro σ7 H7 ⟨rfl,rfl⟩;obtain ⟨g,hg⟩:∃ g:Nat->List Nat,g=fun k=>if way=0 then nmZ wd.cps.toList at_ f k else if way=1 then nmA wd.cps.toList k else nmC wd.cps.toList f k (Od ns (320 + (k:Int)) 8).toNat:=⟨_,rfl⟩
 simp only [Ab];refine zzC (fun σ' H'=>Sc K a ns H'/\bc H4 H'/\(∃ xs:List Str,H' rl=some (.lst (qb xs))/\xs.map (·.cps.toList)=(List.range m).map g)/\∃ x7 x8,σ'=[some (.ref a),some (.int m),some (.str (Str.ofString "abcdefghijklmnopqrstuvwxyz")),some (.str wd),some (.int way),some (.int (at_:Nat)),some (.ref rl),x7,x8]) (fun D' hD=>?_) fun zzM zzh=>?_
 ·walk_at "RD";refine ⟨by omega,by omega,?_⟩;refine Uj.range (fun i σ H'=>Sc K a ns H'/\bc H4 H'/\(∃ xs:List Str,H' rl=some (.lst (qb xs))/\xs.map (·.cps.toList)=(List.range i).map g)/\∃ x7 x8,σ=[some (.ref a),some (.int m),some (.str (Str.ofString "abcdefghijklmnopqrstuvwxyz")),some (.str wd),some (.int way),some (.int (at_:Nat)),some (.ref rl),x7,x8]) ⟨S6,s6,⟨[],w6,rfl⟩,_,_,rfl⟩ ?_ ?_
  ·rintro i σ H' hi zzq;refine zP fun zzM zzh=>?_
   obtain ⟨S7,s7,⟨xs,w7,hxs⟩,x7,x8,rfl⟩:=zzq;have hi8:i < 8:=by have:i < (m:Int).toNat:=hi;omega
   have hxl:xs.length=i:=by have:=congrArg List.length hxs;rwa [length_map,length_map,length_range] at this
   obtain ⟨c,hc,rfl⟩:=oE (i:=((f:Int) + (i:Int)) % 26) (Int.emod_nonneg _ (by decide)) (Int.emod_lt_of_pos _ (by decide));have ecc:(((f:Int) + (i:Int)) % 26).toNat=(f + i) % 26:=by omega
   subst zzh;rw [ecc] at hc;simp only [cf,Ab,set_cons_succ,set_cons_zero,Int.zero_add];refine zzC (fun σ' H''=>H''=H'/\σ'=[some (.ref a),some (.int m),some (.str (Str.ofString "abcdefghijklmnopqrstuvwxyz")),some (.str wd),some (.int way),some (.int (at_:Nat)),some (.ref rl),some (.int (i:Nat)),some (.str (Cs (97 + (f + i) % 26)))]) (fun D' hD=>?_) fun zzM zzh=>?_
   ·(walk_at "RD"; repeat (simp only [Te];walk_at "RD"));rw [hf];exact ⟨S7,by decide,by decide,by decide,by decide,by rw [hL];decide,_,hc,hD _ _ ⟨rfl,rfl⟩⟩
   rintro σA HA ⟨rfl,rfl⟩;have hbig:∀ k:Nat,k <= 1000->k <= sizeLine:=fun k h=>Nat.le_trans h (by decide)
   have l3:(Cs (97 + (f + i) % 26)).length=1:=rfl;have put:∀ nm:Str,nm.cps.toList=g i->Sc K a ns (upd HA rl (.lst (qb xs ++ [.str nm])))/\bc H4 (upd HA rl (.lst (qb xs ++ [.str nm])))/\(∃ ys:List Str,(upd HA rl (.lst (qb xs ++ [.str nm]))) rl=some (.lst (qb ys))/\ys.map (·.cps.toList)=(List.range (i + 1)).map g):=fun nm hnm=>by
    refine ⟨S7.set w7 (fun _ _ z=>by cases z),s7.updN hrl,xs ++ [nm],?_,?_⟩
    ·rw [gb];unfold qb;rw [map_append];rfl
    ·rw [map_append,hxs,range_succ,map_append,map_cons,map_nil,hnm];rfl
   have hxb:(qb xs).length < sizeLine:=Nat.lt_of_le_of_lt (show (qb xs).length <= 8 by unfold qb;rw [length_map];omega) (by decide);subst zzh;dsimp only;refine ac (decide (way=0)) (fun Q hQ=>?_) (fun hbt=>?_) (fun hbf=>?_)
   ·walk_at "RD";exact hQ
   ·have hw:=of_decide_eq_true hbt;have hgi:g i=nmZ wd.cps.toList at_ f i:=by rw [hg];exact if_pos hw
    have l1:=Txt.slice_le wd none (some (at_:Int));have l2:=Txt.slice_le wd (some ((at_:Int) + 1)) none;walk_at "RD";refine ⟨.inl ⟨_,SqL.of w7⟩,by rw [hwn];decide,hbig _ (by omega),by rw [hwn];decide,hbig _ (by rw [Ug];omega),_,w7,hxb,?_⟩;obtain ⟨p1,p2,p3⟩:=put (Txt.slice wd none (some (at_:Int)) ++ Cs (97 + (f + i) % 26) ++ Txt.slice wd (some ((at_:Int) + 1)) none) (by
     rw [hgi];unfold nmZ;rw [Str.cps_append,Array.toList_append,Str.cps_append,Array.toList_append,Tp wd (by omega),show ((at_:Int) + 1)=((at_ + 1:Nat):Int) by omega,Do wd (by omega)]
     rfl)
    exact ⟨p1,p2,p3,_,rfl⟩
   ·have hw:=of_decide_eq_false hbf;refine ac (decide (way=1)) (fun Q hQ=>?_) (fun hbt=>?_) (fun hbf=>?_)
    ·walk_at "RD";by_cases c1:way=1
     ·rw [if_pos (decide_eq_true c1),decide_eq_true (show (m:Int) < 9 by omega)];rw [decide_eq_true c1] at hQ;exact hQ
     ·rw [if_neg (by simpa using c1)];rw [decide_eq_false c1] at hQ;exact hQ
    ·have hw1:=of_decide_eq_true hbt;have hgi:g i=nmA wd.cps.toList i:=by rw [hg];exact (if_neg hw).trans (if_pos hw1)
     walk_at "RD";refine ⟨.inl ⟨_,SqL.of w7⟩,by rw [hwn];decide,_,w7,hxb,?_⟩;obtain ⟨p1,p2,p3⟩:=put (Txt.slice wd none (some ((i:Int) + 1))) (by
      rw [hgi,show ((i:Int) + 1)=((i + 1:Nat):Int) by omega,Tp wd (by omega)]
      rfl)
     exact ⟨p1,p2,p3,_,rfl⟩
    ·have hw1:=of_decide_eq_false hbf;have hgi:g i=nmC wd.cps.toList f i (Od ns (320 + (i:Int)) 8).toNat:=by rw [hg];exact (if_neg hw).trans (if_neg hw1)
     have d1:=xc ns (320 + (i:Int)) (m:=8) (by decide);have d2:=wc ns (320 + (i:Int)) (m:=8) (by decide);(walk_at "RD"; repeat (simp only [Te];walk_at "RD"));obtain ⟨jj,hjj⟩:∃ jj:Nat,Od ns (320 + (i:Int)) 8=(jj:Int):=⟨_,(Int.toNat_of_nonneg d1).symm⟩;rw [hjj] at hgi d2;rw [hjj];rw [Int.toNat_natCast] at hgi;have l1:=Txt.slice_le wd none (some (jj:Int));refine ⟨.inl ⟨_,SqL.of w7⟩,S7,by omega,by omega,by decide,by rw [hwn];decide,hbig _ (by omega),_,w7,hxb,?_⟩;obtain ⟨p1,p2,p3⟩:=put (Cs (97 + (f + i) % 26) ++ Txt.slice wd none (some (jj:Int))) (by
      rw [hgi];unfold nmC;rw [Str.cps_append,Array.toList_append,Tp wd (by omega)]
      rfl)
     exact ⟨p1,p2,p3,_,rfl⟩
  ·rintro σ H' zzq;refine zP fun zzM zzh=>?_
   obtain ⟨S7,s7,⟨xs,w7,hxs⟩,x7,x8,rfl⟩:=zzq;subst zzh;exact hD _ _ ⟨S7,s7,⟨xs,w7,by rw [hxs,show (m:Int).toNat=m by omega]⟩,x7,x8,rfl⟩
 rintro σ8 H8 ⟨S8,s8,⟨xs,w8,hxs⟩,x7,x8,rfl⟩;have hxl:xs.length=m:=by have:=congrArg List.length hxs;rwa [length_map,length_map,length_range] at this
 have dj:∀ k:Nat,(Od ns (320 + (k:Int)) 8).toNat < 8:=fun k=>by
  have d1:=xc ns (320 + (k:Int)) (m:=8) (by decide);have d2:=wc ns (320 + (k:Int)) (m:=8) (by decide);omega
 have gok:∀ k,k < m->(1 <= (g k).length/\(g k).length <= 8)/\∀ c ∈ g k,97 <= c/\c <= 122:=fun k hk=>by
  rw [hg];dsimp only;split
  ·have:=uL hwl hwa (f:=f) (k:=k) hat1;exact ⟨by omega,this.2⟩
  ·split
   ·have:=gC hwl hwa (k:=k) (by omega);exact ⟨by omega,this.2⟩
   ·exact TL hwl hwa (dj k)
 have ginj:∀ i j,i < m->j < m->g i=g j->i=j:=fun i j hi hj e=>by
  rw [hg] at e;dsimp only at e;by_cases c0:way=0
  ·rw [if_pos c0,if_pos c0] at e;exact VI hwl hat1 (by omega) (by omega) e
  ·rw [if_neg c0,if_neg c0] at e;by_cases c1:way=1
   ·rw [if_pos c1,if_pos c1] at e;have h1:=gC hwl hwa (k:=i) (by omega);have h2:=gC hwl hwa (k:=j) (by omega);rw [e] at h1;omega
   ·rw [if_neg c1,if_neg c1] at e;exact ZJ (by omega) (by omega) e
 have hat':∀ (i:Nat) (x:Str),xs[i]? = some x->i < m/\x.cps.toList=g i:=fun i x hx=>by
  have hi:i < m:=by rw [<- hxl];exact (List.getElem?_eq_some_iff.mp hx).1
  have e:=congrArg (fun l=>l[i]?) hxs
  try dsimp only at e
  rw [getElem?_map,hx,getElem?_map,List.getElem?_range hi] at e;exact ⟨hi,Option.some.inj e⟩
 have N:Nms m xs:=by
  refine ⟨hxl,List.pairwise_iff_getElem.mpr fun i j hi hj hij e=>?_,fun x hx=>?_⟩
  ·obtain ⟨a1,a2⟩:=hat' i _ (getElem?_eq_getElem hi);obtain ⟨b1,b2⟩:=hat' j _ (getElem?_eq_getElem hj);rw [e,b2] at a2;have:=ginj i j a1 b1 a2.symm;omega
  ·obtain ⟨i,hi⟩:=getElem?_of_mem hx;obtain ⟨a1,a2⟩:=hat' i _ hi;have:=gok i a1;exact KJ a2 this.1.1 this.1.2 this.2
 subst zzh;walk_at "RD";exact q rl xs H8 (s2.trans s8) S8 (s2.free hrl) w8 N
end
end My
namespace My
open PySem L2
noncomputable abbrev Fx (d:WD):List V:=[.str (oe d.k),.str d.name,.int d.start,.int d.fin,.int d.off,.int d.near,.int d.least]
noncomputable def LW (H:Hp) (wl:Addr) (ds:List WD):Prop:=∃ qs:List Addr,H wl=some (.lst (qs.map V.ref))/\qs.length=ds.length/\∀ (i:Nat) (q:Addr) (d:WD),qs[i]? = some q->ds[i]? = some d->H q=some (.tup (Fx d))
theorem LW.same {H H':Hp} {wl:Addr} {ds:List WD} (h:LW H wl ds) (s:bc H H'):LW H' wl ds:=by
 obtain ⟨qs,e1,e2,al⟩:=h;exact ⟨qs,s _ _ e1,e2,fun i q d h1 h2=>s _ _ (al i q d h1 h2)⟩
theorem LW.snoc {H:Hp} {wl p:Addr} {ds:List WD} {d:WD} {qs:List Addr} (l1:H wl=some (.lst (qs.map V.ref))) (l2:qs.length=ds.length)
  (al:∀ (i:Nat) (q:Addr) (d:WD),qs[i]? = some q->ds[i]? = some d->H q=some (.tup (Fx d))) (hp:H p=none) :
  LW (upd (upd H p (.tup (Fx d))) wl (.lst (qs.map V.ref ++ [.ref p]))) wl (ds ++ [d]):=by
 have hpw:p ≠ wl:=(Kb l1 hp).symm;refine ⟨qs ++ [p],by rw [gb,map_append];rfl,by rw [length_append,length_append,l2];rfl,fun i q e h1 h2=>?_⟩;rcases kf h1 with ⟨z1,z2⟩ | ⟨z1,rfl⟩
 ·rcases kf h2 with ⟨y1,y2⟩ | ⟨y1,_⟩
  ·have:=al i q e z2 y2;rw [zb (af this l1 (by intro z;cases z)),zb (Kb this hp)];exact this
  ·omega
 ·rcases kf h2 with ⟨y1,y2⟩ | ⟨y1,rfl⟩
  ·omega
  ·rw [zb hpw,gb]
theorem fM {n s j:Int} (h0:0 <= s) (h1:s < n) (h2:0 <= j) (h3:j < n - 1):s ≠ (s + 1 + j) % n:=by
 by_cases c:s + 1 + j < n
 ·rw [Int.emod_eq_of_lt (by omega) c];omega
 ·rw [show s + 1 + j=(s + 1 + j - n) + n * 1 by omega,Int.add_mul_emod_self_left,Int.emod_eq_of_lt (by omega) (by omega)];omega
structure BH (n:Int) (ds:List WD):Prop where
 al:∀ d ∈ ds,WOk n d/\True
 nd:(ds.map (·.name)).Nodup
theorem BH.cok {n:Int} {ds:List WD} (h:BH n ds) (hn:2 <= n/\n <= 99) (hl:1 <= ds.length/\ds.length <= 12):COk n ds:=⟨hn,hl,fun d hd=>(h.al d hd).1,h.nd⟩
noncomputable def Az (K:W.Frag) (a:Addr) (ns:List Int):Sp:=fun vs H Q _=>∃ most:Int,vs=[.ref a,.int most]/\(1 <= most/\most <= 8)/\Sc K a ns H /\
 ∀ tp wl n ds H',bc H H'->Sc K a ns H'->H' tp=some (.tup [.int n,.ref wl])->LW H' wl ds->BH n ds->(∀ d ∈ ds,d.least <= 4)->(4 <= n/\n <= 99)->(1 <= ds.length/\(ds.length:Int) <= most)->Q (.ref tp) H'
theorem AN {i:Int} (h0:0 <= i) (h1:i < 4):∃ k:Nat,k < 3/\atI [V.str (Str.ofString "car"),V.str (Str.ofString "car"),V.str (Str.ofString "foot"),V.str (Str.ofString "tram")] i=some (.str (oe k)):=by
 have:i=0\/i=1\/i=2\/i=3:=by omega
 rcases this with rfl | rfl | rfl | rfl
 ·exact ⟨0,by decide,Eb (j:=0) rfl⟩
 ·exact ⟨0,by decide,Eb (j:=1) rfl⟩
 ·exact ⟨1,by decide,Eb (j:=2) rfl⟩
 ·exact ⟨2,by decide,Eb (j:=3) rfl⟩
theorem at2 (x y:V) (c:Bool):atI [x,y] (if c=true then 1 else 0)=some (if c=true then y else x):=by
 cases c with
 | true=>exact Eb (j:=1) rfl
 | false=>exact Eb (j:=0) rfl
section
variable {P:Program} {w:World} {K:W.Frag} {mg:Str->Option Value} {base:Heap} {t:Adr}
theorem rH (T:Txt w K mg t) (a:Addr) (ns:List Int) (h63:ns.length <= 63):Ub P w K mg base CX0 3 t.Pj t.Jj q40 (Az K a ns):=by
 have g8:Ub P w K mg base CX0 2 t.Md t.Pd q12 (Te K a ns):=(AE T a ns h63).mono (by decide);have g29:Ub P w K mg base CX0 2 t.Kg t.Hg q28 (Zr K a ns):=lw T a ns h63;refine T.wm.ok pd (fun vs H Q E h=>?_) (fun _ _ _ s H vs Q E hr h=>?_)
 ·obtain ⟨most,rfl,_⟩:=h;rfl
 obtain ⟨most,rfl,hmost,S,q⟩:=h;refine ⟨_,(db (Fb (i:=2) pd.nd rfl (Or.inl rfl) (ic Yb (sd (cb (Pb Pc ib (vb g8 hr rfl T.wb T.ub.kp T.xb .nil Db (cb (pv 0) (cb ib (cb ib fb))))) (cb ib fb))) (sf Rv rfl T.ED Wi (cb (Dd ve (vb g8 hr rfl T.wb T.ub.kp T.xb .nil Db (cb (pv 0) (cb ib (cb ib fb)))) ib (Sb _)) fb)) (fun _ _=>rfl)))
   (db (Fb (i:=3) pd.nd rfl (Or.inl rfl) (vb g29 hr rfl T.Po T.Ph.kp T.Lo .nil Db (cb (pv 0) (cb (Pb Pc ib (vb g8 hr rfl T.wb T.ub.kp T.xb .nil Db (cb (pv 0) (cb ib (cb (pv 1) fb))))) fb))))
   (db (Fb (i:=4) pd.nd rfl (Or.inl rfl) (sd fb))
   (db (Re PassesOwn.never rfl (Of rfl T.Hi (cb (Vb Ib rfl T.Bf Rb (cb (pv 3) fb)) fb)) (Cb (i:=5) pd.nd rfl (Or.inl rfl)) (db (Fb (i:=6) pd.nd rfl (Or.inl rfl) (vb g8 hr rfl T.wb T.ub.kp T.xb .nil Db (cb (pv 0) (cb (Pb Pc ib (Pb Mh ib (pv 5))) (cb (pv 2) fb)))))
   (db (Fb (i:=7) pd.nd rfl (Or.inl rfl) (Pb Og (Pb Pc (Pb Pc (pv 6) ib) (vb g8 hr rfl T.wb T.ub.kp T.xb .nil Db (cb (pv 0) (cb (Pb Pc ib (Pb Mh ib (pv 5))) (cb (Pb ck (pv 2) ib) fb))))) (pv 2)))
   (db (Fb (i:=8) pd.nd rfl (Or.inl rfl) (ic Yb (sd (cb Jb (cb Jb (cb Jb (cb Jb fb))))) (vb g8 hr rfl T.wb T.ub.kp T.xb .nil Db (cb (pv 0) (cb (Pb Pc ib (Pb Mh ib (pv 5))) (cb ib fb)))) (fun _ _=>rfl)))
   (db (Fb (i:=9) pd.nd rfl (Or.inl rfl) (ic Yb (sd (cb (vb g8 hr rfl T.wb T.ub.kp T.xb .nil Db (cb (pv 0) (cb (Pb Pc ib (Pb Mh ib (pv 5))) (cb ib fb)))) (cb ib fb))) (sf Rv rfl T.ED Wi (cb (Dd ve (vb g8 hr rfl T.wb T.ub.kp T.xb .nil Db (cb (pv 0) (cb (Pb Pc ib (Pb Mh ib (pv 5))) (cb ib fb)))) ib (Sb _)) fb)) (fun _ _=>rfl)))
   (db (Fb (i:=10) pd.nd rfl (Or.inl rfl) (vb g8 hr rfl T.wb T.ub.kp T.xb .nil Db (cb (pv 0) (cb (Pb Pc ib (Pb Mh ib (pv 5))) (cb ib fb)))))
   (db (Gd (PW.pt (Ol (Ob ve (vb g8 hr rfl T.wb T.ub.kp T.xb .nil Db (cb (pv 0) (cb ib (cb ib fb)))) ib (Sb _)) (Cj (Ob mq (vb g8 hr rfl T.wb T.ub.kp T.xb .nil Db (cb (pv 0) (cb (Pb Pc ib (pv 5)) (cb ib fb)))) ib (Sb _))))) (db (Fb (i:=8) pd.nd rfl (Or.inl rfl) Jb)
   (lb (Fb (i:=9) pd.nd rfl (Or.inl rfl) ib))) fc)
   (lb (nc (Se PySem.F.plainAttrs_list PySem.F.slot_list_append PySem.F.type_list_append we (pv 4) (cb (br (cb (pv 8) (cb (ic Yb (pv 3) (pv 5) (fun _ _=>rfl)) (cb (pv 6) (cb (pv 7) (cb (pv 9) (cb (pv 10) (cb (Pb Pc ib (vb g8 hr rfl T.wb T.ub.kp T.xb .nil Db (cb (pv 0) (cb (Pb Pc ib (Pb Mh ib (pv 5))) (cb ib fb))))) fb)))))))) fb)))))))))))
   (lb (Qb (br (cb (pv 2) (cb (pv 4) fb))))))))),?_⟩
 refine zS (fun σ' H'=>bc H H'/\Sc K a ns H'/\∃ n:Int,(4 <= n/\n <= 99)/\σ'=[some (.ref a),some (.int most),some (.int n),none,none,none,none,none,none,none,none]) (fun D' hD=>?_) fun zzM zzh=>?_
 ·have d1:=xc ns 2 (m:=13) (by decide);have d2:=wc ns 2 (m:=13) (by decide);(walk_at "RD"; repeat (simp only [Te];walk_at "RD"));obtain ⟨n,hn,en⟩:∃ n:Int,(4 <= n/\n <= 99)/\(if decide (Od ns 3 6=0)=true then V.int 99 else V.int (4 + Od ns 2 13))=V.int n:=by
   split
   ·exact ⟨99,by decide,rfl⟩
   ·exact ⟨_,by omega,rfl⟩
  refine ⟨S,by decide,by decide,by decide,by decide,fun p hp=>⟨S.new hp,by decide,by decide,by decide,_,SqL.of gb,_,at2 _ _ _,?_⟩⟩;rw [en];exact hD _ _ ⟨jb hp,S.new hp,n,hn,rfl⟩
 rintro σ0 H0 ⟨s0,S0,n,hn,rfl⟩;obtain ⟨m,hmm,hm⟩:∃ m:Nat,1 + Od ns 1 most=(m:Nat)/\(1 <= m/\m <= 8/\(m:Int) <= most):=by
  have d1:=xc ns 1 (m:=most) (by omega);have d2:=wc ns 1 (m:=most) (by omega);exact ⟨(1 + Od ns 1 most).toNat,by omega,by omega⟩
 subst zzh;refine zS (fun σ' H'=>bc H0 H'/\Sc K a ns H'/\∃ nl xs,H' nl=some (.lst (qb xs))/\Nms m xs/\σ'=[some (.ref a),some (.int most),some (.int n),some (.ref nl),none,none,none,none,none,none,none]) (fun D' hD=>?_) fun zzM zzh=>?_
 ·walk_at "RD";refine ⟨_,_,rfl,S0,by decide,by omega,_,rfl,?_⟩;rw [hmm];exact ⟨m,rfl,S0,by omega,fun p xs H' s1 S1 _ e N=>hD _ _ ⟨s1,S1,p,xs,e,N,rfl⟩⟩
 rintro σ1 H1 ⟨s1,S1,nl,xs,en,N,rfl⟩;subst zzh;refine zS (fun σ' H'=>Sc K a ns H'/\bc H1 H'/\∃ wl,H1 wl=none/\H' wl=some (.lst [])/\σ'=[some (.ref a),some (.int most),some (.int n),some (.ref nl),some (.ref wl),none,none,none,none,none,none]) (fun D' hD=>?_) fun zzM zzh=>?_
 ·walk_at "RD";exact ⟨Nat.zero_le _,fun wl hwl=>hD _ _ ⟨S1.new hwl,jb hwl,wl,hwl,gb,rfl⟩⟩
 rintro σ3 H3 ⟨S3,s3,wl,hwl,w3,rfl⟩;have hnsl:(qb xs).length=m:=by unfold qb;rw [length_map,N.1]
 subst zzh;walk_at "RD";refine ⟨_,.inl (SqL.of (s3 _ _ en)),by omega,by rw [hnsl];omega,?_⟩;rw [show (((qb xs).length:Nat):Int).toNat=m by rw [hnsl];rfl];refine Uj.range (fun i σ H'=>Sc K a ns H'/\bc H1 H'/\(∃ ds,LW H' wl ds/\ds.length=i/\(∀ d ∈ ds,WOk n d/\d.least <= 4)/\∀ (j:Nat) (d:WD),ds[j]? = some d->xs[j]? = some d.name)/\∃ x5 x6 x7 x8 x9 x10,σ=[some (.ref a),some (.int most),some (.int n),some (.ref nl),some (.ref wl),x5,x6,x7,x8,x9,x10]) ⟨S3,s3,⟨[],⟨[],w3,rfl,fun i q d h=>by simp at h⟩,rfl,fun d h=>by simp at h,fun j d h=>by simp at h⟩,_,_,_,_,_,_,rfl⟩ ?_ ?_
 ·rintro i σ H' hi zzq;refine zP fun zzM zzh=>?_
  obtain ⟨S4,s4,⟨ds,L4,hdl,hok,hnm⟩,x5,x6,x7,x8,x9,x10,rfl⟩:=zzq;have him:i < m:=hi;have hxi:xs[i]? = some (xs[i]'(by rw [N.1];exact him)):=getElem?_eq_getElem _;subst zzh;generalize xs[i]'(by rw [N.1];exact him)=nm at hxi;have en4:=s4 _ _ en;have hnat:atI (qb xs) ((i:Nat):Int)=some (.str nm):=Eb (by unfold qb;rw [getElem?_map,hxi];rfl);simp only [cf,Ab,set_cons_succ,set_cons_zero,Int.zero_add];refine zzC (fun σ' H''=>H''=H'/\∃ st:Int,(0 <= st/\st < n)/\σ'=[some (.ref a),some (.int most),some (.int n),some (.ref nl),some (.ref wl),some (.int (i:Nat)),some (.int st),x7,x8,x9,x10]) (fun D' hD=>?_) fun zzM zzh=>?_
  ·have d1:=xc ns (10 + 7 * (i:Int)) (m:=n) (by omega);have d2:=wc ns (10 + 7 * (i:Int)) (m:=n) (by omega);(walk_at "RD"; repeat (simp only [Te];walk_at "RD"));exact ⟨.inl ⟨by decide,by decide⟩,S4,by omega,by omega,by omega,hD _ _ ⟨rfl,_,⟨d1,d2⟩,rfl⟩⟩
  rintro σA HA ⟨rfl,st,hst,rfl⟩;subst zzh;simp only [Ab];refine zzC (fun σ' H''=>H''=HA/\∃ fi:Int,(0 <= fi/\fi < n)/\st ≠ fi/\σ'=[some (.ref a),some (.int most),some (.int n),some (.ref nl),some (.ref wl),some (.int (i:Nat)),some (.int st),some (.int fi),x8,x9,x10]) (fun D' hD=>?_) fun zzM zzh=>?_
  ·have d1:=xc ns (11 + 7 * (i:Int)) (m:=n - 1) (by omega);have d2:=wc ns (11 + 7 * (i:Int)) (m:=n - 1) (by omega);have m0:=Int.emod_nonneg (st + 1 + Od ns (11 + 7 * (i:Int)) (n - 1)) (show n ≠ 0 by omega);have m1:=Int.emod_lt_of_pos (st + 1 + Od ns (11 + 7 * (i:Int)) (n - 1)) (show 0 < n by omega);(walk_at "RD"; repeat (simp only [Te];walk_at "RD"));exact ⟨.inl ⟨by decide,by decide⟩,S4,by omega,by omega,by omega,by omega,hD _ _ ⟨rfl,_,⟨m0,m1⟩,fM hst.1 hst.2 d1 (by omega),rfl⟩⟩
  rintro σB HB ⟨rfl,fi,hfi,hne,rfl⟩;subst zzh;simp only [Ab];refine zzC (fun σ' H''=>bc HB H''/\Sc K a ns H''/\∃ k:Nat,k < 3/\σ'=[some (.ref a),some (.int most),some (.int n),some (.ref nl),some (.ref wl),some (.int (i:Nat)),some (.int st),some (.int fi),some (.str (oe k)),x9,x10]) (fun D' hD=>?_) fun zzM zzh=>?_
  ·have d1:=xc ns (12 + 7 * (i:Int)) (m:=4) (by decide);have d2:=wc ns (12 + 7 * (i:Int)) (m:=4) (by decide);obtain ⟨k,hk,hat⟩:=AN d1 d2;(walk_at "RD"; repeat (simp only [Te];walk_at "RD"));exact ⟨by decide,fun p hp=>⟨.inl ⟨by decide,by decide⟩,S4.new hp,by omega,by omega,by decide,_,SqL.of gb,_,hat,hD _ _ ⟨jb hp,S4.new hp,k,hk,rfl⟩⟩⟩
  rintro σC HC ⟨sC,SC,k0,hk0,rfl⟩;subst zzh;simp only [Ab];refine zzC (fun σ' H''=>bc HC H''/\Sc K a ns H''/\∃ of_:Int,(0 <= of_/\of_ <= 30)/\σ'=[some (.ref a),some (.int most),some (.int n),some (.ref nl),some (.ref wl),some (.int (i:Nat)),some (.int st),some (.int fi),some (.str (oe k0)),some (.int of_),x10]) (fun D' hD=>?_) fun zzM zzh=>?_
  ·have d1:=xc ns (13 + 7 * (i:Int)) (m:=9) (by decide);have d2:=wc ns (13 + 7 * (i:Int)) (m:=9) (by decide);(walk_at "RD"; repeat (simp only [Te];walk_at "RD"));obtain ⟨v,hv,en⟩:∃ v:Int,(0 <= v/\v <= 30)/\(if decide (Od ns (14 + 7 * (i:Int)) 12=0)=true then V.int 30 else V.int (Od ns (13 + 7 * (i:Int)) 9))=V.int v:=by
    split
    ·exact ⟨30,by decide,rfl⟩
    ·exact ⟨_,by omega,rfl⟩
   refine ⟨.inl ⟨by decide,by decide⟩,SC,by omega,by omega,by decide,by decide,fun p hp=>⟨.inl ⟨by decide,by decide⟩,SC.new hp,by omega,by omega,by decide,_,SqL.of gb,_,at2 _ _ _,?_⟩⟩;rw [en];exact hD _ _ ⟨jb hp,SC.new hp,v,hv,rfl⟩
  rintro σD HD ⟨sD,SD_,of1,hof1,rfl⟩;subst zzh;simp only [Ab];refine zzC (fun σ' H''=>H''=HD/\∃ ne_:Int,(0 <= ne_/\ne_ <= 5)/\σ'=[some (.ref a),some (.int most),some (.int n),some (.ref nl),some (.ref wl),some (.int (i:Nat)),some (.int st),some (.int fi),some (.str (oe k0)),some (.int of1),some (.int ne_)]) (fun D' hD=>?_) fun zzM zzh=>?_
  ·have d1:=xc ns (15 + 7 * (i:Int)) (m:=6) (by decide);have d2:=wc ns (15 + 7 * (i:Int)) (m:=6) (by decide);(walk_at "RD"; repeat (simp only [Te];walk_at "RD"));exact ⟨.inl ⟨by decide,by decide⟩,SD_,by omega,by omega,by decide,hD _ _ ⟨rfl,_,by omega,rfl⟩⟩
  rintro σE HE ⟨rfl,ne1,hne1,rfl⟩;subst zzh;simp only [Ab];refine zzC (fun σ' H''=>H''=HE/\∃ (k:Nat) (of_:Int),k < 3/\(0 <= of_/\of_ <= 30)/\σ'=[some (.ref a),some (.int most),some (.int n),some (.ref nl),some (.ref wl),some (.int (i:Nat)),some (.int st),some (.int fi),some (.str (oe k)),some (.int of_),some (.int ne1)]) (fun D' hD=>?_) fun zzM zzh=>?_
  ·refine ac (decide (Od ns 9 6=0) && decide (0 < Od ns (60 + (i:Int)) 4)) (fun Q hQ=>?_) (fun _=>?_) (fun _=>?_)
   ·(walk_at "RD"; repeat (simp only [Te];walk_at "RD"));refine ⟨SD_,by omega,by omega,by decide,?_⟩;by_cases c0:Od ns 9 6=0
    ·rw [if_pos (decide_eq_true c0)];rw [decide_eq_true c0,Bool.true_and] at hQ;exact ⟨SD_,by omega,by omega,by decide,hQ⟩
    ·rw [if_neg (by simpa using c0)];rw [decide_eq_false c0,Bool.false_and] at hQ;exact hQ
   ·walk_at "RD";exact hD _ _ ⟨rfl,1,0,by decide,by decide,rfl⟩
   ·walk_at "RD";exact hD _ _ ⟨rfl,k0,of1,hk0,hof1,rfl⟩
  rintro σF HF ⟨rfl,k,of2,hk,hof2,rfl⟩;have sH:=sC.trans sD;have enH:=sH _ _ en4;have LH:=L4.same sH;have d1:=xc ns (16 + 7 * (i:Int)) (m:=4) (by decide);have d2:=wc ns (16 + 7 * (i:Int)) (m:=4) (by decide);obtain ⟨le_,ele,hle⟩:∃ le_:Int,1 + Od ns (16 + 7 * (i:Int)) 4=le_/\1 <= le_/\le_ <= 4:=⟨_,rfl,by omega,by omega⟩;obtain ⟨qs,l1,l2,al⟩:=LH;subst zzh;(walk_at "RD"; repeat (simp only [Te];walk_at "RD"));rw [ele];refine ⟨.inl ⟨_,SqL.of l1⟩,_,SqL.of enH,_,hnat,.inl ⟨by decide,by decide⟩,SD_,by omega,by omega,by decide,by decide,fun p hp=>?_⟩;have hwp:wl ≠ p:=Kb l1 hp;have L':=LW.snoc (d:=⟨k,nm,st,fi,of2,ne1,le_⟩) l1 l2 al hp;refine ⟨_,by rw [zb hwp];exact l1,Nat.lt_of_le_of_lt (show (qs.map V.ref).length <= 8 by rw [length_map];omega) (by decide),(SD_.new hp).set (by rw [zb hwp];exact l1) (fun _ _ z=>by cases z),((s4.trans sH).trans (jb hp)).updN hwl,⟨ds ++ [⟨k,nm,st,fi,of2,ne1,le_⟩],L',by rw [length_append,hdl];rfl,fun d hd=>?_,fun j d hd=>?_⟩,?_⟩
  ·rcases List.mem_append.mp hd with hd | hd
   ·exact hok d hd
   ·rw [List.mem_singleton.mp hd];exact ⟨⟨hk,N.2.2 nm (mem_of_getElem? hxi),⟨hst.1,hst.2⟩,⟨hfi.1,hfi.2⟩,hne,hof2,⟨hne1.1,by dsimp only;omega⟩,⟨hle.1,by dsimp only;omega⟩⟩,hle.2⟩
  ·rcases kf hd with ⟨_,z⟩ | ⟨z,rfl⟩
   ·exact hnm j d z
   ·rw [z,hdl];exact hxi
  ·repeat (first | exact ⟨_,rfl⟩ | refine ⟨⟨_,rfl⟩,?_⟩)
 ·rintro σ H' zzq;refine zP fun zzM zzh=>?_
  obtain ⟨S4,s4,⟨ds,L4,hdl,hok,hnm⟩,x5,x6,x7,x8,x9,x10,rfl⟩:=zzq;subst zzh;walk_at "RD";refine ⟨by decide,fun tp htp=>?_⟩;refine q tp wl n ds _ (((s0.trans s1).trans s4).trans (jb htp)) (S4.new htp) gb (L4.same (jb htp)) ⟨fun d hd=>⟨(hok d hd).1,trivial⟩,?_⟩ (fun d hd=>(hok d hd).2) hn (by omega);have e:ds.map (·.name)=xs:=by
   refine List.ext_getElem? fun j=>?_
   rw [getElem?_map];cases h:ds[j]? with
   | some d=>exact (hnm j d h).symm
   | none=>
    have:ds.length <= j:=List.getElem?_eq_none_iff.mp h;exact (List.getElem?_eq_none_iff.mpr (by rw [N.1];omega)).symm
  rw [e];exact N.2.1
end
end My
namespace My
open PySem L2
theorem SK (d:WD):((((oe d.k ++ Str.ofString " ") ++ d.name) ++ Str.ofString " ") ++ Txt.join (Str.ofString " ") [num d.start,num d.fin,num d.off,num d.near,num d.least])=Str.join bk (qk d):=by
 apply wv;have e5:(Str.ofString " ").cps.toList=[32]:=by decide +kernel
 rw [show Txt.join (Str.ofString " ") [num d.start,num d.fin,num d.off,num d.near,num d.least]=Str.join bk [num d.start,num d.fin,num d.off,num d.near,num d.least] from StrLaws.glued_eq_join _ _];rw [Str.cps_append,Array.toList_append,AB,Ni,Ni];unfold qk;simp only [Str.cps_append,Array.toList_append,map_cons,map_nil,jl,e5,append_assoc,cons_append,nil_append]
theorem mK (n:Int):Str.ofString "ring " ++ num n=Str.join bk [Str.ofString "ring",num n]:=by
 apply wv;have e1:(Str.ofString "ring ").cps.toList=[114,105,110,103,32]:=by decide +kernel
 have e2:(Str.ofString "ring").cps.toList=[114,105,110,103]:=by decide +kernel
 rw [AB,Ni];simp only [Str.cps_append,Array.toList_append,map_cons,map_nil,jl,e1,e2,cons_append,nil_append]
theorem qp {B:Nat}:∀ {ys:List Str},(∀ y ∈ ys,y.length <= B)->(ys.map (·.length)).sum <= ys.length * B
 | [],_=>by simp
 | a :: r,h=>by
  have h1:=h a (by simp);have h2:=qp (B:=B) (ys:=r) fun y hy=>h y (mem_cons_of_mem _ hy)
  rw [map_cons,List.sum_cons,length_cons,Nat.succ_mul];omega
theorem sK {n:Int} {ds:List WD} (h:COk n ds):∀ y ∈ (Di n ds).map (Str.join bk),y.length <= 63:=fun y hy=>by
 obtain ⟨r,hr,rfl⟩:=List.mem_map.mp hy;have:=Gh bk 8 r fun x hx=>(h.plain r hr x hx).1
 rw [Bk] at this;have hl:r.length <= 7:=by
  rcases List.mem_cons.mp hr with rfl | hr
  ·simp
  ·obtain ⟨d,hd,rfl⟩:=List.mem_map.mp hr;simp [qk]
 omega
noncomputable def Dz (K:W.Frag):Sp:=fun vs H Q _=>∃ n wl ds,vs=[.int n,.ref wl]/\LW H wl ds/\BH n ds/\(2 <= n/\n <= 99)/\(1 <= ds.length/\ds.length <= 12)/\NoT H/\Q (.str (vv n ds)) H
noncomputable def ME (K:W.Frag):Sp:=fun vs H Q _=>∃ n wl ds,vs=[.int n,.ref wl]/\LW H wl ds/\BH n ds/\(2 <= n/\n <= 99)/\(1 <= ds.length/\ds.length <= 12)/\∀ H',bc H H'->Q (.str (vv n ds)) H'
section
variable {P:Program} {w:World} {K:W.Frag} {mg:Str->Option Value} {base:Heap} {t:Adr}
theorem ZG (T:Txt w K mg t):Ub P w K mg base CX0 1 t.Ij t.tj q41 (Dz K):=by
 refine Ub.forget (sp:=ME K) ?_ fun vs H Q E h=>?_
 ·refine T.Gj.ok Nk (fun vs H Q E h=>?_) (fun _ _ _ s H vs Q E hr h=>?_)
  ·obtain ⟨n,wl,ds,rfl,_⟩:=h;rfl
  obtain ⟨n,wl,ds,rfl,L,D,hn,hl,q⟩:=h;refine ⟨_,(db (Fb (i:=2) Nk.nd rfl (Or.inl rfl) (sd (cb (Pb Ec Jb (sf Ff rfl T.vA oh (cb (pv 0) fb))) fb)))
   (db (Re PassesOwn.never rfl (Dc (pv 1)) (Cb (i:=3) Nk.nd rfl (Or.inl rfl)) (lb (nc (Se PySem.F.plainAttrs_list PySem.F.slot_list_append PySem.F.type_list_append we (pv 2) (cb (Pb Ec (Pb Ec (Pb Ec (Pb Ec (ic ie (pv 3) ib (fun _ _=>rfl)) Jb) (ic ie (pv 3) ib (fun _ _=>rfl))) Jb) (Se PySem.F.plainAttrs_str PySem.F.slot_str_join PySem.F.type_str_join vj Jb (cb (Qd rfl (ZL (fe NL (pv 3) (Ke ib) lf)) (dc (sc:=pb Bm) rfl (by decide +kernel)) (N:=["_law_number"]) (sel:=[none]) (Cc (M:=["_law_places","_law_ways_here","_law_rows","_law_way"]) (by decide +kernel)) (Blk.of (fun _ _ _ _=>(Cb (i:=0) (se (N:=["_law_number"]) (by decide +kernel) rfl) rfl (Or.inl rfl))) (fun _ _ _ _=>⟨_,Fd,by walk_at "B"⟩) (fun _ _ _ _=>⟨_,(sf Ff rfl T.vA oh (cb (pv 0) fb)),by walk_at "B"⟩))) fb))) fb)))))
   (lb (Qb (Se PySem.F.plainAttrs_str PySem.F.slot_str_join PySem.F.type_str_join vj Jb (cb (pv 2) fb)))))),?_⟩
  have hC:=D.cok hn hl;obtain ⟨qs,l1,l2,al⟩:=L;have hlen:∀ x:Str,ir x->x.length <= 8:=fun x h=>h.1
  have hbig:∀ k:Nat,k <= 1000->k <= sizeLine:=fun k h=>Nat.le_trans h (by decide)
  have hr5:(Str.ofString "ring ").length=5:=by decide +kernel
  have hb1:(Str.ofString " ").length=1:=by decide +kernel
  walk_at "RD";have hn8:(Str.ofString (toString n)).length <= 8:=(ae (v:=n) (by omega) (by omega)).1;refine ⟨Vm (by omega),hbig _ (by rw [hr5];omega),by decide,fun rl hrl'=>?_⟩;rw [mK];have s0:bc H (upd H rl (.lst [V.str (Str.join bk [Str.ofString "ring",num n])])):=jb hrl';refine ⟨⟨_,SqL.of (s0 _ _ l1)⟩,?_⟩;refine Uj.list (xs:=qs.map V.ref) (fun i σ H'=>bc H H'/\H' rl=some (.lst (qb ((Di n (ds.take i)).map (Str.join bk))))/\∃ x,σ=[some (.int n),some (.ref wl),some (.ref rl),x]) ?_ ?_ ?_ ?_
  ·exact ⟨s0,gb,none,rfl⟩
  ·rintro i σ H' hi ⟨sm,_,_⟩;exact SqL.of (sm _ _ l1)
  ·rintro i v σ H' hv zzq;refine zP fun zzM zzh=>?_
   obtain ⟨sm,hr,x,rfl⟩:=zzq;obtain ⟨q',hq,rfl⟩:=Mb hv;have hid:i < ds.length:=by rw [<- l2];exact (List.getElem?_eq_some_iff.mp hq).1
   have hd:ds[i]? = some ds[i]:=getElem?_eq_getElem hid;have hT:SqT K H' q' (Fx ds[i]):=SqT.of (sm _ _ (al i q' _ hq hd));have hw:=(D.al _ (mem_of_getElem? hd)).1;have b1:=hw.st;have b2:=hw.fi;have b3:=hw.of;have b4:=hw.nr;have b5:=hw.le;have z1:=hlen _ (Tt ds[i].k);have z2:=hlen _ (Si hw.nm);have z3:(num ds[i].start).length <= 8:=hlen _ (ae (v:=ds[i].start) (by omega) (by omega));have z4:(num ds[i].fin).length <= 8:=hlen _ (ae (v:=ds[i].fin) (by omega) (by omega));have z5:(num ds[i].off).length <= 8:=hlen _ (ae (v:=ds[i].off) (by omega) (by omega));have z7:(num ds[i].least).length <= 8:=hlen _ (ae (v:=ds[i].least) (by omega) (by omega));have z6:(num ds[i].near).length <= 8:=hlen _ (ae (v:=ds[i].near) (by omega) (by omega));subst zzh;walk_at "RD";refine ⟨.inl ⟨_,SqL.of hr⟩,?_⟩;have at0:atI (Fx ds[i]) 0=some (.str (oe ds[i].k)):=Eb (j:=0) rfl;have at1:atI (Fx ds[i]) 1=some (.str ds[i].name):=Eb (j:=1) rfl;refine ⟨_,hT,_,at0,_,rfl,hbig _ (by omega),_,hT,_,at1,_,rfl,hbig _ (by rw [Ug];omega),hbig _ (by simp only [Ug];omega),?_⟩;have hcut:Kt (Fx ds[i]) (some 2) none=[.int ds[i].start,.int ds[i].fin,.int ds[i].off,.int ds[i].near,.int ds[i].least]:=rfl;refine ⟨_,hT,?_,fun p hp=>⟨⟨_,SqT.of gb⟩,?_⟩⟩
   ·show ¬ (HT.sIx 7 0 (some 2)=0/\HT.sIx 7 7 none=7);decide
   rw [hcut];have hjn:(Txt.join (Str.ofString " ") [num ds[i].start,num ds[i].fin,num ds[i].off,num ds[i].near,num ds[i].least]).length <= 50:=by
    rw [show Txt.join (Str.ofString " ") [num ds[i].start,num ds[i].fin,num ds[i].off,num ds[i].near,num ds[i].least]=Str.join bk [num ds[i].start,num ds[i].fin,num ds[i].off,num ds[i].near,num ds[i].least] from StrLaws.glued_eq_join _ _];have:=Gh bk 8 [num ds[i].start,num ds[i].fin,num ds[i].off,num ds[i].near,num ds[i].least] (fun y hy=>by
     simp only [mem_cons,not_mem_nil,or_false] at hy;rcases hy with rfl | rfl | rfl | rfl | rfl <;> assumption)
    rw [Bk] at this;simp only [length_cons,length_nil] at this;omega
   refine jd.tup_zs (xs:=[.int ds[i].start,.int ds[i].fin,.int ds[i].off,.int ds[i].near,.int ds[i].least]) (zs:=qb [num ds[i].start,num ds[i].fin,num ds[i].off,num ds[i].near,num ds[i].least]) (SqT.of gb) (hbig _ (show 5 <= 1000 by decide)) rfl (fun j v z N hv hz hN=>?_) (fun p2 hp2=>?_)
   ·have key:∃ a:Int,v=.int a/\z=.str (num a)/\0 <= a/\a < 100:=by
     match j,hv,hz with
     | 0,hv,hz=>cases hv;cases hz;exact ⟨_,rfl,rfl,b1.1,by omega⟩
     | 1,hv,hz=>cases hv;cases hz;exact ⟨_,rfl,rfl,b2.1,by omega⟩
     | 2,hv,hz=>cases hv;cases hz;exact ⟨_,rfl,rfl,b3.1,by omega⟩
     | 3,hv,hz=>cases hv;cases hz;exact ⟨_,rfl,rfl,b4.1,by omega⟩
     | 4,hv,hz=>cases hv;cases hz;exact ⟨_,rfl,rfl,by omega,by omega⟩
     | k + 5,hv,hz=>simp at hv
    obtain ⟨a,rfl,rfl,ha0,ha1⟩:=key;walk_at "RD";exact ⟨Sub.name,Vm (by omega),hN⟩
   ·walk_at "RD";have hrp2:rl ≠ p2:=by
     rintro rfl;rw [zb (Kb hr hp)] at hp2;rw [hp2] at hr;cases hr
    have hrl:(upd (upd H' p (.tup [.int ds[i].start,.int ds[i].fin,.int ds[i].off,.int ds[i].near,.int ds[i].least])) p2 (.lst (qb [num ds[i].start,num ds[i].fin,num ds[i].off,num ds[i].near,num ds[i].least]))) rl=some (.lst (qb ((Di n (ds.take i)).map (Str.join bk)))):=by
     rw [zb hrp2,zb (Kb hr hp)];exact hr
    have sm2:bc H' (upd (upd H' p (.tup [.int ds[i].start,.int ds[i].fin,.int ds[i].off,.int ds[i].near,.int ds[i].least])) p2 (.lst (qb [num ds[i].start,num ds[i].fin,num ds[i].off,num ds[i].near,num ds[i].least]))):=(jb hp).trans (jb hp2);have hsq:=SqL.of (K:=K) (H:=upd (upd H' p (.tup [.int ds[i].start,.int ds[i].fin,.int ds[i].off,.int ds[i].near,.int ds[i].least])) p2 (.lst (qb [num ds[i].start,num ds[i].fin,num ds[i].off,num ds[i].near,num ds[i].least]))) (a:=p2) gb;generalize upd (upd H' p (.tup [.int ds[i].start,.int ds[i].fin,.int ds[i].off,.int ds[i].near,.int ds[i].least])) p2 (.lst (qb [num ds[i].start,num ds[i].fin,num ds[i].off,num ds[i].near,num ds[i].least]))=H2 at hrl sm2 hsq ⊢;refine ⟨_,hsq,?_,hbig _ (by simp only [Ug];omega),_,hrl,?_,?_,?_,_,rfl⟩
    ·simp only [map_cons,map_nil,List.sum_cons,List.sum_nil,length_cons,length_nil];omega
    ·rw [yb,length_map];exact Nat.lt_of_le_of_lt (show (Di n (ds.take i)).length <= 13 by unfold Di;rw [length_cons,length_map,length_take];omega) (by decide)
    ·exact fun b u e=>by rw [zb (Kb e hrl')];exact sm2 _ _ (sm _ _ e)
    ·rw [gb,SK ds[i]];congr 2;unfold Di qb;simp;rw [take_add_one,getElem?_map,hd];rfl
  ·rintro σ H' zzq;refine zP fun zzM zzh=>?_
   obtain ⟨sm,hr,x,rfl⟩:=zzq;subst zzh;walk_at "RD";rw [length_map,l2,take_length] at hr;refine ⟨_,SqL.of hr,?_,?_⟩
   ·have h63:∀ y ∈ (Di n ds).map (Str.join bk),y.length <= 63:=sK hC;have h13:((Di n ds).map (Str.join bk)).length <= 13:=by
     unfold Di;rw [length_map,length_cons,length_map];omega
    have:=qp h63;rw [show (Str.ofString "\n").length=1 by decide +kernel];omega
   ·have:=q H' sm;unfold vv at this;rw [show Txt.join (Str.ofString "\n") ((Di n ds).map (Str.join bk))=Str.join nl ((Di n ds).map (Str.join bk)) from StrLaws.glued_eq_join _ _];exact this
 ·obtain ⟨n,wl,ds,h1,h2,h3,h4,h5,nt,q⟩:=h;exact ⟨nt,n,wl,ds,h1,h2,h3,h4,h5,fun H' sm=>⟨sm,q⟩⟩
end
end My
namespace My
open PySem L2
noncomputable def lE (K:W.Frag):Sp:=fun vs H Q _=>∃ n a b d e,vs=[.ref a,.ref b,.int n]/\SqT K H a (Fx d)/\SqT K H b (Fx e)/\WOk n d/\WOk n e/\Q (.bl (mt n d e)) H
noncomputable def Ue (d e:WD):Bool:=decide (d.k=2) == decide (e.k=2)
noncomputable def iw (K:W.Frag):Sp:=fun vs H Q _=>∃ wl ds,∃ i j:Nat,∃ d e,vs=[.ref wl,.int i,.int j]/\LW H wl ds/\ds[i]? = some d/\ds[j]? = some e/\d.k < 3/\e.k < 3/\Q (.bl (Ue d e)) H
theorem bA {k:Nat} (h:k < 3):decide (oe k=Str.ofString "tram")=decide (k=2):=by
 match k,h with
 | 0,_=>decide +kernel
 | 1,_=>decide +kernel
 | 2,_=>decide +kernel
section
variable {P:Program} {w:World} {K:W.Frag} {mg:Str->Option Value} {base:Heap} {t:Adr}
theorem YI (T:Txt w K mg t):Ub P w K mg base CX0 1 t.yj t.zj q42 (lE K):=by
 refine T.um.ok Nh (fun vs H Q E h=>?_) (fun _ _ _ s H vs Q E hr h=>?_)
 ·obtain ⟨n,a,b,d,e,rfl,_⟩:=h;rfl
 obtain ⟨n,a,b,d,e,rfl,Ta,Tb,hd,he,q⟩:=h;refine ⟨_,(db (Gd (Ob ve (ic ie (pv 0) ib (fun _ _=>rfl)) (ic ie (pv 1) ib (fun _ _=>rfl)) (Sb _)) (lb (Qb cy)) fc)
   (db (Gd (PW.pt (wy (Ob ve (ic ie (pv 0) ib (fun _ _=>rfl)) (ic ie (pv 1) ib (fun _ _=>rfl)) (Sb _)) (wy (Ob ve (ic ie (pv 0) ib (fun _ _=>rfl)) (ic ie (pv 1) ib (fun _ _=>rfl)) (Sb _)) (nu (Ob ve (ic ie (pv 0) ib (fun _ _=>rfl)) (ic ie (pv 1) ib (fun _ _=>rfl)) (Sb _)))))) (lb (Qb cy)) fc)
   (db (Fb (i:=3) Nh.nd rfl (Or.inl rfl) (Pb Og (Pb ck (ic ie (pv 0) ib (fun _ _=>rfl)) (ic ie (pv 0) ib (fun _ _=>rfl))) (pv 2)))
   (db (Fb (i:=4) Nh.nd rfl (Or.inl rfl) (Pb Og (Pb ck (ic ie (pv 1) ib (fun _ _=>rfl)) (ic ie (pv 0) ib (fun _ _=>rfl))) (pv 2)))
   (db (Fb (i:=5) Nh.nd rfl (Or.inl rfl) (Pb Og (Pb ck (ic ie (pv 1) ib (fun _ _=>rfl)) (ic ie (pv 0) ib (fun _ _=>rfl))) (pv 2)))
   (lb (Qb (Dd Ly (Dd Iu (pv 4) (pv 3) (Sb _)) (Dd Iu (pv 5) (pv 3) (Sb _)) (Sb _))))))))),?_⟩
 have a2:atI (Fx d) 2=some (.int d.start):=Eb (j:=2) rfl;have a3:atI (Fx d) 3=some (.int d.fin):=Eb (j:=3) rfl;have b2:atI (Fx e) 2=some (.int e.start):=Eb (j:=2) rfl;have b3:atI (Fx e) 3=some (.int e.fin):=Eb (j:=3) rfl;have f1:=hd.st;have f2:=hd.fi;have f3:=he.st;have f4:=he.fi;refine ac (decide (d.fin=e.fin)) (fun Q hQ=>?_) (fun c=>?_) (fun c=>?_)
 ·walk_at "RD";refine ⟨_,Ta,_,a3,_,Tb,_,b3,rfl,?_⟩;walk_at "RD";exact hQ
 ·walk_at "RD";unfold mt Wx at q;rw [c,Bool.true_or] at q;exact q
 ·have c':=of_decide_eq_false c;walk_at "RD";refine ac (decide (d.start=e.start) || (decide (d.start=e.fin) || decide (d.fin=e.start))) (fun Q hQ=>?_) (fun hb=>?_) (fun hb=>?_)
  ·walk_at "RD";refine ⟨_,Ta,_,a2,_,Tb,_,b2,rfl,?_⟩;by_cases c1:d.start=e.start
   ·rw [if_pos (by simp [c1])];rw [decide_eq_true c1,Bool.true_or] at hQ;exact hQ
   ·rw [if_neg (by simpa using c1)];refine ⟨_,Ta,_,a2,_,Tb,_,b3,rfl,?_⟩;by_cases c2:d.start=e.fin
    ·rw [if_pos (by simp [c2])];rw [decide_eq_false c1,decide_eq_true c2,Bool.false_or,Bool.true_or] at hQ;exact hQ
    ·rw [if_neg (by simpa using c2)];refine ⟨_,Ta,_,a3,_,Tb,_,b2,rfl,?_⟩;rw [decide_eq_false c1,decide_eq_false c2,Bool.false_or,Bool.false_or] at hQ;rw [show decide (V.int d.fin=V.int e.start)=decide (d.fin=e.start) from decide_eq_decide.mpr (by simp)];exact hQ
  ·walk_at "RD";unfold mt Wx at q;rw [c,Bool.false_or,if_pos (by
    rw [Bool.or_eq_true,Bool.or_eq_true,decide_eq_true_eq,decide_eq_true_eq,decide_eq_true_eq] at hb
    omega)] at q
   exact q
  ·rw [Bool.or_eq_false_iff,Bool.or_eq_false_iff,decide_eq_false_iff_not,decide_eq_false_iff_not,decide_eq_false_iff_not] at hb;have hn0:0 < n:=by omega
   have p1:0 < (e.start - d.start) % n:=by rw [Sz f1.1 f1.2 f3.1 f3.2];split <;> omega
   have p2:0 < (e.fin - d.start) % n:=by rw [Sz f1.1 f1.2 f4.1 f4.2];split <;> omega
   unfold mt Wx Dm at q;rw [c,Bool.false_or,if_neg (by omega),decide_eq_true p1,decide_eq_true p2,Bool.true_and,Bool.true_and] at q;walk_at "RD";refine ⟨_,Ta,_,a3,_,Ta,_,a2,_,rfl,_,rfl,hn0,_,Tb,_,b2,_,Ta,_,a2,_,rfl,_,rfl,hn0,_,Tb,_,b3,_,Ta,_,a2,_,rfl,_,rfl,hn0,?_⟩;generalize decide ((e.start - d.start) % n < (d.fin - d.start) % n)=X at q ⊢;generalize decide ((e.fin - d.start) % n < (d.fin - d.start) % n)=Y at q ⊢;cases X <;> cases Y <;> exact q
theorem UB (T:Txt w K mg t):Ub P w K mg base CX0 1 t.Uh t.di q43 (iw K):=by
 refine T.Ak.ok Gn (fun vs H Q E h=>?_) (fun _ _ _ s H vs Q E hr h=>?_)
 ·obtain ⟨wl,ds,i,j,d,e,rfl,_⟩:=h;rfl
 obtain ⟨wl,ds,i,j,d,e,rfl,⟨qs,l1,l2,al⟩,hi,hj,hk,hk',q⟩:=h;have hqi:qs[i]? = some (qs[i]'(by rw [l2];exact (List.getElem?_eq_some_iff.mp hi).1)):=getElem?_eq_getElem _;have hqj:qs[j]? = some (qs[j]'(by rw [l2];exact (List.getElem?_eq_some_iff.mp hj).1)):=getElem?_eq_getElem _;have ei:=al i _ d hqi hi;have ej:=al j _ e hqj hj;have ai:=Eb (xs:=qs.map V.ref) (j:=i) (by rw [getElem?_map,hqi];rfl);have aj:=Eb (xs:=qs.map V.ref) (j:=j) (by rw [getElem?_map,hqj];rfl);refine ⟨_,(db (Fb (i:=3) Gn.nd rfl (Or.inl rfl) (Dd ve (ic ie (ic Yb (pv 0) (pv 1) (fun _ _=>rfl)) ib (fun _ _=>rfl)) Jb (Sb _)))
   (lb (Qb (Dd ve (pv 3) (Dd ve (ic ie (ic Yb (pv 0) (pv 2) (fun _ _=>rfl)) ib (fun _ _=>rfl)) Jb (Sb _)) (Sb _))))),?_⟩
 walk_at "RD";refine ⟨_,SqL.of l1,_,ai,_,rfl,_,SqT.of ei,_,Eb (j:=0) rfl,rfl,_,SqL.of l1,_,aj,_,rfl,_,SqT.of ej,_,Eb (j:=0) rfl,rfl,?_⟩;have h1:∀ k,k < 3->decide (V.str (oe k)=V.str (Str.ofString "tram"))=decide (k=2):=by decide +kernel
 rw [h1 d.k hk,h1 e.k hk'];unfold Ue at q;rw [show decide (decide (d.k=2)=decide (e.k=2))=(decide (d.k=2) == decide (e.k=2)) from rfl];exact q
end
end My
namespace My
open PySem L2
structure LIq (H0 H:Hp) (gl:Addr) (qs:List Addr) (gs:List (List Nat)):Prop where
 h1:H gl=some (.lst (qs.map V.ref))
 h2:qs.length=gs.length
 h3:qs.Nodup
 h4:gl ∉ qs
 h5:∀ (i:Nat) (q:Addr) (g:List Nat),qs[i]? = some q->gs[i]? = some g->H q=some (.lst (g.map fun k:Nat=>V.int k))
 h6:∀ q ∈ qs,H0 q=none
theorem LIq.same {H0 H H':Hp} {gl:Addr} {qs:List Addr} {gs:List (List Nat)} (h:LIq H0 H gl qs gs) (s:bc H H'):LIq H0 H' gl qs gs:=
 ⟨s _ _ h.h1,h.h2,h.h3,h.h4,fun i q g a b=>s _ _ (h.h5 i q g a b),h.h6⟩
structure Nv (n:Int) (ds:List WD) (m:Nat) (gs:List (List Nat)):Prop where
 ne:∀ g ∈ gs,g ≠ []
 pm:gs.flatten.Perm (List.range m)
 cm:∀ g ∈ gs,∀ i ∈ g,∀ j ∈ g,i ≠ j->∀ d e,ds[i]? = some d->ds[j]? = some e->mt n d e=false
 al:∀ g ∈ gs,∀ i ∈ g,∀ j ∈ g,∀ d e,ds[i]? = some d->ds[j]? = some e->Ue d e=true
theorem Nv.nil (n:Int) (ds:List WD):Nv n ds 0 []:=⟨by simp,by simp,by simp,by simp⟩
theorem Mj {y z:WD}:Ue y z=true↔(y.k=2↔z.k=2):=by
 unfold Ue;simp
theorem OA {y z:WD} (h:Ue y z=true):Ue z y=true:=Mj.mpr (Mj.mp h).symm
theorem Ay {x y z:WD} (h:Ue x y=true) (h':Ue y z=true):Ue x z=true:=Mj.mpr ((Mj.mp h).trans (Mj.mp h'))
theorem LIq.off {H0 H:Hp} {gl x:Addr} {qs:List Addr} {gs:List (List Nat)} {o:HO} (h:LIq H0 H gl qs gs) (hx:x ≠ gl) (hq:x ∉ qs):LIq H0 (upd H x o) gl qs gs:=
 ⟨by rw [zb (Ne.symm hx)];exact h.h1,h.h2,h.h3,h.h4,fun i q g a b=>by rw [zb (fun z=>hq (by rw [<- z];exact mem_of_getElem? a))];exact h.h5 i q g a b,h.h6⟩
theorem Yy {α:Type} (l:List α) (i:Nat) (a:α):(ins l i a).Perm (l ++ [a]):=by
 unfold ins;refine List.perm_middle.trans ?_;rw [List.take_append_drop];exact (List.perm_append_comm (l₁:=[a]) (l₂:=l))
theorem wE {α:Type}:∀ {l l':List (List α)},l.Perm l'->l.flatten.Perm l'.flatten:=fun h=>h.flatten
theorem Mz:∀ {gs:List (List Nat)} {j:Nat} {g g':List Nat} {k:Nat},gs[j]? = some g->g'.Perm (g ++ [k])->(gs.set j g').flatten.Perm (gs.flatten ++ [k])
 | [],j,g,g',k,h,_=>by simp at h
 | g0 :: gs,0,g,g',k,h,p=>by
  cases (show g0=g by simpa using h);show (g' :: gs).flatten.Perm _;rw [flatten_cons,flatten_cons,append_assoc];refine (p.append_right _).trans ?_;rw [append_assoc];exact List.Perm.append_left g0 List.perm_append_comm
 | g0 :: gs,j + 1,g,g',k,h,p=>by
  rw [List.getElem?_cons_succ] at h;show (g0 :: gs.set j g').flatten.Perm _;rw [flatten_cons,flatten_cons,append_assoc];exact List.Perm.append_left g0 (Mz h p)
theorem Nv.put {n:Int} {ds:List WD} {m:Nat} {gs:List (List Nat)} (S:Nv n ds m gs) {j p:Nat} {g:List Nat} {d:WD} (hg:gs[j]? = some g) (hd:ds[m]? = some d)
  (sy:∀ i ∈ g,∀ e,ds[i]? = some e->mt n e d=false/\mt n d e=false/\Ue e d=true):Nv n ds (m + 1) (gs.set j (ins g p m)):=by
 have hgm:=mem_of_getElem? hg;refine ⟨fun x hx=>?_,?_,fun x hx i hi i' hi' hne e e' he he'=>?_,fun x hx i hi i' hi' e e' he he'=>?_⟩
 ·rcases mem_or_eq_of_mem_set hx with z | z
  ·exact S.ne x z
  ·rw [z];unfold ins;simp
 ·rw [range_succ];exact (Mz hg (Yy g p m)).trans (S.pm.append_right [m])
 ·rcases mem_or_eq_of_mem_set hx with z | z
  ·exact S.cm x z i hi i' hi' hne e e' he he'
  ·rw [z] at hi hi';rcases yh hi with u | u
   ·subst u;rw [hd] at he;cases he;rcases yh hi' with v | v
    ·exact absurd v.symm hne
    ·exact (sy i' v e' he').2.1
   ·rcases yh hi' with v | v
    ·subst v;rw [hd] at he';cases he';exact (sy i u e he).1
    ·exact S.cm g hgm i u i' v hne e e' he he'
 ·rcases mem_or_eq_of_mem_set hx with z | z
  ·exact S.al x z i hi i' hi' e e' he he'
  ·rw [z] at hi hi';have self:∀ y:WD,Ue y y=true:=fun y=>by unfold Ue;simp
   have sym:∀ y z:WD,Ue y z=true->Ue z y=true:=fun y z h=>OA h
   rcases yh hi with u | u
   ·subst u;rw [hd] at he;cases he;rcases yh hi' with v | v
    ·subst v;rw [hd] at he';cases he';exact self _
    ·exact sym _ _ (sy i' v e' he').2.2
   ·rcases yh hi' with v | v
    ·subst v;rw [hd] at he';cases he';exact (sy i u e he).2.2
    ·exact S.al g hgm i u i' v e e' he he'
theorem Nv.new {n:Int} {ds:List WD} {m:Nat} {gs:List (List Nat)} (S:Nv n ds m gs) (p:Nat):Nv n ds (m + 1) (ins gs p [m]):=by
 have self:∀ y:WD,Ue y y=true:=fun y=>by unfold Ue;simp
 refine ⟨fun x hx=>?_,?_,fun x hx i hi i' hi' hne e e' he he'=>?_,fun x hx i hi i' hi' e e' he he'=>?_⟩
 ·rcases yh hx with z | z
  ·rw [z];simp
  ·exact S.ne x z
 ·rw [range_succ];refine (wE (Yy gs p [m])).trans ?_;rw [List.flatten_append];simpa using S.pm.append_right [m]
 ·rcases yh hx with z | z
  ·rw [z] at hi hi';exact absurd ((List.mem_singleton.mp hi).trans (List.mem_singleton.mp hi').symm) hne
  ·exact S.cm x z i hi i' hi' hne e e' he he'
 ·rcases yh hx with z | z
  ·rw [z] at hi hi';rw [List.mem_singleton.mp hi] at he;rw [List.mem_singleton.mp hi',he] at he';cases he';exact self _
  ·exact S.al x z i hi i' hi' e e' he he'
theorem LIq.put {H0 H:Hp} {gl q:Addr} {gs:List (List Nat)} {j:Nat} {g':List Nat} {qs:List Addr} (h:LIq H0 H gl qs gs) (hq:qs[j]? = some q) (hj:j < gs.length) :
  LIq H0 (upd H q (.lst (g'.map fun k:Nat=>V.int k))) gl qs (gs.set j g'):=by
 obtain ⟨h1,h2,h3,h4,h5,h6⟩:=h;have hqg:gl ≠ q:=fun z=>h4 (by rw [z];exact mem_of_getElem? hq)
 refine ⟨by rw [zb hqg];exact h1,by rw [length_set];exact h2,h3,h4,fun i r g a b=>?_,h6⟩;by_cases c:i=j
 ·subst c;rw [hq] at a;cases a;rw [getElem?_set_self hj] at b;cases b;exact gb
 ·rw [getElem?_set_ne (fun e=>c e.symm)] at b;have hne:r ≠ q:=fun e=>by
   subst e;obtain ⟨a1,b1⟩:=List.getElem?_eq_some_iff.mp a;obtain ⟨a2,b2⟩:=List.getElem?_eq_some_iff.mp hq;exact c ((List.getElem_inj h3).mp (b1.trans b2.symm))
  rw [zb hne];exact h5 i r g a b
theorem LIq.new {H0 H:Hp} {gl p:Addr} {gs:List (List Nat)} {qs:List Addr} {k:Nat} {g:List Nat} (h:LIq H0 H gl qs gs) (h0:bc H0 H) (hp:H p=none) (hk:k <= gs.length) :
  LIq H0 (upd (upd H p (.lst (g.map fun k:Nat=>V.int k))) gl (.lst ((ins qs k p).map V.ref))) gl (ins qs k p) (ins gs k g):=by
 have hgp:gl ≠ p:=Kb h.h1 hp;have hnp:p ∉ qs:=fun z=>by
  obtain ⟨i,hi⟩:=getElem?_of_mem z;have il:i < gs.length:=by rw [<- h.h2];exact (List.getElem?_eq_some_iff.mp hi).1
  have e:=h.h5 i p _ hi (getElem?_eq_getElem il);rw [hp] at e;cases e
 have hkq:k <= qs.length:=by rw [h.h2];exact hk
 refine ⟨gb,by rw [cE hkq,cE hk,h.h2],dD h.h3 hnp,fun z=>?_,fun i q g' a b=>?_,fun q hq=>?_⟩
 ·rcases yh z with z | z
  ·exact hgp z
  ·exact h.h4 z
 ·rw [Im hkq] at a;rw [Im hk] at b;have keep:∀ {i:Nat} {q:Addr} {g':List Nat},qs[i]? = some q->gs[i]? = some g'->upd (upd H p (.lst (g.map fun k:Nat=>V.int k))) gl (.lst ((ins qs k p).map V.ref)) q=some (.lst (g'.map fun k:Nat=>V.int k)):=fun {i q g'} a b=>by
   have e:=h.h5 i q g' a b;have hqg:q ≠ gl:=fun z=>h.h4 (by rw [<- z];exact mem_of_getElem? a)
   rw [zb hqg,zb (Kb e hp)];exact e
  by_cases c1:i < k
  ·rw [if_pos c1] at a b;exact keep a b
  ·rw [if_neg c1] at a b;by_cases c2:i=k
   ·rw [if_pos c2] at a b;cases a;cases b;rw [zb (Ne.symm hgp),gb]
   ·rw [if_neg c2] at a b;exact keep a b
 ·rcases yh hq with z | z
  ·rw [z];exact h0.free hp
  ·exact h.h6 q z
structure SX where
 lo:Int
 hi:Int
 ix:List Nat
structure UL (H:Hp) (sl:Addr) (qs ms:List Addr) (sts:List SX):Prop where
 at_:H sl=some (.lst (qs.map V.ref))
 l1:qs.length=sts.length
 l2:ms.length=sts.length
 al:∀ (i:Nat) (q m:Addr) (s:SX),qs[i]? = some q->ms[i]? = some m->sts[i]? = some s->H q=some (.tup [.int s.lo,.int s.hi,.ref m])/\H m=some (.lst (s.ix.map fun k:Nat=>V.int k))
structure HN (n:Int) (ds:List WD) (sts:List SX):Prop where
 sg:Nv n ds ds.length (sts.map (·.ix))
 le:∀ s ∈ sts,∀ i ∈ s.ix,∀ d,ds[i]? = some d->d.least <= s.lo
 bd:∀ s ∈ sts,1 <= s.lo/\s.lo <= 21/\s.lo <= s.hi/\s.hi <= 40
theorem Nv.len {n:Int} {ds:List WD} {m:Nat} {gs:List (List Nat)} (S:Nv n ds m gs):gs.length <= m/\gs.flatten.length=m:=by
 have h1:=S.pm.length_eq;rw [length_range] at h1;have:∀ {gs:List (List Nat)},(∀ g ∈ gs,g ≠ [])->gs.length <= gs.flatten.length:=fun {gs}=>by
  induction gs with
  | nil=>intro _;simp
  | cons g gs ih=>
   intro h;have a1:=ih fun x hx=>h x (mem_cons_of_mem _ hx)
   have a2:=List.length_pos_iff.mpr (h g (by simp));rw [flatten_cons,length_append,length_cons];omega
 have:=this S.ne;omega
theorem Nv.lt {n:Int} {ds:List WD} {m:Nat} {gs:List (List Nat)} (S:Nv n ds m gs) {g:List Nat} (hg:g ∈ gs) {i:Nat} (hi:i ∈ g):i < m:=List.mem_range.mp (S.pm.mem_iff.mp (List.mem_flatten.mpr ⟨g,hg,hi⟩))
theorem Nv.glen {n:Int} {ds:List WD} {m:Nat} {gs:List (List Nat)} (S:Nv n ds m gs) {g:List Nat} (hg:g ∈ gs):g.length <= m:=by
 have h1:=(List.sublist_flatten_of_mem hg).length_le;have:=S.len.2;omega
theorem rN {i:Int} (h0:0 <= i) (h1:i < 6):∃ mo:Int,(1 <= mo/\mo <= 20)/\atI [V.int 4,V.int 4,V.int 4,V.int 4,V.int 4,V.int 20] i=some (.int mo):=by
 have:i=0\/i=1\/i=2\/i=3\/i=4\/i=5:=by omega
 rcases this with rfl | rfl | rfl | rfl | rfl | rfl
 ·exact ⟨4,by decide,Eb (j:=0) rfl⟩
 ·exact ⟨4,by decide,Eb (j:=1) rfl⟩
 ·exact ⟨4,by decide,Eb (j:=2) rfl⟩
 ·exact ⟨4,by decide,Eb (j:=3) rfl⟩
 ·exact ⟨4,by decide,Eb (j:=4) rfl⟩
 ·exact ⟨20,by decide,Eb (j:=5) rfl⟩
noncomputable def yu (K:W.Frag):Sp:=fun vs H Q _=>∃ (a:Addr) (ns:List Int) (n:Int) (wl:Addr) (ds:List WD),vs=[.ref a,.int n,.ref wl]/\ns.length <= 63/\SqL K H a (ns.map V.int)/\NoT H/\LW H wl ds/\BH n ds/\(∀ d ∈ ds,d.least <= 4)/\(1 <= ds.length/\ds.length <= 8) /\
 ∀ sl qs ms sts H',bc H H'->NoT H'->UL H' sl qs ms sts->HN n ds sts->Q (.ref sl) H'
section
variable {P:Program} {w:World} {K:W.Frag} {mg:Str->Option Value} {base:Heap} {t:Adr}
theorem yA (T:Txt w K mg t):Ub P w K mg base CX0 2 t.dh t.eh q44 (yu K):=by
 have g8:Ub P w K mg base CX0 1 t.Md t.Pd q12 (El K):=Dn T;have g58:Ub P w K mg base CX0 1 t.yj t.zj q42 (lE K):=YI T;have g59:Ub P w K mg base CX0 1 t.Uh t.di q43 (iw K):=UB T;refine T.Bj.ok kc (fun vs H Q E h=>?_) (fun _ _ _ s H vs Q E hr h=>?_)
 ·obtain ⟨a,ns,n,wl,ds,rfl,_⟩:=h;rfl
 obtain ⟨a,ns,n,wl,ds,rfl,h63,S,nt,L,D,hle,hdl,q⟩:=h;obtain ⟨ql,l1,l2,lal⟩:=id L;have hqn:(ql.map V.ref).length=ds.length:=by rw [length_map,l2]
 have wAt:∀ (i:Nat) (d:WD),ds[i]? = some d->∃ wq,atI (ql.map V.ref) (i:Int)=some (.ref wq)/\H wq=some (.tup (Fx d)):=fun i d hd=>by
  have hqi:ql[i]? = some (ql[i]'(by rw [l2];exact (List.getElem?_eq_some_iff.mp hd).1)):=getElem?_eq_getElem _;exact ⟨_,Eb (by rw [getElem?_map,hqi];rfl),lal i _ d hqi hd⟩
 refine ⟨_,(db (Fb (i:=3) kc.nd rfl (Or.inl rfl) (sd fb))
   (db (Re PassesOwn.never rfl (Of rfl T.Hi (cb (Vb Ib rfl T.Bf Rb (cb (pv 2) fb)) fb)) (Cb (i:=4) kc.nd rfl (Or.inl rfl)) (db (Fb (i:=5) kc.nd rfl (Or.inl rfl) (sd fb))
   (db (Re PassesOwn.never rfl (Of rfl T.Hi (cb (Vb Ib rfl T.Bf Rb (cb (pv 3) fb)) fb)) (Cb (i:=6) kc.nd rfl (Or.inl rfl)) (db (Fb (i:=7) kc.nd rfl (Or.inl rfl) (vb g59 hr rfl T.ww T.Ak.kp T.Aw .nil Db (cb (pv 2) (cb (ic Yb (ic Yb (pv 3) (pv 6) (fun _ _=>rfl)) ib (fun _ _=>rfl)) (cb (pv 4) fb)))))
   (db (Re PassesOwn.never rfl (Dc (ic Yb (pv 3) (pv 6) (fun _ _=>rfl))) (Cb (i:=8) kc.nd rfl (Or.inl rfl)) (lb (Fb (i:=7) kc.nd rfl (Or.inl rfl) (aE (pv 7) (Ew (sL (vb g58 hr rfl T.Yx T.um.kp T.Lx .nil Db (cb (ic Yb (pv 2) (pv 8) (fun _ _=>rfl)) (cb (ic Yb (pv 2) (pv 4) (fun _ _=>rfl)) (cb (pv 1) fb))))))))))
   (lb (Gd (zi (pv 7)) (lb (nc (Se PySem.F.plainAttrs_list PySem.F.slot_list_append PySem.F.type_list_append we (pv 5) (cb (pv 6) fb)))) fc)))))
   (lb (Gd (PW.pt (Ol (Ob mq (Vb Ib rfl T.Bf Rb (cb (pv 5) fb)) ib (Sb _)) (Cj (Ob mq (vb g8 hr rfl T.wb T.ub.kp T.xb .nil Db (cb (pv 0) (cb (Pb Pc ib (pv 4)) (cb ib fb)))) ib (Sb _))))) (db (Fb (i:=6) kc.nd rfl (Or.inl rfl) (ic Yb (pv 5) (vb g8 hr rfl T.wb T.ub.kp T.xb .nil Db (cb (pv 0) (cb (Pb Pc ib (pv 4)) (cb (Vb Ib rfl T.Bf Rb (cb (pv 5) fb)) fb)))) (fun _ _=>rfl)))
   (lb (nc (Se PySem.F.plainAttrs_list PySem.F.slot_list_insert PySem.F.type_list_insert Tk (ic Yb (pv 3) (pv 6) (fun _ _=>rfl)) (cb (vb g8 hr rfl T.wb T.ub.kp T.xb .nil Db (cb (pv 0) (cb (Pb Pc ib (pv 4)) (cb (Pb Pc (Vb Ib rfl T.Bf Rb (cb (ic Yb (pv 3) (pv 6) (fun _ _=>rfl)) fb)) ib) fb)))) (cb (pv 4) fb)))))) (lb (nc (Se PySem.F.plainAttrs_list PySem.F.slot_list_insert PySem.F.type_list_insert Tk (pv 3) (cb (vb g8 hr rfl T.wb T.ub.kp T.xb .nil Db (cb (pv 0) (cb (Pb Pc ib (pv 4)) (cb (Pb Pc (Vb Ib rfl T.Bf Rb (cb (pv 3) fb)) ib) fb)))) (cb (sd (cb (pv 4) fb)) fb))))))))))
   (db (Fb (i:=9) kc.nd rfl (Or.inl rfl) (sd fb))
   (db (Re PassesOwn.never rfl (Of rfl T.Hi (cb (Vb Ib rfl T.Bf Rb (cb (pv 3) fb)) fb)) (Cb (i:=6) kc.nd rfl (Or.inl rfl)) (db (Fb (i:=10) kc.nd rfl (Or.inl rfl) (Pb Pc (Vb (Bx rfl) rfl T.NI wo (cb (Qd rfl (Dc (ic Yb (pv 3) (pv 6) (fun _ _=>rfl))) (dc (sc:=pb Aj) rfl (by decide +kernel)) (N:=q53) (sel:=[none,some 2]) (Cc (M:=["_law_script","_law_places","_law_ways_here","_law_some","_law_k","_law_fits","_law_j","_law_good","_law_i","_law_stages_here","_law_low","_law_more"]) (by decide +kernel)) (Blk.of (fun _ _ _ _=>(Cb (i:=0) (se (N:=q53) (by decide +kernel) rfl) rfl (Or.inl rfl))) (fun _ _ _ _=>⟨_,Fd,by walk_at "B"⟩) (fun _ _ _ _=>⟨_,(ic ie (ic Yb (pv 1) (pv 0) (fun _ _=>rfl)) ib (fun _ _=>rfl)),by walk_at "B"⟩))) fb)) (vb g8 hr rfl T.wb T.ub.kp T.xb .nil Db (cb (pv 0) (cb (Pb Pc ib (pv 6)) (cb ib fb))))))
   (db (Gd (Ob ve (vb g8 hr rfl T.wb T.ub.kp T.xb .nil Db (cb (pv 0) (cb (Pb Pc ib (pv 6)) (cb ib fb)))) ib (Sb _)) (lb (Fb (i:=10) kc.nd rfl (Or.inl rfl) (Pb Pc (pv 10) ib))) fc)
   (db (Fb (i:=11) kc.nd rfl (Or.inl rfl) (ic Yb (sd (cb ib (cb ib (cb ib (cb ib (cb ib (cb ib fb))))))) (vb g8 hr rfl T.wb T.ub.kp T.xb .nil Db (cb (pv 0) (cb (Pb Pc ib (pv 6)) (cb ib fb)))) (fun _ _=>rfl)))
   (lb (nc (Se PySem.F.plainAttrs_list PySem.F.slot_list_append PySem.F.type_list_append we (pv 9) (cb (br (cb (pv 10) (cb (Pb Pc (pv 10) (vb g8 hr rfl T.wb T.ub.kp T.xb .nil Db (cb (pv 0) (cb (Pb Pc ib (pv 6)) (cb (pv 11) fb))))) (cb (ic Yb (pv 3) (pv 6) (fun _ _=>rfl)) fb)))) fb))))))))
   (lb (Qb (pv 9))))))),?_⟩
 refine zS (fun σ' H'=>bc H H'/\NoT H'/\∃ gl,H gl=none/\H' gl=some (.lst [])/\σ'=[some (.ref a),some (.int n),some (.ref wl),some (.ref gl),none,none,none,none,none,none,none,none]) (fun D' hD=>?_) fun zzM zzh=>?_
 ·walk_at "RD";exact ⟨Nat.zero_le _,fun gl hgl=>hD _ _ ⟨jb hgl,nt.upd,gl,hgl,gb,rfl⟩⟩
 rintro σ1 H1 ⟨s1,n1,gl,hgl,w1,rfl⟩;subst zzh;refine zS (fun σ' H'=>bc H H'/\NoT H'/\(∃ qs gs,LIq H H' gl qs gs/\Nv n ds ds.length gs)/\∃ x4 x5 x6 x7 x8,σ'=[some (.ref a),some (.int n),some (.ref wl),some (.ref gl),x4,x5,x6,x7,x8,none,none,none]) (fun D' hD=>?_) fun zzM zzh=>?_
 ·walk_at "RD";refine ⟨_,.inl (SqL.of (s1 _ _ l1)),by omega,by rw [hqn];omega,?_⟩;rw [show (((ql.map V.ref).length:Nat):Int).toNat=ds.length by rw [hqn];rfl];refine Uj.range (fun k σ H'=>bc H H'/\NoT H'/\(∃ qs gs,LIq H H' gl qs gs/\Nv n ds k gs)/\∃ x4 x5 x6 x7 x8,σ=[some (.ref a),some (.int n),some (.ref wl),some (.ref gl),x4,x5,x6,x7,x8,none,none,none]) ⟨s1,n1,⟨[],[],⟨w1,rfl,List.nodup_nil,by simp,fun i q g h=>by simp at h,fun q h=>by simp at h⟩,Nv.nil n ds⟩,_,_,_,_,_,rfl⟩ ?_ ?_
  ·rintro k σ H' hk zzq;refine zP fun zzM zzh=>?_
   obtain ⟨s2,n2,⟨qs,gs,G,SG⟩,x4,x5,x6,x7,x8,rfl⟩:=zzq;have hdk:ds[k]? = some ds[k]:=getElem?_eq_getElem hk;subst zzh;generalize hdd:ds[k]=d at hdk;have hd:=(D.al d (mem_of_getElem? hdk)).1;have gl8:=SG.len;simp only [cf,Ab,set_cons_succ,set_cons_zero,Int.zero_add];refine zzC (fun σ' H2=>bc H' H2/\NoT H2/\∃ fl,H' fl=none/\H2 fl=some (.lst [])/\σ'=[some (.ref a),some (.int n),some (.ref wl),some (.ref gl),some (.int (k:Nat)),some (.ref fl),x6,x7,x8,none,none,none]) (fun D' hD=>?_) fun zzM zzh=>?_
   ·walk_at "RD";exact ⟨Nat.zero_le _,fun fl hfl=>hD _ _ ⟨jb hfl,n2.upd,fl,hfl,gb,rfl⟩⟩
   rintro σ2 H2 ⟨s3,n3,fl,hfl,w3,rfl⟩;have hfg:fl ≠ gl:=fun e=>by rw [e,G.h1] at hfl;cases hfl
   have hfq:fl ∉ qs:=fun z=>by
    obtain ⟨i,hi⟩:=getElem?_of_mem z;have il:i < gs.length:=by rw [<- G.h2];exact (List.getElem?_eq_some_iff.mp hi).1
    have e:=G.h5 i fl _ hi (getElem?_eq_getElem il);rw [hfl] at e;cases e
   subst zzh;simp only [Ab];refine zzC (fun σ' H3=>bc H' H3/\NoT H3/\LIq H H3 gl qs gs/\(∃ fs:List Nat,H3 fl=some (.lst (fs.map fun k:Nat=>V.int k))/\fs.length <= gs.length/\∀ f ∈ fs,∃ g,gs[f]? = some g/\∀ i ∈ g,∀ e,ds[i]? = some e->mt n e d=false/\mt n d e=false/\Ue e d=true)/\∃ x6 x7 x8,σ'=[some (.ref a),some (.int n),some (.ref wl),some (.ref gl),some (.int (k:Nat)),some (.ref fl),x6,x7,x8,none,none,none]) (fun D' hD=>?_) fun zzM zzh=>?_
   ·walk_at "RD";have hqg:(qs.map V.ref).length=gs.length:=by rw [length_map,G.h2]
    refine ⟨_,.inl (SqL.of (s3 _ _ G.h1)),by omega,by rw [hqg];omega,?_⟩;rw [show (((qs.map V.ref).length:Nat):Int).toNat=gs.length by rw [hqg];rfl];refine Uj.range (fun j σ H3=>bc H' H3/\NoT H3/\LIq H H3 gl qs gs/\(∃ fs:List Nat,H3 fl=some (.lst (fs.map fun k:Nat=>V.int k))/\fs.length <= j/\∀ f ∈ fs,∃ g,gs[f]? = some g/\∀ i ∈ g,∀ e,ds[i]? = some e->mt n e d=false/\mt n d e=false/\Ue e d=true)/\∃ x6 x7 x8,σ=[some (.ref a),some (.int n),some (.ref wl),some (.ref gl),some (.int (k:Int)),some (.ref fl),x6,x7,x8,none,none,none]) ⟨s3,n3,G.same s3,⟨[],w3,Nat.le_refl _,fun f h=>by simp at h⟩,_,_,_,rfl⟩ ?_ ?_
    ·rintro j σ H3 hj zzq;refine zP fun zzM zzh=>?_
     obtain ⟨s4,n4,G4,⟨fs,w4,hfs,hgood⟩,x6,x7,x8,rfl⟩:=zzq;have hgj:gs[j]? = some gs[j]:=getElem?_eq_getElem hj;have hqj:qs[j]? = some (qs[j]'(by rw [G.h2];exact hj)):=getElem?_eq_getElem _;subst zzh;generalize qs[j]'(by rw [G.h2];exact hj)=qj at hqj;generalize hgg:gs[j]=g at hgj;have hgm:=mem_of_getElem? hgj;obtain ⟨g0,gr,hgc⟩:=exists_cons_of_ne_nil (SG.ne g hgm);have hin:∀ i ∈ g,∃ e,ds[i]? = some e:=fun i hi=>⟨_,getElem?_eq_getElem (Nat.lt_trans (SG.lt hgm hi) hk)⟩
     have hg0:g0 ∈ g:=by rw [hgc];exact mem_cons_self ..
     obtain ⟨d0,hd0⟩:=hin g0 hg0;have eqj:=G4.h5 j qj g hqj hgj;have aqj:=Eb (xs:=qs.map V.ref) (j:=j) (by rw [getElem?_map,hqj];rfl);have sH:=s2.trans s4;have L4:=L.same sH;have l14:=sH _ _ l1;simp only [cf,Ab,set_cons_succ,set_cons_zero,Int.zero_add];refine zzC (fun σ' H4=>H4=H3/\σ'=[some (.ref a),some (.int n),some (.ref wl),some (.ref gl),some (.int (k:Int)),some (.ref fl),some (.int (j:Int)),some (.bl (Ue d0 d)),x8,none,none,none]) (fun D' hD=>?_) fun zzM zzh=>?_
     ·walk_at "RD";exact ⟨_,SqL.of G4.h1,_,aqj,_,rfl,_,SqL.of eqj,_,by rw [hgc];exact Eb (j:=0) rfl,wl,ds,g0,k,d0,d,rfl,L4,hd0,hdk,(D.al d0 (mem_of_getElem? hd0)).1.k,hd.k,hD _ _ ⟨rfl,rfl⟩⟩
     rintro σ4 H4 ⟨rfl,rfl⟩;subst zzh;simp only [Ab];refine zzC (fun σ' H5=>H5=H4/\∃ (bb:Bool) (x8:Option V),(bb=true->Ue d0 d=true/\∀ i ∈ g,∀ e,ds[i]? = some e->mt n e d=false)/\σ'=[some (.ref a),some (.int n),some (.ref wl),some (.ref gl),some (.int (k:Int)),some (.ref fl),some (.int (j:Int)),some (.bl bb),x8,none,none,none]) (fun D' hD=>?_) fun zzM zzh=>?_
     ·walk_at "RD";refine ⟨_,SqL.of G4.h1,_,aqj,_,rfl,⟨_,SqL.of eqj⟩,?_⟩;refine Uj.list (xs:=g.map fun k:Nat=>V.int k) (fun l σ H5=>H5=H4/\∃ (bb:Bool) (x8:Option V),(bb=true->Ue d0 d=true/\∀ i ∈ g.take l,∀ e,ds[i]? = some e->mt n e d=false)/\σ=[some (.ref a),some (.int n),some (.ref wl),some (.ref gl),some (.int (k:Int)),some (.ref fl),some (.int (j:Int)),some (.bl bb),x8,none,none,none]) ?_ ?_ ?_ ?_
      ·exact ⟨rfl,_,_,fun z=>⟨z,fun i h=>by simp at h⟩,rfl⟩
      ·rintro l σ H5 hl ⟨rfl,_⟩;exact SqL.of eqj
      ·rintro l v σ H5 hv zzq;refine zP fun zzM zzh=>?_
       obtain ⟨rfl,bb,x8,hbb,rfl⟩:=zzq;obtain ⟨i,hi,rfl⟩:=Mb hv;obtain ⟨e,he⟩:=hin i (mem_of_getElem? hi);obtain ⟨wi,ai,ewi⟩:=wAt i e he;obtain ⟨wk,ak,ewk⟩:=wAt k d hdk;have step:∀ b2:Bool,(b2=true->bb=true/\mt n e d=false)->(b2=true->Ue d0 d=true/\∀ i ∈ g.take (l + 1),∀ e,ds[i]? = some e->mt n e d=false):=fun b2 h z=>by
        obtain ⟨z1,z2⟩:=h z;obtain ⟨y1,y2⟩:=hbb z1;refine ⟨y1,fun i' hi' e' he'=>?_⟩;rw [take_add_one,hi] at hi';rcases List.mem_append.mp hi' with u | u
        ·exact y2 i' u e' he'
        ·rw [show i'=i by simpa using u,he] at he';cases he';exact z2
       subst zzh;walk_at "RD";cases bb with
       | true=>
        rw [if_pos rfl];refine ⟨_,SqL.of l14,_,ai,_,SqL.of l14,_,ak,n,wi,wk,e,d,rfl,SqT.of (sH _ _ ewi),SqT.of (sH _ _ ewk),(D.al e (mem_of_getElem? he)).1,hd,_,rfl,?_⟩;exact ⟨rfl,_,step _ (fun z=>⟨rfl,by simpa using z⟩),rfl,_,rfl⟩
       | false=>
        rw [if_neg (by decide)];exact ⟨false,(fun z=>nomatch z),rfl,_,rfl⟩
      ·rintro σ H5 zzq;refine zP fun zzM zzh=>?_
       obtain ⟨rfl,bb,x8,hbb,rfl⟩:=zzq;subst zzh;rw [length_map,take_length] at hbb;exact hD _ _ ⟨rfl,bb,x8,hbb,rfl⟩
     rintro σ5 H5 ⟨rfl,bb,x8,hbb,rfl⟩;subst zzh;dsimp only;refine ac bb (fun Q hQ=>?_) (fun hb=>?_) (fun hb=>?_)
     ·walk_at "RD";exact hQ
     ·obtain ⟨y1,y2⟩:=hbb hb;walk_at "RD";refine ⟨.inl ⟨_,SqL.of w4⟩,_,w4,Nat.lt_of_le_of_lt (show (fs.map fun k:Nat=>V.int k).length <= 8 by rw [length_map];omega) (by decide),s4.updN hfl,n4.upd,G4.off hfg hfq,⟨fs ++ [j],by rw [gb,map_append];rfl,by rw [length_append];show fs.length + 1 <= j + 1;omega,fun f hf=>?_⟩,?_⟩
      ·rcases List.mem_append.mp hf with z | z
       ·exact hgood f z
       ·rw [List.mem_singleton.mp z];refine ⟨g,hgj,fun i hi e he=>⟨y2 i hi e he,?_,Ay (SG.al g hgm i hi g0 hg0 e d0 he hd0) y1⟩⟩;have o1:=(D.al e (mem_of_getElem? he)).1;have:=QA o1.st o1.fi hd.st hd.fi o1.ne hd.ne;exact (this.symm.trans (y2 i hi e he):mt n d e=false)
      ·exact ⟨_,rfl⟩
     ·simp only [Qc];exact ⟨s4,n4,G4,⟨fs,w4,by omega,hgood⟩,_,_,_,rfl⟩
    ·rintro σ H3 zzq;refine zP fun zzM zzh=>?_
     obtain ⟨s4,n4,G4,⟨fs,w4,hfs,hgood⟩,x6,x7,x8,rfl⟩:=zzq;subst zzh;exact hD _ _ ⟨s4,n4,G4,⟨fs,w4,hfs,hgood⟩,_,_,_,rfl⟩
   rintro σ3 H3 ⟨s4,n4,G4,⟨fs,w4,hfs,hgood⟩,x6,x7,x8,rfl⟩;have sH:=s2.trans s4;have S4:=S.same sH;have hqg:(qs.map V.ref).length=gs.length:=by rw [length_map,G.h2]
   subst zzh;dsimp only;refine ac (decide (0 < fs.length) && decide (0 < Od ns (100 + (k:Int)) 3)) (fun Q hQ=>?_) (fun hb=>?_) (fun hb=>?_)
   ·walk_at "RD";refine ⟨_,.inl (SqL.of w4),?_⟩;rw [length_map];by_cases c0:0 < fs.length
    ·rw [if_pos (decide_eq_true (by omega))];rw [decide_eq_true c0,Bool.true_and] at hQ;exact ⟨a,ns,_,_,rfl,h63,S4,⟨by omega,by omega⟩,by decide,_,rfl,hQ⟩
    ·rw [if_neg (by rw [decide_eq_true_eq];omega)];rw [decide_eq_false c0,Bool.false_and] at hQ;exact hQ
   ·rw [Bool.and_eq_true,decide_eq_true_eq] at hb;have e1:=xc ns (110 + (k:Int)) (m:=(fs.length:Int)) (by omega);have e2:=wc ns (110 + (k:Int)) (m:=(fs.length:Int)) (by omega);obtain ⟨u,hu⟩:∃ u:Nat,Od ns (110 + (k:Int)) (fs.length:Int)=(u:Int):=⟨_,(Int.toNat_of_nonneg e1).symm⟩;have hul:u < fs.length:=by omega
    have hfu:fs[u]? = some fs[u]:=getElem?_eq_getElem hul;generalize hff:fs[u]=f at hfu;obtain ⟨g,hgf,hgd⟩:=hgood f (mem_of_getElem? hfu);have hfl':f < gs.length:=(List.getElem?_eq_some_iff.mp hgf).1;have hqf:qs[f]? = some (qs[f]'(by rw [G.h2];exact hfl')):=getElem?_eq_getElem _;generalize qs[f]'(by rw [G.h2];exact hfl')=qf at hqf;have eqf:=G4.h5 f qf g hqf hgf;have aqf:=Eb (xs:=qs.map V.ref) (j:=f) (by rw [getElem?_map,hqf];rfl);have afu:=Eb (xs:=fs.map fun k:Nat=>V.int k) (j:=u) (v:=.int (f:Int)) (by rw [getElem?_map,hfu];rfl);have hgl8:=SG.glen (mem_of_getElem? hgf);have p1:=xc ns (160 + (k:Int)) (m:=(g.length:Int) + 1) (by omega);have p2:=wc ns (160 + (k:Int)) (m:=(g.length:Int) + 1) (by omega);walk_at "RD";obtain ⟨v,hv⟩:∃ v:Nat,Od ns (160 + (k:Int)) ((g.length:Int) + 1)=(v:Int):=⟨_,(Int.toNat_of_nonneg p1).symm⟩;refine ⟨_,.inl (SqL.of w4),?_⟩;rw [length_map];refine ⟨a,ns,_,_,rfl,h63,S4,⟨by omega,by omega⟩,by omega,?_⟩;rw [hu];refine ⟨_,_,rfl,SqL.of w4,_,afu,_,_,rfl,SqL.of G4.h1,_,aqf,.inl ⟨_,SqL.of eqf⟩,_,_,rfl,SqL.of G4.h1,_,aqf,_,rfl,_,.inl (SqL.of eqf),?_⟩;rw [length_map];refine ⟨a,ns,_,_,rfl,h63,S4,⟨by omega,by omega⟩,by omega,qf,rfl,_,_,rfl,eqf,?_⟩;rw [hv,Int.toNat_natCast];have hvg:v <= g.length:=by omega
    have em:(g.map fun k:Nat=>V.int k).take v ++ V.int (k:Int) :: (g.map fun k:Nat=>V.int k).drop v=(ins g v k).map fun k:Nat=>V.int k:=(cD (fun k:Nat=>V.int k) g v k).symm
    refine ⟨by omega,by omega,by rw [length_map];omega,Nat.lt_of_le_of_lt (show (g.map fun k:Nat=>V.int k).length <= 8 by rw [length_map];omega) (by decide),sH.updN (G4.h6 qf (mem_of_getElem? hqf)),n4.upd,?_,_,rfl⟩;rw [em];exact ⟨qs,_,G4.put hqf hfl',SG.put hgf hdk hgd⟩
   ·have p1:=xc ns (120 + (k:Int)) (m:=(gs.length:Int) + 1) (by omega);have p2:=wc ns (120 + (k:Int)) (m:=(gs.length:Int) + 1) (by omega);walk_at "RD";obtain ⟨v,hv⟩:∃ v:Nat,Od ns (120 + (k:Int)) ((gs.length:Int) + 1)=(v:Int):=⟨_,(Int.toNat_of_nonneg p1).symm⟩;refine ⟨.inl ⟨_,SqL.of G4.h1⟩,_,.inl (SqL.of G4.h1),?_⟩;rw [hqg];refine ⟨a,ns,_,_,rfl,h63,S4,⟨by omega,by omega⟩,by omega,by decide,fun p hp=>⟨_,_,rfl,(jb hp) _ _ G4.h1,?_⟩⟩;rw [hv,Int.toNat_natCast];have hvg:v <= gs.length:=by omega
    have em:(qs.map V.ref).take v ++ V.ref p :: (qs.map V.ref).drop v=(ins qs v p).map V.ref:=(cD V.ref qs v p).symm;refine ⟨by omega,by omega,by rw [hqg];omega,Nat.lt_of_le_of_lt (show (qs.map V.ref).length <= 8 by rw [hqg];omega) (by decide),(sH.trans (jb hp)).updN hgl,(n4.upd).upd,?_,_,rfl⟩;rw [em];exact ⟨_,_,G4.new (g:=[k]) sH hp hvg,SG.new v⟩
  ·rintro σ H' zzq;refine zP fun zzM zzh=>?_
   obtain ⟨s2,n2,⟨qs,gs,G,SG⟩,x4,x5,x6,x7,x8,rfl⟩:=zzq;subst zzh;exact hD _ _ ⟨s2,n2,⟨qs,gs,G,SG⟩,_,_,_,_,_,rfl⟩
 rintro σ2 H2 ⟨s2,n2,⟨qs,gs,G,SG⟩,x4,x5,x6,x7,x8,rfl⟩;subst zzh;refine zS (fun σ' H'=>bc H2 H'/\NoT H'/\∃ sl,H2 sl=none/\H' sl=some (.lst [])/\σ'=[some (.ref a),some (.int n),some (.ref wl),some (.ref gl),x4,x5,x6,x7,x8,some (.ref sl),none,none]) (fun D' hD=>?_) fun zzM zzh=>?_
 ·walk_at "RD";exact ⟨Nat.zero_le _,fun sl hsl=>hD _ _ ⟨jb hsl,n2.upd,sl,hsl,gb,rfl⟩⟩
 rintro σ3 H3 ⟨s3,n3,sl,hsl,w3,rfl⟩;have gl8:=SG.len;have hqg:(qs.map V.ref).length=gs.length:=by rw [length_map,G.h2]
 subst zzh;refine zS (fun σ' H'=>bc H2 H'/\NoT H'/\(∃ qt sts,UL H' sl qt qs sts/\HN n ds sts)/\∃ x6 x8 x10 x11,σ'=[some (.ref a),some (.int n),some (.ref wl),some (.ref gl),x4,x5,x6,x7,x8,some (.ref sl),x10,x11]) (fun D' hD=>?_) fun zzM zzh=>?_
 ·walk_at "RD";refine ⟨_,.inl (SqL.of (s3 _ _ G.h1)),by omega,by rw [hqg];omega,?_⟩;rw [show (((qs.map V.ref).length:Nat):Int).toNat=gs.length by rw [hqg];rfl];refine Uj.range (fun j σ H'=>bc H2 H'/\NoT H'/\(∃ (qt:List Addr) (sts:List SX),H' sl=some (.lst (qt.map V.ref))/\qt.length=j/\sts.length=j/\(∀ (i:Nat) (q:Addr) (s:SX),qt[i]? = some q->sts[i]? = some s->∃ m,qs[i]? = some m/\H' q=some (.tup [.int s.lo,.int s.hi,.ref m]))/\sts.map (·.ix)=gs.take j/\∀ s ∈ sts,(∀ i ∈ s.ix,∀ d,ds[i]? = some d->d.least <= s.lo)/\1 <= s.lo/\s.lo <= 21/\s.lo <= s.hi/\s.hi <= 40)/\∃ x6 x8 x10 x11,σ=[some (.ref a),some (.int n),some (.ref wl),some (.ref gl),x4,x5,x6,x7,x8,some (.ref sl),x10,x11]) ⟨s3,n3,⟨[],[],w3,rfl,rfl,fun i q s h=>by simp at h,by rw [take_zero];rfl,fun s h=>by simp at h⟩,_,_,_,_,rfl⟩ ?_ ?_
  ·rintro j σ H' hj zzq;refine zP fun zzM zzh=>?_
   obtain ⟨s4,n4,⟨qt,sts,w4,hqt,hst,hal,hix,hbd⟩,x6,x8,x10,x11,rfl⟩:=zzq;have hgj:gs[j]? = some gs[j]:=getElem?_eq_getElem hj;have hqj:qs[j]? = some (qs[j]'(by rw [G.h2];exact hj)):=getElem?_eq_getElem _;subst zzh;generalize qs[j]'(by rw [G.h2];exact hj)=qj at hqj;generalize hgg:gs[j]=g at hgj;have hgm:=mem_of_getElem? hgj;have hin:∀ i ∈ g,∃ e,ds[i]? = some e:=fun i hi=>⟨_,getElem?_eq_getElem (SG.lt hgm hi)⟩
   have G4:=G.same s4;have eqj:=G4.h5 j qj g hqj hgj;have aqj:=Eb (xs:=qs.map V.ref) (j:=j) (by rw [getElem?_map,hqj];rfl);have sH:=s2.trans s4;have S4:=S.same sH;have l14:=sH _ _ l1;have hg8:=SG.glen hgm;obtain ⟨la,hla⟩:∃ la:Nat->Int,la=fun i=>((ds[i]?).map (·.least)).getD 0:=⟨_,rfl⟩
   have hlaE:∀ i e,ds[i]? = some e->la i=e.least:=fun i e he=>by rw [hla];show ((ds[i]?).map (·.least)).getD 0=_;rw [he];rfl
   obtain ⟨mx,hm1,hm2⟩:=iC (g.map la) (fun z=>SG.ne g hgm (List.map_eq_nil_iff.mp z));have hmx:1 <= mx/\mx <= 4:=by
    obtain ⟨i,hi,rfl⟩:=List.mem_map.mp hm1;obtain ⟨e,he⟩:=hin i hi;rw [hlaE i e he];exact ⟨(D.al e (mem_of_getElem? he)).1.le.1,hle e (mem_of_getElem? he)⟩
   have d1:=xc ns (130 + (j:Int)) (m:=3) (by decide);have d2:=wc ns (130 + (j:Int)) (m:=3) (by decide);simp only [cf,Ab,set_cons_succ,set_cons_zero,Int.zero_add];refine zzC (fun σ' H4=>bc H' H4/\NoT H4/\∃ lo:Int,(mx <= lo/\lo <= mx + 2)/\σ'=[some (.ref a),some (.int n),some (.ref wl),some (.ref gl),x4,x5,some (.int (j:Int)),x7,x8,some (.ref sl),some (.int lo),x11]) (fun D' hD=>?_) fun zzM zzh=>?_
   ·walk_at "RD";refine ⟨_,SqL.of G4.h1,_,aqj,_,rfl,⟨_,SqL.of eqj⟩,?_⟩;refine jd.list_zs (xs:=g.map fun k:Nat=>V.int k) (zs:=(g.map la).map V.int) (SqL.of eqj) (Nat.le_trans (show (g.map fun k:Nat=>V.int k).length <= 8 by rw [length_map];omega) (by decide)) (by rw [length_map,length_map,length_map]) (fun l v z N hv hz hN=>?_) (fun pl hpl=>?_)
    ·obtain ⟨i,hi,rfl⟩:=Mb hv;obtain ⟨y,hy,rfl⟩:=Mb hz;obtain ⟨i',hi',rfl⟩:=Mb hy;rw [hi] at hi';cases hi';obtain ⟨e,he⟩:=hin i (mem_of_getElem? hi);obtain ⟨wi,ai,ewi⟩:=wAt i e he;rw [hlaE i e he] at hN;walk_at "RD";exact ⟨Sub.name,_,SqL.of l14,_,ai,_,rfl,_,SqT.of (sH _ _ ewi),_,Eb (j:=6) rfl,hN⟩
    ·have sP:=jb (o:=.lst ((g.map la).map V.int)) hpl;refine ⟨_,rfl,_,SqL.of gb,mx,hm1,hm2,a,ns,_,_,rfl,h63,S4.same sP,⟨by omega,by omega⟩,by decide,_,rfl,hD _ _ ⟨sP,n4.upd,_,⟨by omega,by omega⟩,rfl⟩⟩
   rintro σ4 H4 ⟨s5,n5,lo0,hlo0,rfl⟩;have S5:=S4.same s5;subst zzh;simp only [Ab];refine zzC (fun σ' H5=>H5=H4/\∃ lo:Int,(mx <= lo/\lo <= 21)/\σ'=[some (.ref a),some (.int n),some (.ref wl),some (.ref gl),x4,x5,some (.int (j:Int)),x7,x8,some (.ref sl),some (.int lo),x11]) (fun D' hD=>?_) fun zzM zzh=>?_
   ·refine ac (decide (Od ns (150 + (j:Int)) 12=0)) (fun Q hQ=>?_) (fun _=>?_) (fun _=>?_)
    ·walk_at "RD";refine ⟨a,ns,_,_,rfl,h63,S5,⟨by omega,by omega⟩,by decide,rfl,?_⟩;rw [show decide (V.int (Od ns (150 + (j:Int)) 12)=V.int 0)=decide (Od ns (150 + (j:Int)) 12=0) from decide_eq_decide.mpr (by simp)];exact hQ
    ·walk_at "RD";exact hD _ _ ⟨rfl,_,by omega,rfl⟩
    ·simp only [Qc];exact hD _ _ ⟨rfl,_,by omega,rfl⟩
   rintro σ5 H5 ⟨rfl,lo,hlo,rfl⟩;have m1:=xc ns (180 + (j:Int)) (m:=6) (by decide);have m2:=wc ns (180 + (j:Int)) (m:=6) (by decide);subst zzh;simp only [Ab];refine zzC (fun σ' H6=>bc H5 H6/\NoT H6/\∃ mo:Int,(1 <= mo/\mo <= 20)/\σ'=[some (.ref a),some (.int n),some (.ref wl),some (.ref gl),x4,x5,some (.int (j:Int)),x7,x8,some (.ref sl),some (.int lo),some (.int mo)]) (fun D' hD=>?_) fun zzM zzh=>?_
   ·obtain ⟨mo,hmo,hat⟩:=rN m1 m2;walk_at "RD";exact ⟨by decide,fun p hp=>⟨a,ns,_,_,rfl,h63,S5.same (jb hp),⟨by omega,by omega⟩,by decide,_,_,rfl,SqL.of gb,_,hat,hD _ _ ⟨jb hp,n5.upd,mo,hmo,rfl⟩⟩⟩
   rintro σ6 H6 ⟨s6,n6,mo,hmo,rfl⟩;have s46:=s5.trans s6;have S6:=S5.same s6;have w6:=s46 _ _ w4;have y1:=xc ns (140 + (j:Int)) (m:=mo) (by omega);have y2:=wc ns (140 + (j:Int)) (m:=mo) (by omega);subst zzh;walk_at "RD";refine ⟨.inl ⟨_,SqL.of w6⟩,a,ns,_,_,rfl,h63,S6,⟨by omega,by omega⟩,by omega,_,rfl,_,SqL.of (s46 _ _ G4.h1),_,aqj,by decide,fun p hp=>⟨_,(jb hp) _ _ w6,Nat.lt_of_le_of_lt (show (qt.map V.ref).length <= 8 by rw [length_map];omega) (by decide),((s4.trans s46).trans (jb hp)).updN hsl,(n6.upd).upd,⟨qt ++ [p],by rw [gb,map_append];rfl,by rw [length_append,hqt];rfl,sts ++ [⟨lo,lo + Od ns (140 + (j:Int)) mo,g⟩],by rw [length_append,hst];rfl,fun i q s a1 a2=>?_,?_,fun s hs=>?_⟩,?_⟩⟩
   ·have hps:sl ≠ p:=Kb w6 hp;rcases kf a1 with ⟨b1,b2⟩ | ⟨b1,rfl⟩
    ·rcases kf a2 with ⟨c1,c2⟩ | ⟨c1,_⟩
     ·obtain ⟨m,hm,e⟩:=hal i q s b2 c2;have e6:=s46 _ _ e;refine ⟨m,hm,?_⟩;rw [zb (af e6 w6 (by intro z;cases z)),zb (Kb e6 hp)];exact e6
     ·omega
    ·rcases kf a2 with ⟨c1,_⟩ | ⟨_,rfl⟩
     ·omega
     ·refine ⟨qj,by rw [b1,hqt];exact hqj,?_⟩;rw [zb (Ne.symm hps),gb]
   ·rw [map_append,hix,take_add_one,hgj];rfl
   ·rcases List.mem_append.mp hs with z | z
    ·exact hbd s z
    ·rw [List.mem_singleton.mp z];refine ⟨fun i hi e he=>?_,by show 1 <= lo;omega,hlo.2,by show lo <= lo + Od ns (140 + (j:Int)) mo;omega,by show lo + Od ns (140 + (j:Int)) mo <= 40;omega⟩;have:=hm2 (la i) (List.mem_map.mpr ⟨i,hi,rfl⟩);rw [hlaE i e he] at this;show e.least <= lo;omega
   ·repeat (first | exact ⟨_,rfl⟩ | refine ⟨⟨_,rfl⟩,?_⟩)
  ·rintro σ H' zzq;refine zP fun zzM zzh=>?_
   obtain ⟨s4,n4,⟨qt,sts,w4,hqt,hst,hal,hix,hbd⟩,x6,x8,x10,x11,rfl⟩:=zzq;subst zzh;rw [take_length] at hix;have G4:=G.same s4;refine hD _ _ ⟨s4,n4,⟨qt,sts,⟨w4,by omega,by rw [G.h2];omega,fun i q m s a1 a2 a3=>?_⟩,⟨by rw [hix];exact SG,fun s hs=>(hbd s hs).1,fun s hs=>(hbd s hs).2⟩⟩,_,_,_,_,rfl⟩;obtain ⟨m',hm',e⟩:=hal i q s a1 a3;rw [a2] at hm';cases hm';refine ⟨e,G4.h5 i m s.ix a2 ?_⟩;rw [<- hix,getElem?_map,a3];rfl
 rintro σ4 H4 ⟨s4,n4,⟨qt,sts,SQ,S30⟩,x6,x8,x10,x11,rfl⟩;subst zzh;walk_at "RD";exact q sl qt qs sts H4 (s2.trans s4) n4 SQ S30
end
end My
namespace My
open PySem L2
noncomputable def nmI (ds:List WD) (i:Nat):Str:=((ds[i]?).map (·.name)).getD (Str.ofString "")
noncomputable def pf (ds:List WD) (s:SX):List Str:=s.ix.map (nmI ds)
noncomputable def Lb (ds:List WD) (s:SX):List Str:=[Str.ofString "stage",num s.lo,num s.hi] ++ pf ds s
noncomputable def Zb (ds:List WD) (sts:List SX):List (List Str):=sts.map (Lb ds)
noncomputable def Wj (ds:List WD) (sts:List SX):Str:=Str.join nl ((Zb ds sts).map (Str.join bk))
structure qN (ds:List WD) (sts:List SX):Prop where
 ln:sts.length <= 8
 bd:∀ s ∈ sts,(0 <= s.lo/\s.lo < 1000)/\(0 <= s.hi/\s.hi < 1000)/\s.ix ≠ []/\s.ix.length <= 8/\∀ i ∈ s.ix,∃ d,ds[i]? = some d
 nm:∀ d ∈ ds,d.name.length <= 8
theorem CF (ds:List WD) (s:SX) (h:s.ix ≠ []):Str.ofString "stage " ++ num s.lo ++ Str.ofString " " ++ num s.hi ++ Str.ofString " " ++ Str.join bk (pf ds s)=Str.join bk (Lb ds s):=by
 apply wv;have e1:(Str.ofString "stage ").cps.toList=[115,116,97,103,101,32]:=by decide +kernel
 have e2:(Str.ofString "stage").cps.toList=[115,116,97,103,101]:=by decide +kernel
 have e3:(Str.ofString " ").cps.toList=[32]:=by decide +kernel
 unfold Lb pf;obtain ⟨i,r,hc⟩:=exists_cons_of_ne_nil h;rw [hc,AB,Ni];simp only [Str.cps_append,Array.toList_append,Ni,map_cons,map_nil,cons_append,nil_append,jl,e1,e2,e3,append_assoc]
noncomputable def fz:Sp:=fun vs H Q _=>∃ wl ds sl qs ms sts,vs=[.ref wl,.ref sl]/\LW H wl ds/\UL H sl qs ms sts/\qN ds sts/\NoT H/\Q (.str (Wj ds sts)) H
noncomputable def UE:Sp:=fun vs H Q _=>∃ wl ds sl qs ms sts,vs=[.ref wl,.ref sl]/\LW H wl ds/\UL H sl qs ms sts/\qN ds sts/\∀ H',bc H H'->Q (.str (Wj ds sts)) H'
section
variable {P:Program} {w:World} {K:W.Frag} {mg:Str->Option Value} {base:Heap} {t:Adr}
theorem EF (T:Txt w K mg t):Ub P w K mg base CX0 1 t.Oe t.Le q45 fz:=by
 refine Ub.forget (sp:=UE) ?_ fun vs H Q E h=>?_
 ·refine T.Mf.ok Nd (fun vs H Q E h=>?_) (fun _ _ _ s H vs Q E hr h=>?_)
  ·obtain ⟨wl,ds,sl,qs,ms,sts,rfl,_⟩:=h;rfl
  obtain ⟨wl,ds,sl,qs,ms,sts,rfl,⟨ql,l1,l2,lal⟩,SQ,X,q⟩:=h;have hX:=X.ln;have wAt:∀ (i:Nat) (d:WD),ds[i]? = some d->∃ wq,atI (ql.map V.ref) (i:Int)=some (.ref wq)/\H wq=some (.tup (Fx d)):=fun i d hd=>by
   have hqi:ql[i]? = some (ql[i]'(by rw [l2];exact (List.getElem?_eq_some_iff.mp hd).1)):=getElem?_eq_getElem _;exact ⟨_,Eb (by rw [getElem?_map,hqi];rfl),lal i _ d hqi hd⟩
  have bigT:∀ k:Nat,k <= 1000->k <= sizeLine:=fun k h=>Nat.le_trans h (by decide)
  refine ⟨_,(db (Fb (i:=2) Nd.nd rfl (Or.inl rfl) (sd fb))
   (db (Re PassesOwn.never rfl (Dc (pv 1)) (Qg (K:=K) (n:=3) rfl rfl (qc (Cb (i:=3) Nd.nd rfl (Or.inl rfl) (.inl rfl)) (qc (Cb (i:=4) Nd.nd rfl (Or.inl rfl) (.inl rfl)) (qc (Cb (i:=5) Nd.nd rfl (Or.inl rfl) (.inl rfl)) Vg)))) (lb (nc (Se PySem.F.plainAttrs_list PySem.F.slot_list_append PySem.F.type_list_append we (pv 2) (cb (Pb Ec (Pb Ec (Pb Ec (Pb Ec (Pb Ec Jb (sf Ff rfl T.vA oh (cb (pv 3) fb))) Jb) (sf Ff rfl T.vA oh (cb (pv 4) fb))) Jb) (Se PySem.F.plainAttrs_str PySem.F.slot_str_join PySem.F.type_str_join vj Jb (cb (Qd rfl (Dc (pv 5)) (dc (sc:=pb Xf) rfl (by decide +kernel)) (N:=q53) (sel:=[none,some 0]) (Cc (M:=["_law_ways_here","_law_stages_here","_law_rows","_law_low","_law_high","_law_some"]) (by decide +kernel)) (Blk.of (fun _ _ _ _=>(Cb (i:=0) (se (N:=q53) (by decide +kernel) rfl) rfl (Or.inl rfl))) (fun _ _ _ _=>⟨_,Fd,by walk_at "B"⟩) (fun _ _ _ _=>⟨_,(ic ie (ic Yb (pv 1) (pv 0) (fun _ _=>rfl)) ib (fun _ _=>rfl)),by walk_at "B"⟩))) fb))) fb)))))
   (lb (Qb (Se PySem.F.plainAttrs_str PySem.F.slot_str_join PySem.F.type_str_join vj Jb (cb (pv 2) fb)))))),?_⟩
  refine zS (fun σ' H'=>bc H H'/\∃ rl,H rl=none/\H' rl=some (.lst (qb []))/\σ'=[some (.ref wl),some (.ref sl),some (.ref rl),none,none,none]) (fun D' hD=>?_) fun zzM zzh=>?_
  ·walk_at "RD";exact ⟨Nat.zero_le _,fun rl hrl=>hD _ _ ⟨jb hrl,rl,hrl,gb,rfl⟩⟩
  rintro σ1 H1 ⟨s1,rl,hrl,w1,rfl⟩;subst zzh;refine zS (fun σ' H'=>bc H H'/\H' rl=some (.lst (qb ((Zb ds sts).map (Str.join bk))))/\∃ x3 x4 x5,σ'=[some (.ref wl),some (.ref sl),some (.ref rl),x3,x4,x5]) (fun D' hD=>?_) fun zzM zzh=>?_
  ·walk_at "RD";refine ⟨⟨_,SqL.of (s1 _ _ SQ.at_)⟩,?_⟩;refine Uj.list (xs:=qs.map V.ref) (fun i σ H'=>bc H H'/\H' rl=some (.lst (qb ((Zb ds (sts.take i)).map (Str.join bk))))/\∃ x3 x4 x5,σ=[some (.ref wl),some (.ref sl),some (.ref rl),x3,x4,x5]) ?_ ?_ ?_ ?_
   ·exact ⟨s1,by rw [take_zero];exact w1,_,_,_,rfl⟩
   ·rintro i σ H' hi ⟨sm,_⟩;exact SqL.of (sm _ _ SQ.at_)
   ·rintro i v σ H' hv zzq;refine zP fun zzM zzh=>?_
    obtain ⟨sm,w2,x3,x4,x5,rfl⟩:=zzq;obtain ⟨qi,hqi,rfl⟩:=Mb hv;have hi:i < sts.length:=by rw [<- SQ.l1];exact (List.getElem?_eq_some_iff.mp hqi).1
    have hsi:sts[i]? = some sts[i]:=getElem?_eq_getElem hi;have hmi:ms[i]? = some (ms[i]'(by rw [SQ.l2];exact hi)):=getElem?_eq_getElem _;obtain ⟨e1,e2⟩:=SQ.al i qi _ _ hqi hmi hsi;subst zzh;generalize ms[i]'(by rw [SQ.l2];exact hi)=m at hmi e1 e2;generalize hss:sts[i]=s at hsi e1 e2;obtain ⟨blo,bhi,bne,bln,bix⟩:=X.bd s (mem_of_getElem? hsi);have h1:=xm (n:=s.lo) (by omega) (by omega);have h2:=xm (n:=s.hi) (by omega) (by omega);have t1:(Str.ofString "stage ").length=6:=by decide +kernel
    have t2:(Str.ofString " ").length=1:=by decide +kernel
    have hmem:∀ y ∈ pf ds s,y.length <= 8:=fun y hy=>by
     obtain ⟨k,hk,rfl⟩:=List.mem_map.mp hy;obtain ⟨d,hd⟩:=bix k hk;unfold nmI;rw [hd];exact X.nm d (mem_of_getElem? hd)
    have hjl:(Str.join bk (pf ds s)).length <= 100:=by
     have:=Gh bk 8 (pf ds s) hmem;rw [Bk] at this;have hl:(pf ds s).length=s.ix.length:=by unfold pf;rw [length_map]
     have:(pf ds s).length * 9 <= 72:=by omega
     omega
    walk_at "RD";refine ⟨_,SqT.of (sm _ _ e1),rfl,_,_,rfl,_,_,rfl,_,_,rfl,rfl,.inl ⟨_,SqL.of w2⟩,_,rfl,sv (by omega),bigT _ (by rw [t1];omega),bigT _ (by simp only [Ug,t1,t2];omega),_,rfl,sv (by omega),bigT _ (by simp only [Ug,t1,t2];omega),bigT _ (by simp only [Ug,t1,t2];omega),m,rfl,⟨_,SqL.of (sm _ _ e2)⟩,?_⟩;refine jd.list_zs (xs:=s.ix.map fun k:Nat=>V.int k) (zs:=qb (pf ds s)) (SqL.of (sm _ _ e2)) (Nat.le_trans (show (s.ix.map fun k:Nat=>V.int k).length <= 8 by rw [length_map];exact bln) (by decide)) (by rw [yb,length_map];unfold pf;rw [length_map]) (fun l v z N hv hz hN=>?_) (fun pl hpl=>?_)
    ·obtain ⟨k,hk,rfl⟩:=Mb hv;unfold qb pf at hz;obtain ⟨y,hy,rfl⟩:=Mb hz;obtain ⟨k',hk',rfl⟩:=Mb hy;rw [hk] at hk';cases hk';obtain ⟨d,hd⟩:=bix k (mem_of_getElem? hk);obtain ⟨wq,aq,eq⟩:=wAt k d hd;have hnk:nmI ds k=d.name:=by unfold nmI;rw [hd];rfl
     rw [hnk] at hN;walk_at "RD";exact ⟨Sub.name,_,SqL.of (sm _ _ l1),_,aq,_,rfl,_,SqT.of (sm _ _ eq),_,Eb (j:=1) rfl,hN⟩
    ·have hml:(pf ds s).length <= 8:=by unfold pf;rw [length_map];exact bln
     refine ⟨pl,rfl,pf ds s,SqL.of gb,?_,?_⟩
     ·have:=qp hmem;rw [t2];omega
     ·rw [show Txt.join (Str.ofString " ") (pf ds s)=Str.join bk (pf ds s) from StrLaws.glued_eq_join _ _];have hrow:=CF ds s bne;have hil:(qb ((Zb ds (sts.take i)).map (Str.join bk))).length <= 8:=by
       unfold qb Zb;rw [length_map,length_map,length_map,length_take];omega
      refine ⟨bigT _ (by simp only [Ug,t1,t2];omega),_,(jb hpl) _ _ w2,Nat.lt_of_le_of_lt hil (by decide),(sm.trans (jb hpl)).updN hrl,?_,?_⟩
      ·rw [gb,hrow,take_add_one,hsi];unfold Zb qb;rw [map_append,map_append,map_append];rfl
      ·repeat (first | exact ⟨_,rfl⟩ | refine ⟨⟨_,rfl⟩,?_⟩)
   ·rintro σ H' zzq;refine zP fun zzM zzh=>?_
    obtain ⟨sm,w2,x3,x4,x5,rfl⟩:=zzq;subst zzh;rw [length_map,SQ.l1,take_length] at w2;exact hD _ _ ⟨sm,w2,_,_,_,rfl⟩
  rintro σ2 H2 ⟨s2,w2,x3,x4,x5,rfl⟩;subst zzh;walk_at "RD";have hB:∀ y ∈ (Zb ds sts).map (Str.join bk),y.length <= 200:=fun y hy=>by
   obtain ⟨r,hr',rfl⟩:=List.mem_map.mp hy;obtain ⟨s,hs,rfl⟩:=List.mem_map.mp hr';obtain ⟨blo,bhi,bne,bln,bix⟩:=X.bd s hs;have h1:=xm (n:=s.lo) (by omega) (by omega);have h2:=xm (n:=s.hi) (by omega) (by omega);have hmem:∀ y ∈ Lb ds s,y.length <= 8:=fun y hy=>by
    unfold Lb at hy;rcases List.mem_append.mp hy with z | z
    ·have z:y=Str.ofString "stage" \/ y=num s.lo\/y=num s.hi:=by simpa using z
     rcases z with rfl | rfl | rfl
     ·decide +kernel
     ·exact Nat.le_trans h1 (by decide)
     ·exact Nat.le_trans h2 (by decide)
    ·obtain ⟨k,hk,rfl⟩:=List.mem_map.mp z;obtain ⟨d,hd⟩:=bix k hk;unfold nmI;rw [hd];exact X.nm d (mem_of_getElem? hd)
   have:=Gh bk 8 (Lb ds s) hmem;rw [Bk] at this;have hl:(Lb ds s).length <= 11:=by
    unfold Lb pf;rw [length_append,length_map];show 3 + s.ix.length <= 11;omega
   omega
  refine ⟨_,SqL.of w2,?_,?_⟩
  ·have:=qp hB;rw [show (Str.ofString "\n").length=1 by decide +kernel];have hl:((Zb ds sts).map (Str.join bk)).length <= 8:=by
    unfold Zb;rw [length_map,length_map];exact hX
   omega
  ·rw [show Txt.join (Str.ofString "\n") ((Zb ds sts).map (Str.join bk))=Str.join nl ((Zb ds sts).map (Str.join bk)) from StrLaws.glued_eq_join _ _];exact q _ s2
 ·obtain ⟨wl,ds,sl,qs,ms,sts,rfl,L,SQ,X,nt,q⟩:=h;exact ⟨nt,wl,ds,sl,qs,ms,sts,rfl,L,SQ,X,fun H' sm=>⟨sm,q⟩⟩
end
end My
namespace My
open PySem L2
noncomputable def zI (ds:List WD) (s:SX):ST:=⟨s.lo,s.hi,pf ds s⟩
noncomputable def pe (ds:List WD) (sts:List SX):List ST:=sts.map (zI ds)
theorem Zh {ds:List WD} {i:Nat} {d:WD} (h:ds[i]? = some d):nmI ds i=d.name:=by unfold nmI;rw [h];rfl
theorem oy {ds:List WD} (nd:(ds.map (·.name)).Nodup) {i j:Nat} (hi:i < ds.length) (hj:j < ds.length) (e:nmI ds i=nmI ds j):i=j:=by
 rw [Zh (getElem?_eq_getElem hi),Zh (getElem?_eq_getElem hj)] at e;exact Pr nd hi hj (by rw [Mn (getElem?_eq_getElem hi),Mn (getElem?_eq_getElem hj)];exact e)
structure P30 (n:Int) (ds:List WD) (sts:List SX):Prop where
 nd:(ds.map (·.name)).Nodup
 s30:HN n ds sts
 l6:ds.length <= 6
 l1:1 <= ds.length
 ok:∀ d ∈ ds,WOk n d
theorem P30.fl {n:Int} {ds:List WD} {sts:List SX} (h:P30 n ds sts):(sts.map (·.ix)).flatten.Nodup:=h.s30.sg.pm.nodup_iff.mpr List.nodup_range
theorem P30.lt {n:Int} {ds:List WD} {sts:List SX} (h:P30 n ds sts) {s:SX} (hs:s ∈ sts) {i:Nat} (hi:i ∈ s.ix):i < ds.length:=h.s30.sg.lt (List.mem_map.mpr ⟨s,hs,rfl⟩) hi
theorem P30.len {n:Int} {ds:List WD} {sts:List SX} (h:P30 n ds sts):sts.length <= 6:=by
 have:=h.s30.sg.len.1;rw [length_map] at this;have:=h.l6;omega
theorem P30.sx {n:Int} {ds:List WD} {sts:List SX} (h:P30 n ds sts):qN ds sts:=by
 refine ⟨by have:=h.len;omega,fun s hs=>?_,fun d hd=>((Mc (h.ok d hd).nm).1).2⟩;have b:=h.s30.bd s hs;have hm:s.ix ∈ sts.map (·.ix):=List.mem_map.mpr ⟨s,hs,rfl⟩;have hg:=h.s30.sg.glen hm;have:=h.l6;exact ⟨⟨by omega,by omega⟩,⟨by omega,by omega⟩,h.s30.sg.ne _ hm,by omega,fun i hi=>⟨_,getElem?_eq_getElem (h.lt hs hi)⟩⟩
theorem P30.mnd {n:Int} {ds:List WD} {sts:List SX} (h:P30 n ds sts) {s:SX} (hs:s ∈ sts):(pf ds s).Nodup:=by
 have hx:s.ix.Nodup:=h.fl.sublist (List.sublist_flatten_of_mem (List.mem_map.mpr ⟨s,hs,rfl⟩));unfold pf;refine List.pairwise_map.mpr (List.Pairwise.imp_of_mem (fun {a b} ha hb hab e=>?_) hx);exact hab (oy h.nd (h.lt hs ha) (h.lt hs hb) e)
theorem P30.told {n:Int} {ds:List WD} {sts:List SX} (h:P30 n ds sts) {i:Nat} {s:SX} (hs:sts[i]? = some s) {x:Str} (hx:x ∈ pf ds s):told (pe ds (sts.take i)) x=false:=by
 cases e:My.told (pe ds (sts.take i)) x with
 | false=>rfl
 | true=>
  exfalso;unfold My.told at e;obtain ⟨r,hr,hc⟩:=List.any_eq_true.mp e;obtain ⟨s',hs',rfl⟩:=List.mem_map.mp hr;have hc:x ∈ pf ds s':=by simpa [zI] using hc
  obtain ⟨k,hk,rfl⟩:=List.mem_map.mp hx;obtain ⟨k',hk',ek⟩:=List.mem_map.mp hc;have:=oy h.nd (h.lt (mem_of_mem_take hs') hk') (h.lt (mem_of_getElem? hs) hk) ek;subst this;obtain ⟨hi,hsi⟩:=List.getElem?_eq_some_iff.mp hs;have hf:=h.fl;rw [<- List.take_append_drop i sts,map_append,List.flatten_append,drop_eq_getElem_cons hi,hsi,map_cons,flatten_cons] at hf;exact (List.nodup_append.mp hf).2.2 k' (List.mem_flatten.mpr ⟨s'.ix,List.mem_map.mpr ⟨s',hs',rfl⟩,hk'⟩) k' (mem_append_left _ hk) rfl
theorem Pz {alike:List Str}:∀ {r:List Str} {j:Nat} {ms:List Str},(∀ x ∈ r,x ∈ alike)->(ms ++ r).Nodup->Py alike r j ms=.ok (ms ++ r)
 | [],j,ms,_,_=>by
  show Except.ok ms=_;rw [append_nil]
 | x :: r,j,ms,ha,hn=>by
  unfold Py;have hx:x ∉ ms:=fun z=>(List.nodup_append.mp hn).2.2 x z x (mem_cons_self ..) rfl
  rw [if_pos ⟨ha x (mem_cons_self ..),hx⟩,Pz (fun y hy=>ha y (mem_cons_of_mem _ hy)) (by rw [append_assoc];exact hn),append_assoc];rfl
theorem P30.left {n:Int} {ds:List WD} {sts:List SX} (h:P30 n ds sts) {i:Nat} {s:SX} (hs:sts[i]? = some s) {x:Str} (hx:x ∈ pf ds s):x ∈ Je ds (pe ds (sts.take i)):=by
 unfold Je;refine List.mem_filter.mpr ⟨?_,by rw [h.told hs hx];rfl⟩;obtain ⟨k,hk,rfl⟩:=List.mem_map.mp hx;have hk':=h.lt (mem_of_getElem? hs) hk;rw [Zh (getElem?_eq_getElem hk')];exact List.mem_map.mpr ⟨_,getElem_mem hk',rfl⟩
theorem P30.stage {n:Int} {ds:List WD} {sts:List SX} (h:P30 n ds sts) {i:Nat} {s:SX} (hs:sts[i]? = some s):De ds (pe ds (sts.take i)) (Lb ds s)=.ok (zI ds s):=by
 have hm:=mem_of_getElem? hs;have b:=h.s30.bd s hm;have hne:=h.s30.sg.ne s.ix (List.mem_map.mpr ⟨s,hm,rfl⟩);obtain ⟨k,r,hc⟩:=exists_cons_of_ne_nil hne;have hmem:pf ds s=nmI ds k :: r.map (nmI ds):=by unfold pf;rw [hc];rfl
 have hw:Lb ds s=Str.ofString "stage" :: num s.lo :: num s.hi :: nmI ds k :: r.map (nmI ds):=by unfold Lb;rw [hmem];rfl
 have hP:Uu ds (Je ds (pe ds (sts.take i))) (Lb ds s)=.ok (pf ds s):=by
  have hf:nmI ds k ∈ pf ds s:=by rw [hmem];exact mem_cons_self ..
  have h3:wd (Lb ds s) 3=nmI ds k:=by rw [hw];rfl
  have h4:(Lb ds s).drop 4=r.map (nmI ds):=by rw [hw];rfl
  unfold Uu;rw [h3,h4,if_pos (h.left hs hf),Pz (fun x hx=>?_) (by have:=h.mnd hm;rw [hmem] at this;exact this),hmem]
  ·rfl
  ·have hxm:x ∈ pf ds s:=by rw [hmem];exact mem_cons_of_mem _ hx
   refine List.mem_filter.mpr ⟨h.left hs hxm,decide_eq_true ?_⟩;obtain ⟨k2,hk2,rfl⟩:=List.mem_map.mp hx;have k2i:k2 ∈ s.ix:=by rw [hc];exact mem_cons_of_mem _ hk2
   have k1i:k ∈ s.ix:=by rw [hc];exact mem_cons_self ..
   have l1:=getElem?_eq_getElem (h.lt hm k1i);have l2:=getElem?_eq_getElem (h.lt hm k2i);have al:=h.s30.sg.al s.ix (List.mem_map.mpr ⟨s,hm,rfl⟩) k2 k2i k k1i _ _ l2 l1;show (wOf ds (nmI ds k2)).map Gf=(wOf ds (nmI ds k)).map Gf;rw [Zh l1,Zh l2,Zg h.nd l1,Zg h.nd l2];have:=Mj.mp al;show some (Gf _)=some (Gf _);unfold Gf;by_cases c:(ds[k2]'(h.lt hm k2i)).k=2
   ·rw [if_pos c,if_pos (this.mp c)]
   ·rw [if_neg c,if_neg (fun z=>c (this.mpr z))]
 have h0:wd (Lb ds s) 0=Str.ofString "stage" := by rw [hw];rfl
 have h1:wd (Lb ds s) 1=num s.lo:=by rw [hw];rfl
 have h2:wd (Lb ds s) 2=num s.hi:=by rw [hw];rfl
 have e1:ik (num s.lo) 1 60=some s.lo:=Jk (Wg (by omega) (by omega) (by omega) (by omega));have e2:ik (num s.hi) s.lo 60=some s.hi:=Jk (Wg (by omega) (by omega) (by omega) (by omega));unfold De;rw [h0,h1,h2,hP,if_pos (List.mem_singleton.mpr rfl),e1];show (ik (num s.hi) s.lo 60).elim _ _=_;rw [e2];rfl
theorem P30.parse {n:Int} {ds:List WD} {sts:List SX} (h:P30 n ds sts):∀ (m i:Nat),sts.length - i=m->i <= sts.length->Ud ds ((Zb ds sts).drop i) i (pe ds (sts.take i))=.ok (pe ds sts)
 | 0,i,hm,hi=>by
  have:i=sts.length:=by omega
  subst this;have hl:(Zb ds sts).length=sts.length:=by unfold Zb;rw [length_map]
  rw [<- hl,drop_length,hl,take_length];rfl
 | m + 1,i,hm,hi=>by
  have hi':i < sts.length:=by omega
  have hs:sts[i]? = some sts[i]:=getElem?_eq_getElem hi';have hl:i < (Zb ds sts).length:=by unfold Zb;rw [length_map];exact hi'
  have hg:(Zb ds sts)[i]=Lb ds sts[i]:=(List.getElem?_eq_some_iff.mp (show (Zb ds sts)[i]? = some (Lb ds sts[i]) by unfold Zb;rw [getElem?_map,hs];rfl)).2;rw [drop_eq_getElem_cons hl,hg];unfold Ud;have h6:=h.len;rw [if_neg (by unfold pe;rw [length_map,length_take];omega),h.stage hs];have ih:=h.parse m (i + 1) (by omega) hi';rw [Zd hs] at ih;unfold pe at ih ⊢;rw [map_append] at ih;exact ih
theorem P30.none {n:Int} {ds:List WD} {sts:List SX} (h:P30 n ds sts):(Je ds (pe ds sts)).head? = Option.none/\Iq ds (pe ds sts)=Option.none/\Tq n ds (pe ds sts)=Option.none:=by
 refine ⟨?_,?_,?_⟩
 ·have:Je ds (pe ds sts)=[]:=by
   unfold Je;refine List.filter_eq_nil_iff.mpr fun x hx=>?_
   obtain ⟨d,hd,rfl⟩:=List.mem_map.mp hx;obtain ⟨k,hk⟩:=getElem?_of_mem hd;have hkl:=(List.getElem?_eq_some_iff.mp hk).1;have hf:=h.s30.sg.pm.mem_iff.mpr (List.mem_range.mpr hkl);obtain ⟨g,hg,hkg⟩:=List.mem_flatten.mp hf;obtain ⟨s,hs,rfl⟩:=List.mem_map.mp hg;have:My.told (pe ds sts) d.name=true:=by
    unfold My.told;refine List.any_eq_true.mpr ⟨zI ds s,List.mem_map.mpr ⟨s,hs,rfl⟩,?_⟩;have:d.name ∈ pf ds s:=List.mem_map.mpr ⟨k,hkg,Zh hk⟩;simpa [zI] using this
   rw [this];simp
  rw [this];rfl
 ·unfold Iq;refine List.findSome?_eq_none_iff.mpr fun d hd=>?_
  unfold ux;cases hk:uE (pe ds sts) d.name with
  | none=>rfl
  | some k=>
   rw [Option.bind_some];cases hr:(pe ds sts)[k]? with
   | none=>rfl
   | some r=>
    rw [Option.bind_some];have hx:My.told (pe ds sts) d.name=true:=by
     have:=Vt (pe ds sts) d.name;rw [<- this];unfold uE at hk;cases e:jk (Ef ((pe ds sts).map (·.mem))) (Sum.inr d.name) with
     | none=>rw [e] at hk;cases hk
     | some v=>rfl
    obtain ⟨k',r',_,hk',hr',hm⟩:=TB hx;rw [hk] at hk';cases hk';rw [hr] at hr';cases hr';obtain ⟨s,hs,rfl⟩:=Mb hr;obtain ⟨i,hi,ei⟩:=List.mem_map.mp hm;have hsm:=mem_of_getElem? hs;have hil:=h.lt hsm hi;rw [Zh (getElem?_eq_getElem hil)] at ei;obtain ⟨j,hj⟩:=getElem?_of_mem hd;have:i=j:=Pr h.nd hil (List.getElem?_eq_some_iff.mp hj).1 (by rw [Mn (getElem?_eq_getElem hil),Mn hj,ei]);subst this;have:=h.s30.le s hsm i hi d hj;show (if s.lo < d.least then some (d,k) else Option.none)=Option.none;rw [if_neg (show ¬ s.lo < d.least by omega)]
 ·unfold Tq;refine List.findSome?_eq_none_iff.mpr fun e he=>?_
  obtain ⟨r,k⟩:=e;have hr:r ∈ pe ds sts:=List.fst_mem_of_mem_zipIdx he;obtain ⟨s,hs,rfl⟩:=List.mem_map.mp hr;unfold ls;refine List.findSome?_eq_none_iff.mpr fun x hx=>List.findSome?_eq_none_iff.mpr fun y hy=>?_
  obtain ⟨i,hi,rfl⟩:=List.mem_map.mp hx;obtain ⟨j,hj,rfl⟩:=List.mem_map.mp hy;unfold fm;rw [if_neg];rintro ⟨z1,z2⟩;have li:=getElem?_eq_getElem (h.lt hs hi);have lj:=getElem?_eq_getElem (h.lt hs hj);unfold mtN at z2;rw [Zh li,Zh lj,Zg h.nd li,Zg h.nd lj] at z2;have:=h.s30.sg.cm s.ix (List.mem_map.mpr ⟨s,hs,rfl⟩) i hi j hj (fun z=>z1 (by rw [z])) _ _ li lj;replace z2:mt n _ _=true:=z2;rw [this] at z2;cases z2
end My
namespace My
open PySem L2
noncomputable def pI (t:Adr):Sp:=fun vs H Q _=>∃ c n ds sts,vs=[.ref c,.str (Wj ds sts)]/\Uc t H c n ds/\(4 <= n/\n <= 99)/\P30 n ds sts/\NoT H/\∀ a H',bc H H'->NoT H'->nv t H' a c (pe ds sts).length->Q (.ref a) H'
theorem P30.plain {n:Int} {ds:List WD} {sts:List SX} (h:P30 n ds sts):∀ r ∈ Zb ds sts,r ≠ []/\r.length <= 11/\∀ x ∈ r,ir x:=fun r hr=>by
 obtain ⟨s,hs,rfl⟩:=List.mem_map.mp hr;obtain ⟨blo,bhi,bne,bln,bix⟩:=h.sx.bd s hs;refine ⟨by unfold Lb;simp,?_,fun x hx=>?_⟩
 ·unfold Lb pf;rw [length_append,length_map];show 3 + s.ix.length <= 11;omega
 ·unfold Lb at hx;rcases List.mem_append.mp hx with z | z
  ·have z:x=Str.ofString "stage" \/ x=num s.lo\/x=num s.hi:=by simpa using z
   rcases z with rfl | rfl | rfl
   ·unfold ir;decide +kernel
   ·exact ae (by omega) (by omega)
   ·exact ae (by omega) (by omega)
  ·obtain ⟨k,hk,rfl⟩:=List.mem_map.mp z;obtain ⟨d,hd⟩:=bix k hk;rw [Zh hd];exact Si (h.ok d (mem_of_getElem? hd)).nm
theorem P30.rows {n:Int} {ds:List WD} {sts:List SX} (h:P30 n ds sts) (hne:sts ≠ []):re (Wj ds sts)=Zb ds sts:=by
 unfold Wj;exact Iw (by unfold Zb;simpa using hne) (fun r hr=>(h.plain r hr).1) (fun r hr=>(h.plain r hr).2.2)
theorem P30.ne {n:Int} {ds:List WD} {sts:List SX} (h:P30 n ds sts):sts ≠ []:=fun e=>by
 have:=h.s30.sg.len.2;rw [e] at this;simp at this;have:=h.l1;omega
theorem P30.txt {n:Int} {ds:List WD} {sts:List SX} (h:P30 n ds sts):(Wj ds sts).length <= 20000:=by
 have hB:∀ y ∈ (Zb ds sts).map (Str.join bk),y.length <= 200:=fun y hy=>by
  obtain ⟨r,hr,rfl⟩:=List.mem_map.mp hy;obtain ⟨_,h2,h3⟩:=h.plain r hr;have:=Gh bk 8 r fun x hx=>(h3 x hx).1
  rw [Bk] at this;omega
 have:=Gh nl 200 _ hB;rw [Xo,length_map] at this;have hl:(Zb ds sts).length <= 6:=by unfold Zb;rw [length_map];exact h.len
 unfold Wj;omega
section
variable {P:Program} {w:World} {K:W.Frag} {mg:Str->Option Value} {base:Heap} {t:Adr}
theorem cM (T:Txt w K mg t):Ub P w K mg base CX0 8 t.jf t.Ze q22 (pI t):=by
 refine (mE T).quiet fun vs H Q E h=>?_
 obtain ⟨c,n,ds,sts,rfl,C,hn,X,nt,q⟩:=h;obtain ⟨z1,z2,z3⟩:=X.none;have hne:∀ d ∈ ds,d.name ≠ Str.ofString "" := fun d hd e=>by
  have h:=(Mc (X.ok d hd).nm).1.1;rw [e] at h;exact absurd h (by decide +kernel)
 have hD:IK ds:=fun d hd=>by
  obtain ⟨h1,h2⟩:=Mc (X.ok d hd).nm;exact ⟨⟨Nat.le_trans h1.2 (by decide),fun c hc=>by have:=h2 c hc;omega⟩,(X.ok d hd).k,(X.ok d hd).of.1,by have:=(X.ok d hd).of;omega⟩
 have hp:=X.parse sts.length 0 rfl (Nat.zero_le _);rw [List.drop_zero,take_zero,show pe ds []=[] from rfl] at hp;refine ⟨c,n,ds,_,rfl,C,by omega,hD,hne,X.txt,by rw [X.rows X.ne];unfold Zb;rw [length_map];have:=X.len;omega,fun r hr=>?_,nt,?_⟩
 ·rw [X.rows X.ne] at hr;obtain ⟨h1,h2,h3⟩:=X.plain r hr;exact ⟨h1,by omega,fun y hy=>Nat.le_trans (h3 y hy).1 (by decide)⟩
 ·rw [X.rows X.ne,hp];exact ⟨List.head?_eq_none_iff.mp z1,z2,z3,fun a H' s' n' SA=>q a H' s' n' SA⟩
end
end My
namespace My
open PySem L2
noncomputable def PlainL (x:Str):Prop:=x.length <= 40/\(32:Nat) ∉ x.cps.toList/\(10:Nat) ∉ x.cps.toList
theorem ir.l {x:Str} (h:ir x):PlainL x:=⟨Nat.le_trans h.1 (by decide),h.2⟩
theorem pB {rs:List (List Str)} (h0:rs ≠ []) (h1:∀ r ∈ rs,r ≠ []) (h2:∀ r ∈ rs,∀ x ∈ r,PlainL x):re (Str.join nl (rs.map (Str.join bk)))=rs:=by
 unfold re;rw [JJ,AB,vh (by simpa using h0) (fun y hy=>by
  obtain ⟨r,hr,rfl⟩:=List.mem_map.mp hy;rw [Ni];intro z;rcases Gz z with z | ⟨p,hp,z⟩
  ·cases z
  ·obtain ⟨x,hx,rfl⟩:=List.mem_map.mp hp;exact (h2 r hr x hx).2.2 z),map_map]
 have:∀ r ∈ rs,((fun r=>Txt.split r ⟨#[32]⟩) ∘ Str.join ⟨#[32]⟩) r=r:=fun r hr=>vh (h1 r hr) fun x hx=>(h2 r hr x hx).2.1
 rw [List.map_congr_left this,List.map_id']
structure kF (rs:List (List Str)):Prop where
 ne:rs ≠ []
 ln:rs.length <= 20
 al:∀ r ∈ rs,r ≠ []/\r.length <= 20/\∀ x ∈ r,PlainL x
theorem kF.row {rs:List (List Str)} (h:kF rs):∀ y ∈ rs.map (Str.join bk),y.length <= 900:=fun y hy=>by
 obtain ⟨r,hr,rfl⟩:=List.mem_map.mp hy;obtain ⟨_,h2,h3⟩:=h.al r hr;have:=Gh bk 40 r fun x hx=>(h3 x hx).1
 rw [Bk] at this;have:r.length * (40 + 1) <= 20 * 41:=Nat.mul_le_mul h2 (by omega);omega
theorem kF.txt {rs:List (List Str)} (h:kF rs):(Str.join nl (rs.map (Str.join bk))).length <= 20000:=by
 have:=Gh nl 900 _ h.row;rw [Xo,length_map] at this;have h4:rs.length * (900 + 1) <= 20 * 901:=Nat.mul_le_mul h.ln (by omega);omega
noncomputable def ML (rs:List (List Str)):Str:=Str.join nl (rs.map (Str.join bk))
structure W31 (n:Int) (ds:List WD):Prop where
 n0:0 < n
 ok:∀ d ∈ ds,WOk n d
noncomputable def QE (t:Adr):Sp:=fun vs H Q _=>∃ c n ds rs,∃ i k:Nat,vs=[.ref c,.str (ML rs)]/\Uc t H c n ds/\W31 n ds/\kF rs/\Ud ds rs 0 []=.error (i,k)/\NoT H/\∀ p H',bc H H'->NoT H'->H' p=some (.lst [.int i,.int k])->Q (.ref p) H'
section
variable {P:Program} {w:World} {K:W.Frag} {mg:Str->Option Value} {base:Heap} {t:Adr}
theorem iN (T:Txt w K mg t):PySem.W.kitAny K (.ref t.Ac) ([t.Aq,t.Mq,t.Mm,t.Yq,t.Ir,t.Vq,t.yk].map Value.ref)=some false:=by
 simp only [map_cons,map_nil,PySem.W.kitAny,T.Kq,T.pr,T.zp,T.Dq,T.Lr,T.yq,T.Ko]
theorem aK (T:Txt w K mg t):Ub P w K mg base CX0 9 t.qg t.Cg q46 (QE t):=by
 have g60:Ub P w K mg base (CX1 P w) 8 t.jf t.Ze q22 (EC t):=mE T;refine T.Ai.ok Xe (fun vs H Q E h=>?_) (fun _ _ _ s H vs Q E hr h=>?_)
 ·obtain ⟨c,n,ds,rs,i,k,rfl,_⟩:=h;rfl
 obtain ⟨c,n,ds,rs,i,k,rfl,C,W,R,hst,nt,q⟩:=h;have hne:∀ d ∈ ds,d.name ≠ Str.ofString "" := fun d hd e=>by
  have h:=(Mc (W.ok d hd).nm).1.1;rw [e] at h;exact absurd h (by decide +kernel)
 have hDk:IK ds:=fun d hd=>by
  obtain ⟨h1,h2⟩:=Mc (W.ok d hd).nm;exact ⟨⟨Nat.le_trans h1.2 (by decide),fun c hc=>by have:=h2 c hc;omega⟩,(W.ok d hd).k,(W.ok d hd).of.1,by have:=(W.ok d hd).of;omega⟩
 have hro:re (ML rs)=rs:=pB R.ne (fun r hr=>(R.al r hr).1) (fun r hr=>(R.al r hr).2.2);refine ⟨_,(db (Fb (i:=2) Xe.nd rfl (Or.inl rfl) (sd fb))
   (db (UJ (i:=3) (fun _ _=>⟨_,(lb (nc (cH g60 hr rfl T.Jn T.fh.kp T.Nn .nil EJ (cb (pv 0) (cb (pv 1) fb))))),by first | rfl | (dsimp only [Cx.tr,Cx.hn];done) | (dsimp only [Cx.tr,Cx.hn];exact rfl)⟩) rfl T.Pq (fun _=>⟨_,(db (Gd (PW.pt (Ol (zi (Vb DE rfl T.Mg ze (cb (pv 3) (cb (qe (v:=.ref t.Ac) rfl T.Yz rfl) fb)))) (Cj (zi (Vb jB rfl T.Mg ze (cb (pv 3) (cb (Uy (v:=.ty "ValueError") rfl T.bx uo rfl) fb))))))) (lb (Fb (i:=2) Xe.nd rfl (Or.inl rfl) (sd (cb (WC (pv 3) rfl) (cb (WC (pv 3) rfl) fb))))) fc)
   (lb (Gd (zi (Vb qB rfl T.Mg ze (cb (pv 3) (cb (br (cb (qe (v:=.ref t.Aq) rfl T.JI rfl) (cb (qe (v:=.ref t.Mq) rfl T.CJ rfl) (cb (qe (v:=.ref t.Mm) rfl T.FF rfl) (cb (qe (v:=.ref t.Yq) rfl T.HJ rfl) (cb (qe (v:=.ref t.Ir) rfl T.pJ rfl) (cb (qe (v:=.ref t.Vq) rfl T.KI rfl) (cb (qe (v:=.ref t.yk) rfl T.YD rfl) fb)))))))) fb)))) (lb (Fb (i:=2) Xe.nd rfl (Or.inl rfl) (sd fb))) fc))),by first | rfl | (dsimp only [Cx.tr,Cx.hn];done) | (dsimp only [Cx.tr,Cx.hn];exact rfl)⟩) Xe.nd rfl rfl)
   (lb (Qb (pv 2))))),?_⟩
 refine zS (fun σ' H'=>bc H H'/\NoT H'/\∃ p,σ'=[some (.ref c),some (.str (ML rs)),some (.ref p),none]) (fun D' hD=>?_) fun zzM zzh=>?_
 ·walk_at "RD";exact ⟨Nat.zero_le _,fun p hp=>hD _ _ ⟨jb hp,nt.upd,p,rfl⟩⟩
 rintro σ1 H1 ⟨s1,n1,p0,rfl⟩;subst zzh;refine zS (fun σ' H'=>bc H H'/\NoT H'/\∃ p ev,H' p=some (.lst [.int i,.int k])/\σ'=[some (.ref c),some (.str (ML rs)),some (.ref p),ev]) (fun D' hD=>?_) fun zzM zzh=>?_
 ·walk_at "RD";refine ⟨c,n,ds,_,rfl,C.same s1,W.n0,hDk,hne,R.txt,by rw [hro];have:=R.ln;omega,fun r hr=>?_,n1,?_⟩
  ·rw [hro] at hr;obtain ⟨h1,h2,h3⟩:=R.al r hr;exact ⟨h1,by omega,fun y hy=>Nat.le_trans (h3 y hy).1 (by decide)⟩
  rw [hro,hst];intro dx H3 s3 n3 hdx;walk_at "RD";refine ⟨_,rfl,T.om,fun ex hex=>?_⟩;refine ac true (fun Q hQ=>?_) (fun _=>?_) (fun z=>nomatch z)
  ·walk_at "RD";refine ⟨_,_,hex,_,hdx,T.rq,_,T.Ip,?_⟩;rw [if_pos rfl];exact ⟨_,_,hex,_,hdx,T.rq,_,T.Ll,hQ⟩
  walk_at "RD";refine ⟨_,_,hex,_,hdx,T.wj,T.Lm,_,Cd [Str.ofString "row",Str.ofString "word"] 0 rfl (by decide +kernel) rfl,_,_,hex,_,hdx,T.wj,T.Nl,_,Cd [Str.ofString "row",Str.ofString "word"] 1 rfl (by decide +kernel) rfl,by decide,fun p hp=>?_⟩;refine lv (fun b H'=>b=false/\bc (upd H3 p (.lst [.int i,.int k])) H'/\NoT H') (fun Q hQ=>?_) (fun H' z=>nomatch z.1) (fun H' z=>?_)
  ·walk_at "RD";exact ⟨by decide,fun tp htp=>⟨_,_,((jb hp).trans (jb htp)) _ _ hex,_,((jb hp).trans (jb htp)) _ _ hdx,T.rq,[t.Aq,t.Mq,t.Mm,t.Yq,t.Ir,t.Vq,t.yk],gb,_,iN T,hQ _ _ ⟨rfl,jb htp,n3.upd.upd⟩⟩⟩
  ·walk_at "RD";exact hD _ _ ⟨((s1.trans s3).trans (jb hp)).trans z.2.1,z.2.2,p,_,z.2.1 _ _ gb,rfl⟩
 rintro σ2 H2 ⟨s2,n2,p,ev,w2,rfl⟩;subst zzh;walk_at "RD";exact q p H2 s2 n2 w2
end
theorem P30.pre {n:Int} {ds:List WD} {sts:List SX} (h:P30 n ds sts):∀ (i:Nat),i <= sts.length->∀ tl:List (List Str),Ud ds ((Zb ds sts).take i ++ tl) 0 []=Ud ds tl i (pe ds (sts.take i))
 | 0,_,tl=>by
  rw [take_zero,take_zero,nil_append];rfl
 | i + 1,hi,tl=>by
  have hi':i < sts.length:=by omega
  have hs:sts[i]? = some sts[i]:=getElem?_eq_getElem hi';have hg:(Zb ds sts)[i]? = some (Lb ds sts[i]):=by unfold Zb;rw [getElem?_map,hs];rfl
  rw [Zd hg,append_assoc,List.singleton_append,h.pre i (by omega)]
  conv=>lhs;unfold Ud
  have h6:=h.len;rw [if_neg (by unfold pe;rw [length_map,length_take];omega),h.stage hs,Zd hs];unfold pe;rw [map_append];rfl
theorem P30.fault {n:Int} {ds:List WD} {sts:List SX} (h:P30 n ds sts) {i k:Nat} (hi:i < sts.length) {ws:List Str} {tl:List (List Str)} (he:De ds (pe ds (sts.take i)) ws=.error k):Ud ds ((Zb ds sts).take i ++ ws :: tl) 0 []=.error (i,k):=by
 rw [h.pre i (by omega)];unfold Ud;have h6:=h.len;rw [if_neg (by unfold pe;rw [length_map,length_take];omega),he]
theorem xz {alike:List Str} {y:Str} {tl:List Str}:∀ {r:List Str} {j:Nat} {ms:List Str},(∀ x ∈ r,x ∈ alike)->(ms ++ r).Nodup->¬ (y ∈ alike/\y ∉ ms ++ r)->Py alike (r ++ y :: tl) j ms=.error (j + r.length)
 | [],j,ms,_,_,hy=>by
  rw [append_nil] at hy;show Py alike (y :: tl) j ms=_;unfold Py;rw [if_neg hy];rfl
 | x :: r,j,ms,ha,hn,hy=>by
  show Py alike (x :: (r ++ y :: tl)) j ms=_;unfold Py;have hx:x ∉ ms:=fun z=>(List.nodup_append.mp hn).2.2 x z x (mem_cons_self ..) rfl
  have e:ms ++ [x] ++ r=ms ++ x :: r:=by rw [append_assoc];rfl
  rw [if_pos ⟨ha x (mem_cons_self ..),hx⟩,xz (fun y hy=>ha y (mem_cons_of_mem _ hy)) (by rw [e];exact hn) (by rw [e];exact hy),length_cons];congr 1;omega
theorem qO {ds:List WD} {rows:List ST} {ws:List Str} (h:wd ws 0 ≠ Str.ofString "stage"):De ds rows ws=.error 0:=by
 unfold De;rw [if_neg fun z=>h (List.mem_singleton.mp z)]
theorem TM {ds:List WD} {rows:List ST} {ws:List Str} (h:wd ws 0=Str.ofString "stage") (h1:ik (wd ws 1) 1 60=none):De ds rows ws=.error 1:=by
 unfold De;rw [if_pos (List.mem_singleton.mpr h),h1];rfl
theorem UM {ds:List WD} {rows:List ST} {ws:List Str} {lo:Int} (h:wd ws 0=Str.ofString "stage") (h1:ik (wd ws 1) 1 60=some lo) (h2:ik (wd ws 2) lo 60=none):De ds rows ws=.error 2:=by
 unfold De;rw [if_pos (List.mem_singleton.mpr h),h1];show (ik (wd ws 2) lo 60).elim _ _=_;rw [h2];rfl
theorem bO {ds:List WD} {rows:List ST} {ws:List Str} {lo hi:Int} {k:Nat} (h:wd ws 0=Str.ofString "stage") (h1:ik (wd ws 1) 1 60=some lo) (h2:ik (wd ws 2) lo 60=some hi) (hm:Uu ds (Je ds rows) ws=.error k):De ds rows ws=.error k:=by
 unfold De;rw [if_pos (List.mem_singleton.mpr h),h1];show (ik (wd ws 2) lo 60).elim _ _=_;rw [h2];show (match Uu ds (Je ds rows) ws with | .error k=>Except.error k | .ok ms=>.ok (ST.mk lo hi ms))=_;rw [hm]
theorem P30.name {n:Int} {ds:List WD} {sts:List SX} (h:P30 n ds sts) {i:Nat} {s:SX} (hs:sts[i]? = some s) {q:Nat} (hq:q <= s.ix.length) {y:Str} {tl:List Str}
  (hb:y ∉ Je ds (pe ds (sts.take i))\/(0 < q/\(y ∈ (pf ds s).take q\/∀ x,(pf ds s)[0]? = some x->(wOf ds y).map Gf ≠ (wOf ds x).map Gf))) :
  De ds (pe ds (sts.take i)) ([Str.ofString "stage",num s.lo,num s.hi] ++ ((pf ds s).take q ++ y :: tl))=.error (3 + q):=by
 have hm:=mem_of_getElem? hs;have b:=h.s30.bd s hm;have e1:ik (num s.lo) 1 60=some s.lo:=Jk (Wg (by omega) (by omega) (by omega) (by omega));have e2:ik (num s.hi) s.lo 60=some s.hi:=Jk (Wg (by omega) (by omega) (by omega) (by omega));refine bO (lo:=s.lo) (hi:=s.hi) rfl e1 e2 ?_;cases q with
 | zero=>
  have hy:y ∉ Je ds (pe ds (sts.take i)):=by
   rcases hb with z | ⟨z,_⟩
   ·exact z
   ·omega
  unfold Uu;rw [if_neg];exact hy
 | succ q=>
  have hne:=h.s30.sg.ne s.ix (List.mem_map.mpr ⟨s,hm,rfl⟩);obtain ⟨k,r,hc⟩:=exists_cons_of_ne_nil hne;have hmem:pf ds s=nmI ds k :: r.map (nmI ds):=by unfold pf;rw [hc];rfl
  have hf:nmI ds k ∈ pf ds s:=by rw [hmem];exact mem_cons_self ..
  have hnd:=h.mnd hm;rw [hmem] at hnd hb ⊢;rw [List.take_succ_cons] at hb ⊢;show (if nmI ds k ∈ Je ds (pe ds (sts.take i)) then Py (qu ds (Je ds (pe ds (sts.take i))) (nmI ds k)) ((r.map (nmI ds)).take q ++ y :: tl) 4 [nmI ds k] else .error 3)=_;rw [if_pos (h.left hs hf),xz (fun x hx=>?_) ?_ ?_]
  ·rw [length_take,length_map];rw [hc,length_cons] at hq;congr 1;omega
  ·exact hnd.sublist ((List.take_sublist q _).cons₂ _)
  ·rintro ⟨z1,z2⟩;obtain ⟨f1,f2⟩:=List.mem_filter.mp z1;rcases hb with z | ⟨_,z | z⟩
   ·exact z f1
   ·exact z2 z
   ·exact z _ rfl (of_decide_eq_true f2)
  ·have hx:=mem_of_mem_take hx;have hxm:x ∈ pf ds s:=by rw [hmem];exact mem_cons_of_mem _ hx
   refine List.mem_filter.mpr ⟨h.left hs hxm,decide_eq_true ?_⟩;obtain ⟨k2,hk2,rfl⟩:=List.mem_map.mp hx;have k2i:k2 ∈ s.ix:=by rw [hc];exact mem_cons_of_mem _ hk2
   have k1i:k ∈ s.ix:=by rw [hc];exact mem_cons_self ..
   have l1:=getElem?_eq_getElem (h.lt hm k1i);have l2:=getElem?_eq_getElem (h.lt hm k2i);have al:=h.s30.sg.al s.ix (List.mem_map.mpr ⟨s,hm,rfl⟩) k2 k2i k k1i _ _ l2 l1;show (wOf ds (nmI ds k2)).map Gf=(wOf ds (nmI ds k)).map Gf;rw [Zh l1,Zh l2,Zg h.nd l1,Zg h.nd l2];have:=Mj.mp al;show some (Gf _)=some (Gf _);unfold Gf;by_cases c:(ds[k2]'(h.lt hm k2i)).k=2
   ·rw [if_pos c,if_pos (this.mp c)]
   ·rw [if_neg c,if_neg (fun z=>c (this.mpr z))]
end My
namespace My
open PySem L2
noncomputable def LR (H:Hp) (rl:Addr) (rss:List (List Str)):Prop:=∃ qs:List Addr,H rl=some (.lst (qs.map V.ref))/\qs.length=rss.length/\∀ (j:Nat) (q:Addr) (r:List Str),qs[j]? = some q->rss[j]? = some r->H q=some (.lst (qb r))
theorem LR.same {H H':Hp} {rl:Addr} {rss:List (List Str)} (h:LR H rl rss) (s:bc H H'):LR H' rl rss:=by
 obtain ⟨qs,e1,e2,e3⟩:=h;exact ⟨qs,s _ _ e1,e2,fun j q r a b=>s _ _ (e3 j q r a b)⟩
noncomputable def gI (t:Adr):Sp:=fun vs H Q _=>∃ c n ds rl rss,∃ i k:Nat,vs=[.ref c,.ref rl,.int i,.int k]/\Uc t H c n ds/\W31 n ds/\LR H rl rss/\kF rss/\Ud ds rss 0 []=.error (i,k)/\NoT H/\Q (.bl true) H
noncomputable def YJ (t:Adr):Sp:=fun vs H Q _=>∃ c n ds rl rss,∃ i k:Nat,vs=[.ref c,.ref rl,.int i,.int k]/\Uc t H c n ds/\W31 n ds/\LR H rl rss/\kF rss/\Ud ds rss 0 []=.error (i,k)/\NoT H/\∀ H',bc H H'->Q (.bl true) H'
section
variable {P:Program} {w:World} {K:W.Frag} {mg:Str->Option Value} {base:Heap} {t:Adr}
theorem IL (T:Txt w K mg t):Ub P w K mg base CX0 10 t.mn t.Jm q47 (gI t):=by
 refine Ub.forget (sp:=YJ t) ?_ fun vs H Q E h=>?_
 ·have g61:Ub P w K mg base CX0 9 t.qg t.Cg q46 (QE t):=aK T;refine T.kj.ok Zn (fun vs H Q E h=>?_) (fun _ _ _ s H vs Q E hr h=>?_)
  ·obtain ⟨c,n,ds,rl,rss,i,k,rfl,_⟩:=h;rfl
  obtain ⟨c,n,ds,rl,rss,i,k,rfl,C,W,⟨qs,e1,e2,e3⟩,R,hst,nt,q⟩:=h;have hU:=hr.units;have hqn:(qs.map V.ref).length=rss.length:=by rw [length_map,e2]
  have hln:=R.ln;refine ⟨_,(db (Fb (i:=4) Zn.nd rfl (Or.inl rfl) (vb g61 hr rfl T.Ys T.Ai.kp T.Qs .nil Db (cb (pv 0) (cb (Se PySem.F.plainAttrs_str PySem.F.slot_str_join PySem.F.type_str_join vj Jb (cb (Qd rfl (Dc (pv 1)) (dc (sc:=pb jr) rfl (by decide +kernel)) (N:=q18) (sel:=[none]) (Cc (M:=["_law_crossing","_law_rows","_law_row","_law_word","_law_found","_law_number"]) (by decide +kernel)) (Blk.of (fun _ _ _ _=>(Cb (i:=0) (se (N:=q18) (by decide +kernel) rfl) rfl (Or.inl rfl))) (fun _ _ _ _=>⟨_,Fd,by walk_at "B"⟩) (fun _ _ _ _=>⟨_,(Se PySem.F.plainAttrs_str PySem.F.slot_str_join PySem.F.type_str_join vj Jb (cb (pv 0) fb)),by walk_at "B"⟩))) fb)) fb))))
   (db (Re PassesOwn.never rfl (Dc (pv 4)) (Cb (i:=5) Zn.nd rfl (Or.inl rfl)) (lb (Gd (PW.pt (wy (uu (zi (Vb oz rfl T.Mg ze (cb (pv 5) (cb (Uy (v:=.ty "int") rfl T.ED Wi rfl) fb))))) (nu (zi (Vb oz rfl T.Mg ze (cb (pv 5) (cb (Uy (v:=.ty "bool") rfl T.iM gy rfl) fb))))))) (lb (Qb cy)) fc)))
   (lb (Qb (Dd (FM hU) (pv 4) (sd (cb (pv 2) (cb (pv 3) fb))) (Sb _)))))),?_⟩
  refine zS (fun σ' H'=>bc H H'/\NoT H'/\∃ p,H' p=some (.lst [.int i,.int k])/\σ'=[some (.ref c),some (.ref rl),some (.int i),some (.int k),some (.ref p),none]) (fun D' hD=>?_) fun zzM zzh=>?_
  ·walk_at "RD";refine ⟨⟨_,SqL.of e1⟩,?_⟩;refine jd.list_zs (xs:=qs.map V.ref) (zs:=qb (rss.map (Str.join bk))) (SqL.of e1) (by rw [hqn];exact Nat.le_trans hln (by decide)) (by rw [yb,length_map,hqn]) (fun j v z N hv hz hN=>?_) (fun pn hpn=>?_)
   ·obtain ⟨q',hq',rfl⟩:=Mb hv;obtain ⟨x,hx,rfl⟩:=Mb hz;obtain ⟨r,hr',rfl⟩:=Mb hx;have er:=e3 j q' r hq' hr';obtain ⟨_,r20,rp⟩:=R.al r (mem_of_getElem? hr');walk_at "RD";refine ⟨Sub.name,_,SqL.of er,?_,?_⟩
    ·have h1:=qp (B:=40) fun x hx=>(rp x hx).1
     have h2:r.length * 40 <= 20 * 40:=Nat.mul_le_mul r20 (by omega);rw [show (Str.ofString " ").length=1 by decide +kernel];omega
    ·rw [show Txt.join (Str.ofString " ") r=Str.join bk r from StrLaws.glued_eq_join _ _];exact hN
   ·refine ⟨pn,rfl,_,SqL.of gb,?_,?_⟩
    ·have h1:=qp R.row;rw [length_map] at h1 ⊢;have h2:rss.length * 900 <= 20 * 900:=Nat.mul_le_mul hln (by omega);rw [show (Str.ofString "\n").length=1 by decide +kernel];omega
    ·rw [show Txt.join (Str.ofString "\n") (rss.map (Str.join bk))=ML rss from StrLaws.glued_eq_join _ _];exact ⟨c,n,ds,rss,i,k,rfl,C.same (jb hpn),W,R,hst,nt.upd,fun p H' s' n' hp=>hD _ _ ⟨(jb hpn).trans s',n',p,hp,rfl⟩⟩
  rintro σ1 H1 ⟨s1,n1,p,w1,rfl⟩;subst zzh;refine zS (fun σ' H'=>H'=H1/\∃ y,σ'=[some (.ref c),some (.ref rl),some (.int i),some (.int k),some (.ref p),y]) (fun D' hD=>?_) fun zzM zzh=>?_
  ·walk_at "RD";refine ⟨⟨_,SqL.of w1⟩,?_⟩;refine Uj.list (xs:=[.int i,.int k]) (fun i' σ H'=>H'=H1/\∃ y,σ=[some (.ref c),some (.ref rl),some (.int i),some (.int k),some (.ref p),y]) ⟨rfl,_,rfl⟩ (fun i' σ H' hi ⟨e,_⟩=>by rw [e];exact SqL.of w1) ?_ ?_
   ·rintro j v σ H' hv ⟨rfl,y,rfl⟩;have hv':∃ z:Int,v=.int z:=by
     rcases List.mem_cons.mp (mem_of_getElem? hv) with z | z
     ·exact ⟨_,z⟩
     ·exact ⟨_,List.mem_singleton.mp z⟩
    obtain ⟨z,rfl⟩:=hv';simp only [cf,set_cons_succ,set_cons_zero];refine ac false (fun Q hQ=>?_) (fun cc=>nomatch cc) (fun _=>?_)
    ·walk_at "RD";refine ⟨_,.int _,true,rfl,?_⟩;rw [if_neg (by decide)];exact ⟨_,.int _,false,rfl,hQ⟩
    ·walk_at "RD";exact ⟨_,rfl⟩
   ·rintro σ H' ⟨rfl,y,rfl⟩;exact hD _ _ ⟨rfl,_,rfl⟩
  rintro σ2 H2 ⟨rfl,y,rfl⟩;subst zzh;walk_at "RD";refine ⟨by decide,fun p1 hp1=>⟨true,?_,q _ (s1.trans (jb hp1))⟩⟩;have:=EqH.flats (k:=7) (SqL.of (K:=K) ((jb hp1) _ _ w1)) (SqL.of (show (upd H2 p1 (.lst [.int i,.int k])) p1=some (.lst [.int i,.int k]) from gb)) (fun a ha b hb=>by
   have ha':∃ z:Int,a=.int z:=by
    rcases List.mem_cons.mp ha with z | z
    ·exact ⟨_,z⟩
    ·exact ⟨_,List.mem_singleton.mp z⟩
   have hb':∃ z:Int,b=.int z:=by
    rcases List.mem_cons.mp hb with z | z
    ·exact ⟨_,z⟩
    ·exact ⟨_,List.mem_singleton.mp z⟩
   obtain ⟨z,rfl⟩:=ha';obtain ⟨z',rfl⟩:=hb'
   rfl)
  rwa [decide_eq_true rfl] at this
 ·obtain ⟨c,n,ds,rl,rss,i,k,rfl,C,W,L,R,hst,nt,q⟩:=h;exact ⟨nt,c,n,ds,rl,rss,i,k,rfl,C,W,L,R,hst,nt,fun H' sm=>⟨sm,q⟩⟩
end
end My
namespace My
open PySem L2
theorem zv {ds:List WD} {n:Int} (h:∀ d ∈ ds,WOk n d) {y:Str} (hy:¬ ((1 <= y.length/\y.length <= 8)/\∀ c ∈ y.cps.toList,97 <= c/\c <= 122)):∀ d ∈ ds,d.name ≠ y:=fun d hd e=>hy (by rw [<- e];exact Mc (h d hd).nm)
noncomputable def yD (K:W.Frag):Sp:=fun vs H Q _=>∃ (a:Addr) (ns:List Int) (n:Int) (wl:Addr) (ds:List WD),vs=[.ref a,.ref wl]/\ns.length <= 63/\SqL K H a (ns.map V.int)/\LW H wl ds/\(∀ d ∈ ds,WOk n d)/\(1 <= ds.length/\ds.length <= 8)/\NoT H/\∀ y,PlainL y->(∀ d ∈ ds,d.name ≠ y)->Q (.str y) H
noncomputable def uF (K:W.Frag):Sp:=fun vs H Q _=>∃ (a:Addr) (ns:List Int) (n:Int) (wl:Addr) (ds:List WD),vs=[.ref a,.ref wl]/\ns.length <= 63/\SqL K H a (ns.map V.int)/\LW H wl ds/\(∀ d ∈ ds,WOk n d)/\(1 <= ds.length/\ds.length <= 8)/\NoT H/\∀ y H',bc H H'->PlainL y->(∀ d ∈ ds,d.name ≠ y)->Q (.str y) H'
theorem Uz {α:Type} {xs:List α} {v:α} (h:xs[xs.length - 1]? = some v):atI xs (-1)=some v:=by
 have hl:=(List.getElem?_eq_some_iff.mp h).1;unfold atI;rw [show ixN xs.length (-1)=some (xs.length - 1) by unfold ixN;simp;omega];exact h
theorem Fz {ds:List WD} {n:Int} (h:∀ d ∈ ds,WOk n d) {y:Str} (l:List Nat) {c:Nat} (e:y.cps.toList=l) (hl:l.length <= 40) (hc:c ∈ l) (hn:¬ (97 <= c/\c <= 122)) (hp:(32:Nat) ∉ l/\(10:Nat) ∉ l):PlainL y/\∀ d ∈ ds,d.name ≠ y:=by
 refine ⟨⟨?_,by rw [e];exact hp.1,by rw [e];exact hp.2⟩,zv h fun z=>hn (z.2 c (by rw [e];exact hc))⟩;show y.cps.size <= 40;rw [<- Array.length_toList,e];exact hl
section
variable {P:Program} {w:World} {K:W.Frag} {mg:Str->Option Value} {base:Heap} {t:Adr}
theorem zJ (T:Txt w K mg t):Ub P w K mg base CX0 2 t.Jf t.dg q48 (yD K):=by
 refine Ub.forget (sp:=uF K) ?_ fun vs H Q E h=>?_
 ·have g8:Ub P w K mg base CX0 1 t.Md t.Pd q12 (El K):=Dn T;refine T.Eh.ok Wd (fun vs H Q E h=>?_) (fun _ _ _ s H vs Q E hr h=>?_)
  ·obtain ⟨a,ns,n,wl,ds,rfl,_⟩:=h;rfl
  obtain ⟨a,ns,n,wl,ds,rfl,h63,S,⟨ql,l1,l2,lal⟩,hok,hdl,nt,q⟩:=h;have hqn:(ql.map V.ref).length=ds.length:=by rw [length_map,l2]
  refine ⟨_,(db (uh (i:=2) Wd.nd rfl (Or.inl rfl) rfl (Dc (pv 1)) (dc (sc:=pb Ah) rfl (by decide +kernel)) (N:=["_law_way"]) (sel:=[none]) (Cc (M:=["_law_script","_law_ways_here","_law_known","_law_some","_law_name","_law_letter","_law_at_here"]) (by decide +kernel)) (Blk.of (fun _ _ _ _=>(Cb (i:=0) (se (N:=["_law_way"]) (by decide +kernel) rfl) rfl (Or.inl rfl))) (fun _ _ _ _=>⟨_,Fd,by walk_at "B"⟩) (fun _ _ _ _=>⟨_,(ic ie (pv 0) ib (fun _ _=>rfl)),by walk_at "B"⟩)) rfl)
   (db (Fb (i:=3) Wd.nd rfl (Or.inl rfl) (sd (cb Jb (cb (Pb xu Jb ib) (cb Jb (cb (Pb Ec Jb (fe jn (ic Yb (pv 2) ib (fun _ _=>rfl)) (Ke ib) lf)) (cb (Pb Ec (ic Yb (pv 2) ib (fun _ _=>rfl)) Jb) (cb (Pb Ec (ic Yb (pv 2) (uN KL ib) (fun _ _=>rfl)) Jb) fb))))))))
   (db (Gd (Ob ve (vb g8 hr rfl T.wb T.ub.kp T.xb .nil Db (cb (pv 0) (cb ib (cb ib fb)))) ib (Sb _)) (db (Fb (i:=4) Wd.nd rfl (Or.inl rfl) (ic Yb (pv 2) (vb g8 hr rfl T.wb T.ub.kp T.xb .nil Db (cb (pv 0) (cb ib (cb (Vb Ib rfl T.Bf Rb (cb (pv 2) fb)) fb)))) (fun _ _=>rfl)))
   (db (Fb (i:=5) Wd.nd rfl (Or.inl rfl) (ic pz Jb (vb g8 hr rfl T.wb T.ub.kp T.xb .nil Db (cb (pv 0) (cb ib (cb ib fb)))) (fun _ _=>rfl)))
   (db (Fb (i:=6) Wd.nd rfl (Or.inl rfl) (vb g8 hr rfl T.wb T.ub.kp T.xb .nil Db (cb (pv 0) (cb ib (cb (Vb Ro rfl T.Bf Rb (cb (pv 4) fb)) fb)))))
   (lb (Gd (Ob Jg (Pb Ec (Pb Ec (fe jn (pv 4) lf (Ke (pv 6))) (pv 5)) (fe jn (pv 4) (Ke (Pb Pc (pv 6) ib)) lf)) (pv 2) (by with_unfolding_all rfl)) (lb (Qb (Pb Ec (Pb Ec (fe jn (pv 4) lf (Ke (pv 6))) (pv 5)) (fe jn (pv 4) (Ke (Pb Pc (pv 6) ib)) lf)))) fc))))) fc)
   (lb (Qb (ic Yb (pv 3) (vb g8 hr rfl T.wb T.ub.kp T.xb .nil Db (cb (pv 0) (cb ib (cb ib fb)))) (fun _ _=>rfl))))))),?_⟩
  refine zS (fun σ' H'=>bc H H'/\NoT H'/\∃ kp,H' kp=some (.lst (qb (ds.map (·.name))))/\σ'=[some (.ref a),some (.ref wl),some (.ref kp),none,none,none,none]) (fun D' hD=>?_) fun zzM zzh=>?_
  ·walk_at "RD";refine ⟨⟨_,SqL.of l1⟩,?_⟩;refine jd.list_zs (xs:=ql.map V.ref) (zs:=qb (ds.map (·.name))) (SqL.of l1) (by rw [hqn];exact Nat.le_trans hdl.2 (by decide)) (by rw [yb,length_map,hqn]) (fun i v z N hv hz hN=>?_) (fun pn hpn=>hD _ _ ⟨jb hpn,nt.upd,pn,gb,rfl⟩);obtain ⟨q',hq',rfl⟩:=Mb hv;obtain ⟨x,hx,rfl⟩:=Mb hz;obtain ⟨d,hd,rfl⟩:=Mb hx;walk_at "RD";exact ⟨Sub.name,_,SqT.of (lal i q' d hq' hd),_,Eb (j:=1) rfl,hN⟩
  rintro σ1 H1 ⟨s1,n1,kp,w1,rfl⟩;obtain ⟨d0,hd0⟩:∃ d,ds[0]? = some d:=⟨_,getElem?_eq_getElem (show 0 < ds.length by omega)⟩;obtain ⟨dz,hdz⟩:∃ d,ds[ds.length - 1]? = some d:=⟨_,getElem?_eq_getElem (show ds.length - 1 < ds.length by omega)⟩;subst zzh;refine zS (fun σ' H'=>bc H H'/\NoT H'/\H' kp=some (.lst (qb (ds.map (·.name))))/\∃ sp xs,H' sp=some (.lst (qb xs))/\xs.length=6/\(∀ y ∈ xs,PlainL y/\∀ d ∈ ds,d.name ≠ y)/\σ'=[some (.ref a),some (.ref wl),some (.ref kp),some (.ref sp),none,none,none]) (fun D' hD=>?_) fun zzM zzh=>?_
  ·have m0:=Mc (hok d0 (mem_of_getElem? hd0)).nm;have mz:=Mc (hok dz (mem_of_getElem? hdz)).nm;have c0:d0.name.cps.toList.length <= 8/\1 <= d0.name.cps.toList.length:=⟨by rw [Array.length_toList];exact m0.1.2,by rw [Array.length_toList];exact m0.1.1⟩;have cz:dz.name.cps.toList.length <= 8:=by rw [Array.length_toList];exact mz.1.2
   have a0:atI (qb (ds.map (·.name))) 0=some (.str d0.name):=Eb (j:=0) (ke (by rw [getElem?_map,hd0];rfl));have az:atI (qb (ds.map (·.name))) (-1)=some (.str dz.name):=Uz (ke (by rw [yb,length_map,getElem?_map,hdz];rfl));have sl:(Txt.slice d0.name (some 1) none).cps.toList=d0.name.cps.toList.drop 1:=Do d0.name (a:=1) c0.2;have sll:(Txt.slice d0.name (some 1) none).length <= 8:=by
    show (Txt.slice d0.name (some 1) none).cps.size <= 8;rw [<- Array.length_toList,sl,length_drop];omega
   have bigT:∀ k:Nat,k <= 1000->k <= sizeLine:=fun k h=>Nat.le_trans h (by decide)
   have lA:(Str.ofString "A").length=1:=by decide +kernel
   have l1':(Str.ofString "1").length=1:=by decide +kernel
   have lc:(Str.ofString ",").length=1:=by decide +kernel
   walk_at "RD";refine ⟨⟨by decide,fun _ _=>by decide +kernel,fun _ _=>by decide +kernel⟩,_,SqL.of w1,_,a0,_,rfl,bigT _ (by omega),bigT _ (by omega),_,SqL.of w1,_,a0,_,rfl,bigT _ (by omega),_,SqL.of w1,_,az,_,rfl,bigT _ (by omega),by decide,fun p hp=>hD _ _ ⟨s1.trans (jb hp),n1.upd,(jb hp) _ _ w1,p,[Str.ofString "",Txt.mul (Str.ofString "q") 9,Str.ofString "STAGE",Str.ofString "A" ++ Txt.slice d0.name (some 1) none,d0.name ++ Str.ofString "1",dz.name ++ Str.ofString ","],gb,rfl,fun y hy=>?_,rfl⟩⟩;have nm:∀ {x:Str} {c:Nat},(∀ c ∈ x.cps.toList,97 <= c/\c <= 122)->c < 97->c ∉ x.cps.toList:=fun h hc z=>by
    have:=h _ z;omega
   simp only [mem_cons,not_mem_nil,or_false] at hy;rcases hy with rfl | rfl | rfl | rfl | rfl | rfl
   ·exact ⟨by unfold PlainL;decide +kernel,zv hok fun z=>absurd z.1.1 (by decide +kernel)⟩
   ·exact ⟨by unfold PlainL;decide +kernel,zv hok fun z=>absurd z.1.2 (by decide +kernel)⟩
   ·exact Fz hok [83,84,65,71,69] (c:=83) (by decide +kernel) (by decide) (by decide) (by decide) (by decide)
   ·refine Fz hok (65 :: d0.name.cps.toList.drop 1) (c:=65) (by rw [Str.cps_append,Array.toList_append,sl];rfl) (by rw [length_cons,length_drop];omega) (mem_cons_self ..) (by decide) ⟨fun z=>?_,fun z=>?_⟩
    ·rcases List.mem_cons.mp z with z | z
     ·omega
     ·exact nm m0.2 (by decide) (mem_of_mem_drop z)
    ·rcases List.mem_cons.mp z with z | z
     ·omega
     ·exact nm m0.2 (by decide) (mem_of_mem_drop z)
   ·refine Fz hok (d0.name.cps.toList ++ [49]) (c:=49) (by rw [Str.cps_append,Array.toList_append];rfl) (by rw [length_append];show _ + 1 <= 40;omega) (mem_append_right _ (List.mem_singleton.mpr rfl)) (by decide) ⟨fun z=>?_,fun z=>?_⟩
    ·rcases List.mem_append.mp z with z | z
     ·exact nm m0.2 (by decide) z
     ·simp at z
    ·rcases List.mem_append.mp z with z | z
     ·exact nm m0.2 (by decide) z
     ·simp at z
   ·refine Fz hok (dz.name.cps.toList ++ [44]) (c:=44) (by rw [Str.cps_append,Array.toList_append];rfl) (by rw [length_append];show _ + 1 <= 40;omega) (mem_append_right _ (List.mem_singleton.mpr rfl)) (by decide) ⟨fun z=>?_,fun z=>?_⟩
    ·rcases List.mem_append.mp z with z | z
     ·exact nm mz.2 (by decide) z
     ·simp at z
    ·rcases List.mem_append.mp z with z | z
     ·exact nm mz.2 (by decide) z
     ·simp at z
  rintro σ2 H2 ⟨s2,n2,w2,sp,xs,v2,hx6,hxs,rfl⟩;have S2:=S.same s2;subst zzh;simp only [Ab];refine Gb (fun σ' H'=>H'=H2/\∃ y4 y5 y6,σ'=[some (.ref a),some (.ref wl),some (.ref kp),some (.ref sp),y4,y5,y6]) (fun D' hD hrt _ _=>?_) ?_
  ·refine ac (decide (Od ns 201 2=0)) (fun Q hQ=>?_) (fun z=>?_) (fun z=>?_)
   ·walk_at "RD";refine ⟨a,ns,_,_,rfl,h63,S2,⟨by decide,by decide⟩,by decide,rfl,?_⟩;rw [show decide (V.int (Od ns 201 2)=V.int 0)=decide (Od ns 201 2=0) from decide_eq_decide.mpr (by simp)];exact hQ
   ·have e1:=xc ns 202 (m:=(ds.length:Int)) (by omega);have e2:=wc ns 202 (m:=(ds.length:Int)) (by omega);obtain ⟨u,hu⟩:∃ u:Nat,Od ns 202 (ds.length:Int)=(u:Int):=⟨_,(Int.toNat_of_nonneg e1).symm⟩;have hdu:ds[u]? = some (ds[u]'(by omega)):=getElem?_eq_getElem _;generalize ds[u]'(by omega)=d at hdu;simp only [Ab];refine zzC (fun σ' H'=>H'=H2/\σ'=[some (.ref a),some (.ref wl),some (.ref kp),some (.ref sp),some (.str d.name),none,none]) (fun D2 hD2=>?_) fun zzM zzh=>?_
    ·walk_at "RD";refine ⟨_,.inl (SqL.of w2),?_⟩;rw [yb,length_map];refine ⟨a,ns,_,_,rfl,h63,S2,⟨by decide,by decide⟩,by omega,?_⟩;rw [hu];exact ⟨_,_,rfl,SqL.of w2,_,Eb (ke (by rw [getElem?_map,hdu];rfl)),hD2 _ _ ⟨rfl,rfl⟩⟩
    rintro σ3 H3 ⟨rfl,rfl⟩;have md:=Mc (hok d (mem_of_getElem? hdu)).nm;have hnl:d.name.cps.toList.length=d.name.length:=Array.length_toList;obtain ⟨c,hc,hcc⟩:=oE (xc ns 203 (m:=26) (by decide)) (wc ns 203 (m:=26) (by decide));have c26:=wc ns 203 (m:=26) (by decide);have c0:=xc ns 203 (m:=26) (by decide);subst zzh;simp only [Ab];refine zzC (fun σ' H'=>H'=H3/\σ'=[some (.ref a),some (.ref wl),some (.ref kp),some (.ref sp),some (.str d.name),some (.str (Cs c)),none]) (fun D2 hD2=>?_) fun zzM zzh=>?_
    ·walk_at "RD";exact ⟨a,ns,_,_,rfl,h63,S2,⟨by decide,by decide⟩,by decide,_,rfl,by decide +kernel,_,hc,hD2 _ _ ⟨rfl,rfl⟩⟩
    rintro σ4 H4 ⟨rfl,rfl⟩;have f1:=xc ns 204 (m:=(d.name.length:Int)) (by omega);have f2:=wc ns 204 (m:=(d.name.length:Int)) (by omega);obtain ⟨v,hv⟩:∃ v:Nat,Od ns 204 (d.name.length:Int)=(v:Int):=⟨_,(Int.toNat_of_nonneg f1).symm⟩;subst zzh;simp only [Ab];refine zzC (fun σ' H'=>H'=H4/\σ'=[some (.ref a),some (.ref wl),some (.ref kp),some (.ref sp),some (.str d.name),some (.str (Cs c)),some (.int (v:Nat))]) (fun D2 hD2=>?_) fun zzM zzh=>?_
    ·walk_at "RD";refine ⟨Nat.le_trans md.1.2 (by decide),a,ns,_,_,rfl,h63,S2,⟨by decide,by decide⟩,by omega,?_⟩;rw [hv];exact hD2 _ _ ⟨rfl,rfl⟩
    rintro σ5 H5 ⟨rfl,rfl⟩;obtain ⟨y,hy⟩:∃ y:Str,y=Txt.slice d.name none (some (v:Int)) ++ Cs c ++ Txt.slice d.name (some ((v:Int) + 1)) none:=⟨_,rfl⟩;have hyl:y.cps.toList=d.name.cps.toList.take v ++ [c] ++ d.name.cps.toList.drop (v + 1):=by
     rw [hy,Str.cps_append,Array.toList_append,Str.cps_append,Array.toList_append,Tp d.name (by omega),show ((v:Int) + 1)=((v + 1:Nat):Int) by omega,Do d.name (by omega)];rfl
    have hya:∀ c' ∈ y.cps.toList,97 <= c'/\c' <= 122:=fun c' hc'=>by
     rw [hyl] at hc';rcases List.mem_append.mp hc' with z | z
     ·rcases List.mem_append.mp z with z | z
      ·exact md.2 c' (mem_of_mem_take z)
      ·rw [List.mem_singleton.mp z];omega
     ·exact md.2 c' (mem_of_mem_drop z)
    have hyp:PlainL y:=by
     refine ⟨?_,fun z=>absurd (hya _ z).1 (by decide),fun z=>absurd (hya _ z).1 (by decide)⟩;show y.cps.size <= 40;rw [<- Array.length_toList,hyl,length_append,length_append,length_take,length_drop];show _ + 1 + _ <= 40;omega
    subst zzh;dsimp only;have ln8:d.name.length <= sizeLine:=Nat.le_trans md.1.2 (by decide);have bigT:∀ k:Nat,k <= 1000->k <= sizeLine:=fun k h=>Nat.le_trans h (by decide)
    have g1:=Txt.slice_le d.name none (some (v:Int));have g2:=Txt.slice_le d.name (some ((v:Int) + 1)) none;have g3:(Cs c).length=1:=rfl;refine ac (!decide (y ∈ ds.map (·.name))) (fun Q hQ=>?_) (fun zz=>?_) (fun zz=>?_)
    ·walk_at "RD";refine ⟨ln8,bigT _ (by omega),ln8,bigT _ (by rw [Ug];omega),_,.inl (SqL.of w2),rfl,jg _,?_⟩;rw [<- hy,Kj];exact hQ
    ·walk_at "RD";refine ⟨ln8,bigT _ (by omega),ln8,bigT _ (by rw [Ug];omega),?_⟩;rw [hrt,<- hy];refine q y _ s2 hyp fun d' hd' e=>?_
     rw [Bool.not_eq_true',decide_eq_false_iff_not] at zz;exact zz (List.mem_map.mpr ⟨d',hd',e⟩)
    ·simp only [Qc];exact hD _ _ ⟨rfl,_,_,_,rfl⟩
   ·simp only [Qc];exact hD _ _ ⟨rfl,_,_,_,rfl⟩
  rintro σ3 H3 zzq;refine zP fun zzM zzh=>?_
  obtain ⟨rfl,y4,y5,y6,rfl⟩:=zzq;have e1:=xc ns 205 (m:=6) (by decide);have e2:=wc ns 205 (m:=6) (by decide);obtain ⟨u,hu⟩:∃ u:Nat,Od ns 205 6=(u:Int):=⟨_,(Int.toNat_of_nonneg e1).symm⟩;have hxu:xs[u]? = some (xs[u]'(by omega)):=getElem?_eq_getElem _;obtain ⟨p1,p2⟩:=hxs _ (mem_of_getElem? hxu);subst zzh;walk_at "RD";refine ⟨a,ns,_,_,rfl,h63,S2,⟨by decide,by decide⟩,by decide,?_⟩;rw [hu];exact ⟨_,_,rfl,SqL.of v2,_,Eb (ke hxu),q _ _ s2 p1 p2⟩
 ·obtain ⟨a,ns,n,wl,ds,rfl,h63,S,L,hok,hdl,nt,q⟩:=h;exact ⟨nt,a,ns,n,wl,ds,rfl,h63,S,L,hok,hdl,nt,fun y H' sm h1 h2=>⟨sm,q y h1 h2⟩⟩
end
end My
namespace My
open PySem L2
structure LRq (H0 H:Hp) (rl:Addr) (qs:List Addr) (rss:List (List Str)):Prop where
 h1:H rl=some (.lst (qs.map V.ref))
 h2:qs.length=rss.length
 h3:∀ (i j:Nat) (q:Addr),qs[i]? = some q->qs[j]? = some q->i=j
 h4:rl ∉ qs
 h5:∀ (j:Nat) (q:Addr) (r:List Str),qs[j]? = some q->rss[j]? = some r->H q=some (.lst (qb r))
 h6:∀ q ∈ qs,H0 q=none
 h7:H0 rl=none
theorem LRq.same {H0 H H':Hp} {rl:Addr} {qs:List Addr} {rss:List (List Str)} (h:LRq H0 H rl qs rss) (s:bc H H'):LRq H0 H' rl qs rss:=
 ⟨s _ _ h.h1,h.h2,h.h3,h.h4,fun i q g a b=>s _ _ (h.h5 i q g a b),h.h6,h.h7⟩
theorem LRq.lr {H0 H:Hp} {rl:Addr} {qs:List Addr} {rss:List (List Str)} (h:LRq H0 H rl qs rss):LR H rl rss:=⟨qs,h.h1,h.h2,h.h5⟩
theorem LRq.put {H0 H:Hp} {rl q:Addr} {rss:List (List Str)} {j:Nat} {r':List Str} {qs:List Addr} (h:LRq H0 H rl qs rss) (hq:qs[j]? = some q):LRq H0 (upd H q (.lst (qb r'))) rl qs (rss.set j r'):=by
 obtain ⟨h1,h2,h3,h4,h5,h6,h7⟩:=h;have hj:j < rss.length:=by rw [<- h2];exact (List.getElem?_eq_some_iff.mp hq).1
 have hqg:rl ≠ q:=fun z=>h4 (by rw [z];exact mem_of_getElem? hq)
 refine ⟨by rw [zb hqg];exact h1,by rw [length_set];exact h2,h3,h4,fun i r g a b=>?_,h6,h7⟩;by_cases c:i=j
 ·subst c;rw [hq] at a;cases a;rw [getElem?_set_self hj] at b;cases b;exact gb
 ·rw [getElem?_set_ne (fun e=>c e.symm)] at b;rw [zb (fun e=>c (h3 i j q (by rw [<- e];exact a) hq))];exact h5 i r g a b
theorem LRq.set {H0 H:Hp} {rl p:Addr} {rss:List (List Str)} {j:Nat} {r':List Str} {qs:List Addr} (h:LRq H0 H rl qs rss) (hj:j < qs.length) (hp:H p=some (.lst (qb r'))) (h0:H0 p=none) (hpr:p ≠ rl) (hpq:p ∉ qs):LRq H0 (upd H rl (.lst ((qs.set j p).map V.ref))) rl (qs.set j p) (rss.set j r'):=by
 obtain ⟨h1,h2,h3,h4,h5,h6,h7⟩:=h;have gt:∀ (i:Nat) (q:Addr),(qs.set j p)[i]? = some q->(i=j/\q=p)\/(i ≠ j/\qs[i]? = some q):=fun i q a=>by
  by_cases c:i=j
  ·subst c;rw [getElem?_set_self hj] at a;exact .inl ⟨rfl,(Option.some.inj a).symm⟩
  ·rw [getElem?_set_ne (fun e=>c e.symm)] at a;exact .inr ⟨c,a⟩
 refine ⟨gb,by rw [length_set,length_set];exact h2,fun i i' q a b=>?_,fun z=>?_,fun i q r a b=>?_,fun q hq=>?_,h7⟩
 ·rcases gt i q a with ⟨e1,e2⟩ | ⟨e1,e2⟩
  ·rcases gt i' q b with ⟨f1,f2⟩ | ⟨f1,f2⟩
   ·omega
   ·exact absurd (mem_of_getElem? (by rw [<- e2];exact f2)) hpq
  ·rcases gt i' q b with ⟨f1,f2⟩ | ⟨f1,f2⟩
   ·exact absurd (mem_of_getElem? (by rw [<- f2];exact e2)) hpq
   ·exact h3 i i' q e2 f2
 ·rcases mem_or_eq_of_mem_set z with z | z
  ·exact h4 z
  ·exact hpr z.symm
 ·rcases gt i q a with ⟨rfl,rfl⟩ | ⟨e1,e2⟩
  ·rw [getElem?_set_self (by rw [<- h2];exact hj)] at b;cases b;rw [zb hpr];exact hp
  ·rw [getElem?_set_ne (fun e=>e1 e.symm)] at b;rw [zb (fun e=>h4 (by rw [<- e];exact mem_of_getElem? e2))];exact h5 i q r e2 b
 ·rcases mem_or_eq_of_mem_set hq with z | z
  ·exact h6 q z
  ·rw [z];exact h0
theorem kH {xs:List V} {k:Nat} (h:k <= xs.length):Kt xs (some ((k:Nat):Int)) none=xs.drop k:=by
 unfold Kt;rw [HT.sIx_nat,Nat.min_eq_left h,HT.sIx_none,take_of_length_le (by rw [length_drop];exact Nat.le_refl _)]
theorem fK {xs:List V} {j k:Nat} (hj:j <= k) (h:k <= xs.length):Kt xs (some ((j:Nat):Int)) (some ((k:Nat):Int))=(xs.drop j).take (k - j):=by
 unfold Kt;rw [HT.sIx_nat,HT.sIx_nat,Nat.min_eq_left h,Nat.min_eq_left (Nat.le_trans hj h)]
noncomputable def RwG (ws:List Str):Prop:=ws ≠ []/\ws.length <= 12/\∀ x ∈ ws,PlainL x
noncomputable def Df (ds:List WD) (sts:List SX):List Str:=(sts.map (pf ds)).flatten
theorem dA {ds:List WD} {sts:List SX} {i:Nat} {y:Str} (h:y ∈ Df ds (sts.take i)):y ∉ Je ds (pe ds (sts.take i)):=by
 intro z;obtain ⟨l,hl,hy⟩:=List.mem_flatten.mp h;obtain ⟨s,hs,rfl⟩:=List.mem_map.mp hl;have:=(List.mem_filter.mp z).2;rw [show told (pe ds (sts.take i)) y=true from List.any_eq_true.mpr ⟨zI ds s,List.mem_map.mpr ⟨s,hs,rfl⟩,by simpa [zI] using hy⟩] at this;cases this
theorem P30.sgLen {n:Int} {ds:List WD} {sts:List SX} (h:P30 n ds sts) {s:SX} (hs:s ∈ sts):1 <= s.ix.length/\s.ix.length <= 6/\(Lb ds s).length=3 + s.ix.length/\(pf ds s).length=s.ix.length:=by
 have hm:s.ix ∈ sts.map (·.ix):=List.mem_map.mpr ⟨s,hs,rfl⟩;have h1:=h.s30.sg.glen hm;have h2:=h.l6;have h3:=List.length_pos_iff.mpr (h.s30.sg.ne _ hm);have h4:(pf ds s).length=s.ix.length:=by unfold pf;rw [length_map]
 refine ⟨h3,by omega,?_,h4⟩;unfold Lb;rw [length_append,h4];rfl
theorem CH (pp:WD->Bool):∀ ds:List WD,((ds.map fun d=>if pp d=true then some (V.str d.name) else none).flatMap Option.toList)=qb ((ds.filter pp).map (·.name))
 | []=>rfl
 | d :: ds=>by
  rw [map_cons,flatMap_cons,CH pp ds,List.filter_cons];by_cases c:pp d=true
  ·rw [if_pos c,if_pos c];rfl
  ·rw [if_neg c,if_neg c];rfl
noncomputable def lz (K:W.Frag):Sp:=fun vs H Q _=>∃ (a:Addr) (ns:List Int) (n:Int) (wl:Addr) (ds:List WD) (sts:List SX) (rl:Addr) (qs:List Addr) (H0:Hp) (i:Nat),vs=[.ref a,.ref wl,.ref rl,.int i]/\ns.length <= 63/\SqL K H0 a (ns.map V.int)/\LW H0 wl ds/\P30 n ds sts/\bc H0 H/\LRq H0 H rl qs (Zb ds sts)/\i < sts.length/\NoT H /\
 ∀ (k:Nat) ws qs' H',bc H0 H'->NoT H'->LRq H0 H' rl qs' ((Zb ds sts).set i ws)->RwG ws->(∀ tl,tl=[]\/tl=[Str.ofString ""]->De ds (pe ds (sts.take i)) (ws ++ tl)=.error k)->Q (.int k) H'
section
variable {P:Program} {w:World} {K:W.Frag} {mg:Str->Option Value} {base:Heap} {t:Adr}
theorem fL (T:Txt w K mg t):Ub P w K mg base CX0 3 t.ef t.df q15 (lz K):=by
 have g8:Ub P w K mg base CX0 2 t.Md t.Pd q12 (El K):=(Dn T).mono (by decide);have g62:Ub P w K mg base CX0 2 t.Jf t.dg q48 (yD K):=zJ T;refine T.ig.ok jc (fun vs H Q E h=>?_) (fun _ _ _ s H vs Q E hr h=>?_)
 ·obtain ⟨a,ns,n,wl,ds,sts,rl,qs,H0,i,rfl,_⟩:=h;rfl
 obtain ⟨a,ns,n,wl,ds,sts,rl,qs,H0,i,rfl,h63,S,L,X,s0,R,hi,nt,q⟩:=h;obtain ⟨ql,l1,l2,lal⟩:=id L;have hqn:(ql.map V.ref).length=ds.length:=by rw [length_map,l2]
 have hst:sts[i]? = some sts[i]:=getElem?_eq_getElem hi;generalize sts[i]=sg at hst;have hsm:=mem_of_getElem? hst;obtain ⟨g1,g2,g3,g4⟩:=X.sgLen hsm;have hrow:(Zb ds sts)[i]? = some (Lb ds sg):=by unfold Zb;rw [getElem?_map,hst];rfl
 have hrl:(Zb ds sts).length=sts.length:=by unfold Zb;rw [length_map]
 have hqi:qs[i]? = some (qs[i]'(by rw [R.h2,hrl];exact hi)):=getElem?_eq_getElem _;generalize qs[i]'(by rw [R.h2,hrl];exact hi)=pq at hqi;have epq:=R.h5 i pq _ hqi hrow;have apq:=Eb (xs:=qs.map V.ref) (j:=i) (by rw [getElem?_map,hqi];rfl);have S1:=S.same s0;have e1:=xc ns 212 (m:=(sg.ix.length:Int) + 1) (by omega);have e2:=wc ns 212 (m:=(sg.ix.length:Int) + 1) (by omega);obtain ⟨u,hu⟩:∃ u:Nat,Od ns 212 ((sg.ix.length:Int) + 1)=(u:Int):=⟨_,(Int.toNat_of_nonneg e1).symm⟩;refine ⟨_,(db (Fb (i:=4) jc.nd rfl (Or.inl rfl) (vb g8 hr rfl T.wb T.ub.kp T.xb .nil Db (cb (pv 0) (cb ib (cb ib fb)))))
   (db (Fb (i:=5) jc.nd rfl (Or.inl rfl) (ic Yb (pv 2) (pv 3) (fun _ _=>rfl)))
   (db (Fb (i:=6) jc.nd rfl (Or.inl rfl) (Pb Pc ib (vb g8 hr rfl T.wb T.ub.kp T.xb .nil Db (cb (pv 0) (cb ib (cb (Pb ck (Vb Ib rfl T.Bf Rb (cb (pv 5) fb)) ib) fb))))))
   (db (Fb (i:=7) jc.nd rfl (Or.inr rfl) (sd fb))
   (db (Re PassesOwn.never rfl (Dc (fe Fm (pv 2) lf (Ke (pv 3)))) (Cb (i:=8) jc.nd rfl (Or.inl rfl)) (lb (Fb (i:=7) jc.nd rfl (Or.inr rfl) (Pb nw (pv 7) (fe Fm (pv 8) (Ke ib) lf)))))
   (db (Fb (i:=9) jc.nd rfl (Or.inr rfl) (Dd ve (ic ie (ic Yb (pv 1) (Se PySem.F.plainAttrs_list PySem.F.slot_list_index PySem.F.type_list_index CD (Qd rfl (Dc (pv 1)) (dc (sc:=pb gf) rfl (by decide +kernel)) (N:=q18) (sel:=[none]) (Cc (M:=q56) (by decide +kernel)) (Blk.of (fun _ _ _ _=>(Cb (i:=0) (se (N:=q18) (by decide +kernel) rfl) rfl (Or.inl rfl))) (fun _ _ _ _=>⟨_,Fd,by walk_at "B"⟩) (fun _ _ _ _=>⟨_,(ic ie (pv 0) ib (fun _ _=>rfl)),by walk_at "B"⟩))) (cb (ic Yb (pv 5) ib (fun _ _=>rfl)) fb)) (fun _ _=>rfl)) ib (fun _ _=>rfl)) Jb (Sb _)))
   (db (uh (i:=10) jc.nd rfl (Or.inl rfl) rfl (Dc (pv 1)) (dc (sc:=pb gf) rfl (by decide +kernel)) (N:=["_law_one","_law_tram","_law_ahead"]) (sel:=[none,some 9,some 7]) (Cc (M:=q56) (by decide +kernel)) (Blk.of (fun _ _ _ _=>(Cb (i:=0) (se (N:=["_law_one","_law_tram","_law_ahead"]) (by decide +kernel) rfl) rfl (Or.inl rfl))) (fun _ _ _ _=>⟨_,(Gq (PW.pt (Ol (Ob Ly (Dd ve (ic ie (pv 0) ib (fun _ _=>rfl)) Jb (Sb _)) (pv 1) (Sb _)) (Cj (Ob Jg (ic ie (pv 0) ib (fun _ _=>rfl)) (pv 2) (by with_unfolding_all rfl)))))),by walk_at "B"⟩) (fun _ _ _ _=>⟨_,(ic ie (pv 0) ib (fun _ _=>rfl)),by walk_at "B"⟩)) rfl)
   (db (Gd (PW.pt (Ol (Ob ve (pv 4) ib (Sb _)) (Cj (PW.pt (wy (Ob mq (Vb Ib rfl T.Bf Rb (cb (pv 7) fb)) ib (Sb _)) (nu (Ob mq (pv 6) ib (Sb _)))))))) (db (Fb (i:=7) jc.nd rfl (Or.inr rfl) (Pb nw (pv 7) (fe Fm (pv 5) (Ke ib) (Ke (pv 6)))))
   (lb (nc (Se PySem.F.plainAttrs_list PySem.F.slot_list_insert PySem.F.type_list_insert Tk (pv 5) (cb (pv 6) (cb (ic Yb (pv 7) (vb g8 hr rfl T.wb T.ub.kp T.xb .nil Db (cb (pv 0) (cb ib (cb (Vb Ib rfl T.Bf Rb (cb (pv 7) fb)) fb)))) (fun _ _=>rfl)) fb)))))) (lb (Gd (PW.pt (Ol (Ob ve (pv 4) ib (Sb _)) (Ol (Ob mq (Vb Ib rfl T.Bf Rb (cb (pv 10) fb)) ib (Sb _)) (Cj (Ob mq (pv 6) ib (Sb _)))))) (lb (nc (Se PySem.F.plainAttrs_list PySem.F.slot_list_insert PySem.F.type_list_insert Tk (pv 5) (cb (pv 6) (cb (ic Yb (pv 10) (vb g8 hr rfl T.wb T.ub.kp T.xb .nil Db (cb (pv 0) (cb ib (cb (Vb Ib rfl T.Bf Rb (cb (pv 10) fb)) fb)))) (fun _ _=>rfl)) fb))))) (lb (nc (Se PySem.F.plainAttrs_list PySem.F.slot_list_insert PySem.F.type_list_insert Tk (pv 5) (cb (pv 6) (cb (vb g62 hr rfl T.Qr T.Eh.kp T.yr .nil Db (cb (pv 0) (cb (pv 1) fb))) fb))))))))
   (lb (Qb (pv 6))))))))))),?_⟩
 refine zS (fun σ' H'=>H'=H/\σ'=[some (.ref a),some (.ref wl),some (.ref rl),some (.int i),some (.int (Od ns 211 3)),none,none,none,none,none,none]) (fun D' hD=>?_) fun zzM zzh=>?_
 ·walk_at "RD";exact ⟨a,ns,_,_,rfl,h63,S1,⟨by decide,by decide⟩,by decide,hD _ _ ⟨rfl,rfl⟩⟩
 rintro σ1 H1 ⟨rfl,rfl⟩;subst zzh;refine zS (fun σ' H'=>H'=H1/\σ'=[some (.ref a),some (.ref wl),some (.ref rl),some (.int i),some (.int (Od ns 211 3)),some (.ref pq),none,none,none,none,none]) (fun D' hD=>?_) fun zzM zzh=>?_
 ·walk_at "RD";exact ⟨_,SqL.of R.h1,_,apq,hD _ _ ⟨rfl,rfl⟩⟩
 rintro σ1 H1 ⟨rfl,rfl⟩;subst zzh;refine zS (fun σ' H'=>H'=H1/\σ'=[some (.ref a),some (.ref wl),some (.ref rl),some (.int i),some (.int (Od ns 211 3)),some (.ref pq),some (.int ((3 + u:Nat):Int)),none,none,none,none]) (fun D' hD=>?_) fun zzM zzh=>?_
 ·walk_at "RD";refine ⟨_,.inl (SqL.of epq),?_⟩;rw [yb,g3,show (((3 + sg.ix.length:Nat):Int) - 2)=(sg.ix.length:Int) + 1 by omega];refine ⟨a,ns,_,_,rfl,h63,S1,⟨by decide,by decide⟩,by omega,_,rfl,?_⟩;rw [hu,show (3:Int) + (u:Int)=((3 + u:Nat):Int) by omega];exact hD _ _ ⟨rfl,rfl⟩
 rintro σ1 H1 ⟨rfl,rfl⟩;subst zzh;refine zS (fun σ' H'=>bc H1 H'/\NoT H'/\∃ ap,H' ap=some (.lst (qb (Df ds (sts.take 0))))/\σ'=[some (.ref a),some (.ref wl),some (.ref rl),some (.int i),some (.int (Od ns 211 3)),some (.ref pq),some (.int ((3 + u:Nat):Int)),some (.ref ap),none,none,none]) (fun D' hD=>?_) fun zzM zzh=>?_
 ·walk_at "RD";exact ⟨Nat.zero_le _,fun ap hap=>hD _ _ ⟨jb hap,nt.upd,ap,gb,rfl⟩⟩
 rintro σ2 H2 ⟨s2,n2,ap0,w2,rfl⟩;subst zzh;refine zS (fun σ' H'=>bc H1 H'/\NoT H'/\(Df ds (sts.take i)).length <= 6 * i/\∃ ap,H' ap=some (.lst (qb (Df ds (sts.take i))))/\∃ x8,σ'=[some (.ref a),some (.ref wl),some (.ref rl),some (.int i),some (.int (Od ns 211 3)),some (.ref pq),some (.int ((3 + u:Nat):Int)),some (.ref ap),x8,none,none]) (fun D' hD=>?_) fun zzM zzh=>?_
 ·have hil:i <= (qs.map V.ref).length:=by rw [length_map,R.h2,hrl];omega
  walk_at "RD";refine ⟨_,SqL.of (s2 _ _ R.h1),fun p hp=>⟨⟨_,SqL.of gb⟩,?_⟩⟩;rw [RE hil];have sp:=s2.trans (jb (o:=.lst ((qs.map V.ref).take i)) hp);refine Uj.list (xs:=(qs.map V.ref).take i) (fun j σ H'=>bc (upd H2 p (.lst ((qs.map V.ref).take i))) H'/\NoT H'/\(Df ds (sts.take j)).length <= 6 * j/\∃ ap,H' ap=some (.lst (qb (Df ds (sts.take j))))/\∃ x8,σ=[some (.ref a),some (.ref wl),some (.ref rl),some (.int i),some (.int (Od ns 211 3)),some (.ref pq),some (.int ((3 + u:Nat):Int)),some (.ref ap),x8,none,none]) ⟨bc.refl _,n2.upd,Nat.zero_le _,ap0,(jb hp) _ _ w2,_,rfl⟩ (fun j σ H' hj ⟨s3,_⟩=>SqL.of (s3 _ _ gb)) ?_ ?_
  ·rintro j x σ H' hx zzq;refine zP fun zzM zzh=>?_
   obtain ⟨s3,n3,ha6,ap,w3,x8,rfl⟩:=zzq;have hji:j < i:=by
    have:=(List.getElem?_eq_some_iff.mp hx).1;rw [length_take] at this;omega
   subst zzh;rw [List.getElem?_take_of_lt hji] at hx;obtain ⟨q',hq',rfl⟩:=Mb hx;have hsj:sts[j]? = some (sts[j]'(by omega)):=getElem?_eq_getElem _;generalize sts[j]'(by omega)=sj at hsj;obtain ⟨k1,k2,k3,k4⟩:=X.sgLen (mem_of_getElem? hsj);have eq':=(sp.trans s3) _ _ (R.h5 j q' (Lb ds sj) hq' (by unfold Zb;rw [getElem?_map,hsj];rfl));have ec:Kt (qb (Lb ds sj)) (some 3) none=qb (pf ds sj):=by
    rw [show (3:Int)=((3:Nat):Int) from rfl,kH (by rw [yb,k3];omega)];rfl
   have ea:Df ds (sts.take (j + 1))=Df ds (sts.take j) ++ pf ds sj:=by
    unfold Df;rw [Zd hsj,map_append,List.flatten_append];simp
   walk_at "RD";refine ⟨_,SqL.of eq',fun p1 hp1=>?_⟩;rw [ec];refine ⟨_,(jb hp1) _ _ w3,_,gb,Nat.le_trans (show _ <= 100 by rw [yb,yb];have:=X.len;omega) (by decide),fun p2 hp2=>⟨(s3.trans (jb hp1)).trans (jb hp2),n3.upd.upd,by rw [ea,length_append];omega,p2,?_,rfl,_,rfl⟩⟩;rw [gb,ea];unfold qb;rw [map_append]
  ·rintro σ H' zzq;refine zP fun zzM zzh=>?_
   obtain ⟨s3,n3,ha6,ap,w3,x8,rfl⟩:=zzq;subst zzh;rw [length_take,Nat.min_eq_left hil] at ha6 w3;exact hD _ _ ⟨sp.trans s3,n3,ha6,ap,w3,_,rfl⟩
 rintro σ3 H3 ⟨s3,n3,ha6,ap,w3,x8,rfl⟩;have s03:=s0.trans s3;have S3:=S1.same s3;obtain ⟨f0,hf0⟩:∃ f0,sg.ix[0]? = some f0:=⟨_,getElem?_eq_getElem (show 0 < sg.ix.length by omega)⟩;have hf0d:f0 < ds.length:=X.lt hsm (mem_of_getElem? hf0);have hd0:ds[f0]? = some ds[f0]:=getElem?_eq_getElem hf0d;subst zzh;generalize ds[f0]=d0 at hd0;have hm0:(pf ds sg)[0]? = some d0.name:=by unfold pf;rw [getElem?_map,hf0];show some (nmI ds f0)=_;rw [Zh hd0]
 have hnm:∀ (j:Nat) (d:WD),ds[j]? = some d->(ds.map (·.name))[j]? = some d.name:=fun j d h=>by rw [getElem?_map,h];rfl
 refine zS (fun σ' H'=>bc H3 H'/\NoT H'/\∃ x8,σ'=[some (.ref a),some (.ref wl),some (.ref rl),some (.int i),some (.int (Od ns 211 3)),some (.ref pq),some (.int ((3 + u:Nat):Int)),some (.ref ap),x8,some (.bl (decide (d0.k=2))),none]) (fun D' hD=>?_) fun zzM zzh=>?_
 ·have k0:atI (ql.map V.ref) ((f0:Nat):Int)=some (.ref (ql[f0]'(by rw [l2];exact hf0d))):=Eb (by rw [getElem?_map,getElem?_eq_getElem (show f0 < ql.length by rw [l2];exact hf0d)];rfl);have k1:=lal f0 _ d0 (getElem?_eq_getElem (show f0 < ql.length by rw [l2];exact hf0d)) hd0;have l13:=s03 _ _ l1;walk_at "RD";refine ⟨⟨_,SqL.of l13⟩,?_⟩;refine jd.list_zs (xs:=ql.map V.ref) (zs:=qb (ds.map (·.name))) (SqL.of l13) (by rw [hqn];exact Nat.le_trans X.l6 (by decide)) (by rw [yb,length_map,hqn]) (fun j v z N hv hz hN=>?_) (fun pn hpn=>?_)
  ·obtain ⟨q',hq',rfl⟩:=Mb hv;obtain ⟨x,hx,rfl⟩:=Mb hz;obtain ⟨d,hd,rfl⟩:=Mb hx;walk_at "RD";exact ⟨Sub.name,_,SqT.of (s03 _ _ (lal j q' d hq' hd)),_,Eb (j:=1) rfl,hN⟩
  ·have sn:=jb (o:=.lst (qb (ds.map (·.name)))) hpn;refine ⟨.inl ⟨_,SqL.of gb⟩,_,SqL.of (sn _ _ (s3 _ _ epq)),_,Eb (j:=3) (ke (show (Lb ds sg)[3]? = some d0.name from hm0)),pn,rfl,ds.map (·.name),_,rfl,SqL.of gb,f0,hnm f0 d0 hd0,fun m hm e=>?_,by rw [length_map];have:=X.l6;omega,_,SqL.of (sn _ _ l13),_,k0,_,rfl,_,SqT.of (sn _ _ (s03 _ _ k1)),_,Eb (j:=0) rfl,rfl,?_⟩
   ·have hmd:m < ds.length:=by omega
    rw [hnm m _ (getElem?_eq_getElem hmd)] at e;have:=Pr X.nd hmd hf0d (by rw [Mn (getElem?_eq_getElem hmd),Mn hd0];exact Option.some.inj e);omega
   ·rw [show decide (V.str (oe d0.k)=V.str (Str.ofString "tram"))=decide (oe d0.k=Str.ofString "tram") from decide_eq_decide.mpr (by simp),bA (X.ok d0 (mem_of_getElem? hd0)).k];exact hD _ _ ⟨sn,n3.upd,_,rfl⟩
 rintro σ4 H4 ⟨s4,n4,x8,rfl⟩;subst zzh;refine zS (fun σ' H'=>bc H3 H'/\NoT H'/\∃ op os,H' op=some (.lst (qb os))/\os.length <= 6/\(∀ y ∈ os,∃ d ∈ ds,d.name=y/\¬ (d.k=2↔d0.k=2))/\∃ x8,σ'=[some (.ref a),some (.ref wl),some (.ref rl),some (.int i),some (.int (Od ns 211 3)),some (.ref pq),some (.int ((3 + u:Nat):Int)),some (.ref ap),x8,some (.bl (decide (d0.k=2))),some (.ref op)]) (fun D' hD=>?_) fun zzM zzh=>?_
 ·have s04:=s03.trans s4;have l14:=s04 _ _ l1;have w4:=s4 _ _ w3;walk_at "RD";refine ⟨⟨_,SqL.of l14⟩,?_⟩;refine jd.list_sel (xs:=ql.map V.ref) (ss:=ds.map fun d=>if (decide (d.k=2) != decide (d0.k=2) && !decide (d.name ∈ Df ds (sts.take i)))=true then some (V.str d.name) else none) (SqL.of l14) (by rw [hqn];exact Nat.le_trans X.l6 (by decide)) (by rw [length_map,hqn]) (fun j v o ys N hv ho hN=>?_) (fun pn hpn=>?_)
  ·obtain ⟨q',hq',rfl⟩:=Mb hv;obtain ⟨d,hd,rfl⟩:=Mb ho;have eq':=s04 _ _ (lal j q' d hq' hd);walk_at "RD";refine ⟨Sub.name,_,SqT.of eq',_,Eb (j:=0) rfl,rfl,?_⟩;rw [show decide (V.str (oe d.k)=V.str (Str.ofString "tram"))=decide (oe d.k=Str.ofString "tram") from decide_eq_decide.mpr (by simp),bA (X.ok d (mem_of_getElem? hd)).k];by_cases c:decide (d.k=2)=decide (d0.k=2)
   ·rw [if_neg (by simp [c])];rw [if_neg (by simp [c]),Option.toList_none,append_nil] at hN;exact hN
   ·rw [if_pos (by simp [c])];refine ⟨_,SqT.of eq',_,Eb (j:=1) rfl,_,.inl (SqL.of w4),rfl,jg _,?_⟩;rw [Kj];by_cases c2:d.name ∈ Df ds (sts.take i)
    ·rw [if_neg (by simp [c2])];rw [if_neg (by simp [c2]),Option.toList_none,append_nil] at hN;exact hN
    ·rw [if_pos (by simp [c2])];rw [if_pos (by simp [c2,c]),Option.toList_some] at hN;exact ⟨_,SqT.of eq',_,Eb (j:=1) rfl,hN⟩
  ·refine hD _ _ ⟨s4.trans (jb hpn),n4.upd,pn,_,by rw [gb,CH],?_,fun y hy=>?_,_,rfl⟩
   ·rw [length_map];exact Nat.le_trans (List.length_filter_le ..) X.l6
   ·obtain ⟨d,hd,rfl⟩:=List.mem_map.mp hy;obtain ⟨f1,f2⟩:=List.mem_filter.mp hd;rw [Bool.and_eq_true] at f2;refine ⟨d,f1,rfl,fun z=>?_⟩;have e:decide (d.k=2)=decide (d0.k=2):=decide_eq_decide.mpr z;rw [e] at f2;simp at f2
 rintro σ5 H5 ⟨s5,n5,op,os,w5,ho6,hos,x8,rfl⟩;have s35:=s3.trans s5;have s05:=s0.trans s35;have S5:=S.same s05;have R5:=R.same s35;have epq5:=s35 _ _ epq;subst zzh;have put:∀ (y:Str),PlainL y->(y ∉ Je ds (pe ds (sts.take i))\/(0 < u/\(y ∈ (pf ds sg).take u\/∀ x,(pf ds sg)[0]? = some x->(wOf ds y).map Gf ≠ (wOf ds x).map Gf))) ->
   ∀ H6,bc H5 H6->NoT H6->Q (.int ((3 + u:Nat):Int)) (upd H6 pq (.lst ((qb (Lb ds sg)).take (3 + u) ++ .str y :: (qb (Lb ds sg)).drop (3 + u)))):=fun y hy hb H6 s6 n6=>by
  have ew:(qb (Lb ds sg)).take (3 + u) ++ .str y :: (qb (Lb ds sg)).drop (3 + u)=qb ([Str.ofString "stage",num sg.lo,num sg.hi] ++ ((pf ds sg).take u ++ y :: (pf ds sg).drop u)):=by
   unfold qb Lb;rw [<- map_take,<- List.map_drop,List.take_append,List.drop_append,take_of_length_le (show [Str.ofString "stage",num sg.lo,num sg.hi].length <= 3 + u from Nat.le_add_right 3 u),List.drop_eq_nil_of_le (show [Str.ofString "stage",num sg.lo,num sg.hi].length <= 3 + u from Nat.le_add_right 3 u),show 3 + u - [Str.ofString "stage",num sg.lo,num sg.hi].length=u from Nat.add_sub_cancel_left 3 u,nil_append,map_append,map_append,map_append,map_cons,append_assoc];rfl
  rw [ew];have R6:=(R5.same s6).put (j:=i) (r':=[Str.ofString "stage",num sg.lo,num sg.hi] ++ ((pf ds sg).take u ++ y :: (pf ds sg).drop u)) hqi;refine q _ _ qs _ ((s05.trans s6).updN (R.h6 pq (mem_of_getElem? hqi))) n6.upd R6 ⟨by simp,?_,fun x hx=>?_⟩ (fun tl _=>?_)
  ·simp only [length_append,length_cons,length_take,length_drop,length_nil,g4];omega
  ·have hpl:=(X.plain _ (mem_of_getElem? hrow)).2.2;have hpl':∀ x ∈ Lb ds sg,PlainL x:=fun x hx=>(hpl x hx).l
   rcases List.mem_append.mp hx with z | z
   ·exact hpl' x (by unfold Lb;exact mem_append_left _ z)
   ·rcases List.mem_append.mp z with z | z
    ·exact hpl' x (by unfold Lb;exact mem_append_right _ (mem_of_mem_take z))
    ·rcases List.mem_cons.mp z with z | z
     ·rw [z];exact hy
     ·exact hpl' x (by unfold Lb;exact mem_append_right _ (mem_of_mem_drop z))
  ·have:=X.name hst (q:=u) (by omega) (y:=y) (tl:=(pf ds sg).drop u ++ tl) hb;rw [append_assoc,append_assoc,cons_append];exact this
 have lenA:(Df ds (sts.take i)).length <= 36:=by have:=X.len;omega
 have Sm:(qb (Lb ds sg)).length < sizeLine:=Nat.lt_of_le_of_lt (show _ <= 9 by rw [yb,g3];omega) (by decide);have plN:∀ d ∈ ds,PlainL d.name:=fun d hd=>(Si (X.ok d hd).nm).l
 have plM:∀ s ∈ sts,∀ x ∈ pf ds s,PlainL x:=fun s hs x hx=>by
  obtain ⟨j,hj,rfl⟩:=List.mem_map.mp hx;have hjd:=getElem?_eq_getElem (X.lt hs hj);rw [Zh hjd];exact plN _ (mem_of_getElem? hjd)
 refine zS (fun σ' H'=>Q (.int ((3 + u:Nat):Int)) H'/\∃ x7 x8,σ'=[some (.ref a),some (.ref wl),some (.ref rl),some (.int i),some (.int (Od ns 211 3)),some (.ref pq),some (.int ((3 + u:Nat):Int)),x7,x8,some (.bl (decide (d0.k=2))),some (.ref op)]) (fun D' hD=>?_) fun zzM zzh=>?_
 ·refine ac (decide (Od ns 211 3=1) && (decide (0 < (Df ds (sts.take i)).length) || decide (0 < u))) (fun Q hQ=>?_) (fun zz=>?_) (fun zz=>?_)
  ·walk_at "RD";by_cases c1:Od ns 211 3=1
   ·rw [if_pos (decide_eq_true c1)];rw [decide_eq_true c1,Bool.true_and] at hQ;refine ⟨_,.inl (SqL.of (s5 _ _ w3)),?_⟩;rw [yb];by_cases c2:0 < (Df ds (sts.take i)).length
    ·rw [if_pos (decide_eq_true (by omega))];rw [decide_eq_true c2,Bool.true_or] at hQ;exact hQ
    ·rw [if_neg (by rw [decide_eq_true_eq];omega)];rw [decide_eq_false c2,Bool.false_or] at hQ;rw [show decide ((3:Int) < ((3 + u:Nat):Int))=decide (0 < u) from decide_eq_decide.mpr (by omega)];exact hQ
   ·rw [if_neg (by simpa using c1)];rw [decide_eq_false c1,Bool.false_and] at hQ;exact hQ
  ·have hz:0 < (Df ds (sts.take i)).length\/0 < u:=by
    simp only [Bool.and_eq_true,Bool.or_eq_true,decide_eq_true_eq] at zz;exact zz.2
   have ec:Kt (qb (Lb ds sg)) (some 3) (some ((3 + u:Nat):Int))=qb ((pf ds sg).take u):=by
    rw [show (3:Int)=((3:Nat):Int) from rfl,fK (by omega) (by rw [yb,g3];omega),show 3 + u - 3=u by omega];unfold qb;rw [map_take];rfl
   have eAB:qb (Df ds (sts.take i)) ++ qb ((pf ds sg).take u)=qb (Df ds (sts.take i) ++ (pf ds sg).take u):=by unfold qb;rw [map_append]
   have hAl:0 < (Df ds (sts.take i) ++ (pf ds sg).take u).length:=by rw [length_append,length_take,g4];omega
   have hAm:(Df ds (sts.take i) ++ (pf ds sg).take u).length <= 42:=by rw [length_append,length_take,g4];omega
   generalize hAA:Df ds (sts.take i) ++ (pf ds sg).take u=AA at eAB hAl hAm;have v1:=xc ns 213 (m:=(AA.length:Int)) (by omega);have v2:=wc ns 213 (m:=(AA.length:Int)) (by omega);obtain ⟨v,hv⟩:∃ v:Nat,Od ns 213 (AA.length:Int)=(v:Int):=⟨_,(Int.toNat_of_nonneg v1).symm⟩;have hyv:AA[v]? = some (AA[v]'(by omega)):=getElem?_eq_getElem _;generalize AA[v]'(by omega)=y at hyv;have hy:=mem_of_getElem? hyv;rw [<- hAA] at hy;walk_at "RD";refine ⟨_,SqL.of epq5,fun p hp=>?_⟩;rw [ec];have sp:=jb (o:=.lst (qb ((pf ds sg).take u))) hp;refine ⟨_,sp _ _ (s5 _ _ w3),_,gb,Nat.le_trans (show _ <= 42 by rw [<- length_append,eAB,yb];exact hAm) (by decide),fun p1 hp1=>?_⟩;rw [eAB];have sp1:=sp.trans (jb (o:=.lst (qb AA)) hp1);refine ⟨.inl ⟨_,SqL.of (sp1 _ _ epq5)⟩,_,.inl (SqL.of gb),?_⟩;rw [yb];refine ⟨a,ns,_,_,rfl,h63,S5.same sp1,⟨by decide,by decide⟩,by omega,?_⟩;rw [hv];refine ⟨_,_,rfl,SqL.of gb,_,Eb (ke hyv),_,sp1 _ _ epq5,by omega,by omega,by rw [yb,g3];omega,Sm,hD _ _ ⟨?_,_,_,rfl⟩⟩;rw [Int.toNat_natCast];rcases List.mem_append.mp hy with z | z
   ·refine put y ?_ (.inl (dA z)) _ sp1 n5.upd.upd;obtain ⟨l,hl,hz⟩:=List.mem_flatten.mp z;obtain ⟨s',hs',rfl⟩:=List.mem_map.mp hl;exact plM s' (mem_of_mem_take hs') y hz
   ·refine put y (plM sg hsm y (mem_of_mem_take z)) (.inr ⟨?_,.inl z⟩) _ sp1 n5.upd.upd;have:=List.length_pos_of_mem z;rw [length_take] at this;omega
  ·refine ac (decide (Od ns 211 3=2) && (decide (0 < os.length) && decide (0 < u))) (fun Q hQ=>?_) (fun zz=>?_) (fun zz=>?_)
   ·walk_at "RD";by_cases c1:Od ns 211 3=2
    ·rw [if_pos (decide_eq_true c1)];rw [decide_eq_true c1,Bool.true_and] at hQ;refine ⟨_,.inl (SqL.of w5),?_⟩;rw [yb];by_cases c2:0 < os.length
     ·rw [if_pos (decide_eq_true (by omega))];rw [decide_eq_true c2,Bool.true_and] at hQ;rw [show decide ((3:Int) < ((3 + u:Nat):Int))=decide (0 < u) from decide_eq_decide.mpr (by omega)];exact hQ
     ·rw [if_neg (by rw [decide_eq_true_eq];omega)];rw [decide_eq_false c2,Bool.false_and] at hQ;exact hQ
    ·rw [if_neg (by simpa using c1)];rw [decide_eq_false c1,Bool.false_and] at hQ;exact hQ
   ·simp only [Bool.and_eq_true,decide_eq_true_eq] at zz;have v1:=xc ns 213 (m:=(os.length:Int)) (by omega);have v2:=wc ns 213 (m:=(os.length:Int)) (by omega);obtain ⟨v,hv⟩:∃ v:Nat,Od ns 213 (os.length:Int)=(v:Int):=⟨_,(Int.toNat_of_nonneg v1).symm⟩;have hyv:os[v]? = some (os[v]'(by omega)):=getElem?_eq_getElem _;obtain ⟨d,hd,hdn,hdk⟩:=hos _ (mem_of_getElem? hyv);rw [<- hdn] at hyv;walk_at "RD";refine ⟨.inl ⟨_,SqL.of epq5⟩,_,.inl (SqL.of w5),?_⟩;rw [yb];refine ⟨a,ns,_,_,rfl,h63,S5,⟨by decide,by decide⟩,by omega,?_⟩;rw [hv];refine ⟨_,_,rfl,SqL.of w5,_,Eb (ke hyv),_,epq5,by omega,by omega,by rw [yb,g3];omega,Sm,hD _ _ ⟨?_,_,_,rfl⟩⟩;rw [Int.toNat_natCast];refine put d.name (plN d hd) (.inr ⟨zz.2.2,.inr fun x hx=>?_⟩) _ (bc.refl _) n5;rw [hm0] at hx;cases hx;obtain ⟨kd,hkd⟩:=getElem?_of_mem hd;rw [Zg X.nd hkd,Zg X.nd hd0];intro e;have e:Gf d=Gf d0:=Option.some.inj e;unfold Gf at e;have ne:Str.ofString "trams" ≠ Str.ofString "others" := by decide +kernel
    by_cases c1:d.k=2
    ·by_cases c2:d0.k=2
     ·exact hdk ⟨fun _=>c2,fun _=>c1⟩
     ·rw [if_pos c1,if_neg c2] at e;exact ne e
    ·by_cases c2:d0.k=2
     ·rw [if_neg c1,if_pos c2] at e;exact ne e.symm
     ·exact hdk ⟨fun z=>absurd z c1,fun z=>absurd z c2⟩
   ·walk_at "RD";refine ⟨.inl ⟨_,SqL.of epq5⟩,a,ns,n,wl,ds,rfl,h63,S5,L.same s05,X.ok,⟨X.l1,by have:=X.l6;omega⟩,n5,fun y hy hyn=>⟨_,epq5,by omega,by omega,by rw [yb,g3];omega,Sm,hD _ _ ⟨?_,_,_,rfl⟩⟩⟩;rw [Int.toNat_natCast];refine put y hy (.inl fun z=>?_) _ (bc.refl _) n5;obtain ⟨d,hd,e⟩:=List.mem_map.mp (List.mem_filter.mp z).1;exact hyn d hd e
 rintro σ6 H6 ⟨hq6,x7,x8',rfl⟩;subst zzh;walk_at "RD";exact hq6
end
end My
namespace My
open PySem L2
noncomputable def ez:List Str:=[Str.ofString "",Str.ofString "0",Str.ofString "61",Str.ofString "01",Str.ofString "a",Str.ofString "+1",Str.ofString "1 ",Str.ofString "100",Str.ofString "1000",Str.ofString "-1",Txt.mul (Str.ofString "9") 30]
theorem MD:∀ x ∈ ez,x.length <= 30:=by decide +kernel
theorem UG:∀ x ∈ ez,((Txt.strip x).length <= 40/\(32:Nat) ∉ (Txt.strip x).cps.toList/\(10:Nat) ∉ (Txt.strip x).cps.toList)/\(Txt.strip x ≠ Str.ofString "1" -> ik (Txt.strip x) 1 60=none):=by decide +kernel
theorem nN:∀ k:Nat,k < 21->((Txt.strip (num (k:Int))).length <= 40/\(32:Nat) ∉ (Txt.strip (num (k:Int))).cps.toList/\(10:Nat) ∉ (Txt.strip (num (k:Int))).cps.toList)/\(Txt.strip (num (k:Int)) ≠ Str.ofString "1" -> ik (Txt.strip (num (k:Int))) ((k:Int) + 1) 60=none):=by decide +kernel
theorem rD:ik (Str.ofString "0") 1 60=none/\ik (Str.ofString "") 1 60=none:=by decide +kernel
theorem gG {v:Int} (h0:0 <= v) (h1:v < 1000):intText? (num v)=some v:=by
 have:∀ n:Nat,n < 1000->intText? (num (n:Int))=some (n:Int):=by decide +kernel
 have e:=this v.toNat (by omega);rwa [Int.toNat_of_nonneg h0] at e
theorem Gk {n j:Nat} (h:j < n):ixN n (j:Int)=some j:=by unfold ixN;simp;omega
theorem kn {x:Str} {lo:Int} (h:ik x 1 60=none) (hl:1 <= lo):ik x lo 60=none:=by
 unfold ik at h ⊢;split at h
 ·cases h
 ·rename_i c;rw [if_neg];intro z;apply c;rw [Bool.and_eq_true,Bool.not_eq_true',Bool.or_eq_false_iff,decide_eq_false_iff_not,decide_eq_false_iff_not] at z ⊢;exact ⟨z.1,by omega,z.2.2⟩
noncomputable def GK:List Str:=[Str.ofString "stages",Str.ofString "",Str.ofString "Stage",Str.ofString "stag",Str.ofString "1"]
theorem PK:∀ x ∈ GK,(x.length <= 40/\(32:Nat) ∉ x.cps.toList/\(10:Nat) ∉ x.cps.toList)/\x ≠ Str.ofString "stage" := by decide +kernel
section
variable {P:Program} {w:World} {K:W.Frag} {mg:Str->Option Value} {base:Heap} {t:Adr}
seal L2.PA L2.PE L2.PS L2.PSs
theorem uK (T:Txt w K mg t):Ub P w K mg base CX0 4 t.ni t.Oh q15 (lz K):=by
 have g8:Ub P w K mg base CX0 3 t.Md t.Pd q12 (El K):=(Dn T).mono (by decide);have g63:Ub P w K mg base CX0 3 t.ef t.df q15 (lz K):=fL T;refine T.Xk.ok eg (fun vs H Q E h=>?_) (fun _ _ _ s H vs Q E hr h=>?_)
 ·obtain ⟨a,ns,n,wl,ds,sts,rl,qs,H0,i,rfl,_⟩:=h;rfl
 obtain ⟨a,ns,n,wl,ds,sts,rl,qs,H0,i,rfl,h63,S,L,X,s0,R,hi,nt,q⟩:=h;have hst:sts[i]? = some sts[i]:=getElem?_eq_getElem hi;generalize sts[i]=sg at hst;have hsm:=mem_of_getElem? hst;obtain ⟨g1,g2,g3,g4⟩:=X.sgLen hsm;have hrow:(Zb ds sts)[i]? = some (Lb ds sg):=by unfold Zb;rw [getElem?_map,hst];rfl
 have hrl:(Zb ds sts).length=sts.length:=by unfold Zb;rw [length_map]
 have hqi:qs[i]? = some (qs[i]'(by rw [R.h2,hrl];exact hi)):=getElem?_eq_getElem _;generalize qs[i]'(by rw [R.h2,hrl];exact hi)=pq at hqi;have epq:=R.h5 i pq _ hqi hrow;have hpq0:=R.h6 pq (mem_of_getElem? hqi);have apq:=Eb (xs:=qs.map V.ref) (j:=i) (by rw [getElem?_map,hqi];rfl);have bd:=X.s30.bd sg hsm;have hpl:∀ x ∈ Lb ds sg,PlainL x:=fun x hx=>((X.plain _ (mem_of_getElem? hrow)).2.2 x hx).l
 have lo1:ik (num sg.lo) 1 60=some sg.lo:=Jk (Wg (by omega) (by omega) (by omega) (by omega));have setV:∀ (ws:List Str) (j:Nat) (x:Str),(qb ws).set j (.str x)=qb (ws.set j x):=fun ws j x=>by unfold qb;rw [List.map_set]
 have fin:∀ (k j:Nat) (x:Str) H6,j < 3->PlainL x->bc H0 H6->NoT H6->LRq H0 H6 rl qs ((Zb ds sts).set i ((Lb ds sg).set j x))->(∀ tl,tl=[]\/tl=[Str.ofString ""]->De ds (pe ds (sts.take i)) ((Lb ds sg).set j x ++ tl)=.error k)->Q (.int k) H6:=fun k j x H6 hj hx s6 n6 R6 he=>by
  refine q k _ qs H6 s6 n6 R6 ?_ he;unfold RwG;refine ⟨fun z=>?_,?_,fun y hy=>?_⟩
  ·have:=congrArg List.length z;rw [length_set,g3,length_nil] at this;omega
  ·rw [length_set,g3];omega
  ·rcases mem_or_eq_of_mem_set hy with z | z
   ·exact hpl y z
   ·rw [z];exact hx
 refine ⟨_,(db (Fb (i:=4) eg.nd rfl (Or.inl rfl) (vb g8 hr rfl T.wb T.ub.kp T.xb .nil Db (cb (pv 0) (cb ib (cb ib fb)))))
   (db (Fb (i:=5) eg.nd rfl (Or.inl rfl) (sd (cb Jb (cb Jb (cb Jb (cb Jb (cb Jb (cb Jb (cb Jb (cb Jb (cb Jb (cb Jb (cb (Pb xu Jb ib) fb)))))))))))))
   (db (Fb (i:=6) eg.nd rfl (Or.inl rfl) (ic Yb (pv 2) (pv 3) (fun _ _=>rfl)))
   (db (Gd (Ob ve (pv 4) ib (Sb _)) (db (gn (ic Yb (sd (cb Jb (cb Jb (cb Jb (cb Jb (cb Jb fb)))))) (vb g8 hr rfl T.wb T.ub.kp T.xb .nil Db (cb (pv 0) (cb ib (cb ib fb)))) (fun _ _=>rfl)) (Vo (pv 6) ib Vh))
   (lb (Qb ib))) fc)
   (db (Gd (Ob ve (pv 4) ib (Sb _)) (db (gn (iI PySem.F.plainAttrs_str PySem.F.slot_str_strip PySem.F.type_str_strip Kz (ic Yb (pv 5) (vb g8 hr rfl T.wb T.ub.kp T.xb .nil Db (cb (pv 0) (cb ib (cb ib fb)))) (fun _ _=>rfl))) (Vo (pv 6) ib Vh))
   (db (Gd (Ob ve (ic Yb (pv 6) ib (fun _ _=>rfl)) Jb (Sb _)) (lb (gn Jb (Vo (pv 6) ib Vh))) fc)
   (lb (Qb ib)))) fc)
   (db (Gd (Ob ve (pv 4) ib (Sb _)) (db (gn (iI PySem.F.plainAttrs_str PySem.F.slot_str_strip PySem.F.type_str_strip Kz (ic Yb (Pb nw (pv 5) (sd (cb (sf Ff rfl T.vA oh (cb (Pb ck (sf zw rfl T.ED Wi (cb (ic Yb (pv 6) ib (fun _ _=>rfl)) fb)) ib) fb)) fb))) (vb g8 hr rfl T.wb T.ub.kp T.xb .nil Db (cb (pv 0) (cb ib (cb ib fb)))) (fun _ _=>rfl))) (Vo (pv 6) ib Vh))
   (db (Gd (Ob ve (ic Yb (pv 6) ib (fun _ _=>rfl)) Jb (Sb _)) (lb (gn Jb (Vo (pv 6) ib Vh))) fc)
   (lb (Qb ib)))) fc)
   (db (Gd (Ob ve (pv 4) ib (Sb _)) (db (gn (fe Fm (pv 6) lf (Ke ib)) (Vo (pv 2) (pv 3) Vh))
   (lb (Qb ib))) fc)
   (db (Gd (Ob ve (pv 4) ib (Sb _)) (db (Fb (i:=7) eg.nd rfl (Or.inl rfl) (Pb Pc ib (vb g8 hr rfl T.wb T.ub.kp T.xb .nil Db (cb (pv 0) (cb ib (cb ib fb))))))
   (db (gn (fe Fm (pv 6) lf (Ke (pv 7))) (Vo (pv 2) (pv 3) Vh))
   (lb (Qb (pv 7))))) fc)
   (lb (Qb (vb g63 hr rfl T.oo T.ig.kp T.yo .nil Db (cb (pv 0) (cb (pv 1) (cb (pv 2) (cb (pv 3) fb))))))))))))))),?_⟩
 have w0:=xc ns 221 (m:=6) (by decide);have w1:=wc ns 221 (m:=6) (by decide);generalize hway:Od ns 221 6=way at w0 w1;refine zS (fun σ' H'=>H'=H/\σ'=[some (.ref a),some (.ref wl),some (.ref rl),some (.int i),some (.int way),none,none,none]) (fun D' hD=>?_) fun zzM zzh=>?_
 ·walk_at "RD";refine ⟨a,ns,_,_,rfl,h63,S.same s0,⟨by decide,by decide⟩,by decide,?_⟩;rw [hway];exact hD _ _ ⟨rfl,rfl⟩
 rintro σ1 H1 ⟨rfl,rfl⟩;subst zzh;refine zS (fun σ' H'=>bc H1 H'/\NoT H'/\∃ bp,H0 bp=none/\bp ≠ pq/\H' bp=some (.lst (qb ez))/\σ'=[some (.ref a),some (.ref wl),some (.ref rl),some (.int i),some (.int way),some (.ref bp),none,none]) (fun D' hD=>?_) fun zzM zzh=>?_
 ·walk_at "RD";exact ⟨⟨by decide,fun _ _=>by decide +kernel,fun _ _=>by decide +kernel⟩,by decide,fun p hp=>hD _ _ ⟨jb hp,nt.upd,p,s0.free hp,(fun z=>by rw [z,epq] at hp;cases hp),gb,rfl⟩⟩
 rintro σ2 H2 ⟨s2,n2,bp,hb0,hbq,w2,rfl⟩;have s02:=s0.trans s2;have S2:=S.same s02;have R2:=R.same s2;have epq2:=s2 _ _ epq;subst zzh;refine zS (fun σ' H'=>H'=H2/\σ'=[some (.ref a),some (.ref wl),some (.ref rl),some (.int i),some (.int way),some (.ref bp),some (.ref pq),none]) (fun D' hD=>?_) fun zzM zzh=>?_
 ·walk_at "RD";exact ⟨_,SqL.of R2.h1,_,apq,hD _ _ ⟨rfl,rfl⟩⟩
 rintro σ3 H3 ⟨rfl,rfl⟩;subst zzh;simp only [Ab];refine Gb (fun σ' H'=>H'=H3/\way ≠ 0/\σ'=[some (.ref a),some (.ref wl),some (.ref rl),some (.int i),some (.int way),some (.ref bp),some (.ref pq),none]) (fun D' hD hrt _ _=>?_) ?_
 ·refine ac (decide (way=0)) (fun Q hQ=>?_) (fun zz=>?_) (fun zz=>?_)
  ·walk_at "RD";exact hQ
  ·have v1:=xc ns 222 (m:=5) (by decide);have v2:=wc ns 222 (m:=5) (by decide);obtain ⟨v,hv⟩:∃ v:Nat,Od ns 222 5=(v:Int):=⟨_,(Int.toNat_of_nonneg v1).symm⟩;have hyv:GK[v]? = some (GK[v]'(show v < 5 by omega)):=getElem?_eq_getElem _;generalize GK[v]'(show v < 5 by omega)=y at hyv;obtain ⟨y1,y2⟩:=PK y (mem_of_getElem? hyv);walk_at "RD";refine ⟨by decide,fun p hp=>⟨a,ns,_,_,rfl,h63,S2.same (jb hp),⟨by decide,by decide⟩,by decide,?_⟩⟩;rw [hv];have sp:=jb (o:=.lst (qb GK)) hp;refine ⟨_,_,rfl,SqL.of (show _=some (.lst (qb GK)) from gb),_,Eb (ke hyv),_,sp _ _ epq2,0,Gk (j:=0) (by rw [yb,g3];omega),?_⟩;rw [hrt,setV];exact fin 0 0 y _ (by decide) y1 ((s02.trans sp).updN hpq0) n2.upd.upd ((R2.same sp).put hqi) (fun tl _=>qO y2)
  ·simp only [Qc];exact hD _ _ ⟨rfl,of_decide_eq_false zz,rfl⟩
 rintro σ3 H3 ⟨rfl,hw0,rfl⟩;simp only [Ab];refine Gb (fun σ' H'=>H'=H3/\way ≠ 1/\σ'=[some (.ref a),some (.ref wl),some (.ref rl),some (.int i),some (.int way),some (.ref bp),some (.ref pq),none]) (fun D' hD hrt _ _=>?_) ?_
 ·refine ac (decide (way=1)) (fun Q hQ=>?_) (fun zz=>?_) (fun zz=>?_)
  ·walk_at "RD";exact hQ
  ·simp only [Ab];refine zzC (fun σ' H'=>bc H0 H'/\NoT H'/\(∃ x ∈ ez,LRq H0 H' rl qs ((Zb ds sts).set i ((Lb ds sg).set 1 (Txt.strip x))))/\σ'=[some (.ref a),some (.ref wl),some (.ref rl),some (.int i),some (.int way),some (.ref bp),some (.ref pq),none]) (fun D2 hD2=>?_) fun zzM zzh=>?_
   ·have v1:=xc ns 223 (m:=11) (by decide);have v2:=wc ns 223 (m:=11) (by decide);obtain ⟨v,hv⟩:∃ v:Nat,Od ns 223 11=(v:Int):=⟨_,(Int.toNat_of_nonneg v1).symm⟩;have hyv:ez[v]? = some (ez[v]'(show v < 11 by omega)):=getElem?_eq_getElem _;generalize ez[v]'(show v < 11 by omega)=y at hyv;have hy:=mem_of_getElem? hyv;walk_at "RD";refine ⟨a,ns,_,_,rfl,h63,S2,⟨by decide,by decide⟩,by decide,?_⟩;rw [hv];refine ⟨_,_,rfl,SqL.of w2,_,Eb (ke hyv),trivial,_,rfl,Nat.le_trans (MD y hy) (by decide),_,epq2,1,Gk (j:=1) (by rw [yb,g3];omega),?_⟩;rw [setV];exact hD2 _ _ ⟨s02.updN hpq0,n2.upd,⟨y,hy,R2.put hqi⟩,rfl⟩
   rintro σ4 H4 ⟨s4,n4,⟨x,hx,R4⟩,rfl⟩;have e4:=R4.h5 i pq _ hqi (getElem?_set_self (by rw [hrl];exact hi));subst zzh;simp only [Ab];refine zzC (fun σ' H'=>Q (.int 1) H'/\σ'=[some (.ref a),some (.ref wl),some (.ref rl),some (.int i),some (.int way),some (.ref bp),some (.ref pq),none]) (fun D2 hD2=>?_) fun zzM zzh=>?_
   ·refine ac (decide (Txt.strip x=Str.ofString "1")) (fun Q hQ=>?_) (fun zz=>?_) (fun zz=>?_)
    ·walk_at "RD";refine ⟨_,SqL.of e4,_,Eb (j:=1) (ke (getElem?_set_self (by rw [g3];omega))),rfl,?_⟩;rw [show decide (V.str (Txt.strip x)=V.str (Str.ofString "1"))=decide (Txt.strip x=Str.ofString "1") from decide_eq_decide.mpr (by simp)];exact hQ
    ·walk_at "RD";refine ⟨_,e4,1,Gk (j:=1) (by rw [yb,length_set,g3];omega),?_⟩;rw [setV,set_set];have R5:=R4.put (j:=i) (r':=(Lb ds sg).set 1 (Str.ofString "")) hqi;rw [set_set] at R5;exact hD2 _ _ ⟨fin 1 1 _ _ (by decide) (by unfold PlainL;decide +kernel) (s4.updN hpq0) n4.upd R5 (fun tl _=>TM rfl rD.2),rfl⟩
    ·simp only [Qc];exact hD2 _ _ ⟨fin 1 1 _ H4 (by decide) (UG x hx).1 s4 n4 R4 (fun tl _=>TM rfl ((UG x hx).2 (of_decide_eq_false zz))),rfl⟩
   rintro σ5 H5 ⟨q5,rfl⟩;subst zzh;walk_at "RD";rw [hrt];exact q5
  ·simp only [Qc];exact hD _ _ ⟨rfl,of_decide_eq_false zz,rfl⟩
 rintro σ3 H3 ⟨rfl,hw1,rfl⟩;simp only [Ab];refine Gb (fun σ' H'=>H'=H3/\way ≠ 2/\σ'=[some (.ref a),some (.ref wl),some (.ref rl),some (.int i),some (.int way),some (.ref bp),some (.ref pq),none]) (fun D' hD hrt _ _=>?_) ?_
 ·refine ac (decide (way=2)) (fun Q hQ=>?_) (fun zz=>?_) (fun zz=>?_)
  ·walk_at "RD";exact hQ
  ·simp only [Ab];refine zzC (fun σ' H'=>bc H0 H'/\NoT H'/\(∃ x,(x ∈ ez\/x=num (sg.lo - 1))/\LRq H0 H' rl qs ((Zb ds sts).set i ((Lb ds sg).set 2 (Txt.strip x))))/\σ'=[some (.ref a),some (.ref wl),some (.ref rl),some (.int i),some (.int way),some (.ref bp),some (.ref pq),none]) (fun D2 hD2=>?_) fun zzM zzh=>?_
   ·have v1:=xc ns 224 (m:=12) (by decide);have v2:=wc ns 224 (m:=12) (by decide);obtain ⟨v,hv⟩:∃ v:Nat,Od ns 224 12=(v:Int):=⟨_,(Int.toNat_of_nonneg v1).symm⟩;have hyv:(ez ++ [num (sg.lo - 1)])[v]? = some ((ez ++ [num (sg.lo - 1)])[v]'(show v < 12 by omega)):=getElem?_eq_getElem _;generalize (ez ++ [num (sg.lo - 1)])[v]'(show v < 12 by omega)=y at hyv;have hy:y ∈ ez\/y=num (sg.lo - 1):=by
     rcases List.mem_append.mp (mem_of_getElem? hyv) with z | z
     ·exact .inl z
     ·exact .inr (List.mem_singleton.mp z)
    have hyl:y.length <= sizeLine:=by
     rcases hy with z | z
     ·exact Nat.le_trans (MD y z) (by decide)
     ·rw [z];exact Nat.le_trans (xm (by omega) (by omega)) (by decide)
    walk_at "RD";refine ⟨_,SqL.of epq2,_,Eb (j:=1) (ke rfl),_,rfl,_,gG (by omega) (by omega),Nat.le_trans (xm (by omega) (by omega)) (by decide),Vm (by omega),by decide,fun p hp=>?_⟩;have sp:=jb (o:=.lst (qb [num (sg.lo - 1)])) hp;refine ⟨_,sp _ _ w2,_,gb,(show 11 + 1 <= sizeLine by decide),fun p1 hp1=>?_⟩;have sp1:=sp.trans (jb (o:=.lst (qb ez ++ qb [num (sg.lo - 1)])) hp1);refine ⟨a,ns,_,_,rfl,h63,S2.same sp1,⟨by decide,by decide⟩,by decide,?_⟩;rw [hv];refine ⟨_,_,rfl,SqL.of (show _=some (.lst (qb (ez ++ [num (sg.lo - 1)]))) from gb),_,Eb (ke hyv),trivial,_,rfl,hyl,_,sp1 _ _ epq2,2,Gk (j:=2) (by rw [yb,g3];omega),?_⟩;rw [setV];exact hD2 _ _ ⟨(s02.trans sp1).updN hpq0,n2.upd.upd.upd,⟨y,hy,(R2.same sp1).put hqi⟩,rfl⟩
   rintro σ4 H4 ⟨s4,n4,⟨x,hx,R4⟩,rfl⟩;have e4:=R4.h5 i pq _ hqi (getElem?_set_self (by rw [hrl];exact hi));have hxx:PlainL (Txt.strip x)/\(Txt.strip x ≠ Str.ofString "1" -> ik (Txt.strip x) sg.lo 60=none):=by
    rcases hx with hx | rfl
    ·exact ⟨(UG x hx).1,fun h=>kn ((UG x hx).2 h) bd.1⟩
    ·have:=nN (sg.lo - 1).toNat (by omega);rw [Int.toNat_of_nonneg (by omega),show sg.lo - 1 + 1=sg.lo by omega] at this;exact this
   subst zzh;simp only [Ab];refine zzC (fun σ' H'=>Q (.int 2) H'/\σ'=[some (.ref a),some (.ref wl),some (.ref rl),some (.int i),some (.int way),some (.ref bp),some (.ref pq),none]) (fun D2 hD2=>?_) fun zzM zzh=>?_
   ·refine ac (decide (Txt.strip x=Str.ofString "1")) (fun Q hQ=>?_) (fun zz=>?_) (fun zz=>?_)
    ·walk_at "RD";refine ⟨_,SqL.of e4,_,Eb (j:=2) (ke (getElem?_set_self (by rw [g3];omega))),rfl,?_⟩;rw [show decide (V.str (Txt.strip x)=V.str (Str.ofString "1"))=decide (Txt.strip x=Str.ofString "1") from decide_eq_decide.mpr (by simp)];exact hQ
    ·walk_at "RD";refine ⟨_,e4,2,Gk (j:=2) (by rw [yb,length_set,g3];omega),?_⟩;rw [setV,set_set];have R5:=R4.put (j:=i) (r':=(Lb ds sg).set 2 (Str.ofString "0")) hqi;rw [set_set] at R5;exact hD2 _ _ ⟨fin 2 2 _ _ (by decide) (by unfold PlainL;decide +kernel) (s4.updN hpq0) n4.upd R5 (fun tl _=>UM rfl lo1 (kn rD.1 bd.1)),rfl⟩
    ·simp only [Qc];exact hD2 _ _ ⟨fin 2 2 _ H4 (by decide) hxx.1 s4 n4 R4 (fun tl _=>UM rfl lo1 (hxx.2 (of_decide_eq_false zz))),rfl⟩
   rintro σ5 H5 ⟨q5,rfl⟩;subst zzh;walk_at "RD";rw [hrt];exact q5
  ·simp only [Qc];exact hD _ _ ⟨rfl,of_decide_eq_false zz,rfl⟩
 rintro σ3 H3 ⟨rfl,hw2,rfl⟩;have cut:∀ (k:Nat) (p:Addr),1 <= k->k <= 3->H3 p=none->Kt (qb (Lb ds sg)) none (some (k:Int))=qb ((Lb ds sg).take k)/\Q (.int k) (upd (upd H3 p (.lst (qb ((Lb ds sg).take k)))) rl (.lst ((qs.map V.ref).set i (.ref p)))):=fun k p hk1 hk3 hp=>by
  refine ⟨by rw [RE (by rw [yb,g3];omega)];unfold qb;rw [map_take],?_⟩;have sp:=jb (o:=.lst (qb ((Lb ds sg).take k))) hp;have R4:=(R2.same sp).set (j:=i) (p:=p) (r':=(Lb ds sg).take k) (by rw [R.h2,hrl];exact hi) gb (s02.free hp) (fun z=>by rw [z,R2.h1] at hp;cases hp) (fun z=>by
   obtain ⟨j,hj⟩:=getElem?_of_mem z;have hjl:=(List.getElem?_eq_some_iff.mp hj).1;rw [R.h2] at hjl;have:=R2.h5 j p _ hj (getElem?_eq_getElem hjl);rw [hp] at this;cases this)
  rw [show (qs.map V.ref).set i (.ref p)=(qs.set i p).map V.ref by rw [List.map_set]];refine q k _ _ _ ((s02.trans sp).updN R.h7) n2.upd.upd R4 ⟨fun z=>?_,by rw [length_take,g3];omega,fun y hy=>hpl y (mem_of_mem_take hy)⟩ (fun tl htl=>?_)
  ·have:=congrArg List.length z;rw [length_take,g3,length_nil] at this;omega
  ·have e0:ik (Str.ofString "") 1 60=none:=rD.2;have hm0:Str.ofString "" ∉ Je ds (pe ds (sts.take i)):=fun z=>by
    obtain ⟨d,hd,e⟩:=List.mem_map.mp (List.mem_filter.mp z).1;have h:=(Mc (X.ok d hd).nm).1.1;rw [e] at h;exact absurd h (by decide +kernel)
   have:k=1\/k=2\/k=3:=by omega
   rcases htl with rfl | rfl <;> rcases this with rfl | rfl | rfl
   ·exact TM rfl e0
   ·exact UM rfl lo1 (kn e0 bd.1)
   ·refine bO (lo:=sg.lo) (hi:=sg.hi) rfl lo1 (Jk (Wg (by omega) (by omega) (by omega) (by omega))) ?_;unfold Uu;rw [if_neg];exact hm0
   ·exact TM rfl e0
   ·exact UM rfl lo1 (kn e0 bd.1)
   ·exact X.name hst (q:=0) (by omega) (y:=Str.ofString "") (tl:=[]) (.inl hm0)
 simp only [Ab];refine Gb (fun σ' H'=>H'=H3/\way ≠ 3/\σ'=[some (.ref a),some (.ref wl),some (.ref rl),some (.int i),some (.int way),some (.ref bp),some (.ref pq),none]) (fun D' hD hrt _ _=>?_) ?_
 ·refine ac (decide (way=3)) (fun Q hQ=>?_) (fun zz=>?_) (fun zz=>?_)
  ·walk_at "RD";exact hQ
  ·walk_at "RD";refine ⟨_,SqL.of epq2,fun p hp=>?_⟩;obtain ⟨c1,c2⟩:=cut 3 p (by decide) (by decide) hp;replace c1:Kt (qb (Lb ds sg)) none (some 3)=_:=c1;rw [c1];refine ⟨_,(jb hp) _ _ R2.h1,i,Gk (j:=i) (by rw [length_map,R.h2,hrl];exact hi),?_⟩;rw [hrt];exact c2
  ·simp only [Qc];exact hD _ _ ⟨rfl,of_decide_eq_false zz,rfl⟩
 rintro σ3 H3 ⟨rfl,hw3,rfl⟩;simp only [Ab];refine Gb (fun σ' H'=>H'=H3/\way ≠ 4/\σ'=[some (.ref a),some (.ref wl),some (.ref rl),some (.int i),some (.int way),some (.ref bp),some (.ref pq),none]) (fun D' hD hrt _ _=>?_) ?_
 ·refine ac (decide (way=4)) (fun Q hQ=>?_) (fun zz=>?_) (fun zz=>?_)
  ·walk_at "RD";exact hQ
  ·have v1:=xc ns 225 (m:=2) (by decide);have v2:=wc ns 225 (m:=2) (by decide);obtain ⟨v,hv⟩:∃ v:Nat,Od ns 225 2=(v:Int):=⟨_,(Int.toNat_of_nonneg v1).symm⟩;walk_at "RD";refine ⟨a,ns,_,_,rfl,h63,S2,⟨by decide,by decide⟩,by decide,?_⟩;rw [hv];refine ⟨_,rfl,_,SqL.of epq2,fun p hp=>?_⟩;obtain ⟨c1,c2⟩:=cut (1 + v) p (by omega) (by omega) hp;rw [show (1:Int) + (v:Int)=((1 + v:Nat):Int) by omega,c1];refine ⟨_,(jb hp) _ _ R2.h1,i,Gk (j:=i) (by rw [length_map,R.h2,hrl];exact hi),?_⟩;rw [hrt];exact c2
  ·simp only [Qc];exact hD _ _ ⟨rfl,of_decide_eq_false zz,rfl⟩
 rintro σ3 H3 ⟨rfl,hw4,rfl⟩;walk_at "RD";exact ⟨a,ns,n,wl,ds,sts,rl,qs,H0,i,rfl,h63,S,L,X,s02,R2,hi,n2,q⟩
end
end My
namespace My
open PySem L2
noncomputable def DB (x:Str):List Str:=[Str.ofString "stage",Str.ofString "1",Str.ofString "2",x]
noncomputable def FH (x:Str):ST:=⟨1,2,[x]⟩
theorem eG {xs:List Str} (nd:xs.Nodup) {i:Nat} {x:Str} (hx:xs[i]? = some x):told ((xs.take i).map FH) x=false:=by
 cases e:My.told ((xs.take i).map FH) x with
 | false=>rfl
 | true=>
  exfalso;obtain ⟨r,hr,hc⟩:=List.any_eq_true.mp e;obtain ⟨y,hy,rfl⟩:=List.mem_map.mp hr;have hxy:x=y:=by simpa [FH] using hc
  subst hxy;obtain ⟨hi,e1⟩:=List.getElem?_eq_some_iff.mp hx;obtain ⟨j,hj,e2⟩:=List.getElem_of_mem hy;rw [List.getElem_take] at e2;rw [length_take] at hj;have:=(List.getElem_inj nd).mp (e2.trans e1.symm);omega
theorem VH:ik (Str.ofString "1") 1 60=some 1/\ik (Str.ofString "2") 1 60=some 2:=by decide +kernel
theorem bE {ds:List WD} {xs:List Str} (nd:xs.Nodup) (hin:∀ x ∈ xs,x ∈ ds.map (·.name)) {i:Nat} {x:Str} (hx:xs[i]? = some x):De ds ((xs.take i).map FH) (DB x)=.ok (FH x):=by
 have hl:x ∈ Je ds ((xs.take i).map FH):=by
  unfold Je;exact List.mem_filter.mpr ⟨hin x (mem_of_getElem? hx),by rw [eG nd hx];rfl⟩
 have hm:Uu ds (Je ds ((xs.take i).map FH)) (DB x)=.ok [x]:=by
  unfold Uu;rw [show wd (DB x) 3=x from rfl,if_pos hl];rfl
 unfold De;rw [hm,show wd (DB x) 0=Str.ofString "stage" from rfl,if_pos (List.mem_singleton.mpr rfl),show wd (DB x) 1=Str.ofString "1" from rfl,VH.1];rw [show wd (DB x) 2=Str.ofString "2" from rfl];rw [Option.elim_some,VH.2,Option.elim_some];rfl
theorem TD {ds:List WD} {xs:List Str} (nd:xs.Nodup) (hin:∀ x ∈ xs,x ∈ ds.map (·.name)) (h7:6 < xs.length):∀ (m i:Nat),6 - i=m->i <= 6->Ud ds ((xs.drop i).map DB) i ((xs.take i).map FH)=.error (6,0)
 | 0,i,hm,hi=>by
  have:i=6:=by omega
  subst this;rw [drop_eq_getElem_cons h7,map_cons];unfold Ud;rw [if_pos (by rw [length_map,length_take];omega)]
 | m + 1,i,hm,hi=>by
  have hil:i < xs.length:=by omega
  have hx:xs[i]? = some xs[i]:=getElem?_eq_getElem hil;rw [drop_eq_getElem_cons hil,map_cons];unfold Ud;rw [if_neg (by rw [length_map,length_take];omega),bE nd hin hx];have ih:=TD nd hin h7 m (i + 1) (by omega) (by omega);rw [Zd hx,map_append] at ih;exact ih
theorem nF {rs:List (List Str)} (h0:rs ≠ []) (h1:∀ r ∈ rs,r ≠ []) (h2:∀ r ∈ rs,∀ x ∈ r,PlainL x):Txt.split (Str.join nl (rs.map (Str.join bk))) nl=rs.map (Str.join bk)/\∀ r ∈ rs,Txt.split (Str.join bk r) bk=r:=by
 rw [JJ,AB];refine ⟨vh (by simpa using h0) (fun y hy=>?_),fun r hr=>vh (h1 r hr) fun x hx=>(h2 r hr x hx).2.1⟩;obtain ⟨r,hr,rfl⟩:=List.mem_map.mp hy;rw [Ni];intro z;rcases Gz z with z | ⟨p,hp,z⟩
 ·cases z
 ·obtain ⟨x,hx,rfl⟩:=List.mem_map.mp hp;exact (h2 r hr x hx).2.2 z
theorem sE {xs ys:List Str} (h:qb xs=qb ys):xs=ys:=by
 have:∀ {xs ys:List Str},xs.map V.str=ys.map V.str->xs=ys:=fun {xs}=>by
  induction xs with
  | nil=>intro ys h;cases ys with
   | nil=>rfl
   | cons y ys=>cases h
  | cons x xs ih=>intro ys h;cases ys with
   | nil=>cases h
   | cons y ys=>
    rw [map_cons,map_cons] at h;injection h with h1 h2;injection h1 with h1;rw [h1,ih h2]
 exact this h
noncomputable def d7 (j:Nat) (x:Str):WD:=⟨0,x,0,1 + (j:Int),1,1,1⟩
theorem xF {n:Int} {ds:List WD} {sts:List SX} (X:P30 n ds sts) {i j k:Nat} {s s':SX} (h1:sts[j]? = some s) (h2:sts[k]? = some s') (m1:i ∈ s.ix) (m2:i ∈ s'.ix):j=k:=by
 have pw:=List.pairwise_iff_getElem.mp (List.pairwise_flatten.mp X.fl).2;obtain ⟨l1,e1⟩:=List.getElem?_eq_some_iff.mp h1;obtain ⟨l2,e2⟩:=List.getElem?_eq_some_iff.mp h2;rcases Nat.lt_trichotomy j k with c | c | c
 ·have:=pw j k (by simpa using l1) (by simpa using l2) c;simp only [List.getElem_map,e1,e2] at this;exact absurd rfl (this i m1 i m2)
 ·exact c
 ·have:=pw k j (by simpa using l2) (by simpa using l1) c;simp only [List.getElem_map,e1,e2] at this;exact absurd rfl (this i m2 i m1)
theorem P30.inj {n:Int} {ds:List WD} {sts:List SX} (X:P30 n ds sts) {i j:Nat} {r:List Str} (h1:(Zb ds sts)[i]? = some r) (h2:(Zb ds sts)[j]? = some r):i=j:=by
 obtain ⟨s,hs,rfl⟩:=Mb h1;obtain ⟨s',hs',e⟩:=Mb h2;have hm:=mem_of_getElem? hs;have hm':=mem_of_getElem? hs';have e':pf ds s=pf ds s':=by
  have:=congrArg (List.drop 3) e;exact this
 obtain ⟨k,r,hc⟩:=exists_cons_of_ne_nil (X.s30.sg.ne s.ix (List.mem_map.mpr ⟨s,hm,rfl⟩));have hk:k ∈ s.ix:=by rw [hc];exact mem_cons_self ..
 have:nmI ds k ∈ pf ds s':=by rw [<- e'];exact List.mem_map.mpr ⟨k,hk,rfl⟩
 obtain ⟨k',hk',e2⟩:=List.mem_map.mp this;have:=oy X.nd (X.lt hm' hk') (X.lt hm hk) e2;subst this;exact xF X hs hs' hk hk'
structure Rst (ds:List WD) (sts:List SX) (i:Nat) (ws:List Str) (rss:List (List Str)):Prop where
 ln:rss.length=sts.length
 tk:rss.take i=(Zb ds sts).take i
 ro:rss[i]? = some ws
 lo:∀ j r,i < j->rss[j]? = some r->3 <= r.length
 ok:kF rss
theorem Rst.put {ds:List WD} {sts:List SX} {i:Nat} {ws:List Str} {rss:List (List Str)} (h:Rst ds sts i ws rss) {j:Nat} {r:List Str} (hij:i < j) (hr:rss[j]? = some r) (k:Nat) {x:Str} (hx:PlainL x):Rst ds sts i ws (rss.set j (r.set k x)):=by
 obtain ⟨hj,_⟩:=List.getElem?_eq_some_iff.mp hr;have hrm:=mem_of_getElem? hr;refine ⟨by rw [length_set];exact h.ln,?_,by rw [getElem?_set_ne (by omega)];exact h.ro,fun j' r' hj' hr'=>?_,⟨fun z=>?_,by rw [length_set];exact h.ok.ln,fun r' hr'=>?_⟩⟩
 ·rw [List.take_set_of_le (by omega)];exact h.tk
 ·by_cases c:j'=j
  ·subst c;rw [getElem?_set_self hj] at hr';cases hr';rw [length_set];exact h.lo _ r hij hr
  ·rw [getElem?_set_ne (fun e=>c e.symm)] at hr';exact h.lo _ _ hj' hr'
 ·have:=congrArg List.length z;rw [length_set,length_nil] at this;omega
 ·rcases mem_or_eq_of_mem_set hr' with z | z
  ·exact h.ok.al r' z
  ·obtain ⟨a1,a2,a3⟩:=h.ok.al r hrm;rw [z];refine ⟨fun e=>?_,by rw [length_set];exact a2,fun y hy=>?_⟩
   ·have:=congrArg List.length e;rw [length_set,length_nil] at this;exact a1 (List.length_eq_zero_iff.mp this)
   ·rcases mem_or_eq_of_mem_set hy with z | z
    ·exact a3 y z
    ·rw [z];exact hx
theorem Rst.of {n:Int} {ds:List WD} {sts:List SX} (X:P30 n ds sts) {i:Nat} (hi:i < sts.length) {ws:List Str} (hw:ws ≠ []/\ws.length <= 13/\∀ x ∈ ws,PlainL x):Rst ds sts i ws ((Zb ds sts).set i ws):=by
 have hrl:(Zb ds sts).length=sts.length:=by unfold Zb;rw [length_map]
 refine ⟨by rw [length_set,hrl],List.take_set_of_le (Nat.le_refl _),getElem?_set_self (by omega),fun j r hj hr=>?_,⟨fun z=>?_,by rw [length_set,hrl];have:=X.len;omega,fun r hr=>?_⟩⟩
 ·rw [getElem?_set_ne (by omega)] at hr;obtain ⟨s,hs,rfl⟩:=Mb hr;have:=(X.sgLen (mem_of_getElem? hs)).2.2.1;omega
 ·have:=congrArg List.length z;rw [length_set,length_nil,hrl] at this;omega
 ·rcases mem_or_eq_of_mem_set hr with z | z
  ·obtain ⟨a1,a2,a3⟩:=X.plain r z;exact ⟨a1,by omega,fun x hx=>(a3 x hx).l⟩
  ·rw [z];exact ⟨hw.1,by have:=hw.2.1;omega,hw.2.2⟩
theorem Rst.err {n:Int} {ds:List WD} {sts:List SX} (X:P30 n ds sts) {i k:Nat} (hi:i < sts.length) {ws:List Str} {rss tl:List (List Str)} (h:Rst ds sts i ws rss) (he:De ds (pe ds (sts.take i)) ws=.error k):Ud ds (rss ++ tl) 0 []=.error (i,k):=by
 have hir:i < rss.length:=by rw [h.ln];exact hi
 have e:rss=(Zb ds sts).take i ++ ws :: rss.drop (i + 1):=by
  conv=>lhs;rw [<- List.take_append_drop i rss,drop_eq_getElem_cons hir]
  rw [h.tk,(List.getElem?_eq_some_iff.mp h.ro).2]
 rw [e,append_assoc,cons_append];exact X.fault hi he
section
variable {P:Program} {w:World} {K:W.Frag} {mg:Str->Option Value} {base:Heap} {t:Adr}
theorem bM (T:Txt w K mg t):Ub P w K mg base CX0 12 t.wI t.DF ["_law_script"] (xM K):=by
 refine T.lN.ok Xi (fun vs H Q E h=>?_) (fun _ _ _ s H vs Q E hr h=>?_)
 ·obtain ⟨a,ns,rfl,_⟩:=h;rfl
 obtain ⟨a,ns,rfl,S0,h63,q⟩:=h;have hu:=jy hr;have hU:=hr.units;have g8:Ub P w K mg base CX0 11 t.Md t.Pd q12 (El K):=(Dn T).mono (by decide);have g29:Ub P w K mg base CX0 11 t.Kg t.Hg q28 (Zr K a ns):=(lw T a ns h63).mono (by decide);have g64:Ub P w K mg base CX0 11 t.Pj t.Jj q40 (Az K a ns):=(rH T a ns h63).mono (by decide);have g32:Ub P w K mg base CX0 11 t.Ij t.tj q41 (Dz K):=(ZG T).mono (by decide);have g33:Ub P w K mg base CX0 11 t.bg t.cg ["text"] (AM t):=(wN T).mono (by decide);have g65:Ub P w K mg base CX0 11 t.dh t.eh q44 (yu K):=(yA T).mono (by decide);have g66:Ub P w K mg base CX0 11 t.Oe t.Le q45 fz:=(EF T).mono (by decide);have g67:Ub P w K mg base CX0 11 t.jf t.Ze q22 (pI t):=(cM T).mono (by decide);have g18:Ub P w K mg base CX0 11 t.mn t.Jm q47 (gI t):=(IL T).mono (by decide);have g68:Ub P w K mg base CX0 11 t.ni t.Oh q15 (lz K):=(uK T).mono (by decide);refine ⟨_,(db (gn (vb g64 hr rfl T.Ix T.wm.kp T.Ky .nil Db (cb (pv 0) (cb ib fb))) (Qg (K:=K) (n:=2) rfl rfl (qc (Cb (i:=1) Xi.nd rfl (Or.inl rfl) (.inl rfl)) (qc (Cb (i:=2) Xi.nd rfl (Or.inl rfl) (.inl rfl)) Vg))))
   (db (Fb (i:=3) Xi.nd rfl (Or.inl rfl) (vb g33 hr rfl T.Yk T.Hf.kp T.Lk .nil Db (cb (vb g32 hr rfl T.Hr T.Gj.kp T.Ur .nil Db (cb (pv 1) (cb (pv 2) fb))) fb)))
   (db (Fb (i:=4) Xi.nd rfl (Or.inl rfl) (vb g65 hr rfl T.Qu T.Bj.kp T.av .nil Db (cb (pv 0) (cb (pv 1) (cb (pv 2) fb)))))
   (db (uh (i:=5) Xi.nd rfl (Or.inl rfl) rfl (Dc (Se PySem.F.plainAttrs_str PySem.F.slot_str_split PySem.F.type_str_split Up (vb g66 hr rfl T.Yn T.Mf.kp T.dn .nil Db (cb (pv 2) (cb (pv 4) fb))) (cb Jb fb))) (dc (sc:=pb LA) rfl (by decide +kernel)) (N:=q18) (sel:=[none]) (Cc (M:=q29) (by decide +kernel)) (Blk.of (fun _ _ _ _=>(Cb (i:=0) (se (N:=q18) (by decide +kernel) rfl) rfl (Or.inl rfl))) (fun _ _ _ _=>⟨_,Fd,by walk_at "B"⟩) (fun _ _ _ _=>⟨_,(Se PySem.F.plainAttrs_str PySem.F.slot_str_split PySem.F.type_str_split Up (pv 0) (cb Jb fb)),by walk_at "B"⟩)) rfl)
   (db (Gd (Ob Ly (Tc (vb g67 hr rfl T.Jn T.fh.kp T.Nn .nil Db (cb (pv 3) (cb (Se PySem.F.plainAttrs_str PySem.F.slot_str_join PySem.F.type_str_join vj Jb (cb (Qd rfl (Dc (pv 5)) (dc (sc:=pb LA) rfl (by decide +kernel)) (N:=q18) (sel:=[none]) (Cc (M:=q29) (by decide +kernel)) (Blk.of (fun _ _ _ _=>(Cb (i:=0) (se (N:=q18) (by decide +kernel) rfl) rfl (Or.inl rfl))) (fun _ _ _ _=>⟨_,Fd,by walk_at "B"⟩) (fun _ _ _ _=>⟨_,(Se PySem.F.plainAttrs_str PySem.F.slot_str_join PySem.F.type_str_join vj Jb (cb (pv 0) fb)),by walk_at "B"⟩))) fb)) fb))) rfl) (Vb Ib rfl T.Bf Rb (cb (pv 5) fb)) (Sb _)) (lb (Qb cy)) fc)
   (db (Gd (Ob ve (vb g8 hr rfl T.wb T.ub.kp T.xb .nil Db (cb (pv 0) (cb ib (cb ib fb)))) ib (Sb _)) (db (Fb (i:=6) Xi.nd rfl (Or.inr rfl) (vb g29 hr rfl T.Po T.Ph.kp T.Lo .nil Db (cb (pv 0) (cb (Pb Pc ib (vb g8 hr rfl T.wb T.ub.kp T.xb .nil Db (cb (pv 0) (cb ib (cb ib fb))))) fb))))
   (db (uh (i:=7) Xi.nd rfl (Or.inl rfl) rfl (Of rfl T.Hi (cb (Vb Ib rfl T.Bf Rb (cb (pv 6) fb)) fb)) (dc (sc:=pb LA) rfl (by decide +kernel)) (N:=["_law_k","_law_names_here"]) (sel:=[none,some 6]) (Cc (M:=q29) (by decide +kernel)) (Blk.of (fun _ _ _ _=>(Cb (i:=0) (se (N:=["_law_k","_law_names_here"]) (by decide +kernel) rfl) rfl (Or.inl rfl))) (fun _ _ _ _=>⟨_,Fd,by walk_at "B"⟩) (fun _ _ _ _=>⟨_,(br (cb Jb (cb (ic Yb (pv 1) (pv 0) (fun _ _=>rfl)) (cb ib (cb (Pb Pc ib (pv 0)) (cb ib (cb ib (cb ib fb)))))))),by walk_at "B"⟩)) rfl)
   (db (uh (i:=8) Xi.nd rfl (Or.inl rfl) rfl (Dc (pv 6)) (dc (sc:=pb LA) rfl (by decide +kernel)) (N:=["_law_name"]) (sel:=[none]) (Cc (M:=q29) (by decide +kernel)) (Blk.of (fun _ _ _ _=>(Cb (i:=0) (se (N:=["_law_name"]) (by decide +kernel) rfl) rfl (Or.inl rfl))) (fun _ _ _ _=>⟨_,Fd,by walk_at "B"⟩) (fun _ _ _ _=>⟨_,(sd (cb Jb (cb Jb (cb Jb (cb (pv 0) fb))))),by walk_at "B"⟩)) rfl)
   (lb (Qb (vb g18 hr rfl T.Km T.kj.kp T.Tn .nil Db (cb (vb g33 hr rfl T.Yk T.Hf.kp T.Lk .nil Db (cb (vb g32 hr rfl T.Hr T.Gj.kp T.Ur .nil Db (cb ib (cb (pv 7) fb))) fb)) (cb (pv 8) (cb ib (cb ib fb)))))))))) fc)
   (db (Gd (Ob ve (vb g8 hr rfl T.wb T.ub.kp T.xb .nil Db (cb (pv 0) (cb ib (cb ib fb)))) ib (Sb _)) (lb (Qb (vb g18 hr rfl T.Km T.kj.kp T.Tn .nil Db (cb (pv 3) (cb (Pb nw (pv 5) (sd (cb (sd (cb Jb fb)) fb))) (cb (Vb Ib rfl T.Bf Rb (cb (pv 5) fb)) (cb ib fb))))))) fc)
   (db (Fb (i:=9) Xi.nd rfl (Or.inl rfl) (vb g8 hr rfl T.wb T.ub.kp T.xb .nil Db (cb (pv 0) (cb ib (cb (Vb Ib rfl T.Bf Rb (cb (pv 5) fb)) fb)))))
   (db (Gd (Ob ve (vb g8 hr rfl T.wb T.ub.kp T.xb .nil Db (cb (pv 0) (cb ib (cb ib fb)))) ib (Sb _)) (db (nc (Se PySem.F.plainAttrs_list PySem.F.slot_list_append PySem.F.type_list_append we (ic Yb (pv 5) (pv 9) (fun _ _=>rfl)) (cb Jb fb)))
   (lb (Qb (vb g18 hr rfl T.Km T.kj.kp T.Tn .nil Db (cb (pv 3) (cb (pv 5) (cb (pv 9) (cb (Pb ck (Vb Ib rfl T.Bf Rb (cb (ic Yb (pv 5) (pv 9) (fun _ _=>rfl)) fb)) ib) fb)))))))) fc)
   (db (Fb (i:=10) Xi.nd rfl (Or.inl rfl) (vb g68 hr rfl T.qx T.Xk.kp T.Ow .nil Db (cb (pv 0) (cb (pv 2) (cb (pv 5) (cb (pv 9) fb))))))
   (db (Gd (Ob ve (vb g8 hr rfl T.wb T.ub.kp T.xb .nil Db (cb (pv 0) (cb ib (cb ib fb)))) ib (Sb _)) (db (nc (Se PySem.F.plainAttrs_list PySem.F.slot_list_append PySem.F.type_list_append we (ic Yb (pv 5) (pv 9) (fun _ _=>rfl)) (cb Jb fb)))
   (db (Re PassesOwn.never rfl (NC rfl T.Hi (cb (Pb Pc (pv 9) ib) (cb (Vb Ib rfl T.Bf Rb (cb (pv 5) fb)) fb))) (Cb (i:=11) Xi.nd rfl (Or.inl rfl)) (lb (gn Jb (Vo (ic Yb (pv 5) (pv 11) (fun _ _=>rfl)) (vb g8 hr rfl T.wb T.ub.kp T.xb .nil Db (cb (pv 0) (cb (Pb Pc ib (pv 11)) (cb ib fb)))) Vh))))
   (lb (Fb (i:=5) Xi.nd rfl (Or.inl rfl) (Pb nw (pv 5) (Pb gL (sd (cb (sd (cb Jb fb)) fb)) (vb g8 hr rfl T.wb T.ub.kp T.xb .nil Db (cb (pv 0) (cb ib (cb ib fb)))))))))) fc)
   (lb (Qb (vb g18 hr rfl T.Km T.kj.kp T.Tn .nil Db (cb (pv 3) (cb (pv 5) (cb (pv 9) (cb (pv 10) fb)))))))))))))))))),?_⟩
 refine zS (fun σ' H'=>bc H H'/\Sc K a ns H'/\∃ wl n ds,LW H' wl ds/\BH n ds/\(∀ d ∈ ds,d.least <= 4)/\(4 <= n/\n <= 99)/\(1 <= ds.length/\ds.length <= 6)/\σ'=[some (.ref a),some (.int n),some (.ref wl),none,none,none,none,none,none,none,none,none]) (fun D' hD=>?_) fun zzM zzh=>?_
 ·walk_at "RD";exact ⟨6,rfl,by decide,S0,fun tp wl n ds H' s1 S1 e1 L D hle hn hl=>⟨tp,rfl,_,SqT.of e1,rfl,_,_,rfl,_,_,rfl,rfl,hD _ _ ⟨s1,S1,wl,n,ds,L,D,hle,hn,by omega,rfl⟩⟩⟩
 rintro σ1 H1 ⟨s1,S1,wl,n,ds,L,D,hle,hn,hdl,rfl⟩;subst zzh;refine zS (fun σ' H'=>bc H1 H'/\Sc K a ns H'/\∃ c,Uc t H' c n ds/\σ'=[some (.ref a),some (.int n),some (.ref wl),some (.ref c),none,none,none,none,none,none,none,none]) (fun D' hD=>?_) fun zzM zzh=>?_
 ·walk_at "RD";exact ⟨n,wl,ds,rfl,L,D,by omega,by omega,S1.nt,n,ds,rfl,D.cok (by omega) (by omega),S1.nt,fun c H' s' n' C'=>hD _ _ ⟨s',S1.same s' n',c,C',rfl⟩⟩
 rintro σ2 H2 ⟨s2,S2,c,C,rfl⟩;have L2:=L.same s2;subst zzh;refine zS (fun σ' H'=>bc H2 H'/\Sc K a ns H'/\∃ sl qs ms sts,UL H' sl qs ms sts/\P30 n ds sts/\σ'=[some (.ref a),some (.int n),some (.ref wl),some (.ref c),some (.ref sl),none,none,none,none,none,none,none]) (fun D' hD=>?_) fun zzM zzh=>?_
 ·walk_at "RD";exact ⟨a,ns,n,wl,ds,rfl,h63,S2.seq,S2.nt,L2,D,hle,by omega,fun sl qs ms sts H' s' n' Q' X'=>hD _ _ ⟨s',S2.same s' n',sl,qs,ms,sts,Q',⟨D.nd,X',hdl.2,hdl.1,fun d hd=>(D.al d hd).1⟩,rfl⟩⟩
 rintro σ3 H3 ⟨s3,S3,sl,qs0,ms0,sts,SQ,X,rfl⟩;have L3:=L2.same s3;have C3:=C.same s3;have X6:=X.len;have W:W31 n ds:=⟨by omega,X.ok⟩;have hrl:(Zb ds sts).length=sts.length:=by unfold Zb;rw [length_map]
 have hs0:0 < sts.length:=List.length_pos_iff.mpr X.ne;have ROK:kF (Zb ds sts):=⟨fun z=>by have:=congrArg List.length z;rw [length_nil,hrl] at this;omega,by rw [hrl];omega,fun r hr=>by
  obtain ⟨a1,a2,a3⟩:=X.plain r hr;exact ⟨a1,by omega,fun x hx=>(a3 x hx).l⟩⟩
 subst zzh;refine zS (fun σ' H'=>bc H3 H'/\Sc K a ns H'/\∃ rl qs,LRq H3 H' rl qs (Zb ds sts)/\σ'=[some (.ref a),some (.int n),some (.ref wl),some (.ref c),some (.ref sl),some (.ref rl),none,none,none,none,none,none]) (fun D' hD=>?_) fun zzM zzh=>?_
 ·have hz:=X.txt;have hsp:=Hk (x:=Wj ds sts) (show 1 <= nl.length by rw [Xo];exact Nat.le_refl _);have hzz:∀ n:Nat,n <= 40000->n <= sizeLine:=fun n h=>Nat.le_trans h (by decide)
  obtain ⟨spA,spB⟩:=nF ROK.ne (fun r hr=>(ROK.al r hr).1) (fun r hr=>(ROK.al r hr).2.2);replace spA:Txt.split (Wj ds sts) nl=(Zb ds sts).map (Str.join bk):=spA;walk_at "RD";refine ⟨wl,ds,sl,qs0,ms0,sts,rfl,L3,SQ,X.sx,S3.nt,trivial,_,rfl,by rw [Xo];decide,hzz _ (by omega),hzz _ (show (Txt.split (Wj ds sts) nl).length <= 40000 by omega),fun p hp=>⟨⟨_,SqL.of gb⟩,?_⟩⟩;refine jd.list_mk (xs:=qb (Txt.split (Wj ds sts) nl)) (fun v=>match v with | .str r=>.lst (qb (Txt.split r bk)) | _=>.lst []) (SqL.of gb) (hzz _ (by rw [yb];omega)) (fun v=>by cases v <;> rfl) (fun i v H1 N hx sm nt1 hN=>?_) (fun qs H1' sm nt1 hl al p2 hp2=>?_)
  ·obtain ⟨r,hr',rfl⟩:=Mb hx;rw [spA] at hr';obtain ⟨r0,hr0,rfl⟩:=Mb hr';have hlr:=ROK.row _ (List.mem_map.mpr ⟨r0,mem_of_getElem? hr0,rfl⟩);have hs2:=Hk (x:=Str.join bk r0) (show 1 <= bk.length by rw [Bk];exact Nat.le_refl _);walk_at "RD";exact ⟨Sub.name,by rw [Bk];decide,hzz _ (by omega),hzz _ (show (Txt.split (Str.join bk r0) bk).length <= 40000 by omega),hN⟩
  ·have sm0:bc H3 H1':=(jb hp).trans sm;have hqA:∀ (j:Nat) (q:Addr) (r:List Str),qs[j]? = some q->(Zb ds sts)[j]? = some r->H1' q=some (.lst (qb r))/\H3 q=none:=fun j q r h1 h2=>by
    have:=al j q (.str (Str.join bk r)) h1 (ke (by rw [spA,getElem?_map,h2];rfl));replace this:H1' q=some (.lst (qb (Txt.split (Str.join bk r) bk)))/\_:=this;rw [spB r (mem_of_getElem? h2)] at this;exact ⟨this.1,(jb hp).free this.2⟩
   have hql:qs.length=(Zb ds sts).length:=by rw [hl,yb,spA,length_map]
   have hqx:∀ (j:Nat) (q:Addr),qs[j]? = some q->∃ r,(Zb ds sts)[j]? = some r:=fun j q h=>⟨_,getElem?_eq_getElem (show j < _ by rw [<- hql];exact (List.getElem?_eq_some_iff.mp h).1)⟩
   have hpq:p2 ∉ qs:=fun z=>by
    obtain ⟨j,hj⟩:=getElem?_of_mem z;obtain ⟨r,hr⟩:=hqx j p2 hj;have:=(hqA j p2 r hj hr).1;rw [hp2] at this;cases this
   refine hD _ _ ⟨sm0.updN (sm0.free hp2),S3.same (sm0.updN (sm0.free hp2)) ((nt1 (S3.nt.upd)).upd),p2,qs,⟨gb,hql,fun i j q h1 h2=>?_,hpq,fun j q r h1 h2=>?_,fun q hq=>?_,sm0.free hp2⟩,rfl⟩
   ·obtain ⟨r1,k1⟩:=hqx i q h1;obtain ⟨r2,k2⟩:=hqx j q h2;have f1:=(hqA i q r1 h1 k1).1;rw [(hqA j q r2 h2 k2).1] at f1;have:r2=r1:=sE (by injection f1 with f1;injection f1);subst this;exact X.inj k1 k2
   ·rw [zb (fun z=>hpq (by rw [<- z];exact mem_of_getElem? h1))];exact (hqA j q r h1 h2).1
   ·obtain ⟨j,hj⟩:=getElem?_of_mem hq;obtain ⟨r,hr⟩:=hqx j q hj;exact (hqA j q r hj hr).2
 rintro σ4 H4 ⟨s4,S4,rl,qs,R,rfl⟩;have C4:=C3.same s4;have L4:=L3.same s4;subst zzh;refine zS (fun σ' H'=>bc H4 H'/\Sc K a ns H'/\σ'=[some (.ref a),some (.int n),some (.ref wl),some (.ref c),some (.ref sl),some (.ref rl),none,none,none,none,none,none]) (fun D' hD=>?_) fun zzM zzh=>?_
 ·refine lv (fun b H'=>b=false/\bc H4 H'/\Sc K a ns H') (fun Q hQ=>?_) (fun H' z=>nomatch z.1) (fun H' z=>?_)
  ·have hqn:(qs.map V.ref).length=sts.length:=by rw [length_map,R.h2,hrl]
   walk_at "RD";refine ⟨⟨_,SqL.of R.h1⟩,?_⟩;refine jd.list_zs (xs:=qs.map V.ref) (zs:=qb ((Zb ds sts).map (Str.join bk))) (SqL.of R.h1) (by rw [hqn];exact Nat.le_trans X6 (by decide)) (by rw [yb,length_map,hrl,hqn]) (fun j v z N hv hz hN=>?_) (fun pn hpn=>?_)
   ·obtain ⟨q',hq',rfl⟩:=Mb hv;obtain ⟨x,hx,rfl⟩:=Mb hz;obtain ⟨r,hr',rfl⟩:=Mb hx;have er:=R.h5 j q' r hq' hr';obtain ⟨_,r20,rp⟩:=ROK.al r (mem_of_getElem? hr');walk_at "RD";refine ⟨Sub.name,_,SqL.of er,?_,?_⟩
    ·have h1:=qp (B:=40) fun x hx=>(rp x hx).1
     have h2:r.length * 40 <= 20 * 40:=Nat.mul_le_mul r20 (by omega);rw [show (Str.ofString " ").length=1 by decide +kernel];omega
    ·rw [show Txt.join (Str.ofString " ") r=Str.join bk r from StrLaws.glued_eq_join _ _];exact hN
   ·refine ⟨pn,rfl,_,SqL.of gb,?_,?_⟩
    ·have h1:=qp ROK.row;rw [length_map] at h1 ⊢;have h2:(Zb ds sts).length * 900 <= 20 * 900:=Nat.mul_le_mul ROK.ln (by omega);have h3:=ROK.ln;rw [show (Str.ofString "\n").length=1 by decide +kernel];omega
    ·rw [show Txt.join (Str.ofString "\n") ((Zb ds sts).map (Str.join bk))=Wj ds sts from StrLaws.glued_eq_join _ _];refine ⟨c,n,ds,sts,rfl,C4.same (jb hpn),hn,X,S4.nt.upd,fun sa H' s' n' SA=>?_⟩;obtain ⟨dx,le,mo,me,so,ho,ch,e1⟩:=SA;have sP:=(jb (o:=.lst (qb ((Zb ds sts).map (Str.join bk)))) hpn).trans s';refine ⟨_,rfl,_,Dy T e1,_,.inl (SqL.of (sP _ _ R.h1)),rfl,?_⟩;rw [hqn,show (pe ds sts).length=sts.length by unfold pe;rw [length_map],decide_eq_true rfl];exact hQ _ _ ⟨rfl,sP,S4.same sP n'⟩
  ·simp only [Qc];exact hD _ _ ⟨z.2.1,z.2.2,rfl⟩
 rintro σ5 H5 ⟨s5,S5,rfl⟩;have R5:=R.same s5;have C5:=C4.same s5;have L5:=L4.same s5;have s35:=s4.trans s5;subst zzh;simp only [Ab];refine Gb (fun σ' H'=>H'=H5/\σ'=[some (.ref a),some (.int n),some (.ref wl),some (.ref c),some (.ref sl),some (.ref rl),none,none,none,none,none,none]) (fun D' hD hrt _ _=>?_) ?_
 ·refine ac (decide (Od ns 230 8=0)) (fun Q hQ=>?_) (fun zz=>?_) (fun zz=>?_)
  ·walk_at "RD";refine ⟨a,ns,_,_,rfl,h63,S5.seq,⟨by decide,by decide⟩,by decide,rfl,?_⟩;rw [show decide (V.int (Od ns 230 8)=V.int 0)=decide (Od ns 230 8=0) from decide_eq_decide.mpr (by simp)];exact hQ
  ·simp only [Ab];refine zzC (fun σ' H'=>bc H5 H'/\Sc K a ns H'/\∃ np m xs,H' np=some (.lst (qb xs))/\Nms m xs/\(7 <= m/\m <= 8)/\σ'=[some (.ref a),some (.int n),some (.ref wl),some (.ref c),some (.ref sl),some (.ref rl),some (.ref np),none,none,none,none,none]) (fun D2 hD2=>?_) fun zzM zzh=>?_
   ·have v1:=xc ns 231 (m:=2) (by decide);have v2:=wc ns 231 (m:=2) (by decide);obtain ⟨v,hv⟩:∃ v:Nat,Od ns 231 2=(v:Int):=⟨_,(Int.toNat_of_nonneg v1).symm⟩;walk_at "RD";refine ⟨a,ns,_,_,rfl,h63,S5.seq,⟨by decide,by decide⟩,by decide,_,rfl,7 + v,?_,S5,by omega,fun p xs H' s' S' hp w' N'=>hD2 _ _ ⟨s',S',p,_,xs,w',N',by omega,rfl⟩⟩;rw [hv,Int.natCast_add];rfl
   rintro σ6 H6 ⟨s6,S6,np,m,xs,w6,N6,hm6,rfl⟩;subst zzh;simp only [Ab];refine zzC (fun σ' H'=>bc H6 H'/\Sc K a ns H'/\∃ mp ds7,LW H' mp ds7/\ds7.map (·.name)=xs/\(∀ d ∈ ds7,WOk 99 d)/\σ'=[some (.ref a),some (.int n),some (.ref wl),some (.ref c),some (.ref sl),some (.ref rl),some (.ref np),some (.ref mp),none,none,none,none]) (fun D2 hD2=>?_) fun zzM zzh=>?_
   ·obtain ⟨N1,N2,N3⟩:=id N6;have dG:∀ (j:Nat) (x:Str),xs[j]? = some x->(xs.mapIdx d7)[j]? = some (d7 j x):=fun j x h=>by rw [List.getElem?_mapIdx,h];rfl
    walk_at "RD";refine ⟨_,.inl (SqL.of w6),by omega,by rw [yb,N1];omega,?_⟩;rw [yb,N1,Int.toNat_natCast];refine jd.range (fun i ys H'=>∃ qs:List Addr,ys=qs.map V.ref/\qs.length=i/\bc H6 H'/\NoT H'/\∀ (j:Nat) (q:Addr) (x:Str),qs[j]? = some q->xs[j]? = some x->H' q=some (.tup (Fx (d7 j x)))) (Nat.le_trans hm6.2 (by decide)) ⟨[],rfl,rfl,bc.refl _,S6.nt,fun j q x h _=>by simp at h⟩ (fun i ys H' _ ⟨qs,e1,e2,_⟩=>by rw [e1,length_map,e2];exact Nat.le_refl _) ?_ ?_
    ·rintro i ys H' hi ⟨qs1,e1,e2,sm,nt,al⟩ N hN;have hx:xs[i]? = some (xs[i]'(by omega)):=getElem?_eq_getElem _;generalize xs[i]'(by omega)=x at hx;walk_at "RD";refine ⟨Sub.name,_,SqL.of (sm _ _ w6),_,Eb (ke hx),by decide,fun p hp=>hN _ _ ⟨qs1 ++ [p],by rw [e1,map_append];rfl,by rw [length_append,e2];rfl,sm.trans (jb hp),nt.upd,fun j q x' h1 h2=>?_⟩⟩;rcases kf h1 with ⟨z1,z2⟩ | ⟨z1,rfl⟩
     ·have:=al j q x' z2 h2;rw [zb (Kb this hp)];exact this
     ·have:j=i:=by omega
      subst this;rw [hx] at h2;cases h2;rw [gb];rfl
    ·rintro ys H' ⟨qs1,e1,e2,sm,nt,al⟩ p hp;subst e1;have sP:=sm.trans (jb (o:=.lst (qs1.map V.ref)) hp);refine hD2 _ _ ⟨sP,S6.same sP nt.upd,p,xs.mapIdx d7,⟨qs1,gb,by rw [List.length_mapIdx,e2,N1],fun j q d h1 h2=>?_⟩,?_,fun d hd=>?_,rfl⟩
     ·rw [List.getElem?_mapIdx] at h2;cases hx:xs[j]? with
      | none=>rw [hx] at h2;cases h2
      | some x=>
       rw [hx] at h2;cases h2;exact (jb hp) _ _ (al j q x h1 hx)
     ·apply List.ext_getElem?;intro j;rw [getElem?_map,List.getElem?_mapIdx];cases xs[j]? <;> rfl
     ·obtain ⟨j,hj⟩:=getElem?_of_mem hd;rw [List.getElem?_mapIdx] at hj;cases hx:xs[j]? with
      | none=>rw [hx] at hj;cases hj
      | some x=>
       rw [hx] at hj;cases hj;have hjl:=(List.getElem?_eq_some_iff.mp hx).1;exact ⟨show 0 < 3 by decide,N3 x (mem_of_getElem? hx),show (0:Int) <= 0/\(0:Int) < 99 by decide,⟨show (0:Int) <= 1 + (j:Int) by omega,show (1:Int) + (j:Int) < 99 by omega⟩,show (0:Int) ≠ 1 + (j:Int) by omega,show (0:Int) <= 1/\(1:Int) <= 30 by decide,show (0:Int) <= 1/\(1:Int) <= 30 by decide,show (1:Int) <= 1/\(1:Int) <= 60 by decide⟩
   rintro σ7 H7 ⟨s7,S7,mp,ds7,L7,hn7,hok7,rfl⟩;subst zzh;simp only [Ab];refine zzC (fun σ' H'=>bc H7 H'/\Sc K a ns H'/\∃ sp,LR H' sp (xs.map DB)/\σ'=[some (.ref a),some (.int n),some (.ref wl),some (.ref c),some (.ref sl),some (.ref rl),some (.ref np),some (.ref mp),some (.ref sp),none,none,none]) (fun D2 hD2=>?_) fun zzM zzh=>?_
   ·have w7:=s7 _ _ w6;walk_at "RD";refine ⟨⟨_,SqL.of w7⟩,?_⟩;refine jd.list_mk (xs:=qb xs) (fun v=>.lst [.str (Str.ofString "stage"),.str (Str.ofString "1"),.str (Str.ofString "2"),v]) (SqL.of w7) (Nat.le_trans (show _ <= 8 by rw [yb,N6.1];exact hm6.2) (by decide)) (fun v=>rfl) (fun i v H1 N hx sm nt1 hN=>?_) (fun qs1 H1' sm nt1 hl al p2 hp2=>?_)
    ·walk_at "RD";exact ⟨Sub.name,by decide,hN⟩
    ·have sP:=sm.updN (o:=.lst (qs1.map V.ref)) (sm.free hp2);refine hD2 _ _ ⟨sP,S7.same sP (nt1 S7.nt).upd,p2,⟨qs1,gb,by rw [hl,yb,length_map],fun j q r h1 h2=>?_⟩,rfl⟩;obtain ⟨x,hx,rfl⟩:=Mb h2;have:=(al j q (.str x) h1 (ke hx)).1;rw [zb (Kb this hp2)];exact this
   rintro σ8 H8 ⟨s8,S8,sp,LR8,rfl⟩;have l7:ds7.length=xs.length:=by rw [<- hn7,length_map]
   obtain ⟨N1,N2,N3⟩:=id N6;have D7:BH 99 ds7:=⟨fun d hd=>⟨hok7 d hd,trivial⟩,by rw [hn7];exact N2⟩;subst zzh;walk_at "RD";refine ⟨99,mp,ds7,rfl,L7.same s8,D7,by decide,by omega,S8.nt,99,ds7,rfl,D7.cok (by decide) (by omega),S8.nt,fun c7 H' s' n' C'=>⟨c7,99,ds7,sp,xs.map DB,6,0,rfl,C',⟨by decide,hok7⟩,LR8.same s',⟨fun z=>?_,by rw [length_map];omega,fun r hr=>?_⟩,?_,n',by rw [hrt];exact q _⟩⟩
   ·have:=congrArg List.length z;rw [length_map,length_nil] at this;omega
   ·obtain ⟨x,hx,rfl⟩:=List.mem_map.mp hr;refine ⟨by unfold DB;simp,by unfold DB;simp,fun y hy=>?_⟩;have hp:=(Si (N3 x hx)).l;unfold DB at hy;simp only [mem_cons,not_mem_nil,or_false] at hy;rcases hy with rfl | rfl | rfl | rfl
    ·unfold PlainL;decide +kernel
    ·unfold PlainL;decide +kernel
    ·unfold PlainL;decide +kernel
    ·exact hp
   ·have:=TD N2 (fun x hx=>by rw [hn7];exact hx) (show 6 < xs.length by omega) 6 0 rfl (by decide);exact this
  ·simp only [Qc];exact hD _ _ ⟨rfl,rfl⟩
 rintro σ5 H5 ⟨rfl,rfl⟩;simp only [Ab];refine Gb (fun σ' H'=>H'=H5/\σ'=[some (.ref a),some (.int n),some (.ref wl),some (.ref c),some (.ref sl),some (.ref rl),none,none,none,none,none,none]) (fun D' hD hrt _ _=>?_) ?_
 ·refine ac (decide (Od ns 232 8=0)) (fun Q hQ=>?_) (fun zz=>?_) (fun zz=>?_)
  ·walk_at "RD";refine ⟨a,ns,_,_,rfl,h63,S5.seq,⟨by decide,by decide⟩,by decide,rfl,?_⟩;rw [show decide (V.int (Od ns 232 8)=V.int 0)=decide (Od ns 232 8=0) from decide_eq_decide.mpr (by simp)];exact hQ
  ·have hqn:(qs.map V.ref).length=sts.length:=by rw [length_map,R.h2,hrl]
   walk_at "RD";refine ⟨by decide,fun p hp=>⟨by decide,fun p1 hp1=>?_⟩⟩;have sp:=(jb (o:=.lst [V.str (Str.ofString "")]) hp).trans (jb (o:=.lst [V.ref p]) hp1);refine ⟨_,sp _ _ R5.h1,_,gb,Nat.le_trans (show _ <= 7 by rw [hqn];show sts.length + 1 <= 7;omega) (by decide),fun p2 hp2=>?_⟩;have sp2:=sp.trans (jb (o:=.lst (qs.map V.ref ++ [V.ref p])) hp2);refine ⟨_,.inl (SqL.of (sp2 _ _ R5.h1)),?_⟩;rw [hqn];refine ⟨c,n,ds,p2,Zb ds sts ++ [[Str.ofString ""]],sts.length,0,rfl,C5.same sp2,W,⟨qs ++ [p],by rw [gb,map_append];rfl,by rw [length_append,length_append,R.h2];rfl,fun j q' r h1 h2=>?_⟩,⟨by simp,by rw [length_append,hrl];show sts.length + 1 <= 20;omega,fun r hr=>?_⟩,?_,S5.nt.upd.upd.upd,by rw [hrt];exact q _⟩
   ·rcases kf h1 with ⟨z1,z2⟩ | ⟨z1,rfl⟩
    ·rcases kf h2 with ⟨y1,y2⟩ | ⟨y1,_⟩
     ·exact sp2 _ _ (R5.h5 j q' r z2 y2)
     ·have:=R.h2;omega
    ·rcases kf h2 with ⟨y1,y2⟩ | ⟨y1,rfl⟩
     ·have:=R.h2;omega
     ·exact ((jb hp1).trans (jb hp2)) _ _ gb
   ·rcases List.mem_append.mp hr with z | z
    ·exact ROK.al r z
    ·rw [List.mem_singleton.mp z];exact ⟨by simp,by simp,fun y hy=>by rw [List.mem_singleton.mp hy];unfold PlainL;decide +kernel⟩
   ·have:=X.pre sts.length (Nat.le_refl _) [[Str.ofString ""]];rw [<- hrl,take_length] at this;rw [this];unfold Ud;rw [hrl];split
    ·rfl
    ·rw [qO (show wd [Str.ofString ""] 0 ≠ Str.ofString "stage" by decide +kernel)]
  ·simp only [Qc];exact hD _ _ ⟨rfl,rfl⟩
 rintro σ5 H5 ⟨rfl,rfl⟩;have e1:=xc ns 233 (m:=(sts.length:Int)) (by omega);have e2:=wc ns 233 (m:=(sts.length:Int)) (by omega);obtain ⟨i,hi0⟩:∃ u:Nat,Od ns 233 (sts.length:Int)=(u:Int):=⟨_,(Int.toNat_of_nonneg e1).symm⟩;have hi:i < sts.length:=by omega
 have hst:sts[i]? = some sts[i]:=getElem?_eq_getElem hi;generalize sts[i]=sg at hst;have hsm:=mem_of_getElem? hst;obtain ⟨g1,g2,g3,g4⟩:=X.sgLen hsm;have hrow:(Zb ds sts)[i]? = some (Lb ds sg):=by unfold Zb;rw [getElem?_map,hst];rfl
 have hqi:qs[i]? = some (qs[i]'(by rw [R.h2,hrl];exact hi)):=getElem?_eq_getElem _;generalize qs[i]'(by rw [R.h2,hrl];exact hi)=pq at hqi;have epq:=R5.h5 i pq _ hqi hrow;have hpq0:=R.h6 pq (mem_of_getElem? hqi);have apq:=Eb (xs:=qs.map V.ref) (j:=i) (by rw [getElem?_map,hqi];rfl);simp only [Ab];refine zzC (fun σ' H'=>H'=H5/\σ'=[some (.ref a),some (.int n),some (.ref wl),some (.ref c),some (.ref sl),some (.ref rl),none,none,none,some (.int (i:Nat)),none,none]) (fun D' hD=>?_) fun zzM zzh=>?_
 ·walk_at "RD";refine ⟨_,.inl (SqL.of R5.h1),?_⟩;rw [length_map,R.h2,hrl];refine ⟨a,ns,_,_,rfl,h63,S5.seq,⟨by decide,by decide⟩,by omega,?_⟩;rw [hi0];exact hD _ _ ⟨rfl,rfl⟩
 rintro σ5 H5 ⟨rfl,rfl⟩;subst zzh;simp only [Ab];refine Gb (fun σ' H'=>H'=H5/\σ'=[some (.ref a),some (.int n),some (.ref wl),some (.ref c),some (.ref sl),some (.ref rl),none,none,none,some (.int (i:Nat)),none,none]) (fun D' hD hrt _ _=>?_) ?_
 ·refine ac (decide (Od ns 234 8=0)) (fun Q hQ=>?_) (fun zz=>?_) (fun zz=>?_)
  ·walk_at "RD";refine ⟨a,ns,_,_,rfl,h63,S5.seq,⟨by decide,by decide⟩,by decide,rfl,?_⟩;rw [show decide (V.int (Od ns 234 8)=V.int 0)=decide (Od ns 234 8=0) from decide_eq_decide.mpr (by simp)];exact hQ
  ·have ew:qb (Lb ds sg) ++ [V.str (Str.ofString "")]=qb (Lb ds sg ++ [Str.ofString ""]):=by unfold qb;rw [map_append];rfl
   have R6:=R5.put (j:=i) (r':=Lb ds sg ++ [Str.ofString ""]) hqi;have hm0:Str.ofString "" ∉ Je ds (pe ds (sts.take i)):=fun z=>by
    obtain ⟨d,hd,e⟩:=List.mem_map.mp (List.mem_filter.mp z).1;have h:=(Mc (X.ok d hd).nm).1.1;rw [e] at h;exact absurd h (by decide +kernel)
   have hp0:PlainL (Str.ofString ""):=by unfold PlainL;decide +kernel
   have RG:RwG (Lb ds sg ++ [Str.ofString ""]):=⟨by simp,by rw [length_append,g3];show 3 + sg.ix.length + 1 <= 12;omega,fun x hx=>by
    rcases List.mem_append.mp hx with z | z
    ·exact (ROK.al _ (mem_of_getElem? hrow)).2.2 x z
    ·rw [List.mem_singleton.mp z];exact hp0⟩
   have RS:=Rst.of X hi ⟨RG.1,Nat.le_trans RG.2.1 (by decide),RG.2.2⟩;have er:=X.name hst (q:=sg.ix.length) (Nat.le_refl _) (y:=Str.ofString "") (tl:=[]) (.inl hm0);rw [show (pf ds sg).take sg.ix.length=pf ds sg from take_of_length_le (by rw [g4];exact Nat.le_refl _),<- append_assoc] at er;have ee:=RS.err X hi (tl:=[]) er;rw [append_nil] at ee;have e6:=R6.h5 i pq _ hqi (getElem?_set_self (by rw [hrl];exact hi));walk_at "RD";refine ⟨_,SqL.of R5.h1,_,apq,.inl ⟨_,SqL.of epq⟩,_,rfl,_,epq,Nat.lt_of_le_of_lt (show _ <= 9 by rw [yb,g3];omega) (by decide),?_⟩;rw [ew];refine ⟨_,SqL.of R6.h1,_,apq,_,rfl,_,.inl (SqL.of e6),?_⟩;rw [yb,length_append,g3];refine ⟨c,n,ds,rl,_,i,3 + sg.ix.length,?_,C3.same (s35.updN hpq0),W,R6.lr,RS.ok,ee,S5.nt.upd,by rw [hrt];exact q _⟩;rw [show (((3 + sg.ix.length + [Str.ofString ""].length:Nat):Int) - 1)=((3 + sg.ix.length:Nat):Int) by show (((3 + sg.ix.length + 1:Nat):Int) - 1)=_;omega]
  ·simp only [Qc];exact hD _ _ ⟨rfl,rfl⟩
 rintro σ5 H5 ⟨rfl,rfl⟩;simp only [Ab];refine zzC (fun σ' H'=>bc H3 H'/\NoT H'/\∃ (k:Nat) (ws:List Str) (qs':List Addr),LRq H3 H' rl qs' ((Zb ds sts).set i ws)/\RwG ws/\(∀ tl,tl=[]\/tl=[Str.ofString ""]->De ds (pe ds (sts.take i)) (ws ++ tl)=.error k)/\σ'=[some (.ref a),some (.int n),some (.ref wl),some (.ref c),some (.ref sl),some (.ref rl),none,none,none,some (.int (i:Nat)),some (.int (k:Nat)),none]) (fun D' hD=>?_) fun zzM zzh=>?_
 ·walk_at "RD";exact ⟨a,ns,n,wl,ds,sts,rl,qs,H3,i,rfl,h63,S3.seq,L3,X,s35,R5,hi,S5.nt,fun k ws qs' H' s' n' R' hw he=>hD _ _ ⟨s',n',k,ws,qs',R',hw,he,rfl⟩⟩
 rintro σ6 H6 ⟨s6,n6,k,ws,qs',R6,hw6,he6,rfl⟩;have C6:=C3.same s6;subst zzh;simp only [Ab];refine zzC (fun σ' H'=>bc H3 H'/\NoT H'/\∃ rl' rss x11,LR H' rl' rss/\kF rss/\Ud ds rss 0 []=.error (i,k)/\σ'=[some (.ref a),some (.int n),some (.ref wl),some (.ref c),some (.ref sl),some (.ref rl'),none,none,none,some (.int (i:Nat)),some (.int (k:Nat)),x11]) (fun D' hD=>?_) fun zzM zzh=>?_
 ·refine ac (decide (Od ns 235 2=0)) (fun Q hQ=>?_) (fun zz=>?_) (fun zz=>?_)
  ·walk_at "RD";refine ⟨a,ns,_,_,rfl,h63,S3.seq.same s6,⟨by decide,by decide⟩,by decide,rfl,?_⟩;rw [show decide (V.int (Od ns 235 2)=V.int 0)=decide (Od ns 235 2=0) from decide_eq_decide.mpr (by simp)];exact hQ
  ·simp only [Ab];refine zzC (fun σ' H'=>bc H3 H'/\NoT H'/\(∃ rss,LRq H3 H' rl qs' rss/\Rst ds sts i (ws ++ [Str.ofString ""]) rss)/\σ'=[some (.ref a),some (.int n),some (.ref wl),some (.ref c),some (.ref sl),some (.ref rl),none,none,none,some (.int (i:Nat)),some (.int (k:Nat)),none]) (fun D2 hD2=>?_) fun zzM zzh=>?_
   ·have hqi':qs'[i]? = some (qs'[i]'(by rw [R6.h2,length_set,hrl];exact hi)):=getElem?_eq_getElem _;generalize qs'[i]'(by rw [R6.h2,length_set,hrl];exact hi)=pw at hqi';have epw:=R6.h5 i pw _ hqi' (getElem?_set_self (by rw [hrl];exact hi));have apw:=Eb (xs:=qs'.map V.ref) (j:=i) (by rw [getElem?_map,hqi'];rfl);have ew:qb ws ++ [V.str (Str.ofString "")]=qb (ws ++ [Str.ofString ""]):=by unfold qb;rw [map_append];rfl
    have R7:=R6.put (j:=i) (r':=ws ++ [Str.ofString ""]) hqi';rw [set_set] at R7;have hp0:PlainL (Str.ofString ""):=by unfold PlainL;decide +kernel
    have hw12:=hw6.2.1;have RG:ws ++ [Str.ofString ""] ≠ []/\(ws ++ [Str.ofString ""]).length <= 13/\∀ x ∈ ws ++ [Str.ofString ""],PlainL x:=⟨by simp,by rw [length_append];show ws.length + 1 <= 13;omega,fun x hx=>by
     rcases List.mem_append.mp hx with z | z
     ·exact hw6.2.2 x z
     ·rw [List.mem_singleton.mp z];exact hp0⟩
    walk_at "RD";refine ⟨_,SqL.of R6.h1,_,apw,.inl ⟨_,SqL.of epw⟩,_,rfl,_,epw,Nat.lt_of_le_of_lt (show _ <= 12 by rw [yb];exact hw12) (by decide),?_⟩;rw [ew];exact hD2 _ _ ⟨s6.updN (R6.h6 pw (mem_of_getElem? hqi')),n6.upd,⟨_,R7,Rst.of X hi RG⟩,rfl⟩
   rintro σ7 H7 ⟨s7,n7,⟨rss,R7,T7⟩,rfl⟩;subst zzh;simp only [Ab];refine zzC (fun σ' H'=>bc H3 H'/\NoT H'/\(∃ rss,LRq H3 H' rl qs' rss/\Rst ds sts i (ws ++ [Str.ofString ""]) rss)/\∃ x11,σ'=[some (.ref a),some (.int n),some (.ref wl),some (.ref c),some (.ref sl),some (.ref rl),none,none,none,some (.int (i:Nat)),some (.int (k:Nat)),x11]) (fun D2 hD2=>?_) fun zzM zzh=>?_
   ·have hql:(qs'.map V.ref).length=sts.length:=by rw [length_map,R7.h2,T7.ln]
    walk_at "RD";refine ⟨_,.inl (SqL.of R7.h1),by omega,by omega,by omega,by rw [hql];omega,?_⟩;rw [hql];refine Uj.range (fun j σ H'=>bc H3 H'/\NoT H'/\(∃ rss,LRq H3 H' rl qs' rss/\Rst ds sts i (ws ++ [Str.ofString ""]) rss)/\∃ x11,σ=[some (.ref a),some (.int n),some (.ref wl),some (.ref c),some (.ref sl),some (.ref rl),none,none,none,some (.int (i:Nat)),some (.int (k:Nat)),x11]) ⟨s7,n7,⟨rss,R7,T7⟩,_,rfl⟩ ?_ ?_
    ·rintro j σ H' hj zzq;refine zP fun zzM zzh=>?_
     obtain ⟨s8,n8,⟨rss,R8,T8⟩,x11,rfl⟩:=zzq;obtain ⟨jj,hjj⟩:∃ jj:Nat,jj=i + 1 + j:=⟨_,rfl⟩;have hjl:jj < sts.length:=by omega
     have ejj:(i:Int) + 1 + (j:Int)=(jj:Int):=by omega
     have hrj:rss[jj]? = some (rss[jj]'(by rw [T8.ln];exact hjl)):=getElem?_eq_getElem _;subst zzh;generalize rss[jj]'(by rw [T8.ln];exact hjl)=r at hrj;have hqj:qs'[jj]? = some (qs'[jj]'(by rw [R8.h2,T8.ln];exact hjl)):=getElem?_eq_getElem _;generalize qs'[jj]'(by rw [R8.h2,T8.ln];exact hjl)=qj at hqj;have eqj:=R8.h5 jj qj r hqj hrj;have aqj:=Eb (xs:=qs'.map V.ref) (j:=jj) (by rw [getElem?_map,hqj];rfl);have h3:=T8.lo jj r (by omega) hrj;have v1:=xc ns (236 + (jj:Int)) (m:=3) (by decide);have v2:=wc ns (236 + (jj:Int)) (m:=3) (by decide);obtain ⟨v,hv⟩:∃ v:Nat,Od ns (236 + (jj:Int)) 3=(v:Int):=⟨_,(Int.toNat_of_nonneg v1).symm⟩;have setV:(qb r).set v (.str (Str.ofString "0"))=qb (r.set v (Str.ofString "0")):=by unfold qb;rw [List.map_set]
     simp only [cf,set_cons_succ,set_cons_zero];rw [ejj];walk_at "RD";refine ⟨_,SqL.of R8.h1,_,aqj,a,ns,_,_,rfl,h63,S3.seq.same s8,⟨by omega,by omega⟩,by decide,?_⟩;rw [hv];refine ⟨qj,rfl,_,v,rfl,eqj,v,Gk (by rw [yb];omega),?_⟩;rw [setV];exact ⟨s8.updN (R8.h6 qj (mem_of_getElem? hqj)),n8.upd,⟨_,R8.put hqj,T8.put (by omega) hrj v (by unfold PlainL;decide +kernel)⟩,_,rfl⟩
    ·rintro σ H' zzq;refine zP fun zzM zzh=>?_
     obtain ⟨s8,n8,h8,x11,rfl⟩:=zzq;subst zzh;exact hD2 _ _ ⟨s8,n8,h8,_,rfl⟩
   rintro σ8 H8 ⟨s8,n8,⟨rss,R8,T8⟩,x11,rfl⟩;have v1:=xc ns 245 (m:=7) (by decide);have v2:=wc ns 245 (m:=7) (by decide);obtain ⟨v,hv⟩:∃ v:Nat,Od ns 245 7=(v:Int):=⟨_,(Int.toNat_of_nonneg v1).symm⟩;have hql:(qs'.map V.ref).length=sts.length:=by rw [length_map,R8.h2,T8.ln]
   subst zzh;walk_at "RD";refine ⟨by decide,fun p hp=>⟨by decide,fun p1 hp1=>?_⟩⟩;have sp:=(jb (o:=.lst [V.str (Str.ofString "stage")]) hp).trans (jb (o:=.lst [V.ref p]) hp1);refine ⟨a,ns,_,_,rfl,h63,(S3.seq.same s8).same sp,⟨by decide,by decide⟩,by decide,?_⟩;rw [hv];refine ⟨_,rfl,_,gb,by omega,by omega,?_⟩;rw [Int.toNat_natCast];have erep:(List.replicate v [V.ref p]).flatten=(List.replicate v p).map V.ref:=by
    rw [List.map_replicate];clear hv v1 v2
    induction v with
    | zero=>rfl
    | succ v ih=>rw [replicate_succ,flatten_cons,ih,replicate_succ];rfl
   refine ⟨Nat.le_trans (show 1 * v <= 7 by omega) (by decide),fun p2 hp2=>?_⟩;rw [erep];have sp2:=sp.trans (jb (o:=.lst ((List.replicate v p).map V.ref)) hp2);refine ⟨_,sp2 _ _ R8.h1,_,gb,Nat.le_trans (show _ <= 13 by rw [hql,length_map,List.length_replicate];omega) (by decide),fun p3 hp3=>?_⟩;have sp3:=sp2.trans (jb (o:=.lst (qs'.map V.ref ++ (List.replicate v p).map V.ref)) hp3);have eP:H8 p=none:=hp;have eP3:∀ o,(upd (upd (upd (upd H8 p (.lst [V.str (Str.ofString "stage")])) p1 (.lst [V.ref p])) p2 (.lst ((List.replicate v p).map V.ref))) p3 o) p=some (.lst (qb [Str.ofString "stage"])):=fun o=>(((jb hp1).trans (jb hp2)).trans (jb hp3)) _ _ gb
   refine hD _ _ ⟨s8.trans sp3,n8.upd.upd.upd.upd,p3,rss ++ List.replicate v [Str.ofString "stage"],_,⟨qs' ++ List.replicate v p,by rw [gb,map_append],by rw [length_append,length_append,List.length_replicate,List.length_replicate,R8.h2],fun j q' r h1 h2=>?_⟩,⟨?_,?_,fun r hr=>?_⟩,T8.err X hi (he6 _ (.inr rfl)),rfl⟩
   ·by_cases cj:j < qs'.length
    ·rw [getElem?_append_left cj] at h1;rw [getElem?_append_left (by rw [<- R8.h2];exact cj)] at h2;exact sp3 _ _ (R8.h5 j q' r h1 h2)
    ·rw [getElem?_append_right (by omega)] at h1;rw [getElem?_append_right (by rw [<- R8.h2];omega)] at h2;rw [List.eq_of_mem_replicate (mem_of_getElem? h1),List.eq_of_mem_replicate (mem_of_getElem? h2)];exact eP3 _
   ·intro z;have:=congrArg List.length z;rw [length_append,T8.ln,length_nil] at this;omega
   ·rw [length_append,T8.ln,List.length_replicate];omega
   ·rcases List.mem_append.mp hr with z | z
    ·exact T8.ok.al r z
    ·rw [List.eq_of_mem_replicate z];exact ⟨by simp,by simp,fun y hy=>by rw [List.mem_singleton.mp hy];unfold PlainL;decide +kernel⟩
  ·simp only [Qc];have RS:=Rst.of X hi ⟨hw6.1,Nat.le_trans hw6.2.1 (by decide),hw6.2.2⟩;have:=RS.err X hi (tl:=[]) (by have:=he6 [] (.inl rfl);rwa [append_nil] at this);rw [append_nil] at this;exact hD _ _ ⟨s6,n6,rl,_,none,R6.lr,RS.ok,this,rfl⟩
 rintro σ7 H7 ⟨s7,n7,rl',rss,x11,LR7,RO7,er7,rfl⟩;subst zzh;walk_at "RD";exact ⟨c,n,ds,rl',rss,i,k,rfl,C3.same s7,W,LR7,RO7,er7,n7,q _⟩
end
end My
structure PySem.W.Fast:Prop where(tw11184203263001797959 tw9364103279420919455 tw16902720045012119215 tw11054168636556010356 tw11169429095060079671 tw4651269042396902061 tw8327942312909073642 tw17261647256429757808 tw834397190274380083 tw4778846846498149392 tw4547558086453884791 tw16687009240010751356 tw2449332303597667828 tw8312538384922455094 tw10432305294570753377 tw5835057531969059248 tw3787708057686484407 tw1560507569286497068 tw14363327380807575244 tw12970063037938565911 tw9060255036533203912 tw5032559742010658132 tw12557345455947418759 tw16532056191165158714 tw16533220789386111945 tw14335060445559363776 tw17118984286386081757 tw12958541689376091787 tw6120810084518354632 tw13433110193519420637 tw1317620018241875517 tw16037766441531473181 tw10512927820200774518 tw11399732999509267174 tw825591095131086234 tw16383314698030588685 tw7185787189745041697 tw7459358336885768365 tw14072093407962746905 tw13863294693085880186 tw17325021121363536255 tw8179067601863946834 tw12753971916950166217 tw15450140134724142722 tw17282479140624603026 tw12428525205333023706 tw16479925042044600122 tw505274599436513090 tw727971258599817226 tw1338127451494692463 tw5536733898815793053 tw8389576489438664634 tw10081189443687678628 tw13631983632566657279 tw17043864764687826779 tw3741471371539818965 tw13799085923807077782 tw10581932446774094181 tw5397195673717314572 tw13617747606694276393 tw4102306920623105880 tw10956892540581013544 tw13028722044692113937 tw10100827998383922530 tw14522693453062668895 tw13839227055399263711 tw15333057942961435882 tw11767210263958323600 tw10268527902332446549 tw11775620512296419943 tw13319801223727815000 tw1282358011660103513 tw12764976980536688131 tw17425695281401663563 tw15060635514865619963 tw1822649451148310458 tw12579424848823967961 tw17309240783436985608 tw5316103683916171039 tw1092830810163833759 tw10218089228035093054 tw2420760298448562826 tw5852242330523530047 tw1018893590270830234 tw9869706908532644750 tw8511773439508286916 tw14599480482551223173 tw13062561560138892723 tw13061281861783783683 tw16136526117055462505 tw1191639769306652545 tw2985078926729835628 tw2842944384079977195 tw16306374384530330725 tw12394313567235437658 tw71608862156568196 tw5170488907271861198 tw11466320543049689213 tw12689321637889026590 tw16948953381458116812 tw17854362925441495503 tw15148610065866570796 tw13254927133523549437 tw11287151378877859775 tw1808418670489658534 tw2968489057245999077 tw6195237258769817224 tw8290905319185565388 tw8183131408268433554 tw18377415077561328200 tw8092605842066523577 tw871342118621253123 tw10256830551972984969 tw3950391372540035570 tw7383404406234453149 tw2769728932826452768 tw10905708457873453643 tw9964912041118622898 tw17443007539418745922 tw4907088682828869189 tw6492827719722118667 tw6500450129841187763 tw8120293479879273691 tw13780716112168218893 tw17912464219688307282 tw15879841795185166057 tw2705202021723668504 tw18209387232608368506 tw3502268757331633484 tw11894827684636759378 tw8023188663519628686 tw6295582303858849500 tw6362512108592253777 tw9128960746159608890 tw3484153734093267286 tw10821550836889604001 tw772853460565341091 tw1432882965859309366 tw15545505431991346101 tw8582869447326074808 tw1676362467514400858 tw17646348763513853540 tw6806417914560667810 tw15020091986179507316 tw4595557363791538790 tw5063167117348634453 tw6433600543851795816 tw9202984918698860381 tw4648876438119740461 tw10557499622545587196 tw8373950771543386585 tw14449842327503159006 tw15026056125196905389 tw13055508416408441715 tw3494370112452359851 tw4137909254742317097 tw2782896740323903892 tw8438967467529731843 tw15132207180662548668 tw1233491685267103544 tw7103973613168972733 tw11570755852814121744 tw16868788631132302021 tw6033498598331366348 tw12658734327406175483 tw9721622133973154771 tw3219470477813520444 tw16960665661668204519 tw4601756538513041825 tw4243930509024872095 tw13605146725966200758 tw8313034348393628710 tw9202889942737164508 tw5876842006061158162 tw17939151547207363843 tw11003509630342545245 tw17305596089927604073 tw7617771397331157796 tw7895609050080846122 tw15887543128917008533 tw8867331725165250459 tw2025587728768115915 tw13056406880560206897 tw3585012323522235091 tw7319388508534671404 tw12551563724216879437 tw14480101178973294316 tw14737391447974750250 tw13900791519671123694 tw12496333355072705286 tw3836393813108500645 tw11771928150074253502 tw14519044193410100580 tw2928227343463709218 tw3183604871352840658 tw6690642040285544545 tw5016703882278961059 tw11334255545719288751 tw10695295693661321287 tw1237525346130833592 tw7963282504172806589 tw9120175266440391019 tw8892983653942151134 tw11713297228514834235 tw15701782040564841169 tw9821583140591526531 tw2128009316060143533 tw11720892353937780838 tw17026836059344791343 tw17424943180672174109 tw3548547929799404955 tw11312514998361068083 tw3992423581743628346 tw17617207527871445324 tw4355534460858506914 tw6777271547307602395 tw14934658454385979530 tw5595325569402800248 tw12161518118203420926 tw1231880533389316631 tw13242103862924076028 tw17951662012359171044 tw8382263128261764286 tw6544963047148906659 tw13169971355227597339 tw12023557409274747671 tw9062377844813407178 tw6683253450276579331 tw17493814550742397413 tw14219137446806044164 tw3354007659549329069 tw9985696398794950810 tw9084368040403073849 tw15597611484522694606 tw18083160103834995452 tw9940142773739777332 tw2926807260162640058 tw16560733367511208420 tw11917638529671588842 tw14072925111012955320 tw16684943238197078163 tw3243470190103773135 tw16913682193774850365 tw18408766879774456250 tw4545705294836051598 tw5984235232977526350 tw11989197240188979725 tw6320961616186102677 tw13214544689684868708 tw15035760918888241800 tw7258422487095837030 tw9498380930646601295 tw2641883182399954233 tw18162168165794070712 tw12009234128772140191 tw7656211970439410051 tw234975988508544070 tw8748683079157451829 tw10219282137938287443 tw2321994247734986784 tw12954805430711025584 tw5863102493565053140 tw15860214687299331183 tw11679691012989983020 tw13626759825787008673 tw6268037384604136858 tw7599067321471978364 tw3862433434726608285 tw899586104249218349 tw17048384338332046237 tw12890641297471719970 tw13844014132674664041 tw1176102595988989830 tw5840461344511386941 tw15542103550989024334 tw9571963977730251468 tw16542582324962215319 tw7793936803273148128 tw17825261873472586029 tw18316666139542574009 tw3955954511029738644 tw17684133298670242371 tw12249175535375879571 tw16887989444435595026 tw5920913950072595700 tw16196576432278824801 tw8036087691384737051 tw1049618804351145539 tw5524261430192325139 tw1836106883247589657 tw18193675795408639680 tw733892281753868191 tw4368851868808096450 tw13186178053729629560 tw6616184418206700315 tw13493448783587315935 tw9470368974956124610 tw4066409283238843954 tw4268994075802075863 tw8238395594721034440 tw15410672627170387825 tw3532048894441306553 tw11846898839222722896 tw8607474319432291435 tw17934521576513651047 tw4145981029854476717 tw14330561202439785627 tw12293325895192044523 tw13783371320471652710 tw18350652773971328083 tw5623858885857546935 tw7522929699809829868 tw578708854703856356 tw4522073040250166156 tw8147117719909304223 tw9397583868605964994 tw2333039888989074771 tw3464434139588089654 tw12611837568595725231 tw3758276095475837818 tw15021313473844895041 tw7269330396207591988 tw11212081752647174970 tw11745348071964267897 tw4423792972662402214 tw16932176623845472558 tw3675340656810989901 tw1892979410979990894 tw15528754392828774408 tw14212852995021291914 tw16792393026760386409 tw17576099048076824741 tw9876080888662423764 tw14212667525758337433 tw18198478588452571691 tw6106817735159959451 tw8332438711134676584 tw14308887692026263704 tw18004042031673671437 tw17866107700747104230 tw15963272822135836389 tw5912564713346156131 tw12569335653874779377 tw11360059923134953107 tw7100752125579770233 tw14285056816691070714 tw13458660040699745555 tw1330281865908650811 tw4153082094654498105 tw2308652753889769023 tw6334137828738022374 tw6410236200538203990 tw3123819168013454310 tw5767760986970318759 tw4000041896927052052 tw9710830718095856981 tw4497098429920302985 tw10423341104502774500 tw1482450266358483834 tw599995719979287795 tw8955934663013375054 tw4746948930308943218 tw15667101431380741141 tw18339263812349665432 tw140617600111753007 tw708213332355365905 tw992066017075208598 tw8549393980439686211 tw11911947072622601735 tw11073112536237932564 tw14258287514343305760 tw4825531095239275989 tw6442655702177120239 tw16590255130433870012 tw10861715069348790643 tw14676850950830041602 tw6942273676420082260 tw589145422293200407 tw10003068146493887430 tw6126451797470098714 tw16550312950914089181 tw9151754800167439354 tw14862414429371925010 tw9496356159365462184 tw8776580291599861809 tw15941749099503862714 tw13068613604900720837 tw1629085578152248340 tw16513323724020614077 tw1314462274580285481 tw17485859823482230082 tw593994114581457224 tw5076768533743059243 tw2876024429394550016 tw8786293635111511758 tw17234945068267460068 tw14101791053168130424 tw1691803071808497554 tw3164111085493717672 tw16970864513108673413 tw6432427073933700624 tw13414570867992637676 tw6037598897417279773 tw520660253876897577 tw2639311821746889095 tw5975444516666569432 tw14441908767364834596 tw7189608569156243850 tw4512648722966942651 tw12519953414931562800 tw8680628705440165007 tw4210696375106540799 tw3777995852457665084 tw9035144291186313768 tw7739490930181873810 tw5919316179833537997 tw7179747789515669073 tw10315918181446177101 tw2588963430727544815 tw12338696664517784502 tw2790899718389413727 tw17663785711462844986 tw6634351085031606375 tw200391816256867072 tw1098274785125763701 tw17114774219925993723 tw131964692046429089 tw18416424889814692313 tw12053004152712518554 tw15764164398091099454 tw9933177003923946391 tw1807752309617003946 tw11366154162804180361 tw2884218247208093795 tw12260875555990982282 tw11959055615252510014 tw3462040667492714996 tw8998981378404743880 tw15557746862277049749 tw4394730379935708869 tw4485567720127862911 tw9914309806483293179 tw4247541831339769608 tw17064254891902207139 tw5600154455086449620 tw8742218796520687818 tw7370055326509275080 tw2436291604831460585 tw1970769883905869490 tw17239882384438450385 tw3196685126033682300 tw11556185457463608250 tw8396181321647211718 tw4600886138152240693 tw579915632401026158 tw14102055473652938656 tw17245289428832752291 tw6240971796418337662 tw2457678853079757471 tw14337692299125512643 tw9856693352297898394 tw17066271507067022364 tw17412563371390907364 tw12547685912984279593 tw7372004528642305131 tw9393686268729890257 tw6610228475331338227 tw11362675575057236639 tw16734928544626197554 tw3800569303265607825 tw5437720111175452520 tw16049825015799342603 tw1644856775571001457 tw8788694710338794898 tw2072022490181059267 tw7320770121307445401 tw10853879339957365109 tw4657915137437116675 tw16959331468974963240 tw6521456424989819864 tw5768356142898167437 tw5069663208931542727 tw2598691220057234260 tw17114578189697092884 tw4619392883945527451 tw5900983494645436693 tw16500470791300238462 tw15053137147192160667 tw6869263088997149322 tw8876334868290506863 tw5989594046746467716 tw2013216270970518803 tw3344021917136500577 tw10057956815192290315 tw4971691408194696971 tw11943450714925141333 tw6313622875770843746 tw6409160753877851568 tw16522545510867224154:True)
open PySem PySem.W PyProof.Rows
set_option maxRecDepth 100000 in
set_option maxHeartbeats 0 in
theorem PySem.Challenge.cw_lampway_k31_stages_words_refused_holds : PySem.Challenge.rw_lampway_k31_stages_words_refused.Holds := by
 w_on;o_law;k_head;(case hw=>w_witness2)
 k_fill
 refine L2.MF (l:=PySem.Challenge.rw_lampway_k31_stages_words_refused) (n:=63) (k:=12) (x := "_law_script") (CX:=L2.CX0) (sp:=L2.xM) rfl (by decide) rfl ⟨rfl,by decide,by decide⟩ (fun w h Y=>PySem.W.kIn_of Y) ?F ?S ?C
 case F=>
  intro w mg fa h KX G hmg;have T:∃ t,My.Txt w (L2.KOf KX) mg t:=by
   dsimp only [L2.KOf];refine' ⟨My.Adr.mk,⟨?maa,?Fab,?mac,?Fad,?mae,?Faf,?mag,?Fah,?mai,?Faj,?mak,?Fal,?mam,?Fan,?mao,?Fap,?maq,?Far,?mas,?Fat,?mau,?Fav,?maw,?Fax,?may,?Faz,?mba,?Fbb,?mbc,?Fbd,?mbe,?Fbf,?mbg,?Fbh,?mbi,?Fbj,?mbk,?Fbl,?mbm,?Fbn,?mbo,?Fbp,?mbq,?Fbr,?mbs,?Fbt,?mbu,?Fbv,?mbw,?Fbx,?mby,?Fbz,?mca,?Fcb,?mcc,?Fcd,?mce,?Fcf,?mcg,?Fch,?mci,?Fcj,?mck,?Fcl,?mcm,?Fcn,?mco,?Fcp,?mcq,?Fcr,?mcs,?Fct,?mcu,?Fcv,?mcw,?Fcx,?mcy,?Fcz,?mda,?Fdb,?mdc,?edd,?Fde,?mdf,?edg,?Fdh,?edi,?Fdj,?edk,?Fdl,?edm,?Fdn,?edo,?Fdp,?edq,?Fdr,?eds,?Fdt,?edu,?Fdv,?mdw,?edx,?Fdy,?mdz,?eea,?Feb,?mec,?eed,?Fee,?eef,?Feg,?eeh,?Fei,?mej,?eek,?Fel,?eem,?Fen,?eeo,?Fep,?meq,?eer,?Fes,?eet,?Feu,?eev,?Few,?mex,?eey,?Fez,?efa,?Ffb,?efc,?Ffd,?efe,?Fff,?sfg,?sfh,?sfi,?sfj,?sfk,?sfl,?sfm,?sfn,?sfo,?nfp,?nfq,?nfr,?sfs,?sft,?nfu,?nfv,?nfw,?nfx,?nfy,?nfz,?nga,?ngb,?sgc,?ngd,?nge,?ngf,?ngg,?ngh,?ngi,?ngj,?sgk,?sgl,?sgm,?sgn,?ngo,?ngp,?ngq,?ngr,?ngs,?ngt,?ngu,?sgv,?sgw,?sgx,?sgy,?ngz,?nha,?nhb,?nhc,?nhd,?nhe,?nhf,?shg,?shh,?shi,?shj,?nhk,?nhl,?nhm,?nhn,?nho,?nhp,?nhq,?shr,?shs,?sht,?shu,?shv,?nhw,?nhx,?nhy,?mhz,?sia,?xib,?Xic,?nid,?nie,?sif,?rig,?rih,?rii,?rij,?rik,?ril,?rim,?rin,?rio,?rip,?riq,?mir,?mis,?mit,?miu,?miv,?miw,?mix,?diy,?diz,?dja,?djb,?djc,?djd,?sje,?mjf,?vjg,?mjh,?vji,?mjj,?vjk,?mjl,?vjm,?mjn,?vjo,?mjp,?vjq,?mjr,?vjs,?mjt,?vju,?mjv,?vjw,?mjx,?vjy,?mjz,?vka,?mkb,?vkc,?bkd,?bke,?bkf,?bkg,?bkh,?bki,?bkj,?bkk,?bkl,?bkm,?lkn⟩⟩
   case maa | mac | mae | mag | mai | mak | mam | mao | maq | mas | mau | maw | may | mba | mbc | mbe | mbg | mbi | mbk | mbm | mbo | mbq | mbs | mbu | mbw | mby | mca | mcc | mce | mcg | mci | mck | mcm | mco | mcq | mcs | mcu | mcw | mcy | mda | mdc | mdf | mdw | mdz | mec | mej | meq | mex | mhz | mir | mis | mit | miu | miv | miw | mix | mjf | mjh | mjj | mjl | mjn | mjp | mjr | mjt | mjv | mjx | mjz | mkb=>(try dsimp only);refine' PySem.W.mg_of KX G ?z;case z=>k_is
   case edd | edg | edi | edk | edm | edo | edq | eds | edu | edx | eea | eed | eef | eeh | eek | eem | eeo | eer | eet | eev | eey | efa | efc | efe=>(try dsimp only);k_is
   case sfg | sfh | sfi | sfj | sfk | sfl | sfm | sfn | sfo | sfs | sft | sgc | sgk | sgl | sgm | sgn | sgv | sgw | sgx | sgy | shg | shh | shi | shj | shr | shs | sht | shu | shv | sia | sif | sje=>(try dsimp only);constructor <;> k_is
   case Fab | Fad | Faf | Fah | Faj | Fal | Fan | Fap | Far | Fat | Fav | Fax | Faz | Fbb | Fbd | Fbf | Fbh | Fbj | Fbl | Fbn | Fbp | Fbr | Fbt | Fbv | Fbx | Fbz | Fcb | Fcd | Fcf | Fch | Fcj | Fcl | Fcn | Fcp | Fcr | Fct | Fcv | Fcx | Fcz | Fdb | Fde | Fdh | Fdj | Fdl | Fdn | Fdp | Fdr | Fdt | Fdv | Fdy | Feb | Fee | Feg | Fei | Fel | Fen | Fep | Fes | Feu | Few | Fez | Ffb | Ffd | Fff=>(try dsimp only);refine' L2.iL ?x ?y ?z;(case x=>k_is);(case y=>k_is);(case z=>k_is)
   case nfp | nfq | nfr | nfu | nfv | nfw | nfx | nfy | nfz | nga | ngb | ngd | nge | ngf | ngg | ngh | ngi | ngj | ngo | ngp | ngq | ngr | ngs | ngt | ngu | ngz | nha | nhb | nhc | nhd | nhe | nhf | nhk | nhl | nhm | nhn | nho | nhp | nhq | nhw | nhx | nhy | nid | nie=>(try dsimp only);unfold L2.Xb;k_is
   case rig | rih | rii | rij | rik | ril | rim | rin | rio | rip | riq=>(try dsimp only);kernel_rfl
   case xib=>(try dsimp only);refine' ⟨?_,by kernel_rfl,?_,?_,?_⟩ <;> k_is
   case Xic=>(try dsimp only);refine' L2.xL ?x (by kernel_rfl) ?y;(case x=>k_is);(case y=>k_is)
   case diy | diz | dja | djb | djc | djd=>(try dsimp only);decide
   case vjg | vji | vjk | vjm | vjo | vjq | vjs | vju | vjw | vjy | vka | vkc=>(try dsimp only);exact ⟨_,rfl⟩
   case bkd | bke | bkf | bkg | bkh | bki | bkj | bkk | bkl | bkm=>(try dsimp only);refine' PySem.W.mg_none_of KX G ?z;case z=>k_is
   case lkn=>(try dsimp only);exact fun _ _=>.of_eq rfl
  obtain ⟨t,T⟩:=T;have e0:=hmg.symm.trans T.jN;cases e0;exact ⟨t.DF,T.BL,fun base kb nb=>My.bM T⟩
 case S=>exact fun K H a ns hl hO hS=>⟨a,ns,rfl,L2.Sc.of_only hO hS,hl,fun _=>rfl⟩
 case C=>exact fun _ _ _ _ z=>z
