import PyProof.Rows.All
import Wide.All
import OpenK.AllK
import Wide.FinOn
import Lean
import PyProof.EqAt
import PyProof.EqKinds
import PyProof.TupleCall
import PyProof.ExcBaseAll.ValueError
import KE.KTryMore
import PyProof.ExcArgsOwn
import KE.KRevIter
import KE.KSortTup
import PySem.Challenge.RW_mightever_k11_conditions
set_option Elab.async false
set_option linter.all false
set_option maxRecDepth 100000
namespace L2
open PySem PySem.Spec PyProof.Rows
abbrev Key:=Sum Int Str
def zp4:Key->Value->Bool
 | .inl k,v=>Value.isInt k v
 | .inr x,v=>Value.isStrOf x v
def zE1 (w:World):Key->Int
 | .inl k=>hashInt k
 | .inr x=>hashStr w x
theorem zcb:∀ {k:Key} {v:Value},zp4 k v=true->(∃ i t,k=Sum.inl i/\v=Value.int i t)\/(∃ x t,k=Sum.inr x/\v=Value.str x t)
 | .inl i,v,h=>by
  obtain ⟨t,e⟩:=Value.isInt_shape (k:=i) (v:=v) h;exact .inl ⟨i,t,rfl,e⟩
 | .inr x,v,h=>by
  obtain ⟨t,e⟩:=Value.isStrOf_shape (x:=x) (v:=v) h;exact .inr ⟨x,t,rfl,e⟩
theorem zro (i:Int) (t:Tok):zp4 (.inl i) (.int i t)=true:=by simp [zp4,Value.isInt]
theorem zrp (x:Str) (t:Tok):zp4 (.inr x) (.str x t)=true:=by simp [zp4,Value.isStrOf]
theorem zzD (a b:Int):decide ((Sum.inl a:Key)=Sum.inl b)=(a==b):=by
 by_cases e:a=b
 ·subst e; simp
 ·have h:¬ (Sum.inl a:Key)=Sum.inl b:=λq=>e (Sum.inl.inj q);rw [decide_eq_false h];exact (beq_eq_false_iff_ne.mpr e).symm
theorem zzE (a b:Str):decide ((Sum.inr a:Key)=Sum.inr b)=decide (a=b):=by
 by_cases e:a=b
 ·subst e; simp
 ·have h:¬ (Sum.inr a:Key)=Sum.inr b:=λq=>e (Sum.inr.inj q);rw [decide_eq_false h,decide_eq_false e]
theorem zzF (a:Int) (b:Str):decide ((Sum.inl a:Key)=Sum.inr b)=false:=decide_eq_false (λq=>nomatch q)
theorem zzG (a:Str) (b:Int):decide ((Sum.inr a:Key)=Sum.inl b)=false:=decide_eq_false (λq=>nomatch q)
def zdz (prog:Program) (w:World):PySem.KeyKind prog w Key where
 is:=zp4
 hash:=zE1 w
 inj:=λv a b ha hb=>by
  rcases zcb ha with ⟨i,t,rfl,rfl⟩ | ⟨x,t,rfl,rfl⟩
  ·rcases zcb hb with ⟨j,u,rfl,e⟩ | ⟨y,u,rfl,e⟩
   ·injection e with e1 _; rw [e1]
   ·exact nomatch e
  ·rcases zcb hb with ⟨j,u,rfl,e⟩ | ⟨y,u,rfl,e⟩
   ·exact nomatch e
   ·injection e with e1 _; rw [e1]
 byValue:=λk v h=>by
  rcases zcb h with ⟨i,t,rfl,rfl⟩ | ⟨x,t,rfl,rfl⟩ <;> rfl
 pyHash:=λhv h=>by
  rcases zcb hv with ⟨i,t,rfl,rfl⟩ | ⟨x,t,rfl,rfl⟩
  ·exact wpAny_pyHash_int h
  ·exact wpAny_pyHash_str h
 eqBool:=λhu hv h=>by
  rcases zcb hu with ⟨i,t,rfl,rfl⟩ | ⟨x,t,rfl,rfl⟩
  ·rcases zcb hv with ⟨j,u,rfl,rfl⟩ | ⟨y,u,rfl,rfl⟩
   ·rw [zzD] at h; exact wpAny_eqBool_int h
   ·rw [zzF] at h; exact SeqAt.EqAt.int_str i t y u _ _ _ _ h
  ·rcases zcb hv with ⟨j,u,rfl,rfl⟩ | ⟨y,u,rfl,rfl⟩
   ·rw [zzG] at h; exact SeqAt.EqAt.str_int x t j u _ _ _ _ h
   ·rw [zzE] at h; exact wpAny_eqBool_str h
 «strs»:=λk x t v h=>by
  rcases zcb h with ⟨i,u,rfl,e⟩ | ⟨y,u,rfl,e⟩
  ·exact nomatch e
  ·injection e with e1 _
   subst e1;cases v <;> rfl
theorem zoa (prog:Program) (w:World) (i:Int) (t:Tok):(zdz prog w).is (.inl i) (.int i t)=true:=zro i t
theorem zob (prog:Program) (w:World) (x:Str) (t:Tok):(zdz prog w).is (.inr x) (.str x t)=true:=zrp x t
inductive V where
 | non | bl (b:Bool) | int (i:Int) | str (x:Str) | byt (b:Array UInt8) | flt (b:UInt64) | ref (a:Addr) | ty (n:String)
 deriving DecidableEq
def RelV:V->Value->Prop
 | .non,u=>u=Value.none
 | .bl b,u=>u=Value.bool b
 | .int i,u=>∃ t,u=Value.int i t
 | .str x,u=>∃ t,u=Value.str x t
 | .byt b,u=>∃ t,u=Value.bytes b t
 | .flt b,u=>∃ t,u=Value.float b t
 | .ref a,u=>u=Value.ref a
 | .ty n,u=>u=Value.type n
abbrev Vals:List V->List Value->Prop:=Paired RelV
theorem Vals.length {xs:List V} {us:List Value} (r:Vals xs us):xs.length=us.length:=Paired.length r
theorem Vals.get:∀ {xs:List V} {us:List Value} {i:Nat} {x:V},Vals xs us->xs[i]? = some x->∃ u,us[i]? = some u/\RelV x u
 | _,_,_,_,.nil,e=>by simp at e
 | _,_,0,_,.cons r _,e=>by simp at e; subst e; exact ⟨_,rfl,r⟩
 | _,_,i+1,x,.cons _ t,e=>by
  obtain ⟨u,h1,h2⟩:=Vals.get (i:=i) (x:=x) t (by simpa using e);exact ⟨u,by simpa using h1,h2⟩
theorem Vals.append:∀ {xs ys:List V} {us ws:List Value},Vals xs us->Vals ys ws->Vals (xs++ys) (us++ws)
 | _,_,_,_,.nil,s=>s
 | _,_,_,_,.cons r t,s=>.cons r (Vals.append t s)
theorem Vals.take:∀ {xs:List V} {us:List Value} (n:Nat),Vals xs us->Vals (xs.take n) (us.take n)
 | _,_,0,_=>.nil
 | _,_,_+1,.nil=>.nil
 | _,_,n+1,.cons r t=>.cons r (Vals.take n t)
theorem Vals.drop:∀ {xs:List V} {us:List Value} (n:Nat),Vals xs us->Vals (xs.drop n) (us.drop n)
 | _,_,0,r=>r
 | _,_,_+1,.nil=>.nil
 | _,_,n+1,.cons _ t=>Vals.drop n t
def RelO:Option V->Option Value->Prop
 | some v,some u=>RelV v u
 | none,none=>True
 | _,_=>False
def KV {κ:Type}:List (κ×V)->List (κ×Value)->Prop:=Paired λ(p:κ×V) (q:κ×Value)=>p.1=q.1/\RelV p.2 q.2
def kV:Key->V
 | .inl i=>.int i
 | .inr x=>.str x
inductive HO where
 /-- a list -/
 | lst (xs:List V)
 /-- a tuple (never changes) -/
 | tup (xs:List V)
 /-- a dict whose keys are ints and texts; one whose keys are tuples of ints and texts (the empty one is both) -/
 | dK (kvs:List (Key×V)) | dT (kvs:List (List Key×V))
 /-- a set of ints: its members,its size -/
 | set (S:Int->Bool) (n:Nat)
 /-- an instance of the class at C,its dict at dx,its attributes -/
 | ins (C dx:Addr) (fs:List (Str×V))
 /-- the dict of the instance at x -/
 | own (x:Addr)
 /-- the dict of an exception -/
 | xd (fs:List (Str×V))
 /-- a bound method,f of x -/
 | met (f x:Addr)
 /-- a range object lo,lo+1,.. below hi -/
 | rng (lo hi:Int)
 /-- a thing that is known to the object (the script; a dict while a loop walks it): read,never written while it is so -/
 | frz (o:Obj) (u:HO)
 /-- a code object's table -/
 | tbl (ps:Array Value)
 /-- any other thing,by what is true of its one object (a def of one's own: SetO a S n:=HO.ext λh=>..) -/
 | ext (φ:Heap->Prop)
abbrev Hp:=Addr->Option HO
def upd (H:Hp) (a:Addr) (o:HO):Hp:=λb=>if b=a then some o else H b
theorem zaS {H:Hp} {a:Addr} {o:HO}:upd H a o a=some o:=by unfold upd; rw [if_pos rfl]
theorem zaW {H:Hp} {a b:Addr} {o:HO} (h:b≠a):upd H a o b=H b:=by unfold upd; rw [if_neg h]
theorem zCz {H:Hp} {a b:Addr} {o u:HO} (h:H a=some o) (h':H b=some u) (d:o≠u):a≠b:=by
 intro e; subst e; rw [h] at h'; exact d (Option.some.inj h')
theorem zcq {H:Hp} {a b:Addr} {o:HO} (h:H a=some o) (h':H b=none):a≠b:=by
 intro e; subst e; rw [h] at h'; cases h'
section
variable (P:Program) (w:World)
def ObjOk (H:Hp) (h:Heap) (a:Addr):HO->Prop
 | .lst xs=>xs.length<=sizeLine/\∃ (its:List Value) (n:Nat),Vals xs its/\h.get? a=some { cls:=.type "list",data:=.seq its.toArray n }
 | .tup xs=>xs.length<=sizeLine/\∃ its:List Value,Vals xs its/\IsTup h a its.toArray
 | .dK kvs=>kvs.length<=sizeLine/\(a==sysModules)=false/\∃ vs,KV kvs vs/\h.DictOf (zdz P w) a vs
 | .dT kvs=>kvs.length<=sizeLine/\(a==sysModules)=false/\∃ xs:List (List Key×Addr×Value),
   Paired (λ(p:List Key×V) (q:List Key×Addr×Value)=>p.1=q.1/\H q.2.1=some (.tup (p.1.map kV))/\RelV p.2 q.2.2) kvs xs/\
   ∃ o es ep,h.get? a=some o/\o.ExactDict/\o.data=.dict es ep/\es.toList=xs.map (entryOfKey (tupleKind (zdz P w)))/\(xs.map (·.1)).Nodup
 | .set S n=>h.SetOf (intKind P w) a S n
 | .ins C dx fs=>H dx=some (.own a)/\fs.length<=1000/\dx≠a/\h.get? a=some (W.instObj C dx)/\
   ∃ mA,h.Ns1 dx mA/\(∀ f,RelO (fs.lookup f) (mA f))/\PySem.Within mA (fs.map (·.1))
 | .own _=>∃ o,h.get? a=some o
 | .xd fs=>∃ mA,h.Ns1 a mA/\∀ f,RelO (fs.lookup f) (mA f)
 | .rng lo hi=>∃ t u v,h.get? a=some { cls:=.type "range",data:=.fields #[.int lo t,.int hi u,.int 1 v] }
 | .frz o u=>h.get? a=some o/\ObjOk H h a u
 | .tbl ps=>h.get? a=some { cls:=.none,data:=.fields ps }
 | .met f x=>h.get? a=some (W.methodObj (.ref f) (.ref x))
 | .ext φ=>φ h/\(∃ o,h.get? a=some o)/\∀ h1 h2:Heap,φ h1->(∀ o,h1.get? a=some o->h2.get? a=some o)->φ h2
def HOk (H:Hp) (h:Heap):Prop:=∀ a o,H a=some o->ObjOk P w H h a o
end
section
variable {P:Program} {w:World} {H H':Hp} {h h':Heap} {a:Addr} {o:HO}
theorem ObjOk.lt (x:ObjOk P w H h a o):a < h.objs.size:=by
 cases o with
 | lst xs=>obtain ⟨_,_,_,_,e⟩:=x; exact Heap.lt_size e
 | tup xs=>obtain ⟨_,_,_,p⟩:=x; exact p.lt
 | dK kvs=>obtain ⟨_,_,_,_,o,_,_,e,_⟩:=x; exact Heap.lt_size e
 | dT kvs=>obtain ⟨_,_,_,_,o,_,_,e,_⟩:=x; exact Heap.lt_size e
 | set S n=>obtain ⟨o,_,_,_,e,_⟩:=x; exact Heap.lt_size e
 | ins C dx fs=>obtain ⟨_,_,_,e,_⟩:=x; exact Heap.lt_size e
 | own y=>obtain ⟨_,e⟩:=x; exact Heap.lt_size e
 | xd fs=>obtain ⟨_,⟨_,_,_,e,_⟩,_⟩:=x; exact Heap.lt_size e
 | rng lo hi=>obtain ⟨_,_,_,e⟩:=x; exact Heap.lt_size e
 | frz ob u=>obtain ⟨e,_⟩:=x; exact Heap.lt_size e
 | tbl ps=>exact Heap.lt_size (show h.get? a=some _ from x)
 | met f y=>exact Heap.lt_size (show h.get? a=some _ from x)
 | ext φ=>obtain ⟨_,⟨_,e⟩,_⟩:=x; exact Heap.lt_size e
theorem Paired.mapP {α β:Type} {F G:α->β->Prop}:∀ {l₁:List α} {l₂:List β},Paired F l₁ l₂->(∀ a b,F a b->G a b)->Paired G l₁ l₂
 | _,_,.nil,_=>.nil
 | _,_,.cons r t,f=>.cons (f _ _ r) (Paired.mapP t f)
theorem ObjOk.stay (x:ObjOk P w H h a o) (k:∀ b u,(b=a\/H b=some (.own a))->h.get? b=some u->h'.get? b=some u)
  (ho:∀ b,H b=some (.own a)->H' b=some (.own a)) (ht:∀ b xs,H b=some (.tup xs)->H' b=some (.tup xs)):ObjOk P w H' h' a o:=by
 induction o with
 | lst xs=>obtain ⟨z,its,n,r,e⟩:=x; exact ⟨z,its,n,r,k _ _ (.inl rfl) e⟩
 | tup xs=>obtain ⟨z,its,r,ob,e,c⟩:=x; exact ⟨z,its,r,ob,k _ _ (.inl rfl) e,c⟩
 | dK kvs=>obtain ⟨z,y,vs,r,ob,es,ep,e,c⟩:=x; exact ⟨z,y,vs,r,ob,es,ep,k _ _ (.inl rfl) e,c⟩
 | dT kvs=>
  obtain ⟨z,y,xs,r,ob,es,ep,e,c⟩:=x;exact ⟨z,y,xs,Paired.mapP r λp q z=>⟨z.1,ht _ _ z.2.1,z.2.2⟩,ob,es,ep,k _ _ (.inl rfl) e,c⟩
 | set S n=>obtain ⟨ob,es,ep,t,e,c⟩:=x; exact ⟨ob,es,ep,t,k _ _ (.inl rfl) e,c⟩
 | ins C dx fs=>
  obtain ⟨d,z,ne,e,mA,⟨od,es,ep,e2,c⟩,r⟩:=x;exact ⟨ho _ d,z,ne,k _ _ (.inl rfl) e,mA,⟨od,es,ep,k _ _ (.inr d) e2,c⟩,r⟩
 | own y=>obtain ⟨ob,e⟩:=x; exact ⟨ob,k _ _ (.inl rfl) e⟩
 | xd fs=>obtain ⟨mA,⟨od,es,ep,e,c⟩,r⟩:=x; exact ⟨mA,⟨od,es,ep,k _ _ (.inl rfl) e,c⟩,r⟩
 | rng lo hi=>obtain ⟨t,u,v,e⟩:=x; exact ⟨t,u,v,k _ _ (.inl rfl) e⟩
 | frz ob u ih=>obtain ⟨e,q⟩:=x; exact ⟨k _ _ (.inl rfl) e,ih q⟩
 | tbl ps=>
  have e:h.get? a=some { cls:=.none,data:=.fields ps }:=x;show h'.get? a=some { cls:=.none,data:=.fields ps };exact k a _ (.inl rfl) e
 | met f y=>
  have e:h.get? a=some (W.methodObj (.ref f) (.ref y)):=x;show h'.get? a=some (W.methodObj (.ref f) (.ref y));exact k a _ (.inl rfl) e
 | ext φ=>obtain ⟨p,⟨o,e⟩,st⟩:=x; exact ⟨st _ _ p λo q=>k _ _ (.inl rfl) q,⟨o,k _ _ (.inl rfl) e⟩,st⟩
theorem HOk.lt (x:HOk P w H h) (e:H a=some o):a < h.objs.size:=(x a o e).lt
theorem HOk.fresh (x:HOk P w H h) (e:h.objs.size<=a):H a=none:=by
 cases q:H a with
 | none=>rfl
 | some u=>exact absurd (Nat.lt_of_lt_of_le (x.lt q) e) (Nat.lt_irrefl _)
theorem HOk.kept (x:HOk P w H h) (k:∀ b u,h.get? b=some u->h'.get? b=some u):HOk P w H h':=λa o e=>
 (x a o e).stay (λb u _ q=>k b u q) (λ_ q=>q) λ_ _ q=>q
theorem HOk.laid (x:HOk P w H h) (k:∀ b u,h.get? b=some u->h'.get? b=some u) (hp:h.objs.size<=a) (new:ObjOk P w (upd H a o) h' a o):HOk P w (upd H a o) h':=λb u e=>by
 have hn:=x.fresh hp
 by_cases hb:b=a
 ·subst hb; rw [zaS] at e; cases e; exact new
 ·rw [zaW hb] at e;exact (x b u e).stay (λc v _ q=>k c v q) (λc q=>by rw [zaW (zcq q hn)]; exact q) λc xs q=>by rw [zaW (zcq q hn)]; exact q
end
def Rd (H:Hp) (a:Addr) (u:HO):Prop:=H a=some u\/∃ o,H a=some (.frz o u)
theorem Rd.ok {P:Program} {w:World} {H:Hp} {h:Heap} {a:Addr} {u:HO} (r:Rd H a u) (x:HOk P w H h):ObjOk P w H h a u:=by
 rcases r with r | ⟨o,r⟩
 ·exact x a u r
 ·obtain ⟨_,q⟩:=x a _ r;exact q
def Mut:Option HO->Prop
 | some (.lst _)=>True
 | some (.dK _)=>True
 | some (.dT _)=>True
 | some (.set _ _)=>True
 | some (.ins _ _ _)=>True
 | some (.ext _)=>True
 | _=>False
section
variable {P:Program} {w:World} {H:Hp} {h h':Heap} {x e:Addr} {o':HO}
theorem HOk.write (ok:HOk P w H h) (mu:Mut (H x)) (he:e=x\/H e=some (.own x)) (k:∀ b u,b≠e->h.get? b=some u->h'.get? b=some u) (heo:∃ u,h'.get? e=some u)
  (new:ObjOk P w (upd H x o') h' x o'):HOk P w (upd H x o') h':=λb u q=>by
 have nown:∀ c y,H c=some (.own y)->c≠x:=λc y r z=>by subst z; rw [r] at mu; exact mu
 have ntup:∀ c xs,H c=some (.tup xs)->c≠x:=λc xs r z=>by subst z; rw [r] at mu; exact mu
 by_cases hb:b=x
 ·subst hb; rw [zaS] at q; cases q; exact new
 ·rw [zaW hb] at q
  by_cases hbe:b=e
  ·have q':H b=some (.own x):=by
    rcases he with z | z
    ·exact absurd (hbe.trans z) hb
    ·rw [hbe]; exact z
   rw [q] at q'; cases q'
   obtain ⟨v,hv⟩:=heo;exact ⟨v,by rw [hbe]; exact hv⟩
  ·refine (ok b u q).stay (λc v hc r=>k c v ?_ r) (λc r=>by rw [zaW (nown c b r)]; exact r) λc xs r=>by rw [zaW (ntup c xs r)]; exact r
   rcases hc with rfl | hc
   ·exact hbe
   ·rintro rfl;rcases he with z | z
    ·exact nown c b hc z
    ·rw [hc] at z; cases z; exact hb rfl
end
structure Un (fs ex:List Addr) (H H':Hp) (h h':Heap):Prop where
 keep:∀ b o,h.get? b=some o->H b=none->b∉fs->b∉ex->h'.get? b=some o
 slot:∀ b o,h.get? b=some o->H b=none->b∈fs->b∉ex->∃ sl,h'.get? b=some { o with slots:=sl }
 free:∀ b o,h.get? b=some o->H b=none->b∉ex->H' b=none
 there:∀ b o,h.get? b=some o->b∉ex->∃ o',h'.get? b=some o'
 tups:∀ b xs,H b=some (.tup xs)->H' b=some (.tup xs)
 frzs:∀ b o u,H b=some (.frz o u)->H' b=some (.frz o u)
 tbls:∀ b ps,H b=some (.tbl ps)->∃ more,H' b=some (.tbl (ps++more))
section
variable {fs fs' ex ex':List Addr} {H H1 H2:Hp} {h h1 h2 h':Heap} {a x e:Addr} {o:HO}
theorem Un.any (u:Un fs ex H H1 h h1) {b:Addr} {ob:Obj} (q:h.get? b=some ob) (n:H b=none) (hx:b∉ex):∃ sl,h1.get? b=some { ob with slots:=sl }:=by
 by_cases hb:b∈fs
 ·exact u.slot b ob q n hb hx
 ·exact ⟨ob.slots,u.keep b ob q n hb hx⟩
theorem Un.kept (k:∀ b u,h.get? b=some u->h'.get? b=some u):Un fs ex H H h h':=
 ⟨λb ob q _ _ _=>k b ob q,λb ob q _ _ _=>⟨ob.slots,k b ob q⟩,λ_ _ _ n _=>n,λb ob q _=>⟨ob,k b ob q⟩,λ_ _ q=>q,λ_ _ _ q=>q,λ_ ps q=>⟨#[],by rw [q]; simp⟩⟩
theorem Un.refl:Un fs ex H H h h:=Un.kept λ_ _ q=>q
theorem Un.laid (k:∀ b u,h.get? b=some u->h'.get? b=some u) (hp:h.objs.size<=a) (hn:H a=none):Un fs ex H (upd H a o) h h' where
 keep:=λb u q _ _ _=>k b u q
 slot:=λb u q _ _ _=>⟨u.slots,k b u q⟩
 free:=λb u q n _=>by rw [zaW (Nat.ne_of_lt (Nat.lt_of_lt_of_le (Heap.lt_size q) hp))]; exact n
 there:=λb u q _=>⟨u,k b u q⟩
 tups:=λb xs q=>by rw [zaW (zcq q hn)]; exact q
 frzs:=λb u xs q=>by rw [zaW (zcq q hn)]; exact q
 tbls:=λb ps q=>⟨#[],by rw [zaW (zcq q hn),q]; simp⟩
theorem Un.write (mu:Mut (H x)) (he:e=x\/H e=some (.own x)) (k:∀ b u,b≠e->h.get? b=some u->h'.get? b=some u) (heo:∃ u,h'.get? e=some u):Un fs ex H (upd H x o) h h':=by
 have hx:∀ b,H b=none->b≠x:=λb n z=>by subst z; rw [n] at mu; exact mu
 have hb:∀ b,H b=none->b≠e:=λb n z=>by
  subst z;rcases he with r | r
  ·exact hx b n r
  ·rw [n] at r; cases r
 have hm:∀ b u,H b=some u->¬ Mut (some u)->b≠x:=λb u q nm z=>by subst z; rw [q] at mu; exact nm mu
 refine ⟨λb u q n _ _=>k b u (hb b n) q,λb u q n _ _=>⟨u.slots,k b u (hb b n) q⟩,λb u q n _=>by rw [zaW (hx b n)]; exact n,λb u q _=>?_,
  λb xs q=>by rw [zaW (hm b _ q λz=>z)]; exact q,λb u xs q=>by rw [zaW (hm b _ q λz=>z)]; exact q,λb ps q=>⟨#[],by rw [zaW (hm b _ q λz=>z),q]; simp⟩⟩
 by_cases hbe:b=e
 ·subst hbe; exact heo
 ·exact ⟨u,k b u hbe q⟩
end
def trk (h:Heap) (H:Hp):List Addr:=(List.range h.objs.size).filter λa=>(H a).isSome
def zuj (h:Heap) (H:Hp):Heap:=W.hideAll h (trk h H)
theorem zrq (h:Heap) (H:Hp):(zuj h H).objs.size=h.objs.size:=W.hideAll_size _ _
theorem zuk {h:Heap} {H:Hp} {b:Addr} {o:Obj} (e:h.get? b=some o) (n:H b=none):(zuj h H).get? b=some o:=
 W.hideAll_get _ e λhm=>by
  have q:(H b).isSome=true:=(List.mem_filter.mp hm).2;rw [n] at q; simp at q
theorem zwZ {h:Heap} {H:Hp} {b:Addr} {o:Obj} (e:(zuj h H).get? b=some o):h.get? b=some o/\H b=none:=by
 have e':h.get? b=some o:=W.of_hideAll (trk h H) e;refine ⟨e',?_⟩;cases q:H b with
 | none=>rfl
 | some x=>
  have hm:b∈trk h H:=List.mem_filter.mpr ⟨List.mem_range.mpr (Heap.lt_size e'),by simp [q]⟩;have z:(zuj h H).get? b=none:=W.hideAll_none (trk h H) hm;rw [z] at e; cases e
def zw0 (g h:Heap) (L:Addr):List (Addr×Obj):=(List.range h.objs.size).filterMap λa=>if a=L\/(g.get? a).isSome=true then none else (h.get? a).map λo=>(a,o)
def zcc (g h:Heap) (L d:Addr):List (Addr×Obj):=(zw0 g h L).filter λp=>decide (p.1≠d)
structure Mod (K:W.Frag) (mg:Str->Option Value) (base:Heap):Prop where
 kin:K.In base
 glob:base.Ns mainGlobals mg
 blt:∃ mb,base.Ns builtinsNs mb/\∀ x:Str,x≠"__name__"->mb x=bootBuiltins x
 nolimit:base.NoLimit
structure Cx where
 prog:Program
 w:World
 K:W.Frag
 mg:Str->Option Value
 base:Heap
 A:Around
 N:List Str
 s₀:Shared
 H₀:Hp
 env:Env
 outer:List Env
 stack:List Env
 ex:List Addr
 fn:Str->Bool
 calm:Bool
 pn:List (Addr×Obj)
 xe:Value->Shared->Prop
def frs (l:List Env):List Addr:=l.filterMap (·.frame)
abbrev Cx.fs (X:Cx):List Addr:=frs X.outer
def Vis (sc:Scope) (x:Str):Prop:=sc.names.lookup x=some .local\/sc.names.lookup x=some .cell\/sc.names.lookup x=some .free
def Loc (sc:Scope) (x:Str):Prop:=sc.names.lookup x=some .local\/sc.names.lookup x=some .cell
def zD4 (env:Env) (h:Heap) (m:Str->Option Value) (x:Str) (u:Value):Prop:=
 (env.kindOf x=some .local/\m x=some u)\/((env.kindOf x=some .cell\/env.kindOf x=some .free)/\∃ c,env.cells.lookup x=some c/\h.IsCell c (some u))
structure Cx.Ok (X:Cx):Prop where
 mod:Mod X.K X.mg X.base
 kind:X.env.scope.kind=.function
 glob:X.env.globals=mainGlobals
 blt:X.env.builtins=builtinsNs
 above:X.s₀.heap.objs.size<=X.env.locals
 inj:∀ x y c,X.env.cells.lookup x=some c->X.env.cells.lookup y=some c->x=y
 has:∀ x,(X.env.kindOf x=some .cell\/X.env.kindOf x=some .free)->∃ c,X.env.cells.lookup x=some c
 cab:∀ x c,X.fn x=true->X.env.cells.lookup x=some c->X.s₀.heap.objs.size<=c
 hd:X.calm=true->X.A.handled=none
 frames:X.A.frames=some X.stack
 stk:X.stack=X.outer\/(X.stack=X.env :: X.outer/\X.env.frame=some X.env.locals)
 exf:∀ b∈X.ex,b≠X.env.locals/\∀ x c,X.env.cells.lookup x=some c->c≠b
 bs:∀ b o,X.base.get? b=some o->X.s₀.heap.get? b=some o/\X.H₀ b=none
 bsz:X.base.objs.size<=X.s₀.heap.objs.size
 noex:∀ b o,X.base.get? b=some o->b∉X.ex
 exfs:∀ b∈X.ex,b∉X.fs
 funs:X.s₀.heap.FunFrames X.base X.outer
 frf:∀ b∈X.fs,X.H₀ b=none
structure Inv (X:Cx) (pins:List (Addr×Obj)) (σ:List (Option V)) (H:Hp) (s:Shared):Prop where
 ok:X.Ok
 os:s.os=X.s₀.os
 bare:AllBare s.gens
 base:Un X.fs X.ex X.H₀ H X.s₀.heap s.heap
 loc:∃ m,s.heap.Ns X.env.locals m/\∀ (i:Nat) (x:Str) (v:V),X.N[i]? = some x->σ[i]? = some (some v)->Vis X.env.scope x->∃ u,RelV v u/\zD4 X.env s.heap m x u
 cell:∀ x c,X.env.cells.lookup x=some c->∃ v,s.heap.IsCell c v
 free:H X.env.locals=none
 freeC:∀ x c,X.env.cells.lookup x=some c->H c=none
 pin:∀ p∈X.pn++pins,s.heap.get? p.1=some p.2/\H p.1=none/\p.1≠X.env.locals/\p.1∉X.fs/\∀ v,p.2.data≠.cell v
 hok:HOk X.prog X.w H s.heap
 len:σ.length=X.N.length
section
variable {X:Cx} {pins:List (Addr×Obj)} {σ:List (Option V)} {H H':Hp} {s:Shared} {h':Heap}
theorem Cx.Ok.nofr (ok:X.Ok) {b:Addr} {o:Obj} (e:X.base.get? b=some o):b∉X.fs:=λhb=>by
 have:=(ok.funs.mem hb).1;rw [e] at this; cases this
theorem Inv.bs (I:Inv X pins σ H s):∀ b o,X.base.get? b=some o->s.heap.get? b=some o/\H b=none:=λb o e=>
 ⟨I.base.keep b o (I.ok.bs b o e).1 (I.ok.bs b o e).2 (I.ok.nofr e) (I.ok.noex b o e),I.base.free b o (I.ok.bs b o e).1 (I.ok.bs b o e).2 (I.ok.noex b o e)⟩
theorem Inv.bk (I:Inv X pins σ H s):∀ b o,X.base.get? b=some o->s.heap.get? b=some o:=λb o e=>(I.bs b o e).1
theorem Inv.mod (I:Inv X pins σ H s):Mod X.K X.mg X.base:=I.ok.mod
theorem Inv.kIn (I:Inv X pins σ H s):X.K.In s.heap:=I.ok.mod.kin.keeps I.bk
theorem Inv.lt (I:Inv X pins σ H s):X.env.locals < s.heap.objs.size:=let ⟨_,hn,_⟩:=I.loc; hn.lt
theorem Inv.sz (I:Inv X pins σ H s):X.s₀.heap.objs.size<=s.heap.objs.size:=Nat.le_trans I.ok.above (Nat.le_of_lt I.lt)
theorem Inv.nofs (I:Inv X pins σ H s) {a:Addr} (h:s.heap.objs.size<=a):a∉X.fs:=λhb=>by
 obtain ⟨_,o,ho,_⟩:=I.ok.funs.mem hb;exact absurd (Nat.lt_of_lt_of_le (Heap.lt_size ho) (Nat.le_trans I.sz h)) (Nat.lt_irrefl _)
theorem Inv.cne (I:Inv X pins σ H s):∀ x c,X.env.cells.lookup x=some c->c≠X.env.locals:=λx c e z=>by
 obtain ⟨v,o,ho,hd⟩:=I.cell x c e;obtain ⟨m,⟨o',es,ep,ho',hd',_⟩,_⟩:=I.loc;rw [z,ho'] at ho; cases ho; rw [hd'] at hd; cases hd
theorem Inv.funs (I:Inv X pins σ H s):s.heap.FunFrames X.base X.outer:=by
 have all:∀ (l:List Env),(∀ b∈frs l,b∈X.fs)->X.s₀.heap.FunFrames X.base l->s.heap.FunFrames X.base l:=by
  intro l
  induction l with
  | nil=>intro _ _; trivial
  | cons env r ih=>
   intro hs hl;obtain ⟨hk,⟨L,o,hf,hn,ho,hd⟩,hr⟩:=hl;have hL:L∈X.fs:=hs L (by unfold frs; rw [List.filterMap_cons,hf]; exact List.mem_cons_self);obtain ⟨sl,e⟩:=I.base.slot L o ho (I.ok.frf L hL) hL λz=>I.ok.exfs L z hL;exact ⟨hk,⟨L,_,hf,hn,e,hd⟩,ih (λb hb=>hs b (by unfold frs; rw [List.filterMap_cons,hf]; exact List.mem_cons_of_mem _ hb)) hr⟩
 exact all X.outer (λ_ hb=>hb) I.ok.funs
theorem Inv.stack (I:Inv X pins σ H s):s.heap.FunFrames X.base X.stack:=by
 rcases I.ok.stk with e | ⟨e,hf⟩
 ·rw [e]; exact I.funs
 ·rw [e];obtain ⟨m,hn,_⟩:=I.loc;refine .cons (by rw [I.ok.kind]; decide) hf hn ?_ I.funs;exact Heap.get?_none_of_le (Nat.le_trans I.ok.bsz I.ok.above)
theorem Inv.stkSub (I:Inv X pins σ H s):∀ b∈frs X.stack,b∈X.env.locals :: X.fs:=λb hb=>by
 rcases I.ok.stk with e | ⟨e,hf⟩
 ·rw [e] at hb; exact List.mem_cons_of_mem _ hb
 ·rw [e] at hb;unfold frs at hb;rw [List.filterMap_cons,hf] at hb;exact hb
theorem Inv.stkFree (I:Inv X pins σ H s):∀ b∈frs X.stack,H b=none:=λb hb=>by
 rcases List.mem_cons.mp (I.stkSub b hb) with e | hb
 ·rw [e]; exact I.free
 ·obtain ⟨_,o,ho,_⟩:=I.ok.funs.mem hb;exact I.base.free b o ho (I.ok.frf b hb) λz=>I.ok.exfs b z hb
theorem Inv.step {g':Array GenState} {t':Nat} {d':Drawn} {ch:List Addr} (I:Inv X pins σ H s)
  (hch:∀ b∈ch,(b∈X.ex\/X.s₀.heap.objs.size<=b)/\b≠X.env.locals/\(∀ x c,X.env.cells.lookup x=some c->c≠b)/\∀ p∈X.pn++pins,p.1≠b)
  (keep:∀ b o,b≠X.env.locals->b∉X.fs->b∉ch->s.heap.get? b=some o->H b=none->h'.get? b=some o)
  (slot:∀ b o,b≠X.env.locals->b∈X.fs->b∉ch->s.heap.get? b=some o->H b=none->∃ sl,h'.get? b=some { o with slots:=sl }) (free:∀ b o,b∉ch->s.heap.get? b=some o->H b=none->H' b=none)
  (there:∀ b o,b∉ch->s.heap.get? b=some o->∃ o',h'.get? b=some o')
  (tups:∀ b xs,H b=some (.tup xs)->H' b=some (.tup xs)) (frzs:∀ b o u,H b=some (.frz o u)->H' b=some (.frz o u)) (tbls:∀ b ps,H b=some (.tbl ps)->∃ more,H' b=some (.tbl (ps++more)))
  (ns:∀ m,s.heap.Ns X.env.locals m->h'.Ns X.env.locals m) (hok:HOk X.prog X.w H' h') (hg:AllBare g') :
  Inv X pins σ H' { s with heap:=h',gens:=g',drawn:=d',toks:=t' }:=by
 have neL:∀ b o,X.s₀.heap.get? b=some o->b≠X.env.locals:=λb o e=>Nat.ne_of_lt (Nat.lt_of_lt_of_le (Heap.lt_size e) I.ok.above);have neC:∀ b o,X.s₀.heap.get? b=some o->b∉X.ex->b∉ch:=λb o e hx hb=>by
  rcases (hch b hb).1 with z | z
  ·exact hx z
  ·exact absurd (Nat.lt_of_lt_of_le (Heap.lt_size e) z) (Nat.lt_irrefl _)
 have cellK:∀ x c,X.env.cells.lookup x=some c->∀ v,s.heap.IsCell c v->h'.IsCell c v:=λx c e v ⟨o,ho,hd⟩=>by
  have nch:c∉ch:=λz=>(hch c z).2.2.1 x c e rfl
  by_cases hc:c∈X.fs
  ·obtain ⟨sl,q⟩:=slot c o (I.cne x c e) hc nch ho (I.freeC x c e);exact ⟨_,q,hd⟩
  ·exact ⟨o,keep c o (I.cne x c e) hc nch ho (I.freeC x c e),hd⟩
 refine ⟨I.ok,I.os,hg,⟨λb o e n hb hx=>?_,λb o e n hb hx=>?_,λb o e n hx=>?_,λb o e hx=>?_,λb xs e=>tups b xs (I.base.tups b xs e),λb o xs e=>frzs b o xs (I.base.frzs b o xs e),λb ps e=>?_⟩,?_,λx c e=>?_,?_,λx c e=>?_,λp hp=>?_,hok,I.len⟩
 ·exact keep b o (neL b o e) hb (neC b o e hx) (I.base.keep b o e n hb hx) (I.base.free b o e n hx)
 ·obtain ⟨sl,e1⟩:=I.base.slot b o e n hb hx;obtain ⟨sl',e2⟩:=slot b _ (neL b o e) hb (neC b o e hx) e1 (I.base.free b o e n hx);exact ⟨sl',e2⟩
 ·obtain ⟨o',e1⟩:=I.base.there b o e hx;exact free b o' (neC b o e hx) e1 (I.base.free b o e n hx)
 ·obtain ⟨o',e1⟩:=I.base.there b o e hx;exact there b o' (neC b o e hx) e1
 ·obtain ⟨m1,e1⟩:=I.base.tbls b ps e;obtain ⟨m2,e2⟩:=tbls b _ e1;exact ⟨m1++m2,by rw [e2,Array.append_assoc]⟩
 ·obtain ⟨m,hn,hl⟩:=I.loc;refine ⟨m,ns m hn,λi x v e1 e2 e3=>?_⟩;obtain ⟨u,r,l⟩:=hl i x v e1 e2 e3;refine ⟨u,r,?_⟩;rcases l with l | ⟨k,c,e,z⟩
  ·exact .inl l
  ·exact .inr ⟨k,c,e,cellK x c e _ z⟩
 ·obtain ⟨v,z⟩:=I.cell x c e;exact ⟨v,cellK x c e v z⟩
 ·obtain ⟨m,⟨o,_,_,ho,_⟩,_⟩:=I.loc;exact free _ o (λz=>(hch _ z).2.1 rfl) ho I.free
 ·obtain ⟨v,o,ho,hd⟩:=I.cell x c e;exact free c o (λz=>(hch c z).2.2.1 x c e rfl) ho (I.freeC x c e)
 ·obtain ⟨e,n,ne,nf,d⟩:=I.pin p hp;have nch:p.1∉ch:=λz=>(hch p.1 z).2.2.2 p hp rfl;exact ⟨keep p.1 p.2 ne nf nch e n,free p.1 p.2 nch e n,ne,nf,d⟩
theorem Inv.un {t':Nat} (I:Inv X pins σ H s) (u:Un X.fs [] H H' s.heap h') (hok:HOk X.prog X.w H' h'):Inv X pins σ H' { s with heap:=h',toks:=t' }:=by
 obtain ⟨m,⟨o,es,ep,ho,r⟩,_⟩:=id I.loc;obtain ⟨sl,hL⟩:=u.any ho I.free (by simp);exact I.step (g':=s.gens) (d':=s.drawn) (ch:=[]) (λ_ z=>nomatch z) (λb o _ hb _ e n=>u.keep b o e n hb (by simp)) (λb o _ hb _ e n=>u.slot b o e n hb (by simp)) (λb o _ e n=>u.free b o e n (by simp)) (λb o _ e=>u.there b o e (by simp)) u.tups u.frzs u.tbls (λm' hm=>by
  obtain ⟨o',es',ep',ho',r'⟩:=hm;rw [ho] at ho'; cases ho'
  exact ⟨_,es',ep',hL,r'⟩) hok I.bare
theorem Inv.call {g':Array GenState} {t':Nat} {d':Drawn} {ch:List Addr} (I:Inv X pins σ H s) (u:Un (frs X.stack) ch H H' s.heap h') (hok:HOk X.prog X.w H' h') (hg:AllBare g')
  (hch:∀ b∈ch,(b∈X.ex\/X.s₀.heap.objs.size<=b)/\b≠X.env.locals/\(∀ x c,X.env.cells.lookup x=some c->c≠b)/\∀ p∈X.pn++pins,p.1≠b) :
  Inv X pins σ H' { s with heap:=h',gens:=g',drawn:=d',toks:=t' }:=by
 obtain ⟨m,⟨o,es,ep,ho,r⟩,_⟩:=id I.loc;obtain ⟨sl,hL⟩:=u.any ho I.free λz=>(hch _ z).2.1 rfl;exact I.step (ch:=ch) hch (λb o hL hb hc e n=>u.keep b o e n (λz=>(List.mem_cons.mp (I.stkSub b z)).elim hL hb) hc) (λb o _ _ hc e n=>u.any e n hc) (λb o hc e n=>u.free b o e n hc) (λb o hc e=>u.there b o e hc) u.tups u.frzs u.tbls (λm' hm=>by
  obtain ⟨o',es',ep',ho',r'⟩:=hm;rw [ho] at ho'; cases ho'
  exact ⟨_,es',ep',hL,r'⟩) hok hg
theorem Inv.turned {t':Nat} {it:Addr} (I:Inv X pins σ H s) (k:∀ b o,b≠it->s.heap.get? b=some o->h'.get? b=some o) (hn:H it=none) (hL:it≠X.env.locals)
  (h1:it∈X.ex\/X.s₀.heap.objs.size<=it) (h2:∀ x c,X.env.cells.lookup x=some c->c≠it) (h3:∀ p∈X.pn++pins,p.1≠it):Inv X pins σ H { s with heap:=h',toks:=t' }:=by
 have nit:∀ b u,H b=some u->b≠it:=λb u e z=>by rw [z,hn] at e; cases e
 refine I.step (g':=s.gens) (d':=s.drawn) (ch:=[it]) (λb hb=>?_) (λb o _ _ hc e _=>k b o (λz=>hc (by simp [z])) e) (λb o _ _ hc e _=>⟨o.slots,k b o (λz=>hc (by simp [z])) e⟩) (λ_ _ _ _ n=>n)
  (λb o hc e=>⟨o,k b o (λz=>hc (by simp [z])) e⟩) (λ_ _ e=>e) (λ_ _ _ e=>e) (λb ps e=>⟨#[],by rw [e]; simp⟩) (λm hm=>?_) (λb u e=>?_) I.bare
 ·have e:b=it:=by simpa using hb
  subst e;exact ⟨h1,hL,h2,h3⟩
 ·obtain ⟨o,es,ep,ho,r⟩:=hm;exact ⟨o,es,ep,k _ o (Ne.symm hL) ho,r⟩
 ·refine (I.hok b u e).stay (λc v hc q=>k c v ?_ q) (λ_ q=>q) λ_ _ q=>q;rcases hc with z | z
  ·rw [z]; exact nit b u e
  ·exact nit c _ z
theorem Inv.tok (I:Inv X pins σ H s) (t:Nat):Inv X pins σ H { s with toks:=t }:=I.un (h':=s.heap) (t':=t) Un.refl I.hok
theorem Inv.kept {t':Nat} (I:Inv X pins σ H s) (k:∀ b u,s.heap.get? b=some u->h'.get? b=some u):Inv X pins σ H { s with heap:=h',toks:=t' }:=I.un (Un.kept k) (I.hok.kept k)
theorem Inv.laid {a:Addr} {o:HO} {t':Nat} (I:Inv X pins σ H s) (k:∀ b u,s.heap.get? b=some u->h'.get? b=some u) (hp:s.heap.objs.size<=a) (new:ObjOk X.prog X.w (upd H a o) h' a o) :
  Inv X pins σ (upd H a o) { s with heap:=h',toks:=t' }:=I.un (Un.laid k hp (I.hok.fresh hp)) (I.hok.laid k hp new)
theorem Inv.write {x e:Addr} {o:HO} {t':Nat} (I:Inv X pins σ H s) (mu:Mut (H x)) (he:e=x\/H e=some (.own x)) (k:∀ b u,b≠e->s.heap.get? b=some u->h'.get? b=some u) (heo:∃ u,h'.get? e=some u)
  (new:ObjOk X.prog X.w (upd H x o) h' x o):Inv X pins σ (upd H x o) { s with heap:=h',toks:=t' }:=I.un (Un.write mu he k heo) (I.hok.write mu he k heo new)
theorem Inv.pins_of {pins':List (Addr×Obj)} (I:Inv X pins σ H s) (h:∀ p∈pins',s.heap.get? p.1=some p.2/\H p.1=none/\p.1≠X.env.locals/\p.1∉X.fs/\∀ v,p.2.data≠.cell v):Inv X pins' σ H s:=
 ⟨I.ok,I.os,I.bare,I.base,I.loc,I.cell,I.free,I.freeC,λp hp=>(List.mem_append.mp hp).elim (λz=>I.pin p (List.mem_append_left _ z)) (h p),I.hok,I.len⟩
theorem zpc {N:List Str} (hN:N.Nodup) {i j:Nat} {x:Str} (a:N[i]? = some x) (b:N[j]? = some x):i=j:=by
 obtain ⟨h1,e1⟩:=List.getElem?_eq_some_iff.mp a;obtain ⟨h2,e2⟩:=List.getElem?_eq_some_iff.mp b;exact (List.getElem_inj hN).mp (e1.trans e2.symm)
theorem zmU {M:Model} {A:Around} {E:Value->Shared->Prop} {i:Nat} {x:Str} {v:V} {u:Value} {Q:Unit->Shared->Prop} (I:Inv X pins σ H s) (hN:X.N.Nodup) (hi:X.N[i]? = some x) (hx:Loc X.env.scope x) (r:RelV v u)
  (h:∀ s',Inv X pins (σ.set i (some v)) H s'->(∃ a,Heap.SameBut a s.heap s'.heap/\(a=X.env.locals\/X.env.cells.lookup x=some a))->Q () s') (hf:X.fn x=true\/X.env.scope.names.lookup x=some .local:=by first | exact .inl rfl | exact .inr rfl | assumption):wpAny M A (storeName X.env x u) Q E s:=by
 obtain ⟨m,hn,hl⟩:=id I.loc;have hcls:(X.env.scope.kind==.class||(X.env.scope.kind==.module&&X.env.locals != X.env.globals))=false:=by rw [I.ok.kind]; rfl
 have hiσ:i < σ.length:=by rw [I.len]; exact (List.getElem?_eq_some_iff.mp hi).1
 have cne:=I.cne;have tracked:∀ {a:Addr} {h':Heap},(∃ o,s.heap.get? a=some o/\H a=none)->Heap.SameBut a s.heap h'->HOk X.prog X.w H h':=λ{a h'} ha hs b ob e=>by
  obtain ⟨_,_,hfree⟩:=ha;refine (I.hok b ob e).stay (λc w' hc q=>(hs.2 c ?_).trans q) (λ_ q=>q) λ_ _ q=>q;rintro rfl;rcases hc with rfl | hc
  ·rw [hfree] at e; cases e
  ·rw [hfree] at hc; cases hc
 rcases hx with hk | hk
 ·refine wpAny_storeName_local hk hn (λh' hn' hs=>?_) hcls;obtain ⟨oL,_,_,hoL,_⟩:=id hn;refine h _ ⟨I.ok,I.os,I.bare,⟨λb o e n hb hx=>?_,λb o e n hb hx=>?_,I.base.free,λb o e hx=>?_,I.base.tups,I.base.frzs,I.base.tbls⟩,⟨_,hn',λj y v' e1 e2 e3=>?_⟩,λy c e=>?_,I.free,I.freeC,λp hp=>?_,tracked ⟨oL,hoL,I.free⟩ hs,by simpa using I.len⟩ ⟨_,hs,.inl rfl⟩
  ·exact (hs.2 b (Nat.ne_of_lt (Nat.lt_of_lt_of_le (Heap.lt_size e) I.ok.above))).trans (I.base.keep b o e n hb hx)
  ·obtain ⟨sl,e1⟩:=I.base.slot b o e n hb hx;exact ⟨sl,(hs.2 b (Nat.ne_of_lt (Nat.lt_of_lt_of_le (Heap.lt_size e) I.ok.above))).trans e1⟩
  ·obtain ⟨o',e1⟩:=I.base.there b o e hx;exact ⟨o',(hs.2 b (Nat.ne_of_lt (Nat.lt_of_lt_of_le (Heap.lt_size e) I.ok.above))).trans e1⟩
  ·by_cases hj:j=i
   ·subst hj;rw [hi] at e1; cases e1
    rw [List.getElem?_set_self hiσ] at e2;cases e2
    exact ⟨u,r,.inl ⟨hk,by simp⟩⟩
   ·rw [List.getElem?_set_ne (Ne.symm hj)] at e2;obtain ⟨u',r',q⟩:=hl j y v' e1 e2 e3;refine ⟨u',r',?_⟩;rcases q with ⟨k,e⟩ | ⟨k,c,e,z⟩
    ·refine .inl ⟨k,?_⟩;have:y≠x:=λe=>hj (zpc hN e1 (e▸hi));simp [this,e]
    ·exact .inr ⟨k,c,e,z.sameBut hs (cne y c e)⟩
  ·obtain ⟨w',z⟩:=I.cell y c e;exact ⟨w',z.sameBut hs (cne y c e)⟩
  ·obtain ⟨e,n,ne,nf,d⟩:=I.pin p hp;exact ⟨(hs.2 p.1 ne).trans e,n,ne,nf,d⟩
 ·have hfn:X.fn x=true:=by
   rcases hf with z | z
   ·exact z
   ·rw [z] at hk; cases hk
  obtain ⟨c,hc⟩:=I.ok.has x (.inl hk);obtain ⟨w',z⟩:=I.cell x c hc;refine wpAny_storeName_cell I.ok.kind hk hc z (λh' hc' hs=>?_);obtain ⟨oc,hoc,hocd⟩:=id z;refine h { s with heap:=h' } ⟨I.ok,I.os,I.bare,⟨λb o e n hb hx=>?_,λb o e n hb hx=>?_,I.base.free,λb o e hx=>?_,I.base.tups,I.base.frzs,I.base.tbls⟩,⟨m,hn.sameBut hs (Ne.symm (cne x c hc)),λj y v' e1 e2 e3=>?_⟩,λy c' e=>?_,I.free,I.freeC,λp hp=>?_,tracked ⟨oc,hoc,I.freeC x c hc⟩ hs,by simpa using I.len⟩ ⟨c,hs,.inr hc⟩
  ·exact (hs.2 b (Nat.ne_of_lt (Nat.lt_of_lt_of_le (Heap.lt_size e) (I.ok.cab x c hfn hc)))).trans (I.base.keep b o e n hb hx)
  ·obtain ⟨sl,e1⟩:=I.base.slot b o e n hb hx;exact ⟨sl,(hs.2 b (Nat.ne_of_lt (Nat.lt_of_lt_of_le (Heap.lt_size e) (I.ok.cab x c hfn hc)))).trans e1⟩
  ·obtain ⟨o',e1⟩:=I.base.there b o e hx;exact ⟨o',(hs.2 b (Nat.ne_of_lt (Nat.lt_of_lt_of_le (Heap.lt_size e) (I.ok.cab x c hfn hc)))).trans e1⟩
  ·by_cases hj:j=i
   ·subst hj;rw [hi] at e1; cases e1
    rw [List.getElem?_set_self hiσ] at e2;cases e2
    exact ⟨u,r,.inr ⟨.inl hk,c,hc,hc'⟩⟩
   ·rw [List.getElem?_set_ne (Ne.symm hj)] at e2;obtain ⟨u',r',q⟩:=hl j y v' e1 e2 e3;refine ⟨u',r',?_⟩;rcases q with q | ⟨k,c',e,z'⟩
    ·exact .inl q
    ·refine .inr ⟨k,c',e,z'.sameBut hs ?_⟩;rintro rfl;exact hj (zpc hN e1 (I.ok.inj _ _ _ e hc▸hi))
  ·by_cases hcc:c'=c
   ·subst hcc; exact ⟨_,hc'⟩
   ·obtain ⟨w2,z2⟩:=I.cell y c' e;exact ⟨w2,z2.sameBut hs hcc⟩
  ·obtain ⟨e,n,ne,nf,d⟩:=I.pin p hp;refine ⟨(hs.2 p.1 ?_).trans e,n,ne,nf,d⟩;intro q;rw [q,hoc] at e;have q':oc=p.2:=Option.some.inj e;exact d w' (by rw [<- q']; exact hocd)
theorem zmg {M:Model} {A:Around} {E:Value->Shared->Prop} {i:Nat} {x:Str} {v:V} {u:Value} {Q:Unit->Shared->Prop} (I:Inv X pins σ H s) (hN:X.N.Nodup) (hi:X.N[i]? = some x) (hx:Loc X.env.scope x) (r:RelV v u)
  (h:∀ s',Inv X pins (σ.set i (some v)) H s'->Q () s') (hf:X.fn x=true\/X.env.scope.names.lookup x=some .local:=by first | exact .inl rfl | exact .inr rfl | assumption):wpAny M A (storeName X.env x u) Q E s:=
 zmU I hN hi hx r (λs' I' _=>h s' I') hf
theorem Inv.call' {s':Shared} {ch:List Addr} (I:Inv X pins σ H s) (ho:s'.os=s.os) (u:Un (frs X.stack) ch H H' s.heap s'.heap) (hok:HOk X.prog X.w H' s'.heap) (hg:AllBare s'.gens)
  (hch:∀ b∈ch,(b∈X.ex\/X.s₀.heap.objs.size<=b)/\b≠X.env.locals/\(∀ x c,X.env.cells.lookup x=some c->c≠b)/\∀ p∈X.pn++pins,p.1≠b):Inv X pins σ H' s':=by
 obtain ⟨h',g',d',t',o'⟩:=s';have e:o'=s.os:=ho;subst e;exact I.call (g':=g') (t':=t') (d':=d') u hok hg hch
end
abbrev XK:=Value->Option Addr->Hp->Prop
abbrev St:=List (Option V)
abbrev VK:=V->Hp->Prop
abbrev TE:=St->Hp->VK->Prop
abbrev TT:=St->Hp->(Bool->Hp->Prop)->Prop
abbrev TA:=St->Hp->(List V->Hp->Prop)->Prop
structure Ends where
 nx:St->Hp->Prop
 rt:VK
 bk:St->Hp->Prop:=λ_ _=>False
 ct:St->Hp->Prop:=λ_ _=>False
abbrev TS:=Ends->St->Hp->Prop
def EP (X:Cx) (pins:List (Addr×Obj)) (σ:St) (Q:VK) (u:Value) (s':Shared):Prop:=∃ v H',Inv X pins σ H' s'/\RelV v u/\Q v H'
def TP (X:Cx) (pins:List (Addr×Obj)) (σ:St) (Q:Bool->Hp->Prop) (b:Bool) (s':Shared):Prop:=∃ H',Inv X pins σ H' s'/\Q b H'
def AP (X:Cx) (pins:List (Addr×Obj)) (σ:St) (Q:List V->Hp->Prop) (us:List Value) (s':Shared):Prop:=∃ vs H',Inv X pins σ H' s'/\Vals vs us/\Q vs H'
def SP (X:Cx) (pins:List (Addr×Obj)) (D:Ends) (f:Flow) (s':Shared):Prop:=
 match f with
 | .next=>∃ σ' H',Inv X pins σ' H' s'/\D.nx σ' H'
 | .brk=>∃ σ' H',Inv X pins σ' H' s'/\D.bk σ' H'
 | .cont=>∃ σ' H',Inv X pins σ' H' s'/\D.ct σ' H'
 | .ret u=>∃ v σ' H',Inv X pins σ' H' s'/\RelV v u/\D.rt v H'
def PE (X:Cx) (e:Expr) (t:TE):Prop:=
 ∀ (pins:List (Addr×Obj)) (s:Shared) (σ:St) (H:Hp) (Q:VK),Inv X pins σ H s->t σ H Q->wpAny (model X.prog X.w) X.A (eval e X.env) (EP X pins σ Q) X.xe s
def PT (X:Cx) (e:Expr) (t:TT):Prop:=
 ∀ (pins:List (Addr×Obj)) (s:Shared) (σ:St) (H:Hp) (Q:Bool->Hp->Prop),Inv X pins σ H s->t σ H Q->wpAny (model X.prog X.w) X.A (isTrue e X.env (eval e X.env)) (TP X pins σ Q) X.xe s
def PW (X:Cx) (e:Expr) (t:TT):Prop:=
 ∀ (whole:Sem Value) (pins:List (Addr×Obj)) (s:Shared) (σ:St) (H:Hp) (Q:Bool->Hp->Prop),Inv X pins σ H s->t σ H Q->wpAny (model X.prog X.w) X.A (isTrue e X.env whole) (TP X pins σ Q) X.xe s
theorem PW.pt {X:Cx} {e:Expr} {t:TT} (h:PW X e t):PT X e t:=h _
def PA (X:Cx) (es:List Expr) (t:TA):Prop:=
 ∀ (pos:Pos) (pins:List (Addr×Obj)) (s:Shared) (σ:St) (H:Hp) (Q:List V->Hp->Prop),Inv X pins σ H s->t σ H Q->wpAny (model X.prog X.w) X.A (spliced (backTo pos (starEach es X.env))) (AP X pins σ Q) X.xe s
def PS (X:Cx) (st:Stmt) (t:TS):Prop:=
 ∀ (pins:List (Addr×Obj)) (s:Shared) (σ:St) (H:Hp) (D:Ends),Inv X pins σ H s->t D σ H->wpAny (model X.prog X.w) X.A (exec st X.env) (SP X pins D) X.xe s
def PSs (X:Cx) (st:List Stmt) (t:TS):Prop:=
 ∀ (pins:List (Addr×Obj)) (s:Shared) (σ:St) (H:Hp) (D:Ends),Inv X pins σ H s->t D σ H->wpAny (model X.prog X.w) X.A (execs st X.env) (SP X pins D) X.xe s
theorem thn {α:Type} {t:Sem α} {Q Q':α->Shared->Prop} {M:Model} {A:Around} {E:Value->Shared->Prop} {s:Shared} (h:wpAny M A t Q E s) (hQ:∀ a s,Q a s->Q' a s):wpAny M A t Q' E s:=wpAny_mono h hQ λ_ _ x=>x
section
variable {X:Cx}
def zp5 (i:Nat):TE:=λσ H Q=>∃ v,σ[i]? = some (some v)/\Q v H
def tC (v:V):TE:=λ_ H Q=>Q v H
theorem zhX {i:Nat} {x:Str} {pos:Pos} (hN:X.N[i]? = some x) (hv:Vis X.env.scope x) (hd:(x==("__debug__":Str))=false:=by decide) (hcd:(x==("__classdict__":Str))=false:=by decide):PE X (.Name x pos) (zp5 i):=by
 intro pins s σ H Q I h;obtain ⟨v,e,h⟩:=h;obtain ⟨m,hn,hl⟩:=I.loc;obtain ⟨u,r,l⟩:=hl i x v hN e hv;have fin:EP X pins σ Q u s:=⟨v,H,I,r,h⟩
 rcases l with ⟨hk,hm⟩ | ⟨hk,c,hc,hcell⟩
 ·exact wpAny_Name (wpAny_loadName_local I.ok.kind hk hn hm fin) hd
 ·rcases hk with hk | hk
  ·exact wpAny_Name (wpAny_loadName_cell I.ok.kind hk hc hcell fin) hd
  ·exact wpAny_Name (wpAny_loadName_free I.ok.kind hk hc hcell fin hcd) hd
theorem zzH {i j pos}:PE X (.Constant (.int i) j pos) (tC (.int i)):=λ_ _ _ H _ I h=>wpAny_Constant_int ⟨.int i,H,I.tok _,⟨_,rfl⟩,h⟩
theorem zCA {b j pos}:PE X (.Constant (.bool b) j pos) (tC (.bl b)):=λ_ _ _ H _ I h=>Constant_bool ⟨.bl b,H,I,rfl,h⟩
theorem zzI {j pos}:PE X (.Constant .none j pos) (tC .non):=λ_ _ _ H _ I h=>Constant_none ⟨.non,H,I,rfl,h⟩
theorem zzJ {x j pos}:PE X (.Constant (.str x) j pos) (tC (.str x)):=λ_ _ _ H _ I h=>Calls.Constant_str ⟨.str x,H,I.tok _,⟨_,rfl⟩,h⟩
def Gl (X:Cx) (x:Str):Prop:=X.env.kindOf x=some .globalImplicit
theorem zki {E:Value->Shared->Prop} {pins:List (Addr×Obj)} {s:Shared} {σ:St} {H:Hp} {x:Str} {u:Value} {pos:Pos} {Q:Value->Shared->Prop} (I:Inv X pins σ H s) (hg:Gl X x) (hm:X.mg x=some u) (h:Q u s)
  (hd:(x==("__debug__":Str))=false:=by decide):wpAny (model X.prog X.w) X.A (eval (.Name x pos) X.env) Q E s:=
 Calls.Name_function_global I.ok.kind hg (Calls.loadGlobal_global (by rw [I.ok.glob]; exact I.mod.glob.keeps I.bk) hm h) hd
theorem zhY {E:Value->Shared->Prop} {pins:List (Addr×Obj)} {s:Shared} {σ:St} {H:Hp} {x:Str} {u:Value} {pos:Pos} {Q:Value->Shared->Prop} (I:Inv X pins σ H s) (hg:Gl X x) (hm:X.mg x=none) (hv:bootBuiltins x=some u) (h:Q u s)
  (hn:x≠"__name__":=by decide) (hd:(x==("__debug__":Str))=false:=by decide):wpAny (model X.prog X.w) X.A (eval (.Name x pos) X.env) Q E s:=by
 obtain ⟨mb,h1,h2⟩:=I.mod.blt;exact Calls.Name_function_global I.ok.kind hg (Calls.loadGlobal_builtin (by rw [I.ok.glob]; exact I.mod.glob.keeps I.bk) hm (by rw [I.ok.blt]; exact h1.keeps I.bk) ((h2 x hn).trans hv) h) hd
theorem zrr {x:Str} {v:V} {u:Value} {pos:Pos} (hg:Gl X x) (hm:X.mg x=some u) (r:RelV v u) (hd:(x==("__debug__":Str))=false:=by decide):PE X (.Name x pos) (tC v):=
 λ_ _ _ H _ I h=>zki I hg hm ⟨v,H,I,r,h⟩ hd
theorem zw1 {x:Str} {v:V} {u:Value} {pos:Pos} (hg:Gl X x) (hm:X.mg x=none) (hv:bootBuiltins x=some u) (r:RelV v u) (hn:x≠"__name__":=by decide) (hd:(x==("__debug__":Str))=false:=by decide):PE X (.Name x pos) (tC v):=
 λ_ _ _ H _ I h=>zhY I hg hm hv ⟨v,H,I,r,h⟩ hn hd
variable {a b:Expr} {ta tb:TE} {pos:Pos}
def tB (t:TE):TT:=λσ H Q=>t σ H λx H1=>∃ c,x=.bl c/\Q c H1
theorem zzK {e:Expr} {t:TE} (h:PE X e t) (he:∀ whole,isTrue e X.env whole=(do let v <- whole; standAt e.pos; holding [v] (truthy v)):=by intro _; rfl):PT X e (tB t):=by
 intro pins s σ H Q I hw;refine isTrue_plain (thn (h pins s σ H _ I hw) λv s1 ⟨x,H1,I1,r1,q1⟩=>?_) (he _);obtain ⟨d,rfl,q⟩:=q1;cases r1
 exact wpAny_truthy_bool ⟨H1,I1,q⟩
variable {tA tB':TT} {zcc:List Expr}
def zD5 (t u:TT):TT:=λσ H Q=>t σ H λc H1=>if c=true then u σ H1 Q else Q false H1
def tOr (t u:TT):TT:=λσ H Q=>t σ H λc H1=>if c=true then Q true H1 else u σ H1 Q
def zD6 (t:TT):TT:=λσ H Q=>t σ H λc H1=>Q (!c) H1
theorem pw_and1 (ha:PT X a tA):PW X (.BoolOp .And [a] pos) tA:=by
 intro wh pins s σ H Q I h;refine isTrue_and (thn (ha pins s σ H Q I h) λc s1 e=>?_);cases c with
 | true=>exact isTrue_and_nil e
 | false=>exact e
theorem pw_or1 (ha:PT X a tA):PW X (.BoolOp .Or [a] pos) tA:=by
 intro wh pins s σ H Q I h;refine isTrue_or (thn (ha pins s σ H Q I h) λc s1 e=>?_);cases c with
 | false=>exact isTrue_or_nil e
 | true=>exact e
theorem pw_and (ha:PT X a tA) (hb:PW X (.BoolOp .And (b :: zcc) pos) tB'):PW X (.BoolOp .And (a :: b :: zcc) pos) (zD5 tA tB'):=by
 intro wh pins s σ H Q I h;refine isTrue_and (thn (ha pins s σ H _ I h) λc s1 ⟨H1,I1,q1⟩=>?_);cases c with
 | true=>exact hb wh pins s1 σ H1 Q I1 q1
 | false=>exact ⟨H1,I1,q1⟩
theorem pw_or (ha:PT X a tA) (hb:PW X (.BoolOp .Or (b :: zcc) pos) tB'):PW X (.BoolOp .Or (a :: b :: zcc) pos) (tOr tA tB'):=by
 intro wh pins s σ H Q I h;refine isTrue_or (thn (ha pins s σ H _ I h) λc s1 ⟨H1,I1,q1⟩=>?_);cases c with
 | true=>exact ⟨H1,I1,q1⟩
 | false=>exact hb wh pins s1 σ H1 Q I1 q1
theorem zzL (ha:PT X a tA):PT X (.UnaryOp .Not a pos) (zD6 tA):=by
 intro pins s σ H Q I h;exact isTrue_not (ha pins s σ H (λc H1=>Q (!c) H1) I h)
def zzM (ta tb:TE):TE:=λσ H Q=>ta σ H λx H1=>∃ c,x=.bl c/\if c=true then tb σ H1 Q else Q (.bl false) H1
def zw2 (ta:TE):TE:=λσ H Q=>ta σ H λx H1=>∃ c,x=.bl c/\Q (.bl (!c)) H1
theorem zzN {op} {t:TE} (h:PE X a t):PE X (.BoolOp op [a] pos) t:=λpins s σ H Q I hw=>BoolOp_one (h pins s σ H Q I hw)
theorem zzO (ha:PE X a ta) (hb:PE X (.BoolOp .And (b :: zcc) pos) tb):PE X (.BoolOp .And (a :: b :: zcc) pos) (zzM ta tb):=by
 intro pins s σ H Q I h;refine BoolOp_and (thn (ha pins s σ H _ I h) λv s1 ⟨x,H1,I1,r1,q1⟩=>?_);obtain ⟨c,rfl,q1⟩:=q1;cases r1
 refine wpAny_truthy_bool ?_;cases c with
 | true=>exact hb pins s1 σ H1 Q I1 q1
 | false=>exact ⟨.bl false,H1,I1,rfl,q1⟩
theorem zvY (ha:PE X a ta):PE X (.UnaryOp .Not a pos) (zw2 ta):=by
 intro pins s σ H Q I h;refine UnaryOp_ (thn (ha pins s σ H _ I h) λv s1 ⟨x,H1,I1,r1,q1⟩=>?_);obtain ⟨c,rfl,q1⟩:=q1;cases r1
 exact not_of (wpAny_truthy_bool ⟨.bl (!c),H1,I1,rfl,q1⟩)
end
def SqL (K:W.Frag) (H:Hp) (a:Addr) (xs:List V):Prop:=
 Rd H a (.lst xs)\/
  ∃ (o:Obj) (its:Array Value) (n:Nat),K.lookup a=some o/\o.cls=.type "list"/\o.dict=none/\o.data=.seq its n/\its.size<=sizeLine/\Vals xs its.toList
def SqT (K:W.Frag) (H:Hp) (a:Addr) (xs:List V):Prop:=
 Rd H a (.tup xs)\/
  ∃ (o:Obj) (its:Array Value) (n:Nat),K.lookup a=some o/\o.cls=.type "tuple"/\o.data=.seq its n/\its.size<=sizeLine/\Vals xs its.toList
def zE2:Value->Option V
 | .none=>some .non
 | .bool b=>some (.bl b)
 | .int i _=>some (.int i)
 | .str x _=>some (.str x)
 | .bytes b _=>some (.byt b)
 | .float b _=>some (.flt b)
 | .ref a=>some (.ref a)
 | .type n=>some (.ty n)
 | _=>none
theorem RelV.abs {x:V} {u:Value} (r:RelV x u):zE2 u=some x:=by
 cases x with
 | non=>cases r; rfl
 | bl _=>cases r; rfl
 | int _=>obtain ⟨t,rfl⟩:=r; rfl
 | str _=>obtain ⟨t,rfl⟩:=r; rfl
 | byt _=>obtain ⟨t,rfl⟩:=r; rfl
 | flt _=>obtain ⟨t,rfl⟩:=r; rfl
 | ref _=>cases r; rfl
 | ty _=>cases r; rfl
theorem RelV.inj {x y:V} {u:Value} (r:RelV x u) (q:RelV y u):x=y:=Option.some.inj (r.abs.symm.trans q.abs)
theorem Vals.inj:∀ {xs ys:List V} {us:List Value},Vals xs us->Vals ys us->xs=ys
 | _,_,_,.nil,.nil=>rfl
 | _,_,_,.cons r t,.cons r' t'=>by rw [r.inj r',Vals.inj t t']
section
variable {X:Cx} {pins:List (Addr×Obj)} {σ:St} {H:Hp} {s:Shared} {a:Addr} {xs ys:List V}
theorem Inv.list (I:Inv X pins σ H s) (h:SqL X.K H a xs):∃ its:List Value,Vals xs its/\PlainL s.heap a its.toArray/\xs.length<=sizeLine:=by
 rcases h with h | ⟨o,its,n,hk,hc,hd,hs,hz,r⟩
 ·obtain ⟨z,its,n,r,e⟩:=h.ok I.hok;exact ⟨its,r,⟨_,n,e,rfl,rfl,rfl⟩,z⟩
 ·refine ⟨its.toList,r,⟨o,n,I.kIn a o hk,hc,hd,by simpa using hs⟩,?_⟩;have e:=r.length;simp only [Array.length_toList] at e;omega
theorem Inv.tuple (I:Inv X pins σ H s) (h:SqT X.K H a xs):∃ its:List Value,Vals xs its/\IsTup s.heap a its.toArray/\xs.length<=sizeLine:=by
 rcases h with h | ⟨o,its,n,hk,hc,hs,hz,r⟩
 ·obtain ⟨z,its,r,p⟩:=h.ok I.hok;exact ⟨its,r,p,z⟩
 ·refine ⟨its.toList,r,⟨o,I.kIn a o hk,hc,n,by simpa using hs⟩,?_⟩;have e:=r.length;simp only [Array.length_toList] at e;omega
theorem Inv.list_inj (I:Inv X pins σ H s) (h:SqL X.K H a xs) (h':SqL X.K H a ys):xs=ys:=by
 obtain ⟨its,r,⟨o,n,e,_,_,d⟩,_⟩:=I.list h;obtain ⟨its',r',⟨o',n',e',_,_,d'⟩,_⟩:=I.list h';rw [e] at e'; cases e'
 rw [d] at d';injection d' with d1 _
 have:its=its':=by simpa using congrArg Array.toList d1
 subst this;exact r.inj r'
theorem Inv.tuple_inj (I:Inv X pins σ H s) (h:SqT X.K H a xs) (h':SqT X.K H a ys):xs=ys:=by
 obtain ⟨its,r,⟨o,e,_,n,d⟩,_⟩:=I.tuple h;obtain ⟨its',r',⟨o',e',_,n',d'⟩,_⟩:=I.tuple h';rw [e] at e'; cases e'
 rw [d] at d';injection d' with d1 _
 have:its=its':=by simpa using congrArg Array.toList d1
 subst this;exact r.inj r'
end
abbrev Cx.wish (X:Cx) (E:Value->Shared->Prop):Cx:={ X with xe:=E }
abbrev Cx.nox (X:Cx):Cx:=X.wish λ_ _=>False
theorem Cx.Ok.wish {X:Cx} (ok:X.Ok) (E:Value->Shared->Prop):(X.wish E).Ok:=
 ⟨ok.mod,ok.kind,ok.glob,ok.blt,ok.above,ok.inj,ok.has,ok.cab,ok.hd,ok.frames,ok.stk,ok.exf,ok.bs,ok.bsz,ok.noex,ok.exfs,ok.funs,ok.frf⟩
theorem Cx.Ok.unwish {X:Cx} {E:Value->Shared->Prop} (ok:(X.wish E).Ok):X.Ok:=
 ⟨ok.mod,ok.kind,ok.glob,ok.blt,ok.above,ok.inj,ok.has,ok.cab,ok.hd,ok.frames,ok.stk,ok.exf,ok.bs,ok.bsz,ok.noex,ok.exfs,ok.funs,ok.frf⟩
section
variable {X:Cx} {pins:List (Addr×Obj)} {σ:St} {H:Hp} {s:Shared} {E:Value->Shared->Prop}
theorem Inv.wish (I:Inv X pins σ H s) (E:Value->Shared->Prop):Inv (X.wish E) pins σ H s:=⟨I.ok.wish E,I.os,I.bare,I.base,I.loc,I.cell,I.free,I.freeC,I.pin,I.hok,I.len⟩
theorem Inv.unwish (I:Inv (X.wish E) pins σ H s):Inv X pins σ H s:=⟨I.ok.unwish,I.os,I.bare,I.base,I.loc,I.cell,I.free,I.freeC,I.pin,I.hok,I.len⟩
theorem SP.unwish {D:Ends} {f:Flow} {s':Shared} (h:SP (X.wish E) pins D f s'):SP X pins D f s':=by
 cases f with
 | next=>obtain ⟨σ',H',I,q⟩:=h; exact ⟨σ',H',I.unwish,q⟩
 | brk=>obtain ⟨σ',H',I,q⟩:=h; exact ⟨σ',H',I.unwish,q⟩
 | cont=>obtain ⟨σ',H',I,q⟩:=h; exact ⟨σ',H',I.unwish,q⟩
 | ret u=>obtain ⟨v,σ',H',I,r,q⟩:=h; exact ⟨v,σ',H',I.unwish,r,q⟩
theorem PE.nox {e:Expr} {t:TE} (h:PE X.nox e t):PE X e t:=λpins s σ H Q I hw=>
 wpAny_mono (h pins s σ H Q (I.wish _) hw) (λ_ _ ⟨v,H',I',r,q⟩=>⟨v,H',I'.unwish,r,q⟩) λ_ _ z=>False.elim z
theorem PSs.nox {st:List Stmt} {t:TS} (h:PSs X.nox st t):PSs X st t:=λpins s σ H D I hw=>
 wpAny_mono (h pins s σ H D (I.wish _) hw) (λ_ _ q=>q.unwish) λ_ _ z=>False.elim z
end
section
variable {X:Cx} {st:Stmt} {zcc:List Stmt} {t u:TS} {e:Expr} {te:TE} {pos:Pos}
def zzP:TS:=λD σ H=>D.nx σ H
def zCa (t u:TS):TS:=λD σ H=>t { D with nx:=u D } σ H
theorem zw3:PSs X [] zzP:=λ_ _ σ H _ I h=>wpAny_execs_nil ⟨σ,H,I,h⟩
theorem zpd (h1:PS X st t) (h2:PSs X zcc u):PSs X (st :: zcc) (zCa t u):=by
 intro pins s σ H D I h;refine wpAny_execs_cons (thn (h1 pins s σ H { D with nx:=u D } I h) λf s1 q=>?_);cases f with
 | next=>
  obtain ⟨σ',H',I',q⟩:=q;exact h2 pins s1 σ' H' D I' q
 | ret v=>exact q
 | brk=>exact q
 | cont=>exact q
theorem zrs (h1:PS X st t):PSs X [st] t:=by
 intro pins s σ H D I h;refine wpAny_execs_cons (thn (h1 pins s σ H D I h) λf s1 q=>?_);cases f with
 | next=>exact wpAny_execs_nil q
 | ret v=>exact q
 | brk=>exact q
 | cont=>exact q
theorem Inv.quiet {pins:List (Addr×Obj)} {σ:St} {H:Hp} {s:Shared} (I:Inv X pins σ H s):interactive X.env=false:=by simp [interactive,I.ok.kind]
def zmh (te:TE):TS:=λD σ H=>te σ H λ_ H1=>D.nx σ H1
theorem zmi (he:PE X e te) (hs:swapsWith e none pos.line X.env=pure false:=by rfl):PS X (.Expr e pos) (zmh te):=by
 intro pins s σ H D I h;exact wpAny_Expr_any (thn (he pins s σ H _ I h) λv s1 ⟨x,H1,I1,r1,q1⟩=>⟨σ,H1,I1,q1⟩) I.quiet hs
def zCb (te:TE):TS:=λD σ H=>te σ H D.rt
theorem zrt (he:PE X e te):PS X (.Return (some e) pos) (zCb te):=by
 intro pins s σ H D I h;exact wpAny_Return_some (thn (he pins s σ H _ I h) λv s1 ⟨x,H1,I1,r1,q1⟩=>⟨x,σ,H1,I1,r1,q1⟩)
def zzQ (c:TT) (t u:TS):TS:=λD σ H=>c σ H λb H1=>if b=true then t D σ H1 else u D σ H1
theorem zzR {c:Expr} {a b:List Stmt} {tc:TT} (hc:PT X c tc) (ha:PSs X a t) (hb:PSs X b u):PS X (.If c a b pos) (zzQ tc t u):=by
 intro pins s σ H D I h;refine wpAny_If (thn (hc pins s σ H _ I h) λd s1 ⟨H1,I1,q1⟩=>?_);cases d with
 | true=>exact ha pins s1 σ H1 D I1 q1
 | false=>exact hb pins s1 σ H1 D I1 q1
def zvZ:TS:=λ_ _ _=>False
theorem zul:PS X st zvZ:=λ_ _ _ _ _ _ h=>h.elim
end
abbrev TG:=V->St->Hp->(St->Hp->Prop)->Prop
abbrev TGs:=List V->St->Hp->(St->Hp->Prop)->Prop
def PG (X:Cx) (target:Expr) (t:TG):Prop:=
 ∀ (pins:List (Addr×Obj)) (s:Shared) (σ:St) (H:Hp) (v:V) (u:Value) (Q:St->Hp->Prop),Inv X pins σ H s->RelV v u->t v σ H Q->
  wpAny (model X.prog X.w) X.A (assign target X.env u) (λ_ s'=>∃ σ' H',Inv X pins σ' H' s'/\Q σ' H') X.xe s
def PGs (X:Cx) (ts:List Expr) (t:TGs):Prop:=
 ∀ (pins:List (Addr×Obj)) (s:Shared) (σ:St) (H:Hp) (vs:List V) (us:List Value) (Q:St->Hp->Prop),Inv X pins σ H s->Vals vs us->t vs σ H Q->
  wpAny (model X.prog X.w) X.A (assignInOrder ((assignEach ts X.env).map (·.2)) us) (λ_ s'=>∃ σ' H',Inv X pins σ' H' s'/\Q σ' H') X.xe s
section
variable {X:Cx} {pos:Pos}
def zru (i:Nat):TG:=λv σ H Q=>Q (σ.set i (some v)) H
theorem zw4 {i:Nat} {x:Str} (hN:X.N.Nodup) (hi:X.N[i]? = some x) (hx:Loc X.env.scope x) (hf:X.fn x=true\/X.env.scope.names.lookup x=some .local:=by first | exact .inl rfl | exact .inr rfl | assumption):PG X (.Name x pos) (zru i):=by
 intro pins s σ H v u Q I r h;exact wpAny_assign_Name (zmg I hN hi hx r (λs' I'=>⟨_,H,I',h⟩) hf)
def zD7:TGs:=λvs σ H Q=>vs=[]/\Q σ H
def zzS (t:TG) (u:TGs):TGs:=λvs σ H Q=>∃ v r,vs=v :: r/\t v σ H λσ' H'=>u r σ' H' Q
theorem zw5:PGs X [] zD7:=by
 intro pins s σ H vs us Q I r h;obtain ⟨e,h⟩:=h;subst e;cases r
 exact assignInOrder_nil ⟨σ,H,I,h⟩
theorem zum {e:Expr} {es:List Expr} {t:TG} {u:TGs} (h1:PG X e t) (h2:PGs X es u)
  (hs:(assignEach (e :: es) X.env).map (·.2)=assign e X.env :: (assignEach es X.env).map (·.2):=by rfl):PGs X (e :: es) (zzS t u):=by
 intro pins s σ H vs us Q I r h;obtain ⟨v,vr,e1,h⟩:=h;subst e1;cases r with
 | cons r rr=>
  rw [hs];refine assignInOrder_cons (thn (h1 pins s σ H _ _ _ I r h) λ_ s1 ⟨σ1,H1,I1,q1⟩=>?_);exact h2 pins s1 σ1 H1 _ _ Q I1 rr q1
def zCB (K:W.Frag) (n:Nat) (t:TGs):TG:=λv σ H Q=>∃ a xs,v=.ref a/\SqT K H a xs/\xs.length=n/\t xs σ H Q
theorem zzT {es:List Expr} {k:Nat} {t:TGs} {n:Nat} (hc:X.calm=true) (h:PGs X es t)
  (hn:(assignEach es X.env).length=n:=by rfl) (hst:(assignEach es X.env).findIdx? (·.1)=none:=by rfl):PG X (.Tuple es k pos) (zCB X.K n t):=by
 intro pins s σ H v u Q I r hw;obtain ⟨a,xs,e1,hq,hl,hw⟩:=hw;subst e1;cases r
 obtain ⟨its,rv,ht,hz⟩:=I.tuple hq;refine assign_Tuple_tuple (I.ok.hd hc) ht (by simp [hn,<- hl,rv.length]) hst λh' hx=>?_;have I1:Inv X pins σ H { s with heap:=h' }:=I.kept (t':=s.toks) λb o e=>hx b o (Nat.ne_of_lt (Heap.lt_size e)) e;exact h pins _ σ H xs _ Q I1 (by simpa using rv) hw
def zzU (te:TE) (g:TG):TS:=λD σ H=>te σ H λx H1=>g x σ H1 D.nx
theorem zzV {tg e:Expr} {te:TE} {g:TG} (he:PE X e te) (hg:PG X tg g) (hs:swapsWithSole [tg] e pos.line X.env=pure false:=by rfl) (hw:swappedStores [tg] e X.env=pure none:=by rfl)
  (h1:(assignEach [tg] X.env).map (·.2)=[assign tg X.env]:=by rfl):PS X (.Assign [tg] e pos) (zzU te g):=by
 intro pins s σ H D I h;refine wpAny_Assign_stores (thn (he pins s σ H _ I h) λv s1 ⟨x,H1,I1,r1,q1⟩=>?_) hs hw;rw [h1];exact thn (hg pins s1 σ H1 x v _ I1 r1 q1) λ_ s2 q=>q
theorem zzW {i:Nat} {x:Str} {e:Expr} {te:TE} {pos':Pos} (hN:X.N.Nodup) (hi:X.N[i]? = some x) (hx:Loc X.env.scope x) (he:PE X e te) (hs:swapsWith e (some (.Name x pos')) pos.line X.env=pure false:=by rfl) (hf:X.fn x=true\/X.env.scope.names.lookup x=some .local:=by first | exact .inl rfl | exact .inr rfl | assumption) :
  PS X (.Assign [.Name x pos'] e pos) (zzU te (zru i)):=by
 intro pins s σ H D I h;refine wpAny_Assign_Name (thn (he pins s σ H _ I h) λv s1 ⟨y,H1,I1,r1,q1⟩=>?_) hs;exact zmg I1 hN hi hx r1 (λs2 I2=>⟨_,H1,I2,q1⟩) hf
end
section
variable {X:Cx} {pos:Pos}
def zv0 (c:TT) (tb:TS):TS:=λD σ H=>∃ W:Nat->St->Hp->Prop,(∃ m,W m σ H)/\∀ m σ H,W m σ H->
 c σ H λb H1=>if b=true then ∃ N:St->Hp->Prop,(∀ σ' H',N σ' H'->∃ m',m' < m/\W m' σ' H')/\tb { D with nx:=N,ct:=N,bk:=D.nx } σ H1 else D.nx σ H1
theorem zun {c:Expr} {body:List Stmt} {tc:TT} {tb:TS} (hp:PassesOwn (model X.prog X.w) X.A X.env X.xe) (hc:PT X c tc) (hb:PSs X body tb):PS X (.While c body [] pos) (zv0 tc tb):=by
 intro pins s σ H D I h;obtain ⟨W,⟨m0,w0⟩,turn⟩:=h;refine wpAny_While (codeAny_whileLoop (λn s'=>∃ σ' H',Inv X pins σ' H' s'/\W n σ' H') ?_ m0 ⟨σ,H,I,w0⟩);rintro n s1 ⟨σ1,H1,I1,w1⟩;refine wpAny_passesOwn hp (thn (hc pins s1 σ1 H1 _ I1 (turn n σ1 H1 w1)) λb s2 ⟨H2,I2,q2⟩=>?_);cases b with
 | true=>
  obtain ⟨N,hN,q2⟩:=q2;rw [if_pos rfl];refine wpAny_passesOwn hp (thn (hb pins s2 σ1 H2 _ I2 q2) λf s3 q3=>?_);cases f with
  | next=>
   obtain ⟨σ3,H3,I3,n3⟩:=q3;obtain ⟨m',hm,w3⟩:=hN σ3 H3 n3;exact ⟨m',hm,σ3,H3,I3,w3⟩
  | cont=>
   obtain ⟨σ3,H3,I3,n3⟩:=q3;obtain ⟨m',hm,w3⟩:=hN σ3 H3 n3;exact ⟨m',hm,σ3,H3,I3,w3⟩
  | brk=>exact q3
  | ret v=>exact q3
 | false=>
  rw [if_neg Bool.false_ne_true];exact wpAny_execs_nil ⟨σ1,H2,I2,q2⟩
end
structure It where
 go:Nat->Hp->Prop
 yld:Nat->Hp->V->Hp->Prop
 stop:Nat->Hp->Prop
def zlD (X:Cx) (pins:List (Addr×Obj)) (H:Hp) (b:Addr):Prop:=
 H b=none/\b≠X.env.locals/\b∉X.fs/\(b∈X.ex\/X.s₀.heap.objs.size<=b)/\(∀ x c,X.env.cells.lookup x=some c->c≠b)/\∀ p∈X.pn++pins,p.1≠b
theorem Inv.fpOk {X:Cx} {pins:List (Addr×Obj)} {σ:St} {H H':Hp} {s:Shared} {b:Addr} (I:Inv X pins σ H s) (hb:s.heap.objs.size<=b) (hn:H' b=none):zlD X pins H' b:=by
 refine ⟨hn,Nat.ne_of_gt (Nat.lt_of_lt_of_le I.lt hb),I.nofs hb,.inr (Nat.le_trans I.sz hb),λx c e z=>?_,λp hp z=>?_⟩
 ·obtain ⟨v,q⟩:=I.cell x c e;exact absurd (Nat.lt_of_lt_of_le q.lt (by rw [z]; exact hb)) (Nat.lt_irrefl _)
 ·exact absurd (Nat.lt_of_lt_of_le (Heap.lt_size (I.pin p hp).1) (by rw [z]; exact hb)) (Nat.lt_irrefl _)
structure Turn (P:Program) (w:World) (K:W.Frag) (tg:Expr) (J:It) (fp:List Addr) (it:Addr) (tn:Nat->Heap->Prop):Prop where
 mem:it∈fp
 obj:∀ i h,tn i h->∀ b∈fp,∃ o,h.get? b=some o/\∀ v,o.data≠.cell v
 keep:∀ i h h',tn i h->(∀ b∈fp,∀ o,h.get? b=some o->h'.get? b=some o)->tn i h'
 item:∀ (X:Cx),X.prog=P->X.w=w->X.K=K->X.calm=true->∀ (i:Nat) (pins:List (Addr×Obj)) (s:Shared) (σ:St) (H:Hp) (E:Value->Shared->Prop),Inv X pins σ H s->(∀ b∈fp,zlD X pins H b)->tn i s.heap->J.go i H->
  wpAny (model P w) X.A (pyNext (.ref it)) (λr s1=>∃ u,r=some u/\
   wpAny (model P w) X.A (letOwnedTupleGo tg (.ref it) u) (λ_ s2=>∃ x H',Inv X pins σ H' s2/\RelV x u/\J.yld i H x H'/\tn (i+1) s2.heap/\∀ b∈fp,H' b=none) E s1) E s
 done:∀ (X:Cx),X.prog=P->X.w=w->X.K=K->X.calm=true->∀ (i:Nat) (pins:List (Addr×Obj)) (s:Shared) (σ:St) (H:Hp) (E:Value->Shared->Prop),Inv X pins σ H s->(∀ b∈fp,zlD X pins H b)->tn i s.heap->J.stop i H->
  wpAny (model P w) X.A (pyNext (.ref it)) (λr s1=>r=none/\Inv X pins σ H s1) E s
 self:∀ (A:Around) (i:Nat) (s:Shared) (Q:Value->Shared->Prop) (E:Value->Shared->Prop),tn i s.heap->Q (.ref it) s->wpAny (model P w) A (pyIter (.ref it)) Q E s
abbrev TI:=St->Hp->(It->Hp->Prop)->Prop
def PIE (X:Cx) (pins:List (Addr×Obj)) (σ:St) (tg:Expr) (R:It->Hp->Prop) (itv:Value) (s2:Shared):Prop:=
 ∃ (it:Addr) (fp:List Addr) (tn:Nat->Heap->Prop) (J:It) (H':Hp),itv=.ref it/\Inv X pins σ H' s2/\Turn X.prog X.w X.K tg J fp it tn/\tn 0 s2.heap/\(∀ b∈fp,zlD X pins H' b)/\R J H'
def PI (X:Cx) (tg iter:Expr) (wi:TI):Prop:=
 ∀ (pins:List (Addr×Obj)) (s:Shared) (σ:St) (H:Hp) (R:It->Hp->Prop),Inv X pins σ H s->wi σ H R->
  wpAny (model X.prog X.w) X.A (eval iter X.env) (λv s1=>wpAny (model X.prog X.w) X.A (pyIter v) (PIE X pins σ tg R) X.xe s1) X.xe s
theorem zuo {M : Model} {A : Around} {E : Value -> Shared -> Prop} {s : Shared} {tg : Expr} {it : Addr} {u : Value} {o : Obj} {n : String} {vs : Array Value} {Q : Unit -> Shared -> Prop} (ho : s.heap.get? it = some o) (hc : o.cls = .type n) (hd : o.data = .fields vs)
    (hn : ["enumerate", "zip", "dict_itemiterator", "dict_reverseitemiterator", "odict_iterator", "itertools.zip_longest", "itertools.pairwise"].contains n = false) (hQ : Q () s) : wpAny M A (letOwnedTupleGo tg (.ref it) u) Q E s := by
  unfold letOwnedTupleGo;cases tg <;> first
    | exact wpAny_pure hQ
    | (cases u <;> first
        | exact wpAny_pure hQ
        | (refine wpAny_bind (wpAny_load ho ?_)
           rw [hc, hd];show wpAny M A (if (["enumerate", "zip", "dict_itemiterator", "dict_reverseitemiterator", "odict_iterator", "itertools.zip_longest", "itertools.pairwise"].contains n && vs[0]? == some (rawInt _)) = true then _ else _) Q E s;rw [if_neg (by intro h; rw [hn, Bool.false_and] at h; cases h)];exact wpAny_pure hQ))
def Itl (K:W.Frag) (a:Addr):It:=
 ⟨λi H=>∃ xs x,SqL K H a xs/\xs[i]? = some x,λi H x H'=>H'=H/\∀ xs,SqL K H a xs->xs[i]? = some x,λi H=>∃ xs,SqL K H a xs/\xs.length<=i⟩
def Itt (K:W.Frag) (a:Addr):It:=
 ⟨λi H=>∃ xs x,SqT K H a xs/\xs[i]? = some x,λi H x H'=>H'=H/\∀ xs,SqT K H a xs->xs[i]? = some x,λi H=>∃ xs,SqT K H a xs/\xs.length<=i⟩
def Itr (lo:Int) (n:Nat):It:=⟨λi _=>i < n,λi H x H'=>H'=H/\x=.int (lo+i),λi _=>n<=i⟩
theorem zrv {P:Program} {w:World} {K:W.Frag} {tg:Expr} (a it:Addr):Turn P w K tg (Itl K a) [it] it (λi h=>h.IsListIter it a i) where
 mem:=by simp
 obj:=λi h st b hb=>by
  have e:b=it:=by simpa using hb
  subst e;obtain ⟨o,e,c,d⟩:=st;exact ⟨o,e,λv z=>by rw [d] at z; cases z⟩
 keep:=λi h h' st k=>st.at λo e=>k it (by simp) o e
 item:=by
  intro X hP hw hK hc i pins s σ H E I hf st hg;subst hP hw hK;obtain ⟨xs,x,hq,hx⟩:=hg;obtain ⟨its,rv,p,hz⟩:=I.list hq;obtain ⟨u,hu,ru⟩:=rv.get hx;obtain ⟨f0,f1,f2,f3,f4,f5⟩:=hf it (by simp);refine wpAny_pyNext_list_item st p.isList (x:=u) (by simpa using hu) λh' st' sb=>?_;have I1:Inv X pins σ H { s with heap:=h' }:=I.turned (t':=s.toks) (λb o hb e=>(sb.2 b hb).trans e) f0 f1 f3 f4 f5;obtain ⟨o,e,c,d⟩:=id st'
  exact ⟨u,rfl,zuo (s:={ s with heap:=h' }) e c d (by decide) ⟨x,H,I1,ru,⟨rfl,λys hy=>by rw [I.list_inj hy hq]; exact hx⟩,st',λb hb=>(hf b hb).1⟩⟩
 done:=by
  intro X hP hw hK hc i pins s σ H E I hf st hg;subst hP hw hK;obtain ⟨xs,hq,hx⟩:=hg;obtain ⟨its,rv,p,hz⟩:=I.list hq;obtain ⟨f0,f1,f2,f3,f4,f5⟩:=hf it (by simp);have hl:=rv.length;exact wpAny_pyNext_list_end (I.ok.hd hc) st p.isList (by simp; omega) λh' eb=>⟨rfl,I.turned (t':=s.toks) (λb o hb e=>eb b o hb e) f0 f1 f3 f4 f5⟩
 self:=λ_ _ _ _ _ st h=>wpAny_pyIter_listiter st h
theorem zp6 {P:Program} {w:World} {K:W.Frag} {tg:Expr} (a it:Addr):Turn P w K tg (Itt K a) [it] it (λi h=>h.IsTupleIter it a i) where
 mem:=by simp
 obj:=λi h st b hb=>by
  have e:b=it:=by simpa using hb
  subst e;obtain ⟨o,e,c,d⟩:=st;exact ⟨o,e,λv z=>by rw [d] at z; cases z⟩
 keep:=λi h h' st k=>st.at λo e=>k it (by simp) o e
 item:=by
  intro X hP hw hK hc i pins s σ H E I hf st hg;subst hP hw hK;obtain ⟨xs,x,hq,hx⟩:=hg;obtain ⟨its,rv,p,hz⟩:=I.tuple hq;obtain ⟨u,hu,ru⟩:=rv.get hx;obtain ⟨f0,f1,f2,f3,f4,f5⟩:=hf it (by simp);refine wpAny_pyNext_tuple_item st (show s.heap.IsTuple a its.toArray from p) (x:=u) (by simpa using hu) λh' st' sb=>?_;have I1:Inv X pins σ H { s with heap:=h' }:=I.turned (t':=s.toks) (λb o hb e=>(sb.2 b hb).trans e) f0 f1 f3 f4 f5
  obtain ⟨o,e,c,d⟩:=id st';exact ⟨u,rfl,zuo (s:={ s with heap:=h' }) e c d (by decide) ⟨x,H,I1,ru,⟨rfl,λys hy=>by rw [I.tuple_inj hy hq]; exact hx⟩,st',λb hb=>(hf b hb).1⟩⟩
 done:=by
  intro X hP hw hK hc i pins s σ H E I hf st hg;subst hP hw hK;obtain ⟨xs,hq,hx⟩:=hg;obtain ⟨its,rv,p,hz⟩:=I.tuple hq;obtain ⟨f0,f1,f2,f3,f4,f5⟩:=hf it (by simp);have hl:=rv.length;exact wpAny_pyNext_tuple_end (I.ok.hd hc) st (show s.heap.IsTuple a its.toArray from p) (by simp; omega) λh' eb=>⟨rfl,I.turned (t':=s.toks) (λb o hb e=>eb b o hb e) f0 f1 f3 f4 f5⟩
 self:=λ_ _ _ _ _ st h=>wpAny_pyIter_tupleiter st h
theorem zp7 {P:Program} {w:World} {K:W.Frag} {tg:Expr} (it:Addr) (lo:Int) (n:Nat):Turn P w K tg (Itr lo n) [it] it (λi h=>IsRangeIter h it (lo+(i:Nat)*1) ((n:Int)-(i:Nat)) 1) where
 mem:=by simp
 obj:=λi h st b hb=>by
  have e:b=it:=by simpa using hb
  subst e;exact ⟨_,st,λv z=>by
   have z':Data.fields _=Data.cell v:=z;cases z'⟩
 keep:=λi h h' st k=>k it (by simp) _ st
 item:=by
  intro X hP hw hK hc i pins s σ H E I hf st hg;subst hP hw hK;obtain ⟨f0,f1,f2,f3,f4,f5⟩:=hf it (by simp);have W:=Walks.range (prog:=X.prog) (w:=X.w) (I.ok.hd hc) it lo 1 n;refine W.item i s _ _ hg st λv h' tk hv st' kk=>?_;obtain ⟨t,rfl⟩:=hv;have I1:Inv X pins σ H { s with heap:=h',toks:=tk }:=I.turned (λb o hb e=>kk b o (by simpa using hb) e) f0 f1 f3 f4 f5;refine ⟨_,rfl,zuo (s:={ s with heap:=h',toks:=tk }) (n:="range_iterator") st' rfl rfl (by decide) ⟨.int (lo+i),H,I1,⟨t,?_⟩,⟨rfl,rfl⟩,st',λb hb=>(hf b hb).1⟩⟩
  rw [Int.mul_one]
 done:=by
  intro X hP hw hK hc i pins s σ H E I hf st hg;subst hP hw hK;obtain ⟨f0,f1,f2,f3,f4,f5⟩:=hf it (by simp);exact wpAny_pyNext_range_end (I.ok.hd hc) st (by have:n<=i:=hg; omega) λh' eb=>⟨rfl,I.turned (t':=s.toks) (λb o hb e=>eb b o hb e) f0 f1 f3 f4 f5⟩
 self:=λ_ _ _ _ _ st h=>wpAny_pyIter_rangeiter st h
section
variable {X:Cx} {tg:Expr}
def zzX (K:W.Frag) (tl:TE):TI:=λσ H R=>tl σ H λx H1=>∃ a,x=.ref a/\(∃ xs,SqL K H1 a xs)/\R (Itl K a) H1
def zD8 (K:W.Frag) (tl:TE):TI:=λσ H R=>tl σ H λx H1=>∃ a,x=.ref a/\(∃ xs,SqT K H1 a xs)/\R (Itt K a) H1
theorem zw6 {l:Expr} {tl:TE} (hl:PE X l tl):PI X tg l (zzX X.K tl):=by
 intro pins s σ H R I h;refine thn (hl pins s σ H _ I h) λv s1 ⟨x,H1,I1,r1,q1⟩=>?_;obtain ⟨a,e,⟨xs,hq⟩,q⟩:=q1;subst e;cases r1
 obtain ⟨its,rv,p,hz⟩:=I1.list hq;refine wpAny_pyIter_list p.isList ?_;refine ⟨s1.heap.objs.size,[s1.heap.objs.size],_,_,H1,rfl,I1.kept (t':=s1.toks) λb o e=>Heap.get?_push_of_some _ e,zrv a _,⟨_,Heap.get?_push_size _ rfl,rfl,rfl⟩,λb hb=>?_,q⟩;have e:b=s1.heap.objs.size:=by simpa using hb
 subst e;exact I1.fpOk (Nat.le_refl _) (I1.hok.fresh (Nat.le_refl _))
theorem zzY {l:Expr} {tl:TE} (hl:PE X l tl):PI X tg l (zD8 X.K tl):=by
 intro pins s σ H R I h;refine thn (hl pins s σ H _ I h) λv s1 ⟨x,H1,I1,r1,q1⟩=>?_;obtain ⟨a,e,⟨xs,hq⟩,q⟩:=q1;subst e;cases r1
 obtain ⟨its,rv,p,hz⟩:=I1.tuple hq;refine wpAny_pyIter_tuple (show s1.heap.IsTuple a its.toArray from p) ?_;refine ⟨s1.heap.objs.size,[s1.heap.objs.size],_,_,H1,rfl,I1.kept (t':=s1.toks) λb o e=>Heap.get?_push_of_some _ e,zp6 a _,⟨_,Heap.get?_push_size _ rfl,rfl,rfl⟩,λb hb=>?_,q⟩;have e:b=s1.heap.objs.size:=by simpa using hb
 subst e;exact I1.fpOk (Nat.le_refl _) (I1.hok.fresh (Nat.le_refl _))
theorem zpe {pins:List (Addr×Obj)} {σ:St} {H:Hp} {s:Shared} {R:It->Hp->Prop} {E:Value->Shared->Prop} {lo hi:Int} {t u v:Tok} {tk:Nat} (I:Inv X pins σ H s) (h1:-(2 ^ 62)<=lo) (h2:lo < 2 ^ 62) (h3:-(2 ^ 62)<=hi) (h4:hi < 2 ^ 62)
  (q:R (Itr lo (hi-lo).toNat) H):wpAny (model X.prog X.w) X.A (pyIter (.ref s.heap.objs.size)) (PIE X pins σ tg R) E { s with heap:=s.heap.push { cls:=.type "range",data:=.fields #[.int lo t,.int hi u,.int 1 v] },toks:=tk }:=by
 refine wpAny_pyIter_range (IsRange.new ..) (small_one h1 h2 h3 h4) ?_;have I1:Inv X pins σ H { s with heap:=s.heap.push { cls:=.type "range",data:=.fields #[.int lo t,.int hi u,.int 1 v] },toks:=tk }:=I.kept λb o e=>Heap.get?_push_of_some _ e;refine ⟨(s.heap.push { cls:=.type "range",data:=.fields #[.int lo t,.int hi u,.int 1 v] }).objs.size,[(s.heap.push { cls:=.type "range",data:=.fields #[.int lo t,.int hi u,.int 1 v] }).objs.size],_,_,H,rfl,
  I1.kept (t':=tk) λb o e=>Heap.get?_push_of_some _ e,zp7 _ lo (hi-lo).toNat,?_,λb hb=>?_,q⟩
 ·have e1:lo+((0:Nat):Int)*1=lo:=by simp
  have e2:(((hi-lo).toNat:Nat):Int)-((0:Nat):Int)=Builtin.Range.rangeSize lo hi 1:=by rw [rangeSize_one]; split <;> omega
  show IsRangeIter _ _ (lo+((0:Nat):Int)*1) ((((hi-lo).toNat:Nat):Int)-((0:Nat):Int)) 1;rw [e1,e2];exact Heap.get?_push_size _ rfl
 ·have e:b=(s.heap.push { cls:=.type "range",data:=.fields #[.int lo t,.int hi u,.int 1 v] }).objs.size:=by simpa using hb
  subst e;exact I1.fpOk (Nat.le_refl _) (I1.hok.fresh (Nat.le_refl _))
def zw7 (ta:TA):TI:=λσ H R=>ta σ H λvs H1=>∃ j:Int,vs=[.int j]/\-(2 ^ 62)<=j/\j < 2 ^ 62/\R (Itr 0 j.toNat) H1
def zw8 (ta:TA):TI:=λσ H R=>ta σ H λvs H1=>∃ i j:Int,vs=[.int i,.int j]/\(-(2 ^ 62)<=i/\i < 2 ^ 62/\-(2 ^ 62)<=j/\j < 2 ^ 62)/\R (Itr i (j-i).toNat) H1
theorem zrw {a:Expr} {ta:TA} {p pos:Pos} (hg:Gl X "range") (hm:X.mg "range"=none) (ha:PA X [a] ta) (hs:starEach [a] X.env=[(false,eval a X.env)]:=by rfl):PI X tg (.Call (.Name "range" p) [a] [] pos) (zw7 ta):=by
 intro pins s σ H R I h;refine Call_ (zhY I hg hm boot_range (PyProof.Rows.callWith_type1 (thn (ha pos pins s σ H _ I h) λus s1 ⟨vs,H1,I1,r1,q1⟩=>?_) hs rfl));obtain ⟨j,e,q1,q2,q⟩:=q1;subst e;cases r1 with
 | cons r rr=>
  cases rr
  obtain ⟨t,rfl⟩:=r;exact call_range_1 (zpe I1 (by omega) (by omega) q1 q2 (by simpa using q))
theorem zrx {a b:Expr} {ta:TA} {p pos:Pos} (hg:Gl X "range") (hm:X.mg "range"=none) (ha:PA X [a,b] ta) (hs:starEach [a,b] X.env=[(false,eval a X.env),(false,eval b X.env)]:=by rfl) (hs2:starEach [b] X.env=[(false,eval b X.env)]:=by rfl) :
  PI X tg (.Call (.Name "range" p) [a,b] [] pos) (zw8 ta):=by
 intro pins s σ H R I h;refine Call_ (zhY I hg hm boot_range (PyProof.Rows.callWith_type1 (thn (ha pos pins s σ H _ I h) λus s1 ⟨vs,H1,I1,r1,q1⟩=>?_) (by rw [hs,hs2]) (by rw [hs2]; rfl)));obtain ⟨i,j,e,⟨q1,q2,q3,q4⟩,q⟩:=q1;subst e;cases r1 with
 | cons r rr=>
  cases rr with
  | cons r' rr=>
   cases rr
   obtain ⟨t,rfl⟩:=r;obtain ⟨t',rfl⟩:=r';exact call_range_2 (zpe I1 q1 q2 q3 q4 q)
def zzq (wi:TI) (g:TG) (tb:TS):TS:=λD σ H=>wi σ H λJ H1=>∃ W:Nat->Nat->St->Hp->Prop,(∃ m,W 0 m σ H1)/\∀ i m σ H,W i m σ H->
 (J.stop i H/\D.nx σ H)\/(J.go i H/\∃ N:St->Hp->Prop,(∀ σ' H',N σ' H'->∃ m',m' < m/\W (i+1) m' σ' H')/\∀ x H',J.yld i H x H'->g x σ H' λσ2 H2=>tb { D with nx:=N,ct:=N,bk:=D.nx } σ2 H2)
def zmV (fp:List Addr) (h:Heap):List (Addr×Obj):=fp.filterMap λb=>(h.get? b).map λo=>(b,o)
theorem zhb {fp:List Addr} {h:Heap} {b:Addr} {o:Obj} (hb:b∈fp) (e:h.get? b=some o):(b,o)∈zmV fp h:=List.mem_filterMap.mpr ⟨b,hb,by rw [e]; rfl⟩
theorem zry {fp:List Addr} {h:Heap} {p:Addr×Obj} (hp:p∈zmV fp h):p.1∈fp/\h.get? p.1=some p.2:=by
 obtain ⟨b,hb,e⟩:=List.mem_filterMap.mp hp;cases q:h.get? b with
 | none=>rw [q] at e; cases e
 | some o=>
  rw [q] at e;have e':(b,o)=p:=Option.some.inj e;subst e';exact ⟨hb,q⟩
theorem Inv.pinned {pins:List (Addr×Obj)} {σ:St} {H:Hp} {s:Shared} {fp:List Addr} (I:Inv X pins σ H s) (hf:∀ b∈fp,zlD X pins H b) (ho:∀ b∈fp,∃ o,s.heap.get? b=some o/\∀ v,o.data≠.cell v):Inv X (pins++zmV fp s.heap) σ H s:=
 I.pins_of λp hp=>(List.mem_append.mp hp).elim (λz=>I.pin p (List.mem_append_right _ z)) λz=>by
  obtain ⟨hb,e⟩:=zry z;obtain ⟨f0,f1,f2,_⟩:=hf p.1 hb;obtain ⟨o,e',d⟩:=ho p.1 hb;rw [e] at e'; cases e'
  exact ⟨e,f0,f1,f2,d⟩
theorem Inv.unpinned {pins pl:List (Addr×Obj)} {σ:St} {H:Hp} {s:Shared} (I:Inv X (pins++pl) σ H s):Inv X pins σ H s:=I.pins_of λp hp=>I.pin p (List.mem_append_right _ (List.mem_append_left _ hp))
theorem zrz {iter:Expr} {body:List Stmt} {wi:TI} {g:TG} {tb:TS} {pos:Pos} (hp:PassesOwn (model X.prog X.w) X.A X.env X.xe) (hc:X.calm=true) (hi:PI X tg iter wi) (hg:PG X tg g) (hb:PSs X body tb)
  (hs:∀ x,foldedSetIterable iter X.env x=pure x:=by intro _; rfl):PS X (.For tg iter body [] pos) (zzq wi g tb):=by
 intro pins s σ H D I h;refine wpAny_For (thn (hi pins s σ H _ I h) λv s1 h1=>thn h1 λitv s2 h2=>?_) hs;obtain ⟨it,fp,tn,J,H2,e,I2,T,st2,f2,W,⟨m0,w0⟩,turn⟩:=h2;subst e
 -- what stays true of the iterator's objects through the loop
 have stat:∀ {H':Hp},(∀ b∈fp,H' b=none)->∀ b∈fp,zlD X pins H' b:=λhn b hb=>⟨hn b hb,(f2 b hb).2⟩
 refine codeAny_forLoop_any (λn s'=>∃ i σ' H',Inv X pins σ' H' s'/\tn i s'.heap/\(∀ b∈fp,H' b=none)/\W i n σ' H') ?_ m0 ⟨0,σ,H2,I2,st2,λb hb=>(f2 b hb).1,w0⟩;rintro n s3 ⟨i,σ3,H3,I3,st3,fr3,w3⟩;rcases turn i n σ3 H3 w3 with ⟨stop,qn⟩ | ⟨go,N,hN,step⟩
 ·refine wpAny_passesOwn hp (thn (T.done X rfl rfl rfl hc i pins s3 σ3 H3 X.xe I3 (stat fr3) st3 stop) λr s4 ⟨hr,I4⟩=>?_);subst hr;exact wpAny_execs_nil ⟨σ3,H3,I4,qn⟩
 ·refine wpAny_passesOwn hp (thn (T.item X rfl rfl rfl hc i pins s3 σ3 H3 X.xe I3 (stat fr3) st3 go) λr s4 ⟨u,hr,h4⟩=>?_);subst hr;refine wpAny_passesOwn hp (thn h4 λ_ s5 ⟨x,H5,I5,r5,y5,st5,fr5⟩=>?_);have I5':=I5.pinned (stat fr5) (T.obj _ _ st5);refine wpAny_passesOwn hp (thn (hg _ s5 σ3 H5 x u _ I5' r5 (step x H5 y5)) λ_ s6 ⟨σ6,H6,I6,q6⟩=>?_);refine wpAny_passesOwn hp (thn (hb _ s6 σ6 H6 _ I6 q6) λf s7 q7=>?_)
  have again:∀ {σ7:St} {H7:Hp},Inv X (pins++zmV fp s5.heap) σ7 H7 s7->N σ7 H7->∃ m,m < n/\∃ i σ' H',Inv X pins σ' H' s7/\tn i s7.heap/\(∀ b∈fp,H' b=none)/\W i m σ' H':=λ{σ7 H7} I7 n7=>by
   obtain ⟨m',hm,w7⟩:=hN σ7 H7 n7;refine ⟨m',hm,i+1,σ7,H7,I7.unpinned,T.keep _ _ _ st5 λb hb o e=>(I7.pin (b,o) (List.mem_append_right _ (List.mem_append_right _ (zhb hb e)))).1,λb hb=>?_,w7⟩;obtain ⟨o,e,d⟩:=T.obj _ _ st5 b hb;exact (I7.pin (b,o) (List.mem_append_right _ (List.mem_append_right _ (zhb hb e)))).2.1
  cases f with
  | next=>obtain ⟨σ7,H7,I7,n7⟩:=q7; exact again I7 n7
  | cont=>obtain ⟨σ7,H7,I7,n7⟩:=q7; exact again I7 n7
  | brk=>obtain ⟨σ7,H7,I7,q7⟩:=q7; exact ⟨σ7,H7,I7.unpinned,q7⟩
  | ret v=>obtain ⟨x7,σ7,H7,I7,r7,q7⟩:=q7; exact ⟨x7,σ7,H7,I7.unpinned,r7,q7⟩
end
abbrev R2:=V->V->Hp->VK->Prop
def OpR (X:Cx) (f:Value->Value->Sem Value) (r:R2):Prop:=
 ∀ (pins:List (Addr×Obj)) (s:Shared) (σ:St) (H:Hp) (x y:V) (v u:Value) (Q:VK),Inv X pins σ H s->RelV x v->RelV y u->r x y H Q->
  wpAny (model X.prog X.w) X.A (f v u) (EP X pins σ Q) X.xe s
def UnR (X:Cx) (f:Value->Sem Value) (r:V->Hp->VK->Prop):Prop:=
 ∀ (pins:List (Addr×Obj)) (s:Shared) (σ:St) (H:Hp) (x:V) (v:Value) (Q:VK),Inv X pins σ H s->RelV x v->r x H Q->
  wpAny (model X.prog X.w) X.A (f v) (EP X pins σ Q) X.xe s
def CallR (X:Cx) (f:Value) (r:List V->Hp->VK->Prop):Prop:=
 ∀ (pins:List (Addr×Obj)) (s:Shared) (σ:St) (H:Hp) (xs:List V) (us:List Value) (Q:VK),Inv X pins σ H s->Vals xs us->r xs H Q->
  wpAny (model X.prog X.w) X.A (call f us) (EP X pins σ Q) X.xe s
def tOp (r:R2) (ta tb:TE):TE:=λσ H Q=>ta σ H λx H1=>tb σ H1 λy H2=>r x y H2 Q
def tUn (r:V->Hp->VK->Prop) (ta:TE):TE:=λσ H Q=>ta σ H λx H1=>r x H1 Q
def rI (C:Int->Int->Prop) (g:Int->Int->V):R2:=λx y H Q=>∃ i j,x=.int i/\y=.int j/\C i j/\Q (g i j) H
def rI0 (g:Int->Int->V):R2:=λx y H Q=>∃ i j,x=.int i/\y=.int j/\Q (g i j) H
def rU (g:Int->V):V->Hp->VK->Prop:=λx H Q=>∃ i,x=.int i/\Q (g i) H
section
variable {X:Cx} {a b c:Expr} {ta tb tc:TE} {pos:Pos}
theorem zCC (ha:PE X a ta) (hb:PE X b tb) {pins:List (Addr×Obj)} {s:Shared} {σ:St} {H:Hp} {R:V->V->Hp->Prop} (I:Inv X pins σ H s)
  (h:ta σ H λx H1=>tb σ H1 λy H2=>R x y H2) {Q:Value->Shared->Prop} {f:Value->Value->Sem Value}
  (hf:∀ v u s2 x y H2,Inv X pins σ H2 s2->RelV x v->RelV y u->R x y H2->wpAny (model X.prog X.w) X.A (f v u) Q X.xe s2) :
  wpAny (model X.prog X.w) X.A (eval a X.env) (λv s₁=>wpAny (model X.prog X.w) X.A (eval b X.env) (λu s₂=>wpAny (model X.prog X.w) X.A (f v u) Q X.xe s₂) X.xe s₁) X.xe s:=by
 refine thn (ha pins s σ H _ I h) λv s1 ⟨x,H1,I1,r1,q1⟩=>?_;refine thn (hb pins s1 σ H1 _ I1 q1) λu s2 ⟨y,H2,I2,r2,q2⟩=>?_;exact hf v u s2 x y H2 I2 r1 r2 q2
theorem zup {op:Operator} {r:R2} (ho:OpR X (binaryOp op) r) (ha:PE X a ta) (hb:PE X b tb):PE X (.BinOp a op b pos) (tOp r ta tb):=by
 intro pins s σ H Q I h;exact wpAny_BinOp (zCC ha hb I h λv u s2 x y H2 I2 rx ry q=>ho pins s2 σ H2 x y v u Q I2 rx ry q)
theorem zCD {op:UnaryOp} {r:V->Hp->VK->Prop} (ho:UnR X (unaryOp op) r) (ha:PE X a ta):PE X (.UnaryOp op a pos) (tUn r ta):=by
 intro pins s σ H Q I h;exact UnaryOp_ (thn (ha pins s σ H _ I h) λv s1 ⟨x,H1,I1,r1,q1⟩=>ho pins s1 σ H1 x v Q I1 r1 q1)
theorem opI {f:Value->Value->Sem Value} {C:Int->Int->Prop} {g:Int->Int->Int}
  (rule:∀ (i j:Int) (t u:Tok) (s:Shared) (Q:Value->Shared->Prop) (E:Value->Shared->Prop),C i j->Q (.int (g i j) s.toks) { s with toks:=s.toks+1 }->wpAny (model X.prog X.w) X.A (f (.int i t) (.int j u)) Q E s) :
  OpR X f (rI C λi j=>.int (g i j)):=by
 intro pins s σ H x y v u Q I rx ry h;obtain ⟨i,j,rfl,rfl,hc,q⟩:=h;obtain ⟨t,rfl⟩:=rx;obtain ⟨t',rfl⟩:=ry;exact rule i j t t' s _ _ hc ⟨.int (g i j),H,I.tok _,⟨_,rfl⟩,q⟩
theorem zCc {f:Value->Value->Sem Value} {g:Int->Int->Int}
  (rule:∀ (i j:Int) (t u:Tok) (s:Shared) (Q:Value->Shared->Prop) (E:Value->Shared->Prop),Q (.int (g i j) s.toks) { s with toks:=s.toks+1 }->wpAny (model X.prog X.w) X.A (f (.int i t) (.int j u)) Q E s) :
  OpR X f (rI0 λi j=>.int (g i j)):=by
 intro pins s σ H x y v u Q I rx ry h;obtain ⟨i,j,rfl,rfl,q⟩:=h;obtain ⟨t,rfl⟩:=rx;obtain ⟨t',rfl⟩:=ry;exact rule i j t t' s _ _ ⟨.int (g i j),H,I.tok _,⟨_,rfl⟩,q⟩
theorem zCd {f:Value->Value->Sem Value} {g:Int->Int->Bool}
  (rule:∀ (i j:Int) (t u:Tok) (s:Shared) (Q:Value->Shared->Prop) (E:Value->Shared->Prop),Q (.bool (g i j)) s->wpAny (model X.prog X.w) X.A (f (.int i t) (.int j u)) Q E s) :
  OpR X f (rI0 λi j=>.bl (g i j)):=by
 intro pins s σ H x y v u Q I rx ry h;obtain ⟨i,j,rfl,rfl,q⟩:=h;obtain ⟨t,rfl⟩:=rx;obtain ⟨t',rfl⟩:=ry;exact rule i j t t' s _ _ ⟨.bl (g i j),H,I,rfl,q⟩
def zw9 (i j:Int):Prop:=0<=j/\j<=1000000/\i.natAbs < 2 ^ 64
def CMul (i j:Int):Prop:=(-(2 ^ 64) < i/\i < 2 ^ 64)\/(-(2 ^ 64) < j/\j < 2 ^ 64)
theorem CMul.ok {i j:Int} (h:CMul i j):IntMulOk i j:=by
 rcases h with ⟨h1,h2⟩ | ⟨h1,h2⟩
 ·exact .of_left (intBits_le_64 h1 h2)
 ·exact .of_right (intBits_le_64 h1 h2)
theorem zzZ:OpR X (binaryOp .Add) (rI0 λi j=>.int (i+j)):=zCc λ_ _ _ _ _ _ _ q=>add_int q
theorem zz0:OpR X (binaryOp .Sub) (rI0 λi j=>.int (i-j)):=zCc λ_ _ _ _ _ _ _ q=>sub_int q
theorem zz1:OpR X (binaryOp .Mult) (rI CMul λi j=>.int (i*j)):=opI λ_ _ _ _ _ _ _ hc q=>mul_int q hc.ok
theorem zcz:OpR X (binaryOp .Mod) (rI (λ_ j=>0 < j) λi j=>.int (i%j)):=opI λi j _ _ _ _ _ hc q=>by
 have h1:(0:Int) < j:=hc;exact mod_int' (by omega) (by rw [Int.fmod_eq_emod_of_nonneg i (by omega)]; exact q)
theorem zz2:OpR X (binaryOp .Pow) (rI zw9 λi j=>.int (i ^ j.toNat)):=opI λ_ _ _ _ _ _ _ hc q=>pow_int_small hc.1 hc.2.1 hc.2.2 q
theorem zpf:OpR X (binaryOp .LShift) (rI zw9 λi j=>.int (i*2 ^ j.toNat)):=opI λ_ _ _ _ _ _ _ hc q=>lshift_int_small hc.1 hc.2.1 hc.2.2 q
theorem zrA:OpR X (binaryOp .BitAnd) (rI0 λi j=>.int (Builtin.bitAnd i j)):=zCc λ_ _ _ _ _ _ _ q=>and_int q
theorem zCE:OpR X (binaryOp .BitOr) (rI0 λi j=>.int (Builtin.bitOr i j)):=zCc λ_ _ _ _ _ _ _ q=>or_int q
theorem unI {f:Value->Sem Value} {g:Int->Int}
  (rule:∀ (i:Int) (t:Tok) (s:Shared) (Q:Value->Shared->Prop) (E:Value->Shared->Prop),Q (.int (g i) s.toks) { s with toks:=s.toks+1 }->wpAny (model X.prog X.w) X.A (f (.int i t)) Q E s) :
  UnR X f (rU λi=>.int (g i)):=by
 intro pins s σ H x v Q I rx h;obtain ⟨i,rfl,q⟩:=h;obtain ⟨t,rfl⟩:=rx;exact rule i t s _ _ ⟨.int (g i),H,I.tok _,⟨_,rfl⟩,q⟩
theorem zz3:UnR X (unaryOp .USub) (rU λi=>.int (-i)):=unI λ_ _ _ _ _ q=>neg_int q
end
section
variable {X:Cx} {a b c:Expr} {ta tb tc:TE} {pos:Pos}
theorem zz4 {pins:List (Addr×Obj)} {σ:St} {H:Hp} {s:Shared} {Q:VK} {k k':Bool} (I:Inv X pins σ H s) (q:Q (.bl k) H) (e:k=k'):EP X pins σ Q (.bool k') s:=by
 subst e;exact ⟨.bl k,H,I,rfl,q⟩
theorem zCF:OpR X (compareOp .Lt) (rI0 λi j=>.bl (decide (i < j))):=zCd λ_ _ _ _ _ _ _ q=>lt_int q
theorem zCG:OpR X (compareOp .LtE) (rI0 λi j=>.bl (decide (i<=j))):=zCd λ_ _ _ _ _ _ _ q=>le_int q
theorem zCH:OpR X (compareOp .Gt) (rI0 λi j=>.bl (decide (j < i))):=zCd λ_ _ _ _ _ _ _ q=>gt_int q
theorem zCI:OpR X (compareOp .GtE) (rI0 λi j=>.bl (decide (j<=i))):=zCd λ_ _ _ _ _ _ _ q=>ge_int q
theorem zrB:OpR X (compareOp .In) (λx y H Q=>∃ i j,x=.str i/\y=.str j/\Q (.bl (!(Builtin.Str.occurrences j i 0 j.length 1).isEmpty)) H):=by
 intro pins s σ H x y v u Q I rx ry h;obtain ⟨i,j,rfl,rfl,q⟩:=h;obtain ⟨t,rfl⟩:=rx;obtain ⟨t',rfl⟩:=ry;exact in_str (zz4 I q rfl)
theorem OpR.or {f:Value->Value->Sem Value} {r r':R2} (h:OpR X f r) (h':OpR X f r'):OpR X f (λx y H Q=>r x y H Q\/r' x y H Q):=by
 intro pins s σ H x y v u Q I rx ry q;rcases q with q | q
 ·exact h pins s σ H x y v u Q I rx ry q
 ·exact h' pins s σ H x y v u Q I rx ry q
theorem zaX (b:Expr) {op:CmpOp} (h:op≠.In:=by decide) (h2:op≠.NotIn:=by decide):behindInMarks op b=false:=by
 have e1:(op==CmpOp.In)=false:=by cases op <;> first | rfl | exact absurd rfl h
 have e2:(op==CmpOp.NotIn)=false:=by cases op <;> first | rfl | exact absurd rfl h2
 cases b <;> simp [behindInMarks,e1,e2]
theorem zrC {op:CmpOp} {r:R2} (ho:OpR X (compareOp op) r) (ha:PE X a ta) (hb:PE X b tb) (hm:behindInMarks op b=false):PE X (.Compare a [op] [b] pos) (tOp r ta tb):=by
 intro pins s σ H Q I h;exact wpAny_Compare1 (zCC ha hb I h λv u s2 x y H2 I2 rx ry q=>ho pins s2 σ H2 x y v u Q I2 rx ry q) hm
def zz5 (t:TE):TT:=λσ H Q=>t σ H λx H'=>∃ k,x=.bl k/\Q k H'
theorem zxa {op:CmpOp} {r:R2} (ho:OpR X (compareOp op) r) (ha:PE X a ta) (hb:PE X b tb) (hm:behindInMarks op b=false):PT X (.Compare a [op] [b] pos) (zz5 (tOp r ta tb)):=by
 intro pins s σ H Q I h;refine wpAny_isTrue_Compare1 (thn (ha pins s σ H _ I h) λv s1 ⟨x,H1,I1,r1,q1⟩=>thn (hb pins s1 σ H1 _ I1 q1) λu s2 ⟨y,H2,I2,r2,q2⟩=>
  thn (ho pins s2 σ H2 x y v u _ I2 r1 r2 q2) λc s3 ⟨z,H3,I3,r3,k,e,q3⟩=>?_) hm
 subst e;cases r3
 exact wpAny_truthy_bool ⟨H3,I3,q3⟩
theorem zpg:(sizeLine:Nat) < 2 ^ 63:=by rw [sizeLine_eq]; decide
theorem zp8:OpR X (binaryOp .Add) (λx y H Q=>∃ i j,x=.str i/\y=.str j/\i.length+j.length<=sizeLine/\Q (.str (i++j)) H):=by
 intro pins s σ H x y v u Q I rx ry h;obtain ⟨i,j,rfl,rfl,hz,q⟩:=h;obtain ⟨t,rfl⟩:=rx;obtain ⟨t',rfl⟩:=ry;exact add_str (λt' tk=>⟨.str (i++j),H,I.tok _,⟨_,rfl⟩,q⟩) hz
theorem zjQ {x:V} {us:List Value} (r:Vals [x] us):∃ u,us=[u]/\RelV x u:=by
 cases r with
 | cons r1 r2=>cases r2; exact ⟨_,rfl,r1⟩
theorem zrD:CallR X (.type "int") (λxs H Q=>(∃ i,xs=[.int i]/\Q (.int i) H)\/∃ k,xs=[.bl k]/\Q (.int (if k then 1 else 0)) H):=by
 intro pins s σ H xs us Q I r h;rcases h with ⟨i,rfl,q⟩ | ⟨k,rfl,q⟩
 ·obtain ⟨u,rfl,t,rfl⟩:=zjQ r;exact call_int_int ⟨.int i,H,I,⟨_,rfl⟩,q⟩
 ·obtain ⟨u,rfl,r1⟩:=zjQ r;cases r1
  exact call_int_bool ⟨.int (if k then 1 else 0),H,I.tok _,⟨_,rfl⟩,q⟩
def zCJ (K:W.Frag) (x:V) (H:Hp) (n:Nat):Prop:=
 match x with
 | .str y=>y.length<=sizeLine/\n=y.length
 | .byt y=>y.size<=sizeLine/\n=y.size
 | .ref p=>(∃ xs,SqL K H p xs/\n=xs.length)\/∃ xs,SqT K H p xs/\n=xs.length
 | _=>False
theorem zuq:CallR X (.builtin "len") (λxs H Q=>∃ x n,xs=[x]/\zCJ X.K x H n/\Q (.int n) H):=by
 intro pins s σ H xs us Q I r h;obtain ⟨x,n,rfl,e,q⟩:=h;obtain ⟨u,rfl,rx⟩:=zjQ r;have hl:=zpg;have hs:sizeLine=16777216:=sizeLine_eq;cases x with
 | str y=>
  obtain ⟨t,rfl⟩:=rx;obtain ⟨hy,e'⟩:y.length<=sizeLine/\n=y.length:=e;subst e';exact len_str (by omega) ⟨.int _,H,I.tok _,⟨_,rfl⟩,q⟩
 | byt y=>
  obtain ⟨t,rfl⟩:=rx;obtain ⟨hy,e'⟩:y.size<=sizeLine/\n=y.size:=e;subst e';exact W.len_bytes (by omega) ⟨.int _,H,I.tok _,⟨_,rfl⟩,q⟩
 | ref p=>
  cases rx
  have e':(∃ xs,SqL X.K H p xs/\n=xs.length)\/∃ xs,SqT X.K H p xs/\n=xs.length:=e;rcases e' with ⟨xs,hx,e'⟩ | ⟨xs,hx,e'⟩
  ·subst e';obtain ⟨its,r',pl,hz⟩:=I.list hx;have hlen:=r'.length;exact Calls.call_len_list pl.isList (by simp only [List.size_toArray]; omega) ⟨.int xs.length,H,I.tok _,⟨_,by simp only [List.size_toArray]; rw [hlen]⟩,q⟩
  ·subst e';obtain ⟨its,r',pl,hz⟩:=I.tuple hx;have hlen:=r'.length;exact len_tuple pl (by simp only [List.size_toArray]; omega) ⟨.int xs.length,H,I.tok _,⟨_,by simp only [List.size_toArray]; rw [hlen]⟩,q⟩
 | _=>exact (show False from e).elim
end
structure ObjM (h:Heap) (x dx C:Addr) (mA:Str->Option Value):Prop where
 obj:h.get? x=some (W.instObj C dx)
 ns:h.Ns1 dx mA
 ne:dx≠x
theorem zmW {h:Heap} {dx:Addr} {mA:Str->Option Value} (n:h.Ns1 dx mA):∃ od,h.get? dx=some od/\∀ name,W.lookIn name od=some (mA name):=by
 obtain ⟨o,es,ep,ho,hd,hk,_,hm⟩:=n;refine ⟨o,ho,λname=>?_⟩;have e:=hm name;unfold nsFind findBy at e;rw [<- Array.find?_toList] at e;unfold W.lookIn;rw [hd];dsimp only;split
 ·rename_i y q
  rw [q] at e;exact congrArg some e
 ·rename_i q
  rw [q] at e;have a:es.toList.any (·.refKey)=false:=by
   rw [List.any_eq_false];intro y hy;obtain ⟨z,t,hkey⟩:=hk y (Array.mem_toList_iff.mp hy);simp [DictEntry.refKey,hkey]
  have a':¬ es.toList.any (·.refKey)=true:=by rw [a]; exact Bool.false_ne_true
  rw [if_neg a'];exact congrArg some e
theorem ObjM.look {h:Heap} {x dx C:Addr} {mA:Str->Option Value} (I:ObjM h x dx C mA):∃ od,W.InstAt h x (W.instObj C dx) C (some od)/\∀ name,W.lookIn name od=some (mA name):=
 let ⟨od,ho,hl⟩:=zmW I.ns
 ⟨od,⟨I.obj,rfl,rfl,ho⟩,hl⟩
section
variable {prog:Program} {w:World} {A:Around} {E:Value->Shared->Prop} {s:Shared} {K:W.Frag} {x dx C f:Addr} {mA:Str->Option Value} {name:Str} {v:Value}
theorem zxb {expr:Bool} {Q:Value->Shared->Prop} (X:K.In s.heap) (I:ObjM s.heap x dx C mA) (hg:W.plainGet K C name=true) (hh:W.hasDictIn K C=true)
  (ha:W.findIn K (.ref C) name=some none) (hv:mA name=some v) (hv':W.handedIn v=true) (h:Q v { s with toks:=s.toks+1 }) :
  wpAny (model prog w) A (getAttr (.ref x) name expr) Q E s:=by
 obtain ⟨od,J,hl⟩:=I.look;exact W.get_value X J (W.plainGet_of hg).1 (W.findObj_own hh ha rfl (by rw [hl,hv])) hv' h
theorem zur {pl:Sem Bool} {Q:Value×List Value->Shared->Prop} (X:K.In s.heap) (I:ObjM s.heap x dx C mA) (hg:W.plainGet K C name=true)
  (hf:W.findIn K (.ref C) name=some (some (.ref f))) (ht:W.isFn K (.ref f)=true) (hv:mA name=none) (h:Q (.ref f,[.ref x]) s) :
  wpAny (model prog w) A (getMethod (.ref x) name pl) Q E s:=by
 obtain ⟨od,J,hl⟩:=I.look;exact W.method_fn X J (W.plainGet_of hg).1 (W.plainGet_of hg).2 hf (beq_iff_eq.mp ht) (by show (W.lookIn name od).map (·.isSome)=some false; rw [hl,hv]; rfl) h
theorem zxc {ns:List Str} {Q:Unit->Shared->Prop} (X:K.In s.heap) (I:ObjM s.heap x dx C mA)
  (hs:W.findIn K (.ref C) "__setattr__"=some (some (.builtin "object.__setattr__"))) (hp:W.plainOver K C=true) (ht:W.takerIn K C name=some none) (hh:W.hasDictIn K C=true)
  (hw:PySem.Within mA ns) (hsz:ns.length<=sizeLine)
  (h:∀ h',ObjM h' x dx C (λy=>if y=name then some v else mA y)->Heap.SameBut dx s.heap h'->Q () { s with heap:=h',toks:=s.toks+2 }) :
  wpAny (model prog w) A (setAttr (.ref x) name v) Q E s:=by
 obtain ⟨od,J,hl⟩:=I.look;refine W.set_plain X J hs (W.osa_open (s:={ s with toks:=s.toks+1 }) (r:=none) X J hp ht λb=>?_);obtain ⟨cd,hc,hd'⟩:=W.any_some hh;have hx:s.heap.get? x=some ⟨.ref C,some dx,.plain,#[]⟩:=I.obj;refine wpAny_bind (wpAny_pure (wpAny_bind (wpAny_bind (wpAny_loadPart hx (wpAny_bind (W.Looks.here (s:={ s with toks:=s.toks+1 }) (W.looks_clsIn X hc) ?_))))));rw [hd'];refine wpAny_pure (a:=some dx) (wpAny_bind (wpAny_pure (wpAny_bind ?_)))
 refine wpAny_nsSet1 (s:={ s with toks:=s.toks+1 }) I.ns λh' hn2 hs2=>?_;obtain ⟨oD,esD,epD,hoD,hdD,hcD⟩:=hn2.count (PySem.Within.cons name v hw);refine wpAny_bind (wpAny_lookBehind hoD (by rw [hdD]; exact pastItsLine_dict (Nat.le_trans hcD (by rw [List.length_cons]; omega))) ?_);exact wpAny_pure (h _ ⟨(hs2.2 _ (Ne.symm I.ne)).trans I.obj,hn2,I.ne⟩ hs2)
theorem zus {R : Result -> Shared -> Prop} {vs : List Value} {kw : List (Str × Value)} (X : K.In s.heap) (hm : W.makesIn K C = true)
    (hi : W.findIn K (.ref C) "__init__" = some (some (.ref f))) (hf : W.typeIn K (.ref f) = some (.type "function"))
    (h : codeAny (model prog w) (A.under (.builtin "type.__call__" ⟨.ref C :: vs, kw⟩)) (.call (.ref f) ⟨.ref (s.heap.objs.size + 1) :: vs, kw⟩) (W.InitBack (s.heap.objs.size + 1) R)
      { s with heap := (s.heap.push W.emptyDict).push (W.instObj C s.heap.objs.size) }) :
    codeAny (model prog w) A (.call (.ref C) ⟨vs, kw⟩) R s := by
  obtain ⟨hh, g, d, t, os⟩ := s;exact W.make_core (W.makes_of X hm) (W.looks_findIn X hi) (λself => W.bind_fn X self hf) (.inl rfl) h
end
def zj9 (f:Str) (v:V):List (Str×V)->List (Str×V)
 | []=>[(f,v)]
 | (g,x) :: r=>if g=f then (g,v) :: r else (g,x) :: zj9 f v r
theorem zkj (f g:Str) (v:V):∀ fs:List (Str×V),(zj9 f v fs).lookup g=if g=f then some v else fs.lookup g
 | []=>by
  show List.lookup g [(f,v)]=_
  by_cases h:g=f
  ·have hb:(g==f)=true:=beq_iff_eq.mpr h;simp only [List.lookup,hb,if_pos h]
  ·have hb:(g==f)=false:=beq_eq_false_iff_ne.mpr h;simp only [List.lookup,hb,if_neg h]
 | (k,x) :: r=>by
  have ih:=zkj f g v r;rw [show zj9 f v ((k,x) :: r)=(if k=f then (k,v) :: r else (k,x) :: zj9 f v r) from rfl]
  by_cases hk:k=f
  ·rw [if_pos hk]
   by_cases h:g=k
   ·have hb:(g==k)=true:=beq_iff_eq.mpr h;simp only [List.lookup,hb,if_pos (h.trans hk)]
   ·have hb:(g==k)=false:=beq_eq_false_iff_ne.mpr h;simp only [List.lookup,hb,if_neg (λe:g=f=>h (e.trans hk.symm))]
  ·rw [if_neg hk]
   by_cases h:g=k
   ·have hb:(g==k)=true:=beq_iff_eq.mpr h;simp only [List.lookup,hb,if_neg (λe:g=f=>hk (h.symm.trans e))]
   ·have hb:(g==k)=false:=beq_eq_false_iff_ne.mpr h;simp only [List.lookup,hb];exact ih
theorem zkk (f:Str) (v:V):∀ fs:List (Str×V),f∈(zj9 f v fs).map (·.1)/\∀ g,g∈fs.map (·.1)->g∈(zj9 f v fs).map (·.1)
 | []=>⟨by simp [zj9],λg h=>by simp at h⟩
 | (k,x) :: r=>by
  obtain ⟨i1,i2⟩:=zkk f v r;rw [show zj9 f v ((k,x) :: r)=(if k=f then (k,v) :: r else (k,x) :: zj9 f v r) from rfl]
  by_cases hk:k=f
  ·rw [if_pos hk];subst hk;exact ⟨by simp,λg h=>by simpa using h⟩
  ·rw [if_neg hk];refine ⟨?_,λg h=>?_⟩
   ·rw [List.map_cons];exact List.mem_cons_of_mem _ i1
   ·rw [List.map_cons] at h ⊢;rcases List.mem_cons.mp h with e | e
    ·exact List.mem_cons.mpr (.inl e)
    ·exact List.mem_cons_of_mem _ (i2 g e)
theorem zkl (f:Str) (v:V):∀ fs:List (Str×V),(zj9 f v fs).length<=fs.length+1
 | []=>by simp [zj9]
 | (k,x) :: r=>by
  have ih:=zkl f v r;rw [show zj9 f v ((k,x) :: r)=(if k=f then (k,v) :: r else (k,x) :: zj9 f v r) from rfl]
  by_cases hk:k=f
  ·rw [if_pos hk,List.length_cons,List.length_cons]; omega
  ·rw [if_neg hk,List.length_cons,List.length_cons]; omega
theorem RelO.some_of {v:V} {o:Option Value} (r:RelO (some v) o):∃ u,o=some u/\RelV v u:=by
 cases o with
 | none=>exact (show False from r).elim
 | some u=>exact ⟨u,rfl,r⟩
theorem RelO.none_of {o:Option Value} (r:RelO none o):o=none:=by
 cases o with
 | none=>rfl
 | some u=>exact (show False from r).elim
theorem zmX {v:V} {u:Value} (r:RelV v u):W.handedIn u=true:=by
 cases v with
 | non=>cases (show u=Value.none from r); rfl
 | bl b=>cases (show u=Value.bool b from r); rfl
 | int i=>obtain ⟨t,e⟩:=(show ∃ t,u=Value.int i t from r); cases e; rfl
 | str x=>obtain ⟨t,e⟩:=(show ∃ t,u=Value.str x t from r); cases e; rfl
 | byt b=>obtain ⟨t,e⟩:=(show ∃ t,u=Value.bytes b t from r); cases e; rfl
 | flt b=>obtain ⟨t,e⟩:=(show ∃ t,u=Value.float b t from r); cases e; rfl
 | ref a=>cases (show u=Value.ref a from r); rfl
 | ty n=>cases (show u=Value.type n from r); rfl
section
variable {P:Program} {w:World} {H H':Hp} {h h':Heap} {a C dx:Addr} {fs fs':List (Str×V)}
theorem zmj (hok:HOk P w H h) (e:H a=some (.ins C dx fs)):∃ mA,ObjM h a dx C mA/\(∀ f,RelO (fs.lookup f) (mA f))/\PySem.Within mA (fs.map (·.1))/\fs.length<=1000/\H dx=some (.own a):=by
 obtain ⟨d,z,ne,ob,mA,n,r,q⟩:=(show ObjOk P w H h a (.ins C dx fs) from hok a _ e)
 exact ⟨mA,⟨ob,n,ne⟩,r,q,z,d⟩
end
structure Cls (K:W.Frag) (C:Addr):Prop where
 pg:W.plainGet K C Str.empty=true
 hd:W.hasDictIn K C=true
 po:W.plainOver K C=true
 sa:W.findIn K (.ref C) "__setattr__"=some (some (.builtin "object.__setattr__"))
theorem Cls.get {K:W.Frag} {C:Addr} (c:Cls K C) (f:Str):W.plainGet K C f=true:=c.pg
def NoAttr (K:W.Frag) (C:Addr) (f:Str):Prop:=W.findIn K (.ref C) f=some none
theorem NoAttr.taker {K:W.Frag} {C:Addr} {f:Str} (n:NoAttr K C f):W.takerIn K C f=some none:=by
 unfold W.takerIn;rw [show W.findIn K (.ref C) f=some none from n];rfl
structure Meth (K:W.Frag) (C:Addr) (m:Str) (f:Addr):Prop where
 at_:W.findIn K (.ref C) m=some (some (.ref f))
 fn:W.isFn K (.ref f)=true
 kp:W.keepIn K (.ref f)=true
section
variable {X:Cx} {pins:List (Addr×Obj)} {σ:St} {H:Hp} {s:Shared} {a C dx:Addr} {fs:List (Str×V)} {f:Str} {v:V} {A:Around} {E:Value->Shared->Prop}
theorem zp9 {b:Bool} {Q:Value->Shared->Prop} (I:Inv X pins σ H s) (e:H a=some (.ins C dx fs)) (c:Cls X.K C) (n:NoAttr X.K C f) (l:fs.lookup f=some v)
  (h:∀ u s',Inv X pins σ H s'->RelV v u->Q u s'):wpAny (model X.prog X.w) A (getAttr (.ref a) f b) Q E s:=by
 obtain ⟨mA,O,r,_,_,_⟩:=zmj I.hok e;obtain ⟨u,hu,ru⟩:=RelO.some_of (v:=v) (o:=mA f) (by rw [<- l]; exact r f);exact zxb I.kIn O (c.get f) c.hd n hu (zmX ru) (h u _ (I.tok _) ru)
theorem ziE {m:Str} {g:Addr} {pl:Sem Bool} {Q:Value×List Value->Shared->Prop} (I:Inv X pins σ H s) (e:H a=some (.ins C dx fs)) (c:Cls X.K C) (k:Meth X.K C m g) (l:fs.lookup m=none)
  (h:Q (.ref g,[.ref a]) s):wpAny (model X.prog X.w) A (getMethod (.ref a) m pl) Q E s:=by
 obtain ⟨mA,O,r,_,_,_⟩:=zmj I.hok e;have hn:mA m=none:=RelO.none_of (by rw [<- l]; exact r m);exact zur I.kIn O (c.get m) k.at_ k.fn hn h
theorem zqa {y:V} {u:Value} {Q:Unit->Shared->Prop} (I:Inv X pins σ H s) (e:H a=some (.ins C dx fs)) (c:Cls X.K C) (n:NoAttr X.K C f) (hl:fs.length < 1000) (ry:RelV y u)
  (h:∀ s',Inv X pins σ (upd H a (.ins C dx (zj9 f y fs))) s'->Q () s'):wpAny (model X.prog X.w) A (setAttr (.ref a) f u) Q E s:=by
 obtain ⟨mA,O,r,wi,_,ho⟩:=zmj I.hok e;have hz:(fs.map (·.1)).length<=sizeLine:=by rw [List.length_map,sizeLine_eq]; omega
 refine zxc I.kIn O c.sa c.po n.taker c.hd wi hz λh' O' sb=>h _ ?_;have hd:∃ o,h'.get? dx=some o:=let ⟨o,_,_,e',_⟩:=O'.ns; ⟨o,e'⟩;refine I.write (x:=a) (e:=dx) (by rw [e]; exact True.intro) (.inr ho) (λb q hb z=>(sb.2 b hb).trans z) hd ?_;refine ⟨by rw [zaW O.ne]; exact ho,?_,O.ne,O'.obj,_,O'.ns,λg=>?_,λg hg=>?_⟩
 ·have:=zkl f y fs; omega
 ·show RelO ((zj9 f y fs).lookup g) (if g=f then some u else mA g);rw [zkj]
  by_cases q:g=f
  ·rw [if_pos q,if_pos q]; exact ry
  ·rw [if_neg q,if_neg q]; exact r g
 ·by_cases q:g=f
  ·rw [q]; exact (zkk f y fs).1
  ·refine (zkk f y fs).2 g (wi g λz=>hg ?_);show (if g=f then some u else mA g)=none;rw [if_neg q]; exact z
theorem Inv.made (I:Inv X pins σ H s):Inv X pins σ (upd (upd H s.heap.objs.size (.own (s.heap.objs.size+1))) (s.heap.objs.size+1) (.ins C s.heap.objs.size []))
  { s with heap:=(s.heap.push W.emptyDict).push (W.instObj C s.heap.objs.size) }:=by
 have e1:(s.heap.push W.emptyDict).get? s.heap.objs.size=some W.emptyDict:=Heap.get?_push_size s.heap rfl;have e2:((s.heap.push W.emptyDict).push (W.instObj C s.heap.objs.size)).get? (s.heap.objs.size+1)=some (W.instObj C s.heap.objs.size):=by
  have:=Heap.get?_push_size (s.heap.push W.emptyDict) (o:=W.instObj C s.heap.objs.size) rfl
  rwa [Heap.size_push] at this
 have e3:(s.heap.push W.emptyDict).Ns s.heap.objs.size (λ_=>none):=⟨W.emptyDict,#[],_,e1,rfl,(λe he=>absurd he (by simp)),λ_=>rfl⟩
 have I1:=I.laid (a:=s.heap.objs.size) (o:=.own (s.heap.objs.size+1)) (h':=s.heap.push W.emptyDict) (t':=s.toks) (λb u q=>Heap.get?_push_of_some _ q) (Nat.le_refl _) ⟨_,e1⟩;refine I1.laid (a:=s.heap.objs.size+1) (o:=.ins C s.heap.objs.size []) (t':=s.toks) (λb u q=>Heap.get?_push_of_some _ q) (Nat.le_of_eq (Heap.size_push _ _)) ?_;have ne:s.heap.objs.size≠s.heap.objs.size+1:=Nat.ne_of_lt (Nat.lt_succ_self _)
 refine ⟨by rw [zaW ne,zaS],Nat.zero_le _,ne,e2,λ_=>none,(Heap.Ns1.of_empty e3).at λo q=>Heap.get?_push_of_some _ q,λ_=>True.intro,λy hy=>absurd rfl hy⟩
theorem zrE {prog:Program} {w:World} {env:Env} {e:Expr} {f:Str} {pos:Pos} {s:Shared} {Q:Value->Shared->Prop} (hb:attributeBase e f env (eval e env)=eval e env)
  (h:wpAny (model prog w) A (eval e env) (λo s₁=>wpAny (model prog w) A (getAttr o f true) Q E s₁) E s):wpAny (model prog w) A (eval (.Attribute e f pos) env) Q E s:=
 Attribute_any_ h (by rw [arm_eval_Attribute,hb])
end
def zCK (K:W.Frag) (ta:TE) (f:Str):TE:=λσ H Q=>ta σ H λx H1=>∃ a C dx fs v,x=.ref a/\H1 a=some (.ins C dx fs)/\Cls K C/\NoAttr K C f/\fs.lookup f=some v/\Q v H1
def zCe (K:W.Frag) (ta tv:TE) (f:Str):TS:=λD σ H=>tv σ H λy H1=>ta σ H1 λx H2=>∃ a C dx fs,x=.ref a/\H2 a=some (.ins C dx fs)/\Cls K C/\NoAttr K C f/\fs.length < 1000/\
 D.nx σ (upd H2 a (.ins C dx (zj9 f y fs)))
section
variable {X:Cx} {o e value:Expr} {f:Str} {pos pos' tpos:Pos} {ta tv:TE}
theorem zz6 (he:PE X e ta) (hb:attributeBase e f X.env (eval e X.env)=eval e X.env):PE X (.Attribute e f pos) (zCK X.K ta f):=by
 intro pins s σ H Q I h;refine zrE hb (thn (he pins s σ H _ I h) λu s1 ⟨x,H1,I1,rx,a,C,dx,fs,v,ex,ea,c,n,l,q⟩=>?_);subst ex;obtain rfl:u=Value.ref a:=rx;exact zp9 I1 ea c n l λu' s2 I2 ru=>⟨v,H1,I2,ru,q⟩
theorem zz7 (ha:PE X o ta) (hv:PE X value tv) (hs:swapsWith value (some (.Attribute o f pos')) pos.line X.env=pure false):PS X (.Assign [.Attribute o f pos'] value pos) (zCe X.K ta tv f):=by
 intro pins s σ H D I h;refine plainObj_wpAny_Assign_Attribute (thn (hv pins s σ H _ I h) λu s1 ⟨y,H1,I1,ry,q⟩=>thn (ha pins s1 σ H1 _ I1 q) λov s2 ⟨x,H2,I2,rx,a,C,dx,fs,ex,ea,c,n,l,q2⟩=>?_) hs;subst ex;obtain rfl:ov=Value.ref a:=rx;exact zqa I2 ea c n l ry λs3 I3=>⟨σ,_,I3,q2⟩
end
section
variable {X:Cx} {pins:List (Addr×Obj)} {σ:St} {H:Hp} {s:Shared} {A:Around} {E:Value->Shared->Prop} {Q:Value->Shared->Prop} {c:Value} {b:Bool}
inductive TyOf (K:W.Frag) (H:Hp):V->Value->Prop where
 | non:TyOf K H .non (.type "NoneType")
 | bl (x:Bool):TyOf K H (.bl x) (.type "bool")
 | int (i:Int):TyOf K H (.int i) (.type "int")
 | str (x:Str):TyOf K H (.str x) (.type "str")
 | flt (x:UInt64):TyOf K H (.flt x) (.type "float")
 | lst {a:Addr} {xs:List V} (e:H a=some (.lst xs)):TyOf K H (.ref a) (.type "list")
 | frz {a:Addr} {o:Obj} {xs:List V} (e:H a=some (.frz o (.lst xs))):TyOf K H (.ref a) (.type "list")
 | tup {a:Addr} {xs:List V} (e:H a=some (.tup xs)):TyOf K H (.ref a) (.type "tuple")
 | dK {a:Addr} {kvs:List (Key×V)} (e:H a=some (.dK kvs)):TyOf K H (.ref a) (.type "dict")
 | dT {a:Addr} {kvs:List (List Key×V)} (e:H a=some (.dT kvs)):TyOf K H (.ref a) (.type "dict")
 | ins {a C dx:Addr} {fs:List (Str×V)} (e:H a=some (.ins C dx fs)) (cl:Cls K C) (ha:W.findIn K (.ref C) "__class__"=some (some (.builtin "object.__class__")))
   (hn:W.specialIn K (.builtin "object.__class__") "__get__"=some (some (.builtin "getset_descriptor.__get__"))) (htk:W.takesIn K (.builtin "object.__class__")=some true)
   (hm:W.mroIn K C (.type "object")=some true):TyOf K H (.ref a) (.ref C)
theorem zmY {x:V} {u t:Value} (I:Inv X pins σ H s) (rx:RelV x u) (ty:TyOf X.K H x t) (e:W.kitOne X.K t c=some b) (h:∀ tk,Q (.bool b) { s with toks:=tk }) :
  wpAny (model X.prog X.w) A (call (.builtin "isinstance") [u,c]) Q E s:=by
 cases ty with
 | non=>cases (show u=Value.none from rx); exact W.kia_one W.kitx_none I.kIn True.intro e (λz=>nomatch z) h
 | bl y=>cases (show u=Value.bool y from rx); exact W.kia_one W.kitx_bool I.kIn True.intro e (λz=>nomatch z) h
 | int i=>obtain ⟨t,q⟩:=(show ∃ t,u=Value.int i t from rx); cases q; exact W.kia_one W.kitx_int I.kIn True.intro e (λz=>nomatch z) h
 | str y=>obtain ⟨t,q⟩:=(show ∃ t,u=Value.str y t from rx); cases q; exact W.kia_one W.kitx_str I.kIn True.intro e (λz=>nomatch z) h
 | flt y=>obtain ⟨t,q⟩:=(show ∃ t,u=Value.float y t from rx); cases q; exact W.kia_one W.kitx_float I.kIn True.intro e (λz=>nomatch z) h
 | @lst a xs ea=>
  cases (show u=Value.ref a from rx)
  obtain ⟨_,_,n,_,h1⟩:=(show ObjOk X.prog X.w H s.heap a (.lst xs) from I.hok a _ ea)
  exact W.kia_one W.kitx_list I.kIn ⟨_,h1,rfl⟩ e (λz=>nomatch z) h
 | @frz a ob xs ea=>
  cases (show u=Value.ref a from rx)
  obtain ⟨_,_,_,n,_,h1⟩:=(show ObjOk X.prog X.w H s.heap a (.frz ob (.lst xs)) from I.hok a _ ea)
  exact W.kia_one W.kitx_list I.kIn ⟨_,h1,rfl⟩ e (λz=>nomatch z) h
 | @tup a xs ea=>
  cases (show u=Value.ref a from rx)
  obtain ⟨_,_,_,p⟩:=(show ObjOk X.prog X.w H s.heap a (.tup xs) from I.hok a _ ea)
  obtain ⟨o,h1,h2,_⟩:=p;exact W.kia_one W.kitx_tuple I.kIn ⟨o,h1,h2⟩ e (λz=>nomatch z) h
 | @dK a kvs ea=>
  cases (show u=Value.ref a from rx)
  obtain ⟨_,_,vs,_,p⟩:=(show ObjOk X.prog X.w H s.heap a (.dK kvs) from I.hok a _ ea)
  obtain ⟨o,es,ep,h1,h2,_⟩:=p;exact W.kia_one W.kitx_dict I.kIn ⟨o,h1,h2.1⟩ e (λz=>nomatch z) h
 | @dT a kvs ea=>
  cases (show u=Value.ref a from rx)
  obtain ⟨_,_,xs,_,o,es,ep,h1,h2,_⟩:=(show ObjOk X.prog X.w H s.heap a (.dT kvs) from I.hok a _ ea)
  exact W.kia_one W.kitx_dict I.kIn ⟨o,h1,h2.1⟩ e (λz=>nomatch z) h
 | @ins a C dx fs ea cl ha hn htk hm=>
  cases (show u=Value.ref a from rx)
  obtain ⟨mA,O,_⟩:=zmj I.hok ea;obtain ⟨od,J,_⟩:=O.look;exact W.kia_one (W.kitx_own (cl.get _) cl.hd ha hn htk hm) I.kIn J e (λz=>nomatch z) h
end
structure Room (k:Nat) (A:Around):Prop where
 hd:A.handled=none
 dp:A.depth+3*k+5 < recursionLimit
 un:A.units+16*k+200 < cLine
theorem Room.mono {j k:Nat} {A:Around} (r:Room k A) (h:j<=k):Room j A:=⟨r.hd,by have:=r.dp; omega,by have:=r.un; omega⟩
theorem Room.deeper {k:Nat} {A:Around} (r:Room (k+1) A) (env:Env):Room k (A.deeper env):=
 ⟨r.hd,by have:=r.dp; show A.depth+1+3*k+5 < _; omega,by have:=r.un; show A.units+3+16*k+200 < _; omega⟩
theorem zqb {A:Around} {C:Addr} {us:List Value} {kw:List (Str×Value)}:(A.under (.builtin "type.__call__" ⟨.ref C :: us,kw⟩)).depth=A.depth+1:=by
 first | rfl | simp [Around.under,Code.weight,Code.isCreation,Code.isGuard,Code.isCaller,Code.frames,Code.isFrame,guardIds]
theorem zqc {A:Around} {C:Addr} {us:List Value} {kw:List (Str×Value)}:(A.under (.builtin "type.__call__" ⟨.ref C :: us,kw⟩)).units=A.units+1:=by
 first | rfl | simp [Around.under,Code.cUnits,Code.frames,Code.isFrame]
theorem Room.make {k:Nat} {A:Around} (r:Room (k+1) A) (C:Addr) (us:List Value) (kw:List (Str×Value)):Room k (A.under (.builtin "type.__call__" ⟨.ref C :: us,kw⟩)):=
 ⟨r.hd,by have:=r.dp; rw [zqb]; omega,by have:=r.un; rw [zqc]; omega⟩
theorem Room.depth {k:Nat} {A:Around} (r:Room k A):A.depth < recursionLimit:=by have:=r.dp; omega
theorem Room.units {k:Nat} {A:Around} (r:Room k A):A.units+64 < cLine:=by have:=r.un; omega
def zxd:TA:=λ_ H Q=>Q [] H
def zmZ (ta:TE) (tr:TA):TA:=λσ H Q=>ta σ H λx H1=>tr σ H1 λxs H2=>Q (x :: xs) H2
section
variable {X:Cx} {e:Expr} {es:List Expr} {te:TE} {t:TA} {pos:Pos}
theorem zrF:PA X [] zxd:=λ_ _ _ _ H Q I h=>Calls.spliced_nil ⟨[],H,I,.nil,h⟩
theorem zkm (ha:PE X e te) (hr:PA X es t) (hs:starEach (e :: es) X.env=(false,eval e X.env) :: starEach es X.env:=by rfl):PA X (e :: es) (zmZ te t):=by
 intro pos pins s σ H Q I h;rw [hs];show wpAny _ _ (spliced ((false,eval e X.env) :: backTo pos (starEach es X.env))) _ _ s;refine Calls.spliced_cons (thn (ha pins s σ H _ I h) λu s1 ⟨x,H1,I1,r1,q1⟩=>?_);exact thn (hr pos pins s1 σ H1 _ I1 q1) λus s2 ⟨xs,H2,I2,r2,q2⟩=>⟨x :: xs,H2,I2,.cons r1 r2,q2⟩
def zCL (t:TA):TE:=λσ H Q=>t σ H λxs H1=>xs.length<=sizeLine/\∀ p,H1 p=none->Q (.ref p) (upd H1 p (.tup xs))
def zCM (t:TA):TE:=λσ H Q=>t σ H λxs H1=>xs.length<=sizeLine/\∀ p,H1 p=none->Q (.ref p) (upd H1 p (.lst xs))
theorem zv1 {x1} (h:PA X es t):PE X (.Tuple es x1 pos) (zCL t):=by
 intro pins s σ H Q I hq;refine wpAny_Tuple_spliced (thn (h pos pins s σ H _ I hq) λus s1 ⟨xs,H1,I1,r,z,q⟩=>⟨by rw [<- r.length]; exact z,?_⟩);have hf:H1 s1.heap.objs.size=none:=I1.hok.fresh (Nat.le_refl _);refine ⟨.ref s1.heap.objs.size,upd H1 s1.heap.objs.size (.tup xs),I1.laid (t':=s1.toks) (λb u e=>Heap.get?_push_of_some _ e) (Nat.le_refl _) ?_,rfl,q _ hf⟩;exact ⟨z,us,r,⟨_,Heap.get?_push_size _ rfl,rfl,_,rfl⟩⟩
theorem zv2 (h:PA X es t):PE X (.List es pos) (zCM t):=by
 intro pins s σ H Q I hq;refine wpAny_List_spliced (thn (h pos pins s σ H _ I hq) λus s1 ⟨xs,H1,I1,r,z,q⟩=>⟨by rw [<- r.length]; exact z,?_⟩);have hf:H1 s1.heap.objs.size=none:=I1.hok.fresh (Nat.le_refl _);refine ⟨.ref s1.heap.objs.size,upd H1 s1.heap.objs.size (.lst xs),I1.laid (t':=s1.toks) (λb u e=>Heap.get?_push_of_some _ e) (Nat.le_refl _) ?_,rfl,q _ hf⟩;exact ⟨z,us,0,r,Heap.get?_push_size _ rfl⟩
end
abbrev Sp:=List V->Hp->VK->XK->Prop
abbrev CXT:=List Env->Hp->Shared->XK->Value->Shared->Prop
structure Env0 (P:Program) (w:World) (K:W.Frag) (mg:Str->Option Value) (base:Heap) (A:Around) (outer:List Env) (s:Shared) (H:Hp):Prop where
 frames:A.frames=some outer
 mod:Mod K mg base
 bs:∀ b o,base.get? b=some o->s.heap.get? b=some o/\H b=none
 bsz:base.objs.size<=s.heap.objs.size
 funs:s.heap.FunFrames base outer
 frf:∀ b∈frs outer,H b=none
 hok:HOk P w H s.heap
 bare:AllBare s.gens
def CE (outer:List Env) (P:Program) (w:World) (H:Hp) (s:Shared) (Q:VK) (u:Value) (s':Shared):Prop:=
 ∃ v H',s'.os=s.os/\AllBare s'.gens/\Un (frs outer) [] H H' s.heap s'.heap/\HOk P w H' s'.heap/\RelV v u/\Q v H'
def CR (CX:CXT) (outer:List Env) (P:Program) (w:World) (H:Hp) (s:Shared) (Q:VK) (E:XK) (r:Result) (s':Shared):Prop:=
 match r with
 | .ok (.ret u)=>CE outer P w H s Q u s'
 | .ok _=>False
 | .error e=>CX outer H s E e s'
structure FnOk (P:Program) (w:World) (K:W.Frag) (mg:Str->Option Value) (base:Heap) (CX:CXT) (k:Nat) (f:Addr) (fd:FuncData) (ps:List Str) (sp:Sp):Prop where
 len:∀ vs H Q E,sp vs H Q E->vs.length=ps.length
 run:∀ (A:Around) (outer:List Env) (s:Shared) (H:Hp) (args:Args) (us:List Value) (vs:List V) (Q:VK) (E:XK),Room k A->Env0 P w K mg base A outer s H->BindsTo s fd args (ps.zip us)->Vals vs us->sp vs H Q E->
  codeAny (model P w) A (.call (.ref f) args) (CR CX outer P w H s Q E) s
theorem FnOk.imp {P:Program} {w:World} {K:W.Frag} {mg:Str->Option Value} {base:Heap} {CX:CXT} {k:Nat} {f:Addr} {fd:FuncData} {ps:List Str} {sp sp':Sp} (F:FnOk P w K mg base CX k f fd ps sp)
  (h:∀ vs H Q E,sp' vs H Q E->sp vs H Q E):FnOk P w K mg base CX k f fd ps sp':=
 ⟨λvs H Q E q=>F.len vs H Q E (h _ _ _ _ q),λA outer s H args us vs Q E hr he hb hv hs=>F.run A outer s H args us vs Q E hr he hb hv (h _ _ _ _ hs)⟩
theorem Env0.make {P:Program} {w:World} {K:W.Frag} {mg:Str->Option Value} {base:Heap} {A:Around} {outer:List Env} {s:Shared} {H:Hp} (e:Env0 P w K mg base A outer s H) (C:Addr) (us:List Value) (kw:List (Str×Value)) :
  Env0 P w K mg base (A.under (.builtin "type.__call__" ⟨.ref C :: us,kw⟩)) outer s H:=⟨by first | exact e.frames | (simpa [Around.under,Code.envs,Code.isFrame,pushEnvs] using e.frames),e.mod,e.bs,e.bsz,e.funs,e.frf,e.hok,e.bare⟩
section
variable {X:Cx} {pins:List (Addr×Obj)} {σ:St} {H:Hp} {s s':Shared}
theorem Inv.env0 (I:Inv X pins σ H s):Env0 X.prog X.w X.K X.mg X.base X.A X.stack s H:=
 ⟨I.ok.frames,I.ok.mod,I.bs,Nat.le_trans I.ok.bsz I.sz,I.stack,I.stkFree,I.hok,I.bare⟩
theorem Inv.after {Q:VK} {u:Value} (I:Inv X pins σ H s) (h:CE X.stack X.prog X.w H s Q u s'):EP X pins σ Q u s':=by
 obtain ⟨v,H',os,bare,un,hok,r,q⟩:=h;obtain ⟨hh,g,d,t,os'⟩:=s';obtain rfl:os'=s.os:=os;exact ⟨v,H',I.call (h':=hh) (g':=g) (d':=d) (t':=t) (ch:=[]) un hok bare (λb z=>absurd z (by simp)),r,q⟩
end
def zz8 (sp:Sp) (dvs:List V) (E:XK) (t:TA):TE:=λσ H Q=>t σ H λvs H1=>sp (vs++dvs) H1 Q E
def zqd (C:Addr) (m:Str) (sp:Sp) (dvs:List V) (E:XK) (ta:TE) (t:TA):TE:=λσ H Q=>ta σ H λx H1=>∃ a dx fs,x=.ref a/\H1 a=some (.ins C dx fs)/\fs.lookup m=none/\
 t σ H1 λvs H2=>sp (x :: (vs++dvs)) H2 Q E
def zz9 (C:Addr) (sp:Sp) (dvs:List V) (E:XK) (t:TA):TE:=λσ H Q=>t σ H λvs H1=>∀ x dx,H1 x=none->H1 dx=none->dx≠x->
 sp (.ref x :: (vs++dvs)) (upd (upd H1 dx (.own x)) x (.ins C dx [])) (λv H2=>v=.non/\Q (.ref x) H2) E
def Binds (K:W.Frag) (fd:FuncData) (ps:List Str) (ds:List Value):Prop:=
 ∀ (s:Shared) (us:List Value),K.In s.heap->(us++ds).length=ps.length->BindsTo s fd ⟨us,[]⟩ (ps.zip (us++ds))
theorem Binds.all {K:W.Frag} {fd:FuncData} {ps:List Str} (h:∀ us:List Value,us.length=ps.length->bindArgs fd ⟨us,[]⟩=pure (ps.zip us)):Binds K fd ps []:=λs us _ hl=>by
 rw [List.append_nil] at hl ⊢;exact .of_eq (h us hl)
def zhZ (CX:CXT) (X:Cx) (E:XK):Prop:=∀ (pins:List (Addr×Obj)) (σ:St) (H:Hp) (s:Shared) (e:Value) (s':Shared),Inv X pins σ H s->CX X.stack H s E e s'->X.xe e s'
section
variable {X:Cx} {CX:CXT} {k:Nat} {f C:Addr} {fd:FuncData} {ps:List Str} {sp:Sp} {dvs:List V} {ds:List Value} {E:XK} {x m:Str} {p pos apos:Pos} {e o:Expr} {es:List Expr} {ta:TE} {t:TA}
theorem zrG {pins:List (Addr×Obj)} {σ:St} {H:Hp} {s:Shared} {Q:VK} {us:List Value} {vs:List V} (F:FnOk X.prog X.w X.K X.mg X.base CX k f fd ps sp) (hr:Room k X.A) (hb:Binds X.K fd ps ds) (hd:Vals dvs ds) (hx:zhZ CX X E)
  (I:Inv X pins σ H s) (r:Vals vs us) (h:sp (vs++dvs) H Q E):wpAny (model X.prog X.w) X.A (call (.ref f) us) (EP X pins σ Q) X.xe s:=by
 have r2:Vals (vs++dvs) (us++ds):=r.append hd;have hl:(us++ds).length=ps.length:=by rw [<- r2.length]; exact F.len _ _ _ _ h
 refine wpAny_call (codeAny_mono (F.run X.A X.stack s H ⟨us,[]⟩ (us++ds) (vs++dvs) Q E hr I.env0 (hb s us I.kIn hl) r2 h) λr s' hq=>?_);cases r with
 | error e=>exact hx pins σ H s e s' I hq
 | ok fl=>
  cases fl with
  | ret u=>exact I.after hq
  | next=>exact False.elim hq
  | brk=>exact False.elim hq
  | cont=>exact False.elim hq
theorem zxe (F:FnOk X.prog X.w X.K X.mg X.base CX k f fd ps sp) (hr:Room k X.A) (hg:Gl X x) (hm:X.mg x=some (.ref f)) (hk:W.keepIn X.K (.ref f)=true) (hb:Binds X.K fd ps ds) (hd:Vals dvs ds) (hx:zhZ CX X E)
  (ha:PA X (e :: es) t) (hdb:(x==("__debug__":Str))=false:=by decide) (he:starEach (e :: es) X.env=(false,eval e X.env) :: starEach es X.env:=by rfl) (hpl:(backTo pos (starEach es X.env)).any (·.1)=false:=by rfl) :
  PE X (.Call (.Name x p) (e :: es) [] pos) (zz8 sp dvs E t):=by
 intro pins s σ H Q I h;refine wpAny_Call_Name_kw (zki I hg hm ?_ hdb);refine W.callWith_K (h₀:=X.base) I.ok.mod.kin hk (thn (ha pos pins s σ H _ I h) λus s1 ⟨vs,H1,I1,r,q⟩=>⟨I1.kIn,?_⟩) he hpl;exact zrG F hr hb hd hx I1 r q
theorem zrH {pl : Sem Bool} (he : PE X o ta) (c : Cls X.K C) (hm : Meth X.K C m f) (F : FnOk X.prog X.w X.K X.mg X.base CX k f fd ps sp) (hr : Room k X.A) (hb : Binds X.K fd ps ds) (hd : Vals dvs ds) (hx : zhZ CX X E) (ha : PA X (e :: es) t)
    (hst : starEach (e :: es) X.env = (false, eval e X.env) :: starEach es X.env := by rfl) (hpl : (backTo pos (starEach es X.env)).any (·.1) = false := by rfl)
    (ht : eval (.Call (.Attribute o m apos) (e :: es) [] pos) X.env = (do
      let ov <- eval o X.env
      standAt apos.atName
      let (f, first) <- holding [ov] (getMethod ov m pl)
      callWith pos f first (backTo pos (starEach (e :: es) X.env)) (backToKw pos (keywordEach [] X.env))) := by rfl) :
    PE X (.Call (.Attribute o m apos) (e :: es) [] pos) (zqd C m sp dvs E ta t) := by
  intro pins s σ H Q I h;refine W.methodCall_KW (pl := pl) (thn (he pins s σ H _ I h) λu s1 ⟨x, H1, I1, rx, a, dx, fs, ex, ea, l, q⟩ => ?_) ht;subst ex;obtain rfl : u = Value.ref a := rx;refine ziE I1 ea c hm l ?_;refine W.callWith_K (first := [.ref a]) (h₀ := X.base) I.ok.mod.kin hm.kp (thn (ha pos pins s1 σ H1 _ I1 q) λus s2 ⟨vs, H2, I2, r, q2⟩ => ⟨I2.kIn, ?_⟩) hst hpl;exact zrG (us := .ref a :: us) (vs := .ref a :: vs) F hr hb hd hx I2 (.cons rfl r) q2
theorem zut {pl : Sem Bool} (he : PE X o ta) (c : Cls X.K C) (hm : Meth X.K C m f) (F : FnOk X.prog X.w X.K X.mg X.base CX k f fd ps sp) (hr : Room k X.A) (hb : Binds X.K fd ps ds) (hd : Vals dvs ds) (hx : zhZ CX X E)
    (ht : eval (.Call (.Attribute o m apos) [] [] pos) X.env = (do
      let ov <- eval o X.env
      standAt apos.atName
      let (f, first) <- holding [ov] (getMethod ov m pl)
      callWith pos f first (backTo pos (starEach [] X.env)) (backToKw pos (keywordEach [] X.env))) := by rfl) :
    PE X (.Call (.Attribute o m apos) [] [] pos) (zqd C m sp dvs E ta zxd) := by
  intro pins s σ H Q I h;refine W.methodCall_KW (pl := pl) (thn (he pins s σ H _ I h) λu s1 ⟨x, H1, I1, rx, a, dx, fs, ex, ea, l, q⟩ => ?_) ht;subst ex;obtain rfl : u = Value.ref a := rx;refine ziE I1 ea c hm l ?_;exact W.callWith_K0 (first := [.ref a]) I1.kIn hm.kp (zrG (us := [.ref a]) (vs := [.ref a]) F hr hb hd hx I1 (.cons rfl .nil) q)
structure Mk (K:W.Frag) (C f:Addr):Prop where
 makes:W.makesIn K C=true
 init:W.findIn K (.ref C) "__init__"=some (some (.ref f))
 fn:W.isFn K (.ref f)=true
 kp:W.keepIn K (.ref C)=true
theorem zuu {pins:List (Addr×Obj)} {σ:St} {H:Hp} {s:Shared} {Q:VK} {us:List Value} {vs:List V} (M:Mk X.K C f) (F:FnOk X.prog X.w X.K X.mg X.base CX k f fd ps sp) (hr:Room (k+1) X.A) (hb:Binds X.K fd ps ds) (hd:Vals dvs ds)
  (hx:zhZ CX X E) (I:Inv X pins σ H s) (r:Vals vs us)
  (h:∀ x dx,H x=none->H dx=none->dx≠x->sp (.ref x :: (vs++dvs)) (upd (upd H dx (.own x)) x (.ins C dx [])) (λv H2=>v=.non/\Q (.ref x) H2) E) :
  wpAny (model X.prog X.w) X.A (call (.ref C) us) (EP X pins σ Q) X.xe s:=by
 have hq:=h (s.heap.objs.size+1) s.heap.objs.size (I.hok.fresh (Nat.le_succ _)) (I.hok.fresh (Nat.le_refl _)) (Nat.ne_of_lt (Nat.lt_succ_self _));have I2:=Inv.made (C:=C) I;have r2:Vals (V.ref (s.heap.objs.size+1) :: (vs++dvs)) (Value.ref (s.heap.objs.size+1) :: (us++ds)):=.cons rfl (r.append hd);have hl:(Value.ref (s.heap.objs.size+1) :: us++ds).length=ps.length:=by
  have e:=r2.length;rw [F.len _ _ _ _ hq] at e;exact e.symm
 refine wpAny_call (zus (f:=f) I.kIn M.makes M.init (beq_iff_eq.mp M.fn) (codeAny_mono (F.run _ X.stack _ _ ⟨Value.ref (s.heap.objs.size+1) :: us,[]⟩ (Value.ref (s.heap.objs.size+1) :: (us++ds)) _ _ E (hr.make C us [])
  (I2.env0.make C us []) (hb _ (Value.ref (s.heap.objs.size+1) :: us) I2.kIn hl) r2 hq) λr s' hq'=>?_))
 cases r with
 | error e=>exact hx pins σ _ _ e s' I2 hq'
 | ok fl=>
  cases fl with
  | ret u=>
   obtain ⟨v,H',I3,rv,ev,q3⟩:=I2.after hq';subst ev;exact ⟨rv,⟨V.ref (s.heap.objs.size+1),H',I3,rfl,q3⟩⟩
  | next=>exact False.elim hq'
  | brk=>exact False.elim hq'
  | cont=>exact False.elim hq'
theorem zxf (M:Mk X.K C f) (F:FnOk X.prog X.w X.K X.mg X.base CX k f fd ps sp) (hr:Room (k+1) X.A) (hg:Gl X x) (hm:X.mg x=some (.ref C)) (hb:Binds X.K fd ps ds) (hd:Vals dvs ds) (hx:zhZ CX X E)
  (ha:PA X (e :: es) t) (hdb:(x==("__debug__":Str))=false:=by decide) (he:starEach (e :: es) X.env=(false,eval e X.env) :: starEach es X.env:=by rfl) (hpl:(backTo pos (starEach es X.env)).any (·.1)=false:=by rfl) :
  PE X (.Call (.Name x p) (e :: es) [] pos) (zz9 C sp dvs E t):=by
 intro pins s σ H Q I h;refine wpAny_Call_Name_kw (zki I hg hm ?_ hdb);refine W.callWith_K (h₀:=X.base) I.ok.mod.kin M.kp (thn (ha pos pins s σ H _ I h) λus s1 ⟨vs,H1,I1,r,q⟩=>⟨I1.kIn,?_⟩) he hpl;exact zuu M F hr hb hd hx I1 r q
end
section
variable {X:Cx} {CX:CXT} {k:Nat} {f C:Addr} {fd:FuncData} {ps ks:List Str} {sp:Sp} {E:XK} {x m:Str} {p pos apos kpos:Pos} {e o:Expr} {es:List Expr} {kws:List Keyword} {te ta:TE} {t tk:TA} {nm:Option Str}
variable {g:List Value->List Value->List Value} {gV:List V->List V->List V}
end
structure FnScope (N P:List Str) (sc:Scope):Prop where
 kind:sc.kind=.function
 co:sc.isCoroutine=false
 gen:sc.isGenerator=false
 nd:N.Nodup
 pre:N.take P.length=P
 par:∀ x∈P,sc.names.lookup x=some .local\/sc.names.lookup x=some .cell
 nofree:∀ y∈sc.names,y.2≠.free
theorem zm0 {kindOf:Str->Option NameKind} {x:Str}:∀ {binds:List (Str×Value)} {m:Str->Option Value},(∀ v,(x,v)∉binds)->bindL kindOf binds m x=m x
 | [],_,_=>rfl
 | (n,v) :: r,m,h=>by
  unfold bindL;rw [zm0 λw hw=>h w (List.mem_cons_of_mem _ hw)];split
  ·have:x≠n:=by rintro rfl; exact h v List.mem_cons_self
   simp [this]
  ·rfl
theorem zm1 {kindOf:Str->Option NameKind} {x:Str}:∀ {binds:List (Str×Value)} {m:Str->Option Value},(∀ v,(x,v)∉binds)->bindC kindOf binds m x=m x
 | [],_,_=>rfl
 | (n,v) :: r,m,h=>by
  unfold bindC;rw [zm1 λw hw=>h w (List.mem_cons_of_mem _ hw)];split
  ·rfl
  ·have:x≠n:=by rintro rfl; exact h v List.mem_cons_self
   simp [this]
theorem zh0 {kindOf:Str->Option NameKind} {x:Str} {v:Value}:∀ {P:List Str} {vs:List Value} {i:Nat} {m:Str->Option Value},P.Nodup->P[i]? = some x->vs[i]? = some v->kindOf x=some .local->
  bindL kindOf (P.zip vs) m x=some v
 | [],_,_,_,_,h,_,_=>by simp at h
 | _ :: _,[],_,_,_,_,h,_=>by simp at h
 | p :: P,w :: vs,0,m,nd,h1,h2,hk=>by
  simp at h1 h2; subst h1; subst h2;show bindL kindOf ((p,w) :: P.zip vs) m p=_;unfold bindL;rw [zm0 λv hv=>(List.nodup_cons.mp nd).1 (List.of_mem_zip hv).1,if_pos hk];simp
 | p :: P,w :: vs,i+1,m,nd,h1,h2,hk=>by
  show bindL kindOf ((p,w) :: P.zip vs) m x=_;unfold bindL;exact zh0 (i:=i) (List.nodup_cons.mp nd).2 (by simpa using h1) (by simpa using h2) hk
theorem zm2 {kindOf:Str->Option NameKind} {x:Str} {v:Value}:∀ {P:List Str} {vs:List Value} {i:Nat} {m:Str->Option Value},P.Nodup->P[i]? = some x->vs[i]? = some v->kindOf x≠some .local->
  bindC kindOf (P.zip vs) m x=some v
 | [],_,_,_,_,h,_,_=>by simp at h
 | _ :: _,[],_,_,_,_,h,_=>by simp at h
 | p :: P,w :: vs,0,m,nd,h1,h2,hk=>by
  simp at h1 h2; subst h1; subst h2;show bindC kindOf ((p,w) :: P.zip vs) m p=_;unfold bindC;rw [zm1 λv hv=>(List.nodup_cons.mp nd).1 (List.of_mem_zip hv).1,if_neg hk];simp
 | p :: P,w :: vs,i+1,m,nd,h1,h2,hk=>by
  show bindC kindOf ((p,w) :: P.zip vs) m x=_;unfold bindC;exact zm2 (i:=i) (List.nodup_cons.mp nd).2 (by simpa using h1) (by simpa using h2) hk
def zh1 (N:List Str) (vs:List V):St:=vs.map some++List.replicate (N.length-vs.length) none
def zoc (CX:CXT) (P:Program) (w:World) (K:W.Frag) (mg:Str->Option Value) (base:Heap) (N:List Str) (qual:Str) (scope:Scope) (f:Addr) (cd:Value) (A:Around) (outer:List Env) (s:Shared) (H:Hp) (E:XK):Cx where
 prog:=P
 w:=w
 K:=K
 mg:=mg
 base:=base
 A:=A.deeper (envOfC qual scope s.heap.objs.size f cd)
 N:=N
 s₀:=s
 H₀:=H
 env:=envOfC qual scope s.heap.objs.size f cd
 outer:=outer
 stack:=envOfC qual scope s.heap.objs.size f cd :: outer
 ex:=[]
 calm:=true
 fn:=λ_=>true
 pn:=[]
 xe:=λe s'=>wpAny (model P w) (A.deeper (envOfC qual scope s.heap.objs.size f cd)) (leaving (envOfC qual scope s.heap.objs.size f cd) e) (λ_ s''=>CX outer H s E e s'') (λe' s''=>CX outer H s E e' s'') s'
theorem zph {sc:Scope} {n:Nat} {x:Str} (h:sc.names.lookup x=some .cell):∃ c,(cellsFrom n sc.names []).lookup x=some c:=by
 have q:=W.cellsFrom_some sc.names n [] (.inl h);exact Option.isSome_iff_exists.mp q
theorem zm3 {CX:CXT} {P:Program} {w:World} {K:W.Frag} {mg:Str->Option Value} {base:Heap} {N ps:List Str} {qual:Str} {scope:Scope} {f:Addr} {cd:Value} {A:Around} {outer:List Env} {s s1:Shared} {H:Hp} {E:XK} {us:List Value} {vs:List V}
  (S:FnScope N ps scope) (hd:A.handled=none) (e0:Env0 P w K mg base A outer s H) (hl:vs.length=ps.length) (r:Vals vs us)
  (x:InCallC s s.heap.objs.size (bindL (envOfC qual scope s.heap.objs.size f cd).kindOf (ps.zip us) λ_=>none) (cellsFrom (s.heap.objs.size+1) scope.names []) (bindC (envOfC qual scope s.heap.objs.size f cd).kindOf (ps.zip us) λ_=>none) s1) :
  Inv (zoc CX P w K mg base N qual scope f cd A outer s H E) [] (zh1 N vs) H s1:=by
 have hpl:ps.length<=N.length:=by have:=congrArg List.length S.pre; rw [List.length_take] at this; omega
 obtain ⟨h1,tk,rfl,hk⟩:=x.done;have noA:∀ b:Addr,b∉(zoc CX P w K mg base N qual scope f cd A outer s H E).ex:=λb z=>absurd (show b∈([]:List Addr) from z) (by simp);refine ⟨⟨e0.mod,S.kind,rfl,rfl,Nat.le_refl _,λy z c h1 h2=>?_,λy hy=>?_,λy c _ h=>?_,λ_=>hd,Around.frames_deeper e0.frames,.inr ⟨rfl,rfl⟩,λb z=>absurd z (noA b),e0.bs,e0.bsz,λb _ _=>noA b,λb z=>absurd z (noA b),e0.funs,e0.frf⟩,
  rfl,e0.bare,Un.kept hk,⟨_,x.toInCall.ns,λi y v h1 h2 h3=>?_⟩,λy c h=>⟨_,x.cell y c h⟩,e0.hok.fresh (Nat.le_refl _),λy c h=>?_,λp hp=>absurd (show p∈([]:List (Addr×Obj)) from hp) (by simp),e0.hok.kept hk,?_⟩
 ·exact name_of_addr x.apart (PySem.mem_of_lookup h1) (PySem.mem_of_lookup h2)
 ·have hy:scope.names.lookup y=some .cell\/scope.names.lookup y=some .free:=hy;rcases hy with hy | hy
  ·exact zph hy
  ·exact absurd rfl (S.nofree _ (PySem.mem_of_lookup hy))
 ·exact Nat.le_of_lt (x.above y c (PySem.mem_of_lookup h))
 ·have hi:i < vs.length:=by
   unfold zh1 at h2
   by_cases hi:i < vs.length
   ·exact hi
   ·rw [List.getElem?_append_right (by simpa using hi)] at h2;rw [List.getElem?_replicate] at h2;split at h2 <;> cases h2
  have ha:vs[i]? = some v:=by
   unfold zh1 at h2;rw [List.getElem?_append_left (by simpa using hi),List.getElem?_map] at h2;cases e:vs[i]? with
   | none=>rw [e] at h2; cases h2
   | some a=>rw [e] at h2; cases h2; rfl
  obtain ⟨u,hu,rv⟩:=r.get ha;have hp:ps[i]? = some y:=by
   rw [<- S.pre,List.getElem?_take_of_lt (by omega)]; exact h1
  have ndP:ps.Nodup:=by rw [<- S.pre]; exact S.nd.sublist (List.take_sublist _ _)
  refine ⟨u,rv,?_⟩;rcases S.par y (List.mem_of_getElem? hp) with k | k
  ·exact .inl ⟨k,zh0 ndP hp hu k⟩
  ·obtain ⟨c,e⟩:=zph (n:=s.heap.objs.size+1) k;refine .inr ⟨.inl k,c,e,?_⟩;have q:=x.cell y c e;rw [zm2 ndP hp hu (by show scope.names.lookup y≠_; rw [k]; decide)] at q;exact q
 ·exact e0.hok.fresh (Nat.le_of_lt (x.above y c (PySem.mem_of_lookup h)))
 ·unfold zh1;show _=N.length;rw [List.length_append,List.length_map,List.length_replicate];omega
theorem zxg {CX : CXT} {P : Program} {w : World} {K : W.Frag} {mg : Str -> Option Value} {base : Heap} {k : Nat} {f : Addr} {name qual : Str} {params : Arguments} {body : List Stmt} {scope : Scope} {dV kV doc pm cdv ct oc : Value} {an od : Option Addr}
    {osl : Array (Option Value)} {N ps : List Str} {sp : Sp} (lk : K.lookup f = some ⟨oc, od, .func (W.fnOf name qual params body scope dV kV doc pm an cdv ct), osl⟩) (hcd : W.codeIn K cdv qual = true) (S : FnScope N ps scope)
    (len : ∀ vs H Q E, sp vs H Q E -> vs.length = ps.length)
    (hbody : ∀ (A : Around) (outer : List Env) (s : Shared) (H : Hp) (vs : List V) (Q : VK) (E : XK), Room k (A.deeper (envOfC qual scope s.heap.objs.size f cdv)) -> sp vs H Q E ->
      ∃ t, PSs (zoc CX P w K mg base N qual scope f cdv A outer s H E) body t /\ t { nx := λ_ H' => Q .non H', rt := Q } (zh1 N vs) H) :
    FnOk P w K mg base CX (k + 1) f (W.fnOf name qual params body scope dV kV doc pm an cdv ct) ps sp := by
  refine ⟨len, λA outer s H args us vs Q E hr e0 hb r hsp => ?_⟩;have hl := len _ _ _ _ hsp;have KX : K.In s.heap := e0.mod.kin.keeps λb o e => (e0.bs b o e).1;have lim : s.heap.NoLimit := e0.mod.nolimit.keeps λb o e => (e0.bs b o e).1;have hkind : ∀ y ∈ ps.zip us, scope.names.lookup y.1 = some .local \/ (scope.names.lookup y.1 = some .cell /\ ((cellsFrom (s.heap.objs.size + 1) scope.names []).lookup y.1).isSome = true) := λ⟨n, v⟩ hy => by
    rcases S.par n (List.of_mem_zip hy).1 with q | q
    · exact .inl q
    · exact .inr ⟨q, W.cellsFrom_some _ _ _ (.inl q)⟩
  refine codeAny_call_function hr.depth (KX _ _ lk) rfl S.co S.gen rfl (W.codeRec_of KX hcd) (hb _ _ _ _ ?_);refine wpAny_newFunctionEnv_cells S.kind hkind λenv he s1 x => ?_;subst he;refine ⟨lim.keeps x.toInCall.keep, codeAny_func ?_⟩;obtain ⟨t, ht, hq⟩ := hbody A outer s H vs Q E (hr.deeper _) hsp;have I : Inv (zoc CX P w K mg base N qual scope f cdv A outer s H E) [] (zh1 N vs) H s1 := zm3 S hr.hd e0 hl r x
  refine wpAny_mono (ht [] s1 (zh1 N vs) H _ I hq) (λfl s' hs => ?_) λe s' hs => hs;have fin : ∀ {σ' : St} {H' : Hp} {v : V} {u : Value}, Inv (zoc CX P w K mg base N qual scope f cdv A outer s H E) [] σ' H' s' -> RelV v u -> Q v H' -> CE outer P w H s Q u s' :=
    λ{σ' H' v u} J rv q => ⟨v, H', J.os, J.bare, J.base, J.hok, rv, q⟩
  cases fl with
  | ret u =>
    obtain ⟨v, σ', H', J, rv, q⟩ := hs;exact fin J rv q
  | next =>
    obtain ⟨σ', H', J, q⟩ := hs;exact fin (v := V.non) (u := Value.none) J rfl q
  | brk =>
    obtain ⟨_, _, _, q⟩ := hs;exact False.elim q
  | cont =>
    obtain ⟨_, _, _, q⟩ := hs;exact False.elim q
section
variable {X:Cx} {x:Str} {p pos:Pos} {e:Expr} {es:List Expr} {t:TA} {id T:String} {r:List V->Hp->VK->Prop}
def tCB (r:List V->Hp->VK->Prop) (t:TA):TE:=λσ H Q=>t σ H λvs H1=>r vs H1 Q
theorem zuv (hc:CallR X (.builtin id) r) (hg:Gl X x) (hm:X.mg x=none) (hv:bootBuiltins x=some (.builtin id)) (ha:PA X (e :: es) t) (hn:x≠"__name__":=by decide) (hdb:(x==("__debug__":Str))=false:=by decide)
  (he:starEach (e :: es) X.env=(false,eval e X.env) :: starEach es X.env:=by rfl) (hpl:(backTo pos (starEach es X.env)).any (·.1)=false:=by rfl):PE X (.Call (.Name x p) (e :: es) [] pos) (tCB r t):=by
 intro pins s σ H Q I h;refine wpAny_Call_Name_kw (zhY I hg hm hv ?_ hn hdb);exact PyProof.Rows.callWith_builtin1 (thn (ha pos pins s σ H _ I h) λus s1 ⟨vs,H1,I1,r1,q1⟩=>hc pins s1 σ H1 vs us Q I1 r1 q1) he hpl
theorem zrI (hc:CallR X (.type T) r) (hg:Gl X x) (hm:X.mg x=none) (hv:bootBuiltins x=some (.type T)) (ha:PA X (e :: es) t) (hn:x≠"__name__":=by decide) (hdb:(x==("__debug__":Str))=false:=by decide)
  (he:starEach (e :: es) X.env=(false,eval e X.env) :: starEach es X.env:=by rfl) (hpl:(backTo pos (starEach es X.env)).any (·.1)=false:=by rfl):PE X (.Call (.Name x p) (e :: es) [] pos) (tCB r t):=by
 intro pins s σ H Q I h;refine wpAny_Call_Name_kw (zhY I hg hm hv ?_ hn hdb);exact PyProof.Rows.callWith_type1 (thn (ha pos pins s σ H _ I h) λus s1 ⟨vs,H1,I1,r1,q1⟩=>hc pins s1 σ H1 vs us Q I1 r1 q1) he hpl
end
end L2
namespace HT
open PySem PyProof.Rows
section
open PySem.SeqAt
open PySem.AutoSeq1 (wpAny_loadPart')
open PySem.MeetsSeq PySem.MeetsSeq2 PySem.MeetsSeq3
end
section
variable {prog:Program} {w:World} {A:Around} {E:Value->Shared->Prop} {s:Shared}
theorem cat_tup {t b:Addr} {vs ws:List Value} {Q:Value->Shared->Prop} (ht:IsTup s.heap t vs.toArray) (hb:IsTup s.heap b ws.toArray) (hv:vs≠[])
  (h1:ws=[]->Q (.ref t) s) (h2:ws≠[]->Q (.ref s.heap.objs.size) { s with heap:=s.heap.push { cls:=.type "tuple",data:=.seq (vs++ws).toArray } })
  (hsz:vs.length+ws.length<=sizeLine):wpAny (model prog w) A (binaryOp .Add (.ref t) (.ref b)) Q E s:=by
 obtain ⟨⟨cls,dd,data,sl⟩,ho,hc,n,hd⟩:=id ht;obtain ⟨⟨cls2,dd2,data2,sl2⟩,ho2,hc2,n2,hd2⟩:=id hb;simp only at hc hd hc2 hd2;subst hc hd hc2 hd2;have e:vs.toArray++ws.toArray=(vs++ws).toArray:=by simp
 by_cases hw:ws=[]
 ·exact concat_meets ⟨_,ho,rfl⟩ ⟨_,ho2,rfl⟩ noFill_tuple_add seq_tuple_add PySem.F.slot_tuple_add PySem.F.entry_tuple_add (PySem.F.args_tuple_add_2 _ _)
   (tuple_addW1 t b vs.toArray ws.toArray n n2 dd dd2 sl sl2 (by simpa using hv) (by simp [hw])) ⟨ho,ho2,h1 hw⟩
 ·refine concat_meets ⟨_,ho,rfl⟩ ⟨_,ho2,rfl⟩ noFill_tuple_add seq_tuple_add PySem.F.slot_tuple_add PySem.F.entry_tuple_add (PySem.F.args_tuple_add_2 _ _)
   (tuple_addW2 t b vs.toArray ws.toArray n n2 dd dd2 sl sl2 (by simpa using hv) (by simpa using hw) (by rw [List.size_toArray,List.size_toArray]; exact hsz)) ⟨ho,ho2,?_⟩
  rw [e];exact h2 hw
def sIx (n d:Nat):Option Int->Nat
 | none=>d
 | some v=>if v < 0 then (v+(n:Int)).toNat else min v.toNat n
theorem sIx_none (n d:Nat):sIx n d none=d:=rfl
theorem sIx_nat (n d k:Nat):sIx n d (some (k:Int))=min k n:=by
 show (if (k:Int) < 0 then ((k:Int)+(n:Int)).toNat else min (k:Int).toNat n)=min k n;rw [if_neg (by omega),Int.toNat_natCast]
theorem zAa (n d:Nat) (hd:d<=n) (o:Option Int):sIx n d o<=n:=by
 cases o with
 | none=>exact hd
 | some v=>
  show (if v < 0 then (v+(n:Int)).toNat else min v.toNat n)<=n
  by_cases hv:v < 0
  ·rw [if_pos hv]; omega
  ·rw [if_neg hv]; exact Nat.min_le_right _ _
theorem zrJ (v:Int) (n d:Nat):(if v < 0 then max (v+(n:Int)) 0 else min v (n:Int))=((sIx n d (some v):Nat):Int):=by
 show (if v < 0 then max (v+(n:Int)) 0 else min v (n:Int))=(((if v < 0 then (v+(n:Int)).toNat else min v.toNat n):Nat):Int)
 by_cases hv:v < 0
 ·simp only [if_pos hv]; omega
 ·simp only [if_neg hv]; omega
theorem zqe (lo hi:Option Int) (n:Nat):Builtin.Slice.sliceAdjust lo hi 1 (n:Int)=(((sIx n 0 lo:Nat):Int),((sIx n n hi:Nat):Int)):=by
 have h1:¬ ((1:Int) < 0):=by omega
 unfold Builtin.Slice.sliceAdjust;simp only [h1,if_false];refine Prod.ext ?_ ?_
 ·cases lo with
  | none=>rfl
  | some v=>exact zrJ v n 0
 ·cases hi with
  | none=>rfl
  | some v=>exact zrJ v n n
theorem zqf (i j:Nat):Builtin.Slice.slicePlaces (i:Int) (j:Int) 1=j-i:=by
 unfold Builtin.Slice.slicePlaces;have h1:(1:Int) > 0:=by omega
 simp only [h1,if_true,Int.ediv_one];split <;> omega
theorem zlE {v:Value} {o:Option Int} {Q:Option Int->Shared->Prop} (p:IsPart v o) (h:Q o s):wpAny (model prog w) A (Builtin.Slice.slicePartIndex v) Q E s:=by
 cases p with
 | none=>exact slicePart_none h
 | int i t=>exact slicePart_int h
theorem zjR {sl:Addr} {vl vu:Value} {lo hi:Option Int} {n:Nat} {Q:Int×Int×Nat->Shared->Prop} (hs:s.heap.IsSliceOf sl vl vu .none) (pl:IsPart vl lo) (pu:IsPart vu hi)
  (h:Q (((sIx n 0 lo:Nat):Int),1,sIx n n hi-sIx n 0 lo) s):wpAny (model prog w) A (Builtin.Slice.sliceApplied (.ref sl) (pure (n:Int))) Q E s:=by
 obtain ⟨os,hos,hcs,hds⟩:=id hs;unfold Builtin.Slice.sliceApplied Builtin.Slice.sliceFields;refine wpAny_bind (wpAny_bind (wpAny_field hos hds (x:=vl) rfl (wpAny_bind (wpAny_field hos hds (x:=vu) rfl (wpAny_bind (wpAny_field hos hds (x:=.none) rfl (wpAny_pure ?_)))))));refine wpAny_bind (slicePart_none ?_);show wpAny _ _ (if ((1:Int)==0)=true then _ else _) _ _ s;rw [if_neg (by decide)];refine wpAny_bind (zlE pl (wpAny_bind (zlE pu (wpAny_bind (wpAny_pure ?_)))))
 show wpAny _ _ (match Builtin.Slice.sliceAdjust lo hi 1 (n:Int) with | (lo,hi)=>pure (lo,(1:Int),Builtin.Slice.slicePlaces lo hi 1)) _ _ s;rw [zqe lo hi n];show wpAny _ _ (pure (((sIx n 0 lo:Nat):Int),(1:Int),Builtin.Slice.slicePlaces ((sIx n 0 lo:Nat):Int) ((sIx n n hi:Nat):Int) 1)) _ _ s;rw [zqf];exact wpAny_pure h
theorem zuw (xs:Array Value) (i k:Nat):((List.range k).filterMap λ(m:Nat)=>xs[((i:Int)+(m:Int)*1).toNat]?).toArray=((xs.toList.drop i).take k).toArray:=by
 have e:(λ(m:Nat)=>xs[((i:Int)+(m:Int)*1).toNat]?)=λm=>xs[i+m]?:=by
  funext m;have:((i:Int)+(m:Int)*1).toNat=i+m:=by omega
  rw [this]
 rw [e];have:=pick_run xs i k;rw [List.filterMap_map] at this;have e2:((λx=>xs[x]?) ∘ λx=>i+x)=λm=>xs[i+m]?:=rfl;rw [e2] at this;rw [this]
theorem getItem_tuple_cut {t sl:Addr} {items:Array Value} {vl vu:Value} {lo hi:Option Int} {Q:Value->Shared->Prop} (ht:IsTup s.heap t items) (hs:s.heap.IsSliceOf sl vl vu .none) (pl:IsPart vl lo) (pu:IsPart vu hi)
  (hw:¬ (sIx items.size 0 lo=0/\sIx items.size items.size hi=items.size))
  (h:Q (.ref s.heap.objs.size) { s with heap:=s.heap.push { cls:=.type "tuple",data:=.seq ((items.toList.drop (sIx items.size 0 lo)).take (sIx items.size items.size hi-sIx items.size 0 lo)).toArray } })
  (hsz:items.size<=sizeLine):wpAny (model prog w) A (getItem (.ref t) (.ref sl)) Q E s:=by
 have htake:sizeOk (.seq ((items.toList.drop (sIx items.size 0 lo)).take (sIx items.size items.size hi-sIx items.size 0 lo)).toArray):=by
  show ((items.toList.drop (sIx items.size 0 lo)).take (sIx items.size items.size hi-sIx items.size 0 lo)).toArray.size<=sizeLine;rw [List.size_toArray,List.length_take,List.length_drop,Array.length_toList];omega
 have hj:sIx items.size items.size hi<=items.size:=zAa _ _ (Nat.le_refl _) hi;obtain ⟨os,hos,hcs,hds⟩:=id hs;have hTs:s.TypeIs (.ref sl) "slice":=⟨os,hos,hcs⟩
 unfold getItem
 try with_reducible refine wpAny_holding ?_
 first | refine wpAny_bind (wpAny_pure ?_) | skip
 refine wpAny_bind (wpAny_sequenceKey ht.typeIs (by decide) ?_);refine wpAny_bind (wpAny_callSpecial?_slot (name:=Str.ofString "__getitem__") ht.typeIs PyProof.Rows.slot_tuple_getitem
  (wpAny_call_entry PyProof.Rows.slot_tuple_getitem ht.typeIs entry_tuple_getitem ?_ (args_tuple_getitem _ _)))
 show wpAny _ _ (Builtin.Tuple.tupleItemsOf (.ref t) >>= _) _ _ s;refine wpAny_bind (tupleItemsOf_ ht ?_);refine wpAny_bind (wpAny_typeOf hTs ?_);rw [if_pos (by decide)];refine wpAny_bind (zjR hs pl pu ?_);have hno:¬ ((((sIx items.size 0 lo:Nat):Int)==0&&(1:Int)==1&&(sIx items.size items.size hi-sIx items.size 0 lo)==items.size)=true):=by
  intro q;rw [Bool.and_eq_true,Bool.and_eq_true] at q;have q1:((sIx items.size 0 lo:Nat):Int)=0:=eq_of_beq q.1.1;have q2:sIx items.size items.size hi-sIx items.size 0 lo=items.size:=eq_of_beq q.2;exact hw ⟨by omega,by omega⟩
 show wpAny _ _ (if (((sIx items.size 0 lo:Nat):Int)==0&&(1:Int)==1&&(sIx items.size items.size hi-sIx items.size 0 lo)==items.size)=true then _ else _) _ _ s;rw [if_neg hno,zuw]
 first
  | exact wpAny_bind (m:=Builtin.Tuple.tupleExact _) (wpAny_newObj_type (wpAny_pure ⟨_,rfl,wpAny_pure h⟩) htake)
  | exact wpAny_bind (m:=Builtin.Tuple.tupleExact _) (wpAny_newObj_type (wpAny_bind (wpAny_pure (wpAny_pure ⟨_,rfl,wpAny_pure h⟩))) htake)
  | exact wpAny_bind (wpAny_bind (m:=Builtin.Tuple.tupleExact _) (wpAny_newObj_type (wpAny_pure (wpAny_pure ⟨_,rfl,wpAny_pure h⟩)) htake))
  | exact wpAny_bind (wpAny_bind (m:=Builtin.Tuple.tupleExact _) (wpAny_newObj_type (wpAny_pure ⟨_,rfl,wpAny_pure h⟩) htake))
end
end HT
namespace L2
open PySem PySem.Spec PyProof.Rows
abbrev TO:=St->Hp->(Option Int->Hp->Prop)->Prop
def PO (X:Cx) (e:Option Expr) (t:TO):Prop:=
 ∀ (pins:List (Addr×Obj)) (s:Shared) (σ:St) (H:Hp) (Q:Option Int->Hp->Prop),Inv X pins σ H s->t σ H Q->
  wpAny (model X.prog X.w) X.A (evalPart e X.env) (λu s'=>∃ o H',Inv X pins σ H' s'/\IsPart u o/\Q o H') X.xe s
def zrK:TO:=λ_ H Q=>Q none H
def zAb (t:TE):TO:=λσ H Q=>t σ H λx H1=>∃ i,x=.int i/\Q (some i) H1
section
variable {X:Cx} {e:Expr} {te:TE} {lo hi:Option Expr} {tl th:TO} {pos p2:Pos}
theorem zxh:PO X none zrK:=by
 intro pins s σ H Q I h;rw [evalPart_none];exact wpAny_pure ⟨none,H,I,.none,h⟩
theorem zxi (h:PE X e te):PO X (some e) (zAb te):=by
 intro pins s σ H Q I hw;rw [evalPart_some];refine thn (h pins s σ H _ I hw) λu s1 ⟨x,H1,I1,r1,q1⟩=>?_;obtain ⟨i,rfl,q⟩:=q1;obtain ⟨t,rfl⟩:=r1;exact ⟨some i,H1,I1,.int i t,q⟩
def SlR (X:Cx) (r:V->Option Int->Option Int->Hp->VK->Prop):Prop:=
 ∀ (pins:List (Addr×Obj)) (s:Shared) (σ:St) (H:Hp) (x:V) (v vl vu:Value) (lo hi:Option Int) (sl:Addr) (Q:VK),Inv X pins σ H s->RelV x v->s.heap.IsSliceOf sl vl vu .none->IsPart vl lo->IsPart vu hi->r x lo hi H Q->
  ∃ T id,typeLookup (.type T) "__getitem__"=pure (some (.builtin id))/\s.TypeIs v T/\wpAny (model X.prog X.w) X.A (getItem v (.ref sl)) (EP X pins σ Q) X.xe s
theorem SlR.or {r r':V->Option Int->Option Int->Hp->VK->Prop} (h:SlR X r) (h':SlR X r'):SlR X (λx lo hi H Q=>r x lo hi H Q\/r' x lo hi H Q):=by
 intro pins s σ H x v vl vu lo hi sl Q I rx hs pl pu q;rcases q with q | q
 ·exact h pins s σ H x v vl vu lo hi sl Q I rx hs pl pu q
 ·exact h' pins s σ H x v vl vu lo hi sl Q I rx hs pl pu q
def tSl (r:V->Option Int->Option Int->Hp->VK->Prop) (te:TE) (tl th:TO):TE:=λσ H Q=>te σ H λx H1=>tl σ H1 λl H2=>th σ H2 λu H3=>r x l u H3 Q
theorem zux {r:V->Option Int->Option Int->Hp->VK->Prop} (hr:SlR X r) (he:PE X e te) (hl:PO X lo tl) (hu:PO X hi th):PE X (.Subscript e (.Slice lo hi none p2) pos) (tSl r te tl th):=by
 intro pins s σ H Q I h;refine Subscript_ (thn (he pins s σ H _ I h) λv s1 ⟨x,H1,I1,r1,q1⟩=>?_);refine wpAny_Slice (thn (hl pins s1 σ H1 _ I1 q1) λvl s2 ⟨l,H2,I2,pl,q2⟩=>thn (hu pins s2 σ H2 _ I2 q2) λvu s3 ⟨u,H3,I3,pu,q3⟩=>?_);rw [evalPart_none];refine wpAny_pure ?_;have I4:Inv X pins σ H3 { s3 with heap:=s3.heap.push { cls:=.type "slice",data:=.fields #[vl,vu,.none] } }:=I3.kept (t':=s3.toks) λb ob q=>Heap.get?_push_of_some _ q
 obtain ⟨T,id,hT,ht,hg⟩:=hr pins { s3 with heap:=s3.heap.push { cls:=.type "slice",data:=.fields #[vl,vu,.none] } } σ H3 x v vl vu l u s3.heap.objs.size Q I4 r1 (Heap.IsSliceOf.new ..) pl pu q3;show wpAny (model X.prog X.w) X.A (subscriptTail e (.Slice lo hi none p2) v (.ref s3.heap.objs.size)) (EP X pins σ Q) X.xe { s3 with heap:=s3.heap.push { cls:=.type "slice",data:=.fields #[vl,vu,.none] } }
 exact tail_any (ops:=[.ref s3.heap.objs.size,v]) ht hT hg (by with_unfolding_all rfl)
def zv3 (xs:List V) (lo hi:Option Int):List V:=(xs.drop (HT.sIx xs.length 0 lo)).take (HT.sIx xs.length xs.length hi-HT.sIx xs.length 0 lo)
theorem zkn (xs:List V) (lo hi:Option Int):(zv3 xs lo hi).length<=xs.length:=by
 unfold zv3;rw [List.length_take,List.length_drop];omega
def zD9 (K:W.Frag):V->Option Int->Option Int->Hp->VK->Prop:=λx lo hi H Q=>∃ a xs,x=.ref a/\SqT K H a xs/\
 ¬ (HT.sIx xs.length 0 lo=0/\HT.sIx xs.length xs.length hi=xs.length)/\∀ p,H p=none->Q (.ref p) (upd H p (.tup (zv3 xs lo hi)))
theorem zAc:SlR X (zD9 X.K):=by
 intro pins s σ H x v vl vu lo hi sl Q I rx hs pl pu h;obtain ⟨a,xs,rfl,hx,hw,q⟩:=h;cases rx
 obtain ⟨its,r,ht,hz⟩:=I.tuple hx;have hlen:its.toArray.size=xs.length:=by rw [List.size_toArray]; exact r.length.symm
 refine ⟨"tuple",_,PyProof.Rows.slot_tuple_getitem.lookup,ht.typeIs,?_⟩;refine HT.getItem_tuple_cut ht hs pl pu (by rw [hlen]; exact hw) ?_ (by rw [hlen]; exact hz);rw [hlen];refine ⟨.ref s.heap.objs.size,_,I.laid (t':=s.toks) (o:=.tup (zv3 xs lo hi)) (λb ob q=>Heap.get?_push_of_some _ q) (Nat.le_refl _) ?_,rfl,q _ (I.hok.fresh (Nat.le_refl _))⟩;exact ⟨Nat.le_trans (zkn xs lo hi) hz,_,(r.drop (HT.sIx xs.length 0 lo)).take (HT.sIx xs.length xs.length hi-HT.sIx xs.length 0 lo),IsTup.new _ _⟩
def zAd (K:W.Frag):R2:=λx y H Q=>∃ a b xs ys,x=.ref a/\y=.ref b/\SqT K H a xs/\SqT K H b ys/\xs≠[]/\xs.length+ys.length<=sizeLine/\
 (ys=[]->Q (.ref a) H)/\(ys≠[]->∀ p,H p=none->Q (.ref p) (upd H p (.tup (xs++ys))))
theorem Vals.nil_iff {xs:List V} {us:List Value} (r:Vals xs us):us=[]↔xs=[]:=by
 cases r with
 | nil=>simp
 | cons _ _=>simp
theorem zxj:OpR X (binaryOp .Add) (zAd X.K):=by
 intro pins s σ H x y v u Q I rx ry h;obtain ⟨a,b,xs,ys,rfl,rfl,ha,hb,hx,hz,q1,q2⟩:=h;cases rx
 cases ry
 obtain ⟨its,r1,p1,_⟩:=I.tuple ha;obtain ⟨its2,r2,p2,_⟩:=I.tuple hb;refine HT.cat_tup p1 p2 (λz=>hx (r1.nil_iff.mp z)) (λz=>⟨.ref a,H,I,rfl,q1 (r2.nil_iff.mp z)⟩) (λz=>?_) (by rw [<- r1.length,<- r2.length]; exact hz);refine ⟨.ref s.heap.objs.size,_,I.laid (t':=s.toks) (o:=.tup (xs++ys)) (λb ob q=>Heap.get?_push_of_some _ q) (Nat.le_refl _) ?_,rfl,q2 (λw=>z (r2.nil_iff.mpr w)) _ (I.hok.fresh (Nat.le_refl _))⟩
 exact ⟨by rw [List.length_append]; exact hz,_,r1.append r2,IsTup.new _ _⟩
end
def ixN (n:Nat) (i:Int):Option Nat:=if 0<=i then (if i < n then some i.toNat else none) else if -(n:Int)<=i then some (i+n).toNat else none
def atI {α:Type} (xs:List α) (i:Int):Option α:=(ixN xs.length i).bind λj=>xs[j]?
theorem zxk {n:Nat} {i:Int} {j:Nat} (h:ixN n i=some j):seqIndex? i n=some j/\j < n/\-(n:Int)<=i/\i < n:=by
 unfold ixN at h
 by_cases h0:0<=i
 ·rw [if_pos h0] at h
  by_cases h1:i < n
  ·rw [if_pos h1] at h;have e:i.toNat=j:=Option.some.inj h;exact ⟨by rw [seqIndex_of h0 h1,e],by omega,by omega,h1⟩
  ·rw [if_neg h1] at h; cases h
 ·rw [if_neg h0] at h
  by_cases h1:-(n:Int)<=i
  ·rw [if_pos h1] at h;have e:(i+n).toNat=j:=Option.some.inj h;exact ⟨by rw [seqIndex_neg (by omega) h1,e],by omega,h1,by omega⟩
  ·rw [if_neg h1] at h; cases h
theorem zod {α:Type} {xs:List α} {i:Int} {v:α} (h:atI xs i=some v):∃ j,seqIndex? i xs.length=some j/\xs[j]? = some v/\j < xs.length/\-(xs.length:Int)<=i/\i < xs.length:=by
 unfold atI at h;cases e:ixN xs.length i with
 | none=>rw [e] at h; cases h
 | some j=>
  rw [e] at h;obtain ⟨h1,h2,h3,h4⟩:=zxk e;exact ⟨j,h1,h,h2,h3,h4⟩
def zrL (b:Expr):Prop:=∀ o i,subscripted b false o i=operate [o,i] (getItem o i)
def IxR (X:Cx) (r:R2):Prop:=
 ∀ (value slice:Expr) (pins:List (Addr×Obj)) (s:Shared) (σ:St) (H:Hp) (x y:V) (v u:Value) (Q:VK),Inv X pins σ H s->RelV x v->RelV y u->r x y H Q->
  subscripted slice false v u=operate [v,u] (getItem v u)->wpAny (model X.prog X.w) X.A (subscriptTail value slice v u) (EP X pins σ Q) X.xe s
def MtR (X:Cx) (id:String) (r:V->List V->Hp->VK->Prop):Prop:=
 ∀ (pins:List (Addr×Obj)) (s:Shared) (σ:St) (H:Hp) (x:V) (xs:List V) (v:Value) (us:List Value) (Q:VK),Inv X pins σ H s->RelV x v->Vals xs us->r x xs H Q->
  wpAny (model X.prog X.w) X.A (call (.builtin id) (v :: us)) (EP X pins σ Q) X.xe s
section
variable {X:Cx} {a b:Expr} {ta tb:TE} {pos:Pos}
theorem IxR.or {r r':R2} (h:IxR X r) (h':IxR X r'):IxR X (λx y H Q=>r x y H Q\/r' x y H Q):=by
 intro value slice pins s σ H x y v u Q I rx ry q hs;rcases q with q | q
 ·exact h value slice pins s σ H x y v u Q I rx ry q hs
 ·exact h' value slice pins s σ H x y v u Q I rx ry q hs
theorem zCN {r:R2} (hr:IxR X r) (ha:PE X a ta) (hb:PE X b tb) (hs:zrL b):PE X (.Subscript a b pos) (tOp r ta tb):=by
 intro pins s σ H Q I h;exact Subscript_ (zCC ha hb I h λv u s2 x y H2 I2 rx ry q=>hr a b pins s2 σ H2 x y v u Q I2 rx ry q (hs _ _))
def zEa (K:W.Frag):R2:=λx y H Q=>∃ p xs i v,x=.ref p/\y=.int i/\SqL K H p xs/\atI xs i=some v/\Q v H
def zEb (K:W.Frag):R2:=λx y H Q=>∃ p xs i v,x=.ref p/\y=.int i/\SqT K H p xs/\atI xs i=some v/\Q v H
def zEc:R2:=λx y H Q=>∃ z i c,x=.str z/\y=.int i/\z.length<=sizeLine/\atI z.cps.toList i=some c/\Q (.str ⟨#[c]⟩) H
theorem zxl:IxR X (zEa X.K):=by
 intro value slice pins s σ H x y v u Q I rx ry h hs;obtain ⟨p,xs,i,z,rfl,rfl,hq,he,q⟩:=h;cases rx
 obtain ⟨t,rfl⟩:=ry;obtain ⟨its,r,pl,hz⟩:=I.list hq;obtain ⟨j,h1,h2,h3,h4,h5⟩:=zod he;obtain ⟨w,ew,rw'⟩:=r.get h2;have hl:=r.length;have hn:=zpg;have fin:EP X pins σ Q w s:=⟨z,H,I,rw',q⟩
 by_cases h0:0<=i
 ·have hj:i.toNat=j:=by
   rw [seqIndex_of h0 h5] at h1;exact Option.some.inj h1
  exact item_listR pl.isList h0 (by omega) (by rw [hj]; simpa using ew) fin hs
 ·have hj:(i+(its.toArray.size:Int)).toNat=j:=by
   rw [seqIndex_neg (by omega) h4] at h1;rw [List.size_toArray,<- hl];exact Option.some.inj h1
  exact subscriptTail_builtinR (x:=w) pl.isList.typeIs slot_list_getitem.lookup
   (wpAny_getItem_list_neg (Q:=λr s'=>r=w/\EP X pins σ Q r s') pl.isList (by omega) (by rw [List.size_toArray] <;> omega) (by omega) (by rw [hj]; simpa using ew) ⟨rfl,fin⟩) hs
theorem zAe:IxR X (zEb X.K):=by
 intro value slice pins s σ H x y v u Q I rx ry h hs;obtain ⟨p,xs,i,z,rfl,rfl,hq,he,q⟩:=h;cases rx
 obtain ⟨t,rfl⟩:=ry;obtain ⟨its,r,pl,hz⟩:=I.tuple hq;obtain ⟨j,h1,h2,h3,h4,h5⟩:=zod he;obtain ⟨w,ew,rw'⟩:=r.get h2;have hl:=r.length;have hn:=zpg;have fin:EP X pins σ Q w s:=⟨z,H,I,rw',q⟩
 exact subscriptTail_builtinR (x:=w) pl.typeIs slot_tuple_getitem.lookup
  (getItem_tuple (j:=j) (Q:=λr s'=>r=w/\EP X pins σ Q r s') pl (by omega) (by omega) (by rw [List.size_toArray,<- hl]; exact h1) (by simpa using ew) ⟨rfl,fin⟩) hs
theorem zjw:IxR X zEc:=by
 intro value slice pins s σ H x y v u Q I rx ry h hs;obtain ⟨z,i,c,rfl,rfl,hz,he,q⟩:=h;obtain ⟨t,rfl⟩:=rx;obtain ⟨t',rfl⟩:=ry;obtain ⟨j,h1,h2,h3,h4,h5⟩:=zod he;have hl:z.cps.toList.length=z.length:=by simp [Str.length]
 rw [hl] at h1 h4 h5;have hn:=zpg;exact tail_any (typeIs_str s z t) slot_str_getitem.lookup (getItem_str (c:=c) (by
  have e1:decide (i < -(2 ^ 63:Int))=false:=decide_eq_false (by omega);have e2:decide (i>=2 ^ 63)=false:=decide_eq_false (by omega);rw [e1,e2,Bool.or_false]) (by rw [h1]; simpa using h2) ⟨.str ⟨#[c]⟩,H,I.tok _,⟨_,rfl⟩,q⟩) hs
def rIx (K:W.Frag):R2:=λx y H Q=>zEa K x y H Q\/zEb K x y H Q\/zEc x y H Q
theorem zAf:IxR X (rIx X.K):=zxl.or (zAe.or zjw)
theorem zm4 (lo hi:Option Int) (n:Nat):(sliceBounds lo hi none n).1=((HT.sIx n 0 lo:Nat):Int)/\(sliceBounds lo hi none n).2.1=((HT.sIx n n hi:Nat):Int)/\(sliceBounds lo hi none n).2.2=1:=by
 refine ⟨?_,?_,rfl⟩
 ·cases lo with
  | none=>simp [sliceBounds,HT.sIx]
  | some i=>
   simp only [sliceBounds,HT.sIx,Option.getD_none,show (1:Int) > 0 by decide,if_true]
   by_cases h:i < 0
   ·simp only [h,if_true] <;> omega
   ·simp only [h,if_false] <;> omega
 ·cases hi with
  | none=>simp [sliceBounds,HT.sIx]
  | some i=>
   simp only [sliceBounds,HT.sIx,Option.getD_none,show (1:Int) > 0 by decide,if_true]
   by_cases h:i < 0
   ·simp only [h,if_true] <;> omega
   ·simp only [h,if_false] <;> omega
theorem zmk (its:List Value) (lo hi:Option Int):slicePick its.toArray lo hi none=((its.drop (HT.sIx its.length 0 lo)).take (HT.sIx its.length its.length hi-HT.sIx its.length 0 lo)).toArray:=by
 obtain ⟨h1,h2,h3⟩:=zm4 lo hi its.toArray.size;unfold slicePick;rw [h1,h2,h3];simp only [sliceRange_one,pick_run,List.size_toArray] <;> rfl
def zEd (K:W.Frag):V->Option Int->Option Int->Hp->VK->Prop:=λx lo hi H Q=>∃ a xs,x=.ref a/\SqL K H a xs/\∀ p,H p=none->Q (.ref p) (upd H p (.lst (zv3 xs lo hi)))
theorem zxm:SlR X (zEd X.K):=by
 intro pins s σ H x v vl vu lo hi sl Q I rx hs pl pu h;obtain ⟨a,xs,rfl,hx,q⟩:=h;cases rx
 obtain ⟨its,r,ht,hz⟩:=I.list hx;have hlen:=r.length;refine ⟨"list",_,slot_list_getitem.lookup,ht.isList.typeIs,?_⟩;refine wpAny_getItem_list_slice ht.isList hs pl pu .none (by simp) ?_ (by rw [List.size_toArray] <;> omega);rw [zmk,<- hlen];refine ⟨.ref s.heap.objs.size,_,I.laid (t':=s.toks) (o:=.lst (zv3 xs lo hi)) (λb ob q=>Heap.get?_push_of_some _ q) (Nat.le_refl _) ?_,rfl,q _ (I.hok.fresh (Nat.le_refl _))⟩
 exact ⟨Nat.le_trans (zkn xs lo hi) hz,_,0,(r.drop (HT.sIx xs.length 0 lo)).take (HT.sIx xs.length xs.length hi-HT.sIx xs.length 0 lo),Heap.get?_push_size _ rfl⟩
theorem zm5:OpR X (compareOp .NotIn) (λx y H Q=>∃ i j,x=.str i/\y=.str j/\Q (.bl (!(!(Builtin.Str.occurrences j i 0 j.length 1).isEmpty))) H):=by
 intro pins s σ H x y v u Q I rx ry h;obtain ⟨i,j,rfl,rfl,q⟩:=h;obtain ⟨t,rfl⟩:=rx;obtain ⟨t',rfl⟩:=ry;exact notIn_str ⟨.bl _,H,I,rfl,q⟩
theorem CallR.or {f:Value} {r r':List V->Hp->VK->Prop} (h:CallR X f r) (h':CallR X f r'):CallR X f (λxs H Q=>r xs H Q\/r' xs H Q):=by
 intro pins s σ H xs us Q I rs q;rcases q with q | q
 ·exact h pins s σ H xs us Q I rs q
 ·exact h' pins s σ H xs us Q I rs q
theorem zm6:CallR X (.type "list") (λxs H Q=>∃ p ys,xs=[.ref p]/\(SqL X.K H p ys\/SqT X.K H p ys)/\∀ l,H l=none->Q (.ref l) (upd H l (.lst ys))):=by
 intro pins s σ H xs us Q I r h;obtain ⟨p,ys,rfl,hq,q⟩:=h;obtain ⟨u,rfl,rx⟩:=zjQ r;cases rx
 have fin:∀ (its:List Value),Vals ys its->ys.length<=sizeLine->∀ (h':Heap) (c':Nat),(∀ b o',s.heap.get? b=some o'->h'.get? b=some o')->
   h'.get? s.heap.objs.size=some { cls:=.type "list",dict:=none,data:=.seq its.toArray c',slots:=#[] }->EP X pins σ Q (.ref s.heap.objs.size) { s with heap:=h' }:=λits r' hz h' c' kp e=>
  ⟨.ref s.heap.objs.size,_,I.laid (t':=s.toks) kp (Nat.le_refl _) (show ObjOk X.prog X.w _ h' _ (.lst ys) from ⟨hz,its,c',r',e⟩),rfl,q _ (I.hok.fresh (Nat.le_refl _))⟩
 rcases hq with hq | hq
 ·obtain ⟨its,r',pl,hz⟩:=I.list hq;have hlen:=r'.length;obtain ⟨o,ho,hc,n,hd⟩:=pl.isList;exact call_list_seq p (.inl rfl) ho hc hd (λh' c' kp e=>fin its r' hz h' c' kp e) (by simp only [List.size_toArray] <;> omega)
 ·obtain ⟨its,r',pl,hz⟩:=I.tuple hq;have hlen:=r'.length;obtain ⟨o,ho,hc,n,hd⟩:=pl;exact call_list_seq p (.inr rfl) ho hc hd (λh' c' kp e=>fin its r' hz h' c' kp e) (by simp only [List.size_toArray] <;> omega)
theorem zml:CallR X (.type "tuple") (λxs H Q=>∃ p ys,xs=[.ref p]/\((SqL X.K H p ys/\∀ l,H l=none->Q (.ref l) (upd H l (.tup ys)))\/(SqT X.K H p ys/\Q (.ref p) H))):=by
 intro pins s σ H xs us Q I r h;obtain ⟨p,ys,rfl,h⟩:=h;obtain ⟨u,rfl,rx⟩:=zjQ r;cases rx
 rcases h with ⟨hq,q⟩ | ⟨hq,q⟩
 ·obtain ⟨its,r',pl,hz⟩:=I.list hq;have hlen:=r'.length;refine call_tuple_list pl.isList (λh' kp=>?_) (by simp only [List.size_toArray] <;> omega);have I1:Inv X pins σ H { s with heap:=h' }:=I.kept (t':=s.toks) kp;have I2:Inv X pins σ (upd H h'.objs.size (.tup ys)) { s with heap:=h'.push { cls:=.type "tuple",data:=.seq its.toArray } }:=
   I1.laid (t':=s.toks) (λb o e=>Heap.get?_push_of_some _ e) (Nat.le_refl _) (show ObjOk X.prog X.w _ _ _ (.tup ys) from ⟨hz,its,r',IsTup.new _ _⟩)
  exact ⟨.ref h'.objs.size,_,I2,rfl,q _ (I1.hok.fresh (Nat.le_refl _))⟩
 ·obtain ⟨its,r',pl,hz⟩:=I.tuple hq;exact call_tuple_same pl ⟨.ref p,H,I,rfl,q⟩
def tyV (K:W.Frag) (T:String) (x:V) (H:Hp):Prop:=match x with
 | .str _=>T="str"
 | .int _=>T="int"
 | .ref p=>(T="list"/\∃ xs,SqL K H p xs)\/(T="tuple"/\∃ o,K.lookup p=some o/\o.cls=.type "tuple"/\o.dict=none)\/
   (T="dict"/\((∃ kvs,H p=some (.dK kvs))\/∃ kvs,H p=some (.dT kvs)))\/(T="set"/\∃ S n,H p=some (.set S n))
 | _=>False
theorem zv4 {pins:List (Addr×Obj)} {σ:St} {H:Hp} {s:Shared} {T:String} {x:V} {v:Value} (I:Inv X pins σ H s) (r:RelV x v) (ty:tyV X.K T x H) :
  s.TypeIs v T/\∀ a,v=.ref a->∃ ob,s.heap.get? a=some ob/\ob.dict=none:=by
 cases x with
 | str z=>
  obtain ⟨t,rfl⟩:=r;cases (show T="str" from ty)
  exact ⟨typeIs_str s z t,λ_ e=>nomatch e⟩
 | int i=>
  obtain ⟨t,rfl⟩:=r;cases (show T="int" from ty)
  exact ⟨typeIs_int s i t,λ_ e=>nomatch e⟩
 | ref p=>
  cases r
  rcases ty with ⟨rfl,xs,hq⟩ | ⟨rfl,o,hk,hc,hd⟩ | ⟨rfl,hk⟩ | ⟨rfl,S,n,hk⟩
  ·obtain ⟨its,_,pl,_⟩:=I.list hq;refine ⟨pl.isList.typeIs,λa e=>?_⟩;cases e
   obtain ⟨o,n,e,c,hd,_⟩:=pl;exact ⟨o,e,hd⟩
  ·refine ⟨⟨o,I.kIn p o hk,hc⟩,λa e=>?_⟩;cases e
   exact ⟨o,I.kIn _ o hk,hd⟩
  ·have z:∃ o,s.heap.get? p=some o/\o.ExactDict:=by
    rcases hk with ⟨kvs,hk⟩ | ⟨kvs,hk⟩
    ·obtain ⟨_,_,_,_,o,_,_,e,ex,_⟩:=I.hok p _ hk;exact ⟨o,e,ex⟩
    ·obtain ⟨_,_,_,_,o,_,_,e,ex,_⟩:=I.hok p _ hk;exact ⟨o,e,ex⟩
   obtain ⟨o,e,ex⟩:=z;refine ⟨⟨o,e,ex.1⟩,λa e2=>?_⟩;cases e2
   exact ⟨o,e,ex.2.1⟩
  ·obtain ⟨o,_,_,_,e,ex,_⟩:=I.hok p _ hk;refine ⟨⟨o,e,ex.1⟩,λa e2=>?_⟩;cases e2
   exact ⟨o,e,ex.2.1⟩
 | _=>exact False.elim ty
def zAg (K:W.Frag) (T:String) (r:V->List V->Hp->VK->Prop) (to:TE):TE:=λσ H Q=>to σ H λx H1=>tyV K T x H1/\r x [] H1 Q
def tBM (K:W.Frag) (T:String) (r:V->List V->Hp->VK->Prop) (to:TE) (t:TA):TE:=λσ H Q=>to σ H λx H1=>tyV K T x H1/\t σ H1 λxs H2=>r x xs H2 Q
variable {o e:Expr} {es:List Expr} {to:TE} {t:TA} {name:Str} {apos cpos:Pos} {T id:String} {r:V->List V->Hp->VK->Prop}
theorem zAh (pa:PlainAttrs T) (slot:Slot T name id) (hty:typeOf (.builtin id)=pure (.type "method_descriptor")) (hm:MtR X id r) (ho:PE X o to)
  (hbase:attributeBase o name X.env (eval o X.env)=eval o X.env:=by rfl) (hline:(apos.endLine==cpos.line)=true:=by rfl):PE X (.Call (.Attribute o name apos) [] [] cpos) (zAg X.K T r to):=by
 intro pins s σ H Q I h;refine wpAny_Call_method0_late hbase hline (thn (ho pins s σ H _ I h) λv s1 ⟨x,H1,I1,r1,ty,q1⟩=>?_);obtain ⟨h1,h2⟩:=zv4 I1 r1 ty;exact ⟨T,id,pa,slot,hty,h1,h2,Calls.callWith_builtin rfl (PySem.evalArgs_none (hm pins s1 σ H1 x [] v [] Q I1 r1 .nil q1))⟩
theorem zCO (pa : PlainAttrs T) (slot : Slot T name id) (hty : typeOf (.builtin id) = pure (.type "method_descriptor")) (hm : MtR X id r) (ho : PE X o to) (ha : PA X (e :: es) t)
    (hbase : attributeBase o name X.env (eval o X.env) = eval o X.env := by rfl)
    (hfew : ((backTo cpos (starEach (e :: es) X.env)).all (λx => !x.1) && (backToKw cpos (keywordEach [] X.env)).all (λx => x.1.isSome)
      && decide ((e :: es).length + ([] : List Keyword).length + (if ([] : List Keyword).isEmpty then 0 else 1) < 30)) = true := by rfl)
    (hline : (apos.endLine == cpos.line) = true := by rfl) (hs : starEach (e :: es) X.env = (false, eval e X.env) :: starEach es X.env := by rfl) (hplain : (backTo cpos (starEach es X.env)).any (·.1) = false := by rfl) :
    PE X (.Call (.Attribute o name apos) (e :: es) [] cpos) (tBM X.K T r to t) := by
  intro pins s σ H Q I h;refine wpAny_Call_method_late hbase hfew hline rfl (thn (ho pins s σ H _ I h) λv s1 ⟨x, H1, I1, r1, ty, q1⟩ => ?_);obtain ⟨h1, h2⟩ := zv4 I1 r1 ty;refine ⟨T, id, pa, slot, hty, h1, h2, ?_⟩;have hA := ha cpos pins s1 σ H1 _ I1 q1;rw [hs] at hA ⊢;refine Calls.callWith_builtin (by show (false || (backTo cpos (starEach es X.env)).any (·.1)) = false; rw [hplain] <;> rfl) (Calls.evalArgs_plain ?_)
  exact thn hA λus s2 ⟨vs, H2, I2, r2, q2⟩ => hm pins s2 σ H2 x vs v us Q I2 r1 r2 q2
end
def MtM (X:Cx) (id:String) (r:V->List V->Hp->VK->Prop):Prop:=
 ∀ (pins:List (Addr×Obj)) (s:Shared) (σ:St) (H:Hp) (x:V) (xs:List V) (v:Value) (us:List Value) (Q:VK),Inv X pins σ H s->RelV x v->Vals xs us->r x xs H Q->
  wpAny (model X.prog X.w) X.A (call (.builtin id) (v :: us)) (EP X pins σ Q) X.xe s
theorem Vals.one:∀ {x:V} {us:List Value},Vals [x] us->∃ u,us=[u]/\RelV x u
 | _,_,.cons r .nil=>⟨_,rfl,r⟩
theorem Vals.two:∀ {x y:V} {us:List Value},Vals [x,y] us->∃ u v,us=[u,v]/\RelV x u/\RelV y v
 | _,_,_,.cons r (.cons q .nil)=>⟨_,_,rfl,r,q⟩
theorem Vals.zero:∀ {us:List Value},Vals [] us->us=[]
 | _,.nil=>rfl
theorem Vals.reverse {xs:List V} {us:List Value} (h:Vals xs us):Vals xs.reverse us.reverse:=by
 induction h with
 | nil=>exact .nil
 | cons r t ih=>rw [List.reverse_cons,List.reverse_cons]; exact Vals.append ih (.cons r .nil)
theorem Vals.rep {xs:List V} {us:List Value} (h:Vals xs us):∀ k:Nat,Vals (List.replicate k xs).flatten (List.replicate k us).flatten
 | 0=>.nil
 | k+1=>by
  rw [List.replicate_succ,List.replicate_succ,List.flatten_cons,List.flatten_cons];exact Vals.append h (Vals.rep h k)
theorem zm7 (its:List Value):∀ (k:Nat) (acc:List Value),
  List.foldl (λx1 x2=>x1++x2) acc.toArray (List.replicate k its.toArray)=(acc++(List.replicate k its).flatten).toArray
 | 0,acc=>by simp
 | k+1,acc=>by
  have e:acc.toArray++its.toArray=(acc++its).toArray:=by simp
  have e2:(acc++its)++(List.replicate k its).flatten=acc++(List.replicate (k+1) its).flatten:=by
   rw [List.replicate_succ,List.flatten_cons,List.append_assoc]
  rw [<- e2,<- zm7 its k (acc++its),<- e,List.replicate_succ,List.foldl_cons]
section
variable {X:Cx} {pins:List (Addr×Obj)} {σ:St} {H:Hp} {s:Shared} {l b:Addr} {xs ys zs:List V}
theorem Inv.lset {its its':List Value} {n:Nat} {f:Array Value->Array Value} {t':Nat} (I:Inv X pins σ H s) (hH:H l=some (.lst xs))
  (e:s.heap.get? l=some { cls:=.type "list",data:=.seq its.toArray n }) (hf:f its.toArray=its'.toArray) (hv:Vals ys its') (hz:ys.length<=sizeLine) :
  Inv X pins σ (upd H l (.lst ys)) { s with heap:=s.heap.update l (Obj.mapSeq f),toks:=t' }:=by
 have q:=PySem.IsL.update e f;rw [hf] at q;refine I.write (x:=l) (e:=l) (by rw [hH]; exact trivial) (.inl rfl) (λb' u hb hu=>(Heap.get?_update_other s.heap (Obj.mapSeq f) (Ne.symm hb)).trans hu) ⟨_,q⟩ ?_;exact ⟨hz,its',_,hv,q⟩
theorem Inv.lnew {its:List Value} {t':Nat} (I:Inv X pins σ H s) (hv:Vals ys its) (hz:ys.length<=sizeLine) :
  Inv X pins σ (upd H s.heap.objs.size (.lst ys)) { s with heap:=s.heap.push { cls:=.type "list",data:=.seq its.toArray },toks:=t' }:=
 I.laid (λ_ _ q=>Heap.get?_push_of_some _ q) (Nat.le_refl _) ⟨hz,its,0,hv,Heap.get?_push_size _ rfl⟩
theorem Inv.fresh (I:Inv X pins σ H s):H s.heap.objs.size=none:=I.hok.fresh (Nat.le_refl _)
theorem Inv.lstM (I:Inv X pins σ H s) (hH:H l=some (.lst xs)):xs.length<=sizeLine/\∃ (its:List Value) (n:Nat),Vals xs its/\xs.length=its.length/\s.heap.get? l=some { cls:=.type "list",data:=.seq its.toArray n }:=by
 obtain ⟨z,its,n,r,e⟩:=I.hok l _ hH;exact ⟨z,its,n,r,r.length,e⟩
theorem zuy {n:Nat} (h:n<=sizeLine):Builtin.List.listTooLong n=false:=by
 unfold Builtin.List.listTooLong;exact decide_eq_false (by omega)
end
section
variable {X:Cx}
def zoe:V->List V->Hp->VK->Prop:=λx vs H Q=>∃ l xs y,x=.ref l/\vs=[y]/\H l=some (.lst xs)/\xs.length < sizeLine/\Q .non (upd H l (.lst (xs++[y])))
theorem zm8:MtM X "list.append" zoe:=by
 intro pins s σ H x vs v us Q I rx rv h;obtain ⟨l,xs,y,rfl,rfl,hH,hz,q⟩:=h;cases rx
 obtain ⟨u,rfl,ru⟩:=rv.one;obtain ⟨z,its,n,r,hl,e⟩:=I.lstM hH;refine call_meets F.slot_list_append ⟨_,e,rfl⟩ F.entry_list_append (F.args_list_append_2 _ _) (PySem.list_append l its.toArray n u (by rw [List.size_toArray]; omega)) ⟨e,?_⟩;refine ⟨.non,_,I.lset (its':=its++[u]) hH e (by simp) (r.append (.cons ru .nil)) ?_,rfl,q⟩;rw [List.length_append,List.length_singleton];omega
def zpi:V->List V->Hp->VK->Prop:=λx vs H Q=>∃ l xs,x=.ref l/\vs=[]/\H l=some (.lst xs)/\Q .non (upd H l (.lst xs.reverse))
theorem zqg:MtM X "list.reverse" zpi:=by
 intro pins s σ H x vs v us Q I rx rv h;obtain ⟨l,xs,rfl,rfl,hH,q⟩:=h;cases rx
 have hus:=rv.zero;subst hus;obtain ⟨z,its,n,r,hl,e⟩:=I.lstM hH;refine call_meets F.slot_list_reverse ⟨_,e,rfl⟩ F.entry_list_reverse (F.args_list_reverse_1 _) (AutoSeq1.list_reverse_list_0 l its.toArray n (by rw [List.size_toArray]; omega)) ⟨e,?_⟩;refine ⟨.non,_,I.lset (its':=its.reverse) hH e (by simp) r.reverse ?_,rfl,q⟩;rw [List.length_reverse];omega
def zv5:V->List V->Hp->VK->Prop:=λx vs H Q=>∃ l xs,x=.ref l/\vs=[]/\H l=some (.lst xs)/\Q .non (upd H l (.lst []))
theorem zuz:MtM X "list.clear" zv5:=by
 intro pins s σ H x vs v us Q I rx rv h;obtain ⟨l,xs,rfl,rfl,hH,q⟩:=h;cases rx
 have hus:=rv.zero;subst hus;obtain ⟨z,its,n,r,hl,e⟩:=I.lstM hH;refine call_meets F.slot_list_clear ⟨_,e,rfl⟩ F.entry_list_clear (F.args_list_clear_1 _) (AutoSeq1.list_clear_list_0 l its.toArray n (by rw [List.size_toArray]; omega)) ⟨e,?_⟩;exact ⟨.non,_,I.lset (its':=[]) (ys:=[]) hH e rfl .nil (Nat.zero_le _),rfl,q⟩
def zEe:R2:=λx y H Q=>∃ l b xs zs,x=.ref l/\y=.ref b/\H l=some (.lst xs)/\H b=some (.lst zs)/\xs.length+zs.length<=sizeLine/\∀ p,H p=none->Q (.ref p) (upd H p (.lst (xs++zs)))
theorem zAi:OpR X (binaryOp .Add) zEe:=by
 intro pins s σ H x y v u Q I rx ry h;obtain ⟨l,b,xs,zs,rfl,rfl,hH,hB,hz,q⟩:=h;cases rx
 cases ry
 obtain ⟨z,its,n,r,hl,e⟩:=I.lstM hH;obtain ⟨z2,its2,n2,r2,hl2,e2⟩:=I.lstM hB;refine PySem.P.add_list e e2 ?_ (by rw [List.size_toArray,List.size_toArray]; omega);have ea:its.toArray++its2.toArray=(its++its2).toArray:=by simp
 rw [ea];exact ⟨.ref _,_,I.lnew (t':=s.toks) (r.append r2) (by rw [List.length_append]; omega),rfl,q _ I.fresh⟩
def zEf:R2:=λx y H Q=>∃ l k xs,x=.ref l/\y=.int k/\H l=some (.lst xs)/\-(2 ^ 63)<=k/\k < 2 ^ 63/\xs.length*k.toNat<=sizeLine/\
 ∀ p,H p=none->Q (.ref p) (upd H p (.lst (List.replicate k.toNat xs).flatten))
theorem zxn {α:Type} (xs:List α) (k:Nat):(List.replicate k xs).flatten.length=k*xs.length:=by
 induction k with
 | zero=>simp
 | succ k ih=>rw [List.replicate_succ,List.flatten_cons,List.length_append,ih,Nat.succ_mul,Nat.add_comm]
theorem zAj : OpR X (binaryOp .Mult) zEf := by
  intro pins s σ H x y v u Q I rx ry h;obtain ⟨l, k, xs, rfl, rfl, hH, h1, h2, hz, q⟩ := h;cases rx
  obtain ⟨t, rfl⟩ := ry;obtain ⟨z, its, n, r, hl, e⟩ := I.lstM hH;have hlen : its.toArray.size * k.toNat <= sizeLine := by rw [List.size_toArray, <- hl]; exact hz
  have hcap : ¬ its.toArray.size * k.toNat > (2 ^ 63 - 1) / 8 := by
    have : (sizeLine : Nat) <= (2 ^ 63 - 1) / 8 := by decide
    omega
  have hfit : ¬ (!Builtin.List.listFitsIndex k) = true := by
    rw [fitsIndex_both h1 h2];exact Bool.false_ne_true
  have hlong : ¬ Builtin.List.listTooLong (its.toArray.size * k.toNat) = true := by
    rw [zuy hlen];exact Bool.false_ne_true
  have hnew : List.foldl (λx1 x2 => x1 ++ x2) #[] (List.replicate (if its.toArray.isEmpty = true then 0 else k.toNat) its.toArray) = (List.replicate k.toNat its).flatten.toArray := by
    have f0 : ∀ m : Nat, List.foldl (λx1 x2 => x1 ++ x2) #[] (List.replicate m its.toArray) = (List.replicate m its).flatten.toArray := λm => by
      have := zm7 its m [];rw [List.nil_append] at this;exact this
    rw [f0];cases its with
    | nil => simp
    | cons a r' => rw [if_neg (by simp)]
  refine wpAny_binaryOp_repeat_ref (T := "list") (U := "int") (by decide) ⟨_, e, rfl⟩ (λs' => typeIs_int s' k t) noFill_list_mul F.fills_int_mul F.slot_int_rmul repeat_list F.slot_int_index.lookup
    (call_meets F.slot_int_rmul (typeIs_int s k t) F.entry_int_rmul (F.args_int_rmul_2 _ _) (int___rmul___int_list k t l its.toArray n)
      ⟨e, rfl, ⟨_, e, rfl⟩, call_meets F.slot_list_mul ⟨_, e, rfl⟩ F.entry_list_mul (F.args_list_mul_2 _ _) (AutoListH.list___mul___list_int_3 l its.toArray n k t hfit hcap hlong) ⟨e, ?_⟩⟩)
  rw [hnew];exact ⟨.ref _, _, I.lnew (t' := s.toks) (r.rep k.toNat) (by rw [zxn, Nat.mul_comm]; exact hz), rfl, q _ I.fresh⟩
end
section
variable {prog:Program} {w:World} {A:Around} {E:Value->Shared->Prop} {s:Shared}
end
section
variable {X:Cx}
end
end L2
namespace Att
open PySem PySem.W PySem.Calls PyProof.Rows
theorem zko {P:Params} {h:Heap}:∀ (ns:List Int) (vs:List Value),WellAll P h vs (ns.map WData.int)->IntsAre vs ns:=by
 intro ns
 induction ns with
 | nil=>
  intro vs w;rw [List.map_nil] at w;cases w
  exact .nil
 | cons n ns ih=>
  intro vs w;rw [List.map_cons] at w;cases w with
  | cons a b=>
   cases a
   exact .cons _ _ (ih _ b)
theorem zrM {l:OpenLaw} {n:Nat} (hn:l.most=some n) {P:Params} {h:Heap} {args:List WData} {vals:List Value}
  (hpre:l.row.toRowW.claim.pre args=true) (hwl:WellAll P h vals args) :
  ∃ a vs ns,vals=[Value.ref a]/\args=[WData.list (ns.map WData.int)]/\h.get? a=some { cls:=.type "list",data:=.seq vs.toArray }/\IntsAre vs ns/\ns.length<=n:=by
 have hsh:WShape.hasAll [] args [.list .int]=true:=(pre_splitW hpre).1;have hc:l.pre.holds [] { args:=args }=true:=(pre_splitW hpre).2;obtain ⟨d,r,rfl,h1,h2⟩:=hasAllW_cons hsh;obtain rfl:=hasAllW_nil h2;obtain ⟨xs,rfl,h3⟩:=hasW_list h1;obtain ⟨ns,rfl⟩:=items_int h3;have hlen:ns.length<=n:=by
  unfold OpenLaw.pre at hc;have h4:(WTm.not (.lt (.lit (.int (n:Int))) (.len (.arg 0)))).holds [] { args:=[.list (ns.map .int)] }=true:=by
   have h4:=(holds_andW hc).1;rw [hn] at h4;exact h4
  have h5:=condW_of h4 (w_not (w_lt w_lit (w_len_list (w_arg rfl))));rw [List.length_map] at h5;refine Nat.le_of_not_lt λq=>?_;have q':(n:Int) < ((ns.length:Nat):Int):=by omega
  first
   | (rw [decide_eq_true q'] at h5; exact absurd h5 (by decide))
   | (simp at h5; omega)
 cases hwl with
 | cons w1 w2=>
  cases w2
  cases w1 with
  | list ho hall=>exact ⟨_,_,ns,rfl,rfl,ho,zko ns _ hall,hlen⟩
theorem zrN (l:OpenLaw) (args:List WData):l.row.toRowW.claim.post args (.bool true) args=true:=
 postW_of (r:=l.row.toRowW) (X:=(true==true))
  (show WShape.has [] (.bool true) .bool=true by first | rfl | decide | simp [WShape.has,WShape.arms,WShape.armsAll])
  (show (WTm.eq .res (.lit (.bool true))).value [] { args:=args,res:=some (.bool true),after:=args }=some (.bool (true==true)) from w_eq_bool (w_res rfl) w_lit) rfl
theorem attach_call {l : OpenLaw} {n : Nat} {q : Program} {loose : List Str} {XP : (Str -> Option Value) -> Heap -> Prop} {YP : World -> Heap -> Prop} {d : DefRec}
    (hn : l.most = some n) (hdf : d.params.defaults = [])
    (call : ∀ (w : World) (s₀ s₁ : Shared) (mg mb : Str -> Option Value) (fa : Addr) (o : Obj) (pm cd doc : Value) (a : Addr) (vs : List Value) (ns : List Int),
      Ground q loose [] XP w s₀ mg mb s₁.heap -> YP w s₁.heap ->
      s₁.heap.get? fa = some o -> o.data = .func (docDef d.name d.params d.body d.scope pm cd doc) -> s₁.heap.CodeRec cd d.name -> mg d.name = some (.ref fa) ->
      s₁.heap.get? a = some { cls := .type "list", data := .seq vs.toArray } -> IntsAre vs ns -> ns.length <= n -> s₁.gens = #[] ->
      codeAny (model l.prog w) callerA (.call (.ref fa) ⟨[.ref a], []⟩) (λr s' => r = .ok (.ret (.bool true)) /\ OldK s₁.heap s'.heap /\ s'.os = s₁.os /\ AllBare s'.gens) s₁) :
    WalkO q loose XP YP l.row.toRowW d [] (λf vs => PySem.call f vs) := by
  intro w s₀ s₁ mg mb G Y fa o pm cd doc dV kV ho hd hcd hD hmg hg args vals as hpre hlay hrd hwl hlo;obtain rfl : dV = .none := Dflts.none hD hdf;obtain rfl : kV = .none := Dflts.noKw hD;obtain ⟨a, vs, ns, rfl, rfl, hobj, hints, hlen⟩ := zrM hn hpre hwl;refine enter_call (codeAny_mono (call w s₀ s₁ mg mb fa o pm cd doc a vs ns G Y ho (fd_plain hd) hcd hmg hobj hints hlen hg) λr s' hq => ?_);obtain ⟨rfl, h2, h3, h4⟩ := hq
  exact ⟨.inl ⟨.bool true, .bool true, [], rfl, λ_ => rfl, .bool true, zrN l _, λ_ => ⟨List.Pairwise.nil, λ_ hm => (nomatch hm)⟩⟩, h2, h3, h4⟩
section
variable {prog:Program} {w:World} {A:Around} {E:Value->Shared->Prop} {s:Shared} {K:Frag}
end
end Att
namespace L2
open PySem PySem.Spec PyProof.Rows
theorem zm9:∀ {vs:List Value} {ns:List Int},IntsAre vs ns->Vals (ns.map V.int) vs
 | _,_,.nil=>.nil
 | _,_,.cons n t h=>.cons ⟨t,rfl⟩ (zm9 h)
def zCf (H:Hp):Prop:=∀ b,H b=none\/∃ o xs,H b=some (.frz o (.lst xs))
theorem zuA {P:Program} {w:World} {K:W.Frag} {mg mb:Str->Option Value} {CX:CXT} {k:Nat} {fa a:Addr} {fd:FuncData} {x:Str} {sp:Sp} {s₁:Shared} {vs:List Value} {ns:List Int}
  (KX:K.In s₁.heap) (hns:s₁.heap.Ns mainGlobals mg) (hb:s₁.heap.Ns builtinsNs mb) (hbb:∀ x:Str,x≠"__name__"->mb x=bootBuiltins x) (hlim:s₁.heap.NoLimit) (hg:s₁.gens=#[])
  (ha:s₁.heap.get? a=some { cls:=.type "list",data:=.seq vs.toArray }) (hi:IntsAre vs ns) (hl:ns.length<=sizeLine) (hr:Room k callerA)
  (F:∀ base:Heap,K.In base->base.Ns mainGlobals mg->FnOk P w K mg base CX k fa fd [x] sp) (hbind:∀ (s:Shared) (u:Value),BindsTo s fd ⟨[u],[]⟩ [(x,u)])
  (hsp:∀ H:Hp,zCf H->SqL K H a (ns.map V.int)->sp [.ref a] H (λv _=>v=.bl true) λ_ _ _=>False)
  (hCX:∀ H e s',CX [] H s₁ (λ_ _ _=>False) e s'->False) :
  codeAny (model P w) callerA (.call (.ref fa) ⟨[.ref a],[]⟩) (λr s'=>r=.ok (.ret (.bool true))/\OldK s₁.heap s'.heap/\s'.os=s₁.os/\AllBare s'.gens) s₁:=by
 have rv:=zm9 hi;have lenV:=hi.length
 -- from an abstract heap in which nothing but the script may be tracked
 have core:∀ H:Hp,zCf H->SqL K H a (ns.map V.int)->HOk P w H s₁.heap->(∀ b,H b≠none->b=a)->(H a≠none->K.lookup a=none)->
   codeAny (model P w) callerA (.call (.ref fa) ⟨[.ref a],[]⟩) (λr s'=>r=.ok (.ret (.bool true))/\OldK s₁.heap s'.heap/\s'.os=s₁.os/\AllBare s'.gens) s₁:=by
  intro H hO hS hok hA hK;have base_of:∀ {b:Addr} {o:Obj},s₁.heap.get? b=some o->H b=none->(zuj s₁.heap H).get? b=some o:=λe n=>zuk e n;have noA:∀ {b:Addr} {o:Obj} {es:Array DictEntry} {ep:Nat},s₁.heap.get? b=some o->o.data=.dict es ep->H b=none:=λ{b o es ep} e d=>by
   cases q:H b with
   | none=>rfl
   | some u=>
    have e':b=a:=hA b (by rw [q]; simp);subst e';rw [ha] at e; cases e
    have d':Data.seq vs.toArray _=Data.dict es ep:=d;cases d'
  have nsK:∀ {b:Addr} {m:Str->Option Value},s₁.heap.Ns b m->(zuj s₁.heap H).Ns b m:=λ{b m} ⟨o,es,ep,e,d,r⟩=>⟨o,es,ep,base_of e (noA e d),d,r⟩
  have hKb:K.In (zuj s₁.heap H):=λb o e=>base_of (KX b o e) (by
   cases q:H b with
   | none=>rfl
   | some u=>
    have e':b=a:=hA b (by rw [q]; simp);subst e';rw [hK (by rw [q]; simp)] at e; cases e)
  have hM:Mod K mg (zuj s₁.heap H):=⟨hKb,nsK hns,⟨mb,nsK hb,hbb⟩,let ⟨mc,h1,h2⟩:=hlim; ⟨mc,nsK h1,h2⟩⟩
  have e0:Env0 P w K mg (zuj s₁.heap H) callerA [] s₁ H:=⟨rfl,hM,λb o e=>zwZ e,Nat.le_of_eq (zrq _ _),trivial,λb hb=>absurd (show b∈([]:List Addr) from hb) (by simp),hok,.of_eq hg⟩
  refine codeAny_mono ((F _ hKb (nsK hns)).run callerA [] s₁ H ⟨[.ref a],[]⟩ [.ref a] [.ref a] _ _ hr e0 (hbind s₁ (.ref a)) (.cons rfl .nil) (hsp H hO hS)) λr s' h=>?_;cases r with
  | error e=>exact (hCX H e s' h).elim
  | ok fl=>
   cases fl with
   | next=>exact False.elim h
   | brk=>exact False.elim h
   | cont=>exact False.elim h
   | ret u=>
    obtain ⟨v,H',os,bare,un,hok',r',q⟩:=h;have q':v=.bl true:=q;subst q';obtain rfl:u=Value.bool true:=r';refine ⟨rfl,OldK.of_keep λb o e=>?_,os,bare⟩;cases q:H b with
    | none=>exact un.keep b o e q (by intro z; exact absurd (show b∈([]:List Addr) from z) (by simp)) (by simp)
    | some u=>
     rcases hO b with z | ⟨ob,xs,z⟩
     ·rw [q] at z; cases z
     ·have z2:=un.frzs b ob _ z;obtain ⟨e1,_⟩:=hok b _ z;obtain ⟨e2,_⟩:=hok' b _ z2;rw [e] at e1; cases e1
      exact e2
 cases hk:K.lookup a with
 | some o=>
  -- the script is one of the module's own objects
  have e:=KX a o hk;rw [ha] at e;cases e
  refine core (λ_=>none) (λ_=>.inl rfl) (.inr ⟨_,vs.toArray,_,hk,rfl,rfl,rfl,by rw [List.size_toArray,lenV]; exact hl,by simpa using rv⟩) (λb u z=>by have z':(none:Option HO)=some u:=z; cases z') (λb z=>absurd rfl z) λz=>absurd rfl z
 | none=>
  refine core (λb=>if b=a then some (.frz { cls:=.type "list",data:=.seq vs.toArray } (.lst (ns.map V.int))) else none) (λb=>?_) (.inl (.inr ⟨{ cls:=.type "list",data:=.seq vs.toArray },if_pos rfl⟩)) (λb u z=>?_) (λb z=>?_) λ_=>hk
  ·by_cases hb:b=a
   ·exact .inr ⟨_,_,if_pos hb⟩
   ·exact .inl (if_neg hb)
  ·by_cases hb:b=a
   ·have z':=(if_pos hb).symm.trans z;cases z'
    subst hb;exact ⟨ha,by rw [List.length_map]; exact hl,vs,_,rv,ha⟩
   ·have z':=(if_neg hb).symm.trans z;cases z'
  ·by_cases hb:b=a
   ·exact hb
   ·exact absurd (if_neg hb) z
theorem walk_of {l : W.OpenLaw} {n k : Nat} {q : Program} {loose : List Str} {XP : (Str -> Option Value) -> Heap -> Prop} {YP : World -> Heap -> Prop} {d : DefRec} {K : Params -> W.Frag} {CX : World -> CXT} {sp : World -> Sp} {x : Str}
    (hn : l.most = some n) (hn2 : n <= sizeLine) (hdf : d.params.defaults = []) (hr : Room k callerA)
    (hY : ∀ (w : World) (h : Heap), YP w h -> (K w.params).In h)
    (F : ∀ (w : World) (mg : Str -> Option Value) (fa : Addr) (h : Heap), (K w.params).In h -> h.Ns mainGlobals mg -> mg d.name = some (.ref fa) ->
      ∃ fd : FuncData, (∀ (s : Shared) (u : Value), BindsTo s fd ⟨[u], []⟩ [(x, u)]) /\
        ∀ base : Heap, (K w.params).In base -> base.Ns mainGlobals mg -> FnOk l.prog w (K w.params) mg base (CX w) k fa fd [x] (sp w))
    (hsp : ∀ (w : World) (H : Hp) (a : Addr) (ns : List Int), ns.length <= n -> zCf H -> SqL (K w.params) H a (ns.map V.int) -> sp w [.ref a] H (λv _ => v = .bl true) λ_ _ _ => False)
    (hCX : ∀ (w : World) (H : Hp) (s : Shared) (e : Value) (s' : Shared), CX w [] H s (λ_ _ _ => False) e s' -> False) :
    W.WalkO q loose XP YP l.row.toRowW d [] (λf vs => PySem.call f vs) := by
  refine Att.attach_call hn hdf λw s₀ s₁ mg mb fa o pm cd doc a vs ns G Y ho hd hcd hmg hobj hints hlen hg => ?_;have KX := hY w _ Y;obtain ⟨fd, hb, hF⟩ := F w mg fa _ KX G.T.g hmg;exact zuA KX G.T.g G.T.b G.T.builtins G.T.nolimit hg hobj hints (Nat.le_trans hlen hn2) hr hF hb (λH hO hS => hsp w H a ns hlen hO hS) λH e s' => hCX w H s₁ e s'
def zb4 (s:Stmt) (j:Nat):Stmt:=match s with
 | .ClassDef _ _ _ body _ _ _ _ _ _ _=>body.getD j (.Pass ⟨0,0,0,0⟩)
 | _=>.Pass ⟨0,0,0,0⟩
def zdA (s:Stmt):Arguments:=match s with
 | .FunctionDef _ a _ _ _ _ _ _ _ _=>a
 | _=>{ posonlyargs:=[],args:=[],vararg:=none,kwonlyargs:=[],kw_defaults:=[],kwarg:=none,defaults:=[] }
def zb5 (s:Stmt):List Stmt:=match s with
 | .FunctionDef _ _ b _ _ _ _ _ _ _=>b
 | _=>[]
def zae (s:Stmt):Scope:=match s with
 | .FunctionDef _ _ _ _ _ _ sc _ _ _=>sc
 | _=>{ kind:=.function,names:=[],isGenerator:=false,isCoroutine:=false }
abbrev CX0:CXT:=λ_ _ _ _ _ _=>False
abbrev E0:XK:=λ_ _ _=>False
theorem zuB {X:Cx}:zhZ CX0 X E0:=λ_ _ _ _ _ _ _ h=>h.elim
structure Fun (K:W.Frag) (x qual:Str) (st:Stmt) (f:Addr) (fd:FuncData):Prop where
 ex:∃ (oc:Value) (od:Option Addr) (kV doc pm:Value) (an:Option Addr) (cdv ct:Value) (osl:Array (Option Value)),
  fd=W.fnOf x qual (zdA st) (zb5 st) (zae st) .none kV doc pm an cdv ct/\K.lookup f=some ⟨oc,od,.func fd,osl⟩/\W.codeIn K cdv qual=true
 kp:W.keepIn K (.ref f)=true
section
variable {P:Program} {w:World} {K:W.Frag} {mg:Str->Option Value} {base:Heap}
theorem Fun.binds {x qual:Str} {st:Stmt} {f:Addr} {fd:FuncData} {ps:List Str} (F:Fun K x qual st f fd)
  (h:∀ (kV doc pm:Value) (an:Option Addr) (cdv ct:Value) (us:List Value),us.length=ps.length->bindArgs (W.fnOf x qual (zdA st) (zb5 st) (zae st) .none kV doc pm an cdv ct) ⟨us,[]⟩=pure (ps.zip us)):Binds K fd ps []:=by
 obtain ⟨oc,od,kV,doc,pm,an,cdv,ct,osl,rfl,lk,hcd⟩:=F.ex;exact .all (h kV doc pm an cdv ct)
theorem zv6 {x qual:Str} {st:Stmt} {f:Addr} {oc:Value} {od an:Option Addr} {osl:Array (Option Value)} {kV doc pm cdv ct:Value} (l:K.lookup f=some ⟨oc,od,.func (W.fnOf x qual (zdA st) (zb5 st) (zae st) .none kV doc pm an cdv ct),osl⟩)
  (c:W.codeIn K cdv qual=true) (k:W.keepIn K (.ref f)=true):Fun K x qual st f (W.fnOf x qual (zdA st) (zb5 st) (zae st) .none kV doc pm an cdv ct):=⟨⟨oc,od,kV,doc,pm,an,cdv,ct,osl,rfl,l,c⟩,k⟩
end
theorem zAk {A:Around} {k:Nat} (hr:Room k A):A.units+1 < cLine:=Nat.lt_of_le_of_lt (Nat.add_le_add_left (by decide:1<=64) _) hr.units
section
variable {X:Cx}
end
def zCP (H H':Hp):Prop:=∀ b o,H b=some o->H' b=some o
section
variable {κ:Type} [DecidableEq κ]
def zmm (kvs:List (κ×V)) (k:κ):Option V:=(kvs.find? λkv=>decide (kv.1=k)).map (·.2)
def zna (kvs:List (κ×V)) (k:κ) (v:V):List (κ×V):=
 if (kvs.any λkv=>decide (kv.1=k))=true then kvs.map (λkv=>if kv.1=k then (kv.1,v) else kv) else kvs++[(k,v)]
theorem zmn {p:κ×V} {r:List (κ×V)} {k:κ} (e:p.1=k):zmm (p :: r) k=some p.2:=by simp [zmm,List.find?_cons,e]
theorem zmo {p:κ×V} {r:List (κ×V)} {k:κ} (e:¬ p.1=k):zmm (p :: r) k=zmm r k:=by simp [zmm,List.find?_cons,e]
theorem zpj (k:κ):∀ kvs:List (κ×V),(kvs.any λkv=>decide (kv.1=k))=(zmm kvs k).isSome
 | []=>rfl
 | p :: r=>by
  rw [List.any_cons]
  by_cases e:p.1=k
  ·simp only [zmn e,decide_eq_true e,Bool.true_or,Option.isSome_some]
  ·rw [zmo e,decide_eq_false e,Bool.false_or]; exact zpj k r
theorem zkp (kvs:List (κ×V)) (k:κ) (v:V):(zna kvs k v).length<=kvs.length+1:=by
 unfold zna;split
 ·rw [List.length_map]; omega
 ·rw [List.length_append,List.length_cons,List.length_nil]; omega
theorem RelO.isSome_eq {o:Option V} {u:Option Value} (r:RelO o u):o.isSome=u.isSome:=by
 cases o with
 | none=>cases u with
  | none=>rfl
  | some _=>exact (show False from r).elim
 | some _=>cases u with
  | none=>exact (show False from r).elim
  | some _=>rfl
theorem KV.val {kvs:List (κ×V)} {vs:List (κ×Value)} (r:KV kvs vs) (k:κ):RelO (zmm kvs k) (valueAt vs k):=by
 unfold KV at r
 induction r with
 | nil=>exact True.intro
 | @cons p q ps qs h t ih=>
  obtain ⟨h1,h2⟩:=h
  by_cases e:p.1=k
  ·have e':q.1=k:=h1.symm.trans e;have b:valueAt (q :: qs) k=some q.2:=by simp [valueAt,List.find?_cons,e']
   rw [zmn e,b]; exact h2
  ·have e':¬ q.1=k:=λz=>e (h1.trans z);have b:valueAt (q :: qs) k=valueAt qs k:=by simp [valueAt,List.find?_cons,e']
   rw [zmo e,b]; exact ih
theorem KV.any {kvs:List (κ×V)} {vs:List (κ×Value)} (r:KV kvs vs) (k:κ):(kvs.any λkv=>decide (kv.1=k))=vs.any λkv=>decide (kv.1=k):=by
 unfold KV at r
 induction r with
 | nil=>rfl
 | cons h t ih=>rw [List.any_cons,List.any_cons,ih,h.1]
theorem KV.repl {kvs:List (κ×V)} {vs:List (κ×Value)} (r:KV kvs vs) (k:κ) {y:V} {u:Value} (ry:RelV y u) :
  KV (kvs.map λkv=>if kv.1=k then (kv.1,y) else kv) (vs.map λkv=>if kv.1=k then (kv.1,u) else kv):=by
 unfold KV at r ⊢
 induction r with
 | nil=>exact .nil
 | @cons p q ps qs h t ih=>
  rw [List.map_cons,List.map_cons];refine .cons ?_ ih;obtain ⟨h1,h2⟩:=h
  by_cases e:p.1=k
  ·rw [if_pos e,if_pos (h1.symm.trans e)]; exact ⟨h1,ry⟩
  ·rw [if_neg e,if_neg (λz=>e (h1.trans z))]; exact ⟨h1,h2⟩
theorem KV.put {kvs:List (κ×V)} {vs:List (κ×Value)} (r:KV kvs vs) (k:κ) {y:V} {u:Value} (ry:RelV y u):KV (zna kvs k y) (stored vs k u):=by
 unfold zna stored;rw [r.any k]
 by_cases e:(vs.any λkv=>decide (kv.1=k))=true
 ·rw [if_pos e,if_pos e]; exact r.repl k ry
 ·rw [if_neg e,if_neg e]; exact Paired.snoc r ⟨rfl,ry⟩
theorem KV.length {kvs:List (κ×V)} {vs:List (κ×Value)} (r:KV kvs vs):kvs.length=vs.length:=Paired.length r
end
theorem zxo {P:Program} {w:World} {k:Key} {u:Value} (r:RelV (kV k) u):(zdz P w).is k u=true:=by
 cases k with
 | inl i=>obtain ⟨t,e⟩:=(show ∃ t,u=Value.int i t from r); subst e; exact zoa P w i t
 | inr x=>obtain ⟨t,e⟩:=(show ∃ t,u=Value.str x t from r); subst e; exact zob P w x t
theorem znb {P:Program} {w:World}:∀ {ks:List Key} {us:List Value},Vals (ks.map kV) us->ItemsAre (zdz P w) ks us
 | [],_,r=>by rw [List.map_nil] at r; cases r; exact .nil
 | k :: ks,_,r=>by
  rw [List.map_cons] at r;cases r with
  | cons h t=>exact .cons (zxo h) (znb t)
abbrev KT (H:Hp):List (List Key×V)->List (List Key×Addr×Value)->Prop:=Paired λp q=>p.1=q.1/\H q.2.1=some (.tup (p.1.map kV))/\RelV p.2 q.2.2
theorem KT.val {H:Hp} {kvs:List (List Key×V)} {xs:List (List Key×Addr×Value)} (r:KT H kvs xs) (k:List Key):RelO (zmm kvs k) ((atKey xs k).map (·.2)):=by
 induction r with
 | nil=>exact True.intro
 | @cons p q ps qs h t ih=>
  obtain ⟨h1,_,h2⟩:=h
  by_cases e:p.1=k
  ·have e':q.1=k:=h1.symm.trans e;have b:atKey (q :: qs) k=some q.2:=by simp [atKey,List.find?_cons,e']
   rw [zmn e,b]; exact h2
  ·have e':¬ q.1=k:=λz=>e (h1.trans z);have b:atKey (q :: qs) k=atKey qs k:=by simp [atKey,List.find?_cons,e']
   rw [zmo e,b]; exact ih
theorem KT.repl {H:Hp} {kvs:List (List Key×V)} {xs:List (List Key×Addr×Value)} (r:KT H kvs xs) (k:List Key) {y:V} {u:Value} (ry:RelV y u) :
  KT H (kvs.map λkv=>if kv.1=k then (kv.1,y) else kv) (xs.map (putAt k u)):=by
 induction r with
 | nil=>exact .nil
 | @cons p q ps qs h t ih=>
  rw [List.map_cons,List.map_cons];refine .cons ?_ ih;obtain ⟨h1,h2,h3⟩:=h;unfold putAt
  by_cases e:p.1=k
  ·rw [if_pos e,if_pos (h1.symm.trans e)]; exact ⟨h1,h2,ry⟩
  ·rw [if_neg e,if_neg (λz=>e (h1.trans z))]; exact ⟨h1,h2,h3⟩
theorem KT.put {H:Hp} {kvs:List (List Key×V)} {xs:List (List Key×Addr×Value)} (r:KT H kvs xs) (k:List Key) {b:Addr} {y:V} {u:Value} (hb:H b=some (.tup (k.map kV))) (ry:RelV y u) :
  KT H (zna kvs k y) (storedH xs k b u):=by
 have e:(kvs.any λkv=>decide (kv.1=k))=(atKey xs k).isSome:=by
  rw [zpj,(r.val k).isSome_eq,Option.isSome_map]
 unfold zna storedH;rw [e]
 by_cases q:(atKey xs k).isSome=true
 ·rw [if_pos q,if_pos q]; exact r.repl k ry
 ·rw [if_neg q,if_neg q]; exact Paired.snoc r ⟨rfl,hb,ry⟩
theorem KT.keeps {H H':Hp} {kvs:List (List Key×V)} {xs:List (List Key×Addr×Value)} (r:KT H kvs xs) (ht:∀ b ys,H b=some (.tup ys)->H' b=some (.tup ys)):KT H' kvs xs:=
 Paired.mapP r λ_ _ z=>⟨z.1,ht _ _ z.2.1,z.2.2⟩
section
variable {P:Program} {w:World} {H:Hp} {h:Heap} {a:Addr}
theorem zAl {u:HO} (ok:HOk P w H h) (e:Rd H a u):ObjOk P w H h a u:=e.ok ok
theorem zuC {kvs:List (Key×V)} (ok:HOk P w H h) (e:Rd H a (.dK kvs)):kvs.length<=sizeLine/\(a==sysModules)=false/\∃ vs,KV kvs vs/\h.DictOf (zdz P w) a vs:=
 show ObjOk P w H h a (.dK kvs) from zAl ok e
theorem zCQ {kvs:List (Key×V)} (ok:HOk P w H h) (e:H a=some (.dK kvs)):kvs.length<=sizeLine/\(a==sysModules)=false/\∃ vs,KV kvs vs/\h.DictOf (zdz P w) a vs:=zuC ok (.inl e)
theorem zrO {ks:List Key} (ok:HOk P w H h) (e:H a=some (.tup (ks.map kV))):(tupleKind (zdz P w)).is h ks a:=by
 obtain ⟨_,its,r,o,h1,h2,n,h3⟩:=(show ObjOk P w H h a (.tup (ks.map kV)) from ok a _ e)
 exact ⟨o,its.toArray,n,h1,h2,h3,by simpa using znb r⟩
theorem zuD {kvs:List (List Key×V)} (ok:HOk P w H h) (e:Rd H a (.dT kvs)):kvs.length<=sizeLine/\(a==sysModules)=false/\
  ∃ xs,KT H kvs xs/\h.DictOfH (tupleKind (zdz P w)) a xs:=by
 obtain ⟨z,y,xs,r,o,es,ep,h1,h2,h3,h4,h5⟩:=(show ObjOk P w H h a (.dT kvs) from zAl ok e)
 refine ⟨z,y,xs,r,o,es,ep,h1,h2,h3,h4,λx hx=>?_,h5⟩;have all:∀ {l:List (List Key×V)} {m:List (List Key×Addr×Value)},KT H l m->∀ x∈m,(tupleKind (zdz P w)).is h x.1 x.2.1:=by
  intro l m q
  induction q with
  | nil=>intro x hx; exact nomatch hx
  | @cons p q ps qs hq t ih=>
   intro x hx;rcases List.mem_cons.mp hx with e | hx
   ·subst e;exact zrO ok (by rw [<- hq.1]; exact hq.2.1)
   ·exact ih x hx
 exact all r x hx
theorem zxp {kvs:List (List Key×V)} (ok:HOk P w H h) (e:H a=some (.dT kvs)):kvs.length<=sizeLine/\(a==sysModules)=false/\
  ∃ xs,KT H kvs xs/\h.DictOfH (tupleKind (zdz P w)) a xs:=zuD ok (.inl e)
end
def DGet (H:Hp) (a:Addr) (y:V) (r:Option V):Prop:=
 (∃ kvs k,Rd H a (.dK kvs)/\y=kV k/\r=zmm kvs k)\/∃ kvs k b,Rd H a (.dT kvs)/\y=.ref b/\H b=some (.tup (k.map kV))/\r=zmm kvs k
def DPut (H:Hp) (a:Addr) (y v:V) (H':Hp):Prop:=
 (∃ kvs k,H a=some (.dK kvs)/\y=kV k/\kvs.length < sizeLine/\H'=upd H a (.dK (zna kvs k v)))\/
 ∃ kvs k b,H a=some (.dT kvs)/\y=.ref b/\H b=some (.tup (k.map kV))/\kvs.length < sizeLine/\H'=upd H a (.dT (zna kvs k v))
theorem DGet.k {H:Hp} {a:Addr} {kvs:List (Key×V)} {k:Key} (e:H a=some (.dK kvs)):DGet H a (kV k) (zmm kvs k):=.inl ⟨kvs,k,.inl e,rfl,rfl⟩
theorem DGet.t {H:Hp} {a b:Addr} {kvs:List (List Key×V)} {k:List Key} (e:H a=some (.dT kvs)) (eb:H b=some (.tup (k.map kV))):DGet H a (.ref b) (zmm kvs k):=.inr ⟨kvs,k,b,.inl e,rfl,eb,rfl⟩
theorem DPut.k {H:Hp} {a:Addr} {kvs:List (Key×V)} {k:Key} {v:V} (e:H a=some (.dK kvs)) (hl:kvs.length < sizeLine):DPut H a (kV k) v (upd H a (.dK (zna kvs k v))):=.inl ⟨kvs,k,e,rfl,hl,rfl⟩
theorem DPut.t {H:Hp} {a b:Addr} {kvs:List (List Key×V)} {k:List Key} {v:V} (e:H a=some (.dT kvs)) (eb:H b=some (.tup (k.map kV))) (hl:kvs.length < sizeLine) :
  DPut H a (.ref b) v (upd H a (.dT (zna kvs k v))):=.inr ⟨kvs,k,b,e,rfl,eb,hl,rfl⟩
section
variable {X:Cx} {pins:List (Addr×Obj)} {σ:St} {H:Hp} {s:Shared} {a:Addr} {y v:V} {u r:Value} {o:Option V} {A:Around} {E:Value->Shared->Prop}
theorem Inv.big (I:Inv X pins σ H s):sysModules < s.heap.objs.size:=by
 have h:mainGlobals < s.heap.objs.size:=(I.mod.glob.keeps I.bk).lt;exact Nat.lt_trans (by decide) h
theorem zrP {Q:Value->Shared->Prop} (hu:A.units+1 < cLine) (I:Inv X pins σ H s) (g:DGet H a y (some v)) (ry:RelV y u) (h:∀ w' s',Inv X pins σ H s'->RelV v w'->Q w' s') :
  wpAny (model X.prog X.w) A (getItem (.ref a) u) Q E s:=by
 rcases g with ⟨kvs,k,e,ey,l⟩ | ⟨kvs,k,b,e,ey,eb,l⟩
 ·subst ey;obtain ⟨z,hd,vs,rel,dd⟩:=zuC I.hok e;obtain ⟨w',hw,rw'⟩:=RelO.some_of (v:=v) (o:=valueAt vs k) (by rw [l]; exact rel.val k);exact wpAny_getItem_of (zxo ry) dd.mapOf hw (h w' _ (I.tok _) rw')
 ·subst ey;cases (show u=Value.ref b from ry)
  obtain ⟨z,hd,xs,rel,dd⟩:=zuD I.hok e;obtain ⟨w',hw,rw'⟩:=RelO.some_of (v:=v) (o:=(atKey xs k).map (·.2)) (by rw [l]; exact rel.val k);obtain ⟨p,hp,hp2⟩:=Option.map_eq_some_iff.mp hw;refine wpAny_getItem_heap (tupleKind_room_in1 hu) (zrO I.hok eb) dd hp ?_;rw [hp2];exact h w' _ (I.tok _) rw'
theorem zrQ {h':Heap} {t':Nat} {ob:HO} (I:Inv X pins σ H s) (mu:Mut (H a)) (hs:Heap.SameBut a s.heap h') (he:∃ q,h'.get? a=some q) (new:ObjOk X.prog X.w (upd H a ob) h' a ob) :
  Inv X pins σ (upd H a ob) { s with heap:=h',toks:=t' }:=
 I.write (x:=a) (e:=a) mu (.inl rfl) (λb q hb z=>(hs.2 b hb).trans z) he new
theorem zAm {P:Program} {w:World} {H':Hp} {h':Heap} {kvs:List (Key×V)} {vs:List (Key×Value)} (z:kvs.length<=sizeLine) (hd:(a==sysModules)=false) (rel:KV kvs vs) (dd:h'.DictOf (zdz P w) a vs) :
  ObjOk P w H' h' a (.dK kvs):=⟨z,hd,vs,rel,dd⟩
theorem zrR {H':Hp} {Q:Unit->Shared->Prop} (hu:A.units+1 < cLine) (I:Inv X pins σ H s) (g:DPut H a y v H') (ry:RelV y u) (rv:RelV v r) (h:∀ s',Inv X pins σ H' s'->Q () s') :
  wpAny (model X.prog X.w) A (setItem (.ref a) u r) Q E s:=by
 rcases g with ⟨kvs,k,e,ey,l,eH⟩ | ⟨kvs,k,b,e,ey,eb,l,eH⟩
 ·subst ey eH;obtain ⟨z,hd,vs,rel,dd⟩:=zCQ I.hok e;have hz:vs.length<=sizeLine:=by rw [<- rel.length]; exact z
  have hl:(zna kvs k v).length<=sizeLine:=by have:=zkp kvs k v; omega
  refine wpAny_setItem_pairs (hsz:=hz) (zxo ry) dd λh' dd' hs=>h _ ?_;have he:∃ q,h'.get? a=some q:=let ⟨q,_,_,hq,_⟩:=dd'; ⟨q,hq⟩;exact zrQ I (by rw [e]; exact True.intro) hs he (zAm hl hd (rel.put k rv) dd')
 ·subst ey eH;cases (show u=Value.ref b from ry)
  obtain ⟨z,hd,xs,rel,dd⟩:=zxp I.hok e;have hz:xs.length<=sizeLine:=by rw [<- Paired.length rel]; exact z
  have hl:(zna kvs k v).length<=sizeLine:=by have:=zkp kvs k v; omega
  refine wpAny_setItem_heap (hsz:=hz) (tupleKind_room_in1 hu) (zrO I.hok eb) dd λh' dd' hs=>h _ ?_;obtain ⟨q,es,ep,hq,h2,h3,h4,_,h5⟩:=dd';refine zrQ I (by rw [e]; exact True.intro) hs ⟨q,hq⟩ ⟨hl,hd,_,(rel.put k eb rv).keeps λc ys ec=>?_,q,es,ep,hq,h2,h3,h4,h5⟩;rw [zaW (zCz ec e (λz=>nomatch z))];exact ec
end
section
variable {X:Cx} {pins:List (Addr×Obj)} {σ:St} {H:Hp} {s:Shared} {a:Addr} {kvs:List (Key×V)} {k:Key} {u:Value} {A:Around} {E:Value->Shared->Prop}
theorem zCR {Q:Value->Shared->Prop} (I:Inv X pins σ H s) (e:Rd H a (.dK kvs)) (h:∀ t s',Inv X pins σ H s'->Q (.int kvs.length t) s'):wpAny (model X.prog X.w) A (call (.builtin "len") [.ref a]) Q E s:=by
 obtain ⟨z,hd,vs,rel,dd⟩:=zuC I.hok e;refine call_len_dict hd dd (by rw [<- rel.length]; rw [sizeLine_eq] at z; omega) ?_;rw [<- rel.length];exact h _ _ (I.tok _)
end
def zCS (i:Expr):Prop:=∀ ov iv,subscripted i false ov iv=operate [ov,iv] (getItem ov iv)
theorem zxq {prog:Program} {w:World} {A:Around} {E:Value->Shared->Prop} {s:Shared} {env:Env} {value slice:Expr} {pos:Pos} {T id:String} {Q:Value->Shared->Prop}
  (hl:typeLookup (.type T) "__getitem__"=pure (some (.builtin id))) (hs:zCS slice)
  (h:wpAny (model prog w) A (eval value env) (λo s₁=>wpAny (model prog w) A (eval slice env) (λi s₂=>s₂.TypeIs o T/\wpAny (model prog w) A (getItem o i) Q E s₂) E s₁) E s) :
  wpAny (model prog w) A (eval (.Subscript value slice pos) env) Q E s:=by
 refine Subscript_ (wpAny_mono h (λo s₁ h₁=>wpAny_mono h₁ (λi s₂ h₂=>?_) λ_ _ x=>x) λ_ _ x=>x);obtain ⟨hT,h₂⟩:=h₂;unfold subscriptTail;refine wpAny_bind ?_;rw [getitemInPython_of_ne hT.not_modules];refine wpAny_bind (wpAny_specialOf hT hl ?_);have fin:wpAny (model prog w) A (subscripted slice false o i) (λr s₃=>wpAny (model prog w) A (letTemporaryGo value o r >>= λ_=>pure r) Q E s₃) E s₂:=by
  rw [hs o i];exact wpAny_operating (wpAny_mono h₂ (λr s₃ h₃=>wpAny_bind (wpAny_letTemporaryGo (wpAny_pure h₃))) λ_ _ x=>x)
 first
  | exact wpAny_pure (wpAny_bind fin)
  | exact wpAny_bind (wpAny_pure (wpAny_bind fin))
  | exact wpAny_bind fin
theorem zof {X:Cx} {pins:List (Addr×Obj)} {σ:St} {H:Hp} {s:Shared} {a:Addr} {y:V} {o:Option V} (I:Inv X pins σ H s) (g:DGet H a y o):s.TypeIs (.ref a) "dict":=by
 rcases g with ⟨kvs,k,e,_,_⟩ | ⟨kvs,k,b,e,_,_,_⟩
 ·obtain ⟨_,_,vs,_,dd⟩:=zuC I.hok e;exact dd.typeIs
 ·obtain ⟨_,_,xs,_,dd⟩:=zuD I.hok e;exact dd.typeIs
def zAn (td ty:TE):TE:=λσ H Q=>td σ H λx H1=>ty σ H1 λy H2=>∃ a v,x=.ref a/\DGet H2 a y (some v)/\Q v H2
def zxr (td ty tv:TE):TS:=λD σ H=>tv σ H λv H1=>td σ H1 λx H2=>ty σ H2 λy H3=>∃ a H4,x=.ref a/\DPut H3 a y v H4/\D.nx σ H4
section
variable {X:Cx} {o i e value:Expr} {pos pos' tpos:Pos} {td ty tv:TE}
theorem zxs (hu:X.A.units+1 < cLine) (ho:PE X o td) (hi:PE X i ty) (hs:zCS i):PE X (.Subscript o i pos) (zAn td ty):=by
 intro pins s σ H Q I h;refine zxq PySem.F.slot_dict_getitem.lookup hs (thn (ho pins s σ H _ I h) λu s1 ⟨x,H1,I1,rx,q1⟩=>thn (hi pins s1 σ H1 _ I1 q1) λiv s2 ⟨y,H2,I2,ry,a,v,ex,g,q2⟩=>?_);subst ex;obtain rfl:u=Value.ref a:=rx;exact ⟨zof I2 g,zrP hu I2 g ry λw' s3 I3 rw'=>⟨v,H2,I3,rw',q2⟩⟩
theorem zxt (hu:X.A.units+1 < cLine) (ho:PE X o td) (hi:PE X i ty) (hv:PE X value tv) (hs:swapsWith value (some (.Subscript o i pos')) pos.line X.env=pure false) :
  PS X (.Assign [.Subscript o i pos'] value pos) (zxr td ty tv):=by
 intro pins s σ H D I h;refine wpAny_Assign_Subscript (thn (hv pins s σ H _ I h) λr s1 ⟨v,H1,I1,rv,q1⟩=>thn (ho pins s1 σ H1 _ I1 q1) λu s2 ⟨x,H2,I2,rx,q2⟩=>thn (hi pins s2 σ H2 _ I2 q2) λiv s3 ⟨y,H3,I3,ry,a,H4,ex,g,q3⟩=>?_) hs;subst ex;obtain rfl:u=Value.ref a:=rx;exact zrR hu I3 g ry rv λs4 I4=>⟨σ,H4,I4,q3⟩
end
theorem zuE {P:Program} {w:World} {H:Hp} (h:Heap) (hb:sysModules < h.objs.size):ObjOk P w H (h.push { cls:=.type "dict",data:=.dict #[] }) h.objs.size (.dK []):=
 ⟨Nat.zero_le _,beq_eq_false_iff_ne.mpr (Ne.symm (Nat.ne_of_lt hb)),[],.nil,Heap.DictOf.new h⟩
theorem zuF {P:Program} {w:World} {H:Hp} (h:Heap) (hb:sysModules < h.objs.size):ObjOk P w H (h.push { cls:=.type "dict",data:=.dict #[] }) h.objs.size (.dT []):=
 ⟨Nat.zero_le _,beq_eq_false_iff_ne.mpr (Ne.symm (Nat.ne_of_lt hb)),[],.nil,_,#[],0,Heap.get?_push_size _ rfl,⟨rfl,rfl,rfl⟩,rfl,rfl,List.nodup_nil⟩
def zv7:TE:=λ_ H Q=>∀ p,H p=none->Q (.ref p) (upd H p (.dK []))
def zv8:TE:=λ_ H Q=>∀ p,H p=none->Q (.ref p) (upd H p (.dT []))
section
variable {X:Cx} {pos:Pos}
theorem zuG:PE X (.Dict [] [] pos) zv7:=λpins s σ H Q I h=>
 wpAny_Dict_empty ⟨.ref s.heap.objs.size,_,I.laid (a:=s.heap.objs.size) (o:=.dK []) (t':=s.toks) (λ_ _ q=>Heap.get?_push_of_some _ q) (Nat.le_refl _) (zuE s.heap I.big),rfl,h _ (I.hok.fresh (Nat.le_refl _))⟩
theorem zuH:PE X (.Dict [] [] pos) zv8:=λpins s σ H Q I h=>
 wpAny_Dict_empty ⟨.ref s.heap.objs.size,_,I.laid (a:=s.heap.objs.size) (o:=.dT []) (t':=s.toks) (λ_ _ q=>Heap.get?_push_of_some _ q) (Nat.le_refl _) (zuF s.heap I.big),rfl,h _ (I.hok.fresh (Nat.le_refl _))⟩
end
structure M1 (X:Cx) (o:Expr) (m:Str) (apos:Pos) (e:Expr) (cpos:Pos):Prop where
 base:attributeBase o m X.env (eval o X.env)=eval o X.env
 few:((backTo cpos (starEach [e] X.env)).all (λx=>!x.1)&&(backToKw cpos (keywordEach [] X.env)).all (λx=>x.1.isSome)
  && decide (([e]:List Expr).length+([]:List Keyword).length+(if ([]:List Keyword).isEmpty then 0 else 1) < 30))=true
 line:(apos.endLine==cpos.line)=true
 trees:backTo cpos (starEach [e] X.env)=[(false,eval e X.env)]
section
variable {X:Cx} {pins:List (Addr×Obj)} {σ:St} {H:Hp} {s:Shared} {a:Addr} {y d:V} {u r:Value} {o:Option V} {A:Around} {E:Value->Shared->Prop}
end
section
variable {X:Cx} {o e f:Expr} {apos cpos:Pos} {td ty tx:TE}
end
section
variable {X:Cx} {pins:List (Addr×Obj)} {σ:St} {H:Hp} {s:Shared} {a:Addr} {kvs:List (Key×V)} {A:Around} {E:Value->Shared->Prop}
end
section
variable {X:Cx} {pins:List (Addr×Obj)} {σ:St} {H:Hp} {s:Shared} {a:Addr} {y:V} {u:Value} {A:Around} {E:Value->Shared->Prop}
end
section
variable {X:Cx}
theorem zrS:CallR X (.builtin "len") (λxs H Q=>∃ a kvs,xs=[V.ref a]/\H a=some (.dK kvs)/\Q (.int kvs.length) H):=by
 intro pins s σ H xs us Q I r h;obtain ⟨a,kvs,rfl,ha,q⟩:=h;obtain ⟨u,rfl,ru⟩:=zjQ r;cases ru
 exact zCR I (.inl ha) λt s' I'=>⟨.int kvs.length,H,I',⟨t,rfl⟩,q⟩
end
section
variable {κ:Type} [DecidableEq κ]
end
set_option maxHeartbeats 4000000
def zed (env:Env):List (Str×NameKind)->List (Str×Addr)->List (Str×Addr)
 | [],acc=>acc
 | (n,k) :: r,acc=>zed env r (if (k==NameKind.free)=true then (n,(env.cells.lookup n).getD 0) :: acc else acc)
theorem zkq {env:Env} (f:(Str×NameKind)->List (Str×Addr)->Sem (ForInStep (List (Str×Addr))))
  (hf:∀ n k acc,f (n,k) acc=if (k==NameKind.free)=true then (cellOf env n >>= λa=>pure (.yield ((n,a) :: acc))) else pure (.yield acc)) :
  ∀ (l:List (Str×NameKind)) (acc:List (Str×Addr)),(∀ y∈l,y.2=.free->∃ c,env.cells.lookup y.1=some c)->forIn l acc f=(pure (zed env l acc):Sem _)
 | [],acc,_=>rfl
 | (n,k) :: r,acc,h=>by
  rw [List.forIn_cons,hf];have hr:∀ y∈r,y.2=.free->∃ c,env.cells.lookup y.1=some c:=λy hy=>h y (List.mem_cons_of_mem _ hy);unfold zed;cases hk:(k==NameKind.free) with
  | true=>
   obtain ⟨c,hc⟩:=h (n,k) List.mem_cons_self (by simpa using hk);rw [if_pos rfl,if_pos rfl];have hc':env.cells.lookup n=some c:=hc;simp only [cellOf,hc',pure_bind,Option.getD_some];exact zkq f hf r _ hr
  | false=>
   rw [if_neg Bool.false_ne_true,if_neg Bool.false_ne_true,pure_bind];exact zkq f hf r acc hr
theorem zmp {scope:Scope} {env:Env} (h:∀ y∈scope.names,y.2=.free->∃ c,env.cells.lookup y.1=some c):closureFor scope env=pure (zed env scope.names []):=by
 simp only [closureFor];rw [zkq (env:=env) _ (λn k acc=>?_) scope.names [] h,pure_bind];cases hk:(k==NameKind.free) <;> simp [hk]
theorem zlF {env:Env}:∀ {l:List (Str×NameKind)} {acc:List (Str×Addr)},(∀ y∈l,y.2=.free->∃ c,env.cells.lookup y.1=some c)->(∀ x c,acc.lookup x=some c->env.cells.lookup x=some c)->
  ∀ x c,(zed env l acc).lookup x=some c->env.cells.lookup x=some c
 | [],_,_,ha,x,c,e=>ha x c e
 | (n,k) :: r,acc,h,ha,x,c,e=>by
  unfold zed at e;refine zlF (l:=r) (λy hy=>h y (List.mem_cons_of_mem _ hy)) (λx c e=>?_) x c e;cases hk:(k==NameKind.free) with
  | false=>rw [hk,if_neg Bool.false_ne_true] at e; exact ha x c e
  | true=>
   rw [hk,if_pos rfl,List.lookup_cons] at e;cases hx:x==n with
   | false=>rw [hx] at e; exact ha x c e
   | true=>
    rw [hx] at e;obtain ⟨d,hd⟩:=h (n,k) List.mem_cons_self (by simpa using hk);have hd':env.cells.lookup n=some d:=hd;rw [hd',Option.getD_some] at e;cases e
    rw [beq_iff_eq.mp hx]; exact hd'
theorem zkr {env:Env}:∀ {l:List (Str×NameKind)} {acc:List (Str×Addr)} {x:Str},(acc.lookup x).isSome=true->((zed env l acc).lookup x).isSome=true
 | [],_,_,h=>h
 | (n,k) :: r,acc,x,h=>by
  unfold zed;refine zkr (l:=r) ?_;cases hk:(k==NameKind.free) with
  | false=>rw [if_neg Bool.false_ne_true]; exact h
  | true=>
   rw [if_pos rfl,List.lookup_cons];cases hx:x==n with
   | false=>exact h
   | true=>rfl
theorem ziF {env:Env}:∀ {l:List (Str×NameKind)} {acc:List (Str×Addr)} {y:Str×NameKind},y∈l->y.2=.free->((zed env l acc).lookup y.1).isSome=true
 | (n,k) :: r,acc,y,hy,hk=>by
  unfold zed;rcases List.mem_cons.mp hy with e | hy
  ·subst e;have hk':(k==NameKind.free)=true:=by simpa using hk
   rw [hk',if_pos rfl];exact zkr (by rw [List.lookup_cons]; simp)
  ·exact ziF hy hk
structure CompScope (NX:List Str) (SX scope:Scope) (N:List Str) (own:Nat) (fi:List Nat):Prop where
 kind:scope.kind=.function
 nocell:∀ y∈scope.names,y.2≠.cell
 names:∀ y∈scope.names,y.2=.local->scope.names.lookup y.1=some .local
 free:∀ y∈scope.names,y.2=.free->SX.names.lookup y.1=some .cell\/SX.names.lookup y.1=some .free
 len:N.length=own+fi.length
 outs:∀ p∈(N.drop own).zip fi,NX[p.2]? = some p.1/\scope.names.lookup p.1=some .free
def zh2 (own:Nat) (fi:List Nat) (σ:St):St:=List.replicate own none++fi.map λi=>(σ[i]?).join
def Cx.comp (X:Cx) (scope:Scope) (N:List Str) (ex:List Addr) (s:Shared) (H:Hp):Cx:=
 { X with N:=N,s₀:=s,H₀:=H,env:=compEnvC scope (zed X.env scope.names []) s.heap.objs.size X.env,outer:=X.stack,stack:=X.stack,ex:=ex,fn:=λ_=>false,pn:=[],xe:=λ_ _=>False }
theorem ze7 {env:Env} {x:Str}:∀ {names:List (Str×NameKind)},(∀ y∈names,y.2≠.cell)->
  (∀ k,(names.map λ(n,k)=>if (k==NameKind.free&&env.scope.kind==.function&&env.kindOf n==some .cell) then (n,NameKind.cell) else (n,k)).lookup x=some k->k=.cell\/k=.free->names.lookup x=some .free)
 | [],_,k,h,_=>by simp at h
 | (n,k0) :: r,hc,k,h,hk=>by
  have ih:=@ze7 env x r (λy hy=>hc y (List.mem_cons_of_mem _ hy)) k;rw [List.map_cons] at h;have h0:k0≠.cell:=hc (n,k0) List.mem_cons_self;cases hx:x==n with
  | false=>
   have e:∀ z:NameKind,List.lookup x ((n,z) :: (r.map λ(n,k)=>if (k==NameKind.free&&env.scope.kind==.function&&env.kindOf n==some .cell) then (n,NameKind.cell) else (n,k)))=List.lookup x (r.map λ(n,k)=>if (k==NameKind.free&&env.scope.kind==.function&&env.kindOf n==some .cell) then (n,NameKind.cell) else (n,k)):=λz=>by rw [List.lookup_cons,hx]
   rw [List.lookup_cons,hx];refine ih ?_ hk
   by_cases hcnd:(k0==NameKind.free&&env.scope.kind==.function&&env.kindOf n==some .cell)=true
   ·simp only [hcnd,if_true] at h; rw [e] at h; exact h
   ·simp only [Bool.not_eq_true] at hcnd; simp only [hcnd] at h; rw [if_neg Bool.false_ne_true,e] at h; exact h
  | true=>
   rw [List.lookup_cons,hx];show some k0=some .free
   by_cases hcnd:(k0==NameKind.free&&env.scope.kind==.function&&env.kindOf n==some .cell)=true
   ·have:(k0==NameKind.free)=true:=by
     simp only [Bool.and_eq_true] at hcnd; exact hcnd.1.1
    rw [beq_iff_eq.mp this]
   ·simp only [Bool.not_eq_true] at hcnd;simp only [hcnd] at h;rw [if_neg Bool.false_ne_true,List.lookup_cons,hx] at h;cases h
    rcases hk with z | z
    ·exact absurd z h0
    ·rw [z]
theorem zen {env:Env} {x:Str}:∀ {names:List (Str×NameKind)},names.lookup x=some .free->
  (names.map λ(n,k)=>if (k==NameKind.free&&env.scope.kind==.function&&env.kindOf n==some .cell) then (n,NameKind.cell) else (n,k)).lookup x=some .cell\/
  (names.map λ(n,k)=>if (k==NameKind.free&&env.scope.kind==.function&&env.kindOf n==some .cell) then (n,NameKind.cell) else (n,k)).lookup x=some .free
 | [],h=>by simp at h
 | (n,k0) :: r,h=>by
  rw [List.map_cons];cases hx:x==n with
  | false=>
   rw [List.lookup_cons,hx] at h;have ih:=@zen env x r h
   by_cases hcnd:(k0==NameKind.free&&env.scope.kind==.function&&env.kindOf n==some .cell)=true
   ·simp only [hcnd,if_true,List.lookup_cons,hx]; exact ih
   ·simp only [Bool.not_eq_true] at hcnd; simp only [hcnd]; rw [if_neg Bool.false_ne_true,List.lookup_cons,hx]; exact ih
  | true=>
   rw [List.lookup_cons,hx] at h;cases h
   by_cases hcnd:(NameKind.free==NameKind.free&&env.scope.kind==.function&&env.kindOf n==some .cell)=true
   ·left; simp only [hcnd,if_true,List.lookup_cons,hx]
   ·right; simp only [Bool.not_eq_true] at hcnd; simp only [hcnd]; rw [if_neg Bool.false_ne_true,List.lookup_cons,hx]
section
variable {X:Cx} {pins:List (Addr×Obj)} {σ:St} {H:Hp} {s:Shared} {NX N:List Str} {SX scope:Scope} {own:Nat} {fi:List Nat}
theorem CompScope.cells (S:CompScope NX SX scope N own fi) (hS:X.env.scope=SX) (ok:X.Ok):∀ y∈scope.names,y.2=.free->∃ c,X.env.cells.lookup y.1=some c:=λy hy hk=>by
 refine ok.has y.1 ?_;have:=S.free y hy hk;rw [<- hS] at this;exact this
theorem Inv.comp {fp : List Addr} {h₁ : Heap} {t' : Nat} (S : CompScope NX SX scope N own fi) (hN : X.N = NX) (hS : X.env.scope = SX) (I : Inv X pins σ H s) (hfp : ∀ b ∈ fp, zlD X pins H b) (hlt : ∀ b ∈ fp, b < s.heap.objs.size)
    (hns : h₁.Ns s.heap.objs.size (λ_ => none)) (k : ∀ b o, s.heap.get? b = some o -> h₁.get? b = some o) :
    Inv (X.comp scope N fp s H) [] (zh2 own fi σ) H { s with heap := h₁, toks := t' } := by
  have hcl := S.cells hS I.ok;have sub : ∀ x c, (zed X.env scope.names []).lookup x = some c -> X.env.cells.lookup x = some c := zlF hcl λx c e => by simp at e
  have kinds : ∀ x, ((X.comp scope N fp s H).env.kindOf x = some .cell \/ (X.comp scope N fp s H).env.kindOf x = some .free) -> scope.names.lookup x = some .free := λx hx => by
    rcases hx with hx | hx
    · exact ze7 S.nocell _ hx (.inl rfl)
    · exact ze7 S.nocell _ hx (.inr rfl)
  refine ⟨⟨I.ok.mod, S.kind, I.ok.glob, I.ok.blt, Nat.le_refl _, λx y c h1 h2 => I.ok.inj x y c (sub _ _ h1) (sub _ _ h2), λx hx => ?_, λx c h => by exact absurd (show false = true from h) Bool.false_ne_true, I.ok.hd, I.ok.frames, .inl rfl,
    λb hb => ⟨?_, λx c e => (hfp b hb).2.2.2.2.1 x c (sub x c e)⟩, I.bs, Nat.le_trans I.ok.bsz I.sz, λb o e hb => ?_, λb hb hf => ?_, I.stack, I.stkFree⟩,
    rfl, I.bare, Un.kept k, ⟨_, hns, λi x v e1 e2 e3 => ?_⟩, λx c e => ?_, I.hok.fresh (Nat.le_refl _), λx c e => I.freeC x c (sub x c e), λp hp => absurd (show p ∈ ([] : List (Addr × Obj)) from hp) (by simp), I.hok.kept k, ?_⟩
  · have := ziF (env := X.env) (acc := []) (PySem.mem_of_lookup (kinds x hx)) rfl
    exact Option.isSome_iff_exists.mp this
  · exact Nat.ne_of_lt (hlt b hb)
  · rcases (hfp b hb).2.2.2.1 with z | z
    · exact I.ok.noex b o e z
    · exact absurd (Nat.lt_of_lt_of_le (Heap.lt_size e) (Nat.le_trans I.ok.bsz z)) (Nat.lt_irrefl _)
  · rcases List.mem_cons.mp (I.stkSub b hf) with z | z
    · exact (hfp b hb).2.1 z
    · exact (hfp b hb).2.2.1 z
  · -- the names from around
    have hi : own <= i := by
      by_cases hi : i < own
      · have : (zh2 own fi σ)[i]? = some none := by
          unfold zh2;rw [List.getElem?_append_left (by simpa using hi), List.getElem?_replicate, if_pos hi]
        rw [this] at e2; cases e2
      · omega
    have e2' : (fi.map λi => (σ[i]?).join)[i - own]? = some (some v) := by
      unfold zh2 at e2;rw [List.getElem?_append_right (by simpa using hi), List.length_replicate] at e2;exact e2
    rw [List.getElem?_map] at e2';cases ef : fi[i - own]? with
    | none => rw [ef] at e2'; cases e2'
    | some j =>
      rw [ef] at e2';have e4 : (σ[j]?).join = some v := by simpa using e2'
      have e5 : σ[j]? = some (some v) := by
        cases q : σ[j]? with
        | none => rw [q] at e4; cases e4
        | some z => rw [q] at e4; have e4' : z = some v := by simpa using e4
                    rw [e4']
      have e1' : N[i]? = some x := e1;have hz : (x, j) ∈ (N.drop own).zip fi := by
        refine List.mem_of_getElem? (i := i - own) ?_;rw [List.getElem?_zip_eq_some];refine ⟨?_, ef⟩;rw [List.getElem?_drop];have : own + (i - own) = i := by omega
        rw [this]; exact e1'
      obtain ⟨o1, o2⟩ := S.outs (x, j) hz;obtain ⟨m, hn, hl⟩ := I.loc;have vis : SX.names.lookup x = some .cell \/ SX.names.lookup x = some .free := S.free (x, .free) (PySem.mem_of_lookup o2) rfl;have vis' : X.env.scope.names.lookup x = some .cell \/ X.env.scope.names.lookup x = some .free := by rw [hS]; exact vis
      obtain ⟨u, r, l⟩ := hl j x v (by rw [hN]; exact o1) e5 (.inr vis');refine ⟨u, r, .inr ?_⟩;rcases l with ⟨hk, _⟩ | ⟨_, c, hc, hcell⟩
      · have hk' : X.env.scope.names.lookup x = some .local := hk
        rcases vis' with z | z <;> (rw [z] at hk'; cases hk')
      · refine ⟨zen (env := X.env) o2, c, ?_, hcell.keeps k⟩
        have hh := ziF (env := X.env) (acc := []) (PySem.mem_of_lookup o2) rfl;obtain ⟨c', hc'⟩ := Option.isSome_iff_exists.mp hh;have := sub x c' hc';rw [hc] at this; cases this
        exact hc'
  · obtain ⟨v, q⟩ := I.cell x c (sub x c e)
    exact ⟨v, q.keeps k⟩
  · unfold zh2
    show _ = N.length;rw [List.length_append, List.length_replicate, List.length_map, S.len]
end
section
variable {prog:Program} {w:World} {A:Around} {R:Result->Shared->Prop} {s:Shared}
theorem zog {elt target iter : Expr} {ifs : List Expr} {scope : Scope} {pos : Pos} {it acc : Value} {env : Env} (I : Nat -> Shared -> Prop) {F : Value -> Shared -> Prop} (hF : ∀ e s, F e s -> False)
    (turn : ∀ n s, I n s -> wpAny (model prog w) A (pyNext it) (λr s₁ => match r with
      | none => R (.ok .next) s₁
      | some v => wpAny (model prog w) A (letOwnedTupleGo target it v) (λ_ s₁' => wpAny (model prog w) A (assign target env v) (λ_ s₂ =>
          wpAny (model prog w) A (forIn ifs true λc r => if r = true then do let ok <- isTrue c env (eval c env); pure (ForInStep.yield ok) else pure (ForInStep.yield r)) (λok s₃ =>
            if ok = true then wpAny (model prog w) A (eval elt env) (λx s₄ =>
              wpAny (model prog w) A (call (.builtin "list.append") [acc, x]) (λ_ s₅ => ∃ m, m < n /\ I m s₅) F s₄) F s₃
            else ∃ m, m < n /\ I m s₃) F s₂) F s₁') F s₁) F s)
    (n : Nat) (h : I n s) :
    codeAny (model prog w) A (.compLoop (.ListComp elt [⟨target, iter, ifs, 0⟩] scope pos) 0 it acc env) R s := by
  refine codeAny_loop rfl I (λn s hI => ?_) n h;show wpAny _ A ((compTurn (.ListComp elt [⟨target, iter, ifs, 0⟩] scope pos) 0 it acc env).onRaise (λx => do noteFrame x env; theTreesLotGoes x)) _ _ s;refine wpAny_noted ?_;rw [compTurn_list];refine wpAny_bind (wpAny_standAt (wpAny_bind (wpAny_mono (turn n s hI) (λr s₁ h₁ => ?_) λ_ _ h' => (hF _ _ h').elim)));cases r with
  | none => exact wpAny_pure h₁
  | some v =>
    refine wpAny_bind (wpAny_mono h₁ (λ_ s₁' h₁' => ?_) λ_ _ h' => (hF _ _ h').elim);refine wpAny_bind (wpAny_mono h₁' (λ_ s₂ h₂ => wpAny_bind (wpAny_mono h₂ (λok s₃ h₃ => ?_) λ_ _ h' => (hF _ _ h').elim)) λ_ _ h' => (hF _ _ h').elim);cases ok with
    | false => exact wpAny_pure ⟨rfl, h₃⟩
    | true =>
      exact wpAny_bind (wpAny_bind (wpAny_mono h₃ (λx s₄ h₄ => wpAny_bind (wpAny_mono h₄ (λ_ s₅ h₅ => wpAny_pure (wpAny_pure ⟨rfl, h₅⟩)) λ_ _ h' => (hF _ _ h').elim)) λ_ _ h' => (hF _ _ h').elim))
end
def PIf (X:Cx) (ifs:List Expr) (t:TT):Prop:=
 ∀ (pins:List (Addr×Obj)) (s:Shared) (σ:St) (H:Hp) (Q:Bool->Hp->Prop),Inv X pins σ H s->t σ H Q->
  wpAny (model X.prog X.w) X.A (forIn ifs true λc r=>if r=true then do let ok <- isTrue c X.env (eval c X.env); pure (ForInStep.yield ok) else pure (ForInStep.yield r)) (TP X pins σ Q) X.xe s
def zAo:TT:=λ_ H Q=>Q true H
theorem zxu {X:Cx}:PIf X [] zAo:=λ_ _ _ H _ I h=>wpAny_tests_nil ⟨H,I,h⟩
theorem zxv {X:Cx} {c:Expr} {t:TT} (h:PT X c t):PIf X [c] t:=λpins s σ H Q I q=>wpAny_tests_one (h pins s σ H Q I q)
def zrT (wi : TI) (g : TG) (tt : TT) (te : TE) (own : Nat) (fi : List Nat) (σ : St) (H : Hp) (R : Addr -> Hp -> Prop) : Prop :=
  wi σ H λJ H1 => ∀ l, H1 l = none -> ∃ W : Nat -> Nat -> St -> Hp -> Prop, (∃ m, W 0 m (zh2 own fi σ) (upd H1 l (.lst []))) /\ ∀ i m σ' H', W i m σ' H' ->
    (J.stop i H' /\ R l H') \/ (J.go i H' /\ ∃ N : St -> Hp -> Prop, (∀ σ'' H'', N σ'' H'' -> ∃ m', m' < m /\ W (i + 1) m' σ'' H'') /\ ∀ x H2, J.yld i H' x H2 -> g x σ' H2 λσ2 H3 => tt σ2 H3 λok H4 =>
      if ok = true then te σ2 H4 λy H5 => ∃ xs, H5 l = some (.lst xs) /\ xs.length < sizeLine /\ N σ2 (upd H5 l (.lst (xs ++ [y]))) else N σ2 H4)
def zuI (wi:TI) (g:TG) (tt:TT) (te:TE) (own:Nat) (fi:List Nat):TE:=λσ H Q=>zrT wi g tt te own fi σ H λl H'=>Q (.ref l) H'
structure Gone (X:Cx) (pins:List (Addr×Obj)) (H:Hp) (C:Addr):Prop where
 none:H C=none
 loc:C≠X.env.locals
 ab:X.s₀.heap.objs.size<=C
 cell:∀ x c,X.env.cells.lookup x=some c->c≠C
 pin:∀ p∈X.pn++pins,p.1≠C
section
variable {X:Cx} {pins:List (Addr×Obj)} {σ:St} {H:Hp} {s:Shared} {NX N:List Str} {SX scope:Scope} {own:Nat} {fi:List Nat} {tg iter elt:Expr} {ifs:List Expr} {wi:TI} {g:TG} {tt:TT} {te:TE} {pos cpos:Pos} {use:Option (Value->Sem Unit)} {QQ:Value->Shared->Prop} {R:Addr->Hp->Prop}
theorem znc (S:CompScope NX SX scope N own fi) (hN:X.N=NX) (hS:X.env.scope=SX) (hc:X.calm=true) (hi:PI X tg iter wi) (hg:∀ ex s H,PG (X.comp scope N ex s H) tg g) (ht:∀ ex s H,PIf (X.comp scope N ex s H) ifs tt)
  (he:∀ ex s H,PE (X.comp scope N ex s H) elt te) (I:Inv X pins σ H s) (h:zrT wi g tt te own fi σ H R)
  (post:∀ l H' s' C,Inv X pins σ H' s'->R l H'->(∃ m,s'.heap.Ns C m)->Gone X pins H' C->compPost (model X.prog X.w) X.A X.xe use QQ (.ref l) C (.ok .next) s')
  (hs:∀ x,foldedSetIterable iter X.env x=pure x) :
  wpAny (model X.prog X.w) X.A (comprehension (.ListComp elt [⟨tg,iter,ifs,0⟩] scope pos) scope X.env cpos (newList []) false (eval iter X.env) use) QQ X.xe s:=by
 have hcl:=S.cells hS I.ok;refine wpAny_comprehension_free (use:=use) rfl hs (zmp hcl) S.kind S.names ?_;refine thn (hi pins s σ H _ I h) λv s1 h1=>thn h1 λitv s2 h2=>?_;obtain ⟨it,fp,tn,J,H2,e,I2,T,st2,f2,q⟩:=h2;subst e;have hl:H2 s2.heap.objs.size=none:=I2.hok.fresh (Nat.le_refl _);obtain ⟨W,⟨m0,w0⟩,turn⟩:=q _ hl;generalize hL:s2.heap.objs.size=L at w0 turn hl;refine wpAny_newObj_type ?_
 rw [hL];have I3:Inv X pins σ (upd H2 L (.lst [])) { s2 with heap:=s2.heap.push { cls:=.type "list",data:=.seq ([]:List Value).toArray } }:=by
  subst hL;exact I2.laid (t':=s2.toks) (λb u e=>Heap.get?_push_of_some _ e) (Nat.le_refl _) ⟨Nat.zero_le _,[],0,.nil,Heap.get?_push_size _ rfl⟩
 generalize hs3:({ s2 with heap:=s2.heap.push { cls:=.type "list",data:=.seq ([]:List Value).toArray } }:Shared)=s3 at I3 ⊢;have st3:tn 0 s3.heap:=T.keep _ _ _ st2 λb _ o e=>by subst hs3; exact Heap.get?_push_of_some _ e
 have hlt3:∀ b∈fp,b < s3.heap.objs.size:=λb hb=>by
  obtain ⟨o,e,_⟩:=T.obj _ _ st3 b hb;exact Heap.lt_size e
 have hfp3:∀ b∈fp,zlD X pins (upd H2 L (.lst [])) b:=λb hb=>by
  obtain ⟨f0,f1⟩:=f2 b hb;refine ⟨?_,f1⟩;obtain ⟨o,e,_⟩:=T.obj _ _ st2 b hb;rw [zaW (by rw [<- hL]; exact Nat.ne_of_lt (Heap.lt_size e))]; exact f0
 refine wpAny_newFunctionEnv S.nocell (by intro y hy; simp at hy) (λh₁ hns₁ hsb₁=>?_) S.kind;have hns₁':h₁.Ns s3.heap.objs.size (λ_=>none):=by
  have:(λx=>List.lookup x ([]:List (Str×Value)).reverse)=λ_=>(none:Option Value):=by funext x; rfl
  rw [<- this]; exact hns₁
 have k1:∀ b o,s3.heap.get? b=some o->h₁.get? b=some o:=λb o e=>hsb₁.extBut b o (Nat.ne_of_lt (Heap.lt_size e)) (Heap.get?_push_of_some _ e);have I4:=Inv.comp (t':=s3.toks+([]:List (Str×Value)).length) S hN hS I3 hfp3 hlt3 hns₁' k1;have stat:∀ {H':Hp},(∀ b∈fp,H' b=none)->∀ b∈fp,zlD (X.comp scope N fp s3 (upd H2 L (.lst []))) [] H' b:=λ{H'} hn b hb=>
  ⟨hn b hb,Nat.ne_of_lt (hlt3 b hb),I4.ok.exfs b hb,.inl hb,(I4.ok.exf b hb).2,λp hp=>absurd (show p∈([]:List (Addr×Obj)) from hp) (by simp)⟩
 generalize hX':X.comp scope N fp s3 (upd H2 L (.lst []))=X' at I4 stat;have hP:X'.prog=X.prog:=by rw [<- hX']; rfl
 have hw:X'.w=X.w:=by rw [<- hX']; rfl
 have hK:X'.K=X.K:=by rw [<- hX']; rfl
 have hA:X'.A=X.A:=by rw [<- hX']; rfl
 have hca:X'.calm=true:=by rw [<- hX']; exact hc
 have henv:X'.env=compEnvC scope (zed X.env scope.names []) s3.heap.objs.size X.env:=by rw [<- hX']; rfl
 have hxe:X'.xe=λ_ _=>False:=by rw [<- hX']; rfl
 have hg':=hg fp s3 (upd H2 L (.lst []));have ht':=ht fp s3 (upd H2 L (.lst []));have he':=he fp s3 (upd H2 L (.lst []));rw [hX'] at hg' ht' he';have loop:∀ s4:Shared,s4={ s3 with heap:=h₁,toks:=s3.toks+([]:List (Str×Value)).length }->
   codeAny (model X.prog X.w) X.A (.compLoop (.ListComp elt [⟨tg,iter,ifs,0⟩] scope pos) 0 (.ref it) (.ref L) (compEnvC scope (zed X.env scope.names []) s3.heap.objs.size X.env))
    (compPost (model X.prog X.w) X.A X.xe use QQ (.ref L) s3.heap.objs.size) s4:=by
  intro s4 hs4;refine zog (λn s'=>∃ i σ' H',Inv X' [] σ' H' s'/\tn i s'.heap/\(∀ b∈fp,H' b=none)/\W i n σ' H') (F:=X'.xe) (λe s z=>by rw [hxe] at z; exact z) ?_ m0
   ⟨0,_,_,by rw [hs4]; exact I4,by rw [hs4]; exact T.keep _ _ _ st3 λb _ o e=>k1 b o e,λb hb=>(hfp3 b hb).1,w0⟩
  rintro n s5 ⟨i,σ5,H5,I5,st5,fr5,w5⟩;rcases turn i n σ5 H5 w5 with ⟨stop,qn⟩ | ⟨go,N',hN',step⟩
  ·have hd:=T.done X' hP hw hK hca i [] s5 σ5 H5 X'.xe I5 (stat fr5) st5 stop;rw [hA] at hd;refine thn hd λr s6 ⟨hr,I6⟩=>?_;subst hr
   -- the end: back to the body around
   have hb:=I6.base;have e1:X'.fs=frs X.stack:=by rw [<- hX']; rfl
   have e2:X'.ex=fp:=by rw [<- hX']; rfl
   have e3:X'.H₀=upd H2 L (.lst []):=by rw [<- hX']; rfl
   have e4:X'.s₀=s3:=by rw [<- hX']; rfl
   rw [e1,e2,e3,e4] at hb;have hok6:HOk X.prog X.w H5 s6.heap:=by rw [<- hP,<- hw]; exact I6.hok
   have os6:s6.os=s3.os:=by rw [I6.os,e4]
   have I7:Inv X pins σ H5 s6:=I3.call' os6 hb hok6 I6.bare λb hb=>⟨(hfp3 b hb).2.2.2.1,(hfp3 b hb).2.1,(hfp3 b hb).2.2.2.2.1,(hfp3 b hb).2.2.2.2.2⟩
   refine post L H5 s6 _ I7 qn ?_ ⟨?_,Nat.ne_of_gt I3.lt,I3.sz,λx c e z=>?_,λp hp z=>?_⟩
   ·obtain ⟨m,hn,_⟩:=I6.loc;rw [henv] at hn;exact ⟨m,hn⟩
   ·have:=I6.free;rw [henv] at this;exact this
   ·obtain ⟨v',q'⟩:=I3.cell x c e;exact absurd (z▸q'.lt) (Nat.lt_irrefl _)
   ·exact absurd (z▸Heap.lt_size (I3.pin p hp).1) (Nat.lt_irrefl _)
  ·have hd:=T.item X' hP hw hK hca i [] s5 σ5 H5 X'.xe I5 (stat fr5) st5 go;rw [hA] at hd;refine thn hd λr s6 ⟨u,hr,h6⟩=>?_;subst hr;refine thn h6 λ_ s7 ⟨x,H7,I7,r7,y7,st7,fr7⟩=>?_;have I7':=I7.pinned (stat fr7) (T.obj _ _ st7);have ha:=hg' _ s7 σ5 H7 x u _ I7' r7 (step x H7 y7);rw [hP,hw,hA,henv] at ha;refine thn ha λ_ s8 ⟨σ8,H8,I8,q8⟩=>?_;have hb:=ht' _ s8 σ8 H8 _ I8 q8;rw [hP,hw,hA,henv] at hb
   refine thn hb λok s9 ⟨H9,I9,q9⟩=>?_;have again:∀ {σ':St} {H':Hp} {s':Shared},Inv X' ([]++zmV fp s7.heap) σ' H' s'->N' σ' H'->∃ m,m < n/\∃ i σ' H',Inv X' [] σ' H' s'/\tn i s'.heap/\(∀ b∈fp,H' b=none)/\W i m σ' H':=λ{σ' H' s'} I' n'=>by
    obtain ⟨m',hm,w'⟩:=hN' σ' H' n';refine ⟨m',hm,i+1,σ',H',I'.unpinned,T.keep _ _ _ st7 λb hb o e=>(I'.pin (b,o) (List.mem_append_right _ (List.mem_append_right _ (zhb hb e)))).1,λb hb=>?_,w'⟩;obtain ⟨o,e,d⟩:=T.obj _ _ st7 b hb;exact (I'.pin (b,o) (List.mem_append_right _ (List.mem_append_right _ (zhb hb e)))).2.1
   cases ok with
   | false=>
    rw [if_neg Bool.false_ne_true] at q9 ⊢;exact again I9 q9
   | true=>
    rw [if_pos rfl] at q9 ⊢;have hv:=he' _ s9 σ8 H9 _ I9 q9;rw [hP,hw,hA,henv] at hv;refine thn hv λy s10 ⟨yv,H10,I10,r10,xs,hx,hz,q10⟩=>?_;have hap:=zm8 (X:=X') _ s10 σ8 H10 (V.ref L) [yv] (Value.ref L) [y] (λv H'=>v=.non/\N' σ8 H') I10 rfl (.cons r10 .nil) ⟨L,xs,yv,rfl,rfl,hx,hz,rfl,q10⟩;rw [hP,hw,hA] at hap;refine thn hap λ_ s11 ⟨v,H11,I11,_,_,q11⟩=>?_;exact again I11 q11
 have e5:({ newEnv scope s3.heap.objs.size X.env.globals (zed X.env scope.names []) X.env.qual none Value.none (some X.env) builtinsNs with scope:=relabel scope X.env }:Env)=compEnvC scope (zed X.env scope.names []) s3.heap.objs.size X.env:=rfl;exact codeAny_compStart_list (loop _ rfl) (T.self X.A 0 _ _ _ (T.keep _ _ _ st3 λb _ o e=>k1 b o e) (loop _ rfl))
theorem zrU (S:CompScope NX SX scope N own fi) (hc:X.calm=true) (hi:PI X tg iter wi) (hg:∀ ex s H,PG (X.comp scope N ex s H) tg g) (ht:∀ ex s H,PIf (X.comp scope N ex s H) ifs tt)
  (he:∀ ex s H,PE (X.comp scope N ex s H) elt te) (hN:X.N=NX:=by rfl) (hS:X.env.scope=SX:=by rfl) (hs:∀ x,foldedSetIterable iter X.env x=pure x:=by intro _; rfl) :
  PE X (.ListComp elt [⟨tg,iter,ifs,0⟩] scope pos) (zuI wi g tt te own fi):=by
 intro pins s σ H Q I h;rw [eval_ListComp];refine znc (use:=none) (R:=λl H'=>Q (.ref l) H') S hN hS hc hi hg ht he I h (λl H' s' C I' q' hn G=>?_) hs;obtain ⟨m,hn⟩:=hn;exact ⟨m,hn,λh' hs'=>⟨.ref l,H',I'.turned (t':=s'.toks) (λb o hb e=>(hs'.2 b hb).trans e) G.none G.loc (.inr G.ab) G.cell G.pin,rfl,q'⟩⟩
def zuJ (i:Nat) (wi:TI) (g:TG) (tt:TT) (te:TE) (own:Nat) (fi:List Nat):TS:=λD σ H=>zrT wi g tt te own fi σ H λl H'=>D.nx (σ.set i (some (.ref l))) H'
theorem zqh {i:Nat} {y:Str} {py spos:Pos} (hnd:X.N.Nodup) (hy:X.N[i]? = some y) (hl:X.env.scope.names.lookup y=some .local) (S:CompScope NX SX scope N own fi) (hc:X.calm=true) (hi:PI X tg iter wi)
  (hg:∀ ex s H,PG (X.comp scope N ex s H) tg g) (ht:∀ ex s H,PIf (X.comp scope N ex s H) ifs tt)
  (he:∀ ex s H,PE (X.comp scope N ex s H) elt te) (hN:X.N=NX:=by rfl) (hS:X.env.scope=SX:=by rfl) (hs:∀ x,foldedSetIterable iter X.env x=pure x:=by intro _; rfl)
  (hsw:swapsWith (.ListComp elt [⟨tg,iter,ifs,0⟩] scope pos) (some (.Name y py)) spos.line X.env=pure true:=by rfl) :
  PS X (.Assign [.Name y py] (.ListComp elt [⟨tg,iter,ifs,0⟩] scope pos) spos) (zuJ i wi g tt te own fi):=by
 intro pins s σ H D I h;rw [exec_Assign_Name_used _ _ _ _ hsw];refine wpAny_bind (wpAny_standAt (wpAny_bind ?_));show wpAny _ X.A (do let _ <- comprehension (.ListComp elt [⟨tg,iter,ifs,0⟩] scope pos) scope X.env _ (newList []) false (eval iter X.env) (some (assign (.Name y py) X.env))) _ _ s;refine wpAny_bind (wpAny_mono (znc (use:=some (assign (.Name y py) X.env)) (QQ:=λ_ s'=>SP X pins D .next s') (R:=λl H'=>D.nx (σ.set i (some (.ref l))) H') S hN hS hc hi hg ht he I h (λl H' s' C I' q' hn G=>?_) hs)
  (λ_ s' hq=>wpAny_pure (wpAny_pure hq)) λ_ _ e=>e)
 obtain ⟨m,hn⟩:=hn;show wpAny _ X.A (assign (.Name y py) X.env (.ref l)) _ _ _;refine wpAny_assign_Name (zmU I' hnd hy (.inl hl) (v:=.ref l) rfl (λs'' I'' hsb=>?_) (.inr hl));obtain ⟨a,hsb,ha⟩:=hsb;have hCa:C≠a:=by
  rcases ha with z | z
  ·rw [z]; exact G.loc
  ·exact Ne.symm (G.cell y a z)
 exact ⟨m,hn.sameBut hsb hCa,λh' hs'=>⟨_,H',I''.turned (t':=s''.toks) (λb o hb e=>(hs'.2 b hb).trans e) G.none G.loc (.inr G.ab) G.cell G.pin,q'⟩⟩
end
def Its (x:Str):It:=⟨λi _=>i < x.cps.size,λi H v H'=>H'=H/\∃ c,x.cps[i]? = some c/\v=.str ⟨#[c]⟩,λi _=>x.cps.size<=i⟩
theorem zuK {P:Program} {w:World} {K:W.Frag} {tg:Expr} (it:Addr) (x:Str) (t:Tok) (ty:String) (hty:ty="str_ascii_iterator"\/ty="str_iterator"):Turn P w K tg (Its x) [it] it (λi h=>i<=x.cps.size/\h.IsStrIter it ty x t i) where
 mem:=by simp
 obj:=λi h st b hb=>by
  have e:b=it:=by simpa using hb
  subst e;obtain ⟨_,o,e,c,d⟩:=st;exact ⟨o,e,λv z=>by rw [d] at z; cases z⟩
 keep:=λi h h' st k=>by
  obtain ⟨hi,o,e,r⟩:=st;exact ⟨hi,o,k it (by simp) o e,r⟩
 item:=by
  intro X hP hw hK hc i pins s σ H E I hf st hg;subst hP hw hK;obtain ⟨f0,f1,f2,f3,f4,f5⟩:=hf it (by simp);have hg':i < x.cps.size:=hg;have key:∀ h':Heap,h'.IsStrIter it ty x t (i+1)->Heap.SameBut it s.heap h'->(λr s1=>∃ u,r=some u/\
   wpAny (model X.prog X.w) X.A (letOwnedTupleGo tg (.ref it) u) (λ_ s2=>∃ y H',Inv X pins σ H' s2/\RelV y u/\(Its x).yld i H y H'/\(i+1<=x.cps.size/\s2.heap.IsStrIter it ty x t (i+1))/\∀ b∈[it],H' b=none) E s1)
    (some (.str ⟨#[x.cps[i]]⟩ s.toks)) { s with heap:=h',toks:=s.toks+1 }:=λh' st' sb=>by
   have I1:Inv X pins σ H { s with heap:=h',toks:=s.toks+1 }:=I.turned (λb o hb e=>(sb.2 b hb).trans e) f0 f1 f3 f4 f5;obtain ⟨o,e,c,d⟩:=id st';refine ⟨_,rfl,zuo (s:={ s with heap:=h',toks:=s.toks+1 }) e c d ?_ ⟨.str ⟨#[x.cps[i]]⟩,H,I1,⟨_,rfl⟩,⟨rfl,_,by simp [hg'],rfl⟩,⟨hg',st'⟩,λb hb=>(hf b hb).1⟩⟩;rcases hty with rfl | rfl <;> decide
  rcases hty with rfl | rfl
  ·exact wpAny_pyNext_ascii_item st.2 (c:=x.cps[i]) (by simp [hg']) λh' hit' hs'=>key h' hit' hs'
  ·exact wpAny_pyNext_wide_item st.2 (c:=x.cps[i]) (by simp [hg']) λh' hit' hs'=>key h' hit' hs'
 done:=by
  intro X hP hw hK hc i pins s σ H E I hf st hg;subst hP hw hK;obtain ⟨f0,f1,f2,f3,f4,f5⟩:=hf it (by simp);have hg':x.cps.size<=i:=hg;rcases hty with rfl | rfl
  ·exact wpAny_pyNext_ascii_end (I.ok.hd hc) st.2 (by simp [hg']) λh' eb=>⟨rfl,I.turned (t':=s.toks) (λb o hb e=>eb b o hb e) f0 f1 f3 f4 f5⟩
  ·exact wpAny_pyNext_wide_end (I.ok.hd hc) st.2 (by simp [hg']) λh' eb=>⟨rfl,I.turned (t':=s.toks) (λb o hb e=>eb b o hb e) f0 f1 f3 f4 f5⟩
 self:=λ_ _ _ _ _ st h=>by
  rcases hty with rfl | rfl
  ·exact wpAny_pyIter_striter_ascii st.2 h
  ·exact wpAny_pyIter_striter_wide st.2 h
def zEg (tl:TE):TI:=λσ H R=>tl σ H λx H1=>∃ z,x=.str z/\R (Its z) H1
theorem zAp {X:Cx} {tg l:Expr} {tl:TE} (hl:PE X l tl):PI X tg l (zEg tl):=by
 intro pins s σ H R I h;refine thn (hl pins s σ H _ I h) λv s1 ⟨x,H1,I1,r1,q1⟩=>?_;obtain ⟨z,e,q⟩:=q1;subst e;obtain ⟨t,rfl⟩:=r1;have key:∀ (o:Obj) (ty:String),(ty="str_ascii_iterator"\/ty="str_iterator")->(s1.heap.push o).IsStrIter s1.heap.objs.size ty z t 0->PIE X pins σ tg R (.ref s1.heap.objs.size) { s1 with heap:=s1.heap.push o }:=λo ty hty st=>by
  refine ⟨s1.heap.objs.size,[s1.heap.objs.size],_,_,H1,rfl,I1.kept (t':=s1.toks) λb o e=>Heap.get?_push_of_some _ e,zuK _ z t ty hty,⟨Nat.zero_le _,st⟩,λb hb=>?_,q⟩;have e:b=s1.heap.objs.size:=by simpa using hb
  subst e;exact I1.fpOk (Nat.le_refl _) (I1.hok.fresh (Nat.le_refl _))
 cases ha:z.cps.all (·< 128)
 ·exact wpAny_pyIter_wide ha (key _ _ (.inr rfl) ⟨_,Heap.get?_push_size _ rfl,rfl,rfl⟩)
 ·exact wpAny_pyIter_ascii ha (key _ _ (.inl rfl) ⟨_,Heap.get?_push_size _ rfl,rfl,rfl⟩)
theorem zrV {bs:List Bool} {n:Nat} (h:n=bs.length):(List.range n).all (λi=>bs.getD i false)=bs.all id:=by
 subst h;rw [Bool.eq_iff_iff,List.all_eq_true,List.all_eq_true];constructor
 ·intro h b hb;obtain ⟨i,hi,e⟩:=List.mem_iff_getElem.mp hb;have:=h i (List.mem_range.mpr hi);rw [List.getD_eq_getElem?_getD,List.getElem?_eq_getElem hi,Option.getD_some,e] at this;exact this
 ·intro h i hi;have hi':=List.mem_range.mp hi;rw [List.getD_eq_getElem?_getD,List.getElem?_eq_getElem hi',Option.getD_some];exact h _ (List.getElem_mem hi')
section
variable {X:Cx}
theorem zuL (hc:X.calm=true):CallR X (.builtin "all") (λxs H Q=>∃ (p:Addr) (bs:List Bool),xs=[.ref p]/\SqL X.K H p (bs.map V.bl)/\Q (.bl (bs.all id)) H):=by
 intro pins s σ H xs us Q I r h;obtain ⟨p,bs,rfl,hp,q⟩:=h;obtain ⟨u,rfl,ru⟩:=Vals.one r;cases ru
 obtain ⟨its,rv,pl,hz⟩:=I.list hp;have hlen:=rv.length;rw [List.length_map] at hlen;have hne:p≠s.heap.objs.size:=by
  obtain ⟨o,n,e,_⟩:=pl;exact Nat.ne_of_lt (Heap.lt_size e)
 refine call_all_walk (wpAny_pyIter_list pl.isList ?_);refine ⟨s.heap.objs.size,_,_,its.toArray.size,_,_,λi=>bs.getD i false,rfl,Walks.list (A:=X.A.in1) (I.ok.hd hc) s.heap.objs.size p hne its.toArray,⟨⟨_,Heap.get?_push_size _ rfl,rfl,rfl⟩,?_⟩,?_,λh' tk hk=>?_⟩
 ·exact pl.isList.at λo e=>Heap.get?_push_of_some _ e
 ·intro i v s' Q' E' hv hq;have hv':its[i]? = some v:=by simpa using hv
  have hi:i < its.length:=(List.getElem?_eq_some_iff.mp hv').1;obtain ⟨u',hu',ru'⟩:=rv.get (i:=i) (x:=.bl (bs.getD i false)) (by
   rw [List.getElem?_map,List.getElem?_eq_getElem (by omega),List.getD_eq_getElem?_getD,List.getElem?_eq_getElem (by omega)]; rfl)
  rw [hv'] at hu'; cases hu'
  cases ru'
  exact wpAny_truthy_bool hq
 ·rw [zrV (by simp; omega)];exact ⟨.bl _,H,I.kept (h':=h') (t':=tk) λb o e=>hk b o (by
   have:b≠s.heap.objs.size:=Nat.ne_of_lt (Heap.lt_size e)
   simpa using this) (Heap.get?_push_of_some _ e),rfl,q⟩
theorem zoh:CallR X (.builtin "isinstance") (λxs H Q=>∃ x n t b,xs=[x,.ty n]/\TyOf X.K H x t/\W.kitOne X.K t (.type n)=some b/\Q (.bl b) H):=by
 intro pins s σ H xs us Q I r h;obtain ⟨x,n,t,b,rfl,ty,e,q⟩:=h;obtain ⟨u,c,rfl,ru,rc⟩:=Vals.two r;cases rc
 exact zmY I ru ty e λtk=>⟨.bl b,H,I.tok tk,rfl,q⟩
theorem zrW:∀ {zs:List Str} {us:List Value},Vals (zs.map V.str) us->StrsAre us zs
 | [],_,.nil=>.nil
 | z :: zs,_,.cons r t=>by
  obtain ⟨tk,rfl⟩:=r;exact .cons _ _ (zrW t)
def zxw (K:W.Frag):V->List V->Hp->VK->Prop:=λx vs H Q=>∃ z p ys,x=.str z/\vs=[.ref p]/\SqL K H p (ys.map V.str)/\(ys.map (·.length)).sum+ys.length*z.length<=16777216/\Q (.str (Txt.join z ys)) H
theorem zxx:MtR X "str.join" (zxw X.K):=by
 intro pins s σ H x xs v us Q I rx rs h;obtain ⟨z,p,ys,rfl,rfl,hp,hz,q⟩:=h;obtain ⟨t,rfl⟩:=rx;obtain ⟨u,rfl,ru⟩:=Vals.one rs;cases ru
 obtain ⟨its,rv,pl,_⟩:=I.list hp;exact join_list pl.isList (by simpa using zrW rv) hz λt' k=>⟨.str _,H,I.tok k,⟨t',rfl⟩,q⟩
theorem zcQ:OpR X (binaryOp .FloorDiv) (rI (λ_ j=>0 < j/\j < 2 ^ 200) λi j=>.int (i / j)):=opI λi j _ _ _ _ _ hc q=>by
 have h1:(0:Int) < j:=hc.1;have h2:j < 2 ^ 200:=hc.2;refine floordiv_int (by omega) (by rw [Int.fdiv_eq_ediv_of_nonneg i (by omega)]; exact q) (.inl (PyProof.noPylong_of_log2 ?_));have h3:j.natAbs < 2 ^ 200:=by
  have e:((2:Int) ^ 200)=(((2:Nat) ^ 200:Nat):Int):=by norm_cast
  rw [e] at h2;omega
 have h4:j.natAbs≠0:=by omega
 exact Nat.lt_trans ((Nat.log2_lt h4).mpr h3) (by decide)
end
section
variable {K:W.Frag} {g:TG} {tt:TT} {te:TE} {σ0:St} {H1:Hp} {l:Addr} {R:Hp->Prop}
end
example (K:W.Frag):W.kitOne K (.type "bool") (.type "int")=some true:=by rfl
example (K:W.Frag):W.kitOne K (.type "dict") (.type "int")=some false:=by rfl
section
variable {X:Cx}
def zCT:R2:=λx y H Q=>∃ i j,x=.str i/\y=.str j/\i.length+j.length<=sizeLine/\Q (.str (i++j)) H
def zxy (K:W.Frag):R2:=λx y H Q=>(rI0 λi j=>.int (i+j)) x y H Q\/zCT x y H Q\/zEe x y H Q\/zAd K x y H Q
theorem zxz:OpR X (binaryOp .Add) (zxy X.K):=zzZ.or (zp8.or (zAi.or zxj))
def zAq:R2:=λx y H Q=>(rI CMul λi j=>.int (i*j)) x y H Q\/zEf x y H Q
theorem zxA:OpR X (binaryOp .Mult) zAq:=zz1.or zAj
def zE3:R2:=λx y H Q=>∃ i j,x=.str i/\y=.str j/\Q (.bl (!(Builtin.Str.occurrences j i 0 j.length 1).isEmpty)) H
def zxB:R2:=λx y H Q=>∃ i j,x=.str i/\y=.str j/\Q (.bl (!(!(Builtin.Str.occurrences j i 0 j.length 1).isEmpty))) H
theorem PI.or {tg l:Expr} {wi wi':TI} (h:PI X tg l wi) (h':PI X tg l wi'):PI X tg l (λσ H R=>wi σ H R\/wi' σ H R):=by
 intro pins s σ H R I q;rcases q with q | q
 ·exact h pins s σ H R I q
 ·exact h' pins s σ H R I q
def zuM (K:W.Frag) (tl:TE):TI:=λσ H R=>zzX K tl σ H R\/zD8 K tl σ H R\/zEg tl σ H R
theorem zAr {tg l:Expr} {tl:TE} (hl:PE X l tl):PI X tg l (zuM X.K tl):=(zw6 hl).or ((zzY hl).or (zAp hl))
def zxC (K:W.Frag):List V->Hp->VK->Prop:=λxs H Q=>∃ x n,xs=[x]/\zCJ K x H n/\Q (.int n) H
theorem zrX:CallR X (.builtin "len") (zxC X.K):=zuq
end
section
variable {X:Cx} {K:W.Frag}
theorem zxD (h:X.K=K):OpR X (binaryOp .Add) (zxy K):=h▸zxz
theorem zxE (h:X.K=K):IxR X (rIx K):=h▸zAf
theorem zks {tg l:Expr} {tl:TE} (h:X.K=K) (hl:PE X l tl):PI X tg l (zuM K tl):=h▸zAr hl
theorem zrY (h:X.K=K):CallR X (.builtin "len") (zxC K):=h▸zrX
def zoi (K:W.Frag):List V->Hp->VK->Prop:=λxs H Q=>∃ x n t b,xs=[x,.ty n]/\TyOf K H x t/\W.kitOne K t (.type n)=some b/\Q (.bl b) H
theorem znd (h:X.K=K):CallR X (.builtin "isinstance") (zoi K):=h▸zoh
def zEh (K:W.Frag):List V->Hp->VK->Prop:=λxs H Q=>∃ (p:Addr) (bs:List Bool),xs=[.ref p]/\SqL K H p (bs.map V.bl)/\Q (.bl (bs.all id)) H
theorem zrZ (h:X.K=K) (hc:X.calm=true):CallR X (.builtin "all") (zEh K):=h▸zuL hc
theorem zuN (h:X.K=K):MtR X "str.join" (zxw K):=h▸zxx
def zr0 (K:W.Frag):List V->Hp->VK->Prop:=λxs H Q=>∃ p ys,xs=[.ref p]/\(SqL K H p ys\/SqT K H p ys)/\∀ l,H l=none->Q (.ref l) (upd H l (.lst ys))
theorem zqi (h:X.K=K):CallR X (.type "list") (zr0 K):=h▸zm6
def zv9 (K:W.Frag):List V->Hp->VK->Prop:=λxs H Q=>∃ p ys,xs=[.ref p]/\((SqL K H p ys/\∀ l,H l=none->Q (.ref l) (upd H l (.tup ys)))\/(SqT K H p ys/\Q (.ref p) H))
theorem zoj (h:X.K=K):CallR X (.type "tuple") (zv9 K):=h▸zml
variable {T id:String} {name:Str} {r:V->List V->Hp->VK->Prop} {o e:Expr} {es:List Expr} {to:TE} {t:TA} {apos cpos pos:Pos}
theorem zok (h:X.K=K) (pa:PlainAttrs T) (slot:Slot T name id) (hty:typeOf (.builtin id)=pure (.type "method_descriptor")) (hm:MtR X id r) (ho:PE X o to)
  (hbase:attributeBase o name X.env (eval o X.env)=eval o X.env:=by rfl) (hline:(apos.endLine==cpos.line)=true:=by rfl):PE X (.Call (.Attribute o name apos) [] [] cpos) (zAg K T r to):=h▸zAh pa slot hty hm ho hbase hline
theorem zwa (h : X.K = K) (pa : PlainAttrs T) (slot : Slot T name id) (hty : typeOf (.builtin id) = pure (.type "method_descriptor")) (hm : MtR X id r) (ho : PE X o to) (ha : PA X (e :: es) t)
    (hbase : attributeBase o name X.env (eval o X.env) = eval o X.env := by rfl)
    (hfew : ((backTo cpos (starEach (e :: es) X.env)).all (λx => !x.1) && (backToKw cpos (keywordEach [] X.env)).all (λx => x.1.isSome)
      && decide ((e :: es).length + ([] : List Keyword).length + (if ([] : List Keyword).isEmpty then 0 else 1) < 30)) = true := by rfl)
    (hline : (apos.endLine == cpos.line) = true := by rfl) (hs : starEach (e :: es) X.env = (false, eval e X.env) :: starEach es X.env := by rfl) (hplain : (backTo cpos (starEach es X.env)).any (·.1) = false := by rfl) :
    PE X (.Call (.Attribute o name apos) (e :: es) [] cpos) (tBM K T r to t) := h ▸ zCO pa slot hty hm ho ha hbase hfew hline hs hplain
theorem zxF {es:List Expr} {k:Nat} {t:TGs} {n:Nat} (h:X.K=K) (hc:X.calm=true) (hp:PGs X es t)
  (hn:(assignEach es X.env).length=n:=by rfl) (hst:(assignEach es X.env).findIdx? (·.1)=none:=by rfl):PG X (.Tuple es k pos) (zCB K n t):=h▸zzT hc hp hn hst
theorem zxG {f:Str} (h:X.K=K) (he:PE X e to) (hb:attributeBase e f X.env (eval e X.env)=eval e X.env):PE X (.Attribute e f pos) (zCK K to f):=h▸zz6 he hb
theorem zxH {f:Str} {value:Expr} {tv:TE} {pos':Pos} (h:X.K=K) (ha:PE X o to) (hv:PE X value tv) (hs:swapsWith value (some (.Attribute o f pos')) pos.line X.env=pure false):PS X (.Assign [.Attribute o f pos'] value pos) (zCe K to tv f):=h▸zz7 ha hv hs
def GC (mg:Str->Option Value) (x:Str) (v:V):Prop:=∃ u,mg x=some u/\RelV v u
theorem zAs {x:Str} {v:V} (hg:Gl X x) (h:GC X.mg x v) (hd:(x==("__debug__":Str))=false:=by decide):PE X (.Name x pos) (tC v):=by
 obtain ⟨u,h1,h2⟩:=h;exact zrr hg h1 h2 hd
end
section
variable {K:W.Frag} {σ:St} {H:Hp} {Q:VK} {v x y:V} {i j:Int} {ta tb:TE} {D:Ends}
theorem len_str {z:Str} (h:z.length<=sizeLine):zCJ K (.str z) H z.length:=⟨h,rfl⟩
end
mutual
inductive DAt (K:W.Frag) (H:Hp):V->PyData->Prop
 | non:DAt K H .non .none
 | bl (b:Bool):DAt K H (.bl b) (.bool b)
 | int (i:Int):DAt K H (.int i) (.int i)
 | str (x:Str):DAt K H (.str x) (.str x)
 | lst {a:Addr} {xs:List V} {ds:List PyData} (h:SqL K H a xs) (r:DAts K H xs ds):DAt K H (.ref a) (.list ds)
 | tup {a:Addr} {xs:List V} {ds:List PyData} (h:SqT K H a xs) (r:DAts K H xs ds):DAt K H (.ref a) (.tuple ds)
inductive DAts (K:W.Frag) (H:Hp):List V->List PyData->Prop
 | nil:DAts K H [] []
 | cons {x:V} {d:PyData} {xs:List V} {ds:List PyData} (h:DAt K H x d) (r:DAts K H xs ds):DAts K H (x :: xs) (d :: ds)
end
section
variable {X:Cx} {pins:List (Addr×Obj)} {σ:St} {H:Hp} {s:Shared}
mutual
theorem Inv.reads (I:Inv X pins σ H s):∀ {x:V} {d:PyData} {u:Value},DAt X.K H x d->RelV x u->∃ as,Reads s.heap u d as
 | _,_,_,.non,r=>by cases r; exact ⟨_,.none⟩
 | _,_,_,.bl b,r=>by cases r; exact ⟨_,.bool b⟩
 | _,_,_,.int i,r=>by obtain ⟨t,rfl⟩:=r; exact ⟨_,.int i t⟩
 | _,_,_,.str x,r=>by obtain ⟨t,rfl⟩:=r; exact ⟨_,.str x t⟩
 | _,_,_,.lst h q,r=>by
  cases r
  obtain ⟨its,rv,⟨o,n,e,c,_,d⟩,_⟩:=I.list h;obtain ⟨as,ra⟩:=Inv.readsAll I q rv;exact ⟨_,.list e c d (by simpa using ra)⟩
 | _,_,_,.tup h q,r=>by
  cases r
  obtain ⟨its,rv,⟨o,e,c,n,d⟩,_⟩:=I.tuple h;obtain ⟨as,ra⟩:=Inv.readsAll I q rv;exact ⟨_,.tuple e c d (by simpa using ra)⟩
theorem Inv.readsAll (I:Inv X pins σ H s):∀ {xs:List V} {ds:List PyData} {us:List Value},DAts X.K H xs ds->Vals xs us->∃ as,ReadsAll s.heap us ds as
 | _,_,_,.nil,.nil=>⟨_,.nil⟩
 | _,_,_,.cons h r,.cons v t=>by
  obtain ⟨as,ra⟩:=Inv.reads I h v;obtain ⟨bs,rb⟩:=Inv.readsAll I r t;exact ⟨_,.cons ra rb⟩
end
end
theorem Room.c64 {k:Nat} {A:Around} (r:Room k A):A.units+65 < cLine:=by have:=r.un; omega
def zEi (K:W.Frag):R2:=λx y H Q=>∃ da db,DAt K H x da/\DAt K H y db/\SeqAt.shaped da=true/\SeqAt.shaped db=true/\Q (.bl (PyData.eqv da db)) H
def zEj (K:W.Frag):R2:=λx y H Q=>∃ da db,DAt K H x da/\DAt K H y db/\SeqAt.shaped da=true/\SeqAt.shaped db=true/\Q (.bl (!PyData.eqv da db)) H
def zEk (K:W.Frag):R2:=λx y H Q=>∃ ds d,(DAt K H y (.list ds)\/DAt K H y (.tuple ds))/\DAt K H x d/\SeqAt.shaped (.list ds)=true/\SeqAt.shaped d=true/\Q (.bl (ds.any λe=>PyData.eqv e d)) H
def zr1 (K:W.Frag):R2:=λx y H Q=>∃ ds d,(DAt K H y (.list ds)\/DAt K H y (.tuple ds))/\DAt K H x d/\SeqAt.shaped (.list ds)=true/\SeqAt.shaped d=true/\Q (.bl (!(ds.any λe=>PyData.eqv e d))) H
section
variable {X:Cx} {K:W.Frag}
theorem zAt (hK:X.K=K) (hu:X.A.units+65 < cLine):OpR X (compareOp .Eq) (zEi K):=by
 subst hK;intro pins s σ H x y v u Q I rx ry h;obtain ⟨da,db,ha,hb,sa,sb,q⟩:=h;obtain ⟨as,ra⟩:=I.reads ha rx;obtain ⟨bs,rb⟩:=I.reads hb ry;exact eq_dataH ra rb sa sb (by omega) ⟨.bl _,H,I,rfl,q⟩
theorem zAu (hK:X.K=K) (hu:X.A.units+65 < cLine):OpR X (compareOp .NotEq) (zEj K):=by
 subst hK;intro pins s σ H x y v u Q I rx ry h;obtain ⟨da,db,ha,hb,sa,sb,q⟩:=h;obtain ⟨as,ra⟩:=I.reads ha rx;obtain ⟨bs,rb⟩:=I.reads hb ry;exact ne_dataH ra rb sa sb (by omega) ⟨.bl _,H,I,rfl,q⟩
theorem zAv (hK:X.K=K) (hu:X.A.units+65 < cLine):OpR X (compareOp .In) (zEk K):=by
 subst hK;intro pins s σ H x y v u Q I rx ry h;obtain ⟨ds,d,hc,hd,sa,sb,q⟩:=h;obtain ⟨bs,rb⟩:=I.reads hd rx;rcases hc with hc | hc
 ·obtain ⟨as,ra⟩:=I.reads hc ry;exact SeqAt.in_list_reads ra rb (SeqAt.canLay_of_shaped sa) (SeqAt.canLay_of_shaped sb) (room_in_shaped sb hu) ⟨.bl _,H,I,rfl,q⟩
 ·obtain ⟨as,ra⟩:=I.reads hc ry;exact SeqAt.in_tuple_reads ra rb (by have:=SeqAt.canLay_of_shaped sa; simpa [PyData.canLay0] using this) (SeqAt.canLay_of_shaped sb) (room_in_shaped sb hu) ⟨.bl _,H,I,rfl,q⟩
theorem zr2 (hK:X.K=K) (hu:X.A.units+65 < cLine):OpR X (compareOp .NotIn) (zr1 K):=by
 subst hK;intro pins s σ H x y v u Q I rx ry h;obtain ⟨ds,d,hc,hd,sa,sb,q⟩:=h;obtain ⟨bs,rb⟩:=I.reads hd rx;rcases hc with hc | hc
 ·obtain ⟨as,ra⟩:=I.reads hc ry;exact SeqAt.notIn_list_reads ra rb (SeqAt.canLay_of_shaped sa) (SeqAt.canLay_of_shaped sb) (room_in_shaped sb hu) ⟨.bl _,H,I,rfl,q⟩
 ·obtain ⟨as,ra⟩:=I.reads hc ry;exact SeqAt.notIn_tuple_reads ra rb (by have:=SeqAt.canLay_of_shaped sa; simpa [PyData.canLay0] using this) (SeqAt.canLay_of_shaped sb) (room_in_shaped sb hu) ⟨.bl _,H,I,rfl,q⟩
def zEl:V->Option Int->Option Int->Hp->VK->Prop:=λx lo hi H Q=>∃ z,x=.str z/\z.length<=sizeLine/\Q (.str (Txt.slice z lo hi)) H
theorem zAw:SlR X zEl:=by
 intro pins s σ H x v vl vu lo hi sl Q I rx hs pl pu h;obtain ⟨z,rfl,hz,q⟩:=h;obtain ⟨t,rfl⟩:=rx;refine ⟨"str",_,F.slot_str_getitem.lookup,typeIs_str _ _ _,?_⟩;have fin:∀ t' k,EP X pins σ Q (.str (Txt.slice z lo hi) t') { s with toks:=k }:=λt' k=>⟨.str _,H,I.tok k,⟨t',rfl⟩,q⟩
 cases pl with
 | none=>cases pu with
  | none=>exact wpAny_getItem_str_slice (l:=none) (u:=none) (st:=none) hs rfl (post_val_or_str ⟨Nat.le_trans (Txt.slice_le z _ _) hz,fin⟩)
  | int j uj=>exact wpAny_getItem_str_slice (l:=none) (u:=some (j,uj)) (st:=none) hs rfl (post_val_or_str ⟨Nat.le_trans (Txt.slice_le z _ _) hz,fin⟩)
 | int i ui=>cases pu with
  | none=>exact wpAny_getItem_str_slice (l:=some (i,ui)) (u:=none) (st:=none) hs rfl (post_val_or_str ⟨Nat.le_trans (Txt.slice_le z _ _) hz,fin⟩)
  | int j uj=>exact wpAny_getItem_str_slice (l:=some (i,ui)) (u:=some (j,uj)) (st:=none) hs rfl (post_val_or_str ⟨Nat.le_trans (Txt.slice_le z _ _) hz,fin⟩)
def zEm (K:W.Frag) (n:Nat) (t:TGs):TG:=λv σ H Q=>∃ a xs,v=.ref a/\SqL K H a xs/\xs.length=n/\t xs σ H Q
theorem zne {prog:Program} {w:World} {A:Around} {E:Value->Shared->Prop} {it t:Addr} {items:Array Value} (hne:t≠it):∀ (n i:Nat) (s:Shared) (Q:List Value->Shared->Prop),s.heap.IsListIter it t i->s.heap.IsList t items->i+n<=items.size->
  (∀ h',h'.IsListIter it t (i+n)->Heap.SameBut it s.heap h'->Q ((items.toList.drop i).take n) { s with heap:=h' })->wpAny (model prog w) A (draw (.ref it) n) Q E s
 | 0,i,s,Q,hit,_,_,hQ=>by
  show wpAny _ _ (pure []) Q E s;exact wpAny_pure (by simpa using hQ s.heap hit (Heap.SameBut.refl ..))
 | n+1,i,s,Q,hit,ht,hle,hQ=>by
  have hlt:i < items.size:=by omega
  show wpAny _ _ (pyNext (.ref it) >>= _) Q E s;refine wpAny_bind (wpAny_pyNext_list_item hit ht (x:=items[i]) (by simp [hlt]) λh₁ hit₁ hs₁=>?_);refine wpAny_bind (wpAny_holding (zne hne n (i+1) _ _ hit₁ (ht.extBut hs₁.extBut hne) (by omega) λh₂ hit₂ hs₂=>wpAny_pure ?_));have hd:items.toList.drop i=items[i] :: items.toList.drop (i+1):=by simp [List.drop_eq_getElem_cons,hlt]
  have q:=hQ h₂ (by rw [show i+(n+1)=i+1+n by omega]; exact hit₂) (hs₁.trans hs₂);rw [hd,List.take_succ_cons] at q;exact q
theorem zjS {prog:Program} {w:World} {A:Around} {E:Value->Shared->Prop} {s:Shared} {t:Addr} {items:Array Value} {Q:List Value->Shared->Prop} (hh:A.handled=none) (ht:s.heap.IsList t items)
  (hQ:∀ h',Heap.ExtBut s.heap.objs.size s.heap h'->Q items.toList { s with heap:=h' }):wpAny (model prog w) A (unpackItems (.ref t) items.size none) Q E s:=by
 have hlt:t≠s.heap.objs.size:=by obtain ⟨o,ho,_⟩:=ht; exact Nat.ne_of_lt (Heap.lt_size ho)
 unfold unpackItems;refine wpAny_bind ?_;unfold notIterableAtAll;refine wpAny_bind (wpAny_specialOf ht.typeIs slot_list_iter.lookup ?_);refine wpAny_pure ?_;simp only [Bool.false_eq_true,if_false];refine wpAny_bind (wpAny_holding (wpAny_pyIter_list ht ?_));refine wpAny_bind (wpAny_holding (zne hlt items.size 0 _ _ ⟨_,Heap.get?_push_size _ rfl,rfl,rfl⟩ (ht.at λo e=>Heap.get?_push_of_some _ e) (by omega) λh₁ hit₁ hs₁=>?_))
 have hall:List.take items.size (List.drop 0 items.toList)=items.toList:=by
  rw [List.drop_zero]; exact List.take_of_length_le (by simp)
 rw [hall];rw [if_neg (by simp)];have ht₁:h₁.IsList t items:=(ht.at λo e=>Heap.get?_push_of_some _ e).extBut hs₁.extBut hlt;refine wpAny_bind (wpAny_holding (wpAny_pyNext_list_end hh hit₁ ht₁ (by simp) λh₂ he₂=>?_));simp only [Option.isSome_none,Bool.false_eq_true,if_false];exact wpAny_pure (hQ h₂ λb o hb e=>he₂ b o hb (hs₁.extBut b o hb (Heap.get?_push_of_some _ e)))
theorem zAx {es:List Expr} {k:Nat} {t:TGs} {n:Nat} {pos:Pos} (hK:X.K=K) (hc:X.calm=true) (h:PGs X es t)
  (hn:(assignEach es X.env).length=n:=by rfl) (hst:(assignEach es X.env).findIdx? (·.1)=none:=by rfl):PG X (.Tuple es k pos) (zEm K n t):=by
 subst hK;intro pins s σ H v u Q I r hw;obtain ⟨a,xs,e1,hq,hl,hw⟩:=hw;subst e1;cases r
 obtain ⟨its,rv,pl,hz⟩:=I.list hq;have hsz:(assignEach es X.env).length=its.toArray.size:=by simp [hn,<- hl,rv.length]
 rw [assign_Tuple];refine wpAny_bind (wpAny_standAt ?_);unfold unpack;rw [hsz,hst];refine wpAny_bind (wpAny_holding (zjS (I.ok.hd hc) pl.isList λh' hx=>?_));have I1:Inv X pins σ H { s with heap:=h' }:=I.kept (t':=s.toks) λb o e=>hx b o (Nat.ne_of_lt (Heap.lt_size e)) e;exact h pins _ σ H xs _ Q I1 (by simpa using rv) hw
def zr3:V->List V->Hp->VK->Prop:=λx vs H Q=>∃ i,x=.int i/\vs=[]/\Q (.int ((Builtin.Int.intBits i:Nat):Int)) H
theorem zr4:MtR X "int.bit_length" zr3:=by
 intro pins s σ H x vs v us Q I rx rv h;obtain ⟨i,rfl,rfl,q⟩:=h;obtain ⟨t,rfl⟩:=rx;cases rv
 exact call_int_bit_length ⟨.int _,H,I.tok _,⟨_,rfl⟩,q⟩
theorem zmq {prog:Program} {w:World} {d:Addr} (hd:(d==sysModules)=false) :
  MeetsIn prog w (Builtin.«dict.__len__» ⟨[.ref d],[]⟩) (λ_ R s=>∃ o es ep,s.heap.get? d=some o/\o.data=.dict es ep/\R (.ok (.ret (.int es.size s.toks))) { s with toks:=s.toks+1 }):=
 .of_wp λA R s ⟨o,es,ep,ho,hdat,h⟩=>by
  show wpAny _ _ (dictSize d >>= _) _ _ s;unfold dictSize;refine wpAny_bind (wpAny_bind (wpAny_dictEntries ho hdat (wpAny_pure ?_)));show wpAny _ _ (Builtin.Dict.pendingCount d >>= _) _ _ s;refine wpAny_bind (wpAny_pendingCount_other hd ?_);refine wpAny_ret_mkInt ?_
  simpa using h
theorem zr5 {prog:Program} {w:World} {A:Around} {E:Value->Shared->Prop} {s:Shared} {d:Addr} {o:Obj} {es:Array DictEntry} {ep:Nat} {Q:Value->Shared->Prop} (hd:(d==sysModules)=false) (ho:s.heap.get? d=some o) (hc:o.cls=.type "dict") (hdat:o.data=.dict es ep) (hfit:(es.size:Int) < 2 ^ 63)
  (h:Q (.int es.size (s.toks+1)) { s with toks:=s.toks+1+1 }):wpAny (model prog w) A (call (.builtin "len") [.ref d]) Q E s:=by
 have ht:s.TypeIs (.ref d) "dict":=⟨o,ho,hc⟩
 refine Calls.call_function_entry kind_len plain_len entry_len (args_len1 _) ?_;unfold Builtin.«len»;refine wpAny_bind (m:=oneArg "len" _) (wpAny_pure ?_);refine wpAny_bind (m:=callSpecial? (.ref d) (Str.ofString "__len__")) (wpAny_callSpecial?_slot (name:=Str.ofString "__len__") ht F.slot_dict_len
  (call_meetsIn F.slot_dict_len ht F.entry_dict_len (F.args_dict_len_1 _) (zmq hd) ⟨o,es,ep,ho,hdat,?_⟩))
 show wpAny _ _ _ _ _ { s with toks:=s.toks+1 };refine wpAny_bind (wpAny_holding (wpAny_pure ?_));refine wpAny_bind (wpAny_letGo ?_);show wpAny _ _ (if ((es.size:Nat):Int) < 0 then _ else _) _ _ _;rw [if_neg (by omega)];show wpAny _ _ (if ((es.size:Nat):Int)>=2 ^ 63 then _ else _) _ _ _;rw [if_neg (by omega)];exact wpAny_bind (wpAny_mkInt (wpAny_pure ⟨_,rfl,h⟩))
def zAy:List V->Hp->VK->Prop:=λxs H Q=>∃ a kvs,xs=[V.ref a]/\H a=some (.dT kvs)/\Q (.int kvs.length) H
theorem zr6:CallR X (.builtin "len") zAy:=by
 intro pins s σ H xs us Q I r h;obtain ⟨a,kvs,rfl,ha,q⟩:=h;obtain ⟨u,rfl,ru⟩:=zjQ r;cases ru
 obtain ⟨z,hd,xs,rel,o,es,ep,h1,h2,h3,h4,_⟩:=zxp I.hok ha;have hl:es.size=kvs.length:=by
  have e1:es.toList.length=xs.length:=by rw [h4,List.length_map]
  have e2:kvs.length=xs.length:=Paired.length rel;rw [Array.length_toList] at e1;omega
 refine zr5 hd h1 h2.1 h3 (by rw [hl]; rw [sizeLine_eq] at z; omega) ?_;rw [hl];exact ⟨.int kvs.length,H,I.tok _,⟨_,rfl⟩,q⟩
def zAz:List V->Hp->VK->Prop:=λxs H Q=>∃ a o kvs,xs=[V.ref a]/\H a=some (.frz o (.dT kvs))/\Q (.int kvs.length) H
theorem zr7:CallR X (.builtin "len") zAz:=by
 intro pins s σ H xs us Q I r h;obtain ⟨a,ob,kvs,rfl,ha,q⟩:=h;obtain ⟨u,rfl,ru⟩:=zjQ r;cases ru
 obtain ⟨z,hd,xs,rel,o,es,ep,h1,h2,h3,h4,_⟩:=zuD I.hok (.inr ⟨ob,ha⟩);have hl:es.size=kvs.length:=by
  have e1:es.toList.length=xs.length:=by rw [h4,List.length_map]
  have e2:kvs.length=xs.length:=Paired.length rel;rw [Array.length_toList] at e1;omega
 refine zr5 hd h1 h2.1 h3 (by rw [hl]; rw [sizeLine_eq] at z; omega) ?_;rw [hl];exact ⟨.int kvs.length,H,I.tok _,⟨_,rfl⟩,q⟩
def zwb (K:W.Frag):V->List V->Hp->VK->Prop:=λx vs H Q=>∃ (p:Addr) (zs:List Str) (z:Str) (j:Nat),x=.ref p/\vs=[.str z]/\SqL K H p (zs.map V.str)/\zs[j]? = some z/\(∀ m,m < j->zs[m]?≠some z)/\Q (.int (j:Nat)) H
theorem zr8 (hK:X.K=K):MtR X "list.index" (zwb K):=by
 subst hK;intro pins s σ H x vs v us Q I rx rv h;obtain ⟨p,zs,z,j,rfl,rfl,hp,hj,hno,q⟩:=h;cases rx
 obtain ⟨u,rfl,ru⟩:=Vals.one rv;obtain ⟨t,rfl⟩:=ru;obtain ⟨its,r,⟨o,n,e,hc,hdn,hdat⟩,hz⟩:=I.list hp;have hlen:=r.length;rw [List.length_map] at hlen;have hjl:j < zs.length:=(List.getElem?_eq_some_iff.mp hj).1;have at_:∀ m (hm:m < its.length),∃ t',its[m]=.str (zs[m]'(by omega)) t':=λm hm=>by
  obtain ⟨u',hu',ru'⟩:=r.get (i:=m) (x:=.str (zs[m]'(by omega))) (by rw [List.getElem?_map,List.getElem?_eq_getElem (by omega)]; rfl);rw [List.getElem?_eq_getElem hm] at hu'; cases hu'
  exact ru'
 obtain ⟨cls,dict,data,slots⟩:=o;dsimp only at hc hdn hdat;subst hc hdn hdat;refine call_meets F.slot_list_index ⟨_,e,rfl⟩ F.entry_list_index (F.args_list_index_2 _ _)
  (SeqAt.list_indexAt p its.toArray n none slots (.str z t) (λy=>match y with | .str w _=>w==z | _=>false) j (by simp; omega) (by rw [sizeLine_eq] at hz; rw [List.length_map] at hz; omega) ?_ ?_) ⟨e,?_,?_⟩
 ·obtain ⟨t',e'⟩:=at_ j (by omega);have ez:zs[j]'(by omega)=z:=by rw [List.getElem?_eq_getElem hjl] at hj; exact Option.some.inj hj
  simp only [List.getElem_toArray,e',ez,beq_self_eq_true]
 ·intro m hm hmj;have hm':m < its.length:=by simpa using hm
  obtain ⟨t',e'⟩:=at_ m hm';have hne:=hno m hmj;rw [List.getElem?_eq_getElem (by omega)] at hne;simp only [List.getElem_toArray,e',beq_eq_false_iff_ne];exact λq=>hne (by rw [q])
 ·intro y hy;obtain ⟨m,hm,ey⟩:=List.mem_iff_getElem.mp (by simpa using hy:y∈its);obtain ⟨t',e'⟩:=at_ m hm;rw [<- ey,e'];exact SeqAt.EqAt.str_str _ _ _ _
 ·exact ⟨.int _,H,I.tok _,⟨_,rfl⟩,q⟩
end
theorem znf {x:Str} {k:Nat} (h:k<=x.length):(Txt.slice x none (some (k:Int))).cps.toList=x.cps.toList.take k:=by
 have hi:Builtin.Str.strSliceIndices none (some (k:Int)) 1 x.length=List.range k:=by
  unfold Builtin.Str.strSliceIndices sliceRange;simp only [show (1:Int) > 0 by decide,if_true];rw [if_neg (by omega:¬ (k:Int) < 0),show max 0 (min (k:Int) (x.length:Int))=k by omega]
  by_cases hk:(0:Int) < k
  ·rw [if_pos hk];have:((k:Int)-0+1-1) / 1=k:=by omega
   rw [this,Int.toNat_natCast];refine List.ext_getElem (by simp) λi h1 h2=>?_;simp
  ·have:k=0:=by omega
   subst this;simp
 unfold Txt.slice;rw [hi];have hx:x.length=x.cps.size:=rfl;split
 ·rename_i hc
  have:k=x.length:=by simpa using hc
  rw [List.take_of_length_le (by simp; omega)]
 ·refine List.ext_getElem? λi=>?_;show ((List.range k).filterMap λj=>x.cps[j]?)[i]? = _;have e:((List.range k).filterMap λj=>x.cps[j]?)=x.cps.toList.take k:=by
   clear hi
   rename_i hc
   clear hc
   induction k with
   | zero=>simp
   | succ k ih=>
    rw [List.range_succ,List.filterMap_append,ih (by omega),List.take_add_one];congr 1;have hk:k < x.cps.size:=by omega
    simp [hk]
  rw [e]
theorem zng {x:Str} {k:Nat} (h:k<=x.length):(Txt.slice x (some (k:Int)) none).cps.toList=x.cps.toList.drop k:=by
 have hx:x.length=x.cps.size:=rfl;have hi:Builtin.Str.strSliceIndices (some (k:Int)) none 1 x.length=(List.range (x.length-k)).map λj=>k+j:=by
  unfold Builtin.Str.strSliceIndices sliceRange;simp only [show (1:Int) > 0 by decide,if_true];rw [if_neg (by omega:¬ (k:Int) < 0),show max 0 (min (k:Int) (x.length:Int))=k by omega]
  by_cases hk:(k:Int) < x.length
  ·rw [if_pos hk];have:(((x.length:Int)-k+1-1) / 1).toNat=x.length-k:=by omega
   rw [this];refine List.ext_getElem (by simp) λi h1 h2=>?_;simp;omega
  ·have:x.length-k=0:=by omega
   rw [if_neg hk,this];simp
 unfold Txt.slice;rw [hi];have e:(((List.range (x.length-k)).map λj=>k+j).filterMap λj=>x.cps[j]?)=x.cps.toList.drop k:=by
  refine List.ext_getElem? λi=>?_;rw [List.getElem?_drop,List.filterMap_map];have e2:∀ n,n<=x.length-k->((List.range n).filterMap ((λj=>x.cps[j]?) ∘ λj=>k+j))=(x.cps.toList.drop k).take n:=by
   intro n
   induction n with
   | zero=>intro _; simp
   | succ n ih=>
    intro hn;rw [List.range_succ,List.filterMap_append,ih (by omega),List.take_add_one,List.getElem?_drop];congr 1;have hk:k+n < x.cps.size:=by omega
    simp [hk]
  rw [e2 _ (Nat.le_refl _),List.take_of_length_le (by simp; omega),List.getElem?_drop]
 split
 ·rename_i hc
  have:k=0:=by
   have hc':x.length-k=x.length:=by simpa using hc
   have hx0:x.length=0\/k=0:=by omega
   omega
  subst this;simp
 ·exact e
section
variable {X:Cx} {K:W.Frag}
def zEn (K:W.Frag):R2:=λx y H Q=>zE3 x y H Q\/zEk K x y H Q
def zr9 (K:W.Frag):R2:=λx y H Q=>zxB x y H Q\/zr1 K x y H Q
theorem zAA (hK:X.K=K) (hu:X.A.units+65 < cLine):OpR X (compareOp .In) (zEn K):=zrB.or (zAv hK hu)
theorem zsa (hK:X.K=K) (hu:X.A.units+65 < cLine):OpR X (compareOp .NotIn) (zr9 K):=zm5.or (zr2 hK hu)
theorem PG.or {tg:Expr} {g g':TG} (h:PG X tg g) (h':PG X tg g'):PG X tg (λv σ H Q=>g v σ H Q\/g' v σ H Q):=by
 intro pins s σ H v u Q I r q;rcases q with q | q
 ·exact h pins s σ H v u Q I r q
 ·exact h' pins s σ H v u Q I r q
def zEo (K:W.Frag) (n:Nat) (t:TGs):TG:=λv σ H Q=>zCB K n t v σ H Q\/zEm K n t v σ H Q
theorem zxI {es:List Expr} {k:Nat} {t:TGs} {n:Nat} {pos:Pos} (hK:X.K=K) (hc:X.calm=true) (h:PGs X es t)
  (hn:(assignEach es X.env).length=n:=by rfl) (hst:(assignEach es X.env).findIdx? (·.1)=none:=by rfl):PG X (.Tuple es k pos) (zEo K n t):=(zxF hK hc h hn hst).or (zAx hK hc h hn hst)
def zAB (K:W.Frag):List V->Hp->VK->Prop:=λxs H Q=>zxC K xs H Q\/zAy xs H Q
theorem zsb (hK:X.K=K):CallR X (.builtin "len") (zAB K):=(zrY hK).or zr6
def zEp (K:W.Frag):V->Option Int->Option Int->Hp->VK->Prop:=λx lo hi H Q=>zEl x lo hi H Q\/zEd K x lo hi H Q\/zD9 K x lo hi H Q
theorem zxJ (hK:X.K=K):SlR X (zEp K):=by
 subst hK;exact zAw.or (zxm.or zAc)
end
section
variable {K:W.Frag} {σ:St} {H:Hp} {Q:VK} {v x y:V} {i j:Int} {ta tb:TE} {D:Ends} {p:Addr} {xs:List V}
theorem zqj {z:Str} (h:PyData.strOk z=true):SeqAt.shaped (.str z)=true:=by
 unfold SeqAt.shaped;rw [show PyData.canLay0 (.str z)=PyData.strOk z from rfl,h,Bool.true_and];exact decide_eq_true (by simp [PyData.depth])
end
section
variable {prog:Program} {w:World} {A:Around} {E:Value->Shared->Prop} {s:Shared}
def RawD (h:Heap) (d:Addr) (es:Array DictEntry) (ep:Nat):Prop:=∃ o,h.get? d=some o/\o.cls=.type "dict"/\o.data=.dict es ep
theorem RawD.at {h h':Heap} {d:Addr} {es:Array DictEntry} {ep:Nat} (r:RawD h d es ep) (k:∀ o,h.get? d=some o->h'.get? d=some o):RawD h' d es ep:=let ⟨o,e,q⟩:=r; ⟨o,k o e,q⟩
theorem zuO {d:Addr} {es:Array DictEntry} {ep:Nat} {Q:Value->Shared->Prop} (nd:(d==sysModules)=false) (r:RawD s.heap d es ep)
  (q:Q (.ref s.heap.objs.size) { s with heap:=s.heap.push { cls:=.type "dict_keyiterator",data:=.fields #[.ref d,.int 0 0,.int es.size 0,.int ep 0] } }):wpAny (model prog w) A (pyIter (.ref d)) Q E s:=by
 obtain ⟨ob,e1,e2,e3⟩:=r;have ty:s.TypeIs (.ref d) "dict":=⟨ob,e1,e2⟩
 refine wpAny_pyIter_slot ty F.slot_dict_iter (wpAny_call_entry F.slot_dict_iter ty F.entry_dict_iter ?_ (F.args_dict_iter_1 _)); unfold Builtin.«dict.__iter__»;refine wpAny_bind ?_; unfold Builtin.Dict.dictSlotNone;refine wpAny_bind (wpAny_notOrdered_dict ty ?_); show wpAny _ _ (pure (Value.ref d)) _ _ s;refine wpAny_pure ?_; show wpAny _ _ (Builtin.Dict.showsAll d >>= _) _ _ s; unfold Builtin.Dict.showsAll; rw [if_neg (by rw [nd]; exact Bool.false_ne_true)]
 refine wpAny_bind (wpAny_pure (wpAny_bind (wpAny_dictEntries e1 e3 (wpAny_bind (wpAny_dictEpoch e1 e3 ?_)))));refine wpAny_bind (wpAny_newObj_type (wpAny_pure ⟨_,rfl,"dict_keyiterator",_,⟨_,Heap.get?_push_size _ rfl,rfl⟩,F.slot_dict_keyiterator_next.lookup,by simpa [rawInt] using q⟩))
theorem zuP {it d:Addr} {i ep:Nat} {es:Array DictEntry} {Q:Option Value->Shared->Prop} (hi:s.heap.IsKeyIter it d i es.size ep) (r:RawD s.heap d es ep) (lt:i < es.size)
  (q:∀ h',h'.IsKeyIter it d (i+1) es.size ep->Heap.SameBut it s.heap h'->Q (some es[i].key) { s with heap:=h' }):wpAny (model prog w) A (pyNext (.ref it)) Q E s:=by
 obtain ⟨oi,f1,f2,f3⟩:=id hi;obtain ⟨ob,e1,e2,e3⟩:=r;unfold pyNext; refine wpAny_bind (wpAny_attempt (wpAny_callSpecial?_slot (name:=Str.ofString "__next__") hi.typeIs F.slot_dict_keyiterator_next (wpAny_call_entry F.slot_dict_keyiterator_next hi.typeIs F.entry_dict_keyiterator_next ?_ (F.args_dict_keyiterator_next_1 _))));refine wpAny_bind (wpAny_pure (wpAny_bind (wpAny_bind ?_)))
 first | (refine wpAny_bind (wpAny_typeNameOfWhole_keyiter hi.typeIs (wpAny_pure ?_)); skip) | (refine wpAny_bind (wpAny_typeNameOf_keyiter hi.typeIs (wpAny_pure ?_)); skip)
 refine wpAny_bind (wpAny_fieldsOf f1 f3 ?_);simp only [show Builtin.Dict_items.ownsTuple "dict_keyiterator"=false by decide,Bool.false_eq_true,if_false]; show wpAny _ _ (if (Value.ref d==Value.none)=true then _ else _) _ _ s;rw [if_neg (by exact Bool.false_ne_true:¬ ((Value.ref d==Value.none)=true))];refine wpAny_bind (wpAny_pure (wpAny_bind (wpAny_dictEntries e1 e3 ?_))); rw [if_neg (by simp)]
 refine wpAny_bind (wpAny_pure (wpAny_bind (wpAny_dictEpoch e1 e3 ?_))); rw [if_neg (by simp)];refine wpAny_pure ?_; simp only [show ¬ ((i:Int) < 0) by omega,if_false,Int.toNat_natCast,Array.getElem?_eq_getElem lt];refine wpAny_bind ?_; first | (refine wpAny_bind (wpAny_typeNameOfWhole_keyiter hi.typeIs (wpAny_pure ?_)); skip) | (refine wpAny_bind (wpAny_typeNameOf_keyiter hi.typeIs (wpAny_pure ?_)); skip)
 refine wpAny_bind (wpAny_isOneOf_keyiter hi.typeIs ?_); show wpAny _ _ (setField (.ref it) 1 (rawInt ((i:Int)+1)) >>= _) _ _ s;refine wpAny_bind (wpAny_setField f1 f3 (by simp) ?_);have hi':(s.heap.update it (Obj.mapFields (·.setIfInBounds 1 (rawInt ((i:Int)+1))))).IsKeyIter it d (i+1) es.size ep:=⟨_,Heap.get?_update_self _ f1 (Obj.isFreed_of_fields (Obj.data_mapFields f3 _)),(Obj.cls_mapFields ..).trans f2,by rw [Obj.data_mapFields f3]; simp [rawInt]⟩
 refine wpAny_bind (wpAny_holding (wpAny_bind (wpAny_isOneOf_keyiter (s:={ s with heap:=s.heap.update it (Obj.mapFields (·.setIfInBounds 1 (rawInt ((i:Int)+1)))) }) hi'.typeIs ?_))); show wpAny _ _ (pure es[i].key) _ _ _;exact wpAny_pure (wpAny_pure ⟨_,rfl,wpAny_pure (q _ hi' (Heap.SameBut.update ..))⟩)
theorem zxK {it d:Addr} {ep:Nat} {es:Array DictEntry} {Q:Option Value->Shared->Prop} (hh:A.handled=none) (hi:s.heap.IsKeyIter it d es.size es.size ep) (r:RawD s.heap d es ep)
  (q:∀ h',Heap.ExtBut it s.heap h'->Q none { s with heap:=h' }):wpAny (model prog w) A (pyNext (.ref it)) Q E s:=by
 obtain ⟨oi,f1,f2,f3⟩:=id hi;obtain ⟨ob,e1,e2,e3⟩:=r;unfold pyNext; refine wpAny_bind (wpAny_attempt (wpAny_callSpecial?_slot (name:=Str.ofString "__next__") hi.typeIs F.slot_dict_keyiterator_next (wpAny_call_entry F.slot_dict_keyiterator_next hi.typeIs F.entry_dict_keyiterator_next ?_ (F.args_dict_keyiterator_next_1 _))));refine wpAny_bind (wpAny_pure (wpAny_bind (wpAny_bind ?_)))
 first | (refine wpAny_bind (wpAny_typeNameOfWhole_keyiter hi.typeIs (wpAny_pure ?_)); skip) | (refine wpAny_bind (wpAny_typeNameOf_keyiter hi.typeIs (wpAny_pure ?_)); skip)
 refine wpAny_bind (wpAny_fieldsOf f1 f3 ?_);simp only [show Builtin.Dict_items.ownsTuple "dict_keyiterator"=false by decide,Bool.false_eq_true,if_false]; show wpAny _ _ (if (Value.ref d==Value.none)=true then _ else _) _ _ s;rw [if_neg (by exact Bool.false_ne_true:¬ ((Value.ref d==Value.none)=true))];refine wpAny_bind (wpAny_pure (wpAny_bind (wpAny_dictEntries e1 e3 ?_))); rw [if_neg (by simp)]
 refine wpAny_bind (wpAny_pure (wpAny_bind (wpAny_dictEpoch e1 e3 ?_))); rw [if_neg (by simp)];refine wpAny_pure ?_; simp only [show ¬ ((es.size:Int) < 0) by omega,if_false,Int.toNat_natCast,Array.getElem?_eq_none (Nat.le_refl es.size)];refine wpAny_bind ?_; first | (refine wpAny_bind (wpAny_typeNameOfWhole_keyiter hi.typeIs (wpAny_pure ?_)); skip) | (refine wpAny_bind (wpAny_typeNameOf_keyiter hi.typeIs (wpAny_pure ?_)); skip)
 show wpAny _ _ (setField (.ref it) 0 .none >>= _) _ _ s; refine wpAny_bind (wpAny_setField f1 f3 (by simp) ?_);show wpAny _ _ (newExc (.type "StopIteration") [] >>= _) _ _ _; refine wpAny_bind ?_; simp only [newExc,newTuple];refine wpAny_bind (wpAny_newObj_type ?_ (by size_fits)); refine wpAny_bind (m:=firstArgMember _ _) (wpAny_of_eq (a:=Value.none) (by first | rfl | (simp only [firstArgMember]; rfl)) ?_)
 refine wpAny_newObj_type ?_ (by size_fits); simp only [raiseNew]; refine wpAny_bind (wpAny_handled ?_); rw [show A.in1.handled=none from hh];refine wpAny_bind (wpAny_pure (wpAny_throw ?_)); refine wpAny_bind (wpAny_isInstance (T:="StopIteration") (b:=true) ⟨_,Heap.get?_push_size _ rfl,rfl⟩ isSubtype_stop ?_);exact wpAny_pure (q _ (((Heap.SameBut.update ..).extBut.push _).push _))
theorem zsc (hh:A.handled=none) (I d:Addr) (ne:d≠I) (es:Array DictEntry) (ep:Nat):PySem.Walks prog w A I [I,d] [I] es.size (λi v=>∃ e,es[i]? = some e/\v=e.key) (λi h=>h.IsKeyIter I d i es.size ep/\RawD h d es ep) where
 sub:=λb hb=>by simp at hb; simp [hb]
 frame:=λ_ _ _ st k=>⟨st.1.at λo e=>k I (by simp) o e,st.2.at λo e=>k d (by simp) o e⟩
 item:=λi s Q E lt st hQ=>zuP st.1 st.2 lt λh' hi' hs'=>hQ _ h' s.toks ⟨es[i],by simp [lt],rfl⟩ ⟨hi',st.2.at λo e=>hs'.extBut d o ne e⟩ λb o hb e=>hs'.extBut b o (λz=>hb (by simp [z])) e
 done:=λs Q E st hQ=>zxK hh st.1 st.2 λh' he'=>hQ h' s.toks λb o hb e=>he' b o (λz=>hb (by simp [z])) e
 self:=λ_ _ _ _ st hQ=>wpAny_pyIter_keyiter st.1 hQ
theorem zuQ {d:Addr} {es:Array DictEntry} {ep:Nat} {Q:Bool->Shared->Prop} (r:RawD s.heap d es ep) (q:Q false s):wpAny (model prog w) A (Builtin.List.listLengthHint (.ref d)) Q E s:=by
 obtain ⟨ob,e1,e2,e3⟩:=id r;have ty:s.TypeIs (.ref d) "dict":=⟨ob,e1,e2⟩
 unfold Builtin.List.listLengthHint; refine wpAny_bind (wpAny_specialOf ty F.slot_dict_len.lookup ?_);generalize hid:("dict.__len__":String)=id0; wp_delta;rw [show splitId id0=some ("dict","__len__") from by subst hid; decide +kernel]; subst hid;refine wpAny_bind (wpAny_isInstance (T:="dict") (b:=true) ty (by rw [isSubtype_type]; kernel_rfl) ?_);refine wpAny_ite_split (λhab=>absurd hab (by decide)) (λ_=>wpAny_ite_split (λ_=>?_) (λhab=>absurd (by decide +kernel) hab))
 exact wpAny_bind (wpAny_typeOf ty (wpAny_pure q))
theorem zqk {R:Result->Shared->Prop} {d:Addr} {es:Array DictEntry} {ep:Nat} (hh:A.handled=none) (nd:(d==sysModules)=false) (r:RawD s.heap d es ep) (z:es.size<=sizeLine) (S:Addr) (c₀:Nat) (hS:s.heap.get? S=some { cls:=.type "list",data:=.seq #[] c₀ })
  (hR:∀ h' tk acc' c',(∀ b o,b≠S->s.heap.get? b=some o->h'.get? b=some o)->h'.get? S=some { cls:=.type "list",dict:=none,data:=.seq acc' c',slots:=#[] }->ItemsOf (λi v=>∃ e,es[i]? = some e/\v=e.key) acc' es.size->R (.ok (.ret .none)) { s with heap:=h',toks:=tk }) :
  wpAny (model prog w) A.in1 (Builtin.List.listExtendWith (.ref S) (.ref d) .none) (λfin s'=>match fin with | .done f=>R (.ok f) s' | .again c'=>c'.quiet=true/\codeAny (model prog w) A c' R s') (λe s'=>R (.error e) s') s:=by
 obtain ⟨ob,e1,e2,e3⟩:=id r;have nSd:S≠d:=λe=>by rw [e,e1] at hS; cases hS; exact absurd (show Value.type "list"=Value.type "dict" from e2) (by decide)
 have nSI:S≠s.heap.objs.size:=Nat.ne_of_lt (Heap.lt_size hS);have ndI:d≠s.heap.objs.size:=Nat.ne_of_lt (Heap.lt_size e1);have nSf:S∉[s.heap.objs.size,d]:=by simp [nSd,nSI]
 have W:=(zsc (prog:=prog) (w:=w) (A:=A.in1) hh s.heap.objs.size d ndI es ep).toS;have key:∀ (h:Heap) (c₁ tk:Nat),(h.IsKeyIter s.heap.objs.size d 0 es.size ep/\RawD h d es ep)->(∀ b o,b≠S->s.heap.get? b=some o->h.get? b=some o)->h.get? S=some { cls:=.type "list",data:=.seq #[] c₁ }->
   codeAny (model prog w) A (.builtin "list.extend.loop" ⟨[.ref S,.ref s.heap.objs.size,.none],[]⟩) R { s with heap:=h,toks:=tk }:=λh c₁ tk hit hk hS₁=>by
  refine codeAny_extend_loopS W z S nSf .none es.size 0 _ #[] c₁ rfl (Nat.zero_le _) hit hS₁ (ItemsOf.nil _) λs' acc' c' hm hS' hacc=>?_;rw [Moved.eq_with hm]; refine hR s'.heap s'.toks acc' c' (λb o hb e=>hm.heap b o (λhmem=>?_) (hk b o hb e)) hS' hacc;rcases List.mem_cons.mp hmem with e' | hmem
  ·exact hb e'
  ·rw [List.mem_singleton] at hmem; subst hmem; exact absurd (Heap.lt_size e) (Nat.lt_irrefl _)
 unfold Builtin.List.listExtendWith; refine wpAny_bind (wpAny_typeOf (T:="dict") ⟨ob,e1,e2⟩ ?_);simp only [show Builtin.List.listSameRef (.ref S) (.ref d)=false by simp [Builtin.List.listSameRef,nSd],show (Value.type "dict"==Value.type "list")=false by decide,show (Value.type "dict"==Value.type "tuple")=false by decide,Bool.or_false,Bool.false_eq_true,if_false];refine wpAny_bind (zuO nd r ?_);have r₁:RawD (s.heap.push { cls:=.type "dict_keyiterator",data:=.fields #[.ref d,.int 0 0,.int es.size 0,.int ep 0] }) d es ep:=r.at λo e=>Heap.get?_push_of_some _ e
 refine wpAny_bind (wpAny_holding (zuQ r₁ ?_));have i₁:(s.heap.push { cls:=.type "dict_keyiterator",data:=.fields #[.ref d,.int 0 0,.int es.size 0,.int ep 0] }).IsKeyIter s.heap.objs.size d 0 es.size ep:=⟨_,Heap.get?_push_size _ rfl,rfl,rfl⟩
 have S₁:=Heap.get?_push_of_some { cls:=.type "dict_keyiterator",data:=.fields #[.ref d,.int 0 0,.int es.size 0,.int ep 0] } hS;refine wpAny_ite_split (λ_=>?_) (λhab=>absurd (by decide) hab);refine wpAny_bind (wpAny_rule (wpAny_bind ?_)); show wpAny _ _ (updateSeq S (·.push .none) >>= λ_=>updateSeq S (·.pop)) _ _ _;refine wpAny_bind (wpAny_updateSeq S₁ rfl ?_);have S₂:=Heap.get?_update_self (Obj.mapSeq (·.push Value.none)) S₁ rfl
 refine wpAny_updateSeq (hz:=by seq_fits) S₂ rfl ?_;have S₃:=Heap.get?_update_self (Obj.mapSeq (·.pop)) S₂ rfl;have oth:∀ b o,b≠S->(s.heap.push { cls:=.type "dict_keyiterator",data:=.fields #[.ref d,.int 0 0,.int es.size 0,.int ep 0] }).get? b=some o->((((s.heap.push { cls:=.type "dict_keyiterator",data:=.fields #[.ref d,.int 0 0,.int es.size 0,.int ep 0] }).update S (Obj.mapSeq (·.push Value.none))).update S (Obj.mapSeq (·.pop)))).get? b=some o:=
  λb o hb e=>(Heap.get?_update_other _ _ (Ne.symm hb)).trans ((Heap.get?_update_other _ _ (Ne.symm hb)).trans e)
 exact wpAny_pure ⟨plainId_quiet F.plain_extend_loop _,key _ _ _ ⟨i₁.at λo e=>oth _ o (Ne.symm nSI) e,r₁.at λo e=>oth _ o (Ne.symm nSd) e⟩ (λb o hb e=>oth b o hb (Heap.get?_push_of_some _ e)) S₃⟩
theorem zuR {Q:Value->Shared->Prop} {d:Addr} {es:Array DictEntry} {ep:Nat} (hh:A.handled=none) (nd:(d==sysModules)=false) (r:RawD s.heap d es ep) (z:es.size<=sizeLine)
  (hQ:∀ h' tk acc' c',(∀ b o,s.heap.get? b=some o->h'.get? b=some o)->h'.get? s.heap.objs.size=some { cls:=.type "list",dict:=none,data:=.seq acc' c',slots:=#[] }->ItemsOf (λi v=>∃ e,es[i]? = some e/\v=e.key) acc' es.size->Q (.ref s.heap.objs.size) { s with heap:=h',toks:=tk }) :
  wpAny (model prog w) A (call (.type "list") [.ref d]) Q E s:=by
 refine callType_codes (Q₁:=λobj s₁=>obj=.ref s.heap.objs.size/\s₁={ s with heap:=s.heap.push { cls:=.type "list",data:=.seq #[] } }) F.called_list (F.typeCall_list_1 _) F.entry_list_init (code_list_new _ ⟨rfl,rfl⟩) λobj s₁ h₁=>?_;obtain ⟨rfl,rfl⟩:=h₁;have hS:(s.heap.push { cls:=.type "list",data:=.seq #[] }).get? s.heap.objs.size=some { cls:=.type "list",data:=.seq #[] }:=by exact Heap.get?_push_size _ rfl
 have r₁:RawD (s.heap.push { cls:=.type "list",data:=.seq #[] }) d es ep:=r.at λo e=>Heap.get?_push_of_some _ e;refine ⟨⟨_,hS,rfl⟩,F.args_list_init_2 _ _,?_⟩;show wpAny _ _ (do let old <- Builtin.List.listItems (.ref s.heap.objs.size); Builtin.List.listUpdate (.ref s.heap.objs.size) (λ_=>#[]); letGo old.toList.reverse; Builtin.List.listExtendWith (.ref s.heap.objs.size) (.ref d) .none) _ _ _;refine wpAny_bind ?_; unfold Builtin.List.listItems; refine wpAny_bind (wpAny_seqItems hS rfl (wpAny_pure ?_))
 show wpAny _ _ (updateSeq s.heap.objs.size (λ_=>#[]) >>= λ_=>letGo (#[]:Array Value).toList.reverse >>= λ_=>Builtin.List.listExtendWith (.ref s.heap.objs.size) (.ref d) .none) _ _ _;refine wpAny_bind (wpAny_updateSeq hS rfl ?_);have S₂:=Heap.get?_update_self (Obj.mapSeq (λ_=>(#[]:Array Value))) hS rfl;have oth:∀ b o,b≠s.heap.objs.size->(s.heap.push { cls:=.type "list",data:=.seq #[] }).get? b=some o->((s.heap.push { cls:=.type "list",data:=.seq #[] }).update s.heap.objs.size (Obj.mapSeq (λ_=>(#[]:Array Value)))).get? b=some o:=λb o hb e=>by exact (Heap.get?_update_other _ _ (Ne.symm hb)).trans e
 have ndI:d≠s.heap.objs.size:=by obtain ⟨ob,e1,_⟩:=r; exact Nat.ne_of_lt (Heap.lt_size e1)
 refine wpAny_bind (wpAny_letGo (zqk (A:=A.in1) hh nd (r₁.at λo e=>oth d o ndI e) z _ _ S₂ λh' tk acc' c' hk hS' hacc=>?_));exact ⟨rfl,hQ h' tk acc' c' (λb o e=>hk b o (Nat.ne_of_lt (Heap.lt_size e)) (oth b o (Nat.ne_of_lt (Heap.lt_size e)) (Heap.get?_push_of_some _ e))) hS' hacc⟩
end
inductive D where
 | non | bl (b:Bool) | int (i:Int) | str (x:Str) | ty (n:String) | adr (a:Addr) | cls (c:Nat)
 | tup (xs:List D) | lst (xs:List D) | kt (xs:List D) | fz (xs:List D) | dK (kvs:List (Key×D)) | dT (kvs:List (List Key×D)) | dZ (kvs:List (List Key×D)) | ins (c:Nat) (fs:List (Str×D)) | exc (c:Nat) (fs:List (Str×D))
instance:Inhabited D:=⟨.non⟩
def xO (a:Addr) (C:Value) (dx:Option Addr):HO:=.ext λh=>∃ oe vs,h.get? a=some oe/\oe.cls=C/\oe.dict=dx/\oe.data=.fields vs
structure Bk where
 K:W.Frag
 cl:Nat->Addr
def KnL (K:W.Frag) (a:Addr) (xs:List V):Prop:=∃ (o:Obj) (its:Array Value) (n:Nat),K.lookup a=some o/\o.cls=.type "list"/\o.dict=none/\o.data=.seq its n/\its.size<=sizeLine/\Vals xs its.toList
def KnT (K:W.Frag) (a:Addr) (xs:List V):Prop:=∃ (o:Obj) (its:Array Value) (n:Nat),K.lookup a=some o/\o.cls=.type "tuple"/\o.data=.seq its n/\its.size<=sizeLine/\Vals xs its.toList
def NdL (B:Bk) (H:Hp) (F:Addr->Prop) (a:Addr) (xs:List V):Prop:=F a/\H a=some (.lst xs)
def NdT (B:Bk) (H:Hp) (F:Addr->Prop) (a:Addr) (xs:List V):Prop:=F a/\H a=some (.tup xs)
def NdF (B:Bk) (H:Hp) (F:Addr->Prop) (a:Addr) (xs:List V):Prop:=(F a/\∃ o,H a=some (.frz o (.lst xs)))\/KnL B.K a xs
theorem NdF.sq {B:Bk} {H:Hp} {F:Addr->Prop} {a:Addr} {xs:List V} (h:NdF B H F a xs):SqL B.K H a xs:=by
 rcases h with ⟨_,o,h⟩ | h
 ·exact .inl (.inr ⟨o,h⟩)
 ·exact .inr h
theorem NdF.keep {B:Bk} {H H':Hp} {F F':Addr->Prop} {a:Addr} {xs:List V} (h:NdF B H F a xs) (k:∀ b o,F b->H b=some o->H' b=some o) (up:∀ b,F b->F' b):NdF B H' F' a xs:=by
 rcases h with ⟨f,o,h⟩ | h
 ·exact .inl ⟨up _ f,o,k _ _ f h⟩
 ·exact .inr h
theorem NdL.sq {B:Bk} {H:Hp} {F:Addr->Prop} {a:Addr} {xs:List V} (h:NdL B H F a xs):SqL B.K H a xs:=.inl (.inl h.2)
theorem NdT.sq {B:Bk} {H:Hp} {F:Addr->Prop} {a:Addr} {xs:List V} (h:NdT B H F a xs):SqT B.K H a xs:=.inl (.inl h.2)
theorem KnT.sq {K:W.Frag} {H:Hp} {a:Addr} {xs:List V} (h:KnT K a xs):SqT K H a xs:=.inr h
mutual
/-- the tree d lies at v,all its nodes within F -/
inductive DA (B:Bk) (H:Hp) (F:Addr->Prop):V->D->Prop
 | non:DA B H F .non .non
 | bl (b:Bool):DA B H F (.bl b) (.bl b)
 | int (i:Int):DA B H F (.int i) (.int i)
 | str (x:Str):DA B H F (.str x) (.str x)
 | ty (n:String):DA B H F (.ty n) (.ty n)
 | adr (a:Addr):DA B H F (.ref a) (.adr a)
 | cls (c:Nat):DA B H F (.ref (B.cl c)) (.cls c)
 | tup {a:Addr} {xs:List V} {ds:List D} (h:NdT B H F a xs) (r:DAs B H F xs ds):DA B H F (.ref a) (.tup ds)
 | lst {a:Addr} {xs:List V} {ds:List D} (h:NdL B H F a xs) (r:DAs B H F xs ds):DA B H F (.ref a) (.lst ds)
 | kt {a:Addr} {xs:List V} {ds:List D} (h:KnT B.K a xs) (r:DAs B H F xs ds):DA B H F (.ref a) (.kt ds)
 | fz {a:Addr} {xs:List V} {ds:List D} (h:NdF B H F a xs) (r:DAs B H F xs ds):DA B H F (.ref a) (.fz ds)
 | dK {a:Addr} {kvs:List (Key×V)} {ds:List (Key×D)} (f:F a) (h:H a=some (.dK kvs)) (e:kvs.map (·.1)=ds.map (·.1)) (r:DAs B H F (kvs.map (·.2)) (ds.map (·.2))):DA B H F (.ref a) (.dK ds)
 | dT {a:Addr} {kvs:List (List Key×V)} {ds:List (List Key×D)} (f:F a) (h:H a=some (.dT kvs)) (e:kvs.map (·.1)=ds.map (·.1)) (r:DAs B H F (kvs.map (·.2)) (ds.map (·.2))):DA B H F (.ref a) (.dT ds)
 | dZ {a:Addr} {o:Obj} {kvs:List (List Key×V)} {ds:List (List Key×D)} (f:F a) (h:H a=some (.frz o (.dT kvs))) (e:kvs.map (·.1)=ds.map (·.1)) (r:DAs B H F (kvs.map (·.2)) (ds.map (·.2))):DA B H F (.ref a) (.dZ ds)
 | ins {a dx:Addr} {c:Nat} {fs:List (Str×V)} {ds:List (Str×D)} (f:F a) (h:H a=some (.ins (B.cl c) dx fs)) (e:fs.map (·.1)=ds.map (·.1)) (r:DAs B H F (fs.map (·.2)) (ds.map (·.2))):DA B H F (.ref a) (.ins c ds)
 | exc {a dx:Addr} {c:Nat} {fs:List (Str×V)} {ds:List (Str×D)} (f:F a) (g:F dx) (h:H a=some (xO a (.ref (B.cl c)) (some dx))) (h2:H dx=some (.xd fs)) (e:fs.map (·.1)=ds.map (·.1)) (r:DAs B H F (fs.map (·.2)) (ds.map (·.2))):DA B H F (.ref a) (.exc c ds)
inductive DAs (B:Bk) (H:Hp) (F:Addr->Prop):List V->List D->Prop
 | nil:DAs B H F [] []
 | cons {x:V} {d:D} {xs:List V} {ds:List D} (h:DA B H F x d) (r:DAs B H F xs ds):DAs B H F (x :: xs) (d :: ds)
end
section
variable {B:Bk} {H H':Hp} {F F':Addr->Prop}
mutual
theorem DA.mono (k:∀ b o,F b->H b=some o->H' b=some o) (up:∀ b,F b->F' b):∀ {v:V} {d:D},DA B H F v d->DA B H' F' v d
 | _,_,.non=>.non
 | _,_,.bl b=>.bl b
 | _,_,.int i=>.int i
 | _,_,.str x=>.str x
 | _,_,.ty n=>.ty n
 | _,_,.adr a=>.adr a
 | _,_,.cls c=>.cls c
 | _,_,.tup h r=>.tup ⟨up _ h.1,k _ _ h.1 h.2⟩ (DAs.mono k up r)
 | _,_,.lst h r=>.lst ⟨up _ h.1,k _ _ h.1 h.2⟩ (DAs.mono k up r)
 | _,_,.kt h r=>.kt h (DAs.mono k up r)
 | _,_,.fz h r=>.fz (h.keep k up) (DAs.mono k up r)
 | _,_,.dK f h e r=>.dK (up _ f) (k _ _ f h) e (DAs.mono k up r)
 | _,_,.dT f h e r=>.dT (up _ f) (k _ _ f h) e (DAs.mono k up r)
 | _,_,.dZ f h e r=>.dZ (up _ f) (k _ _ f h) e (DAs.mono k up r)
 | _,_,.ins f h e r=>.ins (up _ f) (k _ _ f h) e (DAs.mono k up r)
 | _,_,.exc f g h h2 e r=>.exc (up _ f) (up _ g) (k _ _ f h) (k _ _ g h2) e (DAs.mono k up r)
theorem DAs.mono (k:∀ b o,F b->H b=some o->H' b=some o) (up:∀ b,F b->F' b):∀ {vs:List V} {ds:List D},DAs B H F vs ds->DAs B H' F' vs ds
 | _,_,.nil=>.nil
 | _,_,.cons h r=>.cons (DA.mono k up h) (DAs.mono k up r)
end
theorem DAs.length:∀ {vs:List V} {ds:List D},DAs B H F vs ds->vs.length=ds.length
 | _,_,.nil=>rfl
 | _,_,.cons _ r=>by rw [List.length_cons,List.length_cons,DAs.length r]
theorem DAs.get:∀ {vs:List V} {ds:List D} {i:Nat} {d:D},DAs B H F vs ds->ds[i]? = some d->∃ v,vs[i]? = some v/\DA B H F v d
 | _,_,_,_,.nil,e=>by simp at e
 | _,_,0,_,.cons h _,e=>by simp at e; subst e; exact ⟨_,rfl,h⟩
 | _,_,i+1,_,.cons _ r,e=>by simpa using DAs.get (i:=i) r (by simpa using e)
theorem DAs.append:∀ {vs ws:List V} {ds es:List D},DAs B H F vs ds->DAs B H F ws es->DAs B H F (vs++ws) (ds++es)
 | _,_,_,_,.nil,q=>q
 | _,_,_,_,.cons h r,q=>.cons h (DAs.append r q)
theorem DAs.one {vs:List V} {d:D} (h:DAs B H F vs [d]):∃ v,vs=[v]/\DA B H F v d:=by
 cases h with
 | cons h r=>cases r; exact ⟨_,rfl,h⟩
theorem DAs.two {vs:List V} {d e:D} (h:DAs B H F vs [d,e]):∃ v w,vs=[v,w]/\DA B H F v d/\DA B H F w e:=by
 cases h with
 | cons h r=>cases r with
  | cons h' r=>cases r; exact ⟨_,_,rfl,h,h'⟩
theorem DAs.take:∀ {vs:List V} {ds:List D} (n:Nat),DAs B H F vs ds->DAs B H F (vs.take n) (ds.take n)
 | _,_,0,_=>by simpa using DAs.nil
 | _,_,_+1,.nil=>by simpa using DAs.nil
 | _,_,n+1,.cons h r=>by simpa using DAs.cons h (DAs.take n r)
theorem DAs.drop:∀ {vs:List V} {ds:List D} (n:Nat),DAs B H F vs ds->DAs B H F (vs.drop n) (ds.drop n)
 | _,_,0,h=>by simpa using h
 | _,_,_+1,.nil=>by simpa using DAs.nil
 | _,_,n+1,.cons h r=>by simpa using DAs.drop n r
end
theorem zpk {B:Bk} {H:Hp} {F:Addr->Prop}:∀ ns:List Int,DAs B H F (ns.map V.int) (ns.map D.int)
 | []=>.nil
 | n :: ns=>.cons (.int n) (zpk ns)
inductive SV where
 | sh (d:D) | li (xs:List D) | lk (xs:List D) | ll (xss:List (List D)) | dK (kvs:List (Key×D)) | dT (kvs:List (List Key×D)) | ob (c:Nat) (fs:List (Str×D)) | pu (ns:List Int)
@[simp] def SV.fr:SV->D
 | .sh d=>d
 | .li xs=>.lst xs
 | .lk xs=>.lst xs
 | .ll xss=>.lst (xss.map D.lst)
 | .dK kvs=>.dK kvs
 | .dT kvs=>.dT kvs
 | .ob c fs=>.ins c fs
 | .pu ns=>.lst (ns.map D.int)
inductive LAs (B:Bk) (H:Hp) (F:Addr->Prop):List Addr->List (List D)->Prop
 | nil:LAs B H F [] []
 | cons {a:Addr} {xs:List V} {ds:List D} {as:List Addr} {dss:List (List D)} (h:H a=some (.lst xs)) (q:DAs B H F xs ds) (r:LAs B H F as dss):LAs B H F (a :: as) (ds :: dss)
def VA (B:Bk) (H:Hp) (F:Addr->Prop) (v:V):SV->List Addr->Prop
 | .sh d,o=>o=[]/\DA B H F v d
 | .li ds,o=>∃ a xs,v=.ref a/\o=[a]/\¬ F a/\H a=some (.lst xs)/\DAs B H F xs ds
 | .lk ds,o=>∃ a xs,v=.ref a/\o=[a]/\¬ F a/\H a=some (.lst xs)/\DAs B H F xs ds
 | .ll dss,o=>∃ a as,v=.ref a/\o=a :: as/\(a :: as).Nodup/\(∀ b∈a :: as,¬ F b)/\H a=some (.lst (as.map V.ref))/\LAs B H F as dss
 | .dK ds,o=>∃ a kvs,v=.ref a/\o=[a]/\¬ F a/\H a=some (.dK kvs)/\kvs.map (·.1)=ds.map (·.1)/\DAs B H F (kvs.map (·.2)) (ds.map (·.2))
 | .dT ds,o=>∃ a kvs,v=.ref a/\o=[a]/\¬ F a/\H a=some (.dT kvs)/\kvs.map (·.1)=ds.map (·.1)/\DAs B H F (kvs.map (·.2)) (ds.map (·.2))
 | .ob c ds,o=>∃ a dx fs,v=.ref a/\o=[a]/\¬ F a/\H a=some (.ins (B.cl c) dx fs)/\fs.map (·.1)=ds.map (·.1)/\DAs B H F (fs.map (·.2)) (ds.map (·.2))
 | .pu ns,o=>∃ a,v=.ref a/\o=[a]/\¬ F a/\H a=some (.lst (ns.map V.int))
section
variable {B:Bk} {H H':Hp} {F F':Addr->Prop} {v:V} {x:SV} {o:List Addr}
theorem LAs.mono (k:∀ b u,F b->H b=some u->H' b=some u) (up:∀ b,F b->F' b):∀ {as:List Addr} {dss:List (List D)},(∀ b u,b∈as->H b=some u->H' b=some u)->LAs B H F as dss->LAs B H' F' as dss
 | _,_,_,.nil=>.nil
 | _,_,ko,.cons h q r=>.cons (ko _ _ (by simp) h) (q.mono k up) (LAs.mono k up (λb u hb=>ko b u (by simp [hb])) r)
theorem LAs.alive:∀ {as:List Addr} {dss:List (List D)},LAs B H F as dss->∀ b,b∈as->∃ xs,H b=some (.lst xs)
 | _,_,.nil,b,hb=>by simp at hb
 | _,_,.cons h q r,b,hb=>by
  rcases List.mem_cons.mp hb with rfl | hb
  ·exact ⟨_,h⟩
  ·exact LAs.alive r b hb
theorem LAs.frozen (up:∀ b,F b->F' b):∀ {as:List Addr} {dss:List (List D)},LAs B H F as dss->(∀ b,b∈as->F' b)->DAs B H F' (as.map V.ref) (dss.map D.lst)
 | _,_,.nil,_=>.nil
 | _,_,.cons h q r,yes=>.cons (.lst ⟨yes _ (by simp),h⟩ (q.mono (λ_ _ _ e=>e) up)) (LAs.frozen up r λb hb=>yes b (by simp [hb]))
theorem VA.mono (h:VA B H F v x o) (k:∀ b u,F b->H b=some u->H' b=some u) (ko:∀ b u,b∈o->H b=some u->H' b=some u) (up:∀ b,F b->F' b) (no:∀ b,b∈o->¬ F' b):VA B H' F' v x o:=by
 cases x with
 | sh d=>exact ⟨h.1,h.2.mono k up⟩
 | li ds=>obtain ⟨a,xs,e,rfl,_,hh,r⟩:=h; exact ⟨a,xs,e,rfl,no a (by simp),ko a _ (by simp) hh,r.mono k up⟩
 | lk ds=>obtain ⟨a,xs,e,rfl,_,hh,r⟩:=h; exact ⟨a,xs,e,rfl,no a (by simp),ko a _ (by simp) hh,r.mono k up⟩
 | ll ds=>obtain ⟨a,as,e,rfl,nd,_,hh,r⟩:=h; exact ⟨a,as,e,rfl,nd,no,ko a _ (by simp) hh,r.mono k up λb u hb=>ko b u (by simp [hb])⟩
 | dK ds=>obtain ⟨a,xs,e,rfl,_,hh,q,r⟩:=h; exact ⟨a,xs,e,rfl,no a (by simp),ko a _ (by simp) hh,q,r.mono k up⟩
 | dT ds=>obtain ⟨a,xs,e,rfl,_,hh,q,r⟩:=h; exact ⟨a,xs,e,rfl,no a (by simp),ko a _ (by simp) hh,q,r.mono k up⟩
 | ob c ds=>obtain ⟨a,dx,xs,e,rfl,_,hh,q,r⟩:=h; exact ⟨a,dx,xs,e,rfl,no a (by simp),ko a _ (by simp) hh,q,r.mono k up⟩
 | pu ns=>obtain ⟨a,e,rfl,_,hh⟩:=h; exact ⟨a,e,rfl,no a (by simp),ko a _ (by simp) hh⟩
theorem VA.alive (h:VA B H F v x o) {a:Addr} (e:a∈o):H a≠none/\¬ F a/\∀ xs,H a≠some (.tup xs):=by
 have fin:∀ {u:HO},H a=some u->(∀ xs,u≠.tup xs)->(∀ ob xs,u≠.frz ob (.tup xs))->¬ F a->H a≠none/\¬ F a/\∀ xs,H a≠some (.tup xs):=λ{u} hu n1 n2 nf=>by
  refine ⟨by rw [hu]; simp,nf,λys q=>?_⟩;rw [hu] at q; exact n1 _ (Option.some.inj q)
 cases x with
 | sh d=>rw [h.1] at e; simp at e
 | li ds=>obtain ⟨b,xs,e1,rfl,nf,hh,r⟩:=h; cases List.mem_singleton.mp e; exact fin hh (by simp) (by simp) nf
 | lk ds=>obtain ⟨b,xs,e1,rfl,nf,hh,r⟩:=h; cases List.mem_singleton.mp e; exact fin hh (by simp) (by simp) nf
 | ll ds=>
  obtain ⟨b,as,e1,rfl,nd,nf,hh,r⟩:=h;rcases List.mem_cons.mp e with rfl | e'
  ·exact fin hh (by simp) (by simp) (nf _ e)
  ·obtain ⟨xs,hx⟩:=r.alive _ e';exact fin hx (by simp) (by simp) (nf _ e)
 | dK ds=>obtain ⟨b,xs,e1,rfl,nf,hh,r⟩:=h; cases List.mem_singleton.mp e; exact fin hh (by simp) (by simp) nf
 | dT ds=>obtain ⟨b,xs,e1,rfl,nf,hh,r⟩:=h; cases List.mem_singleton.mp e; exact fin hh (by simp) (by simp) nf
 | ob c ds=>obtain ⟨b,dx,xs,e1,rfl,nf,hh,r⟩:=h; cases List.mem_singleton.mp e; exact fin hh (by simp) (by simp) nf
 | pu ns=>obtain ⟨b,e1,rfl,nf,hh⟩:=h; cases List.mem_singleton.mp e; exact fin hh (by simp) (by simp) nf
theorem VA.frozen (h:VA B H F v x o) (up:∀ b,F b->F' b) (yes:∀ b,b∈o->F' b):DA B H F' v x.fr:=by
 have id':∀ b u,F b->H b=some u->H b=some u:=λ_ _ _ q=>q;cases x with
 | sh d=>exact h.2.mono id' up
 | li ds=>obtain ⟨a,xs,rfl,rfl,_,hh,r⟩:=h; exact .lst ⟨yes a (by simp),hh⟩ (r.mono id' up)
 | lk ds=>obtain ⟨a,xs,rfl,rfl,_,hh,r⟩:=h; exact .lst ⟨yes a (by simp),hh⟩ (r.mono id' up)
 | ll ds=>obtain ⟨a,as,rfl,rfl,_,_,hh,r⟩:=h; exact .lst ⟨yes a (by simp),hh⟩ (r.frozen up λb hb=>yes b (by simp [hb]))
 | dK ds=>obtain ⟨a,xs,rfl,rfl,_,hh,q,r⟩:=h; exact .dK (yes a (by simp)) hh q (r.mono id' up)
 | dT ds=>obtain ⟨a,xs,rfl,rfl,_,hh,q,r⟩:=h; exact .dT (yes a (by simp)) hh q (r.mono id' up)
 | ob c ds=>obtain ⟨a,dx,xs,rfl,rfl,_,hh,q,r⟩:=h; exact .ins (yes a (by simp)) hh q (r.mono id' up)
 | pu ns=>obtain ⟨a,rfl,rfl,_,hh⟩:=h; exact .lst ⟨yes a (by simp),hh⟩ (zpk ns)
end
abbrev FSt:=List (Option SV)
structure Rep (B:Bk) (H:Hp) (F:Addr->Prop) (σ:St) (S:FSt) (os:Nat->List Addr):Prop where
 at':∀ i x,S[i]? = some (some x)->∃ v,σ[i]? = some (some v)/\VA B H F v x (os i)
 out:∀ i,(∀ x,S[i]?≠some (some x))->os i=[]
 inj:∀ i j a,a∈os i->a∈os j->i=j
 fd:∀ b,F b->H b≠none
 len:σ.length=S.length
def isT (H:Hp) (b:Addr):Prop:=∃ xs,H b=some (.tup xs)
structure Al (H:Hp) (F:Addr->Prop) (H':Hp) (F':Addr->Prop):Prop where
 same:zCP H H'
 up:∀ b,F b->F' b
 new:∀ b,F' b->F b\/(H b=none/\H' b≠none)\/isT H b
theorem Al.refl {H:Hp} {F:Addr->Prop}:Al H F H F:=⟨λ_ _ h=>h,λ_ h=>h,λ_ h=>.inl h⟩
theorem Al.trans {H H1 H2:Hp} {F F1 F2:Addr->Prop} (a:Al H F H1 F1) (b:Al H1 F1 H2 F2):Al H F H2 F2:=by
 refine ⟨λx o h=>b.same x o (a.same x o h),λx h=>b.up x (a.up x h),λx h=>?_⟩;have old:∀ {u:HO},H1 x=some u->H2 x≠none:=λ{u} e=>by rw [b.same x u e]; simp
 rcases b.new x h with h | ⟨h,h'⟩ | ⟨ys,h⟩
 ·rcases a.new x h with h | ⟨h,h'⟩ | h
  ·exact .inl h
  ·refine .inr (.inl ⟨h,?_⟩);cases e:H1 x with
   | none=>exact absurd e h'
   | some o=>exact old e
  ·exact .inr (.inr h)
 ·refine .inr (.inl ⟨?_,h'⟩);cases e:H x with
  | none=>rfl
  | some o=>rw [a.same x o e] at h; cases h
 ·cases e:H x with
  | none=>exact .inr (.inl ⟨rfl,old h⟩)
  | some o=>have:=a.same x o e; rw [h] at this; cases this; exact .inr (.inr ⟨ys,e⟩)
def osL (os:Nat->List Addr) (L:List Nat):Addr->Prop:=λb=>∃ i∈L,b∈os i
def orF (F G:Addr->Prop):Addr->Prop:=λb=>F b\/G b
section
variable {B:Bk} {H H':Hp} {F F' G:Addr->Prop} {σ:St} {S:FSt} {os:Nat->List Addr} {L:List Nat}
theorem Rep.own (r:Rep B H F σ S os) {i:Nat} {a:Addr} (e:a∈os i):∃ x v,S[i]? = some (some x)/\σ[i]? = some (some v)/\VA B H F v x (os i):=by
 cases q:S[i]? with
 | none=>rw [r.out i (by rw [q]; simp)] at e; simp at e
 | some z=>cases z with
  | none=>rw [r.out i (by rw [q]; simp)] at e; simp at e
  | some x=>obtain ⟨v,h1,h2⟩:=r.at' i x q; exact ⟨x,v,rfl,h1,h2⟩
theorem Rep.alive (r:Rep B H F σ S os) {i:Nat} {a:Addr} (e:a∈os i):H a≠none/\¬ F a:=by
 obtain ⟨x,v,_,_,h⟩:=r.own e;exact ⟨(h.alive e).1,(h.alive e).2.1⟩
theorem Rep.mono (r:Rep B H F σ S os) (a:Al H F H' F'):Rep B H' F' σ S os:=by
 refine ⟨λi x h=>?_,r.out,r.inj,λb h=>?_,r.len⟩
 ·obtain ⟨v,h1,h2⟩:=r.at' i x h;refine ⟨v,h1,h2.mono (λb u _ q=>a.same b u q) (λb u _ q=>a.same b u q) a.up λb e q=>?_⟩;have al:=r.alive e;rcases a.new b q with q | q | ⟨ys,q⟩
  ·exact al.2 q
  ·exact al.1 q.1
  ·obtain ⟨_,_,_,_,va⟩:=r.own e;exact (va.alive e).2.2 ys q
 ·rcases a.new b h with h | h | ⟨ys,h⟩
  ·cases e:H b with
   | none=>exact absurd e (r.fd b h)
   | some o=>rw [a.same b o e]; simp
  ·exact h.2
  ·rw [a.same b _ h]; simp
theorem Rep.split (r:Rep B H F σ S os) (a:Al H (orF F (osL os L)) H' G):∃ F',Al H F H' F'/\Rep B H' F' σ S os/\(∀ b,G b->orF F' (osL os L) b)/\∀ b,F' b->G b:=by
 have al:Al H F H' (λb=>G b/\∀ i,b∉os i):=by
  refine ⟨a.same,λb h=>⟨a.up b (.inl h),λi e=>(r.alive e).2 h⟩,λb h=>?_⟩;rcases a.new b h.1 with q | q
  ·rcases q with q | ⟨i,_,q⟩
   ·exact .inl q
   ·exact absurd q (h.2 i)
  ·exact .inr q
 refine ⟨_,al,r.mono al,λb h=>?_,λb h=>h.1⟩
 by_cases q:∀ i,b∉os i
 ·exact .inl ⟨h,q⟩
 ·have ⟨i,e⟩:∃ i,b∈os i:=by
   apply Classical.byContradiction;intro n;exact q λi e=>n ⟨i,e⟩
  rcases a.new b h with z | z | ⟨ys,z⟩
  ·rcases z with z | z
   ·exact absurd z (r.alive e).2
   ·exact .inr z
  ·exact absurd z.1 (r.alive e).1
  ·obtain ⟨_,_,_,_,va⟩:=r.own e;exact absurd z ((va.alive e).2.2 ys)
end
def FD (B:Bk) (t:TE) (L:List Nat) (m:FSt->Option D):Prop:=
 ∀ (S:FSt) (σ:St) (H:Hp) (F:Addr->Prop) (os:Nat->List Addr) (Q:VK) (d:D),Rep B H F σ S os->m S=some d->
  (∀ v H' F',Al H F H' F'->Rep B H' F' σ S os->DA B H' (orF F' (osL os L)) v d->Q v H')->t σ H Q
def FE (B:Bk) (t:TE) (L:List Nat) (m:FSt->Option SV):Prop:=
 ∀ (S:FSt) (σ:St) (H:Hp) (F:Addr->Prop) (os:Nat->List Addr) (Q:VK) (x:SV),Rep B H F σ S os->m S=some x->
  (∀ v H' F' o,Al H F H' F'->Rep B H' F' σ S os->VA B H' (orF F' (osL os L)) v x o->(∀ a,a∈o->H a=none)->Q v H')->t σ H Q
def FT (B:Bk) (t:TT) (m:FSt->Option Bool):Prop:=
 ∀ (S:FSt) (σ:St) (H:Hp) (F:Addr->Prop) (os:Nat->List Addr) (Q:Bool->Hp->Prop) (c:Bool),Rep B H F σ S os->m S=some c->
  (∀ H' F',Al H F H' F'->Rep B H' F' σ S os->Q c H')->t σ H Q
def FA (B:Bk) (t:TA) (L:List Nat) (m:FSt->Option (List D)):Prop:=
 ∀ (S:FSt) (σ:St) (H:Hp) (F:Addr->Prop) (os:Nat->List Addr) (Q:List V->Hp->Prop) (ds:List D),Rep B H F σ S os->m S=some ds->
  (∀ vs H' F',Al H F H' F'->Rep B H' F' σ S os->DAs B H' (orF F' (osL os L)) vs ds->Q vs H')->t σ H Q
@[simp] def mV (i:Nat):FSt->Option D:=λS=>(S[i]?.join).map SV.fr
@[simp] def mC (d:D):FSt->Option D:=λ_=>some d
@[simp] def mFr (m:FSt->Option SV):FSt->Option D:=λS=>(m S).map SV.fr
@[simp] def mSh (m:FSt->Option D):FSt->Option SV:=λS=>(m S).map SV.sh
@[simp] def m2 {α:Type} (f:D->D->Option α) (a b:FSt->Option D):FSt->Option α:=λS=>(a S).bind λx=>(b S).bind λy=>f x y
@[simp] def m1 {α β:Type} (f:β->Option α) (a:FSt->Option β):FSt->Option α:=λS=>(a S).bind f
@[simp] def zam:FSt->Option (List D):=λ_=>some []
@[simp] def zab (a:FSt->Option D) (r:FSt->Option (List D)):FSt->Option (List D):=λS=>(a S).bind λx=>(r S).bind λxs=>some (x :: xs)
@[simp] def asB:D->Option Bool
 | .bl b=>some b
 | _=>none
@[simp] def zal (a:FSt->Option D):FSt->Option Bool:=λS=>(a S).bind asB
@[simp] def zzr (a b:FSt->Option Bool):FSt->Option Bool:=λS=>(a S).bind λc=>if c=true then b S else some false
@[simp] def mOr (a b:FSt->Option Bool):FSt->Option Bool:=λS=>(a S).bind λc=>if c=true then some true else b S
@[simp] def ziG (a:FSt->Option Bool):FSt->Option Bool:=λS=>(a S).map λc=>!c
@[simp] def mBl (a:FSt->Option Bool):FSt->Option D:=λS=>(a S).map D.bl
@[simp] def zql {α:Type} (c:FSt->Option Bool) (a b:FSt->Option α):FSt->Option α:=λS=>(c S).bind λx=>if x=true then a S else b S
@[simp] def zol {α:Type} (a b:FSt->Option α):FSt->Option α:=λS=>(a S).orElse λ_=>b S
section
variable {B:Bk} {ta tb tc:TE} {La Lb Lc L:List Nat} {ma mb mc:FSt->Option D} {t u:TT} {mt mu:FSt->Option Bool} {tr:TA} {mr:FSt->Option (List D)} {me me':FSt->Option SV}
theorem zdB {F F':Addr->Prop} {os:Nat->List Addr} {L L':List Nat} (h1:∀ b,F b->F' b) (h2:∀ i,i∈L->i∈L'):∀ b,orF F (osL os L) b->orF F' (osL os L') b:=λb h=>by
 rcases h with h | ⟨i,h,e⟩
 ·exact .inl (h1 b h)
 ·exact .inr ⟨i,h2 i h,e⟩
theorem DA.later {H H':Hp} {F F':Addr->Prop} {os:Nat->List Addr} {L L':List Nat} {v:V} {d:D} (h:DA B H (orF F (osL os L)) v d) (a:Al H F H' F') (hl:∀ i,i∈L->i∈L'):DA B H' (orF F' (osL os L')) v d:=
 h.mono (λb o _ e=>a.same b o e) (zdB a.up hl)
theorem FD.fe (h:FD B ta L ma):FE B ta L (mSh ma):=by
 intro S σ H F os Q x r e k;unfold mSh at e;cases q:ma S with
 | none=>rw [q] at e; cases e
 | some d=>
  rw [q] at e; cases e
  exact h S σ H F os Q d r q λv H' F' a r' da=>k v H' F' [] a r' ⟨rfl,da⟩ (by simp)
theorem FE.fd (h:FE B ta L me):FD B ta L (mFr me):=by
 intro S σ H F os Q d r e k;unfold mFr at e;cases q:me S with
 | none=>rw [q] at e; cases e
 | some x=>
  rw [q] at e; cases e
  refine h S σ H F os Q x r q λv H' F' o a r' va fr=>?_;have al:Al H F H' (λb=>F' b\/b∈o):=by
   refine ⟨a.same,λb h=>.inl (a.up b h),λb h=>?_⟩;rcases h with h | h
   ·exact a.new b h
   ·exact .inr (.inl ⟨fr b h,(va.alive h).1⟩)
  refine k v H' _ al (r.mono al) (va.frozen (λb h=>?_) λb h=>.inl (.inr h));rcases h with h | h
  ·exact .inl (.inl h)
  ·exact .inr h
theorem zsd (i:Nat):FD B (zp5 i) [i] (mV i):=by
 intro S σ H F os Q d r e k;unfold mV at e;cases q:S[i]? with
 | none=>rw [q] at e; cases e
 | some z=>cases z with
  | none=>rw [q] at e; cases e
  | some x=>
   rw [q] at e; cases e
   obtain ⟨v,h1,h2⟩:=r.at' i x q;exact ⟨v,h1,k v H F Al.refl r (h2.frozen (λb h=>.inl h) λb h=>.inr ⟨i,by simp,h⟩)⟩
inductive Sc:V->D->Prop
 | non:Sc .non .non
 | bl (b:Bool):Sc (.bl b) (.bl b)
 | int (i:Int):Sc (.int i) (.int i)
 | str (x:Str):Sc (.str x) (.str x)
 | ty (n:String):Sc (.ty n) (.ty n)
 | adr (a:Addr):Sc (.ref a) (.adr a)
theorem Sc.da {H:Hp} {F:Addr->Prop} {v:V} {d:D} (h:Sc v d):DA B H F v d:=by cases h <;> constructor
theorem zxL {v:V} {d:D} (h:Sc v d):FD B (tC v) [] (mC d):=by
 intro S σ H F os Q d' r e k;cases e
 exact k v H F Al.refl r h.da
theorem zE4 {v:V} {d:D} (h:∀ H F,DA B H F v d):FD B (tC v) [] (mC d):=by
 intro S σ H F os Q d' r e k;cases e
 exact k v H F Al.refl r (h _ _)
theorem zse {R:V->V->Hp->VK->Prop} (ha:FD B ta La ma) (hb:FD B tb Lb mb) {S:FSt} {σ:St} {H:Hp} {F:Addr->Prop} {os:Nat->List Addr} {Q:VK} {da db:D} (r:Rep B H F σ S os) (ea:ma S=some da) (eb:mb S=some db)
  (k:∀ v w H' F',Al H F H' F'->Rep B H' F' σ S os->DA B H' (orF F' (osL os (La++Lb))) v da->DA B H' (orF F' (osL os (La++Lb))) w db->R v w H' Q):ta σ H λx H1=>tb σ H1 λy H2=>R x y H2 Q:=by
 refine ha S σ H F os _ da r ea λv H1 F1 a1 r1 d1=>hb S σ H1 F1 os _ db r1 eb λw H2 F2 a2 r2 d2=>?_;exact k v w H2 F2 (a1.trans a2) r2 (d1.later a2 λi h=>List.mem_append_left _ h) (d2.later Al.refl λi h=>List.mem_append_right _ h)
def OpD (B:Bk) (r:R2) (f:D->D->Option D):Prop:=∀ (H:Hp) (G:Addr->Prop) (x y:V) (dx dy z:D) (Q:VK),DA B H G x dx->DA B H G y dy->f dx dy=some z->
 (∀ v H' G',Al H G H' G'->DA B H' G' v z->Q v H')->r x y H Q
def OpE (B:Bk) (r:R2) (f:D->D->Option SV):Prop:=∀ (H:Hp) (G:Addr->Prop) (x y:V) (dx dy:D) (z:SV) (Q:VK),(∀ b,G b->H b≠none)->DA B H G x dx->DA B H G y dy->f dx dy=some z->
 (∀ v H' G' o,Al H G H' G'->VA B H' G' v z o->(∀ a,a∈o->H a=none)->Q v H')->r x y H Q
theorem Rep.gd {H:Hp} {F:Addr->Prop} {σ:St} {S:FSt} {os:Nat->List Addr} (r:Rep B H F σ S os) (L:List Nat):∀ b,orF F (osL os L) b->H b≠none:=λb h=>by
 rcases h with h | ⟨i,_,e⟩
 ·exact r.fd b h
 ·exact (r.alive e).1
theorem zkt {α β γ:Type} {a:Option α} {b:Option β} {f:α->β->Option γ} {z:γ} (h:(a.bind λx=>b.bind λy=>f x y)=some z):∃ x y,a=some x/\b=some y/\f x y=some z:=by
 cases a with
 | none=>cases h
 | some x=>cases b with
  | none=>cases h
  | some y=>exact ⟨x,y,rfl,rfl,h⟩
theorem zbW {α γ:Type} {a:Option α} {f:α->Option γ} {z:γ} (h:a.bind f=some z):∃ x,a=some x/\f x=some z:=by
 cases a with
 | none=>cases h
 | some x=>exact ⟨x,rfl,h⟩
theorem zom {r:R2} {f:D->D->Option D} (ho:OpD B r f) (ha:FD B ta La ma) (hb:FD B tb Lb mb):FD B (tOp r ta tb) (La++Lb) (m2 f ma mb):=by
 intro S σ H F os Q z rp e k;obtain ⟨da,db,ea,eb,ef⟩:=zkt e;refine zse (R:=r) ha hb rp ea eb λv w H' F' a r' d1 d2=>?_;refine ho H' _ v w da db z Q d1 d2 ef λu H2 G2 a2 dz=>?_;obtain ⟨F2,al,r2,q,_⟩:=r'.split a2;exact k u H2 F2 (a.trans al) r2 (dz.mono (λ_ _ _ e=>e) q)
theorem VA.sub {H:Hp} {G F:Addr->Prop} {v:V} {x:SV} {o:List Addr} (h:VA B H G v x o) (q:∀ b,G b->F b) (no:∀ b,b∈o->¬ F b):VA B H F v x o:=h.mono (λ_ _ _ e=>e) (λ_ _ _ e=>e) q no
theorem zeU {H H':Hp} {F G:Addr->Prop} {σ:St} {S:FSt} {os:Nat->List Addr} {L:List Nat} {v:V} {z:SV} {o:List Addr} (r:Rep B H F σ S os) (a:Al H (orF F (osL os L)) H' G) (va:VA B H' G v z o) (fr:∀ b,b∈o->H b=none) :
  ∃ F',Al H F H' F'/\Rep B H' F' σ S os/\VA B H' (orF F' (osL os L)) v z o:=by
 obtain ⟨F2,al,r2,q,q'⟩:=r.split a;refine ⟨F2,al,r2,va.sub q λb e z=>?_⟩;rcases z with z | ⟨i,_,z⟩
 ·exact (va.alive e).2.1 (q' b z)
 ·exact (r.alive z).1 (fr b e)
theorem zAC {r:R2} {f:D->D->Option SV} (ho:OpE B r f) (ha:FD B ta La ma) (hb:FD B tb Lb mb):FE B (tOp r ta tb) (La++Lb) (m2 f ma mb):=by
 intro S σ H F os Q z rp e k;obtain ⟨da,db,ea,eb,ef⟩:=zkt e;refine zse (R:=r) ha hb rp ea eb λv w H' F' a r' d1 d2=>?_;refine ho H' _ v w da db z Q (r'.gd _) d1 d2 ef λu H2 G2 o a2 va fr=>?_;obtain ⟨F2,al,r2,va2⟩:=zeU r' a2 va fr;refine k u H2 F2 o (a.trans al) r2 va2 λb e=>?_;cases q:H b with
 | none=>rfl
 | some w=>have:=fr b e; rw [a.same b w q] at this; cases this
def UnD (B:Bk) (r:V->Hp->VK->Prop) (f:D->Option D):Prop:=∀ (H:Hp) (G:Addr->Prop) (x:V) (dx z:D) (Q:VK),DA B H G x dx->f dx=some z->(∀ v H' G',Al H G H' G'->DA B H' G' v z->Q v H')->r x H Q
theorem zCU {r:V->Hp->VK->Prop} {f:D->Option D} (ho:UnD B r f) (ha:FD B ta L ma):FD B (tUn r ta) L (m1 f ma):=by
 intro S σ H F os Q z rp e k;obtain ⟨da,ea,ef⟩:=zbW e;refine ha S σ H F os _ da rp ea λv H' F' a r' d1=>ho H' _ v da z Q d1 ef λu H2 G2 a2 dz=>?_;obtain ⟨F2,al,r2,q,_⟩:=r'.split a2;exact k u H2 F2 (a.trans al) r2 (dz.mono (λ_ _ _ e=>e) q)
theorem zAD (h:FD B ta L ma):FT B (zz5 ta) (zal ma):=by
 intro S σ H F os Q c rp e k;obtain ⟨d,ed,ef⟩:=zbW e;refine h S σ H F os _ d rp ed λv H' F' a r' d1=>?_;cases d with
 | bl b=>cases ef; cases d1; exact ⟨_,rfl,k H' F' a r'⟩
 | _=>cases ef
theorem zAE (h:FD B ta L ma):FT B (tB ta) (zal ma):=zAD h
theorem zAF (h1:FT B t mt) (h2:FT B u mu):FT B (zD5 t u) (zzr mt mu):=by
 intro S σ H F os Q c rp e k;obtain ⟨b,eb,ef⟩:=zbW e;refine h1 S σ H F os _ b rp eb λH' F' a r'=>?_;cases b with
 | true=>rw [if_pos rfl] at ef ⊢; exact h2 S σ H' F' os Q c r' ef λH2 F2 a2 r2=>k H2 F2 (a.trans a2) r2
 | false=>rw [if_neg Bool.false_ne_true] at ef ⊢; cases ef; exact k H' F' a r'
theorem zCV (h1:FT B t mt) (h2:FT B u mu):FT B (tOr t u) (mOr mt mu):=by
 intro S σ H F os Q c rp e k;obtain ⟨b,eb,ef⟩:=zbW e;refine h1 S σ H F os _ b rp eb λH' F' a r'=>?_;cases b with
 | true=>rw [if_pos rfl] at ef ⊢; cases ef; exact k H' F' a r'
 | false=>rw [if_neg Bool.false_ne_true] at ef ⊢; exact h2 S σ H' F' os Q c r' ef λH2 F2 a2 r2=>k H2 F2 (a.trans a2) r2
theorem zAG (h1:FT B t mt):FT B (zD6 t) (ziG mt):=by
 intro S σ H F os Q c rp e k;unfold ziG at e;cases q:mt S with
 | none=>rw [q] at e; cases e
 | some b=>rw [q] at e; cases e; exact h1 S σ H F os _ b rp q λH' F' a r'=>k H' F' a r'
theorem zxM (ha:FD B ta La ma) (hb:FD B tb Lb mb):FD B (zzM ta tb) (La++Lb) (zql (zal ma) mb (mC (.bl false))):=by
 intro S σ H F os Q z rp e k;obtain ⟨c,ec,ef⟩:=zbW e;obtain ⟨d,ed,ec⟩:=zbW ec;refine ha S σ H F os _ d rp ed λv H' F' a r' d1=>?_;cases d with
 | bl b=>
  cases ec; cases d1
  refine ⟨_,rfl,?_⟩;cases c with
  | true=>rw [if_pos rfl] at ef ⊢; exact hb S σ H' F' os Q z r' ef λv H2 F2 a2 r2 d2=>k v H2 F2 (a.trans a2) r2 (d2.later Al.refl λi h=>List.mem_append_right _ h)
  | false=>rw [if_neg Bool.false_ne_true] at ef ⊢; cases ef; exact k _ H' F' a r' (.bl false)
 | _=>cases ec
theorem zsf (ha:FD B ta La ma):FD B (zw2 ta) La (mBl (ziG (zal ma))):=by
 intro S σ H F os Q z rp e k;unfold mBl ziG zal at e;cases q:ma S with
 | none=>rw [q] at e; cases e
 | some d=>
  rw [q] at e;refine ha S σ H F os _ d rp q λv H' F' a r' d1=>?_;cases d with
  | bl b=>cases e; cases d1; exact ⟨_,rfl,k _ H' F' a r' (.bl _)⟩
  | _=>cases e
theorem zwc:FA B zxd [] zam:=by
 intro S σ H F os Q ds rp e k;cases e
 exact k [] H F Al.refl rp .nil
theorem DAs.later {H H':Hp} {F F':Addr->Prop} {os:Nat->List Addr} {L L':List Nat} {v:List V} {d:List D} (h:DAs B H (orF F (osL os L)) v d) (a:Al H F H' F') (hl:∀ i,i∈L->i∈L'):DAs B H' (orF F' (osL os L')) v d:=
 h.mono (λb o _ e=>a.same b o e) (zdB a.up hl)
theorem zon (ha:FD B ta La ma) (hr:FA B tr Lb mr):FA B (zmZ ta tr) (La++Lb) (zab ma mr):=by
 intro S σ H F os Q ds rp e k;obtain ⟨d,es,ed,ee,ef⟩:=zkt e;cases ef
 refine ha S σ H F os _ d rp ed λv H1 F1 a1 r1 d1=>hr S σ H1 F1 os _ es r1 ee λvs H2 F2 a2 r2 d2=>?_;exact k (v :: vs) H2 F2 (a1.trans a2) r2 (.cons (d1.later a2 λi h=>List.mem_append_left _ h) (d2.later Al.refl λi h=>List.mem_append_right _ h))
theorem zmr {H:Hp} {p:Addr} {u:HO} (h:H p=none):zCP H (upd H p u):=λb o e=>by rw [zaW (zcq e h)]; exact e
theorem zh3 {H:Hp} {F:Addr->Prop} {p:Addr} {u:HO} (h:H p=none):Al H F (upd H p u) F:=⟨zmr h,λ_ q=>q,λ_ q=>.inl q⟩
theorem zh4 {H:Hp} {F:Addr->Prop} {p:Addr} {u:HO} (h:H p=none):Al H F (upd H p u) (λb=>F b\/b=p):=by
 refine ⟨zmr h,λ_ q=>.inl q,λb q=>?_⟩;rcases q with q | rfl
 ·exact .inl q
 ·exact .inr (.inl ⟨h,by rw [zaS]; simp⟩)
@[simp] def zhc (m:FSt->Option (List D)):FSt->Option SV:=λS=>(m S).bind λds=>if ds.length<=sizeLine then some (.li ds) else none
@[simp] def zdN (m:FSt->Option (List D)):FSt->Option D:=λS=>(m S).bind λds=>if ds.length<=sizeLine then some (.tup ds) else none
theorem zwd (hr:FA B tr L mr):FE B (zCM tr) L (zhc mr):=by
 intro S σ H F os Q x rp e k;obtain ⟨ds,ed,ef⟩:=zbW e
 by_cases hl:ds.length<=sizeLine
 ·rw [if_pos hl] at ef; cases ef
  refine hr S σ H F os _ ds rp ed λvs H1 F1 a1 r1 d1=>⟨by rw [d1.length]; exact hl,λp hp=>?_⟩
  have al:=zh3 (F:=F1) (u:=.lst vs) hp;refine k (.ref p) _ F1 [p] (a1.trans al) (r1.mono al) ⟨p,vs,rfl,rfl,λq=>?_,zaS,d1.mono (λb o _ e=>al.same b o e) λ_ h=>h⟩ λa e=>?_
  ·exact r1.gd L p q hp
  ·obtain rfl:=List.mem_singleton.mp e;cases q:H a with
   | none=>rfl
   | some w=>have:=a1.same a w q; rw [hp] at this; cases this
 ·rw [if_neg hl] at ef; cases ef
theorem zwe (hr:FA B tr L mr):FD B (zCL tr) L (zdN mr):=by
 intro S σ H F os Q x rp e k;obtain ⟨ds,ed,ef⟩:=zbW e
 by_cases hl:ds.length<=sizeLine
 ·rw [if_pos hl] at ef; cases ef
  refine hr S σ H F os _ ds rp ed λvs H1 F1 a1 r1 d1=>⟨by rw [d1.length]; exact hl,λp hp=>?_⟩
  have al:=zh4 (F:=F1) (u:=.tup vs) hp;refine k (.ref p) _ _ (a1.trans al) (r1.mono al) (.tup ⟨.inl (.inr rfl),zaS⟩ (d1.mono (λb o _ e=>al.same b o e) λb h=>?_));rcases h with h | h
  ·exact .inl (.inl h)
  ·exact .inr h
 ·rw [if_neg hl] at ef; cases ef
def ziH (B:Bk) (r:List V->Hp->VK->Prop) (f:List D->Option SV):Prop:=∀ (H:Hp) (G:Addr->Prop) (vs:List V) (ds:List D) (z:SV) (Q:VK),(∀ b,G b->H b≠none)->DAs B H G vs ds->f ds=some z->
 (∀ v H' G' o,Al H G H' G'->VA B H' G' v z o->(∀ a,a∈o->H a=none)->Q v H')->r vs H Q
theorem zpl {r:List V->Hp->VK->Prop} {f:List D->Option SV} {tx:TE} (htx:∀ σ H Q,(tr σ H λvs H1=>r vs H1 Q)->tx σ H Q) (ho:ziH B r f) (hr:FA B tr L mr):FE B tx L (m1 f mr):=by
 intro S σ H F os Q z rp e k;obtain ⟨ds,ed,ef⟩:=zbW e;refine htx σ H Q (hr S σ H F os _ ds rp ed λvs H1 F1 a1 r1 d1=>ho H1 _ vs ds z Q (r1.gd _) d1 ef λu H2 G2 o a2 va fr=>?_);obtain ⟨F2,al,r2,va2⟩:=zeU r1 a2 va fr;refine k u H2 F2 o (a1.trans al) r2 va2 λb e=>?_;cases q:H b with
 | none=>rfl
 | some w=>have:=fr b e; rw [a1.same b w q] at this; cases this
theorem zuS {r:List V->Hp->VK->Prop} {f:List D->Option SV} (ho:ziH B r f) (hr:FA B tr L mr):FE B (tCB r tr) L (m1 f mr):=zpl (λ_ _ _ h=>h) ho hr
def SpF (B:Bk) (n:Nat) (f:List D->Option SV):Sp:=λvs H Q _=>vs.length=n/\∃ (G:Addr->Prop) (ds:List D) (z:SV),(∀ b,G b->H b≠none)/\DAs B H G vs ds/\f ds=some z/\
 ∀ v H' G' o,Al H G H' G'->VA B H' G' v z o->(∀ a,a∈o->H a=none)->Q v H'
theorem zxN {n:Nat} {f:List D->Option SV} {E:XK} (hf:∀ ds z,f ds=some z->ds.length=n) (hr:FA B tr L mr):FE B (zz8 (SpF B n f) [] E tr) L (m1 f mr):=by
 refine zpl (r:=λvs H Q=>SpF B n f (vs++[]) H Q E) (λ_ _ _ h=>h) ?_ hr;intro H G vs ds z Q hg hd hz k;rw [List.append_nil];exact ⟨by rw [hd.length]; exact hf _ _ hz,G,ds,z,hg,hd,hz,k⟩
@[simp] def zbQ (c:Nat) (mn:Str) (f:List D->Option SV) (a:FSt->Option D) (r:FSt->Option (List D)):FSt->Option SV:=λS=>(a S).bind λx=>(r S).bind λds=>match x with
 | .ins k fs=>if k=c then (if (fs.lookup mn).isNone then f (.ins k fs :: ds) else none) else none
 | _=>none
theorem zhd {fs:List (Str×V)} {ds:List (Str×D)} {H:Hp} {G:Addr->Prop} (e:fs.map (·.1)=ds.map (·.1)) (r:DAs B H G (fs.map (·.2)) (ds.map (·.2))) (f:Str) :
  (∀ d,ds.lookup f=some d->∃ v,fs.lookup f=some v/\DA B H G v d)/\(ds.lookup f=none->fs.lookup f=none):=by
 induction fs generalizing ds with
 | nil=>cases ds with
  | nil=>simp [List.lookup]
  | cons d ds=>simp at e
 | cons p fs ih=>cases ds with
  | nil=>simp at e
  | cons q ds=>
   obtain ⟨p1,p2⟩:=p;obtain ⟨q1,q2⟩:=q;simp only [List.map_cons,List.cons.injEq] at e;simp only [List.map_cons] at r;cases r with
   | cons h r=>
    obtain ⟨e1,e2⟩:=e;subst e1;have:=ih e2 r
    by_cases hq:(f==p1)=true
    ·simp only [List.lookup,hq];exact ⟨λd z=>by cases z; exact ⟨p2,rfl,h⟩,λz=>by cases z⟩
    ·have hq':(f==p1)=false:=by simpa using hq
     simp only [List.lookup,hq'];exact this
theorem zsg {c n:Nat} {mn:Str} {f:List D->Option SV} {E:XK} {C:Addr} (hC:B.cl c=C) (hf:∀ ds z,f ds=some z->ds.length=n) (ha:FD B ta La ma) (hr:FA B tr Lb mr):FE B (zqd C mn (SpF B n f) [] E ta tr) (La++Lb) (zbQ c mn f ma mr):=by
 subst hC;intro S σ H F os Q z rp e k;obtain ⟨d,ds,ed,er,ef⟩:=zkt e;cases d with
 | ins kc fs=>
  by_cases hk:kc=c
  ·subst hk;simp only [if_pos rfl] at ef;cases hl:fs.lookup mn with
   | some _=>rw [hl] at ef; cases ef
   | none=>
    rw [hl] at ef;have ef:f (.ins kc fs :: ds)=some z:=ef;refine ha S σ H F os _ _ rp ed λv H1 F1 a1 r1 d1=>?_;cases d1 with
    | @ins a dx c' vs ds' fa hh he rr=>
     refine ⟨a,dx,vs,rfl,hh,(zhd he rr mn).2 hl,hr S σ H1 F1 os _ ds r1 er λws H2 F2 a2 r2 d2=>?_⟩;have da:DA B H1 (orF F1 (osL os La)) (.ref a) (.ins kc fs):=.ins fa hh he rr;have das:DAs B H2 (orF F2 (osL os (La++Lb))) (.ref a :: (ws++[])) (.ins kc fs :: ds):=by
      rw [List.append_nil];exact .cons (da.later a2 λi h=>List.mem_append_left _ h) (d2.later Al.refl λi h=>List.mem_append_right _ h)
     refine ⟨by rw [das.length]; exact hf _ _ ef,_,_,z,r2.gd _,das,ef,λu H3 G3 o a3 va fr=>?_⟩;obtain ⟨F3,al,r3,va2⟩:=zeU r2 a3 va fr;refine k u H3 F3 o ((a1.trans a2).trans al) r3 va2 λb e=>?_;cases q:H b with
     | none=>rfl
     | some w=>have:=fr b e; rw [(a1.trans a2).same b w q] at this; cases this
  ·simp only [if_neg hk] at ef; cases ef
 | _=>cases ef
theorem FE.or {me me':FSt->Option SV} {La Lb:List Nat} (h:FE B ta La me) (h':FE B tb Lb me'):FE B (λσ H Q=>ta σ H Q\/tb σ H Q) (La++Lb) (zol me me'):=by
 intro S σ H F os Q z rp e k;have lift:∀ {L:List Nat},(∀ i,i∈L->i∈La++Lb)->∀ v H2 F2 o,Al H F H2 F2->Rep B H2 F2 σ S os->VA B H2 (orF F2 (osL os L)) v z o->(∀ a,a∈o->H a=none)->Q v H2:=λhl v H2 F2 o a2 r2 va fr=>by
  refine k v H2 F2 o a2 r2 (va.sub (zdB (λ_ h=>h) hl) λb e q=>?_) fr;rcases q with q | ⟨i,_,q⟩
  ·exact (va.alive e).2.1 (.inl q)
  ·exact (rp.alive q).1 (fr b e)
 unfold zol at e;cases q:me S with
 | some w=>simp only [q,Option.orElse] at e; cases e; exact .inl (h S σ H F os Q _ rp q (lift λi h=>List.mem_append_left _ h))
 | none=>simp only [q,Option.orElse] at e; exact .inr (h' S σ H F os Q z rp e (lift λi h=>List.mem_append_right _ h))
@[simp] def zhn (cs:List Nat) (f:Str):D->Option D
 | .ins c fs=>if c∈cs then fs.lookup f else none
 | _=>none
end
mutual
@[simp] def D.plain:D->Bool
 | .tup xs=>D.plains xs
 | .kt xs=>D.plains xs
 | .fz _=>false
 | .lst _=>false
 | .dK _=>false
 | .dT _=>false
 | .dZ _=>false
 | .ins _ _=>false
 | .exc _ _=>false
 | _=>true
@[simp] def D.plains:List D->Bool
 | []=>true
 | d :: r=>d.plain&&D.plains r
end
@[simp] def SV.plain:SV->Bool
 | .sh d=>d.plain
 | .li xs=>D.plains xs
 | .lk _=>false
 | .ll xss=>xss.all D.plains
 | .dK kvs=>D.plains (kvs.map (·.2))
 | .dT kvs=>D.plains (kvs.map (·.2))
 | .ob _ fs=>D.plains (fs.map (·.2))
 | .pu _=>false
section
variable {B:Bk} {H H':Hp} {F F':Addr->Prop} {σ:St} {S:FSt} {os:Nat->List Addr} {L:List Nat}
mutual
theorem DA.toF (r:Rep B H F σ S os):∀ {v:V} {d:D},DA B H (orF F (osL os L)) v d->d.plain=true->DA B H F v d
 | _,_,.non,_=>.non
 | _,_,.bl b,_=>.bl b
 | _,_,.int i,_=>.int i
 | _,_,.str x,_=>.str x
 | _,_,.ty n,_=>.ty n
 | _,_,.adr a,_=>.adr a
 | _,_,.cls c,_=>.cls c
 | _,_,.tup h q,p=>by
  refine .tup ?_ (DAs.toF r q (by simpa [D.plain] using p));obtain ⟨h | ⟨i,_,e⟩,h'⟩:=h
  ·exact ⟨h,h'⟩
  ·obtain ⟨x,v,_,_,va⟩:=r.own e;exact absurd h' ((va.alive e).2.2 _)
 | _,_,.kt h q,p=>.kt h (DAs.toF r q (by simpa [D.plain] using p))
 | _,_,.fz _ _,p=>by simp [D.plain] at p
 | _,_,.lst _ _,p=>by simp [D.plain] at p
 | _,_,.dK _ _ _ _,p=>by simp [D.plain] at p
 | _,_,.dT _ _ _ _,p=>by simp [D.plain] at p
 | _,_,.dZ _ _ _ _,p=>by simp [D.plain] at p
 | _,_,.ins _ _ _ _,p=>by simp [D.plain] at p
 | _,_,.exc _ _ _ _ _ _,p=>by simp [D.plain] at p
theorem DAs.toF (r:Rep B H F σ S os):∀ {vs:List V} {ds:List D},DAs B H (orF F (osL os L)) vs ds->D.plains ds=true->DAs B H F vs ds
 | _,_,.nil,_=>.nil
 | _,_,.cons h q,p=>by
  simp only [D.plains,Bool.and_eq_true] at p;exact .cons (DA.toF r h p.1) (DAs.toF r q p.2)
end
theorem VA.toF (r:Rep B H F σ S os) {v:V} {x:SV} {o:List Addr} (h:VA B H (orF F (osL os L)) v x o) (p:x.plain=true):VA B H F v x o:=by
 cases x with
 | sh d=>exact ⟨h.1,h.2.toF r p⟩
 | li ds=>obtain ⟨a,xs,e,eo,nf,hh,q⟩:=h; exact ⟨a,xs,e,eo,λz=>nf (.inl z),hh,q.toF r p⟩
 | lk ds=>cases p
 | ll ds=>
  obtain ⟨a,as,e,eo,nd,nf,hh,q⟩:=h;refine ⟨a,as,e,eo,nd,λb hb z=>nf b hb (.inl z),hh,?_⟩;clear nd nf hh e eo
  induction q with
  | nil=>exact .nil
  | cons h q _ ih=>
   simp only [SV.plain,List.all_cons,Bool.and_eq_true] at p;exact .cons h (q.toF r p.1) (ih p.2)
 | dK ds=>obtain ⟨a,xs,e,eo,nf,hh,e2,q⟩:=h; exact ⟨a,xs,e,eo,λz=>nf (.inl z),hh,e2,q.toF r p⟩
 | dT ds=>obtain ⟨a,xs,e,eo,nf,hh,e2,q⟩:=h; exact ⟨a,xs,e,eo,λz=>nf (.inl z),hh,e2,q.toF r p⟩
 | ob c ds=>obtain ⟨a,dx,xs,e,eo,nf,hh,e2,q⟩:=h; exact ⟨a,dx,xs,e,eo,λz=>nf (.inl z),hh,e2,q.toF r p⟩
 | pu ns=>cases p
end
@[simp] def zzs (S:FSt) (i:Nat):FSt:=match S[i]? with
 | some (some (.sh _))=>S
 | some (some x)=>S.set i (some (.sh x.fr))
 | _=>S
@[simp] def frzs:List Nat->FSt->FSt
 | [],S=>S
 | i :: L,S=>frzs L (zzs S i)
theorem zuT (S:FSt) (i j:Nat):(zzs S i)[j]? = if j=i then (S[j]?).map (Option.map λx=>.sh x.fr) else S[j]?:=by
 unfold zzs;split
 ·rename_i d e
  by_cases h:j=i
  ·subst h; rw [if_pos rfl,e]; rfl
  ·rw [if_neg h]
 ·rename_i x _ e
  by_cases h:j=i
  ·subst h;rw [if_pos rfl,e];have:j < S.length:=(List.getElem?_eq_some_iff.mp e).1;simp [List.getElem?_set,this]
  ·rw [if_neg h];simp [List.getElem?_set,Ne.symm h]
 ·rename_i h1 h2
  by_cases h:j=i
  ·subst h;rw [if_pos rfl];cases q:S[j]? with
   | none=>rfl
   | some z=>cases z with
    | none=>rfl
    | some x=>exact absurd q (h2 x)
  ·rw [if_neg h]
theorem zcd:∀ (L:List Nat) (S:FSt) (j:Nat),(frzs L S)[j]? = if j∈L then (S[j]?).map (Option.map λx=>.sh x.fr) else S[j]?
 | [],S,j=>by simp [frzs]
 | i :: L,S,j=>by
  rw [frzs,zcd L,zuT]
  by_cases h:j=i
  ·subst h;simp only [if_pos rfl,List.mem_cons,true_or,if_true];split
   ·cases S[j]? with
    | none=>rfl
    | some z=>cases z <;> rfl
   ·rfl
  ·simp [h]
theorem zuU (S:FSt) (i:Nat):(zzs S i).length=S.length:=by
 unfold zzs;split <;> simp
theorem zms:∀ (L:List Nat) (S:FSt),(frzs L S).length=S.length
 | [],_=>rfl
 | i :: L,S=>by rw [frzs,zms L,zuU]
def lkO:Option SV->Bool
 | some (.lk _)=>true
 | some (.ob _ _)=>true
 | some (.pu _)=>true
 | _=>false
@[simp] def zeg (S:FSt) (i:Nat):Bool:=lkO (S[i]?.join)
@[simp] theorem zCg:lkO none=false:=rfl
@[simp] theorem zEq (d:D):lkO (some (.sh d))=false:=rfl
@[simp] theorem zEr (d:List D):lkO (some (.li d))=false:=rfl
@[simp] theorem zEs (d:List (List D)):lkO (some (.ll d))=false:=rfl
@[simp] theorem zEt (d:List (Key×D)):lkO (some (.dK d))=false:=rfl
@[simp] theorem zEu (d:List (List Key×D)):lkO (some (.dT d))=false:=rfl
@[simp] theorem zEv (d:List D):lkO (some (.lk d))=true:=rfl
@[simp] theorem zEw (c:Nat) (d:List (Str×D)):lkO (some (.ob c d))=true:=rfl
@[simp] theorem zEx (d:List Int):lkO (some (.pu d))=true:=rfl
@[simp] theorem zxO (x:Option D):lkO (x.map SV.sh)=false:=by cases x <;> rfl
section
variable {B:Bk} {H H':Hp} {F F':Addr->Prop} {σ:St} {S:FSt} {os:Nat->List Addr} {L:List Nat}
theorem Rep.frz (r:Rep B H F σ S os) (L:List Nat):Rep B H (orF F (osL os L)) σ (frzs L S) (λj=>if j∈L then [] else os j):=by
 refine ⟨λi x h=>?_,λi h=>?_,λi j a e1 e2=>?_,r.gd L,by rw [zms]; exact r.len⟩
 ·rw [zcd] at h
  by_cases q:i∈L
  ·rw [if_pos q] at h;rw [if_pos q];cases e:S[i]? with
   | none=>rw [e] at h; cases h
   | some z=>cases z with
    | none=>rw [e] at h; cases h
    | some y=>
     rw [e] at h; cases h
     obtain ⟨v,h1,h2⟩:=r.at' i y e;exact ⟨v,h1,rfl,h2.frozen (λb z=>.inl z) λb z=>.inr ⟨i,q,z⟩⟩
  ·rw [if_neg q] at h;rw [if_neg q];obtain ⟨v,h1,h2⟩:=r.at' i x h;refine ⟨v,h1,h2.sub (λb z=>.inl z) λb e z=>?_⟩;rcases z with z | ⟨j,hj,z⟩
   ·exact (r.alive e).2 z
   ·exact q (r.inj i j b e z▸hj)
 ·show (if i∈L then [] else os i)=[]
  by_cases q:i∈L
  ·rw [if_pos q]
  ·rw [if_neg q];refine r.out i λx e=>h x ?_;rw [zcd,if_neg q]; exact e
 ·have e1:a∈(if i∈L then [] else os i):=e1;have e2:a∈(if j∈L then [] else os j):=e2;split at e1
  ·simp at e1
  ·split at e2
   ·simp at e2
   ·exact r.inj i j a e1 e2
theorem Rep.set (r:Rep B H F σ S os) {i:Nat} {v:V} {x:SV} {o:List Addr} (va:VA B H F v x o) (no:∀ b,b∈o->∀ j,j≠i->b∉os j) (hi:i < S.length) :
  Rep B H F (σ.set i (some v)) (S.set i (some x)) (λj=>if j=i then o else os j):=by
 refine ⟨λj y h=>?_,λj h=>?_,λj k a e1 e2=>?_,r.fd,by simp [r.len]⟩
 ·by_cases q:j=i
  ·subst q;simp only [List.getElem?_set,if_pos rfl,hi,if_true] at h;cases h
   have hs:j < σ.length:=by rw [r.len]; exact hi
   exact ⟨v,by simp [List.getElem?_set,hs],by rw [if_pos rfl]; exact va⟩
  ·simp only [List.getElem?_set,if_neg (Ne.symm q)] at h;obtain ⟨w,h1,h2⟩:=r.at' j y h;exact ⟨w,by simp only [List.getElem?_set,if_neg (Ne.symm q)]; exact h1,by rw [if_neg q]; exact h2⟩
 ·by_cases q:j=i
  ·subst q;exact absurd (by simp [List.getElem?_set,hi]) (h x)
  ·show (if j=i then o else os j)=[];rw [if_neg q];refine r.out j λy e=>h y ?_;simp only [List.getElem?_set,if_neg (Ne.symm q)]; exact e
 ·have e1:a∈(if j=i then o else os j):=e1;have e2:a∈(if k=i then o else os k):=e2
  by_cases q1:j=i
  ·by_cases q2:k=i
   ·rw [q1,q2]
   ·rw [if_pos q1] at e1; rw [if_neg q2] at e2; exact absurd e2 (no a e1 k q2)
  ·by_cases q2:k=i
   ·rw [if_neg q1] at e1; rw [if_pos q2] at e2; exact absurd e1 (no a e2 j q1)
   ·rw [if_neg q1] at e1; rw [if_neg q2] at e2; exact r.inj j k a e1 e2
end
inductive Fl where
 | nx (S:FSt) | rt (x:SV) | bk (S:FSt) | ct (S:FSt) | bad
structure FStep (σ:St) (S:FSt) (H:Hp) (F:Addr->Prop) (os:Nat->List Addr) (σ':St) (S':FSt) (H':Hp) (F':Addr->Prop) (os':Nat->List Addr):Prop where
 keep:∀ b o,H b=some o->(∀ i,b∉os i)->H' b=some o
 liv:∀ b,H b≠none->H' b≠none
 up:∀ b,F b->F' b
 new:∀ b,F' b->F b\/H b=none\/(∃ i,b∈os i)\/isT H b
 own:∀ i b,b∈os' i->H b=none\/∃ j,b∈os j
 lok:∀ (i:Nat) (xs:List D),S[i]? = some (some (SV.lk xs))->S'[i]? = some (some (SV.lk xs))/\σ'[i]? = σ[i]?
 lob:∀ (i c:Nat) (fs:List (Str×D)),S[i]? = some (some (SV.ob c fs))->(∃ fs',S'[i]? = some (some (SV.ob c fs')))/\σ'[i]? = σ[i]?
 lpu:∀ (i:Nat) (xs:List Int),S[i]? = some (some (SV.pu xs))->(∃ xs',S'[i]? = some (some (SV.pu xs')))/\σ'[i]? = σ[i]?
structure FStepR (H:Hp) (F:Addr->Prop) (os:Nat->List Addr) (H':Hp) (F':Addr->Prop) (o:List Addr):Prop where
 keep:∀ b u,H b=some u->(∀ i,b∉os i)->H' b=some u
 up:∀ b,F b->F' b
 new:∀ b,F' b->F b\/H b=none\/(∃ i,b∈os i)\/isT H b
 own:∀ b,b∈o->H b=none\/∃ j,b∈os j
 fd:∀ b,F' b->H' b≠none
section
variable {σ σ1 σ2:St} {S S1 S2:FSt} {H H1 H2:Hp} {F F1 F2:Addr->Prop} {os os1 os2:Nat->List Addr} {o:List Addr}
theorem FStep.refl:FStep σ S H F os σ S H F os:=⟨λ_ _ h _=>h,λ_ h=>h,λ_ h=>h,λ_ h=>.inl h,λi b h=>.inr ⟨i,h⟩,λi xs h=>⟨h,rfl⟩,λi c fs h=>⟨⟨fs,h⟩,rfl⟩,λi xs h=>⟨⟨xs,h⟩,rfl⟩⟩
theorem FStep.outside (a:FStep σ S H F os σ1 S1 H1 F1 os1) {b:Addr} {u:HO} (h:H b=some u) (n:∀ i,b∉os i):∀ i,b∉os1 i:=λi e=>by
 rcases a.own i b e with q | ⟨j,q⟩
 ·rw [q] at h; cases h
 ·exact n j q
theorem zh5 {b:Addr} (l:∀ b,H b≠none->H1 b≠none) (h:H1 b=none):H b=none:=by
 cases e:H b with
 | none=>rfl
 | some u=>exact absurd h (l b (by rw [e]; simp))
theorem FStep.trans (a:FStep σ S H F os σ1 S1 H1 F1 os1) (c:FStep σ1 S1 H1 F1 os1 σ2 S2 H2 F2 os2):FStep σ S H F os σ2 S2 H2 F2 os2:=by
 refine ⟨λb u h n=>c.keep b u (a.keep b u h n) (a.outside h n),λb h=>c.liv b (a.liv b h),λb h=>c.up b (a.up b h),λb h=>?_,λi b h=>?_,λi xs h=>?_,λi k fs h=>?_,λi xs h=>?_⟩
 ·rcases c.new b h with q | q | ⟨i,q⟩ | ⟨ys,q⟩
  ·exact a.new b q
  ·exact .inr (.inl (zh5 a.liv q))
  ·rcases a.own i b q with q | q
   ·exact .inr (.inl q)
   ·exact .inr (.inr (.inl q))
  ·cases e:H b with
   | none=>exact .inr (.inl rfl)
   | some u=>
    by_cases z:∃ i,b∈os i
    ·exact .inr (.inr (.inl z))
    ·have:=a.keep b u e λi hi=>z ⟨i,hi⟩;rw [q] at this; cases this
     exact .inr (.inr (.inr ⟨ys,e⟩))
 ·rcases c.own i b h with q | ⟨j,q⟩
  ·exact .inl (zh5 a.liv q)
  ·exact a.own j b q
 ·obtain ⟨h1,h2⟩:=a.lok i xs h;obtain ⟨h3,h4⟩:=c.lok i xs h1;exact ⟨h3,h4.trans h2⟩
 ·obtain ⟨⟨fs1,h1⟩,h2⟩:=a.lob i k fs h;obtain ⟨h3,h4⟩:=c.lob i k fs1 h1;exact ⟨h3,h4.trans h2⟩
 ·obtain ⟨⟨fs1,h1⟩,h2⟩:=a.lpu i xs h;obtain ⟨h3,h4⟩:=c.lpu i fs1 h1;exact ⟨h3,h4.trans h2⟩
theorem FStep.transR (a:FStep σ S H F os σ1 S1 H1 F1 os1) (c:FStepR H1 F1 os1 H2 F2 o):FStepR H F os H2 F2 o:=by
 refine ⟨λb u h n=>c.keep b u (a.keep b u h n) (a.outside h n),λb h=>c.up b (a.up b h),λb h=>?_,λb h=>?_,c.fd⟩
 ·rcases c.new b h with q | q | ⟨i,q⟩ | ⟨ys,q⟩
  ·exact a.new b q
  ·exact .inr (.inl (zh5 a.liv q))
  ·rcases a.own i b q with q | q
   ·exact .inr (.inl q)
   ·exact .inr (.inr (.inl q))
  ·cases e:H b with
   | none=>exact .inr (.inl rfl)
   | some u=>
    by_cases z:∃ i,b∈os i
    ·exact .inr (.inr (.inl z))
    ·have:=a.keep b u e λi hi=>z ⟨i,hi⟩;rw [q] at this; cases this
     exact .inr (.inr (.inr ⟨ys,e⟩))
 ·rcases c.own b h with q | ⟨j,q⟩
  ·exact .inl (zh5 a.liv q)
  ·exact a.own j b q
theorem Al.step (a:Al H F H1 F1):FStep σ S H F os σ S H1 F1 os:=by
 refine ⟨λb u h _=>a.same b u h,λb h=>?_,a.up,λb h=>?_,λi b h=>.inr ⟨i,h⟩,λi xs h=>⟨h,rfl⟩,λi c fs h=>⟨⟨fs,h⟩,rfl⟩,λi xs h=>⟨⟨xs,h⟩,rfl⟩⟩
 ·cases e:H b with
  | none=>exact absurd e h
  | some u=>rw [a.same b u e]; simp
 ·rcases a.new b h with q | q | q
  ·exact .inl q
  ·exact .inr (.inl q.1)
  ·exact .inr (.inr (.inr q))
end
def Lands (B:Bk) (σ:St) (S:FSt) (H:Hp) (F:Addr->Prop) (os:Nat->List Addr) (D:Ends):Fl->Prop
 | .nx S'=>∀ σ' H' F' os',FStep σ S H F os σ' S' H' F' os'->Rep B H' F' σ' S' os'->D.nx σ' H'
 | .bk S'=>∀ σ' H' F' os',FStep σ S H F os σ' S' H' F' os'->Rep B H' F' σ' S' os'->D.bk σ' H'
 | .ct S'=>∀ σ' H' F' os',FStep σ S H F os σ' S' H' F' os'->Rep B H' F' σ' S' os'->D.ct σ' H'
 | .rt x=>∀ v H' F' o,FStepR H F os H' F' o->VA B H' F' v x o->D.rt v H'
 | .bad=>False
def FS (B:Bk) (t:TS) (m:FSt->Fl):Prop:=
 ∀ (S:FSt) (σ:St) (H:Hp) (F:Addr->Prop) (os:Nat->List Addr) (D:Ends),Rep B H F σ S os->Lands B σ S H F os D (m S)->t D σ H
section
variable {B:Bk} {σ σ1:St} {S S1:FSt} {H H1:Hp} {F F1:Addr->Prop} {os os1:Nat->List Addr} {E:Ends}
theorem Lands.later {r:Fl} (h:Lands B σ S H F os E r) (a:FStep σ S H F os σ1 S1 H1 F1 os1):Lands B σ1 S1 H1 F1 os1 E r:=by
 cases r with
 | nx S'=>exact λσ' H' F' os' st=>h σ' H' F' os' (a.trans st)
 | bk S'=>exact λσ' H' F' os' st=>h σ' H' F' os' (a.trans st)
 | ct S'=>exact λσ' H' F' os' st=>h σ' H' F' os' (a.trans st)
 | rt x=>exact λv H' F' o st=>h v H' F' o (a.transR st)
 | bad=>exact h
end
@[simp] def zbp (a b:FSt->Fl):FSt->Fl:=λS=>match a S with
 | .nx S1=>b S1
 | r=>r
@[simp] def zce:FSt->Fl:=λS=>.nx S
@[simp] def put (i:Nat) (L:List Nat) (x:SV) (S:FSt):Fl:=
 if i < S.length/\zeg S i=false/\(x.plain=true\/L.any (zeg S)=false) then .nx ((if x.plain=true then S else frzs L S).set i (some x)) else .bad
@[simp] def zcU (i:Nat) (L:List Nat) (m:FSt->Option SV):FSt->Fl:=λS=>match m S with
 | some x=>put i L x S
 | none=>.bad
@[simp] def zdu (m:FSt->Option SV):FSt->Fl:=λS=>match m S with
 | some x=>.rt x
 | none=>.bad
@[simp] def SV.un:SV->SV
 | .lk xs=>.li xs
 | x=>x
@[simp] def zls (i:Nat):FSt->Fl:=λS=>match S[i]?.join with
 | some x=>.rt x.un
 | none=>.bad
@[simp] def zE5:FSt->Fl:=λ_=>.rt (.sh .non)
@[simp] def mDo (m:FSt->Option SV):FSt->Fl:=λS=>match m S with
 | some _=>.nx S
 | none=>.bad
@[simp] def mIf (c:FSt->Option Bool) (a b:FSt->Fl):FSt->Fl:=λS=>match c S with
 | some true=>a S
 | some false=>b S
 | none=>.bad
@[simp] def zsh:FSt->Fl:=λ_=>.bad
@[simp] def zFI:FSt->Fl:=λS=>.bk S
@[simp] def zFJ:FSt->Fl:=λS=>.ct S
@[simp] def zuh (i:Nat) (L:List Nat) (m:FSt->Option D):FSt->Fl:=λS=>match m S with
 | some d=>if d.plain=true\/L.any (zeg S)=false then
   match (if d.plain=true then S else frzs L S)[i]? with
   | some (some (.li xs))=>if xs.length < sizeLine then .nx ((if d.plain=true then S else frzs L S).set i (some (.li (xs++[d])))) else .bad
   | _=>.bad
  else .bad
 | none=>.bad
section
variable {B:Bk} {te:TE} {L:List Nat} {me:FSt->Option SV} {md:FSt->Option D} {t u:TS} {ma mb:FSt->Fl} {tt:TT} {mt:FSt->Option Bool}
theorem zxP:FS B zzP zce:=λS σ H F os E r h=>h σ H F os FStep.refl r
theorem zAH (h1:FS B t ma) (h2:FS B u mb):FS B (zCa t u) (zbp ma mb):=by
 intro S σ H F os E r h;refine h1 S σ H F os _ r ?_;unfold zbp at h;cases q:ma S with
 | nx S1=>
  rw [q] at h;intro σ' H' F' os' st r';exact h2 S1 σ' H' F' os' E r' (h.later st)
 | bk S1=>rw [q] at h; exact h
 | ct S1=>rw [q] at h; exact h
 | rt x=>rw [q] at h; exact h
 | bad=>rw [q] at h; exact h
theorem zuV:FS B zvZ zsh:=λ_ _ _ _ _ _ _ h=>h
theorem zAI (hc:FT B tt mt) (h1:FS B t ma) (h2:FS B u mb):FS B (zzQ tt t u) (mIf mt ma mb):=by
 intro S σ H F os E r h;unfold mIf at h;cases q:mt S with
 | none=>rw [q] at h; exact h.elim
 | some c=>
  rw [q] at h;refine hc S σ H F os _ c r q λH' F' a r'=>?_;cases c with
  | true=>rw [if_pos rfl]; exact h1 S σ H' F' os E r' (h.later a.step)
  | false=>rw [if_neg Bool.false_ne_true]; exact h2 S σ H' F' os E r' (h.later a.step)
theorem zwf (he:FE B te L me):FS B (zCb te) (zdu me):=by
 intro S σ H F os E r h;unfold zdu at h;cases q:me S with
 | none=>rw [q] at h; exact h.elim
 | some x=>
  rw [q] at h;refine he S σ H F os _ x r q λv H' F' o a r' va fr=>h v H' _ o ⟨λb u e _=>a.same b u e,λb z=>.inl (a.up b z),λb z=>?_,λb z=>.inl (fr b z),r'.gd L⟩ va;rcases z with z | ⟨i,_,z⟩
  ·rcases a.new b z with z | z | z
   ·exact .inl z
   ·exact .inr (.inl z.1)
   ·exact .inr (.inr (.inr z))
  ·exact .inr (.inr (.inl ⟨i,z⟩))
theorem zxQ (i:Nat):FS B (zCb (zp5 i)) (zls i):=by
 intro S σ H F os E r h;unfold zls at h;cases q:S[i]? with
 | none=>rw [q] at h; exact h.elim
 | some z=>cases z with
  | none=>rw [q] at h; exact h.elim
  | some x=>
   rw [q] at h;obtain ⟨v,h1,h2⟩:=r.at' i x q;refine ⟨v,h1,h v H F (os i) ⟨λb u e _=>e,λb z=>z,λb z=>.inl z,λb z=>.inr ⟨i,z⟩,r.fd⟩ ?_⟩;cases x <;> exact h2
theorem zAJ (he:FE B te L me):FS B (zmh te) (mDo me):=by
 intro S σ H F os E r h;unfold mDo at h;cases q:me S with
 | none=>rw [q] at h; exact h.elim
 | some x=>
  rw [q] at h;exact he S σ H F os _ x r q λv H' F' o a r' va fr=>h σ H' F' os a.step r'
theorem zwg {S:FSt} {σ:St} {H H':Hp} {F F':Addr->Prop} {os:Nat->List Addr} {i:Nat} {v:V} {x:SV} {o:List Addr} {E:Ends} (r:Rep B H F σ S os) (h:Lands B σ S H F os E (put i L x S)) (a:Al H F H' F') (r':Rep B H' F' σ S os)
  (va:VA B H' (orF F' (osL os L)) v x o) (fr:∀ b,b∈o->H b=none):E.nx (σ.set i (some v)) H':=by
 unfold put at h;split at h
 case isFalse=>exact h.elim
 case isTrue c=>
  obtain ⟨hi,hl,hp⟩:=c;have lokI:∀ (S':FSt),(∀ (j:Nat) (xs:List D),S[j]? = some (some (SV.lk xs))->j≠i->S'[j]? = some (some (SV.lk xs)))->∀ (j:Nat) (xs:List D),S[j]? = some (some (SV.lk xs))->(S'.set i (some x))[j]? = some (some (SV.lk xs))/\(σ.set i (some v))[j]? = σ[j]?:=λS' hS j xs e=>by
   have hj:j≠i:=by rintro rfl; unfold zeg at hl; rw [e] at hl; cases hl
   exact ⟨by rw [List.getElem?_set_ne (Ne.symm hj)]; exact hS j xs e hj,by rw [List.getElem?_set_ne (Ne.symm hj)]⟩
  have lobI:∀ (S':FSt),(∀ (j c:Nat) (fs:List (Str×D)),S[j]? = some (some (SV.ob c fs))->j≠i->S'[j]? = some (some (SV.ob c fs)))->∀ (j c:Nat) (fs:List (Str×D)),S[j]? = some (some (SV.ob c fs))->(∃ fs',(S'.set i (some x))[j]? = some (some (SV.ob c fs')))/\(σ.set i (some v))[j]? = σ[j]?:=λS' hS j c fs e=>by
   have hj:j≠i:=by rintro rfl; unfold zeg at hl; rw [e] at hl; cases hl
   exact ⟨⟨fs,by rw [List.getElem?_set_ne (Ne.symm hj)]; exact hS j c fs e hj⟩,by rw [List.getElem?_set_ne (Ne.symm hj)]⟩
  have lpuI:∀ (S':FSt),(∀ (j:Nat) (xs:List Int),S[j]? = some (some (SV.pu xs))->j≠i->S'[j]? = some (some (SV.pu xs)))->∀ (j:Nat) (xs:List Int),S[j]? = some (some (SV.pu xs))->(∃ xs',(S'.set i (some x))[j]? = some (some (SV.pu xs')))/\(σ.set i (some v))[j]? = σ[j]?:=λS' hS j xs e=>by
   have hj:j≠i:=by rintro rfl; unfold zeg at hl; rw [e] at hl; cases hl
   exact ⟨⟨xs,by rw [List.getElem?_set_ne (Ne.symm hj)]; exact hS j xs e hj⟩,by rw [List.getElem?_set_ne (Ne.symm hj)]⟩
  by_cases p:x.plain=true
  ·rw [if_pos p] at h;have va':=va.toF r' p;have r2:=r'.set (i:=i) va' (λb e j _ z=>(r.alive z).1 (fr b e)) hi;refine h _ H' F' _ ⟨λb u e _=>a.same b u e,a.step (σ:=σ) (S:=S) (os:=os) |>.liv,a.up,a.step (σ:=σ) (S:=S) (os:=os) |>.new,λj b e=>?_,lokI S λj xs e _=>e,lobI S λj c fs e _=>e,lpuI S λj xs e _=>e⟩ r2;have e:b∈(if j=i then o else os j):=e;split at e
   ·exact .inl (fr b e)
   ·exact .inr ⟨j,e⟩
  ·rw [if_neg p] at h;have hp:L.any (zeg S)=false:=hp.resolve_left p;have r1:=r'.frz L;have r2:=r1.set (i:=i) va (λb e j _ z=>by
    have z:b∈(if j∈L then [] else os j):=z;split at z
    ·simp at z
    ·exact (r.alive z).1 (fr b e)) (by rw [zms]; exact hi)
   refine h _ H' _ _ ⟨λb u e _=>a.same b u e,a.step (σ:=σ) (S:=S) (os:=os) |>.liv,λb z=>.inl (a.up b z),λb z=>?_,λj b e=>?_,lokI (frzs L S) λj xs e _=>?_,lobI (frzs L S) λj c fs e _=>?_,lpuI (frzs L S) λj xs e _=>?_⟩ r2
   ·rcases z with z | ⟨k,_,z⟩
    ·exact (a.step (σ:=σ) (S:=S) (os:=os)).new b z
    ·exact .inr (.inr (.inl ⟨k,z⟩))
   ·have e:b∈(if j=i then o else if j∈L then [] else os j):=e;split at e
    ·exact .inl (fr b e)
    ·split at e
     ·simp at e
     ·exact .inr ⟨j,e⟩
   ·rw [zcd,if_neg,e];intro z;rw [List.any_eq_false] at hp;have:=hp j z;unfold zeg at this;rw [e] at this;exact this rfl
   ·rw [zcd,if_neg,e];intro z;rw [List.any_eq_false] at hp;have:=hp j z;unfold zeg at this;rw [e] at this;exact this rfl
   ·rw [zcd,if_neg,e];intro z;rw [List.any_eq_false] at hp;have:=hp j z;unfold zeg at this;rw [e] at this;exact this rfl
theorem zAK {i:Nat} (he:FE B te L me):FS B (zzU te (zru i)) (zcU i L me):=by
 intro S σ H F os E r h;unfold zcU at h;cases q:me S with
 | none=>rw [q] at h; exact h.elim
 | some x=>
  rw [q] at h;exact he S σ H F os _ x r q λv H' F' o a r' va fr=>zwg r h a r' va fr
end
section
variable {B:Bk} {H H':Hp} {F F':Addr->Prop} {σ:St} {S:FSt} {os:Nat->List Addr} {L:List Nat}
theorem Rep.write (r:Rep B H F σ S os) {i:Nat} {a:Addr} {u:HO} {x:SV} {v:V} (e:a∈os i) (hv:σ[i]? = some (some v)) (va:VA B (upd H a u) F v x (os i)):Rep B (upd H a u) F σ (S.set i (some x)) os:=by
 obtain ⟨y,v',h1,h2,h3⟩:=r.own e;have hi:i < S.length:=(List.getElem?_eq_some_iff.mp h1).1;have hF:∀ b o,F b->H b=some o->upd H a u b=some o:=λb o f h=>by rw [zaW]; exact h; rintro rfl; exact (r.alive e).2 f
 refine ⟨λj z h=>?_,λj h=>?_,r.inj,λb h=>?_,by simp [r.len]⟩
 ·by_cases q:j=i
  ·subst q;simp only [List.getElem?_set,if_pos rfl,hi,if_true] at h;cases h
   exact ⟨v,hv,va⟩
  ·simp only [List.getElem?_set,if_neg (Ne.symm q)] at h;obtain ⟨w,k1,k2⟩:=r.at' j z h;refine ⟨w,k1,k2.mono hF (λb o ob h=>?_) (λ_ h=>h) λb ob=>(r.alive ob).2⟩;rw [zaW]; exact h;rintro rfl;exact q (r.inj j i b ob e)
 ·by_cases q:j=i
  ·subst q;exact absurd (by simp [List.getElem?_set,hi]) (h x)
  ·refine r.out j λy k=>h y ?_;simp only [List.getElem?_set,if_neg (Ne.symm q)]; exact k
 ·unfold upd;split
  ·simp
  ·exact r.fd b h
theorem zdc {a:Addr} {u:HO} {i:Nat} {x:SV} (e:a∈os i) (nl:zeg S i=false\/(∃ c fs fs',S[i]? = some (some (SV.ob c fs))/\x=.ob c fs')\/∃ xs xs',S[i]? = some (some (SV.pu xs))/\x=.pu xs'):FStep σ S H F os σ (S.set i (some x)) (upd H a u) F os:=by
 refine ⟨λb o h n=>?_,λb h=>?_,λ_ h=>h,λ_ h=>.inl h,λj b h=>.inr ⟨j,h⟩,λj xs h=>⟨?_,rfl⟩,λj c fs h=>⟨?_,rfl⟩,λj xs h=>⟨?_,rfl⟩⟩
 ·rw [zaW]; exact h;rintro rfl; exact n i e
 ·unfold upd;split
  ·simp
  ·exact h
 ·have hj:j≠i:=by
   rintro rfl;rcases nl with nl | ⟨c,fs,fs',nl,_⟩ | ⟨ys,ys',nl,_⟩
   ·unfold zeg at nl; rw [h] at nl; cases nl
   ·rw [h] at nl; cases nl
   ·rw [h] at nl; cases nl
  rw [List.getElem?_set_ne (Ne.symm hj)]; exact h
 ·by_cases hj:j=i
  ·subst hj;rcases nl with nl | ⟨c',fs1,fs',nl,rfl⟩ | ⟨ys,ys',nl,_⟩
   ·unfold zeg at nl; rw [h] at nl; cases nl
   ·rw [h] at nl; cases nl
    exact ⟨fs',by simp [List.getElem?_set,(List.getElem?_eq_some_iff.mp h).1]⟩
   ·rw [h] at nl; cases nl
  ·exact ⟨fs,by rw [List.getElem?_set_ne (Ne.symm hj)]; exact h⟩
 ·by_cases hj:j=i
  ·subst hj;rcases nl with nl | ⟨c',fs1,fs',nl,_⟩ | ⟨ys,ys',nl,rfl⟩
   ·unfold zeg at nl; rw [h] at nl; cases nl
   ·rw [h] at nl; cases nl
   ·rw [h] at nl; cases nl
    exact ⟨ys',by simp [List.getElem?_set,(List.getElem?_eq_some_iff.mp h).1]⟩
  ·exact ⟨xs,by rw [List.getElem?_set_ne (Ne.symm hj)]; exact h⟩
theorem zh6 (r:Rep B H F σ S os) (nl:L.any (zeg S)=false):FStep σ S H F os σ (frzs L S) H (orF F (osL os L)) (λj=>if j∈L then [] else os j):=by
 refine ⟨λb o h n=>h,λb h=>h,λ_ h=>.inl h,λb h=>?_,λj b h=>?_,λj xs h=>⟨?_,rfl⟩,λj c fs h=>⟨⟨fs,?_⟩,rfl⟩,λj xs h=>⟨⟨xs,?_⟩,rfl⟩⟩
 ·rcases h with h | ⟨i,_,h⟩
  ·exact .inl h
  ·exact .inr (.inr (.inl ⟨i,h⟩))
 ·have h:b∈(if j∈L then [] else os j):=h;split at h
  ·simp at h
  ·exact .inr ⟨j,h⟩
 ·rw [zcd,if_neg,h];intro z;rw [List.any_eq_false] at nl;have:=nl j z;unfold zeg at this;rw [h] at this;exact this rfl
 ·rw [zcd,if_neg,h];intro z;rw [List.any_eq_false] at nl;have:=nl j z;unfold zeg at this;rw [h] at this;exact this rfl
 ·rw [zcd,if_neg,h];intro z;rw [List.any_eq_false] at nl;have:=nl j z;unfold zeg at this;rw [h] at this;exact this rfl
end
section
variable {B:Bk} {te:TE} {L:List Nat} {md:FSt->Option D}
theorem zAL {i:Nat} {K:W.Frag} (hK:B.K=K) (he:FD B te L md):FS B (zmh (tBM K "list" zoe (zp5 i) (zmZ te zxd))) (zuh i L md):=by
 subst hK;intro S σ H F os E r h;unfold zuh at h;cases q:md S with
 | none=>rw [q] at h; exact h.elim
 | some d=>
  rw [q] at h;dsimp only at h;split at h
  case isFalse=>exact h.elim
  case isTrue c=>
   split at h
   case h_2=>exact h.elim
   case h_1 xs hx=>
    split at h
    case isFalse=>exact h.elim
    case isTrue hz=>
     have hS:S[i]? = some (some (.li xs))/\(d.plain=true\/i∉L):=by
      by_cases p:d.plain=true
      ·rw [if_pos p] at hx; exact ⟨hx,.inl p⟩
      ·rw [if_neg p,zcd] at hx
       by_cases hi:i∈L
       ·rw [if_pos hi] at hx;cases e:S[i]? with
        | none=>rw [e] at hx; cases hx
        | some z=>cases z with
         | none=>rw [e] at hx; cases hx
         | some y=>rw [e] at hx; cases hx
       ·rw [if_neg hi] at hx; exact ⟨hx,.inr hi⟩
     obtain ⟨v,hv,a,vs,rfl,eo,nf,hh,das⟩:=r.at' i _ hS.1;have nl:zeg S i=false:=by unfold zeg; rw [hS.1]; rfl
     refine ⟨.ref a,hv,.inl ⟨rfl,vs,.inl (.inl hh)⟩,he S σ H F os _ d r q λw H' F' al r' da=>?_⟩;obtain ⟨v',hv',a',vs',e1,eo',nf',hh',das'⟩:=r'.at' i _ hS.1;have ea:a'=a:=by rw [eo] at eo'; exact (List.cons.inj eo').1.symm
     subst ea;refine ⟨a',vs',w,rfl,rfl,hh',by rw [das'.length]; exact hz,?_⟩;have st1:FStep σ S H F os σ S H' F' os:=al.step;have em:a'∈os i:=by rw [eo]; simp
     by_cases p:d.plain=true
     ·rw [if_pos p] at h;have da':=da.toF r' p;have hk:∀ b o,F' b->H' b=some o->upd H' a' (.lst (vs'++[w])) b=some o:=λb o f h=>by rw [zaW]; exact h; rintro rfl; exact nf' f
      have r2:=r'.write (u:=.lst (vs'++[w])) (x:=.li (xs++[d])) em hv ⟨a',vs'++[w],rfl,eo,nf',zaS,(das'.append (.cons da' .nil)).mono hk λ_ h=>h⟩;exact h σ _ F' os (st1.trans (zdc em (.inl nl))) r2
     ·rw [if_neg p] at h;have hi:=hS.2.resolve_left p;have c':=c.resolve_left p;have r1:=r'.frz L;have eo1:(λj=>if j∈L then [] else os j) i=[a']:=by show (if i∈L then [] else os i)=_; rw [if_neg hi]; exact eo
      have em1:a'∈(λj=>if j∈L then [] else os j) i:=by rw [eo1]; simp
      have nf1:¬ orF F' (osL os L) a':=λz=>by
       rcases z with z | ⟨k,hk,z⟩
       ·exact nf' z
       ·exact hi (r.inj i k a' em z▸hk)
      have hk:∀ b o,orF F' (osL os L) b->H' b=some o->upd H' a' (.lst (vs'++[w])) b=some o:=λb o f h=>by rw [zaW]; exact h; rintro rfl; exact nf1 f
      have d0:DAs B H' (orF F' (osL os L)) vs' xs:=das'.mono (λ_ _ _ e=>e) λ_ h=>.inl h;have r2:=r1.write (u:=.lst (vs'++[w])) (x:=.li (xs++[d])) em1 hv ⟨a',vs'++[w],rfl,eo1,nf1,zaS,(d0.append (.cons da .nil)).mono hk λ_ h=>h⟩;have nl1:zeg (frzs L S) i=false:=by unfold zeg; rw [zcd,if_neg hi,hS.1]; rfl
      exact h σ _ _ _ ((st1.trans (zh6 r' c')).trans (zdc em1 (.inl nl1))) r2
end
def FG (B:Bk) (g:TG) (m:D->FSt->Option FSt):Prop:=
 ∀ (S:FSt) (σ:St) (H:Hp) (F:Addr->Prop) (os:Nat->List Addr) (v:V) (d:D) (S':FSt) (Q:St->Hp->Prop),Rep B H F σ S os->DA B H F v d->m d S=some S'->
  (∀ σ' os',FStep σ S H F os σ' S' H F os'->Rep B H F σ' S' os'->Q σ' H)->g v σ H Q
def FGs (B:Bk) (g:TGs) (m:List D->FSt->Option FSt):Prop:=
 ∀ (S:FSt) (σ:St) (H:Hp) (F:Addr->Prop) (os:Nat->List Addr) (vs:List V) (ds:List D) (S':FSt) (Q:St->Hp->Prop),Rep B H F σ S os->DAs B H F vs ds->m ds S=some S'->
  (∀ σ' os',FStep σ S H F os σ' S' H F os'->Rep B H F σ' S' os'->Q σ' H)->g vs σ H Q
@[simp] def gN (i:Nat):D->FSt->Option FSt:=λd S=>if i < S.length/\zeg S i=false then some (S.set i (some (.sh d))) else none
@[simp] def gNs:List D->FSt->Option FSt:=λds S=>match ds with
 | []=>some S
 | _=>none
@[simp] def gCs (a:D->FSt->Option FSt) (r:List D->FSt->Option FSt):List D->FSt->Option FSt:=λds S=>match ds with
 | d :: ds=>(a d S).bind (r ds)
 | _=>none
@[simp] def gSq (n:Nat) (r:List D->FSt->Option FSt):D->FSt->Option FSt:=λd S=>match d with
 | .tup ds=>if ds.length=n then r ds S else none
 | .lst ds=>if ds.length=n then r ds S else none
 | .kt ds=>if ds.length=n then r ds S else none
 | .fz ds=>if ds.length=n then r ds S else none
 | _=>none
section
variable {B:Bk} {g:TG} {gs:TGs} {mg:D->FSt->Option FSt} {ms:List D->FSt->Option FSt}
theorem zxR (i:Nat):FG B (zru i) (gN i):=by
 intro S σ H F os v d S' Q r da e k;unfold gN at e;split at e
 case isFalse=>cases e
 case isTrue c=>
  cases e
  have r2:=r.set (i:=i) (v:=v) (x:=.sh d) (o:=[]) ⟨rfl,da⟩ (λb e=>absurd e (by simp)) c.1;refine k _ _ ⟨λb u h _=>h,λ_ h=>h,λ_ h=>h,λ_ h=>.inl h,λj b h=>?_,λj xs h=>?_,λj c' fs h=>?_,λj xs h=>?_⟩ r2
  ·have h:b∈(if j=i then [] else os j):=h;split at h
   ·simp at h
   ·exact .inr ⟨j,h⟩
  ·have hj:j≠i:=by rintro rfl; have:=c.2; unfold zeg at this; rw [h] at this; cases this
   exact ⟨by rw [List.getElem?_set_ne (Ne.symm hj)]; exact h,by rw [List.getElem?_set_ne (Ne.symm hj)]⟩
  ·have hj:j≠i:=by rintro rfl; have:=c.2; unfold zeg at this; rw [h] at this; cases this
   exact ⟨⟨fs,by rw [List.getElem?_set_ne (Ne.symm hj)]; exact h⟩,by rw [List.getElem?_set_ne (Ne.symm hj)]⟩
  ·have hj:j≠i:=by rintro rfl; have:=c.2; unfold zeg at this; rw [h] at this; cases this
   exact ⟨⟨xs,by rw [List.getElem?_set_ne (Ne.symm hj)]; exact h⟩,by rw [List.getElem?_set_ne (Ne.symm hj)]⟩
theorem zxS:FGs B zD7 gNs:=by
 intro S σ H F os vs ds S' Q r da e k;cases da with
 | nil=>cases e; exact ⟨rfl,k σ os FStep.refl r⟩
 | cons _ _=>cases e
theorem zuW (h1:FG B g mg) (h2:FGs B gs ms):FGs B (zzS g gs) (gCs mg ms):=by
 intro S σ H F os vs ds S' Q r da e k;cases da with
 | nil=>cases e
 | cons h q=>
  obtain ⟨S1,e1,e2⟩:=zbW e;exact ⟨_,_,rfl,h1 S σ H F os _ _ S1 _ r h e1 λσ' os' st r'=>h2 S1 σ' H F os' _ _ S' Q r' q e2 λσ2 os2 st2 r2=>k σ2 os2 (st.trans st2) r2⟩
theorem zAM {n:Nat} {K:W.Frag} (hK:B.K=K) (h:FGs B gs ms):FG B (zEo K n gs) (gSq n ms):=by
 subst hK;intro S σ H F os v d S' Q r da e k;cases da with
 | tup hn q=>
  unfold gSq at e;dsimp only at e;split at e
  case isFalse=>cases e
  case isTrue c=>exact .inl ⟨_,_,rfl,hn.sq,by rw [q.length]; exact c,h S σ H F os _ _ S' Q r q e k⟩
 | lst hn q=>
  unfold gSq at e;dsimp only at e;split at e
  case isFalse=>cases e
  case isTrue c=>exact .inr ⟨_,_,rfl,hn.sq,by rw [q.length]; exact c,h S σ H F os _ _ S' Q r q e k⟩
 | kt hn q=>
  unfold gSq at e;dsimp only at e;split at e
  case isFalse=>cases e
  case isTrue c=>exact .inl ⟨_,_,rfl,hn.sq,by rw [q.length]; exact c,h S σ H F os _ _ S' Q r q e k⟩
 | fz hn q=>
  unfold gSq at e;dsimp only at e;split at e
  case isFalse=>cases e
  case isTrue c=>exact .inr ⟨_,_,rfl,hn.sq,by rw [q.length]; exact c,h S σ H F os _ _ S' Q r q e k⟩
 | _=>cases e
end
def Walks (B:Bk) (J:It) (H:Hp) (F:Addr->Prop) (its:List D):Prop:=∀ (H2:Hp) (F2:Addr->Prop),(∀ b o,F b->H b=some o->H2 b=some o)->(∀ b,F b->F2 b)->
 (∀ i d,its[i]? = some d->J.go i H2/\∀ x H3,J.yld i H2 x H3->∃ F3,Al H2 F2 H3 F3/\DA B H3 F3 x d)/\∀ i,its.length<=i->J.stop i H2
def FI (B:Bk) (wi:TI) (m:FSt->Option (List D)):Prop:=
 ∀ (S:FSt) (σ:St) (H:Hp) (F:Addr->Prop) (os:Nat->List Addr) (R:It->Hp->Prop) (its:List D),Rep B H F σ S os->m S=some its->
  (∀ J H' F',Al H F H' F'->Rep B H' F' σ S os->Walks B J H' F' its->R J H')->wi σ H R
@[simp] def zui (S:FSt) (i:Nat):Bool:=match S[i]? with
 | some (some (SV.sh _))=>true
 | some (some _)=>false
 | _=>true
def zsi (z:Str):List D:=z.cps.toList.map λc=>.str ⟨#[c]⟩
@[simp] def zh7:D->Option (List D)
 | .lst ds=>some ds
 | .tup ds=>some ds
 | .kt ds=>some ds
 | .fz ds=>some ds
 | .str z=>some (zsi z)
 | _=>none
@[simp] def mIt (L:List Nat) (m:FSt->Option SV):FSt->Option (List D):=λS=>(m S).bind λx=>if x.plain=true\/L.all (zui S)=true then zh7 x.fr else none
def zuX (lo:Int) (n:Nat):List D:=(List.range n).map λ(k:Nat)=>.int (lo+k)
theorem zsj:∃ f:Int->Bool,∀ i,f i=true↔-(2 ^ 62)<=i/\i < 2 ^ 62:=⟨λi=>decide (-(2 ^ 62)<=i/\i < 2 ^ 62),λi=>decide_eq_true_iff⟩
noncomputable def zoo:Int->Bool:=Classical.choose zsj
theorem zka {i:Int}:zoo i=true↔-(2 ^ 62)<=i/\i < 2 ^ 62:=Classical.choose_spec zsj i
@[simp] theorem zop {i:Int} (h1:-4611686018427387904<=i) (h2:i < 4611686018427387904):zoo i=true:=zka.mpr ⟨by omega,by omega⟩
noncomputable def zqm:List D->Option (List D)
 | [.int j]=>if zoo j=true then some (zuX 0 j.toNat) else none
 | [.int i,.int j]=>if zoo i=true/\zoo j=true then some (zuX i (j-i).toNat) else none
 | _=>none
section
variable {B:Bk} {te:TE} {L:List Nat} {me:FSt->Option SV} {tr:TA} {mr:FSt->Option (List D)}
theorem zh8 {H:Hp} {F:Addr->Prop} {a:Addr} {xs:List V} {ds:List D} (h:∀ H2,(∀ b o,F b->H b=some o->H2 b=some o)->SqL B.K H2 a xs) (q:DAs B H F xs ds):Walks B (Itl B.K a) H F ds:=by
 intro H2 F2 k up;have h2:=h H2 k;have q2:=q.mono k up;refine ⟨λi d e=>?_,λi hi=>⟨xs,h2,by rw [q.length]; exact hi⟩⟩;obtain ⟨v,e1,d1⟩:=q2.get e;refine ⟨⟨xs,v,h2,e1⟩,λx H3 y=>?_⟩;obtain ⟨rfl,y⟩:=y;have:=y xs h2;rw [e1] at this; cases this
 exact ⟨F2,Al.refl,d1⟩
theorem zh9 {H:Hp} {F:Addr->Prop} {a:Addr} {xs:List V} {ds:List D} (h:∀ H2,(∀ b o,F b->H b=some o->H2 b=some o)->SqT B.K H2 a xs) (q:DAs B H F xs ds):Walks B (Itt B.K a) H F ds:=by
 intro H2 F2 k up;have h2:=h H2 k;have q2:=q.mono k up;refine ⟨λi d e=>?_,λi hi=>⟨xs,h2,by rw [q.length]; exact hi⟩⟩;obtain ⟨v,e1,d1⟩:=q2.get e;refine ⟨⟨xs,v,h2,e1⟩,λx H3 y=>?_⟩;obtain ⟨rfl,y⟩:=y;have:=y xs h2;rw [e1] at this; cases this
 exact ⟨F2,Al.refl,d1⟩
theorem znh {H:Hp} {F:Addr->Prop} (z:Str):Walks B (Its z) H F (zsi z):=by
 intro H2 F2 k up;refine ⟨λi d e=>?_,λi hi=>by
  have hi:z.cps.size<=i:=by simpa [zsi] using hi
  exact hi⟩
 unfold zsi at e;rw [List.getElem?_map] at e;cases q:z.cps.toList[i]? with
 | none=>rw [q] at e; cases e
 | some c=>
  rw [q] at e; cases e
  have hlt:i < z.cps.size:=by simpa using (List.getElem?_eq_some_iff.mp q).1
  refine ⟨hlt,λx H3 y=>?_⟩;obtain ⟨rfl,c',e',rfl⟩:=y;have e2:z.cps.toList[i]? = some c':=by simpa using e'
  rw [q] at e2; cases e2
  exact ⟨F2,Al.refl,.str _⟩
theorem zni {H:Hp} {F:Addr->Prop} (lo:Int) (n:Nat):Walks B (Itr lo n) H F (zuX lo n):=by
 intro H2 F2 k up;refine ⟨λi d e=>?_,λi hi=>by
  have hi:n<=i:=by simpa [zuX] using hi
  exact hi⟩
 have hi:i < n:=by have:=(List.getElem?_eq_some_iff.mp e).1; simpa [zuX] using this
 have:(zuX lo n)[i]? = some (.int (lo+i)):=by simp [zuX,hi]
 rw [this] at e; cases e
 exact ⟨hi,λx H3 y=>by obtain ⟨rfl,rfl⟩:=y; exact ⟨F2,Al.refl,.int _⟩⟩
theorem zAN {H:Hp} {F:Addr->Prop} {σ:St} {S:FSt} {os:Nat->List Addr} {v:V} {x:SV} {o:List Addr} (r:Rep B H F σ S os) (va:VA B H (orF F (osL os L)) v x o) (c:x.plain=true\/L.all (zui S)=true):VA B H F v x o:=by
 rcases c with c | c
 ·exact va.toF r c
 ·refine va.sub (λb h=>?_) λb e z=>(va.alive e).2.1 (.inl z);rcases h with h | ⟨i,hi,e⟩
  ·exact h
  ·obtain ⟨y,w,h1,_,h2⟩:=r.own e;have:=List.all_eq_true.mp c i hi;unfold zui at this;rw [h1] at this;cases y with
   | sh d=>rw [h2.1] at e; simp at e
   | _=>cases this
theorem zsk {K:W.Frag} (hK:B.K=K) (he:FE B te L me):FI B (zuM K te) (mIt L me):=by
 subst hK;intro S σ H F os R its r e k;obtain ⟨x,ex,ef⟩:=zbW e;split at ef
 case isFalse=>cases ef
 case isTrue c=>
  have key:∀ (P:V->Hp->Prop),(∀ v H' F',Al H F H' F'->Rep B H' F' σ S os->DA B H' F' v x.fr->P v H')->te σ H P:=λP hP=>by
   refine he S σ H F os P x r ex λv H' F' o a r' va fr=>?_;have va:=zAN r' va c;have al:Al H F H' (λb=>F' b\/b∈o):=by
    refine ⟨a.same,λb h=>.inl (a.up b h),λb h=>?_⟩;rcases h with h | h
    ·exact a.new b h
    ·exact .inr (.inl ⟨fr b h,(va.alive h).1⟩)
   exact hP v H' _ al (r.mono al) (va.frozen (λb h=>.inl h) λb h=>.inr h)
  cases hx:x.fr with
  | lst ds=>
   rw [hx] at ef key; cases ef
   refine .inl (key _ λv H' F' al r' da=>?_);cases da with
   | lst h q=>exact ⟨_,rfl,⟨_,h.sq⟩,k _ H' F' al r' (zh8 (λH2 kk=>.inl (.inl (kk _ _ h.1 h.2))) q)⟩
  | fz ds=>
   rw [hx] at ef key; cases ef
   refine .inl (key _ λv H' F' al r' da=>?_);cases da with
   | fz h q=>exact ⟨_,rfl,⟨_,h.sq⟩,k _ H' F' al r' (zh8 (λH2 kk=>(h.keep kk λ_ z=>z).sq) q)⟩
  | tup ds=>
   rw [hx] at ef key; cases ef
   refine .inr (.inl (key _ λv H' F' al r' da=>?_));cases da with
   | tup h q=>exact ⟨_,rfl,⟨_,h.sq⟩,k _ H' F' al r' (zh9 (λH2 kk=>.inl (.inl (kk _ _ h.1 h.2))) q)⟩
  | kt ds=>
   rw [hx] at ef key; cases ef
   refine .inr (.inl (key _ λv H' F' al r' da=>?_));cases da with
   | kt h q=>exact ⟨_,rfl,⟨_,h.sq⟩,k _ H' F' al r' (zh9 (λH2 kk=>h.sq) q)⟩
  | str z=>
   rw [hx] at ef key; cases ef
   refine .inr (.inr (key _ λv H' F' al r' da=>?_));cases da
   exact ⟨_,rfl,k _ H' F' al r' (znh z)⟩
  | _=>rw [hx] at ef; cases ef
theorem zxT (hr:FA B tr L mr):FI B (zw7 tr) (λS=>(mr S).bind λds=>if ds.length=1 then zqm ds else none):=by
 intro S σ H F os R its r e k;obtain ⟨ds,ed,ef⟩:=zbW e;refine hr S σ H F os _ ds r ed λvs H' F' a r' da=>?_;split at ef
 case isFalse=>cases ef
 case isTrue c=>
  match ds,c with
  | [d],_=>
   obtain ⟨v,rfl,d1⟩:=da.one;cases d with
   | int j=>
    cases d1
    unfold zqm at ef;dsimp only at ef;split at ef
    case isFalse=>cases ef
    case isTrue hj=>rw [zka] at hj; cases ef; exact ⟨j,rfl,hj.1,hj.2,k _ H' F' a r' (zni 0 _)⟩
   | _=>cases ef
theorem zxU (hr:FA B tr L mr):FI B (zw8 tr) (λS=>(mr S).bind λds=>if ds.length=2 then zqm ds else none):=by
 intro S σ H F os R its r e k;obtain ⟨ds,ed,ef⟩:=zbW e;refine hr S σ H F os _ ds r ed λvs H' F' a r' da=>?_;split at ef
 case isFalse=>cases ef
 case isTrue c=>
  match ds,c with
  | [d,e],_=>
   obtain ⟨v,w,rfl,d1,d2⟩:=da.two;cases d with
   | int i=>
    cases e with
    | int j=>
     cases d1; cases d2
     unfold zqm at ef;dsimp only at ef;split at ef
     case isFalse=>cases ef
     case isTrue hj=>rw [zka,zka] at hj; cases ef; exact ⟨i,j,rfl,⟨hj.1.1,hj.1.2,hj.2.1,hj.2.2⟩,k _ H' F' a r' (zni i _)⟩
    | _=>cases ef
   | _=>cases ef
end
def za9 (mg:D->FSt->Option FSt) (mb:FSt->Fl):List D->FSt->Fl
 | [],S=>.nx S
 | d :: r,S=>match mg d S with
  | none=>.bad
  | some S1=>match mb S1 with
   | .nx S2=>za9 mg mb r S2
   | .ct S2=>za9 mg mb r S2
   | .bk S2=>.nx S2
   | .rt x=>.rt x
   | .bad=>.bad
@[simp] def zlG (mi:FSt->Option (List D)) (mg:D->FSt->Option FSt) (mb:FSt->Fl):FSt->Fl:=λS=>match mi S with
 | some its=>za9 mg mb its S
 | none=>.bad
@[simp] def zAO (j:Nat) (S:FSt):FSt:=match S[j]? with
 | some (some (.lk xs))=>S.set j (some (.li xs))
 | _=>S
@[simp] def ziI (j:Nat) (mg:D->FSt->Option FSt) (mb:FSt->Fl):FSt->Fl:=λS=>match S[j]? with
 | some (some (.li xs))=>match za9 mg mb xs (S.set j (some (.lk xs))) with
  | .nx S'=>.nx (zAO j S')
  | r=>r
 | some (some (.sh d))=>match zh7 d with
  | some its=>za9 mg mb its S
  | none=>.bad
 | some (some (.ll xss))=>za9 mg mb (xss.map D.lst) (S.set j (some (.sh (.lst (xss.map D.lst)))))
 | _=>.bad
section
variable {B:Bk} {wi:TI} {mi:FSt->Option (List D)} {g:TG} {mg:D->FSt->Option FSt} {tb:TS} {mb:FSt->Fl}
theorem zsl {J:It} {its:List D} {E:Ends} (hg:FG B g mg) (hb:FS B tb mb) (Z:St->FSt->Hp->(Addr->Prop)->(Nat->List Addr)->Prop)
  (zs:∀ {σ S H F os σ' S' H' F' os'},Rep B H F σ S os->Rep B H' F' σ' S' os'->FStep σ S H F os σ' S' H' F' os'->Z σ S H F os->Z σ' S' H' F' os')
  (zi:∀ {σ S H F os} (i:Nat) (d:D),Rep B H F σ S os->Z σ S H F os->its[i]? = some d->J.go i H/\∀ x H3,J.yld i H x H3->∃ F3,Al H F H3 F3/\DA B H3 F3 x d)
  (ze:∀ {σ S H F os} (i:Nat),Rep B H F σ S os->Z σ S H F os->its.length<=i->J.stop i H)
  {S:FSt} {σ:St} {H:Hp} {F:Addr->Prop} {os:Nat->List Addr} (r:Rep B H F σ S os) (z:Z σ S H F os) (h:Lands B σ S H F os E (za9 mg mb its S)) :
  ∃ W:Nat->Nat->St->Hp->Prop,(∃ m,W 0 m σ H)/\∀ i m σ H,W i m σ H->
   (J.stop i H/\E.nx σ H)\/(J.go i H/\∃ N:St->Hp->Prop,(∀ σ' H',N σ' H'->∃ m',m' < m/\W (i+1) m' σ' H')/\∀ x H',J.yld i H x H'->g x σ H' λσ2 H2=>tb { E with nx:=N,ct:=N,bk:=E.nx } σ2 H2):=by
 refine ⟨λi m σ' H'=>i<=its.length/\m=its.length-i/\∃ S' F' os',Rep B H' F' σ' S' os'/\Z σ' S' H' F' os'/\Lands B σ' S' H' F' os' E (za9 mg mb (its.drop i) S'),
  ⟨_,Nat.zero_le _,rfl,S,F,os,r,z,by simpa using h⟩,?_⟩
 rintro i m σ1 H1 ⟨hi,hm,S1,F1,os1,r1,z1,h1⟩;cases q:its[i]? with
 | none=>
  have hle:its.length<=i:=List.getElem?_eq_none_iff.mp q;rw [List.drop_eq_nil_of_le hle] at h1;exact .inl ⟨ze i r1 z1 hle,h1 σ1 H1 F1 os1 FStep.refl r1⟩
 | some d=>
  have hlt:i < its.length:=(List.getElem?_eq_some_iff.mp q).1;have hd:its.drop i=d :: its.drop (i+1):=by
   rw [List.drop_eq_getElem_cons hlt];have:its[i]=d:=(List.getElem?_eq_some_iff.mp q).2;rw [this]
  rw [hd,za9] at h1;obtain ⟨go,yl⟩:=zi i d r1 z1 q;refine .inr ⟨go,λσ' H'=>i+1<=its.length/\∃ S' F' os',Rep B H' F' σ' S' os'/\Z σ' S' H' F' os'/\Lands B σ' S' H' F' os' E (za9 mg mb (its.drop (i+1)) S'),
   λσ' H' n=>⟨its.length-(i+1),by omega,n.1,rfl,n.2⟩,λx H2 y=>?_⟩
  obtain ⟨F2,al,da⟩:=yl x H2 y;have r2:=r1.mono al;cases e1:mg d S1 with
  | none=>rw [e1] at h1; exact h1.elim
  | some S2=>
   rw [e1] at h1;dsimp only at h1;refine hg S1 σ1 H2 F2 os1 x d S2 _ r2 da e1 λσ2 os2 st2 r3=>?_;have stA:FStep σ1 S1 H1 F1 os1 σ2 S2 H2 F2 os2:=al.step.trans st2;refine hb S2 σ2 H2 F2 os2 _ r3 ?_;cases e2:mb S2 with
   | nx S3=>
    rw [e2] at h1;intro σ' H' F' os' st r';exact ⟨hlt,S3,F',os',r',zs r1 r' (stA.trans st) z1,h1.later (stA.trans st)⟩
   | ct S3=>
    rw [e2] at h1;intro σ' H' F' os' st r';exact ⟨hlt,S3,F',os',r',zs r1 r' (stA.trans st) z1,h1.later (stA.trans st)⟩
   | bk S3=>
    rw [e2] at h1;intro σ' H' F' os' st r';exact h1 σ' H' F' os' (stA.trans st) r'
   | rt x=>
    rw [e2] at h1;exact h1.later stA
   | bad=>rw [e2] at h1; exact h1.elim
theorem zsm (hi:FI B wi mi) (hg:FG B g mg) (hb:FS B tb mb):FS B (zzq wi g tb) (zlG mi mg mb):=by
 intro S σ H F os E r h;unfold zlG at h;cases q:mi S with
 | none=>rw [q] at h; exact h.elim
 | some its=>
  rw [q] at h;refine hi S σ H F os _ its r q λJ H1 F1 al r1 wk=>?_;refine zsl (J:=J) (its:=its) hg hb (λ_ _ H' F' _=>(∀ b o,F1 b->H1 b=some o->H' b=some o)/\∀ b,F1 b->F' b) ?_ ?_ ?_ r1 ⟨λ_ _ _ e=>e,λ_ h=>h⟩ (h.later al.step)
  ·intro σ S H F os σ' S' H' F' os' r r' st z;exact ⟨λb o f e=>st.keep b o (z.1 b o f e) λi e=>(r.alive e).2 (z.2 b f),λb f=>st.up b (z.2 b f)⟩
  ·intro σ S H F os i d r z e;exact (wk H F z.1 z.2).1 i d e
  ·intro σ S H F os i r z e;exact (wk H F z.1 z.2).2 i e
theorem zxV {j:Nat} {K:W.Frag} (hK:B.K=K) (hg:FG B g mg) (hb:FS B tb mb):FS B (zzq (zuM K (zp5 j)) g tb) (ziI j mg mb):=by
 subst hK;intro S σ H F os E r h;unfold ziI at h;split at h
 ·rename_i xs e
  obtain ⟨v,hv,a,vs,rfl,eo,nf,hh,das⟩:=r.at' j _ e;have hj:j < S.length:=(List.getElem?_eq_some_iff.mp e).1;refine .inl ⟨.ref a,hv,a,rfl,⟨vs,.inl (.inl hh)⟩,?_⟩;have r0:Rep B H F σ (S.set j (some (.lk xs))) os:=by
   have hu:upd H a (.lst vs)=H:=by
    funext b; unfold upd;split
    ·rename_i q; rw [q,hh]
    ·rfl
   have:=r.write (u:=.lst vs) (x:=.lk xs) (by rw [eo]; simp) hv ⟨a,vs,rfl,eo,nf,zaS,by rw [hu]; exact das⟩;rw [hu] at this;exact this
  have sj:(S.set j (some (SV.lk xs)))[j]? = some (some (.lk xs)):=by simp [List.getElem?_set,hj]
  let E':Ends:={ E with nx:=E.nx }
  have key:∀ {σ':St} {S':FSt} {H':Hp} {F':Addr->Prop} {os':Nat->List Addr},FStep σ (S.set j (some (.lk xs))) H F os σ' S' H' F' os'->Rep B H' F' σ' S' os'->FStep σ S H F os σ' (zAO j S') H' F' os'/\Rep B H' F' σ' (zAO j S') os':=by
   intro σ' S' H' F' os' st r';obtain ⟨k1,k2⟩:=st.lok j xs sj;have hu:zAO j S'=S'.set j (some (.li xs)):=by unfold zAO; rw [k1]
   have hj':j < S'.length:=(List.getElem?_eq_some_iff.mp k1).1;rw [hu];refine ⟨⟨st.keep,st.liv,st.up,st.new,st.own,λi ys q=>?_,λi c fs q=>?_,λi ys q=>?_⟩,?_⟩
   ·have hij:i≠j:=by rintro rfl; rw [e] at q; cases q
    obtain ⟨q1,q2⟩:=st.lok i ys (by rw [List.getElem?_set_ne (Ne.symm hij)]; exact q);exact ⟨by rw [List.getElem?_set_ne (Ne.symm hij)]; exact q1,q2⟩
   ·have hij:i≠j:=by rintro rfl; rw [e] at q; cases q
    obtain ⟨⟨fs',q1⟩,q2⟩:=st.lob i c fs (by rw [List.getElem?_set_ne (Ne.symm hij)]; exact q);exact ⟨⟨fs',by rw [List.getElem?_set_ne (Ne.symm hij)]; exact q1⟩,q2⟩
   ·have hij:i≠j:=by rintro rfl; rw [e] at q; cases q
    obtain ⟨⟨fs',q1⟩,q2⟩:=st.lpu i ys (by rw [List.getElem?_set_ne (Ne.symm hij)]; exact q);exact ⟨⟨fs',by rw [List.getElem?_set_ne (Ne.symm hij)]; exact q1⟩,q2⟩
   ·refine ⟨λi x q=>?_,λi q=>?_,r'.inj,r'.fd,by simp [r'.len]⟩
    ·by_cases hij:i=j
     ·subst hij;simp only [List.getElem?_set,if_pos rfl,hj',if_true] at q;cases q
      obtain ⟨w,w1,w2⟩:=r'.at' i _ k1;exact ⟨w,w1,w2⟩
     ·exact r'.at' i x (by rw [List.getElem?_set_ne (Ne.symm hij)] at q; exact q)
    ·by_cases hij:i=j
     ·subst hij;exact absurd (by simp [List.getElem?_set,hj']) (q (.li xs))
     ·exact r'.out i λy z=>q y (by rw [List.getElem?_set_ne (Ne.symm hij)]; exact z)
  have h0:Lands B σ (S.set j (some (.lk xs))) H F os E (za9 mg mb xs (S.set j (some (.lk xs)))):=by
   cases q:za9 mg mb xs (S.set j (some (.lk xs))) with
   | nx S'=>
    rw [q] at h;intro σ' H' F' os' st r';exact h σ' H' F' os' (key st r').1 (key st r').2
   | rt x=>rw [q] at h; exact h
   | bad=>rw [q] at h; exact h
   | bk S'=>
    exact absurd q (by
     have:∀ (l:List D) (S:FSt) S',za9 mg mb l S≠.bk S':=by
      intro l
      induction l with
      | nil=>intro S S' z; cases z
      | cons d l ih=>
       intro S S' z;rw [za9] at z;split at z
       ·cases z
       ·split at z
        ·exact ih _ _ z
        ·exact ih _ _ z
        ·cases z
        ·cases z
        ·cases z
     exact this _ _ _)
   | ct S'=>
    exact absurd q (by
     have:∀ (l:List D) (S:FSt) S',za9 mg mb l S≠.ct S':=by
      intro l
      induction l with
      | nil=>intro S S' z; cases z
      | cons d l ih=>
       intro S S' z;rw [za9] at z;split at z
       ·cases z
       ·split at z
        ·exact ih _ _ z
        ·exact ih _ _ z
        ·cases z
        ·cases z
        ·cases z
     exact this _ _ _)
  refine zsl (J:=Itl B.K a) (its:=xs) hg hb (λσ' S' _ _ _=>S'[j]? = some (some (.lk xs))/\σ'[j]? = some (some (.ref a))) ?_ ?_ ?_ r0 ⟨sj,hv⟩ h0
  ·intro σ S H F os σ' S' H' F' os' r r' st z;obtain ⟨k1,k2⟩:=st.lok j xs z.1;exact ⟨k1,k2.trans z.2⟩
  ·intro σ S H F os i d r z e;obtain ⟨v,hv,a',vs,e1,eo,nf,hh,das⟩:=r.at' j _ z.1;rw [z.2] at hv; cases hv; cases e1
   obtain ⟨v,e1,d1⟩:=das.get e;refine ⟨⟨vs,v,.inl (.inl hh),e1⟩,λx H3 y=>?_⟩;obtain ⟨rfl,y⟩:=y;have:=y vs (.inl (.inl hh));rw [e1] at this; cases this
   exact ⟨F,Al.refl,d1⟩
  ·intro σ S H F os i r z e;obtain ⟨v,hv,a',vs,e1,eo,nf,hh,das⟩:=r.at' j _ z.1;rw [z.2] at hv; cases hv; cases e1
   exact ⟨vs,.inl (.inl hh),by rw [das.length]; exact e⟩
 ·rename_i d e
  have hw:=zsm (B:=B) (zsk rfl (zsd j).fe) hg hb S σ H F os E r;refine hw ?_;unfold zlG;have:mIt [j] (mSh (mV j)) S=zh7 d:=by
   have hs:mSh (mV j) S=some (.sh d):=by simp [mSh,mV,e,SV.fr]
   simp [mIt,hs,zui,e,SV.fr]
  rw [this];cases q:zh7 d with
  | none=>rw [q] at h; exact h.elim
  | some its=>rw [q] at h; exact h
 ·rename_i xss e
  have nl:[j].any (zeg S)=false:=by simp only [List.any_cons,List.any_nil,Bool.or_false,zeg,e]; rfl
  have hf:frzs [j] S=S.set j (some (.sh (.lst (xss.map D.lst)))):=by simp [frzs,zzs,e,SV.fr]
  have hw:=zsm (B:=B) (zsk rfl (zsd j).fe) hg hb (frzs [j] S) σ H _ _ E (r.frz [j]);refine hw ?_;have hj:j < S.length:=(List.getElem?_eq_some_iff.mp e).1;have e2:(S.set j (some (SV.sh (.lst (xss.map D.lst)))))[j]? = some (some (.sh (.lst (xss.map D.lst)))):=by simp [List.getElem?_set,hj]
  unfold zlG;have:mIt [j] (mSh (mV j)) (frzs [j] S)=some (xss.map D.lst):=by
   rw [hf];have hs:mSh (mV j) (S.set j (some (SV.sh (.lst (xss.map D.lst)))))=some (.sh (.lst (xss.map D.lst))):=by simp only [mSh,mV,e2]; rfl
   simp only [mIt,hs,Option.bind_some,zui,e2,List.all_cons,List.all_nil,Bool.and_true,or_true,if_true];rfl
  rw [this,hf];rw [<- hf];have h':=h.later (zh6 r nl);rw [hf] at h' ⊢;exact h'
 ·exact h.elim
end
def zcE (mc:FSt->Option Bool) (mb:FSt->Fl):Nat->FSt->Fl
 | 0,_=>.bad
 | n+1,S=>match mc S with
  | none=>.bad
  | some false=>.nx S
  | some true=>match mb S with
   | .nx S1=>zcE mc mb n S1
   | .ct S1=>zcE mc mb n S1
   | .bk S1=>.nx S1
   | .rt x=>.rt x
   | .bad=>.bad
open Classical in
noncomputable def zjx (mc:FSt->Option Bool) (mb:FSt->Fl):FSt->Fl:=λS=>if h:∃ n,zcE mc mb n S≠.bad then zcE mc mb (choose h) S else .bad
theorem zfB {mc:FSt->Option Bool} {mb:FSt->Fl}:∀ (n k:Nat) (S:FSt),zcE mc mb n S≠.bad->zcE mc mb (n+k) S=zcE mc mb n S
 | 0,_,_,h=>absurd rfl h
 | n+1,k,S,h=>by
  rw [show n+1+k=(n+k)+1 by omega,zcE,zcE];rw [zcE] at h;cases q:mc S with
  | none=>rfl
  | some c=>cases c with
   | false=>rfl
   | true=>
    rw [q] at h;dsimp only at h ⊢;cases q2:mb S with
    | nx S1=>rw [q2] at h; exact zfB n k S1 h
    | ct S1=>rw [q2] at h; exact zfB n k S1 h
    | bk S1=>rfl
    | rt x=>rfl
    | bad=>rfl
theorem zsn {mc:FSt->Option Bool} {mb:FSt->Fl} {n:Nat} {S:FSt} (h:zcE mc mb n S≠.bad):zjx mc mb S=zcE mc mb n S:=by
 unfold zjx;have hx:∃ n,zcE mc mb n S≠.bad:=⟨n,h⟩
 rw [dif_pos hx];have h1:=Classical.choose_spec hx;have e1:=zfB _ n S h1;have e2:=zfB _ (Classical.choose hx) S h;rw [Nat.add_comm] at e2;exact e1.symm.trans e2
theorem zuY {B:Bk} {tt:TT} {mc:FSt->Option Bool} {tb:TS} {mb:FSt->Fl} (hc:FT B tt mc) (hb:FS B tb mb):FS B (zv0 tt tb) (zjx mc mb):=by
 intro S σ H F os E r h;unfold zjx at h;split at h
 case isFalse=>exact h.elim
 case isTrue hx=>
  generalize Classical.choose hx=n at h;refine ⟨λm σ' H'=>∃ S' F' os',Rep B H' F' σ' S' os'/\Lands B σ' S' H' F' os' E (zcE mc mb m S'),⟨n,S,F,os,r,h⟩,?_⟩;rintro m σ1 H1 ⟨S1,F1,os1,r1,h1⟩;cases m with
  | zero=>exact h1.elim
  | succ m=>
   rw [zcE] at h1;cases q:mc S1 with
   | none=>rw [q] at h1; exact h1.elim
   | some c=>
    rw [q] at h1;refine hc S1 σ1 H1 F1 os1 _ c r1 q λH2 F2 al r2=>?_;cases c with
    | false=>rw [if_neg Bool.false_ne_true]; exact h1 σ1 H2 F2 os1 al.step r2
    | true=>
     rw [if_pos rfl];dsimp only at h1;refine ⟨λσ' H'=>∃ S' F' os',Rep B H' F' σ' S' os'/\Lands B σ' S' H' F' os' E (zcE mc mb m S'),λσ' H' n=>⟨m,Nat.lt_succ_self m,n⟩,?_⟩;refine hb S1 σ1 H2 F2 os1 _ r2 ?_;cases e2:mb S1 with
     | nx S3=>
      rw [e2] at h1;intro σ' H' F' os' st r';exact ⟨S3,F',os',r',h1.later (al.step.trans st)⟩
     | ct S3=>
      rw [e2] at h1;intro σ' H' F' os' st r';exact ⟨S3,F',os',r',h1.later (al.step.trans st)⟩
     | bk S3=>
      rw [e2] at h1;intro σ' H' F' os' st r';exact h1 σ' H' F' os' (al.step.trans st) r'
     | rt x=>rw [e2] at h1; exact h1.later al.step
     | bad=>rw [e2] at h1; exact h1.elim
def zcA (m:FSt->Fl) (n k:Nat) (ds:List D):Option SV:=if ds.length=n then (match m (ds.map (λd=>some (.sh d))++List.replicate (k-n) none) with
 | .nx _=>some (.sh .non)
 | .rt x=>some x
 | _=>none) else none
theorem zuZ {m:FSt->Fl} {n k:Nat} {ds:List D} {z:SV} (h:zcA m n k ds=some z):ds.length=n:=by
 unfold zcA at h;split at h
 ·assumption
 ·cases h
theorem znj {B:Bk} {H:Hp} {G:Addr->Prop} {N:List Str} {vs:List V} {ds:List D} (hg:∀ b,G b->H b≠none) (da:DAs B H G vs ds) (hn:vs.length<=N.length) :
  Rep B H G (zh1 N vs) (ds.map (λd=>some (.sh d))++List.replicate (N.length-ds.length) none) (λ_=>[]):=by
 refine ⟨λi x h=>?_,λi _=>rfl,λi j a e=>absurd e (by simp),hg,?_⟩
 ·by_cases hi:i < ds.length
  ·rw [List.getElem?_append_left (by simpa using hi),List.getElem?_map] at h;cases q:ds[i]? with
   | none=>rw [q] at h; cases h
   | some d=>
    rw [q] at h; cases h
    obtain ⟨v,e,da'⟩:=da.get q;refine ⟨v,?_,rfl,da'⟩;unfold zh1;rw [List.getElem?_append_left (by simp; rw [da.length]; exact hi),List.getElem?_map,e]; rfl
  ·rw [List.getElem?_append_right (by simpa using hi)] at h;rw [List.getElem?_replicate] at h;split at h <;> cases h
 ·unfold zh1;have:=da.length;simp;omega
theorem zE6 {CX : CXT} {P : Program} {w : World} {K : W.Frag} {mg : Str -> Option Value} {base : Heap} {k : Nat} {f : Addr} {name qual : Str} {params : Arguments} {body : List Stmt} {scope : Scope} {dV kV doc pm cdv ct oc : Value} {an od : Option Addr}
    {osl : Array (Option Value)} {N ps : List Str} {B : Bk} {m : FSt -> Fl} (lk : K.lookup f = some ⟨oc, od, .func (W.fnOf name qual params body scope dV kV doc pm an cdv ct), osl⟩) (hcd : W.codeIn K cdv qual = true) (S : FnScope N ps scope)
    (hbody : ∀ (A : Around) (outer : List Env) (s : Shared) (H : Hp) (E : XK), Room k (A.deeper (envOfC qual scope s.heap.objs.size f cdv)) ->
      ∃ t, PSs (zoc CX P w K mg base N qual scope f cdv A outer s H E) body t /\ FS B t m) :
    FnOk P w K mg base CX (k + 1) f (W.fnOf name qual params body scope dV kV doc pm an cdv ct) ps (SpF B ps.length (zcA m ps.length N.length)) := by
  have hpl : ps.length <= N.length := by have := congrArg List.length S.pre; rw [List.length_take] at this; omega
  refine zxg lk hcd S (λvs H Q E h => h.1) λA outer s H vs Q E hr ⟨hl, G, ds, z, hg, da, hz, post⟩ => ?_;obtain ⟨t, ht, hf⟩ := hbody A outer s H E hr;refine ⟨t, ht, hf _ _ H G (λ_ => []) _ (znj hg da (by omega)) ?_⟩;have hdl : ds.length = ps.length := by rw [<- da.length]; exact hl
  unfold zcA at hz;rw [if_pos hdl] at hz;rw [hdl];have done : ∀ {H' : Hp} {F' : Addr -> Prop} {o : List Addr} {v : V} {x : SV}, FStepR H G (λ_ => []) H' F' o -> VA B H' F' v x o -> z = x -> Q v H' := by
    intro H' F' o v x st va e;subst e;refine post v H' F' o ⟨λb u h => st.keep b u h (λi e => absurd e (by simp)), st.up, λb h => ?_⟩ va λb h => ?_
    · rcases st.new b h with q | q | ⟨i, q⟩ | q
      · exact .inl q
      · exact .inr (.inl ⟨q, st.fd b h⟩)
      · simp at q
      · exact .inr (.inr q)
    · rcases st.own b h with q | ⟨i, q⟩
      · exact q
      · simp at q
  cases q : m (ds.map (λd => some (.sh d)) ++ List.replicate (N.length - ps.length) none) with
  | nx S' =>
    rw [q] at hz;intro σ' H' F' os' st r';exact done (v := .non) (x := .sh .non) ⟨st.keep, st.up, st.new, λb e => absurd e (by simp), r'.fd⟩ ⟨rfl, .non⟩ (Option.some.inj hz).symm
  | rt x =>
    rw [q] at hz;intro v H' F' o st va;exact done st va (Option.some.inj hz).symm
  | bk S' => rw [q] at hz; cases hz
  | ct S' => rw [q] at hz; cases hz
  | bad => rw [q] at hz; cases hz
def ze8 (mg:D->FSt->Option FSt) (mt:FSt->Option Bool) (me:FSt->Option D):List D->FSt->Option (List D)
 | [],_=>some []
 | d :: r,S=>(mg d S).bind λS1=>(mt S1).bind λc=>if c=true then (me S1).bind λx=>(ze8 mg mt me r S1).map λxs=>x :: xs else ze8 mg mt me r S1
@[simp] def zqn (own:Nat) (fi:List Nat) (S:FSt):FSt:=List.replicate own none++fi.map λj=>(S[j]?.join).map λx=>SV.sh x.fr
@[simp] def zdC (own:Nat) (fi:List Nat) (mi:FSt->Option (List D)) (mg:D->FSt->Option FSt) (mt:FSt->Option Bool) (me:FSt->Option D):FSt->Option SV:=λS=>
 (mi S).bind λits=>if its.length<=sizeLine then (ze8 mg mt me its (zqn own fi S)).map SV.li else none
@[simp] def zfC:FSt->Option Bool:=λ_=>some true
section
variable {B:Bk} {wi:TI} {mi:FSt->Option (List D)} {g:TG} {mg:D->FSt->Option FSt} {tt:TT} {mt:FSt->Option Bool} {te:TE} {me:FSt->Option D} {own:Nat} {fi L:List Nat}
theorem zxW:FT B zAo zfC:=λS σ H F os Q c r e k=>by cases e; exact k H F Al.refl r
def FIc (B:Bk) (wi:TI) (L:List Nat) (m:FSt->Option (List D)):Prop:=
 ∀ (S:FSt) (σ:St) (H:Hp) (F:Addr->Prop) (os:Nat->List Addr) (R:It->Hp->Prop) (its:List D),Rep B H F σ S os->m S=some its->
  (∀ J H' F',Al H F H' F'->Rep B H' F' σ S os->Walks B J H' (orF F' (osL os L)) its->R J H')->wi σ H R
theorem FI.c (h:FI B wi mi):FIc B wi [] mi:=λS σ H F os R its r e k=>h S σ H F os R its r e λJ H' F' a r' w=>k J H' F' a r' λH2 F2 k2 up=>w H2 F2 (λb o f e=>k2 b o (.inl f) e) λb f=>up b (.inl f)
@[simp] def zkb (m:FSt->Option D):FSt->Option (List D):=λS=>(m S).bind zh7
theorem zso {K:W.Frag} (hK:B.K=K) (he:FD B te L me):FIc B (zuM K te) L (zkb me):=by
 subst hK;intro S σ H F os R its r e k;obtain ⟨d,ed,ef⟩:=zbW e;cases d with
 | lst ds=>
  cases ef
  refine .inl (he S σ H F os _ _ r ed λv H' F' al r' da=>?_);cases da with
  | lst h q=>exact ⟨_,rfl,⟨_,h.sq⟩,k _ H' F' al r' (zh8 (λH2 kk=>.inl (.inl (kk _ _ h.1 h.2))) q)⟩
 | fz ds=>
  cases ef
  refine .inl (he S σ H F os _ _ r ed λv H' F' al r' da=>?_);cases da with
  | fz h q=>exact ⟨_,rfl,⟨_,h.sq⟩,k _ H' F' al r' (zh8 (λH2 kk=>(h.keep kk λ_ z=>z).sq) q)⟩
 | tup ds=>
  cases ef
  refine .inr (.inl (he S σ H F os _ _ r ed λv H' F' al r' da=>?_));cases da with
  | tup h q=>exact ⟨_,rfl,⟨_,h.sq⟩,k _ H' F' al r' (zh9 (λH2 kk=>.inl (.inl (kk _ _ h.1 h.2))) q)⟩
 | kt ds=>
  cases ef
  refine .inr (.inl (he S σ H F os _ _ r ed λv H' F' al r' da=>?_));cases da with
  | kt h q=>exact ⟨_,rfl,⟨_,h.sq⟩,k _ H' F' al r' (zh9 (λH2 kk=>h.sq) q)⟩
 | str z=>
  cases ef
  refine .inr (.inr (he S σ H F os _ _ r ed λv H' F' al r' da=>?_));cases da
  exact ⟨_,rfl,k _ H' F' al r' (znh z)⟩
 | _=>cases ef
theorem zqo {H:Hp} {F:Addr->Prop} {σ:St} {S:FSt} {os:Nat->List Addr} (r:Rep B H F σ S os) (own:Nat) (fi Li:List Nat):Rep B H (orF F (osL os (fi++Li))) (zh2 own fi σ) (zqn own fi S) (λ_=>[]):=by
 refine ⟨λi x h=>?_,λi _=>rfl,λi j a e=>absurd e (by simp),r.gd (fi++Li),by simp [zh2,zqn]⟩;unfold zqn at h
 by_cases hi:i < own
 ·rw [List.getElem?_append_left (by simpa using hi),List.getElem?_replicate,if_pos hi] at h;cases h
 ·rw [List.getElem?_append_right (by simpa using hi),List.length_replicate,List.getElem?_map] at h;unfold zh2;rw [List.getElem?_append_right (by simpa using hi),List.length_replicate,List.getElem?_map];cases q:fi[i-own]? with
  | none=>rw [q] at h; cases h
  | some j=>
   rw [q] at h;simp only [Option.map_some,Option.some.injEq] at h;cases e:S[j]? with
   | none=>rw [e] at h; cases h
   | some z=>cases z with
    | none=>rw [e] at h; cases h
    | some y=>
     rw [e] at h; cases h
     obtain ⟨v,h1,h2⟩:=r.at' j y e;refine ⟨v,by simp [h1],rfl,h2.frozen (λb z=>.inl z) λb z=>.inr ⟨j,List.mem_append_left _ (List.mem_of_getElem? q),z⟩⟩
theorem zoq {Li:List Nat} (hi:FIc B wi Li mi) (hg:FG B g mg) (ht:FT B tt mt) (he:FD B te L me):FE B (zuI wi g tt te own fi) (fi++Li) (zdC own fi mi mg mt me):=by
 intro S σ H F os Q x r e k;obtain ⟨its,ei,ef⟩:=zbW e;split at ef
 case isFalse=>cases ef
 case isTrue hz=>
 cases ec:ze8 mg mt me its (zqn own fi S) with
 | none=>rw [ec] at ef; cases ef
 | some ds=>
 rw [ec] at ef; cases ef
 refine hi S σ H F os _ its r ei λJ H1 F1 al r1 wk l hl=>?_;have rc:=zqo r1 own fi Li;have al0:Al H1 (orF F1 (osL os (fi++Li))) (upd H1 l (.lst [])) (orF F1 (osL os (fi++Li))):=zh3 hl;have rc0:=rc.mono al0;have nl0:¬ orF F1 (osL os (fi++Li)) l:=λz=>r1.gd (fi++Li) l z hl;refine ⟨λi m σ' H'=>i<=its.length/\m=its.length-i/\∃ S' G xs acc zcc,Rep B H' G σ' S' (λ_=>[])/\Al H1 (orF F1 (osL os (fi++Li))) H' G/\H' l=some (.lst xs)/\¬ G l/\DAs B H' G xs acc/\acc.length<=i/\
   ze8 mg mt me (its.drop i) S'=some zcc/\acc++zcc=ds,
  ⟨_,Nat.zero_le _,rfl,_,_,[],[],ds,rc0,al0,zaS,nl0,.nil,Nat.zero_le _,by simpa using ec,rfl⟩,?_⟩
 rintro i m σ' H' ⟨hi,hm,S',G,xs,acc,zcc,r',a',hl',nl',da',la,ec',ea⟩;have w2:=wk H' G (λb o f e=>a'.same b o e) (λb f=>a'.up b (zdB (λ_ z=>z) (λi h=>List.mem_append_right _ h) b f));cases q:its[i]? with
 | none=>
  have hle:its.length<=i:=List.getElem?_eq_none_iff.mp q;rw [List.drop_eq_nil_of_le hle] at ec';cases ec'
  rw [List.append_nil] at ea;subst ea;refine .inl ⟨w2.2 i hle,?_⟩;have a1:Al H1 (orF F1 (osL os (fi++Li))) H' G:=a';have va:VA B H' G (.ref l) (.li acc) [l]:=⟨l,xs,rfl,rfl,nl',hl',da'⟩
  have fr1:∀ b,b∈[l]->H1 b=none:=λb hb=>by rw [List.mem_singleton.mp hb]; exact hl
  obtain ⟨F2,al2,r2,va2⟩:=zeU r1 a1 va fr1;refine k (.ref l) H' F2 [l] (al.trans al2) r2 va2 λb hb=>?_;cases qq:H b with
  | none=>rfl
  | some w=>have:=fr1 b hb; rw [al.same b w qq] at this; cases this
 | some d=>
  have hlt:i < its.length:=(List.getElem?_eq_some_iff.mp q).1;have hd:its.drop i=d :: its.drop (i+1):=by
   rw [List.drop_eq_getElem_cons hlt];have:its[i]=d:=(List.getElem?_eq_some_iff.mp q).2;rw [this]
  rw [hd,ze8] at ec';obtain ⟨go,yl⟩:=w2.1 i d q;refine .inr ⟨go,λσ'' H''=>i+1<=its.length/\∃ S' G xs acc zcc,Rep B H'' G σ'' S' (λ_=>[])/\Al H1 (orF F1 (osL os (fi++Li))) H'' G/\H'' l=some (.lst xs)/\¬ G l/\DAs B H'' G xs acc/\acc.length<=i+1/\
   ze8 mg mt me (its.drop (i+1)) S'=some zcc/\acc++zcc=ds,λσ'' H'' n=>⟨its.length-(i+1),by omega,n.1,rfl,n.2⟩,λx H2 y=>?_⟩
  obtain ⟨G2,al2,da2⟩:=yl x H2 y;have r2:=r'.mono al2;obtain ⟨S1,e1,ec'⟩:=zbW ec';obtain ⟨c,e2,ec'⟩:=zbW ec';refine hg S' σ' H2 G2 _ x d S1 _ r2 da2 e1 λσ2 os2 st2 r3=>?_;have nos:∀ j,os2 j=[]:=λj=>by
   cases qq:os2 j with
   | nil=>rfl
   | cons b _=>
    rcases st2.own j b (by rw [qq]; simp) with z | ⟨_,z⟩
    ·exact absurd z (r3.alive (i:=j) (a:=b) (by rw [qq]; simp)).1
    ·simp at z
  have eos:os2=λ_=>[]:=funext nos;subst eos;refine ht S1 σ2 H2 G2 _ _ c r3 e2 λH3 G3 al3 r4=>?_;have hl3:H3 l=some (.lst xs):=al3.same l _ (al2.same l _ hl');have nl3:¬ G3 l:=λz=>by
   rcases al3.new l z with z | z | ⟨ys,z⟩
   ·rcases al2.new l z with z | z | ⟨ys,z⟩
    ·exact nl' z
    ·rw [hl'] at z; cases z.1
    ·rw [hl'] at z; cases z
   ·rw [al2.same l _ hl'] at z; cases z.1
   ·rw [al2.same l _ hl'] at z; cases z
  have da3:DAs B H3 G3 xs acc:=da'.mono (λb o f e=>al3.same b o (al2.same b o e)) λb f=>al3.up b (al2.up b f);cases c with
  | false=>
   rw [if_neg Bool.false_ne_true] at ec' ⊢;exact ⟨hlt,S1,G3,xs,acc,zcc,r4,(a'.trans al2).trans al3,hl3,nl3,da3,by omega,ec',ea⟩
  | true=>
   rw [if_pos rfl] at ec' ⊢;obtain ⟨w,ew,ec'⟩:=zbW ec';cases er:ze8 mg mt me (its.drop (i+1)) S1 with
   | none=>rw [er] at ec'; cases ec'
   | some rest'=>
    rw [er] at ec'; cases ec'
    refine he S1 σ2 H3 G3 _ _ w r4 ew λy H4 G4 al4 r5 dy=>?_;have hl4:H4 l=some (.lst xs):=al4.same l _ hl3;have nl4:¬ G4 l:=λz=>by
     rcases al4.new l z with z | z | ⟨ys,z⟩
     ·exact nl3 z
     ·rw [hl3] at z; cases z.1
     ·rw [hl3] at z; cases z
    have da4:DAs B H4 G4 xs acc:=da3.mono (λb o f e=>al4.same b o e) al4.up;have dy':DA B H4 G4 y w:=dy.mono (λ_ _ _ e=>e) λb z=>by
     rcases z with z | ⟨_,_,z⟩
     ·exact z
     ·simp at z
    refine ⟨xs,hl4,by rw [da4.length]; omega,hlt,S1,G4,xs++[y],acc++[w],rest',?_,?_,zaS,nl4,?_,?_,er,by simpa using ea⟩
    ·refine ⟨λj x h=>?_,r5.out,r5.inj,λb f=>?_,r5.len⟩
     ·obtain ⟨v,h1,h2⟩:=r5.at' j x h;exact ⟨v,h1,h2.mono (λb u f e=>by rw [zaW]; exact e; rintro rfl; exact nl4 f) (λb u hb=>absurd hb (by simp)) (λ_ f=>f) λb hb=>absurd hb (by simp)⟩
     ·unfold upd;split
      ·simp
      ·exact r5.fd b f
    ·have a4:=((a'.trans al2).trans al3).trans al4;refine ⟨λb o e=>?_,a4.up,λb z=>?_⟩
     ·rw [zaW (zcq e hl)]; exact a4.same b o e
     ·rcases a4.new b z with z | z | z
      ·exact .inl z
      ·refine .inr (.inl ⟨z.1,?_⟩);unfold upd;split
       ·simp
       ·exact z.2
      ·exact .inr (.inr z)
    ·exact (da4.append (.cons dy' .nil)).mono (λb u f e=>by rw [zaW]; exact e; rintro rfl; exact nl4 f) λ_ f=>f
    ·simp; omega
end
@[simp] def fI {α:Type} (f:Int->Int->Option α):D->D->Option α
 | .int i,.int j=>f i j
 | _,_=>none
@[simp] def fI1 {α:Type} (f:Int->Option α):D->Option α
 | .int i=>f i
 | _=>none
section
variable {B:Bk}
theorem zor {α:Type} {f:Int->Int->Option α} {a b:D} {z:α} (h:fI f a b=some z):∃ i j,a=.int i/\b=.int j/\f i j=some z:=by
 unfold fI at h;split at h
 ·exact ⟨_,_,rfl,rfl,h⟩
 ·cases h
theorem zku {g:Int->Int->V} {gd:Int->Int->D} (h:∀ i j,Sc (g i j) (gd i j)):OpD B (rI0 g) (fI λi j=>some (gd i j)):=by
 intro H G x y dx dy z Q hx hy e k;obtain ⟨i,j,rfl,rfl,e⟩:=zor e;cases e; cases hx; cases hy
 exact ⟨i,j,rfl,rfl,k _ H G Al.refl (h i j).da⟩
theorem zCW {C:Int->Int->Prop} [∀ i j,Decidable (C i j)] {g:Int->Int->V} {gd:Int->Int->D} (h:∀ i j,Sc (g i j) (gd i j)):OpD B (rI C g) (fI λi j=>if C i j then some (gd i j) else none):=by
 intro H G x y dx dy z Q hx hy e k;obtain ⟨i,j,rfl,rfl,e'⟩:=zor e;clear e;split at e'
 ·cases e'; cases hx; cases hy
  exact ⟨i,j,rfl,rfl,by assumption,k _ H G Al.refl (h i j).da⟩
 ·cases e'
theorem zCX {g:Int->V} {gd:Int->D} (h:∀ i,Sc (g i) (gd i)):UnD B (rU g) (fI1 λi=>some (gd i)):=by
 intro H G x dx z Q hx e k;unfold fI1 at e;split at e
 ·cases e; cases hx; exact ⟨_,rfl,k _ H G Al.refl (h _).da⟩
 ·cases e
end
theorem zsp:∃ f:Int->Int->Bool,∀ i j,f i j=true↔CMul i j:=⟨λi j=>(decide (-(2 ^ 64) < i)&&decide (i < 2 ^ 64))||(decide (-(2 ^ 64) < j)&&decide (j < 2 ^ 64)),λi j=>by simp only [CMul,Bool.or_eq_true,Bool.and_eq_true,decide_eq_true_eq]⟩
theorem zsq:∃ f:Int->Int->Bool,∀ i j,f i j=true↔zw9 i j:=⟨λi j=>decide (0<=j)&&decide (j<=1000000)&&decide (i.natAbs < 2 ^ 64),λi j=>by simp only [zw9,Bool.and_eq_true,decide_eq_true_eq,and_assoc]⟩
theorem zsr:∃ f:Int->Bool,∀ j,f j=true↔0 < j/\j < 2 ^ 200:=⟨λj=>decide (0 < j/\j < 2 ^ 200),λ_=>decide_eq_true_iff⟩
noncomputable def zmt:Int->Int->Bool:=Classical.choose zsp
noncomputable def zos:Int->Int->Bool:=Classical.choose zsq
noncomputable def zss:Int->Bool:=Classical.choose zsr
theorem zkc {i j:Int}:zmt i j=true↔CMul i j:=Classical.choose_spec zsp i j
theorem zia {i j:Int}:zos i j=true↔zw9 i j:=Classical.choose_spec zsq i j
theorem zpm {j:Int}:zss j=true↔0 < j/\j < 2 ^ 200:=Classical.choose_spec zsr j
@[simp] theorem zlH {i j:Int} (h1:-18446744073709551616 < i) (h2:i < 18446744073709551616):zmt i j=true:=zkc.mpr (.inl ⟨by omega,by omega⟩)
@[simp] theorem zEy {i j:Int} (h1:-18446744073709551616 < j) (h2:j < 18446744073709551616):zmt i j=true:=zkc.mpr (.inr ⟨by omega,by omega⟩)
@[simp] theorem zkv {j:Int} (h1:0 < j) (h2:j < 1606938044258990275541962092341162602522202993782792835301376):zss j=true:=zpm.mpr ⟨h1,by omega⟩
theorem zst {C:Int->Int->Prop} {cb:Int->Int->Bool} (hc:∀ i j,cb i j=true->C i j) {B:Bk} {g:Int->Int->V} {gd:Int->Int->D} (h:∀ i j,Sc (g i j) (gd i j)):OpD B (rI C g) (fI λi j=>if cb i j=true then some (gd i j) else none):=by
 intro H G x y dx dy z Q hx hy e k;obtain ⟨i,j,rfl,rfl,e'⟩:=zor e;clear e;split at e'
 ·rename_i hb
  cases e'; cases hx; cases hy
  exact ⟨i,j,rfl,rfl,hc i j hb,k _ H G Al.refl (h i j).da⟩
 ·cases e'
abbrev zAP:D->D->Option D:=fI λi j=>some (.int (i-j))
noncomputable abbrev zd0:D->D->Option D:=fI λi j=>if zss j=true then some (.int (i / j)) else none
abbrev zeQ:D->D->Option D:=fI λi j=>if 0 < j then some (.int (i%j)) else none
noncomputable abbrev zrj:D->D->Option D:=fI λi j=>if zos i j=true then some (.int (i*2 ^ j.toNat)) else none
noncomputable abbrev zCh:D->D->Option D:=fI λi j=>if zos i j=true then some (.int (i ^ j.toNat)) else none
abbrev zCi:D->D->Option D:=fI λi j=>some (.int (Builtin.bitAnd i j))
abbrev oOr:D->D->Option D:=fI λi j=>some (.int (Builtin.bitOr i j))
abbrev oLt:D->D->Option D:=fI λi j=>some (.bl (decide (i < j)))
abbrev oLe:D->D->Option D:=fI λi j=>some (.bl (decide (i<=j)))
abbrev oGt:D->D->Option D:=fI λi j=>some (.bl (decide (j < i)))
abbrev oGe:D->D->Option D:=fI λi j=>some (.bl (decide (j<=i)))
abbrev zu0:D->Option D:=fI1 λi=>some (.int (-i))
section
variable {B:Bk}
theorem zAQ:OpD B (rI0 λi j=>.int (i-j)) zAP:=zku λ_ _=>.int _
theorem zdD:OpD B (rI (λ_ j=>0 < j/\j < 2 ^ 200) λi j=>.int (i / j)) zd0:=zst (λ_ _ h=>zpm.mp h) λ_ _=>.int _
theorem zcB:OpD B (rI (λ_ j=>0 < j) λi j=>.int (i%j)) zeQ:=zCW λ_ _=>.int _
theorem zpn:OpD B (rI zw9 λi j=>.int (i*2 ^ j.toNat)) zrj:=zst (λ_ _ h=>zia.mp h) λ_ _=>.int _
theorem zAR:OpD B (rI zw9 λi j=>.int (i ^ j.toNat)) zCh:=zst (λ_ _ h=>zia.mp h) λ_ _=>.int _
theorem zsu:OpD B (rI0 λi j=>.int (Builtin.bitAnd i j)) zCi:=zku λ_ _=>.int _
theorem zCY:OpD B (rI0 λi j=>.int (Builtin.bitOr i j)) oOr:=zku λ_ _=>.int _
theorem zCZ:OpD B (rI0 λi j=>.bl (decide (i < j))) oLt:=zku λ_ _=>.bl _
theorem zC0:OpD B (rI0 λi j=>.bl (decide (i<=j))) oLe:=zku λ_ _=>.bl _
theorem zC1:OpD B (rI0 λi j=>.bl (decide (j < i))) oGt:=zku λ_ _=>.bl _
theorem zC2:OpD B (rI0 λi j=>.bl (decide (j<=i))) oGe:=zku λ_ _=>.bl _
theorem zAS:UnD B (rU λi=>.int (-i)) zu0:=zCX λ_=>.int _
end
@[simp] def ze9:D->D->Option SV
 | .int i,.int j=>some (.sh (.int (i+j)))
 | .str a,.str b=>if a.length+b.length<=sizeLine then some (.sh (.str (a++b))) else none
 | .lst xs,.lst ys=>if xs.length+ys.length<=sizeLine then some (.li (xs++ys)) else none
 | .tup xs,.tup ys=>if xs≠[]/\ys≠[]/\xs.length+ys.length<=sizeLine then some (.sh (.tup (xs++ys))) else none
 | _,_=>none
@[simp] noncomputable def zkw:D->D->Option SV
 | .int i,.int j=>if zmt i j=true then some (.sh (.int (i*j))) else none
 | .lst xs,.int k=>if -(2 ^ 63)<=k/\k < 2 ^ 63/\xs.length*k.toNat<=sizeLine then some (.li (List.replicate k.toNat xs).flatten) else none
 | _,_=>none
section
variable {B:Bk}
theorem DAs.rep {H:Hp} {F:Addr->Prop} {vs:List V} {ds:List D} (h:DAs B H F vs ds):∀ n,DAs B H F (List.replicate n vs).flatten (List.replicate n ds).flatten
 | 0=>.nil
 | n+1=>by simpa [List.replicate_succ] using h.append (DAs.rep h n)
theorem zf9 {H:Hp} {G:Addr->Prop} {p:Addr} {vs:List V} {ds:List D} {Q:VK} (hg:∀ b,G b->H b≠none) (hp:H p=none) (da:DAs B H G vs ds)
  (k:∀ v H' G' o,Al H G H' G'->VA B H' G' v (.li ds) o->(∀ a,a∈o->H a=none)->Q v H'):Q (.ref p) (upd H p (.lst vs)):=by
 have al:=zh3 (F:=G) (u:=.lst vs) hp;exact k (.ref p) _ G [p] al ⟨p,vs,rfl,rfl,λz=>hg p z hp,zaS,da.mono (λb o _ e=>al.same b o e) λ_ z=>z⟩ λa ha=>by rw [List.mem_singleton.mp ha]; exact hp
theorem zkx {H:Hp} {G:Addr->Prop} {p:Addr} {vs:List V} {ds:List D} {Q:VK} (hp:H p=none) (da:DAs B H G vs ds)
  (k:∀ v H' G' o,Al H G H' G'->VA B H' G' v (.sh (.tup ds)) o->(∀ a,a∈o->H a=none)->Q v H'):Q (.ref p) (upd H p (.tup vs)):=by
 have al:=zh4 (F:=G) (u:=.tup vs) hp;exact k (.ref p) _ _ [] al ⟨rfl,.tup ⟨.inr rfl,zaS⟩ (da.mono (λb o _ e=>al.same b o e) λ_ z=>.inl z)⟩ λa ha=>absurd ha (by simp)
theorem zC3 {K:W.Frag} (hK:B.K=K):OpE B (zxy K) ze9:=by
 subst hK;intro H G x y dx dy z Q hg hx hy e k;unfold ze9 at e;split at e
 ·cases e; cases hx; cases hy
  exact .inl ⟨_,_,rfl,rfl,k _ H G [] Al.refl ⟨rfl,.int _⟩ (by simp)⟩
 ·split at e
  ·cases e; cases hx; cases hy
   exact .inr (.inl ⟨_,_,rfl,rfl,by assumption,k _ H G [] Al.refl ⟨rfl,.str _⟩ (by simp)⟩)
  ·cases e
 ·split at e
  ·rename_i hl
   cases e
   cases hx with
   | lst h1 r1=>cases hy with
    | lst h2 r2=>exact .inr (.inr (.inl ⟨_,_,_,_,rfl,rfl,h1.2,h2.2,by rw [r1.length,r2.length]; exact hl,λp hp=>zf9 hg hp (r1.append r2) k⟩))
  ·cases e
 ·split at e
  ·rename_i hl
   cases e
   cases hx with
   | tup h1 r1=>cases hy with
    | tup h2 r2=>
     have nx:∀ {vs:List V} {ds:List D},DAs B H G vs ds->ds≠[]->vs≠[]:=λr n z=>by subst z; cases r; exact n rfl
     exact .inr (.inr (.inr ⟨_,_,_,_,rfl,rfl,h1.sq,h2.sq,nx r1 hl.1,by rw [r1.length,r2.length]; exact hl.2.2,λz=>absurd z (nx r2 hl.2.1),λ_ p hp=>zkx hp (r1.append r2) k⟩))
  ·cases e
 ·cases e
theorem zC4:OpE B zAq zkw:=by
 intro H G x y dx dy z Q hg hx hy e k;unfold zkw at e;split at e
 ·split at e
  ·rename_i hb
   cases e; cases hx; cases hy
   exact .inl ⟨_,_,rfl,rfl,zkc.mp hb,k _ H G [] Al.refl ⟨rfl,.int _⟩ (by simp)⟩
  ·cases e
 ·split at e
  ·rename_i hl
   cases e; cases hy
   cases hx with
   | lst h1 r1=>exact .inr ⟨_,_,_,rfl,rfl,h1.2,hl.1,hl.2.1,by rw [r1.length]; exact hl.2.2,λp hp=>zf9 hg hp (r1.rep _) k⟩
  ·cases e
 ·cases e
end
mutual
def D.dat:D->Option PyData
 | .non=>some .none
 | .bl b=>some (.bool b)
 | .int i=>some (.int i)
 | .str x=>some (.str x)
 | .tup xs=>(D.dats xs).map .tuple
 | .kt xs=>(D.dats xs).map .tuple
 | .lst xs=>(D.dats xs).map .list
 | .fz xs=>(D.dats xs).map .list
 | _=>none
def D.dats:List D->Option (List PyData)
 | []=>some []
 | d :: r=>(D.dat d).bind λp=>(D.dats r).map λps=>p :: ps
end
section
variable {B:Bk} {H:Hp} {F:Addr->Prop}
mutual
theorem DA.dat:∀ {v:V} {d:D} {p:PyData},DA B H F v d->d.dat=some p->DAt B.K H v p
 | _,_,_,.non,e=>by simp [D.dat] at e; subst e; exact .non
 | _,_,_,.bl b,e=>by simp [D.dat] at e; subst e; exact .bl b
 | _,_,_,.int i,e=>by simp [D.dat] at e; subst e; exact .int i
 | _,_,_,.str x,e=>by simp [D.dat] at e; subst e; exact .str x
 | _,_,_,.tup h r,e=>by
  simp only [D.dat,Option.map_eq_some_iff] at e;obtain ⟨ps,e1,rfl⟩:=e;exact .tup h.sq (DAs.dats r e1)
 | _,_,_,.kt h r,e=>by
  simp only [D.dat,Option.map_eq_some_iff] at e;obtain ⟨ps,e1,rfl⟩:=e;exact .tup h.sq (DAs.dats r e1)
 | _,_,_,.lst h r,e=>by
  simp only [D.dat,Option.map_eq_some_iff] at e;obtain ⟨ps,e1,rfl⟩:=e;exact .lst h.sq (DAs.dats r e1)
 | _,_,_,.fz h r,e=>by
  simp only [D.dat,Option.map_eq_some_iff] at e;obtain ⟨ps,e1,rfl⟩:=e;exact .lst h.sq (DAs.dats r e1)
 | _,_,_,.ty n,e=>by simp [D.dat] at e
 | _,_,_,.adr a,e=>by simp [D.dat] at e
 | _,_,_,.cls _,e=>by simp [D.dat] at e
 | _,_,_,.dK _ _ _ _,e=>by simp [D.dat] at e
 | _,_,_,.dT _ _ _ _,e=>by simp [D.dat] at e
 | _,_,_,.dZ _ _ _ _,e=>by simp [D.dat] at e
 | _,_,_,.ins _ _ _ _,e=>by simp [D.dat] at e
 | _,_,_,.exc _ _ _ _ _ _,e=>by simp [D.dat] at e
theorem DAs.dats:∀ {vs:List V} {ds:List D} {ps:List PyData},DAs B H F vs ds->D.dats ds=some ps->DAts B.K H vs ps
 | _,_,_,.nil,e=>by simp [D.dats] at e; subst e; exact .nil
 | _,_,_,.cons h r,e=>by
  simp only [D.dats,Option.bind_eq_some_iff,Option.map_eq_some_iff] at e;obtain ⟨p,e1,ps,e2,rfl⟩:=e;exact .cons (DA.dat h e1) (DAs.dats r e2)
end
end
def shp (d:D):Option PyData:=d.dat.bind λp=>if SeqAt.shaped p=true then some p else none
def oEq:D->D->Option D:=λa b=>(shp a).bind λp=>(shp b).bind λq=>some (.bl (PyData.eqv p q))
def oNe:D->D->Option D:=λa b=>(shp a).bind λp=>(shp b).bind λq=>some (.bl (!PyData.eqv p q))
theorem zc3 {d:D} {p:PyData} (h:shp d=some p):d.dat=some p/\SeqAt.shaped p=true:=by
 obtain ⟨q,e,h⟩:=zbW h;split at h
 ·cases h; exact ⟨e,by assumption⟩
 ·cases h
section
variable {B:Bk} {K:W.Frag}
theorem zC5 (hK:B.K=K):OpD B (zEi K) oEq:=by
 subst hK;intro H G x y dx dy z Q hx hy e k;obtain ⟨p,q,e1,e2,e3⟩:=zkt e;cases e3
 exact ⟨p,q,hx.dat (zc3 e1).1,hy.dat (zc3 e2).1,(zc3 e1).2,(zc3 e2).2,k _ H G Al.refl (.bl _)⟩
theorem zC6 (hK:B.K=K):OpD B (zEj K) oNe:=by
 subst hK;intro H G x y dx dy z Q hx hy e k;obtain ⟨p,q,e1,e2,e3⟩:=zkt e;cases e3
 exact ⟨p,q,hx.dat (zc3 e1).1,hy.dat (zc3 e2).1,(zc3 e1).2,(zc3 e2).2,k _ H G Al.refl (.bl _)⟩
def inB:D->D->Option Bool
 | .str a,.str b=>some (!(Builtin.Str.occurrences b a 0 b.length 1).isEmpty)
 | x,.lst ys=>(D.dats ys).bind λps=>(shp x).bind λp=>if SeqAt.shaped (.list ps)=true then some (ps.any λe=>PyData.eqv e p) else none
 | x,.fz ys=>(D.dats ys).bind λps=>(shp x).bind λp=>if SeqAt.shaped (.list ps)=true then some (ps.any λe=>PyData.eqv e p) else none
 | x,.tup ys=>(D.dats ys).bind λps=>(shp x).bind λp=>if SeqAt.shaped (.list ps)=true then some (ps.any λe=>PyData.eqv e p) else none
 | x,.kt ys=>(D.dats ys).bind λps=>(shp x).bind λp=>if SeqAt.shaped (.list ps)=true then some (ps.any λe=>PyData.eqv e p) else none
 | _,_=>none
def oIn:D->D->Option D:=λx y=>(inB x y).map λb=>.bl b
def zeo:D->D->Option D:=λx y=>(inB x y).map λb=>.bl (!b)
theorem zsv {H:Hp} {G:Addr->Prop} {x y:V} {dx dy:D} {c:Bool} (hx:DA B H G x dx) (hy:DA B H G y dy) (e:inB dx dy=some c) :
  (∃ i j,x=.str i/\y=.str j/\c=(!(Builtin.Str.occurrences j i 0 j.length 1).isEmpty))\/∃ ds d,(DAt B.K H y (.list ds)\/DAt B.K H y (.tuple ds))/\DAt B.K H x d/\SeqAt.shaped (.list ds)=true/\SeqAt.shaped d=true/\c=(ds.any λe=>PyData.eqv e d):=by
 have fin:∀ {ys:List D} {vs:List V},DAs B H G vs ys->(∀ ps,DAts B.K H vs ps->DAt B.K H y (.list ps)\/DAt B.K H y (.tuple ps))->((D.dats ys).bind λps=>(shp dx).bind λp=>if SeqAt.shaped (.list ps)=true then some (ps.any λe=>PyData.eqv e p) else none)=some c->
   ∃ ds d,(DAt B.K H y (.list ds)\/DAt B.K H y (.tuple ds))/\DAt B.K H x d/\SeqAt.shaped (.list ds)=true/\SeqAt.shaped d=true/\c=(ds.any λe=>PyData.eqv e d):=λr mk e=>by
  obtain ⟨ps,p,e1,e2,e3⟩:=zkt e;split at e3
  ·cases e3
   exact ⟨ps,p,mk ps (r.dats e1),hx.dat (zc3 e2).1,by assumption,(zc3 e2).2,rfl⟩
  ·cases e3
 unfold inB at e;split at e
 ·cases e; cases hx; cases hy; exact .inl ⟨_,_,rfl,rfl,rfl⟩
 ·cases hy with
  | lst h r=>exact .inr (fin r (λps q=>.inl (.lst h.sq q)) e)
 ·cases hy with
  | fz h r=>exact .inr (fin r (λps q=>.inl (.lst h.sq q)) e)
 ·cases hy with
  | tup h r=>exact .inr (fin r (λps q=>.inr (.tup h.sq q)) e)
 ·cases hy with
  | kt h r=>exact .inr (fin r (λps q=>.inr (.tup h.sq q)) e)
 ·cases e
theorem zC7 (hK:B.K=K):OpD B (zEn K) oIn:=by
 subst hK;intro H G x y dx dy z Q hx hy e k;unfold oIn at e;rw [Option.map_eq_some_iff] at e;obtain ⟨c,e1,rfl⟩:=e;rcases zsv hx hy e1 with ⟨i,j,rfl,rfl,rfl⟩ | ⟨ds,d,h1,h2,h3,h4,rfl⟩
 ·exact .inl ⟨i,j,rfl,rfl,k _ H G Al.refl (.bl _)⟩
 ·exact .inr ⟨ds,d,h1,h2,h3,h4,k _ H G Al.refl (.bl _)⟩
theorem zu1 (hK:B.K=K):OpD B (zr9 K) zeo:=by
 subst hK;intro H G x y dx dy z Q hx hy e k;unfold zeo at e;rw [Option.map_eq_some_iff] at e;obtain ⟨c,e1,rfl⟩:=e;rcases zsv hx hy e1 with ⟨i,j,rfl,rfl,rfl⟩ | ⟨ds,d,h1,h2,h3,h4,rfl⟩
 ·exact .inl ⟨i,j,rfl,rfl,k _ H G Al.refl (.bl _)⟩
 ·exact .inr ⟨ds,d,h1,h2,h3,h4,k _ H G Al.refl (.bl _)⟩
@[simp] def oIx:D->D->Option D
 | .lst xs,.int i=>atI xs i
 | .tup xs,.int i=>atI xs i
 | .kt xs,.int i=>atI xs i
 | .fz xs,.int i=>atI xs i
 | .str z,.int i=>if z.length<=sizeLine then (atI z.cps.toList i).map λc=>.str ⟨#[c]⟩ else none
 | _,_=>none
theorem zmu {H:Hp} {G:Addr->Prop} {vs:List V} {ds:List D} {i:Int} {d:D} (r:DAs B H G vs ds) (e:atI ds i=some d):∃ v,atI vs i=some v/\DA B H G v d:=by
 unfold atI at e ⊢;obtain ⟨j,e1,e2⟩:=zbW e;rw [r.length,e1];exact r.get e2
theorem zC8 (hK:B.K=K):OpD B (rIx K) oIx:=by
 subst hK;intro H G x y dx dy z Q hx hy e k;unfold oIx at e;split at e
 ·cases hy
  cases hx with
  | lst h r=>obtain ⟨v,e1,d1⟩:=zmu r e; exact .inl ⟨_,_,_,v,rfl,rfl,h.sq,e1,k v H G Al.refl d1⟩
 ·cases hy
  cases hx with
  | tup h r=>obtain ⟨v,e1,d1⟩:=zmu r e; exact .inr (.inl ⟨_,_,_,v,rfl,rfl,h.sq,e1,k v H G Al.refl d1⟩)
 ·cases hy
  cases hx with
  | kt h r=>obtain ⟨v,e1,d1⟩:=zmu r e; exact .inr (.inl ⟨_,_,_,v,rfl,rfl,h.sq,e1,k v H G Al.refl d1⟩)
 ·cases hy
  cases hx with
  | fz h r=>obtain ⟨v,e1,d1⟩:=zmu r e; exact .inl ⟨_,_,_,v,rfl,rfl,h.sq,e1,k v H G Al.refl d1⟩
 ·split at e
  ·rw [Option.map_eq_some_iff] at e;obtain ⟨c,e1,rfl⟩:=e;cases hx; cases hy
   exact .inr (.inr ⟨_,_,c,rfl,rfl,by assumption,e1,k _ H G Al.refl (.str _)⟩)
  ·cases e
 ·cases e
def zAT (K:W.Frag):List V->Hp->VK->Prop:=λxs H Q=>zAB K xs H Q\/(∃ a kvs,xs=[V.ref a]/\H a=some (.dK kvs)/\Q (.int kvs.length) H)\/zAz xs H Q
theorem zsw {X:Cx} (hK:X.K=K):CallR X (.builtin "len") (zAT K):=(zsb hK).or (zrS.or zr7)
@[simp] def zga:List D->Option SV
 | [.lst xs]=>some (.sh (.int xs.length))
 | [.tup xs]=>some (.sh (.int xs.length))
 | [.kt xs]=>some (.sh (.int xs.length))
 | [.fz xs]=>some (.sh (.int xs.length))
 | [.str z]=>if z.length<=sizeLine then some (.sh (.int z.length)) else none
 | [.dT kvs]=>some (.sh (.int kvs.length))
 | [.dK kvs]=>some (.sh (.int kvs.length))
 | [.dZ kvs]=>some (.sh (.int kvs.length))
 | _=>none
theorem zC9 (hK:B.K=K):ziH B (zAT K) zga:=by
 subst hK;intro H G vs ds z Q hg hd e k;unfold zga at e;split at e
 ·cases e
  obtain ⟨v,rfl,d1⟩:=hd.one;cases d1 with
  | lst h r=>exact .inl (.inl ⟨_,_,rfl,.inl ⟨_,h.sq,rfl⟩,by rw [r.length]; exact k _ H G [] Al.refl ⟨rfl,.int _⟩ (by simp)⟩)
 ·cases e
  obtain ⟨v,rfl,d1⟩:=hd.one;cases d1 with
  | tup h r=>exact .inl (.inl ⟨_,_,rfl,.inr ⟨_,h.sq,rfl⟩,by rw [r.length]; exact k _ H G [] Al.refl ⟨rfl,.int _⟩ (by simp)⟩)
 ·cases e
  obtain ⟨v,rfl,d1⟩:=hd.one;cases d1 with
  | kt h r=>exact .inl (.inl ⟨_,_,rfl,.inr ⟨_,h.sq,rfl⟩,by rw [r.length]; exact k _ H G [] Al.refl ⟨rfl,.int _⟩ (by simp)⟩)
 ·cases e
  obtain ⟨v,rfl,d1⟩:=hd.one;cases d1 with
  | fz h r=>exact .inl (.inl ⟨_,_,rfl,.inl ⟨_,h.sq,rfl⟩,by rw [r.length]; exact k _ H G [] Al.refl ⟨rfl,.int _⟩ (by simp)⟩)
 ·split at e
  ·cases e
   obtain ⟨v,rfl,d1⟩:=hd.one;cases d1
   exact .inl (.inl ⟨_,_,rfl,⟨by assumption,rfl⟩,k _ H G [] Al.refl ⟨rfl,.int _⟩ (by simp)⟩)
  ·cases e
 ·cases e
  obtain ⟨v,rfl,d1⟩:=hd.one;cases d1 with
  | @dT a kvs _ f h ek r=>
   have hl:=congrArg List.length ek;rw [List.length_map,List.length_map] at hl;exact .inl (.inr ⟨_,_,rfl,h,by rw [hl]; exact k _ H G [] Al.refl ⟨rfl,.int _⟩ (by simp)⟩)
 ·cases e
  obtain ⟨v,rfl,d1⟩:=hd.one;cases d1 with
  | @dK a kvs _ f h ek r=>
   have hl:=congrArg List.length ek;rw [List.length_map,List.length_map] at hl;exact .inr (.inl ⟨_,_,rfl,h,by rw [hl]; exact k _ H G [] Al.refl ⟨rfl,.int _⟩ (by simp)⟩)
 ·cases e
  obtain ⟨v,rfl,d1⟩:=hd.one;cases d1 with
  | @dZ a o kvs _ f h ek r=>
   have hl:=congrArg List.length ek;rw [List.length_map,List.length_map] at hl;exact .inr (.inr ⟨_,_,_,rfl,h,by rw [hl]; exact k _ H G [] Al.refl ⟨rfl,.int _⟩ (by simp)⟩)
 ·cases e
@[simp] def D.kind:D->Option String
 | .non=>some "NoneType"
 | .bl _=>some "bool"
 | .int _=>some "int"
 | .str _=>some "str"
 | .lst _=>some "list"
 | .tup _=>some "tuple"
 | .dK _=>some "dict"
 | .dT _=>some "dict"
 | _=>none
def zxX (t n:String):Option Bool:=if n∈["int","str","bool","list","tuple","dict"] then some (t==n||(t=="bool"&&n=="int")) else none
@[simp] def zDa:List D->Option SV
 | [d,.ty n]=>d.kind.bind λt=>(zxX t n).map λb=>.sh (.bl b)
 | _=>none
theorem DA.kind {H:Hp} {G:Addr->Prop} {v:V} {d:D} {t:String} (h:DA B H G v d) (e:d.kind=some t):TyOf B.K H v (.type t)/\t∈["NoneType","bool","int","str","list","tuple","dict"]:=by
 cases h with
 | non=>cases e; exact ⟨.non,by simp⟩
 | bl b=>cases e; exact ⟨.bl b,by simp⟩
 | int i=>cases e; exact ⟨.int i,by simp⟩
 | str x=>cases e; exact ⟨.str x,by simp⟩
 | lst h r=>cases e; exact ⟨.lst h.2,by simp⟩
 | tup h r=>cases e; exact ⟨.tup h.2,by simp⟩
 | dK f h _ _=>cases e; exact ⟨.dK h,by simp⟩
 | dT f h _ _=>cases e; exact ⟨.dT h,by simp⟩
 | _=>cases e
theorem zAU {K:W.Frag} {t n:String} {b:Bool} (ht:t∈["NoneType","bool","int","str","list","tuple","dict"]) (e:zxX t n=some b):W.kitOne K (.type t) (.type n)=some b:=by
 unfold zxX at e;split at e
 ·rename_i hn
  cases e
  simp only [List.mem_cons,List.not_mem_nil,or_false] at ht hn;rcases ht with rfl | rfl | rfl | rfl | rfl | rfl | rfl <;> rcases hn with rfl | rfl | rfl | rfl | rfl | rfl <;> rfl
 ·cases e
theorem zDb (hK:B.K=K):ziH B (zoi K) zDa:=by
 subst hK;intro H G vs ds z Q hg hd e k;unfold zDa at e;split at e
 ·rename_i d n
  obtain ⟨t,e1,e2⟩:=zbW e;rw [Option.map_eq_some_iff] at e2;obtain ⟨b,e3,rfl⟩:=e2;obtain ⟨v,w,rfl,d1,d2⟩:=hd.two;cases d2
  obtain ⟨h1,h2⟩:=d1.kind e1;exact ⟨v,n,_,b,rfl,h1,zAU h2 e3,k _ H G [] Al.refl ⟨rfl,.bl _⟩ (by simp)⟩
 ·cases e
end
def FO (B:Bk) (t:TO) (m:FSt->Option (Option Int)):Prop:=
 ∀ (S:FSt) (σ:St) (H:Hp) (F:Addr->Prop) (os:Nat->List Addr) (Q:Option Int->Hp->Prop) (c:Option Int),Rep B H F σ S os->m S=some c->
  (∀ H' F',Al H F H' F'->Rep B H' F' σ S os->Q c H')->t σ H Q
@[simp] def mNo:FSt->Option (Option Int):=λ_=>some none
@[simp] def mAt (m:FSt->Option D):FSt->Option (Option Int):=λS=>(m S).bind λd=>match d with
 | .int i=>some (some i)
 | _=>none
def znk {α:Type} (xs:List α) (lo hi:Option Int):List α:=(xs.drop (HT.sIx xs.length 0 lo)).take (HT.sIx xs.length xs.length hi-HT.sIx xs.length 0 lo)
@[simp] def oSl:D->Option Int->Option Int->Option SV
 | .lst xs,lo,hi=>some (.li (znk xs lo hi))
 | .fz xs,lo,hi=>some (.li (znk xs lo hi))
 | .str z,lo,hi=>if z.length<=sizeLine then some (.sh (.str (Txt.slice z lo hi))) else none
 | .tup xs,lo,hi=>if HT.sIx xs.length 0 lo=0/\HT.sIx xs.length xs.length hi=xs.length then none else some (.sh (.tup (znk xs lo hi)))
 | .kt xs,lo,hi=>if HT.sIx xs.length 0 lo=0/\HT.sIx xs.length xs.length hi=xs.length then none else some (.sh (.tup (znk xs lo hi)))
 | _,_,_=>none
@[simp] def mSl (a:FSt->Option D) (l h:FSt->Option (Option Int)):FSt->Option SV:=λS=>(a S).bind λd=>(l S).bind λlo=>(h S).bind λhi=>oSl d lo hi
section
variable {B:Bk} {te:TE} {L:List Nat} {md:FSt->Option D} {tl th:TO} {ml mh:FSt->Option (Option Int)} {K:W.Frag}
theorem zxY:FO B zrK mNo:=λS σ H F os Q c r e k=>by cases e; exact k H F Al.refl r
theorem zxZ (h:FD B te L md):FO B (zAb te) (mAt md):=by
 intro S σ H F os Q c r e k;obtain ⟨d,e1,e2⟩:=zbW e;refine h S σ H F os _ d r e1 λv H' F' a r' da=>?_;cases d with
 | int i=>cases e2; cases da; exact ⟨_,rfl,k H' F' a r'⟩
 | _=>cases e2
theorem DAs.cut {H:Hp} {F:Addr->Prop} {vs:List V} {ds:List D} (r:DAs B H F vs ds) (lo hi:Option Int):DAs B H F (zv3 vs lo hi) (znk ds lo hi):=by
 unfold zv3 znk;rw [r.length];exact (r.drop _).take _
theorem zDc (hK:B.K=K) (he:FD B te L md) (hl:FO B tl ml) (hh:FO B th mh):FE B (tSl (zEp K) te tl th) L (mSl md ml mh):=by
 subst hK;intro S σ H F os Q z r e k;obtain ⟨d,e1,e⟩:=zbW e;obtain ⟨lo,e2,e⟩:=zbW e;obtain ⟨hi,e3,e⟩:=zbW e;refine he S σ H F os _ d r e1 λv H1 F1 a1 r1 d1=>hl S σ H1 F1 os _ lo r1 e2 λH2 F2 a2 r2=>hh S σ H2 F2 os _ hi r2 e3 λH3 F3 a3 r3=>?_;have d3:DA B H3 (orF F3 (osL os L)) v d:=(d1.later a2 λ_ h=>h).later a3 λ_ h=>h;have al:=(a1.trans a2).trans a3;have fin:∀ v H' G' o,Al H3 (orF F3 (osL os L)) H' G'->VA B H' G' v z o->(∀ a,a∈o->H3 a=none)->Q v H':=λu H4 G4 o a4 va fr=>by
  obtain ⟨F4,al4,r4,va2⟩:=zeU r3 a4 va fr;refine k u H4 F4 o (al.trans al4) r4 va2 λb e=>?_;cases q:H b with
  | none=>rfl
  | some w=>have:=fr b e; rw [al.same b w q] at this; cases this
 have hg:=r3.gd L;unfold oSl at e;split at e
 ·cases e
  cases d3 with
  | lst h q=>exact .inr (.inl ⟨_,_,rfl,h.sq,λp hp=>zf9 hg hp (q.cut _ _) fin⟩)
 ·cases e
  cases d3 with
  | fz h q=>exact .inr (.inl ⟨_,_,rfl,h.sq,λp hp=>zf9 hg hp (q.cut _ _) fin⟩)
 ·split at e
  ·cases e; cases d3
   exact .inl ⟨_,rfl,by assumption,fin _ H3 _ [] Al.refl ⟨rfl,.str _⟩ (by simp)⟩
  ·cases e
 ·split at e
  ·cases e
  ·rename_i hw
   cases e
   cases d3 with
   | tup h q=>exact .inr (.inr ⟨_,_,rfl,h.sq,by rw [q.length]; exact hw,λp hp=>zkx hp (q.cut _ _) fin⟩)
 ·split at e
  ·cases e
  ·rename_i hw
   cases e
   cases d3 with
   | kt h q=>exact .inr (.inr ⟨_,_,rfl,h.sq,by rw [q.length]; exact hw,λp hp=>zkx hp (q.cut _ _) fin⟩)
 ·cases e
end
def zlt {κ α:Type} [DecidableEq κ] (kvs:List (κ×α)) (k:κ):Option α:=(kvs.find? λkv=>decide (kv.1=k)).map (·.2)
def zu2 {κ α:Type} [DecidableEq κ] (kvs:List (κ×α)) (k:κ) (v:α):List (κ×α):=
 if (kvs.any λkv=>decide (kv.1=k))=true then kvs.map (λkv=>if kv.1=k then (kv.1,v) else kv) else kvs++[(k,v)]
section
variable {B:Bk} {H:Hp} {G:Addr->Prop} {κ:Type} [DecidableEq κ]
theorem zot {kvs:List (κ×V)} {ds:List (κ×D)} (e:kvs.map (·.1)=ds.map (·.1)) (r:DAs B H G (kvs.map (·.2)) (ds.map (·.2))) (k:κ) :
  (∀ d,zlt ds k=some d->∃ v,zmm kvs k=some v/\DA B H G v d)/\(zlt ds k=none->zmm kvs k=none):=by
 induction kvs generalizing ds with
 | nil=>cases ds with
  | nil=>exact ⟨λd h=>(nomatch h),λ_=>rfl⟩
  | cons _ _=>simp at e
 | cons p kvs ih=>cases ds with
  | nil=>simp at e
  | cons q ds=>
   simp only [List.map_cons,List.cons.injEq] at e r;cases r with
   | cons h r=>
    have:=ih e.2 r
    by_cases c:p.1=k
    ·have c':q.1=k:=e.1▸c;have e1:zlt (q :: ds) k=some q.2:=by simp [zlt,List.find?_cons,c']
     have e2:zmm (p :: kvs) k=some p.2:=by simp [zmm,List.find?_cons,c]
     rw [e1,e2];exact ⟨λd z=>by cases z; exact ⟨_,rfl,h⟩,λz=>nomatch z⟩
    ·have c':¬ q.1=k:=e.1▸c;have e1:zlt (q :: ds) k=zlt ds k:=by simp [zlt,List.find?_cons,c']
     have e2:zmm (p :: kvs) k=zmm kvs k:=by simp [zmm,List.find?_cons,c]
     rw [e1,e2]; exact this
theorem zsx {kvs:List (κ×V)} {ds:List (κ×D)} (e:kvs.map (·.1)=ds.map (·.1)) (r:DAs B H G (kvs.map (·.2)) (ds.map (·.2))) {k:κ} {v:V} {d:D} (h:DA B H G v d) :
  (zna kvs k v).map (·.1)=(zu2 ds k d).map (·.1)/\DAs B H G ((zna kvs k v).map (·.2)) ((zu2 ds k d).map (·.2)):=by
 have ea:(kvs.any λkv=>decide (kv.1=k))=(ds.any λkv=>decide (kv.1=k)):=by
  have:∀ {α:Type} (l:List (κ×α)),(l.any λkv=>decide (kv.1=k))=((l.map (·.1)).any λx=>decide (x=k)):=λl=>by rw [List.any_map]; rfl
  rw [this,this,e]
 unfold zna zu2;rw [ea];split
 ·clear ea
  induction kvs generalizing ds with
  | nil=>cases ds with
   | nil=>exact ⟨rfl,.nil⟩
   | cons _ _=>simp at e
  | cons p kvs ih=>cases ds with
   | nil=>simp at e
   | cons q ds=>
    simp only [List.map_cons,List.cons.injEq] at e r;cases r with
    | cons h1 r=>
     have key:(kvs.map (λkv=>if kv.1=k then (kv.1,v) else kv)).map (·.1)=(ds.map (λkv=>if kv.1=k then (kv.1,d) else kv)).map (·.1)/\DAs B H G ((kvs.map (λkv=>if kv.1=k then (kv.1,v) else kv)).map (·.2)) ((ds.map (λkv=>if kv.1=k then (kv.1,d) else kv)).map (·.2)):=by
      have:∀ (kvs:List (κ×V)) (ds:List (κ×D)),kvs.map (·.1)=ds.map (·.1)->DAs B H G (kvs.map (·.2)) (ds.map (·.2))->(kvs.map (λkv=>if kv.1=k then (kv.1,v) else kv)).map (·.1)=(ds.map (λkv=>if kv.1=k then (kv.1,d) else kv)).map (·.1)/\DAs B H G ((kvs.map (λkv=>if kv.1=k then (kv.1,v) else kv)).map (·.2)) ((ds.map (λkv=>if kv.1=k then (kv.1,d) else kv)).map (·.2)):=by
       intro kvs
       induction kvs with
       | nil=>intro ds e r; cases ds with
        | nil=>exact ⟨rfl,.nil⟩
        | cons _ _=>simp at e
       | cons p kvs ih=>intro ds e r; cases ds with
        | nil=>simp at e
        | cons q ds=>
         simp only [List.map_cons,List.cons.injEq] at e r;cases r with
         | cons h1 r=>
          obtain ⟨i1,i2⟩:=ih ds e.2 r
          by_cases c:p.1=k
          ·have c':q.1=k:=e.1▸c;simp only [List.map_cons,if_pos c,if_pos c'];exact ⟨by rw [i1,e.1],.cons h i2⟩
          ·have c':¬ q.1=k:=e.1▸c;simp only [List.map_cons,if_neg c,if_neg c'];exact ⟨by rw [i1,e.1],.cons h1 i2⟩
      exact this kvs ds e.2 r
     by_cases c:p.1=k
     ·have c':q.1=k:=e.1▸c;simp only [List.map_cons,if_pos c,if_pos c'];exact ⟨by rw [key.1,e.1],.cons h key.2⟩
     ·have c':¬ q.1=k:=e.1▸c;simp only [List.map_cons,if_neg c,if_neg c'];exact ⟨by rw [key.1,e.1],.cons h1 key.2⟩
 ·rw [List.map_append,List.map_append,List.map_append,List.map_append,e];exact ⟨rfl,r.append (.cons h .nil)⟩
end
@[simp] def asK:D->Option Key
 | .int i=>some (.inl i)
 | .str x=>some (.inr x)
 | _=>none
@[simp] def zx0:List D->Option (List Key)
 | []=>some []
 | d :: r=>(asK d).bind λk=>(zx0 r).map λks=>k :: ks
@[simp] def kD:Key->D
 | .inl i=>.int i
 | .inr x=>.str x
@[simp] def zsy:D->D->Option D
 | .dK kvs,y=>(asK y).bind (zlt kvs)
 | .dT kvs,.tup ds=>(zx0 ds).bind (zlt kvs)
 | .dZ kvs,.tup ds=>(zx0 ds).bind (zlt kvs)
 | _,_=>none
section
variable {B:Bk} {H:Hp} {G:Addr->Prop}
theorem zx1 {v:V} {d:D} {k:Key} (h:DA B H G v d) (e:asK d=some k):v=kV k:=by
 cases h with
 | int i=>cases e; rfl
 | str x=>cases e; rfl
 | _=>cases e
theorem zpo:∀ {vs:List V} {ds:List D} {ks:List Key},DAs B H G vs ds->zx0 ds=some ks->vs=ks.map kV
 | _,_,_,.nil,e=>by cases e; rfl
 | _,_,_,.cons h r,e=>by
  obtain ⟨k,e1,e2⟩:=zbW e;rw [Option.map_eq_some_iff] at e2;obtain ⟨ks,e3,rfl⟩:=e2;rw [zx1 h e1,zpo r e3]; rfl
theorem zDd (k:Key):DA B H G (kV k) (kD k):=by cases k <;> constructor
theorem zwh:∀ ks:List Key,DAs B H G (ks.map kV) (ks.map kD)
 | []=>.nil
 | k :: ks=>.cons (zDd k) (zwh ks)
theorem zu3 {x y:V} {dx dy z:D} (hx:DA B H G x dx) (hy:DA B H G y dy) (e:zsy dx dy=some z):∃ a v,x=.ref a/\DGet H a y (some v)/\DA B H G v z:=by
 unfold zsy at e;split at e
 ·obtain ⟨k,e1,e2⟩:=zbW e;cases hx with
  | dK f h ek r=>
   obtain ⟨v,e3,d3⟩:=(zot ek r k).1 z e2;rw [zx1 hy e1];exact ⟨_,v,rfl,by rw [<- e3]; exact DGet.k h,d3⟩
 ·obtain ⟨k,e1,e2⟩:=zbW e;cases hx with
  | dT f h ek r=>
   obtain ⟨v,e3,d3⟩:=(zot ek r k).1 z e2;cases hy with
   | tup ht q=>
    have:=zpo q e1;subst this;exact ⟨_,v,rfl,by rw [<- e3]; exact DGet.t h ht.2,d3⟩
 ·obtain ⟨k,e1,e2⟩:=zbW e;cases hx with
  | dZ f h ek r=>
   obtain ⟨v,e3,d3⟩:=(zot ek r k).1 z e2;cases hy with
   | tup ht q=>
    have:=zpo q e1;subst this;exact ⟨_,v,rfl,by rw [<- e3]; exact .inr ⟨_,_,_,.inr ⟨_,h⟩,rfl,ht.2,rfl⟩,d3⟩
 ·cases e
end
section
variable {B:Bk} {ta tb tv:TE} {La Lb Lv:List Nat} {ma mb mv:FSt->Option D}
theorem zAV (ha:FD B ta La ma) (hb:FD B tb Lb mb):FD B (zAn ta tb) (La++Lb) (m2 zsy ma mb):=
 zom (r:=λx y H Q=>∃ a v,x=.ref a/\DGet H a y (some v)/\Q v H) (λH G x y dx dy z Q hx hy e k=>by
  obtain ⟨a,v,e1,e2,e3⟩:=zu3 hx hy e;exact ⟨a,v,e1,e2,k v H G Al.refl e3⟩) ha hb
@[simp] def mDK:FSt->Option SV:=λ_=>some (.dK [])
@[simp] def mDT:FSt->Option SV:=λ_=>some (.dT [])
theorem zx2:FE B zv7 [] mDK:=by
 intro S σ H F os Q x r e k p hp;cases e
 have al:=zh3 (F:=F) (u:=.dK []) hp;exact k (.ref p) _ F [p] al (r.mono al) ⟨p,[],rfl,rfl,λz=>r.gd [] p z hp,zaS,rfl,.nil⟩ λa ha=>by rw [List.mem_singleton.mp ha]; exact hp
theorem zx3:FE B zv8 [] mDT:=by
 intro S σ H F os Q x r e k p hp;cases e
 have al:=zh3 (F:=F) (u:=.dT []) hp;exact k (.ref p) _ F [p] al (r.mono al) ⟨p,[],rfl,rfl,λz=>r.gd [] p z hp,zaS,rfl,.nil⟩ λa ha=>by rw [List.mem_singleton.mp ha]; exact hp
@[simp] def zAW:SV->D->D->Option SV
 | .dK kvs,y,d=>(asK y).bind λk=>if kvs.length < sizeLine then some (.dK (zu2 kvs k d)) else none
 | .dT kvs,.tup ys,d=>(zx0 ys).bind λk=>if kvs.length < sizeLine then some (.dT (zu2 kvs k d)) else none
 | _,_,_=>none
@[simp] def zzt (i:Nat) (L:List Nat) (mk mv:FSt->Option D):FSt->Fl:=λS=>match mv S,mk S with
 | some d,some y=>if d.plain=true\/L.any (zeg S)=false then
   match (if d.plain=true then S else frzs L S)[i]? with
   | some (some x)=>match zAW x y d with
    | some x'=>.nx ((if d.plain=true then S else frzs L S).set i (some x'))
    | none=>.bad
   | _=>.bad
  else .bad
 | _,_=>.bad
theorem zsz {H:Hp} {G:Addr->Prop} {v w y:V} {x x':SV} {dy d:D} {o:List Addr} (va:VA B H G v x o) (hy:DA B H G y dy) (hd:DA B H G w d) (e:zAW x dy d=some x') :
  ∃ a u,v=.ref a/\o=[a]/\DPut H a y w (upd H a u)/\VA B (upd H a u) G v x' o/\(∀ d',x≠.sh d')/\zeg [some x] 0=false:=by
 unfold zAW at e;split at e
 ·obtain ⟨k,e1,e2⟩:=zbW e;split at e2
  ·rename_i hl
   cases e2
   obtain ⟨a,vs,rfl,rfl,nf,hh,ek,r⟩:=va;have hl':vs.length < sizeLine:=by have:=congrArg List.length ek; simp at this; omega
   obtain ⟨p1,p2⟩:=zsx ek r (k:=k) hd;refine ⟨a,.dK (zna vs k w),rfl,rfl,by rw [zx1 hy e1]; exact DPut.k hh hl',⟨a,_,rfl,rfl,nf,zaS,p1,p2.mono (λb u f e=>by rw [zaW]; exact e; rintro rfl; exact nf f) λ_ f=>f⟩,λ_=>by simp,rfl⟩
  ·cases e2
 ·obtain ⟨k,e1,e2⟩:=zbW e;split at e2
  ·rename_i hl
   cases e2
   obtain ⟨a,vs,rfl,rfl,nf,hh,ek,r⟩:=va;have hl':vs.length < sizeLine:=by have:=congrArg List.length ek; simp at this; omega
   obtain ⟨p1,p2⟩:=zsx ek r (k:=k) hd;cases hy with
   | tup ht q=>
    have:=zpo q e1;subst this;refine ⟨a,.dT (zna vs k w),rfl,rfl,DPut.t hh ht.2 hl',⟨a,_,rfl,rfl,nf,zaS,p1,p2.mono (λb u f e=>by rw [zaW]; exact e; rintro rfl; exact nf f) λ_ f=>f⟩,λ_=>by simp,rfl⟩
  ·cases e2
 ·cases e
theorem znl {d:D} {k:Key} (h:asK d=some k):d.plain=true:=by cases d <;> first | rfl | cases h
theorem zlI:∀ {ds:List D} {ks:List Key},zx0 ds=some ks->D.plains ds=true
 | [],_,_=>rfl
 | d :: ds,_,h=>by
  obtain ⟨k,e1,e2⟩:=zbW h;rw [Option.map_eq_some_iff] at e2;obtain ⟨ks,e3,_⟩:=e2;simp [D.plains,znl e1,zlI e3]
theorem zqp {x x':SV} {y d:D} (e:zAW x y d=some x'):y.plain=true:=by
 unfold zAW at e;split at e
 ·obtain ⟨k,e1,_⟩:=zbW e; exact znl e1
 ·obtain ⟨k,e1,_⟩:=zbW e; simpa [D.plain] using zlI e1
 ·cases e
theorem zAX {i:Nat} (hk:FD B tb Lb mb) (hv:FD B tv Lv mv):FS B (zxr (zp5 i) tb tv) (zzt i Lv mb mv):=by
 intro S σ H F os E r h;unfold zzt at h;split at h
 case h_2=>exact h.elim
 case h_1 d y ed ey=>
  split at h
  case isFalse=>exact h.elim
  case isTrue c=>
   split at h
   case h_2=>exact h.elim
   case h_1 x hx=>
    split at h
    case h_2=>exact h.elim
    case h_1 x' ex=>
     have hp:=zqp ex;refine hv S σ H F os _ d r ed λw H1 F1 a1 r1 d1=>?_;have nsh:∀ d',x≠.sh d':=λd' z=>by subst z; cases ex
     have hS:S[i]? = some (some x)/\(d.plain=true\/i∉Lv):=by
      by_cases p:d.plain=true
      ·rw [if_pos p] at hx; exact ⟨hx,.inl p⟩
      ·rw [if_neg p,zcd] at hx
       by_cases hi:i∈Lv
       ·rw [if_pos hi] at hx;cases e:S[i]? with
        | none=>rw [e] at hx; cases hx
        | some z=>cases z with
         | none=>rw [e] at hx; cases hx
         | some y=>rw [e] at hx; cases hx; exact absurd rfl (nsh _)
       ·rw [if_neg hi] at hx; exact ⟨hx,.inr hi⟩
     obtain ⟨v,hσ,_⟩:=r.at' i x hS.1;refine ⟨v,hσ,hk S σ H1 F1 os _ y r1 ey λyv H2 F2 a2 r2 d2=>?_⟩;have d2':DA B H2 F2 yv y:=d2.toF r2 hp;have st1:FStep σ S H F os σ S H2 F2 os:=(a1.trans a2).step;obtain ⟨v',hv',va⟩:=r2.at' i x hS.1;rw [hσ] at hv'; cases hv'
     by_cases p:d.plain=true
     ·rw [if_pos p] at h;have d1':DA B H2 F2 w d:=(d1.later a2 λ_ h=>h).toF r2 p;obtain ⟨a,u,rfl,eo,dp,va',_,nl⟩:=zsz va d2' d1' ex;have em:a∈os i:=by rw [eo]; simp
      have nl':zeg S i=false:=by unfold zeg at nl ⊢; rw [hS.1]; exact nl
      exact ⟨a,_,rfl,dp,h σ _ F2 os (st1.trans (zdc em (.inl nl'))) (r2.write em hσ va')⟩
     ·rw [if_neg p] at h;have hi:=hS.2.resolve_left p;have c':=c.resolve_left p;have r3:=r2.frz Lv;have va3:VA B H2 (orF F2 (osL os Lv)) v x (os i):=va.sub (λb z=>.inl z) λb e z=>by
       rcases z with z | ⟨k,hk,z⟩
       ·exact (r2.alive e).2 z
       ·exact hi (r2.inj i k b e z▸hk)
      have d1':DA B H2 (orF F2 (osL os Lv)) w d:=d1.later a2 λ_ h=>h;obtain ⟨a,u,rfl,eo,dp,va',_,nl⟩:=zsz va3 (d2'.mono (λ_ _ _ e=>e) λ_ z=>.inl z) d1' ex;have eo1:(λj=>if j∈Lv then [] else os j) i=os i:=by show (if i∈Lv then [] else os i)=_; rw [if_neg hi]
      have em1:a∈(λj=>if j∈Lv then [] else os j) i:=by rw [eo1,eo]; simp
      have nl1:zeg (frzs Lv S) i=false:=by unfold zeg at nl ⊢; rw [zcd,if_neg hi,hS.1]; exact nl
      exact ⟨a,_,rfl,dp,h σ _ _ _ ((st1.trans (zh6 r2 c')).trans (zdc em1 (.inl nl1))) (r3.write em1 hσ (by show VA B _ _ _ _ (if i∈Lv then [] else os i); rw [if_neg hi]; exact va'))⟩
end
def zwi:List V->Hp->VK->Prop:=λxs H Q=>∃ a kvs,xs=[V.ref a]/\H a=some (.dT kvs)/\∀ l ks,H l=none->Paired (λ(k:List Key) (b:Addr)=>H b=some (.tup (k.map kV))) (kvs.map (·.1)) ks->Q (.ref l) (upd H l (.lst (ks.map V.ref)))
theorem zqq {X:Cx} (hc:X.calm=true):CallR X (.type "list") zwi:=by
 intro pins s σ H xs us Q I r h;obtain ⟨a,kvs,rfl,ha,q⟩:=h;obtain ⟨u,rfl,ru⟩:=zjQ r;cases ru
 obtain ⟨z,hd,ys,rel,o,es,ep,h1,h2,h3,h4,_⟩:=zxp I.hok ha;have hl:es.size=kvs.length:=by
  have e1:es.toList.length=ys.length:=by rw [h4,List.length_map]
  have e2:kvs.length=ys.length:=Paired.length rel;rw [Array.length_toList] at e1;omega
 refine zuR (I.ok.hd hc) hd ⟨o,h1,h2.1,h3⟩ (by rw [hl]; exact z) λh' tk acc c' kp e it=>?_;have eacc:acc.toList=(ys.map (·.2.1)).map Value.ref:=by
  refine List.ext_getElem? λi=>?_
  by_cases hi:i < acc.size
  ·obtain ⟨en,e1,e2⟩:=it.2 i acc[i] (by simp [hi]);have e3:es.toList[i]? = some en:=by simpa using e1
   rw [h4,List.getElem?_map] at e3;cases qy:ys[i]? with
   | none=>rw [qy] at e3; cases e3
   | some y=>
    rw [qy] at e3; cases e3
    have:acc.toList[i]? = some acc[i]:=by simp [hi]
    rw [this,e2,List.getElem?_map,List.getElem?_map,qy]; rfl
  ·have h5:ys.length<=i:=by
    have e1:es.toList.length=ys.length:=by rw [h4,List.length_map]
    rw [Array.length_toList] at e1;have:=it.1;omega
   rw [List.getElem?_eq_none (by simp; omega),List.getElem?_eq_none (by simp; exact h5)]
 have vals:Vals ((ys.map (·.2.1)).map V.ref) acc.toList:=by
  rw [eacc];have:∀ l:List Addr,Vals (l.map V.ref) (l.map Value.ref):=λl=>by
   induction l with
   | nil=>exact .nil
   | cons y ys ih=>exact .cons rfl ih
  exact this _
 refine ⟨.ref s.heap.objs.size,_,I.laid (t':=tk) kp (Nat.le_refl _) (show ObjOk X.prog X.w _ h' _ (.lst ((ys.map (·.2.1)).map V.ref)) from ⟨?_,acc.toList,c',vals,by simpa using e⟩),rfl,q _ _ (I.hok.fresh (Nat.le_refl _)) ?_⟩
 ·have e2:kvs.length=ys.length:=Paired.length rel;simp; omega
 ·have:∀ {l:List (List Key×V)} {m:List (List Key×Addr×Value)},KT H l m->Paired (λ(k:List Key) (b:Addr)=>H b=some (.tup (k.map kV))) (l.map (·.1)) (m.map (·.2.1)):=λ{l m} rel=>by
   unfold KT at rel
   induction rel with
   | nil=>exact .nil
   | cons h _ ih=>
    obtain ⟨e1,e2,_⟩:=h;exact .cons (by exact e2) ih
  exact this rel
def zwj (K:W.Frag):List V->Hp->VK->Prop:=λxs H Q=>zr0 K xs H Q\/zwi xs H Q
theorem zqr {X:Cx} {K:W.Frag} (hK:X.K=K) (hc:X.calm=true):CallR X (.type "list") (zwj K):=(zqi hK).or (zqq hc)
@[simp] def zu4:List D->Option SV
 | [.lst xs]=>some (.li xs)
 | [.fz xs]=>some (.li xs)
 | [.tup xs]=>some (.li xs)
 | [.kt xs]=>some (.li xs)
 | [.dT kvs]=>some (.li (kvs.map λkv=>.tup (kv.1.map kD)))
 | _=>none
@[simp] def zlJ:List D->Option SV
 | [.lst xs]=>some (.sh (.tup xs))
 | [.fz xs]=>some (.sh (.tup xs))
 | [.tup xs]=>some (.sh (.tup xs))
 | [.kt xs]=>some (.sh (.kt xs))
 | _=>none
section
variable {B:Bk} {K:W.Frag}
theorem zAY (hK:B.K=K):ziH B (zwj K) zu4:=by
 subst hK;intro H G vs ds z Q hg hd e k;unfold zu4 at e;split at e
 ·cases e
  obtain ⟨v,rfl,d1⟩:=hd.one;cases d1 with
  | lst h r=>exact .inl ⟨_,_,rfl,.inl h.sq,λp hp=>zf9 hg hp r k⟩
 ·cases e
  obtain ⟨v,rfl,d1⟩:=hd.one;cases d1 with
  | fz h r=>exact .inl ⟨_,_,rfl,(.inl h.sq),λp hp=>zf9 hg hp r k⟩
 ·cases e
  obtain ⟨v,rfl,d1⟩:=hd.one;cases d1 with
  | tup h r=>exact .inl ⟨_,_,rfl,.inr h.sq,λp hp=>zf9 hg hp r k⟩
 ·cases e
  obtain ⟨v,rfl,d1⟩:=hd.one;cases d1 with
  | kt h r=>exact .inl ⟨_,_,rfl,.inr h.sq,λp hp=>zf9 hg hp r k⟩
 ·cases e
  obtain ⟨v,rfl,d1⟩:=hd.one;cases d1 with
  | @dT a kvs _ f h ek r=>
   rename_i es
   refine .inr ⟨_,_,rfl,h,λl ks hl pk=>?_⟩;rw [ek] at pk
   let G':Addr->Prop:=λb=>G b\/isT H b
   have al:Al H G (upd H l (.lst (ks.map V.ref))) G':=⟨zmr hl,λb z=>.inl z,λb z=>by
    rcases z with z | z
    ·exact .inl z
    ·exact .inr (.inr z)⟩
   have das:DAs B (upd H l (.lst (ks.map V.ref))) G' (ks.map V.ref) (es.map λkv=>.tup (kv.1.map kD)):=by
    have:∀ {ls:List (List Key)} {bs:List Addr},Paired (λ(k:List Key) (b:Addr)=>H b=some (.tup (k.map kV))) ls bs->DAs B (upd H l (.lst (ks.map V.ref))) G' (bs.map V.ref) (ls.map λk=>.tup (k.map kD)):=by
     intro ls bs p
     induction p with
     | nil=>exact .nil
     | cons h _ ih=>exact .cons (.tup ⟨.inr ⟨_,h⟩,al.same _ _ h⟩ (zwh _)) ih
    have:=this pk
    rwa [List.map_map] at this
   have nl:¬ G' l:=λz=>by
    rcases z with z | ⟨ys,z⟩
    ·exact hg l z hl
    ·rw [hl] at z; cases z
   exact k (.ref l) _ G' [l] al ⟨l,_,rfl,rfl,nl,zaS,das⟩ λb hb=>by rw [List.mem_singleton.mp hb]; exact hl
 ·cases e
theorem zx4 (hK:B.K=K):ziH B (zv9 K) zlJ:=by
 subst hK;intro H G vs ds z Q hg hd e k;unfold zlJ at e;split at e
 ·cases e
  obtain ⟨v,rfl,d1⟩:=hd.one;cases d1 with
  | lst h r=>exact ⟨_,_,rfl,.inl ⟨h.sq,λp hp=>zkx hp r k⟩⟩
 ·cases e
  obtain ⟨v,rfl,d1⟩:=hd.one;cases d1 with
  | fz h r=>exact ⟨_,_,rfl,.inl ⟨h.sq,λp hp=>zkx hp r k⟩⟩
 ·cases e
  obtain ⟨v,rfl,d1⟩:=hd.one;cases d1 with
  | tup h r=>exact ⟨_,_,rfl,.inr ⟨h.sq,k _ H G [] Al.refl ⟨rfl,.tup h r⟩ (by simp)⟩⟩
 ·cases e
  obtain ⟨v,rfl,d1⟩:=hd.one;cases d1 with
  | kt h r=>exact ⟨_,_,rfl,.inr ⟨h.sq,k _ H G [] Al.refl ⟨rfl,.kt h r⟩ (by simp)⟩⟩
 ·cases e
@[simp] def zFK:List D->Option SV
 | [.int i,.int j]=>some (.sh (.int (if j > i then j else i)))
 | _=>none
@[simp] def zFL:List D->Option SV
 | [.int i,.int j]=>some (.sh (.int (if j < i then j else i)))
 | _=>none
@[simp] def zCj:List D->Option SV
 | [.int i]=>some (.sh (.int i))
 | [.bl b]=>some (.sh (.int (if b then 1 else 0)))
 | _=>none
theorem zDe:ziH B (λxs H Q=>(∃ i,xs=[.int i]/\Q (.int i) H)\/∃ k,xs=[.bl k]/\Q (.int (if k then 1 else 0)) H) zCj:=by
 intro H G vs ds z Q hg hd e k;unfold zCj at e;split at e
 ·cases e
  obtain ⟨v,rfl,d1⟩:=hd.one;cases d1
  exact .inl ⟨_,rfl,k _ H G [] Al.refl ⟨rfl,.int _⟩ (by simp)⟩
 ·cases e
  obtain ⟨v,rfl,d1⟩:=hd.one;cases d1
  exact .inr ⟨_,rfl,k _ H G [] Al.refl ⟨rfl,.int _⟩ (by simp)⟩
 ·cases e
end
section
variable {B:Bk} {ta tb te:TE} {L L' La Lb:List Nat} {ma mb md:FSt->Option D} {me:FSt->Option SV} {tr:TA} {mr:FSt->Option (List D)} {K:W.Frag}
theorem FE.wk (h:FE B ta L me) (hl:∀ i,i∈L->i∈L'):FE B ta L' me:=by
 intro S σ H F os Q x r e k;refine h S σ H F os Q x r e λv H' F' o a r' va fr=>k v H' F' o a r' (va.sub (zdB (λ_ h=>h) hl) λb e q=>?_) fr;rcases q with q | ⟨i,_,q⟩
 ·exact (va.alive e).2.1 (.inl q)
 ·exact (r.alive q).1 (fr b e)
theorem FD.wk (h:FD B ta L ma) (hl:∀ i,i∈L->i∈L'):FD B ta L' ma:=by
 intro S σ H F os Q x r e k;exact h S σ H F os Q x r e λv H' F' a r' da=>k v H' F' a r' (da.mono (λ_ _ _ e=>e) (zdB (λ_ h=>h) hl))
theorem zhs {L L':List Nat} (h:(L.all λi=>L'.contains i)=true):∀ i,i∈L->i∈L':=λi hi=>by
 have:=List.all_eq_true.mp h i hi
 simpa using this
theorem zwk {i:Nat} (L':List Nat) (he:FE B te L me) (hl:(L.all λi=>L'.contains i)=true:=by rfl):FS B (zzU te (zru i)) (zcU i L' me):=zAK (he.wk (zhs hl))
theorem zAZ {i:Nat} (L':List Nat) (hK:B.K=K) (he:FD B te L md) (hl:(L.all λi=>L'.contains i)=true:=by rfl):FS B (zmh (tBM K "list" zoe (zp5 i) (zmZ te zxd))) (zuh i L' md):=zAL hK (he.wk (zhs hl))
theorem zA0 {i:Nat} (L':List Nat) (hk:FD B tb Lb mb) (hv:FD B te L md) (hl:(L.all λi=>L'.contains i)=true:=by rfl):FS B (zxr (zp5 i) tb te) (zzt i L' mb md):=zAX hk (hv.wk (zhs hl))
theorem zwl (L':List Nat) (hK:B.K=K) (he:FE B te L me) (hl:(L.all λi=>L'.contains i)=true:=by rfl):FI B (zuM K te) (mIt L' me):=zsk hK (he.wk (zhs hl))
@[simp] def zE7:SV->Option (List D)
 | .li xs=>some xs
 | _=>none
@[simp] def mLs (a:FSt->Option SV) (r:FSt->Option (List (List D))):FSt->Option (List (List D)):=λS=>(a S).bind λx=>(zE7 x).bind λxs=>(r S).map λxss=>xs :: xss
@[simp] def zFM:FSt->Option (List (List D)):=λ_=>some []
@[simp] def mLl (r:FSt->Option (List (List D))):FSt->Option SV:=λS=>(r S).bind λxss=>if xss.length<=sizeLine then some (.ll xss) else none
@[simp] def zEz (i:Nat) (mk md:FSt->Option D):FSt->Fl:=λS=>match S[i]?,mk S,md S with
 | some (some (.ll xss)),some (.int k),some d=>if d.plain=true then (match ixN xss.length k with
   | some j=>match xss[j]? with
    | some xs=>if xs.length < sizeLine then .nx (S.set i (some (.ll (xss.set j (xs++[d]))))) else .bad
    | none=>.bad
   | none=>.bad) else .bad
 | _,_,_=>.bad
end
@[simp] def zzu (L:List Nat) (me:FSt->Option SV) (mg:D->FSt->Option FSt):FSt->Fl:=λS=>match me S with
 | some x=>if x.plain=true then (match mg x.fr S with | some S'=>.nx S' | none=>.bad) else if L.any (zeg S)=false then (match mg x.fr (frzs L S) with | some S'=>.nx S' | none=>.bad) else .bad
 | none=>.bad
section
variable {B:Bk} {te:TE} {L:List Nat} {me:FSt->Option SV} {g:TG} {mg:D->FSt->Option FSt}
theorem zA1 (he:FE B te L me) (hg:FG B g mg):FS B (zzU te g) (zzu L me mg):=by
 intro S σ H F os E r h;unfold zzu at h;cases q:me S with
 | none=>rw [q] at h; exact h.elim
 | some x=>
  rw [q] at h;dsimp only at h;refine he S σ H F os _ x r q λv H' F' o a r' va fr=>?_;have al:∀ {F0:Addr->Prop},Al H F0 H' F'->Al H F0 H' (λb=>F' b\/b∈o):=λ{F0} a=>⟨a.same,λb z=>.inl (a.up b z),λb z=>by
   rcases z with z | z
   ·exact a.new b z
   ·exact .inr (.inl ⟨fr b z,(va.alive z).1⟩)⟩
  have r2:=r.mono (al a);have st:FStep σ S H F os σ S H' (λb=>F' b\/b∈o) os:=(al a).step;split at h
  ·rename_i p
   have va':=va.toF r' p;have da:DA B H' (λb=>F' b\/b∈o) v x.fr:=va'.frozen (λb z=>.inl z) λb z=>.inr z;split at h
   ·rename_i S' e
    exact hg S σ H' _ os v x.fr S' _ r2 da e λσ' os' st2 r3=>h σ' H' _ os' (st.trans st2) r3
   ·exact h.elim
  ·split at h
   ·rename_i nl
    have r3:=r2.frz L;have da:DA B H' (orF (λb=>F' b\/b∈o) (osL os L)) v x.fr:=va.frozen (λb z=>by
     rcases z with z | z
     ·exact .inl (.inl z)
     ·exact .inr z) λb z=>.inl (.inr z)
    split at h
    ·rename_i S' e
     exact hg _ σ H' _ _ v x.fr S' _ r3 da e λσ' os' st2 r4=>h σ' H' _ os' ((st.trans (zh6 r2 nl)).trans st2) r4
    ·exact h.elim
   ·exact h.elim
end
@[simp] noncomputable def mR1 (mr:FSt->Option (List D)):FSt->Option (List D):=λS=>(mr S).bind λds=>if ds.length=1 then zqm ds else none
@[simp] noncomputable def mR2 (mr:FSt->Option (List D)):FSt->Option (List D):=λS=>(mr S).bind λds=>if ds.length=2 then zqm ds else none
section
variable {B:Bk} {tr:TA} {L:List Nat} {mr:FSt->Option (List D)}
theorem zx5 (hr:FA B tr L mr):FI B (zw7 tr) (mR1 mr):=zxT hr
theorem zx6 (hr:FA B tr L mr):FI B (zw8 tr) (mR2 mr):=zxU hr
end
theorem zaj {m:FSt->Fl} {n k:Nat}:∀ ds z,zcA m n k ds=some z->ds.length=n:=λ_ _ h=>zuZ h
theorem Fun.okF {P : Program} {w : World} {K : W.Frag} {mg : Str -> Option Value} {base : Heap} {x qual : Str} {st : Stmt} {f : Addr} {fd : FuncData} {N ps : List Str} {k : Nat} {B : Bk} {m : FSt -> Fl} (F : Fun K x qual st f fd) (S : FnScope N ps (zae st))
    (hbody : ∀ (cdv : Value) (A : Around) (outer : List Env) (s : Shared) (H : Hp) (E : XK), Room k (A.deeper (envOfC qual (zae st) s.heap.objs.size f cdv)) ->
      ∃ t, PSs (zoc CX0 P w K mg base N qual (zae st) f cdv A outer s H E).nox (zb5 st) t /\ FS B t m) : FnOk P w K mg base CX0 (k + 1) f fd ps (SpF B ps.length (zcA m ps.length N.length)) := by
  obtain ⟨oc, od, kV, doc, pm, an, cdv, ct, osl, rfl, lk, hcd⟩ := F.ex;refine zE6 lk hcd S λA outer s H E hr => ?_;obtain ⟨t, h, q⟩ := hbody cdv A outer s H E hr;exact ⟨t, h.nox, q⟩
def znm (K:W.Frag):Sp:=λvs H Q _=>∃ (a:Addr) (ns:List Int),vs=[.ref a]/\SqL K H a (ns.map V.int)/\zCf H/\ns.length<=63/\∀ H',Q (.bl true) H'
theorem zsA {B:Bk} {H:Hp} {G:Addr->Prop}:∀ ns:List Int,DAs B H G (ns.map V.int) (ns.map D.int)
 | []=>.nil
 | n :: ns=>.cons (.int n) (zsA ns)
theorem zsB {K:W.Frag} {B:Bk} {f:List D->Option SV} (hK:B.K=K) (h:∀ ns:List Int,ns.length<=63->f [.fz (ns.map D.int)]=some (.sh (.bl true))):∀ vs H Q E,znm K vs H Q E->SpF B 1 f vs H Q E:=by
 subst hK;rintro vs H Q E ⟨a,ns,rfl,hs,ho,hl,k⟩;refine ⟨rfl,λb=>H b≠none,[.fz (ns.map D.int)],.sh (.bl true),λ_ z=>z,.cons (.fz ?_ (zsA ns)) .nil,h ns hl,λv H' G' o _ va _=>?_⟩
 ·rcases hs with (hs | ⟨o,hs⟩) | hs
  ·rcases ho a with z | ⟨o,xs,z⟩
   ·rw [hs] at z; cases z
   ·rw [hs] at z; cases z
  ·exact .inl ⟨by show H a≠none; rw [hs]; simp,o,hs⟩
  ·exact .inr hs
 ·obtain ⟨_,da⟩:=va;cases da
  exact k H'
section
variable {B:Bk} {te:TE} {L:List Nat} {md:FSt->Option D} {K:W.Frag}
theorem VA.fields {H:Hp} {F:Addr->Prop} {v:V} {x:SV} {o:List Addr} {c:Nat} {fs:List (Str×D)} (h:VA B H F v x o) (e:x.fr=.ins c fs):∃ a dx ws,v=.ref a/\H a=some (.ins (B.cl c) dx ws)/\ws.map (·.1)=fs.map (·.1)/\DAs B H F (ws.map (·.2)) (fs.map (·.2)):=by
 cases x with
 | sh d=>
  obtain ⟨_,da⟩:=h;cases e
  cases da with
  | ins f hh he r=>exact ⟨_,_,_,rfl,hh,he,r⟩
 | ob c' fs'=>
  cases e
  obtain ⟨a,dx,ws,rfl,_,_,hh,he,r⟩:=h;exact ⟨a,dx,ws,rfl,hh,he,r⟩
 | _=>cases e
theorem zx7 {cs:List Nat} {f:Str} {i:Nat} (hK:B.K=K) (hc:∀ c∈cs,Cls B.K (B.cl c)/\NoAttr B.K (B.cl c) f):FD B (zCK K (zp5 i) f) [] (m1 (zhn cs f) (mV i)):=by
 subst hK;intro S σ H F os Q z r e k;obtain ⟨d,ed,ef⟩:=zbW e;cases d with
 | ins c fs=>
  have ef:(if c∈cs then fs.lookup f else none)=some z:=ef;split at ef
  ·rename_i h
   unfold mV at ed;cases q:S[i]? with
   | none=>rw [q] at ed; cases ed
   | some y=>cases y with
    | none=>rw [q] at ed; cases ed
    | some x=>
     rw [q] at ed;have ed:x.fr=.ins c fs:=Option.some.inj ed;obtain ⟨v,h1,h2⟩:=r.at' i x q;obtain ⟨a,dx,ws,rfl,hh,he,rr⟩:=h2.fields ed;obtain ⟨w,e1,e2⟩:=(zhd he rr f).1 z ef;exact ⟨.ref a,h1,a,_,dx,ws,w,rfl,hh,(hc c h).1,(hc c h).2,e1,k w H F Al.refl r (e2.mono (λ_ _ _ e=>e) λ_ z=>.inl z)⟩
  ·cases ef
 | _=>cases ef
def zky (f:Str) (v:D):List (Str×D)->List (Str×D)
 | []=>[(f,v)]
 | (g,x) :: r=>if g=f then (g,v) :: r else (g,x) :: zky f v r
theorem zmv {H:Hp} {G:Addr->Prop} {f:Str} {v:V} {d:D} (h:DA B H G v d):∀ {ws:List (Str×V)} {fs:List (Str×D)},ws.map (·.1)=fs.map (·.1)->DAs B H G (ws.map (·.2)) (fs.map (·.2))->
  (zj9 f v ws).map (·.1)=(zky f d fs).map (·.1)/\DAs B H G ((zj9 f v ws).map (·.2)) ((zky f d fs).map (·.2))
 | [],[],_,_=>⟨rfl,.cons h .nil⟩
 | [],_ :: _,e,_=>by simp at e
 | _ :: _,[],e,_=>by simp at e
 | (g,x) :: ws,(g',y) :: fs,e,r=>by
  simp only [List.map_cons,List.cons.injEq] at e r;obtain ⟨e1,e2⟩:=e;subst e1;cases r with
  | cons h1 r=>
   obtain ⟨i1,i2⟩:=zmv h e2 r
   by_cases c:g=f
   ·simp only [zj9,zky,if_pos c,List.map_cons];exact ⟨by rw [e2],.cons h r⟩
   ·simp only [zj9,zky,if_neg c,List.map_cons];exact ⟨by rw [i1],.cons h1 i2⟩
@[simp] def zlu (i:Nat) (cs:List Nat) (f:Str) (L:List Nat) (md:FSt->Option D):FSt->Fl:=λS=>match md S with
 | some d=>if d.plain=true\/L.any (zeg S)=false then
   match (if d.plain=true then S else frzs L S)[i]? with
   | some (some (.ob c fs))=>if c∈cs/\fs.length < 1000 then .nx ((if d.plain=true then S else frzs L S).set i (some (.ob c (zky f d fs)))) else .bad
   | _=>.bad
  else .bad
 | none=>.bad
theorem zA2 {cs:List Nat} {f:Str} {i:Nat} (hK:B.K=K) (hc:∀ c∈cs,Cls B.K (B.cl c)/\NoAttr B.K (B.cl c) f) (he:FD B te L md):FS B (zCe K (zp5 i) te f) (zlu i cs f L md):=by
 subst hK;intro S σ H F os E r h;unfold zlu at h;cases q:md S with
 | none=>rw [q] at h; exact h.elim
 | some d=>
  rw [q] at h;dsimp only at h;split at h
  case isFalse=>exact h.elim
  case isTrue c0=>
   split at h
   case h_2=>exact h.elim
   case h_1 c fs hx=>
    split at h
    case isFalse=>exact h.elim
    case isTrue hz=>
     have hS:S[i]? = some (some (.ob c fs))/\(d.plain=true\/i∉L):=by
      by_cases p:d.plain=true
      ·rw [if_pos p] at hx; exact ⟨hx,.inl p⟩
      ·rw [if_neg p,zcd] at hx
       by_cases hi:i∈L
       ·rw [if_pos hi] at hx;cases e:S[i]? with
        | none=>rw [e] at hx; cases hx
        | some z=>cases z with
         | none=>rw [e] at hx; cases hx
         | some y=>rw [e] at hx; cases hx
       ·rw [if_neg hi] at hx; exact ⟨hx,.inr hi⟩
     obtain ⟨v,hv,_⟩:=r.at' i _ hS.1;refine he S σ H F os _ d r q λw H' F' al r' da=>⟨v,hv,?_⟩
     obtain ⟨v',hv',a,dx,ws,e1,eo,nf,hh,en,das⟩:=r'.at' i _ hS.1;rw [hv] at hv'; cases hv'; subst e1
     have hlen:ws.length < 1000:=by have:=congrArg List.length en; simp at this; omega
     refine ⟨a,_,dx,ws,rfl,hh,(hc c hz.1).1,(hc c hz.1).2,hlen,?_⟩;have st1:FStep σ S H F os σ S H' F' os:=al.step;have em:a∈os i:=by rw [eo]; simp
     by_cases p:d.plain=true
     ·rw [if_pos p] at h;have da':=da.toF r' p;have hk:∀ b o,F' b->H' b=some o->upd H' a (.ins (B.cl c) dx (zj9 f w ws)) b=some o:=λb o f h=>by rw [zaW]; exact h; rintro rfl; exact nf f
      obtain ⟨p1,p2⟩:=zmv (f:=f) da' en das;have r2:=r'.write (u:=.ins (B.cl c) dx (zj9 f w ws)) (x:=.ob c (zky f d fs)) em hv ⟨a,dx,_,rfl,eo,nf,zaS,p1,p2.mono hk λ_ h=>h⟩;exact h σ _ F' os (st1.trans (zdc em (.inr (.inl ⟨c,fs,_,hS.1,rfl⟩)))) r2
     ·rw [if_neg p] at h;have hi:=hS.2.resolve_left p;have c':=c0.resolve_left p;have r1:=r'.frz L;have eo1:(λj=>if j∈L then [] else os j) i=[a]:=by show (if i∈L then [] else os i)=_; rw [if_neg hi]; exact eo
      have em1:a∈(λj=>if j∈L then [] else os j) i:=by rw [eo1]; simp
      have nf1:¬ orF F' (osL os L) a:=λz=>by
       rcases z with z | ⟨k,hk,z⟩
       ·exact nf z
       ·exact hi (r.inj i k a em z▸hk)
      have hk:∀ b o,orF F' (osL os L) b->H' b=some o->upd H' a (.ins (B.cl c) dx (zj9 f w ws)) b=some o:=λb o f h=>by rw [zaW]; exact h; rintro rfl; exact nf1 f
      have das0:DAs B H' (orF F' (osL os L)) (ws.map (·.2)) (fs.map (·.2)):=das.mono (λ_ _ _ e=>e) λ_ z=>.inl z;obtain ⟨p1,p2⟩:=zmv (f:=f) da en das0;have r2:=r1.write (u:=.ins (B.cl c) dx (zj9 f w ws)) (x:=.ob c (zky f d fs)) em1 hv ⟨a,dx,_,rfl,eo1,nf1,zaS,p1,p2.mono hk λ_ h=>h⟩;have e1:(frzs L S)[i]? = some (some (.ob c fs)):=by rw [zcd,if_neg hi]; exact hS.1
      exact h σ _ _ _ ((st1.trans (zh6 r' c')).trans (zdc em1 (.inr (.inl ⟨c,fs,_,e1,rfl⟩)))) r2
theorem zA3 {cs:List Nat} {f:Str} {i:Nat} (L':List Nat) (hK:B.K=K) (hc:∀ c∈cs,Cls B.K (B.cl c)/\NoAttr B.K (B.cl c) f) (he:FD B te L md) (hl:(L.all λi=>L'.contains i)=true:=by rfl):FS B (zCe K (zp5 i) te f) (zlu i cs f L' md):=zA2 hK hc (he.wk (zhs hl))
end
def SpI (B:Bk) (n:Nat) (f:Nat->List D->Option (List (Str×D))):Sp:=λvs H Q _=>vs.length=n/\∃ (G:Addr->Prop) (c:Nat) (x dx:Addr) (vs':List V) (ds:List D) (fs:List (Str×D)),vs=.ref x :: vs'/\(∀ b,G b->H b≠none)/\¬ G x/\
 H x=some (.ins (B.cl c) dx [])/\DAs B H G vs' ds/\f c ds=some fs/\∀ H' G' dx' ws,(∀ b u,H b=some u->b≠x->H' b=some u)->(∀ b,G b->G' b)->(∀ b,G' b->G b\/(H b=none/\H' b≠none)\/isT H b)->¬ G' x->
  H' x=some (.ins (B.cl c) dx' ws)->ws.map (·.1)=fs.map (·.1)->DAs B H' G' (ws.map (·.2)) (fs.map (·.2))->Q .non H'
def zrk (m:FSt->Fl) (n k:Nat) (c:Nat) (ds:List D):Option (List (Str×D)):=if ds.length+1=n then (match m (some (.ob c []) :: (ds.map (λd=>some (.sh d))++List.replicate (k-n) none)) with
 | .nx S=>match S[0]? with
  | some (some (SV.ob c' fs))=>if c'=c then some fs else none
  | _=>none
 | _=>none) else none
theorem zpp {m:FSt->Fl} {n k c:Nat} {ds:List D} {z:List (Str×D)} (h:zrk m n k c ds=some z):ds.length+1=n:=by
 unfold zrk at h;split at h
 ·assumption
 ·cases h
theorem zqs {B:Bk} {H:Hp} {G:Addr->Prop} {N:List Str} {vs:List V} {ds:List D} {x dx:Addr} {c:Nat} (hg:∀ b,G b->H b≠none) (hx:¬ G x) (hh:H x=some (.ins (B.cl c) dx [])) (da:DAs B H G vs ds) (hn:vs.length+1<=N.length) :
  Rep B H G (zh1 N (.ref x :: vs)) (some (.ob c []) :: (ds.map (λd=>some (.sh d))++List.replicate (N.length-(ds.length+1)) none)) (λi=>if i=0 then [x] else []):=by
 have hs:zh1 N (.ref x :: vs)=some (.ref x) :: (vs.map some++List.replicate (N.length-(vs.length+1)) none):=rfl;refine ⟨λi y h=>?_,λi h=>?_,λi j a e1 e2=>?_,hg,?_⟩
 ·cases i with
  | zero=>
   cases h
   exact ⟨.ref x,by rw [hs]; rfl,x,dx,[],rfl,rfl,hx,hh,rfl,.nil⟩
  | succ i=>
   rw [hs];rw [List.getElem?_cons_succ] at h ⊢
   by_cases hi:i < ds.length
   ·rw [List.getElem?_append_left (by simpa using hi),List.getElem?_map] at h;cases q:ds[i]? with
    | none=>rw [q] at h; cases h
    | some d=>
     rw [q] at h; cases h
     obtain ⟨v,e,da'⟩:=da.get q;refine ⟨v,?_,rfl,da'⟩;rw [List.getElem?_append_left (by simp; rw [da.length]; exact hi),List.getElem?_map,e]; rfl
   ·rw [List.getElem?_append_right (by simpa using hi)] at h;rw [List.getElem?_replicate] at h;split at h <;> cases h
 ·cases i with
  | zero=>exact absurd rfl (h _)
  | succ i=>rfl
 ·have e1:a∈(if i=0 then [x] else []):=e1;have e2:a∈(if j=0 then [x] else []):=e2;split at e1
  ·split at e2
   ·omega
   ·simp at e2
  ·simp at e1
 ·rw [hs];have:=da.length;simp;omega
theorem Fun.okI {P : Program} {w : World} {K : W.Frag} {mg : Str -> Option Value} {base : Heap} {x qual : Str} {st : Stmt} {f : Addr} {fd : FuncData} {N ps : List Str} {k : Nat} {B : Bk} {m : FSt -> Fl} (F : Fun K x qual st f fd) (S : FnScope N ps (zae st))
    (hbody : ∀ (cdv : Value) (A : Around) (outer : List Env) (s : Shared) (H : Hp) (E : XK), Room k (A.deeper (envOfC qual (zae st) s.heap.objs.size f cdv)) ->
      ∃ t, PSs (zoc CX0 P w K mg base N qual (zae st) f cdv A outer s H E).nox (zb5 st) t /\ FS B t m) : FnOk P w K mg base CX0 (k + 1) f fd ps (SpI B ps.length (zrk m ps.length N.length)) := by
  obtain ⟨oc, od, kV, doc, pm, an, cdv, ct, osl, rfl, lk, hcd⟩ := F.ex;have hpl : ps.length <= N.length := by have := congrArg List.length S.pre; rw [List.length_take] at this; omega
  refine zxg lk hcd S (λvs H Q E h => h.1) λA outer s H vs Q E hr ⟨hl, G, c, x, dx, vs', ds, fs, e0, hg, hx, hh, da, hz, post⟩ => ?_;subst e0;obtain ⟨t, ht, hf⟩ := hbody cdv A outer s H E hr;refine ⟨t, ht.nox, ?_⟩;have hdl := zpp hz;have hvl : vs'.length + 1 <= N.length := by simp at hl; omega
  refine hf _ _ H G _ _ (zqs hg hx hh da hvl) ?_;unfold zrk at hz;rw [if_pos hdl] at hz;rw [hdl];cases q : m (some (.ob c []) :: (ds.map (λd => some (.sh d)) ++ List.replicate (N.length - ps.length) none)) with
  | nx S' =>
    rw [q] at hz;dsimp only at hz;intro σ' H' F' os' st r';obtain ⟨⟨fs', hS⟩, hσ⟩ := st.lob 0 c [] rfl;rw [hS] at hz;simp only [if_pos rfl, if_true] at hz;cases hz
    obtain ⟨v, hv, a, dx', ws, e1, eo, nf, hh', en, das⟩ := r'.at' 0 _ hS;rw [hσ] at hv;have : v = .ref x := by
      have h0 : (zh1 N (V.ref x :: vs'))[0]? = some (some (.ref x)) := rfl;rw [h0] at hv;exact (Option.some.inj (Option.some.inj hv)).symm
    subst this;cases e1
    refine post H' F' dx' ws (λb u e ne => st.keep b u e λi z => ?_) st.up (λb z => ?_) nf hh' en das
    · have z : b ∈ (if i = 0 then [x] else []) := z
      split at z
      · exact ne (List.mem_singleton.mp z)
      · simp at z
    · rcases st.new b z with z1 | z1 | ⟨i, z1⟩ | z1
      · exact .inl z1
      · exact .inr (.inl ⟨z1, r'.fd b z⟩)
      · have z1 : b ∈ (if i = 0 then [x] else []) := z1
        split at z1
        · rw [List.mem_singleton.mp z1] at z; exact absurd z nf
        · simp at z1
      · exact .inr (.inr z1)
  | rt x => rw [q] at hz; cases hz
  | bk S' => rw [q] at hz; cases hz
  | ct S' => rw [q] at hz; cases hz
  | bad => rw [q] at hz; cases hz
@[simp] def zib (c:Nat) (f:Nat->List D->Option (List (Str×D))) (mr:FSt->Option (List D)):FSt->Option SV:=λS=>(mr S).bind λds=>(f c ds).map λfs=>.sh (.ins c fs)
section
variable {B:Bk} {tr:TA} {L:List Nat} {mr:FSt->Option (List D)}
theorem zx8 {c n:Nat} {C:Addr} {f:Nat->List D->Option (List (Str×D))} {E:XK} (hC:B.cl c=C) (hf:∀ c ds z,f c ds=some z->ds.length+1=n) (hr:FA B tr L mr):FE B (zz9 C (SpI B n f) [] E tr) L (zib c f mr):=by
 subst hC;intro S σ H F os Q z rp e k;obtain ⟨ds,ed,ef⟩:=zbW e;rw [Option.map_eq_some_iff] at ef;obtain ⟨fs,ef,rfl⟩:=ef;refine hr S σ H F os _ ds rp ed λvs H1 F1 a1 r1 d1 x dx hx hdx hne=>?_;have sm:zCP H1 (upd (upd H1 dx (.own x)) x (.ins (B.cl c) dx [])):=λb u e=>by
  rw [zaW (zcq e hx),zaW (zcq e hdx)]; exact e
 have hl:(V.ref x :: (vs++[])).length=n:=by rw [List.append_nil,List.length_cons,d1.length]; exact hf _ _ _ ef
 refine ⟨hl,orF F1 (osL os L),c,x,dx,vs++[],ds,fs,rfl,λb z=>?_,λz=>r1.gd L x z hx,zaS,by rw [List.append_nil]; exact d1.mono (λb o _ e=>sm b o e) λ_ z=>z,ef,λH' G' dx' ws kp up new nx hh en das=>⟨rfl,?_⟩⟩
 ·cases q:H1 b with
  | none=>exact absurd q (r1.gd L b z)
  | some u=>rw [sm b u q]; simp
 ·have al:Al H1 (orF F1 (osL os L)) H' (λb=>G' b\/b=x):=by
   refine ⟨λb u e=>kp b u (sm b u e) (zcq e hx),λb z=>.inl (up b z),λb z=>?_⟩;rcases z with z | rfl
   ·rcases new b z with z | z | ⟨ys,z⟩
    ·exact .inl z
    ·refine .inr (.inl ⟨?_,z.2⟩);cases q:H1 b with
     | none=>rfl
     | some u=>rw [sm b u q] at z; cases z.1
    ·by_cases q1:b=x
     ·subst q1; rw [zaS] at z; cases z
     ·by_cases q2:b=dx
      ·subst q2; rw [zaW q1,zaS] at z; cases z
      ·rw [zaW q1,zaW q2] at z; exact .inr (.inr ⟨ys,z⟩)
   ·exact .inr (.inl ⟨hx,by rw [hh]; simp⟩)
  obtain ⟨F2,al2,r2,q,_⟩:=r1.split al;refine k (.ref x) H' F2 [] (a1.trans al2) r2 ⟨rfl,.ins (q x (.inr rfl)) hh en (das.mono (λ_ _ _ e=>e) λb z=>q b (.inl z))⟩ λa ha=>absurd ha (by simp)
theorem zcm {m:FSt->Fl} {n k:Nat}:∀ c ds z,zrk m n k c ds=some z->ds.length+1=n:=λ_ _ _ h=>zpp h
end
def MtE (B:Bk) (K:W.Frag) (T:String) (r:V->List V->Hp->VK->Prop) (f:D->List D->Option SV):Prop:=∀ (H:Hp) (G:Addr->Prop) (x:V) (vs:List V) (dx:D) (ds:List D) (z:SV) (Q:VK),(∀ b,G b->H b≠none)->DA B H G x dx->DAs B H G vs ds->f dx ds=some z->
 (∀ v H' G' o,Al H G H' G'->VA B H' G' v z o->(∀ a,a∈o->H a=none)->Q v H')->r x vs H Q
def MtT (B:Bk) (K:W.Frag) (T:String) (f:D->List D->Option SV):Prop:=∀ (H:Hp) (G:Addr->Prop) (x:V) (dx:D) (ds:List D) (z:SV),DA B H G x dx->f dx ds=some z->tyV K T x H
@[simp] def mBM (f:D->List D->Option SV) (a:FSt->Option D) (r:FSt->Option (List D)):FSt->Option SV:=λS=>(a S).bind λx=>(r S).bind λds=>f x ds
section
variable {B:Bk} {K:W.Frag} {ta:TE} {La Lb L:List Nat} {ma:FSt->Option D} {tr:TA} {mr:FSt->Option (List D)}
theorem zDf {T:String} {r:V->List V->Hp->VK->Prop} {f:D->List D->Option SV} (ht:MtT B K T f) (ho:MtE B K T r f) (ha:FD B ta La ma) (hr:FA B tr Lb mr):FE B (tBM K T r ta tr) (La++Lb) (mBM f ma mr):=by
 intro S σ H F os Q z rp e k;obtain ⟨d,ds,ed,er,ef⟩:=zkt e;refine ha S σ H F os _ d rp ed λv H1 F1 a1 r1 d1=>⟨ht H1 _ v d ds z d1 ef,hr S σ H1 F1 os _ ds r1 er λvs H2 F2 a2 r2 d2=>?_⟩
 refine ho H2 (orF F2 (osL os (La++Lb))) v vs d ds z Q (r2.gd _) (d1.later a2 λi h=>List.mem_append_left _ h) (d2.later Al.refl λi h=>List.mem_append_right _ h) ef λu H3 G3 o a3 va fr=>?_;obtain ⟨F3,al,r3,va2⟩:=zeU r2 a3 va fr;refine k u H3 F3 o ((a1.trans a2).trans al) r3 va2 λb e=>?_;cases q:H b with
 | none=>rfl
 | some w=>have:=fr b e; rw [(a1.trans a2).same b w q] at this; cases this
theorem zA4 {T:String} {r:V->List V->Hp->VK->Prop} {f:D->List D->Option SV} (ht:MtT B K T f) (ho:MtE B K T r f) (ha:FD B ta La ma):FE B (zAg K T r ta) La (mBM f ma zam):=by
 intro S σ H F os Q z rp e k;obtain ⟨d,ds,ed,er,ef⟩:=zkt e;cases er
 refine ha S σ H F os _ d rp ed λv H1 F1 a1 r1 d1=>⟨ht H1 _ v d [] z d1 ef,?_⟩
 refine ho H1 (orF F1 (osL os La)) v [] d [] z Q (r1.gd _) d1 .nil ef λu H3 G3 o a3 va fr=>?_;obtain ⟨F3,al,r3,va2⟩:=zeU r1 a3 va fr;refine k u H3 F3 o (a1.trans al) r3 va2 λb e=>?_;cases q:H b with
 | none=>rfl
 | some w=>have:=fr b e; rw [a1.same b w q] at this; cases this
@[simp] def zlK:List D->Option (List Str)
 | []=>some []
 | .str z :: r=>(zlK r).map λzs=>z :: zs
 | _=>none
theorem zmw {H:Hp} {G:Addr->Prop}:∀ {vs:List V} {ds:List D} {zs:List Str},DAs B H G vs ds->zlK ds=some zs->vs=zs.map V.str
 | _,_,_,.nil,e=>by cases e; rfl
 | _,_,_,.cons h r,e=>by
  cases h with
  | str x=>
   simp only [zlK,Option.map_eq_some_iff] at e;obtain ⟨zs,e1,rfl⟩:=e;rw [zmw r e1]; rfl
  | _=>cases e
@[simp] def znn:D->List D->Option SV
 | .str z,[.lst ds]=>(zlK ds).bind λzs=>if (zs.map (·.length)).sum+zs.length*z.length<=16777216 then some (.sh (.str (Txt.join z zs))) else none
 | _,_=>none
theorem zA5:MtT B K "str" znn:=by
 intro H G x dx ds z d e;cases d with
 | str x=>rfl
 | _=>cases e
theorem zu5 (hK:B.K=K):MtE B K "str" (zxw K) znn:=by
 subst hK;intro H G x vs dx ds z Q hg d d2 e k;unfold znn at e;split at e
 ·obtain ⟨zs,e1,e2⟩:=zbW e;split at e2
  ·cases e2
   obtain ⟨v,rfl,d3⟩:=d2.one;cases d
   cases d3 with
   | lst h r=>
    have:=zmw r e1;subst this;exact ⟨_,_,zs,rfl,rfl,h.sq,by assumption,k _ H G [] Al.refl ⟨rfl,.str _⟩ (by simp)⟩
  ·cases e2
 ·cases e
@[simp] def zjy:D->List D->Option SV
 | .lst ds,[.str z]=>(zlK ds).bind λzs=>if zs.idxOf z < zs.length then some (.sh (.int (zs.idxOf z:Nat))) else none
 | _,_=>none
theorem zx9:MtT B K "list" zjy:=by
 intro H G x dx ds z d e;cases d with
 | lst h r=>exact .inl ⟨rfl,_,.inl (.inl h.2)⟩
 | _=>cases e
theorem zsC (hK:B.K=K):MtE B K "list" (zwb K) zjy:=by
 subst hK;intro H G x vs dx ds z Q hg d d2 e k;unfold zjy at e;split at e
 ·rename_i ys w
  obtain ⟨zs,e1,e2⟩:=zbW e;split at e2
  ·rename_i hl
   cases e2
   obtain ⟨v,rfl,d3⟩:=d2.one;cases d3
   cases d with
   | lst h r=>
    have:=zmw r e1;subst this;refine ⟨_,zs,w,zs.idxOf w,rfl,rfl,h.sq,?_,λm hm hz=>?_,k _ H G [] Al.refl ⟨rfl,.int _⟩ (by simp)⟩
    ·rw [List.getElem?_eq_getElem hl,List.getElem_idxOf]
    ·have:=List.not_of_lt_findIdx (p:=(·==w)) (xs:=zs) (i:=m) hm;rw [List.getElem?_eq_getElem (by omega)] at hz;have hz:=Option.some.inj hz;simp [hz] at this
  ·cases e2
 ·cases e
@[simp] def zkz:D->List D->Option SV
 | .int i,[]=>some (.sh (.int ((Builtin.Int.intBits i:Nat):Int)))
 | _,_=>none
theorem zu6:MtT B K "int" zkz:=by
 intro H G x dx ds z d e;cases d with
 | int x=>rfl
 | _=>cases e
theorem zqt:MtE B K "int" zr3 zkz:=by
 intro H G x vs dx ds z Q hg d d2 e k;unfold zkz at e;split at e
 ·cases e; cases d; cases d2
  exact ⟨_,rfl,rfl,k _ H G [] Al.refl ⟨rfl,.int _⟩ (by simp)⟩
 ·cases e
@[simp] def zA6:List D->Option (List Bool)
 | []=>some []
 | .bl z :: r=>(zA6 r).map λzs=>z :: zs
 | _=>none
theorem zwm {H:Hp} {G:Addr->Prop}:∀ {vs:List V} {ds:List D} {zs:List Bool},DAs B H G vs ds->zA6 ds=some zs->vs=zs.map V.bl
 | _,_,_,.nil,e=>by cases e; rfl
 | _,_,_,.cons h r,e=>by
  cases h with
  | bl x=>
   simp only [zA6,Option.map_eq_some_iff] at e;obtain ⟨zs,e1,rfl⟩:=e;rw [zwm r e1]; rfl
  | _=>cases e
@[simp] def zCk:List D->Option SV
 | [.lst ds]=>(zA6 ds).map λbs=>.sh (.bl (bs.all id))
 | _=>none
theorem zDg (hK:B.K=K):ziH B (zEh K) zCk:=by
 subst hK;intro H G vs ds z Q hg hd e k;unfold zCk at e;split at e
 ·rw [Option.map_eq_some_iff] at e;obtain ⟨bs,e1,rfl⟩:=e;obtain ⟨v,rfl,d1⟩:=hd.one;cases d1 with
  | lst h r=>
   have:=zwm r e1;subst this;exact ⟨_,bs,rfl,h.sq,k _ H G [] Al.refl ⟨rfl,.bl _⟩ (by simp)⟩
 ·cases e
@[simp] def zFN:List D->Option SV
 | [.int i]=>if i.natAbs.log2 < 1920 then some (.sh (.str (toString i))) else none
 | _=>none
@[simp] def zE8:List D->Option SV
 | [.int i]=>if i.natAbs.log2 < 1920 then some (.sh (.str (toString i))) else none
 | [.str z]=>some (.sh (.str z))
 | _=>none
def zEA (K:W.Frag):List V->Hp->VK->Prop:=λxs H Q=>∃ x C t b,xs=[x,.ref C]/\TyOf K H x t/\W.kitOne K t (.ref C)=some b/\Q (.bl b) H
theorem zu7 {X:Cx} (hK:X.K=K):CallR X (.builtin "isinstance") (zEA K):=by
 subst hK;intro pins s σ H xs us Q I r h;obtain ⟨x,C,t,b,rfl,ty,e,q⟩:=h;obtain ⟨u,c,rfl,ru,rc⟩:=Vals.two r;cases rc
 exact zmY I ru ty e λtk=>⟨.bl b,H,I.tok tk,rfl,q⟩
def zEB (K:W.Frag):List V->Hp->VK->Prop:=λxs H Q=>zoi K xs H Q\/zEA K xs H Q
theorem zu8 {X:Cx} (hK:X.K=K):CallR X (.builtin "isinstance") (zEB K):=(znd hK).or (zu7 hK)
structure KInst (K:W.Frag) (C:Addr):Prop where
 cl:Cls K C
 ha:W.findIn K (.ref C) "__class__"=some (some (.builtin "object.__class__"))
 hn:W.specialIn K (.builtin "object.__class__") "__get__"=some (some (.builtin "getset_descriptor.__get__"))
 htk:W.takesIn K (.builtin "object.__class__")=some true
 hm:W.mroIn K C (.type "object")=some true
def zgb (tab:Nat->Nat->Option Bool):List D->Option SV
 | [d,.ty n]=>d.kind.bind λt=>(zxX t n).map λb=>.sh (.bl b)
 | [.ins c _,.cls C]=>(tab c C).map λb=>.sh (.bl b)
 | _=>none
theorem zDh {tab:Nat->Nat->Option Bool} (hK:B.K=K) (ht:∀ c C b,tab c C=some b->KInst B.K (B.cl c)/\W.kitOne B.K (.ref (B.cl c)) (.ref (B.cl C))=some b):ziH B (zEB K) (zgb tab):=by
 subst hK;intro H G vs ds z Q hg hd e k;unfold zgb at e;split at e
 ·exact .inl (zDb rfl H G vs _ z Q hg hd (by unfold zDa; exact e) k)
 ·rw [Option.map_eq_some_iff] at e;obtain ⟨b,e1,rfl⟩:=e;obtain ⟨v,w,rfl,d1,d2⟩:=hd.two;cases d2
  cases d1 with
  | ins f h en r=>
   obtain ⟨ki,kk⟩:=ht _ _ _ e1;exact .inr ⟨_,_,_,b,rfl,.ins h ki.cl ki.ha ki.hn ki.htk ki.hm,kk,k _ H G [] Al.refl ⟨rfl,.bl _⟩ (by simp)⟩
 ·cases e
theorem zA7 {c:Nat} {C:Addr} (hC:B.cl c=C):FD B (tC (.ref C)) [] (mC (.cls c)):=by
 subst hC;exact zE4 λ_ _=>.cls c
@[simp] def zE9 (me:FSt->Option SV) (md:FSt->Option D):FSt->Fl:=λS=>match me S,md S with
 | some (.li xs),some _=>if xs.length < sizeLine then .nx S else .bad
 | _,_=>.bad
@[simp] def zA8 (i:Nat):FSt->Fl:=λS=>match S[i]? with
 | some (some (.li xs))=>.nx (S.set i (some (.li xs.reverse)))
 | _=>.bad
theorem DAs.reverse {H:Hp} {F:Addr->Prop}:∀ {vs:List V} {ds:List D},DAs B H F vs ds->DAs B H F vs.reverse ds.reverse
 | _,_,.nil=>.nil
 | _,_,.cons h r=>by
  rw [List.reverse_cons,List.reverse_cons];exact (DAs.reverse r).append (.cons h .nil)
theorem zA9 {i:Nat} (hK:B.K=K):FS B (zmh (zAg K "list" zpi (zp5 i))) (zA8 i):=by
 subst hK;intro S σ H F os E r h;unfold zA8 at h;split at h
 case h_2=>exact h.elim
 case h_1 xs e=>
  obtain ⟨v,hv,a,vs,rfl,eo,nf,hh,das⟩:=r.at' i _ e;have em:a∈os i:=by rw [eo]; simp
  refine ⟨.ref a,hv,.inl ⟨rfl,vs,.inl (.inl hh)⟩,a,vs,rfl,rfl,hh,?_⟩;have hk:∀ b o,F b->H b=some o->upd H a (.lst vs.reverse) b=some o:=λb o f h=>by rw [zaW]; exact h; rintro rfl; exact nf f
  have nl:zeg S i=false:=by unfold zeg; rw [e]; rfl
  exact h σ _ F os (zdc em (.inl nl)) (r.write em hv ⟨a,_,rfl,eo,nf,zaS,das.reverse.mono hk λ_ f=>f⟩)
end
section
variable {es:List Expr} {env:Env}
theorem zou {c k pos}:starEach (.Constant c k pos :: es) env=(false,eval (.Constant c k pos) env) :: starEach es env:=rfl
theorem zya {x pos}:starEach (.Name x pos :: es) env=(false,eval (.Name x pos) env) :: starEach es env:=rfl
theorem zu9 {a b pos}:starEach (.Tuple a b pos :: es) env=(false,eval (.Tuple a b pos) env) :: starEach es env:=rfl
theorem zyb {a pos}:starEach (.List a pos :: es) env=(false,eval (.List a pos) env) :: starEach es env:=rfl
theorem zva {a o b pos}:starEach (.BinOp a o b pos :: es) env=(false,eval (.BinOp a o b pos) env) :: starEach es env:=rfl
theorem zqu {o b pos}:starEach (.UnaryOp o b pos :: es) env=(false,eval (.UnaryOp o b pos) env) :: starEach es env:=rfl
theorem zsD {o b pos}:starEach (.BoolOp o b pos :: es) env=(false,eval (.BoolOp o b pos) env) :: starEach es env:=rfl
theorem zkA {a b c pos}:starEach (.Call a b c pos :: es) env=(false,eval (.Call a b c pos) env) :: starEach es env:=rfl
theorem zno {a b pos}:starEach (.Subscript a b pos :: es) env=(false,eval (.Subscript a b pos) env) :: starEach es env:=rfl
theorem znp {a b pos}:starEach (.Attribute a b pos :: es) env=(false,eval (.Attribute a b pos) env) :: starEach es env:=rfl
theorem zov {a b c pos}:starEach (.ListComp a b c pos :: es) env=(false,eval (.ListComp a b c pos) env) :: starEach es env:=rfl
end
section
variable {ι:Type}
structure JD (Xs:ι->Cx) (B:Bk) (e:Expr) (L:List Nat) (m:FSt->Option D):Prop where
 ex:∃ t,(∀ i,PE (Xs i) e t)/\FD B t L m
structure JE (Xs:ι->Cx) (B:Bk) (e:Expr) (L:List Nat) (m:FSt->Option SV):Prop where
 ex:∃ t,(∀ i,PE (Xs i) e t)/\FE B t L m
structure JT (Xs:ι->Cx) (B:Bk) (e:Expr) (m:FSt->Option Bool):Prop where
 ex:∃ t,(∀ i,PT (Xs i) e t)/\FT B t m
structure JW (Xs:ι->Cx) (B:Bk) (e:Expr) (m:FSt->Option Bool):Prop where
 ex:∃ t,(∀ i,PW (Xs i) e t)/\FT B t m
structure JA (Xs:ι->Cx) (B:Bk) (es:List Expr) (L:List Nat) (m:FSt->Option (List D)):Prop where
 ex:∃ t,(∀ i,PA (Xs i) es t)/\FA B t L m
structure JO (Xs:ι->Cx) (B:Bk) (e:Option Expr) (m:FSt->Option (Option Int)):Prop where
 ex:∃ t,(∀ i,PO (Xs i) e t)/\FO B t m
structure JS (Xs:ι->Cx) (B:Bk) (st:Stmt) (m:FSt->Fl):Prop where
 ex:∃ t,(∀ i,PS (Xs i) st t)/\FS B t m
structure JB (Xs:ι->Cx) (B:Bk) (sts:List Stmt) (m:FSt->Fl):Prop where
 ex:∃ t,(∀ i,PSs (Xs i) sts t)/\FS B t m
structure JG (Xs:ι->Cx) (B:Bk) (tg:Expr) (m:D->FSt->Option FSt):Prop where
 ex:∃ t,(∀ i,PG (Xs i) tg t)/\FG B t m
structure JGs (Xs:ι->Cx) (B:Bk) (tgs:List Expr) (m:List D->FSt->Option FSt):Prop where
 ex:∃ t,(∀ i,PGs (Xs i) tgs t)/\FGs B t m
structure JI (Xs:ι->Cx) (B:Bk) (tg iter:Expr) (m:FSt->Option (List D)):Prop where
 ex:∃ t,(∀ i,PI (Xs i) tg iter t)/\FI B t m
structure JIc (Xs:ι->Cx) (B:Bk) (tg iter:Expr) (L:List Nat) (m:FSt->Option (List D)):Prop where
 ex:∃ t,(∀ i,PI (Xs i) tg iter t)/\FIc B t L m
structure JX (Xs:ι->Cx) (P:Program) (w:World) (K:W.Frag) (mg:Str->Option Value) (base:Heap) (k:Nat) (B:Bk) (cm:Bool:=true):Prop where
 p:∀ i,(Xs i).prog=P
 w':∀ i,(Xs i).w=w
 k':∀ i,(Xs i).K=K
 m:∀ i,(Xs i).mg=mg
 b:∀ i,(Xs i).base=base
 r:cm=true->∀ i,Room k (Xs i).A
 c:cm=true->∀ i,(Xs i).calm=true
 bk:B.K=K
 x:∀ i,PassesOwn (model (Xs i).prog (Xs i).w) (Xs i).A (Xs i).env (Xs i).xe
variable {cm:Bool} {Xs:ι->Cx} {P:Program} {w:World} {K:W.Frag} {mg:Str->Option Value} {base:Heap} {k:Nat} {B:Bk} {a b e o c:Expr} {es:List Expr} {L L' La Lb:List Nat} {ma mb md:FSt->Option D} {me mx my:FSt->Option SV} {mt mu:FSt->Option Bool} {mr:FSt->Option (List D)} {pos:Pos}
theorem JE.asD (h:JE Xs B e L me):JD Xs B e L (mFr me):=let ⟨t,p,f⟩:=h.ex; ⟨⟨t,p,f.fd⟩⟩
theorem JD.asE (h:JD Xs B e L ma):JE Xs B e L (mSh ma):=let ⟨t,p,f⟩:=h.ex; ⟨⟨t,p,f.fe⟩⟩
theorem zac (i:Nat) {x:Str} (hN:∀ j,(Xs j).N[i]? = some x:=by intro _; rfl) (hv:∀ j,Vis (Xs j).env.scope x:=by intro _; first | exact Or.inl rfl | exact Or.inr (Or.inl rfl) | exact Or.inr (Or.inr rfl)) (hd:(x==("__debug__":Str))=false:=by decide) (hcd:(x==("__classdict__":Str))=false:=by decide):JD Xs B (.Name x pos) [i] (mV i):=
 ⟨⟨_,λj=>zhX (hN j) (hv j) hd hcd,zsd i⟩⟩
theorem zag {i:Int} {j}:JD Xs B (.Constant (.int i) j pos) [] (mC (.int i)):=⟨⟨_,λ_=>zzH,zxL (.int _)⟩⟩
theorem zlr {i:Bool} {j}:JD Xs B (.Constant (.bool i) j pos) [] (mC (.bl i)):=⟨⟨_,λ_=>zCA,zxL (.bl _)⟩⟩
theorem zyc {j}:JD Xs B (.Constant .none j pos) [] (mC .non):=⟨⟨_,λ_=>zzI,zxL .non⟩⟩
theorem zcD {x:Str} {j}:JD Xs B (.Constant (.str x) j pos) [] (mC (.str x)):=⟨⟨_,λ_=>zzJ,zxL (.str _)⟩⟩
theorem zsE (jx:JX Xs P w K mg base k B cm) {x:Str} {i:Int} (h:GC mg x (.int i)) (hg:∀ j,Gl (Xs j) x:=by intro _; rfl) (hd:(x==("__debug__":Str))=false:=by decide):JD Xs B (.Name x pos) [] (mC (.int i)):=⟨⟨_,λj=>zAs (hg j) (jx.m j▸h) hd,zxL (.int _)⟩⟩
theorem zDi (jx:JX Xs P w K mg base k B cm) {x:Str} {i:Str} (h:GC mg x (.str i)) (hg:∀ j,Gl (Xs j) x:=by intro _; rfl) (hd:(x==("__debug__":Str))=false:=by decide):JD Xs B (.Name x pos) [] (mC (.str i)):=⟨⟨_,λj=>zAs (hg j) (jx.m j▸h) hd,zxL (.str _)⟩⟩
theorem zsF (jx:JX Xs P w K mg base k B cm) {x:Str} {n:String} (h:mg x=none) (hv:bootBuiltins x=some (.type n)) (hg:∀ j,Gl (Xs j) x:=by intro _; rfl) (hn:x≠"__name__":=by decide) (hd:(x==("__debug__":Str))=false:=by decide):JD Xs B (.Name x pos) [] (mC (.ty n)):=
 ⟨⟨_,λj=>zw1 (v:=.ty n) (hg j) (jx.m j▸h) hv rfl hn hd,zxL (.ty _)⟩⟩
theorem zyd (jx:JX Xs P w K mg base k B cm) {x:Str} {n:Nat} {C:Addr} (hC:B.cl n=C) (h:mg x=some (.ref C)) (hg:∀ j,Gl (Xs j) x:=by intro _; rfl) (hd:(x==("__debug__":Str))=false:=by decide):JD Xs B (.Name x pos) [] (mC (.cls n)):=
 ⟨⟨_,λj=>zrr (v:=.ref C) (hg j) (jx.m j▸h) rfl hd,zA7 hC⟩⟩
theorem zeR {op:Operator} {r:R2} {f:D->D->Option D} (ho:∀ i,OpR (Xs i) (binaryOp op) r) (hf:OpD B r f) (ha:JD Xs B a La ma) (hb:JD Xs B b Lb mb):JD Xs B (.BinOp a op b pos) (La++Lb) (m2 f ma mb):=
 let ⟨_,pa,fa⟩:=ha.ex; let ⟨_,pb,fb⟩:=hb.ex; ⟨⟨_,λi=>zup (ho i) (pa i) (pb i),zom hf fa fb⟩⟩
theorem zeS (jx:JX Xs P w K mg base k B cm) (ha:JD Xs B a La ma) (hb:JD Xs B b Lb mb):JE Xs B (.BinOp a .Add b pos) (La++Lb) (m2 ze9 ma mb):=
 let ⟨_,pa,fa⟩:=ha.ex; let ⟨_,pb,fb⟩:=hb.ex; ⟨⟨_,λi=>zup (zxD (jx.k' i)) (pa i) (pb i),zAC (zC3 jx.bk) fa fb⟩⟩
theorem zkB (ha:JD Xs B a La ma) (hb:JD Xs B b Lb mb):JE Xs B (.BinOp a .Mult b pos) (La++Lb) (m2 zkw ma mb):=
 let ⟨_,pa,fa⟩:=ha.ex; let ⟨_,pb,fb⟩:=hb.ex; ⟨⟨_,λi=>zup zxA (pa i) (pb i),zAC zC4 fa fb⟩⟩
structure JCmp (Xs:ι->Cx) (B:Bk) (op:CmpOp) (f:D->D->Option D):Prop where
 ex:∃ r,(∀ i,OpR (Xs i) (compareOp op) r)/\OpD B r f
theorem zlL (jx:JX Xs P w K mg base k B):JCmp Xs B .Eq oEq:=⟨⟨_,λi=>zAt (jx.k' i) (jx.r rfl i).c64,zC5 jx.bk⟩⟩
theorem zrl (jx:JX Xs P w K mg base k B):JCmp Xs B .NotEq oNe:=⟨⟨_,λi=>zAu (jx.k' i) (jx.r rfl i).c64,zC6 jx.bk⟩⟩
theorem zwn (jx:JX Xs P w K mg base k B):JCmp Xs B .In oIn:=⟨⟨_,λi=>zAA (jx.k' i) (jx.r rfl i).c64,zC7 jx.bk⟩⟩
theorem zow (jx:JX Xs P w K mg base k B):JCmp Xs B .NotIn zeo:=⟨⟨_,λi=>zsa (jx.k' i) (jx.r rfl i).c64,zu1 jx.bk⟩⟩
theorem zCl:JCmp Xs B .Lt oLt:=⟨⟨_,λ_=>zCF,zCZ⟩⟩
theorem zEC:JCmp Xs B .LtE oLe:=⟨⟨_,λ_=>zCG,zC0⟩⟩
theorem zBa:JCmp Xs B .Gt oGt:=⟨⟨_,λ_=>zCH,zC1⟩⟩
theorem zFa:JCmp Xs B .GtE oGe:=⟨⟨_,λ_=>zCI,zC2⟩⟩
theorem zgq {op:CmpOp} {f:D->D->Option D} (hc:JCmp Xs B op f) (ha:JD Xs B a La ma) (hb:JD Xs B b Lb mb) (hm:behindInMarks op b=false:=by first | exact zaX _ | rfl):JD Xs B (.Compare a [op] [b] pos) (La++Lb) (m2 f ma mb):=
 let ⟨_,ho,hf⟩:=hc.ex; let ⟨_,pa,fa⟩:=ha.ex; let ⟨_,pb,fb⟩:=hb.ex; ⟨⟨_,λi=>zrC (ho i) (pa i) (pb i) hm,zom hf fa fb⟩⟩
theorem zbi {op:CmpOp} {f:D->D->Option D} (hc:JCmp Xs B op f) (ha:JD Xs B a La ma) (hb:JD Xs B b Lb mb) (hm:behindInMarks op b=false:=by first | exact zaX _ | rfl):JT Xs B (.Compare a [op] [b] pos) (zal (m2 f ma mb)):=
 let ⟨_,ho,hf⟩:=hc.ex; let ⟨_,pa,fa⟩:=ha.ex; let ⟨_,pb,fb⟩:=hb.ex; ⟨⟨_,λi=>zxa (ho i) (pa i) (pb i) hm,zAD (zom hf fa fb)⟩⟩
theorem zcW (h:JD Xs B e L ma) (he:∀ i whole,isTrue e (Xs i).env whole=(do let v <- whole; standAt e.pos; holding [v] (truthy v)):=by intro _ _; rfl):JT Xs B e (zal ma):=let ⟨_,p,f⟩:=h.ex; ⟨⟨_,λi=>zzK (p i) (he i),zAE f⟩⟩
theorem zdS (h:JT Xs B a mt):JT Xs B (.UnaryOp .Not a pos) (ziG mt):=let ⟨_,p,f⟩:=h.ex; ⟨⟨_,λi=>zzL (p i),zAG f⟩⟩
theorem JW.t (h:JW Xs B a mt):JT Xs B a mt:=let ⟨_,p,f⟩:=h.ex; ⟨⟨_,λi=>(p i).pt,f⟩⟩
theorem zox (h:JT Xs B a mt):JW Xs B (.BoolOp .And [a] pos) mt:=let ⟨_,p,f⟩:=h.ex; ⟨⟨_,λi=>pw_and1 (p i),f⟩⟩
theorem zjz (h:JT Xs B a mt):JW Xs B (.BoolOp .Or [a] pos) mt:=let ⟨_,p,f⟩:=h.ex; ⟨⟨_,λi=>pw_or1 (p i),f⟩⟩
theorem zsG {zcc:List Expr} (h:JT Xs B a mt) (h':JW Xs B (.BoolOp .And (b :: zcc) pos) mu):JW Xs B (.BoolOp .And (a :: b :: zcc) pos) (zzr mt mu):=let ⟨_,p,f⟩:=h.ex; let ⟨_,p',f'⟩:=h'.ex; ⟨⟨_,λi=>pw_and (p i) (p' i),zAF f f'⟩⟩
theorem zjT {zcc:List Expr} (h:JT Xs B a mt) (h':JW Xs B (.BoolOp .Or (b :: zcc) pos) mu):JW Xs B (.BoolOp .Or (a :: b :: zcc) pos) (mOr mt mu):=let ⟨_,p,f⟩:=h.ex; let ⟨_,p',f'⟩:=h'.ex; ⟨⟨_,λi=>pw_or (p i) (p' i),zCV f f'⟩⟩
theorem zmx {op} (h:JD Xs B a L ma):JD Xs B (.BoolOp op [a] pos) L ma:=let ⟨_,p,f⟩:=h.ex; ⟨⟨_,λi=>zzN (p i),f⟩⟩
theorem zkC {zcc:List Expr} (h:JD Xs B a La ma) (h':JD Xs B (.BoolOp .And (b :: zcc) pos) Lb mb):JD Xs B (.BoolOp .And (a :: b :: zcc) pos) (La++Lb) (zql (zal ma) mb (mC (.bl false))):=let ⟨_,p,f⟩:=h.ex; let ⟨_,p',f'⟩:=h'.ex; ⟨⟨_,λi=>zzO (p i) (p' i),zxM f f'⟩⟩
theorem zBb (h:JD Xs B a L ma):JD Xs B (.UnaryOp .Not a pos) L (mBl (ziG (zal ma))):=let ⟨_,p,f⟩:=h.ex; ⟨⟨_,λi=>zvY (p i),zsf f⟩⟩
theorem zye (h:JD Xs B a L ma):JD Xs B (.UnaryOp .USub a pos) L (m1 zu0 ma):=let ⟨_,p,f⟩:=h.ex; ⟨⟨_,λi=>zCD zz3 (p i),zCU zAS f⟩⟩
theorem zad:JA Xs B [] [] zam:=⟨⟨_,λ_=>zrF,zwc⟩⟩
theorem zaa (ha:JD Xs B e La ma) (hr:JA Xs B es Lb mr) (hs:∀ i,starEach (e :: es) (Xs i).env=(false,eval e (Xs i).env) :: starEach es (Xs i).env):JA Xs B (e :: es) (La++Lb) (zab ma mr):=let ⟨_,p,f⟩:=ha.ex; let ⟨_,p',f'⟩:=hr.ex; ⟨⟨_,λi=>zkm (p i) (p' i) (hs i),zon f f'⟩⟩
theorem zd1 (h:JA Xs B es L mr):JE Xs B (.List es pos) L (zhc mr):=let ⟨_,p,f⟩:=h.ex; ⟨⟨_,λi=>zv2 (p i),zwd f⟩⟩
theorem zcn {x1} (h:JA Xs B es L mr):JD Xs B (.Tuple es x1 pos) L (zdN mr):=let ⟨_,p,f⟩:=h.ex; ⟨⟨_,λi=>zv1 (p i),zwe f⟩⟩
theorem zBc:JE Xs B (.Dict [] [] pos) [] mDK:=⟨⟨_,λ_=>zuG,zx2⟩⟩
theorem zBd:JE Xs B (.Dict [] [] pos) [] mDT:=⟨⟨_,λ_=>zuH,zx3⟩⟩
theorem zcT (jx:JX Xs P w K mg base k B cm) (i:Nat) {x f:Str} {cs:List Nat} {p1:Pos} (hc:∀ c∈cs,Cls B.K (B.cl c)/\NoAttr B.K (B.cl c) f) (h:JD Xs B (.Name x p1) [i] (mV i)) (hN:∀ j,(Xs j).N[i]? = some x:=by intro _; rfl) (hv:∀ j,Vis (Xs j).env.scope x:=by intro _; first | exact Or.inl rfl | exact Or.inr (Or.inl rfl) | exact Or.inr (Or.inr rfl))
  (hb:∀ j,attributeBase (.Name x p1) f (Xs j).env (eval (.Name x p1) (Xs j).env)=eval (.Name x p1) (Xs j).env:=by intro _; rfl) (hd:(x==("__debug__":Str))=false:=by decide) (hcd:(x==("__classdict__":Str))=false:=by decide):JD Xs B (.Attribute (.Name x p1) f pos) [] (m1 (zhn cs f) (mV i)):=
 ⟨⟨_,λj=>zxG (jx.k' j) (zhX (hN j) (hv j) hd hcd) (hb j),zx7 jx.bk hc⟩⟩
theorem zht:JO Xs B none mNo:=⟨⟨_,λ_=>zxh,zxY⟩⟩
theorem zhu (h:JD Xs B e L ma):JO Xs B (some e) (mAt ma):=let ⟨_,p,f⟩:=h.ex; ⟨⟨_,λi=>zxi (p i),zxZ f⟩⟩
theorem zyf (jx:JX Xs P w K mg base k B cm) {lo hi:Option Expr} {ml mh:FSt->Option (Option Int)} {p2:Pos} (h:JD Xs B e L ma) (hl:JO Xs B lo ml) (hh:JO Xs B hi mh):JE Xs B (.Subscript e (.Slice lo hi none p2) pos) L (mSl ma ml mh):=
 let ⟨_,p,f⟩:=h.ex; let ⟨_,p',f'⟩:=hl.ex; let ⟨_,q,g⟩:=hh.ex; ⟨⟨_,λi=>zux (zxJ (jx.k' i)) (p i) (p' i) (q i),zDc jx.bk f f' g⟩⟩
theorem zyg (jx:JX Xs P w K mg base k B) (ha:JD Xs B a La ma) (hb:JD Xs B b Lb mb) (hs:zCS b:=by intros _ _; rfl):JD Xs B (.Subscript a b pos) (La++Lb) (m2 zsy ma mb):=
 let ⟨_,p,f⟩:=ha.ex; let ⟨_,p',f'⟩:=hb.ex; ⟨⟨_,λi=>zxs (zAk (jx.r rfl i)) (p i) (p' i) hs,zAV f f'⟩⟩
theorem zcr (jx:JX Xs P w K mg base k B cm) (ha:JD Xs B a La ma) (hb:JD Xs B b Lb mb) (hs:zrL b:=by intros _ _; rfl):JD Xs B (.Subscript a b pos) (La++Lb) (m2 oIx ma mb):=
 let ⟨_,p,f⟩:=ha.ex; let ⟨_,p',f'⟩:=hb.ex; ⟨⟨_,λi=>zCN (zxE (jx.k' i)) (p i) (p' i) hs,zom (zC8 jx.bk) f f'⟩⟩
theorem JX.fn (jx:JX Xs P w K mg base k B cm) {CX:CXT} {n:Nat} {f:Addr} {fd:FuncData} {ps:List Str} {sp:Sp} (F:FnOk P w K mg base CX n f fd ps sp) (i:ι):FnOk (Xs i).prog (Xs i).w (Xs i).K (Xs i).mg (Xs i).base CX n f fd ps sp:=by
 rw [jx.p i,jx.w' i,jx.k' i,jx.m i,jx.b i]; exact F
theorem zaM (jx:JX Xs P w K mg base k B) {n nf:Nat} {f:Addr} {fd:FuncData} {ps:List Str} {fn:List D->Option SV} {x:Str} {p:Pos} (F:FnOk P w K mg base CX0 n f fd ps (SpF B nf fn)) (hn:n<=k) (hm:mg x=some (.ref f)) (hk:W.keepIn K (.ref f)=true) (hb:Binds K fd ps []) (hf:∀ ds z,fn ds=some z->ds.length=nf)
  (ha:JA Xs B (e :: es) L mr) (he:∀ i,starEach (e :: es) (Xs i).env=(false,eval e (Xs i).env) :: starEach es (Xs i).env) (hg:∀ j,Gl (Xs j) x:=by intro _; rfl) (hpl:∀ i,(backTo pos (starEach es (Xs i).env)).any (·.1)=false:=by intro _; rfl) (hdb:(x==("__debug__":Str))=false:=by decide) :
  JE Xs B (.Call (.Name x p) (e :: es) [] pos) L (m1 fn mr):=
 let ⟨_,q,g⟩:=ha.ex; ⟨⟨_,λi=>zxe (jx.fn F i) ((jx.r rfl i).mono hn) (hg i) (jx.m i▸hm) (jx.k' i▸hk) (jx.k' i▸hb) .nil zuB (q i) hdb (he i) (hpl i),zxN hf g⟩⟩
theorem zgc (jx:JX Xs P w K mg base k B) {n nf cn:Nat} {f C:Addr} {fd:FuncData} {ps:List Str} {fn:Nat->List D->Option (List (Str×D))} {x:Str} {p:Pos} (M:Mk K C f) (F:FnOk P w K mg base CX0 n f fd ps (SpI B nf fn)) (hn:n+1<=k) (hm:mg x=some (.ref C)) (hb:Binds K fd ps []) (hC:B.cl cn=C) (hf:∀ c ds z,fn c ds=some z->ds.length+1=nf)
  (ha:JA Xs B (e :: es) L mr) (he:∀ i,starEach (e :: es) (Xs i).env=(false,eval e (Xs i).env) :: starEach es (Xs i).env) (hg:∀ j,Gl (Xs j) x:=by intro _; rfl) (hpl:∀ i,(backTo pos (starEach es (Xs i).env)).any (·.1)=false:=by intro _; rfl) (hdb:(x==("__debug__":Str))=false:=by decide) :
  JE Xs B (.Call (.Name x p) (e :: es) [] pos) L (zib cn fn mr):=
 let ⟨_,q,g⟩:=ha.ex; ⟨⟨_,λi=>zxf (jx.k' i▸M) (jx.fn F i) ((jx.r rfl i).mono hn) (hg i) (jx.m i▸hm) (jx.k' i▸hb) .nil zuB (q i) hdb (he i) (hpl i),zx8 hC hf g⟩⟩
theorem zhp (jx : JX Xs P w K mg base k B) {n nf cn : Nat} {f C : Addr} {fd : FuncData} {ps : List Str} {fn : List D -> Option SV} {m : Str} {apos : Pos} {pl : ι -> Sem Bool} (ho : JD Xs B o La ma) (cc : Cls K C) (hm : Meth K C m f) (F : FnOk P w K mg base CX0 n f fd ps (SpF B nf fn)) (hn : n <= k) (hb : Binds K fd ps []) (hC : B.cl cn = C) (hf : ∀ ds z, fn ds = some z -> ds.length = nf)
    (ha : JA Xs B (e :: es) Lb mr) (he : ∀ i, starEach (e :: es) (Xs i).env = (false, eval e (Xs i).env) :: starEach es (Xs i).env) (hpl : ∀ i, (backTo pos (starEach es (Xs i).env)).any (·.1) = false := by intro _; rfl)
    (ht : ∀ i, eval (.Call (.Attribute o m apos) (e :: es) [] pos) (Xs i).env = (do
      let ov <- eval o (Xs i).env
      standAt apos.atName
      let (f, first) <- holding [ov] (getMethod ov m (pl i))
      callWith pos f first (backTo pos (starEach (e :: es) (Xs i).env)) (backToKw pos (keywordEach [] (Xs i).env))) := by intro _; rfl) : JE Xs B (.Call (.Attribute o m apos) (e :: es) [] pos) (La ++ Lb) (zbQ cn m fn ma mr) :=
  let ⟨_, p, g⟩ := ho.ex; let ⟨_, q, g'⟩ := ha.ex; ⟨⟨_, λi => zrH (p i) (jx.k' i ▸ cc) (jx.k' i ▸ hm) (jx.fn F i) ((jx.r rfl i).mono hn) (jx.k' i ▸ hb) .nil zuB (q i) (he i) (hpl i) (ht i), zsg hC hf g g'⟩⟩
theorem zoy (jx : JX Xs P w K mg base k B) {n nf cn : Nat} {f C : Addr} {fd : FuncData} {ps : List Str} {fn : List D -> Option SV} {m : Str} {apos : Pos} {pl : ι -> Sem Bool} (ho : JD Xs B o La ma) (cc : Cls K C) (hm : Meth K C m f) (F : FnOk P w K mg base CX0 n f fd ps (SpF B nf fn)) (hn : n <= k) (hb : Binds K fd ps []) (hC : B.cl cn = C) (hf : ∀ ds z, fn ds = some z -> ds.length = nf)
    (ht : ∀ i, eval (.Call (.Attribute o m apos) [] [] pos) (Xs i).env = (do
      let ov <- eval o (Xs i).env
      standAt apos.atName
      let (f, first) <- holding [ov] (getMethod ov m (pl i))
      callWith pos f first (backTo pos (starEach [] (Xs i).env)) (backToKw pos (keywordEach [] (Xs i).env))) := by intro _; rfl) : JE Xs B (.Call (.Attribute o m apos) [] [] pos) (La ++ []) (zbQ cn m fn ma zam) :=
  let ⟨_, p, g⟩ := ho.ex; ⟨⟨_, λi => zut (p i) (jx.k' i ▸ cc) (jx.k' i ▸ hm) (jx.fn F i) ((jx.r rfl i).mono hn) (jx.k' i ▸ hb) .nil zuB (ht i), zsg hC hf g zwc⟩⟩
structure JCall (Xs:ι->Cx) (B:Bk) (v:Value) (f:List D->Option SV):Prop where
 ex:∃ r,(∀ i,CallR (Xs i) v r)/\ziH B r f
theorem zep (jx:JX Xs P w K mg base k B cm):JCall Xs B (.builtin "len") zga:=⟨⟨_,λi=>zsw (jx.k' i),zC9 jx.bk⟩⟩
theorem zic (jx:JX Xs P w K mg base k B cm) {tab:Nat->Nat->Option Bool} (ht:∀ c C b,tab c C=some b->KInst B.K (B.cl c)/\W.kitOne B.K (.ref (B.cl c)) (.ref (B.cl C))=some b):JCall Xs B (.builtin "isinstance") (zgb tab):=⟨⟨_,λi=>zu8 (jx.k' i),zDh jx.bk ht⟩⟩
theorem zDj (jx:JX Xs P w K mg base k B):JCall Xs B (.builtin "all") zCk:=⟨⟨_,λi=>zrZ (jx.k' i) (jx.c rfl i),zDg jx.bk⟩⟩
theorem zBe (jx:JX Xs P w K mg base k B):JCall Xs B (.type "list") zu4:=⟨⟨_,λi=>zqr (jx.k' i) (jx.c rfl i),zAY jx.bk⟩⟩
theorem zoz (jx:JX Xs P w K mg base k B cm):JCall Xs B (.type "tuple") zlJ:=⟨⟨_,λi=>zoj (jx.k' i),zx4 jx.bk⟩⟩
theorem zDk:JCall Xs B (.type "int") zCj:=⟨⟨_,λ_=>zrD,zDe⟩⟩
theorem zaL (jx:JX Xs P w K mg base k B cm) {id:String} {f:List D->Option SV} {x:Str} {p:Pos} (hc:JCall Xs B (.builtin id) f) (hm:mg x=none) (hv:bootBuiltins x=some (.builtin id)) (ha:JA Xs B (e :: es) L mr) (he:∀ i,starEach (e :: es) (Xs i).env=(false,eval e (Xs i).env) :: starEach es (Xs i).env)
  (hg:∀ j,Gl (Xs j) x:=by intro _; rfl) (hn:x≠"__name__":=by decide) (hdb:(x==("__debug__":Str))=false:=by decide) (hpl:∀ i,(backTo pos (starEach es (Xs i).env)).any (·.1)=false:=by intro _; rfl):JE Xs B (.Call (.Name x p) (e :: es) [] pos) L (m1 f mr):=
 let ⟨_,c1,c2⟩:=hc.ex; let ⟨_,q,g⟩:=ha.ex; ⟨⟨_,λi=>zuv (c1 i) (hg i) (jx.m i▸hm) hv (q i) hn hdb (he i) (hpl i),zuS c2 g⟩⟩
theorem zid (jx:JX Xs P w K mg base k B cm) {T:String} {f:List D->Option SV} {x:Str} {p:Pos} (hc:JCall Xs B (.type T) f) (hm:mg x=none) (hv:bootBuiltins x=some (.type T)) (ha:JA Xs B (e :: es) L mr) (he:∀ i,starEach (e :: es) (Xs i).env=(false,eval e (Xs i).env) :: starEach es (Xs i).env)
  (hg:∀ j,Gl (Xs j) x:=by intro _; rfl) (hn:x≠"__name__":=by decide) (hdb:(x==("__debug__":Str))=false:=by decide) (hpl:∀ i,(backTo pos (starEach es (Xs i).env)).any (·.1)=false:=by intro _; rfl):JE Xs B (.Call (.Name x p) (e :: es) [] pos) L (m1 f mr):=
 let ⟨_,c1,c2⟩:=hc.ex; let ⟨_,q,g⟩:=ha.ex; ⟨⟨_,λi=>zrI (c1 i) (hg i) (jx.m i▸hm) hv (q i) hn hdb (he i) (hpl i),zuS c2 g⟩⟩
structure JMt (Xs:ι->Cx) (B:Bk) (K:W.Frag) (T:String) (name:Str) (f:D->List D->Option SV):Prop where
 ex:∃ r id,PlainAttrs T/\Slot T name id/\typeOf (.builtin id)=pure (.type "method_descriptor")/\(∀ i,MtR (Xs i) id r)/\MtT B K T f/\MtE B K T r f
theorem zyh (jx:JX Xs P w K mg base k B cm):JMt Xs B K "str" "join" znn:=⟨⟨_,_,PySem.F.plainAttrs_str,PySem.F.slot_str_join,PySem.F.type_str_join,λi=>zuN (jx.k' i),zA5,zu5 jx.bk⟩⟩
theorem zpq (jx:JX Xs P w K mg base k B cm):JMt Xs B K "list" "index" zjy:=⟨⟨_,_,PySem.F.plainAttrs_list,PySem.F.slot_list_index,PySem.F.type_list_index,λi=>zr8 (jx.k' i),zx9,zsC jx.bk⟩⟩
theorem zsH:JMt Xs B K "int" "bit_length" zkz:=⟨⟨_,_,PySem.F.plainAttrs_int,PySem.F.slot_int_bit_length,PySem.F.type_int_bit_length,λ_=>zr4,zu6,zqt⟩⟩
theorem zDl (jx:JX Xs P w K mg base k B cm) {T:String} {name:Str} {f:D->List D->Option SV} {apos cpos:Pos} (hm:JMt Xs B K T name f) (ho:JD Xs B o La ma) (ha:JA Xs B (e :: es) Lb mr) (hs:∀ i,starEach (e :: es) (Xs i).env=(false,eval e (Xs i).env) :: starEach es (Xs i).env)
  (hbase:∀ i,attributeBase o name (Xs i).env (eval o (Xs i).env)=eval o (Xs i).env:=by intro _; rfl)
  (hfew:∀ i,((backTo cpos (starEach (e :: es) (Xs i).env)).all (λx=>!x.1)&&(backToKw cpos (keywordEach [] (Xs i).env)).all (λx=>x.1.isSome)&&decide ((e :: es).length+([]:List Keyword).length+(if ([]:List Keyword).isEmpty then 0 else 1) < 30))=true:=by intro _; rfl)
  (hline:(apos.endLine==cpos.line)=true:=by rfl) (hplain:∀ i,(backTo cpos (starEach es (Xs i).env)).any (·.1)=false:=by intro _; rfl):JE Xs B (.Call (.Attribute o name apos) (e :: es) [] cpos) (La++Lb) (mBM f ma mr):=
 let ⟨_,_,h1,h2,h3,h4,h5,h6⟩:=hm.ex; let ⟨_,p,g⟩:=ho.ex; let ⟨_,q,g'⟩:=ha.ex; ⟨⟨_,λi=>zwa (jx.k' i) h1 h2 h3 (h4 i) (p i) (q i) (hbase i) (hfew i) hline (hs i) (hplain i),zDf h5 h6 g g'⟩⟩
theorem zDm (jx:JX Xs P w K mg base k B cm) {T:String} {name:Str} {f:D->List D->Option SV} {apos cpos:Pos} (hm:JMt Xs B K T name f) (ho:JD Xs B o La ma)
  (hbase:∀ i,attributeBase o name (Xs i).env (eval o (Xs i).env)=eval o (Xs i).env:=by intro _; rfl) (hline:(apos.endLine==cpos.line)=true:=by rfl):JE Xs B (.Call (.Attribute o name apos) [] [] cpos) La (mBM f ma zam):=
 let ⟨_,_,h1,h2,h3,h4,h5,h6⟩:=hm.ex; let ⟨_,p,g⟩:=ho.ex; ⟨⟨_,λi=>zok (jx.k' i) h1 h2 h3 (h4 i) (p i) (hbase i) hline,zA4 h5 h6 g⟩⟩
theorem zaF (i:Nat) {x:Str} (hN:∀ j,(Xs j).N.Nodup) (hx:∀ j,Loc (Xs j).env.scope x) (hi:∀ j,(Xs j).N[i]? = some x:=by intro _; rfl) (hf:∀ j,(Xs j).fn x=true\/(Xs j).env.scope.names.lookup x=some .local:=by intro _; first | exact .inl rfl | exact .inr rfl):JG Xs B (.Name x pos) (gN i):=⟨⟨_,λj=>zw4 (hN j) (hi j) (hx j) (hf j),zxR i⟩⟩
theorem zkD:JGs Xs B [] gNs:=⟨⟨_,λ_=>zw5,zxS⟩⟩
theorem zdO {g1:D->FSt->Option FSt} {g2:List D->FSt->Option FSt} (h1:JG Xs B e g1) (h2:JGs Xs B es g2) (hs:∀ i,(assignEach (e :: es) (Xs i).env).map (·.2)=assign e (Xs i).env :: (assignEach es (Xs i).env).map (·.2):=by intro _; rfl):JGs Xs B (e :: es) (gCs g1 g2):=let ⟨_,p,f⟩:=h1.ex; let ⟨_,q,g⟩:=h2.ex; ⟨⟨_,λi=>zum (p i) (q i) (hs i),zuW f g⟩⟩
theorem znq (jx:JX Xs P w K mg base k B) {n:Nat} {k1:Nat} {g2:List D->FSt->Option FSt} (h:JGs Xs B es g2) (hn:∀ i,(assignEach es (Xs i).env).length=n:=by intro _; rfl) (hst:∀ i,(assignEach es (Xs i).env).findIdx? (·.1)=none:=by intro _; rfl):JG Xs B (.Tuple es k1 pos) (gSq n g2):=let ⟨_,p,f⟩:=h.ex; ⟨⟨_,λi=>zxI (jx.k' i) (jx.c rfl i) (p i) (hn i) (hst i),zAM jx.bk f⟩⟩
theorem zlM (jx:JX Xs P w K mg base k B cm) {tg:Expr} (L':List Nat) (h:JE Xs B e L me) (hl:(L.all λi=>L'.contains i)=true:=by rfl):JI Xs B tg e (mIt L' me):=let ⟨_,p,f⟩:=h.ex; ⟨⟨_,λi=>zks (jx.k' i) (p i),zwl L' jx.bk f hl⟩⟩
theorem zhq (jx:JX Xs P w K mg base k B cm) {tg:Expr} (h:JD Xs B e L ma):JIc Xs B tg e L (zkb ma):=let ⟨_,p,f⟩:=h.ex; ⟨⟨_,λi=>zks (jx.k' i) (p i),zso jx.bk f⟩⟩
theorem JI.asC {tg:Expr} (h:JI Xs B tg e mr):JIc Xs B tg e [] mr:=let ⟨_,p,f⟩:=h.ex; ⟨⟨_,p,f.c⟩⟩
theorem zgr (jx:JX Xs P w K mg base k B cm) {tg:Expr} {p:Pos} (hm:mg "range"=none) (ha:JA Xs B [a] L mr) (hs:∀ i,starEach [a] (Xs i).env=[(false,eval a (Xs i).env)]:=by intro _; rfl) (hg:∀ i,Gl (Xs i) "range":=by intro _; rfl):JI Xs B tg (.Call (.Name "range" p) [a] [] pos) (mR1 mr):=let ⟨_,q,f⟩:=ha.ex; ⟨⟨_,λi=>zrw (hg i) (jx.m i▸hm) (q i) (hs i),zx5 f⟩⟩
theorem zyi (jx:JX Xs P w K mg base k B cm) {tg:Expr} {p:Pos} (hm:mg "range"=none) (ha:JA Xs B [a,b] L mr) (hs:∀ i,starEach [a,b] (Xs i).env=[(false,eval a (Xs i).env),(false,eval b (Xs i).env)]:=by intro _; rfl) (hs2:∀ i,starEach [b] (Xs i).env=[(false,eval b (Xs i).env)]:=by intro _; rfl) (hg:∀ i,Gl (Xs i) "range":=by intro _; rfl):JI Xs B tg (.Call (.Name "range" p) [a,b] [] pos) (mR2 mr):=let ⟨_,q,f⟩:=ha.ex; ⟨⟨_,λi=>zrx (hg i) (jx.m i▸hm) (q i) (hs i) (hs2 i),zx6 f⟩⟩
structure JIf (Xs:ι->Cx) (B:Bk) (ifs:List Expr) (m:FSt->Option Bool):Prop where
 ex:∃ t,(∀ i,PIf (Xs i) ifs t)/\FT B t m
theorem zgs:JIf Xs B [] zfC:=⟨⟨_,λ_=>zxu,zxW⟩⟩
theorem ziJ (h:JT Xs B a mt):JIf Xs B [a] mt:=let ⟨_,p,f⟩:=h.ex; ⟨⟨_,λi=>zxv (p i),f⟩⟩
abbrev JC (Xs:ι->Cx) (scope:Scope) (N:List Str):ι×List Addr×Shared×Hp->Cx:=λj=>(Xs j.1).comp scope N j.2.1 j.2.2.1 j.2.2.2
theorem JX.comp (jx:JX Xs P w K mg base k B) (scope:Scope) (N:List Str):JX (JC Xs scope N) P w K mg base k B:=
 ⟨λi=>jx.p i.1,λi=>jx.w' i.1,λi=>jx.k' i.1,λi=>jx.m i.1,λi=>jx.b i.1,λ_ i=>jx.r rfl i.1,λ_ i=>jx.c rfl i.1,jx.bk,λi=>PassesOwn.never⟩
theorem zgd (jx:JX Xs P w K mg base k B) {NX N:List Str} {SX scope:Scope} {own:Nat} {fi Li:List Nat} {tg iter elt:Expr} {ifs:List Expr} {mi:FSt->Option (List D)} {g1:D->FSt->Option FSt} (S:CompScope NX SX scope N own fi) (hi:JIc Xs B tg iter Li mi) (hg:JG (JC Xs scope N) B tg g1) (ht:JIf (JC Xs scope N) B ifs mt) (he:JD (JC Xs scope N) B elt L ma)
  (hN:∀ i,(Xs i).N=NX:=by intro _; rfl) (hS:∀ i,(Xs i).env.scope=SX:=by intro _; rfl) (hs:∀ i x,foldedSetIterable iter (Xs i).env x=pure x:=by intro _ _; rfl):JE Xs B (.ListComp elt [⟨tg,iter,ifs,0⟩] scope pos) (fi++Li) (zdC own fi mi g1 mt ma):=
 let ⟨_,p1,f1⟩:=hi.ex; let ⟨_,p2,f2⟩:=hg.ex; let ⟨_,p3,f3⟩:=ht.ex; let ⟨_,p4,f4⟩:=he.ex
 ⟨⟨_,λi=>zrU S (jx.c rfl i) (p1 i) (λex s H=>p2 (i,ex,s,H)) (λex s H=>p3 (i,ex,s,H)) (λex s H=>p4 (i,ex,s,H)) (hN i) (hS i) (hs i),zoq f1 f2 f3 f4⟩⟩
variable {mf mh:FSt->Fl} {st:Stmt} {sts ss:List Stmt}
theorem zqv (jx:JX Xs P w K mg base k B) (i:Nat) {y:Str} {py spos:Pos} {NX N:List Str} {SX scope:Scope} {own:Nat} {fi Li L':List Nat} {tg iter elt:Expr} {ifs:List Expr} {mi:FSt->Option (List D)} {g1:D->FSt->Option FSt} (hnd:∀ j,(Xs j).N.Nodup) (S:CompScope NX SX scope N own fi) (hi:JIc Xs B tg iter Li mi) (hg:JG (JC Xs scope N) B tg g1) (ht:JIf (JC Xs scope N) B ifs mt) (he:JD (JC Xs scope N) B elt L ma)
  (hy:∀ j,(Xs j).N[i]? = some y:=by intro _; rfl) (hl:∀ j,(Xs j).env.scope.names.lookup y=some .local:=by intro _; rfl)
  (hN:∀ i,(Xs i).N=NX:=by intro _; rfl) (hS:∀ i,(Xs i).env.scope=SX:=by intro _; rfl) (hs:∀ i x,foldedSetIterable iter (Xs i).env x=pure x:=by intro _ _; rfl)
  (hsw:∀ j,swapsWith (.ListComp elt [⟨tg,iter,ifs,0⟩] scope pos) (some (.Name y py)) spos.line (Xs j).env=pure true:=by intro _; rfl) (hl':((fi++Li).all λi=>L'.contains i)=true:=by rfl):JS Xs B (.Assign [.Name y py] (.ListComp elt [⟨tg,iter,ifs,0⟩] scope pos) spos) (zcU i L' (zdC own fi mi g1 mt ma)):=
 let ⟨_,p1,f1⟩:=hi.ex; let ⟨_,p2,f2⟩:=hg.ex; let ⟨_,p3,f3⟩:=ht.ex; let ⟨_,p4,f4⟩:=he.ex
 ⟨⟨_,λi=>zqh (hnd i) (hy i) (hl i) S (jx.c rfl i) (p1 i) (λex s H=>p2 (i,ex,s,H)) (λex s H=>p3 (i,ex,s,H)) (λex s H=>p4 (i,ex,s,H)) (hN i) (hS i) (hs i) (hsw i),zwk (te:=zuI _ _ _ _ _ _) L' (zoq f1 f2 f3 f4) hl'⟩⟩
theorem zaD (i:Nat) {x:Str} {p1:Pos} {L':List Nat} (hnd:∀ j,(Xs j).N.Nodup) (hx:∀ j,Loc (Xs j).env.scope x) (he:JE Xs B e L me) (hi:∀ j,(Xs j).N[i]? = some x:=by intro _; rfl) (hs:∀ j,swapsWith e (some (.Name x p1)) pos.line (Xs j).env=pure false:=by intro _; rfl)
  (hf:∀ j,(Xs j).fn x=true\/(Xs j).env.scope.names.lookup x=some .local:=by intro _; first | exact .inl rfl | exact .inr rfl) (hl:(L.all λi=>L'.contains i)=true:=by rfl):JS Xs B (.Assign [.Name x p1] e pos) (zcU i L' me):=
 let ⟨_,p,f⟩:=he.ex; ⟨⟨_,λj=>zzW (hnd j) (hi j) (hx j) (p j) (hs j) (hf j),zwk L' f hl⟩⟩
theorem zwo {tg:Expr} {g1:D->FSt->Option FSt} {L':List Nat} (he:JE Xs B e L me) (hg:JG Xs B tg g1) (hs:∀ j,swapsWithSole [tg] e pos.line (Xs j).env=pure false:=by intro _; rfl) (hw:∀ j,swappedStores [tg] e (Xs j).env=pure none:=by intro _; rfl)
  (h1:∀ j,(assignEach [tg] (Xs j).env).map (·.2)=[assign tg (Xs j).env]:=by intro _; rfl) (hl:(L.all λi=>L'.contains i)=true:=by rfl):JS Xs B (.Assign [tg] e pos) (zzu L' me g1):=
 let ⟨_,p,f⟩:=he.ex; let ⟨_,q,g⟩:=hg.ex; ⟨⟨_,λj=>zzV (p j) (q j) (hs j) (hw j) (h1 j),zA1 (f.wk (zhs hl)) g⟩⟩
theorem zwp (jx:JX Xs P w K mg base k B) (i:Nat) {x:Str} {p1 p2:Pos} {L':List Nat} (hb:JD Xs B b Lb mb) (he:JD Xs B e L md) (hN:∀ j,(Xs j).N[i]? = some x:=by intro _; rfl) (hv:∀ j,Vis (Xs j).env.scope x:=by intro _; first | exact Or.inl rfl | exact Or.inr (Or.inl rfl) | exact Or.inr (Or.inr rfl)) (hs:∀ j,swapsWith e (some (.Subscript (.Name x p1) b p2)) pos.line (Xs j).env=pure false:=by intro _; rfl)
  (hd:(x==("__debug__":Str))=false:=by decide) (hcd:(x==("__classdict__":Str))=false:=by decide) (hl:(L.all λi=>L'.contains i)=true:=by rfl):JS Xs B (.Assign [.Subscript (.Name x p1) b p2] e pos) (zzt i L' mb md):=
 let ⟨_,p,f⟩:=hb.ex; let ⟨_,q,g⟩:=he.ex; ⟨⟨_,λj=>zxt (zAk (jx.r rfl j)) (zhX (hN j) (hv j) hd hcd) (p j) (q j) (hs j),zA0 L' f g hl⟩⟩
theorem zlN (jx:JX Xs P w K mg base k B cm) (i:Nat) {x f:Str} {cs:List Nat} {p1 p2:Pos} {L':List Nat} (hc:∀ c∈cs,Cls B.K (B.cl c)/\NoAttr B.K (B.cl c) f) (he:JD Xs B e L md) (hN:∀ j,(Xs j).N[i]? = some x:=by intro _; rfl) (hv:∀ j,Vis (Xs j).env.scope x:=by intro _; first | exact Or.inl rfl | exact Or.inr (Or.inl rfl) | exact Or.inr (Or.inr rfl)) (hs:∀ j,swapsWith e (some (.Attribute (.Name x p1) f p2)) pos.line (Xs j).env=pure false:=by intro _; rfl)
  (hd:(x==("__debug__":Str))=false:=by decide) (hcd:(x==("__classdict__":Str))=false:=by decide) (hl:(L.all λi=>L'.contains i)=true:=by rfl):JS Xs B (.Assign [.Attribute (.Name x p1) f p2] e pos) (zlu i cs f L' md):=
 let ⟨_,q,g⟩:=he.ex; ⟨⟨_,λj=>zxH (jx.k' j) (zhX (hN j) (hv j) hd hcd) (q j) (hs j),zA3 L' jx.bk hc g hl⟩⟩
theorem zcX (hc:JT Xs B c mt) (ha:JB Xs B sts mf) (hb:JB Xs B ss mh):JS Xs B (.If c sts ss pos) (mIf mt mf mh):=let ⟨_,p,f⟩:=hc.ex; let ⟨_,p',f'⟩:=ha.ex; let ⟨_,q,g⟩:=hb.ex; ⟨⟨_,λi=>zzR (p i) (p' i) (q i),zAI f f' g⟩⟩
theorem zge (jx:JX Xs P w K mg base k B) {tg iter:Expr} {mi:FSt->Option (List D)} {g1:D->FSt->Option FSt} (hi:JI Xs B tg iter mi) (hg:JG Xs B tg g1) (hb:JB Xs B sts mf) (hs:∀ i x,foldedSetIterable iter (Xs i).env x=pure x:=by intro _ _; rfl):JS Xs B (.For tg iter sts [] pos) (zlG mi g1 mf):=
 let ⟨_,p,f⟩:=hi.ex; let ⟨_,p',f'⟩:=hg.ex; let ⟨_,q,g⟩:=hb.ex; ⟨⟨_,λi=>zrz (jx.x i) (jx.c rfl i) (p i) (p' i) (q i) (hs i),zsm f f' g⟩⟩
theorem zgt (jx:JX Xs P w K mg base k B) (j:Nat) {x:Str} {p1:Pos} {tg:Expr} {g1:D->FSt->Option FSt} (hg:JG Xs B tg g1) (hb:JB Xs B sts mf) (hN:∀ i,(Xs i).N[j]? = some x:=by intro _; rfl) (hv:∀ j,Vis (Xs j).env.scope x:=by intro _; first | exact Or.inl rfl | exact Or.inr (Or.inl rfl) | exact Or.inr (Or.inr rfl)) (hs:∀ i z,foldedSetIterable (.Name x p1) (Xs i).env z=pure z:=by intro _ _; rfl)
  (hd:(x==("__debug__":Str))=false:=by decide) (hcd:(x==("__classdict__":Str))=false:=by decide):JS Xs B (.For tg (.Name x p1) sts [] pos) (ziI j g1 mf):=
 let ⟨_,p',f'⟩:=hg.ex; let ⟨_,q,g⟩:=hb.ex; ⟨⟨_,λi=>zrz (jx.x i) (jx.c rfl i) (zks (jx.k' i) (zhX (hN i) (hv i) hd hcd)) (p' i) (q i) (hs i),zxV jx.bk f' g⟩⟩
theorem zvb (jx:JX Xs P w K mg base k B cm) (hc:JT Xs B c mt) (hb:JB Xs B sts mf):JS Xs B (.While c sts [] pos) (zjx mt mf):=let ⟨_,p,f⟩:=hc.ex; let ⟨_,q,g⟩:=hb.ex; ⟨⟨_,λi=>zun (jx.x i) (p i) (q i),zuY f g⟩⟩
theorem zaY (h:JE Xs B e L me):JS Xs B (.Return (some e) pos) (zdu me):=let ⟨_,p,f⟩:=h.ex; ⟨⟨_,λi=>zrt (p i),zwf f⟩⟩
theorem zhv (j:Nat) {x:Str} {p1:Pos} (hN:∀ i,(Xs i).N[j]? = some x:=by intro _; rfl) (hv:∀ j,Vis (Xs j).env.scope x:=by intro _; first | exact Or.inl rfl | exact Or.inr (Or.inl rfl) | exact Or.inr (Or.inr rfl)) (hd:(x==("__debug__":Str))=false:=by decide) (hcd:(x==("__classdict__":Str))=false:=by decide):JS Xs B (.Return (some (.Name x p1)) pos) (zls j):=
 ⟨⟨_,λi=>zrt (zhX (hN i) (hv i) hd hcd),zxQ j⟩⟩
theorem zee:JS Xs B st zsh:=⟨⟨_,λ_=>zul,zuV⟩⟩
theorem zbq:JB Xs B [] zce:=⟨⟨_,λ_=>zw3,zxP⟩⟩
theorem zao (h:JS Xs B st mf):JB Xs B [st] mf:=let ⟨_,p,f⟩:=h.ex; ⟨⟨_,λi=>zrs (p i),f⟩⟩
theorem zaf (h:JS Xs B st mf) (h':JB Xs B sts mh):JB Xs B (st :: sts) (zbp mf mh):=let ⟨_,p,f⟩:=h.ex; let ⟨_,q,g⟩:=h'.ex; ⟨⟨_,λi=>zpd (p i) (q i),zAH f g⟩⟩
theorem zlO (jx:JX Xs P w K mg base k B cm) (i:Nat) {x:Str} {p1 apos cpos:Pos} {L':List Nat} (he:JD Xs B e L md) (hs1:∀ i,starEach [e] (Xs i).env=[(false,eval e (Xs i).env)]) (hN:∀ j,(Xs j).N[i]? = some x:=by intro _; rfl) (hv:∀ j,Vis (Xs j).env.scope x:=by intro _; first | exact Or.inl rfl | exact Or.inr (Or.inl rfl) | exact Or.inr (Or.inr rfl))
  (hbase:∀ j,attributeBase (.Name x p1) "append" (Xs j).env (eval (.Name x p1) (Xs j).env)=eval (.Name x p1) (Xs j).env:=by intro _; rfl)
  (hfew:∀ i,((backTo cpos (starEach [e] (Xs i).env)).all (λx=>!x.1)&&(backToKw cpos (keywordEach [] (Xs i).env)).all (λx=>x.1.isSome)&&decide ([e].length+([]:List Keyword).length+(if ([]:List Keyword).isEmpty then 0 else 1) < 30))=true:=by intro _; rfl)
  (hline:(apos.endLine==cpos.line)=true:=by rfl) (hs:∀ j,swapsWith (.Call (.Attribute (.Name x p1) "append" apos) [e] [] cpos) none pos.line (Xs j).env=pure false:=by intro _; rfl)
  (hd:(x==("__debug__":Str))=false:=by decide) (hcd:(x==("__classdict__":Str))=false:=by decide) (hl:(L.all λi=>L'.contains i)=true:=by rfl):JS Xs B (.Expr (.Call (.Attribute (.Name x p1) "append" apos) [e] [] cpos) pos) (zuh i L' md):=
 let ⟨_,p,f⟩:=he.ex; ⟨⟨_,λj=>zmi (zwa (jx.k' j) PySem.F.plainAttrs_list PySem.F.slot_list_append PySem.F.type_list_append zm8 (zhX (hN j) (hv j) hd hcd) (zkm (p j) zrF (hs1 j)) (hbase j) (hfew j) hline (hs1 j) rfl) (hs j),zAZ L' jx.bk f hl⟩⟩
theorem zBf (jx:JX Xs P w K mg base k B cm) (i:Nat) {x:Str} {p1 apos cpos:Pos} (hN:∀ j,(Xs j).N[i]? = some x:=by intro _; rfl) (hv:∀ j,Vis (Xs j).env.scope x:=by intro _; first | exact Or.inl rfl | exact Or.inr (Or.inl rfl) | exact Or.inr (Or.inr rfl))
  (hbase:∀ j,attributeBase (.Name x p1) "reverse" (Xs j).env (eval (.Name x p1) (Xs j).env)=eval (.Name x p1) (Xs j).env:=by intro _; rfl)
  (hline:(apos.endLine==cpos.line)=true:=by rfl) (hs:∀ j,swapsWith (.Call (.Attribute (.Name x p1) "reverse" apos) [] [] cpos) none pos.line (Xs j).env=pure false:=by intro _; rfl)
  (hd:(x==("__debug__":Str))=false:=by decide) (hcd:(x==("__classdict__":Str))=false:=by decide):JS Xs B (.Expr (.Call (.Attribute (.Name x p1) "reverse" apos) [] [] cpos) pos) (zA8 i):=
 ⟨⟨_,λj=>zmi (zok (jx.k' j) PySem.F.plainAttrs_list PySem.F.slot_list_reverse PySem.F.type_list_reverse zqg (zhX (hN j) (hv j) hd hcd) (hbase j) hline) (hs j),zA9 jx.bk⟩⟩
end
structure JIx (k:Nat) (qual:Str) (scope:Scope) (f:Addr) where
 cdv:Value
 A:Around
 outer:List Env
 s:Shared
 H:Hp
 E:XK
 hr:Room k (A.deeper (envOfC qual scope s.heap.objs.size f cdv))
abbrev JXs (P:Program) (w:World) (K:W.Frag) (mg:Str->Option Value) (base:Heap) (N:List Str) (k:Nat) (qual:Str) (scope:Scope) (f:Addr):JIx k qual scope f->Cx:=
 λi=>(zoc CX0 P w K mg base N qual scope f i.cdv i.A i.outer i.s i.H i.E).nox
section
variable {P:Program} {w:World} {K:W.Frag} {mg:Str->Option Value} {base:Heap} {x qual:Str} {st:Stmt} {f:Addr} {fd:FuncData} {N ps:List Str} {k:Nat} {B:Bk} {m:FSt->Fl} {scope:Scope}
theorem zwq (hK:B.K=K):JX (JXs P w K mg base N k qual scope f) P w K mg base k B:=⟨λ_=>rfl,λ_=>rfl,λ_=>rfl,λ_=>rfl,λ_=>rfl,λ_ i=>i.hr,λ_ _=>rfl,hK,λ_=>PassesOwn.never⟩
theorem Fun.okJ (F:Fun K x qual st f fd) (S:FnScope N ps (zae st)) (hK:B.K=K) (h:JX (JXs P w K mg base N k qual (zae st) f) P w K mg base k B->JB (JXs P w K mg base N k qual (zae st) f) B (zb5 st) m):FnOk P w K mg base CX0 (k+1) f fd ps (SpF B ps.length (zcA m ps.length N.length)):=
 F.okF S λcdv A outer s H E hr=>let ⟨t,p,q⟩:=(h (zwq hK)).ex; ⟨t,p ⟨cdv,A,outer,s,H,E,hr⟩,q⟩
theorem Fun.okIJ (F:Fun K x qual st f fd) (S:FnScope N ps (zae st)) (hK:B.K=K) (h:JX (JXs P w K mg base N k qual (zae st) f) P w K mg base k B->JB (JXs P w K mg base N k qual (zae st) f) B (zb5 st) m):FnOk P w K mg base CX0 (k+1) f fd ps (SpI B ps.length (zrk m ps.length N.length)):=
 F.okI S λcdv A outer s H E hr=>let ⟨t,p,q⟩:=(h (zwq hK)).ex; ⟨t,p ⟨cdv,A,outer,s,H,E,hr⟩,q⟩
end
abbrev FnT:=List D->Option SV
abbrev BdT:=FSt->Fl
abbrev InT:=Nat->List D->Option (List (Str×D))
section
variable {ι:Type} {Xs:ι->Cx} {es:List Expr}
theorem aN {x pos} (i:ι):starEach (.Name x pos :: es) (Xs i).env=(false,eval (.Name x pos) (Xs i).env) :: starEach es (Xs i).env:=zya
theorem aC {c k pos} (i:ι):starEach (.Constant c k pos :: es) (Xs i).env=(false,eval (.Constant c k pos) (Xs i).env) :: starEach es (Xs i).env:=zou
theorem aT {a b pos} (i:ι):starEach (.Tuple a b pos :: es) (Xs i).env=(false,eval (.Tuple a b pos) (Xs i).env) :: starEach es (Xs i).env:=zu9
theorem aK {a pos} (i:ι):starEach (.List a pos :: es) (Xs i).env=(false,eval (.List a pos) (Xs i).env) :: starEach es (Xs i).env:=zyb
theorem aB {a o b pos} (i:ι):starEach (.BinOp a o b pos :: es) (Xs i).env=(false,eval (.BinOp a o b pos) (Xs i).env) :: starEach es (Xs i).env:=zva
theorem aU {o b pos} (i:ι):starEach (.UnaryOp o b pos :: es) (Xs i).env=(false,eval (.UnaryOp o b pos) (Xs i).env) :: starEach es (Xs i).env:=zqu
theorem aO {o b pos} (i:ι):starEach (.BoolOp o b pos :: es) (Xs i).env=(false,eval (.BoolOp o b pos) (Xs i).env) :: starEach es (Xs i).env:=zsD
theorem aL {a b c pos} (i:ι):starEach (.Call a b c pos :: es) (Xs i).env=(false,eval (.Call a b c pos) (Xs i).env) :: starEach es (Xs i).env:=zkA
theorem aS {a b pos} (i:ι):starEach (.Subscript a b pos :: es) (Xs i).env=(false,eval (.Subscript a b pos) (Xs i).env) :: starEach es (Xs i).env:=zno
theorem aA {a b pos} (i:ι):starEach (.Attribute a b pos :: es) (Xs i).env=(false,eval (.Attribute a b pos) (Xs i).env) :: starEach es (Xs i).env:=znp
theorem aM {a b c pos} (i:ι):starEach (.ListComp a b c pos :: es) (Xs i).env=(false,eval (.ListComp a b c pos) (Xs i).env) :: starEach es (Xs i).env:=zov
end
theorem scm {N ps:List Str} {s:Scope} (a:s.kind=.function:=by rfl) (b:s.isCoroutine=false:=by rfl) (c:s.isGenerator=false:=by rfl) (d:N.Nodup:=by decide +kernel) (e:N.take ps.length=ps:=by rfl) (f:∀ x∈ps,s.names.lookup x=some .local\/s.names.lookup x=some .cell:=by decide +kernel) (g:∀ y∈s.names,y.2≠.free:=by decide +kernel):FnScope N ps s:=⟨a,b,c,d,e,f,g⟩
section
variable {K:W.Frag} {x qual:Str} {st:Stmt} {f:Addr} {fd:FuncData}
theorem Fun.b1 {p0:Str} (F:Fun K x qual st f fd) (h:∀ (kV doc pm:Value) (an:Option Addr) (cdv ct u0:Value),bindArgs (W.fnOf x qual (zdA st) (zb5 st) (zae st) .none kV doc pm an cdv ct) ⟨[u0],[]⟩=pure [(p0,u0)]:=by intros; rfl):Binds K fd [p0] []:=F.binds (ps:=[p0]) λkV doc pm an cdv ct us hl=>match us,hl with | [u0],_=>h kV doc pm an cdv ct u0
theorem Fun.b2 {p0 p1:Str} (F:Fun K x qual st f fd) (h:∀ (kV doc pm:Value) (an:Option Addr) (cdv ct u0 u1:Value),bindArgs (W.fnOf x qual (zdA st) (zb5 st) (zae st) .none kV doc pm an cdv ct) ⟨[u0,u1],[]⟩=pure [(p0,u0),(p1,u1)]:=by intros; rfl):Binds K fd [p0,p1] []:=F.binds (ps:=[p0,p1]) λkV doc pm an cdv ct us hl=>match us,hl with | [u0,u1],_=>h kV doc pm an cdv ct u0 u1
theorem Fun.b3 {p0 p1 p2:Str} (F:Fun K x qual st f fd) (h:∀ (kV doc pm:Value) (an:Option Addr) (cdv ct u0 u1 u2:Value),bindArgs (W.fnOf x qual (zdA st) (zb5 st) (zae st) .none kV doc pm an cdv ct) ⟨[u0,u1,u2],[]⟩=pure [(p0,u0),(p1,u1),(p2,u2)]:=by intros; rfl):Binds K fd [p0,p1,p2] []:=F.binds (ps:=[p0,p1,p2]) λkV doc pm an cdv ct us hl=>match us,hl with | [u0,u1,u2],_=>h kV doc pm an cdv ct u0 u1 u2
theorem Fun.b4 {p0 p1 p2 p3:Str} (F:Fun K x qual st f fd) (h:∀ (kV doc pm:Value) (an:Option Addr) (cdv ct u0 u1 u2 u3:Value),bindArgs (W.fnOf x qual (zdA st) (zb5 st) (zae st) .none kV doc pm an cdv ct) ⟨[u0,u1,u2,u3],[]⟩=pure [(p0,u0),(p1,u1),(p2,u2),(p3,u3)]:=by intros; rfl):Binds K fd [p0,p1,p2,p3] []:=F.binds (ps:=[p0,p1,p2,p3]) λkV doc pm an cdv ct us hl=>match us,hl with | [u0,u1,u2,u3],_=>h kV doc pm an cdv ct u0 u1 u2 u3
theorem Fun.b5 {p0 p1 p2 p3 p4:Str} (F:Fun K x qual st f fd) (h:∀ (kV doc pm:Value) (an:Option Addr) (cdv ct u0 u1 u2 u3 u4:Value),bindArgs (W.fnOf x qual (zdA st) (zb5 st) (zae st) .none kV doc pm an cdv ct) ⟨[u0,u1,u2,u3,u4],[]⟩=pure [(p0,u0),(p1,u1),(p2,u2),(p3,u3),(p4,u4)]:=by intros; rfl):Binds K fd [p0,p1,p2,p3,p4] []:=F.binds (ps:=[p0,p1,p2,p3,p4]) λkV doc pm an cdv ct us hl=>match us,hl with | [u0,u1,u2,u3,u4],_=>h kV doc pm an cdv ct u0 u1 u2 u3 u4
theorem Fun.b6 {p0 p1 p2 p3 p4 p5:Str} (F:Fun K x qual st f fd) (h:∀ (kV doc pm:Value) (an:Option Addr) (cdv ct u0 u1 u2 u3 u4 u5:Value),bindArgs (W.fnOf x qual (zdA st) (zb5 st) (zae st) .none kV doc pm an cdv ct) ⟨[u0,u1,u2,u3,u4,u5],[]⟩=pure [(p0,u0),(p1,u1),(p2,u2),(p3,u3),(p4,u4),(p5,u5)]:=by intros; rfl):Binds K fd [p0,p1,p2,p3,p4,p5] []:=F.binds (ps:=[p0,p1,p2,p3,p4,p5]) λkV doc pm an cdv ct us hl=>match us,hl with | [u0,u1,u2,u3,u4,u5],_=>h kV doc pm an cdv ct u0 u1 u2 u3 u4 u5
theorem Fun.b7 {p0 p1 p2 p3 p4 p5 p6:Str} (F:Fun K x qual st f fd) (h:∀ (kV doc pm:Value) (an:Option Addr) (cdv ct u0 u1 u2 u3 u4 u5 u6:Value),bindArgs (W.fnOf x qual (zdA st) (zb5 st) (zae st) .none kV doc pm an cdv ct) ⟨[u0,u1,u2,u3,u4,u5,u6],[]⟩=pure [(p0,u0),(p1,u1),(p2,u2),(p3,u3),(p4,u4),(p5,u5),(p6,u6)]:=by intros; rfl):Binds K fd [p0,p1,p2,p3,p4,p5,p6] []:=F.binds (ps:=[p0,p1,p2,p3,p4,p5,p6]) λkV doc pm an cdv ct us hl=>match us,hl with | [u0,u1,u2,u3,u4,u5,u6],_=>h kV doc pm an cdv ct u0 u1 u2 u3 u4 u5 u6
theorem Fun.b8 {p0 p1 p2 p3 p4 p5 p6 p7:Str} (F:Fun K x qual st f fd) (h:∀ (kV doc pm:Value) (an:Option Addr) (cdv ct u0 u1 u2 u3 u4 u5 u6 u7:Value),bindArgs (W.fnOf x qual (zdA st) (zb5 st) (zae st) .none kV doc pm an cdv ct) ⟨[u0,u1,u2,u3,u4,u5,u6,u7],[]⟩=pure [(p0,u0),(p1,u1),(p2,u2),(p3,u3),(p4,u4),(p5,u5),(p6,u6),(p7,u7)]:=by intros; rfl):Binds K fd [p0,p1,p2,p3,p4,p5,p6,p7] []:=F.binds (ps:=[p0,p1,p2,p3,p4,p5,p6,p7]) λkV doc pm an cdv ct us hl=>match us,hl with | [u0,u1,u2,u3,u4,u5,u6,u7],_=>h kV doc pm an cdv ct u0 u1 u2 u3 u4 u5 u6 u7
end
@[simp] def zsI (S:FSt) (p:Nat):Option (List Int):=match S[p]? with
 | some (some (.pu ns))=>some ns
 | _=>none
section
variable {B:Bk} {p:Nat} {H H1 H2 H':Hp} {F F1 F2 F':Addr->Prop} {σ:St} {S:FSt} {os:Nat->List Addr} {L La Lb:List Nat} {ns:List Int}
end
@[simp] def mPu {α:Type} (p:Nat) (m:FSt->Option α):FSt->Option (α×List Int):=λS=>(zsI S p).bind λns=>(m S).map λx=>(x,ns)
@[simp] def mP2 {α:Type} (p:Nat) (f:D->D->Option α) (ma mb:FSt->Option (SV×List Int)):FSt->Option (α×List Int):=λS=>(ma S).bind λx=>(mb (S.set p (some (.pu x.2)))).bind λy=>(f x.1.fr y.1.fr).map λz=>(z,y.2)
@[simp] def zED (p:Nat) (ma:FSt->Option (SV×List Int)) (mr:FSt->Option (List D×List Int)):FSt->Option (List D×List Int):=λS=>(ma S).bind λx=>(mr (S.set p (some (.pu x.2)))).bind λy=>some (x.1.fr :: y.1,y.2)
@[simp] def mP1 {α β:Type} (f:α->Option β) (ma:FSt->Option (α×List Int)):FSt->Option (β×List Int):=λS=>(ma S).bind λx=>(f x.1).map λz=>(z,x.2)
section
variable {B:Bk} {p:Nat} {ta tb:TE} {La Lb L:List Nat} {ma mb:FSt->Option (SV×List Int)} {tr:TA} {mr:FSt->Option (List D×List Int)} {me:FSt->Option SV} {md:FSt->Option D}
@[simp] def zFO:List D->Option SV:=λds=>if ds.length<=sizeLine then some (.li ds) else none
@[simp] def zFP:List D->Option SV:=λds=>if ds.length<=sizeLine then some (.sh (.tup ds)) else none
@[simp] def zFQ (p:Nat) (f:D->List D->Option SV) (ma:FSt->Option (SV×List Int)) (mr:FSt->Option (List D×List Int)):FSt->Option (SV×List Int):=λS=>(ma S).bind λx=>(mr (S.set p (some (.pu x.2)))).bind λy=>(f x.1.fr y.1).map λz=>(z,y.2)
end
@[simp] def zEE (f:List Int->List D->Option (SV×List Int)) (mr:FSt->Option (List D×List Int)):FSt->Option (SV×List Int):=λS=>(mr S).bind λy=>f y.2 y.1
@[simp] def zsJ:List D->Option (List Int)
 | []=>some []
 | .int i :: r=>(zsJ r).map λis=>i :: is
 | _=>none
@[simp] def zEF (f:List Int->List D->Option SV) (me:FSt->Option SV):FSt->Option SV:=λS=>(me S).bind λx=>match x with
 | .li ds=>(zsJ ds).bind λns=>f ns []
 | _=>none
section
variable {B:Bk} {p:Nat} {ta tb:TE} {La Lb L:List Nat} {tr:TA} {mr:FSt->Option (List D×List Int)} {me:FSt->Option SV}
end
def zsK (pc:Nat) (mg:D->FSt->Option FSt) (mt:FSt->Option (Bool×List Int)) (me:FSt->Option (SV×List Int)):List D->FSt->Option (List D×List Int)
 | [],S=>(zsI S pc).map λns=>([],ns)
 | d :: r,S=>(mg d S).bind λS1=>(mt S1).bind λc=>if c.1=true then (me (S1.set pc (some (.pu c.2)))).bind λx=>(zsK pc mg mt me r (S1.set pc (some (.pu x.2)))).map λy=>(x.1.fr :: y.1,y.2) else zsK pc mg mt me r (S1.set pc (some (.pu c.2)))
@[simp] def zBg (own:Nat) (fi:List Nat) (p:Nat) (S:FSt):FSt:=List.replicate own none++fi.map λj=>if j=p then S[j]?.join else (S[j]?.join).map λx=>SV.sh x.fr
@[simp] def zEG (own:Nat) (fi:List Nat) (p pc:Nat) (mi:FSt->Option (List D×List Int)) (mg:D->FSt->Option FSt) (mt:FSt->Option (Bool×List Int)) (me:FSt->Option (SV×List Int)):FSt->Option (SV×List Int):=λS=>
 (mi S).bind λits=>if its.1.length<=sizeLine then (zsK pc mg mt me its.1 (zBg own fi p (S.set p (some (.pu its.2))))).map λy=>(SV.li y.1,y.2) else none
section
variable {B:Bk} {p pc:Nat} {wi:TI} {mi:FSt->Option (List D×List Int)} {g:TG} {mg:D->FSt->Option FSt} {tt:TT} {mt:FSt->Option (Bool×List Int)} {te:TE} {me:FSt->Option (SV×List Int)} {own:Nat} {fi L:List Nat}
end
@[simp] def zFb (p i:Nat) (L:List Nat) (me:FSt->Option (SV×List Int)):FSt->Fl:=λS=>match zsI S p,me S with
 | some _,some y=>put i L y.1 (S.set p (some (.pu y.2)))
 | _,_=>.bad
@[simp] def zFc (p:Nat) (L:List Nat) (me:FSt->Option (SV×List Int)) (mg:D->FSt->Option FSt):FSt->Fl:=λS=>match zsI S p,me S with
 | some _,some y=>if y.1.plain=true then (match mg y.1.fr (S.set p (some (.pu y.2))) with | some S'=>.nx S' | none=>.bad) else if L.any (zeg (S.set p (some (.pu y.2))))=false then (match mg y.1.fr (frzs L (S.set p (some (.pu y.2)))) with | some S'=>.nx S' | none=>.bad) else .bad
 | _,_=>.bad
@[simp] def zFR (p:Nat) (c:FSt->Option (Bool×List Int)) (a b:FSt->Fl):FSt->Fl:=λS=>match zsI S p,c S with
 | some _,some y=>if y.1=true then a (S.set p (some (.pu y.2))) else b (S.set p (some (.pu y.2)))
 | _,_=>.bad
@[simp] def zFd (p:Nat) (mi:FSt->Option (List D×List Int)) (mg:D->FSt->Option FSt) (mb:FSt->Fl):FSt->Fl:=λS=>match zsI S p,mi S with
 | some _,some y=>za9 mg mb y.1 (S.set p (some (.pu y.2)))
 | _,_=>.bad
@[simp] def zFe (p:Nat) (me:FSt->Option (SV×List Int)):FSt->Fl:=λS=>match zsI S p,me S with
 | some _,some y=>.rt y.1
 | _,_=>.bad
@[simp] def zFS (p:Nat):FSt->Option (SV×List Int):=λS=>(zsI S p).bind λns=>(ns[ns.length-1]?).map λn=>(.sh (.int n),ns.dropLast)
@[simp] def zFf (p:Nat) (me:FSt->Option (SV×List Int)) (mk:FSt->Option D):FSt->Fl:=λS=>match zsI S p,me S with
 | some _,some y=>match y.1,mk (S.set p (some (.pu y.2))) with
  | .sh (.int v),some (.int k)=>match ixN y.2.length k with
   | some j=>.nx (S.set p (some (.pu (y.2.set j v))))
   | none=>.bad
  | _,_=>.bad
 | _,_=>.bad
section
variable {B:Bk} {p:Nat} {te:TE} {L:List Nat} {me:FSt->Option (SV×List Int)} {K:W.Frag}
end
inductive Fl2 where
 | nx (S:FSt) | rt (x:SV) (S:FSt) | bad
@[simp] def mOf (m:FSt->Fl):FSt->Fl2:=λS=>match m S with
 | .nx S'=>.nx S'
 | _=>.bad
@[simp] def zFg (a b:FSt->Fl2):FSt->Fl2:=λS=>match a S with
 | .nx S1=>b S1
 | r=>r
@[simp] def zFT (c:FSt->Option Bool) (a b:FSt->Fl2):FSt->Fl2:=λS=>match c S with
 | some true=>a S
 | some false=>b S
 | none=>.bad
@[simp] def zFh (p:Nat) (c:FSt->Option (Bool×List Int)) (a b:FSt->Fl2):FSt->Fl2:=λS=>match zsI S p,c S with
 | some _,some y=>if y.1=true then a (S.set p (some (.pu y.2))) else b (S.set p (some (.pu y.2)))
 | _,_=>.bad
@[simp] def zFi (p:Nat) (L:List Nat) (me:FSt->Option (SV×List Int)):FSt->Fl2:=λS=>match zsI S p,me S with
 | some _,some y=>if y.1.plain=true then .rt y.1 (S.set p (some (.pu y.2))) else if L.any (zeg (S.set p (some (.pu y.2))))=false then .rt y.1 (frzs L (S.set p (some (.pu y.2)))) else .bad
 | _,_=>.bad
@[simp] def zEH (i:Nat):FSt->Fl2:=λS=>match S[i]? with
 | some (some x)=>if lkO (some x)=false then .rt x (S.set i none) else .bad
 | _=>.bad
section
variable {B:Bk} {p:Nat} {te:TE} {L:List Nat} {me:FSt->Option (SV×List Int)} {t u:TS} {ma mb:FSt->Fl2}
end
section
variable {P:Program} {w:World} {K:W.Frag} {mg:Str->Option Value} {base:Heap} {x qual:Str} {st:Stmt} {f:Addr} {fd:FuncData} {N ps:List Str} {k:Nat} {B:Bk}
end
section
variable {ι:Type}
variable {Xs:ι->Cx} {P:Program} {w:World} {K:W.Frag} {mg:Str->Option Value} {base:Heap} {k p:Nat} {B:Bk} {a b e o c:Expr} {es:List Expr} {L L' La Lb:List Nat} {ma mb mx:FSt->Option (SV×List Int)} {me:FSt->Option SV} {md:FSt->Option D} {mt:FSt->Option (Bool×List Int)} {mr:FSt->Option (List D×List Int)} {pos:Pos}
@[simp] def oSh (f:D->D->Option D):D->D->Option SV:=λx y=>(f x y).map SV.sh
@[simp] def zEI (f:D->D->Option D) (p:Nat) (ma mb:FSt->Option (SV×List Int)):FSt->Option (Bool×List Int):=mP1 asB λS=>(mP2 p (oSh f) ma mb S).map λx=>(x.1.fr,x.2)
@[simp] noncomputable def zFU (mr:FSt->Option (List D×List Int)):FSt->Option (List D×List Int):=mP1 (λds=>match ds with | [.int j]=>zqm [.int j] | _=>none) mr
variable {mf mh:FSt->Fl} {st:Stmt} {sts ss:List Stmt} {m2f m2h:FSt->Fl2}
end
section
variable {P:Program} {w:World} {K:W.Frag} {mg:Str->Option Value} {base:Heap} {x qual:Str} {st:Stmt} {f:Addr} {fd:FuncData} {N ps:List Str} {k:Nat} {B:Bk} {scope:Scope}
end
@[simp] noncomputable def zBh:Int->List Int->Bool
 | _,[]=>true
 | s,n :: ns=>zoo n&&(zoo (s+n)&&zBh (s+n) ns)
@[simp] noncomputable def zFV:List D->Option SV
 | [.lst ds]=>(zsJ ds).bind λns=>if zBh 0 ns=true then some (.sh (.int ns.sum)) else none
 | _=>none
section
variable {B:Bk} {K:W.Frag}
@[simp] def zpr (i:Nat):FSt->Fl:=λS=>match S[i]? with
 | some (some (.li xs))=>.nx (S.set i (some (.li [])))
 | _=>.bad
theorem zvc {i:Nat} (hK:B.K=K):FS B (zmh (zAg K "list" zv5 (zp5 i))) (zpr i):=by
 subst hK;intro S σ H F os E r h;unfold zpr at h;split at h
 case h_2=>exact h.elim
 case h_1 xs e=>
  obtain ⟨v,hv,a,vs,rfl,eo,nf,hh,das⟩:=r.at' i _ e;have em:a∈os i:=by rw [eo]; simp
  refine ⟨.ref a,hv,.inl ⟨rfl,vs,.inl (.inl hh)⟩,a,vs,rfl,rfl,hh,?_⟩;have nl:zeg S i=false:=by unfold zeg; rw [e]; rfl
  exact h σ _ F os (zdc em (.inl nl)) (r.write em hv ⟨a,_,rfl,eo,nf,zaS,.nil⟩)
@[simp] def zFW (m:FSt->Option (SV×List Int)):FSt->Option (Option Int×List Int):=λS=>(m S).bind λy=>match y.1 with
 | .sh (.int i)=>some (some i,y.2)
 | _=>none
@[simp] def zFX (p:Nat) (a:FSt->Option (SV×List Int)) (l h:FSt->Option (Option Int×List Int)):FSt->Option (SV×List Int):=λS=>(a S).bind λx=>(l (S.set p (some (.pu x.2)))).bind λlo=>(h (S.set p (some (.pu lo.2)))).bind λhi=>(oSl x.1.fr lo.1 hi.1).map λz=>(z,hi.2)
variable {p:Nat} {te:TE} {L:List Nat} {ma:FSt->Option (SV×List Int)} {tl th:TO} {ml mh:FSt->Option (Option Int×List Int)}
end
section
variable {ι:Type}
variable {Xs:ι->Cx} {P:Program} {w:World} {K:W.Frag} {mg:Str->Option Value} {base:Heap} {k p:Nat} {B:Bk} {a b e o c:Expr} {es:List Expr} {L:List Nat} {ma:FSt->Option (SV×List Int)} {pos:Pos}
theorem zvd (jx:JX Xs P w K mg base k B) (i:Nat) {x:Str} {p1 apos cpos:Pos} (hN:∀ j,(Xs j).N[i]? = some x:=by intro _; rfl) (hv:∀ j,Vis (Xs j).env.scope x:=by intro _; first | exact Or.inl rfl | exact Or.inr (Or.inl rfl) | exact Or.inr (Or.inr rfl))
  (hbase:∀ j,attributeBase (.Name x p1) "clear" (Xs j).env (eval (.Name x p1) (Xs j).env)=eval (.Name x p1) (Xs j).env:=by intro _; rfl)
  (hline:(apos.endLine==cpos.line)=true:=by rfl) (hs:∀ j,swapsWith (.Call (.Attribute (.Name x p1) "clear" apos) [] [] cpos) none pos.line (Xs j).env=pure false:=by intro _; rfl)
  (hd:(x==("__debug__":Str))=false:=by decide) (hcd:(x==("__classdict__":Str))=false:=by decide):JS Xs B (.Expr (.Call (.Attribute (.Name x p1) "clear" apos) [] [] cpos) pos) (zpr i):=
 ⟨⟨_,λj=>zmi (zok (jx.k' j) PySem.F.plainAttrs_list PySem.F.slot_list_clear PySem.F.type_list_clear zuz (zhX (hN j) (hv j) hd hcd) (hbase j) hline) (hs j),zvc jx.bk⟩⟩
end
section
variable {prog:Program} {w:World} {A:Around} {E:Value->Shared->Prop} {s:Shared}
end
section
variable {X:Cx} {pins:List (Addr×Obj)} {σ:St} {H:Hp} {s:Shared}
end
section
variable {X:Cx} {o:Expr} {td:TE} {elts:List Expr} {x1:Nat} {pos apos cpos:Pos}
end
@[simp] def mZ (me:FSt->Option SV):FSt->Option D:=λS=>(me S).bind λx=>match x with
 | .dT kvs=>some (.dZ kvs)
 | _=>none
@[simp] def zBi:D->Option (List D)
 | .dZ kvs=>some (kvs.map λkv=>.tup [.tup (kv.1.map kD),kv.2])
 | _=>none
@[simp] def zEJ (md:FSt->Option D):FSt->Option (List D):=λS=>(md S).bind zBi
section
variable {B:Bk} {t td:TE} {L:List Nat} {me:FSt->Option SV} {md:FSt->Option D}
end
section
variable {X:Cx} {pins:List (Addr×Obj)} {σ:St} {H:Hp} {s:Shared}
end
section
variable {X:Cx} {a:Expr} {ta:TA} {elts:List Expr} {x1:Nat} {pos p cpos:Pos}
end
@[simp] def zBj:List D->Option (List D)
 | [.lst ds]=>some (ds.zipIdx.map λp=>.tup [.int (p.2:Nat),p.1])
 | [.fz ds]=>some (ds.zipIdx.map λp=>.tup [.int (p.2:Nat),p.1])
 | _=>none
@[simp] def zFj (L:List Nat) (mr:FSt->Option (List D)):FSt->Option (List D):=λS=>(mr S).bind λds=>if D.plains ds=true\/L.all (zui S)=true then zBj ds else none
section
variable {B:Bk} {tr:TA} {L:List Nat} {mr:FSt->Option (List D)}
end
section
variable {ι:Type} {Xs:ι->Cx} {P:Program} {w:World} {K:W.Frag} {mg:Str->Option Value} {base:Heap} {k:Nat} {B:Bk} {a e o:Expr} {L:List Nat} {me:FSt->Option SV} {md:FSt->Option D} {mr:FSt->Option (List D)}
end
def XAt (e:Addr) (C:Value) (dx:Option Addr) (T:Option Addr) (fl:Value) (h:Heap):Prop:=
 ∃ oe vs,h.get? e=some oe/\oe.cls=C/\oe.dict=dx/\oe.data=.fields vs/\1 < vs.size/\
  match T with
  | none=>vs[1]? = some .none
  | some T=>vs[1]? = some (.ref T)/\T≠e/\∃ oT ts,h.get? T=some oT/\oT.data=.fields ts/\ts[3]? = some fl
structure KeptX (fs:List Addr) (e:Addr) (T:Option Addr) (h h':Heap):Prop where
 keep:∀ b o,h.get? b=some o->b≠e->T≠some b->b∉fs->h'.get? b=some o
 slot:∀ b o,h.get? b=some o->b≠e->T≠some b->∃ sl,h'.get? b=some { o with slots:=sl }
 there:∀ b o,h.get? b=some o->∃ o',h'.get? b=some o'
 size:h.objs.size<=h'.objs.size
theorem zlv (o:Obj) (f):(o.mapFields f).dict=o.dict:=by
 unfold Obj.mapFields;split <;> rfl
section
variable {M:Model} {A:Around} {E:Value->Shared->Prop} {s:Shared} {base:Heap} {env:Env} {outer:List Env} {L e:Addr}
theorem zsL {oe:Obj} {vs:Array Value} {head:Value} {hadNext:Bool} {Q:Unit->Shared->Prop} (hfr:A.frames=some (env :: outer)) (hl:s.heap.FunFrames base (env :: outer)) (hf:env.frame=some L)
  (he:s.heap.get? e=some oe) (hd:oe.data=.fields vs) (hsz:1 < vs.size)
  (h:∀ h' T',h'.get? e=some (oe.mapFields (·.setIfInBounds 1 (.ref T')))->(∃ oT ts,h'.get? T'=some oT/\oT.data=.fields ts/\ts[3]? = some (rawInt L))->s.heap.objs.size<=T'->T'≠e->KeptX (frs (env :: outer)) e none s.heap h'->Q () { s with heap:=h' }) :
  wpAny M A (do let a <- frameOf env; let pl <- entryPlaceOf L hadNext; let b <- EntryCells.newEntry head a .none (rawInt L) .none pl; setField (.ref e) 1 b) Q E s:=by
 have hene:e∉frs (env :: outer):=λhm=>by
  obtain ⟨_,o,ho,hnf⟩:=hl.mem hm;rw [he] at ho; cases ho; exact hnf vs hd
 refine wpAny_bind (wpAny_frameOf_fun hfr hl hf λh1 hs1=>wpAny_bind (wpAny_entryPlaceOf λpl hpl=>?_));unfold EntryCells.newEntry newFields;refine wpAny_bind (wpAny_newObj_type ?_ (hpl.sizeOk5 _ _ _ _ _));have he1:h1.get? e=some oe:=(hs1.2.1 e hene).trans he;generalize hn:({ cls:=.type "traceback",dict:=none,data:=.fields ([head,.ref L,.none,rawInt L,.none]++(if pl.isEmpty then List.replicate 6 Value.none else pl)).toArray }:Obj)=ent
 have he2:=Heap.get?_push_of_some (h:=h1) ent he1;refine wpAny_setField he2 hd hsz ?_;have hTe:h1.objs.size≠e:=Nat.ne_of_gt (Heap.lt_size he1);have hd3:=Obj.data_mapFields hd (·.setIfInBounds 1 (Value.ref h1.objs.size));have hTs:h1.objs.size=s.heap.objs.size:=hs1.1;have old:∀ b o,b≠e->h1.get? b=some o->((h1.push ent).update e (Obj.mapFields (·.setIfInBounds 1 (Value.ref h1.objs.size)))).get? b=some o:=λb o hb q=>by
  rw [Heap.get?_update_other _ _ (Ne.symm hb)];exact Heap.get?_push_of_some _ q
 refine h _ h1.objs.size (Heap.get?_update_self _ he2 (Obj.isFreed_of_fields hd3)) ?_ (by rw [hTs]; exact Nat.le_refl _) hTe ⟨?_,?_,?_,?_⟩
 ·refine ⟨ent,_,?_,by rw [<- hn],?_⟩
  ·rw [Heap.get?_update_other _ _ (Ne.symm hTe)];exact Heap.get?_push_size h1 (by rw [<- hn]; rfl)
  ·rw [List.getElem?_toArray,List.getElem?_append_left (by simp)];rfl
 ·intro b o q hb _ hfs;exact old b o hb ((hs1.2.1 b hfs).trans q)
 ·intro b o q hb _;obtain ⟨sl,q1⟩:=hs1.2.2 b o q;exact ⟨sl,old b _ hb q1⟩
 ·intro b o q
  by_cases hb:b=e
  ·subst hb;exact ⟨_,Heap.get?_update_self _ he2 (Obj.isFreed_of_fields hd3)⟩
  ·obtain ⟨sl,q1⟩:=hs1.2.2 b o q;exact ⟨_,old b _ hb q1⟩
 ·rw [Heap.size_after_update,<- hTs];simp [Heap.push]
theorem zwr {C:Value} {dx T:Option Addr} {Q:Unit->Shared->Prop} (hfr:A.frames=some (env :: outer)) (hl:s.heap.FunFrames base (env :: outer)) (hf:env.frame=some L) (hx:XAt e C dx T .none s.heap)
  (h:∀ h' T',XAt e C dx (some T') (rawInt L) h'->s.heap.objs.size<=T'->KeptX (frs (env :: outer)) e T s.heap h'->Q () { s with heap:=h' }):wpAny M A (noteFrame (.ref e) env) Q E s:=by
 obtain ⟨oe,vs,he,hc,hdd,hd,hsz,ht⟩:=hx;unfold noteFrame;simp only [hf];have fin:∀ h' T',h'.get? e=some (oe.mapFields (·.setIfInBounds 1 (.ref T')))->(∃ oT ts,h'.get? T'=some oT/\oT.data=.fields ts/\ts[3]? = some (rawInt L))->T'≠e->XAt e C dx (some T') (rawInt L) h':=λh' T' h1 h2 h3=>
  ⟨_,_,h1,(Obj.cls_mapFields _ _).trans hc,(zlv _ _).trans hdd,Obj.data_mapFields hd _,by simpa using hsz,by simp [hsz],h3,h2⟩
 cases T with
 | none=>
  refine wpAny_bind (wpAny_field he hd ht ?_);rw [if_neg (by decide)];exact zsL hfr hl hf he hd hsz λh' T' h1 h2 h3 h4 k=>h h' T' (fin h' T' h1 h2 h4) h3 k
 | some T=>
  obtain ⟨h1,hTe,oT,ts,hT,hdT,h3⟩:=ht;refine wpAny_bind (wpAny_field he hd h1 ?_);rw [if_pos (show (Value.ref T != Value.none)=true from by simp)];refine wpAny_bind (wpAny_field hT hdT h3 ?_);rw [if_neg (show ¬ ((Value.none==rawInt L)=true) from by simp [rawInt])];refine wpAny_bind (wpAny_setField hT hdT (Array.getElem?_eq_some_iff.mp h3).1 ?_);have hTf:T∉frs (env :: outer):=λhm=>by
   obtain ⟨_,o,ho,hnf⟩:=hl.mem hm;rw [hT] at ho; cases ho; exact hnf ts hdT
  have other:∀ b,b≠T->(s.heap.update T (Obj.mapFields (·.setIfInBounds 3 Value.none))).get? b=s.heap.get? b:=λb hb=>Heap.get?_update_other _ _ (Ne.symm hb);have nrec:∀ b o,s.heap.get? b=some o->(∀ vs,o.data≠.fields vs)->b≠T:=λb o hb hnf q=>by
   subst q; rw [hT] at hb; cases hb; exact hnf ts hdT
  have selfT:=Heap.get?_update_self (Obj.mapFields (·.setIfInBounds 3 Value.none)) hT (Obj.isFreed_of_fields (Obj.data_mapFields hdT _));refine zsL (s:={ s with heap:=s.heap.update T (Obj.mapFields (·.setIfInBounds 3 Value.none)) }) hfr (hl.of_keeps λb o hb hnf=>⟨o,(other b (nrec b o hb hnf)).trans hb,rfl⟩) hf ((other e (Ne.symm hTe)).trans he) hd hsz λh' T' h1 h2 h3' h4 k=>?_;have hT'n:s.heap.objs.size<=T':=by rw [Heap.size_after_update] at h3'; exact h3'
  refine h h' T' (fin h' T' h1 h2 h4) hT'n ⟨?_,?_,?_,?_⟩
  ·intro b o q hb hbT hfs;have hbT':b≠T:=λz=>hbT (by rw [z]);exact k.keep b o ((other b hbT').trans q) hb (by simp) hfs
  ·intro b o q hb hbT;have hbT':b≠T:=λz=>hbT (by rw [z]);exact k.slot b o ((other b hbT').trans q) hb (by simp)
  ·intro b o q
   by_cases z:b=T
   ·subst z; exact k.there b _ selfT
   ·exact k.there b o ((other b z).trans q)
  ·have:=k.size;rw [Heap.size_after_update] at this;exact this
theorem zmy {C:Value} {dx:Option Addr} {T:Addr} {fl:Value} {fs:List Addr} {Q:Unit->Shared->Prop} (hx:XAt e C dx (some T) fl s.heap)
  (h:∀ h',XAt e C dx (some T) .none h'->KeptX fs e (some T) s.heap h'->Q () { s with heap:=h' }):wpAny M A (setFlight (.ref e) none) Q E s:=by
 obtain ⟨oe,vs,he,hc,hdd,hd,hsz,h1,hTe,oT,ts,hT,hdT,h3⟩:=hx;have hsz3:=(Array.getElem?_eq_some_iff.mp h3).1;have selfT:=Heap.get?_update_self (Obj.mapFields (·.setIfInBounds 3 Value.none)) hT (Obj.isFreed_of_fields (Obj.data_mapFields hdT _));have other:∀ b,b≠T->(s.heap.update T (Obj.mapFields (·.setIfInBounds 3 Value.none))).get? b=s.heap.get? b:=λb hb=>Heap.get?_update_other _ _ (Ne.symm hb);refine wpAny_setFlight_none he hd h1 hT hdT hsz3 (h _ ⟨oe,vs,(other e (Ne.symm hTe)).trans he,hc,hdd,hd,hsz,h1,hTe,_,_,selfT,Obj.data_mapFields hdT _,by simp [hsz3]⟩ ⟨?_,?_,?_,?_⟩)
 ·intro b o q hb hbT _;exact (other b λz=>hbT (by rw [z])).trans q
 ·intro b o q hb hbT;exact ⟨o.slots,(other b λz=>hbT (by rw [z])).trans q⟩
 ·intro b o q
  by_cases z:b=T
  ·subst z; exact ⟨_,selfT⟩
  ·exact ⟨o,(other b z).trans q⟩
 ·rw [Heap.size_after_update]; exact Nat.le_refl _
theorem zsM {C:Value} {dx T:Option Addr} {Q:Unit->Shared->Prop} (hfr:A.frames=some (env :: outer)) (hl:s.heap.FunFrames base (env :: outer)) (hf:env.frame=some L) (hx:XAt e C dx T .none s.heap)
  (h:∀ h' T',XAt e C dx (some T') .none h'->s.heap.objs.size<=T'->KeptX (frs (env :: outer)) e T s.heap h'->Q () { s with heap:=h' }):wpAny M A (leaving env (.ref e)) Q E s:=by
 unfold leaving;refine wpAny_bind (zwr hfr hl hf hx λh1 T' x1 hn k1=>?_);refine zmy (s:={ s with heap:=h1 }) (fs:=frs (env :: outer)) x1 λh2 x2 k2=>h h2 T' x2 hn ⟨?_,?_,?_,?_⟩
 ·intro b o q hb hbT hfs;exact k2.keep b o (k1.keep b o q hb hbT hfs) hb (λz=>by cases z; exact absurd (Heap.lt_size q) (Nat.not_lt.mpr hn)) hfs
 ·intro b o q hb hbT;obtain ⟨sl,q1⟩:=k1.slot b o q hb hbT;obtain ⟨sl2,q2⟩:=k2.slot b _ q1 hb (λz=>by cases z; exact absurd (Heap.lt_size q) (Nat.not_lt.mpr hn));exact ⟨sl2,q2⟩
 ·intro b o q;obtain ⟨o1,q1⟩:=k1.there b o q;exact k2.there b o1 q1
 ·exact Nat.le_trans k1.size k2.size
end
def CX1 (P:Program) (w:World):CXT:=λouter H s E e s'=>∃ (a:Addr) (C:Value) (dx T:Option Addr) (H':Hp),e=.ref a/\XAt a C dx T .none s'.heap/\s.heap.objs.size<=a/\H' a=none/\(∀ t,T=some t->s.heap.objs.size<=t/\H' t=none)/\
 s'.os=s.os/\AllBare s'.gens/\Un (frs outer) [] H H' s.heap s'.heap/\HOk P w H' s'.heap/\E C dx H'
theorem zFk {fs gs:List Addr} {H H':Hp} {h h1 h2:Heap} {a:Addr} {T:Option Addr} (u:Un fs [] H H' h h1) (k:KeptX gs a T h1 h2) (hg:∀ b∈gs,b∈fs\/h.objs.size<=b) (ha:h.objs.size<=a) (hT:∀ t,T=some t->h.objs.size<=t):Un fs [] H H' h h2:=by
 have na:∀ b o,h.get? b=some o->b≠a:=λb o q z=>by subst z; exact absurd (Heap.lt_size q) (Nat.not_lt.mpr ha)
 have nT:∀ b o,h.get? b=some o->T≠some b:=λb o q z=>absurd (Heap.lt_size q) (Nat.not_lt.mpr (hT b z));refine ⟨λb o q n hb hx=>?_,λb o q n hb hx=>?_,u.free,λb o q hx=>?_,u.tups,u.frzs,u.tbls⟩
 ·refine k.keep b o (u.keep b o q n hb hx) (na b o q) (nT b o q) λz=>?_;rcases hg b z with z | z
  ·exact hb z
  ·exact absurd (Heap.lt_size q) (Nat.not_lt.mpr z)
 ·obtain ⟨sl,q1⟩:=u.slot b o q n hb hx;obtain ⟨sl2,q2⟩:=k.slot b _ q1 (na b o q) (nT b o q);exact ⟨sl2,q2⟩
 ·obtain ⟨o1,q1⟩:=u.there b o q hx;exact k.there b o1 q1
theorem zBk {P:Program} {w:World} {gs:List Addr} {H:Hp} {h1 h2:Heap} {a:Addr} {T:Option Addr} (ok:HOk P w H h1) (k:KeptX gs a T h1 h2) (hg:∀ b∈gs,H b=none) (ha:H a=none) (hT:∀ t,T=some t->H t=none):HOk P w H h2:=λb o e=>by
 have key:∀ c u,H c=some u->∀ v,h1.get? c=some v->h2.get? c=some v:=λc u hc v q=>
  k.keep c v q (λz=>by subst z; rw [ha] at hc; cases hc) (λz=>by rw [hT c z] at hc; cases hc) λz=>by rw [hg c z] at hc; cases hc
 refine (ok b o e).stay (λc u hc q=>?_) (λ_ q=>q) λ_ _ q=>q;rcases hc with rfl | hc
 ·exact key _ _ e _ q
 ·exact key _ _ hc _ q
def zyj (X:Cx) (E:XK) (e:Value) (s:Shared):Prop:=∃ (pins:List (Addr×Obj)) (σ:St) (H:Hp) (a:Addr) (C:Value) (dx T:Option Addr),e=.ref a/\Inv X pins σ H s/\XAt a C dx T .none s.heap/\X.s₀.heap.objs.size<=a/\H a=none/\(∀ t,T=some t->X.s₀.heap.objs.size<=t/\H t=none)/\E C dx H
section
variable {P:Program} {w:World} {K:W.Frag} {mg:Str->Option Value} {base:Heap} {N:List Str} {qual:Str} {scope:Scope} {f:Addr} {cd:Value} {A:Around} {outer:List Env} {s₀:Shared} {H₀:Hp} {E:XK}
theorem zws {e:Value} {s:Shared} (g:zyj (zoc (CX1 P w) P w K mg base N qual scope f cd A outer s₀ H₀ E) E e s):(zoc (CX1 P w) P w K mg base N qual scope f cd A outer s₀ H₀ E).xe e s:=by
 obtain ⟨pins,σ,H,a,C,dx,T,rfl,I,x,ha,hHa,hT,q⟩:=g;have hfr:(A.deeper (envOfC qual scope s₀.heap.objs.size f cd)).frames=some (envOfC qual scope s₀.heap.objs.size f cd :: outer):=I.ok.frames;show wpAny (model P w) (A.deeper (envOfC qual scope s₀.heap.objs.size f cd)) (leaving (envOfC qual scope s₀.heap.objs.size f cd) (.ref a)) _ _ s;have hl:s.heap.FunFrames base (envOfC qual scope s₀.heap.objs.size f cd :: outer):=I.stack
 refine zsM hfr hl rfl x λh' T' x' hT' k=>?_;have hst:∀ b∈frs (envOfC qual scope s₀.heap.objs.size f cd :: outer),b∈frs outer\/s₀.heap.objs.size<=b:=λb hb=>by
  rcases List.mem_cons.mp (I.stkSub b hb) with z | z
  ·exact .inr (by rw [z]; exact I.ok.above)
  ·exact .inl z
 have ub:Un (frs outer) [] H₀ H s₀.heap s.heap:=I.base;have u:=zFk ub k hst ha (λt z=>(hT t z).1);have hk:=zBk I.hok k I.stkFree hHa (λt z=>(hT t z).2);refine ⟨a,C,dx,some T',H,rfl,x',ha,hHa,λt z=>?_,I.os,I.bare,u,hk,q⟩;cases z
 have hs0:s₀.heap.objs.size<=s.heap.objs.size:=I.sz;exact ⟨Nat.le_trans hs0 hT',I.hok.fresh hT'⟩
theorem zve:zhZ (CX1 P w) (zoc (CX1 P w) P w K mg base N qual scope f cd A outer s₀ H₀ E) E:=by
 intro pins σ H s e s' I ⟨a,C,dx,T,H',he,x,ha,hHa,hT,os,bare,u,hok,q⟩;have J:=I.call' (ch:=[]) os u hok bare (λb z=>absurd z (by simp));have hs0:s₀.heap.objs.size<=s.heap.objs.size:=I.sz;exact zws ⟨pins,σ,H',a,C,dx,T,he,J,x,Nat.le_trans hs0 ha,hHa,λt z=>⟨Nat.le_trans hs0 (hT t z).1,(hT t z).2⟩,q⟩
end
open PySem.W Builtin Builtin.ObjectAttr
def zsN:List Value:=[.type "ValueError",.type "Exception",.type "BaseException",.type "object"]
def zps:List Value->Bool
 | .ref _ :: r=>zps r
 | l=>l==zsN
theorem znr (self:Value):∀ {l:List Value},zps l=true->refuseLoop self "__setattr__" l=pure ()
 | .ref c :: r,e=>by rw [refuseLoop_ref]; exact znr self e
 | [],e=>by cases e
 | .type n :: r,e=>by
  have:Value.type n :: r=zsN:=beq_iff_eq.mp e;rw [this];exact PySem.F.store_ValueError.passes self
 | .none :: r,e=>by have:=beq_iff_eq.mp e; cases this
 | .bool b :: r,e=>by have:=beq_iff_eq.mp e; cases this
 | .int _ _ :: r,e=>by have:=beq_iff_eq.mp e; cases this
 | .str _ _ :: r,e=>by have:=beq_iff_eq.mp e; cases this
 | .builtin _ :: r,e=>by have:=beq_iff_eq.mp e; cases this
 | .float _ _ :: r,e=>by have:=beq_iff_eq.mp e; cases this
 | .bytes _ _ :: r,e=>by have:=beq_iff_eq.mp e; cases this
def ziK (K:Frag) (C:Addr):Bool:=(clsIn K C).any λcd=>zps cd.mro
theorem zwt:∀ {l:List Value},zps l=true->l.contains (.type "object")=true
 | .ref c :: r,e=>by rw [List.contains_cons,zwt (l:=r) e,Bool.or_true]
 | [],e=>by cases e
 | .type n :: r,e=>by rw [show Value.type n :: r=zsN from beq_iff_eq.mp e]; decide
 | .none :: r,e=>by have:=beq_iff_eq.mp e; cases this
 | .ellipsis :: r,e=>by have:=beq_iff_eq.mp e; cases this
 | .notImplemented :: r,e=>by have:=beq_iff_eq.mp e; cases this
 | .bool b :: r,e=>by have:=beq_iff_eq.mp e; cases this
 | .int _ _ :: r,e=>by have:=beq_iff_eq.mp e; cases this
 | .str _ _ :: r,e=>by have:=beq_iff_eq.mp e; cases this
 | .builtin _ :: r,e=>by have:=beq_iff_eq.mp e; cases this
 | .float _ _ :: r,e=>by have:=beq_iff_eq.mp e; cases this
 | .bytes _ _ :: r,e=>by have:=beq_iff_eq.mp e; cases this
section
variable {prog:Program} {w:World} {A:Around} {K:Frag} {x C:Addr} {s:Shared}
theorem zvf {R : Result -> Shared -> Prop} {ox : Obj} {od : Option Obj} {name : Str} {tk : Tok} {v : Value} (X : K.In s.heap) (I : W.InstAt s.heap x ox C od) (hp : ziK K C = true) (ht : takerIn K C name = some none)
    (h : ∀ b, wpAny (model prog w) A.in1 (storeInOwnDict (.ref x) (.ref C) (.str name tk) name v b)
      (λfin s' => match fin with | .done f => R (.ok f) s' | .again c' => c'.quiet = true /\ codeAny (model prog w) A c' R s') (λe s' => R (.error e) s') s) :
    codeAny (model prog w) A (.call (.builtin "object.__setattr__") ⟨[.ref x, .str name tk, v], []⟩) R s := by
  have SF := PySem.F.store_object;obtain ⟨cd, hc, ho⟩ := any_some hp;have ne : cd.mro.isEmpty = false := by cases q : cd.mro with | nil => rw [q] at ho; cases ho | cons _ _ => rfl
  have sub : Looks (model prog w) s.heap (isInstance (.ref x) (.type "object")) true := I.type.andThen (looks_mroIn X (by unfold mroIn; rw [hc, Option.bind_some, if_neg (by rw [ne]; decide), zwt ho]));refine codeAny_call_builtin SF.slot.plain SF.entry (@check_slot (model prog w) _ _ s "object.__setattr__" "object" "__setattr__" (.ref x) [.str name tk, v] [] _ SF.kind SF.split sub (SF.args (.ref x) (.str name tk) v) ?_)
  obtain ⟨attr, ha, hr⟩ := Option.bind_eq_some_iff.mp ht;have hm : Looks (model prog w) s.heap (mroOf (.ref C)) cd.mro := (looks_clsIn X hc).andThen .now;have L3 : Looks (model prog w) s.heap (storeTaker? attr) none := by
    cases attr with
    | none => exact .now
    | some a =>
      obtain ⟨b, hb, q⟩ := Option.map_eq_some_iff.mp hr;refine (looks_takesIn X hb).andThen ?_;cases b
      · exact .now
      · cases q
  rw [osa_eq, refuse_eq];refine wpAny_bind (wpAny_bind (I.type.here (wpAny_bind (hm.here ?_))));rw [znr _ ho];refine wpAny_pure (wpAny_bind (I.type.here (wpAny_bind ((looks_findIn X ha).here (wpAny_bind (L3.here ?_))))));exact h _
theorem zBl {E:Value->Shared->Prop} {ox:Obj} {name:Str} {v:Value} {Q:Unit->Shared->Prop} (X:K.In s.heap) (I:W.InstAt s.heap x ox C none) (hdn:ox.dict=none)
  (hs:findIn K (.ref C) "__setattr__"=some (some (.builtin "object.__setattr__"))) (hp:ziK K C=true) (ht:takerIn K C name=some none) (hh:hasDictIn K C=true)
  (h:∀ h' tk,h'.get? x=some { ox with dict:=some s.heap.objs.size }->h'.Ns1 s.heap.objs.size (λy=>if y=name then some v else none)->(∀ b o,b≠x->s.heap.get? b=some o->h'.get? b=some o)->Q () { s with heap:=h',toks:=tk }) :
  wpAny (model prog w) A (setAttr (.ref x) name v) Q E s:=by
 refine set_plain X I hs (zvf (s:={ s with toks:=s.toks+1 }) X I hp ht λb=>?_);obtain ⟨cd,hc,hd'⟩:=any_some hh;obtain ⟨hx,hcl,hn,-⟩:=I;obtain ⟨oc,odi,oda,osl⟩:=ox;dsimp only at hcl hdn;subst hcl hdn;have LC:Looks (model prog w) ({ s with toks:=s.toks+1 }:Shared).heap (classData C) cd:=looks_clsIn X hc;refine wpAny_bind (wpAny_pure (wpAny_bind (wpAny_bind (wpAny_loadPart hx (wpAny_bind (LC.here ?_))))))
 rw [if_neg (by rw [hd']; decide)];dsimp only;rw [if_neg (by simp [typeHasDict])];have hnc:∀ c,oda≠.cls c:=λc z=>by subst z; cases hn
 have hx1:(s.heap.push { cls:=.type "dict",data:=.dict #[] }).get? x=some { cls:=.ref C,data:=oda,slots:=osl }:=Heap.get?_push_of_some _ hx;have hxs:x≠s.heap.objs.size:=Nat.ne_of_lt (Heap.lt_size hx);split
 ·exact absurd rfl (hnc _)
 ·refine wpAny_bind (wpAny_alloc' (wpAny_bind (wpAny_update' hx1 (wpAny_pure ?_))));have hgd:((s.heap.push { cls:=.type "dict",data:=.dict #[] }).update x λo=>{ cls:=o.cls,dict:=some s.heap.objs.size,data:=o.data,slots:=o.slots }).get? s.heap.objs.size=some { cls:=.type "dict",data:=.dict #[] }:=
   (Heap.get?_update_ne _ _ _ _ hxs.symm).trans (Heap.get?_push_at rfl rfl)
  have hnd:((s.heap.push { cls:=.type "dict",data:=.dict #[] }).update x λo=>{ cls:=o.cls,dict:=some s.heap.objs.size,data:=o.data,slots:=o.slots }).Ns s.heap.objs.size (λ_=>none):=
   ⟨_,#[],_,hgd,rfl,λe he=>absurd he (by simp),λ_=>rfl⟩
  show wpAny _ _ (storeInDict s.heap.objs.size (.str name s.toks) name v) _ _ _;unfold storeInDict newKeyGuard;refine wpAny_bind (wpAny_pure (wpAny_bind (wpAny_nsSet1 (Heap.Ns1.of_empty hnd) λh' hn' hs'=>?_)));obtain ⟨oD,esD,epD,hoD,hdD,hcD⟩:=hn'.count (Within.cons name v Within.nil);refine wpAny_bind (wpAny_lookBehind hoD (by rw [hdD]; exact pastItsLine_dict (Nat.le_trans hcD (by rw [List.length_cons,List.length_nil,sizeLine_eq]; omega))) ?_)
  refine wpAny_pure (h h' _ ?_ hn' λb o hb q=>?_)
  ·refine (hs'.2 x hxs).trans (Heap.get?_update_self _ hx1 ?_);have hfr:=(Heap.get?_some_iff.mp hx).2;cases oda <;> first | rfl | exact hfr
  ·exact (hs'.2 b (Nat.ne_of_lt (Heap.lt_size q))).trans ((Heap.get?_update_ne _ _ _ _ hb).trans (Heap.get?_push_of_some _ q))
end
def zmz (K:Frag) (C:Addr):Bool:=match K.lookup C with
 | some ⟨.type "type",_,.cls cd,sl⟩=>(match cd.mro,sl.toList with
  | .ref C' :: bm,[_,_,_,_,some (.builtin n),_]=>C'==C&&n=="ValueError.__new__"&&!cd.hasDel&&tailIn K zsN bm
  | _,_=>false)
 | _=>false
theorem zoA {K:Frag} {h:Heap} {C:Addr} (X:K.In h) (q:zmz K C=true):∃ nm qn N bs bm hdct sn sub ab col dd k0 k1 k2 k3 k5,h.get? C=some (excClassObj nm qn C N bs bm hdct sn sub ab col dd k0 k1 k2 k3 k5 "ValueError.__new__")/\OwnTail h zsN bm:=by
 unfold zmz at q;split at q
 ·rename_i dd cd sl ho
  split at q
  ·rename_i C' bm k0 k1 k2 k3 n k5 hm hs
   simp only [Bool.and_eq_true,beq_iff_eq,Bool.not_eq_true'] at q;obtain ⟨⟨⟨rfl,rfl⟩,hdel⟩,ht⟩:=q;obtain ⟨nm,bs,mro,ns,qn,hd,sn,sub,ab,col,del⟩:=cd;dsimp only at hm hdel;subst hm hdel;have hsl:sl=#[k0,k1,k2,k3,some (.builtin "ValueError.__new__"),k5]:=by
    obtain ⟨l⟩:=sl;simp only at hs;rw [hs]
   subst hsl;exact ⟨nm,qn,ns,bs,bm,hd,sn,sub,ab,col,dd,k0,k1,k2,k3,k5,X _ _ ho,tail_of_in X ht⟩
  ·cases q
 ·cases q
abbrev zlP (C t:Addr):Obj:={ cls:=.ref C,data:=.fields #[.ref t,.none,.none,.none,.bool false,.none] }
abbrev zgu (h:Heap) (C:Addr) (zcc:List Value):Heap:=(h.push { cls:=.type "tuple",data:=.seq zcc.toArray }).push (zlP C h.objs.size)
section
variable {prog:Program} {w:World} {A:Around} {K:Frag} {C f:Addr} {E:Value->Shared->Prop} {s:Shared}
theorem zyk {h:Heap} {g:Array GenState} {d:Drawn} {t:Nat} {os:OsState} {zcc:List Value} {Q:Fin->Shared->Prop} (X:K.In h) (hx:zmz K C=true) (hi:findIn K (.ref C) "__init__"=some (some (.ref f))) (hf:isFn K (.ref f)=true) (hrest:zcc.length<=sizeLine)
  (hq:wpAny (model prog w) A (call (.ref f) (.ref (h.objs.size+1) :: zcc)) (λr s'=>r=.none/\Q (.done (.ret (.ref (h.objs.size+1)))) s') E ⟨zgu h C zcc,g,d,t,os⟩) :
  wpAny (model prog w) A (Builtin.«type.__call__» ⟨.ref C :: zcc,[]⟩) Q E ⟨h,g,d,t,os⟩:=by
 obtain ⟨nm,q,N,bs,bm,hdct,sn,sub,ab,col,dd,k0,k1,k2,k3,k5,hC,T⟩:=zoA X hx;have F:=PySem.F.excBase_ValueError
 repeat (first | with_reducible refine wpAny_loadPart_at hC ?_ | with_reducible refine wpAny_madeBy_exc hC ?_ | wp_step)
 refine codeAny_call_builtin_code (Code.quiet_builtin _ F.quiet) (wpAny_check_new_subU F (by decide) T hC ?_);refine codeAny_exc_new_subU F (by decide) F T hC ?_ hrest;show wpAny _ _ _ _ _ _;have k:∀ b o,h.get? b=some o->((h.push { cls:=.type "tuple",data:=.seq zcc.toArray }).push { cls:=.ref C,data:=.fields #[.ref h.objs.size,.none,.none,.none,.bool false,.none] }).get? b=some o:=λb o e=>Heap.get?_push_of_some _ (Heap.get?_push_of_some _ e)
 have hC1:=k _ _ hC;have X1:K.In ((h.push { cls:=.type "tuple",data:=.seq zcc.toArray }).push { cls:=.ref C,data:=.fields #[.ref h.objs.size,.none,.none,.none,.bool false,.none] }):=λb o e=>k b o (X b o e);have hget:((h.push { cls:=.type "tuple",data:=.seq zcc.toArray }).push { cls:=.ref C,data:=.fields #[.ref h.objs.size,.none,.none,.none,.bool false,.none] }).get? (h.objs.size+1)=some
   { cls:=.ref C,data:=.fields #[.ref h.objs.size,.none,.none,.none,.bool false,.none] }:=by heap_get
 have hcC:(Value.ref C :: bm).contains (.ref C)=true:=by simp
 unfold isInstance
 repeat (first | with_reducible refine wpAny_loadPart_at hget ?_ | (with_reducible refine wpAny_isSubtype_exc hC1 ?_; rw [hcC]) | wp_step)
 show wpAny _ _ (typeLookup (.ref C) _) _ _ _;refine (looks_findIn X1 hi).at ?_;refine wpAny_holding (wpAny_bind ((bind_fn X1 _ (beq_iff_eq.mp hf)).at ?_));refine wpAny_bind (wpAny_mono hq (λr s' hr=>?_) λ_ _ x=>x);obtain ⟨rfl,hQ⟩:=hr
 wp_walk
 exact hQ
theorem zyl {zcc:List Value} {Q:Value->Shared->Prop} (X:K.In s.heap) (hx:zmz K C=true) (hi:findIn K (.ref C) "__init__"=some (some (.ref f))) (hf:isFn K (.ref f)=true) (hrest:zcc.length<=sizeLine)
  (hq:wpAny (model prog w) (A.under (.builtin "type.__call__" ⟨.ref C :: zcc,[]⟩)) (call (.ref f) (.ref (s.heap.objs.size+1) :: zcc)) (λr s'=>r=.none/\Q (.ref (s.heap.objs.size+1)) s') E { s with heap:=zgu s.heap C zcc }) :
  wpAny (model prog w) A (call (.ref C) zcc) Q E s:=by
 obtain ⟨h,g,d,t,os⟩:=s;obtain ⟨nm,q,N,bs,bm,hdct,sn,sub,ab,col,dd,k0,k1,k2,k3,k5,hC,T⟩:=zoA (h:=h) X hx;have f1:=tc_lookup;have f2:=tc_bind (.ref C);have hT:(⟨h,g,d,t,os⟩:Shared).TypeIs (.ref C) "type":=⟨_,hC,rfl⟩
 refine wpAny_call (codeAny_of_tree ?_);show wpAny _ _ (callAny (.ref C) _) _ _ _
 repeat (any_goals (first | assumption | with_reducible refine wpAny_loadPart_at hC ?_ | wp_step))
 refine ⟨rfl,?_⟩;exact codeAny_call_builtin_at (Code.quiet_builtin _ (by decide +kernel)) entry_typeCall (wpAny_check_type_call_sub hC (zyk (h:=h) X hx hi hf hrest hq))
end
structure XCls (K:Frag) (C:Addr):Prop where
 ok:zmz K C=true
 sa:findIn K (.ref C) "__setattr__"=some (some (.builtin "object.__setattr__"))
 over:ziK K C=true
 hd:hasDictIn K C=true
structure XMade (C e t:Addr) (name:Str) (u:Value) (s s':Shared):Prop where
 ex:∃ dx,s'.heap.get? e=some { zlP C t with dict:=some dx }/\s'.heap.Ns1 dx (λy=>if y=name then some u else none)/\s.heap.objs.size<=dx
 keep:∀ b o,b≠e->s.heap.get? b=some o->s'.heap.get? b=some o
 os:s'.os=s.os
 gens:s'.gens=s.gens
theorem zoB {P:Program} {w:World} {K:Frag} {mg:Str->Option Value} {base:Heap} {x qual:Str} {st:Stmt} {f C:Addr} {fd:FuncData} {k:Nat} {self y name:Str} {p1 p2 p3 p4:Pos}
  (F:Fun K x qual st f fd) (S:FnScope [self,y] [self,y] (zae st)) (hbody:zb5 st=[.Assign [.Attribute (.Name self p1) name p2] (.Name y p3) p4]) (hb:Binds K fd [self,y] []) (xc:XCls K C) (ht:takerIn K C name=some none)
  (v1:(zae st).names.lookup self=some .local) (v2:(zae st).names.lookup y=some .local) (hs:∀ env,swapsWith (.Name y p3) (some (.Attribute (.Name self p1) name p2)) p4.line env=pure false) (d1:(self==("__debug__":Str))=false) (d2:(y==("__debug__":Str))=false)
  {A:Around} {outer:List Env} {s:Shared} {H:Hp} {e t:Addr} {u:Value} {v:V} (hr:Room (k+1) A) (e0:Env0 P w K mg base A outer s H) (he:s.heap.get? e=some (zlP C t)) (hHe:H e=none) (rv:RelV v u) :
  codeAny (model P w) A (.call (.ref f) ⟨[.ref e,u],[]⟩) (λr s'=>r=.ok (.ret .none)/\XMade C e t name u s s') s:=by
 obtain ⟨oc,od,kV,doc,pm,an,cdv,ct,osl,rfl,lk,hcd⟩:=F.ex;have KX:K.In s.heap:=e0.mod.kin.keeps λb o q=>(e0.bs b o q).1;have lim:s.heap.NoLimit:=e0.mod.nolimit.keeps λb o q=>(e0.bs b o q).1;have hkind:∀ z∈[self,y].zip [Value.ref e,u],(zae st).names.lookup z.1=some .local\/((zae st).names.lookup z.1=some .cell/\((cellsFrom (s.heap.objs.size+1) (zae st).names []).lookup z.1).isSome=true):=λ⟨n,w⟩ hz=>by
  rcases S.par n (List.of_mem_zip hz).1 with q | q
  ·exact .inl q
  ·exact .inr ⟨q,W.cellsFrom_some _ _ _ (.inl q)⟩
 have hbs:=hb s [.ref e,u] KX rfl;rw [List.append_nil] at hbs;refine codeAny_call_function hr.depth (KX _ _ lk) rfl S.co S.gen rfl (W.codeRec_of KX hcd) (hbs _ _ _ _ ?_);refine wpAny_newFunctionEnv_cells S.kind hkind λenv hev s1 x1=>?_;subst hev;refine ⟨lim.keeps x1.toInCall.keep,codeAny_func ?_⟩;have r2:Vals [V.ref e,v] [Value.ref e,u]:=.cons rfl (.cons rv .nil);have I0:Inv (zoc CX0 P w K mg base [self,y] qual (zae st) f cdv A outer s H λ_ _ _=>True) [] (zh1 [self,y] [V.ref e,v]) H s1:=zm3 S hr.hd e0 rfl r2 x1
 rw [hbody];have k1:∀ b o,s.heap.get? b=some o->s1.heap.get? b=some o:=x1.toInCall.keep;have he1:=k1 _ _ he;have fin:∀ h' tk,h'.get? e=some { zlP C t with dict:=some s1.heap.objs.size }->h'.Ns1 s1.heap.objs.size (λz=>if z=name then some u else none)->(∀ b o,b≠e->s1.heap.get? b=some o->h'.get? b=some o)->XMade C e t name u s { s1 with heap:=h',toks:=tk }:=λh' tk q1 q2 q3=>by
  obtain ⟨h1,tk1,rfl,hk⟩:=x1.done;exact ⟨⟨_,q1,q2,I0.sz⟩,λb o hb q=>q3 b o hb (k1 b o q),rfl,rfl⟩
 have X1:K.In s1.heap:=KX.keeps k1;have n1:bindL (envOfC qual (zae st) s.heap.objs.size f cdv).kindOf ([self,y].zip [Value.ref e,u]) (λ_=>none) self=some (.ref e):=zh0 (i:=0) S.nd rfl rfl v1;have n2:bindL (envOfC qual (zae st) s.heap.objs.size f cdv).kindOf ([self,y].zip [Value.ref e,u]) (λ_=>none) y=some u:=zh0 (i:=1) S.nd rfl rfl v2;refine wpAny_execs_cons (plainObj_wpAny_Assign_Attribute (wpAny_Name (wpAny_loadName_local S.kind v2 x1.toInCall.ns n2 ?_) d2) (hs _))
 refine wpAny_Name (wpAny_loadName_local S.kind v1 x1.toInCall.ns n1 ?_) d1;refine zBl X1 ⟨he1,rfl,rfl,trivial⟩ rfl xc.sa xc.over ht xc.hd λh' tk q1 q2 q3=>wpAny_execs_nil ?_;exact ⟨rfl,fin h' tk q1 q2 q3⟩
section
variable {M:Model} {A:Around} {E:Value->Shared->Prop} {env:Env} {C:Addr}
theorem zns {K:Frag} {s:Shared} {x:Sem Value} {Q:Flow->Shared->Prop} (hx:zmz K C=true) (hh:A.handled=none)
  (h:wpAny M A x (λv s₁=>∃ e t dx,v=.ref e/\K.In s₁.heap/\s₁.heap.get? e=some { cls:=.ref C,dict:=some dx,data:=.fields #[.ref t,.none,.none,.none,.bool false,.none] }/\E (.ref e) s₁) E s) :
  wpAny M A (raiseStmt env (some x) none) Q E s:=by
 unfold raiseStmt;refine wpAny_bind (wpAny_mono h (λv s₁ h₁=>?_) λ_ _ x=>x);obtain ⟨e,t,dx,rfl,X,he,hE⟩:=h₁;obtain ⟨hp,g,d,tk,os⟩:=s₁;obtain ⟨nm,q,N,bs,bm,hdct,sn,sub,ab,col,dd,k0,k1,k2,k3,k5,hC,T⟩:=zoA (h:=hp) X hx;have hcB:(Value.ref C :: bm).contains (.type "BaseException")=true:=by rw [List.contains_cons,T.hasType (X:="BaseException") (b:=true) (by decide),Bool.or_true]
 repeat (first | with_reducible refine wpAny_loadPart_at he ?_ | with_reducible refine wpAny_loadPart_at hC ?_ | (with_reducible refine wpAny_isSubtype_exc hC ?_; rw [hcB]) | wp_step)
 exact wpAny_raiseNew_none hh hE
end
def zzv (P:Program) (w:World) (K:Frag) (mg:Str->Option Value) (base:Heap) (k:Nat) (f C:Addr) (name:Str):Prop:=
 ∀ {A:Around} {outer:List Env} {s:Shared} {H:Hp} {e t:Addr} {u:Value} {v:V},Room k A->Env0 P w K mg base A outer s H->s.heap.get? e=some (zlP C t)->H e=none->RelV v u->
  codeAny (model P w) A (.call (.ref f) ⟨[.ref e,u],[]⟩) (λr s'=>r=.ok (.ret .none)/\XMade C e t name u s s') s
section
variable {X:Cx} {pins:List (Addr×Obj)} {σ:St} {H:Hp} {s s':Shared} {C:Addr} {name:Str} {u:Value} {v:V}
theorem zBm (I:Inv X pins σ H s) (ru:RelV v u) (m:XMade C (s.heap.objs.size+1) s.heap.objs.size name u { s with heap:=zgu s.heap C [u] } s') :
  ∃ dx,H dx=none/\s'.heap.get? (s.heap.objs.size+1)=some { cls:=.ref C,dict:=some dx,data:=.fields #[.ref s.heap.objs.size,.none,.none,.none,.bool false,.none] }/\Inv X pins σ (upd H dx (.xd [(name,v)])) s'/\dx≠s.heap.objs.size+1:=by
 obtain ⟨⟨dx,q1,q2,q3⟩,k,os,gs⟩:=m;have z2:(zgu s.heap C [u]).objs.size=s.heap.objs.size+2:=by simp [zgu,Heap.size_push]
 have q3:s.heap.objs.size+2<=dx:=by rw [<- z2]; exact q3
 have hdn:H dx=none:=I.hok.fresh (by omega);have hen:H (s.heap.objs.size+1)=none:=I.hok.fresh (by omega);have k0:∀ b o,s.heap.get? b=some o->s'.heap.get? b=some o:=λb o q=>k b o (Nat.ne_of_lt (Nat.lt_succ_of_lt (Heap.lt_size q))) (Heap.get?_push_of_some _ (Heap.get?_push_of_some _ q));have un:Un (frs X.stack) [] H (upd H dx (.xd [(name,v)])) s.heap s'.heap:=Un.laid k0 (by omega) hdn;have hok:HOk X.prog X.w (upd H dx (.xd [(name,v)])) s'.heap:=I.hok.laid k0 (by omega) ⟨_,q2,λf=>by
  by_cases c:f=name
  ·subst c;simp only [List.lookup,beq_self_eq_true,if_true];exact ru
  ·have hb:(f==name)=false:=by simpa using c
   simp only [List.lookup,hb,if_neg c];trivial⟩
 refine ⟨dx,hdn,q1,?_,Nat.ne_of_gt (Nat.lt_of_lt_of_le (Nat.lt_succ_self _) q3)⟩;exact I.call' (ch:=[]) os un hok (by rw [gs]; exact I.bare) (λb z=>absurd z (by simp))
end
def zsO (E:XK) (C:Addr) (name:Str) (t:TA):TS:=λ_ σ H=>t σ H λvs H1=>∃ v,vs=[v]/\∀ dx,H1 dx=none->E (.ref C) (some dx) (upd H1 dx (.xd [(name,v)]))
theorem zvg {X:Cx} {E:XK} {x name:Str} {np cpos pos:Pos} {e:Expr} {C f:Addr} {k:Nat} {t:TA} (hc:X.calm=true) (hxe:∀ v s,zyj X E v s->X.xe v s) (xc:XCls X.K C) (hi:findIn X.K (.ref C) "__init__"=some (some (.ref f))) (hf:isFn X.K (.ref f)=true)
  (kp:keepIn X.K (.ref C)=true) (hg:Gl X x) (hm:X.mg x=some (.ref C)) (ini:zzv X.prog X.w X.K X.mg X.base k f C name) (hr:Room (k+1) X.A) (ha:PA X [e] t) (hdb:(x==("__debug__":Str))=false:=by decide)
  (he:starEach [e] X.env=(false,eval e X.env) :: starEach [] X.env:=by rfl) (hpl:(backTo cpos (starEach [] X.env)).any (·.1)=false:=by rfl) :
  PS X (.Raise (some (.Call (.Name x np) [e] [] cpos)) none pos) (zsO E C name t):=by
 intro pins s σ H D I h;rw [arm_exec_Raise];refine wpAny_bind (wpAny_standAt (zns (C:=C) (K:=X.K) xc.ok (I.ok.hd hc) (wpAny_bind (wpAny_mono (wpAny_Call_Name_kw (zki I hg hm ?_ hdb)) (λv s₃ h₃=>wpAny_bind (wpAny_standAt (wpAny_pure h₃))) λ_ _ x=>x))));refine W.callWith_K (h₀:=X.base) I.ok.mod.kin kp (thn (ha cpos pins s σ H _ I h) λus s1 ⟨vs,H1,I1,r,q⟩=>⟨I1.kIn,?_⟩) he hpl;obtain ⟨v,rfl,q⟩:=q;obtain ⟨u,rfl,ru⟩:=Vals.one r
 refine zyl I1.kIn xc.ok hi hf (by rw [sizeLine_eq]; simp) ?_;have k1:∀ b o,s1.heap.get? b=some o->(zgu s1.heap C [u]).get? b=some o:=λb o q=>Heap.get?_push_of_some _ (Heap.get?_push_of_some _ q);have I2:Inv X pins σ H1 { s1 with heap:=zgu s1.heap C [u] }:=I1.kept (t':=s1.toks) k1;have hget:(zgu s1.heap C [u]).get? (s1.heap.objs.size+1)=some (zlP C s1.heap.objs.size):=Heap.get?_push_at (by simp [Heap.size_push]) rfl
 refine wpAny_call (codeAny_mono (ini (hr.make C [u] []) (I2.env0.make C [u] []) hget (I1.hok.fresh (by omega)) ru) λr s' hq=>?_);obtain ⟨rfl,m⟩:=hq;obtain ⟨dx,hdn,q1,I3,hne⟩:=zBm I1 ru m;refine ⟨rfl,s1.heap.objs.size+1,s1.heap.objs.size,dx,rfl,I3.kIn,q1,hxe _ _ ?_⟩;have hs0:X.s₀.heap.objs.size<=s1.heap.objs.size:=I1.sz;refine ⟨pins,σ,_,s1.heap.objs.size+1,.ref C,some dx,none,rfl,I3,⟨_,_,q1,rfl,rfl,rfl,by simp,rfl⟩,by omega,?_,λt z=>(by cases z),q dx hdn⟩
 rw [zaW (Ne.symm hne)];exact I1.hok.fresh (by omega)
def zoC (X:Cx) (pins:List (Addr×Obj)) (σ:St) (E:XK) (e:Value) (s:Shared):Prop:=∃ (H:Hp) (a:Addr) (C:Value) (dx T:Option Addr),e=.ref a/\Inv X pins σ H s/\XAt a C dx T .none s.heap/\zlD X pins H a/\(∀ t,T=some t->zlD X pins H t)/\E C dx H
section
variable {X:Cx} {pins:List (Addr×Obj)} {σ:St} {H:Hp} {s:Shared} {E:XK}
theorem zDn {gs:List Addr} {h1 h2:Heap} {a:Addr} {T:Option Addr} (k:KeptX gs a T h1 h2):Un gs (a :: T.toList) H H h1 h2:=by
 have nT:∀ b,b∉a :: T.toList->b≠a/\T≠some b:=λb h=>⟨λz=>h (by simp [z]),λz=>h (by simp [z])⟩
 refine ⟨λb o q n hb hx=>?_,λb o q n hb hx=>?_,λ_ _ _ n _=>n,λb o q _=>k.there b o q,λ_ _ q=>q,λ_ _ _ q=>q,λb ps q=>⟨#[],by rw [q]; simp⟩⟩
 ·exact k.keep b o q (nT b hx).1 (nT b hx).2 hb
 ·exact k.slot b o q (nT b hx).1 (nT b hx).2
theorem zym {h2:Heap} {a:Addr} {T:Option Addr} (I:Inv X pins σ H s) (k:KeptX (frs X.stack) a T s.heap h2) (ha:zlD X pins H a) (hT:∀ t,T=some t->zlD X pins H t):Inv X pins σ H { s with heap:=h2 }:=by
 have hk:=zBk I.hok k I.stkFree ha.1 (λt z=>(hT t z).1);have fp:∀ b∈a :: T.toList,zlD X pins H b:=λb hb=>by
  rcases List.mem_cons.mp hb with rfl | hb
  ·exact ha
  ·exact hT b (by simpa using hb)
 exact I.call (g':=s.gens) (t':=s.toks) (d':=s.drawn) (zDn k) hk I.bare λb hb=>⟨(fp b hb).2.2.2.1,(fp b hb).2.1,(fp b hb).2.2.2.2.1,(fp b hb).2.2.2.2.2⟩
def zDo (X:Cx) (pins:List (Addr×Obj)) (σ:St) (E:XK) (e:Value) (s:Shared):Prop:=∃ (H:Hp) (a:Addr) (C:Value) (dx:Option Addr) (T:Addr),e=.ref a/\Inv X pins σ H s/\XAt a C dx (some T) .none s.heap/\zlD X pins H a/\zlD X pins H T/\E C dx H
theorem zBn {e:Value} {Q:Unit->Shared->Prop} {Ex:Value->Shared->Prop} {env:Env} {outer:List Env} (hst:X.stack=env :: outer) (henv:X.env=env) (hf:env.frame=some env.locals) (x:zoC X pins σ E e s)
  (h:∀ s',zDo X pins σ E e s'->Q () s'):wpAny (model X.prog X.w) X.A (noteFrame e env) (λ_ s2=>wpAny (model X.prog X.w) X.A (setFlight e none) Q Ex s2) Ex s:=by
 obtain ⟨H,a,C,dx,T,rfl,I,xa,ha,hT,q⟩:=x;have hfr:X.A.frames=some (env :: outer):=by rw [<- hst]; exact I.ok.frames
 have hl:s.heap.FunFrames X.base (env :: outer):=by rw [<- hst]; exact I.stack
 refine zwr hfr hl hf xa λh1 T' x1 hn k1=>?_;have k1':KeptX (frs X.stack) a T s.heap h1:=by rw [hst]; exact k1
 have I1:=zym I k1' ha hT;have hT':zlD X pins H T':=I.fpOk hn (I.hok.fresh hn);refine zmy (s:={ s with heap:=h1 }) (fs:=frs X.stack) x1 λh2 x2 k2=>h _ ⟨H,a,C,dx,T',rfl,?_,x2,ha,hT',q⟩;exact zym I1 k2 ha λt z=>(by cases z; exact hT')
variable {k:Nat} {f C:Addr} {fd:FuncData} {ps:List Str} {sp:Sp} {dvs:List V} {ds:List Value}
theorem zBo {e:Value} {s':Shared} (I:Inv X pins σ H s) (c:CX1 X.prog X.w X.stack H s E e s'):zoC X pins σ E e s':=by
 obtain ⟨a,C,dx,T,H',he,x,ha,hHa,hT,os,bare,u,hok,q⟩:=c;have J:=I.call' (ch:=[]) os u hok bare (λb z=>absurd z (by simp));exact ⟨H',a,C,dx,T,he,J,x,I.fpOk ha hHa,λt z=>I.fpOk (hT t z).1 (hT t z).2,q⟩
theorem zyn {Q:VK} {us:List Value} {vs:List V} (F:FnOk X.prog X.w X.K X.mg X.base (CX1 X.prog X.w) k f fd ps sp) (hr:Room k X.A) (hb:Binds X.K fd ps ds) (hd:Vals dvs ds) (I:Inv X pins σ H s) (r:Vals vs us) (h:sp (vs++dvs) H Q E) :
  wpAny (model X.prog X.w) X.A (call (.ref f) us) (EP X pins σ Q) (zoC X pins σ E) s:=by
 have r2:Vals (vs++dvs) (us++ds):=r.append hd;have hl:(us++ds).length=ps.length:=by rw [<- r2.length]; exact F.len _ _ _ _ h
 refine wpAny_call (codeAny_mono (F.run X.A X.stack s H ⟨us,[]⟩ (us++ds) (vs++dvs) Q E hr I.env0 (hb s us I.kIn hl) r2 h) λr s' hq=>?_);cases r with
 | error e=>exact zBo I hq
 | ok fl=>
  cases fl with
  | ret u=>exact I.after hq
  | next=>exact False.elim hq
  | brk=>exact False.elim hq
  | cont=>exact False.elim hq
end
section
variable {X:Cx} {pins:List (Addr×Obj)} {σ:St} {E:XK}
theorem PA.nox {es:List Expr} {t:TA} (h:PA X.nox es t):PA X es t:=λpos pins s σ H Q I hw=>
 wpAny_mono (h pos pins s σ H Q (I.wish _) hw) (λ_ _ ⟨v,H',I',r,q⟩=>⟨v,H',I'.unwish,r,q⟩) λ_ _ z=>False.elim z
def PEx (X:Cx) (pins:List (Addr×Obj)) (σ:St) (E:XK) (e:Expr) (t:TE):Prop:=∀ (s:Shared) (H:Hp) (Q:VK),Inv X pins σ H s->t σ H Q->wpAny (model X.prog X.w) X.A (eval e X.env) (EP X pins σ Q) (zoC X pins σ E) s
def PSx (X:Cx) (pins:List (Addr×Obj)) (σ:St) (E:XK) (st:Stmt) (t:TS):Prop:=∀ (s:Shared) (H:Hp) (D:Ends),Inv X pins σ H s->t D σ H->wpAny (model X.prog X.w) X.A (exec st X.env) (SP X pins D) (zoC X pins σ E) s
def PBx (X:Cx) (pins:List (Addr×Obj)) (σ:St) (E:XK) (st:List Stmt) (t:TS):Prop:=∀ (s:Shared) (H:Hp) (D:Ends),Inv X pins σ H s->t D σ H->wpAny (model X.prog X.w) X.A (execs st X.env) (SP X pins D) (zoC X pins σ E) s
abbrev Cx.here (X:Cx) (pins:List (Addr×Obj)) (σ:St) (E:XK):Cx:=X.wish (zoC X pins σ E)
variable {k:Nat} {f C:Addr} {fd:FuncData} {ps:List Str} {sp:Sp} {dvs:List V} {ds:List Value} {x m:Str} {p pos apos:Pos} {e o:Expr} {es:List Expr} {ta:TE} {t:TA}
theorem zvh {pl : Sem Bool} (ho : PE X.nox o ta) (c : Cls X.K C) (hm : Meth X.K C m f) (F : FnOk X.prog X.w X.K X.mg X.base (CX1 X.prog X.w) k f fd ps sp) (hr : Room k X.A) (hb : Binds X.K fd ps ds) (hd : Vals dvs ds) (ha : PA X.nox (e :: es) t)
    (ht : eval (.Call (.Attribute o m apos) (e :: es) [] pos) X.env = (do
      let ov <- eval o X.env
      standAt apos.atName
      let (f, first) <- holding [ov] (getMethod ov m pl)
      callWith pos f first (backTo pos (starEach (e :: es) X.env)) (backToKw pos (keywordEach [] X.env))) := by rfl) (he : starEach (e :: es) X.env = (false, eval e X.env) :: starEach es X.env := by rfl) (hpl : (backTo pos (starEach es X.env)).any (·.1) = false := by rfl) :
    PEx X pins σ E (.Call (.Attribute o m apos) (e :: es) [] pos) (zqd C m sp dvs E ta t) := by
  intro s H Q I h;have ha' : PA (X.here pins σ E) (e :: es) t := PA.nox (X := X.here pins σ E) ha;have ho' : PE (X.here pins σ E) o ta := PE.nox (X := X.here pins σ E) ho;refine W.methodCall_KW (pl := pl) (thn (ho' pins s σ H _ (I.wish _) h) λu s1 ⟨x, H1, I1, rx, a, dx, fs, ex, ea, l, q⟩ => ?_) ht;subst ex;obtain rfl : u = Value.ref a := rx;refine ziE (X := X) I1.unwish ea c hm l ?_;refine W.callWith_K (h₀ := X.base) (first := [.ref a]) I.ok.mod.kin hm.kp (thn (ha' pos pins s1 σ H1 _ I1 q) λus s2 ⟨vs, H2, I2, r, q2⟩ => ⟨I2.kIn, ?_⟩) he hpl
  exact zyn (us := .ref a :: us) (vs := .ref a :: vs) F hr hb hd I2.unwish (.cons rfl r) q2
variable {st:Stmt} {te:TE} {u v:TS}
theorem zvi (he:PEx X pins σ E e te) (hs:swapsWith e none pos.line X.env=pure false:=by rfl):PSx X pins σ E (.Expr e pos) (zmh te):=λs H D I h=>
 wpAny_Expr_any (thn (he s H _ I h) λv s1 ⟨x,H1,I1,r1,q1⟩=>⟨σ,H1,I1,q1⟩) I.quiet hs
theorem zyo (h1:PSx X pins σ E st u):PBx X pins σ E [st] u:=by
 intro s H D I h;refine wpAny_execs_cons (thn (h1 s H D I h) λf s1 q=>?_);cases f with
 | next=>exact wpAny_execs_nil q
 | ret v=>exact q
 | brk=>exact q
 | cont=>exact q
theorem zBp {c:Expr} {a b:List Stmt} {tc:TT} (hc:PT X.nox c tc) (ha:PBx X pins σ E a u) (hb:PBx X pins σ E b v):PSx X pins σ E (.If c a b pos) (zzQ tc u v):=by
 intro s H D I h;refine wpAny_If (wpAny_mono (hc pins s σ H _ (I.wish _) h) (λd s1 ⟨H1,I1,q1⟩=>?_) λ_ _ z=>False.elim z);cases d with
 | true=>exact ha s1 H1 D I1.unwish q1
 | false=>exact hb s1 H1 D I1.unwish q1
end
section
variable {X:Cx} {pins:List (Addr×Obj)} {σ σ':St} {H:Hp} {s:Shared}
theorem zyp {h':Heap} {m':Str->Option Value} {t':Nat} (I:Inv X pins σ H s) (hs:Heap.SameBut X.env.locals s.heap h') (hn:h'.Ns X.env.locals m')
  (hl:∀ (j:Nat) (y:Str) (v:V),X.N[j]? = some y->σ'[j]? = some (some v)->Vis X.env.scope y->∃ u,RelV v u/\zD4 X.env h' m' y u) (len:σ'.length=X.N.length):Inv X pins σ' H { s with heap:=h',toks:=t' }:=by
 have nl:∀ b o,X.s₀.heap.get? b=some o->b≠X.env.locals:=λb o q=>Nat.ne_of_lt (Nat.lt_of_lt_of_le (Heap.lt_size q) I.ok.above);refine ⟨I.ok,I.os,I.bare,⟨λb o e n hb hx=>?_,λb o e n hb hx=>?_,I.base.free,λb o e hx=>?_,I.base.tups,I.base.frzs,I.base.tbls⟩,⟨m',hn,hl⟩,λy c e=>?_,I.free,I.freeC,λp hp=>?_,λb ob e=>?_,len⟩
 ·exact (hs.2 b (nl b o e)).trans (I.base.keep b o e n hb hx)
 ·obtain ⟨sl,e1⟩:=I.base.slot b o e n hb hx;exact ⟨sl,(hs.2 b (nl b o e)).trans e1⟩
 ·obtain ⟨o',e1⟩:=I.base.there b o e hx;exact ⟨o',(hs.2 b (nl b o e)).trans e1⟩
 ·obtain ⟨v,o,q,d⟩:=I.cell y c e;exact ⟨v,o,(hs.2 c (I.cne y c e)).trans q,d⟩
 ·obtain ⟨q1,q2,q3,q4⟩:=I.pin p hp;exact ⟨(hs.2 p.1 q3).trans q1,q2,q3,q4⟩
 ·refine (I.hok b ob e).stay (λc w' hc q=>(hs.2 c ?_).trans q) (λ_ q=>q) λ_ _ q=>q;rintro rfl;rcases hc with rfl | hc
  ·rw [I.free] at e; cases e
  ·rw [I.free] at hc; cases hc
theorem zmA {M:Model} {A:Around} {E:Value->Shared->Prop} {i:Nat} {n:Str} {pos:Pos} {Q:Unit->Shared->Prop} (I:Inv X pins σ H s) (hN:X.N.Nodup) (hi:X.N[i]? = some n) (hx:X.env.scope.names.lookup n=some .local)
  (h:∀ s',Inv X pins (σ.set i none) H s'->Q () s'):wpAny M A (do bindName X.env n .none; unbindBehindTheSuite X.env n pos) Q E s:=by
 obtain ⟨m,hn,hl⟩:=id I.loc;refine wpAny_nameGoes_keeps hx hn (by rw [I.ok.kind]; rfl) λh' v hn' hs=>h _ (zyp I hs hn' (λj y v' e1 e2 e3=>?_) (by simpa using I.len));have hj:j≠i:=λz=>by
  subst z;have hiσ:j < σ.length:=by rw [I.len]; exact (List.getElem?_eq_some_iff.mp hi).1
  rw [List.getElem?_set_self hiσ] at e2; cases e2
 rw [List.getElem?_set_ne (Ne.symm hj)] at e2;obtain ⟨u,r,l⟩:=hl j y v' e1 e2 e3;refine ⟨u,r,?_⟩;have hyn:y≠n:=λz=>by
  subst z;exact hj ((List.getElem?_inj (List.getElem?_eq_some_iff.mp e1).1 hN).mp (e1.trans hi.symm))
 rcases l with ⟨k,q⟩ | ⟨k,c,q1,o,q2,q3⟩
 ·exact .inl ⟨k,by show (if y=n then v else m y)=_; rw [if_neg hyn]; exact q⟩
 ·exact .inr ⟨k,c,q1,o,(hs.2 c (I.cne y c q1)).trans q2,q3⟩
abbrev Cx.marked (X:Cx) (a:Addr):Cx:={ X with A:=X.A.mark (some (.ref a)),calm:=false,xe:=λ_ _=>False }
theorem Inv.marked (I:Inv X pins σ H s) (a:Addr):Inv (X.marked a) pins σ H s:=by
 have ok:=I.ok;exact ⟨⟨ok.mod,ok.kind,ok.glob,ok.blt,ok.above,ok.inj,ok.has,ok.cab,λz=>(by cases z),ok.frames,ok.stk,ok.exf,ok.bs,ok.bsz,ok.noex,ok.exfs,ok.funs,ok.frf⟩,I.os,I.bare,I.base,I.loc,I.cell,I.free,I.freeC,I.pin,I.hok,I.len⟩
theorem Inv.unmarked {a:Addr} (I:Inv (X.marked a) pins σ H s) (hd:X.calm=true->X.A.handled=none):Inv X pins σ H s:=by
 have ok:=I.ok;exact ⟨⟨ok.mod,ok.kind,ok.glob,ok.blt,ok.above,ok.inj,ok.has,ok.cab,hd,ok.frames,ok.stk,ok.exf,ok.bs,ok.bsz,ok.noex,ok.exfs,ok.funs,ok.frf⟩,I.os,I.bare,I.base,I.loc,I.cell,I.free,I.freeC,I.pin,I.hok,I.len⟩
theorem Inv.hold {a:Addr} {C:Value} {dx T:Option Addr} {fl:Value} (I:Inv X pins σ H s) (fp:zlD X pins H a) (x:XAt a C dx T fl s.heap):Inv X pins σ (upd H a (xO a C dx)) s:=by
 obtain ⟨oe,vs,he,hc,hdd,hd,-⟩:=x;have na:∀ b u,H b=some u->b≠a:=λb u q z=>by subst z; rw [fp.1] at q; cases q
 have un:Un (frs X.stack) [a] H (upd H a (xO a C dx)) s.heap s.heap:=by
  refine ⟨λb o q _ _ _=>q,λb o q _ _ _=>⟨o.slots,q⟩,λb o q n hx=>?_,λb o q _=>⟨o,q⟩,λb xs q=>?_,λb o u q=>?_,λb ps q=>⟨#[],?_⟩⟩
  ·rw [zaW (λz=>hx (by simp [z]))]; exact n
  ·rw [zaW (na _ _ q)]; exact q
  ·rw [zaW (na _ _ q)]; exact q
  ·rw [zaW (na _ _ q),q]; simp
 have hok:HOk X.prog X.w (upd H a (xO a C dx)) s.heap:=λb u q=>by
  by_cases z:b=a
  ·subst z;rw [zaS] at q; cases q
   refine ⟨⟨oe,vs,he,hc,hdd,hd⟩,⟨oe,he⟩,λh1 h2 ⟨oe',vs',q1,q2⟩ k=>⟨oe',vs',k _ q1,q2⟩⟩
  ·rw [zaW z] at q;exact (I.hok b u q).stay (λ_ _ _ q=>q) (λc q=>by rw [zaW (na _ _ q)]; exact q) λc xs q=>by rw [zaW (na _ _ q)]; exact q
 have:=I.call (g':=s.gens) (t':=s.toks) (d':=s.drawn) (ch:=[a]) un hok I.bare λb hb=>by
  have z:b=a:=by simpa using hb
  subst z;exact ⟨fp.2.2.2.1,fp.2.1,fp.2.2.2.2.1,fp.2.2.2.2.2⟩
 exact this
def PH (X:Cx) (hs:List ExceptHandler) (r:Ends->St->Value->Option Addr->Hp->Prop):Prop:=
 ∀ (pins:List (Addr×Obj)) (σ:St) (H:Hp) (s:Shared) (a:Addr) (C:Value) (dx:Option Addr) (T:Addr) (D:Ends),Inv X pins σ H s->XAt a C dx (some T) .none s.heap->zlD X pins H a->zlD X pins H T->r D σ C dx H->
  wpAny (model X.prog X.w) X.A (handleBy (.ref a) X.env hs) (SP X pins D) X.xe s
def Ends.un (D:Ends) (i:Nat):Ends:={ nx:=λσ H=>D.nx (σ.set i none) H,rt:=D.rt,bk:=λσ H=>D.bk (σ.set i none) H,ct:=λσ H=>D.ct (σ.set i none) H }
def rAs (K:Frag) (Ct:Addr) (i:Nat) (ts:TS) (r:Ends->St->Value->Option Addr->Hp->Prop):Ends->St->Value->Option Addr->Hp->Prop:=λD σ C dx H=>
 ∃ b,exmOne K C (.ref Ct)=some b/\if b=true then ∀ a,H a=none->ts (D.un i) (σ.set i (some (.ref a))) (upd H a (xO a C dx)) else r D σ C dx H
theorem zsP {M:Model} {h:Heap} {a:Addr} {oe:Obj} (he:h.get? a=some oe):Looks M h (typeOf (.ref a)) oe.cls:=(Looks.ld he).andThen .now
theorem zDp {x n:Str} {np pos:Pos} {b₀:Stmt} {suite:List Stmt} {zcc:List ExceptHandler} {Ct:Addr} {i:Nat} {ts:TS} {r:Ends->St->Value->Option Addr->Hp->Prop} (hN:X.N.Nodup) (hi:X.N[i]? = some n) (hx:X.env.scope.names.lookup n=some .local)
  (hg:Gl X x) (hm:X.mg x=some (.ref Ct)) (hsu:∀ a,PSs (X.marked a) (b₀ :: suite) ts) (hr:PH X zcc r) (hdb:(x==("__debug__":Str))=false:=by decide) :
  PH X (.ExceptHandler (some (.Name x np)) (some n) (b₀ :: suite) pos :: zcc) (rAs X.K Ct i ts r):=by
 intro pins σ H s a C dx T D I xa ha hT ⟨b,hb,h⟩;obtain ⟨oe,vs,he,hc,_⟩:=id xa;refine wpAny_handleBy_cons (codeAny_handlers_test (zki (X:=X.marked a) (I.marked a) hg hm ?_ hdb)) (by intro q; cases q);have LT:Looks (model X.prog X.w) s.heap (typeOf (.ref a)) C:=by rw [<- hc]; exact zsP he
 refine (exm_one I.kIn LT hb).here ?_;cases b with
 | false=>exact hr pins σ H s a C dx T D I xa ha hT h
 | true=>
  simp only [if_true] at h ⊢;refine codeAny_handlers_suite_as (zmy (fs:=frs X.stack) xa λh2 x2 k2=>?_);have I2:=zym I k2 ha (λt z=>by cases z; exact hT);have I3:=(I2.hold ha x2).marked a;refine zmg (X:=X.marked a) (v:=.ref a) I3 hN hi (.inl hx) rfl (λs3 I4=>?_) (.inr hx);refine wpAny_mono (hsu a pins s3 _ _ (D.un i) I4 (h a ha.1)) (λf s4 q=>?_) λ_ _ z=>False.elim z;cases f with
  | next=>obtain ⟨σ',H',J,q⟩:=q; exact zmA (X:=X) (J.unmarked I.ok.hd) hN hi hx λs5 J5=>⟨_,H',J5,q⟩
  | brk=>obtain ⟨σ',H',J,q⟩:=q; exact zmA (X:=X) (J.unmarked I.ok.hd) hN hi hx λs5 J5=>⟨_,H',J5,q⟩
  | cont=>obtain ⟨σ',H',J,q⟩:=q; exact zmA (X:=X) (J.unmarked I.ok.hd) hN hi hx λs5 J5=>⟨_,H',J5,q⟩
  | ret u=>obtain ⟨v,σ',H',J,rv,q⟩:=q; exact zmA (X:=X) (J.unmarked I.ok.hd) hN hi hx λs5 J5=>⟨v,_,H',J5,rv,q⟩
def zEK (tb:XK->TS) (r:Ends->St->Value->Option Addr->Hp->Prop):TS:=λD σ H=>tb (λC dx H'=>r D σ C dx H') D σ H
theorem zBq {body:List Stmt} {h₀:ExceptHandler} {hs:List ExceptHandler} {pos:Pos} {tb:XK->TS} {r:Ends->St->Value->Option Addr->Hp->Prop} {outer:List Env} (hst:X.stack=X.env :: outer) (hf:X.env.frame=some X.env.locals) (hb:∀ pins σ E,PBx X pins σ E body (tb E)) (hh:PH X (h₀ :: hs) r) :
  PS X (.Try body (h₀ :: hs) [] [] pos) (zEK tb r):=by
 intro pins s σ H D I h;refine wpAny_Try_except (wpAny_mono (hb pins σ _ s H D I h) (λf s1 q=>?_) λe s1 x=>?_)
 ·cases f with
  | next=>exact wpAny_execs_nil q
  | ret v=>exact q
  | brk=>exact q
  | cont=>exact q
 ·refine zBn (Ex:=X.xe) hst rfl hf x λs' x'=>?_;obtain ⟨H',a,C,dx,T,rfl,I',xa,ha,hT,q⟩:=x';exact hh pins σ H' s' a C dx T D I' xa ha hT q
end
structure XGet (K:Frag) (C:Addr):Prop where
 ga:findIn K (.ref C) "__getattribute__"=some (some (.builtin "BaseException.__getattribute__"))
 gt:findIn K (.ref C) "__getattr__"=some none
 hb:mroIn K C (.type "BaseException")=some true
 hd:hasDictIn K C=true
section
variable {prog:Program} {w:World} {A:Around} {E:Value->Shared->Prop} {s:Shared} {K:Frag} {x C:Addr} {ox:Obj} {od:Option Obj} {name:Str} {expr:Bool} {Q:Value->Shared->Prop}
theorem zqw {v:Value} (X:K.In s.heap) (I:InstAt s.heap x ox C od) (hga:findIn K (.ref C) "__getattribute__"=some (some (.builtin "BaseException.__getattribute__"))) (hgt:findIn K (.ref C) "__getattr__"=some none) (hb:mroIn K C (.type "BaseException")=some true)
  (hf:findObj K C od name=some (.value v)) (hh:handedIn v=true) (h:Q v { s with toks:=s.toks+1 }):wpAny (model prog w) A (getAttr (.ref x) name expr) Q E s:=by
 obtain ⟨hp,g,d,t,os⟩:=s;have L0:=I.type (M:=model prog w);have L1:=looks_findIn (M:=model prog w) X hga;have L2:=looks_findIn (M:=model prog w) X hgt;have L3:=looks_find (M:=model prog w) X I hf;have SG:=PySem.F.excAttr_ValueError.ga;have hx2:(Value.builtin "BaseException.__getattribute__"==Value.builtin "object.__getattribute__")=false:=by decide +kernel
 have hx1:(onTheHeap (Value.ref C)&&Value.builtin "BaseException.__getattribute__"==Value.builtin "object.__getattribute__")=false:=by rw [hx2]; rfl
 have hx0:(expr&&onTheHeap (Value.builtin "BaseException.__getattribute__"))=false:=by cases expr <;> rfl
 unfold getAttr getAttrBy;refine wpAny_bind (wpAny_mkText (wpAny_holding (wpAny_bind (L0.at (wpAny_bind (L1.at ?_))))));dsimp only;rw [hx1];simp only [Bool.false_eq_true,if_false];unfold getAttrByItsOwn hookBefore;rw [if_pos (show onTheHeap (Value.ref C)=true from rfl)];refine wpAny_bind (L2.at ?_);refine wpAny_bind (wpAny_attempt (wpAny_holding ?_));unfold callGetattribute;rw [hx0];simp only [Bool.false_eq_true,if_false]
 unfold boundAndCalled;rw [SG.bind (.ref x)];refine wpAny_bind (wpAny_pure ?_);have hi:Looks (model prog w) hp (isInstance (.ref x) (.type "BaseException")) true:=L0.andThen (looks_mroIn X hb);have hk:builtinKind "BaseException.__getattribute__"=some .slot:=by decide +kernel
 have hsp:splitId "BaseException.__getattribute__"=some ("BaseException","__getattribute__"):=by decide +kernel
 show wpAny _ _ (call (.builtin "BaseException.__getattribute__") [.ref x,.str name t]) _ _ _;refine wpAny_call (codeAny_call_builtin SG.plain PySem.F.entry_bexc_ga (@check_slot (model prog w) _ _ ⟨hp,g,d,t+1,os⟩ "BaseException.__getattribute__" "BaseException" "__getattribute__" (.ref x) [.str name t] [] _ hk hsp hi (PySem.F.args_bexc_ga (.ref x) (.str name t)) ?_));unfold Builtin.«object.__getattribute__»
 refine wpAny_bind (wpAny_of_eq (a:=(Value.ref x,[Value.str name t])) rfl ?_);refine wpAny_bind (wpAny_pure (wpAny_bind (L0.at (wpAny_bind (L3.at ?_)))));refine wpAny_pure ?_;show wpAny _ _ (handedOut v) _ _ _;rw [handedOut_of hh]; exact wpAny_pure h
end
section
variable {prog:Program} {w:World} {A:Around} {E:Value->Shared->Prop} {s:Shared} {K:Frag} {x C:Addr} {ox od:Obj}
end
section
variable {X:Cx} {pins:List (Addr×Obj)} {σ:St} {H:Hp} {s:Shared} {a C dx:Addr} {fs:List (Str×V)} {f:Str} {v:V} {A:Around} {E:Value->Shared->Prop}
theorem zyq {P:Program} {w:World} {h:Heap} (hok:HOk P w H h) (e:H a=some (xO a (.ref C) (some dx))) (ed:H dx=some (.xd fs)):∃ (oe od:Obj) (mA:Str->Option Value),W.InstAt h a oe C (some od)/\(∀ name,lookIn name od=some (mA name))/\∀ f,RelO (fs.lookup f) (mA f):=by
 obtain ⟨⟨oe,vs,q1,q2,q3,q4⟩,_⟩:=(show ObjOk P w H h a (xO a (.ref C) (some dx)) from hok a _ e)
 obtain ⟨mA,n,r⟩:=(show ObjOk P w H h dx (.xd fs) from hok dx _ ed)
 obtain ⟨od,ho,hl⟩:=zmW n;refine ⟨oe,od,mA,⟨q1,q2,?_,?_⟩,hl,r⟩
 ·unfold notCls; rw [q4]
 ·rw [q3]; exact ho
theorem zyr {b:Bool} {Q:Value->Shared->Prop} (I:Inv X pins σ H s) (e:H a=some (xO a (.ref C) (some dx))) (ed:H dx=some (.xd fs)) (c:XGet X.K C) (n:NoAttr X.K C f) (l:fs.lookup f=some v)
  (h:∀ u s',Inv X pins σ H s'->RelV v u->Q u s'):wpAny (model X.prog X.w) A (getAttr (.ref a) f b) Q E s:=by
 obtain ⟨oe,od,mA,J,hl,r⟩:=zyq I.hok e ed;obtain ⟨u,hu,ru⟩:=RelO.some_of (v:=v) (o:=mA f) (by rw [<- l]; exact r f);exact zqw I.kIn J c.ga c.gt c.hb (W.findObj_own c.hd n rfl (by rw [hl,hu])) (zmX ru) (h u _ (I.tok _) ru)
end
def XD (B:Bk) (H:Hp) (G:Addr->Prop) (dx:Addr) (fs:List (Str×D)):Prop:=G dx/\∃ fv:List (Str×V),H dx=some (.xd fv)/\fv.map (·.1)=fs.map (·.1)/\DAs B H G (fv.map (·.2)) (fs.map (·.2))
theorem XD.sub {B:Bk} {H:Hp} {G F:Addr->Prop} {dx:Addr} {fs:List (Str×D)} (h:XD B H G dx fs) (q:∀ b,G b->F b):XD B H F dx fs:=let ⟨g,fv,h1,h2,h3⟩:=h; ⟨q _ g,fv,h1,h2,h3.mono (λ_ _ _ e=>e) q⟩
abbrev Exc:=Nat×List (Str×D)
inductive Fl3 where
 | nx (S:FSt) | rt (x:SV) | ex (e:Exc) | bad
def Lands3 (B:Bk) (σ:St) (S:FSt) (H:Hp) (F:Addr->Prop) (os:Nat->List Addr) (D:Ends) (E:XK):Fl3->Prop
 | .nx S'=>∀ σ' H' F' os',FStep σ S H F os σ' S' H' F' os'->Rep B H' F' σ' S' os'->D.nx σ' H'
 | .rt x=>∀ v H' F' o,FStepR H F os H' F' o->VA B H' F' v x o->D.rt v H'
 | .ex e=>∀ dx H' F',FStepR H F os H' F' []->XD B H' F' dx e.2->E (.ref (B.cl e.1)) (some dx) H'
 | .bad=>False
def FX (B:Bk) (t:XK->TS) (m:FSt->Fl3):Prop:=
 ∀ (S:FSt) (σ:St) (H:Hp) (F:Addr->Prop) (os:Nat->List Addr) (D:Ends) (E:XK),Rep B H F σ S os->Lands3 B σ S H F os D E (m S)->t E D σ H
@[simp] def zqx (m:FSt->Fl):FSt->Fl3:=λS=>match m S with
 | .nx S'=>.nx S'
 | .rt x=>.rt x
 | _=>.bad
@[simp] def zkE (a b:FSt->Fl3):FSt->Fl3:=λS=>match a S with
 | .nx S1=>b S1
 | r=>r
@[simp] def zzw (c:FSt->Option Bool) (a b:FSt->Fl3):FSt->Fl3:=λS=>match c S with
 | some true=>a S
 | some false=>b S
 | none=>.bad
@[simp] def zlQ (c:Nat) (name:Str) (md:FSt->Option D):FSt->Fl3:=λS=>match md S with
 | some d=>.ex (c,[(name,d)])
 | none=>.bad
section
variable {B:Bk} {σ σ1:St} {S S1:FSt} {H H1:Hp} {F F1:Addr->Prop} {os os1:Nat->List Addr} {En:Ends} {E:XK} {t u:XK->TS} {ma mb:FSt->Fl3}
theorem Lands3.later {r:Fl3} (h:Lands3 B σ S H F os En E r) (a:FStep σ S H F os σ1 S1 H1 F1 os1):Lands3 B σ1 S1 H1 F1 os1 En E r:=by
 cases r with
 | nx S'=>exact λσ' H' F' os' st=>h σ' H' F' os' (a.trans st)
 | rt x=>exact λv H' F' o st=>h v H' F' o (a.transR st)
 | ex e=>exact λdx H' F' st=>h dx H' F' (a.transR st)
 | bad=>exact h
theorem zys {t:TS} {m:FSt->Fl} (h:FS B t m):FX B (λ_=>t) (zqx m):=by
 intro S σ H F os En E r hl;refine h S σ H F os En r ?_;unfold zqx at hl;cases q:m S with
 | nx S'=>rw [q] at hl; exact hl
 | rt x=>rw [q] at hl; exact hl
 | _=>rw [q] at hl; exact hl.elim
theorem zBr (h1:FX B t ma) (h2:FX B u mb):FX B (λE=>zCa (t E) (u E)) (zkE ma mb):=by
 intro S σ H F os En E r h;refine h1 S σ H F os _ E r ?_;unfold zkE at h;cases q:ma S with
 | nx S1=>
  rw [q] at h;intro σ' H' F' os' st r';exact h2 S1 σ' H' F' os' En E r' (h.later st)
 | rt x=>rw [q] at h; exact h
 | ex e=>rw [q] at h; exact h
 | bad=>rw [q] at h; exact h
theorem zDq {tt:TT} {mt:FSt->Option Bool} (hc:FT B tt mt) (h1:FX B t ma) (h2:FX B u mb):FX B (λE=>zzQ tt (t E) (u E)) (zzw mt ma mb):=by
 intro S σ H F os En E r h;unfold zzw at h;cases q:mt S with
 | none=>rw [q] at h; exact h.elim
 | some c=>
  rw [q] at h;refine hc S σ H F os _ c r q λH' F' a r'=>?_;cases c with
  | true=>rw [if_pos rfl]; exact h1 S σ H' F' os En E r' (h.later a.step)
  | false=>rw [if_neg Bool.false_ne_true]; exact h2 S σ H' F' os En E r' (h.later a.step)
theorem zvj {G:Addr->Prop} {L:List Nat} (r:Rep B H F σ S os) (a:Al H (orF F (osL os L)) H1 G) (gd:∀ b,G b->H1 b≠none):FStepR H F os H1 G []:=by
 refine ⟨λb u e _=>a.same b u e,λb z=>a.up b (.inl z),λb z=>?_,λb z=>absurd z (by simp),gd⟩;rcases a.new b z with (z | ⟨i,_,z⟩) | z | z
 ·exact .inl z
 ·exact .inr (.inr (.inl ⟨i,z⟩))
 ·exact .inr (.inl z.1)
 ·exact .inr (.inr (.inr z))
theorem zvk {ta:TE} {L:List Nat} {md:FSt->Option D} {c:Nat} {name:Str} {C:Addr} (hC:B.cl c=C) (ha:FD B ta L md):FX B (λE=>zsO E C name (zmZ ta zxd)) (zlQ c name md):=by
 subst hC;intro S σ H F os En E r h;unfold zlQ at h;cases q:md S with
 | none=>rw [q] at h; exact h.elim
 | some d=>
  rw [q] at h;refine ha S σ H F os _ d r q λv H1 F1 a r1 da=>⟨v,rfl,λdx hn=>?_⟩
  have al:Al H1 (orF F1 (osL os L)) (upd H1 dx (.xd [(name,v)])) (λb=>orF F1 (osL os L) b\/b=dx):=zh4 hn;have gd:∀ b,(orF F1 (osL os L) b\/b=dx)->upd H1 dx (.xd [(name,v)]) b≠none:=λb z=>by
   by_cases e:b=dx
   ·subst e; rw [zaS]; simp
   ·rw [zaW e];rcases z with z | z
    ·exact r1.gd L b z
    ·exact absurd z e
  refine h dx _ _ ((a.step (σ:=σ) (S:=S) (os:=os)).transR (zvj r1 al gd)) ⟨.inr rfl,[(name,v)],zaS,rfl,.cons (da.mono (λb o _ e=>al.same b o e) λb z=>.inl z) .nil⟩
structure FEX (B:Bk) (t:XK->TE) (L:List Nat) (m:FSt->Option SV) (mx:FSt->Option Exc):Prop where
 ok:∀ E,FE B (t E) L m
 ex:∀ (S:FSt) (σ:St) (H:Hp) (F:Addr->Prop) (os:Nat->List Addr) (Q:VK) (E:XK) (e:Exc),Rep B H F σ S os->mx S=some e->
  (∀ dx H' F',Al H F H' F'->Rep B H' F' σ S os->XD B H' (orF F' (osL os L)) dx e.2->E (.ref (B.cl e.1)) (some dx) H')->t E σ H Q
def SpX (B : Bk) (n : Nat) (f : List D -> Option SV) (x : List D -> Option Exc) : Sp := λvs H Q E => vs.length = n /\ ∃ (G : Addr -> Prop) (ds : List D), (∀ b, G b -> H b ≠ none) /\ DAs B H G vs ds /\
  ((∃ z, f ds = some z /\ ∀ v H' G' o, Al H G H' G' -> VA B H' G' v z o -> (∀ a, a ∈ o -> H a = none) -> Q v H') \/
   (∃ e, x ds = some e /\ ∀ dx H' G', Al H G H' G' -> XD B H' G' dx e.2 -> E (.ref (B.cl e.1)) (some dx) H'))
@[simp] def mX1 (x:List D->Option Exc) (mr:FSt->Option (List D)):FSt->Option Exc:=λS=>(mr S).bind x
end
@[simp] def mX3 (mx:FSt->Option Exc) (ms:FSt->Fl):FSt->Fl3:=λS=>match mx S with
 | some e=>.ex e
 | none=>zqx ms S
section
variable {B:Bk}
theorem zpt {H H':Hp} {F F':Addr->Prop} {σ:St} {S:FSt} {os:Nat->List Addr} {L:List Nat} (a:Al H F H' F') (r':Rep B H' F' σ S os):FStepR H F os H' (orF F' (osL os L)) []:=by
 refine ⟨λb u e _=>a.same b u e,λb z=>.inl (a.up b z),λb z=>?_,λb z=>absurd z (by simp),r'.gd L⟩;rcases z with z | ⟨i,_,z⟩
 ·rcases a.new b z with z | z | z
  ·exact .inl z
  ·exact .inr (.inl z.1)
  ·exact .inr (.inr (.inr z))
 ·exact .inr (.inr (.inl ⟨i,z⟩))
theorem zwu {t:XK->TE} {L:List Nat} {m:FSt->Option SV} {mx:FSt->Option Exc} {T:XK->TS} {ms:FSt->Fl} (hx:FEX B t L m mx) (hT:∀ E D σ H,∃ Q:VK,t E σ H Q->T E D σ H) (hs:∀ E,FS B (T E) ms):FX B T (mX3 mx ms):=by
 intro S σ H F os En E r h;unfold mX3 at h;cases q:mx S with
 | some e=>
  rw [q] at h;obtain ⟨Q,hq⟩:=hT E En σ H;exact hq (hx.ex S σ H F os Q E e r q λdx H' F' a r' xd=>h dx H' _ (zpt a r') xd)
 | none=>
  rw [q] at h;exact zys (hs E) S σ H F os En E r h
def zgv (m:FSt->Fl3) (n k:Nat) (ds:List D):Option SV:=if ds.length=n then (match m (ds.map (λd=>some (.sh d))++List.replicate (k-n) none) with
 | .nx _=>some (.sh .non)
 | .rt x=>some x
 | _=>none) else none
def zfA (m:FSt->Fl3) (n k:Nat) (ds:List D):Option Exc:=if ds.length=n then (match m (ds.map (λd=>some (.sh d))++List.replicate (k-n) none) with
 | .ex e=>some e
 | _=>none) else none
theorem za7 {m:FSt->Fl3} {n k:Nat}:∀ ds z,zgv m n k ds=some z->ds.length=n:=λds z h=>by
 unfold zgv at h;split at h
 ·assumption
 ·cases h
theorem zb2 {m:FSt->Fl3} {n k:Nat}:∀ ds z,zfA m n k ds=some z->ds.length=n:=λds z h=>by
 unfold zfA at h;split at h
 ·assumption
 ·cases h
end
theorem zFl {P : Program} {w : World} {K : W.Frag} {mg : Str -> Option Value} {base : Heap} {k : Nat} {f : Addr} {x qual : Str} {st : Stmt} {fd : FuncData} {N ps : List Str} {B : Bk} {m : FSt -> Fl3} (Fn : Fun K x qual st f fd) (S : FnScope N ps (zae st))
    (hbody : ∀ (cdv : Value) (A : Around) (outer : List Env) (s : Shared) (H : Hp) (E : XK), Room k (A.deeper (envOfC qual (zae st) s.heap.objs.size f cdv)) ->
      ∃ t : XK -> TS, PSs (zoc (CX1 P w) P w K mg base N qual (zae st) f cdv A outer s H E) (zb5 st) (t E) /\ FX B t m) :
    FnOk P w K mg base (CX1 P w) (k + 1) f fd ps (SpX B ps.length (zgv m ps.length N.length) (zfA m ps.length N.length)) := by
  obtain ⟨oc, od, kV, doc, pm, an, cdv, ct, osl, rfl, lk, hcd⟩ := Fn.ex;have hpl : ps.length <= N.length := by have := congrArg List.length S.pre; rw [List.length_take] at this; omega
  refine zxg lk hcd S (λvs H Q E h => h.1) λA outer s H vs Q E hr ⟨hl, G, ds, hg, da, h⟩ => ?_;obtain ⟨t, ht, hf⟩ := hbody cdv A outer s H E hr;refine ⟨t E, ht, hf _ _ H G (λ_ => []) _ E (znj hg da (by omega)) ?_⟩;have hdl : ds.length = ps.length := by rw [<- da.length]; exact hl
  unfold zgv zfA at h;rw [if_pos hdl, if_pos hdl] at h;rw [hdl];have al : ∀ {H' : Hp} {F' : Addr -> Prop} {o : List Addr}, FStepR H G (λ_ => []) H' F' o -> Al H G H' F' := λ{H' F' o} st => by
    refine ⟨λb u h => st.keep b u h (λi e => absurd e (by simp)), st.up, λb h => ?_⟩;rcases st.new b h with q | q | ⟨i, q⟩ | q
    · exact .inl q
    · exact .inr (.inl ⟨q, st.fd b h⟩)
    · simp at q
    · exact .inr (.inr q)
  have own : ∀ {H' : Hp} {F' : Addr -> Prop} {o : List Addr}, FStepR H G (λ_ => []) H' F' o -> ∀ b, b ∈ o -> H b = none := λ{H' F' o} st b hb => by
    rcases st.own b hb with q | ⟨i, q⟩
    · exact q
    · simp at q
  cases q : m (ds.map (λd => some (.sh d)) ++ List.replicate (N.length - ps.length) none) with
  | nx S' =>
    rw [q] at h;rcases h with ⟨z, hz, post⟩ | ⟨e, he, _⟩
    · cases hz
      intro σ' H' F' os' st r';exact post .non H' F' [] (al (o := []) ⟨st.keep, st.up, st.new, λb e => absurd e (by simp), r'.fd⟩) ⟨rfl, .non⟩ λb hb => absurd hb (by simp)
    · cases he
  | rt x =>
    rw [q] at h;rcases h with ⟨z, hz, post⟩ | ⟨e, he, _⟩
    · cases hz
      intro v H' F' o st va;exact post v H' F' o (al st) va (own st)
    · cases he
  | ex e =>
    rw [q] at h;rcases h with ⟨z, hz, _⟩ | ⟨e', he, post⟩
    · cases hz
    · cases he
      intro dx H' F' st xd;exact post dx H' F' (al st) xd
  | bad =>
    rw [q] at h;rcases h with ⟨z, hz, _⟩ | ⟨e, he, _⟩
    · cases hz
    · cases he
def zmB (mg:D->FSt->Option FSt) (mb:FSt->Fl3):List D->FSt->Fl3
 | [],S=>.nx S
 | d :: r,S=>match mg d S with
  | none=>.bad
  | some S1=>match mb S1 with
   | .nx S2=>zmB mg mb r S2
   | r=>r
@[simp] def zvl (mi:FSt->Option (List D)) (mg:D->FSt->Option FSt) (mb:FSt->Fl3):FSt->Fl3:=λS=>match mi S with
 | some its=>zmB mg mb its S
 | none=>.bad
section
variable {B:Bk} {wi:TI} {mi:FSt->Option (List D)} {g:TG} {mg:D->FSt->Option FSt} {tb:XK->TS} {mb:FSt->Fl3}
theorem zvm {J:It} {its:List D} {En:Ends} {E:XK} (hg:FG B g mg) (hb:FX B tb mb) (Z:St->FSt->Hp->(Addr->Prop)->(Nat->List Addr)->Prop)
  (zs:∀ {σ S H F os σ' S' H' F' os'},Rep B H F σ S os->Rep B H' F' σ' S' os'->FStep σ S H F os σ' S' H' F' os'->Z σ S H F os->Z σ' S' H' F' os')
  (zi:∀ {σ S H F os} (i:Nat) (d:D),Rep B H F σ S os->Z σ S H F os->its[i]? = some d->J.go i H/\∀ x H3,J.yld i H x H3->∃ F3,Al H F H3 F3/\DA B H3 F3 x d)
  (ze:∀ {σ S H F os} (i:Nat),Rep B H F σ S os->Z σ S H F os->its.length<=i->J.stop i H)
  {S:FSt} {σ:St} {H:Hp} {F:Addr->Prop} {os:Nat->List Addr} (r:Rep B H F σ S os) (z:Z σ S H F os) (h:Lands3 B σ S H F os En E (zmB mg mb its S)) :
  ∃ W:Nat->Nat->St->Hp->Prop,(∃ m,W 0 m σ H)/\∀ i m σ H,W i m σ H->
   (J.stop i H/\En.nx σ H)\/(J.go i H/\∃ N:St->Hp->Prop,(∀ σ' H',N σ' H'->∃ m',m' < m/\W (i+1) m' σ' H')/\∀ x H',J.yld i H x H'->g x σ H' λσ2 H2=>tb E { En with nx:=N,ct:=N,bk:=En.nx } σ2 H2):=by
 refine ⟨λi m σ' H'=>i<=its.length/\m=its.length-i/\∃ S' F' os',Rep B H' F' σ' S' os'/\Z σ' S' H' F' os'/\Lands3 B σ' S' H' F' os' En E (zmB mg mb (its.drop i) S'),
  ⟨_,Nat.zero_le _,rfl,S,F,os,r,z,by simpa using h⟩,?_⟩
 rintro i m σ1 H1 ⟨hi,hm,S1,F1,os1,r1,z1,h1⟩;cases q:its[i]? with
 | none=>
  have hle:its.length<=i:=List.getElem?_eq_none_iff.mp q;rw [List.drop_eq_nil_of_le hle] at h1;exact .inl ⟨ze i r1 z1 hle,h1 σ1 H1 F1 os1 FStep.refl r1⟩
 | some d=>
  have hlt:i < its.length:=(List.getElem?_eq_some_iff.mp q).1;have hd:its.drop i=d :: its.drop (i+1):=by
   rw [List.drop_eq_getElem_cons hlt];have:its[i]=d:=(List.getElem?_eq_some_iff.mp q).2;rw [this]
  rw [hd,zmB] at h1;obtain ⟨go,yl⟩:=zi i d r1 z1 q;refine .inr ⟨go,λσ' H'=>i+1<=its.length/\∃ S' F' os',Rep B H' F' σ' S' os'/\Z σ' S' H' F' os'/\Lands3 B σ' S' H' F' os' En E (zmB mg mb (its.drop (i+1)) S'),
   λσ' H' n=>⟨its.length-(i+1),by omega,n.1,rfl,n.2⟩,λx H2 y=>?_⟩
  obtain ⟨F2,al,da⟩:=yl x H2 y;have r2:=r1.mono al;cases e1:mg d S1 with
  | none=>rw [e1] at h1; exact h1.elim
  | some S2=>
   rw [e1] at h1;dsimp only at h1;refine hg S1 σ1 H2 F2 os1 x d S2 _ r2 da e1 λσ2 os2 st2 r3=>?_;have stA:FStep σ1 S1 H1 F1 os1 σ2 S2 H2 F2 os2:=al.step.trans st2;refine hb S2 σ2 H2 F2 os2 _ E r3 ?_;cases e2:mb S2 with
   | nx S3=>
    rw [e2] at h1;intro σ' H' F' os' st r';exact ⟨hlt,S3,F',os',r',zs r1 r' (stA.trans st) z1,h1.later (stA.trans st)⟩
   | rt x=>
    rw [e2] at h1;exact h1.later stA
   | ex e=>
    rw [e2] at h1;exact h1.later stA
   | bad=>rw [e2] at h1; exact h1.elim
theorem zBs (hi:FI B wi mi) (hg:FG B g mg) (hb:FX B tb mb):FX B (λE=>zzq wi g (tb E)) (zvl mi mg mb):=by
 intro S σ H F os En E r h;unfold zvl at h;cases q:mi S with
 | none=>rw [q] at h; exact h.elim
 | some its=>
  rw [q] at h;refine hi S σ H F os _ its r q λJ H1 F1 al r1 wk=>?_;refine zvm (J:=J) (its:=its) hg hb (λ_ _ H' F' _=>(∀ b o,F1 b->H1 b=some o->H' b=some o)/\∀ b,F1 b->F' b) ?_ ?_ ?_ r1 ⟨λ_ _ _ e=>e,λ_ h=>h⟩ (h.later al.step)
  ·intro σ S H F os σ' S' H' F' os' r r' st z;exact ⟨λb o f e=>st.keep b o (z.1 b o f e) λi e=>(r.alive e).2 (z.2 b f),λb f=>st.up b (z.2 b f)⟩
  ·intro σ S H F os i d r z e;exact (wk H F z.1 z.2).1 i d e
  ·intro σ S H F os i r z e;exact (wk H F z.1 z.2).2 i e
end
@[simp] def zcF (c:Nat) (mn:Str) (x:List D->Option Exc) (a:FSt->Option D) (r:FSt->Option (List D)):FSt->Option Exc:=λS=>(a S).bind λd=>(r S).bind λds=>match d with
 | .ins k fs=>if k=c then (if (fs.lookup mn).isNone then x (.ins k fs :: ds) else none) else none
 | _=>none
section
variable {B:Bk} {ta:TE} {tr:TA} {La Lb:List Nat} {ma:FSt->Option D} {mr:FSt->Option (List D)}
theorem zpu {c n : Nat} {mn : Str} {f : List D -> Option SV} {x : List D -> Option Exc} {C : Addr} (hC : B.cl c = C) (hf : ∀ ds z, f ds = some z -> ds.length = n) (hx : ∀ ds z, x ds = some z -> ds.length = n) (ha : FD B ta La ma) (hr : FA B tr Lb mr) :
    FEX B (λE => zqd C mn (SpX B n f x) [] E ta tr) (La ++ Lb) (zbQ c mn f ma mr) (zcF c mn x ma mr) := by
  subst hC
  -- the receiver and the arguments
  have go : ∀ (S : FSt) (σ : St) (H : Hp) (F : Addr -> Prop) (os : Nat -> List Addr) (Q : VK) (E : XK) (fs : List (Str × D)) (ds : List D), Rep B H F σ S os -> ma S = some (.ins c fs) -> mr S = some ds -> fs.lookup mn = none -> (.ins c fs :: ds).length = n ->
      (∀ vs H1 F1, Al H F H1 F1 -> Rep B H1 F1 σ S os -> DAs B H1 (orF F1 (osL os (La ++ Lb))) vs (.ins c fs :: ds) -> (∃ z, f (.ins c fs :: ds) = some z /\ ∀ v H' G' o, Al H1 (orF F1 (osL os (La ++ Lb))) H' G' -> VA B H' G' v z o -> (∀ a, a ∈ o -> H1 a = none) -> Q v H') \/
        (∃ e, x (.ins c fs :: ds) = some e /\ ∀ dx H' G', Al H1 (orF F1 (osL os (La ++ Lb))) H' G' -> XD B H' G' dx e.2 -> E (.ref (B.cl e.1)) (some dx) H')) -> zqd (B.cl c) mn (SpX B n f x) [] E ta tr σ H Q := by
    intro S σ H F os Q E fs ds rp ed er hl hn k;refine ha S σ H F os _ _ rp ed λv H1 F1 a1 r1 d1 => ?_;cases d1 with
    | @ins a dx c' vs ds' fa hh he rr =>
      refine ⟨a, dx, vs, rfl, hh, (zhd he rr mn).2 hl, hr S σ H1 F1 os _ ds r1 er λws H2 F2 a2 r2 d2 => ?_⟩;have da : DA B H1 (orF F1 (osL os La)) (.ref a) (.ins c fs) := .ins fa hh he rr;have das : DAs B H2 (orF F2 (osL os (La ++ Lb))) (.ref a :: (ws ++ [])) (.ins c fs :: ds) := by
        rw [List.append_nil];exact .cons (da.later a2 λi h => List.mem_append_left _ h) (d2.later Al.refl λi h => List.mem_append_right _ h)
      exact ⟨by rw [das.length]; exact hn, _, _, r2.gd _, das, k _ H2 F2 (a1.trans a2) r2 das⟩
  refine ⟨λE => ?_, ?_⟩
  · intro S σ H F os Q z rp e k
    obtain ⟨d, ds, ed, er, ef⟩ := zkt e;cases d with
    | ins kc fs =>
      by_cases hk : kc = c
      · subst hk
        simp only [if_pos rfl] at ef;cases hl : fs.lookup mn with
        | some _ => rw [hl] at ef; cases ef
        | none =>
          rw [hl] at ef;have ef : f (.ins kc fs :: ds) = some z := ef;refine go S σ H F os Q E fs ds rp ed er hl (hf _ _ ef) λvs H1 F1 a1 r1 das => .inl ⟨z, ef, λu H3 G3 o a3 va fr => ?_⟩;obtain ⟨F3, al, r3, va2⟩ := zeU r1 a3 va fr;refine k u H3 F3 o (a1.trans al) r3 va2 λb e => ?_;cases q : H b with
          | none => rfl
          | some w => have := fr b e; rw [a1.same b w q] at this; cases this
      · simp only [if_neg hk] at ef; cases ef
    | _ => cases ef
  · intro S σ H F os Q E e rp he k
    obtain ⟨d, ds, ed, er, ef⟩ := zkt he;cases d with
    | ins kc fs =>
      by_cases hk : kc = c
      · subst hk
        simp only [if_pos rfl] at ef;cases hl : fs.lookup mn with
        | some _ => rw [hl] at ef; cases ef
        | none =>
          rw [hl] at ef;have ef : x (.ins kc fs :: ds) = some e := ef;refine go S σ H F os Q E fs ds rp ed er hl (hx _ _ ef) λvs H1 F1 a1 r1 das => .inr ⟨e, ef, λdx H3 G3 a3 xd => ?_⟩;obtain ⟨F3, al, r3, q, _⟩ := r1.split a3;exact k dx H3 F3 (a1.trans al) r3 (xd.sub q)
      · simp only [if_neg hk] at ef; cases ef
    | _ => cases ef
@[simp] def fXF (cs:List Nat) (f:Str):D->Option D
 | .exc c fs=>if c∈cs then fs.lookup f else none
 | _=>none
end
def tXF (K:Frag) (ta:TE) (f:Str):TE:=λσ H Q=>ta σ H λx H1=>∃ a C dx fs v,x=.ref a/\H1 a=some (xO a (.ref C) (some dx))/\H1 dx=some (.xd fs)/\XGet K C/\NoAttr K C f/\fs.lookup f=some v/\Q v H1
theorem zDr {X:Cx} {e:Expr} {ta:TE} {f:Str} {pos:Pos} (he:PE X e ta) (hb:attributeBase e f X.env (eval e X.env)=eval e X.env):PE X (.Attribute e f pos) (tXF X.K ta f):=by
 intro pins s σ H Q I h;refine zrE hb (thn (he pins s σ H _ I h) λu s1 ⟨x,H1,I1,rx,a,C,dx,fs,v,ex,ea,ed,c,n,l,q⟩=>?_);subst ex;obtain rfl:u=Value.ref a:=rx;exact zyr I1 ea ed c n l λu' s2 I2 ru=>⟨v,H1,I2,ru,q⟩
section
variable {B:Bk} {ta:TE} {L:List Nat} {ma:FSt->Option D} {K:W.Frag}
theorem zDs {cs:List Nat} {f:Str} (hK:B.K=K) (hc:∀ c∈cs,XGet B.K (B.cl c)/\NoAttr B.K (B.cl c) f) (ha:FD B ta L ma):FD B (tXF K ta f) L (m1 (fXF cs f) ma):=by
 subst hK;intro S σ H F os Q z rp e k;obtain ⟨d,ed,ef⟩:=zbW e;refine ha S σ H F os _ d rp ed λv H1 F1 a1 r1 d1=>?_;cases d with
 | exc c fs=>
  have ef:(if c∈cs then fs.lookup f else none)=some z:=ef
  by_cases h:c∈cs
  ·rw [if_pos h] at ef;cases d1 with
   | @exc a dx c' vs ds' fa ga hh h2 he rr=>
    obtain ⟨v,e1,e2⟩:=(zhd he rr f).1 z ef;exact ⟨a,_,dx,vs,v,rfl,hh,h2,(hc c h).1,(hc c h).2,e1,k v H1 F1 a1 r1 e2⟩
  ·rw [if_neg h] at ef; cases ef
 | _=>cases ef
structure FBX (B:Bk) (t:XK->TS) (L:List Nat) (m:FSt->Fl) (mx:FSt->Option Exc):Prop where
 ok:∀ E,FS B (t E) m
 ex:∀ (S:FSt) (σ:St) (H:Hp) (F:Addr->Prop) (os:Nat->List Addr) (En:Ends) (E:XK) (e:Exc),Rep B H F σ S os->mx S=some e->
  (∀ dx H' F',Al H F H' F'->Rep B H' F' σ S os->XD B H' (orF F' (osL os L)) dx e.2->E (.ref (B.cl e.1)) (some dx) H')->t E En σ H
theorem zBt {t:XK->TE} {L:List Nat} {m:FSt->Option SV} {mx:FSt->Option Exc} {T:XK->TS} {ms:FSt->Fl} (hx:FEX B t L m mx) (hT:∀ E D σ H,∃ Q:VK,t E σ H Q->T E D σ H) (hs:∀ E,FS B (T E) ms):FBX B T L ms mx:=
 ⟨hs,λS σ H F os En E e r he k=>let ⟨Q,hq⟩:=hT E En σ H; hq (hx.ex S σ H F os Q E e r he k)⟩
@[simp] def zCm (c:FSt->Option Bool) (a b:FSt->Option Exc):FSt->Option Exc:=λS=>(c S).bind λx=>if x=true then a S else b S
theorem zDt {tt:TT} {mt:FSt->Option Bool} {t u:XK->TS} {La Lb:List Nat} {ma mb:FSt->Fl} {xa xb:FSt->Option Exc} (hc:FT B tt mt) (h1:FBX B t La ma xa) (h2:FBX B u Lb mb xb):FBX B (λE=>zzQ tt (t E) (u E)) (La++Lb) (mIf mt ma mb) (zCm mt xa xb):=by
 refine ⟨λE=>zAI hc (h1.ok E) (h2.ok E),λS σ H F os En E e r he k=>?_⟩;obtain ⟨c,ec,ee⟩:=zbW he;refine hc S σ H F os _ c r ec λH' F' a r'=>?_;cases c with
 | true=>
  rw [if_pos rfl];exact h1.ex S σ H' F' os En E e r' ee λdx H2 F2 a2 r2 xd=>k dx H2 F2 (a.trans a2) r2 (xd.sub (zdB (λ_ h=>h) λi h=>List.mem_append_left _ h))
 | false=>
  rw [if_neg Bool.false_ne_true];exact h2.ex S σ H' F' os En E e r' ee λdx H2 F2 a2 r2 xd=>k dx H2 F2 (a.trans a2) r2 (xd.sub (zdB (λ_ h=>h) λi h=>List.mem_append_right _ h))
def FH (B:Bk) (r:Ends->St->Value->Option Addr->Hp->Prop) (mh:Exc->FSt->Fl):Prop:=
 ∀ (S:FSt) (σ:St) (H:Hp) (F:Addr->Prop) (os:Nat->List Addr) (En:Ends) (e:Exc) (dx:Addr),Rep B H F σ S os->XD B H F dx e.2->Lands B σ S H F os En (mh e S)->r En σ (.ref (B.cl e.1)) (some dx) H
@[simp] def zzx (L:List Nat) (m:FSt->Fl) (mx:FSt->Option Exc) (mh:Exc->FSt->Fl):FSt->Fl:=λS=>match mx S with
 | some e=>if L.all (zui S)=true then mh e S else .bad
 | none=>m S
theorem zyt {H:Hp} {F:Addr->Prop} {σ:St} {S:FSt} {os:Nat->List Addr} {i:Nat} (r:Rep B H F σ S os) (h:zui S i=true):os i=[]:=by
 cases q:S[i]? with
 | none=>exact r.out i λx z=>by rw [q] at z; cases z
 | some o=>cases o with
  | none=>exact r.out i λx z=>by rw [q] at z; cases z
  | some x=>
   unfold zui at h;rw [q] at h;cases x with
   | sh d=>obtain ⟨v,_,va⟩:=r.at' i _ q; exact va.1
   | _=>cases h
theorem zBu {tb:XK->TS} {L:List Nat} {m:FSt->Fl} {mx:FSt->Option Exc} {r:Ends->St->Value->Option Addr->Hp->Prop} {mh:Exc->FSt->Fl} (hb:FBX B tb L m mx) (hh:FH B r mh):FS B (zEK tb r) (zzx L m mx mh):=by
 intro S σ H F os En rp h;unfold zzx at h;cases q:mx S with
 | none=>rw [q] at h; exact hb.ok _ S σ H F os En rp h
 | some e=>
  rw [q] at h;dsimp only at h
  by_cases hl:L.all (zui S)=true
  ·rw [if_pos hl] at h;refine hb.ex S σ H F os En _ e rp q λdx H' F' a r' xd=>hh S σ H' F' os En e dx r' (xd.sub λb z=>?_) (h.later a.step);rcases z with z | ⟨i,hi,z⟩
   ·exact z
   ·have:=List.all_eq_true.mp hl i hi;exact absurd z (by rw [zyt r' this]; simp)
  ·rw [if_neg hl] at h; exact h.elim
theorem zyu:FH B (λ_ _ _ _ _=>False) (λ_ _=>.bad):=λS σ H F os En e dx r x h=>h
end
section
variable {B:Bk}
theorem zvn {H:Hp} {F:Addr->Prop} {σ:St} {S:FSt} {os:Nat->List Addr} {i:Nat} (r:Rep B H F σ S os) (nl:zeg S i=false) :
  FStep σ S H F os (σ.set i none) (S.set i none) H F (λj=>if j=i then [] else os j)/\Rep B H F (σ.set i none) (S.set i none) (λj=>if j=i then [] else os j):=by
 have ne:∀ {j:Nat} {x:SV},S[j]? = some (some x)->lkO (some x)=true->j≠i:=λ{j x} e hl z=>by
  subst z;unfold zeg at nl;rw [e] at nl;rw [show lkO (some x)=false from nl] at hl;cases hl
 refine ⟨⟨λb o h _=>h,λb h=>h,λ_ h=>h,λ_ h=>.inl h,λj b hb=>?_,λj xs hj=>?_,λj c fs hj=>?_,λj xs hj=>?_⟩,⟨λj y hj=>?_,λj hj=>?_,λj k b e1 e2=>?_,r.fd,by simp [r.len]⟩⟩
 ·have hb:b∈(if j=i then [] else os j):=hb;split at hb
  ·simp at hb
  ·exact .inr ⟨j,hb⟩
 ·have q:=ne hj rfl;exact ⟨by rw [List.getElem?_set_ne (Ne.symm q)]; exact hj,by rw [List.getElem?_set_ne (Ne.symm q)]⟩
 ·have q:=ne hj rfl;exact ⟨⟨fs,by rw [List.getElem?_set_ne (Ne.symm q)]; exact hj⟩,by rw [List.getElem?_set_ne (Ne.symm q)]⟩
 ·have q:=ne hj rfl;exact ⟨⟨xs,by rw [List.getElem?_set_ne (Ne.symm q)]; exact hj⟩,by rw [List.getElem?_set_ne (Ne.symm q)]⟩
 ·have ji:j≠i:=by
   rintro rfl;rw [List.getElem?_set,if_pos rfl] at hj;split at hj <;> cases hj
  rw [List.getElem?_set_ne (Ne.symm ji)] at hj;obtain ⟨w,h1,h2⟩:=r.at' j y hj;exact ⟨w,by rw [List.getElem?_set_ne (Ne.symm ji)]; exact h1,by rw [if_neg ji]; exact h2⟩
 ·show (if j=i then [] else os j)=[]
  by_cases q:j=i
  ·rw [if_pos q]
  ·rw [if_neg q];exact r.out j λy z=>hj y (by rw [List.getElem?_set_ne (Ne.symm q)]; exact z)
 ·have e1:b∈(if j=i then [] else os j):=e1;have e2:b∈(if k=i then [] else os k):=e2;split at e1
  ·simp at e1
  ·split at e2
   ·simp at e2
   ·exact r.inj j k b e1 e2
@[simp] def unS (i:Nat):Fl->Fl
 | .nx S=>if zeg S i=false then .nx (S.set i none) else .bad
 | .rt x=>.rt x
 | _=>.bad
@[simp] def zzy (tabx:Nat->Nat->Option Bool) (ct i:Nat) (ms:FSt->Fl) (zcc:Exc->FSt->Fl):Exc->FSt->Fl:=λe S=>match tabx e.1 ct with
 | some true=>(match put i [] (.sh (.exc e.1 e.2)) S with
  | .nx S1=>unS i (ms S1)
  | _=>.bad)
 | some false=>zcc e S
 | none=>.bad
@[simp] def zEL (tabx:Nat->Nat->Option Bool) (ct:Nat) (ms:FSt->Fl) (zcc:Exc->FSt->Fl):Exc->FSt->Fl:=λe S=>match tabx e.1 ct with
 | some true=>ms S
 | some false=>zcc e S
 | none=>.bad
theorem zDu {tabx:Nat->Nat->Option Bool} {ct i:Nat} {Ct:Addr} {K:W.Frag} {ts:TS} {ms:FSt->Fl} {r:Ends->St->Value->Option Addr->Hp->Prop} {mr:Exc->FSt->Fl} (hK:B.K=K) (hC:B.cl ct=Ct) (ht:∀ c C b,tabx c C=some b->exmOne B.K (.ref (B.cl c)) (.ref (B.cl C))=some b) (hs:FS B ts ms) (hr:FH B r mr) :
  FH B (rAs K Ct i ts r) (zzy tabx ct i ms mr):=by
 subst hK hC;intro S σ H F os En e dx rp xd h;unfold zzy at h;cases q:tabx e.1 ct with
 | none=>rw [q] at h; exact h.elim
 | some b=>
  rw [q] at h;refine ⟨b,ht _ _ _ q,?_⟩;cases b with
  | false=>rw [if_neg Bool.false_ne_true]; exact hr S σ H F os En e dx rp xd h
  | true=>
   rw [if_pos rfl];dsimp only at h;intro a ha;obtain ⟨gd,fv,h1,h2,h3⟩:=xd;have hne:dx≠a:=λz=>by rw [z,ha] at h1; cases h1
   have al:Al H F (upd H a (xO a (.ref (B.cl e.1)) (some dx))) (λb=>F b\/b=a):=zh4 ha;have da:DA B (upd H a (xO a (.ref (B.cl e.1)) (some dx))) (orF (λb=>F b\/b=a) (osL os [])) (.ref a) (.exc e.1 e.2):=.exc (.inl (.inr rfl)) (.inl (.inl gd)) zaS (by rw [zaW hne]; exact h1) h2 (h3.mono (λb o _ q=>al.same b o q) λb z=>.inl (.inl z));refine zwg (B:=B) (i:=i) (L:=[]) (x:=.sh (.exc e.1 e.2)) (E:={ nx:=λσ1 H1=>ts (En.un i) σ1 H1,rt:=En.rt }) rp ?_ al (rp.mono al) ⟨rfl,da⟩ (λb z=>absurd z (by simp))
   cases p:put i [] (.sh (.exc e.1 e.2)) S with
   | nx S1=>
    rw [p] at h;intro σ' H' F' os' st r';refine hs S1 σ' H' F' os' (En.un i) r' ?_;have h':=h.later st;dsimp only at h';cases m:ms S1 with
    | nx S2=>
     rw [m] at h';have h':Lands B σ' S1 H' F' os' En (if zeg S2 i=false then .nx (S2.set i none) else .bad):=h'
     by_cases nl:zeg S2 i=false
     ·rw [if_pos nl] at h';intro σ2 H2 F2 os2 st2 r2;obtain ⟨c1,c2⟩:=zvn r2 nl;exact h' _ _ _ _ (st2.trans c1) c2
     ·rw [if_neg nl] at h'; exact h'.elim
    | rt x=>rw [m] at h'; exact h'
    | bk S2=>rw [m] at h'; exact h'.elim
    | ct S2=>rw [m] at h'; exact h'.elim
    | bad=>rw [m] at h'; exact h'.elim
   | rt x=>rw [p] at h; exact h.elim
   | bk S2=>rw [p] at h; exact h.elim
   | ct S2=>rw [p] at h; exact h.elim
   | bad=>rw [p] at h; exact h.elim
end
theorem FnOk.calm {P:Program} {w:World} {K:W.Frag} {mg:Str->Option Value} {base:Heap} {k:Nat} {f:Addr} {fd:FuncData} {ps:List Str} {B:Bk} {n:Nat} {fn:List D->Option SV} {xn:List D->Option Exc} (F:FnOk P w K mg base (CX1 P w) k f fd ps (SpX B n fn xn)):FnOk P w K mg base CX0 k f fd ps (SpF B n fn):=by
 have up:∀ vs H Q E,SpF B n fn vs H Q E->SpX B n fn xn vs H Q E0:=λvs H Q E ⟨hl,G,ds,z,hg,da,hz,post⟩=>⟨hl,G,ds,hg,da,.inl ⟨z,hz,post⟩⟩
 refine ⟨λvs H Q E h=>F.len _ _ _ _ (up vs H Q E h),λA outer s H args us vs Q E hr he hb hv hs=>codeAny_mono (F.run A outer s H args us vs Q E0 hr he hb hv (up vs H Q E hs)) λr s' h=>?_⟩;cases r with
 | ok fl=>cases fl <;> exact h
 | error e=>obtain ⟨_,_,_,_,_,_,_,_,_,_,_,_,_,_,z⟩:=h; exact z
section
variable {ι:Type}
structure JEX (Xs:ι->Cx) (Ee:ι->XK) (B:Bk) (e:Expr) (L:List Nat) (m:FSt->Option SV) (mx:FSt->Option Exc):Prop where
 ex:∃ t:XK->TE,(∀ i,PE (Xs i) e (t (Ee i)))/\FEX B t L m mx
structure JSX (Xs:ι->Cx) (Ee:ι->XK) (B:Bk) (st:Stmt) (m:FSt->Fl3):Prop where
 ex:∃ t:XK->TS,(∀ i,PS (Xs i) st (t (Ee i)))/\FX B t m
structure JBX (Xs:ι->Cx) (Ee:ι->XK) (B:Bk) (sts:List Stmt) (m:FSt->Fl3):Prop where
 ex:∃ t:XK->TS,(∀ i,PSs (Xs i) sts (t (Ee i)))/\FX B t m
structure JR (Xs:ι->Cx) (Ee:ι->XK) (P:Program) (w:World) (K:W.Frag) (mg:Str->Option Value) (base:Heap) (k:Nat) (B:Bk):Prop where
 jx:JX Xs P w K mg base k B
 ps:∀ i,zhZ (CX1 P w) (Xs i) (Ee i)
 go:∀ i v s,zyj (Xs i) (Ee i) v s->(Xs i).xe v s
variable {Xs:ι->Cx} {Ee:ι->XK} {P:Program} {w:World} {K:W.Frag} {mg:Str->Option Value} {base:Heap} {k:Nat} {B:Bk} {a b e o c:Expr} {es:List Expr} {st:Stmt} {sts ss:List Stmt} {L L' La Lb:List Nat} {ma mb md:FSt->Option D} {me:FSt->Option SV} {mx:FSt->Option Exc} {mt:FSt->Option Bool} {mr:FSt->Option (List D)} {mf mh:FSt->Fl3} {pos:Pos}
theorem zpv {m:FSt->Fl} (h:JS Xs B st m):JSX Xs Ee B st (zqx m):=let ⟨_,p,f⟩:=h.ex; ⟨⟨_,p,zys f⟩⟩
theorem zpw {m:FSt->Fl} (h:JB Xs B sts m):JBX Xs Ee B sts (zqx m):=let ⟨_,p,f⟩:=h.ex; ⟨⟨_,p,zys f⟩⟩
theorem zdf (h:JSX Xs Ee B st mf):JBX Xs Ee B [st] mf:=let ⟨_,p,f⟩:=h.ex; ⟨⟨_,λi=>zrs (p i),f⟩⟩
theorem zeV (h:JSX Xs Ee B st mf) (h':JBX Xs Ee B sts mh):JBX Xs Ee B (st :: sts) (zkE mf mh):=let ⟨t,p,f⟩:=h.ex; let ⟨u,q,g⟩:=h'.ex; ⟨⟨λE=>zCa (t E) (u E),λi=>zpd (p i) (q i),zBr f g⟩⟩
theorem zsQ (hc:JT Xs B c mt) (ha:JBX Xs Ee B sts mf) (hb:JBX Xs Ee B ss mh):JSX Xs Ee B (.If c sts ss pos) (zzw mt mf mh):=let ⟨_,p,f⟩:=hc.ex; let ⟨_,p',f'⟩:=ha.ex; let ⟨_,q,g⟩:=hb.ex; ⟨⟨_,λi=>zzR (p i) (p' i) (q i),zDq f f' g⟩⟩
theorem zlR (he:JEX Xs Ee B e L me mx) (hs:∀ i,swapsWith e none pos.line (Xs i).env=pure false:=by intro _; rfl):JSX Xs Ee B (.Expr e pos) (mX3 mx (mDo me)):=
 let ⟨t,p,f⟩:=he.ex; ⟨⟨λE=>zmh (t E),λi=>zmi (p i) (hs i),zwu f (λE D σ H=>⟨_,λh=>h⟩) λE=>zAJ (f.ok E)⟩⟩
theorem zkF (he:JEX Xs Ee B e L me mx):JSX Xs Ee B (.Return (some e) pos) (mX3 mx (zdu me)):=
 let ⟨t,p,f⟩:=he.ex; ⟨⟨λE=>zCb (t E),λi=>zrt (p i),zwu f (λE D σ H=>⟨_,λh=>h⟩) λE=>zwf (f.ok E)⟩⟩
theorem zc4 (jr : JR Xs Ee P w K mg base k B) {n nf cn : Nat} {f C : Addr} {fd : FuncData} {ps : List Str} {fn : List D -> Option SV} {xn : List D -> Option Exc} {m : Str} {apos : Pos} {pl : ι -> Sem Bool} (ho : JD Xs B o La ma) (cc : Cls K C) (hm : Meth K C m f) (F : FnOk P w K mg base (CX1 P w) n f fd ps (SpX B nf fn xn)) (hn : n <= k) (hb : Binds K fd ps []) (hC : B.cl cn = C)
    (hf : ∀ ds z, fn ds = some z -> ds.length = nf) (hx : ∀ ds z, xn ds = some z -> ds.length = nf) (ha : JA Xs B (e :: es) Lb mr) (he : ∀ i, starEach (e :: es) (Xs i).env = (false, eval e (Xs i).env) :: starEach es (Xs i).env) (hpl : ∀ i, (backTo pos (starEach es (Xs i).env)).any (·.1) = false := by intro _; rfl)
    (ht : ∀ i, eval (.Call (.Attribute o m apos) (e :: es) [] pos) (Xs i).env = (do
      let ov <- eval o (Xs i).env
      standAt apos.atName
      let (f, first) <- holding [ov] (getMethod ov m (pl i))
      callWith pos f first (backTo pos (starEach (e :: es) (Xs i).env)) (backToKw pos (keywordEach [] (Xs i).env))) := by intro _; rfl) : JEX Xs Ee B (.Call (.Attribute o m apos) (e :: es) [] pos) (La ++ Lb) (zbQ cn m fn ma mr) (zcF cn m xn ma mr) :=
  let ⟨_, p, g⟩ := ho.ex; let ⟨_, q, g'⟩ := ha.ex; ⟨⟨_, λi => zrH (p i) (jr.jx.k' i ▸ cc) (jr.jx.k' i ▸ hm) (jr.jx.fn F i) ((jr.jx.r rfl i).mono hn) (jr.jx.k' i ▸ hb) .nil (jr.ps i) (q i) (he i) (hpl i) (ht i), zpu hC hf hx g g'⟩⟩
theorem zkG (jr:JR Xs Ee P w K mg base k B) {n cn:Nat} {x name:Str} {np cpos:Pos} {C f:Addr} (xc:XCls K C) (hi:findIn K (.ref C) "__init__"=some (some (.ref f))) (hf:isFn K (.ref f)=true) (kp:keepIn K (.ref C)=true) (hm:mg x=some (.ref C)) (ini:zzv P w K mg base n f C name) (hn:n+1<=k) (hC:B.cl cn=C)
  (ha:JD Xs B e L md) (he:∀ i,starEach [e] (Xs i).env=(false,eval e (Xs i).env) :: starEach [] (Xs i).env) (hg:∀ j,Gl (Xs j) x:=by intro _; rfl) (hpl:∀ i,(backTo cpos (starEach [] (Xs i).env)).any (·.1)=false:=by intro _; rfl) (hdb:(x==("__debug__":Str))=false:=by decide) :
  JSX Xs Ee B (.Raise (some (.Call (.Name x np) [e] [] cpos)) none pos) (zlQ cn name md):=by
 obtain ⟨t,p,g⟩:=ha.ex;refine ⟨⟨λE=>zsO E C name (zmZ t zxd),λi=>?_,zvk hC g⟩⟩;have jx:=jr.jx;have ini':zzv (Xs i).prog (Xs i).w (Xs i).K (Xs i).mg (Xs i).base n f C name:=by rw [jx.p i,jx.w' i,jx.k' i,jx.m i,jx.b i]; exact ini
 exact zvg (jx.c rfl i) (jr.go i) (jx.k' i▸xc) (jx.k' i▸hi) (jx.k' i▸hf) (jx.k' i▸kp) (hg i) (jx.m i▸hm) ini' ((jx.r rfl i).mono hn) (zkm (p i) zrF (he i)) hdb (he i) (hpl i)
end
abbrev JYs (P:Program) (w:World) (K:W.Frag) (mg:Str->Option Value) (base:Heap) (N:List Str) (k:Nat) (qual:Str) (scope:Scope) (f:Addr):JIx k qual scope f->Cx:=
 λi=>zoc (CX1 P w) P w K mg base N qual scope f i.cdv i.A i.outer i.s i.H i.E
section
variable {P:Program} {w:World} {K:W.Frag} {mg:Str->Option Value} {base:Heap} {x qual:Str} {st:Stmt} {f:Addr} {fd:FuncData} {N ps:List Str} {k:Nat} {B:Bk} {m:FSt->Fl3} {scope:Scope}
theorem zBv (hK:B.K=K):JR (JYs P w K mg base N k qual scope f) (λi=>i.E) P w K mg base k B:=
 ⟨⟨λ_=>rfl,λ_=>rfl,λ_=>rfl,λ_=>rfl,λ_=>rfl,λ_ i=>i.hr,λ_ _=>rfl,hK,λ_=>PassesOwn.leaving⟩,λ_=>zve,λ_ _ _ g=>zws g⟩
theorem Fun.okXJ (F:Fun K x qual st f fd) (S:FnScope N ps (zae st)) (hK:B.K=K) (h:JR (JYs P w K mg base N k qual (zae st) f) (λi=>i.E) P w K mg base k B->JBX (JYs P w K mg base N k qual (zae st) f) (λi=>i.E) B (zb5 st) m) :
  FnOk P w K mg base (CX1 P w) (k+1) f fd ps (SpX B ps.length (zgv m ps.length N.length) (zfA m ps.length N.length)):=
 zFl F S λcdv A outer s H E hr=>let ⟨t,p,q⟩:=(h (zBv hK)).ex; ⟨t,p ⟨cdv,A,outer,s,H,E,hr⟩,q⟩
end
section
variable {ι:Type}
structure JTX (Xs:ι->Cx) (B:Bk) (e:Expr) (L:List Nat) (m:FSt->Option SV) (mx:FSt->Option Exc):Prop where
 ex:∃ t:XK->TE,(∀ i pins σ E,PEx (Xs i) pins σ E e (t E))/\FEX B t L m mx
structure JTS (Xs:ι->Cx) (B:Bk) (st:Stmt) (L:List Nat) (m:FSt->Fl) (mx:FSt->Option Exc):Prop where
 ex:∃ t:XK->TS,(∀ i pins σ E,PSx (Xs i) pins σ E st (t E))/\FBX B t L m mx
structure JTB (Xs:ι->Cx) (B:Bk) (sts:List Stmt) (L:List Nat) (m:FSt->Fl) (mx:FSt->Option Exc):Prop where
 ex:∃ t:XK->TS,(∀ i pins σ E,PBx (Xs i) pins σ E sts (t E))/\FBX B t L m mx
structure JH (Xs:ι->Cx) (B:Bk) (hs:List ExceptHandler) (mh:Exc->FSt->Fl):Prop where
 ex:∃ r,(∀ i,PH (Xs i) hs r)/\FH B r mh
abbrev JM (Xs:ι->Cx):ι×Addr->Cx:=λp=>(Xs p.1).marked p.2
variable {Xs:ι->Cx} {P:Program} {w:World} {K:W.Frag} {mg:Str->Option Value} {base:Heap} {k:Nat} {B:Bk} {a b e o c:Expr} {es:List Expr} {st:Stmt} {sts ss:List Stmt} {L L' La Lb:List Nat} {ma mb md:FSt->Option D} {me:FSt->Option SV} {mx xa xb:FSt->Option Exc} {mt:FSt->Option Bool} {mr:FSt->Option (List D)} {mf mh:FSt->Fl} {pos:Pos}
theorem JX.marked (jx:JX Xs P w K mg base k B):JX (JM Xs) P w K mg base k B false:=
 ⟨λi=>jx.p i.1,λi=>jx.w' i.1,λi=>jx.k' i.1,λi=>jx.m i.1,λi=>jx.b i.1,λz=>(by cases z),λz=>(by cases z),jx.bk,λi=>PassesOwn.never⟩
theorem zkd (jx : JX Xs P w K mg base k B) {n nf cn : Nat} {f C : Addr} {fd : FuncData} {ps : List Str} {fn : List D -> Option SV} {xn : List D -> Option Exc} {m : Str} {apos : Pos} {pl : ι -> Sem Bool} (ho : JD Xs B o La ma) (cc : Cls K C) (hm : Meth K C m f) (F : FnOk P w K mg base (CX1 P w) n f fd ps (SpX B nf fn xn)) (hn : n <= k) (hb : Binds K fd ps []) (hC : B.cl cn = C)
    (hf : ∀ ds z, fn ds = some z -> ds.length = nf) (hx : ∀ ds z, xn ds = some z -> ds.length = nf) (ha : JA Xs B (e :: es) Lb mr) (he : ∀ i, starEach (e :: es) (Xs i).env = (false, eval e (Xs i).env) :: starEach es (Xs i).env) (hnx : ∀ i, (Xs i).nox = Xs i := by intro _; rfl) (hpl : ∀ i, (backTo pos (starEach es (Xs i).env)).any (·.1) = false := by intro _; rfl)
    (ht : ∀ i, eval (.Call (.Attribute o m apos) (e :: es) [] pos) (Xs i).env = (do
      let ov <- eval o (Xs i).env
      standAt apos.atName
      let (f, first) <- holding [ov] (getMethod ov m (pl i))
      callWith pos f first (backTo pos (starEach (e :: es) (Xs i).env)) (backToKw pos (keywordEach [] (Xs i).env))) := by intro _; rfl) : JTX Xs B (.Call (.Attribute o m apos) (e :: es) [] pos) (La ++ Lb) (zbQ cn m fn ma mr) (zcF cn m xn ma mr) := by
  obtain ⟨to, p, g⟩ := ho.ex;obtain ⟨t, q, g'⟩ := ha.ex;refine ⟨⟨_, λi pins σ E => zvh (by rw [hnx i]; exact p i) (jx.k' i ▸ cc) (jx.k' i ▸ hm) ?_ ((jx.r rfl i).mono hn) (jx.k' i ▸ hb) .nil (by rw [hnx i]; exact q i) (ht i) (he i) (hpl i), zpu hC hf hx g g'⟩⟩;have := jx.fn F i;rw [<- jx.p i, <- jx.w' i] at this;exact this
theorem zwv (he:JTX Xs B e L me mx) (hs:∀ i,swapsWith e none pos.line (Xs i).env=pure false:=by intro _; rfl):JTS Xs B (.Expr e pos) L (mDo me) mx:=
 let ⟨t,p,f⟩:=he.ex; ⟨⟨λE=>zmh (t E),λi pins σ E=>zvi (p i pins σ E) (hs i),zBt f (λE D σ H=>⟨_,λh=>h⟩) λE=>zAJ (f.ok E)⟩⟩
theorem zoD (h:JTS Xs B st L mf mx):JTB Xs B [st] L mf mx:=let ⟨_,p,f⟩:=h.ex; ⟨⟨_,λi pins σ E=>zyo (p i pins σ E),f⟩⟩
theorem zBw (hc:JT Xs B c mt) (ha:JTB Xs B sts La mf xa) (hb:JTB Xs B ss Lb mh xb) (hnx:∀ i,(Xs i).nox=Xs i:=by intro _; rfl):JTS Xs B (.If c sts ss pos) (La++Lb) (mIf mt mf mh) (zCm mt xa xb):=
 let ⟨_,p,f⟩:=hc.ex; let ⟨_,p',f'⟩:=ha.ex; let ⟨_,q,g⟩:=hb.ex; ⟨⟨_,λi pins σ E=>zBp (by rw [hnx i]; exact p i) (p' i pins σ E) (q i pins σ E),zDt f f' g⟩⟩
theorem zBx:JH Xs B [] (λ_ _=>.bad):=⟨⟨_,λi pins σ H s a C dx T D I xa ha hT h=>h.elim,zyu⟩⟩
theorem zyv (jx:JX Xs P w K mg base k B) (i:Nat) {ct:Nat} {Ct:Addr} {x n:Str} {np:Pos} {b₀:Stmt} {suite:List Stmt} {zcc:List ExceptHandler} {tabx:Nat->Nat->Option Bool} {ms:FSt->Fl} {mr:Exc->FSt->Fl} (hnd:∀ j,(Xs j).N.Nodup) (hm:mg x=some (.ref Ct)) (hC:B.cl ct=Ct)
  (ht:∀ c C b,tabx c C=some b->exmOne K (.ref (B.cl c)) (.ref (B.cl C))=some b) (hs:JB (JM Xs) B (b₀ :: suite) ms) (hr:JH Xs B zcc mr) (hi:∀ j,(Xs j).N[i]? = some n:=by intro _; rfl) (hx:∀ j,(Xs j).env.scope.names.lookup n=some .local:=by intro _; rfl) (hg:∀ j,Gl (Xs j) x:=by intro _; rfl) (hdb:(x==("__debug__":Str))=false:=by decide) :
  JH Xs B (.ExceptHandler (some (.Name x np)) (some n) (b₀ :: suite) pos :: zcc) (zzy tabx ct i ms mr):=by
 obtain ⟨ts,p,f⟩:=hs.ex;obtain ⟨r,q,g⟩:=hr.ex;refine ⟨⟨rAs K Ct i ts r,λj=>?_,zDu jx.bk hC (by rw [jx.bk]; exact ht) f g⟩⟩;have:=zDp (X:=Xs j) (pos:=pos) (np:=np) (hnd j) (hi j) (hx j) (hg j) (jx.m j▸hm) (λa=>p (j,a)) (q j) hdb;rw [jx.k' j] at this;exact this
theorem zDv {cm:Bool} (jx:JX Xs P w K mg base k B cm) {cs:List Nat} {f:Str} (h:JD Xs B e L ma) (hc:∀ c∈cs,XGet K (B.cl c)/\NoAttr K (B.cl c) f) (hb:∀ i,attributeBase e f (Xs i).env (eval e (Xs i).env)=eval e (Xs i).env:=by intro _; rfl):JD Xs B (.Attribute e f pos) L (m1 (fXF cs f) ma):=by
 obtain ⟨t,p,g⟩:=h.ex;refine ⟨⟨tXF K t f,λi=>?_,zDs jx.bk (by rw [jx.bk]; exact hc) g⟩⟩;have:=zDr (X:=Xs i) (pos:=pos) (p i) (hb i);rw [jx.k' i] at this;exact this
end
section
variable {ι:Type} {Xs:ι->Cx} {Ee:ι->XK} {P:Program} {w:World} {K:W.Frag} {mg:Str->Option Value} {base:Heap} {k:Nat} {B:Bk} {cm:Bool} {e o:Expr} {L La Lb:List Nat} {ma md:FSt->Option D} {me:FSt->Option SV} {mx:FSt->Option Exc} {pos:Pos}
theorem FEX.or {t u:XK->TE} {m m':FSt->Option SV} {x x':FSt->Option Exc} (h:FEX B t La m x) (h':FEX B u Lb m' x'):FEX B (λE σ H Q=>t E σ H Q\/u E σ H Q) (La++Lb) (zol m m') (zol x x'):=by
 refine ⟨λE=>FE.or (h.ok E) (h'.ok E),λS σ H F os Q E e r he k=>?_⟩;unfold zol at he;cases q:x S with
 | some z=>
  simp only [q,Option.orElse] at he; cases he
  exact .inl (h.ex S σ H F os Q E _ r q λdx H' F' a r' xd=>k dx H' F' a r' (xd.sub (zdB (λ_ h=>h) λi h=>List.mem_append_left _ h)))
 | none=>
  simp only [q,Option.orElse] at he;exact .inr (h'.ex S σ H F os Q E e r he λdx H' F' a r' xd=>k dx H' F' a r' (xd.sub (zdB (λ_ h=>h) λi h=>List.mem_append_right _ h)))
theorem JTX.or {m m':FSt->Option SV} {x x':FSt->Option Exc} (h:JTX Xs B e La m x) (h':JTX Xs B e Lb m' x'):JTX Xs B e (La++Lb) (zol m m') (zol x x'):=by
 obtain ⟨t,p,f⟩:=h.ex;obtain ⟨u,p',f'⟩:=h'.ex;refine ⟨⟨λE σ H Q=>t E σ H Q\/u E σ H Q,λi pins σ E s H Q I hh=>?_,FEX.or f f'⟩⟩;rcases hh with hh | hh
 ·exact p i pins σ E s H Q I hh
 ·exact p' i pins σ E s H Q I hh
end
def XE (B:Bk) (t:XK->TE) (L:List Nat) (mx:FSt->Option Exc):Prop:=∀ (S:FSt) (σ:St) (H:Hp) (F:Addr->Prop) (os:Nat->List Addr) (Q:VK) (E:XK) (e:Exc),Rep B H F σ S os->mx S=some e->
  (∀ dx H' F',Al H F H' F'->Rep B H' F' σ S os->XD B H' (orF F' (osL os L)) dx e.2->E (.ref (B.cl e.1)) (some dx) H')->t E σ H Q
def XA (B:Bk) (t:XK->TA) (L:List Nat) (mx:FSt->Option Exc):Prop:=∀ (S:FSt) (σ:St) (H:Hp) (F:Addr->Prop) (os:Nat->List Addr) (Q:List V->Hp->Prop) (E:XK) (e:Exc),Rep B H F σ S os->mx S=some e->
  (∀ dx H' F',Al H F H' F'->Rep B H' F' σ S os->XD B H' (orF F' (osL os L)) dx e.2->E (.ref (B.cl e.1)) (some dx) H')->t E σ H Q
@[simp] def zzz {α:Type} (ma:FSt->Option α) (mx:FSt->Option Exc):FSt->Option Exc:=λS=>(ma S).bind λ_=>mx S
section
variable {B:Bk} {t T:XK->TE} {u U:XK->TA} {L L' La:List Nat} {mx:FSt->Option Exc} {ta:TE} {ma:FSt->Option D}
theorem XE.wk (h:XE B t L mx) (hl:∀ i,i∈L->i∈L'):XE B t L' mx:=λS σ H F os Q E e r he k=>h S σ H F os Q E e r he λdx H' F' a r' xd=>k dx H' F' a r' (xd.sub (zdB (λ_ h=>h) hl))
theorem XA.wk (h:XA B u L mx) (hl:∀ i,i∈L->i∈L'):XA B u L' mx:=λS σ H F os Q E e r he k=>h S σ H F os Q E e r he λdx H' F' a r' xd=>k dx H' F' a r' (xd.sub (zdB (λ_ h=>h) hl))
theorem XE.fst (h:XE B t L mx) (hT:∀ E σ H (Q:VK),∃ Q':VK,t E σ H Q'->T E σ H Q):XE B T L mx:=λS σ H F os Q E e r he k=>let ⟨Q',hq⟩:=hT E σ H Q; hq (h S σ H F os Q' E e r he k)
theorem XE.fstA (h:XE B t L mx) (hT:∀ E σ H (Q:List V->Hp->Prop),∃ Q':VK,t E σ H Q'->U E σ H Q):XA B U L mx:=λS σ H F os Q E e r he k=>let ⟨Q',hq⟩:=hT E σ H Q; hq (h S σ H F os Q' E e r he k)
theorem XA.fst (h:XA B u L mx) (hT:∀ E σ H (Q:VK),∃ Q':List V->Hp->Prop,u E σ H Q'->T E σ H Q):XE B T L mx:=λS σ H F os Q E e r he k=>let ⟨Q',hq⟩:=hT E σ H Q; hq (h S σ H F os Q' E e r he k)
theorem XE.snd (ha:FD B ta La ma) (h:XE B t L mx) (hT:∀ E σ H (Q:VK),∃ Q':V->VK,(ta σ H λv H1=>t E σ H1 (Q' v))->T E σ H Q):XE B T L (zzz ma mx):=by
 intro S σ H F os Q E e r he k;obtain ⟨d,ed,ex⟩:=zbW he;obtain ⟨Q',hq⟩:=hT E σ H Q;exact hq (ha S σ H F os _ d r ed λv H1 F1 a1 r1 d1=>h S σ H1 F1 os (Q' v) E e r1 ex λdx H' F' a r' xd=>k dx H' F' (a1.trans a) r' xd)
theorem XA.snd (ha:FD B ta La ma) (h:XA B u L mx) (hT:∀ E σ H (Q:List V->Hp->Prop),∃ Q':V->List V->Hp->Prop,(ta σ H λv H1=>u E σ H1 (Q' v))->U E σ H Q):XA B U L (zzz ma mx):=by
 intro S σ H F os Q E e r he k;obtain ⟨d,ed,ex⟩:=zbW he;obtain ⟨Q',hq⟩:=hT E σ H Q;exact hq (ha S σ H F os _ d r ed λv H1 F1 a1 r1 d1=>h S σ H1 F1 os (Q' v) E e r1 ex λdx H' F' a r' xd=>k dx H' F' (a1.trans a) r' xd)
@[simp] def mXb (mx:FSt->Option Exc) (m:FSt->Fl3):FSt->Fl3:=λS=>match mx S with
 | some e=>.ex e
 | none=>m S
theorem zyw {Ts:XK->TS} {m:FSt->Fl3} (hx:XE B t L mx) (hT:∀ E D σ H,∃ Q:VK,t E σ H Q->Ts E D σ H) (hs:∀ E,∃ T':XK->TS,T' E=Ts E/\FX B T' m):FX B Ts (mXb mx m):=by
 intro S σ H F os En E r h;unfold mXb at h;cases q:mx S with
 | some e=>
  rw [q] at h;obtain ⟨Q,hq⟩:=hT E En σ H;exact hq (hx S σ H F os Q E e r q λdx H' F' a r' xd=>h dx H' _ (zpt a r') xd)
 | none=>
  rw [q] at h;obtain ⟨T',e,f⟩:=hs E;have:=f S σ H F os En E r h;rw [e] at this;exact this
end
section
variable {ι:Type}
structure JDX (Xs:ι->Cx) (Ee:ι->XK) (B:Bk) (e:Expr) (L:List Nat) (m:FSt->Option D) (mx:FSt->Option Exc):Prop where
 ex:∃ t:XK->TE,(∀ i,PE (Xs i) e (t (Ee i)))/\(∀ E,FD B (t E) L m)/\XE B t L mx
structure JAX (Xs:ι->Cx) (Ee:ι->XK) (B:Bk) (es:List Expr) (L:List Nat) (m:FSt->Option (List D)) (mx:FSt->Option Exc):Prop where
 ex:∃ t:XK->TA,(∀ i,PA (Xs i) es (t (Ee i)))/\(∀ E,FA B (t E) L m)/\XA B t L mx
variable {Xs:ι->Cx} {Ee:ι->XK} {P:Program} {w:World} {K:W.Frag} {mg:Str->Option Value} {base:Heap} {k:Nat} {B:Bk} {a b e o c:Expr} {es:List Expr} {st:Stmt} {sts ss:List Stmt} {L L' La Lb:List Nat} {ma mb md:FSt->Option D} {me:FSt->Option SV} {mx:FSt->Option Exc} {mt:FSt->Option Bool} {mr:FSt->Option (List D)} {mf mh:FSt->Fl3} {pos:Pos}
theorem JEX.asD (h:JEX Xs Ee B e L me mx):JDX Xs Ee B e L (mFr me) mx:=let ⟨t,p,f⟩:=h.ex; ⟨⟨t,p,λE=>(f.ok E).fd,f.ex⟩⟩
theorem JDX.asE (h:JDX Xs Ee B e L md mx):JEX Xs Ee B e L (mSh md) mx:=let ⟨t,p,f,x⟩:=h.ex; ⟨⟨t,p,λE=>(f E).fe,x⟩⟩
theorem zyx (h:JDX Xs Ee B a L ma mx):JDX Xs Ee B (.UnaryOp .Not a pos) L (mBl (ziG (zal ma))) mx:=
 let ⟨t,p,f,x⟩:=h.ex; ⟨⟨λE=>zw2 (t E),λi=>zvY (p i),λE=>zsf (f E),x.fst λE σ H Q=>⟨_,λh=>h⟩⟩⟩
theorem zyy {op:Operator} {r:R2} {f:D->D->Option D} (ho:∀ i,OpR (Xs i) (binaryOp op) r) (hf:OpD B r f) (ha:JD Xs B a La ma) (hb:JDX Xs Ee B b Lb mb mx):JDX Xs Ee B (.BinOp a op b pos) (La++Lb) (m2 f ma mb) (zzz ma mx):=
 let ⟨t,p,g,x⟩:=hb.ex; let ⟨tb,pb,fb⟩:=ha.ex
 ⟨⟨λE=>tOp r tb (t E),λi=>zup (ho i) (pb i) (p i),λE=>zom hf fb (g E),(XE.snd fb x λE σ H Q=>⟨λv y H2=>r v y H2 Q,λh=>h⟩).wk λi h=>List.mem_append_right _ h⟩⟩
theorem zvo {op:CmpOp} {f:D->D->Option D} (hc:JCmp Xs B op f) (ha:JDX Xs Ee B a La ma mx) (hb:JD Xs B b Lb mb) (hm:behindInMarks op b=false:=by first | exact zaX _ | rfl):JDX Xs Ee B (.Compare a [op] [b] pos) (La++Lb) (m2 f ma mb) mx:=
 let ⟨r,ho,hf⟩:=hc.ex; let ⟨t,p,g,x⟩:=ha.ex; let ⟨tb,pb,fb⟩:=hb.ex
 ⟨⟨λE=>tOp r (t E) tb,λi=>zrC (ho i) (p i) (pb i) hm,λE=>zom hf (g E) fb,(x.fst λE σ H Q=>⟨_,λh=>h⟩).wk λi h=>List.mem_append_left _ h⟩⟩
theorem zww (ha:JDX Xs Ee B e La ma mx) (hr:JA Xs B es Lb mr) (hs:∀ i,starEach (e :: es) (Xs i).env=(false,eval e (Xs i).env) :: starEach es (Xs i).env):JAX Xs Ee B (e :: es) (La++Lb) (zab ma mr) mx:=
 let ⟨t,p,f,x⟩:=ha.ex; let ⟨tr,p',f'⟩:=hr.ex
 ⟨⟨λE=>zmZ (t E) tr,λi=>zkm (p i) (p' i) (hs i),λE=>zon (f E) f',(x.fstA λE σ H Q=>⟨_,λh=>h⟩).wk λi h=>List.mem_append_left _ h⟩⟩
theorem zBy (ha:JD Xs B e La ma) (hr:JAX Xs Ee B es Lb mr mx) (hs:∀ i,starEach (e :: es) (Xs i).env=(false,eval e (Xs i).env) :: starEach es (Xs i).env):JAX Xs Ee B (e :: es) (La++Lb) (zab ma mr) (zzz ma mx):=
 let ⟨t,p,f,x⟩:=hr.ex; let ⟨tr,p',f'⟩:=ha.ex
 ⟨⟨λE=>zmZ tr (t E),λi=>zkm (p' i) (p i) (hs i),λE=>zon f' (f E),(XA.snd f' x λE σ H Q=>⟨λv xs H2=>Q (v :: xs) H2,λh=>h⟩).wk λi h=>List.mem_append_right _ h⟩⟩
theorem zyz (h:JAX Xs Ee B es L mr mx):JEX Xs Ee B (.List es pos) L (zhc mr) mx:=
 let ⟨t,p,f,x⟩:=h.ex; ⟨⟨λE=>zCM (t E),λi=>zv2 (p i),λE=>zwd (f E),x.fst λE σ H Q=>⟨_,λh=>h⟩⟩⟩
theorem zyA {x1} (h:JAX Xs Ee B es L mr mx):JDX Xs Ee B (.Tuple es x1 pos) L (zdN mr) mx:=
 let ⟨t,p,f,x⟩:=h.ex; ⟨⟨λE=>zCL (t E),λi=>zv1 (p i),λE=>zwe (f E),x.fst λE σ H Q=>⟨_,λh=>h⟩⟩⟩
theorem zvp (jx:JX Xs P w K mg base k B) {NX N:List Str} {SX scope:Scope} {own:Nat} {fi Li:List Nat} {tg iter elt:Expr} {ifs:List Expr} {mi:FSt->Option D} {g1:D->FSt->Option FSt} (S:CompScope NX SX scope N own fi) (hi:JDX Xs Ee B iter Li mi mx) (hg:JG (JC Xs scope N) B tg g1) (ht:JIf (JC Xs scope N) B ifs mt) (he:JD (JC Xs scope N) B elt L ma)
  (hN:∀ i,(Xs i).N=NX:=by intro _; rfl) (hS:∀ i,(Xs i).env.scope=SX:=by intro _; rfl) (hs:∀ i x,foldedSetIterable iter (Xs i).env x=pure x:=by intro _ _; rfl):JEX Xs Ee B (.ListComp elt [⟨tg,iter,ifs,0⟩] scope pos) (fi++Li) (zdC own fi (zkb mi) g1 mt ma) mx:=
 let ⟨t,p1,f1,x1⟩:=hi.ex; let ⟨g,p2,f2⟩:=hg.ex; let ⟨tt,p3,f3⟩:=ht.ex; let ⟨te,p4,f4⟩:=he.ex
 ⟨⟨λE=>zuI (zuM K (t E)) g tt te own fi,λi=>zrU S (jx.c rfl i) (zks (jx.k' i) (p1 i)) (λex s H=>p2 (i,ex,s,H)) (λex s H=>p3 (i,ex,s,H)) (λex s H=>p4 (i,ex,s,H)) (hN i) (hS i) (hs i),λE=>zoq (zso jx.bk (f1 E)) f2 f3 f4,
  (x1.fst λE σ H Q=>⟨_,λh=>Or.inl h⟩).wk λi h=>List.mem_append_right _ h⟩⟩
theorem zvq (jx:JX Xs P w K mg base k B) {tg iter:Expr} {g1:D->FSt->Option FSt} (L':List Nat) (hi:JEX Xs Ee B iter L me mx) (hg:JG Xs B tg g1) (hb:JBX Xs Ee B sts mf) (hl:(L.all λi=>L'.contains i)=true:=by rfl) (hs:∀ i x,foldedSetIterable iter (Xs i).env x=pure x:=by intro _ _; rfl) :
  JSX Xs Ee B (.For tg iter sts [] pos) (mXb mx (zvl (mIt L' me) g1 mf)):=
 let ⟨t,p,f⟩:=hi.ex; let ⟨g,p',f'⟩:=hg.ex; let ⟨tb,q,fb⟩:=hb.ex
 ⟨⟨λE=>zzq (zuM K (t E)) g (tb E),λi=>zrz (jx.x i) (jx.c rfl i) (zks (jx.k' i) (p i)) (p' i) (q i) (hs i),
  zyw (t:=t) f.ex (λE D σ H=>⟨_,λh=>Or.inl h⟩) λE=>⟨λE'=>zzq (zuM K (t E)) g (tb E'),rfl,zBs (zwl L' jx.bk (f.ok E) hl) f' fb⟩⟩⟩
end
section
variable {B:Bk}
theorem FBX.wk {t:XK->TS} {L L':List Nat} {m:FSt->Fl} {mx:FSt->Option Exc} (h:FBX B t L m mx) (hl:(L.all λi=>L'.contains i)=true):FBX B t L' m mx:=
 ⟨h.ok,λS σ H F os En E e r he k=>h.ex S σ H F os En E e r he λdx H' F' a r' xd=>k dx H' F' a r' (xd.sub (zdB (λ_ h=>h) (zhs hl)))⟩
variable {ι:Type} {Xs:ι->Cx} {sts:List Stmt} {L:List Nat} {mf:FSt->Fl} {mx:FSt->Option Exc} {pos:Pos}
theorem zyB {h₀:ExceptHandler} {hs:List ExceptHandler} {mhh:Exc->FSt->Fl} (L':List Nat) (hb:JTB Xs B sts L mf mx) (hh:JH Xs B (h₀ :: hs) mhh) (hl:(L.all λi=>L'.contains i)=true:=by rfl) (hst:∀ i,(Xs i).stack=(Xs i).env :: (Xs i).outer:=by intro _; rfl) (hf:∀ i,(Xs i).env.frame=some (Xs i).env.locals:=by intro _; rfl) :
  JS Xs B (.Try sts (h₀ :: hs) [] [] pos) (zzx L' mf mx mhh):=
 let ⟨_,p,f⟩:=hb.ex; let ⟨_,q,g⟩:=hh.ex; ⟨⟨_,λi=>zBq (hst i) (hf i) (λpins σ E=>p i pins σ E) (q i),zBu (f.wk hl) g⟩⟩
end
@[simp] def zFY:FSt->Option Exc:=λ_=>none
section
variable {B:Bk} {ι:Type} {Xs:ι->Cx} {Ee:ι->XK} {e:Expr} {L:List Nat} {me:FSt->Option SV}
end
abbrev Bd3:=FSt->Fl3
abbrev ExT:=List D->Option Exc
end L2
namespace PySem
theorem zqy:typeLookup (.type "list_reverseiterator") "__len__"=pure none:=by rw [typeLookup_type,builtinLookup_eq_fast]; kernel_rfl
theorem zoE:typeLookup (.type "list_reverseiterator") "__length_hint__"=pure (some (.builtin "list_reverseiterator.__length_hint__")):=by rw [typeLookup_type,builtinLookup_eq_fast]; kernel_rfl
section
variable {prog:Program} {w:World} {A:Around} {E:Value->Shared->Prop} {s:Shared} {I l:Addr} {items:Array Value}
theorem zvr {i:Int} {Q:Bool->Shared->Prop} (hit:s.heap.IsRevIter I l i) (h:Q false s):wpAny (model prog w) A (Builtin.List.listLengthHint (.ref I)) Q E s:=by
 unfold Builtin.List.listLengthHint;refine wpAny_bind (wpAny_specialOf hit.typeIs zqy ?_);show wpAny _ _ (specialOf (Value.ref I) (Str.ofString "__length_hint__") >>= _) _ _ _;refine wpAny_bind (wpAny_specialOf hit.typeIs zoE ?_);generalize hid:("list_reverseiterator.__length_hint__":String)=id0
 wp_delta
 rw [show splitId id0=some ("list_reverseiterator","__length_hint__") from by subst hid; decide +kernel];subst hid;refine wpAny_bind (wpAny_isInstance (T:="list_reverseiterator") (b:=true) hit.typeIs (by rw [isSubtype_type]; kernel_rfl) ?_);refine wpAny_ite_split (λhab=>absurd hab (by decide)) (λ_=>?_);refine wpAny_ite_split (λ_=>?_) (λhab=>absurd (by decide +kernel) hab);exact wpAny_ite_split (λhab=>absurd hab (by decide +kernel)) (λ_=>wpAny_pure h)
theorem zqz {R : Result -> Shared -> Prop} (hh : A.handled = none) (hne : l ≠ I) (hit : s.heap.IsRevIter I l ((items.size : Int) - 1)) (hl : s.heap.IsList l items) (hz : items.size <= sizeLine) (S : Addr) (res : Value) (c₀ : Nat) (hS : s.heap.get? S = some { cls := .type "list", data := .seq #[] c₀ }) (hSI : S ≠ I) (hSl : S ≠ l)
    (hR : ∀ h' tk acc' c', (∀ b o, b ≠ S -> b ≠ I -> s.heap.get? b = some o -> h'.get? b = some o) -> h'.get? S = some { cls := .type "list", dict := none, data := .seq acc' c', slots := #[] } ->
      ItemsOf (λi v => items[items.size - 1 - i]? = some v) acc' items.size -> R (.ok (.ret res)) { s with heap := h', toks := tk }) :
    wpAny (model prog w) A.in1 (Builtin.List.listExtendWith (.ref S) (.ref I) res)
      (λfin s' => match fin with | .done f => R (.ok f) s' | .again c' => c'.quiet = true /\ codeAny (model prog w) A c' R s') (λe s' => R (.error e) s') s := by
  have hSf : S ∉ [I, l] := by simp [hSI, hSl]
  have W := (Walks.listRev (prog := prog) (w := w) (A := A.in1) hh I l hne items).toS;unfold Builtin.List.listExtendWith;refine wpAny_bind (wpAny_typeOf hit.typeIs ?_);have h1 : Builtin.List.listSameRef (.ref S) (.ref I) = false := by simp [Builtin.List.listSameRef, hSI]
  have h2 : (Value.type "list_reverseiterator" == Value.type "list") = false := by decide
  have h3 : (Value.type "list_reverseiterator" == Value.type "tuple") = false := by decide
  simp only [h1, h2, h3, Bool.or_false, Bool.false_eq_true, if_false];refine wpAny_bind (wpAny_pyIter_revIter hit ?_);refine wpAny_bind (wpAny_holding (zvr hit ?_));refine wpAny_ite_split (λhab => absurd hab (by decide +kernel)) (λ_ => ?_);refine wpAny_pure ⟨plainId_quiet F.plain_extend_loop _, ?_⟩;refine codeAny_extend_loopS W hz S hSf res items.size 0 _ #[] c₀ rfl (Nat.zero_le _) ⟨Nat.zero_le _, by simpa using hit, hl⟩ hS (ItemsOf.nil _) λs' acc' c' hm hS' hacc => ?_
  rw [Moved.eq_with hm];refine hR s'.heap s'.toks acc' c' (λb o hb hbI e => hm.heap b o (λhmem => ?_) e) hS' hacc;rcases List.mem_cons.mp hmem with e' | hmem
  · exact hb e'
  · exact hbI (List.mem_singleton.mp hmem)
theorem zmC {R : Result -> Shared -> Prop} (hh : A.handled = none) (hne : l ≠ I) (hit : s.heap.IsRevIter I l ((items.size : Int) - 1)) (hl : s.heap.IsList l items) (hz : items.size <= sizeLine) (S : Addr) (hS : s.heap.get? S = some { cls := .type "list", data := .seq #[] }) (hSI : S ≠ I) (hSl : S ≠ l)
    (hR : ∀ h' tk acc' c', (∀ b o, b ≠ S -> b ≠ I -> s.heap.get? b = some o -> h'.get? b = some o) -> h'.get? S = some { cls := .type "list", dict := none, data := .seq acc' c', slots := #[] } ->
      ItemsOf (λi v => items[items.size - 1 - i]? = some v) acc' items.size -> R (.ok (.ret .none)) { s with heap := h', toks := tk }) :
    wpAny (model prog w) A.in1 (Builtin.«list.__init__» ⟨[.ref S, .ref I], []⟩)
      (λfin s' => match fin with | .done f => R (.ok f) s' | .again c' => c'.quiet = true /\ codeAny (model prog w) A c' R s') (λe s' => R (.error e) s') s := by
  show wpAny _ _ (do let old <- Builtin.List.listItems (.ref S); Builtin.List.listUpdate (.ref S) (λ_ => #[]); letGo old.toList.reverse; Builtin.List.listExtendWith (.ref S) (.ref I) .none) _ _ s;refine wpAny_bind ?_;unfold Builtin.List.listItems;refine wpAny_bind (wpAny_seqItems hS rfl (wpAny_pure ?_));show wpAny _ _ (updateSeq S (λ_ => #[]) >>= λ_ => letGo (#[] : Array Value).toList.reverse >>= λ_ => Builtin.List.listExtendWith (.ref S) (.ref I) .none) _ _ s
  refine wpAny_bind (wpAny_updateSeq hS rfl ?_);have hS₂ := Heap.get?_update_self (Obj.mapSeq (λ_ => (#[] : Array Value))) hS rfl;have oth : ∀ b o, b ≠ S -> s.heap.get? b = some o -> (s.heap.update S (Obj.mapSeq (λ_ => (#[] : Array Value)))).get? b = some o :=
    λb o hb e => (Heap.get?_update_other _ _ (Ne.symm hb)).trans e
  refine wpAny_bind (wpAny_letGo ?_);refine zqz (s := { s with heap := s.heap.update S (Obj.mapSeq (λ_ => (#[] : Array Value))) }) hh hne (hit.at λo e => oth I o (Ne.symm hSI) e) (hl.at λo e => oth l o (Ne.symm hSl) e) hz S .none _ hS₂ hSI hSl λh' tk acc' c' hk hS' hacc => ?_;exact hR h' tk acc' c' (λb o hb hbI e => hk b o hb hbI (oth b o hb e)) hS' hacc
theorem zmD {Q : Value -> Shared -> Prop} (hh : A.handled = none) (hne : l ≠ I) (hit : s.heap.IsRevIter I l ((items.size : Int) - 1)) (hl : s.heap.IsList l items) (hz : items.size <= sizeLine)
    (hQ : ∀ h' tk acc' c', (∀ b o, b ≠ I -> s.heap.get? b = some o -> h'.get? b = some o) -> h'.get? s.heap.objs.size = some { cls := .type "list", dict := none, data := .seq acc' c', slots := #[] } ->
      ItemsOf (λi v => items[items.size - 1 - i]? = some v) acc' items.size -> Q (.ref s.heap.objs.size) { s with heap := h', toks := tk }) :
    wpAny (model prog w) A (call (.type "list") [.ref I]) Q E s := by
  refine callType_codes (Q₁ := λobj s₁ => obj = .ref s.heap.objs.size /\ s₁ = { s with heap := s.heap.push { cls := .type "list", data := .seq #[] } }) F.called_list (F.typeCall_list_1 _) F.entry_list_init
    (code_list_new _ ⟨rfl, rfl⟩) λobj s₁ h₁ => ?_
  obtain ⟨rfl, rfl⟩ := h₁;have hS : (s.heap.push { cls := .type "list", data := .seq #[] }).get? s.heap.objs.size = some { cls := .type "list", data := .seq #[] } := Heap.get?_push_size _ rfl;have nI : s.heap.objs.size ≠ I := by obtain ⟨o, ho, _⟩ := id hit; exact Nat.ne_of_gt (Heap.lt_size ho)
  have nl : s.heap.objs.size ≠ l := by obtain ⟨o, ho, _⟩ := id hl; exact Nat.ne_of_gt (Heap.lt_size ho)
  refine ⟨⟨_, hS, rfl⟩, F.args_list_init_2 _ _, zmC (A := A.in1) (s := { s with heap := s.heap.push { cls := .type "list", data := .seq #[] } }) hh hne (hit.at λo e => Heap.get?_push_of_some _ e) (hl.at λo e => Heap.get?_push_of_some _ e) hz _ hS nI nl λh' tk acc' c' hk hS' hacc => ?_⟩;exact ⟨rfl, hQ h' tk acc' c' (λb o hb e => hk b o (Nat.ne_of_lt (Heap.lt_size e)) hb (Heap.get?_push_of_some _ e)) hS' hacc⟩
end
end PySem
namespace L2
open PySem PySem.Spec PyProof.Rows PySem.W
def rLr:List V->Hp->VK->Prop:=λvs H Q=>∃ j:Int,vs=[.int j]/\0<=j/\j<=4096/\∀ l,H l=none->Q (.ref l) (upd H l (.lst ((List.range j.toNat).map λi=>V.int (i:Nat))))
theorem zlS {f:Nat->V}:∀ (acc:List Value) (k:Nat),(∀ i u,acc[i]? = some u->RelV (f (k+i)) u)->Vals ((List.range' k acc.length).map f) acc
 | [],_,_=>.nil
 | u :: r,k,h=>show Vals (f k :: (List.range' (k+1) r.length).map f) (u :: r) from .cons (by simpa using h 0 u rfl) (zlS r (k+1) λi u q=>by
   have:=h (i+1) u (by simpa using q)
   rwa [show k+(i+1)=k+1+i by omega] at this)
def zEM (K:W.Frag):List V->Hp->VK->Prop:=λvs H Q=>∃ a xs,vs=[.ref a]/\SqL K H a xs/\∀ l,H l=none->Q (.ref l) (upd H l (.lst xs.reverse))
section
variable {X:Cx} {a:Expr} {ta:TA} {p q pos rpos:Pos}
theorem zqA (hc:X.calm=true) (hgl:Gl X "list") (hml:X.mg "list"=none) (hgr:Gl X "range") (hmr:X.mg "range"=none) (ha:PA X [a] ta) (hs:starEach [a] X.env=[(false,eval a X.env)]:=by rfl) :
  PE X (.Call (.Name "list" p) [.Call (.Name "range" q) [a] [] rpos] [] pos) (tCB rLr ta):=by
 intro pins s σ H Q I h;refine wpAny_Call_Name_kw (zhY I hgl hml Boot.«list» ?_);refine PyProof.Rows.callWith_type1 ?_ zkA rfl;rw [show starEach [Expr.Call (.Name "range" q) [a] [] rpos] X.env=[(false,eval (.Call (.Name "range" q) [a] [] rpos) X.env)] from zkA];refine Calls.spliced_cons (Call_ (zhY I hgr hmr boot_range (PyProof.Rows.callWith_type1 (thn (ha rpos pins s σ H _ I h) λus s1 ⟨vs,H1,I1,r1,q1⟩=>?_) hs rfl)))
 obtain ⟨j,e,b1,b2,q⟩:=q1;subst e;obtain ⟨u,rfl,ru⟩:=zjQ r1;obtain ⟨t,rfl⟩:=ru;refine call_range_1 (Calls.spliced_nil ?_);refine call_list_range (n:=j.toNat) (I1.ok.hd hc) (IsRange.new ..) (small_one (by omega) (by omega) (by omega) (by omega)) (by rw [rangeSize_one]; split <;> omega) (by omega) λh' tk acc c' kp e it=>?_;have I2:Inv X pins σ H1 { s1 with heap:=s1.heap.push { cls:=.type "range",data:=.fields #[.int 0 s1.toks,.int j t,.int 1 (s1.toks+1)] },toks:=s1.toks+1+1 }:=I1.kept λb o e=>Heap.get?_push_of_some _ e
 have vals:Vals ((List.range j.toNat).map λi=>V.int (i:Nat)) acc.toList:=by
  have:=zlS (f:=λi=>V.int (i:Nat)) acc.toList 0 λi u q=>by
   obtain ⟨t,e⟩:=it.2 i u (by simpa using q);exact ⟨t,by rw [e]; simp⟩
  rw [Array.length_toList,it.1] at this;rw [List.range_eq_range'];exact this
 exact ⟨.ref _,_,I2.laid (t':=tk) kp (Nat.le_refl _) (show ObjOk X.prog X.w _ h' _ (.lst ((List.range j.toNat).map λi=>V.int (i:Nat))) from ⟨by rw [sizeLine_eq]; simp; omega,acc.toList,c',vals,by simpa using e⟩),rfl,q _ (I2.hok.fresh (Nat.le_refl _))⟩
theorem zqB (hc:X.calm=true) (hgl:Gl X "list") (hml:X.mg "list"=none) (hgr:Gl X "reversed") (hmr:X.mg "reversed"=none) (ha:PA X [a] ta) (hs:starEach [a] X.env=[(false,eval a X.env)]:=by rfl) :
  PE X (.Call (.Name "list" p) [.Call (.Name "reversed" q) [a] [] rpos] [] pos) (tCB (zEM X.K) ta):=by
 intro pins s σ H Q I h;refine wpAny_Call_Name_kw (zhY I hgl hml Boot.«list» ?_);refine PyProof.Rows.callWith_type1 ?_ zkA rfl;rw [show starEach [Expr.Call (.Name "reversed" q) [a] [] rpos] X.env=[(false,eval (.Call (.Name "reversed" q) [a] [] rpos) X.env)] from zkA];refine Calls.spliced_cons (Call_ (zhY I hgr hmr boot_reversed (PyProof.Rows.callWith_type1 (thn (ha rpos pins s σ H _ I h) λus s1 ⟨vs,H1,I1,r1,q1⟩=>?_) hs rfl)))
 obtain ⟨b,xs,e,hq,q⟩:=q1;subst e;obtain ⟨u,rfl,ru⟩:=zjQ r1;cases ru
 obtain ⟨its,rv,pl,hz⟩:=I1.list hq;have hlt:b < s1.heap.objs.size:=by obtain ⟨o,ho,_⟩:=id pl.isList; exact Heap.lt_size ho
 refine call_reversed_list pl.isList (Calls.spliced_nil ?_);refine zmD (l:=b) (items:=its.toArray) (s:={ s1 with heap:=s1.heap.push (revObj b ((its.toArray.size:Int)-1)) }) (I1.ok.hd hc) (Nat.ne_of_lt hlt) ⟨_,Heap.get?_push_size _ rfl,rfl,rfl⟩ (pl.isList.at λo e=>Heap.get?_push_of_some _ e) (by rw [List.size_toArray,<- rv.length]; exact hz) λh' tk acc c' kp e it=>?_;have eacc:acc.toList=its.reverse:=by
  refine List.ext_getElem? λi=>?_;have hsz:acc.size=its.length:=by simpa using it.1
  by_cases hi:i < acc.size
  ·have e1:=it.2 i acc[i] (by simp [hi]);have e2:its[its.length-1-i]? = some acc[i]:=by simpa using e1
   have:acc.toList[i]? = some acc[i]:=by simp [hi]
   rw [this,List.getElem?_reverse (by omega),e2]
  ·rw [List.getElem?_eq_none (by simp; omega),List.getElem?_eq_none (by simp; omega)]
 have k1:∀ c o,s1.heap.get? c=some o->h'.get? c=some o:=λc o e=>kp c o (Nat.ne_of_lt (Heap.lt_size e)) (Heap.get?_push_of_some _ e);have hle:s1.heap.objs.size<=(s1.heap.push (revObj b ((its.toArray.size:Int)-1))).objs.size:=by simp [Heap.size_push]
 exact ⟨.ref _,_,I1.laid (t':=tk) k1 hle (show ObjOk X.prog X.w _ h' _ (.lst xs.reverse) from ⟨by simpa using hz,acc.toList,c',by rw [eacc]; exact rv.reverse,by simpa using e⟩),rfl,q _ (I1.hok.fresh hle)⟩
end
@[simp] def fLr:List D->Option SV
 | [.int j]=>if 0<=j/\j<=4096 then some (.li ((List.range j.toNat).map λi=>D.int (i:Nat))) else none
 | _=>none
@[simp] def zzA:List D->Option SV
 | [.lst xs]=>some (.li xs.reverse)
 | [.fz xs]=>some (.li xs.reverse)
 | _=>none
section
variable {B:Bk} {K:W.Frag}
theorem zsR {H:Hp} {G:Addr->Prop}:∀ ns:List Nat,DAs B H G (ns.map λi=>V.int (i:Nat)) (ns.map λi=>D.int (i:Nat))
 | []=>.nil
 | n :: ns=>.cons (.int _) (zsR ns)
theorem zFm:ziH B rLr fLr:=by
 intro H G vs ds z Q hg hd e k;unfold fLr at e;split at e
 ·split at e
  ·rename_i hj
   cases e
   obtain ⟨v,rfl,d1⟩:=hd.one;cases d1
   exact ⟨_,rfl,hj.1,hj.2,λp hp=>zf9 hg hp (zsR _) k⟩
  ·cases e
 ·cases e
theorem DAs.rev {H:Hp} {G:Addr->Prop} {vs:List V} {ds:List D} (h:DAs B H G vs ds):DAs B H G vs.reverse ds.reverse:=by
 have app:∀ {a:List V} {b:List D} {c:List V} {d:List D},DAs B H G a b->DAs B H G c d->DAs B H G (a++c) (b++d):=λ{a b c d} x y=>by
  induction a generalizing b with
  | nil=>cases x; exact y
  | cons u us ih=>cases x with | cons r t=>exact .cons r (ih t)
 induction vs generalizing ds with
 | nil=>cases h; exact .nil
 | cons u us ih=>
  cases h with
  | cons r t=>rw [List.reverse_cons,List.reverse_cons]; exact app (ih t) (.cons r .nil)
theorem zDw (hK:B.K=K):ziH B (zEM K) zzA:=by
 subst hK;intro H G vs ds z Q hg hd e k;unfold zzA at e;split at e
 ·cases e
  obtain ⟨v,rfl,d1⟩:=hd.one;cases d1 with
  | lst h r=>exact ⟨_,_,rfl,h.sq,λp hp=>zf9 hg hp r.rev k⟩
 ·cases e
  obtain ⟨v,rfl,d1⟩:=hd.one;cases d1 with
  | fz h r=>exact ⟨_,_,rfl,h.sq,λp hp=>zf9 hg hp r.rev k⟩
 ·cases e
end
section
variable {ι:Type} {Xs:ι->Cx} {P:Program} {w:World} {K:W.Frag} {mg:Str->Option Value} {base:Heap} {k:Nat} {B:Bk} {a:Expr} {L:List Nat} {mr:FSt->Option (List D)} {p q pos rpos:Pos}
theorem zsS (jx:JX Xs P w K mg base k B) (hl:mg "list"=none) (hr:mg "range"=none) (ha:JA Xs B [a] L mr) (hs:∀ i,starEach [a] (Xs i).env=[(false,eval a (Xs i).env)]) (hgl:∀ j,Gl (Xs j) "list":=by intro _; rfl) (hgr:∀ j,Gl (Xs j) "range":=by intro _; rfl) :
  JE Xs B (.Call (.Name "list" p) [.Call (.Name "range" q) [a] [] rpos] [] pos) L (m1 fLr mr):=
 let ⟨_,g,f⟩:=ha.ex; ⟨⟨_,λi=>zqA (jx.c rfl i) (hgl i) (jx.m i▸hl) (hgr i) (jx.m i▸hr) (g i) (hs i),zuS zFm f⟩⟩
theorem zsT (jx:JX Xs P w K mg base k B) (hl:mg "list"=none) (hr:mg "reversed"=none) (ha:JA Xs B [a] L mr) (hs:∀ i,starEach [a] (Xs i).env=[(false,eval a (Xs i).env)]) (hgl:∀ j,Gl (Xs j) "list":=by intro _; rfl) (hgr:∀ j,Gl (Xs j) "reversed":=by intro _; rfl) :
  JE Xs B (.Call (.Name "list" p) [.Call (.Name "reversed" q) [a] [] rpos] [] pos) L (m1 zzA mr):=
 let ⟨_,g,f⟩:=ha.ex; ⟨⟨_,λi=>by have:=zqB (X:=Xs i) (p:=p) (q:=q) (pos:=pos) (rpos:=rpos) (jx.c rfl i) (hgl i) (jx.m i▸hl) (hgr i) (jx.m i▸hr) (g i) (hs i); rw [jx.k' i] at this; exact this,zuS (zDw jx.bk) f⟩⟩
end
open PySem.Calls
def zvs {α:Type} (lt:Nat->Nat->Bool):KasT α->α
 | .ret a=>a
 | .ask i j k=>zvs lt (k (lt i j))
def zdv {α:Type} (P:Nat->Nat->Prop):KasT α->(α->Prop)->Prop
 | .ret a,R=>R a
 | .ask i j k,R=>P i j/\∀ b,zdv P (k b) R
theorem zdE {α β:Type} {P:Nat->Nat->Prop} {f:α->KasT β} {R:α->Prop} {R':β->Prop} (hf:∀ a,R a->zdv P (f a) R'):∀ t:KasT α,zdv P t R->zdv P (t.bind f) R'
 | .ret a,h=>hf a h
 | .ask _ _ k,h=>⟨h.1,λb=>zdE hf (k b) (h.2 b)⟩
theorem zwx {α:Type} {P:Nat->Nat->Prop} {R:α->Prop} {cmp:Nat->Nat->(Bool->Shared->Prop)->Shared->Prop} {lt:Nat->Nat->Bool} {s:Shared} {G:α->Shared->Prop} (hc:∀ i j (C:Bool->Shared->Prop),P i j->C (lt i j) s->cmp i j C s) :
  ∀ t:KasT α,zdv P t R->G (zvs lt t) s->t.kasWp cmp G s
 | .ret _,_,h=>h
 | .ask i j k,a,h=>hc i j _ a.1 (zwx hc (k (lt i j)) (a.2 _) h)
def InN (n:Nat) (p:Array Nat):Prop:=∀ x,x∈p->x < n
section
variable {n:Nat} {p:Array Nat}
theorem InN.at (h:InN n p) (hn:0 < n) (i:Nat):p.getD i 0 < n:=by
 by_cases hi:i < p.size
 ·have:p.getD i 0=p[i]:=by simp [Array.getD,hi]
  rw [this]; exact h _ (Array.getElem_mem hi)
 ·have:p.getD i 0=0:=by simp [Array.getD,hi]
  rw [this]; exact hn
theorem InN.rev (h:InN n p) (i j:Nat):InN n (kas_rev p i j):=λx hx=>h x ((mirror_perm p i j _).mem_iff.mp hx)
theorem InN.bub (h:InN n p) (i j:Nat):InN n (bubble p i j):=λx hx=>h x ((bubble_perm p i j).mem_iff.mp hx)
abbrev Two (n:Nat):Nat->Nat->Prop:=λi j=>i < n/\j < n
theorem zsU (hn:0 < n) (h:InN n p):∀ f k,zdv (Two n) (kas_asc p f k) λ_=>True
 | 0,k=>trivial
 | f+1,k=>⟨⟨h.at hn _,h.at hn _⟩,λb=>by
   cases b with
   | true=>exact trivial
   | false=>exact zsU hn h f (k+1)⟩
theorem zmE (hn:0 < n):∀ f (p:Array Nat) k q,InN n p->zdv (Two n) (kas_desc f p k q) λr=>InN n r.1
 | 0,p,k,q,h=>h
 | f+1,p,k,q,h=>⟨⟨h.at hn _,h.at hn _⟩,λb=>by
   cases b with
   | true=>
    show zdv _ (if q > 0 then _ else _) _;split
    ·exact zmE hn f _ _ _ (h.rev _ _)
    ·exact zmE hn f _ _ _ h
   | false=>exact ⟨⟨h.at hn _,h.at hn _⟩,λd=>by
     cases d with
     | true=>exact h
     | false=>exact zmE hn f _ _ _ h⟩⟩
theorem zpx (hn:0 < n) (h:InN n p) (k m:Nat):zdv (Two n) (kas_tail3 k m p) λr=>InN n r.2:=by
 unfold kas_tail3;refine zdE (R:=λ_=>True) (λa _=>?_) _ (zsU hn (h.rev _ _) _ _);exact h.rev _ _
theorem zkH (hn:0 < n) (h:InN n p) (k m:Nat):zdv (Two n) (kas_descPart k m p) λr=>InN n r.2:=by
 refine zdE (λr hr=>?_) _ (zmE hn _ _ _ _ h);show zdv _ (if r.2.2 > 0 then _ else _) _;split
 ·exact zpx hn (hr.rev _ _) _ _
 ·exact zpx hn hr _ _
theorem zvt (hn:0 < n) (h:InN n p) (m:Nat):zdv (Two n) (kas_count m p) λr=>InN n r.2:=by
 refine zdE (λr _=>?_) _ (zsU hn h _ _);show zdv _ (if (r==m)=true then _ else _) _;split
 ·exact h
 ·split
  ·refine ⟨⟨h.at hn _,h.at hn _⟩,λb=>?_⟩;cases b with
   | true=>exact h
   | false=>exact zkH hn (h.rev _ _) _ _
  ·exact zkH hn h _ _
theorem zmF (hn:0 < n) (h:InN n p) (k:Nat):∀ f l r,zdv (Two n) (kas_place p k f l r) λ_=>True
 | 0,l,r=>trivial
 | f+1,l,r=>by
  unfold kas_place;split
  ·exact trivial
  ·refine ⟨⟨h.at hn _,h.at hn _⟩,λb=>?_⟩;cases b with
   | true=>exact zmF hn h k f _ _
   | false=>exact zmF hn h k f _ _
theorem zwy (hn:0 < n):∀ f (p:Array Nat) k,InN n p->zdv (Two n) (kas_bin f p k) (InN n)
 | 0,p,k,h=>h
 | f+1,p,k,h=>zdE (λl _=>zwy hn f _ _ (h.bub _ _)) _ (zmF hn h k _ _ _)
theorem zsV (hn:0 < n):zdv (Two n) (kas_sort n) (InN n):=by
 refine zdE (λr hr=>?_) _ (zvt hn (p:=List.toArray (List.range n)) (λx hx=>by simpa using hx) n);show zdv _ (if r.1 < n then _ else _) _;split
 ·exact zwy hn _ _ _ hr
 ·exact hr
theorem zpy {α:Type} {P:Nat->Nat->Prop} {R:α->Prop} {lt:Nat->Nat->Bool}:∀ t:KasT α,zdv P t R->R (zvs lt t)
 | .ret _,h=>h
 | .ask i j k,h=>zpy (k (lt i j)) (h.2 _)
end
def ltP (p q:Int×Int):Bool:=if p.1=q.1 then decide (p.2 < q.2) else decide (p.1 < q.1)
def zco (ps:List (Int×Int)):List Nat:=if ps.length < 2 then List.range ps.length else (zvs (λi j=>ltP (ps.getD i (0,0)) (ps.getD j (0,0))) (kas_sort ps.length)).toList
theorem zkI {ps:List (Int×Int)}:∀ i∈zco ps,i < ps.length:=by
 intro i hi;unfold zco at hi;split at hi
 ·simpa using hi
 ·exact zpy (lt:=λi j=>ltP (ps.getD i (0,0)) (ps.getD j (0,0))) (kas_sort ps.length) (zsV (by omega)) i (by simpa using hi)
def PairsV (h:Heap):List Value->List (Int×Int)->Prop
 | [],[]=>True
 | v :: vs,p :: ps=>(∃ b o n t u,v=.ref b/\h.get? b=some o/\o.cls=.type "tuple"/\o.data=.seq #[.int p.1 t,.int p.2 u] n)/\PairsV h vs ps
 | _,_=>False
theorem PairsV.len {h:Heap}:∀ {vs:List Value} {ps:List (Int×Int)},PairsV h vs ps->vs.length=ps.length
 | [],[],_=>rfl
 | _ :: _,_ :: _,x=>by simp [PairsV.len x.2]
theorem PairsV.get {h:Heap}:∀ {vs:List Value} {ps:List (Int×Int)},PairsV h vs ps->∀ i,i < vs.length->∃ b o n t u,vs.getD i .none=.ref b/\h.get? b=some o/\o.cls=.type "tuple"/\o.data=.seq #[.int (ps.getD i (0,0)).1 t,.int (ps.getD i (0,0)).2 u] n
 | _ :: _,_ :: _,x,0,_=>by simpa using x.1
 | _ :: _,_ :: _,x,i+1,hi=>by simpa using PairsV.get x.2 i (by simpa using hi)
theorem PairsV.on {h h':Heap}:∀ {vs:List Value} {ps:List (Int×Int)},PairsV h vs ps->(∀ b o,o.cls=.type "tuple"->h.get? b=some o->h'.get? b=some o)->PairsV h' vs ps
 | [],[],_,_=>trivial
 | _ :: _,_ :: _,⟨⟨b,o,n,t,u,e,g,c,d⟩,x⟩,k=>⟨⟨b,o,n,t,u,e,k b o c g,c,d⟩,PairsV.on x k⟩
theorem PairsV.firsts {h:Heap}:∀ {vs:List Value} {ps:List (Int×Int)},PairsV h vs ps->∃ fs:List Value,KatTups h vs fs/\fs.length=vs.length/\∀ v∈fs,∃ i t,v=.int i t
 | [],[],_=>⟨[],trivial,rfl,λv hv=>by simp at hv⟩
 | _ :: _,_ :: _,⟨⟨b,o,n,t,u,rfl,g,c,d⟩,x⟩=>by
  obtain ⟨fs,k,l,q⟩:=PairsV.firsts x;refine ⟨_ :: fs,KatTups.cons g c d rfl k,by simp [l],λv hv=>?_⟩;rcases List.mem_cons.mp hv with rfl | hv
  ·exact ⟨_,_,rfl⟩
  ·exact q v hv
section
variable {prog:Program} {w:World} {A:Around} {E:Value->Shared->Prop} {s:Shared}
theorem zyC {b:Bool} {x y:Addr} {ox oy:Obj} {n k:Nat} {p q:Int×Int} {t1 t2 u1 u2:Tok} {Q:Bool->Shared->Prop} (hb:b=true) (hx:s.heap.get? x=some ox) (dx:ox.data=.seq #[.int p.1 t1,.int p.2 t2] n) (hy:s.heap.get? y=some oy) (dy:oy.data=.seq #[.int q.1 u1,.int q.2 u2] k) (h:Q (ltP p q) s) :
  wpAny (model prog w) A (keyLt' (tuples' b) (.ref x) (.ref y)) Q E s:=by
 subst hb;refine kat_lt hx dx hy dy ?_;show KatLex prog w A true (decide (2 < 2)) Q [(.int p.1 t1,.int q.1 u1),(.int p.2 t2,.int q.2 u2)] 0 s;refine kat_cons (wpAny_eqBool_int ?_);unfold ltP at h
 by_cases e1:p.1=q.1
 ·rw [if_pos e1] at h;rw [show (p.1==q.1)=true by simp [e1]];refine kat_yes (kat_cons (wpAny_eqBool_int ?_))
  by_cases e2:p.2=q.2
  ·rw [show (p.2==q.2)=true by simp [e2]];refine kat_yes (kat_nil ?_);rw [show decide (2 < 2)=decide (p.2 < q.2) by simp [e2]];exact h
  ·rw [show (p.2==q.2)=false by simp [e2]];refine kat_no ?_;show wpAny _ _ (oneLt' false _ _) _ _ _;exact kat_one _ _ (lt_int h)
 ·rw [if_neg e1] at h;rw [show (p.1==q.1)=false by simp [e1]];refine kat_no ?_;show wpAny _ _ (oneLt' true _ _) _ _ _;exact oneLt_int h
theorem zqC {vs:List Value}:(List.range vs.length).map (λi=>vs.getD i Value.none)=vs:=by
 refine List.ext_getElem? λi=>?_;rw [List.getElem?_map]
 by_cases h:i < vs.length
 ·rw [List.getElem?_range h]; simp [h]
 ·rw [List.getElem?_eq_none (by simpa using Nat.le_of_not_lt h),List.getElem?_eq_none (Nat.le_of_not_lt h)]; rfl
theorem zkJ {a:Addr} {vs:List Value} {ps:List (Int×Int)} {n:Nat} {P:PySem.Fin->Shared->Prop} (ho:s.heap.get? a=some (seqObj "list" vs.toArray n)) (hp:PairsV s.heap vs ps) (h64:vs.length < 64)
  (h:∀ h' c,(∀ b o,b≠a->s.heap.get? b=some o->h'.get? b=some o)->h'.get? a=some (seqObj "list" (List.toArray ((zco ps).map λi=>vs.getD i Value.none)) c)->(zco ps).length=vs.length->P (.done (.ret .none)) { s with heap:=h' }) :
  wpAny (model prog w) A (Builtin.«list.sort» ⟨[.ref a],[]⟩) P E s:=by
 have hlen:=hp.len;have s1:=Heap.SameBut.update s.heap a (Obj.mapSeq λ_=>(#[]:Array Value));obtain ⟨e1,ho1⟩:∃ e1,(s.heap.update a (Obj.mapSeq λ_=>(#[]:Array Value))).get? a=some (seqObj "list" #[] e1):=⟨_,get?_update_seq ho λ_=>#[]⟩
 generalize hH:((s.heap.update a (Obj.mapSeq λ_=>(#[]:Array Value))).push (seqObj "tuple" vs.toArray 0)).push (seqObj "list" #[] 0)=h2;have keep:∀ b o,b≠a->s.heap.get? b=some o->h2.get? b=some o:=λb o hb q=>by
  rw [<- hH]; exact Heap.get?_push_of_some _ (Heap.get?_push_of_some _ ((s1.2 b hb).trans q))
 have ha2:h2.get? a=some (seqObj "list" #[] e1):=by rw [<- hH]; exact Heap.get?_push_of_some _ (Heap.get?_push_of_some _ ho1)
 have hp2:PairsV h2 vs ps:=hp.on λb o c q=>keep b o (λz=>by rw [z,ho] at q; cases q; exact absurd (show Value.type "list"=Value.type "tuple" from c) (by decide)) q;rw [list_sort_plain];refine wpAny_bind (listItems_at ho rfl ?_);refine wpAny_bind (listUpdate_at ho rfl ?_ (by rw [List.size_toArray,sizeLine_eq]; omega) (Nat.zero_le _));refine wpAny_bind (seqEpoch_at ho1 rfl ?_);refine wpAny_bind (wpAny_newTuple ?_ (by show vs.length<=_; rw [sizeLine_eq]; omega))
 refine wpAny_bind (wpAny_newList ?_ (Nat.zero_le _));refine wpAny_holding ?_;show wpAny (model prog w) A _ P E { s with heap:=((s.heap.update a (Obj.mapSeq λ_=>(#[]:Array Value))).push (seqObj "tuple" vs.toArray 0)).push (seqObj "list" #[] 0) };rw [hH];dsimp only
 -- the end,whatever was sorted
 have fin:∀ (st:SortSt),failedOf st=none->(arrOf st).map (·.2)=List.toArray ((zco ps).map λi=>vs.getD i Value.none)->(zco ps).length=vs.length->
   wpAny (model prog w) A (do
    let touched:=(<- seqEpoch a) != e1
    Builtin.List.listUpdate (.ref a) λ_=>(arrOf st).map (·.2)
    if let some e:=failedOf st then rule "list.sort.comparison-raised"; throw e
    if touched then rule "list.sort.modified"; raiseError "ValueError" "list modified during sort"
    ret .none) P E { s with heap:=h2 }:=by
  intro st hf hout hsz;rw [hout];obtain ⟨c2,hc2⟩:∃ c2,(h2.update a (Obj.mapSeq λ_=>List.toArray ((zco ps).map λi=>vs.getD i Value.none))).get? a=some (seqObj "list" (List.toArray ((zco ps).map λi=>vs.getD i Value.none)) c2):=⟨_,get?_update_seq ha2 λ_=>_⟩
  have s2:=Heap.SameBut.update h2 a (Obj.mapSeq λ_=>List.toArray ((zco ps).map λi=>vs.getD i Value.none));refine wpAny_bind (seqEpoch_at ha2 rfl ?_);refine wpAny_bind (listUpdate_at ha2 rfl ?_ (Nat.zero_le _) (by rw [List.size_toArray,List.length_map,sizeLine_eq]; omega));rw [hf];simp only [bne_self_eq_false,Bool.false_eq_true,if_false];exact wpAny_pure (h _ c2 (λb o hb q=>(s2.2 b hb).trans (keep b o hb q)) hc2 hsz)
 by_cases hn2:vs.toArray.size < 2
 ·rw [if_pos hn2,if_pos hn2];have hn:ps.length < 2:=by rw [<- hlen]; simpa using hn2
  have eix:(zco ps).map (λi=>vs.getD i Value.none)=vs:=by
   unfold zco; rw [if_pos hn,<- hlen]; exact zqC
  refine wpAny_bind (wpAny_pure (wpAny_bind ?_));refine wpAny_pure ?_;refine fin _ rfl ?_ (by have:=congrArg List.length eix; simpa using this);rw [eix];show ((vs.toArray.zip vs.toArray).map (·.2))=vs.toArray;apply Array.toList_inj.mp;simp [List.map_snd_zip]
 ·rw [if_neg hn2,if_neg hn2];have hn:¬ ps.length < 2:=by rw [<- hlen]; simpa using hn2
  have h2':2<=vs.length:=by rw [hlen]; omega
  obtain ⟨fs,kt,lf,hfs⟩:=hp2.firsts;refine wpAny_bind (kat_kind (s:={ s with heap:=h2 }) kt (by omega) (T:=.type "int") (λv hv=>by obtain ⟨i,t,rfl⟩:=hfs v hv; exact .now) (by decide) ?_);have ask:(kas_sort vs.length).kasWp (kas_ask prog w A (tuples' (Value.type "int" != Value.type "tuple")) vs) (λp s''=>s''={ s with heap:=h2 }/\p.toList=zco ps) { s with heap:=h2 }:=by
   refine zwx (P:=Two vs.length) (R:=InN vs.length) (lt:=λi j=>ltP (ps.getD i (0,0)) (ps.getD j (0,0))) (λi j C hij hC=>?_) _ (zsV (by omega)) ⟨rfl,?_⟩
   ·obtain ⟨b,o,m,t,u,e,g,c,d⟩:=hp2.get i hij.1;obtain ⟨b',o',m',t',u',e',g',c',d'⟩:=hp2.get j hij.2;unfold kas_ask;rw [e,e'];exact zyC (by decide) g d g' d' hC
   ·unfold zco; rw [if_neg hn,hlen]
  refine wpAny_bind (wpAny_mono (kat_run (Q:=λst' s'=>s'={ s with heap:=h2 }/\failedOf st'=none/\(arrOf st').map (·.2)=List.toArray ((zco ps).map λi=>vs.getD i Value.none)/\(zco ps).length=vs.length) rfl h2' h64 (λp' st' s' a1 a2 a3 a4=>⟨a4.1,a3,by rw [kat_snds rfl a2,a4.2],by rw [<- a4.2,Array.length_toList,a1]⟩) ask) ?_ λ_ _ e=>e);rintro ⟨⟨⟩,st'⟩ s' ⟨rfl,hf,hout,hl⟩;exact fin st' hf hout hl
theorem znt {l:Addr} {vs:List Value} {ps:List (Int×Int)} {Q:Value->Shared->Prop} (hl:s.heap.IsList l vs.toArray) (hp:PairsV s.heap vs ps) (h64:vs.length < 64)
  (h:∀ h' c,(∀ b o,s.heap.get? b=some o->h'.get? b=some o)->h'.get? (s.heap.objs.size+1)=some (seqObj "list" (List.toArray ((zco ps).map λi=>vs.getD i Value.none)) c)->(zco ps).length=vs.length->Q (.ref (s.heap.objs.size+1)) { s with heap:=h' }) :
  wpAny (model prog w) A (call (.builtin "sorted") [.ref l]) Q E s:=by
 refine Calls.call_function_entry kind_sorted plain_sorted entry_sorted (args_sorted1 _) ?_;unfold Builtin.«sorted»;refine wpAny_bind (m:=checkCount "sorted" 1 1 _) (wpAny_pure ?_);refine wpAny_bind (collect_list hl ?_ (by rw [sizeLine_eq]; omega));refine wpAny_bind (wpAny_newList ?_ (by rw [sizeLine_eq]; omega));have hsz:((s.heap.push (seqObj "list" #[] 0)).update s.heap.objs.size (Obj.mapSeq (·++vs.toArray))).objs.size=s.heap.objs.size+1:=by
  rw [Heap.size_update,size_push']
 have hoL:(((s.heap.push (seqObj "list" #[] 0)).update s.heap.objs.size (Obj.mapSeq (·++vs.toArray))).push (seqObj "list" vs.toArray 0)).get? (s.heap.objs.size+1)=some (seqObj "list" vs.toArray 0):=by
  rw [<- hsz]; exact Heap.get?_push_size _ rfl
 have keep:∀ b o,s.heap.get? b=some o->(((s.heap.push (seqObj "list" #[] 0)).update s.heap.objs.size (Obj.mapSeq (·++vs.toArray))).push (seqObj "list" vs.toArray 0)).get? b=some o:=λb o q=>by
  have hlt:b < s.heap.objs.size:=Heap.lt_size q;rw [Heap.get?_push_ne _ _ _ (by rw [hsz]; exact Nat.ne_of_lt (Nat.lt_succ_of_lt hlt)),Heap.get?_update_ne _ _ _ _ (Nat.ne_of_lt hlt),Heap.get?_push_ne _ _ _ (Nat.ne_of_lt hlt)];exact q
 show wpAny _ _ _ _ _ { s with heap:=((s.heap.push (seqObj "list" #[] 0)).update s.heap.objs.size (Obj.mapSeq (·++vs.toArray))).push (seqObj "list" vs.toArray 0) };rw [hsz];refine wpAny_bind (wpAny_holding (wpAny_call_entry slot_list_sort ⟨_,hoL,rfl⟩ entry_list_sort ?body (args_list_sort _)))
 case body=>
  refine zkJ (s:={ s with heap:=((s.heap.push (seqObj "list" #[] 0)).update s.heap.objs.size (Obj.mapSeq (·++vs.toArray))).push (seqObj "list" vs.toArray 0) }) hoL (hp.on λb o _ q=>keep b o q) h64 λh' c k e lx=>?_;exact ⟨_,rfl,wpAny_pure ⟨_,rfl,h h' c (λb o q=>k b o (Nat.ne_of_lt (Nat.lt_succ_of_lt (Heap.lt_size q))) (keep b o q)) e lx⟩⟩
end
def PairsH (K:W.Frag) (H:Hp):List V->List (Int×Int)->Prop
 | [],[]=>True
 | v :: vs,p :: ps=>(∃ b,v=.ref b/\SqT K H b [.int p.1,.int p.2])/\PairsH K H vs ps
 | _,_=>False
def zyD (K:W.Frag):List V->Hp->VK->Prop:=λvs H Q=>∃ a xs ps,vs=[.ref a]/\SqL K H a xs/\PairsH K H xs ps/\xs.length < 64/\∀ l,H l=none->Q (.ref l) (upd H l (.lst ((zco ps).map λi=>xs.getD i .non)))
theorem PairsH.at {X:Cx} {pins:List (Addr×Obj)} {σ:St} {H:Hp} {s:Shared} (I:Inv X pins σ H s):∀ {xs:List V} {ps:List (Int×Int)} {us:List Value},PairsH X.K H xs ps->Vals xs us->PairsV s.heap us ps
 | [],[],_,_,r=>by cases r; trivial
 | _ :: _,_ :: _,_,⟨⟨b,e,sq⟩,x⟩,r=>by
  cases r with
  | cons r1 rr=>
   subst e;cases r1
   obtain ⟨its,rv,⟨o,ho,hc,n,hd⟩,hz⟩:=I.tuple sq;refine ⟨?_,PairsH.at I x rr⟩;cases rv with
   | cons q1 rv=>
    cases rv with
    | cons q2 rv=>
     cases rv
     obtain ⟨t,rfl⟩:=q1;obtain ⟨u,rfl⟩:=q2;exact ⟨b,o,n,t,u,rfl,ho,hc,hd⟩
theorem PairsH.len {K:W.Frag} {H:Hp}:∀ {xs:List V} {ps:List (Int×Int)},PairsH K H xs ps->xs.length=ps.length
 | [],[],_=>rfl
 | _ :: _,_ :: _,x=>by simp [PairsH.len x.2]
theorem znu {xs:List V} {us:List Value} (r:Vals xs us):∀ (ix:List Nat),(∀ i∈ix,i < xs.length)->Vals (ix.map λi=>xs.getD i .non) (ix.map λi=>us.getD i Value.none)
 | [],_=>.nil
 | i :: ix,h=>by
  have hi:i < xs.length:=h i (List.mem_cons_self ..);obtain ⟨u,hu,ru⟩:=r.get (i:=i) (x:=xs[i]) (by simp [hi]);refine .cons ?_ (znu r ix λj hj=>h j (List.mem_cons_of_mem _ hj));show RelV (xs.getD i .non) (us.getD i Value.none);rw [show xs.getD i .non=xs[i] by simp [hi],show us.getD i Value.none=u by simp [List.getD,hu]];exact ru
theorem zoF {X:Cx} {K:W.Frag} (hK:X.K=K):CallR X (.builtin "sorted") (zyD K):=by
 subst hK;intro pins s σ H xs us Q I r h;obtain ⟨a,ys,ps,rfl,hq,hp,h64,q⟩:=h;obtain ⟨u,rfl,ru⟩:=zjQ r;cases ru
 obtain ⟨its,rv,pl,hz⟩:=I.list hq;refine znt pl.isList (hp.at I rv) (by rw [<- rv.length]; exact h64) λh' c k e lx=>?_;have hl:=hp.len;have hv:=rv.length;exact ⟨.ref _,_,I.laid (t':=s.toks) k (Nat.le_succ _) (show ObjOk X.prog X.w _ h' _ (.lst ((zco ps).map λi=>ys.getD i .non)) from ⟨by rw [List.length_map,sizeLine_eq]; omega,(zco ps).map λi=>its.getD i Value.none,c,znu rv _ λi hi=>by rw [hl]; exact zkI i hi,e⟩),rfl,q _ (I.hok.fresh (Nat.le_succ _))⟩
@[simp] def zeq:List D->Option (List (Int×Int))
 | []=>some []
 | .tup [.int i,.int j] :: r=>(zeq r).map λps=>(i,j) :: ps
 | _=>none
def ziL:List D->Option SV
 | [.lst xs]=>(zeq xs).bind λps=>if xs.length < 64 then some (.li ((zco ps).map λi=>xs.getD i .non)) else none
 | [.fz xs]=>(zeq xs).bind λps=>if xs.length < 64 then some (.li ((zco ps).map λi=>xs.getD i .non)) else none
 | _=>none
section
variable {B:Bk} {K:W.Frag}
theorem zpz {H:Hp} {G:Addr->Prop}:∀ {vs:List V} {ds:List D} {ps:List (Int×Int)},DAs B H G vs ds->zeq ds=some ps->PairsH B.K H vs ps
 | [],[],_,_,e=>by cases e; trivial
 | v :: vs,d :: ds,ps,h,e=>by
  cases h with
  | cons d1 dr=>
   unfold zeq at e;split at e
   ·rename_i heq; cases heq
   ·rename_i i j r heq
    cases heq
    rw [Option.map_eq_some_iff] at e;obtain ⟨ps',e1,rfl⟩:=e;cases d1 with
    | tup h r=>
     refine ⟨⟨_,rfl,?_⟩,zpz dr e1⟩;cases r with
     | cons q1 r=>
      cases q1
      cases r with
      | cons q2 r=>
       cases q2
       cases r
       exact h.sq
   ·cases e
theorem zpA {H:Hp} {G:Addr->Prop} {vs:List V} {ds:List D} (r:DAs B H G vs ds):∀ (ix:List Nat),(∀ i∈ix,i < ds.length)->DAs B H G (ix.map λi=>vs.getD i .non) (ix.map λi=>ds.getD i .non)
 | [],_=>.nil
 | i :: ix,h=>by
  have hi:i < ds.length:=h i (List.mem_cons_self ..);obtain ⟨v,hv,rv⟩:=r.get (i:=i) (d:=ds[i]) (by simp [hi]);refine .cons ?_ (zpA r ix λj hj=>h j (List.mem_cons_of_mem _ hj));show DA B H G (vs.getD i .non) (ds.getD i .non);rw [show ds.getD i .non=ds[i] by simp [hi],show vs.getD i V.non=v by simp [List.getD,hv]];exact rv
theorem zkK:∀ {ds:List D} {ps:List (Int×Int)},zeq ds=some ps->ds.length=ps.length
 | [],_,e=>by cases e; rfl
 | d :: ds,ps,e=>by
  unfold zeq at e;split at e
  ·rename_i heq; cases heq
  ·rename_i i j r heq
   cases heq
   rw [Option.map_eq_some_iff] at e;obtain ⟨ps',e1,rfl⟩:=e;simp [zkK e1]
  ·cases e
theorem zvu (hK:B.K=K):ziH B (zyD K) ziL:=by
 subst hK;intro H G vs ds z Q hg hd e k;have go:∀ {a:Addr} {xs:List V} {dx:List D},SqL B.K H a xs->DAs B H G xs dx->((zeq dx).bind λps=>if dx.length < 64 then some (SV.li ((zco ps).map λi=>dx.getD i .non)) else none)=some z->zyD B.K [.ref a] H Q:=λ{a xs dx} sq r e=>by
  obtain ⟨ps,ep,ee⟩:=zbW e;split at ee
  ·rename_i hl
   cases ee
   exact ⟨a,xs,ps,rfl,sq,zpz r ep,by rw [r.length]; exact hl,λp hp=>zf9 hg hp (zpA r _ λi hi=>by rw [zkK ep]; exact zkI i hi) k⟩
  ·cases ee
 unfold ziL at e;split at e
 ·obtain ⟨v,rfl,d1⟩:=hd.one;cases d1 with
  | lst h r=>exact go h.sq r e
 ·obtain ⟨v,rfl,d1⟩:=hd.one;cases d1 with
  | fz h r=>exact go h.sq r e
 ·cases e
end
section
variable {ι:Type} {Xs:ι->Cx} {P:Program} {w:World} {K:W.Frag} {mg:Str->Option Value} {base:Heap} {k:Nat} {B:Bk} {cm:Bool}
theorem zpB (jx:JX Xs P w K mg base k B cm):JCall Xs B (.builtin "sorted") ziL:=⟨⟨_,λi=>zoF (jx.k' i),zvu jx.bk⟩⟩
end
end L2
namespace M1
open PySem L2
def zfD:List Nat:=[97,98,99,100,101,102,103,104,105,106,107,108,109,110,111,112,113,114,115,116,117,118,119,120,121,122]
theorem zmG:(Str.ofString "abcdefghijklmnopqrstuvwxyz").cps.toList=zfD:=by decide +kernel
theorem zoG:(Str.ofString "abcdefghijklmnopqrstuvwxyz").length=26:=by decide +kernel
def inL (c:Nat):Bool:=!(Builtin.Str.occurrences (Str.ofString "abcdefghijklmnopqrstuvwxyz") ⟨#[c]⟩ 0 (Str.ofString "abcdefghijklmnopqrstuvwxyz").length 1).isEmpty
theorem zsW:∀ c∈zfD,inL c=true:=by decide +kernel
theorem zoH:∀ c∈zfD,c < 128:=by decide
theorem zoI:zfD.Nodup:=by decide
structure Good (z:Str):Prop where
 lo:1<=z.length
 hi:z.length<=6
 all:∀ c∈z.cps.toList,c∈zfD
theorem Good.ok {z:Str} (g:Good z):PyData.strOk z=true:=by
 unfold PyData.strOk;rw [<- Array.all_toList,List.all_eq_true];intro c hc;have:=zoH c (g.all c hc);exact decide_eq_true (by omega)
theorem zeh (a b:Str):(a++b).cps.toList=a.cps.toList++b.cps.toList:=by
 show (a.cps++b.cps).toList=_;simp
theorem zfl (a b:Str):(a++b).length=a.length+b.length:=by
 show (a.cps++b.cps).size=a.cps.size+b.cps.size;simp
theorem zpC (ys:List Str):(Txt.join "" ys).cps.toList=ys.flatMap λy=>y.cps.toList:=by
 show (Builtin.Str.glued "" ys).cps.toList=_;rw [StrLaws.glued_eq_join];have e0:("":Str).cps.toList=[]:=by decide +kernel
 induction ys with
 | nil=>rfl
 | cons y r ih=>
  cases r with
  | nil=>simp [Str.join]
  | cons z r=>
   rw [show Str.join "" (y :: z :: r)=y++("":Str)++Str.join "" (z :: r) from rfl,zeh,zeh,ih,e0];simp
theorem zyE {b1 b2:Str} {c:Nat} (h1:∀ x∈b1.cps.toList,x∈zfD) (h2:∀ x∈b2.cps.toList,x∈zfD) (hc:c∈zfD) (hl:b1.length+b2.length<=5):Good (b1++(⟨#[c]⟩:Str)++b2):=by
 have e1:((⟨#[c]⟩:Str)).length=1:=rfl;refine ⟨by rw [zfl,zfl,e1]; omega,by rw [zfl,zfl,e1]; omega,λx hx=>?_⟩;rw [zeh,zeh] at hx;rcases List.mem_append.mp hx with hx | hx
 ·rcases List.mem_append.mp hx with hx | hx
  ·exact h1 x hx
  ·have:x=c:=by simpa using hx
   rw [this]; exact hc
 ·exact h2 x hx
theorem zBz {b1 b2:Str} {c d:Nat} (h:b1++(⟨#[c]⟩:Str)++b2=b1++(⟨#[d]⟩:Str)++b2):c=d:=by
 have e:=congrArg (λz:Str=>z.cps.toList) h;simp only [zeh] at e;have e2:=List.append_cancel_right e;have e3:=List.append_cancel_left e2
 simpa using e3
theorem zie {α:Type} [DecidableEq α]:∀ {xs ys:List α},xs.Nodup->(∀ x∈xs,x∈ys)->xs.length<=ys.length
 | [],ys,_,_=>Nat.zero_le _
 | x :: xs,ys,nd,h=>by
  obtain ⟨n1,n2⟩:=List.nodup_cons.mp nd;have hx:x∈ys:=h x List.mem_cons_self;have ih:=zie (xs:=xs) (ys:=ys.erase x) n2 λy hy=>by
   have hne:y≠x:=λe=>n1 (e▸hy);exact (List.mem_erase_of_ne hne).mpr (h y (List.mem_cons_of_mem _ hy))
  rw [List.length_erase_of_mem hx] at ih;have:0 < ys.length:=List.length_pos_of_mem hx;rw [List.length_cons];omega
theorem nodup_map_on {α β:Type} {f:α->β}:∀ {l:List α},(∀ x,x∈l->∀ y,y∈l->f x=f y->x=y)->l.Nodup->(l.map f).Nodup
 | [],_,_=>List.nodup_nil
 | a :: l,h,nd=>by
  obtain ⟨n1,n2⟩:=List.nodup_cons.mp nd;refine List.nodup_cons.mpr ⟨λm=>?_,nodup_map_on (λx hx y hy=>h x (List.mem_cons_of_mem _ hx) y (List.mem_cons_of_mem _ hy)) n2⟩;obtain ⟨b,hb,e⟩:=List.mem_map.mp m;exact n1 (h b (List.mem_cons_of_mem _ hb) a List.mem_cons_self e▸hb)
inductive Reach (ps:List (Str×Str)):Str->Str->Prop
 | refl (r:Str):Reach ps r r
 | step {x y r:Str} (h:(x,y)∈ps) (t:Reach ps y r):Reach ps x r
theorem Reach.rank {ps:List (Str×Str)} {rk:Str->Nat} (h:∀ p∈ps,rk p.1 < rk p.2) {x r:Str} (t:Reach ps x r):rk x<=rk r:=by
 induction t with
 | refl r=>exact Nat.le_refl _
 | step a _ ih=>exact Nat.le_trans (Nat.le_of_lt (h _ a)) ih
theorem zgw {ps:List (Str×Str)} {fs:List Str} {r:Str} (h0:r∈fs) (h1:∀ x∈fs,Reach ps x r) (h2:∀ x y,(x,y)∈ps->y∈fs->x∈fs) (x:Str):x∈fs↔Reach ps x r:=by
 constructor
 ·exact h1 x
 ·intro t
  induction t with
  | refl r=>exact h0
  | step a _ ih=>exact h2 _ _ a (ih h0 h1)
structure Valid (F R:List Str) (ps:List (Str×Str)):Prop where
 f1:1<=F.length
 f4:F.length<=4
 r1:1<=R.length
 r6:R.length<=6
 fr:F.length*R.length<=12
 fn:F.Nodup
 rn:R.Nodup
 fg:∀ z∈F,Good z
 rg:∀ z∈R,Good z
 pn:ps.Nodup
 pm:∀ p∈ps,p.1∈R/\p.2∈R
 p15:ps.length<=15
 rk:∃ rk:Str->Nat,∀ p∈ps,rk p.1 < rk p.2
theorem zkL {ds:List PyData} (h1:PyData.canLayAll0 ds=true) (h2:PyData.depthAll ds<=8):SeqAt.shaped (.list ds)=true:=by
 unfold SeqAt.shaped;rw [show PyData.canLay0 (.list ds)=PyData.canLayAll0 ds from rfl,h1,Bool.true_and];exact decide_eq_true (by simp [PyData.depth]; omega)
theorem zdg:∀ {l:List Str},l.Nodup->∀ {i:Nat} {z:Str},l[i]? = some z->l.idxOf z=i
 | [],_,i,z,h=>by simp at h
 | a :: l,nd,0,z,h=>by
  simp at h; subst h;simp [List.idxOf_cons]
 | a :: l,nd,i+1,z,h=>by
  obtain ⟨n1,n2⟩:=List.nodup_cons.mp nd;have h':l[i]? = some z:=by simpa using h
  have ih:=zdg n2 h';have hz:z∈l:=List.mem_of_getElem? h';have hne:(a==z)=false:=by
   rw [beq_eq_false_iff_ne];exact λe=>n1 (e▸hz)
  rw [List.idxOf_cons,hne];simp [ih]
def zsX:List (Nat×Nat):=(List.range 6).flatMap λk=>(List.range k).map λj=>(j,k)
theorem zqD {j k:Nat} (h1:j < k) (h2:k < 6):(j,k)∈zsX:=by
 unfold zsX;exact List.mem_flatMap.mpr ⟨k,List.mem_range.mpr h2,List.mem_map.mpr ⟨j,List.mem_range.mpr h1,rfl⟩⟩
theorem zqE:zsX.length=15:=by decide
def zgx (O:List Str) (i:Nat×Nat):Str×Str:=(O.getD i.1 ⟨#[]⟩,O.getD i.2 ⟨#[]⟩)
theorem zif {O:List Str} {i:Nat} (h:i < O.length):O[i]? = some (O.getD i ⟨#[]⟩):=by
 rw [List.getD_eq_getElem?_getD,List.getElem?_eq_getElem h]; rfl
theorem zvv {F R O:List Str} {is:List (Nat×Nat)} {ps:List (Str×Str)} (f1:1<=F.length) (f4:F.length<=4) (r1:1<=R.length) (r6:R.length<=6) (fr:F.length*R.length<=12) (fn:F.Nodup) (rn:R.Nodup)
  (fg:∀ z∈F,Good z) (rg:∀ z∈R,Good z) (ho:O.Perm R) (nd:is.Nodup) (lt:∀ i∈is,i.1 < i.2/\i.2 < O.length) (hp:ps.Perm (is.map (zgx O))):Valid F R ps:=by
 have on:O.Nodup:=ho.nodup_iff.mpr rn;have ol:O.length=R.length:=ho.length_eq;have g1:∀ i∈is,O[i.1]? = some (O.getD i.1 ⟨#[]⟩):=λi hi=>zif (by have:=lt i hi; omega);have g2:∀ i∈is,O[i.2]? = some (O.getD i.2 ⟨#[]⟩):=λi hi=>zif (lt i hi).2;refine ⟨f1,f4,r1,r6,fr,fn,rn,fg,rg,?_,λp h=>?_,?_,⟨λz=>O.idxOf z,λp h=>?_⟩⟩
 ·refine hp.nodup_iff.mpr (M1.nodup_map_on ?_ nd);intro x hx y hy e;obtain ⟨e1,e2⟩:=Prod.mk.inj e;have a1:=zdg on (g1 x hx);have a2:=zdg on (g1 y hy);have b1:=zdg on (g2 x hx);have b2:=zdg on (g2 y hy);rw [e1] at a1;rw [e2] at b1;exact Prod.ext (a1.symm.trans a2) (b1.symm.trans b2)
 ·obtain ⟨i,hi,rfl⟩:=List.mem_map.mp (hp.mem_iff.mp h);exact ⟨ho.mem_iff.mp (List.mem_of_getElem? (g1 i hi)),ho.mem_iff.mp (List.mem_of_getElem? (g2 i hi))⟩
 ·rw [hp.length_eq,List.length_map,<- zqE];exact zie nd λi hi=>by
   obtain ⟨h1,h2⟩:=lt i hi;exact zqD h1 (by omega)
 ·obtain ⟨i,hi,rfl⟩:=List.mem_map.mp (hp.mem_iff.mp h);show O.idxOf (O.getD i.1 ⟨#[]⟩) < O.idxOf (O.getD i.2 ⟨#[]⟩);rw [zdg on (g1 i hi),zdg on (g2 i hi)];exact (lt i hi).1
end M1
namespace My
open PySem L2
theorem zCn (a b:Nat):Builtin.bitAnd (a:Int) (b:Int)=((a&&&b:Nat):Int):=by
 simp [Builtin.bitAnd]
theorem bOr (a b:Nat):Builtin.bitOr (a:Int) (b:Int)=((a|||b:Nat):Int):=by
 have h1:¬ (0:Int)<=Builtin.bitNot a:=by unfold Builtin.bitNot; omega
 have h2:¬ (0:Int)<=Builtin.bitNot b:=by unfold Builtin.bitNot; omega
 have e1:Builtin.bitNot (Builtin.bitNot (a:Int))=a:=by unfold Builtin.bitNot; omega
 have e2:Builtin.bitNot (Builtin.bitNot (b:Int))=b:=by unfold Builtin.bitNot; omega
 have e3:∀ n:Nat,Builtin.bitNot (Builtin.bitNot (n:Int))=n:=λn=>by unfold Builtin.bitNot; omega
 unfold Builtin.bitOr Builtin.bitAnd;rw [decide_eq_false h1,decide_eq_false h2];simp only [e1,e2,e3,Int.toNat_natCast]
theorem zCo (n:Nat):((n:Int)==0)=(n==0):=by
 rw [Bool.eq_iff_iff]; simp
abbrev Wy:=Nat×Nat
def wD (p:Wy):D:=.tup [.int p.1,.int p.2]
def wP (p:Wy):PyData:=.tuple [.int p.1,.int p.2]
theorem zpD (p:Wy):(wD p).plain=true:=rfl
theorem znv (ws:List Wy):D.plains (ws.map wD)=true:=by
 induction ws with
 | nil=>rfl
 | cons w ws ih=>simp [D.plains,zpD,ih]
theorem zBA (p:Wy):(wD p).dat=some (wP p):=rfl
theorem zyF (ws:List Wy):D.dats (ws.map wD)=some (ws.map wP):=by
 induction ws with
 | nil=>rfl
 | cons w ws ih=>simp [D.dats,zBA,ih]
theorem zBB (ws:List Wy):PyData.canLayAll0 (ws.map wP)=true:=by
 induction ws with
 | nil=>rfl
 | cons w ws ih=>simp [PyData.canLayAll0,PyData.canLay0,wP,ih]
theorem zvw (ws:List Wy):PyData.depthAll (ws.map wP)<=1:=by
 induction ws with
 | nil=>simp [PyData.depthAll]
 | cons w ws ih=>
  have:PyData.depth (wP w)=1:=rfl;simp only [List.map_cons,PyData.depthAll,this];omega
theorem zqF (ws:List Wy):SeqAt.shaped (.list (ws.map wP))=true:=by
 have:=zvw ws;simp [SeqAt.shaped,PyData.canLay0,zBB,PyData.depth];omega
theorem zvx (ws:List Wy):shp (.lst (ws.map wD))=some (.list (ws.map wP)):=by
 simp [shp,D.dat,zyF,zqF]
theorem zyG (a b:Wy):PyData.eqv (wP a) (wP b)=decide (a=b):=by
 obtain ⟨a1,a2⟩:=a;obtain ⟨b1,b2⟩:=b;show ((a1:Int)==(b1:Int)&&((a2:Int)==(b2:Int)&&true))=_;rw [Bool.eq_iff_iff];simp [beq_iff_eq];omega
theorem zpE:∀ xs ys:List Wy,PyData.eqvAll (xs.map wP) (ys.map wP)=decide (xs=ys)
 | [],[]=>by simp [PyData.eqvAll]
 | [],y :: ys=>by simp [PyData.eqvAll]
 | x :: xs,[]=>by simp [PyData.eqvAll]
 | x :: xs,y :: ys=>by
  show (PyData.eqv (wP x) (wP y)&&PyData.eqvAll (xs.map wP) (ys.map wP))=_;rw [zyG,zpE xs ys,Bool.eq_iff_iff];simp
theorem ziM (xs ys:List Wy):oNe (.lst (xs.map wD)) (.lst (ys.map wD))=some (.bl (!decide (xs=ys))):=by
 simp [oNe,zvx,PyData.eqv,zpE]
theorem zvy (xs:List Wy):oNe (.lst (xs.map wD)) (.lst [])=some (.bl (!decide (xs=[]))):=ziM xs []
def jn (a b:Wy):Wy:=(a.1|||b.1,a.2|||b.2)
theorem zBC (a:Nat):∀ c,a&&&c=0->a+c=a|||c:=by
 induction a using Nat.strongRecOn with
 | _ a ih=>
  intro c h
  by_cases ha:a=0
  ·subst ha; simp
  ·have h2:(a / 2)&&&(c / 2)=0:=by rw [<- Nat.and_div_two,h]
   have h3:=ih (a / 2) (by omega) (c / 2) h2;have h0:a%2=0\/c%2=0:=by
    have:=congrArg (λz=>z.testBit 0) h;rcases Nat.mod_two_eq_zero_or_one a with q | q <;> rcases Nat.mod_two_eq_zero_or_one c with r | r <;> simp [Nat.testBit_zero,q,r] at this ⊢
   have e1:(a|||c) / 2=a / 2|||c / 2:=Nat.or_div_two
   have e2:(a|||c)%2=1↔a%2=1\/c%2=1:=by
    have:=Nat.testBit_or a c 0;simp only [Nat.testBit_zero] at this;rw [<- decide_eq_true_iff (p:=(a|||c)%2=1),this];simp
   omega
theorem zyH {a b:Nat} (h:∀ i,a.testBit i=b.testBit i):a=b:=Nat.eq_of_testBit_eq h
def but (a b:Nat):Nat:=a^^^(a&&&b)
@[simp] theorem zDx (a b i:Nat):(but a b).testBit i=(a.testBit i&&!b.testBit i):=by
 unfold but; rw [Nat.testBit_xor,Nat.testBit_and];cases a.testBit i <;> cases b.testBit i <;> rfl
theorem zyI (x k:Nat):((x&&&2 ^ k)==0)=!x.testBit k:=by
 rw [Bool.eq_iff_iff,beq_iff_eq,Bool.not_eq_true'];constructor
 ·intro h;have:=congrArg (λz=>z.testBit k) h
  simpa [Nat.testBit_and,Nat.testBit_two_pow] using this
 ·intro h;refine zyH λi=>?_;rw [Nat.testBit_and,Nat.testBit_two_pow,Nat.zero_testBit]
  by_cases e:k=i
  ·subst e; simp [h]
  ·simp [e]
theorem zyJ (x y:Nat):(x&&&y)=y↔∀ i,y.testBit i=true->x.testBit i=true:=by
 constructor
 ·intro h i hi;have:=congrArg (λz=>z.testBit i) h;simp only [Nat.testBit_and,hi,Bool.and_true] at this;exact this
 ·intro h;refine zyH λi=>?_;rw [Nat.testBit_and];have:=h i;revert this;cases x.testBit i <;> cases y.testBit i <;> simp
theorem zoJ (x y:Nat):(x&&&y)=0↔∀ i,y.testBit i=true->x.testBit i=false:=by
 constructor
 ·intro h i hi;have:=congrArg (λz=>z.testBit i) h
  simpa only [Nat.testBit_and,hi,Bool.and_true,Nat.zero_testBit] using this
 ·intro h;refine zyH λi=>?_;rw [Nat.testBit_and,Nat.zero_testBit];have:=h i;revert this;cases x.testBit i <;> cases y.testBit i <;> simp
theorem zEN (x y:Nat):((x:Int)==(y:Int))=(x==y):=by rw [Bool.eq_iff_iff]; simp; omega
def zpF (s:Nat) (w:Wy):Bool:=(s&&&w.1)==w.1&&(s&&&w.2)==0
theorem zBD (s:Nat) (w:Wy):zpF s w=true↔∀ i,(w.1.testBit i=true->s.testBit i=true)/\(w.2.testBit i=true->s.testBit i=false):=by
 unfold zpF;rw [Bool.and_eq_true,beq_iff_eq,beq_iff_eq,zyJ,zoJ];exact ⟨λh i=>⟨h.1 i,h.2 i⟩,λh=>⟨λi=>(h i).1,λi=>(h i).2⟩⟩
abbrev nD (n:Nat):D:=.int n
theorem zyK (n:Nat) (h:n < 2 ^ 62):zqm [.int n]=some ((List.range n).map nD):=by
 simp only [zqm];rw [if_pos (zop (by omega) (by omega))];simp [zuX,nD]
open M1
theorem zax:sizeLine=16777216:=sizeLine_eq
abbrev oD' (x:Option D):Option SV:=x.map SV.sh
abbrev Ok (z:Str):Prop:=PyData.strOk z=true
theorem shS {z:Str} (h:Ok z):SeqAt.shaped (.str z)=true:=zqj h
theorem zCp {z:Str} (h:Ok z):shp (.str z)=some (.str z):=by simp [shp,D.dat,shS h]
theorem eqS {a b:Str} (ha:Ok a) (hb:Ok b):oEq (.str a) (.str b)=some (.bl (a==b)):=by
 simp [oEq,zCp ha,zCp hb,PyData.eqv]
theorem zyL (zs:List Str):D.dats (zs.map D.str)=some (zs.map PyData.str):=by
 induction zs with
 | nil=>rfl
 | cons z zs ih=>simp [D.dats,D.dat,ih]
theorem zFn {zs:List Str} (h:∀ z∈zs,Ok z):PyData.canLayAll0 (zs.map PyData.str)=true:=by
 induction zs with
 | nil=>rfl
 | cons z zs ih=>
  simp only [List.map_cons,PyData.canLayAll0,PyData.canLay0,Bool.and_eq_true];exact ⟨h z (by simp),ih λx hx=>h x (by simp [hx])⟩
theorem zFo (zs:List Str):PyData.depthAll (zs.map PyData.str)=0:=by
 induction zs with
 | nil=>rfl
 | cons z zs ih=>simp [PyData.depthAll,PyData.depth,ih]
theorem zCq {zs:List Str} (h:∀ z∈zs,Ok z):SeqAt.shaped (.list (zs.map PyData.str))=true:=zkL (zFn h) (by rw [zFo]; omega)
theorem zEO (z:Str) (zs:List Str):((zs.map PyData.str).any λe=>PyData.eqv e (.str z))=decide (z∈zs):=by
 induction zs with
 | nil=>rfl
 | cons y ys ih=>
  rw [List.map_cons,List.any_cons,ih];show ((y==z)||decide (z∈ys))=_;rw [Bool.eq_iff_iff];simp only [Bool.or_eq_true,beq_iff_eq,decide_eq_true_eq,List.mem_cons];constructor
  ·rintro (h | h)
   ·exact .inl h.symm
   ·exact .inr h
  ·rintro (h | h)
   ·exact .inl h.symm
   ·exact .inr h
theorem zyM {z:Str} {zs:List Str} (hz:Ok z) (h:∀ z∈zs,Ok z):inB (.str z) (.lst (zs.map D.str))=some (decide (z∈zs)):=by
 show (D.dats (zs.map D.str)).bind _=_;rw [zyL];simp only [Option.bind_some,zCp hz,zCq h,if_true,zEO]
theorem zFp {z:Str} {zs:List Str} (hz:Ok z) (h:∀ z∈zs,Ok z):inB (.str z) (.tup (zs.map D.str))=some (decide (z∈zs)):=by
 show (D.dats (zs.map D.str)).bind _=_;rw [zyL];simp only [Option.bind_some,zCp hz,zCq h,if_true,zEO]
abbrev Pr:=Str×Str
def pD (p:Pr):D:=.tup [.str p.1,.str p.2]
def pP (p:Pr):PyData:=.tuple [.str p.1,.str p.2]
abbrev OkP (p:Pr):Prop:=Ok p.1/\Ok p.2
theorem zwz (p:Pr):(pD p).dat=some (pP p):=rfl
theorem zyN (ps:List Pr):D.dats (ps.map pD)=some (ps.map pP):=by
 induction ps with
 | nil=>rfl
 | cons z zs ih=>simp [D.dats,zwz,ih]
theorem zwA {p:Pr} (h:OkP p):PyData.canLay0 (pP p)=true:=by
 have h1:=h.1;have h2:=h.2;simp [pP,PyData.canLay0,PyData.canLayAll0,h1,h2]
theorem zDy {p:Pr} (h:OkP p):SeqAt.shaped (pP p)=true:=by
 have:PyData.depth (pP p)=1:=rfl;simp [SeqAt.shaped,zwA h,this]
theorem zFq {p:Pr} (h:OkP p):shp (pD p)=some (pP p):=by simp [shp,zwz,zDy h]
theorem zFr (a b:Pr):PyData.eqv (pP a) (pP b)=decide (a=b):=by
 obtain ⟨a1,a2⟩:=a;obtain ⟨b1,b2⟩:=b;show ((a1==b1)&&((a2==b2)&&true))=_;rw [Bool.eq_iff_iff];simp
theorem zFs {ps:List Pr} (h:∀ p∈ps,OkP p):SeqAt.shaped (.list (ps.map pP))=true:=by
 refine zkL ?_ ?_
 ·induction ps with
  | nil=>rfl
  | cons z zs ih=>
   simp only [List.map_cons,PyData.canLayAll0,Bool.and_eq_true];exact ⟨zwA (h z (by simp)),ih λx hx=>h x (by simp [hx])⟩
 ·have:PyData.depthAll (ps.map pP)<=1:=by
   induction ps with
   | nil=>simp [PyData.depthAll]
   | cons z zs ih=>
    have hd:PyData.depth (pP z)=1:=rfl;simp only [List.map_cons,PyData.depthAll,hd];have:=ih λx hx=>h x (by simp [hx]);omega
  omega
theorem zFt (z:Pr) (zs:List Pr):((zs.map pP).any λe=>PyData.eqv e (pP z))=decide (z∈zs):=by
 induction zs with
 | nil=>rfl
 | cons y ys ih=>
  rw [List.map_cons,List.any_cons,ih,zFr,Bool.eq_iff_iff];simp only [Bool.or_eq_true,decide_eq_true_eq,List.mem_cons];constructor
  ·rintro (h | h)
   ·exact .inl h.symm
   ·exact .inr h
  ·rintro (h | h)
   ·exact .inl h.symm
   ·exact .inr h
theorem zFu {z:Pr} {zs:List Pr} (hz:OkP z) (h:∀ z∈zs,OkP z):inB (pD z) (.lst (zs.map pD))=some (decide (z∈zs)):=by
 show (D.dats (zs.map pD)).bind _=_;rw [zyN];simp only [Option.bind_some,zFq hz,zFs h,if_true,zFt]
theorem zfa (zs:List Str):D.plains (zs.map D.str)=true:=by
 induction zs with
 | nil=>rfl
 | cons z zs ih=>simp [ih]
theorem zyO (zs:List Pr):D.plains (zs.map pD)=true:=by
 induction zs with
 | nil=>rfl
 | cons z zs ih=>simp [pD,ih]
theorem zqG {mc:FSt->Option Bool} {mb:FSt->Fl} {S S1:FSt} {r:Fl} (h:mc S=some true) (h1:mb S=.nx S1) (h2:∃ n,zcE mc mb n S1=r):∃ n,zcE mc mb n S=r:=by
 obtain ⟨n,e⟩:=h2;exact ⟨n+1,by simp [zcE,h,h1,e]⟩
theorem zlT {mc:FSt->Option Bool} {mb:FSt->Fl} {S:FSt} (h:mc S=some false):∃ n,zcE mc mb n S=.nx S:=⟨1,by simp [zcE,h]⟩
theorem zvz {mc:FSt->Option Bool} {mb:FSt->Fl} {S S1:FSt} (h:∃ n,zcE mc mb n S=.nx S1):zjx mc mb S=.nx S1:=by
 obtain ⟨n,e⟩:=h;rw [zsn (n:=n) (by rw [e]; simp),e]
abbrev sI' (i:Int):Option SV:=some (.sh (.int i))
theorem znw {α:Type} (f:α->D) (zcc:FSt) (me:FSt->Option D) (g:α->D):∀ (xs:List α),(∀ x∈xs,me (some (.sh (f x)) :: zcc)=some (g x))->∀ y:Option D,ze8 (gN 0) zfC me (xs.map f) (oD' y :: zcc)=some (xs.map g)
 | [],_,_=>rfl
 | x :: xs,h,y=>by
  have ih:=znw f zcc me g xs (λz hz=>h z (by simp [hz])) (some (f x));simp only [oD',Option.map_some] at ih;have hg:gN 0 (f x) (oD' y :: zcc)=some (some (.sh (f x)) :: zcc):=by simp
  rw [List.map_cons,ze8,hg];simp [h x (by simp),ih]
theorem zyP {α:Type} (f:α->D) (zcc:FSt) (mt:FSt->Option Bool) (me:FSt->Option D) (c:α->Bool) (g:α->D):∀ (xs:List α),(∀ x∈xs,mt (some (.sh (f x)) :: zcc)=some (c x)/\(c x=true->me (some (.sh (f x)) :: zcc)=some (g x)))->
  ∀ y:Option D,ze8 (gN 0) mt me (xs.map f) (oD' y :: zcc)=some ((xs.filter c).map g)
 | [],_,_=>rfl
 | x :: xs,h,y=>by
  have ih:=zyP f zcc mt me c g xs (λz hz=>h z (by simp [hz])) (some (f x));simp only [oD',Option.map_some] at ih;have hx:=h x (by simp);have hg:gN 0 (f x) (oD' y :: zcc)=some (some (.sh (f x)) :: zcc):=by simp
  rw [List.map_cons,ze8,hg];simp only [Option.bind_some,hx.1];cases e:c x
  ·simp [e,ih]
  ·simp [e,ih,hx.2 e]
theorem atN {α:Type} {xs:List α} {k:Nat} {x:α} (h:xs[k]? = some x):atI xs (k:Int)=some x:=by
 have hl:=(List.getElem?_eq_some_iff.mp h).1;simp [atI,ixN,hl,h];exact (List.getElem?_eq_some_iff.mp h).2
theorem ziN (a:Int) {b:Int} (h:0 < b):∃ v:Nat,a%b=v/\(v:Int) < b:=by
 obtain ⟨v,e⟩:=Int.eq_ofNat_of_zero_le (Int.emod_nonneg a (Int.ne_of_gt h));exact ⟨v,e,by have:=Int.emod_lt_of_pos a h; omega⟩
theorem zsY (ns:List Nat):D.plains (ns.map nD)=true:=by
 induction ns with
 | nil=>rfl
 | cons w ws ih=>simp [D.plains,D.plain,ih]
theorem zDz (i j:Nat) (hi:i < 2 ^ 62) (hj:j < 2 ^ 62):zqm [.int i,.int j]=some (((List.range (j-i)).map λk=>i+k).map nD):=by
 simp only [zqm];rw [if_pos ⟨zop (by omega) (by omega),zop (by omega) (by omega)⟩];have e:((j:Int)-(i:Int)).toNat=j-i:=by omega
 rw [e,List.map_map];simp [zuX,nD,Function.comp_def]
theorem zwB {α:Type} (xs:List α) (a:Nat) (h:a<=xs.length):znk xs none (some (a:Int))=xs.take a:=by
 unfold znk;rw [HT.sIx_nat,HT.sIx_none,Nat.min_eq_left h];simp
theorem zsZ {α:Type} (xs:List α) (a:Nat) (h:a<=xs.length):znk xs (some (a:Int)) none=xs.drop a:=by
 unfold znk;rw [HT.sIx_nat,HT.sIx_none,Nat.min_eq_left h];exact List.take_of_length_le (by simp)
theorem zfb {m:FSt->Fl} {n k:Nat} {ds:List D} {x:SV} (hl:ds.length=n) (h:m (ds.map (λd=>some (.sh d))++List.replicate (k-n) none)=.rt x):zcA m n k ds=some x:=by
 unfold zcA; rw [if_pos hl,h]
theorem zay {a b:FSt->Fl} {S S1:FSt} {r:Fl} (h:a S=.nx S1) (h2:b S1=r):zbp a b S=r:=by
 unfold zbp; rw [h]; exact h2
theorem zyQ {a b:FSt->Fl} {S:FSt} {x:SV} (h:a S=.rt x):zbp a b S=.rt x:=by
 unfold zbp; rw [h]
theorem zBE {m:FSt->Option D} {S:FSt} {d:D} (h:m S=some d):mR1 (zab m zam) S=zqm [d]:=by
 unfold mR1 zab zam;rw [h];rfl
theorem zyR {m:FSt->Option D} {S:FSt} {n:Nat} (h:m S=some (.int n)) (hn:n < 2 ^ 62):mR1 (zab m zam) S=some ((List.range n).map nD):=(zBE h).trans (zyK n hn)
theorem zjA {mi:FSt->Option (List D)} {mg:D->FSt->Option FSt} {mb:FSt->Fl} {S:FSt} {its:List D} {r:Fl} (h:mi S=some its) (h2:za9 mg mb its S=r):zlG mi mg mb S=r:=by
 unfold zlG; rw [h]; exact h2
theorem zyS (n:Nat) (hn:n<=1000):zrj (.int 1) (.int n)=some (.int (2 ^ n:Nat)):=by
 have hp:zos 1 (n:Int)=true:=by
  rw [zia];exact ⟨by omega,by omega,by decide⟩
 simp [hp]
theorem zBF (n T:Nat) (hT:zrj (.int 1) (.int n)=some (.int T)) (m:FSt->Option D) (S:FSt) (e:m S=some (.int n)):m2 zrj (mC (.int 1)) m S=some (.int T):=by
 show ((mC (.int 1) S).bind λx=>(m S).bind λy=>zrj x y)=_;rw [e];exact hT
theorem zgy {i:Nat} {L:List Nat} {m:FSt->Option SV} {S S1:FSt} {x:SV} (h:m S=some x) (hp:put i L x S=.nx S1):zcU i L m S=.nx S1:=by
 unfold zcU; rw [h]; exact hp
theorem zhw {m:FSt->Option D} {S:FSt} {x:D} (h:m S=some x):mSh m S=some (.sh x):=by unfold mSh; rw [h]; rfl
theorem zoK {m:FSt->Option SV} {S:FSt} {x:SV} (h:m S=some x):mFr m S=some x.fr:=by unfold mFr; rw [h]; rfl
theorem zgz {α:Type} {f:D->D->Option α} {a b:FSt->Option D} {S:FSt} {x y:D} (ha:a S=some x) (hb:b S=some y):m2 f a b S=f x y:=by unfold m2; rw [ha,hb]; rfl
theorem zfm {own:Nat} {fi:List Nat} {mi:FSt->Option (List D)} {mg:D->FSt->Option FSt} {mt:FSt->Option Bool} {me:FSt->Option D} {S:FSt} {its out:List D} (h1:mi S=some its) (h2:its.length<=sizeLine) (h3:ze8 mg mt me its (zqn own fi S)=some out):zdC own fi mi mg mt me S=some (.li out):=by
 unfold zdC; rw [h1,Option.bind_some,if_pos h2,h3]; rfl
def tab:Nat->Nat->Option Bool
 | 0,0=>some true
 | 0,1=>some false
 | 0,2=>some false
 | 0,3=>some true
 | 0,4=>some false
 | 0,5=>some false
 | 0,6=>some false
 | 1,0=>some false
 | 1,1=>some true
 | 1,2=>some false
 | 1,3=>some true
 | 1,4=>some false
 | 1,5=>some false
 | 1,6=>some false
 | _,_=>none
def tabx:Nat->Nat->Option Bool
 | 4,6=>some false
 | 4,4=>some true
 | 4,5=>some false
 | 5,6=>some false
 | 5,4=>some false
 | 5,5=>some true
 | 6,6=>some true
 | 6,4=>some false
 | 6,5=>some false
 | _,_=>none
noncomputable section
def zbn : BdT :=
  (zbp (zcU 4 [4, 5] (mSh (m2 zeQ (mFr (m2 ze9 (mFr (m2 ze9 (mFr (m2 ze9 (mFr (m2 zkw (mV 4) (mV 4))) (mFr (m2 zkw (mC (.int 48271)) (mV 4))))) (mFr (m2 zkw (mC (.int 7919)) (mV 5))))) (mC (.int 11)))) (mC (.int 2147483647)))))
     (zbp (zuh 2 [0, 3, 4] (m2 oIx (mFr (zhc (zab (mV 4) (zab (m2 zeQ (mV 3) (mC (.int 1000003))) zam)))) (mFr (m1 zCj (zab (zql (zal (m2 oEq (m2 zeQ (mV 0) (mC (.int 2))) (mC (.int 1)))) (m2 oGt (mV 3) (mC (.int 0))) (mC (.bl false))) zam)))))
     (zcU 3 [3] (mSh (m2 zd0 (mV 3) (mC (.int 1000003)))))))
def zgA (zbn : BdT) : BdT :=
  (zbp (zcU 2 [] (zhc zam))
   (zbp (zcU 3 [0] (mSh (m2 zd0 (mV 0) (mC (.int 2)))))
   (zbp (zcU 4 [3] (mSh (m2 zeQ (mV 3) (mC (.int 2147483647)))))
   (zbp (zlG (mR1 (zab (mV 1) zam)) (gN 5)
    zbn)
   (zls 2)))))
def zdd:BdT:=zgA zbn
def zaz:FnT:=zcA zdd 2 6
def zdF : BdT :=
  (zbp (zcU 2 [] (zhc (zab (mC (.str "has")) (zab (mC (.str "not")) (zab (mC (.str "by")) (zab (mC (.str "to")) (zab (mC (.str "and")) (zab (mC (.str "give")) (zab (mC (.str "take")) (zab (mC (.str "lay")) (zab (mC (.str "from")) (zab (mC (.str "if")) (zab (mC (.str "both")) (zab (mC (.str "most")) (zab (mC (.str "last")) zam)))))))))))))))
   (zbp (mIf (zal (m2 oEq (m2 zeQ (mV 0) (mC (.int 5))) (mC (.int 0))))
    (zdu (zdC 1 [0, 2] (mR1 (zab (mV 1) zam)) (gN 0) zfC (m2 oIx (mV 2) (m2 zeQ (mFr (m2 ze9 (m2 zd0 (mV 1) (mC (.int 5))) (mFr (m2 zkw (mC (.int 4)) (mV 0))))) (mC (.int 13))))))
    zce)
   (zbp (zcU 3 [] (mSh (mC (.str "abcdefghijklmnopqrstuvwxyz"))))
   (zbp (zcU 4 [0, 3] (mBM znn (mC (.str "")) (zab (mFr (zdC 1 [0, 3] (mR1 (zab (m2 zeQ (m2 zd0 (mV 0) (mC (.int 5))) (mC (.int 6))) zam)) (gN 0) zfC (m2 oIx (mV 2) (m2 zeQ (m2 zd0 (mV 1) (mFr (m2 ze9 (mFr (m2 zkw (mC (.int 7)) (mV 0))) (mC (.int 3))))) (mC (.int 26)))))) zam)))
   (zbp (zcU 5 [0, 4] (mSh (m2 zeQ (m2 zd0 (mV 0) (mC (.int 30))) (mFr (m2 ze9 (mFr (m1 zga (zab (mV 4) zam))) (mC (.int 1)))))))
   (zdu (zdC 1 [0, 3, 4, 5] (mR1 (zab (mV 1) zam)) (gN 0) zfC (mFr (m2 ze9 (mFr (m2 ze9 (mFr (mSl (mV 3) mNo (mAt (mV 4)))) (m2 oIx (mV 2) (m2 zeQ (mFr (m2 ze9 (m2 zd0 (mV 1) (mC (.int 11))) (mFr (m2 zkw (mC (.int 7)) (mV 0))))) (mC (.int 26)))))) (mFr (mSl (mV 3) (mAt (mV 4)) mNo)))))))))))
def zbz:FnT:=zcA zdF 2 6
def zbX : BdT :=
  (zbp (mIf (zal (m2 oEq (m2 zeQ (mV 7) (mC (.int 3))) (mC (.int 0))))
        (zuh 8 [6, 9, 10] (zdN (zab (m2 oIx (mV 6) (mV 9)) (zab (m2 oIx (mV 6) (mV 10)) zam))))
        zce)
       (zcU 7 [7] (mSh (m2 zd0 (mV 7) (mC (.int 3))))))
def zfc (zbX : BdT) : BdT :=
  (zlG (mR2 (zab (mFr (m2 ze9 (mV 9) (mC (.int 1)))) (zab (mV 4) zam))) (gN 10)
      zbX)
def zbY:BdT:=zfc zbX
def zjB (zaz : FnT) (zbz : FnT) (zbY : BdT) : BdT :=
  (zbp (zcU 1 [0] (m1 zaz (zab (mV 0) (zab (mC (.int 8)) zam))))
   (zbp (zcU 2 [] (zhc (zab (zdN (zab (mC (.int 2)) (zab (mC (.int 2)) zam))) (zab (zdN (zab (mC (.int 2)) (zab (mC (.int 3)) zam))) (zab (zdN (zab (mC (.int 3)) (zab (mC (.int 2)) zam))) (zab (zdN (zab (mC (.int 1)) (zab (mC (.int 4)) zam))) (zab (zdN (zab (mC (.int 4)) (zab (mC (.int 1)) zam))) (zab (zdN (zab (mC (.int 2)) (zab (mC (.int 4)) zam))) (zab (zdN (zab (mC (.int 4)) (zab (mC (.int 2)) zam))) (zab (zdN (zab (mC (.int 1)) (zab (mC (.int 6)) zam))) (zab (zdN (zab (mC (.int 1)) (zab (mC (.int 1)) zam))) (zab (zdN (zab (mC (.int 3)) (zab (mC (.int 1)) zam))) (zab (zdN (zab (mC (.int 2)) (zab (mC (.int 1)) zam))) (zab (zdN (zab (mC (.int 1)) (zab (mC (.int 2)) zam))) zam))))))))))))))
   (zbp (zzu [1, 2] (mSh (m2 oIx (mV 2) (m2 zeQ (m2 oIx (mV 1) (mC (.int 0))) (mC (.int 12))))) (gSq 2 (gCs (gN 3) (gCs (gN 4) gNs))))
   (zbp (mIf (zal (m2 oEq (m2 zeQ (m2 oIx (mV 1) (mC (.int 1))) (mC (.int 16))) (mC (.int 3))))
    (zzu [1] (mSh (m2 oIx (mFr (zhc (zab (zdN (zab (mC (.int 2)) (zab (mC (.int 6)) zam))) (zab (zdN (zab (mC (.int 3)) (zab (mC (.int 4)) zam))) (zab (zdN (zab (mC (.int 4)) (zab (mC (.int 3)) zam))) (zab (zdN (zab (mC (.int 2)) (zab (mC (.int 5)) zam))) zam)))))) (m2 zeQ (m2 zd0 (m2 oIx (mV 1) (mC (.int 1))) (mC (.int 16))) (mC (.int 4))))) (gSq 2 (gCs (gN 3) (gCs (gN 4) gNs))))
    zce)
   (zbp (zcU 5 [1, 4] (m1 zbz (zab (m2 oIx (mV 1) (mC (.int 2))) (zab (mV 4) zam))))
   (zbp (zcU 6 [5] (m2 ze9 (mFr (mSl (mV 5) (mAt (m2 zeQ (m2 oIx (mV 1) (mC (.int 3))) (mV 4))) mNo)) (mFr (mSl (mV 5) mNo (mAt (m2 zeQ (m2 oIx (mV 1) (mC (.int 3))) (mV 4)))))))
   (zbp (mIf (zal (m2 oEq (m2 zeQ (m2 oIx (mV 1) (mC (.int 5))) (mC (.int 2))) (mC (.int 1))))
    (zA8 6)
    zce)
   (zbp (zcU 7 [1] (mSh (m2 oIx (mV 1) (mC (.int 4)))))
   (zbp (zcU 8 [] (zhc zam))
   (zbp (zlG (mR1 (zab (mV 4) zam)) (gN 9)
    zbY)
   (zdu (mSh (zdN (zab (mFr (m1 zbz (zab (m2 oIx (mV 1) (mC (.int 6))) (zab (mV 3) zam)))) (zab (mV 5) (zab (mV 8) zam))))))))))))))))
def zdT:BdT:=zjB zaz zbz zbY
def zbR:FnT:=zcA zdT 1 11
def zig : BdT :=
  (zbp (mIf (ziG (zal (mFr (m1 (zgb tab) (zab (mV 0) (zab (mC (.ty "str")) zam))))))
    (zdu (mSh (mC (.bl false))))
    zce)
   (zbp (mIf (mOr (zal (m2 oLt (mFr (m1 zga (zab (mV 0) zam))) (mC (.int 1)))) (zal (m2 oGt (mFr (m1 zga (zab (mV 0) zam))) (mC (.int 6)))))
    (zdu (mSh (mC (.bl false))))
    zce)
   (zdu (m1 zCk (zab (mFr (zdC 1 [] (zkb (mV 0)) (gN 0) zfC (m2 oIn (mV 0) (mC (.str "abcdefghijklmnopqrstuvwxyz"))))) zam)))))
def zcY:FnT:=zcA zig 1 1
def zfn (zcY : FnT) : BdT :=
  (zbp (mIf (ziG (zal (mFr (m1 zcY (zab (mV 3) zam)))))
      zsh
      zce)
     (zbp (mIf (zal (m2 oIn (mV 3) (mV 2)))
      zsh
      zce)
     (zuh 2 [3] (mV 3))))
def zbG:BdT:=zfn zcY
def zgB (zbG : BdT) : BdT :=
  (zbp (mIf (mOr (zal (m2 oLt (mFr (m1 zga (zab (mV 0) zam))) (mC (.int 1)))) (zal (m2 oGt (mFr (m1 zga (zab (mV 0) zam))) (mV 1))))
    zsh
    zce)
   (zbp (zcU 2 [] (zhc zam))
   (zbp (ziI 0 (gN 3)
    zbG)
   (zdu (m1 zlJ (zab (mV 2) zam))))))
def zcG:BdT:=zgB zbG
def zaN:FnT:=zcA zcG 2 4
def zde:BdT:=
 (zdu (mSh (zql (zal (mFr (m1 (zgb tab) (zab (mV 0) (zab (mC (.ty "str")) zam))))) (m2 oIn (mV 0) (mV 1)) (mC (.bl false)))))
def zav:FnT:=zcA zde 2 2
def zbr : BdT :=
  (mIf (zzr (zal (m2 oEq (mV 5) (m2 oIx (mV 2) (mV 3)))) (zal (m2 zeo (mV 4) (mV 2))))
        (zuh 2 [4] (mV 4))
        zce)
def zgC (zbr : BdT) : BdT :=
  (zbp (ziI 0 (gSq 2 (gCs (gN 4) (gCs (gN 5) gNs)))
      zbr)
     (zcU 3 [3] (m2 ze9 (mV 3) (mC (.int 1)))))
def zbM:BdT:=zgC zbr
def zih (zbM : BdT) : BdT :=
  (zbp (zcU 2 [1] (zhc (zab (mV 1) zam)))
   (zbp (zcU 3 [] (mSh (mC (.int 0))))
   (zbp (zjx (zal (m2 oLt (mV 3) (mFr (m1 zga (zab (mV 2) zam)))))
    zbM)
   (zls 2))))
def zdh:BdT:=zih zbM
def za1:FnT:=zcA zdh 2 6
def zfo (zav : FnT) (za1 : FnT) : BdT :=
  (zbp (mIf (ziG (zal (mFr (m1 zav (zab (mV 3) (zab (mV 1) zam))))))
      zsh
      zce)
     (zbp (mIf (ziG (zal (mFr (m1 zav (zab (mV 4) (zab (mV 1) zam))))))
      zsh
      zce)
     (zbp (mIf (zal (m2 oIn (zdN (zab (mV 3) (zab (mV 4) zam))) (mV 2)))
      zsh
      zce)
     (zbp (mIf (zal (m2 oIn (mV 4) (mFr (m1 za1 (zab (mV 2) (zab (mV 3) zam))))))
      zsh
      zce)
     (zuh 2 [3, 4] (zdN (zab (mV 3) (zab (mV 4) zam))))))))
def zbH:BdT:=zfo zav za1
def zgD (zbH : BdT) : BdT :=
  (zbp (mIf (zal (m2 oGt (mFr (m1 zga (zab (mV 0) zam))) (mC (.int 15))))
    zsh
    zce)
   (zbp (zcU 2 [] (zhc zam))
   (zbp (ziI 0 (gSq 2 (gCs (gN 3) (gCs (gN 4) gNs)))
    zbH)
   (zdu (m1 zlJ (zab (mV 2) zam))))))
def zdi:BdT:=zgD zbH
def zaZ:FnT:=zcA zdi 2 5
def zbx : BdT :=
  (zbp (zzt 2 [3] (zdN (zab (mV 4) (zab (mV 5) zam))) (mV 3))
       (zcU 3 [3] (m2 ze9 (mV 3) (mV 3))))
def zeW (zbx : BdT) : BdT :=
  (ziI 1 (gN 5)
      zbx)
def zbf:BdT:=zeW zbx
def zgf (zbf : BdT) : BdT :=
  (zbp (zcU 2 [] mDT)
   (zbp (zcU 3 [] (mSh (mC (.int 1))))
   (zbp (ziI 0 (gN 4)
    zbf)
   (zls 2))))
def zc5:BdT:=zgf zbf
def zaO:FnT:=zcA zc5 2 6
def zdU (za1 : FnT) : BdT :=
  (zbp (zcU 4 [1, 3] (m1 za1 (zab (mV 1) (zab (mV 3) zam))))
     (zzt 2 [0, 4] (mV 3) (mFr (m1 zlJ (zab (mFr (zdC 1 [4] (zkb (mV 0)) (gN 0) (zal (m2 oIn (mV 0) (mV 1))) (mV 0))) zam)))))
def zba:BdT:=zdU za1
def zer (zba : BdT) : BdT :=
  (zbp (zcU 2 [] mDK)
   (zbp (ziI 0 (gN 3)
    zba)
   (zls 2)))
def zcf:BdT:=zer zba
def zaA:FnT:=zcA zcf 2 5
def zes (zaN : FnT) (zaZ : FnT) (zaO : FnT) (zaA : FnT) : BdT :=
  (zbp (zlu 0 [2] "folk" [1] (mFr (m1 zaN (zab (mV 1) (zab (mC (.int 4)) zam)))))
   (zbp (zlu 0 [2] "roles" [2] (mFr (m1 zaN (zab (mV 2) (zab (mC (.int 6)) zam)))))
   (zbp (mIf (zal (m2 oGt (mFr (m2 zkw (mFr (m1 zga (zab (m1 (zhn [2] "folk") (mV 0)) zam))) (mFr (m1 zga (zab (m1 (zhn [2] "roles") (mV 0)) zam))))) (mC (.int 12))))
    zsh
    zce)
   (zbp (zlu 0 [2] "pairs" [3] (mFr (m1 zaZ (zab (mV 3) (zab (m1 (zhn [2] "roles") (mV 0)) zam)))))
   (zbp (zlu 0 [2] "right_bits" [] (mFr (m1 zaO (zab (m1 (zhn [2] "folk") (mV 0)) (zab (m1 (zhn [2] "roles") (mV 0)) zam)))))
   (zlu 0 [2] "bringers" [] (mFr (m1 zaA (zab (m1 (zhn [2] "roles") (mV 0)) (zab (m1 (zhn [2] "pairs") (mV 0)) zam))))))))))
def zkM:BdT:=zes zaN zaZ zaO zaA
def zbs:InT:=zrk zkM 4 4
def zgE (zaz : FnT) : BdT :=
  (zbp (zcU 2 [0] (mSh (m2 zrj (mC (.int 1)) (mFr (m2 zkw (mFr (m1 zga (zab (m2 oIx (mV 0) (mC (.int 0))) zam))) (mFr (m1 zga (zab (m2 oIx (mV 0) (mC (.int 1))) zam))))))))
   (zbp (mIf (zal (m2 oLe (mV 2) (mC (.int 64))))
    (zdu (m1 fLr (zab (mV 2) zam)))
    zce)
   (zdu (m2 ze9 (mFr (zhc (zab (mC (.int 0)) (zab (m2 zAP (mV 2) (mC (.int 1))) zam)))) (mFr (zdC 1 [2] (zkb (mFr (m1 zaz (zab (mV 1) (zab (mC (.int 40)) zam))))) (gN 0) zfC (m2 zeQ (mV 0) (mV 1))))))))
def zcH:BdT:=zgE zaz
def zbS:FnT:=zcA zcH 2 3
def zcg : BdT :=
  (zbp (mIf (zal (m2 oLt (mV 1) (mFr (m1 zga (zab (mV 0) zam)))))
    (zdu (mSh (m2 oIx (mV 0) (mV 1))))
    zce)
   (zdu (mSh (mC (.int 0)))))
def zaH:FnT:=zcA zcg 2 2
def zdj:BdT:=
 (zlu 0 [0,1] "role" [1] (mV 1))
def zah:InT:=zrk zdj 2 2
def zfp:BdT:=
 (zdu (mSh (zql (zal (m2 oEq (mV 0) (mV 1))) (m2 oEq (mFr (m1 (zgb tab) (zab (m2 oIx (mV 0) (mC (.int 1))) (zab (mC (.ty "bool")) zam)))) (mFr (m1 (zgb tab) (zab (m2 oIx (mV 1) (mC (.int 1))) (zab (mC (.ty "bool")) zam))))) (mC (.bl false)))))
def zbh:FnT:=zcA zfp 2 2
def zei:BdT:=
 (zdu (mSh (zql (zal (mFr (m1 (zgb tab) (zab (mV 0) (zab (mC (.ty "int")) zam))))) (mBl (ziG (zal (mFr (m1 (zgb tab) (zab (mV 0) (zab (mC (.ty "bool")) zam))))))) (mC (.bl false)))))
def zbI:FnT:=zcA zei 1 1
def zii:BdT:=
 (zdu (m1 zga (zab (m1 (zhn [2] "right_bits") (mV 0)) zam)))
def zbo:FnT:=zcA zii 1 1
def zb6 (zbI:FnT) (zbo:FnT):BdT:=
 (zdu (mSh (zql (zal (mFr (m1 zbI (zab (mV 1) zam)))) (zql (zal (m2 oGe (mV 1) (mC (.int 0)))) (m2 oLe (mFr (mBM zkz (mV 1) zam)) (mFr (zbQ 2 "bits" zbo (mV 0) zam))) (mC (.bl false))) (mC (.bl false)))))
def zb7:BdT:=zb6 zbI zbo
def zak:FnT:=zcA zb7 2 2
def zbj (zak : FnT) : Bd3 :=
  (zzw (ziG (zal (mFr (zbQ 2 "is_state" zak (mV 0) (zab (mV 1) zam)))))
    (zlQ 6 "found" (mV 1))
    (zqx zce))
def za4:Bd3:=zbj zak
def zas:FnT:=zgv za4 2 2
def zaG:ExT:=zfA za4 2 2
def zbt (zav : FnT) : Bd3 :=
  (zzw (ziG (zal (mFr (m1 zav (zab (mV 1) (zab (m1 (zhn [2] "folk") (mV 0)) zam))))))
    (zlQ 4 "name" (mV 1))
    (zqx zce))
def zbb:Bd3:=zbt zav
def zai:FnT:=zgv zbb 2 2
def zap:ExT:=zfA zbb 2 2
def zbu (zav : FnT) : Bd3 :=
  (zzw (ziG (zal (mFr (m1 zav (zab (mV 1) (zab (m1 (zhn [2] "roles") (mV 0)) zam))))))
    (zlQ 5 "name" (mV 1))
    (zqx zce))
def zbc:Bd3:=zbu zav
def zan:FnT:=zgv zbc 2 2
def zaw:ExT:=zfA zbc 2 2
def zb8 (zaw : ExT) (zan : FnT) : Bd3 :=
  (zkE (mX3 (zcF 2 "must_be_role" zaw (mV 0) (zab (mV 1) zam)) (mDo (zbQ 2 "must_be_role" zan (mV 0) (zab (mV 1) zam))))
   (zqx (zdu (m1 zu4 (zab (m2 zsy (m1 (zhn [2] "bringers") (mV 0)) (mV 1)) zam)))))
def zbJ:Bd3:=zb8 zaw zan
def zar:FnT:=zgv zbJ 2 2
def zaI:ExT:=zfA zbJ 2 2
def zbk:Bd3:=
 (zqx (zcU 3 [1,3,4] (mSh (m2 oOr (mV 3) (m2 zsy (m1 (zhn [2] "right_bits") (mV 0)) (zdN (zab (mV 1) (zab (mV 4) zam))))))))
def zaJ (zap : ExT) (zai : FnT) (zaI : ExT) (zar : FnT) (zbk : Bd3) : Bd3 :=
  (zkE (mX3 (zcF 2 "must_be_folk" zap (mV 0) (zab (mV 1) zam)) (mDo (zbQ 2 "must_be_folk" zai (mV 0) (zab (mV 1) zam))))
   (zkE (zqx (zcU 3 [] (mSh (mC (.int 0)))))
   (zkE (mXb (zcF 2 "bringing" zaI (mV 0) (zab (mV 2) zam)) (zvl (mIt [0, 2] (zbQ 2 "bringing" zar (mV 0) (zab (mV 2) zam))) (gN 4)
    zbk))
   (zqx (zls 3)))))
def zbv:Bd3:=zaJ zap zai zaI zar zbk
def zat:FnT:=zgv zbv 3 5
def zaB:ExT:=zfA zbv 3 5
def zcI (zaG : ExT) (zas : FnT) (zaB : ExT) (zat : FnT) : Bd3 :=
  (zkE (mX3 (zcF 2 "must_be_state" zaG (mV 0) (zab (mV 1) zam)) (mDo (zbQ 2 "must_be_state" zas (mV 0) (zab (mV 1) zam))))
   (mX3 (zzz (mV 1) (zcF 2 "having" zaB (mV 0) (zab (mV 2) (zab (mV 3) zam)))) (zdu (mSh (m2 oNe (m2 zCi (mV 1) (mFr (zbQ 2 "having" zat (mV 0) (zab (mV 2) (zab (mV 3) zam))))) (mC (.int 0)))))))
def zca:Bd3:=zcI zaG zas zaB zat
def zaC:FnT:=zgv zca 4 4
def za0:ExT:=zfA zca 4 4
def zfE (za0:ExT) (zaC:FnT):Bd3:=
 (mX3 (zcF 2 "has" za0 (mV 1) (zab (mV 2) (zab (mV 3) (zab (m1 (zhn [0,1] "role") (mV 0)) zam)))) (zdu (zbQ 2 "has" zaC (mV 1) (zab (mV 2) (zab (mV 3) (zab (m1 (zhn [0,1] "role") (mV 0)) zam))))))
def zet:Bd3:=zfE za0 zaC
def zaQ:FnT:=zgv zet 4 4
def zbZ:ExT:=zfA zet 4 4
def zfF (za0:ExT) (zaC:FnT):Bd3:=
 (mX3 (zcF 2 "has" za0 (mV 1) (zab (mV 2) (zab (mV 3) (zab (m1 (zhn [0,1] "role") (mV 0)) zam)))) (zdu (mSh (mBl (ziG (zal (mFr (zbQ 2 "has" zaC (mV 1) (zab (mV 2) (zab (mV 3) (zab (m1 (zhn [0,1] "role") (mV 0)) zam)))))))))))
def zeu:Bd3:=zfF za0 zaC
def zaR:FnT:=zgv zeu 4 4
def zb0:ExT:=zfA zeu 4 4
def zgF (zap : ExT) (zai : FnT) (zaw : ExT) (zan : FnT) : Bd3 :=
  (zkE (mX3 (zcF 2 "must_be_folk" zap (mV 0) (zab (mV 1) zam)) (mDo (zbQ 2 "must_be_folk" zai (mV 0) (zab (mV 1) zam))))
   (zkE (mX3 (zcF 2 "must_be_role" zaw (mV 0) (zab (mV 2) zam)) (mDo (zbQ 2 "must_be_role" zan (mV 0) (zab (mV 2) zam))))
   (zqx (zdu (mSh (m2 zsy (m1 (zhn [2] "right_bits") (mV 0)) (zdN (zab (mV 1) (zab (mV 2) zam)))))))))
def zeX:Bd3:=zgF zap zai zaw zan
def zbd:FnT:=zgv zeX 3 3
def zgG:ExT:=zfA zeX 3 3
def zhe (zap : ExT) (zai : FnT) (zaI : ExT) (zar : FnT) (zbd : FnT) : Bd3 :=
  (zkE (mX3 (zcF 2 "must_be_folk" zap (mV 1) (zab (mV 2) zam)) (mDo (zbQ 2 "must_be_folk" zai (mV 1) (zab (mV 2) zam))))
   (mX3 (zcF 2 "bringing" zaI (mV 1) (zab (m1 (zhn [0, 1] "role") (mV 0)) zam)) (zdu (zdC 1 [1, 2] (zkb (mFr (zbQ 2 "bringing" zar (mV 1) (zab (m1 (zhn [0, 1] "role") (mV 0)) zam)))) (gN 0) zfC (zdN (zab (mFr (zbQ 2 "bit" zbd (mV 1) (zab (mV 2) (zab (mV 0) zam)))) (zab (mC (.int 0)) zam)))))))
def zej:Bd3:=zhe zap zai zaI zar zbd
def za5:FnT:=zgv zej 3 3
def zbO:ExT:=zfA zej 3 3
def zhf (zaB:ExT) (zat:FnT):Bd3:=
 (mX3 (zzz (mC (.int 0)) (zcF 2 "having" zaB (mV 1) (zab (mV 2) (zab (m1 (zhn [0,1] "role") (mV 0)) zam)))) (zdu (zhc (zab (zdN (zab (mC (.int 0)) (zab (mFr (zbQ 2 "having" zat (mV 1) (zab (mV 2) (zab (m1 (zhn [0,1] "role") (mV 0)) zam)))) zam))) zam))))
def zfq:Bd3:=zhf zaB zat
def za6:FnT:=zgv zfq 3 3
def zcs:ExT:=zfA zfq 3 3
def zfG (zaQ : FnT) (zaR : FnT) (za5 : FnT) (za6 : FnT) (zbZ : ExT) (zb0 : ExT) (zbO : ExT) (zcs : ExT) : BdT :=
  (zbp (zcU 5 [] (mSh (mC .non)))
   (zbp (zzx [1, 2, 3, 4]
    (mIf (zal (m2 oEq (mV 0) (mC (.int 0))))
     (mDo (zol (zbQ 0 "holds" zaQ (mV 2) (zab (mV 1) (zab (mV 3) (zab (mV 4) zam))))
      (zbQ 1 "holds" zaR (mV 2) (zab (mV 1) (zab (mV 3) (zab (mV 4) zam))))))
     (mDo (zol (zbQ 0 "ways" za5 (mV 2) (zab (mV 1) (zab (mV 4) zam)))
      (zbQ 1 "ways" za6 (mV 2) (zab (mV 1) (zab (mV 4) zam))))))
    (zCm (zal (m2 oEq (mV 0) (mC (.int 0))))
     (zol (zcF 0 "holds" zbZ (mV 2) (zab (mV 1) (zab (mV 3) (zab (mV 4) zam))))
      (zcF 1 "holds" zb0 (mV 2) (zab (mV 1) (zab (mV 3) (zab (mV 4) zam)))))
     (zol (zcF 0 "ways" zbO (mV 2) (zab (mV 1) (zab (mV 4) zam)))
      (zcF 1 "ways" zcs (mV 2) (zab (mV 1) (zab (mV 4) zam)))))
    (zzy tabx 6 6
    (zcU 5 [6] (mSh (zdN (zab (mC (.str "state")) (zab (m1 (fXF [6] "found") (mV 6)) zam)))))
    (zzy tabx 4 6
    (zcU 5 [6] (mSh (zdN (zab (mC (.str "folk")) (zab (m1 (fXF [4, 5] "name") (mV 6)) zam)))))
    (zzy tabx 5 6
    (zcU 5 [6] (mSh (zdN (zab (mC (.str "role")) (zab (m1 (fXF [4, 5] "name") (mV 6)) zam)))))
    (λ_ _ => .bad)))))
   (zls 5)))
def zbC:BdT:=zfG zaQ zaR za5 za6 zbZ zb0 zbO zcs
def zau:FnT:=zcA zbC 5 7
def zeY (zbh : FnT) (zau : FnT) : BdT :=
  (zbp (mIf (ziG (zal (mFr (m1 zbh (zab (mFr (m1 zau (zab (mV 7) (zab (mV 0) (zab (mV 6) (zab (mC (.int 0)) (zab (mV 4) zam))))))) (zab (zdN (zab (mC (.str "folk")) (zab (mV 4) zam))) zam))))))
        (zdu (mSh (mC (.bl false))))
        zce)
       (zbp (zcU 8 [0, 1, 6, 7] (m1 zau (zab (mV 7) (zab (mV 0) (zab (mV 6) (zab (mC (.int 0)) (zab (m2 oIx (m2 oIx (mV 1) (mC (.int 0))) (m1 zu0 (mC (.int 1)))) zam)))))))
       (mIf (zzr (zal (m2 oEq (m1 (zhn [0, 1] "role") (mV 6)) (mV 3))) (zal (m2 oNe (mV 8) (zdN (zab (mC (.str "role")) (zab (mV 3) zam))))))
        (zdu (mSh (mC (.bl false))))
        zce)))
def za3:BdT:=zeY zbh zau
def zeZ (zbh : FnT) (zau : FnT) (za3 : BdT) : BdT :=
  (zbp (mIf (ziG (zal (mFr (m1 zbh (zab (mFr (m1 zau (zab (mC (.int 0)) (zab (mV 0) (zab (mV 6) (zab (mV 5) (zab (mV 4) zam))))))) (zab (zdN (zab (mC (.str "state")) (zab (mV 5) zam))) zam))))))
      (zdu (mSh (mC (.bl false))))
      zce)
     (zlG (mR1 (zab (mC (.int 2)) zam)) (gN 7)
      za3))
def zbg:BdT:=zeZ zbh zau za3
def zgg (zah : InT) (zbg : BdT) : BdT :=
  (zbp (zcU 3 [1] (mSh (m2 oIx (mFr (zdC 1 [1] (zkb (mFr (zhc (zab (mC (.str "qa")) (zab (mC (.str "qb")) (zab (mC (.str "qc")) (zab (mC (.str "qd")) (zab (mC (.str "qe")) (zab (mC (.str "qf")) (zab (mC (.str "qg")) zam)))))))))) (gN 0) (zal (m2 zeo (mV 0) (m2 oIx (mV 1) (mC (.int 1))))) (mV 0))) (mC (.int 0)))))
   (zbp (zcU 4 [1, 2] (mSh (m2 oIx (mFr (zhc (zab (mC .non) (zab (mC (.int 5)) (zab (mC (.bl true)) (zab (mC (.str "A")) (zab (mC (.str "zzzzzzz")) (zab (mC (.str "")) (zab (zdN (zab (m2 oIx (m2 oIx (mV 1) (mC (.int 0))) (mC (.int 0))) zam)) (zab (mFr (zhc (zab (m2 oIx (m2 oIx (mV 1) (mC (.int 0))) (mC (.int 0))) zam))) zam)))))))))) (m2 zeQ (mV 2) (mC (.int 8))))))
   (zbp (zcU 5 [1, 2] (mSh (m2 oIx (mFr (zhc (zab (m1 zu0 (mC (.int 1))) (zab (m2 zrj (mC (.int 1)) (mFr (m2 zkw (mFr (m1 zga (zab (m2 oIx (mV 1) (mC (.int 0))) zam))) (mFr (m1 zga (zab (m2 oIx (mV 1) (mC (.int 1))) zam)))))) (zab (mC (.bl true)) (zab (mC (.bl false)) (zab (mC .non) (zab (mC (.str "0")) (zab (zdN (zab (mC (.int 0)) zam)) (zab (mFr (zhc (zab (mC (.int 0)) zam))) (zab (m2 zCh (mC (.int 10)) (mC (.int 30))) zam))))))))))) (m2 zeQ (m2 zd0 (mV 2) (mC (.int 8))) (mC (.int 9))))))
   (zbp (zlG (mIt [1, 3] (zhc (zab (mFr (zib 0 zah (zab (mV 3) zam))) (zab (mFr (zib 1 zah (zab (mV 3) zam))) (zab (mFr (zib 0 zah (zab (m2 oIx (m2 oIx (mV 1) (mC (.int 1))) (mC (.int 0))) zam))) (zab (mFr (zib 1 zah (zab (m2 oIx (m2 oIx (mV 1) (mC (.int 1))) (m1 zu0 (mC (.int 1)))) zam))) zam)))))) (gN 6)
    zbg)
   (zdu (mSh (mC (.bl true))))))))
def zcp:BdT:=zgg zah zbg
def za8:FnT:=zcA zcp 3 9
def ze0:BdT:=
 (zdu (mSh (zdN (zab (mFr (m1 zzA (zab (m2 oIx (mV 0) (mC (.int 0))) zam))) (zab (mFr (m2 ze9 (mFr (mSl (m2 oIx (mV 0) (mC (.int 1))) (mAt (mC (.int 1))) mNo)) (mFr (mSl (m2 oIx (mV 0) (mC (.int 1))) mNo (mAt (mC (.int 1))))))) (zab (mFr (mSl (m2 oIx (mV 0) (mC (.int 2))) (mAt (mC (.int 1))) mNo)) zam))))))
def zbD:FnT:=zcA ze0 1 1
def zbA:BdT:=
 (zcU 2 [0,2] (m2 ze9 (mV 2) (mFr (zdC 2 [2] (zkb (m2 oIx (mV 0) (mC (.int 2)))) (gSq 2 (gCs (gN 0) (gCs (gN 1) gNs))) (zzr (zal (m2 oIn (mV 1) (mV 2))) (zal (m2 zeo (mV 0) (mV 2)))) (mV 0)))))
def zfd (zbA : BdT) : BdT :=
  (zbp (zcU 2 [1] (zhc (zab (mV 1) zam)))
   (zbp (zlG (mR1 (zab (mFr (m1 zga (zab (m2 oIx (mV 0) (mC (.int 1))) zam))) zam)) (gN 3)
    zbA)
   (zdu (zdC 1 [2] (zkb (m2 oIx (mV 0) (mC (.int 1)))) (gN 0) (zal (m2 oIn (mV 0) (mV 1))) (mV 0)))))
def zb1:BdT:=zfd zbA
def zaq:FnT:=zcA zb1 2 4
def zev:BdT:=
 (zdu (mSh (m2 zrj (mC (.int 1)) (mFr (m2 ze9 (mFr (m2 zkw (mFr (mBM zjy (m2 oIx (mV 0) (mC (.int 0))) (zab (mV 1) zam))) (mFr (m1 zga (zab (m2 oIx (mV 0) (mC (.int 1))) zam))))) (mFr (mBM zjy (m2 oIx (mV 0) (mC (.int 1))) (zab (mV 2) zam))))))))
def zaT:FnT:=zcA zev 3 3
def zhx (zaT:FnT):BdT:=
 (zdu (mSh (m2 oEq (m2 zeQ (m2 zd0 (mV 1) (mFr (m1 zaT (zab (mV 0) (zab (mV 2) (zab (mV 3) zam)))))) (mC (.int 2))) (mC (.int 1)))))
def zfH:BdT:=zhx zaT
def zbN:FnT:=zcA zfH 4 4
def zkN (zaq:FnT) (zbN:FnT):BdT:=
 (zdu (mSh (m2 oNe (mFr (zdC 1 [0,1,2] (zkb (mFr (m1 zaq (zab (mV 0) (zab (mV 3) zam))))) (gN 0) (zal (mFr (m1 zbN (zab (mV 1) (zab (mV 2) (zab (mV 3) (zab (mV 0) zam))))))) (mV 0))) (mFr (zhc zam)))))
def zgH:BdT:=zkN zaq zbN
def zbT:FnT:=zcA zgH 4 4
def zjC (zaT:FnT):BdT:=
 (zcU 3 [0,1,3,4] (m2 ze9 (mV 3) (mFr (m1 zaT (zab (mV 0) (zab (mV 1) (zab (mV 4) zam)))))))
def zcJ:BdT:=zjC zaT
def zlU (zaq : FnT) (zcJ : BdT) : BdT :=
  (zbp (zcU 3 [] (mSh (mC (.int 0))))
   (zbp (zlG (mIt [0, 2] (m1 zaq (zab (mV 0) (zab (mV 2) zam)))) (gN 4)
    zcJ)
   (zls 3)))
def zfr:BdT:=zlU zaq zcJ
def zbK:FnT:=zcA zfr 3 5
def zew (zbs : InT) (za5 : FnT) (zaq : FnT) (zaT : FnT) (za6 : FnT) (zbK : FnT) (zbT : FnT) (zaQ : FnT) (zaR : FnT) : BdT :=
  (zbp (zcU 8 [7] (zib 2 zbs (zab (m2 oIx (mV 7) (mC (.int 0))) (zab (m2 oIx (mV 7) (mC (.int 1))) (zab (m2 oIx (mV 7) (mC (.int 2))) zam)))))
     (zbp (mIf (zal (m2 oNe (mFr (zbQ 0 "ways" za5 (mV 5) (zab (mV 8) (zab (mV 2) zam)))) (mFr (zdC 1 [2, 7] (zkb (mFr (m1 zaq (zab (mV 7) (zab (mV 3) zam))))) (gN 0) zfC (zdN (zab (mFr (m1 zaT (zab (mV 2) (zab (mV 1) (zab (mV 0) zam))))) (zab (mC (.int 0)) zam)))))))
      (zdu (mSh (mC (.bl false))))
      zce)
     (zbp (mIf (zal (m2 oNe (mFr (zbQ 1 "ways" za6 (mV 6) (zab (mV 8) (zab (mV 2) zam)))) (mFr (zhc (zab (zdN (zab (mC (.int 0)) (zab (mFr (m1 zbK (zab (mV 7) (zab (mV 2) (zab (mV 3) zam))))) zam))) zam)))))
      (zdu (mSh (mC (.bl false))))
      zce)
     (zbp (zcU 9 [2, 3, 4, 7] (m1 zbT (zab (mV 7) (zab (mV 4) (zab (mV 2) (zab (mV 3) zam))))))
     (mIf (mOr (zal (m2 oNe (mFr (zbQ 0 "holds" zaQ (mV 5) (zab (mV 8) (zab (mV 4) (zab (mV 2) zam))))) (mV 9))) (zal (m2 oEq (mFr (zbQ 1 "holds" zaR (mV 6) (zab (mV 8) (zab (mV 4) (zab (mV 2) zam))))) (mV 9))))
      (zdu (mSh (mC (.bl false))))
      zce)))))
def zbl:BdT:=zew zbs za5 zaq zaT za6 zbK zbT zaQ zaR
def zfs (zah : InT) (zbD : FnT) (zbl : BdT) : BdT :=
  (zbp (zcU 2 [0, 1] (mSh (m2 oIx (m2 oIx (mV 0) (mC (.int 0))) (m2 zeQ (mV 1) (mFr (m1 zga (zab (m2 oIx (mV 0) (mC (.int 0))) zam)))))))
   (zbp (zcU 3 [0, 1] (mSh (m2 oIx (m2 oIx (mV 0) (mC (.int 1))) (m2 zeQ (m2 zd0 (mV 1) (mC (.int 8))) (mFr (m1 zga (zab (m2 oIx (mV 0) (mC (.int 1))) zam)))))))
   (zbp (zcU 4 [0, 1] (mSh (m2 zeQ (m2 zd0 (mV 1) (mC (.int 64))) (m2 zrj (mC (.int 1)) (mFr (m2 zkw (mFr (m1 zga (zab (m2 oIx (mV 0) (mC (.int 0))) zam))) (mFr (m1 zga (zab (m2 oIx (mV 0) (mC (.int 1))) zam)))))))))
   (zbp (zcU 5 [3] (zib 0 zah (zab (mV 3) zam)))
   (zbp (zcU 6 [3] (zib 1 zah (zab (mV 3) zam)))
   (zbp (zlG (mIt [0] (zhc (zab (mV 0) (zab (mFr (m1 zbD (zab (mV 0) zam))) (zab (mV 0) zam))))) (gN 7)
    zbl)
   (zdu (mSh (mC (.bl true))))))))))
def zb9:BdT:=zfs zah zbD zbl
def za2:FnT:=zcA zb9 2 10
def zex:BdT:=
 (zdu (mSh (zql (zal (mFr (m1 (zgb tab) (zab (mV 0) (zab (mC (.ty "bool")) zam))))) (m2 oEq (mV 0) (mV 1)) (mC (.bl false)))))
def zbB:FnT:=zcA zex 2 2
def znx:BdT:=
 (zdu (m2 ze9 (mC (.str "has ")) (m1 (zhn [0,1] "role") (mV 0))))
def zcZ:FnT:=zcA znx 1 1
def zny:BdT:=
 (zdu (m2 ze9 (mC (.str "not ")) (m1 (zhn [0,1] "role") (mV 0))))
def zc0:FnT:=zcA zny 1 1
def zcK : BdT :=
  (mIf (mOr (ziG (zal (mFr (m1 (zgb tab) (zab (mV 2) (zab (mC (.ty "tuple")) zam)))))) (mOr (zal (mFr (m1 (zgb tab) (zab (m2 oIx (mV 2) (mC (.int 0))) (zab (mC (.ty "bool")) zam))))) (zal (mFr (m1 (zgb tab) (zab (m2 oIx (mV 2) (mC (.int 1))) (zab (mC (.ty "bool")) zam)))))))
      (zdu (mSh (mC (.bl false))))
      zce)
def zlV (zcK : BdT) : BdT :=
  (zbp (mIf (mOr (ziG (zal (mFr (m1 (zgb tab) (zab (mV 0) (zab (mC (.ty "list")) zam)))))) (mOr (zal (m2 oNe (mFr (m1 zga (zab (mV 0) zam))) (mFr (m1 zga (zab (mV 1) zam))))) (zal (m2 oNe (mFr (m1 ziL (zab (mV 0) zam))) (mFr (m1 ziL (zab (mV 1) zam)))))))
    (zdu (mSh (mC (.bl false))))
    zce)
   (zbp (ziI 0 (gN 2)
    zcK)
   (zdu (mSh (mC (.bl true))))))
def zek:BdT:=zlV zcK
def zbP:FnT:=zcA zek 2 3
def zhg:BdT:=
 (zdu (mSh (zql (zal (m2 oEq (m2 zCi (mV 0) (m2 oIx (mV 1) (mC (.int 0)))) (m2 oIx (mV 1) (mC (.int 0))))) (m2 oEq (m2 zCi (mV 0) (m2 oIx (mV 1) (mC (.int 1)))) (mC (.int 0))) (mC (.bl false)))))
def zch:FnT:=zcA zhg 2 2
def zij (za5 : FnT) (za6 : FnT) (zbP : FnT) : BdT :=
  (zbp (zcU 10 [0, 2, 5] (zbQ 0 "ways" za5 (mV 5) (zab (mV 0) (zab (mV 2) zam))))
     (zbp (zcU 11 [0, 2, 6] (zbQ 1 "ways" za6 (mV 6) (zab (mV 0) (zab (mV 2) zam))))
     (zbp (mIf (mOr (zal (m2 oNe (mV 10) (mV 7))) (mOr (ziG (zal (mFr (m1 zbP (zab (mV 10) (zab (mV 7) zam)))))) (mOr (zal (m2 oNe (mV 11) (mV 8))) (ziG (zal (mFr (m1 zbP (zab (mV 11) (zab (mV 8) zam)))))))))
      (zdu (mSh (mC (.bl false))))
      zce)
     (zbp (zpr 10)
     (zuh 11 [] (zdN (zab (mC (.int 1)) (zab (mC (.int 1)) zam))))))))
def zcR:BdT:=zij za5 za6 zbP
def zik (zbT : FnT) (zbB : FnT) (zaQ : FnT) (zaR : FnT) (zch : FnT) : BdT :=
  (zbp (zcU 13 [1, 2, 3, 12] (m1 zbT (zab (mV 1) (zab (mV 12) (zab (mV 2) (zab (mV 3) zam))))))
     (zbp (mIf (ziG (zal (mFr (m1 zbB (zab (mFr (zbQ 0 "holds" zaQ (mV 5) (zab (mV 0) (zab (mV 12) (zab (mV 2) zam))))) (zab (mV 13) zam))))))
      (zdu (mSh (mC (.bl false))))
      zce)
     (zbp (mIf (ziG (zal (mFr (m1 zbB (zab (mFr (zbQ 1 "holds" zaR (mV 6) (zab (mV 0) (zab (mV 12) (zab (mV 2) zam))))) (zab (mBl (ziG (zal (mV 13)))) zam))))))
      (zdu (mSh (mC (.bl false))))
      zce)
     (mIf (mOr (zal (m2 oNe (mV 13) (m2 oNe (mFr (zdC 1 [12] (zkb (mV 7)) (gN 0) (zal (mFr (m1 zch (zab (mV 1) (zab (mV 0) zam))))) (mV 0))) (mFr (zhc zam))))) (zal (m2 oEq (mV 13) (mFr (m1 zch (zab (mV 12) (zab (m2 oIx (mV 8) (mC (.int 0))) zam)))))))
      (zdu (mSh (mC (.bl false))))
      zce))))
def zci:BdT:=zik zbT zbB zaQ zaR zch
def zkO (zah : InT) (zaq : FnT) (zaT : FnT) (zbK : FnT) (zcR : BdT) (zci : BdT) (zcZ : FnT) (zc0 : FnT) : BdT :=
  (zbp (zcU 5 [3] (zib 0 zah (zab (mV 3) zam)))
   (zbp (zcU 6 [3] (zib 1 zah (zab (mV 3) zam)))
   (zbp (zcU 7 [1, 2, 3] (zdC 1 [1, 2] (zkb (mFr (m1 zaq (zab (mV 1) (zab (mV 3) zam))))) (gN 0) zfC (zdN (zab (mFr (m1 zaT (zab (mV 1) (zab (mV 2) (zab (mV 0) zam))))) (zab (mC (.int 0)) zam)))))
   (zbp (zcU 8 [1, 2, 3] (zhc (zab (zdN (zab (mC (.int 0)) (zab (mFr (m1 zbK (zab (mV 1) (zab (mV 2) (zab (mV 3) zam))))) zam))) zam)))
   (zbp (zlG (mR1 (zab (mC (.int 2)) zam)) (gN 9)
    zcR)
   (zbp (ziI 4 (gN 12)
    zci)
   (zdu (mSh (zql (zal (m2 oEq (mFr (zbQ 0 "row" zcZ (mV 5) zam)) (mFr (m2 ze9 (mC (.str "has ")) (mV 3))))) (zql (zal (m2 oEq (mFr (zbQ 1 "row" zc0 (mV 6) zam)) (mFr (m2 ze9 (mC (.str "not ")) (mV 3))))) (m2 oEq (mFr (zhc (zab (m1 (zhn [0, 1] "role") (mV 5)) (zab (m1 (zhn [0, 1] "role") (mV 6)) zam)))) (mFr (zhc (zab (mV 3) (zab (mV 3) zam))))) (mC (.bl false))) (mC (.bl false)))))))))))
def zey:BdT:=zkO zah zaq zaT zbK zcR zci zcZ zc0
def zcj:FnT:=zcA zey 5 14
def zs0 (zcj : FnT) : BdT :=
  (mIf (ziG (zal (mFr (m1 zcj (zab (mV 2) (zab (mV 1) (zab (mV 4) (zab (mV 5) (zab (mV 3) zam)))))))))
        (zdu (mSh (mC (.bl false))))
        zce)
def zhy:BdT:=zs0 zcj
def zs1 (zhy : BdT) : BdT :=
  (zlG (mIt [1] (mSh (m2 oIx (mV 1) (mC (.int 1))))) (gN 5)
      zhy)
def zhz:BdT:=zs1 zhy
def zhA : BdT :=
  (mIf (mOr (ziG (zal (mFr (m1 (zgb tab) (zab (mV 6) (zab (mC (.cls 3)) zam)))))) (zal (m2 oEq (mFr (m1 (zgb tab) (zab (mV 6) (zab (mC (.cls 0)) zam)))) (mFr (m1 (zgb tab) (zab (mV 6) (zab (mC (.cls 1)) zam)))))))
      (zdu (mSh (mC (.bl false))))
      zce)
def zBG (zbR : FnT) (zaH : FnT) (zbs : InT) (zbS : FnT) (zhz : BdT) (zah : InT) (zhA : BdT) (zaz : FnT) (za8 : FnT) (za2 : FnT) : BdT :=
  (zbp (zcU 1 [0] (m1 zbR (zab (mFr (m1 zaH (zab (mV 0) (zab (mC (.int 0)) zam)))) zam)))
   (zbp (zcU 2 [1] (zib 2 zbs (zab (m2 oIx (mV 1) (mC (.int 0))) (zab (m2 oIx (mV 1) (mC (.int 1))) (zab (m2 oIx (mV 1) (mC (.int 2))) zam)))))
   (zbp (zcU 3 [0, 1] (m1 zbS (zab (mV 1) (zab (mFr (m1 zaH (zab (mV 0) (zab (mC (.int 1)) zam)))) zam))))
   (zbp (zlG (mIt [1] (mSh (m2 oIx (mV 1) (mC (.int 0))))) (gN 4)
    zhz)
   (zbp (zlG (mIt [1] (zhc (zab (mFr (zib 0 zah (zab (m2 oIx (m2 oIx (mV 1) (mC (.int 1))) (mC (.int 0))) zam))) (zab (mFr (zib 1 zah (zab (m2 oIx (m2 oIx (mV 1) (mC (.int 1))) (mC (.int 0))) zam))) zam)))) (gN 6)
    zhA)
   (zbp (zcU 7 [0] (mSh (m2 oIx (mFr (m1 zaz (zab (mFr (m1 zaH (zab (mV 0) (zab (mC (.int 2)) zam)))) (zab (mC (.int 1)) zam)))) (mC (.int 0)))))
   (zdu (mSh (zql (zal (mFr (m1 za8 (zab (mV 2) (zab (mV 1) (zab (mV 7) zam)))))) (mFr (m1 za2 (zab (mV 1) (zab (mV 7) zam)))) (mC (.bl false)))))))))))
def zvA:BdT:=zBG zbR zaH zbs zbS zhz zah zhA zaz za8 za2
def zoL:FnT:=zcA zvA 1 8
end
theorem csm {NX N:List Str} {SX scope:Scope} {own:Nat} {fi:List Nat} (a:scope.kind=.function:=by rfl) (b:∀ y∈scope.names,y.2≠.cell:=by decide +kernel) (c:∀ y∈scope.names,y.2=.local->scope.names.lookup y.1=some .local:=by decide +kernel) (d:∀ y∈scope.names,y.2=.free->SX.names.lookup y.1=some .cell\/SX.names.lookup y.1=some .free:=by decide +kernel) (e:N.length=own+fi.length:=by rfl) (f:∀ p∈(N.drop own).zip fi,NX[p.2]? = some p.1/\scope.names.lookup p.1=some .free:=by decide +kernel):CompScope NX SX scope N own fi:=⟨a,b,c,d,e,f⟩
theorem lO {ι:Type} {Xs:ι->Cx} {x:Str} (h:∀ j,(Xs j).env.scope.names.lookup x=some .local:=by intro _; rfl):∀ j,Loc (Xs j).env.scope x:=λj=>.inl (h j)
theorem bLn:bootBuiltins "len"=some (.builtin "len"):=PyProof.Rows.Boot.«len»
theorem bIs:bootBuiltins "isinstance"=some (.builtin "isinstance"):=PyProof.Rows.Boot.«isinstance»
abbrev nL0:List Str:=["_law_office_here","_law_told","_law_who","_law_role","_law_states_here","_law_has_here","_law_lacks","_law_bits","_law_free","_law_turn","_law_one","_law_other","_law_state","_law_due"]
abbrev nL1:List Str:=["_law_told","_law_state","_law_who","_law_role"]
abbrev nL2:List Str:=["_law_number","_law_many","_law_words","_law_letters","_law_tail","_law_at"]
abbrev nL3:List Str:=["_law_told","_law_number","_law_who","_law_role","_law_state","_law_has_here","_law_lacks","_law_scene","_law_office_here","_law_due"]
abbrev nL4:List Str:=["self","thing"]
abbrev nL5:List Str:=["self","office","state","who"]
abbrev nL6:List Str:=["_law_told","_law_who","_law_role"]
abbrev nL7:List Str:=["_law_office_here","_law_told","_law_number","_law_strange","_law_nobody","_law_none","_law_term","_law_way","_law_found"]
abbrev nL8:List Str:=["_law_office_here","_law_told","_law_who","_law_role","_law_states_here"]
abbrev nL9:List Str:=["self","office","who"]
abbrev zDA:List Str:=["_law_way","_law_office_here","_law_term","_law_state","_law_who"]
abbrev zyT:List Str:=["_law_found","_law_due"]
abbrev zyU:List Str:=["self","who","role"]
abbrev zDB:List Str:=["_law_told","_law_role","_law_known","_law_turn"]
abbrev zDC:List Str:=["_law_office_here","_law_told","_law_number"]
abbrev zBH:List Str:=["_law_number","_law_many"]
abbrev zCr:List Str:=["self","folk","roles","pairs"]
abbrev zEP:List Str:=["_law_k","_law_number","_law_letters","_law_tail","_law_at"]
abbrev zwC:List Str:=["self","role"]
abbrev zCs:List Str:=["self","state","who","role"]
abbrev zDD:List Str:=["_law_upper","_law_lower","_law_known"]
abbrev zCt:List Str:=["_law_state","_law_way"]
abbrev zEQ:List Str:=["_law_name","_law_told","_law_state","_law_who"]
abbrev zCu:List Str:=["_law_script","_law_k"]
abbrev zCv:List Str:=["_law_told","_law_due"]
abbrev zzB:List Str:=["self","name"]
abbrev zrm:List Str:=["self"]
abbrev zER:List Str:=["roles","pairs","bringers","role","found"]
abbrev zDE:List Str:=["_law_told","_law_number"]
abbrev zDF:List Str:=["_law_cell","_law_many"]
abbrev zDG:List Str:=["_law_told","_law_cell"]
abbrev zDH:List Str:=["_law_told","_law_role"]
abbrev zCw:List Str:=["thing","names"]
def top (i:Nat):Stmt:=PySem.Challenge.pw_mightever_k11_conditions.main.body.getD i (.Pass ⟨0,0,0,0⟩)
abbrev zez:Stmt:=zb4 (top 8) 0
theorem zjU:FnScope zzB zzB (zae zez):=scm
abbrev zeA:Stmt:=zb4 (top 9) 0
theorem zjV:FnScope zzB zzB (zae zeA):=scm
abbrev zd2:Stmt:=zb4 (top 13) 0
theorem ziO:FnScope ["self","found"] ["self","found"] (zae zd2):=scm
abbrev zgI:Stmt:=top 33
theorem zck:FnScope ["_law_cell","_law_many","_law_found","_law_left","_law_number","_law_k"] zDF (zae zgI):=scm
abbrev zdG:Stmt:=top 34
theorem zdV:FnScope nL2 zBH (zae zdG):=scm
abbrev zgJ:Stmt:=top 35
theorem zaU:FnScope ["_law_cell","_law_numbers","_law_sizes","_law_folk","_law_roles","_law_names_here","_law_order","_law_left","_law_pairs","_law_k","_law_j"] ["_law_cell"] (zae zgJ):=scm
abbrev zil:Stmt:=top 18
theorem zqH:FnScope ["thing"] ["thing"] (zae zil):=scm
abbrev zeB:Stmt:=top 25
theorem zd3:FnScope ["names","most","checked","name"] ["names","most"] (zae zeB):=scm
abbrev ziP:Stmt:=top 24
theorem zoM:FnScope zCw zCw (zae ziP):=scm
abbrev zfI:Stmt:=top 26
theorem zct:FnScope ["pairs","role","found","place","upper","lower"] ["pairs","role"] (zae zfI):=scm
abbrev zeC:Stmt:=top 27
theorem zc6:FnScope ["pairs","roles","checked","upper","lower"] ["pairs","roles"] (zae zeC):=scm
abbrev zd4:Stmt:=top 28
theorem zbL:FnScope ["folk","roles","bits","power","who","role"] ["folk","roles"] (zae zd4):=scm
abbrev zcl:Stmt:=top 29
theorem zb3:FnScope zER ["roles","pairs"] (zae zcl):=scm
abbrev zeD:Stmt:=zb4 (top 30) 0
theorem zjW:FnScope zCr zCr (zae zeD):=scm
abbrev ze1:Stmt:=top 41
theorem zim:FnScope ["_law_told","_law_cell","_law_many"] zDG (zae ze1):=scm
abbrev zfJ:Stmt:=top 32
theorem zlw:FnScope zCu zCu (zae zfJ):=scm
abbrev zdk:Stmt:=zb4 (top 2) 0
theorem zhB:FnScope zwC zwC (zae zdk):=scm
abbrev ziQ:Stmt:=top 47
theorem zoN:FnScope zyT zyT (zae ziQ):=scm
abbrev ziR:Stmt:=top 17
theorem zoO:FnScope ["thing"] ["thing"] (zae ziR):=scm
abbrev zfK:Stmt:=zb4 (top 30) 5
theorem zlx:FnScope zrm zrm (zae zfK):=scm
abbrev zdH:Stmt:=zb4 (top 30) 7
theorem zin:FnScope nL4 nL4 (zae zdH):=scm
abbrev zcv:Stmt:=zb4 (top 30) 1
theorem zfL:FnScope nL4 nL4 (zae zcv):=scm
abbrev zcL:Stmt:=zb4 (top 30) 2
theorem zgn:FnScope nL4 nL4 (zae zcL):=scm
abbrev zcM:Stmt:=zb4 (top 30) 3
theorem zgo:FnScope nL4 nL4 (zae zcM):=scm
abbrev zdI:Stmt:=zb4 (top 30) 4
theorem zio:FnScope zwC zwC (zae zdI):=scm
abbrev zeE:Stmt:=zb4 (top 30) 8
theorem zc7:FnScope ["self","who","role","mask","upper"] zyU (zae zeE):=scm
abbrev zgK:Stmt:=zb4 (top 30) 9
theorem zmH:FnScope zCs zCs (zae zgK):=scm
abbrev zhC:Stmt:=zb4 (top 3) 0
theorem znz:FnScope nL5 nL5 (zae zhC):=scm
abbrev zhD:Stmt:=zb4 (top 4) 0
theorem znA:FnScope nL5 nL5 (zae zhD):=scm
abbrev zgL:Stmt:=zb4 (top 30) 6
theorem zmI:FnScope zyU zyU (zae zgL):=scm
abbrev zhh:Stmt:=zb4 (top 3) 2
theorem zoP:FnScope nL9 nL9 (zae zhh):=scm
abbrev ziS:Stmt:=zb4 (top 4) 2
theorem zoQ:FnScope nL9 nL9 (zae ziS):=scm
abbrev zfM:Stmt:=top 46
theorem zbE:FnScope ["_law_way","_law_office_here","_law_term","_law_state","_law_who","_law_refused_here","e"] zDA (zae zfM):=scm
abbrev zc8:Stmt:=top 48
theorem zbm:FnScope nL7 zDC (zae zc8):=scm
abbrev zgM:Stmt:=top 49
theorem zmJ:FnScope ["_law_told"] ["_law_told"] (zae zgM):=scm
abbrev zc1:Stmt:=top 36
theorem zdl:FnScope zDB zDH (zae zc1):=scm
abbrev zkP:Stmt:=top 37
theorem zqI:FnScope nL6 nL6 (zae zkP):=scm
abbrev zhE:Stmt:=top 38
theorem znB:FnScope nL1 nL1 (zae zhE):=scm
abbrev ziq:Stmt:=top 39
theorem zqJ:FnScope nL1 nL1 (zae ziq):=scm
abbrev ziT:Stmt:=top 40
theorem zfN:FnScope ["_law_told","_law_who","_law_role","_law_mask_here","_law_name"] nL6 (zae ziT):=scm
abbrev zcS:Stmt:=top 50
theorem zaV:FnScope nL3 zDE (zae zcS):=scm
abbrev zhF:Stmt:=top 43
theorem znC:FnScope zCv zCv (zae zhF):=scm
abbrev zkQ:Stmt:=zb4 (top 3) 1
theorem zqK:FnScope zrm zrm (zae zkQ):=scm
abbrev zkR:Stmt:=zb4 (top 4) 1
theorem zqL:FnScope zrm zrm (zae zkR):=scm
abbrev ziU:Stmt:=top 44
theorem zkS:FnScope ["_law_found","_law_due","_law_way"] zyT (zae ziU):=scm
abbrev zmK:Stmt:=top 42
theorem zs2:FnScope zCt zCt (zae zmK):=scm
abbrev zeF:Stmt:=top 45
theorem zbF:FnScope nL0 nL8 (zae zeF):=scm
abbrev zvB:Stmt:=top 51
theorem zjD:FnScope ["_law_script","_law_told","_law_office_here","_law_states_here","_law_who","_law_role","_law_thing","_law_number"] ["_law_script"] (zae zvB):=scm
structure Adr where
 zfO:Addr
 zfP:Addr
 zby:Addr
 zeG:Addr
 zbU:Addr
 zbV:Addr
 zbw:Addr
 zdm:Addr
 zgN:FuncData
 zdn:Addr
 zgO:FuncData
 zc9:Addr
 zgh:FuncData
 zaz:Addr
 zgP:FuncData
 zbz:Addr
 zhG:FuncData
 zbR:Addr
 zgQ:FuncData
 zcY:Addr
 zkT:FuncData
 zaN:Addr
 zeH:FuncData
 zav:Addr
 ziV:FuncData
 za1:Addr
 zfQ:FuncData
 zaZ:Addr
 zeI:FuncData
 zaO:Addr
 zd5:FuncData
 zaA:Addr
 zda:FuncData
 zeJ:Addr
 zeK:FuncData
 zbS:Addr
 zgR:FuncData
 zaH:Addr
 zfR:FuncData
 zcC:Addr
 zdo:FuncData
 zbh:Addr
 ziW:FuncData
 zbI:Addr
 ziX:FuncData
 zbo:Addr
 zfS:FuncData
 zak:Addr
 zdJ:FuncData
 zas:Addr
 zcw:FuncData
 zai:Addr
 zcN:FuncData
 zan:Addr
 zcO:FuncData
 zar:Addr
 zdK:FuncData
 zat:Addr
 zeL:FuncData
 zaC:Addr
 zgS:FuncData
 zaQ:Addr
 zhH:FuncData
 zaR:Addr
 zhI:FuncData
 zbd:Addr
 zgT:FuncData
 za5:Addr
 ziY:FuncData
 za6:Addr
 ziZ:FuncData
 zau:Addr
 zfT:FuncData
 za8:Addr
 zd6:FuncData
 zbD:Addr
 zgU:FuncData
 zaq:Addr
 zfe:FuncData
 zaT:Addr
 zkU:FuncData
 zbN:Addr
 zhJ:FuncData
 zbT:Addr
 zkV:FuncData
 zbK:Addr
 zi0:FuncData
 za2:Addr
 zdL:FuncData
 zbB:Addr
 zhK:FuncData
 zcZ:Addr
 zkW:FuncData
 zc0:Addr
 zkX:FuncData
 zbP:Addr
 zi1:FuncData
 zch:Addr
 zmL:FuncData
 zcj:Addr
 zhL:FuncData
 zoL:Addr
 zyV:FuncData
structure Txt (K:W.Frag) (mg:Str->Option Value) (A:Adr):Prop where
 zgV:Fun K "__init__" "NoFolk.__init__" zez A.zdm A.zgN
 zgW:Fun K "__init__" "NoRole.__init__" zeA A.zdn A.zgO
 zgi:Fun K "__init__" "NoState.__init__" zd2 A.zc9 A.zgh
 zdW:Fun K "_law_stream" "_law_stream" zgI A.zaz A.zgP
 zdd:mg "_law_stream"=some (.ref A.zaz)
 zfU:Fun K "_law_names" "_law_names" zdG A.zbz A.zhG
 zdF:mg "_law_names"=some (.ref A.zbz)
 zgX:Fun K "_law_office" "_law_office" zgJ A.zbR A.zgQ
 zdT:mg "_law_office"=some (.ref A.zbR)
 zkY:Fun K "is_name" "is_name" zil A.zcY A.zkT
 zig:mg "is_name"=some (.ref A.zcY)
 zdp:Fun K "checked_names" "checked_names" zeB A.zaN A.zeH
 zcG:mg "checked_names"=some (.ref A.zaN)
 zel:Fun K "is_among" "is_among" ziP A.zav A.ziV
 zde:mg "is_among"=some (.ref A.zav)
 zef:Fun K "bringing_by" "bringing_by" zfI A.za1 A.zfQ
 zdh:mg "bringing_by"=some (.ref A.za1)
 zeM:Fun K "checked_pairs" "checked_pairs" zeC A.zaZ A.zeI
 zdi:mg "checked_pairs"=some (.ref A.zaZ)
 zd7:Fun K "bits_of_rights" "bits_of_rights" zd4 A.zaO A.zd5
 zc5:mg "bits_of_rights"=some (.ref A.zaO)
 zdb:Fun K "bringers_of_roles" "bringers_of_roles" zcl A.zaA A.zda
 zcf:mg "bringers_of_roles"=some (.ref A.zaA)
 zgY:Fun K "__init__" "Office.__init__" zeD A.zeJ A.zeK
 zgZ:Fun K "_law_states" "_law_states" ze1 A.zbS A.zgR
 zcH:mg "_law_states"=some (.ref A.zbS)
 zdq:Fun K "_law_cell_at" "_law_cell_at" zfJ A.zaH A.zfR
 zcg:mg "_law_cell_at"=some (.ref A.zaH)
 ze2:Fun K "__init__" "Condition.__init__" zdk A.zcC A.zdo
 zhi:Fun K "_law_same" "_law_same" ziQ A.zbh A.ziW
 zfp:mg "_law_same"=some (.ref A.zbh)
 zi2:Fun K "is_whole" "is_whole" ziR A.zbI A.ziX
 zei:mg "is_whole"=some (.ref A.zbI)
 zir:Fun K "bits" "Office.bits" zfK A.zbo A.zfS
 zft:Fun K "is_state" "Office.is_state" zdH A.zak A.zdJ
 zdw:Fun K "must_be_state" "Office.must_be_state" zcv A.zas A.zcw
 zdX:Fun K "must_be_folk" "Office.must_be_folk" zcL A.zai A.zcN
 zdY:Fun K "must_be_role" "Office.must_be_role" zcM A.zan A.zcO
 zfu:Fun K "bringing" "Office.bringing" zdI A.zar A.zdK
 zg0:Fun K "having" "Office.having" zeE A.zat A.zeL
 zjE:Fun K "has" "Office.has" zgK A.zaC A.zgS
 zkZ:Fun K "holds" "Has.holds" zhC A.zaQ A.zhH
 zk0:Fun K "holds" "Not.holds" zhD A.zaR A.zhI
 zjF:Fun K "bit" "Office.bit" zgL A.zbd A.zgT
 zlW:Fun K "ways" "Has.ways" zhh A.za5 A.ziY
 zlX:Fun K "ways" "Not.ways" ziS A.za6 A.ziZ
 zdr:Fun K "_law_refused" "_law_refused" zfM A.zau A.zfT
 zbC:mg "_law_refused"=some (.ref A.zau)
 zd8:Fun K "_law_odd_things" "_law_odd_things" zc8 A.za8 A.zd6
 zcp:mg "_law_odd_things"=some (.ref A.za8)
 zg1:Fun K "_law_turned" "_law_turned" zgM A.zbD A.zgU
 ze0:mg "_law_turned"=some (.ref A.zbD)
 zcu:Fun K "_law_bringing" "_law_bringing" zc1 A.zaq A.zfe
 zb1:mg "_law_bringing"=some (.ref A.zaq)
 zfv:Fun K "_law_bit" "_law_bit" zkP A.zaT A.zkU
 zev:mg "_law_bit"=some (.ref A.zaT)
 zhM:Fun K "_law_holds" "_law_holds" zhE A.zbN A.zhJ
 zfH:mg "_law_holds"=some (.ref A.zbN)
 zis:Fun K "_law_has" "_law_has" ziq A.zbT A.zkV
 zgH:mg "_law_has"=some (.ref A.zbT)
 zhj:Fun K "_law_mask" "_law_mask" ziT A.zbK A.zi0
 zfr:mg "_law_mask"=some (.ref A.zbK)
 zdM:Fun K "_law_two_offices" "_law_two_offices" zcS A.za2 A.zdL
 zb9:mg "_law_two_offices"=some (.ref A.za2)
 zfV:Fun K "_law_truth" "_law_truth" zhF A.zbB A.zhK
 zex:mg "_law_truth"=some (.ref A.zbB)
 znD:Fun K "row" "Has.row" zkQ A.zcZ A.zkW
 znE:Fun K "row" "Not.row" zkR A.zc0 A.zkX
 zhk:Fun K "_law_ways" "_law_ways" ziU A.zbP A.zi1
 zek:mg "_law_ways"=some (.ref A.zbP)
 zke:Fun K "_law_of" "_law_of" zmK A.zch A.zmL
 zhg:mg "_law_of"=some (.ref A.zch)
 zhN:Fun K "_law_right" "_law_right" zeF A.zcj A.zhL
 zey:mg "_law_right"=some (.ref A.zcj)
 zDI:Fun K "law" "law" zvB A.zoL A.zyV
 zvA:mg "law"=some (.ref A.zoL)
 zlY:mg "Has"=some (.ref A.zfO)
 zlZ:mg "Not"=some (.ref A.zfP)
 znF:mg "Office"=some (.ref A.zby)
 znG:mg "Condition"=some (.ref A.zeG)
 znH:mg "NoFolk"=some (.ref A.zbU)
 znI:mg "NoRole"=some (.ref A.zbV)
 zl0:mg "NoState"=some (.ref A.zbw)
 zjG:Cls K A.zfO
 zs3:Mk K A.zfO A.zcC
 zjH:Cls K A.zfP
 zs4:Mk K A.zfP A.zcC
 zbe:Cls K A.zby
 zpG:Mk K A.zby A.zeJ
 zhO:NoAttr K A.zfO "role"
 zhP:NoAttr K A.zfP "role"
 zff:NoAttr K A.zby "folk"
 zeN:NoAttr K A.zby "roles"
 zeO:NoAttr K A.zby "pairs"
 zcV:NoAttr K A.zby "right_bits"
 zds:NoAttr K A.zby "bringers"
 zg2:Meth K A.zfO "holds" A.zaQ
 zqM:Meth K A.zfO "row" A.zcZ
 zhQ:Meth K A.zfO "ways" A.za5
 zg3:Meth K A.zfP "holds" A.zaR
 zqN:Meth K A.zfP "row" A.zc0
 zhR:Meth K A.zfP "ways" A.za6
 zmM:Meth K A.zby "bit" A.zbd
 zly:Meth K A.zby "bits" A.zbo
 ze3:Meth K A.zby "bringing" A.zar
 zit:Meth K A.zby "has" A.zaC
 zgj:Meth K A.zby "having" A.zat
 ziu:Meth K A.zby "is_state" A.zak
 zcx:Meth K A.zby "must_be_folk" A.zai
 zdx:Meth K A.zby "must_be_role" A.zan
 zfW:Meth K A.zby "must_be_state" A.zas
 zk1:KInst K A.zfO
 zk2:KInst K A.zfP
 zi3:W.kitOne K (.ref A.zfO) (.ref A.zfO)=some true
 zi4:W.kitOne K (.ref A.zfO) (.ref A.zfP)=some false
 zfX:W.kitOne K (.ref A.zfO) (.ref A.zby)=some false
 zd9:W.kitOne K (.ref A.zfO) (.ref A.zeG)=some true
 zfY:W.kitOne K (.ref A.zfO) (.ref A.zbU)=some false
 zfZ:W.kitOne K (.ref A.zfO) (.ref A.zbV)=some false
 zfg:W.kitOne K (.ref A.zfO) (.ref A.zbw)=some false
 zi5:W.kitOne K (.ref A.zfP) (.ref A.zfO)=some false
 zi6:W.kitOne K (.ref A.zfP) (.ref A.zfP)=some true
 zf0:W.kitOne K (.ref A.zfP) (.ref A.zby)=some false
 zea:W.kitOne K (.ref A.zfP) (.ref A.zeG)=some true
 zf1:W.kitOne K (.ref A.zfP) (.ref A.zbU)=some false
 zf2:W.kitOne K (.ref A.zfP) (.ref A.zbV)=some false
 zfh:W.kitOne K (.ref A.zfP) (.ref A.zbw)=some false
 znJ:XCls K A.zbU
 zk3:W.findIn K (.ref A.zbU) "__init__"=some (some (.ref A.zdm))
 zs5:W.isFn K (.ref A.zdm)=true
 zk4:W.keepIn K (.ref A.zbU)=true
 zk5:W.takerIn K A.zbU "name"=some none
 zs6:XGet K A.zbU
 zk6:NoAttr K A.zbU "name"
 zi7:W.exmOne K (.ref A.zbU) (.ref A.zbw)=some false
 zjX:W.exmOne K (.ref A.zbU) (.ref A.zbU)=some true
 zjY:W.exmOne K (.ref A.zbU) (.ref A.zbV)=some false
 znK:XCls K A.zbV
 zk7:W.findIn K (.ref A.zbV) "__init__"=some (some (.ref A.zdn))
 zs7:W.isFn K (.ref A.zdn)=true
 zk8:W.keepIn K (.ref A.zbV)=true
 zk9:W.takerIn K A.zbV "name"=some none
 zs8:XGet K A.zbV
 zla:NoAttr K A.zbV "name"
 zi8:W.exmOne K (.ref A.zbV) (.ref A.zbw)=some false
 zjZ:W.exmOne K (.ref A.zbV) (.ref A.zbU)=some false
 zj0:W.exmOne K (.ref A.zbV) (.ref A.zbV)=some true
 zl1:XCls K A.zbw
 zi9:W.findIn K (.ref A.zbw) "__init__"=some (some (.ref A.zc9))
 zqO:W.isFn K (.ref A.zc9)=true
 zja:W.keepIn K (.ref A.zbw)=true
 zjb:W.takerIn K A.zbw "found"=some none
 zqP:XGet K A.zbw
 zjc:NoAttr K A.zbw "found"
 ziv:W.exmOne K (.ref A.zbw) (.ref A.zbw)=some true
 zjd:W.exmOne K (.ref A.zbw) (.ref A.zbU)=some false
 zje:W.exmOne K (.ref A.zbw) (.ref A.zbV)=some false
 zyW:mg "all"=none
 zjI:mg "bool"=none
 zvC:mg "int"=none
 zaP:mg "isinstance"=none
 zeb:mg "len"=none
 zl2:mg "list"=none
 zec:mg "range"=none
 zjf:mg "reversed"=none
 zkf:mg "sorted"=none
 zvD:mg "str"=none
 zjg:mg "tuple"=none
 zs9:GC mg "LETTERS" (V.str "abcdefghijklmnopqrstuvwxyz")
 zlz:GC mg "LONGEST_NAME" (V.int 6)
 zoR:GC mg "MOST_BITS" (V.int 12)
 zoS:GC mg "MOST_FOLK" (V.int 4)
 znL:GC mg "MOST_PAIRS" (V.int 15)
 znM:GC mg "MOST_ROLES" (V.int 6)
def bk (K:W.Frag) (A:Adr):Bk:=⟨K,λc=>match c with | 0=>A.zfO | 1=>A.zfP | 2=>A.zby | 3=>A.zeG | 4=>A.zbU | 5=>A.zbV | 6=>A.zbw | _=>0⟩
section
variable {K:W.Frag} {mg:Str->Option Value} {A:Adr}
theorem zlb (T:Txt K mg A):Binds K A.zgN zzB []:=T.zgV.b2
theorem zlc (T:Txt K mg A):Binds K A.zgO zzB []:=T.zgW.b2
theorem zj1 (T:Txt K mg A):Binds K A.zgh ["self","found"] []:=T.zgi.b2
theorem zg4 (T:Txt K mg A):Binds K A.zgP zDF []:=T.zdW.b2
theorem zld (T:Txt K mg A):Binds K A.zhG zBH []:=T.zfU.b2
theorem znN (T:Txt K mg A):Binds K A.zgQ ["_law_cell"] []:=T.zgX.b1
theorem zta (T:Txt K mg A):Binds K A.zkT ["thing"] []:=T.zkY.b1
theorem zg5 (T:Txt K mg A):Binds K A.zeH ["names","most"] []:=T.zdp.b2
theorem zhl (T:Txt K mg A):Binds K A.ziV zCw []:=T.zel.b2
theorem ziw (T:Txt K mg A):Binds K A.zfQ ["pairs","role"] []:=T.zef.b2
theorem zle (T:Txt K mg A):Binds K A.zeI ["pairs","roles"] []:=T.zeM.b2
theorem zj2 (T:Txt K mg A):Binds K A.zd5 ["folk","roles"] []:=T.zd7.b2
theorem zhS (T:Txt K mg A):Binds K A.zda ["roles","pairs"] []:=T.zdb.b2
theorem zg6 (T:Txt K mg A):Binds K A.zeK zCr []:=T.zgY.b4
theorem znO (T:Txt K mg A):Binds K A.zgR zDG []:=T.zgZ.b2
theorem zf3 (T:Txt K mg A):Binds K A.zfR zCu []:=T.zdq.b2
theorem zaK (T:Txt K mg A):Binds K A.zdo zwC []:=T.ze2.b2
theorem zl3 (T:Txt K mg A):Binds K A.ziW zyT []:=T.zhi.b2
theorem zqQ (T:Txt K mg A):Binds K A.ziX ["thing"] []:=T.zi2.b1
theorem zmN (T:Txt K mg A):Binds K A.zfS zrm []:=T.zir.b1
theorem zjh (T:Txt K mg A):Binds K A.zdJ nL4 []:=T.zft.b2
theorem zgp (T:Txt K mg A):Binds K A.zcw nL4 []:=T.zdw.b2
theorem zcP (T:Txt K mg A):Binds K A.zcN nL4 []:=T.zdX.b2
theorem zdZ (T:Txt K mg A):Binds K A.zcO nL4 []:=T.zdY.b2
theorem zfw (T:Txt K mg A):Binds K A.zdK zwC []:=T.zfu.b2
theorem zg7 (T:Txt K mg A):Binds K A.zeL zyU []:=T.zg0.b3
theorem zjJ (T:Txt K mg A):Binds K A.zgS zCs []:=T.zjE.b4
theorem zhT (T:Txt K mg A):Binds K A.zhH nL5 []:=T.zkZ.b4
theorem zhU (T:Txt K mg A):Binds K A.zhI nL5 []:=T.zk0.b4
theorem znP (T:Txt K mg A):Binds K A.zgT zyU []:=T.zjF.b3
theorem zji (T:Txt K mg A):Binds K A.ziY nL9 []:=T.zlW.b3
theorem zjj (T:Txt K mg A):Binds K A.ziZ nL9 []:=T.zlX.b3
theorem zf4 (T:Txt K mg A):Binds K A.zfT zDA []:=T.zdr.b5
theorem zj3 (T:Txt K mg A):Binds K A.zd6 zDC []:=T.zd8.b3
theorem znQ (T:Txt K mg A):Binds K A.zgU ["_law_told"] []:=T.zg1.b1
theorem zdP (T:Txt K mg A):Binds K A.zfe zDH []:=T.zcu.b2
theorem zix (T:Txt K mg A):Binds K A.zkU nL6 []:=T.zfv.b3
theorem zoT (T:Txt K mg A):Binds K A.zhJ nL1 []:=T.zhM.b4
theorem znR (T:Txt K mg A):Binds K A.zkV nL1 []:=T.zis.b4
theorem zl4 (T:Txt K mg A):Binds K A.zi0 nL6 []:=T.zhj.b3
theorem zjk (T:Txt K mg A):Binds K A.zdL zDE []:=T.zdM.b2
theorem zlf (T:Txt K mg A):Binds K A.zhK zCv []:=T.zfV.b2
theorem ztb (T:Txt K mg A):Binds K A.zkW zrm []:=T.znD.b1
theorem ztc (T:Txt K mg A):Binds K A.zkX zrm []:=T.znE.b1
theorem zl5 (T:Txt K mg A):Binds K A.zi1 zyT []:=T.zhk.b2
theorem zpH (T:Txt K mg A):Binds K A.zmL zCt []:=T.zke.b2
theorem zoU (T:Txt K mg A):Binds K A.zhL nL8 []:=T.zhN.b5
theorem zjK (T:Txt K mg A):∀ c∈[2],Cls (bk K A).K ((bk K A).cl c)/\NoAttr (bk K A).K ((bk K A).cl c) "bringers":=by
 intro c h;simp only [List.mem_cons,List.not_mem_nil,or_false] at h;subst h;exact ⟨T.zbe,T.zds⟩
theorem zkg (T:Txt K mg A):∀ c∈[2],Cls (bk K A).K ((bk K A).cl c)/\NoAttr (bk K A).K ((bk K A).cl c) "folk":=by
 intro c h;simp only [List.mem_cons,List.not_mem_nil,or_false] at h;subst h;exact ⟨T.zbe,T.zff⟩
theorem znS (T:Txt K mg A):∀ c∈[2],Cls (bk K A).K ((bk K A).cl c)/\NoAttr (bk K A).K ((bk K A).cl c) "pairs":=by
 intro c h;simp only [List.mem_cons,List.not_mem_nil,or_false] at h;subst h;exact ⟨T.zbe,T.zeO⟩
theorem zdQ (T:Txt K mg A):∀ c∈[2],Cls (bk K A).K ((bk K A).cl c)/\NoAttr (bk K A).K ((bk K A).cl c) "right_bits":=by
 intro c h;simp only [List.mem_cons,List.not_mem_nil,or_false] at h;subst h;exact ⟨T.zbe,T.zcV⟩
theorem zdR (T:Txt K mg A):∀ c∈[0,1],Cls (bk K A).K ((bk K A).cl c)/\NoAttr (bk K A).K ((bk K A).cl c) "role":=by
 intro c h;simp only [List.mem_cons,List.not_mem_nil,or_false] at h;rcases h with rfl | rfl
 ·exact ⟨T.zjG,T.zhO⟩
 ·exact ⟨T.zjH,T.zhP⟩
theorem zfx (T:Txt K mg A):∀ c∈[2],Cls (bk K A).K ((bk K A).cl c)/\NoAttr (bk K A).K ((bk K A).cl c) "roles":=by
 intro c h;simp only [List.mem_cons,List.not_mem_nil,or_false] at h;subst h;exact ⟨T.zbe,T.zeN⟩
theorem ze4 (T:Txt K mg A):∀ c C b,tab c C=some b->KInst (bk K A).K ((bk K A).cl c)/\W.kitOne (bk K A).K (.ref ((bk K A).cl c)) (.ref ((bk K A).cl C))=some b:=by
 intro c C b h;unfold tab at h;split at h
 ·cases h; exact ⟨T.zk1,T.zi3⟩
 ·cases h; exact ⟨T.zk1,T.zi4⟩
 ·cases h; exact ⟨T.zk1,T.zfX⟩
 ·cases h; exact ⟨T.zk1,T.zd9⟩
 ·cases h; exact ⟨T.zk1,T.zfY⟩
 ·cases h; exact ⟨T.zk1,T.zfZ⟩
 ·cases h; exact ⟨T.zk1,T.zfg⟩
 ·cases h; exact ⟨T.zk2,T.zi5⟩
 ·cases h; exact ⟨T.zk2,T.zi6⟩
 ·cases h; exact ⟨T.zk2,T.zf0⟩
 ·cases h; exact ⟨T.zk2,T.zea⟩
 ·cases h; exact ⟨T.zk2,T.zf1⟩
 ·cases h; exact ⟨T.zk2,T.zf2⟩
 ·cases h; exact ⟨T.zk2,T.zfh⟩
 ·cases h
theorem zoV (T:Txt K mg A):∀ c C b,tabx c C=some b->W.exmOne K (.ref ((bk K A).cl c)) (.ref ((bk K A).cl C))=some b:=by
 intro c C b h;unfold tabx at h;split at h
 ·cases h; exact T.zi7
 ·cases h; exact T.zjX
 ·cases h; exact T.zjY
 ·cases h; exact T.zi8
 ·cases h; exact T.zjZ
 ·cases h; exact T.zj0
 ·cases h; exact T.ziv
 ·cases h; exact T.zjd
 ·cases h; exact T.zje
 ·cases h
theorem zvE (T:Txt K mg A):∀ c∈[6],XGet K ((bk K A).cl c)/\NoAttr K ((bk K A).cl c) "found":=by
 intro c h;simp only [List.mem_cons,List.not_mem_nil,or_false] at h;subst h;exact ⟨T.zqP,T.zjc⟩
theorem ztd (T:Txt K mg A):∀ c∈[4,5],XGet K ((bk K A).cl c)/\NoAttr K ((bk K A).cl c) "name":=by
 intro c h;simp only [List.mem_cons,List.not_mem_nil,or_false] at h;rcases h with rfl | rfl
 ·exact ⟨T.zs6,T.zk6⟩
 ·exact ⟨T.zs8,T.zla⟩
end
section
variable {P:Program} {w:World} {K:W.Frag} {mg:Str->Option Value} {base:Heap} {A:Adr}
theorem zqR (T:Txt K mg A):zzv P w K mg base 1 A.zdm A.zbU "name":=λhr e0 he hHe rv=>zoB (k:=0) T.zgV zjU rfl (zlb T) T.znJ T.zk5 rfl rfl (λ_=>rfl) (by decide) (by decide) hr e0 he hHe rv
theorem zqS (T:Txt K mg A):zzv P w K mg base 1 A.zdn A.zbV "name":=λhr e0 he hHe rv=>zoB (k:=0) T.zgW zjV rfl (zlc T) T.znK T.zk9 rfl rfl (λ_=>rfl) (by decide) (by decide) hr e0 he hHe rv
theorem zoW (T:Txt K mg A):zzv P w K mg base 1 A.zc9 A.zbw "found":=λhr e0 he hHe rv=>zoB (k:=0) T.zgi ziO rfl (zj1 T) T.zl1 T.zjb rfl rfl (λ_=>rfl) (by decide) (by decide) hr e0 he hHe rv
theorem zf5 (T : Txt K mg A) : FnOk P w K mg base CX0 1 A.zaz A.zgP zDF (SpF (bk K A) 2 zaz) :=
  T.zdW.okJ zck rfl λjx =>
   (zaf (zaD 2 (L' := []) (λ_ => zck.nd) lO (zd1 zad))
   (zaf (zaD 3 (L' := [0]) (λ_ => zck.nd) lO (JD.asE (zeR (λ_ => zcQ) zdD (zac 0) zag)))
   (zaf (zaD 4 (L' := [3]) (λ_ => zck.nd) lO (JD.asE (zeR (λ_ => zcz) zcB (zac 3) zag)))
   (zaf (zge jx (zgr jx T.zec (zaa (zac 1) zad aN)) (zaF 5 (λ_ => zck.nd) lO)
    (show JB _ _ _ zbn from (zaf (zaD 4 (L' := [4, 5]) (λ_ => zck.nd) lO (JD.asE (zeR (λ_ => zcz) zcB (JE.asD (zeS jx (JE.asD (zeS jx (JE.asD (zeS jx (JE.asD (zkB (zac 4) (zac 4))) (JE.asD (zkB zag (zac 4))))) (JE.asD (zkB zag (zac 5))))) zag)) zag)))
     (zaf (zlO jx 2 (L' := [0, 3, 4]) (zcr jx (JE.asD (zd1 (zaa (zac 4) (zaa (zeR (λ_ => zcz) zcB (zac 3) zag) zad aB) aN))) (JE.asD (zid jx zDk T.zvC PyProof.Rows.Boot.«int» (zaa (zkC (zgq (zlL jx) (zeR (λ_ => zcz) zcB (zac 0) zag) zag (zaX _)) (zmx (zgq zBa (zac 3) zag (zaX _)))) zad aO) aO))) aS)
     (zao (zaD 3 (L' := [3]) (λ_ => zck.nd) lO (JD.asE (zeR (λ_ => zcQ) zdD (zac 3) zag))))))))
   (zao (zhv 2))))))
theorem zjL (T : Txt K mg A) : FnOk P w K mg base CX0 1 A.zbz A.zhG zBH (SpF (bk K A) 2 zbz) :=
  T.zfU.okJ zdV rfl λjx =>
   (zaf (zaD 2 (L' := []) (λ_ => zdV.nd) (λ_ => (Or.inr rfl)) (zd1 (zaa zcD (zaa zcD (zaa zcD (zaa zcD (zaa zcD (zaa zcD (zaa zcD (zaa zcD (zaa zcD (zaa zcD (zaa zcD (zaa zcD (zaa zcD zad aC) aC) aC) aC) aC) aC) aC) aC) aC) aC) aC) aC) aC)))
   (zaf (zcX (zbi (zlL jx) (zeR (λ_ => zcz) zcB (zac 0) zag) zag (zaX _))
    (zao (zaY (zgd jx (NX := nL2) (SX := zae zdG) (N := ["_law_k", "_law_number", "_law_words"]) (own := 1) (fi := [0, 2]) csm (JI.asC (zgr jx T.zec (zaa (zac 1) zad aN))) (zaF 0 (λ_ => (show (["_law_k", "_law_number", "_law_words"] : List Str).Nodup by decide +kernel)) lO) zgs (zcr (JX.comp jx _ _) (zac 2) (zeR (λ_ => zcz) zcB (JE.asD (zeS (JX.comp jx _ _) (zeR (λ_ => zcQ) zdD (zac 1) zag) (JE.asD (zkB zag (zac 0))))) zag)))))
    zbq)
   (zaf (zaD 3 (L' := []) (λ_ => zdV.nd) (λ_ => (Or.inr rfl)) (JD.asE zcD))
   (zaf (zaD 4 (L' := [0, 3]) (λ_ => zdV.nd) (λ_ => (Or.inr rfl)) (zDl jx (zyh jx) zcD (zaa (JE.asD (zgd jx (NX := nL2) (SX := zae zdG) (N := ["_law_k", "_law_number", "_law_letters"]) (own := 1) (fi := [0, 3]) csm (JI.asC (zgr jx T.zec (zaa (zeR (λ_ => zcz) zcB (zeR (λ_ => zcQ) zdD (zac 0) zag) zag) zad aB))) (zaF 0 (λ_ => (show (["_law_k", "_law_number", "_law_letters"] : List Str).Nodup by decide +kernel)) lO) zgs (zcr (JX.comp jx _ _) (zac 2) (zeR (λ_ => zcz) zcB (zeR (λ_ => zcQ) zdD (zac 1) (JE.asD (zeS (JX.comp jx _ _) (JE.asD (zkB zag (zac 0))) zag))) zag)))) zad aM) aM))
   (zaf (zaD 5 (L' := [0, 4]) (λ_ => zdV.nd) (λ_ => (Or.inr rfl)) (JD.asE (zeR (λ_ => zcz) zcB (zeR (λ_ => zcQ) zdD (zac 0) zag) (JE.asD (zeS jx (JE.asD (zaL jx (zep jx) T.zeb bLn (zaa (zac 4) zad aN) aN)) zag)))))
   (zao (zaY (zgd jx (NX := nL2) (SX := zae zdG) (N := zEP) (own := 1) (fi := [0, 3, 4, 5]) csm (JI.asC (zgr jx T.zec (zaa (zac 1) zad aN))) (zaF 0 (λ_ => (show (zEP : List Str).Nodup by decide +kernel)) lO) zgs (JE.asD (zeS (JX.comp jx _ _) (JE.asD (zeS (JX.comp jx _ _) (JE.asD (zyf (JX.comp jx _ _) (zac 3) zht (zhu (zac 4)))) (zcr (JX.comp jx _ _) (zac 2) (zeR (λ_ => zcz) zcB (JE.asD (zeS (JX.comp jx _ _) (zeR (λ_ => zcQ) zdD (zac 1) zag) (JE.asD (zkB zag (zac 0))))) zag)))) (JE.asD (zyf (JX.comp jx _ _) (zac 3) (zhu (zac 4)) zht))))))))))))
theorem zmO (T : Txt K mg A) : FnOk P w K mg base CX0 2 A.zbR A.zgQ ["_law_cell"] (SpF (bk K A) 1 zbR) :=
  T.zgX.okJ zaU rfl λjx =>
   (zaf (zaD 1 (L' := [0]) (λ_ => zaU.nd) lO (zaM jx (zf5 T) (by decide) T.zdd T.zdW.kp (zg4 T) zaj (zaa (zac 0) (zaa zag zad aC) aN) aN))
   (zaf (zaD 2 (L' := []) (λ_ => zaU.nd) lO (zd1 (zaa (zcn (zaa zag (zaa zag zad aC) aC)) (zaa (zcn (zaa zag (zaa zag zad aC) aC)) (zaa (zcn (zaa zag (zaa zag zad aC) aC)) (zaa (zcn (zaa zag (zaa zag zad aC) aC)) (zaa (zcn (zaa zag (zaa zag zad aC) aC)) (zaa (zcn (zaa zag (zaa zag zad aC) aC)) (zaa (zcn (zaa zag (zaa zag zad aC) aC)) (zaa (zcn (zaa zag (zaa zag zad aC) aC)) (zaa (zcn (zaa zag (zaa zag zad aC) aC)) (zaa (zcn (zaa zag (zaa zag zad aC) aC)) (zaa (zcn (zaa zag (zaa zag zad aC) aC)) (zaa (zcn (zaa zag (zaa zag zad aC) aC)) zad aT) aT) aT) aT) aT) aT) aT) aT) aT) aT) aT) aT)))
   (zaf (zwo (L' := [1, 2]) (JD.asE (zcr jx (zac 2) (zeR (λ_ => zcz) zcB (zcr jx (zac 1) zag) zag))) (znq jx (zdO (zaF 3 (λ_ => zaU.nd) lO) (zdO (zaF 4 (λ_ => zaU.nd) lO) zkD))))
   (zaf (zcX (zbi (zlL jx) (zeR (λ_ => zcz) zcB (zcr jx (zac 1) zag) zag) zag (zaX _))
    (zao (zwo (L' := [1]) (JD.asE (zcr jx (JE.asD (zd1 (zaa (zcn (zaa zag (zaa zag zad aC) aC)) (zaa (zcn (zaa zag (zaa zag zad aC) aC)) (zaa (zcn (zaa zag (zaa zag zad aC) aC)) (zaa (zcn (zaa zag (zaa zag zad aC) aC)) zad aT) aT) aT) aT))) (zeR (λ_ => zcz) zcB (zeR (λ_ => zcQ) zdD (zcr jx (zac 1) zag) zag) zag))) (znq jx (zdO (zaF 3 (λ_ => zaU.nd) lO) (zdO (zaF 4 (λ_ => zaU.nd) lO) zkD)))))
    zbq)
   (zaf (zaD 5 (L' := [1, 4]) (λ_ => zaU.nd) lO (zaM jx (zjL T) (by decide) T.zdF T.zfU.kp (zld T) zaj (zaa (zcr jx (zac 1) zag) (zaa (zac 4) zad aN) aS) aS))
   (zaf (zaD 6 (L' := [5]) (λ_ => zaU.nd) lO (zeS jx (JE.asD (zyf jx (zac 5) (zhu (zeR (λ_ => zcz) zcB (zcr jx (zac 1) zag) (zac 4))) zht)) (JE.asD (zyf jx (zac 5) zht (zhu (zeR (λ_ => zcz) zcB (zcr jx (zac 1) zag) (zac 4)))))))
   (zaf (zcX (zbi (zlL jx) (zeR (λ_ => zcz) zcB (zcr jx (zac 1) zag) zag) zag (zaX _))
    (zao (zBf jx 6))
    zbq)
   (zaf (zaD 7 (L' := [1]) (λ_ => zaU.nd) lO (JD.asE (zcr jx (zac 1) zag)))
   (zaf (zaD 8 (L' := []) (λ_ => zaU.nd) lO (zd1 zad))
   (zaf (zge jx (zgr jx T.zec (zaa (zac 4) zad aN)) (zaF 9 (λ_ => zaU.nd) lO)
    (show JB _ _ _ zbY from (zao (zge jx (zyi jx T.zec (zaa (JE.asD (zeS jx (zac 9) zag)) (zaa (zac 4) zad aN) aB)) (zaF 10 (λ_ => zaU.nd) lO)
      (show JB _ _ _ zbX from (zaf (zcX (zbi (zlL jx) (zeR (λ_ => zcz) zcB (zac 7) zag) zag (zaX _))
        (zao (zlO jx 8 (L' := [6, 9, 10]) (zcn (zaa (zcr jx (zac 6) (zac 9)) (zaa (zcr jx (zac 6) (zac 10)) zad aS) aS)) aT))
        zbq)
       (zao (zaD 7 (L' := [7]) (λ_ => zaU.nd) lO (JD.asE (zeR (λ_ => zcQ) zdD (zac 7) zag))))))))))
   (zao (zaY (JD.asE (zcn (zaa (JE.asD (zaM jx (zjL T) (by decide) T.zdF T.zfU.kp (zld T) zaj (zaa (zcr jx (zac 1) zag) (zaa (zac 3) zad aN) aS) aS)) (zaa (zac 5) (zaa (zac 8) zad aN) aN) aL)))))))))))))))
theorem zqT (T : Txt K mg A) : FnOk P w K mg base CX0 1 A.zcY A.zkT ["thing"] (SpF (bk K A) 1 zcY) :=
  T.zkY.okJ zqH rfl λjx =>
   (zaf (zcX (zdS (zcW (JE.asD (zaL jx (zic jx (ze4 T)) T.zaP bIs (zaa (zac 0) (zaa (zsF jx T.zvD PyProof.Rows.Boot.«str») zad aN) aN) aN))))
    (zao (zaY (JD.asE zlr)))
    zbq)
   (zaf (zcX (JW.t (zjT (zbi zCl (JE.asD (zaL jx (zep jx) T.zeb bLn (zaa (zac 0) zad aN) aN)) zag (zaX _)) (zjz (zbi zBa (JE.asD (zaL jx (zep jx) T.zeb bLn (zaa (zac 0) zad aN) aN)) (zsE jx T.zlz) (zaX _)))))
    (zao (zaY (JD.asE zlr)))
    zbq)
   (zao (zaY (zaL jx (zDj jx) T.zyW PyProof.Rows.Boot.«all» (zaa (JE.asD (zgd jx (NX := ["thing"]) (SX := zae zil) (N := ["sign"]) (own := 1) (fi := []) csm (zhq jx (zac 0)) (zaF 0 (λ_ => (show (["sign"] : List Str).Nodup by decide +kernel)) lO) zgs (zgq (zwn (JX.comp jx _ _)) (zac 0) (zDi (JX.comp jx _ _) T.zs9) rfl))) zad aM) aM)))))
theorem zgk (T : Txt K mg A) : FnOk P w K mg base CX0 2 A.zaN A.zeH ["names", "most"] (SpF (bk K A) 2 zaN) :=
  T.zdp.okJ zd3 rfl λjx =>
   (zaf (zcX (JW.t (zjT (zbi zCl (JE.asD (zaL jx (zep jx) T.zeb bLn (zaa (zac 0) zad aN) aN)) zag (zaX _)) (zjz (zbi zBa (JE.asD (zaL jx (zep jx) T.zeb bLn (zaa (zac 0) zad aN) aN)) (zac 1) (zaX _)))))
    (zao zee)
    zbq)
   (zaf (zaD 2 (L' := []) (λ_ => zd3.nd) lO (zd1 zad))
   (zaf (zgt jx 0 (zaF 3 (λ_ => zd3.nd) lO)
    (show JB _ _ _ zbG from (zaf (zcX (zdS (zcW (JE.asD (zaM jx (zqT T) (by decide) T.zig T.zkY.kp (zta T) zaj (zaa (zac 3) zad aN) aN))))
      (zao zee)
      zbq)
     (zaf (zcX (zbi (zwn jx) (zac 3) (zac 2) rfl)
      (zao zee)
      zbq)
     (zao (zlO jx 2 (L' := [3]) (zac 3) aN))))))
   (zao (zaY (zid jx (zoz jx) T.zjg PyProof.Rows.Boot.«tuple» (zaa (zac 2) zad aN) aN))))))
theorem zf6 (T:Txt K mg A):FnOk P w K mg base CX0 1 A.zav A.ziV zCw (SpF (bk K A) 2 zav):=
 T.zel.okJ zoM rfl λjx=>
  (zao (zaY (JD.asE (zkC (JE.asD (zaL jx (zic jx (ze4 T)) T.zaP bIs (zaa (zac 0) (zaa (zsF jx T.zvD PyProof.Rows.Boot.«str») zad aN) aN) aN)) (zmx (zgq (zwn jx) (zac 0) (zac 1) rfl))))))
theorem zhr (T : Txt K mg A) : FnOk P w K mg base CX0 1 A.za1 A.zfQ ["pairs", "role"] (SpF (bk K A) 2 za1) :=
  T.zef.okJ zct rfl λjx =>
   (zaf (zaD 2 (L' := [1]) (λ_ => zct.nd) lO (zd1 (zaa (zac 1) zad aN)))
   (zaf (zaD 3 (L' := []) (λ_ => zct.nd) lO (JD.asE zag))
   (zaf (zvb jx (zbi zCl (zac 3) (JE.asD (zaL jx (zep jx) T.zeb bLn (zaa (zac 2) zad aN) aN)) (zaX _))
    (show JB _ _ _ zbM from (zaf (zgt jx 0 (znq jx (zdO (zaF 4 (λ_ => zct.nd) lO) (zdO (zaF 5 (λ_ => zct.nd) lO) zkD)))
      (show JB _ _ _ zbr from (zao (zcX (JW.t (zsG (zbi (zlL jx) (zac 5) (zcr jx (zac 2) (zac 3)) (zaX _)) (zox (zbi (zow jx) (zac 4) (zac 2) rfl))))
        (zao (zlO jx 2 (L' := [4]) (zac 4) aN))
        zbq))))
     (zao (zaD 3 (L' := [3]) (λ_ => zct.nd) lO (zeS jx (zac 3) zag))))))
   (zao (zhv 2)))))
theorem zj4 (T : Txt K mg A) : FnOk P w K mg base CX0 2 A.zaZ A.zeI ["pairs", "roles"] (SpF (bk K A) 2 zaZ) :=
  T.zeM.okJ zc6 rfl λjx =>
   (zaf (zcX (zbi zBa (JE.asD (zaL jx (zep jx) T.zeb bLn (zaa (zac 0) zad aN) aN)) (zsE jx T.znL) (zaX _))
    (zao zee)
    zbq)
   (zaf (zaD 2 (L' := []) (λ_ => zc6.nd) lO (zd1 zad))
   (zaf (zgt jx 0 (znq jx (zdO (zaF 3 (λ_ => zc6.nd) lO) (zdO (zaF 4 (λ_ => zc6.nd) lO) zkD)))
    (show JB _ _ _ zbH from (zaf (zcX (zdS (zcW (JE.asD (zaM jx (zf6 T) (by decide) T.zde T.zel.kp (zhl T) zaj (zaa (zac 3) (zaa (zac 1) zad aN) aN) aN))))
      (zao zee)
      zbq)
     (zaf (zcX (zdS (zcW (JE.asD (zaM jx (zf6 T) (by decide) T.zde T.zel.kp (zhl T) zaj (zaa (zac 4) (zaa (zac 1) zad aN) aN) aN))))
      (zao zee)
      zbq)
     (zaf (zcX (zbi (zwn jx) (zcn (zaa (zac 3) (zaa (zac 4) zad aN) aN)) (zac 2) rfl)
      (zao zee)
      zbq)
     (zaf (zcX (zbi (zwn jx) (zac 4) (JE.asD (zaM jx (zhr T) (by decide) T.zdh T.zef.kp (ziw T) zaj (zaa (zac 2) (zaa (zac 3) zad aN) aN) aN)) rfl)
      (zao zee)
      zbq)
     (zao (zlO jx 2 (L' := [3, 4]) (zcn (zaa (zac 3) (zaa (zac 4) zad aN) aN)) aT))))))))
   (zao (zaY (zid jx (zoz jx) T.zjg PyProof.Rows.Boot.«tuple» (zaa (zac 2) zad aN) aN))))))
theorem zjl (T : Txt K mg A) : FnOk P w K mg base CX0 1 A.zaO A.zd5 ["folk", "roles"] (SpF (bk K A) 2 zaO) :=
  T.zd7.okJ zbL rfl λjx =>
   (zaf (zaD 2 (L' := []) (λ_ => zbL.nd) lO zBd)
   (zaf (zaD 3 (L' := []) (λ_ => zbL.nd) lO (JD.asE zag))
   (zaf (zgt jx 0 (zaF 4 (λ_ => zbL.nd) lO)
    (show JB _ _ _ zbf from (zao (zgt jx 1 (zaF 5 (λ_ => zbL.nd) lO)
      (show JB _ _ _ zbx from (zaf (zwp jx 2 (L' := [3]) (zcn (zaa (zac 4) (zaa (zac 5) zad aN) aN)) (zac 3))
       (zao (zaD 3 (L' := [3]) (λ_ => zbL.nd) lO (zeS jx (zac 3) (zac 3))))))))))
   (zao (zhv 2)))))
theorem zho (T : Txt K mg A) : FnOk P w K mg base CX0 2 A.zaA A.zda ["roles", "pairs"] (SpF (bk K A) 2 zaA) :=
  T.zdb.okJ zb3 rfl λjx =>
   (zaf (zaD 2 (L' := []) (λ_ => zb3.nd) lO zBc)
   (zaf (zgt jx 0 (zaF 3 (λ_ => zb3.nd) lO)
    (show JB _ _ _ zba from (zaf (zaD 4 (L' := [1, 3]) (λ_ => zb3.nd) (λ_ => (Or.inr rfl)) (zaM jx (zhr T) (by decide) T.zdh T.zef.kp (ziw T) zaj (zaa (zac 1) (zaa (zac 3) zad aN) aN) aN))
     (zao (zwp jx 2 (L' := [0, 4]) (zac 3) (JE.asD (zid jx (zoz jx) T.zjg PyProof.Rows.Boot.«tuple» (zaa (JE.asD (zgd jx (NX := zER) (SX := zae zcl) (N := ["upper", "found"]) (own := 1) (fi := [4]) csm (zhq jx (zac 0)) (zaF 0 (λ_ => (show (["upper", "found"] : List Str).Nodup by decide +kernel)) lO) (ziJ (zbi (zwn (JX.comp jx _ _)) (zac 0) (zac 1) rfl)) (zac 0))) zad aM) aM)))))))
   (zao (zhv 2))))
theorem zgl (T : Txt K mg A) : FnOk P w K mg base CX0 3 A.zeJ A.zeK zCr (SpI (bk K A) 4 zbs) :=
  T.zgY.okIJ zjW rfl λjx =>
   (zaf (zlN jx 0 (L' := [1]) (zkg T) (JE.asD (zaM jx (zgk T) (by decide) T.zcG T.zdp.kp (zg5 T) zaj (zaa (zac 1) (zaa (zsE jx T.zoS) zad aN) aN) aN)))
   (zaf (zlN jx 0 (L' := [2]) (zfx T) (JE.asD (zaM jx (zgk T) (by decide) T.zcG T.zdp.kp (zg5 T) zaj (zaa (zac 2) (zaa (zsE jx T.znM) zad aN) aN) aN)))
   (zaf (zcX (zbi zBa (JE.asD (zkB (JE.asD (zaL jx (zep jx) T.zeb bLn (zaa (zcT jx 0 (zkg T) (zac 0)) zad aA) aA)) (JE.asD (zaL jx (zep jx) T.zeb bLn (zaa (zcT jx 0 (zfx T) (zac 0)) zad aA) aA)))) (zsE jx T.zoR) (zaX _))
    (zao zee)
    zbq)
   (zaf (zlN jx 0 (L' := [3]) (znS T) (JE.asD (zaM jx (zj4 T) (by decide) T.zdi T.zeM.kp (zle T) zaj (zaa (zac 3) (zaa (zcT jx 0 (zfx T) (zac 0)) zad aA) aN) aN)))
   (zaf (zlN jx 0 (L' := []) (zdQ T) (JE.asD (zaM jx (zjl T) (by decide) T.zc5 T.zd7.kp (zj2 T) zaj (zaa (zcT jx 0 (zkg T) (zac 0)) (zaa (zcT jx 0 (zfx T) (zac 0)) zad aA) aA) aA)))
   (zao (zlN jx 0 (L' := []) (zjK T) (JE.asD (zaM jx (zho T) (by decide) T.zcf T.zdb.kp (zhS T) zaj (zaa (zcT jx 0 (zfx T) (zac 0)) (zaa (zcT jx 0 (znS T) (zac 0)) zad aA) aA) aA)))))))))
theorem zmP (T : Txt K mg A) : FnOk P w K mg base CX0 2 A.zbS A.zgR zDG (SpF (bk K A) 2 zbS) :=
  T.zgZ.okJ zim rfl λjx =>
   (zaf (zaD 2 (L' := [0]) (λ_ => zim.nd) (λ_ => (Or.inr rfl)) (JD.asE (zeR (λ_ => zpf) zpn zag (JE.asD (zkB (JE.asD (zaL jx (zep jx) T.zeb bLn (zaa (zcr jx (zac 0) zag) zad aS) aS)) (JE.asD (zaL jx (zep jx) T.zeb bLn (zaa (zcr jx (zac 0) zag) zad aS) aS)))))))
   (zaf (zcX (zbi zEC (zac 2) zag (zaX _))
    (zao (zaY (zsS jx T.zl2 T.zec (zaa (zac 2) zad aN) aN)))
    zbq)
   (zao (zaY (zeS jx (JE.asD (zd1 (zaa zag (zaa (zeR (λ_ => zz0) zAQ (zac 2) zag) zad aB) aC))) (JE.asD (zgd jx (NX := ["_law_told", "_law_cell", "_law_many"]) (SX := zae ze1) (N := zBH) (own := 1) (fi := [2]) csm (zhq jx (JE.asD (zaM jx (zf5 T) (by decide) T.zdd T.zdW.kp (zg4 T) zaj (zaa (zac 1) (zaa zag zad aC) aN) aN))) (zaF 0 (λ_ => (show (zBH : List Str).Nodup by decide +kernel)) lO) zgs (zeR (λ_ => zcz) zcB (zac 0) (zac 1)))))))))
theorem zfi (T : Txt K mg A) : FnOk P w K mg base CX0 1 A.zaH A.zfR zCu (SpF (bk K A) 2 zaH) :=
  T.zdq.okJ zlw rfl λjx =>
   (zaf (zcX (zbi zCl (zac 1) (JE.asD (zaL jx (zep jx) T.zeb bLn (zaa (zac 0) zad aN) aN)) (zaX _))
    (zao (zaY (JD.asE (zcr jx (zac 0) (zac 1)))))
    zbq)
   (zao (zaY (JD.asE zag))))
theorem zaE (T:Txt K mg A):FnOk P w K mg base CX0 1 A.zcC A.zdo zwC (SpI (bk K A) 2 zah):=
 T.ze2.okIJ zhB rfl λjx=>
  (zao (zlN jx 0 (L':=[1]) (zdR T) (zac 1)))
theorem zlg (T:Txt K mg A):FnOk P w K mg base CX0 1 A.zbh A.ziW zyT (SpF (bk K A) 2 zbh):=
 T.zhi.okJ zoN rfl λjx=>
  (zao (zaY (JD.asE (zkC (zgq (zlL jx) (zac 0) (zac 1) (zaX _)) (zmx (zgq (zlL jx) (JE.asD (zaL jx (zic jx (ze4 T)) T.zaP bIs (zaa (zcr jx (zac 0) zag) (zaa (zsF jx T.zjI PyProof.Rows.Boot.«bool») zad aN) aS) aS)) (JE.asD (zaL jx (zic jx (ze4 T)) T.zaP bIs (zaa (zcr jx (zac 1) zag) (zaa (zsF jx T.zjI PyProof.Rows.Boot.«bool») zad aN) aS) aS)) (zaX _)))))))
theorem zoX (T:Txt K mg A):FnOk P w K mg base CX0 1 A.zbI A.ziX ["thing"] (SpF (bk K A) 1 zbI):=
 T.zi2.okJ zoO rfl λjx=>
  (zao (zaY (JD.asE (zkC (JE.asD (zaL jx (zic jx (ze4 T)) T.zaP bIs (zaa (zac 0) (zaa (zsF jx T.zvC PyProof.Rows.Boot.«int») zad aN) aN) aN)) (zmx (zBb (JE.asD (zaL jx (zic jx (ze4 T)) T.zaP bIs (zaa (zac 0) (zaa (zsF jx T.zjI PyProof.Rows.Boot.«bool») zad aN) aN) aN))))))))
theorem zlA (T:Txt K mg A):FnOk P w K mg base CX0 1 A.zbo A.zfS zrm (SpF (bk K A) 1 zbo):=
 T.zir.okJ zlx rfl λjx=>
  (zao (zaY (zaL jx (zep jx) T.zeb bLn (zaa (zcT jx 0 (zdQ T) (zac 0)) zad aA) aA)))
theorem ziy (T:Txt K mg A):FnOk P w K mg base CX0 2 A.zak A.zdJ nL4 (SpF (bk K A) 2 zak):=
 T.zft.okJ zin rfl λjx=>
  (zao (zaY (JD.asE (zkC (JE.asD (zaM jx (zoX T) (by decide) T.zei T.zi2.kp (zqQ T) zaj (zaa (zac 1) zad aN) aN)) (zkC (zgq zFa (zac 1) zag (zaX _)) (zmx (zgq zEC (JE.asD (zDm jx zsH (zac 1))) (JE.asD (zoy jx (cn:=2) (zac 0) T.zbe T.zly (zlA T) (by decide) (zmN T) rfl zaj)) (zaX _))))))))
theorem zf7 (T : Txt K mg A) : FnOk P w K mg base (CX1 P w) 3 A.zas A.zcw nL4 (SpX (bk K A) 2 zas zaG) :=
  T.zdw.okXJ zfL rfl λjr =>
   (zdf (zsQ (zdS (zcW (JE.asD (zhp jr.jx (cn := 2) (zac 0) T.zbe T.ziu (ziy T) (by decide) (zjh T) rfl zaj (zaa (zac 1) zad aN) aN))))
    (zdf (zkG jr (cn := 6) T.zl1 T.zi9 T.zqO T.zja T.zl0 (zoW T) (by decide) rfl (zac 1) aN))
    (zpw zbq)))
theorem zcy (T : Txt K mg A) : FnOk P w K mg base (CX1 P w) 3 A.zai A.zcN nL4 (SpX (bk K A) 2 zai zap) :=
  T.zdX.okXJ zgn rfl λjr =>
   (zdf (zsQ (zdS (zcW (JE.asD (zaM jr.jx (zf6 T) (by decide) T.zde T.zel.kp (zhl T) zaj (zaa (zac 1) (zaa (zcT jr.jx 0 (zkg T) (zac 0)) zad aA) aN) aN))))
    (zdf (zkG jr (cn := 4) T.znJ T.zk3 T.zs5 T.zk4 T.znH (zqR T) (by decide) rfl (zac 1) aN))
    (zpw zbq)))
theorem zdy (T : Txt K mg A) : FnOk P w K mg base (CX1 P w) 3 A.zan A.zcO nL4 (SpX (bk K A) 2 zan zaw) :=
  T.zdY.okXJ zgo rfl λjr =>
   (zdf (zsQ (zdS (zcW (JE.asD (zaM jr.jx (zf6 T) (by decide) T.zde T.zel.kp (zhl T) zaj (zaa (zac 1) (zaa (zcT jr.jx 0 (zfx T) (zac 0)) zad aA) aN) aN))))
    (zdf (zkG jr (cn := 5) T.znK T.zk7 T.zs7 T.zk8 T.znI (zqS T) (by decide) rfl (zac 1) aN))
    (zpw zbq)))
theorem ze5 (T : Txt K mg A) : FnOk P w K mg base (CX1 P w) 4 A.zar A.zdK zwC (SpX (bk K A) 2 zar zaI) :=
  T.zfu.okXJ zio rfl λjr =>
   (zeV (zlR (zc4 jr (cn := 2) (zac 0) T.zbe T.zdx (zdy T) (by decide) (zdZ T) rfl za7 zb2 (zaa (zac 1) zad aN) aN))
   (zdf (zpv (zaY (zid jr.jx (zBe jr.jx) T.zl2 PyProof.Rows.Boot.«list» (zaa (zyg jr.jx (zcT jr.jx 0 (zjK T) (zac 0)) (zac 1)) zad aS) aS)))))
theorem zgm (T : Txt K mg A) : FnOk P w K mg base (CX1 P w) 5 A.zat A.zeL zyU (SpX (bk K A) 3 zat zaB) :=
  T.zg0.okXJ zc7 rfl λjr =>
   (zeV (zlR (zc4 jr (cn := 2) (zac 0) T.zbe T.zcx (zcy T) (by decide) (zcP T) rfl za7 zb2 (zaa (zac 1) zad aN) aN))
   (zeV (zpv (zaD 3 (L' := []) (λ_ => zc7.nd) lO (JD.asE zag)))
   (zeV (zvq jr.jx [0, 2] (zc4 jr (cn := 2) (zac 0) T.zbe T.ze3 (ze5 T) (by decide) (zfw T) rfl za7 zb2 (zaa (zac 2) zad aN) aN) (zaF 4 (λ_ => zc7.nd) lO)
    (show JBX _ _ _ _ zbk from (zpw (zao (zaD 3 (L' := [1, 3, 4]) (λ_ => zc7.nd) lO (JD.asE (zeR (λ_ => zCE) zCY (zac 3) (zyg jr.jx (zcT jr.jx 0 (zdQ T) (zac 0)) (zcn (zaa (zac 1) (zaa (zac 4) zad aN) aN))))))))))
   (zdf (zpv (zhv 3))))))
theorem ziz (T : Txt K mg A) : FnOk P w K mg base (CX1 P w) 6 A.zaC A.zgS zCs (SpX (bk K A) 4 zaC za0) :=
  T.zjE.okXJ zmH rfl λjr =>
   (zeV (zlR (zc4 jr (cn := 2) (zac 0) T.zbe T.zfW (zf7 T) (by decide) (zgp T) rfl za7 zb2 (zaa (zac 1) zad aN) aN))
   (zdf (zkF (JDX.asE (zvo (zrl jr.jx) (zyy (λ_ => zrA) zsu (zac 1) (JEX.asD (zc4 jr (cn := 2) (zac 0) T.zbe T.zgj (zgm T) (by decide) (zg7 T) rfl za7 zb2 (zaa (zac 2) (zaa (zac 3) zad aN) aN) aN))) zag (zaX _))))))
theorem zg8 (T:Txt K mg A):FnOk P w K mg base (CX1 P w) 7 A.zaQ A.zhH nL5 (SpX (bk K A) 4 zaQ zbZ):=
 T.zkZ.okXJ znz rfl λjr=>
  (zdf (zkF (zc4 jr (cn:=2) (zac 1) T.zbe T.zit (ziz T) (by decide) (zjJ T) rfl za7 zb2 (zaa (zac 2) (zaa (zac 3) (zaa (zcT jr.jx 0 (zdR T) (zac 0)) zad aA) aN) aN) aN)))
theorem zg9 (T:Txt K mg A):FnOk P w K mg base (CX1 P w) 7 A.zaR A.zhI nL5 (SpX (bk K A) 4 zaR zb0):=
 T.zk0.okXJ znA rfl λjr=>
  (zdf (zkF (JDX.asE (zyx (JEX.asD (zc4 jr (cn:=2) (zac 1) T.zbe T.zit (ziz T) (by decide) (zjJ T) rfl za7 zb2 (zaa (zac 2) (zaa (zac 3) (zaa (zcT jr.jx 0 (zdR T) (zac 0)) zad aA) aN) aN) aN))))))
theorem zmQ (T : Txt K mg A) : FnOk P w K mg base (CX1 P w) 4 A.zbd A.zgT zyU (SpX (bk K A) 3 zbd zgG) :=
  T.zjF.okXJ zmI rfl λjr =>
   (zeV (zlR (zc4 jr (cn := 2) (zac 0) T.zbe T.zcx (zcy T) (by decide) (zcP T) rfl za7 zb2 (zaa (zac 1) zad aN) aN))
   (zeV (zlR (zc4 jr (cn := 2) (zac 0) T.zbe T.zdx (zdy T) (by decide) (zdZ T) rfl za7 zb2 (zaa (zac 2) zad aN) aN))
   (zdf (zpv (zaY (JD.asE (zyg jr.jx (zcT jr.jx 0 (zdQ T) (zac 0)) (zcn (zaa (zac 1) (zaa (zac 2) zad aN) aN)))))))))
theorem zhV (T : Txt K mg A) : FnOk P w K mg base (CX1 P w) 5 A.za5 A.ziY nL9 (SpX (bk K A) 3 za5 zbO) :=
  T.zlW.okXJ zoP rfl λjr =>
   (zeV (zlR (zc4 jr (cn := 2) (zac 1) T.zbe T.zcx (zcy T) (by decide) (zcP T) rfl za7 zb2 (zaa (zac 2) zad aN) aN))
   (zdf (zkF (zvp jr.jx (NX := nL9) (SX := zae zhh) (N := ["upper", "office", "who"]) (own := 1) (fi := [1, 2]) csm (JEX.asD (zc4 jr (cn := 2) (zac 1) T.zbe T.ze3 (ze5 T) (by decide) (zfw T) rfl za7 zb2 (zaa (zcT jr.jx 0 (zdR T) (zac 0)) zad aA) aA)) (zaF 0 (λ_ => (show (["upper", "office", "who"] : List Str).Nodup by decide +kernel)) lO) zgs (zcn (zaa (JE.asD (zhp (JX.comp jr.jx _ _) (cn := 2) (zac 1) T.zbe T.zmM (FnOk.calm (zmQ T)) (by decide) (znP T) rfl za7 (zaa (zac 2) (zaa (zac 0) zad aN) aN) aN)) (zaa zag zad aC) aL))))))
theorem zhW (T:Txt K mg A):FnOk P w K mg base (CX1 P w) 6 A.za6 A.ziZ nL9 (SpX (bk K A) 3 za6 zcs):=
 T.zlX.okXJ zoQ rfl λjr=>
  (zdf (zkF (zyz (zww (zyA (zBy zag (zww (JEX.asD (zc4 jr (cn:=2) (zac 1) T.zbe T.zgj (zgm T) (by decide) (zg7 T) rfl za7 zb2 (zaa (zac 2) (zaa (zcT jr.jx 0 (zdR T) (zac 0)) zad aA) aN) aN)) zad aL) aC)) zad aT))))
theorem zfj (T : Txt K mg A) : FnOk P w K mg base CX0 8 A.zau A.zfT zDA (SpF (bk K A) 5 zau) :=
  T.zdr.okJ zbE rfl λjx =>
   (zaf (zaD 5 (L' := []) (λ_ => zbE.nd) lO (JD.asE zyc))
   (zaf (zyB [1, 2, 3, 4]
    (zoD (zBw (zbi (zlL jx) (zac 0) zag (zaX _))
     (zoD (zwv (JTX.or (zkd jx (cn := 0) (zac 2) T.zjG T.zg2 (zg8 T) (by decide) (zhT T) rfl za7 zb2 (zaa (zac 1) (zaa (zac 3) (zaa (zac 4) zad aN) aN) aN) aN)
      (zkd jx (cn := 1) (zac 2) T.zjH T.zg3 (zg9 T) (by decide) (zhU T) rfl za7 zb2 (zaa (zac 1) (zaa (zac 3) (zaa (zac 4) zad aN) aN) aN) aN))))
     (zoD (zwv (JTX.or (zkd jx (cn := 0) (zac 2) T.zjG T.zhQ (zhV T) (by decide) (zji T) rfl za7 zb2 (zaa (zac 1) (zaa (zac 4) zad aN) aN) aN)
      (zkd jx (cn := 1) (zac 2) T.zjH T.zhR (zhW T) (by decide) (zjj T) rfl za7 zb2 (zaa (zac 1) (zaa (zac 4) zad aN) aN) aN))))))
    (zyv jx 6 (ct := 6) (tabx := tabx) (λ_ => zbE.nd) T.zl0 rfl (zoV T)
    (zao (zaD 5 (L' := [6]) (λ_ => zbE.nd) lO (JD.asE (zcn (zaa zcD (zaa (zDv (JX.marked jx) (cs := [6]) (zac 6) (zvE T)) zad aA) aC)))))
    (zyv jx 6 (ct := 4) (tabx := tabx) (λ_ => zbE.nd) T.znH rfl (zoV T)
    (zao (zaD 5 (L' := [6]) (λ_ => zbE.nd) lO (JD.asE (zcn (zaa zcD (zaa (zDv (JX.marked jx) (cs := [4, 5]) (zac 6) (ztd T)) zad aA) aC)))))
    (zyv jx 6 (ct := 5) (tabx := tabx) (λ_ => zbE.nd) T.znI rfl (zoV T)
    (zao (zaD 5 (L' := [6]) (λ_ => zbE.nd) lO (JD.asE (zcn (zaa zcD (zaa (zDv (JX.marked jx) (cs := [4, 5]) (zac 6) (ztd T)) zad aA) aC)))))
    zBx))))
   (zao (zhv 5))))
theorem zjm (T : Txt K mg A) : FnOk P w K mg base CX0 9 A.za8 A.zd6 zDC (SpF (bk K A) 3 za8) :=
  T.zd8.okJ zbm rfl λjx =>
   (zaf (zaD 3 (L' := [1]) (λ_ => zbm.nd) lO (JD.asE (zcr jx (JE.asD (zgd jx (NX := nL7) (SX := zae zc8) (N := ["_law_name", "_law_told"]) (own := 1) (fi := [1]) csm (zhq jx (JE.asD (zd1 (zaa zcD (zaa zcD (zaa zcD (zaa zcD (zaa zcD (zaa zcD (zaa zcD zad aC) aC) aC) aC) aC) aC) aC)))) (zaF 0 (λ_ => (show (["_law_name", "_law_told"] : List Str).Nodup by decide +kernel)) lO) (ziJ (zbi (zow (JX.comp jx _ _)) (zac 0) (zcr (JX.comp jx _ _) (zac 1) zag) rfl)) (zac 0))) zag)))
   (zaf (zaD 4 (L' := [1, 2]) (λ_ => zbm.nd) lO (JD.asE (zcr jx (JE.asD (zd1 (zaa zyc (zaa zag (zaa zlr (zaa zcD (zaa zcD (zaa zcD (zaa (zcn (zaa (zcr jx (zcr jx (zac 1) zag) zag) zad aS)) (zaa (JE.asD (zd1 (zaa (zcr jx (zcr jx (zac 1) zag) zag) zad aS))) zad aK) aT) aC) aC) aC) aC) aC) aC))) (zeR (λ_ => zcz) zcB (zac 2) zag))))
   (zaf (zaD 5 (L' := [1, 2]) (λ_ => zbm.nd) lO (JD.asE (zcr jx (JE.asD (zd1 (zaa (zye zag) (zaa (zeR (λ_ => zpf) zpn zag (JE.asD (zkB (JE.asD (zaL jx (zep jx) T.zeb bLn (zaa (zcr jx (zac 1) zag) zad aS) aS)) (JE.asD (zaL jx (zep jx) T.zeb bLn (zaa (zcr jx (zac 1) zag) zad aS) aS))))) (zaa zlr (zaa zlr (zaa zyc (zaa zcD (zaa (zcn (zaa zag zad aC)) (zaa (JE.asD (zd1 (zaa zag zad aC))) (zaa (zeR (λ_ => zz2) zAR zag zag) zad aB) aK) aT) aC) aC) aC) aC) aB) aU))) (zeR (λ_ => zcz) zcB (zeR (λ_ => zcQ) zdD (zac 2) zag) zag))))
   (zaf (zge jx (zlM jx [1, 3] (zd1 (zaa (JE.asD (zgc jx (cn := 0) T.zs3 (zaE T) (by decide) T.zlY (zaK T) rfl zcm (zaa (zac 3) zad aN) aN)) (zaa (JE.asD (zgc jx (cn := 1) T.zs4 (zaE T) (by decide) T.zlZ (zaK T) rfl zcm (zaa (zac 3) zad aN) aN)) (zaa (JE.asD (zgc jx (cn := 0) T.zs3 (zaE T) (by decide) T.zlY (zaK T) rfl zcm (zaa (zcr jx (zcr jx (zac 1) zag) zag) zad aS) aS)) (zaa (JE.asD (zgc jx (cn := 1) T.zs4 (zaE T) (by decide) T.zlZ (zaK T) rfl zcm (zaa (zcr jx (zcr jx (zac 1) zag) (zye zag)) zad aS) aS)) zad aL) aL) aL) aL))) (zaF 6 (λ_ => zbm.nd) lO)
    (show JB _ _ _ zbg from (zaf (zcX (zdS (zcW (JE.asD (zaM jx (zlg T) (by decide) T.zfp T.zhi.kp (zl3 T) zaj (zaa (JE.asD (zaM jx (zfj T) (by decide) T.zbC T.zdr.kp (zf4 T) zaj (zaa zag (zaa (zac 0) (zaa (zac 6) (zaa (zac 5) (zaa (zac 4) zad aN) aN) aN) aN) aC) aC)) (zaa (zcn (zaa zcD (zaa (zac 5) zad aN) aC)) zad aT) aL) aL))))
      (zao (zaY (JD.asE zlr)))
      zbq)
     (zao (zge jx (zgr jx T.zec (zaa zag zad aC)) (zaF 7 (λ_ => zbm.nd) lO)
      (show JB _ _ _ za3 from (zaf (zcX (zdS (zcW (JE.asD (zaM jx (zlg T) (by decide) T.zfp T.zhi.kp (zl3 T) zaj (zaa (JE.asD (zaM jx (zfj T) (by decide) T.zbC T.zdr.kp (zf4 T) zaj (zaa (zac 7) (zaa (zac 0) (zaa (zac 6) (zaa zag (zaa (zac 4) zad aN) aC) aN) aN) aN) aN)) (zaa (zcn (zaa zcD (zaa (zac 4) zad aN) aC)) zad aT) aL) aL))))
        (zao (zaY (JD.asE zlr)))
        zbq)
       (zaf (zaD 8 (L' := [0, 1, 6, 7]) (λ_ => zbm.nd) lO (zaM jx (zfj T) (by decide) T.zbC T.zdr.kp (zf4 T) zaj (zaa (zac 7) (zaa (zac 0) (zaa (zac 6) (zaa zag (zaa (zcr jx (zcr jx (zac 1) zag) (zye zag)) zad aS) aC) aN) aN) aN) aN))
       (zao (zcX (JW.t (zsG (zbi (zlL jx) (zcT jx 6 (zdR T) (zac 6)) (zac 3) (zaX _)) (zox (zbi (zrl jx) (zac 8) (zcn (zaa zcD (zaa (zac 3) zad aN) aC)) (zaX _)))))
        (zao (zaY (JD.asE zlr)))
        zbq))))))))))
   (zao (zaY (JD.asE zlr)))))))
theorem zmR (T:Txt K mg A):FnOk P w K mg base CX0 1 A.zbD A.zgU ["_law_told"] (SpF (bk K A) 1 zbD):=
 T.zg1.okJ zmJ rfl λjx=>
  (zao (zaY (JD.asE (zcn (zaa (JE.asD (zsT jx T.zl2 T.zjf (zaa (zcr jx (zac 0) zag) zad aS) aS)) (zaa (JE.asD (zeS jx (JE.asD (zyf jx (zcr jx (zac 0) zag) (zhu zag) zht)) (JE.asD (zyf jx (zcr jx (zac 0) zag) zht (zhu zag))))) (zaa (JE.asD (zyf jx (zcr jx (zac 0) zag) (zhu zag) zht)) zad aS) aB) aL)))))
theorem zdt (T : Txt K mg A) : FnOk P w K mg base CX0 1 A.zaq A.zfe zDH (SpF (bk K A) 2 zaq) :=
  T.zcu.okJ zdl rfl λjx =>
   (zaf (zaD 2 (L' := [1]) (λ_ => zdl.nd) (λ_ => (Or.inr rfl)) (zd1 (zaa (zac 1) zad aN)))
   (zaf (zge jx (zgr jx T.zec (zaa (JE.asD (zaL jx (zep jx) T.zeb bLn (zaa (zcr jx (zac 0) zag) zad aS) aS)) zad aL)) (zaF 3 (λ_ => zdl.nd) lO)
    (show JB _ _ _ zbA from (zao (zaD 2 (L' := [0, 2]) (λ_ => zdl.nd) (λ_ => (Or.inr rfl)) (zeS jx (zac 2) (JE.asD (zgd jx (NX := zDB) (SX := zae zc1) (N := zDD) (own := 2) (fi := [2]) csm (zhq jx (zcr jx (zac 0) zag)) (znq (JX.comp jx _ _) (zdO (zaF 0 (λ_ => (show (zDD : List Str).Nodup by decide +kernel)) lO) (zdO (zaF 1 (λ_ => (show (zDD : List Str).Nodup by decide +kernel)) lO) zkD))) (ziJ (JW.t (zsG (zbi (zwn (JX.comp jx _ _)) (zac 1) (zac 2) rfl) (zox (zbi (zow (JX.comp jx _ _)) (zac 0) (zac 2) rfl))))) (zac 0))))))))
   (zao (zaY (zgd jx (NX := zDB) (SX := zae zc1) (N := ["_law_name", "_law_known"]) (own := 1) (fi := [2]) csm (zhq jx (zcr jx (zac 0) zag)) (zaF 0 (λ_ => (show (["_law_name", "_law_known"] : List Str).Nodup by decide +kernel)) lO) (ziJ (zbi (zwn (JX.comp jx _ _)) (zac 0) (zac 1) rfl)) (zac 0))))))
theorem zhm (T:Txt K mg A):FnOk P w K mg base CX0 1 A.zaT A.zkU nL6 (SpF (bk K A) 3 zaT):=
 T.zfv.okJ zqI rfl λjx=>
  (zao (zaY (JD.asE (zeR (λ_=>zpf) zpn zag (JE.asD (zeS jx (JE.asD (zkB (JE.asD (zDl jx (zpq jx) (zcr jx (zac 0) zag) (zaa (zac 1) zad aN) aN)) (JE.asD (zaL jx (zep jx) T.zeb bLn (zaa (zcr jx (zac 0) zag) zad aS) aS)))) (JE.asD (zDl jx (zpq jx) (zcr jx (zac 0) zag) (zaa (zac 2) zad aN) aN))))))))
theorem znT (T:Txt K mg A):FnOk P w K mg base CX0 2 A.zbN A.zhJ nL1 (SpF (bk K A) 4 zbN):=
 T.zhM.okJ znB rfl λjx=>
  (zao (zaY (JD.asE (zgq (zlL jx) (zeR (λ_=>zcz) zcB (zeR (λ_=>zcQ) zdD (zac 1) (JE.asD (zaM jx (zhm T) (by decide) T.zev T.zfv.kp (zix T) zaj (zaa (zac 0) (zaa (zac 2) (zaa (zac 3) zad aN) aN) aN) aN))) zag) zag (zaX _)))))
theorem zl6 (T:Txt K mg A):FnOk P w K mg base CX0 3 A.zbT A.zkV nL1 (SpF (bk K A) 4 zbT):=
 T.zis.okJ zqJ rfl λjx=>
  (zao (zaY (JD.asE (zgq (zrl jx) (JE.asD (zgd jx (NX:=nL1) (SX:=zae ziq) (N:=zEQ) (own:=1) (fi:=[0,1,2]) csm (zhq jx (JE.asD (zaM jx (zdt T) (by decide) T.zb1 T.zcu.kp (zdP T) zaj (zaa (zac 0) (zaa (zac 3) zad aN) aN) aN))) (zaF 0 (λ_=>(show (zEQ:List Str).Nodup by decide +kernel)) lO) (ziJ (zcW (JE.asD (zaM (JX.comp jx _ _) (znT T) (by decide) T.zfH T.zhM.kp (zoT T) zaj (zaa (zac 1) (zaa (zac 2) (zaa (zac 3) (zaa (zac 0) zad aN) aN) aN) aN) aN)))) (zac 0))) (JE.asD (zd1 zad)) (zaX _)))))
theorem zlh (T : Txt K mg A) : FnOk P w K mg base CX0 2 A.zbK A.zi0 nL6 (SpF (bk K A) 3 zbK) :=
  T.zhj.okJ zfN rfl λjx =>
   (zaf (zaD 3 (L' := []) (λ_ => zfN.nd) lO (JD.asE zag))
   (zaf (zge jx (zlM jx [0, 2] (zaM jx (zdt T) (by decide) T.zb1 T.zcu.kp (zdP T) zaj (zaa (zac 0) (zaa (zac 2) zad aN) aN) aN)) (zaF 4 (λ_ => zfN.nd) lO)
    (show JB _ _ _ zcJ from (zao (zaD 3 (L' := [0, 1, 3, 4]) (λ_ => zfN.nd) lO (zeS jx (zac 3) (JE.asD (zaM jx (zhm T) (by decide) T.zev T.zfv.kp (zix T) zaj (zaa (zac 0) (zaa (zac 1) (zaa (zac 4) zad aN) aN) aN) aN)))))))
   (zao (zhv 3))))
theorem ziA (T : Txt K mg A) : FnOk P w K mg base CX0 8 A.za2 A.zdL zDE (SpF (bk K A) 2 za2) :=
  T.zdM.okJ zaV rfl λjx =>
   (zaf (zaD 2 (L' := [0, 1]) (λ_ => zaV.nd) (λ_ => (Or.inr rfl)) (JD.asE (zcr jx (zcr jx (zac 0) zag) (zeR (λ_ => zcz) zcB (zac 1) (JE.asD (zaL jx (zep jx) T.zeb bLn (zaa (zcr jx (zac 0) zag) zad aS) aS))))))
   (zaf (zaD 3 (L' := [0, 1]) (λ_ => zaV.nd) lO (JD.asE (zcr jx (zcr jx (zac 0) zag) (zeR (λ_ => zcz) zcB (zeR (λ_ => zcQ) zdD (zac 1) zag) (JE.asD (zaL jx (zep jx) T.zeb bLn (zaa (zcr jx (zac 0) zag) zad aS) aS))))))
   (zaf (zaD 4 (L' := [0, 1]) (λ_ => zaV.nd) lO (JD.asE (zeR (λ_ => zcz) zcB (zeR (λ_ => zcQ) zdD (zac 1) zag) (zeR (λ_ => zpf) zpn zag (JE.asD (zkB (JE.asD (zaL jx (zep jx) T.zeb bLn (zaa (zcr jx (zac 0) zag) zad aS) aS)) (JE.asD (zaL jx (zep jx) T.zeb bLn (zaa (zcr jx (zac 0) zag) zad aS) aS))))))))
   (zaf (zaD 5 (L' := [3]) (λ_ => zaV.nd) lO (zgc jx (cn := 0) T.zs3 (zaE T) (by decide) T.zlY (zaK T) rfl zcm (zaa (zac 3) zad aN) aN))
   (zaf (zaD 6 (L' := [3]) (λ_ => zaV.nd) lO (zgc jx (cn := 1) T.zs4 (zaE T) (by decide) T.zlZ (zaK T) rfl zcm (zaa (zac 3) zad aN) aN))
   (zaf (zge jx (zlM jx [0] (zd1 (zaa (zac 0) (zaa (JE.asD (zaM jx (zmR T) (by decide) T.ze0 T.zg1.kp (znQ T) zaj (zaa (zac 0) zad aN) aN)) (zaa (zac 0) zad aN) aL) aN))) (zaF 7 (λ_ => zaV.nd) (λ_ => (Or.inr rfl)))
    (show JB _ _ _ zbl from (zaf (zaD 8 (L' := [7]) (λ_ => zaV.nd) lO (zgc jx (cn := 2) T.zpG (zgl T) (by decide) T.znF (zg6 T) rfl zcm (zaa (zcr jx (zac 7) zag) (zaa (zcr jx (zac 7) zag) (zaa (zcr jx (zac 7) zag) zad aS) aS) aS) aS))
     (zaf (zcX (zbi (zrl jx) (JE.asD (zhp jx (cn := 0) (zac 5) T.zjG T.zhQ (FnOk.calm (zhV T)) (by decide) (zji T) rfl za7 (zaa (zac 8) (zaa (zac 2) zad aN) aN) aN)) (JE.asD (zgd jx (NX := nL3) (SX := zae zcS) (N := ["_law_name", "_law_who", "_law_scene"]) (own := 1) (fi := [2, 7]) csm (zhq jx (JE.asD (zaM jx (zdt T) (by decide) T.zb1 T.zcu.kp (zdP T) zaj (zaa (zac 7) (zaa (zac 3) zad aN) aN) aN))) (zaF 0 (λ_ => (show (["_law_name", "_law_who", "_law_scene"] : List Str).Nodup by decide +kernel)) lO) zgs (zcn (zaa (JE.asD (zaM (JX.comp jx _ _) (zhm T) (by decide) T.zev T.zfv.kp (zix T) zaj (zaa (zac 2) (zaa (zac 1) (zaa (zac 0) zad aN) aN) aN) aN)) (zaa zag zad aC) aL)))) (zaX _))
      (zao (zaY (JD.asE zlr)))
      zbq)
     (zaf (zcX (zbi (zrl jx) (JE.asD (zhp jx (cn := 1) (zac 6) T.zjH T.zhR (FnOk.calm (zhW T)) (by decide) (zjj T) rfl za7 (zaa (zac 8) (zaa (zac 2) zad aN) aN) aN)) (JE.asD (zd1 (zaa (zcn (zaa zag (zaa (JE.asD (zaM jx (zlh T) (by decide) T.zfr T.zhj.kp (zl4 T) zaj (zaa (zac 7) (zaa (zac 2) (zaa (zac 3) zad aN) aN) aN) aN)) zad aL) aC)) zad aT))) (zaX _))
      (zao (zaY (JD.asE zlr)))
      zbq)
     (zaf (zaD 9 (L' := [2, 3, 4, 7]) (λ_ => zaV.nd) lO (zaM jx (zl6 T) (by decide) T.zgH T.zis.kp (znR T) zaj (zaa (zac 7) (zaa (zac 4) (zaa (zac 2) (zaa (zac 3) zad aN) aN) aN) aN) aN))
     (zao (zcX (JW.t (zjT (zbi (zrl jx) (JE.asD (zhp jx (cn := 0) (zac 5) T.zjG T.zg2 (FnOk.calm (zg8 T)) (by decide) (zhT T) rfl za7 (zaa (zac 8) (zaa (zac 4) (zaa (zac 2) zad aN) aN) aN) aN)) (zac 9) (zaX _)) (zjz (zbi (zlL jx) (JE.asD (zhp jx (cn := 1) (zac 6) T.zjH T.zg3 (FnOk.calm (zg9 T)) (by decide) (zhU T) rfl za7 (zaa (zac 8) (zaa (zac 4) (zaa (zac 2) zad aN) aN) aN) aN)) (zac 9) (zaX _)))))
      (zao (zaY (JD.asE zlr)))
      zbq))))))))
   (zao (zaY (JD.asE zlr)))))))))
theorem zjM (T:Txt K mg A):FnOk P w K mg base CX0 1 A.zbB A.zhK zCv (SpF (bk K A) 2 zbB):=
 T.zfV.okJ znC rfl λjx=>
  (zao (zaY (JD.asE (zkC (JE.asD (zaL jx (zic jx (ze4 T)) T.zaP bIs (zaa (zac 0) (zaa (zsF jx T.zjI PyProof.Rows.Boot.«bool») zad aN) aN) aN)) (zmx (zgq (zlL jx) (zac 0) (zac 1) (zaX _)))))))
theorem zqU (T:Txt K mg A):FnOk P w K mg base CX0 1 A.zcZ A.zkW zrm (SpF (bk K A) 1 zcZ):=
 T.znD.okJ zqK rfl λjx=>
  (zao (zaY (zeS jx zcD (zcT jx 0 (zdR T) (zac 0)))))
theorem zqV (T:Txt K mg A):FnOk P w K mg base CX0 1 A.zc0 A.zkX zrm (SpF (bk K A) 1 zc0):=
 T.znE.okJ zqL rfl λjx=>
  (zao (zaY (zeS jx zcD (zcT jx 0 (zdR T) (zac 0)))))
theorem zli (T : Txt K mg A) : FnOk P w K mg base CX0 1 A.zbP A.zi1 zyT (SpF (bk K A) 2 zbP) :=
  T.zhk.okJ zkS rfl λjx =>
   (zaf (zcX (JW.t (zjT (zdS (zcW (JE.asD (zaL jx (zic jx (ze4 T)) T.zaP bIs (zaa (zac 0) (zaa (zsF jx T.zl2 PyProof.Rows.Boot.«list») zad aN) aN) aN)))) (zjT (zbi (zrl jx) (JE.asD (zaL jx (zep jx) T.zeb bLn (zaa (zac 0) zad aN) aN)) (JE.asD (zaL jx (zep jx) T.zeb bLn (zaa (zac 1) zad aN) aN)) (zaX _)) (zjz (zbi (zrl jx) (JE.asD (zaL jx (zpB jx) T.zkf PyProof.Rows.Boot.«sorted» (zaa (zac 0) zad aN) aN)) (JE.asD (zaL jx (zpB jx) T.zkf PyProof.Rows.Boot.«sorted» (zaa (zac 1) zad aN) aN)) (zaX _))))))
    (zao (zaY (JD.asE zlr)))
    zbq)
   (zaf (zgt jx 0 (zaF 2 (λ_ => zkS.nd) lO)
    (show JB _ _ _ zcK from (zao (zcX (JW.t (zjT (zdS (zcW (JE.asD (zaL jx (zic jx (ze4 T)) T.zaP bIs (zaa (zac 2) (zaa (zsF jx T.zjg PyProof.Rows.Boot.«tuple») zad aN) aN) aN)))) (zjT (zcW (JE.asD (zaL jx (zic jx (ze4 T)) T.zaP bIs (zaa (zcr jx (zac 2) zag) (zaa (zsF jx T.zjI PyProof.Rows.Boot.«bool») zad aN) aS) aS))) (zjz (zcW (JE.asD (zaL jx (zic jx (ze4 T)) T.zaP bIs (zaa (zcr jx (zac 2) zag) (zaa (zsF jx T.zjI PyProof.Rows.Boot.«bool») zad aN) aS) aS)))))))
      (zao (zaY (JD.asE zlr)))
      zbq))))
   (zao (zaY (JD.asE zlr)))))
theorem znU (T:Txt K mg A):FnOk P w K mg base CX0 1 A.zch A.zmL zCt (SpF (bk K A) 2 zch):=
 T.zke.okJ zs2 rfl λjx=>
  (zao (zaY (JD.asE (zkC (zgq (zlL jx) (zeR (λ_=>zrA) zsu (zac 0) (zcr jx (zac 1) zag)) (zcr jx (zac 1) zag) (zaX _)) (zmx (zgq (zlL jx) (zeR (λ_=>zrA) zsu (zac 0) (zcr jx (zac 1) zag)) zag (zaX _)))))))
theorem znV (T : Txt K mg A) : FnOk P w K mg base CX0 8 A.zcj A.zhL nL8 (SpF (bk K A) 5 zcj) :=
  T.zhN.okJ zbF rfl λjx =>
   (zaf (zaD 5 (L' := [3]) (λ_ => zbF.nd) lO (zgc jx (cn := 0) T.zs3 (zaE T) (by decide) T.zlY (zaK T) rfl zcm (zaa (zac 3) zad aN) aN))
   (zaf (zaD 6 (L' := [3]) (λ_ => zbF.nd) lO (zgc jx (cn := 1) T.zs4 (zaE T) (by decide) T.zlZ (zaK T) rfl zcm (zaa (zac 3) zad aN) aN))
   (zaf (zqv jx 7 (L' := [1, 2, 3]) (λ_ => zbF.nd) (NX := nL0) (SX := zae zeF) (N := ["_law_name", "_law_told", "_law_who"]) (own := 1) (fi := [1, 2]) csm (zhq jx (JE.asD (zaM jx (zdt T) (by decide) T.zb1 T.zcu.kp (zdP T) zaj (zaa (zac 1) (zaa (zac 3) zad aN) aN) aN))) (zaF 0 (λ_ => (show (["_law_name", "_law_told", "_law_who"] : List Str).Nodup by decide +kernel)) lO) zgs (zcn (zaa (JE.asD (zaM (JX.comp jx _ _) (zhm T) (by decide) T.zev T.zfv.kp (zix T) zaj (zaa (zac 1) (zaa (zac 2) (zaa (zac 0) zad aN) aN) aN) aN)) (zaa zag zad aC) aL)))
   (zaf (zaD 8 (L' := [1, 2, 3]) (λ_ => zbF.nd) lO (zd1 (zaa (zcn (zaa zag (zaa (JE.asD (zaM jx (zlh T) (by decide) T.zfr T.zhj.kp (zl4 T) zaj (zaa (zac 1) (zaa (zac 2) (zaa (zac 3) zad aN) aN) aN) aN)) zad aL) aC)) zad aT)))
   (zaf (zge jx (zgr jx T.zec (zaa zag zad aC)) (zaF 9 (λ_ => zbF.nd) lO)
    (show JB _ _ _ zcR from (zaf (zaD 10 (L' := [0, 2, 5]) (λ_ => zbF.nd) lO (zhp jx (cn := 0) (zac 5) T.zjG T.zhQ (FnOk.calm (zhV T)) (by decide) (zji T) rfl za7 (zaa (zac 0) (zaa (zac 2) zad aN) aN) aN))
     (zaf (zaD 11 (L' := [0, 2, 6]) (λ_ => zbF.nd) lO (zhp jx (cn := 1) (zac 6) T.zjH T.zhR (FnOk.calm (zhW T)) (by decide) (zjj T) rfl za7 (zaa (zac 0) (zaa (zac 2) zad aN) aN) aN))
     (zaf (zcX (JW.t (zjT (zbi (zrl jx) (zac 10) (zac 7) (zaX _)) (zjT (zdS (zcW (JE.asD (zaM jx (zli T) (by decide) T.zek T.zhk.kp (zl5 T) zaj (zaa (zac 10) (zaa (zac 7) zad aN) aN) aN)))) (zjT (zbi (zrl jx) (zac 11) (zac 8) (zaX _)) (zjz (zdS (zcW (JE.asD (zaM jx (zli T) (by decide) T.zek T.zhk.kp (zl5 T) zaj (zaa (zac 11) (zaa (zac 8) zad aN) aN) aN)))))))))
      (zao (zaY (JD.asE zlr)))
      zbq)
     (zaf (zvd jx 10)
     (zao (zlO jx 11 (L' := []) (zcn (zaa zag (zaa zag zad aC) aC)) aT))))))))
   (zaf (zgt jx 4 (zaF 12 (λ_ => zbF.nd) (λ_ => (Or.inr rfl)))
    (show JB _ _ _ zci from (zaf (zaD 13 (L' := [1, 2, 3, 12]) (λ_ => zbF.nd) lO (zaM jx (zl6 T) (by decide) T.zgH T.zis.kp (znR T) zaj (zaa (zac 1) (zaa (zac 12) (zaa (zac 2) (zaa (zac 3) zad aN) aN) aN) aN) aN))
     (zaf (zcX (zdS (zcW (JE.asD (zaM jx (zjM T) (by decide) T.zex T.zfV.kp (zlf T) zaj (zaa (JE.asD (zhp jx (cn := 0) (zac 5) T.zjG T.zg2 (FnOk.calm (zg8 T)) (by decide) (zhT T) rfl za7 (zaa (zac 0) (zaa (zac 12) (zaa (zac 2) zad aN) aN) aN) aN)) (zaa (zac 13) zad aN) aL) aL))))
      (zao (zaY (JD.asE zlr)))
      zbq)
     (zaf (zcX (zdS (zcW (JE.asD (zaM jx (zjM T) (by decide) T.zex T.zfV.kp (zlf T) zaj (zaa (JE.asD (zhp jx (cn := 1) (zac 6) T.zjH T.zg3 (FnOk.calm (zg9 T)) (by decide) (zhU T) rfl za7 (zaa (zac 0) (zaa (zac 12) (zaa (zac 2) zad aN) aN) aN) aN)) (zaa (zBb (zac 13)) zad aU) aL) aL))))
      (zao (zaY (JD.asE zlr)))
      zbq)
     (zao (zcX (JW.t (zjT (zbi (zrl jx) (zac 13) (zgq (zrl jx) (JE.asD (zgd jx (NX := nL0) (SX := zae zeF) (N := ["_law_way", "_law_state"]) (own := 1) (fi := [12]) csm (zhq jx (zac 7)) (zaF 0 (λ_ => (show (["_law_way", "_law_state"] : List Str).Nodup by decide +kernel)) lO) (ziJ (zcW (JE.asD (zaM (JX.comp jx _ _) (znU T) (by decide) T.zhg T.zke.kp (zpH T) zaj (zaa (zac 1) (zaa (zac 0) zad aN) aN) aN)))) (zac 0))) (JE.asD (zd1 zad)) (zaX _)) (zaX _)) (zjz (zbi (zlL jx) (zac 13) (JE.asD (zaM jx (znU T) (by decide) T.zhg T.zke.kp (zpH T) zaj (zaa (zac 12) (zaa (zcr jx (zac 8) zag) zad aS) aN) aN)) (zaX _)))))
      (zao (zaY (JD.asE zlr)))
      zbq)))))))
   (zao (zaY (JD.asE (zkC (zgq (zlL jx) (JE.asD (zoy jx (cn := 0) (zac 5) T.zjG T.zqM (zqU T) (by decide) (ztb T) rfl zaj)) (JE.asD (zeS jx zcD (zac 3))) (zaX _)) (zkC (zgq (zlL jx) (JE.asD (zoy jx (cn := 1) (zac 6) T.zjH T.zqN (zqV T) (by decide) (ztc T) rfl zaj)) (JE.asD (zeS jx zcD (zac 3))) (zaX _)) (zmx (zgq (zlL jx) (JE.asD (zd1 (zaa (zcT jx 5 (zdR T) (zac 5)) (zaa (zcT jx 6 (zdR T) (zac 6)) zad aA) aA))) (JE.asD (zd1 (zaa (zac 3) (zaa (zac 3) zad aN) aN))) (zaX _))))))))))))))
theorem zBI (T : Txt K mg A) : FnOk P w K mg base CX0 10 A.zoL A.zyV ["_law_script"] (SpF (bk K A) 1 zoL) :=
  T.zDI.okJ zjD rfl λjx =>
   (zaf (zaD 1 (L' := [0]) (λ_ => zjD.nd) lO (zaM jx (zmO T) (by decide) T.zdT T.zgX.kp (znN T) zaj (zaa (JE.asD (zaM jx (zfi T) (by decide) T.zcg T.zdq.kp (zf3 T) zaj (zaa (zac 0) (zaa zag zad aC) aN) aN)) zad aL) aL))
   (zaf (zaD 2 (L' := [1]) (λ_ => zjD.nd) lO (zgc jx (cn := 2) T.zpG (zgl T) (by decide) T.znF (zg6 T) rfl zcm (zaa (zcr jx (zac 1) zag) (zaa (zcr jx (zac 1) zag) (zaa (zcr jx (zac 1) zag) zad aS) aS) aS) aS))
   (zaf (zaD 3 (L' := [0, 1]) (λ_ => zjD.nd) lO (zaM jx (zmP T) (by decide) T.zcH T.zgZ.kp (znO T) zaj (zaa (zac 1) (zaa (JE.asD (zaM jx (zfi T) (by decide) T.zcg T.zdq.kp (zf3 T) zaj (zaa (zac 0) (zaa zag zad aC) aN) aN)) zad aL) aN) aN))
   (zaf (zge jx (zlM jx [1] (JD.asE (zcr jx (zac 1) zag))) (zaF 4 (λ_ => zjD.nd) lO)
    (show JB _ _ _ zhz from (zao (zge jx (zlM jx [1] (JD.asE (zcr jx (zac 1) zag))) (zaF 5 (λ_ => zjD.nd) lO)
      (show JB _ _ _ zhy from (zao (zcX (zdS (zcW (JE.asD (zaM jx (znV T) (by decide) T.zey T.zhN.kp (zoU T) zaj (zaa (zac 2) (zaa (zac 1) (zaa (zac 4) (zaa (zac 5) (zaa (zac 3) zad aN) aN) aN) aN) aN) aN))))
        (zao (zaY (JD.asE zlr)))
        zbq)))))))
   (zaf (zge jx (zlM jx [1] (zd1 (zaa (JE.asD (zgc jx (cn := 0) T.zs3 (zaE T) (by decide) T.zlY (zaK T) rfl zcm (zaa (zcr jx (zcr jx (zac 1) zag) zag) zad aS) aS)) (zaa (JE.asD (zgc jx (cn := 1) T.zs4 (zaE T) (by decide) T.zlZ (zaK T) rfl zcm (zaa (zcr jx (zcr jx (zac 1) zag) zag) zad aS) aS)) zad aL) aL))) (zaF 6 (λ_ => zjD.nd) lO)
    (show JB _ _ _ zhA from (zao (zcX (JW.t (zjT (zdS (zcW (JE.asD (zaL jx (zic jx (ze4 T)) T.zaP bIs (zaa (zac 6) (zaa (zyd jx (n := 3) (C := A.zeG) rfl T.znG) zad aN) aN) aN)))) (zjz (zbi (zlL jx) (JE.asD (zaL jx (zic jx (ze4 T)) T.zaP bIs (zaa (zac 6) (zaa (zyd jx (n := 0) (C := A.zfO) rfl T.zlY) zad aN) aN) aN)) (JE.asD (zaL jx (zic jx (ze4 T)) T.zaP bIs (zaa (zac 6) (zaa (zyd jx (n := 1) (C := A.zfP) rfl T.zlZ) zad aN) aN) aN)) (zaX _)))))
      (zao (zaY (JD.asE zlr)))
      zbq))))
   (zaf (zaD 7 (L' := [0]) (λ_ => zjD.nd) lO (JD.asE (zcr jx (JE.asD (zaM jx (zf5 T) (by decide) T.zdd T.zdW.kp (zg4 T) zaj (zaa (JE.asD (zaM jx (zfi T) (by decide) T.zcg T.zdq.kp (zf3 T) zaj (zaa (zac 0) (zaa zag zad aC) aN) aN)) (zaa zag zad aC) aL) aL)) zag)))
   (zao (zaY (JD.asE (zkC (JE.asD (zaM jx (zjm T) (by decide) T.zcp T.zd8.kp (zj3 T) zaj (zaa (zac 2) (zaa (zac 1) (zaa (zac 7) zad aN) aN) aN) aN)) (zmx (JE.asD (zaM jx (ziA T) (by decide) T.zb9 T.zdM.kp (zjk T) zaj (zaa (zac 1) (zaa (zac 7) zad aN) aN) aN)))))))))))))
end
@[simp] theorem zES:zxX "str" "str"=some true:=rfl
@[simp] theorem zET:zxX "int" "int"=some true:=rfl
@[simp] theorem zEU:zxX "int" "bool"=some false:=rfl
theorem zte {z:Str} (h:z.length<=6):z.length<=sizeLine:=Nat.le_trans h (by rw [zax]; omega)
theorem zDJ (cs:List Nat) (h:∀ c∈cs,c∈zfD):∀ x:Option D,ze8 (gN 0) zfC (m2 oIn (mV 0) (mC (.str "abcdefghijklmnopqrstuvwxyz"))) (cs.map λc=>.str ⟨#[c]⟩) [oD' x]=some (cs.map λ_=>.bl true):=by
 induction cs with
 | nil=>intro x; rfl
 | cons c cs ih=>
  intro x;have hc:inB (.str ⟨#[c]⟩) (.str "abcdefghijklmnopqrstuvwxyz")=some true:=congrArg some (zsW c (h c (by simp)));have i:=ih (λy hy=>h y (by simp [hy])) (some (.str ⟨#[c]⟩));simp only [oD',Option.map_some] at i;rw [List.map_cons,ze8];simp [oIn,hc,i]
theorem ztf {α:Type} (cs:List α):zA6 (cs.map λ_=>.bl true)=some (cs.map λ_=>true):=by
 induction cs with
 | nil=>rfl
 | cons c cs ih=>simp [ih]
theorem zBJ {z:Str} (g:Good z):zcY [.str z]=some (.sh (.bl true)):=by
 have s:=zDJ z.cps.toList g.all none;simp only [oD',Option.map_none] at s;have hl:=zte g.hi;have h1:¬ ((z.length:Int) < 1):=by have:=g.lo; omega
 have h2:¬ ((6:Int) < (z.length:Int)):=by have:=g.hi; omega
 have hc:z.cps.size<=sizeLine:=hl;have e1:zgb tab [.str z,.ty "str"]=some (.sh (.bl true)):=rfl;simp [zcY,zcA,zig,e1,hl,h1,h2,zsi,hc,s,ztf]
theorem zl7 (s0 s1:Option SV):∀ (ys xs:List Str) (x:Option D),(xs++ys).Nodup->(∀ z∈xs++ys,Good z)->xs.length+ys.length < sizeLine->∃ y,
  za9 (gN 3) zbG (ys.map D.str) [s0,s1,some (.li (xs.map D.str)),oD' x]=.nx [s0,s1,some (.li ((xs++ys).map D.str)),oD' y]
 | [],xs,x,_,_,_=>⟨x,by simp [za9]⟩
 | z :: ys,xs,x,nd,g,hl=>by
  simp only [List.length_cons] at hl;have nd':((xs++[z])++ys).Nodup:=by simpa using nd
  obtain ⟨y,h⟩:=zl7 s0 s1 ys (xs++[z]) (some (.str z)) nd' (by simpa using g) (by simp; omega);refine ⟨y,?_⟩;have gz:Good z:=g z (by simp);have hn:z∉xs:=by
   intro hz;rw [List.nodup_append] at nd;exact nd.2.2 z hz z (by simp) rfl
  have hi:=zyM gz.ok (zs:=xs) λw hw=>(g w (by simp [hw])).ok;rw [decide_eq_false hn] at hi;have hx:xs.length < sizeLine:=by omega
  have e:xs++z :: ys=(xs++[z])++ys:=by simp
  rw [e,<- h,List.map_cons,za9];simp [zbG,zfn,zBJ gz,oIn,hi,hx]
theorem ztg {zs:List Str} {n:Nat} (nd:zs.Nodup) (g:∀ z∈zs,Good z) (h1:1<=zs.length) (h2:zs.length<=n) (hn:n<=100):zaN [.lst (zs.map D.str),.int n]=some (.sh (.tup (zs.map D.str))):=by
 obtain ⟨y,h⟩:=zl7 (some (.sh (.lst (zs.map D.str)))) (some (.sh (.int n))) zs [] none (by simpa using nd) (by simpa using g) (by rw [zax]; simp; omega);simp only [oD',Option.map_none,List.map_nil,List.nil_append] at h;have c1:¬ ((zs.length:Int) < 1):=by omega
 have c2:¬ ((n:Int) < (zs.length:Int)):=by omega
 simp [zaN,zcA,zcG,zgB,c1,c2,h]
theorem zlj {z:Str} {zs:List Str} (hz:Ok z) (h:∀ x∈zs,Ok x):zav [.str z,.tup (zs.map D.str)]=some (.sh (.bl (decide (z∈zs)))):=by
 have e1:zgb tab [.str z,.ty "str"]=some (.sh (.bl true)):=rfl;simp [zav,zcA,zde,e1,oIn,zFp hz h]
def zeT (y:Str) (fs:List Str) (p:Pr):List Str:=if p.2=y/\p.1∉fs then fs++[p.1] else fs
def zeP (y:Str) (ps:List Pr) (fs:List Str):List Str:=ps.foldl (zeT y) fs
theorem znW (y:Str) (fs:List Str) (p:Pr) (x:Str):x∈zeT y fs p↔x∈fs\/(p.2=y/\x=p.1):=by
 unfold zeT
 by_cases c:p.2=y/\p.1∉fs
 ·rw [if_pos c];simp only [List.mem_append,List.mem_singleton];constructor
  ·rintro (h | h)
   ·exact .inl h
   ·exact .inr ⟨c.1,h⟩
  ·rintro (h | ⟨_,h⟩)
   ·exact .inl h
   ·exact .inr h
 ·rw [if_neg c];constructor
  ·exact λh=>.inl h
  ·rintro (h | ⟨h1,rfl⟩)
   ·exact h
   ·exact Classical.byContradiction λn=>c ⟨h1,n⟩
theorem zl8 (y:Str):∀ (ps:List Pr) (fs:List Str) (x:Str),x∈zeP y ps fs↔x∈fs\/(x,y)∈ps
 | [],fs,x=>by simp [zeP]
 | p :: ps,fs,x=>by
  rw [show zeP y (p :: ps) fs=zeP y ps (zeT y fs p) from rfl,zl8 y ps,znW];constructor
  ·rintro ((h | ⟨h1,h2⟩) | h)
   ·exact .inl h
   ·exact .inr (by rw [h2,<- h1]; simp)
   ·exact .inr (by simp [h])
  ·rintro (h | h)
   ·exact .inl (.inl h)
   ·rcases List.mem_cons.mp h with h | h
    ·exact .inl (.inr ⟨by rw [<- h],by rw [<- h]⟩)
    ·exact .inr h
theorem zoY {y:Str} {fs:List Str} {p:Pr} (h:fs.Nodup):(zeT y fs p).Nodup:=by
 unfold zeT;split
 ·rename_i c
  rw [List.nodup_append];exact ⟨h,by simp,λa ha b hb=>by rw [List.mem_singleton.mp hb]; rintro rfl; exact c.2 ha⟩
 ·exact h
theorem zjN {y:Str}:∀ {ps:List Pr} {fs:List Str},fs.Nodup->(zeP y ps fs).Nodup
 | [],_,h=>h
 | p :: ps,fs,h=>zjN (ps:=ps) (zoY h)
theorem zl9 {y:Str}:∀ (ps:List Pr) (fs:List Str),∃ r,zeP y ps fs=fs++r
 | [],fs=>⟨[],by simp [zeP]⟩
 | p :: ps,fs=>by
  obtain ⟨r,h⟩:=zl9 (y:=y) ps (zeT y fs p);rw [show zeP y (p :: ps) fs=zeP y ps (zeT y fs p) from rfl,h];unfold zeT;split
  ·exact ⟨p.1 :: r,by simp⟩
  ·exact ⟨r,rfl⟩
theorem zth (s0 s1:Option SV) (k:Nat) (y:Str) (hy:Ok y):∀ (ps:List Pr) (fs:List Str) (x4 x5:Option D),(∀ p∈ps,OkP p)->(∀ z∈fs,Ok z)->fs[k]? = some y->fs.length+ps.length < sizeLine->∃ y4 y5,
  za9 (gSq 2 (gCs (gN 4) (gCs (gN 5) gNs))) zbr (ps.map pD) [s0,s1,some (.li (fs.map D.str)),some (.sh (.int k)),oD' x4,oD' x5]=.nx [s0,s1,some (.li ((zeP y ps fs).map D.str)),some (.sh (.int k)),oD' y4,oD' y5]
 | [],fs,x4,x5,_,_,_,_=>⟨x4,x5,by simp [za9,zeP]⟩
 | p :: ps,fs,x4,x5,hp,hf,hk,hl=>by
  simp only [List.length_cons] at hl;have op:=hp p (by simp);have hk':(zeT y fs p)[k]? = some y:=by
   unfold zeT;split
   ·rw [List.getElem?_append_left (List.getElem?_eq_some_iff.mp hk).1]; exact hk
   ·exact hk
  have hf':∀ z∈zeT y fs p,Ok z:=λz hz=>by
   rcases (znW y fs p z).mp hz with h | ⟨_,rfl⟩
   ·exact hf z h
   ·exact op.1
  have hl':(zeT y fs p).length<=fs.length+1:=by unfold zeT; split <;> simp
  obtain ⟨y4,y5,h⟩:=zth s0 s1 k y hy ps (zeT y fs p) (some (.str p.1)) (some (.str p.2)) (λq hq=>hp q (by simp [hq])) hf' hk' (by omega);refine ⟨y4,y5,?_⟩;rw [show zeP y (p :: ps) fs=zeP y ps (zeT y fs p) from rfl,<- h,List.map_cons,za9];have hat:atI (fs.map D.str) (k:Int)=some (.str y):=by
   have hkl:=(List.getElem?_eq_some_iff.mp hk).1;simp [atI,ixN,hkl,hk];exact (List.getElem?_eq_some_iff.mp hk).2
  have hi:=zyM op.1 hf;have he:=eqS op.2 hy;have hx:fs.length < sizeLine:=by omega
  by_cases c1:p.2=y
  ·by_cases c2:p.1∈fs
   ·have ea:zeT y fs p=fs:=by unfold zeT; rw [if_neg λz=>z.2 c2]
    rw [decide_eq_true c2] at hi;rw [beq_iff_eq.mpr c1] at he;rw [ea];simp [zbr,pD,hat,he,zeo,hi]
   ·have ea:zeT y fs p=fs++[p.1]:=by unfold zeT; rw [if_pos ⟨c1,c2⟩]
    rw [decide_eq_false c2] at hi;rw [beq_iff_eq.mpr c1] at he;rw [ea];simp [zbr,pD,hat,he,zeo,hi,hx]
  ·have ea:zeT y fs p=fs:=by unfold zeT; rw [if_neg λz=>c1 z.1]
   have:(p.2==y)=false:=by simpa using c1
   rw [this] at he;rw [ea];simp [zbr,pD,hat,he]
theorem zoZ (d : D) (ps : List Pr) (hd : zh7 d = some (ps.map pD)) (role : Str) (hr : Ok role) (hp : ∀ p ∈ ps, OkP p) (hz : 2 * ps.length + 2 < sizeLine) : ∀ (m k : Nat) (fs : List Str) (x4 x5 : Option D), ps.length + 1 - k <= m -> k <= fs.length -> fs.Nodup -> role ∈ fs -> (∀ x ∈ fs, Reach ps x role) -> (∀ x ∈ fs, x ∈ role :: ps.map (·.1)) ->
    (∀ j, j < k -> ∀ y, fs[j]? = some y -> ∀ x, (x, y) ∈ ps -> x ∈ fs) -> ∃ (fs' : List Str) (y4 y5 : Option D), fs'.Nodup /\ (∀ x, x ∈ fs' ↔ Reach ps x role) /\
      ∃ n, zcE (zal (m2 oLt (mV 3) (mFr (m1 zga (zab (mV 2) zam))))) zbM n [some (.sh d), some (.sh (.str role)), some (.li (fs.map D.str)), some (.sh (.int k)), oD' x4, oD' x5] =
        .nx [some (.sh d), some (.sh (.str role)), some (.li (fs'.map D.str)), some (.sh (.int fs'.length)), oD' y4, oD' y5] := by
  intro m
  induction m with
  | zero =>
    intro k fs x4 x5 hm hk nd h0 h1 h2 h3;have hlen : fs.length <= ps.length + 1 := by have := zie nd h2; simpa using this
    have e : k = fs.length := by omega
    subst e;refine ⟨fs, x4, x5, nd, zgw h0 h1 λx y hxy hy => ?_, zlT (by simp)⟩;obtain ⟨j, hj, e⟩ := List.mem_iff_getElem.mp hy;exact h3 j hj y (by rw [List.getElem?_eq_getElem hj, e]) x hxy
  | succ m ih =>
    intro k fs x4 x5 hm hk nd h0 h1 h2 h3;have hlen : fs.length <= ps.length + 1 := by have := zie nd h2; simpa using this
    by_cases e : k = fs.length
    · subst e
      refine ⟨fs, x4, x5, nd, zgw h0 h1 λx y hxy hy => ?_, zlT (by simp)⟩;obtain ⟨j, hj, e⟩ := List.mem_iff_getElem.mp hy;exact h3 j hj y (by rw [List.getElem?_eq_getElem hj, e]) x hxy
    · have hkl : k < fs.length := by omega
      have hok : ∀ z ∈ fs, Ok z := λz hz => by
        rcases List.mem_cons.mp (h2 z hz) with rfl | h
        · exact hr
        · obtain ⟨p, hp1, rfl⟩ := List.mem_map.mp h
          exact (hp p hp1).1
      have hat : fs[k]? = some fs[k] := List.getElem?_eq_getElem hkl;obtain ⟨z4, z5, hu⟩ := zth (some (.sh d)) (some (.sh (.str role))) k fs[k] (hok _ (List.getElem_mem hkl)) ps fs x4 x5 hp hok hat (by omega);obtain ⟨r, hr2⟩ := zl9 (y := fs[k]) ps fs;have mem := zl8 fs[k] ps fs;have hlen2 : fs.length <= (zeP fs[k] ps fs).length := by rw [hr2]; simp
      obtain ⟨fs', y4, y5, q1, q2, q3⟩ := ih (k + 1) (zeP fs[k] ps fs) z4 z5 (by omega) (by omega) (zjN nd) ((mem role).mpr (.inl h0))
        (λx hx => by
          rcases (mem x).mp hx with h | h
          · exact h1 x h
          · exact .step h (h1 _ (List.getElem_mem hkl)))
        (λx hx => by
          rcases (mem x).mp hx with h | h
          · exact h2 x h
          · exact List.mem_cons_of_mem _ (List.mem_map.mpr ⟨_, h, rfl⟩))
        (λj hj y hy x hxy => by
          have hj' : j < fs.length := by omega
          rw [hr2, List.getElem?_append_left hj'] at hy
          by_cases c : j = k
          · subst c
            rw [hat] at hy; cases hy
            exact (mem x).mpr (.inr hxy)
          · exact (mem x).mpr (.inl (h3 j (by omega) y hy x hxy)))
      refine ⟨fs', y4, y5, q1, q2, zqG (by simp [hkl]) ?_ q3⟩;have hu' := hu;simp only [zbM, zgC, zbp, ziI, List.getElem?_cons_zero, hd, hu'];simp
theorem zti {d:D} {ps:List Pr} (hd:zh7 d=some (ps.map pD)) {role:Str} (hr:Ok role) (hp:∀ p∈ps,OkP p) (hz:2*ps.length+2 < sizeLine):∃ fs:List Str,fs.Nodup/\(∀ x,x∈fs↔Reach ps x role)/\za1 [d,.str role]=some (.li (fs.map D.str)):=by
 obtain ⟨fs,y4,y5,h1,h2,h3⟩:=zoZ d ps hd role hr hp hz (ps.length+1) 0 [role] none none (by omega) (by simp) (by simp) (by simp) (λx hx=>by rw [List.mem_singleton.mp hx]; exact .refl _) (λx hx=>by simp [List.mem_singleton.mp hx]) (λj hj=>by omega);refine ⟨fs,h1,h2,?_⟩;have w:=zvz h3;simp only [oD',Option.map_none,List.map_cons,List.map_nil] at w;have h1:(1:Nat)<=sizeLine:=by omega
 simp only [za1,zcA,zdh,zih];simp [h1];have w':zjx (zal (m2 oLt (mV 3) (mFr (m1 zga (zab (mV 2) zam))))) zbM [some (.sh d),some (.sh (.str role)),some (.li [.str role]),some (.sh (.int 0)),none,none]=_:=w;simp [w']
theorem zma (s0:Option SV) (R:List Str) (hR:∀ z∈R,Ok z) (rk:Str->Nat):∀ (qs ps:List Pr) (x3 x4:Option D),(ps++qs).Nodup->(∀ p∈ps++qs,p.1∈R/\p.2∈R)->(∀ p∈ps++qs,rk p.1 < rk p.2)->2*(ps.length+qs.length)+2 < sizeLine->∃ y3 y4,
  za9 (gSq 2 (gCs (gN 3) (gCs (gN 4) gNs))) zbH (qs.map pD) [s0,some (.sh (.tup (R.map D.str))),some (.li (ps.map pD)),oD' x3,oD' x4]=.nx [s0,some (.sh (.tup (R.map D.str))),some (.li ((ps++qs).map pD)),oD' y3,oD' y4]
 | [],ps,x3,x4,_,_,_,_=>⟨x3,x4,by simp [za9]⟩
 | q :: qs,ps,x3,x4,nd,hm,hk,hl=>by
  simp only [List.length_cons] at hl;have e0:ps++q :: qs=(ps++[q])++qs:=by simp
  rw [e0] at nd hm hk ⊢;obtain ⟨y3,y4,h⟩:=zma s0 R hR rk qs (ps++[q]) (some (.str q.1)) (some (.str q.2)) nd hm hk (by simp; omega);refine ⟨y3,y4,?_⟩;have hq:=hm q (by simp);have okq:OkP q:=⟨hR _ hq.1,hR _ hq.2⟩
  have okps:∀ p∈ps,OkP p:=λp hp=>⟨hR _ (hm p (by simp [hp])).1,hR _ (hm p (by simp [hp])).2⟩
  have g1:=zlj okq.1 hR;have g2:=zlj okq.2 hR;rw [decide_eq_true hq.1] at g1;rw [decide_eq_true hq.2] at g2;have nq:q∉ps:=by
   intro z;have nd1:=(List.nodup_append.mp nd).1;exact (List.nodup_append.mp nd1).2.2 q z q (by simp) rfl
  have g3:inB (.tup [.str q.1,.str q.2]) (.lst (ps.map pD))=some (decide (q∈ps)):=zFu okq okps;rw [decide_eq_false nq] at g3;obtain ⟨fs,f1,f2,f3⟩:=zti (d:=.lst (ps.map pD)) (ps:=ps) rfl okq.1 okps (by omega);have nfs:q.2∉fs:=λz=>by
   have r:=(f2 q.2).mp z;have:=r.rank (rk:=rk) λp hp=>hk p (by simp [hp]);have:=hk q (by simp);omega
  have okf:∀ z∈fs,Ok z:=λz hz=>by
   have r:=(f2 z).mp hz;cases r with
   | refl=>exact okq.1
   | step h _=>exact (okps _ h).1
  have g4:=zyM okq.2 okf;rw [decide_eq_false nfs] at g4;have h2:(2:Nat)<=sizeLine:=by omega
  have hx:ps.length < sizeLine:=by omega
  rw [<- h,List.map_cons,za9];simp [zbH,zfo,pD,g1,g2,h2,oIn,g3,f3,g4,hx]
theorem zyX {ps:List Pr} {R:List Str} (hR:∀ z∈R,Ok z) {rk:Str->Nat} (nd:ps.Nodup) (hm:∀ p∈ps,p.1∈R/\p.2∈R) (hk:∀ p∈ps,rk p.1 < rk p.2) (h15:ps.length<=15):zaZ [.lst (ps.map pD),.tup (R.map D.str)]=some (.sh (.tup (ps.map pD))):=by
 obtain ⟨y3,y4,h⟩:=zma (some (.sh (.lst (ps.map pD)))) R hR rk ps [] none none (by simpa using nd) (by simpa using hm) (by simpa using hk) (by rw [zax]; simp; omega);simp only [oD',Option.map_none,List.map_nil,List.nil_append] at h;have c:¬ ((15:Int) < (ps.length:Int)):=by omega
 simp [zaZ,zcA,zdi,zgD,c,h]
def zpI (p:Pr):List Key:=[.inr p.1,.inr p.2]
theorem zpJ {a b:Pr} (h:zpI a=zpI b):a=b:=by
 obtain ⟨a1,a2⟩:=a;obtain ⟨b1,b2⟩:=b;simp [zpI] at h;simp [h]
def kvB:Nat->List Pr->List (List Key×D)
 | _,[]=>[]
 | n,p :: ps=>(zpI p,.int (2 ^ n:Nat)) :: kvB (n+1) ps
theorem zo0:∀ (n:Nat) (ps:List Pr),(kvB n ps).length=ps.length
 | _,[]=>rfl
 | n,p :: ps=>by simp [kvB,zo0 (n+1) ps]
theorem ztj:∀ (n:Nat) (ps:List Pr) (p:Pr),kvB n (ps++[p])=kvB n ps++[(zpI p,.int (2 ^ (n+ps.length):Nat))]
 | n,[],p=>by simp [kvB]
 | n,q :: ps,p=>by
  simp only [List.cons_append,kvB,ztj (n+1) ps p,List.length_cons];rw [show n+1+ps.length=n+(ps.length+1) by omega]
theorem ztk:∀ (n:Nat) (ps:List Pr) (p:Pr),((kvB n ps).any λkv=>decide (kv.1=zpI p))=decide (p∈ps)
 | _,[],p=>by simp [kvB]
 | n,q :: ps,p=>by
  rw [kvB,List.any_cons,ztk (n+1) ps p,Bool.eq_iff_iff];simp only [Bool.or_eq_true,decide_eq_true_eq,List.mem_cons];constructor
  ·rintro (h | h)
   ·exact .inl (zpJ h).symm
   ·exact .inr h
  ·rintro (h | h)
   ·exact .inl (by rw [h])
   ·exact .inr h
theorem zyY {ps:List Pr} {p:Pr} (h:p∉ps):zu2 (kvB 0 ps) (zpI p) (.int (2 ^ ps.length:Nat))=kvB 0 (ps++[p]):=by
 unfold zu2;rw [ztk,if_neg (by simpa using h),ztj];simp
theorem ztl:∀ (n:Nat) (ps:List Pr) (p:Pr),p∈ps->zlt (kvB n ps) (zpI p)=some (.int (2 ^ (n+ps.idxOf p):Nat))
 | _,[],p,h=>by simp at h
 | n,q :: ps,p,h=>by
  by_cases c:q=p
  ·subst c;simp [kvB,zlt,List.find?_cons,List.idxOf_cons]
  ·have hp:p∈ps:=by
    rcases List.mem_cons.mp h with rfl | h
    ·exact absurd rfl c
    ·exact h
   have hk:¬ zpI q=zpI p:=λz=>c (zpJ z);have ih:=ztl (n+1) ps p hp;have:zlt (kvB n (q :: ps)) (zpI p)=zlt (kvB (n+1) ps) (zpI p):=by simp [kvB,zlt,List.find?_cons,hk]
   rw [this,ih];have hb:(q==p)=false:=by simpa using c
   rw [List.idxOf_cons,hb];simp only [cond_false];rw [show n+1+ps.idxOf p=n+(ps.idxOf p+1) by omega]
theorem ztm (s0 s1:Option SV) (who:Str):∀ (rs:List Str) (ps:List Pr) (x5:Option D),(ps++rs.map λr=>(who,r)).Nodup->ps.length+rs.length < sizeLine->∃ y5,
  za9 (gN 5) zbx (rs.map D.str) [s0,s1,some (.dT (kvB 0 ps)),some (.sh (.int (2 ^ ps.length:Nat))),some (.sh (.str who)),oD' x5] =
   .nx [s0,s1,some (.dT (kvB 0 (ps++rs.map λr=>(who,r)))),some (.sh (.int (2 ^ (ps++rs.map λr=>(who,r)).length:Nat))),some (.sh (.str who)),oD' y5]
 | [],ps,x5,_,_=>⟨x5,by simp [za9]⟩
 | r :: rs,ps,x5,nd,hl=>by
  simp only [List.length_cons] at hl;have e0:ps++(r :: rs).map (λr=>(who,r))=(ps++[(who,r)])++rs.map λr=>(who,r):=by simp
  rw [e0] at nd ⊢;obtain ⟨y5,h⟩:=ztm s0 s1 who rs (ps++[(who,r)]) (some (.str r)) nd (by simp; omega);refine ⟨y5,?_⟩;have np:(who,r)∉ps:=by
   intro z;have nd1:=(List.nodup_append.mp nd).1;exact (List.nodup_append.mp nd1).2.2 _ z _ (by simp) rfl
  have h2:(2:Nat)<=sizeLine:=by omega
  have hx:(kvB 0 ps).length < sizeLine:=by rw [zo0]; omega
  have hp:=zyY np;have ep:((2 ^ ps.length:Nat):Int)+((2 ^ ps.length:Nat):Int)=((2 ^ (ps.length+1):Nat):Int):=by rw [Nat.pow_succ]; omega
  have el:(ps++[(who,r)]).length=ps.length+1:=by simp
  rw [<- h,List.map_cons,za9,el,<- hp];simp only [zpI] at *;generalize (2 ^ ps.length:Nat)=w at *;generalize (2 ^ (ps.length+1):Nat)=w2 at *;simp [zbx,h2,hx,ep]
def zc2 (F R:List Str):List Pr:=F.flatMap λw=>R.map λr=>(w,r)
theorem znX (F:List Str) (w:Str) (R:List Str):zc2 (F++[w]) R=zc2 F R++R.map λr=>(w,r):=by simp [zc2]
theorem zlk (F R:List Str):(zc2 F R).length=F.length*R.length:=by
 induction F with
 | nil=>simp [zc2]
 | cons w F ih=>
  have:zc2 (w :: F) R=(R.map λr=>(w,r))++zc2 F R:=rfl;rw [this,List.length_append,List.length_map,ih,List.length_cons,Nat.add_mul,Nat.one_mul,Nat.add_comm]
theorem zll {F R:List Str} {p:Pr}:p∈zc2 F R↔p.1∈F/\p.2∈R:=by
 unfold zc2;rw [List.mem_flatMap];constructor
 ·rintro ⟨w,hw,h⟩;obtain ⟨r,hr,rfl⟩:=List.mem_map.mp h;exact ⟨hw,hr⟩
 ·rintro ⟨h1,h2⟩;exact ⟨p.1,h1,List.mem_map.mpr ⟨p.2,h2,rfl⟩⟩
theorem ztn {R:List Str} (w:Str) (h:R.Nodup):(R.map λr=>(w,r)).Nodup:=by
 rw [List.nodup_iff_pairwise_ne] at h ⊢;rw [List.pairwise_map];exact h.imp λn z=>n (by simpa using z)
theorem zlm {R:List Str} (hR:R.Nodup):∀ {F:List Str},F.Nodup->(zc2 F R).Nodup
 | [],_=>by simp [zc2]
 | w :: F,h=>by
  obtain ⟨h1,h2⟩:=List.nodup_cons.mp h;have:zc2 (w :: F) R=(R.map λr=>(w,r))++zc2 F R:=rfl;rw [this,List.nodup_append];refine ⟨ztn w hR,zlm hR h2,λa ha b hb z=>?_⟩;obtain ⟨r,_,rfl⟩:=List.mem_map.mp ha;subst z;exact h1 (zll.mp hb).1
theorem zpK (s0:Option SV) (R:List Str) (hR:R.Nodup):∀ (ws F:List Str) (x4 x5:Option D),(F++ws).Nodup->(F.length+ws.length)*R.length+R.length < sizeLine->∃ y4 y5,
  za9 (gN 4) zbf (ws.map D.str) [s0,some (.sh (.tup (R.map D.str))),some (.dT (kvB 0 (zc2 F R))),some (.sh (.int (2 ^ (zc2 F R).length:Nat))),oD' x4,oD' x5] =
   .nx [s0,some (.sh (.tup (R.map D.str))),some (.dT (kvB 0 (zc2 (F++ws) R))),some (.sh (.int (2 ^ (zc2 (F++ws) R).length:Nat))),oD' y4,oD' y5]
 | [],F,x4,x5,_,_=>⟨x4,x5,by simp [za9]⟩
 | w :: ws,F,x4,x5,nd,hl=>by
  simp only [List.length_cons] at hl;have e0:F++w :: ws=(F++[w])++ws:=by simp
  rw [e0] at nd ⊢;have e1:F.length+(ws.length+1)=F.length+1+ws.length:=by omega
  obtain ⟨z5,h1⟩:=ztm s0 (some (.sh (.tup (R.map D.str)))) w R (zc2 F R) x5 (by rw [<- znX]; exact zlm hR (List.nodup_append.mp nd).1) (by rw [zlk]; simp only [Nat.add_mul,Nat.one_mul] at hl; omega);obtain ⟨y4,y5,h⟩:=zpK s0 R hR ws (F++[w]) (some (.str w)) z5 nd (by simp only [List.length_append,List.length_cons,List.length_nil,Nat.zero_add]; rw [e1] at hl; exact hl);refine ⟨y4,y5,?_⟩;rw [<- znX] at h1
  rw [<- h,List.map_cons,za9];simp only [gN,List.length_cons,List.length_nil,List.getElem?_cons_succ,List.getElem?_cons_zero,zeg,Option.join_some,zxO,List.set_cons_succ,List.set_cons_zero,and_true];rw [if_pos (by omega)];simp only [zbf,zeW,ziI,List.getElem?_cons_succ,List.getElem?_cons_zero,zh7,h1,Option.map_some]
theorem zBK {F R:List Str} (hF:F.Nodup) (hR:R.Nodup) (hl:F.length*R.length+R.length < sizeLine):zaO [.tup (F.map D.str),.tup (R.map D.str)]=some (.dT (kvB 0 (zc2 F R))):=by
 obtain ⟨y4,y5,h⟩:=zpK (some (.sh (.tup (F.map D.str)))) R hR F [] none none (by simpa using hF) (by simpa using hl);have e0:zc2 [] R=[]:=rfl;simp only [oD',Option.map_none,e0,kvB,List.nil_append,List.length_nil] at h;have h':za9 (gN 4) zbf (F.map D.str) [some (.sh (.tup (F.map D.str))),some (.sh (.tup (R.map D.str))),some (.dT []),some (.sh (.int 1)),none,none]=_:=h;simp [zaO,zcA,zc5,zgf,h']
open Classical in
noncomputable def rch (ps:List Pr) (u r:Str):Bool:=decide (Reach ps u r)
theorem zo1 {ps:List Pr} {u r:Str}:rch ps u r=true↔Reach ps u r:=by simp [rch]
noncomputable def brg (ps:List Pr) (R:List Str) (r:Str):List Str:=R.filter λu=>rch ps u r
theorem zjn {ps:List Pr} {R:List Str} {r x:Str}:x∈brg ps R r↔x∈R/\Reach ps x r:=by simp [brg,zo1]
theorem zo2 (fs:List Str) (hf:∀ z∈fs,Ok z) (p:Str->Bool) (hp:∀ x,p x=decide (x∈fs)):∀ (xs:List Str) (x:Option D),(∀ z∈xs,Ok z)->
  ze8 (gN 0) (zal (m2 oIn (mV 0) (mV 1))) (mV 0) (xs.map D.str) [oD' x,some (.sh (.lst (fs.map D.str)))]=some ((xs.filter p).map D.str)
 | [],_,_=>rfl
 | z :: xs,x,h=>by
  have ih:=zo2 fs hf p hp xs (some (.str z)) λw hw=>h w (by simp [hw]);simp only [oD',Option.map_some] at ih;have hi:=zyM (h z (by simp)) hf;rw [List.map_cons,ze8,List.filter_cons,hp z]
  by_cases c:z∈fs
  ·rw [decide_eq_true c] at hi;simp [oIn,hi,ih,c]
  ·rw [decide_eq_false c] at hi;simp [oIn,hi,ih,c]
noncomputable def kvR (ps:List Pr) (R rs:List Str):List (Key×D):=rs.map λr=>(.inr r,.tup ((brg ps R r).map D.str))
theorem zyZ {ps:List Pr} {R rs:List Str} {r:Str} (h:r∉rs):zu2 (kvR ps R rs) (.inr r) (.tup ((brg ps R r).map D.str))=kvR ps R (rs++[r]):=by
 unfold zu2;have:((kvR ps R rs).any λkv=>decide (kv.1=Sum.inr r))=decide (r∈rs):=by
  unfold kvR;rw [List.any_map,Bool.eq_iff_iff];simp
 rw [this,if_neg (by simpa using h)];simp [kvR]
theorem zto {ps:List Pr} {R:List Str} {r:Str}:∀ {rs:List Str},r∈rs->zlt (kvR ps R rs) (.inr r)=some (.tup ((brg ps R r).map D.str))
 | [],h=>by simp at h
 | q :: rs,h=>by
  by_cases c:q=r
  ·subst c; simp [kvR,zlt,List.find?_cons]
  ·have hr:r∈rs:=by
    rcases List.mem_cons.mp h with rfl | h
    ·exact absurd rfl c
    ·exact h
   have ih:=zto (ps:=ps) (R:=R) hr;have:zlt (kvR ps R (q :: rs)) (.inr r)=zlt (kvR ps R rs) (.inr r):=by simp [kvR,zlt,List.find?_cons,c]
   rw [this,ih]
theorem znY (ps:List Pr) (R:List Str) (hR:∀ z∈R,Ok z) (hp:∀ p∈ps,OkP p) (hz:2*ps.length+2 < sizeLine):∀ (qs rs:List Str) (x3:Option D) (x4:Option SV),lkO x4=false->(rs++qs).Nodup->(∀ z∈qs,Ok z)->rs.length+qs.length < sizeLine->R.length<=sizeLine->∃ y3 y4,lkO y4=false/\
  za9 (gN 3) zba (qs.map D.str) [some (.sh (.tup (R.map D.str))),some (.sh (.tup (ps.map pD))),some (.dK (kvR ps R rs)),oD' x3,x4] =
   .nx [some (.sh (.tup (R.map D.str))),some (.sh (.tup (ps.map pD))),some (.dK (kvR ps R (rs++qs))),oD' y3,y4]
 | [],rs,x3,x4,h4,_,_,_,_=>⟨x3,x4,h4,by simp [za9]⟩
 | q :: qs,rs,x3,x4,h4,nd,ho,hl,hRl=>by
  simp only [List.length_cons] at hl;have e0:rs++q :: qs=(rs++[q])++qs:=by simp
  rw [e0] at nd ⊢;obtain ⟨fs,f1,f2,f3⟩:=zti (d:=.tup (ps.map pD)) (ps:=ps) rfl (ho q (by simp)) hp hz;have okf:∀ z∈fs,Ok z:=λz hz=>by
   have r:=(f2 z).mp hz;cases r with
   | refl=>exact ho q (by simp)
   | step h _=>exact (hp _ h).1
  obtain ⟨y3,y4,e4,h⟩:=znY ps R hR hp hz qs (rs++[q]) (some (.str q)) (some (.li (fs.map D.str))) rfl nd (λz hz=>ho z (by simp [hz])) (by simp; omega) hRl;refine ⟨y3,y4,e4,?_⟩;have np:q∉rs:=by
   intro z;have nd1:=(List.nodup_append.mp nd).1;exact (List.nodup_append.mp nd1).2.2 _ z _ (by simp) rfl
  have hc:=zo2 fs okf (λu=>rch ps u q) (λx=>by rw [Bool.eq_iff_iff,zo1,decide_eq_true_iff]; exact (f2 x).symm) R none hR;simp only [oD',Option.map_none] at hc;have hput:=zyZ (ps:=ps) (R:=R) np;have hb:(R.filter λu=>rch ps u q)=brg ps R q:=rfl;rw [hb] at hc;have hkl:(kvR ps R rs).length < sizeLine:=by simp [kvR]; omega
  rw [<- h,List.map_cons,za9,<- hput];simp [zba,zdU,f3,h4,zfa,hRl,hc,hkl]
theorem zBL {ps:List Pr} {R:List Str} (nd:R.Nodup) (hR:∀ z∈R,Ok z) (hp:∀ p∈ps,OkP p) (hz:2*ps.length+2 < sizeLine) (hl:R.length < sizeLine):zaA [.tup (R.map D.str),.tup (ps.map pD)]=some (.dK (kvR ps R R)):=by
 obtain ⟨y3,y4,e4,h⟩:=znY ps R hR hp hz R [] none none rfl (by simpa using nd) hR (by simpa using hl) (by omega);simp only [oD',Option.map_none,List.nil_append] at h;have e0:kvR ps R []=[]:=rfl;rw [e0] at h;simp [zaA,zcA,zcf,zer,h]
noncomputable def zlB (F R:List Str) (ps:List Pr):List (Str×D):=[("folk",.tup (F.map D.str)),("roles",.tup (R.map D.str)),("pairs",.tup (ps.map pD)),("right_bits",.dT (kvB 0 (zc2 F R))),("bringers",.dK (kvR ps R R))]
abbrev zDK:Nat:=2
theorem zo3 (fn fp fb fr:List D->Option SV) {F R:List Str} {ps:List Pr} (c:¬ ((12:Int) < (F.length:Int)*(R.length:Int))) (cm:zmt (F.length:Int) (R.length:Int)=true)
  (g1:fn [.lst (F.map D.str),.int 4]=some (.sh (.tup (F.map D.str)))) (g2:fn [.lst (R.map D.str),.int 6]=some (.sh (.tup (R.map D.str)))) (g3:fp [.lst (ps.map pD),.tup (R.map D.str)]=some (.sh (.tup (ps.map pD))))
  (g4:fb [.tup (F.map D.str),.tup (R.map D.str)]=some (.dT (kvB 0 (zc2 F R)))) (g5:fr [.tup (R.map D.str),.tup (ps.map pD)]=some (.dK (kvR ps R R))) :
  zrk (zes fn fp fb fr) 4 4 zDK [.lst (F.map D.str),.lst (R.map D.str),.lst (ps.map pD)]=some (zlB F R ps):=by
 have n1:¬ (("folk":Str)="roles"):=by decide
 have n2:¬ (("folk":Str)="pairs"):=by decide
 have n3:¬ (("folk":Str)="right_bits"):=by decide
 have n4:¬ (("folk":Str)="bringers"):=by decide
 have n5:¬ (("roles":Str)="pairs"):=by decide
 have n6:¬ (("roles":Str)="right_bits"):=by decide
 have n7:¬ (("roles":Str)="bringers"):=by decide
 have n8:¬ (("pairs":Str)="right_bits"):=by decide
 have n9:¬ (("pairs":Str)="bringers"):=by decide
 have n0:¬ (("right_bits":Str)="bringers"):=by decide
 have m1':(("roles":Str)=="folk")=false:=by decide
 have m2':(("pairs":Str)=="folk")=false:=by decide
 have m3':(("pairs":Str)=="roles")=false:=by decide
 simp [zrk,zes,g1,g2,g3,g4,g5,c,cm,zky,n1,n2,n3,n4,n5,n6,n7,n8,n9,n0,List.lookup,m1',m2',m3',zfa,zyO,zlB]
theorem zpL {F R:List Str} {ps:List Pr} (v:Valid F R ps):zbs zDK [.lst (F.map D.str),.lst (R.map D.str),.lst (ps.map pD)]=some (zlB F R ps):=by
 have okR:∀ z∈R,Ok z:=λz hz=>(v.rg z hz).ok;have okP:∀ p∈ps,OkP p:=λp hp=>⟨okR _ (v.pm p hp).1,okR _ (v.pm p hp).2⟩
 obtain ⟨rk,hrk⟩:=v.rk;have r6:=v.r6;have f4:=v.f4;have hm:=v.fr;have c:¬ ((12:Int) < (F.length:Int)*(R.length:Int)):=by
  have:((F.length*R.length:Nat):Int)<=12:=by omega
  rw [Int.natCast_mul] at this;omega
 have cm:zmt (F.length:Int) (R.length:Int)=true:=zkc.mpr (.inl ⟨by omega,by omega⟩);exact zo3 zaN zaZ zaO zaA c cm (ztg (n:=4) v.fn v.fg v.f1 v.f4 (by omega)) (ztg (n:=6) v.rn v.rg v.r1 v.r6 (by omega)) (zyX okR v.pn v.pm hrk v.p15)
  (zBK v.fn v.rn (by rw [zax]; omega)) (zBL v.rn okR okP (by have:=v.p15; rw [zax]; omega) (by rw [zax]; omega))
section
variable {F R:List Str} {ps:List Pr}
theorem znZ (m:Str):(zlB F R ps).lookup m=if m=="folk" then some (.tup (F.map D.str)) else if m=="roles" then some (.tup (R.map D.str)) else if m=="pairs" then some (.tup (ps.map pD)) else if m=="right_bits" then some (.dT (kvB 0 (zc2 F R))) else if m=="bringers" then some (.dK (kvR ps R R)) else none:=by
 simp only [zlB,List.lookup];cases (m=="folk") <;> cases (m=="roles") <;> cases (m=="pairs") <;> cases (m=="right_bits") <;> cases (m=="bringers") <;> rfl
@[simp] theorem zDL:(zlB F R ps).lookup ("folk":Str)=some (.tup (F.map D.str)):=by rw [znZ,if_pos (by decide)]
@[simp] theorem zCx:(zlB F R ps).lookup ("roles":Str)=some (.tup (R.map D.str)):=by rw [znZ,if_neg (by decide),if_pos (by decide)]
@[simp] theorem zDM:(zlB F R ps).lookup ("right_bits":Str)=some (.dT (kvB 0 (zc2 F R))):=by rw [znZ,if_neg (by decide),if_neg (by decide),if_neg (by decide),if_pos (by decide)]
@[simp] theorem zy0:(zlB F R ps).lookup ("bringers":Str)=some (.dK (kvR ps R R)):=by rw [znZ,if_neg (by decide),if_neg (by decide),if_neg (by decide),if_neg (by decide),if_pos (by decide)]
theorem zfk {m:Str} (h:(m=="folk"||m=="roles"||m=="pairs"||m=="right_bits"||m=="bringers")=false):(zlB F R ps).lookup m=none:=by
 simp only [Bool.or_eq_false_iff] at h;rw [znZ,h.1.1.1.1,h.1.1.1.2,h.1.1.2,h.1.2,h.2];rfl
@[simp] theorem zFv:(zlB F R ps).lookup ("must_be_folk":Str)=none:=zfk (by decide)
@[simp] theorem zFw:(zlB F R ps).lookup ("must_be_role":Str)=none:=zfk (by decide)
@[simp] theorem zFx:(zlB F R ps).lookup ("must_be_state":Str)=none:=zfk (by decide)
@[simp] theorem zFy:(zlB F R ps).lookup ("is_state":Str)=none:=zfk (by decide)
@[simp] theorem zFz:(zlB F R ps).lookup ("bits":Str)=none:=zfk (by decide)
@[simp] theorem zFA:(zlB F R ps).lookup ("bringing":Str)=none:=zfk (by decide)
@[simp] theorem zFB:(zlB F R ps).lookup ("having":Str)=none:=zfk (by decide)
@[simp] theorem zFC:(zlB F R ps).lookup ("has":Str)=none:=zfk (by decide)
@[simp] theorem zFD:(zlB F R ps).lookup ("bit":Str)=none:=zfk (by decide)
@[simp] theorem zFE:(zlB F R ps).lookup ("holders":Str)=none:=zfk (by decide)
noncomputable abbrev oO (F R:List Str) (ps:List Pr):D:=.ins zDK (zlB F R ps)
def ztp:D->Bool
 | .non=>true
 | .int _=>true
 | .bl _=>true
 | .tup _=>true
 | .lst _=>true
 | _=>false
theorem zy1 {d:D} (h:ztp d=true):zgb tab [d,.ty "str"]=some (.sh (.bl false)):=by
 cases d <;> first | rfl | cases h
theorem zem {d e:D} (h:ztp d=true):zav [d,e]=some (.sh (.bl false)):=by
 have k:=zy1 h;simp [zav,zcA,zde,k]
theorem zkh {d:D} {zs:List Str} (h:∀ x∈zs,Ok x) (hd:ztp d=true\/∃ z,d=.str z/\Ok z/\z∉zs):zav [d,.tup (zs.map D.str)]=some (.sh (.bl false)):=by
 rcases hd with hd | ⟨z,rfl,hz,hn⟩
 ·exact zem hd
 ·have:=zlj hz h
  rwa [decide_eq_false hn] at this
theorem ztq (v:Valid F R ps) {w:Str} (hw:w∈F):zai [oO F R ps,.str w]=some (.sh .non)/\zap [oO F R ps,.str w]=none:=by
 have h:=zlj (v.fg w hw).ok (zs:=F) λz hz=>(v.fg z hz).ok;rw [decide_eq_true hw] at h;constructor
 ·simp [zai,zgv,zbb,zbt,h]
 ·simp [zap,zfA,zbb,zbt,h]
theorem zBM {d:D} (h:zav [d,.tup (F.map D.str)]=some (.sh (.bl false))):zai [oO F R ps,d]=none/\zap [oO F R ps,d]=some (4,[(("name":Str),d)]):=by
 constructor
 ·simp [zai,zgv,zbb,zbt,h]
 ·simp [zap,zfA,zbb,zbt,h]
theorem zBN (v:Valid F R ps) {r:Str} (hr:r∈R):zan [oO F R ps,.str r]=some (.sh .non)/\zaw [oO F R ps,.str r]=none:=by
 have h:=zlj (v.rg r hr).ok (zs:=R) λz hz=>(v.rg z hz).ok;rw [decide_eq_true hr] at h;constructor
 ·simp [zan,zgv,zbc,zbu,h]
 ·simp [zaw,zfA,zbc,zbu,h]
theorem zDN {d:D} (h:zav [d,.tup (R.map D.str)]=some (.sh (.bl false))):zan [oO F R ps,d]=none/\zaw [oO F R ps,d]=some (5,[(("name":Str),d)]):=by
 constructor
 ·simp [zan,zgv,zbc,zbu,h]
 ·simp [zaw,zfA,zbc,zbu,h]
def plc (F R:List Str) (w r:Str):Nat:=(zc2 F R).idxOf (w,r)
theorem ztr {w r:Str} (hw:w∈F) (hr:r∈R):zsy (.dT (kvB 0 (zc2 F R))) (.tup [.str w,.str r])=some (.int (2 ^ plc F R w r:Nat)):=by
 have h:=ztl 0 (zc2 F R) (w,r) (zll.mpr ⟨hw,hr⟩);rw [Nat.zero_add] at h;simp only [zpI] at h;show (zx0 [.str w,.str r]).bind (zlt (kvB 0 (zc2 F R)))=_;exact h
theorem zDO (v:Valid F R ps) {w r:Str} (hw:w∈F) (hr:r∈R):zbd [oO F R ps,.str w,.str r]=some (.sh (.int (2 ^ plc F R w r:Nat)))/\zgG [oO F R ps,.str w,.str r]=none:=by
 have h1:=ztq v hw;have h2:=zBN v hr;have h3:=ztr hw hr;have h4:(2:Nat)<=sizeLine:=by rw [zax]; omega
 generalize ((2 ^ plc F R w r:Nat):Int)=b at h3 ⊢;constructor
 ·simp [zbd,zgv,zeX,zgF,h1.1,h1.2,h2.1,h2.2,h3,h4,-zsy]
 ·simp [zgG,zfA,zeX,zgF,h1.1,h1.2,h2.1,h2.2,h3,h4,-zsy]
theorem zts:zbo [oO F R ps]=some (.sh (.int (F.length*R.length:Nat))):=by
 simp [zbo,zcA,zii,zo0,zlk]
theorem zo4 (n:Int):zbI [.int n]=some (.sh (.bl true)):=by
 have e1:zgb tab [.int n,.ty "int"]=some (.sh (.bl true)):=rfl;have e2:zgb tab [.int n,.ty "bool"]=some (.sh (.bl false)):=rfl;simp [zbI,zcA,zei,e1,e2]
theorem zqW {s n:Nat} (h:s < 2 ^ n):Builtin.Int.intBits (s:Int)<=n:=by
 unfold Builtin.Int.intBits
 by_cases z:s=0
 ·subst z; simp
 ·have e:((s:Int)==0)=false:=by simp; omega
  rw [e];simp only [Bool.false_eq_true,if_false,Int.natAbs_natCast];have:=(Nat.log2_lt z).mpr h;omega
theorem zBO {s:Nat} (h:s < 2 ^ (F.length*R.length)):zak [oO F R ps,.int s]=some (.sh (.bl true)):=by
 have h1:=zo4 (s:Int);have h2:=zts (F:=F) (R:=R) (ps:=ps);have h3:=zqW h;have h4:((Builtin.Int.intBits (s:Int):Nat):Int)<=((F.length*R.length:Nat):Int):=by omega
 have h5:(0:Int)<=s:=by omega
 generalize ((F.length*R.length:Nat):Int)=n at h2 h4;simp [zak,zcA,zb7,zb6,h1,h2,h4,h5]
theorem zBP {s:Nat} (h:s < 2 ^ (F.length*R.length)):zas [oO F R ps,.int s]=some (.sh .non)/\zaG [oO F R ps,.int s]=none:=by
 have h1:=zBO (ps:=ps) h;constructor
 ·simp [zas,zgv,za4,zbj,h1]
 ·simp [zaG,zfA,za4,zbj,h1]
theorem zDP {d:D} (h:zak [oO F R ps,d]=some (.sh (.bl false))):zas [oO F R ps,d]=none/\zaG [oO F R ps,d]=some (6,[(("found":Str),d)]):=by
 constructor
 ·simp [zas,zgv,za4,zbj,h]
 ·simp [zaG,zfA,za4,zbj,h]
theorem zmb (v:Valid F R ps) {r:Str} (hr:r∈R):zar [oO F R ps,.str r]=some (.li ((brg ps R r).map D.str))/\zaI [oO F R ps,.str r]=none:=by
 have h1:=zBN v hr;have h2:=zto (ps:=ps) (R:=R) hr;constructor
 ·simp [zar,zgv,zbJ,zb8,h1.1,h1.2,h2]
 ·simp [zaI,zfA,zbJ,zb8,h1.1,h1.2,h2]
theorem zmc {d:D} (h:zav [d,.tup (R.map D.str)]=some (.sh (.bl false))):zar [oO F R ps,d]=none/\zaI [oO F R ps,d]=some (5,[(("name":Str),d)]):=by
 have h1:=zDN (F:=F) (ps:=ps) h;constructor
 ·simp [zar,zgv,zbJ,zb8,h1.1,h1.2]
 ·simp [zaI,zfA,zbJ,zb8,h1.1,h1.2]
noncomputable def hvM (F R:List Str) (w:Str) (us:List Str) (m:Nat):Nat:=us.foldl (λm u=>m|||2 ^ plc F R w u) m
theorem ztt {w:Str} (hw:w∈F) (x2:Option SV):∀ (us:List Str) (m:Nat) (x4:Option D),(∀ u∈us,u∈R)->∃ y4,
  zmB (gN 4) zbk (us.map D.str) [some (.sh (oO F R ps)),some (.sh (.str w)),x2,some (.sh (.int m)),oD' x4]=.nx [some (.sh (oO F R ps)),some (.sh (.str w)),x2,some (.sh (.int (hvM F R w us m:Nat))),oD' y4]
 | [],m,x4,_=>⟨x4,rfl⟩
 | u :: us,m,x4,h=>by
  obtain ⟨y4,ih⟩:=ztt hw x2 us (m|||2 ^ plc F R w u) (some (.str u)) λz hz=>h z (by simp [hz]);refine ⟨y4,?_⟩;have h3:=ztr hw (h u (by simp));have h4:(2:Nat)<=sizeLine:=by rw [zax]; omega
  rw [show hvM F R w (u :: us) m=hvM F R w us (m|||2 ^ plc F R w u) from rfl,<- ih,List.map_cons,zmB];generalize 2 ^ plc F R w u=b at h3 ⊢;simp [zbk,h3,h4,bOr,-zsy]
theorem zpM (v:Valid F R ps) {w r:Str} (hw:w∈F) (hr:r∈R):zat [oO F R ps,.str w,.str r]=some (.sh (.int (hvM F R w (brg ps R r) 0:Nat)))/\zaB [oO F R ps,.str w,.str r]=none:=by
 have h1:=ztq v hw;have h2:=zmb v hr;obtain ⟨y4,h3⟩:=ztt (ps:=ps) hw (some (.sh (.str r))) (brg ps R r) 0 none λu hu=>(zjn.mp hu).1;simp only [oD',Option.map_none] at h3;have h3':zmB (gN 4) zbk ((brg ps R r).map D.str) [some (.sh (oO F R ps)),some (.sh (.str w)),some (.sh (.str r)),some (.sh (.int 0)),none]=_:=h3;constructor
 ·simp [zat,zgv,zbv,zaJ,zaJ,h1.1,h1.2,h2.1,h2.2,h3',zfa]
 ·simp [zaB,zfA,zbv,zaJ,zaJ,h1.1,h1.2,h2.1,h2.2,h3',zfa]
theorem ztu {d e:D} (h:zav [d,.tup (F.map D.str)]=some (.sh (.bl false))):zat [oO F R ps,d,e]=none/\zaB [oO F R ps,d,e]=some (4,[(("name":Str),d)]):=by
 have h1:=zBM (R:=R) (ps:=ps) h;constructor
 ·simp [zat,zgv,zbv,zaJ,zaJ,h1.1,h1.2]
 ·simp [zaB,zfA,zbv,zaJ,zaJ,h1.1,h1.2]
theorem ztv (v:Valid F R ps) {w:Str} (hw:w∈F) {e:D} (h:zav [e,.tup (R.map D.str)]=some (.sh (.bl false))):zat [oO F R ps,.str w,e]=none/\zaB [oO F R ps,.str w,e]=some (5,[(("name":Str),e)]):=by
 have h1:=ztq v hw;have h2:=zmc (F:=F) (ps:=ps) h;constructor
 ·simp [zat,zgv,zbv,zaJ,zaJ,h1.1,h1.2,h2.1,h2.2]
 ·simp [zaB,zfA,zbv,zaJ,zaJ,h1.1,h1.2,h2.1,h2.2]
theorem zo5 (w:Str) (i:Nat):∀ (us:List Str) (m:Nat),(hvM F R w us m).testBit i=(m.testBit i||us.any λu=>decide (plc F R w u=i))
 | [],m=>by simp [hvM]
 | u :: us,m=>by
  rw [show hvM F R w (u :: us) m=hvM F R w us (m|||2 ^ plc F R w u) from rfl,zo5 w i us,Nat.testBit_or,Nat.testBit_two_pow,List.any_cons,Bool.or_assoc]
noncomputable def zfy (F R:List Str) (ps:List Pr) (s:Nat) (w r:Str):Bool:=(brg ps R r).any λu=>s.testBit (plc F R w u)
theorem zpN (s:Nat) (w r:Str):(!((s&&&hvM F R w (brg ps R r) 0)==0))=zfy F R ps s w r:=by
 rw [Bool.eq_iff_iff,zfy,List.any_eq_true];rw [Bool.not_eq_true',beq_eq_false_iff_ne];constructor
 ·intro h;refine Classical.byContradiction λn=>h ?_;rw [zoJ];intro i hi;rw [zo5,Nat.zero_testBit,Bool.false_or,List.any_eq_true] at hi;obtain ⟨u,hu,e⟩:=hi;have e:=of_decide_eq_true e;subst e;cases c:s.testBit (plc F R w u)
  ·rfl
  ·exact absurd ⟨u,hu,c⟩ n
 ·rintro ⟨u,hu,c⟩ z;rw [zoJ] at z;have:=z (plc F R w u) (by rw [zo5,Nat.zero_testBit,Bool.false_or,List.any_eq_true]; exact ⟨u,hu,by simp⟩);rw [this] at c;cases c
theorem zDQ (i j:Int):oNe (.int i) (.int j)=some (.bl (!(i==j))):=rfl
theorem zpO (i j:Int):oEq (.int i) (.int j)=some (.bl (i==j)):=rfl
theorem zBQ (v:Valid F R ps) {s:Nat} {w r:Str} (hs:s < 2 ^ (F.length*R.length)) (hw:w∈F) (hr:r∈R):zaC [oO F R ps,.int s,.str w,.str r]=some (.sh (.bl (zfy F R ps s w r)))/\za0 [oO F R ps,.int s,.str w,.str r]=none:=by
 have h1:=zBP (ps:=ps) hs;have h2:=zpM v hw hr;rw [<- zpN];generalize hvM F R w (brg ps R r) 0=m at h2 ⊢;constructor
 ·simp [zaC,zgv,zca,zcI,h1.1,h1.2,h2.1,h2.2,zCn,zDQ,zCo]
 ·simp [za0,zfA,zca,zcI,h1.1,h1.2,h2.1,h2.2,zCn,zDQ,zCo]
theorem zwD {d e f:D} (h:zak [oO F R ps,d]=some (.sh (.bl false))):zaC [oO F R ps,d,e,f]=none/\za0 [oO F R ps,d,e,f]=some (6,[(("found":Str),d)]):=by
 have h1:=zDP h;constructor
 ·simp [zaC,zgv,zca,zcI,h1.1,h1.2]
 ·simp [za0,zfA,zca,zcI,h1.1,h1.2]
theorem zvF {s:Nat} (hs:s < 2 ^ (F.length*R.length)) {d e:D} {x:Exc} (h:zat [oO F R ps,d,e]=none/\zaB [oO F R ps,d,e]=some x):zaC [oO F R ps,.int s,d,e]=none/\za0 [oO F R ps,.int s,d,e]=some x:=by
 have h1:=zBP (ps:=ps) hs;constructor
 ·simp [zaC,zgv,zca,zcI,h1.1,h1.2,h.1,h.2]
 ·simp [za0,zfA,zca,zcI,h1.1,h1.2,h.1,h.2]
end
def tD (F R:List Str) (ps:List Pr):D:=.tup [.lst (F.map D.str),.lst (R.map D.str),.lst (ps.map pD)]
def kst (ps:List Pr) (ks:List Str):List Str:=ks++(ps.filter λp=>decide (p.2∈ks)&&!decide (p.1∈ks)).map (·.1)
theorem zpP (ks:List Str) (hk:∀ z∈ks,Ok z):∀ (ps:List Pr) (x y:Option D),(∀ p∈ps,OkP p)->
  ze8 (gSq 2 (gCs (gN 0) (gCs (gN 1) gNs))) (zzr (zal (m2 oIn (mV 1) (mV 2))) (zal (m2 zeo (mV 0) (mV 2)))) (mV 0) (ps.map pD) [oD' x,oD' y,some (.sh (.lst (ks.map D.str)))]=some (((ps.filter λp=>decide (p.2∈ks)&&!decide (p.1∈ks)).map (·.1)).map D.str)
 | [],x,y,_=>rfl
 | p :: ps,x,y,h=>by
  have ih:=zpP ks hk ps (some (.str p.1)) (some (.str p.2)) λq hq=>h q (by simp [hq]);simp only [oD',Option.map_some] at ih;have op:=h p (by simp);have h1:=zyM op.1 hk;have h2:=zyM op.2 hk;have hg:gSq 2 (gCs (gN 0) (gCs (gN 1) gNs)) (pD p) [oD' x,oD' y,some (.sh (.lst (ks.map D.str)))]=some [some (.sh (.str p.1)),some (.sh (.str p.2)),some (.sh (.lst (ks.map D.str)))]:=by simp [pD]
  rw [List.map_cons,ze8,hg,List.filter_cons]
  by_cases c2:p.2∈ks
  ·rw [decide_eq_true c2] at h2
   by_cases c1:p.1∈ks
   ·rw [decide_eq_true c1] at h1;simp [oIn,zeo,h1,h2,c1,c2,ih]
   ·rw [decide_eq_false c1] at h1;simp [oIn,zeo,h1,h2,c1,c2,ih]
  ·rw [decide_eq_false c2] at h2;simp [oIn,zeo,h2,c2,ih]
theorem zy2 (ps:List Pr) (ks:List Str):(kst ps ks).length<=ks.length+ps.length:=by
 unfold kst;have:=List.length_filter_le (λp:Pr=>decide (p.2∈ks)&&!decide (p.1∈ks)) ps;simp only [List.length_append,List.length_map];omega
theorem zwE {ps:List Pr} {ks:List Str} (hp:∀ p∈ps,OkP p) (hk:∀ z∈ks,Ok z):∀ z∈kst ps ks,Ok z:=by
 intro z hz;unfold kst at hz;rcases List.mem_append.mp hz with h | h
 ·exact hk z h
 ·obtain ⟨p,h1,rfl⟩:=List.mem_map.mp h;exact (hp p (List.mem_filter.mp h1).1).1
theorem zvG (F R:List Str) (ps:List Pr) (ks:List Str) (s1 x3:Option SV) (hk:∀ z∈ks,Ok z) (hp:∀ p∈ps,OkP p) (hl:ks.length+ps.length<=sizeLine) :
  zbA [some (.sh (tD F R ps)),s1,some (.li (ks.map D.str)),x3]=.nx [some (.sh (tD F R ps)),s1,some (.li ((kst ps ks).map D.str)),x3]:=by
 have h:=zpP ks hk ps none none hp;have h2:=List.length_filter_le (λp:Pr=>decide (p.2∈ks)&&!decide (p.1∈ks)) ps;have e0:kst ps ks=ks++(ps.filter λp=>decide (p.2∈ks)&&!decide (p.1∈ks)).map (·.1):=rfl;have h3:((ps.filter λp=>decide (p.2∈ks)&&!decide (p.1∈ks)).map (·.1)).length<=ps.length:=by rw [List.length_map]; exact h2
 generalize ((ps.filter λp=>decide (p.2∈ks)&&!decide (p.1∈ks)).map (·.1))=us at h e0 h3;simp only [oD',Option.map_none] at h;have hz:ps.length<=sizeLine:=by omega
 have hz2:ks.length+us.length<=sizeLine:=by omega
 have pl:D.plains (ks.map D.str++us.map D.str)=true:=by rw [<- List.map_append]; exact zfa _
 have e:oIx (tD F R ps) (.int 2)=some (.lst (ps.map pD)):=rfl;rw [e0,List.map_append];simp [zbA,e,h,hz,hz2,pl,-oIx]
def kit (ps:List Pr):Nat->List Str->List Str
 | 0,ks=>ks
 | n+1,ks=>kit ps n (kst ps ks)
theorem zpQ (F R:List Str) (ps:List Pr) (s1:Option SV) (hp:∀ p∈ps,OkP p):∀ (ds:List D) (ks:List Str) (x3:Option D),(∀ z∈ks,Ok z)->ks.length+ds.length*ps.length<=sizeLine->∃ y3,
  za9 (gN 3) zbA ds [some (.sh (tD F R ps)),s1,some (.li (ks.map D.str)),oD' x3]=.nx [some (.sh (tD F R ps)),s1,some (.li ((kit ps ds.length ks).map D.str)),oD' y3]
 | [],ks,x3,_,_=>⟨x3,rfl⟩
 | d :: ds,ks,x3,hk,hl=>by
  simp only [List.length_cons,Nat.add_mul,Nat.one_mul] at hl;have hs:=zy2 ps ks;obtain ⟨y3,ih⟩:=zpQ F R ps s1 hp ds (kst ps ks) (some d) (zwE hp hk) (by omega);refine ⟨y3,?_⟩;have st:=zvG F R ps ks s1 (some (.sh d)) hk hp (by omega);rw [za9];have hg:gN 3 d [some (.sh (tD F R ps)),s1,some (.li (ks.map D.str)),oD' x3]=some [some (.sh (tD F R ps)),s1,some (.li (ks.map D.str)),some (.sh d)]:=by simp
  rw [hg];simp only [st];exact ih
theorem zln {α:Type} {p q:α->Bool}:∀ {xs:List α},(∀ x∈xs,p x=true->q x=true)->(∃ x∈xs,q x=true/\p x=false)->(xs.filter p).length+1<=(xs.filter q).length
 | [],_,h=>by obtain ⟨x,hx,_⟩:=h; cases hx
 | a :: xs,h1,h2=>by
  have le:∀ {ys:List α},(∀ x∈ys,p x=true->q x=true)->(ys.filter p).length<=(ys.filter q).length:=by
   intro ys
   induction ys with
   | nil=>intro _; simp
   | cons y ys ih=>
    intro h;have ih:=ih λx hx=>h x (by simp [hx]);have hy:=h y (by simp);rw [List.filter_cons,List.filter_cons];cases cp:p y
    ·cases cq:q y
     ·simpa using ih
     ·simp; omega
    ·simp [hy cp]; omega
  rw [List.filter_cons,List.filter_cons];cases cp:p a
  ·cases cq:q a
   ·simp only [Bool.false_eq_true,if_false];refine zln (λx hx=>h1 x (by simp [hx])) ?_;obtain ⟨x,hx,e1,e2⟩:=h2;rcases List.mem_cons.mp hx with rfl | hx
    ·rw [cq] at e1; cases e1
    ·exact ⟨x,hx,e1,e2⟩
   ·have:=le (ys:=xs) λx hx=>h1 x (by simp [hx]);simp; omega
  ·have cq:=h1 a (by simp) cp;simp only [cq,if_true,List.length_cons];have:=zln (xs:=xs) (λx hx=>h1 x (by simp [hx])) (by
    obtain ⟨x,hx,e1,e2⟩:=h2;rcases List.mem_cons.mp hx with rfl | hx
    ·rw [cp] at e2; cases e2
    ·exact ⟨x,hx,e1,e2⟩)
   omega
theorem zjo {ps:List Pr} {ks:List Str} {x:Str}:x∈kst ps ks↔x∈ks\/(x∉ks/\∃ y,(x,y)∈ps/\y∈ks):=by
 unfold kst;rw [List.mem_append,List.mem_map];constructor
 ·rintro (h | ⟨p,h,rfl⟩)
  ·exact .inl h
  ·obtain ⟨h1,h2⟩:=List.mem_filter.mp h;simp only [Bool.and_eq_true,decide_eq_true_eq,Bool.not_eq_true',decide_eq_false_iff_not] at h2;exact .inr ⟨h2.2,p.2,h1,h2.1⟩
 ·rintro (h | ⟨h,y,h1,h2⟩)
  ·exact .inl h
  ·exact .inr ⟨(x,y),List.mem_filter.mpr ⟨h1,by simp [h,h2]⟩,rfl⟩
def zzC (ps:List Pr) (ks:List Str):Prop:=∀ x y,(x,y)∈ps->y∈ks->x∈ks
theorem zpR {ps:List Pr} {ks:List Str} (h:zzC ps ks):zzC ps (kst ps ks):=by
 intro x y hxy hy;rw [zjo];rcases zjo.mp hy with hy | ⟨hn,z,hz,hz2⟩
 ·exact .inl (h x y hxy hy)
 ·exact absurd (h y z hz hz2) hn
theorem ztw {ps:List Pr} {R:List Str} (pm:∀ p∈ps,p.1∈R/\p.2∈R) {r:Str}:∀ (n:Nat) (ks:List Str) (m:Nat),r∈ks->(∀ x∈ks,Reach ps x r)->(zzC ps ks\/m+1<=(R.filter λx=>decide (x∈ks)).length)->
  r∈kit ps n ks/\(∀ x∈kit ps n ks,Reach ps x r)/\(zzC ps (kit ps n ks)\/n+m+1<=(R.filter λx=>decide (x∈kit ps n ks)).length)
 | 0,ks,m,h1,h2,h3=>⟨h1,h2,by rw [Nat.zero_add]; exact h3⟩
 | n+1,ks,m,h1,h2,h3=>by
  have a1:r∈kst ps ks:=zjo.mpr (.inl h1);have a2:∀ x∈kst ps ks,Reach ps x r:=λx hx=>by
   rcases zjo.mp hx with h | ⟨_,y,h,hy⟩
   ·exact h2 x h
   ·exact .step h (h2 y hy)
  have a3:zzC ps (kst ps ks)\/(m+1)+1<=(R.filter λx=>decide (x∈kst ps ks)).length:=by
   rcases h3 with h3 | h3
   ·exact .inl (zpR h3)
   ·refine (Classical.em (zzC ps ks)).elim (λc=>.inl (zpR c)) λc=>.inr ?_;have:∃ x∈R,decide (x∈kst ps ks)=true/\decide (x∈ks)=false:=by
     refine Classical.byContradiction λnn=>c λx y hxy hy=>Classical.byContradiction λhx=>nn ⟨x,(pm _ hxy).1,?_,by simpa using hx⟩;rw [decide_eq_true_iff];exact zjo.mpr (.inr ⟨hx,y,hxy,hy⟩)
    have:=zln (p:=λx=>decide (x∈ks)) (q:=λx=>decide (x∈kst ps ks)) (xs:=R) (λx _ hx=>by
     rw [decide_eq_true_iff] at hx ⊢;exact zjo.mpr (.inl hx)) this
    omega
  obtain ⟨b1,b2,b3⟩:=ztw pm n (kst ps ks) (m+1) a1 a2 a3;refine ⟨b1,b2,?_⟩;rcases b3 with b3 | b3
  ·exact .inl b3
  ·exact .inr (by
    have e:n+(m+1)+1=n+1+m+1:=by omega
    rw [e] at b3; exact b3)
theorem ztx {ps:List Pr} {R:List Str} (pm:∀ p∈ps,p.1∈R/\p.2∈R) {r:Str} (hr:r∈R) (x:Str):x∈kit ps R.length [r]↔Reach ps x r:=by
 obtain ⟨h1,h2,h3⟩:=ztw pm (r:=r) R.length [r] 0 (by simp) (λx hx=>by rw [List.mem_singleton.mp hx]; exact .refl _) (.inr (by
  have:r∈R.filter λx=>decide (x∈[r]):=List.mem_filter.mpr ⟨hr,by simp⟩;have:=List.length_pos_of_mem this;omega))
 refine zgw h1 h2 ?_ x;rcases h3 with h3 | h3
 ·exact h3
 ·have:=List.length_filter_le (λx=>decide (x∈kit ps R.length [r])) R;omega
theorem zwF {ps:List Pr} (hp:∀ p∈ps,OkP p):∀ (n:Nat) (ks:List Str),(∀ z∈ks,Ok z)->∀ z∈kit ps n ks,Ok z
 | 0,ks,h=>h
 | n+1,ks,h=>zwF hp n (kst ps ks) (zwE hp h)
theorem _root_.M1.Valid.okR {F R:List Str} {ps:List Pr} (v:Valid F R ps):∀ z∈R,Ok z:=λz hz=>(v.rg z hz).ok
theorem _root_.M1.Valid.okF {F R:List Str} {ps:List Pr} (v:Valid F R ps):∀ z∈F,Ok z:=λz hz=>(v.fg z hz).ok
theorem _root_.M1.Valid.okP {F R:List Str} {ps:List Pr} (v:Valid F R ps):∀ p∈ps,OkP p:=λp hp=>⟨v.okR _ (v.pm p hp).1,v.okR _ (v.pm p hp).2⟩
theorem zf8 {F R:List Str} {ps:List Pr} (v:Valid F R ps) {r:Str} (hr:r∈R):zaq [tD F R ps,.str r]=some (.li ((brg ps R r).map D.str)):=by
 have r6:=v.r6;have p15:=v.p15;have hm:R.length*ps.length<=6*15:=Nat.mul_le_mul r6 p15;have rk:=zyK R.length (by omega);obtain ⟨y3,h⟩:=zpQ F R ps (some (.sh (.str r))) v.okP ((List.range R.length).map nD) [r] none (by intro z hz; rw [List.mem_singleton.mp hz]; exact v.okR r hr) (by rw [zax]; simp; omega);simp only [oD',Option.map_none,List.map_cons,List.map_nil,List.length_map,List.length_range] at h
 have hok:=zwF v.okP R.length [r] (by intro z hz; rw [List.mem_singleton.mp hz]; exact v.okR r hr);have hc:=zo2 (kit ps R.length [r]) hok (λu=>rch ps u r) (λx=>by rw [Bool.eq_iff_iff,zo1,decide_eq_true_iff]; exact (ztx v.pm hr x).symm) R none v.okR;simp only [oD',Option.map_none] at hc;have hb:(R.filter λu=>rch ps u r)=brg ps R r:=rfl;rw [hb] at hc;have h1:(1:Nat)<=sizeLine:=by rw [zax]; omega
 have hz:R.length<=sizeLine:=by rw [zax]; omega
 have e:oIx (tD F R ps) (.int 1)=some (.lst (R.map D.str)):=rfl;generalize (List.range R.length).map nD=its at rk h;generalize kit ps R.length [r]=ks at h hc;simp [zaq,zcA,zb1,zfd,zfd,e,h1,rk,h,hc,hz,-oIx]
theorem zy3 (w:Str) (F':List Str) (r:Str):∀ (R:List Str),r∈R->(R.map (λx=>(w,x))++zc2 F' R).idxOf (w,r)=R.idxOf r:=by
 intro R;have:∀ (R:List Str) (zcc:List Pr),r∈R->(R.map (λx=>(w,x))++zcc).idxOf (w,r)=R.idxOf r:=by
  intro R
  induction R with
  | nil=>intro zcc h; cases h
  | cons x R ih=>
   intro zcc h
   by_cases c:x=r
   ·subst c; simp [List.idxOf_cons]
   ·have hr:r∈R:=by
     rcases List.mem_cons.mp h with rfl | h
     ·exact absurd rfl c
     ·exact h
    have:=ih zcc hr;have b1:(x==r)=false:=by simpa using c
    have b2:(((w,x):Pr)==(w,r))=false:=by simpa using c
    rw [List.map_cons,List.cons_append,List.idxOf_cons,List.idxOf_cons,b1,b2];simp [this]
 exact this R (zc2 F' R)
theorem zpS {R:List Str} {w r:Str} (hr:r∈R):∀ {F:List Str},w∈F->plc F R w r=F.idxOf w*R.length+R.idxOf r
 | [],h=>by cases h
 | x :: F,h=>by
  have e:zc2 (x :: F) R=(R.map λr=>(x,r))++zc2 F R:=rfl;unfold plc;rw [e]
  by_cases c:x=w
  ·subst c;rw [zy3 x F r R hr];simp [List.idxOf_cons]
  ·have hw:w∈F:=by
    rcases List.mem_cons.mp h with rfl | h
    ·exact absurd rfl c
    ·exact h
   have b:(x==w)=false:=by simpa using c
   rw [List.idxOf_cons,b,cond_false,Nat.add_mul,Nat.one_mul];have ih:=zpS hr hw;unfold plc at ih;have ni:(w,r)∉R.map λr=>(x,r):=by
    intro z;obtain ⟨y,_,e⟩:=List.mem_map.mp z;exact c (congrArg Prod.fst e)
   rw [List.idxOf_append,if_neg ni,ih,List.length_map];omega
theorem zmd (zs:List Str):zlK (zs.map D.str)=some zs:=by
 induction zs with
 | nil=>rfl
 | cons z zs ih=>simp [ih]
theorem zpT {z:Str} {zs:List Str} (h:z∈zs):zjy (.lst (zs.map D.str)) [.str z]=some (.sh (.int (zs.idxOf z:Nat))):=by
 have:=List.idxOf_lt_length_of_mem h;simp [zmd,this]
theorem zwG {F R:List Str} {w r:Str} (hw:w∈F) (hr:r∈R):plc F R w r < F.length*R.length:=by
 have:=List.idxOf_lt_length_of_mem (zll (p:=(w,r)).mpr ⟨hw,hr⟩);rw [zlk] at this;exact this
theorem zpU {F R:List Str} {ps:List Pr} (v:Valid F R ps) {w r:Str} (hw:w∈F) (hr:r∈R):zaT [tD F R ps,.str w,.str r]=some (.sh (.int (2 ^ plc F R w r:Nat))):=by
 have h1:=zpT hw;have h2:=zpT hr;have e0:oIx (tD F R ps) (.int 0)=some (.lst (F.map D.str)):=rfl;have e1:oIx (tD F R ps) (.int 1)=some (.lst (R.map D.str)):=rfl;have a1:=List.idxOf_lt_length_of_mem hw;have f4:=v.f4;have fr:=v.fr;have pe:=zpS hr hw;have pl:=zwG hw hr;have cm:zmt ((F.idxOf w:Nat):Int) (R.length:Int)=true:=zlH (by omega) (by omega);have pi:((F.idxOf w:Nat):Int)*(R.length:Int)+((R.idxOf r:Nat):Int)=((plc F R w r:Nat):Int):=by rw [pe,Int.natCast_add,Int.natCast_mul]
 have hp:zos 1 ((plc F R w r:Nat):Int)=true:=by
  rw [zia];exact ⟨by omega,by omega,by decide⟩
 simp [zaT,zcA,zev,e0,e1,h1,h2,cm,pi,hp,-oIx,-zjy]
theorem zy4 (s k:Nat):((s:Int) / ((2 ^ k:Nat):Int)%2==1)=s.testBit k:=by
 have e:((s:Int) / ((2 ^ k:Nat):Int))%2=((s / 2 ^ k%2:Nat):Int):=by simp
 rw [e,Nat.testBit_eq_decide_div_mod_eq];generalize s / 2 ^ k%2=t;rw [Bool.eq_iff_iff,beq_iff_eq,decide_eq_true_iff];omega
theorem zty {k:Nat} (h:k < 100):((2 ^ k:Nat):Int) < 1606938044258990275541962092341162602522202993782792835301376:=by
 have h1:2 ^ k < 2 ^ 100:=Nat.pow_lt_pow_right (by omega) h;have h2:(2:Nat) ^ 100 < 1606938044258990275541962092341162602522202993782792835301376:=by decide
 omega
theorem zvH {F R:List Str} {ps:List Pr} (v:Valid F R ps) (s:Nat) {w r:Str} (hw:w∈F) (hr:r∈R):zbN [tD F R ps,.int s,.str w,.str r]=some (.sh (.bl (s.testBit (plc F R w r)))):=by
 have h:=zpU v hw hr;have d:=zy4 s (plc F R w r);have fr:=v.fr;have lt:=zwG hw hr;have p1:(0:Int) < ((2 ^ plc F R w r:Nat):Int):=by have:0 < 2 ^ plc F R w r:=Nat.pow_pos (by omega); omega
 have p2:=zty (k:=plc F R w r) (by omega);have cd:=zkv p1 p2;rw [<- d];generalize ((2 ^ plc F R w r:Nat):Int)=b at h cd ⊢;simp [zbN,zcA,zfH,zhx,zhx,h,cd,zpO]
theorem zBR (xs:List Str) (h:∀ z∈xs,Ok z):oNe (.lst (xs.map D.str)) (.lst [])=some (.bl (!xs.isEmpty)):=by
 have h1:shp (.lst (xs.map D.str))=some (.list (xs.map PyData.str)):=by simp [shp,D.dat,zyL,zCq h]
 have h2:shp (.lst [])=some (.list []):=rfl;cases xs with
 | nil=>rfl
 | cons x xs=>simp [oNe,h1,h2,PyData.eqv,PyData.eqvAll] at *; simp [h1,h2,PyData.eqv,PyData.eqvAll]
theorem zwH {F R:List Str} {ps:List Pr} (v:Valid F R ps) (s:Nat) {w r:Str} (hw:w∈F) (hr:r∈R):zbT [tD F R ps,.int s,.str w,.str r]=some (.sh (.bl (zfy F R ps s w r))):=by
 have h1:=zf8 v hr;have hm:∀ u∈brg ps R r,u∈R:=λu hu=>(zjn.mp hu).1;have hc:∀ (xs:List Str) (x:Option D),(∀ u∈xs,u∈R)->ze8 (gN 0) (zal (mFr (m1 zbN (zab (mV 1) (zab (mV 2) (zab (mV 3) (zab (mV 0) zam))))))) (mV 0) (xs.map D.str) [oD' x,some (.sh (tD F R ps)),some (.sh (.int s)),some (.sh (.str w))]=some ((xs.filter λu=>s.testBit (plc F R w u)).map D.str):=by
  intro xs
  induction xs with
  | nil=>intro x _; rfl
  | cons u xs ih=>
   intro x h;have i:=ih (some (.str u)) λz hz=>h z (by simp [hz]);simp only [oD',Option.map_some] at i;have h3:=zvH v s hw (h u (by simp));rw [List.map_cons,ze8,List.filter_cons];cases c:s.testBit (plc F R w u)
   ·rw [c] at h3;simp [h3,i]
   ·rw [c] at h3;simp [h3,i]
 have h:=hc (brg ps R r) none hm;simp only [oD',Option.map_none] at h;have hl:(brg ps R r).length<=sizeLine:=by
  have:(brg ps R r).length<=R.length:=List.length_filter_le _ _;have:=v.r6;rw [zax]; omega
 have ne:=zBR ((brg ps R r).filter λu=>s.testBit (plc F R w u)) λz hz=>v.okR z (hm z (List.mem_filter.mp hz).1);have e:(!((brg ps R r).filter λu=>s.testBit (plc F R w u)).isEmpty)=zfy F R ps s w r:=by
  rw [zfy,Bool.eq_iff_iff,List.any_eq_true,Bool.not_eq_true',List.isEmpty_eq_false_iff_exists_mem];constructor
  ·rintro ⟨u,hu⟩;exact ⟨u,(List.mem_filter.mp hu).1,(List.mem_filter.mp hu).2⟩
  ·rintro ⟨u,h1,h2⟩;exact ⟨u,List.mem_filter.mpr ⟨h1,h2⟩⟩
 rw [<- e];simp [zbT,zcA,zgH,zkN,zkN,h1,h,hl,ne,zh7]
theorem zy5 (c left num:Int) (k:Nat) (s1:Option SV) (xs:List D) (hx:xs.length < sizeLine) (h0:0<=num) (h1:num < 2147483647) (hk:k < 100):∃ (v:Nat) (num':Int),0<=num'/\num' < 2147483647/\
  zbn [sI' c,s1,some (.li xs),sI' left,sI' num,sI' k]=.nx [sI' c,s1,some (.li (xs++[nD v])),sI' (left / 1000003),sI' num',sI' k]:=by
 have n0:0<=(num*num+48271*num+7919*k+11)%2147483647:=Int.emod_nonneg _ (by omega);have n1:(num*num+48271*num+7919*k+11)%2147483647 < 2147483647:=Int.emod_lt_of_pos _ (by omega);have c1:zmt num num=true:=zlH (by omega) (by omega);have hz:(2:Nat)<=sizeLine:=by rw [zax]; omega
 obtain ⟨v1,e1,_⟩:=ziN left (b:=1000003) (by omega);obtain ⟨v2,e2⟩:=Int.eq_ofNat_of_zero_le n0;generalize hM:(num*num+48271*num+7919*(k:Int)+11)%2147483647=M at n0 n1 e2
 by_cases d:(c%2==1)=true
 ·by_cases e:0 < left
  ·exact ⟨v1,M,n0,n1,by simp [zbn,c1,hM,zpO,d,e,hz,hx,e1,D.plain,atI,ixN]⟩
  ·exact ⟨v2,M,n0,n1,by simp [zbn,c1,hM,zpO,d,e,hz,hx,e1,e2,D.plain,atI,ixN]⟩
 ·exact ⟨v2,M,n0,n1,by simp [zbn,c1,hM,zpO,d,hz,hx,e1,e2,D.plain,atI,ixN]⟩
theorem ztz (c:Int) (s1:Option SV):∀ (ks vs:List Nat) (left num:Int) (x5:Option D),(∀ k∈ks,k < 100)->vs.length+ks.length<=sizeLine->0<=num->num < 2147483647->∃ (ws:List Nat) (left' num':Int) (y5:Option D),ws.length=vs.length+ks.length/\
  za9 (gN 5) zbn (ks.map nD) [sI' c,s1,some (.li (vs.map nD)),sI' left,sI' num,oD' x5]=.nx [sI' c,s1,some (.li (ws.map nD)),sI' left',sI' num',oD' y5]
 | [],vs,left,num,x5,_,_,_,_=>⟨vs,left,num,x5,rfl,rfl⟩
 | k :: ks,vs,left,num,x5,hk,hl,h0,h1=>by
  simp only [List.length_cons] at hl;obtain ⟨v,num1,a0,a1,e⟩:=zy5 c left num k s1 (vs.map nD) (by rw [List.length_map]; omega) h0 h1 (hk k (by simp));obtain ⟨ws,left',num',y5,hw,h⟩:=ztz c s1 ks (vs++[v]) (left / 1000003) num1 (some (.int k)) (λz hz=>hk z (by simp [hz])) (by simp; omega) a0 a1;refine ⟨ws,left',num',y5,by simp at hw ⊢; omega,?_⟩;rw [List.map_cons,za9];have hg:gN 5 (nD k) [sI' c,s1,some (.li (vs.map nD)),sI' left,sI' num,oD' x5]=some [sI' c,s1,some (.li (vs.map nD)),sI' left,sI' num,sI' k]:=by simp
  rw [hg];simp only [e];rw [List.map_append] at h;exact h
theorem zmS (c:Int) (n:Nat) (hn:n < 100):∃ ws:List Nat,ws.length=n/\zaz [.int c,.int n]=some (.li (ws.map nD)):=by
 obtain ⟨ws,left',num',y5,hw,h⟩:=ztz c (sI' n) (List.range n) [] (c / 2) (c / 2%2147483647) none (by intro k hk; simp at hk; omega) (by rw [zax]; simp; omega) (Int.emod_nonneg _ (by omega)) (Int.emod_lt_of_pos _ (by omega));refine ⟨ws,by simpa using hw,?_⟩;have hr:=zyK n (by omega);generalize (List.range n).map nD=its at hr h;simp only [sI',oD',Option.map_none,List.map_nil] at h;simp [zaz,zcA,zdd,zgA,zgA,hr,h]
def zjO:List Str:=["has","not","by","to","and","give","take","lay","from","if","both","most","last"]
theorem zqX:∀ z∈zjO,Good z:=by
 have:∀ z∈zjO,1<=z.length/\z.length<=6/\∀ c∈z.cps.toList,c∈zfD:=by decide +kernel
 exact λz hz=>⟨(this z hz).1,(this z hz).2.1,(this z hz).2.2⟩
theorem zlo:zjO.Nodup:=by decide +kernel
def zpV (i:Nat):Str:=zjO.getD i ⟨#[]⟩
theorem ziB {i:Nat} (h:i < 13):zjO[i]? = some (zpV i):=zif h
def zn0 (m k:Nat):Str:=zpV ((m / 5+4*k)%13)
theorem ztA {m j k:Nat} (hj:j < 6) (hk:k < 6) (h:zn0 m j=zn0 m k):j=k:=by
 have a:=ziB (i:=(m / 5+4*j)%13) (Nat.mod_lt _ (by omega));have b:=ziB (i:=(m / 5+4*k)%13) (Nat.mod_lt _ (by omega));rw [show zpV ((m / 5+4*j)%13)=zpV ((m / 5+4*k)%13) from h] at a;have e1:=zdg zlo a;have e2:=zdg zlo b;omega
theorem zqY (m k:Nat):Good (zn0 m k):=by
 have a:=ziB (i:=(m / 5+4*k)%13) (Nat.mod_lt _ (by omega));exact zqX _ (List.mem_of_getElem? a)
def ze6 (i:Nat):Nat:=zfD.getD i 0
theorem ziC {i:Nat} (h:i < 26):zfD[i]? = some (ze6 i):=by
 have hl:i < zfD.length:=h;rw [List.getElem?_eq_getElem hl];unfold ze6;rw [List.getD_eq_getElem?_getD,List.getElem?_eq_getElem hl];rfl
theorem zn1 {i:Nat} (h:i < 26):oIx (.str "abcdefghijklmnopqrstuvwxyz") (.int i)=some (.str ⟨#[ze6 i]⟩):=by
 have hz:(Str.ofString "abcdefghijklmnopqrstuvwxyz").length<=sizeLine:=by rw [zoG,zax]; omega
 have:=atN (ziC h);simp [oIx,hz,zmG,this]
theorem zvI {i j:Nat} (hi:i < 26) (hj:j < 26) (h:ze6 i=ze6 j):i=j:=by
 have a:=ziC hi;have b:=ziC hj;rw [h] at a;have hi':i < zfD.length:=hi;have hj':j < zfD.length:=hj;rw [List.getElem?_eq_getElem hi'] at a;rw [List.getElem?_eq_getElem hj'] at b;have:zfD[i]=zfD[j]:=by injection a with a; injection b with b; rw [a,b]
 exact (List.getElem_inj zoI).mp this
def zo6 (t:Str) (a m k:Nat):Str:=Txt.slice t none (some (a:Int))++(⟨#[ze6 ((m / 11+7*k)%26)]⟩:Str)++Txt.slice t (some (a:Int)) none
theorem zqZ {t:Str} {a m k:Nat} (ht:∀ x∈t.cps.toList,x∈zfD) (hl:t.length<=5) (ha:a<=t.length):Good (zo6 t a m k):=by
 refine zyE ?_ ?_ (List.mem_of_getElem? (ziC (Nat.mod_lt _ (by omega)))) ?_
 ·intro x hx; rw [znf ha] at hx; exact ht x (List.mem_of_mem_take hx)
 ·intro x hx; rw [zng ha] at hx; exact ht x (List.mem_of_mem_drop hx)
 ·have q1:(Txt.slice t none (some (a:Int))).length=a:=by
   show (Txt.slice t none (some (a:Int))).cps.size=_;rw [<- Array.length_toList,znf ha,List.length_take,Array.length_toList];exact Nat.min_eq_left ha
  have q2:(Txt.slice t (some (a:Int)) none).length=t.length-a:=by
   show (Txt.slice t (some (a:Int)) none).cps.size=_;rw [<- Array.length_toList,zng ha,List.length_drop,Array.length_toList];rfl
  omega
theorem ztB {t:Str} {a m j k:Nat} (hj:j < 6) (hk:k < 6) (h:zo6 t a m j=zo6 t a m k):j=k:=by
 have:=zBz h;have:=zvI (Nat.mod_lt _ (by omega)) (Nat.mod_lt _ (by omega)) this;omega
theorem ztC {t:Str} {a:Nat} (hl:t.length<=5) (c:Nat):(Txt.slice t none (some (a:Int))).length+1<=6/\(Txt.slice t none (some (a:Int))++(⟨#[c]⟩:Str)).length+(Txt.slice t (some (a:Int)) none).length<=11:=by
 have q1:=Txt.slice_le t none (some (a:Int));have q2:=Txt.slice_le t (some (a:Int)) none;have e:((⟨#[c]⟩:Str)).length=1:=rfl;rw [zfl,e];omega
theorem nodup_range {n:Nat} {f:Nat->Str} (h:∀ j k,j < n->k < n->f j=f k->j=k):((List.range n).map f).Nodup:=
 M1.nodup_map_on (λx hx y hy e=>h x y (List.mem_range.mp hx) (List.mem_range.mp hy) e) List.nodup_range
theorem zpW (m n:Nat) (hn:n<=6):∃ zs:List Str,zs.length=n/\zs.Nodup/\(∀ z∈zs,Good z)/\zbz [.int m,.int n]=some (.li (zs.map D.str)):=by
 have hz:n<=sizeLine:=by rw [zax]; omega
 have hr:=zyK n (by omega);have h13:13<=sizeLine:=by rw [zax]; omega
 have plW:D.plains [D.str "has",D.str "not",D.str "by",D.str "to",D.str "and",D.str "give",D.str "take",D.str "lay",D.str "from",D.str "if",D.str "both",D.str "most",D.str "last"]=true:=rfl
 by_cases d:m%5=0
 ·refine ⟨(List.range n).map (zn0 m),by simp,nodup_range λj k hj hk=>ztA (by omega) (by omega),?_,?_⟩
  ·intro z hz;obtain ⟨k,_,rfl⟩:=List.mem_map.mp hz;exact zqY m k
  ·have hc:=znw nD [sI' m,some (.sh (.lst (zjO.map D.str)))] (m2 oIx (mV 2) (m2 zeQ (mFr (m2 ze9 (m2 zd0 (mV 1) (mC (.int 5))) (mFr (m2 zkw (mC (.int 4)) (mV 0))))) (mC (.int 13)))) (λk=>.str (zn0 m k)) (List.range n) (λk _=>by
    have e:((m:Int) / 5+4*(k:Int))%13=(((m / 5+4*k)%13:Nat):Int):=by omega
    have:=atN (ziB (i:=(m / 5+4*k)%13) (Nat.mod_lt _ (by omega)));have w:atI (zjO.map D.str) ((((m / 5+4*k)%13:Nat):Int))=some (.str (zn0 m k)):=by
     refine atN ?_;rw [List.getElem?_map,ziB (Nat.mod_lt _ (by omega))];rfl
    simp only [m2,mV,mFr,mC,List.getElem?_cons_succ,List.getElem?_cons_zero,Option.join_some,Option.map_some,SV.fr,Option.bind_some,zd0,fI,zkv (show (0:Int) < 5 by omega) (by omega),if_true,zkw,zlH (show (-18446744073709551616:Int) < 4 by omega) (by omega),ze9,zeQ,show (0:Int) < 13 by omega,e,oIx,w]) none
   simp only [oD',Option.map_none,zjO,List.map_cons,List.map_nil] at hc;have dI:((m:Int)%5==0)=true:=by simp; omega
   have hil:((List.range n).map nD).length<=sizeLine:=by simpa using hz
   rw [show (List.range n).map (λk=>D.str (zn0 m k))=((List.range n).map (zn0 m)).map D.str by rw [List.map_map]; rfl] at hc;generalize (List.range n).map nD=its at hr hc hil;simp [zbz,zcA,zdF,h13,plW,zpO,dI,hr,hil,hc,-oIx,-List.map_map]
 ·have dI:((m:Int)%5==0)=false:=by simp; omega
  obtain ⟨q,eq,hq⟩:=ziN ((m:Int) / 5) (b:=6) (by omega);have hrq:=zyK q (by omega);have hilq:((List.range q).map nD).length<=sizeLine:=by rw [zax]; simp; omega
  let cs:List Nat:=(List.range q).map λk=>ze6 (m / (7*k+3)%26)
  let ys:List Str:=cs.map λc=>⟨#[c]⟩
  let t:Str:=Txt.join "" ys
  have ht:∀ x∈t.cps.toList,x∈zfD:=by
   intro x hx;rw [show t.cps.toList=ys.flatMap λy=>y.cps.toList from zpC ys,List.mem_flatMap] at hx;obtain ⟨y,hy,hx⟩:=hx;obtain ⟨c,hc,rfl⟩:=List.mem_map.mp hy;obtain ⟨k,_,rfl⟩:=List.mem_map.mp hc;have:x=ze6 (m / (7*k+3)%26):=by simpa using hx
   rw [this];exact List.mem_of_getElem? (ziC (Nat.mod_lt _ (by omega)))
  have htl:t.length=q:=by
   show t.cps.size=q;rw [<- Array.length_toList,show t.cps.toList=ys.flatMap λy=>y.cps.toList from zpC ys];have:∀ cs:List Nat,((cs.map λc=>(⟨#[c]⟩:Str)).flatMap λy=>y.cps.toList).length=cs.length:=by
    intro cs
    induction cs with
    | nil=>rfl
    | cons c cs ih=>
     simp [List.flatMap_cons] at ih ⊢;exact ih
   rw [this];simp [cs]
  have ht5:t.length<=5:=by omega
  have hc1:=znw nD [sI' m,some (.sh (.str "abcdefghijklmnopqrstuvwxyz"))] (m2 oIx (mV 2) (m2 zeQ (m2 zd0 (mV 1) (mFr (m2 ze9 (mFr (m2 zkw (mC (.int 7)) (mV 0))) (mC (.int 3))))) (mC (.int 26)))) (λk=>.str ⟨#[ze6 (m / (7*k+3)%26)]⟩) (List.range q) (λk hk=>by
   have hk':=List.mem_range.mp hk;have e:(m:Int) / (7*(k:Int)+3)%26=((m / (7*k+3)%26:Nat):Int):=by simp
   have w:=zn1 (i:=m / (7*k+3)%26) (Nat.mod_lt _ (by omega));have cd:zss (7*(k:Int)+3)=true:=zkv (by omega) (by omega);simp only [m2,mV,mFr,mC,List.getElem?_cons_succ,List.getElem?_cons_zero,Option.join_some,Option.map_some,SV.fr,Option.bind_some,zd0,fI,cd,if_true,zkw,zlH (show (-18446744073709551616:Int) < 7 by omega) (by omega),ze9,zeQ,show (0:Int) < 26 by omega,e,w]) none
  simp only [oD',Option.map_none] at hc1;rw [show (List.range q).map (λk=>D.str ⟨#[ze6 (m / (7*k+3)%26)]⟩)=ys.map D.str by simp [ys,cs,List.map_map]] at hc1;have hj:znn (.str "") [.lst (ys.map D.str)]=some (.sh (.str t)):=by
   have e0:(Str.ofString "").length=0:=by decide +kernel
   have hsum:∀ cs:List Nat,((cs.map λc=>(⟨#[c]⟩:Str)).map (·.length)).sum=cs.length:=by
    intro cs
    induction cs with
    | nil=>rfl
    | cons c cs ih=>
     rw [List.map_cons,List.map_cons,List.sum_cons,ih];show 1+cs.length=_;simp; omega
   have h1:(ys.map (·.length)).sum+ys.length*(Str.ofString "").length<=16777216:=by
    rw [hsum cs,e0];simp [cs]; omega
   simp only [znn,zmd,Option.bind_some];rw [if_pos h1]
  have cda:zss ((t.length:Int)+1)=true:=zkv (by omega) (by omega);obtain ⟨a,ea,ha⟩:=ziN ((m:Int) / 30) (b:=(t.length:Int)+1) (by omega);have ha':a<=t.length:=by omega
  have hlt:0 < (t.length:Int)+1:=by omega
  have htz:t.length<=sizeLine:=by rw [zax]; omega
  refine ⟨(List.range n).map (zo6 t a m),by simp,nodup_range λj k hj hk=>ztB (by omega) (by omega),?_,?_⟩
  ·intro z hz;obtain ⟨k,_,rfl⟩:=List.mem_map.mp hz;exact zqZ ht ht5 ha'
  ·have hc:=znw nD [sI' m,some (.sh (.str "abcdefghijklmnopqrstuvwxyz")),some (.sh (.str t)),sI' a] (mFr (m2 ze9 (mFr (m2 ze9 (mFr (mSl (mV 3) mNo (mAt (mV 4)))) (m2 oIx (mV 2) (m2 zeQ (mFr (m2 ze9 (m2 zd0 (mV 1) (mC (.int 11))) (mFr (m2 zkw (mC (.int 7)) (mV 0))))) (mC (.int 26)))))) (mFr (mSl (mV 3) (mAt (mV 4)) mNo)))) (λk=>.str (zo6 t a m k)) (List.range n) (λk hk=>by
    have e:((m:Int) / 11+7*(k:Int))%26=(((m / 11+7*k)%26:Nat):Int):=by omega
    have w:=zn1 (i:=(m / 11+7*k)%26) (Nat.mod_lt _ (by omega));obtain ⟨l1,l2⟩:=ztC (a:=a) ht5 (ze6 ((m / 11+7*k)%26));have l3:(Txt.slice t none (some (a:Int))).length+(⟨#[ze6 ((m / 11+7*k)%26)]⟩:Str).length<=sizeLine:=by
     have:(⟨#[ze6 ((m / 11+7*k)%26)]⟩:Str).length=1:=rfl;rw [zax]; omega
    have l4:(Txt.slice t none (some (a:Int))++(⟨#[ze6 ((m / 11+7*k)%26)]⟩:Str)).length+(Txt.slice t (some (a:Int)) none).length<=sizeLine:=by rw [zax]; omega
    simp only [m2,mV,mFr,mC,mSl,mNo,mAt,List.getElem?_cons_succ,List.getElem?_cons_zero,Option.join_some,Option.map_some,SV.fr,Option.bind_some,zd0,fI,zkv (show (0:Int) < 11 by omega) (by omega),if_true,zkw,zlH (show (-18446744073709551616:Int) < 7 by omega) (by omega),ze9,zeQ,show (0:Int) < 26 by omega,e,w,oSl,htz,l3,l4];rfl) none
   simp only [oD',Option.map_none] at hc;have hil:((List.range n).map nD).length<=sizeLine:=by simpa using hz
   rw [show (List.range n).map (λk=>D.str (zo6 t a m k))=((List.range n).map (zo6 t a m)).map D.str by rw [List.map_map]; rfl] at hc
   clear_value t
   generalize (List.range n).map nD=its at hr hc hil;generalize (List.range q).map nD=itq at hrq hc1 hilq;simp [zbz,zcA,zdF,h13,plW,zpO,dI,eq,hrq,hilq,hc1,hj,htz,ea,hlt,hr,hil,hc,D.plain,-oIx,-znn,-List.map_map]
abbrev lS (zs:List Str):Option SV:=some (.li (zs.map D.str))
theorem zy6 (s0 s1 s2 s3 s5 : Option SV) (r k : Nat) (O : List Str) (hO : O.length = r) (hk : k < r) : ∀ (js : List Nat) (is : List (Nat × Nat)) (left : Int) (x10 : Option D), (∀ j ∈ js, k < j /\ j < r) -> js.Nodup -> is.Nodup -> (∀ i ∈ is, i.1 < k \/ (i.1 = k /\ i.2 ∉ js)) -> (∀ i ∈ is, i.1 < i.2 /\ i.2 < r) -> is.length + js.length < sizeLine -> ∃ (is' : List (Nat × Nat)) (left' : Int) (y10 : Option D),
    is'.Nodup /\ (∀ i ∈ is', i.1 <= k) /\ (∀ i ∈ is', i.1 < i.2 /\ i.2 < r) /\ is'.length <= is.length + js.length /\
    za9 (gN 10) zbX (js.map nD) [s0, s1, s2, s3, sI' r, s5, lS O, sI' left, some (.li ((is.map (zgx O)).map pD)), sI' k, oD' x10] =
      .nx [s0, s1, s2, s3, sI' r, s5, lS O, sI' left', some (.li ((is'.map (zgx O)).map pD)), sI' k, oD' y10]
  | [], is, left, x10, _, _, nd, h1, h2, _ => ⟨is, left, x10, nd, λi hi => by rcases h1 i hi with h | h <;> omega, h2, by simp, rfl⟩
  | j :: js, is, left, x10, hj, jn, nd, h1, h2, hl => by
    simp only [List.length_cons] at hl;obtain ⟨jn1, jn2⟩ := List.nodup_cons.mp jn;obtain ⟨kj, jr⟩ := hj j (by simp);have ok : atI (O.map D.str) (k : Int) = some (.str (O.getD k ⟨#[]⟩)) := atN (by rw [List.getElem?_map, zif (by omega)]; rfl);have oj : atI (O.map D.str) (j : Int) = some (.str (O.getD j ⟨#[]⟩)) := atN (by rw [List.getElem?_map, zif (by omega)]; rfl);have hx : is.length < sizeLine := by omega
    have h2' : (2 : Nat) <= sizeLine := by rw [zax]; omega
    by_cases d : (left % 3 == 0) = true
    · obtain ⟨is', left', y10, a1, a2, a3, a4, ih⟩ := zy6 s0 s1 s2 s3 s5 r k O hO hk js (is ++ [(k, j)]) (left / 3) (some (.int j)) (λx hx => hj x (by simp [hx])) jn2
        (by
          rw [List.nodup_append];refine ⟨nd, by simp, λa ha b hb e => ?_⟩;rw [List.mem_singleton.mp hb] at e;subst e;rcases h1 _ ha with h | h
          · exact absurd h (Nat.lt_irrefl k)
          · exact h.2 (by simp))
        (λi hi => by
          rcases List.mem_append.mp hi with hi | hi
          · rcases h1 i hi with h | h
            · exact .inl h
            · exact .inr ⟨h.1, λz => h.2 (by simp [z])⟩
          · rw [List.mem_singleton.mp hi]; exact .inr ⟨rfl, jn1⟩)
        (λi hi => by
          rcases List.mem_append.mp hi with hi | hi
          · exact h2 i hi
          · rw [List.mem_singleton.mp hi]; exact ⟨kj, jr⟩) (by simp; omega)
      refine ⟨is', left', y10, a1, a2, a3, by simp at a4 ⊢; omega, ?_⟩;rw [<- ih, List.map_cons, za9];have e : pD (zgx O (k, j)) = .tup [.str (O.getD k ⟨#[]⟩), .str (O.getD j ⟨#[]⟩)] := rfl;simp [zbX, zpO, d, ok, oj, h2', hx, D.plain, D.plains, e, -List.map_map, -List.getD_eq_getElem?_getD]
    · obtain ⟨is', left', y10, a1, a2, a3, a4, ih⟩ := zy6 s0 s1 s2 s3 s5 r k O hO hk js is (left / 3) (some (.int j)) (λx hx => hj x (by simp [hx])) jn2 nd
        (λi hi => by
          rcases h1 i hi with h | h
          · exact .inl h
          · exact .inr ⟨h.1, λz => h.2 (by simp [z])⟩) h2 (by omega)
      refine ⟨is', left', y10, a1, a2, a3, by simp at a4 ⊢; omega, ?_⟩;rw [<- ih, List.map_cons, za9];simp [zbX, zpO, d, D.plain, -List.map_map]
theorem zwI (s0 s1 s2 s3 s5:Option SV) (r:Nat) (O:List Str) (hO:O.length=r) (hr:r<=6):∀ (ks:List Nat) (is:List (Nat×Nat)) (left:Int) (x9 x10:Option D),(∀ k∈ks,k < r)->ks.Pairwise (·< ·)->is.Nodup->(∀ i∈is,∀ k∈ks,i.1 < k)->(∀ i∈is,i.1 < i.2/\i.2 < r)->is.length+6*ks.length < 100->∃ (is':List (Nat×Nat)) (left':Int) (y9 y10:Option D),
  is'.Nodup/\(∀ i∈is',i.1 < i.2/\i.2 < r)/\
  za9 (gN 9) zbY (ks.map nD) [s0,s1,s2,s3,sI' r,s5,lS O,sI' left,some (.li ((is.map (zgx O)).map pD)),oD' x9,oD' x10] =
   .nx [s0,s1,s2,s3,sI' r,s5,lS O,sI' left',some (.li ((is'.map (zgx O)).map pD)),oD' y9,oD' y10]
 | [],is,left,x9,x10,_,_,nd,_,h2,_=>⟨is,left,x9,x10,nd,h2,rfl⟩
 | k :: ks,is,left,x9,x10,hk,ho,nd,h1,h2,hl=>by
  simp only [List.length_cons] at hl;obtain ⟨ho1,ho2⟩:=List.pairwise_cons.mp ho;have kr:=hk k (by simp);have rg:=zDz (k+1) r (by omega) (by omega);have mem:∀ j∈(List.range (r-(k+1))).map (λi=>k+1+i),k < j/\j < r:=by
   intro j hj;obtain ⟨i,hi,rfl⟩:=List.mem_map.mp hj;have:=List.mem_range.mp hi;omega
  have ln:((List.range (r-(k+1))).map λi=>k+1+i).length<=6:=by simp; omega
  obtain ⟨is1,left1,z10,a1,a2,a3,a4,e⟩:=zy6 s0 s1 s2 s3 s5 r k O hO kr ((List.range (r-(k+1))).map λi=>k+1+i) is left x10 mem
   (M1.nodup_map_on (λx _ y _ e=>by omega) List.nodup_range) nd (λi hi=>.inl (h1 i hi k (by simp))) h2 (by rw [zax]; omega)
  obtain ⟨is',left',y9,y10,b1,b2,ih⟩:=zwI s0 s1 s2 s3 s5 r O hO hr ks is1 left1 (some (.int k)) z10 (λx hx=>hk x (by simp [hx])) ho2 a1
   (λi hi q hq=>Nat.lt_of_le_of_lt (a2 i hi) (ho1 q hq)) a3 (by omega)
  refine ⟨is',left',y9,y10,b1,b2,?_⟩;rw [<- ih,List.map_cons,za9];generalize ((List.range (r-(k+1))).map λi=>k+1+i).map nD=its at rg e;have ek:((k:Int)+1)=((k+1:Nat):Int):=by omega
  have hb:zbY [s0,s1,s2,s3,sI' r,s5,lS O,sI' left,some (.li ((is.map (zgx O)).map pD)),sI' k,oD' x10]=.nx [s0,s1,s2,s3,sI' r,s5,lS O,sI' left1,some (.li ((is1.map (zgx O)).map pD)),sI' k,oD' z10]:=by
   rw [<- e];simp only [zbY,zfc,zfc,zlG,mR2,zab,mFr,m2,mV,mC,zam,List.getElem?_cons_succ,List.getElem?_cons_zero,Option.join_some,Option.map_some,SV.fr,Option.bind_some,ze9,ek,List.length_cons,List.length_nil,if_true,Nat.zero_add,Nat.reduceAdd,rg]
  have hg:gN 9 (nD k) [s0,s1,s2,s3,sI' r,s5,lS O,sI' left,some (.li ((is.map (zgx O)).map pD)),oD' x9,oD' x10]=some [s0,s1,s2,s3,sI' r,s5,lS O,sI' left,some (.li ((is.map (zgx O)).map pD)),sI' k,oD' x10]:=by simp
  rw [hg];simp only [hb];rfl
def zn2:List (Nat×Nat):=[(2,2),(2,3),(3,2),(1,4),(4,1),(2,4),(4,2),(1,6),(1,1),(3,1),(2,1),(1,2)]
def zn3:List (Nat×Nat):=[(2,6),(3,4),(4,3),(2,5)]
def sP (p:Nat×Nat):D:=.tup [.int p.1,.int p.2]
theorem zvJ:∀ p∈zn2++zn3,1<=p.1/\p.1<=4/\1<=p.2/\p.2<=6/\p.1*p.2<=12:=by decide
theorem ztD (c:Int):∃ (F R:List Str) (ps:List Pr),Valid F R ps/\zbR [.int c]=some (.sh (tD F R ps)):=by
 obtain ⟨ws,hw,hs⟩:=zmS c 8 (by omega)
 match ws,hw,hs with
 | [n0,n1,n2,n3,n4,n5,n6,n7],_,hs=>
  have hz:16<=sizeLine:=by rw [zax]; omega
  have h2:2<=sizeLine:=by omega
  have h4:4<=sizeLine:=by omega
  have h12:12<=sizeLine:=by omega
  let NS:List D:=[nD n0,nD n1,nD n2,nD n3,nD n4,nD n5,nD n6,nD n7]
  let SZ:List D:=[.tup [.int 2,.int 2],.tup [.int 2,.int 3],.tup [.int 3,.int 2],.tup [.int 1,.int 4],.tup [.int 4,.int 1],.tup [.int 2,.int 4],.tup [.int 4,.int 2],.tup [.int 1,.int 6],.tup [.int 1,.int 1],.tup [.int 3,.int 1],.tup [.int 2,.int 1],.tup [.int 1,.int 2]]
  obtain ⟨i0,e0,l0⟩:=ziN (n0:Int) (b:=12) (by omega);obtain ⟨p0,hp0⟩:∃ p,zn2[i0]? = some p:=⟨_,List.getElem?_eq_getElem (show i0 < zn2.length by show i0 < 12; omega)⟩
  obtain ⟨i1,e1,l1⟩:=ziN ((n1:Int) / 16) (b:=4) (by omega);obtain ⟨p1,hp1⟩:∃ p,zn3[i1]? = some p:=⟨_,List.getElem?_eq_getElem (show i1 < zn3.length by show i1 < 4; omega)⟩
  have at0':atI (zn2.map sP) (i0:Int)=some (sP p0):=atN (by rw [List.getElem?_map,hp0]; rfl);have at1':atI (zn3.map sP) (i1:Int)=some (sP p1):=atN (by rw [List.getElem?_map,hp1]; rfl);have at0:atI SZ (i0:Int)=some (.tup [.int p0.1,.int p0.2]):=at0';have at1:atI [D.tup [.int 2,.int 6],D.tup [.int 3,.int 4],D.tup [.int 4,.int 3],D.tup [.int 2,.int 5]] (i1:Int)=some (.tup [.int p1.1,.int p1.2]):=at1'
  -- sizes
  obtain ⟨p,hp,eP⟩:∃ p∈zn2++zn3,(mIf (zal (m2 oEq (m2 zeQ (m2 oIx (mV 1) (mC (.int 1))) (mC (.int 16))) (mC (.int 3))))
  (zzu [1] (mSh (m2 oIx (mFr (zhc (zab (zdN (zab (mC (.int 2)) (zab (mC (.int 6)) zam))) (zab (zdN (zab (mC (.int 3)) (zab (mC (.int 4)) zam))) (zab (zdN (zab (mC (.int 4)) (zab (mC (.int 3)) zam))) (zab (zdN (zab (mC (.int 2)) (zab (mC (.int 5)) zam))) zam)))))) (m2 zeQ (m2 zd0 (m2 oIx (mV 1) (mC (.int 1))) (mC (.int 16))) (mC (.int 4))))) (gSq 2 (gCs (gN 3) (gCs (gN 4) gNs))))
  zce) [sI' c,some (.li NS),some (.li SZ),sI' p0.1,sI' p0.2,none,none,none,none,none,none]=.nx [sI' c,some (.li NS),some (.li SZ),sI' p.1,sI' p.2,none,none,none,none,none,none]:=by
   by_cases d:((n1:Int)%16==3)=true
   ·refine ⟨p1,List.mem_append_right _ (List.mem_of_getElem? hp1),?_⟩;have a1:atI NS 1=some (nD n1):=rfl;simp [a1,zpO,d,h2,h4,e1,at1,D.plain,D.plains]
   ·refine ⟨p0,List.mem_append_left _ (List.mem_of_getElem? hp0),?_⟩;have a1:atI NS 1=some (nD n1):=rfl;simp [a1,zpO,d]
  obtain ⟨q1,q2,q3,q4,q5⟩:=zvJ p hp;obtain ⟨R,rl,rn,rg,eR⟩:=zpW n2 p.2 q4;obtain ⟨F,fl,fn,fg,eF⟩:=zpW n6 p.1 (by omega);obtain ⟨a,ea,la⟩:=ziN (n3:Int) (b:=(p.2:Int)) (by omega);have cd:(0:Int) < (p.2:Int):=by omega
  have c1:znk (R.map D.str) (some (a:Int)) none=(R.drop a).map D.str:=by rw [zsZ _ _ (by rw [List.length_map]; omega),List.map_drop]
  have c2:znk (R.map D.str) none (some (a:Int))=(R.take a).map D.str:=by rw [zwB _ _ (by rw [List.length_map]; omega),List.map_take]
  have pr0:(R.drop a++R.take a).Perm R:=(List.perm_append_comm).trans (by rw [List.take_append_drop]);have hlO:(R.drop a).length+(R.take a).length<=sizeLine:=by simp; omega
  -- the order
  obtain ⟨O,hO,eO⟩:∃ O:List Str,O.Perm R/\(mIf (zal (m2 oEq (m2 zeQ (m2 oIx (mV 1) (mC (.int 5))) (mC (.int 2))) (mC (.int 1))))
  (zA8 6)
  zce) [sI' c,some (.li NS),some (.li SZ),sI' p.1,sI' p.2,lS R,lS (R.drop a++R.take a),none,none,none,none]=.nx [sI' c,some (.li NS),some (.li SZ),sI' p.1,sI' p.2,lS R,lS O,none,none,none,none]:=by
   have a5:atI NS 5=some (nD n5):=rfl
   by_cases d:((n5:Int)%2==1)=true
   ·refine ⟨(R.drop a++R.take a).reverse,(List.reverse_perm _).trans pr0,?_⟩;rw [show lS ((R.drop a++R.take a).reverse)=some (.li ((R.drop a++R.take a).map D.str).reverse) by simp only [lS,List.map_reverse]];generalize (R.drop a++R.take a)=Z;simp [a5,zpO,d]
   ·refine ⟨R.drop a++R.take a,pr0,?_⟩;generalize (R.drop a++R.take a)=Z;simp [a5,zpO,d]
  have hOl:O.length=p.2:=by rw [hO.length_eq,rl]
  obtain ⟨is,left',y9,y10,b1,b2,eL⟩:=zwI (sI' c) (some (.li NS)) (some (.li SZ)) (sI' p.1) (lS R) p.2 O hOl q4 (List.range p.2) [] n4 none none (by intro k hk; exact List.mem_range.mp hk) List.pairwise_lt_range (by simp) (by simp) (by simp) (by simp; omega);have hr:=zyK p.2 (by omega);refine ⟨F,R,is.map (zgx O),zvv (by omega) (by omega) (by omega) (by omega) (by rw [fl,rl]; exact q5) fn rn fg rg hO b1 (λi hi=>by rw [hOl]; exact b2 i hi) (List.Perm.refl _),?_⟩
  have a0:atI NS 0=some (nD n0):=rfl;have a2:atI NS 2=some (nD n2):=rfl;have a3:atI NS 3=some (nD n3):=rfl;have a4:atI NS 4=some (nD n4):=rfl;have a6:atI NS 6=some (nD n6):=rfl;have pN:D.plains NS=true:=rfl;have pS:D.plains SZ=true:=rfl;have hs':zaz [.int c,.int 8]=some (.li NS):=hs;have pO:D.plains ((R.drop a).map D.str++(R.take a).map D.str)=true:=by rw [<- List.map_append]; exact zfa _
  have lS1:lS (R.drop a++R.take a)=some (.li ((R.drop a).map D.str++(R.take a).map D.str)):=by simp only [lS,List.map_append]
  refine zfb rfl ?_;show zdT [sI' c,none,none,none,none,none,none,none,none,none,none]=_;unfold zdT zjB;refine zay (S1:=[sI' c,some (.li NS),none,none,none,none,none,none,none,none,none]) ?_ ?_
  ·simp [hs',pN]
  refine zay (S1:=[sI' c,some (.li NS),some (.li SZ),none,none,none,none,none,none,none,none]) ?_ ?_
  ·simp [h2,h12,SZ,D.plain,D.plains]
  refine zay (S1:=[sI' c,some (.li NS),some (.li SZ),sI' p0.1,sI' p0.2,none,none,none,none,none,none]) ?_ ?_
  ·simp [a0,e0,at0,D.plain,D.plains]
  refine zay eP ?_;refine zay (S1:=[sI' c,some (.li NS),some (.li SZ),sI' p.1,sI' p.2,lS R,none,none,none,none,none]) ?_ ?_
  ·simp [a2,eR,zfa]
  refine zay (S1:=[sI' c,some (.li NS),some (.li SZ),sI' p.1,sI' p.2,lS R,lS (R.drop a++R.take a),none,none,none,none]) ?_ ?_
  ·rw [lS1];simp only [List.length_drop,List.length_take] at hlO;have cdN:0 < p.2:=by omega
   simp [a3,cd,cdN,ea,c1,c2,hlO,pO,-List.map_drop,-List.map_take]
  refine zay eO ?_;refine zay (S1:=[sI' c,some (.li NS),some (.li SZ),sI' p.1,sI' p.2,lS R,lS O,sI' n4,none,none,none]) ?_ ?_
  ·simp [a4,D.plain]
  refine zay (S1:=[sI' c,some (.li NS),some (.li SZ),sI' p.1,sI' p.2,lS R,lS O,sI' n4,some (.li []),none,none]) ?_ ?_
  ·simp [D.plains]
  refine zay (zjA (zyR (n:=p.2) rfl (by omega)) eL) ?_;have h3:3<=sizeLine:=by omega
  simp [a6,eF,tD,h3]
section
variable {F R:List Str} {ps:List Pr}
abbrev hsD (r:Str):D:=.ins 0 [(("role":Str),.str r)]
abbrev ntD (r:Str):D:=.ins 1 [(("role":Str),.str r)]
theorem ztE (r:Str):zah 0 [.str r]=some [(("role":Str),.str r)]:=by simp [zah,zrk,zdj,zky]
theorem ztF (r:Str):zah 1 [.str r]=some [(("role":Str),.str r)]:=by simp [zah,zrk,zdj,zky]
@[simp] theorem rq1:(("holds":Str)=="role")=false:=by decide +kernel
@[simp] theorem rq2:(("ways":Str)=="role")=false:=by decide +kernel
@[simp] theorem rq3:(("row":Str)=="role")=false:=by decide +kernel
theorem zDR (v:Valid F R ps) {s:Nat} {w r:Str} (hs:s < 2 ^ (F.length*R.length)) (hw:w∈F) (hr:r∈R):zaQ [hsD r,oO F R ps,.int s,.str w]=some (.sh (.bl (zfy F R ps s w r)))/\zbZ [hsD r,oO F R ps,.int s,.str w]=none:=by
 have h:=zBQ v hs hw hr;constructor
 ·simp [zaQ,zgv,zet,zfE,List.lookup,h.1,h.2]
 ·simp [zbZ,zfA,zet,zfE,List.lookup,h.1,h.2]
theorem zDS (v:Valid F R ps) {s:Nat} {w r:Str} (hs:s < 2 ^ (F.length*R.length)) (hw:w∈F) (hr:r∈R):zaR [ntD r,oO F R ps,.int s,.str w]=some (.sh (.bl (!zfy F R ps s w r)))/\zb0 [ntD r,oO F R ps,.int s,.str w]=none:=by
 have h:=zBQ v hs hw hr;constructor
 ·simp [zaR,zgv,zeu,zfF,List.lookup,h.1,h.2]
 ·simp [zb0,zfA,zeu,zfF,List.lookup,h.1,h.2]
theorem zDT {s d:D} {r:Str} {x:Exc} (h:zaC [oO F R ps,s,d,.str r]=none/\za0 [oO F R ps,s,d,.str r]=some x):zbZ [hsD r,oO F R ps,s,d]=some x:=by
 simp [zbZ,zfA,zet,zfE,List.lookup,h.1,h.2]
theorem zDU {s d:D} {r:Str} {x:Exc} (h:zaC [oO F R ps,s,d,.str r]=none/\za0 [oO F R ps,s,d,.str r]=some x):zb0 [ntD r,oO F R ps,s,d]=some x:=by
 simp [zb0,zfA,zeu,zfF,List.lookup,h.1,h.2]
noncomputable def zjp (F R:List Str) (ps:List Pr) (w r:Str):List Wy:=(brg ps R r).map λu=>(2 ^ plc F R w u,0)
noncomputable def zFF (F R:List Str) (ps:List Pr) (w r:Str):List Wy:=[(0,hvM F R w (brg ps R r) 0)]
theorem zlp (r:Str):(brg ps R r).length<=R.length:=List.length_filter_le _ _
theorem zDV (v:Valid F R ps) {w r:Str} (hw:w∈F) (hr:r∈R):za5 [hsD r,oO F R ps,.str w]=some (.li ((zjp F R ps w r).map wD))/\zbO [hsD r,oO F R ps,.str w]=none:=by
 have h1:=ztq v hw;have h2:=zmb v hr;have r6:=v.r6;have bl:=zlp (R:=R) (ps:=ps) r;have hz:(brg ps R r).length<=sizeLine:=by rw [zax]; omega
 have h4:(2:Nat)<=sizeLine:=by rw [zax]; omega
 have hc:=znw D.str [some (.sh (oO F R ps)),some (.sh (.str w))] (zdN (zab (mFr (zbQ 2 "bit" zbd (mV 1) (zab (mV 2) (zab (mV 0) zam)))) (zab (mC (.int 0)) zam))) (λu=>wD (2 ^ plc F R w u,0)) (brg ps R r) (λu hu=>by
  have hb:=zDO v hw (zjn.mp hu).1;generalize 2 ^ plc F R w u=b at hb ⊢;simp [hb.1,h4,wD]) none
 simp only [oD',Option.map_none] at hc;have e:(zjp F R ps w r).map wD=(brg ps R r).map λu=>wD (2 ^ plc F R w u,0):=by simp [zjp]
 rw [e];have hx:∀ S:FSt,S=[some (.sh (hsD r)),some (.sh (oO F R ps)),some (.sh (.str w))]->zdC 1 [1,2] (zkb (mFr (zbQ 2 "bringing" zar (mV 1) (zab (m1 (zhn [0,1] "role") (mV 0)) zam)))) (gN 0) zfC (zdN (zab (mFr (zbQ 2 "bit" zbd (mV 1) (zab (mV 2) (zab (mV 0) zam)))) (zab (mC (.int 0)) zam))) S=some (.li ((brg ps R r).map λu=>wD (2 ^ plc F R w u,0))):=by
  rintro S rfl;refine zfm (its:=(brg ps R r).map D.str) ?_ (by simpa using hz) ?_
  ·simp [h2.1]
  ·simpa using hc
 have hm:zej [some (.sh (hsD r)),some (.sh (oO F R ps)),some (.sh (.str w))]=.rt (.li ((brg ps R r).map λu=>wD (2 ^ plc F R w u,0))):=by
  have hx:=hx _ rfl;unfold zej zhe;generalize zdC 1 [1,2] (zkb (mFr (zbQ 2 "bringing" zar (mV 1) (zab (m1 (zhn [0,1] "role") (mV 0)) zam)))) (gN 0) zfC (zdN (zab (mFr (zbQ 2 "bit" zbd (mV 1) (zab (mV 2) (zab (mV 0) zam)))) (zab (mC (.int 0)) zam)))=mm at hx ⊢;simp [h1.1,h1.2,h2.1,h2.2,hx]
 constructor
 ·simp [za5,zgv,hm]
 ·simp [zbO,zfA,hm]
theorem zDW {d:D} {r:Str} (h:zav [d,.tup (F.map D.str)]=some (.sh (.bl false))):zbO [hsD r,oO F R ps,d]=some (4,[(("name":Str),d)]):=by
 have h1:=zBM (R:=R) (ps:=ps) h;simp [zbO,zfA,zej,zhe,h1.1,h1.2]
theorem zDX (v:Valid F R ps) {w:Str} (hw:w∈F) {r:Str} (h:zav [.str r,.tup (R.map D.str)]=some (.sh (.bl false))):zbO [hsD r,oO F R ps,.str w]=some (5,[(("name":Str),.str r)]):=by
 have h1:=ztq v hw;have h2:=zmc (F:=F) (ps:=ps) h;simp [zbO,zfA,zej,zhe,h1.1,h1.2,h2.1,h2.2]
theorem zDY (v:Valid F R ps) {w r:Str} (hw:w∈F) (hr:r∈R):za6 [ntD r,oO F R ps,.str w]=some (.li ([(0,hvM F R w (brg ps R r) 0)].map wD))/\zcs [ntD r,oO F R ps,.str w]=none:=by
 have h:=zpM v hw hr;have z1:(1:Nat)<=sizeLine:=by rw [zax]; omega
 have z2:(2:Nat)<=sizeLine:=by rw [zax]; omega
 generalize hvM F R w (brg ps R r) 0=m at *;constructor
 ·simp [za6,zgv,zfq,zhf,h.1,h.2,z1,z2,wD]
 ·simp [zcs,zfA,zfq,zhf,h.1,h.2,z1,z2]
theorem zEV {d:D} {r:Str} {x:Exc} (h:zat [oO F R ps,d,.str r]=none/\zaB [oO F R ps,d,.str r]=some x):zcs [ntD r,oO F R ps,d]=some x:=by
 simp [zcs,zfA,zfq,zhf,h.1,h.2]
end
theorem zjq {a b:FSt->Fl} {S:FSt} {r:Fl} (h:a S=.nx S) (h2:b S=r):zbp a b S=r:=zay h h2
section
variable {F R:List Str} {ps:List Pr}
theorem zwJ {l:List Str} {u:Str} (h:u∈l):l[l.idxOf u]? = some u:=by
 rw [List.getElem?_eq_getElem (List.idxOf_lt_length_iff.mpr h),List.getElem_idxOf]
theorem zy7 {w u u':Str} (hw:w∈F) (hu:u∈R) (hu':u'∈R) (h:plc F R w u=plc F R w u'):u=u':=by
 rw [zpS hu hw,zpS hu' hw] at h;have e:R.idxOf u=R.idxOf u':=by omega
 have a:=zwJ hu;rw [e,zwJ hu'] at a;cases a
 rfl
theorem ztG (v:Valid F R ps) {w:Str} (hw:w∈F) (x2:Option SV):∀ (us:List Str) (m:Nat) (x4:Option D),us.Nodup->(∀ u∈us,u∈R)->(∀ u∈us,m.testBit (plc F R w u)=false)->∃ y4,
  za9 (gN 4) zcJ (us.map D.str) [some (.sh (tD F R ps)),some (.sh (.str w)),x2,sI' m,oD' x4]=.nx [some (.sh (tD F R ps)),some (.sh (.str w)),x2,sI' (hvM F R w us m:Nat),oD' y4]
 | [],m,x4,_,_,_=>⟨x4,rfl⟩
 | u :: us,m,x4,nd,h,hb=>by
  rw [List.nodup_cons] at nd;have hu:=h u (by simp);obtain ⟨y4,ih⟩:=ztG v hw x2 us (m|||2 ^ plc F R w u) (some (.str u)) nd.2 (λz hz=>h z (by simp [hz])) (λz hz=>by
   rw [Nat.testBit_or,hb z (by simp [hz]),Nat.testBit_two_pow,Bool.false_or,decide_eq_false_iff_not];exact λe=>nd.1 (zy7 hw hu (h z (by simp [hz])) e▸hz))
  refine ⟨y4,?_⟩;have h3:=zpU v hw hu;have ea:m+2 ^ plc F R w u=m|||2 ^ plc F R w u:=zBC m _ (by
   have:=zyI m (plc F R w u);rw [hb u (by simp)] at this
   simpa using this)
  rw [show hvM F R w (u :: us) m=hvM F R w us (m|||2 ^ plc F R w u) from rfl,<- ih,<- ea,List.map_cons,za9];generalize 2 ^ plc F R w u=b at h3 ⊢;have ec:((m+b:Nat):Int)=(m:Int)+(b:Int):=by omega
  rw [ec];simp [zcJ,zjC,h3]
theorem zBS (v:Valid F R ps) (r:Str):(brg ps R r).Nodup:=v.rn.filter _
theorem zwK (v:Valid F R ps) {w r:Str} (hw:w∈F) (hr:r∈R):zbK [tD F R ps,.str w,.str r]=some (.sh (.int (hvM F R w (brg ps R r) 0:Nat))):=by
 have h2:=zf8 v hr;obtain ⟨y4,h3⟩:=ztG v hw (some (.sh (.str r))) (brg ps R r) 0 none (zBS v r) (λu hu=>(zjn.mp hu).1) λu _=>Nat.zero_testBit _;simp only [oD',Option.map_none] at h3;have h3':za9 (gN 4) zcJ ((brg ps R r).map D.str) [some (.sh (tD F R ps)),some (.sh (.str w)),some (.sh (.str r)),some (.sh (.int 0)),none]=_:=h3;simp [zbK,zcA,zfr,zlU,h2,h3',zfa]
theorem zEW (s:Nat) (p:Wy):zch [.int s,wD p]=some (.sh (.bl (zpF s p))):=by
 have a0:atI [D.int p.1,D.int p.2] 0=some (.int p.1):=rfl;have a1:atI [D.int p.1,D.int p.2] 1=some (.int p.2):=rfl;cases c:(s&&&p.1)==p.1
 ·simp [zch,zcA,zhg,wD,zCn,zpO,zpF,c,zCo,zEN,a0,a1]
 ·simp [zch,zcA,zhg,wD,zCn,zpO,zpF,c,zCo,zEN,a0,a1]
theorem zpX (a b:Bool):zbB [.bl a,.bl b]=some (.sh (.bl (a==b))):=by
 have k:zgb tab [.bl a,.ty "bool"]=some (.sh (.bl true)):=rfl;have e:oEq (.bl a) (.bl b)=some (.bl (a==b)):=rfl;simp [zbB,zcA,zex,k,e]
theorem zjP:∀ ws:List Wy,zeq (ws.map wD)=some (ws.map λp=>((p.1:Int),(p.2:Int)))
 | []=>rfl
 | w :: ws=>by simp [wD,zeq,zjP ws]
theorem zo7 (ws:List Wy) (h:ws.length < 64):∃ zs:List Wy,ziL [.lst (ws.map wD)]=some (.li (zs.map wD)):=by
 refine ⟨(zco (ws.map λp=>((p.1:Int),(p.2:Int)))).map λi=>ws.getD i (0,0),?_⟩;have e:=zjP ws;show ((zeq (ws.map wD)).bind λps=>if (ws.map wD).length < 64 then some (SV.li ((zco ps).map λi=>(ws.map wD).getD i .non)) else none)=_;rw [e];have hl:(ws.map wD).length < 64:=by simpa using h
 simp only [Option.bind_some,if_pos hl,List.map_map];congr 2;refine List.map_congr_left λi hi=>?_;have hi':i < ws.length:=by simpa using zkI i hi
 simp [hi']
theorem zvK (x0 x1 x2:Option SV) (w:Wy):zcK [x0,x1,some (.sh (wD w))]=.nx [x0,x1,some (.sh (wD w))]:=by
 have k1:zgb tab [wD w,.ty "tuple"]=some (.sh (.bl true)):=rfl;have k2:zgb tab [.int w.1,.ty "bool"]=some (.sh (.bl false)):=rfl;have k3:zgb tab [.int w.2,.ty "bool"]=some (.sh (.bl false)):=rfl;have i0:oIx (wD w) (.int 0)=some (.int w.1):=rfl;have i1:oIx (wD w) (.int 1)=some (.int w.2):=rfl;simp [zcK,k1,k2,k3,i0,i1,-oIx]
theorem zpY (x0 x1:Option SV):∀ (ws:List Wy) (x2:Option D),∃ y2,za9 (gN 2) zcK (ws.map wD) [x0,x1,oD' x2]=.nx [x0,x1,oD' y2]
 | [],x2=>⟨x2,rfl⟩
 | w :: ws,x2=>by
  obtain ⟨y2,ih⟩:=zpY x0 x1 ws (some (wD w));refine ⟨y2,?_⟩;rw [List.map_cons,za9];have hg:gN 2 (wD w) [x0,x1,oD' x2]=some [x0,x1,some (.sh (wD w))]:=by simp
  rw [hg];simp only [zvK x0 x1 none w];exact ih
theorem zwL (ws:List Wy) (h:ws.length < 64):zbP [.lst (ws.map wD),.lst (ws.map wD)]=some (.sh (.bl true)):=by
 obtain ⟨zs,hz⟩:=zo7 ws h;obtain ⟨y2,lo⟩:=zpY (some (.sh (.lst (ws.map wD)))) (some (.sh (.lst (ws.map wD)))) ws none;simp only [oD',Option.map_none] at lo;have k1:zgb tab [.lst (ws.map wD),.ty "list"]=some (.sh (.bl true)):=rfl;have nz:oNe (.lst (zs.map wD)) (.lst (zs.map wD))=some (.bl false):=by rw [ziM]; simp
 have hl:zga [.lst (ws.map wD)]=some (.sh (.int ws.length)):=by simp
 have nl:oNe (.int (ws.length:Int)) (.int ws.length)=some (.bl false):=by rw [zDQ]; simp
 generalize ws.map wD=W at *;refine zfb rfl ?_;show zek [some (.sh (.lst W)),some (.sh (.lst W)),none]=_;unfold zek zlV;refine zay (S1:=[some (.sh (.lst W)),some (.sh (.lst W)),none]) ?_ ?_
 ·simp [k1,hz,nz,hl,nl,-zga]
 ·simp [lo]
end
abbrev sO' (d:D):Option SV:=some (.sh d)
theorem zq0 {O T:D} {w r:Str} {W V:List D} {Z x9 x10 x11 x12 x13:Option SV} (l10:lkO x10=false) (l11:lkO x11=false)
  (h1:za5 [hsD r,O,.str w]=some (.li W)) (h2:za6 [ntD r,O,.str w]=some (.li V)) (pW:D.plains W=true) (pV:D.plains V=true) (nW:oNe (.lst W) (.lst W)=some (.bl false)) (nV:oNe (.lst V) (.lst V)=some (.bl false))
  (yW:zbP [.lst W,.lst W]=some (.sh (.bl true))) (yV:zbP [.lst V,.lst V]=some (.sh (.bl true))) (lV:V.length < sizeLine) :
  zcR [sO' O,sO' T,sO' (.str w),sO' (.str r),Z,sO' (hsD r),sO' (ntD r),some (.li W),some (.li V),x9,x10,x11,x12,x13] =
   .nx [sO' O,sO' T,sO' (.str w),sO' (.str r),Z,sO' (hsD r),sO' (ntD r),some (.li W),some (.li V),x9,some (.li []),some (.li (V++[.tup [.int 1,.int 1]])),x12,x13]:=by
 have z2:(2:Nat)<=sizeLine:=by rw [zax]; omega
 unfold zcR zij;refine zay (S1:=[sO' O,sO' T,sO' (.str w),sO' (.str r),Z,sO' (hsD r),sO' (ntD r),some (.li W),some (.li V),x9,some (.li W),x11,x12,x13]) ?_ ?_
 ·simp [List.lookup,h1,pW,l10]
 refine zay (S1:=[sO' O,sO' T,sO' (.str w),sO' (.str r),Z,sO' (hsD r),sO' (ntD r),some (.li W),some (.li V),x9,some (.li W),some (.li V),x12,x13]) ?_ ?_
 ·simp [List.lookup,h2,pV,l11]
 refine zjq ?_ ?_
 ·simp [nW,nV,yW,yV]
 refine zay (S1:=[sO' O,sO' T,sO' (.str w),sO' (.str r),Z,sO' (hsD r),sO' (ntD r),some (.li W),some (.li V),x9,some (.li []),some (.li V),x12,x13]) ?_ ?_
 ·simp
 ·simp [z2,lV]
theorem zBT (W:List Wy) (c:Wy->Bool):(!decide (W.filter c=[]))=W.any c:=by
 induction W with
 | nil=>rfl
 | cons a W ih=>
  cases q:c a
  ·simp only [List.filter_cons,q,List.any_cons,Bool.false_or,<- ih]; simp
  ·simp [List.filter_cons,q]
theorem zo8 {O T:D} {w r:Str} {W:List Wy} {m s:Nat} {b:Bool} {Z x9 x10 x11 x13:Option SV} (l13:lkO x13=false) (hl:W.length<=sizeLine)
  (h1:zbT [T,.int s,.str w,.str r]=some (.sh (.bl b))) (h2:zaQ [hsD r,O,.int s,.str w]=some (.sh (.bl b))) (h3:zaR [ntD r,O,.int s,.str w]=some (.sh (.bl (!b))))
  (ha:(W.any λp=>zpF s p)=b) (hm:zpF s (0,m)=!b) :
  zci [sO' O,sO' T,sO' (.str w),sO' (.str r),Z,sO' (hsD r),sO' (ntD r),some (.li (W.map wD)),some (.li [wD (0,m)]),x9,x10,x11,sI' s,x13] =
   .nx [sO' O,sO' T,sO' (.str w),sO' (.str r),Z,sO' (hsD r),sO' (ntD r),some (.li (W.map wD)),some (.li [wD (0,m)]),x9,x10,x11,sI' s,sO' (.bl b)]:=by
 have t1:=zpX b b;have t2:=zpX (!b) (!b);have hc:=zyP wD [sI' s] (zal (mFr (m1 zch (zab (mV 1) (zab (mV 0) zam))))) (mV 0) (λp=>zpF s p) wD W (λp _=>by
  have:=zEW s p;exact ⟨by simp [this],λ_=>by simp⟩) none
 simp only [oD',Option.map_none] at hc;have n0:=zvy (W.filter λp=>zpF s p);rw [zBT,ha] at n0;have fo:=zEW s (0,m);rw [hm] at fo;have i0:oIx (.lst [wD (0,m)]) (.int 0)=some (wD (0,m)):=rfl;have e1:∀ b:Bool,oNe (.bl b) (.bl b)=some (.bl false):=λb=>by cases b <;> rfl
 have e2:∀ b:Bool,oEq (.bl b) (.bl !b)=some (.bl false):=λb=>by cases b <;> rfl
 generalize hX:W.map wD=X at *;have lX:X.length<=sizeLine:=by rw [<- hX]; simpa using hl
 generalize (List.filter (λp=>zpF s p) W).map wD=Y at *;generalize wD (0,m)=q at *;unfold zci zik;refine zay (S1:=[sO' O,sO' T,sO' (.str w),sO' (.str r),Z,sO' (hsD r),sO' (ntD r),some (.li X),some (.li [q]),x9,x10,x11,sI' s,sO' (.bl b)]) ?_ ?_
 ·simp [h1,l13]
 refine zjq ?_ ?_
 ·simp [List.lookup,h2,t1]
 refine zjq ?_ ?_
 ·have t3:zbB [.bl (!b),.bl (!b)]=some (.sh (.bl true)):=by rw [t2]; simp
  simp [List.lookup,h3,t3]
 ·have hcx:zdC 1 [12] (zkb (mV 7)) (gN 0) (zal (mFr (m1 zch (zab (mV 1) (zab (mV 0) zam))))) (mV 0) [sO' O,sO' T,sO' (.str w),sO' (.str r),Z,sO' (hsD r),sO' (ntD r),some (.li X),some (.li [q]),x9,x10,x11,sI' s,sO' (.bl b)]=some (.li Y):=by
   refine zfm (its:=X) ?_ lX ?_
   ·simp
   ·simpa using hc
  generalize zdC 1 [12] (zkb (mV 7)) (gN 0) (zal (mFr (m1 zch (zab (mV 1) (zab (mV 0) zam))))) (mV 0)=mm at hcx ⊢;simp [hcx,n0,e1,fo,i0,e2,-oNe,-oEq,-oIx]
section
variable {F R:List Str} {ps:List Pr}
theorem zy8 (s:Nat) (w r:Str):((zjp F R ps w r).any λp=>zpF s p)=zfy F R ps s w r:=by
 unfold zjp zfy;rw [List.any_map];refine congrArg _ (funext λu=>?_);rw [Bool.eq_iff_iff];show zpF s (2 ^ plc F R w u,0)=true↔_;rw [zBD];constructor
 ·intro h;exact (h (plc F R w u)).1 (by simp [Nat.testBit_two_pow])
 ·intro h i;refine ⟨λq=>?_,λq=>by simp at q⟩;rw [Nat.testBit_two_pow] at q;rw [<- of_decide_eq_true q];exact h
theorem zBU (s:Nat) (w r:Str):zpF s (0,hvM F R w (brg ps R r) 0)=!zfy F R ps s w r:=by
 rw [<- zpN,Bool.not_not];unfold zpF;simp
theorem zwM (v:Valid F R ps) {w r:Str} (hw:w∈F) (hr:r∈R) (Z x9 x10 x11:Option SV):∀ (ss:List Nat) (x12 x13:Option D),(∀ s∈ss,s < 2 ^ (F.length*R.length))->∃ y12 y13,
  za9 (gN 12) zci (ss.map nD) [sO' (oO F R ps),sO' (tD F R ps),sO' (.str w),sO' (.str r),Z,sO' (hsD r),sO' (ntD r),some (.li ((zjp F R ps w r).map wD)),some (.li [wD (0,hvM F R w (brg ps R r) 0)]),x9,x10,x11,oD' x12,oD' x13] =
   .nx [sO' (oO F R ps),sO' (tD F R ps),sO' (.str w),sO' (.str r),Z,sO' (hsD r),sO' (ntD r),some (.li ((zjp F R ps w r).map wD)),some (.li [wD (0,hvM F R w (brg ps R r) 0)]),x9,x10,x11,oD' y12,oD' y13]
 | [],x12,x13,_=>⟨x12,x13,rfl⟩
 | s :: ss,x12,x13,h=>by
  obtain ⟨y12,y13,ih⟩:=zwM v hw hr Z x9 x10 x11 ss (some (.int s)) (some (.bl (zfy F R ps s w r))) λz hz=>h z (by simp [hz]);refine ⟨y12,y13,?_⟩;have hs:=h s (by simp);have bl:=zlp (R:=R) (ps:=ps) r;have r6:=v.r6;have st:=zo8 (O:=oO F R ps) (T:=tD F R ps) (w:=w) (r:=r) (W:=zjp F R ps w r) (m:=hvM F R w (brg ps R r) 0) (s:=s) (b:=zfy F R ps s w r) (Z:=Z) (x9:=x9) (x10:=x10) (x11:=x11) (x13:=oD' x13) (by cases x13 <;> rfl)
   (by simp [zjp]; rw [zax]; omega) (zwH v s hw hr) (zDR v hs hw hr).1 (zDS v hs hw hr).1 (zy8 s w r) (zBU s w r)
  rw [List.map_cons,za9];have hg:gN 12 (nD s) [sO' (oO F R ps),sO' (tD F R ps),sO' (.str w),sO' (.str r),Z,sO' (hsD r),sO' (ntD r),some (.li ((zjp F R ps w r).map wD)),some (.li [wD (0,hvM F R w (brg ps R r) 0)]),x9,x10,x11,oD' x12,oD' x13]=some [sO' (oO F R ps),sO' (tD F R ps),sO' (.str w),sO' (.str r),Z,sO' (hsD r),sO' (ntD r),some (.li ((zjp F R ps w r).map wD)),some (.li [wD (0,hvM F R w (brg ps R r) 0)]),x9,x10,x11,sI' s,oD' x13]:=by
   cases x12 <;> simp
  rw [hg];simp only [st];exact ih
end
theorem zpZ {d:D} {p:PyData} (h:shp d=some p):oEq d d=some (.bl true):=by
 have hs:=(zc3 h).2;unfold oEq;rw [h];simp only [Option.bind_some];rw [SeqAt.eqv_refl p (SeqAt.canLay_of_shaped hs)]
theorem zvL {d:D} {p:PyData} (h:shp d=some p):oNe d d=some (.bl false):=by
 have hs:=(zc3 h).2;unfold oNe;rw [h];simp only [Option.bind_some];rw [SeqAt.eqv_refl p (SeqAt.canLay_of_shaped hs)];rfl
theorem zp0 {a b:Str} (ha:Ok a) (hb:Ok b):Ok (a++b):=by
 unfold Ok PyData.strOk at *;rw [<- Array.all_toList,List.all_eq_true] at *;intro c hc;rw [zeh,List.mem_append] at hc;rcases hc with h | h
 ·exact ha c h
 ·exact hb c h
theorem zCy {a b:Str} (h:a.length+b.length<=1000):ze9 (.str a) (.str b)=some (.sh (.str (a++b))):=by
 have:a.length+b.length<=sizeLine:=by rw [zax]; omega
 simp [this]
theorem zwN:("has ":Str).length=4:=by decide +kernel
theorem zwO:("not ":Str).length=4:=by decide +kernel
theorem ztH:Ok ("has ":Str):=by decide +kernel
theorem ztI:Ok ("not ":Str):=by decide +kernel
theorem zvM {r:Str} (h:r.length<=6):zcZ [hsD r]=some (.sh (.str ("has "++r))):=by
 have a:=zCy (a:="has ") (b:=r) (by rw [zwN]; omega);simp [zcZ,zcA,znx,a,-ze9]
theorem zvN {r:Str} (h:r.length<=6):zc0 [ntD r]=some (.sh (.str ("not "++r))):=by
 have a:=zCy (a:="not ") (b:=r) (by rw [zwO]; omega);simp [zc0,zcA,zny,a,-ze9]
section
variable {F R:List Str} {ps:List Pr}
theorem zy9 (v:Valid F R ps) {w r:Str} (hw:w∈F) (hr:r∈R) (zcc:FSt):zdC 1 [1,2] (zkb (mFr (m1 zaq (zab (mV 1) (zab (mV 3) zam))))) (gN 0) zfC (zdN (zab (mFr (m1 zaT (zab (mV 1) (zab (mV 2) (zab (mV 0) zam))))) (zab (mC (.int 0)) zam)))
  (sO' (oO F R ps) :: sO' (tD F R ps) :: sO' (.str w) :: sO' (.str r) :: zcc)=some (.li ((zjp F R ps w r).map wD)):=by
 have h2:=zf8 v hr;have bl:=zlp (R:=R) (ps:=ps) r;have r6:=v.r6;have z2:(2:Nat)<=sizeLine:=by rw [zax]; omega
 have hc:=znw D.str [sO' (tD F R ps),sO' (.str w)] (zdN (zab (mFr (m1 zaT (zab (mV 1) (zab (mV 2) (zab (mV 0) zam))))) (zab (mC (.int 0)) zam))) (λu=>wD (2 ^ plc F R w u,0)) (brg ps R r) (λu hu=>by
  have hb:=zpU v hw (zjn.mp hu).1;generalize 2 ^ plc F R w u=b at hb ⊢;simp [hb,z2,wD]) none
 simp only [oD',Option.map_none] at hc;have e:(zjp F R ps w r).map wD=(brg ps R r).map λu=>wD (2 ^ plc F R w u,0):=by simp [zjp]
 rw [e];refine zfm (its:=(brg ps R r).map D.str) ?_ (by simp; rw [zax]; omega) ?_
 ·simp [h2]
 ·simpa using hc
theorem ztJ:mR1 (zab (mC (.int 2)) zam)=λ_=>some [nD 0,nD 1]:=by
 funext S;have h:zqm [.int 2]=some [nD 0,nD 1]:=zyK 2 (by omega);simp [h]
theorem zza (v:Valid F R ps) {w r:Str} (hw:w∈F) (hr:r∈R) (ss:List Nat) (hs:∀ s∈ss,s < 2 ^ (F.length*R.length)):zcj [oO F R ps,tD F R ps,.str w,.str r,.lst (ss.map nD)]=some (.sh (.bl true)):=by
 have hg:=v.rg r hr;have bl:=zlp (R:=R) (ps:=ps) r;have r6:=v.r6;have lW:(zjp F R ps w r).length < 64:=by simp [zjp]; omega
 have fw:=zDV v hw hr;have fn:=zDY v hw hr;have fm:=zwK v hw hr;have lb:=zy9 v hw hr [sO' (.lst (ss.map nD)),sO' (hsD r),sO' (ntD r),none,none,none,none,none,none,none];have yW:=zwL (zjp F R ps w r) lW;have yV:=zwL [(0,hvM F R w (brg ps R r) 0)] (by simp);have nW:=ziM (zjp F R ps w r) (zjp F R ps w r);have nV:=ziM [(0,hvM F R w (brg ps R r) 0)] [(0,hvM F R w (brg ps R r) 0)];have pW:=znv (zjp F R ps w r)
 have pV:=znv [(0,hvM F R w (brg ps R r) 0)];simp only [decide_true,Bool.not_true] at nW nV;obtain ⟨y12,y13,lo⟩:=zwM v hw hr (sO' (.lst (ss.map nD))) (sI' 1) (some (.li [])) (some (.li [wD (0,hvM F R w (brg ps R r) 0),.tup [.int 1,.int 1]])) ss none none hs;simp only [oD',Option.map_none] at lo;have hz:(1:Nat)<=sizeLine:=by rw [zax]; omega
 have z2:(2:Nat)<=sizeLine:=by rw [zax]; omega
 have rh:=zvM (r:=r) hg.hi;have rn:=zvN (r:=r) hg.hi;have ah:=zCy (a:="has ") (b:=r) (by rw [zwN]; have:=hg.hi; omega);have an:=zCy (a:="not ") (b:=r) (by rw [zwO]; have:=hg.hi; omega);have eh:=eqS (zp0 ztH hg.ok) (zp0 ztH hg.ok);have en:=eqS (zp0 ztI hg.ok) (zp0 ztI hg.ok);have er:oEq (.lst [.str r,.str r]) (.lst [.str r,.str r])=some (.bl true):=by
  have:=zCq (zs:=[r,r]) (by intro z hz; simp at hz; rw [hz]; exact hg.ok);exact zpZ (p:=.list [.str r,.str r]) (by simp [shp,D.dat,D.dats]; simpa using this)
 simp only [beq_self_eq_true] at eh en;refine zfb rfl ?_;show zey [sO' (oO F R ps),sO' (tD F R ps),sO' (.str w),sO' (.str r),sO' (.lst (ss.map nD)),none,none,none,none,none,none,none,none,none]=_;have i0:=ztE r;have i1:=ztF r;have rt:=λ(x9 x10 x11:Option SV) (l10:lkO x10=false) (l11:lkO x11=false)=>zq0 (O:=oO F R ps) (T:=tD F R ps) (w:=w) (r:=r) (Z:=sO' (.lst (ss.map nD))) (x9:=x9) (x12:=none) (x13:=none) l10 l11 fw.1 fn.1 pW pV nW nV yW yV (by simp; rw [zax]; omega)
 have wn:(zFF F R ps w r).map wD=[wD (0,hvM F R w (brg ps R r) 0)]:=rfl;simp only [List.map_cons,List.map_nil] at rt;generalize oO F R ps=O at *;generalize tD F R ps=T at *;generalize (zjp F R ps w r).map wD=W at *;have wq:∀ m:Nat,D.tup [.int 0,.int m]=wD (0,m):=λ_=>rfl;unfold zey zkO;refine zay (S1:=[sO' O,sO' T,sO' (.str w),sO' (.str r),sO' (.lst (ss.map nD)),sO' (hsD r),none,none,none,none,none,none,none,none]) ?_ ?_
 ·simp [i0]
 refine zay (S1:=[sO' O,sO' T,sO' (.str w),sO' (.str r),sO' (.lst (ss.map nD)),sO' (hsD r),sO' (ntD r),none,none,none,none,none,none,none]) ?_ ?_
 ·simp [i1]
 refine zay (S1:=[sO' O,sO' T,sO' (.str w),sO' (.str r),sO' (.lst (ss.map nD)),sO' (hsD r),sO' (ntD r),some (.li W),none,none,none,none,none,none]) ?_ ?_
 ·refine zgy lb ?_;simp [pW]
 generalize hvM F R w (brg ps R r) 0=m at *;refine zay (S1:=[sO' O,sO' T,sO' (.str w),sO' (.str r),sO' (.lst (ss.map nD)),sO' (hsD r),sO' (ntD r),some (.li W),some (.li [wD (0,m)]),none,none,none,none,none]) ?_ ?_
 ·simp [fm,hz,z2,wq,zpD]
 refine zay (S1:=[sO' O,sO' T,sO' (.str w),sO' (.str r),sO' (.lst (ss.map nD)),sO' (hsD r),sO' (ntD r),some (.li W),some (.li [wD (0,m)]),sI' 1,some (.li []),some (.li [wD (0,m),.tup [.int 1,.int 1]]),none,none]) ?_ ?_
 ·refine zjA (its:=[nD 0,nD 1]) (by rw [ztJ]) ?_;have r1:=rt (sI' 0) none none rfl rfl;have r2:=rt (sI' 1) (some (.li [])) (some (.li ([wD (0,m)]++[.tup [.int 1,.int 1]]))) rfl rfl;simp only [za9];have g1:gN 9 (nD 0) [sO' O,sO' T,sO' (.str w),sO' (.str r),sO' (.lst (ss.map nD)),sO' (hsD r),sO' (ntD r),some (.li W),some (.li [wD (0,m)]),none,none,none,none,none]=some [sO' O,sO' T,sO' (.str w),sO' (.str r),sO' (.lst (ss.map nD)),sO' (hsD r),sO' (ntD r),some (.li W),some (.li [wD (0,m)]),sI' 0,none,none,none,none]:=by simp
  have g2:gN 9 (nD 1) [sO' O,sO' T,sO' (.str w),sO' (.str r),sO' (.lst (ss.map nD)),sO' (hsD r),sO' (ntD r),some (.li W),some (.li [wD (0,m)]),sI' 0,some (.li []),some (.li ([wD (0,m)]++[.tup [.int 1,.int 1]])),none,none]=some [sO' O,sO' T,sO' (.str w),sO' (.str r),sO' (.lst (ss.map nD)),sO' (hsD r),sO' (ntD r),some (.li W),some (.li [wD (0,m)]),sI' 1,some (.li []),some (.li ([wD (0,m)]++[.tup [.int 1,.int 1]])),none,none]:=by simp
  rw [g1];simp only [r1,g2,r2];rfl
 refine zay (S1:=[sO' O,sO' T,sO' (.str w),sO' (.str r),sO' (.lst (ss.map nD)),sO' (hsD r),sO' (ntD r),some (.li W),some (.li [wD (0,m)]),sI' 1,some (.li []),some (.li [wD (0,m),.tup [.int 1,.int 1]]),oD' y12,oD' y13]) ?_ ?_
 ·simp only [oD'];simp [lo]
 ·simp [List.lookup,rh,rn,ah,an,eh,en,er,z2,-ze9]
end
def ztK (c:Nat):Str:=if c=6 then "state" else if c=4 then "folk" else "role"
def zvO (c:Nat):Str:=if c=6 then "found" else "name"
noncomputable abbrev zzb : FSt -> Fl := (mIf (zal (m2 oEq (mV 0) (mC (.int 0))))
     (mDo (zol (zbQ 0 "holds" zaQ (mV 2) (zab (mV 1) (zab (mV 3) (zab (mV 4) zam))))
      (zbQ 1 "holds" zaR (mV 2) (zab (mV 1) (zab (mV 3) (zab (mV 4) zam))))))
     (mDo (zol (zbQ 0 "ways" za5 (mV 2) (zab (mV 1) (zab (mV 4) zam)))
      (zbQ 1 "ways" za6 (mV 2) (zab (mV 1) (zab (mV 4) zam))))))
noncomputable abbrev zrn : FSt -> Option Exc := (zCm (zal (m2 oEq (mV 0) (mC (.int 0))))
     (zol (zcF 0 "holds" zbZ (mV 2) (zab (mV 1) (zab (mV 3) (zab (mV 4) zam))))
      (zcF 1 "holds" zb0 (mV 2) (zab (mV 1) (zab (mV 3) (zab (mV 4) zam)))))
     (zol (zcF 0 "ways" zbO (mV 2) (zab (mV 1) (zab (mV 4) zam)))
      (zcF 1 "ways" zcs (mV 2) (zab (mV 1) (zab (mV 4) zam)))))
theorem zha {k O t st who d:D} {c:Nat} (hc:c=4\/c=5\/c=6) (hx:zrn [sO' k,sO' O,sO' t,sO' st,sO' who,sO' .non,none]=some (c,[(zvO c,d)])) :
  zau [k,O,t,st,who]=some (.sh (.tup [.str (ztK c),d])):=by
 have z2:(2:Nat)<=sizeLine:=by rw [zax]; omega
 refine zfb rfl ?_;show zbC [sO' k,sO' O,sO' t,sO' st,sO' who,none,none]=_;unfold zbC zfG;refine zay (S1:=[sO' k,sO' O,sO' t,sO' st,sO' who,sO' .non,none]) ?_ ?_
 ·simp
 refine zay (S1:=[sO' k,sO' O,sO' t,sO' st,sO' who,sO' (.tup [.str (ztK c),d]),none]) ?_ ?_
 ·show zzx [1,2,3,4] zzb zrn _ _=_;generalize zrn=mx at hx ⊢;generalize zzb=mm;have l1:(("found":Str)=="found")=true:=by decide
  have l2:(("name":Str)=="name")=true:=by decide
  rcases hc with rfl | rfl | rfl
  ·simp [hx,tabx,ztK,zvO,z2,List.lookup]
  ·simp [hx,tabx,ztK,zvO,z2,List.lookup]
  ·simp [hx,tabx,ztK,zvO,z2,List.lookup]
 ·simp [SV.un]
theorem zme {k O t st who:D} (hx:zrn [sO' k,sO' O,sO' t,sO' st,sO' who,sO' .non,none]=none) (hm:zzb [sO' k,sO' O,sO' t,sO' st,sO' who,sO' .non,none]=.nx [sO' k,sO' O,sO' t,sO' st,sO' who,sO' .non,none]) :
  zau [k,O,t,st,who]=some (.sh .non):=by
 refine zfb rfl ?_;show zbC [sO' k,sO' O,sO' t,sO' st,sO' who,none,none]=_;unfold zbC zfG;refine zay (S1:=[sO' k,sO' O,sO' t,sO' st,sO' who,sO' .non,none]) ?_ ?_
 ·simp
 refine zjq ?_ ?_
 ·show zzx [1,2,3,4] zzb zrn _ _=_;generalize zrn=mx at hx ⊢;generalize zzb=mm at hm ⊢;simp [hx,hm]
 ·simp [SV.un]
def cnT (b:Bool) (r:Str):D:=if b=true then hsD r else ntD r
section
variable {F R:List Str} {ps:List Pr}
theorem ez0:oEq (.int 0) (.int 0)=some (.bl true):=rfl
theorem ez1:oEq (.int 1) (.int 0)=some (.bl false):=rfl
theorem zvP (b:Bool) {O st who:D} {r:Str} {x:Option Exc} (h1:b=true->zbZ [hsD r,O,st,who]=x) (h2:b=false->zb0 [ntD r,O,st,who]=x):zrn [sO' (.int 0),sO' O,sO' (cnT b r),sO' st,sO' who,sO' .non,none]=x:=by
 cases b
 ·simp [zrn,ez0,cnT,List.lookup,h2 rfl]
 ·have:=h1 rfl;cases x <;> simp [zrn,ez0,cnT,List.lookup,this]
theorem zzc (b:Bool) {O st who:D} {r:Str} {x:Option Exc} (h1:b=true->zbO [hsD r,O,who]=x) (h2:b=false->zcs [ntD r,O,who]=x):zrn [sO' (.int 1),sO' O,sO' (cnT b r),sO' st,sO' who,sO' .non,none]=x:=by
 cases b
 ·simp [zrn,ez1,cnT,List.lookup,h2 rfl]
 ·have:=h1 rfl;cases x <;> simp [zrn,ez1,cnT,List.lookup,this]
theorem ztL (b:Bool) (r:Str) {d e:D} (h:zak [oO F R ps,d]=some (.sh (.bl false))):zau [.int 0,oO F R ps,cnT b r,d,e]=some (.sh (.tup [.str "state",d])):=
 zha (c:=6) (.inr (.inr rfl)) (zvP b (λ_=>zDT (zwD h)) λ_=>zDU (zwD h))
theorem zvQ (b:Bool) (r:Str) {s:Nat} (hs:s < 2 ^ (F.length*R.length)) {d:D} (h:zav [d,.tup (F.map D.str)]=some (.sh (.bl false))) (k:Nat) (hk:k < 2):zau [.int k,oO F R ps,cnT b r,.int s,d]=some (.sh (.tup [.str "folk",d])):=by
 have hv:=ztu (R:=R) (ps:=ps) (e:=.str r) h;rcases (by omega:k=0\/k=1) with rfl | rfl
 ·exact zha (c:=4) (.inl rfl) (zvP b (λ_=>zDT (zvF hs hv)) λ_=>zDU (zvF hs hv))
 ·exact zha (c:=4) (.inl rfl) (zzc b (λ_=>zDW h) λ_=>zEV hv)
theorem zvR (v:Valid F R ps) (b:Bool) {r:Str} {s:Nat} (hs:s < 2 ^ (F.length*R.length)) {w:Str} (hw:w∈F) (h:zav [.str r,.tup (R.map D.str)]=some (.sh (.bl false))) (k:Nat) (hk:k < 2):zau [.int k,oO F R ps,cnT b r,.int s,.str w]=some (.sh (.tup [.str "role",.str r])):=by
 have hv:=ztv v hw h;rcases (by omega:k=0\/k=1) with rfl | rfl
 ·exact zha (c:=5) (.inr (.inl rfl)) (zvP b (λ_=>zDT (zvF hs hv)) λ_=>zDU (zvF hs hv))
 ·exact zha (c:=5) (.inr (.inl rfl)) (zzc b (λ_=>zDX v hw h) λ_=>zEV hv)
theorem zBV (v:Valid F R ps) (b:Bool) {r:Str} (hr:r∈R) {s:Nat} (hs:s < 2 ^ (F.length*R.length)) {w:Str} (hw:w∈F) (k:Nat) (hk:k < 2):zau [.int k,oO F R ps,cnT b r,.int s,.str w]=some (.sh .non):=by
 have a1:=zDR v hs hw hr;have a2:=zDS v hs hw hr;have a3:=zDV v hw hr;have a4:=zDY v hw hr;generalize (zjp F R ps w r).map wD=W at *;generalize [(0,hvM F R w (brg ps R r) 0)].map wD=V at *;rcases (by omega:k=0\/k=1) with rfl | rfl
 ·refine zme (zvP b (λ_=>a1.2) λ_=>a2.2) ?_;cases b <;> simp [zzb,ez0,cnT,List.lookup,a1.1,a2.1]
 ·refine zme (zzc b (λ_=>a3.2) λ_=>a4.2) ?_;cases b <;> simp [zzb,ez1,cnT,List.lookup,a3.1,a4.1]
end
structure Odd (d:D):Prop where
 bl:∃ b,zgb tab [d,.ty "bool"]=some (.sh (.bl b))
 sh:∀ tag,Ok tag->∃ p,shp (.tup [.str tag,d])=some p
theorem zwP {d:D} {tag:Str} (o:Odd d) (ht:Ok tag):zbh [.tup [.str tag,d],.tup [.str tag,d]]=some (.sh (.bl true)):=by
 obtain ⟨b,hb⟩:=o.bl;obtain ⟨p,hp⟩:=o.sh tag ht;have e:=zpZ hp;have e2:oEq (.bl b) (.bl b)=some (.bl true):=by cases b <;> rfl
 have i1:oIx (.tup [.str tag,d]) (.int 1)=some d:=rfl;generalize D.tup [.str tag,d]=X at *;simp [zbh,zcA,zfp,e,i1,hb,e2,-oEq,-oIx]
section
variable {F R:List Str} {ps:List Pr}
theorem zfz {d:D} {q:PyData} (hb:∃ b,zgb tab [d,.ty "bool"]=some (.sh (.bl b))) (hd:d.dat=some q) (hl:PyData.canLay0 q=true) (hp:q.depth<=3):Odd d:=by
 refine ⟨hb,λtag ht=>⟨.tuple [.str tag,q],?_⟩⟩;have hs:SeqAt.shaped (.tuple [.str tag,q])=true:=by
  have:=shS ht;simp [SeqAt.shaped,PyData.canLay0,PyData.canLayAll0,PyData.depth,PyData.depthAll] at this ⊢;refine ⟨⟨?_,?_⟩,?_⟩
  all_goals first | exact hl | (unfold Ok at ht; exact ht) | omega
 simp [shp,D.dat,D.dats,hd,hs]
theorem ztM:Odd .non:=zfz ⟨false,rfl⟩ rfl rfl (by decide)
theorem zmT (n:Int):Odd (.int n):=zfz (q:=.int n) ⟨false,rfl⟩ rfl rfl (by simp [PyData.depth])
theorem ztN (b:Bool):Odd (.bl b):=zfz (q:=.bool b) ⟨true,rfl⟩ rfl rfl (by simp [PyData.depth])
theorem zlq {z:Str} (h:Ok z):Odd (.str z):=zfz (q:=.str z) ⟨false,rfl⟩ rfl h (by simp [PyData.depth])
theorem ztO {d:D} {q:PyData} (hd:d.dat=some q) (hl:PyData.canLay0 q=true) (hp:q.depth=0):Odd (.tup [d]):=zfz (q:=.tuple [q]) ⟨false,rfl⟩ (by simp [D.dat,D.dats,hd]) (by simp [PyData.canLay0,PyData.canLayAll0,hl]) (by simp [PyData.depth,PyData.depthAll,hp])
theorem ztP {d:D} {q:PyData} (hd:d.dat=some q) (hl:PyData.canLay0 q=true) (hp:q.depth=0):Odd (.lst [d]):=zfz (q:=.list [q]) ⟨false,rfl⟩ (by simp [D.dat,D.dats,hd]) (by simp [PyData.canLay0,PyData.canLayAll0,hl]) (by simp [PyData.depth,PyData.depthAll,hp])
theorem zjr {d:D} (h:zgb tab [d,.ty "int"]=some (.sh (.bl false))\/zgb tab [d,.ty "bool"]=some (.sh (.bl true))/\zgb tab [d,.ty "int"]=some (.sh (.bl true))):zak [oO F R ps,d]=some (.sh (.bl false)):=by
 have hw:zbI [d]=some (.sh (.bl false)):=by
  rcases h with h | ⟨h,h'⟩
  ·simp [zbI,zcA,zei,h]
  ·simp [zbI,zcA,zei,h,h']
 simp [zak,zcA,zb7,zb6,hw]
theorem zvS {n:Int} (h:n < 0):zak [oO F R ps,.int n]=some (.sh (.bl false)):=by
 have hw:=zo4 n;have h0:¬ (0:Int)<=n:=by omega
 simp [zak,zcA,zb7,zb6,hw,h0]
theorem zq1 {s n:Nat} (h:2 ^ n<=s):n < Builtin.Int.intBits (s:Int):=by
 unfold Builtin.Int.intBits;have z:s≠0:=by have:=Nat.two_pow_pos n; omega
 have e:((s:Int)==0)=false:=by simp; omega
 rw [e];simp only [Bool.false_eq_true,if_false,Int.natAbs_natCast];have:=(Nat.le_log2 z).mpr h;omega
theorem zp1 {s:Nat} (h:2 ^ (F.length*R.length)<=s):zak [oO F R ps,.int s]=some (.sh (.bl false)):=by
 have hw:=zo4 (s:Int);have h2:=zts (F:=F) (R:=R) (ps:=ps);have h3:=zq1 h;have h4:¬ ((Builtin.Int.intBits (s:Int):Nat):Int)<=((F.length*R.length:Nat):Int):=by omega
 have h5:(0:Int)<=s:=by omega
 generalize ((F.length*R.length:Nat):Int)=n at h2 h4;simp [zak,zcA,zb7,zb6,hw,h2,h4,h5]
def qL:List Str:=["qa","qb","qc","qd","qe","qf","qg"]
theorem zEX:∀ z∈qL,Ok z:=by decide +kernel
theorem zFG:qL.Nodup:=by decide +kernel
theorem zzd (v:Valid F R ps):∃ q zcc,(qL.filter λz=>!decide (z∈R))=q :: zcc/\q∉R/\Ok q:=by
 cases e:qL.filter λz=>!decide (z∈R) with
 | nil=>
  exfalso;have all:∀ z∈qL,z∈R:=λz hz=>by
   refine Classical.byContradiction λn=>?_;have:z∈qL.filter λz=>!decide (z∈R):=List.mem_filter.mpr ⟨hz,by simp [n]⟩;rw [e] at this;simp at this
  have:=zie zFG all;have r6:=v.r6;have l7:qL.length=7:=rfl;omega
 | cons q zcc=>
  have hm:q∈qL.filter λz=>!decide (z∈R):=by rw [e]; simp
  rw [List.mem_filter] at hm;exact ⟨q,zcc,rfl,by simpa using hm.2,zEX q hm.1⟩
theorem zEY:Ok ("A":Str):=by decide +kernel
theorem zEZ:Ok ("zzzzzzz":Str):=by decide +kernel
theorem zE0:Ok ("":Str):=by decide +kernel
theorem zFH:Ok ("0":Str):=by decide +kernel
theorem zvT:Ok ("state":Str):=by decide +kernel
theorem zze:Ok ("folk":Str):=by decide +kernel
theorem zzf:Ok ("role":Str):=by decide +kernel
theorem zDZ {z:Str} (g:Good z):("A":Str)≠z:=λe=>by
 subst e;have:=g.all 65 (by decide +kernel);revert this;decide
theorem zD0 {z:Str} (g:Good z):("zzzzzzz":Str)≠z:=λe=>by
 subst e;have:=g.hi;revert this;decide +kernel
theorem zD1 {z:Str} (g:Good z):("":Str)≠z:=λe=>by
 subst e;have:=g.lo;revert this;decide +kernel
end
theorem zBW (b:Bool) (r:Str):zhn [0,1] "role" (cnT b r)=some (.str r):=by cases b <;> simp [cnT]
theorem zwQ {O T:D} {b:Bool} {ro q wl:Str} {nb nn fd n:D} {k:Nat} {Fd:List D} {x8:Option SV} (l8:lkO x8=false) (hq:Ok q) (hr:Ok ro) (t0:oIx T (.int 0)=some (.lst Fd)) (t1:oIx (.lst Fd) (.int (-1))=some (.str wl))
  (h1:zau [.int k,O,cnT b ro,.int 0,nb]=some (.sh (.tup [.str "folk",nb]))) (h1s:zbh [.tup [.str "folk",nb],.tup [.str "folk",nb]]=some (.sh (.bl true)))
  (h2:zau [.int k,O,cnT b ro,.int 0,.str wl]=some (.sh fd)) (h3:ro=q->fd=.tup [.str "role",.str q]) :
  za3 [sO' O,sO' T,sO' n,sO' (.str q),sO' nb,sO' nn,sO' (cnT b ro),sI' k,x8]=.nx [sO' O,sO' T,sO' n,sO' (.str q),sO' nb,sO' nn,sO' (cnT b ro),sI' k,sO' fd]:=by
 have z2:(2:Nat)<=sizeLine:=by rw [zax]; omega
 have fr:=zBW b ro;have ng:zu0 (.int 1)=some (.int (-1)):=rfl;have es:=eqS hr hq;have ne:ro=q->oNe fd (.tup [.str "role",.str q])=some (.bl false):=λe=>by
  obtain ⟨p,hp⟩:=(zlq hq).sh "role" zzf;rw [h3 e];exact zvL hp
 generalize cnT b ro=t at *;generalize hX:D.tup [.str "role",.str q]=X at *;generalize hY:D.tup [.str "folk",nb]=Y at *;unfold za3 zeY;refine zay (S1:=[sO' O,sO' T,sO' n,sO' (.str q),sO' nb,sO' nn,sO' t,sI' k,x8]) ?_ ?_
 ·simp [h1,h1s,z2,hY]
 refine zay (S1:=[sO' O,sO' T,sO' n,sO' (.str q),sO' nb,sO' nn,sO' t,sI' k,sO' fd]) ?_ ?_
 ·cases hp:fd.plain <;> simp [t0,t1,ng,h2,hp,l8,-oIx,-zu0]
 ·by_cases c:ro=q
  ·have ne:=ne c;have cb:(ro==q)=true:=by simp [c]
   rw [cb] at es;simp [fr,es,ne,z2,hX,-zhn]
  ·have cb:(ro==q)=false:=by simp [c]
   rw [cb] at es;simp [fr,es,-zhn]
theorem zvU {O T:D} {b:Bool} {ro q wl:Str} {nb nn n:D} {Fd:List D} {x7 x8:Option SV} (l7:lkO x7=false) (l8:lkO x8=false) (hq:Ok q) (hr:Ok ro) (t0:oIx T (.int 0)=some (.lst Fd)) (t1:oIx (.lst Fd) (.int (-1))=some (.str wl))
  (h0:zau [.int 0,O,cnT b ro,nn,nb]=some (.sh (.tup [.str "state",nn]))) (h0s:zbh [.tup [.str "state",nn],.tup [.str "state",nn]]=some (.sh (.bl true)))
  (h1:∀ k:Nat,k < 2->zau [.int k,O,cnT b ro,.int 0,nb]=some (.sh (.tup [.str "folk",nb]))) (h1s:zbh [.tup [.str "folk",nb],.tup [.str "folk",nb]]=some (.sh (.bl true)))
  (h2:∀ k:Nat,k < 2->∃ fd,zau [.int k,O,cnT b ro,.int 0,.str wl]=some (.sh fd)/\(ro=q->fd=.tup [.str "role",.str q])) :
  ∃ fd,zbg [sO' O,sO' T,sO' n,sO' (.str q),sO' nb,sO' nn,sO' (cnT b ro),x7,x8]=.nx [sO' O,sO' T,sO' n,sO' (.str q),sO' nb,sO' nn,sO' (cnT b ro),sI' 1,sO' fd]:=by
 have z2:(2:Nat)<=sizeLine:=by rw [zax]; omega
 obtain ⟨f0,e0,c0⟩:=h2 0 (by omega);obtain ⟨f1,e1,c1⟩:=h2 1 (by omega);refine ⟨f1,?_⟩;have a0:=zwQ (n:=n) (nn:=nn) (x8:=x8) l8 hq hr t0 t1 (h1 0 (by omega)) h1s e0 c0;have a1:=zwQ (n:=n) (nn:=nn) (x8:=sO' f0) rfl hq hr t0 t1 (h1 1 (by omega)) h1s e1 c1;generalize cnT b ro=t at *;generalize hY:D.tup [.str "state",nn]=Y at *;unfold zbg zeZ;refine zay (S1:=[sO' O,sO' T,sO' n,sO' (.str q),sO' nb,sO' nn,sO' t,x7,x8]) ?_ ?_
 ·simp [h0,h0s,z2,hY]
 ·refine zjA (its:=[nD 0,nD 1]) (by rw [ztJ]) ?_;have g1:gN 7 (nD 0) [sO' O,sO' T,sO' n,sO' (.str q),sO' nb,sO' nn,sO' t,x7,x8]=some [sO' O,sO' T,sO' n,sO' (.str q),sO' nb,sO' nn,sO' t,sI' 0,x8]:=by simp [l7]
  have g2:gN 7 (nD 1) [sO' O,sO' T,sO' n,sO' (.str q),sO' nb,sO' nn,sO' t,sI' 0,sO' f0]=some [sO' O,sO' T,sO' n,sO' (.str q),sO' nb,sO' nn,sO' t,sI' 1,sO' f0]:=by simp
  have b0:za3 [sO' O,sO' T,sO' n,sO' (.str q),sO' nb,sO' nn,sO' t,sI' 0,x8]=.nx [sO' O,sO' T,sO' n,sO' (.str q),sO' nb,sO' nn,sO' t,sI' 0,sO' f0]:=a0;have b1:za3 [sO' O,sO' T,sO' n,sO' (.str q),sO' nb,sO' nn,sO' t,sI' 1,sO' f0]=.nx [sO' O,sO' T,sO' n,sO' (.str q),sO' nb,sO' nn,sO' t,sI' 1,sO' f1]:=a1;simp only [za9];rw [g1];simp only [b0];rw [g2];simp only [b1]
section
variable {F R:List Str} {ps:List Pr}
theorem zp2 (v : Valid F R ps) {q wl : Str} {nb nn n : D} (hq : Ok q) (qn : q ∉ R) (hwl : wl ∈ F) (t1 : oIx (.lst (F.map D.str)) (.int (-1)) = some (.str wl)) (on : Odd nn) (ob : Odd nb) (sn : zak [oO F R ps, nn] = some (.sh (.bl false))) (sb : zav [nb, .tup (F.map D.str)] = some (.sh (.bl false))) :
    ∀ (ts : List (Bool × Str)) (x6 x7 x8 : Option D), (∀ t ∈ ts, t.2 = q \/ t.2 ∈ R) -> ∃ y6 y7 y8,
    za9 (gN 6) zbg (ts.map λt => cnT t.1 t.2) [sO' (oO F R ps), sO' (tD F R ps), sO' n, sO' (.str q), sO' nb, sO' nn, oD' x6, oD' x7, oD' x8] = .nx [sO' (oO F R ps), sO' (tD F R ps), sO' n, sO' (.str q), sO' nb, sO' nn, oD' y6, oD' y7, oD' y8]
  | [], x6, x7, x8, _ => ⟨x6, x7, x8, rfl⟩
  | (b, ro) :: ts, x6, x7, x8, h => by
    have hro := h (b, ro) (by simp);have hor : Ok ro := by
      rcases hro with e | e
      · rw [show ro = q from e]; exact hq
      · exact (v.rg ro e).ok
    have hs : (0 : Nat) < 2 ^ (F.length * R.length) := Nat.two_pow_pos _;have am : zav [.str q, .tup (R.map D.str)] = some (.sh (.bl false)) := zkh (λz hz => (v.rg z hz).ok) (.inr ⟨q, rfl, hq, qn⟩);obtain ⟨fd, st⟩ := zvU (O := oO F R ps) (T := tD F R ps) (b := b) (ro := ro) (q := q) (wl := wl) (nb := nb) (nn := nn) (n := n) (Fd := F.map D.str) (x7 := oD' x7) (x8 := oD' x8) (by cases x7 <;> rfl) (by cases x8 <;> rfl) hq hor rfl t1
      (ztL b ro sn) (zwP on zvT) (λk hk => zvQ b ro hs sb k hk) (zwP ob zze) (λk hk => by
        rcases hro with e | e
        · have e : ro = q := e
          subst e;exact ⟨_, zvR v b hs hwl am k hk, λ_ => rfl⟩
        · exact ⟨_, zBV v b e hs hwl k hk, λz => absurd (z ▸ e) qn⟩)
    obtain ⟨y6, y7, y8, ih⟩ := zp2 v hq qn hwl t1 on ob sn sb ts (some (cnT b ro)) (some (.int 1)) (some fd) λt ht => h t (by simp [ht]);refine ⟨y6, y7, y8, ?_⟩;rw [List.map_cons, za9];have hg : gN 6 (cnT b ro) [sO' (oO F R ps), sO' (tD F R ps), sO' n, sO' (.str q), sO' nb, sO' nn, oD' x6, oD' x7, oD' x8] = some [sO' (oO F R ps), sO' (tD F R ps), sO' n, sO' (.str q), sO' nb, sO' nn, sO' (cnT b ro), oD' x7, oD' x8] := by cases x6 <;> simp
    rw [hg];simp only [st];exact ih
end
section
variable {F R:List Str} {ps:List Pr}
theorem tf0:oIx (tD F R ps) (.int 0)=some (.lst (F.map D.str)):=rfl
theorem tf1:oIx (tD F R ps) (.int 1)=some (.lst (R.map D.str)):=rfl
theorem tf2:oIx (tD F R ps) (.int 2)=some (.lst (ps.map pD)):=rfl
theorem zo9 (v:Valid F R ps) {S:FSt} {i:Nat} (hS:mV i S=some (tD F R ps)):m2 zrj (mC (.int 1)) (mFr (m2 zkw (mFr (m1 zga (zab (m2 oIx (mV i) (mC (.int 0))) zam))) (mFr (m1 zga (zab (m2 oIx (mV i) (mC (.int 1))) zam))))) S=some (.int (2 ^ (F.length*R.length):Nat)):=by
 have f4:=v.f4;have r6:=v.r6;have fr:=v.fr;have cm:zmt (F.length:Int) (R.length:Int)=true:=zlH (by omega) (by omega);refine zBF (F.length*R.length) _ (zyS _ (by omega)) _ _ ?_;rw [Int.natCast_mul];simp [hS,tf0,tf1,cm,-oIx,-mV]
theorem zjw {zs:List Str} {k:Nat} {z:Str} (h:zs[k]? = some z):oIx (.lst (zs.map D.str)) (.int k)=some (.str z):=by
 have:atI (zs.map D.str) (k:Int)=some (.str z):=atN (by rw [List.getElem?_map,h]; rfl)
 simpa using this
theorem ztQ {zs:List Str} (h:1<=zs.length):∃ z,z∈zs/\oIx (.lst (zs.map D.str)) (.int (-1))=some (.str z):=by
 have hl:zs.length-1 < zs.length:=by omega
 refine ⟨zs[zs.length-1],List.getElem_mem hl,?_⟩;have:atI (zs.map D.str) (-1)=some (.str zs[zs.length-1]):=by
  have e2:ixN (zs.map D.str).length (-1)=some (zs.length-1):=by
   unfold ixN;rw [if_neg (by decide),if_pos (by simp; omega)];congr 1;simp;omega
  unfold atI;rw [e2];simp [hl]
 simpa using this
def ztR (T:Nat):List D:=[.int (-1),.int T,.bl true,.bl false,.non,.str "0",.tup [.int 0],.lst [.int 0],.int (10 ^ 30)]
def zBX (f:Str):List D:=[.non,.int 5,.bl true,.str "A",.str "zzzzzzz",.str "",.tup [.str f],.lst [.str f]]
theorem zBY (v:Valid F R ps) {f:Str} (hf:f∈F):∀ d∈zBX f,Odd d/\zav [d,.tup (F.map D.str)]=some (.sh (.bl false)):=by
 have okF:=v.okF;have gf:=v.fg f hf;intro d hd;simp only [zBX,List.mem_cons,List.not_mem_nil,or_false] at hd;rcases hd with rfl | rfl | rfl | rfl | rfl | rfl | rfl | rfl
 ·exact ⟨ztM,zem rfl⟩
 ·exact ⟨zmT 5,zem rfl⟩
 ·exact ⟨ztN true,zem rfl⟩
 ·exact ⟨zlq zEY,zkh okF (.inr ⟨_,rfl,zEY,λz=>zDZ (v.fg _ z) rfl⟩)⟩
 ·exact ⟨zlq zEZ,zkh okF (.inr ⟨_,rfl,zEZ,λz=>zD0 (v.fg _ z) rfl⟩)⟩
 ·exact ⟨zlq zE0,zkh okF (.inr ⟨_,rfl,zE0,λz=>zD1 (v.fg _ z) rfl⟩)⟩
 ·exact ⟨ztO (q:=.str f) rfl gf.ok rfl,zem rfl⟩
 ·exact ⟨ztP (q:=.str f) rfl gf.ok rfl,zem rfl⟩
theorem zzg (v:Valid F R ps):∀ d∈ztR (2 ^ (F.length*R.length)),Odd d/\zak [oO F R ps,d]=some (.sh (.bl false)):=by
 intro d hd;simp only [ztR,List.mem_cons,List.not_mem_nil,or_false] at hd;rcases hd with rfl | rfl | rfl | rfl | rfl | rfl | rfl | rfl | rfl
 ·exact ⟨zmT _,zvS (by decide)⟩
 ·exact ⟨zmT _,zp1 (Nat.le_refl _)⟩
 ·exact ⟨ztN _,zjr (.inr ⟨rfl,rfl⟩)⟩
 ·exact ⟨ztN _,zjr (.inr ⟨rfl,rfl⟩)⟩
 ·exact ⟨ztM,zjr (.inl rfl)⟩
 ·exact ⟨zlq zFH,zjr (.inl rfl)⟩
 ·exact ⟨ztO (q:=.int 0) rfl rfl rfl,zjr (.inl rfl)⟩
 ·exact ⟨ztP (q:=.int 0) rfl rfl rfl,zjr (.inl rfl)⟩
 ·refine ⟨zmT _,?_⟩;have e:((10:Int) ^ 30)=((10 ^ 30:Nat):Int):=by decide +kernel
  rw [e];refine zp1 ?_;have:2 ^ (F.length*R.length)<=2 ^ 12:=Nat.pow_le_pow_right (by omega) v.fr;exact Nat.le_trans this (by decide)
theorem ztS {xs:List D} {k:Nat} (h:k < xs.length):∃ d,d∈xs/\oIx (.lst xs) (.int k)=some d:=by
 refine ⟨xs[k],List.getElem_mem h,?_⟩;have:atI xs (k:Int)=some xs[k]:=atN (by simp [h])
 simpa using this
theorem zD2 (v:Valid F R ps) (n:Nat):za8 [oO F R ps,tD F R ps,.int n]=some (.sh (.bl true)):=by
 obtain ⟨q,zcc,eq,qn,hq⟩:=zzd v;obtain ⟨wl,hwl,t1⟩:=ztQ (zs:=F) v.f1;have z9:(9:Nat)<=sizeLine:=by rw [zax]; omega
 have z1:(1:Nat)<=sizeLine:=by omega
 have z4:(4:Nat)<=sizeLine:=by omega
 have z7:(7:Nat)<=sizeLine:=by omega
 have z8:(8:Nat)<=sizeLine:=by omega
 obtain ⟨f0,hf0⟩:∃ f0,F[0]? = some f0:=⟨F[0]'(by have:=v.f1; omega),by have:=v.f1; simp⟩
 have mf0:f0∈F:=List.mem_of_getElem? hf0;obtain ⟨r0,hr0⟩:∃ r0,R[0]? = some r0:=⟨R[0]'(by have:=v.r1; omega),by have:=v.r1; simp⟩
 have mr0:r0∈R:=List.mem_of_getElem? hr0;obtain ⟨rl,mrl,trl⟩:=ztQ (zs:=R) v.r1;have tf00:oIx (.lst (F.map D.str)) (.int 0)=some (.str f0):=zjw hf0;have tr00:oIx (.lst (R.map D.str)) (.int 0)=some (.str r0):=zjw hr0;have k8:n%8 < (zBX f0).length:=Nat.mod_lt _ (by decide);have k9:n / 8%9 < (ztR (2 ^ (F.length*R.length))).length:=Nat.mod_lt _ (by decide);obtain ⟨nb,mnb,inb⟩:=ztS k8;obtain ⟨nn,mnn,inn⟩:=ztS k9
 obtain ⟨ob,sb⟩:=zBY v mf0 nb mnb;obtain ⟨on,sn⟩:=zzg v nn mnn;obtain ⟨y6,y7,y8,lo⟩:=zp2 v (n:=.int n) hq qn hwl t1 on ob sn sb [(true,q),(false,q),(true,r0),(false,rl)] none none none (by
  intro t ht;simp only [List.mem_cons,List.not_mem_nil,or_false] at ht;rcases ht with rfl | rfl | rfl | rfl
  ·exact .inl rfl
  ·exact .inl rfl
  ·exact .inr mr0
  ·exact .inr mrl)
 have hc:=zyP D.str [sO' (tD F R ps)] (zal (m2 zeo (mV 0) (m2 oIx (mV 1) (mC (.int 1))))) (mV 0) (λz=>!decide (z∈R)) D.str qL (λz hz=>by
  have:=zyM (zEX z hz) v.okR;refine ⟨?_,λ_=>by simp⟩;simp [tf1,zeo,this,-oIx]) none
 simp only [oD',Option.map_none] at hc;rw [eq] at hc;have mo8:zeQ (.int n) (.int 8)=some (.int (n%8:Nat)):=by simp
 have fd8:zd0 (.int n) (.int 8)=some (.int (n / 8:Nat)):=by simp
 have mo9:zeQ (.int (n / 8:Nat)) (.int 9)=some (.int (n / 8%9:Nat)):=by simp
 have ma:=λ(S:FSt) (h:mV 1 S=some (tD F R ps))=>zo9 v h;have pw:zCh (.int 10) (.int 30)=some (.int (10 ^ 30)):=by
  have hp:zos 10 30=true:=by
   rw [zia];exact ⟨by decide,by decide,by decide⟩
  show (if zos 10 30=true then some (D.int (10 ^ (30:Int).toNat)) else none)=_;rw [if_pos hp];rfl
 refine zfb rfl ?_;show zcp [sO' (oO F R ps),sO' (tD F R ps),sI' n,none,none,none,none,none,none]=_;unfold zcp zgg;refine zay (S1:=[sO' (oO F R ps),sO' (tD F R ps),sI' n,sO' (.str q),none,none,none,none,none]) ?_ ?_
 ·refine zgy (zhw (x:=.str q) ?_) (by simp [D.plain]);have B:=zfm (own:=1) (fi:=[1]) (mi:=zkb (mFr (zhc (zab (mC (.str "qa")) (zab (mC (.str "qb")) (zab (mC (.str "qc")) (zab (mC (.str "qd")) (zab (mC (.str "qe")) (zab (mC (.str "qf")) (zab (mC (.str "qg")) zam)))))))))) (mg:=gN 0) (mt:=zal (m2 zeo (mV 0) (m2 oIx (mV 1) (mC (.int 1))))) (me:=mV 0) (S:=[sO' (oO F R ps),sO' (tD F R ps),sI' n,none,none,none,none,none,none]) (its:=qL.map D.str) (by simp [z7,qL]) (by simp [qL]; exact z7) hc
  rw [zgz (zoK B) rfl];exact zjw (zs:=q :: zcc) (k:=0) rfl
 refine zay (S1:=[sO' (oO F R ps),sO' (tD F R ps),sI' n,sO' (.str q),sO' nb,none,none,none,none]) ?_ ?_
 ·refine zgy (zhw (x:=nb) ?_) (by cases hp:nb.plain <;> simp [hp]);refine Eq.trans (zgz (x:=.lst (zBX f0)) (y:=.int (n%8:Nat)) ?_ ?_) inb
  ·simp [tf0,tf00,z1,z8,zBX,-oIx]
  ·simp [mo8,-zeQ]
 refine zay (S1:=[sO' (oO F R ps),sO' (tD F R ps),sI' n,sO' (.str q),sO' nb,sO' nn,none,none,none]) ?_ ?_
 ·refine zgy (zhw (x:=nn) ?_) (by cases hp:nn.plain <;> simp [hp]);have ma:=ma [sO' (oO F R ps),sO' (tD F R ps),sI' n,sO' (.str q),sO' nb,none,none,none,none] rfl;generalize m2 zrj (mC (.int 1)) (mFr (m2 zkw (mFr (m1 zga (zab (m2 oIx (mV 1) (mC (.int 0))) zam))) (mFr (m1 zga (zab (m2 oIx (mV 1) (mC (.int 1))) zam)))))=mm at ma ⊢;refine Eq.trans (zgz (x:=.lst (ztR (2 ^ (F.length*R.length)))) (y:=.int (n / 8%9:Nat)) ?_ ?_) inn
  ·generalize 2 ^ (F.length*R.length)=Tn at *;simp [ma,pw,z1,z9,ztR,-zCh]
  ·simp [fd8,mo9,-zeQ,-zd0]
 refine zay (S1:=[sO' (oO F R ps),sO' (tD F R ps),sI' n,sO' (.str q),sO' nb,sO' nn,oD' y6,oD' y7,oD' y8]) (zjA (its:=[cnT true q,cnT false q,cnT true r0,cnT false rl]) ?_ ?_) ?_
 ·have ih:=ztE q;have inq:=ztF q;have ihr:=ztE r0;have inr:=ztF rl;have ng:zu0 (.int 1)=some (.int (-1)):=rfl;simp [ih,inq,ihr,inr,tf1,tr00,trl,ng,z4,cnT,-oIx,-zu0]
 ·exact lo
 ·rfl
end
section
variable {F R:List Str} {ps:List Pr}
theorem zvV (v:Valid F R ps) (c:Int):∃ ss:List Nat,(∀ s∈ss,s < 2 ^ (F.length*R.length))/\zbS [tD F R ps,.int c]=some (.li (ss.map nD)):=by
 obtain ⟨ws,hw,hs⟩:=zmS c 40 (by omega);have ma:=zo9 v (S:=[sO' (tD F R ps),sI' c,none]) (i:=0) rfl;have hT0:0 < 2 ^ (F.length*R.length):=Nat.two_pow_pos _;have hT12:2 ^ (F.length*R.length)<=2 ^ 12:=Nat.pow_le_pow_right (by omega) v.fr;have pt:(tD F R ps).plain=false:=rfl;have z2:(2:Nat)<=sizeLine:=by rw [zax]; omega
 have z50:(50:Nat)<=sizeLine:=by rw [zax]; omega
 generalize 2 ^ (F.length*R.length)=T at *;have s1:zcU 2 [0] (mSh (m2 zrj (mC (.int 1)) (mFr (m2 zkw (mFr (m1 zga (zab (m2 oIx (mV 0) (mC (.int 0))) zam))) (mFr (m1 zga (zab (m2 oIx (mV 0) (mC (.int 1))) zam))))))) [sO' (tD F R ps),sI' c,none]=.nx [sO' (tD F R ps),sI' c,sI' T]:=zgy (zhw ma) (by simp [D.plain])
 by_cases h:T<=64
 ·refine ⟨List.range T,λs hs=>by simpa using hs,?_⟩;have hb:((T:Int)<=64):=by omega
  have lr:fLr [.int T]=some (.li ((List.range T).map nD)):=by
   have c1:(0:Int)<=T/\(T:Int)<=4096:=by omega
   simp only [fLr,if_pos c1,Int.toNat_natCast]
  refine zfb rfl ?_;show zcH [sO' (tD F R ps),sI' c,none]=_;unfold zcH zgE;refine zay s1 ?_;refine zyQ ?_;simp [hb,lr,-fLr]
 ·have hb:¬ ((T:Int)<=64):=by omega
  refine ⟨0 :: (T-1) :: ws.map λn=>n%T,λs hs=>?_,?_⟩
  ·simp only [List.mem_cons,List.mem_map] at hs;rcases hs with rfl | rfl | ⟨n,_,rfl⟩
   ·exact hT0
   ·omega
   ·exact Nat.mod_lt _ hT0
  have cmp:=znw nD [sI' T] (m2 zeQ (mV 0) (mV 1)) (λn=>nD (n%T)) ws (λn _=>by
   have e:(n:Int)%(T:Int)=((n%T:Nat):Int):=rfl;have p:(0:Int) < (T:Int):=by omega
   simp only [m2,mV,List.getElem?_cons_succ,List.getElem?_cons_zero,Option.join_some,Option.map_some,SV.fr,Option.bind_some,zeQ,fI,if_pos p,e]) none
  simp only [oD',Option.map_none] at cmp;have hs':zaz [.int c,.int 40]=some (.li (ws.map nD)):=hs;have B:=zoK (zfm (own:=1) (fi:=[2]) (mi:=zkb (mFr (m1 zaz (zab (mV 1) (zab (mC (.int 40)) zam))))) (mg:=gN 0) (mt:=zfC) (me:=m2 zeQ (mV 0) (mV 1)) (S:=[sO' (tD F R ps),sI' c,sI' T]) (its:=ws.map nD) (by simp [hs']) (by simp; omega) cmp);have A:mFr (zhc (zab (mC (.int 0)) (zab (m2 zAP (mV 2) (mC (.int 1))) zam))) [sO' (tD F R ps),sI' c,sI' T]=some (.lst [nD 0,nD (T-1)]):=by
   have e:(T:Int)-1=((T-1:Nat):Int):=by omega
   simp only [mFr,zhc,zab,mC,zam,m2,mV,List.getElem?_cons_succ,List.getElem?_cons_zero,Option.join_some,Option.map_some,SV.fr,Option.bind_some,zAP,fI,e];simp [z2]
  simp only [SV.fr] at B;refine zfb rfl ?_;show zcH [sO' (tD F R ps),sI' c,none]=_;unfold zcH zgE;refine zay s1 ?_;refine zay (S1:=[sO' (tD F R ps),sI' c,sI' T]) ?_ ?_
  ·simp [hb]
  ·have:m2 ze9 (mFr (zhc (zab (mC (.int 0)) (zab (m2 zAP (mV 2) (mC (.int 1))) zam)))) (mFr (zdC 1 [2] (zkb (mFr (m1 zaz (zab (mV 1) (zab (mC (.int 40)) zam))))) (gN 0) zfC (m2 zeQ (mV 0) (mV 1)))) [sO' (tD F R ps),sI' c,sI' T]=some (.li ([nD 0,nD (T-1)]++ws.map λn=>nD (n%T))):=by
    rw [zgz A B];have hl:[nD 0,nD (T-1)].length+(ws.map λn=>nD (n%T)).length<=sizeLine:=by simp [hw]; omega
    simp only [ze9,if_pos hl]
   simp only [zdu,this];simp [Function.comp_def]
theorem zn4 (v:Valid F R ps):Valid F.reverse (R.drop 1++R.take 1) (ps.drop 1):=by
 have hlR:(R.drop 1++R.take 1).length=R.length:=by
  have:=v.r1;simp; omega
 have hp:(R.drop 1++R.take 1).Perm R:=by
  have:=(List.perm_append_comm (l₁:=R.drop 1) (l₂:=R.take 1))
  rwa [List.take_append_drop] at this
 refine ⟨by simpa using v.f1,by simpa using v.f4,by rw [hlR]; exact v.r1,by rw [hlR]; exact v.r6,by rw [hlR]; simpa using v.fr,(List.reverse_perm F).nodup_iff.mpr v.fn,hp.nodup_iff.mpr v.rn,λz hz=>v.fg z (by simpa using hz),λz hz=>v.rg z (hp.mem_iff.mp hz),v.pn.sublist (List.drop_sublist _ _),λp hpp=>?_,?_,?_⟩
 ·have:=v.pm p (List.mem_of_mem_drop hpp);exact ⟨hp.mem_iff.mpr this.1,hp.mem_iff.mpr this.2⟩
 ·have:=v.p15;simp; omega
 ·obtain ⟨rk,h⟩:=v.rk;exact ⟨rk,λp hpp=>h p (List.mem_of_mem_drop hpp)⟩
theorem zvW (v:Valid F R ps):zbD [tD F R ps]=some (.sh (tD F.reverse (R.drop 1++R.take 1) (ps.drop 1))):=by
 have r1:=v.r1;have r6:=v.r6;have z3:(3:Nat)<=sizeLine:=by rw [zax]; omega
 have c1:znk (R.map D.str) (some 1) none=(R.drop 1).map D.str:=by
  have:=zsZ (R.map D.str) 1 (by simpa using r1);rw [List.map_drop];exact this
 have c2:znk (R.map D.str) none (some 1)=(R.take 1).map D.str:=by
  have:=zwB (R.map D.str) 1 (by simpa using r1);rw [List.map_take];exact this
 have c3:oSl (.lst (ps.map pD)) (some 1) none=some (.li ((ps.drop 1).map pD)):=by
  cases ps with
  | nil=>rfl
  | cons p ps=>
   have:=zsZ ((p :: ps).map pD) 1 (by simp);rw [List.map_drop];show some (SV.li (znk ((p :: ps).map pD) (some ((1:Nat):Int)) none))=_;rw [this]
 have s1:oSl (.lst (R.map D.str)) (some 1) none=some (.li ((R.drop 1).map D.str)):=by
  show some (SV.li (znk (R.map D.str) (some 1) none))=_;rw [c1]
 have s2:oSl (.lst (R.map D.str)) none (some 1)=some (.li ((R.take 1).map D.str)):=by
  show some (SV.li (znk (R.map D.str) none (some 1)))=_;rw [c2]
 have ad:ze9 (.lst ((R.drop 1).map D.str)) (.lst ((R.take 1).map D.str))=some (.li ((R.drop 1++R.take 1).map D.str)):=by
  have hl:((R.drop 1).map D.str).length+((R.take 1).map D.str).length<=sizeLine:=by simp; rw [zax]; omega
  simp only [ze9,if_pos hl,List.map_append]
 have rv:zzA [.lst (F.map D.str)]=some (.li (F.reverse.map D.str)):=by simp [List.map_reverse]
 show _=some (SV.sh (.tup [.lst (F.reverse.map D.str),.lst ((R.drop 1++R.take 1).map D.str),.lst ((ps.drop 1).map pD)]));have t0:=tf0 (F:=F) (R:=R) (ps:=ps);have t1:=tf1 (F:=F) (R:=R) (ps:=ps);have t2:=tf2 (F:=F) (R:=R) (ps:=ps);generalize tD F R ps=T at *;generalize F.reverse.map D.str=A1 at *;generalize (R.drop 1++R.take 1).map D.str=A4 at *;generalize (R.drop 1).map D.str=A2 at *;generalize (R.take 1).map D.str=A3 at *
 generalize (ps.drop 1).map pD=A5 at *;simp [zbD,zcA,ze0,t0,t1,t2,c3,s1,s2,ad,rv,z3,-oIx,-oSl,-ze9,-zzA]
theorem zBZ (v:Valid F R ps) {w r:Str} (hw:w∈F) (hr:r∈R) {s:Nat} (hs:s < 2 ^ (F.length*R.length)) {T0 n:D} {x8 x9:Option SV} (l8:lkO x8=false) (l9:lkO x9=false) :
  zbl [sO' T0,sO' n,sO' (.str w),sO' (.str r),sI' s,sO' (hsD r),sO' (ntD r),sO' (tD F R ps),x8,x9] =
   .nx [sO' T0,sO' n,sO' (.str w),sO' (.str r),sI' s,sO' (hsD r),sO' (ntD r),sO' (tD F R ps),sO' (oO F R ps),sO' (.bl (zfy F R ps s w r))]:=by
 have hof:=zpL v;have fw:=zDV v hw hr;have fn:=zDY v hw hr;have fm:=zwK v hw hr;have h1:=zDR v hs hw hr;have h2:=zDS v hs hw hr;have fh:=zwH v s hw hr;have h2b:=zf8 v hr;have bl:=zlp (R:=R) (ps:=ps) r;have r6:=v.r6;have z1:(1:Nat)<=sizeLine:=by rw [zax]; omega
 have z2:(2:Nat)<=sizeLine:=by rw [zax]; omega
 have hc:=znw D.str [sO' (.str w),sO' (tD F R ps)] (zdN (zab (mFr (m1 zaT (zab (mV 2) (zab (mV 1) (zab (mV 0) zam))))) (zab (mC (.int 0)) zam))) (λu=>wD (2 ^ plc F R w u,0)) (brg ps R r) (λu hu=>by
  have hb:=zpU v hw (zjn.mp hu).1;generalize 2 ^ plc F R w u=b at hb ⊢;simp [hb,z2,wD]) none
 simp only [oD',Option.map_none] at hc;have e:(zjp F R ps w r).map wD=(brg ps R r).map λu=>wD (2 ^ plc F R w u,0):=by simp [zjp]
 have B:=zoK (zfm (own:=1) (fi:=[2,7]) (mi:=zkb (mFr (m1 zaq (zab (mV 7) (zab (mV 3) zam))))) (mg:=gN 0) (mt:=zfC) (me:=zdN (zab (mFr (m1 zaT (zab (mV 2) (zab (mV 1) (zab (mV 0) zam))))) (zab (mC (.int 0)) zam))) (S:=[sO' T0,sO' n,sO' (.str w),sO' (.str r),sI' s,sO' (hsD r),sO' (ntD r),sO' (tD F R ps),sO' (oO F R ps),x9]) (its:=(brg ps R r).map D.str) (by simp [h2b]) (by simp; rw [zax]; omega) hc)
 simp only [SV.fr] at B;rw [<- e] at B;have nW:=ziM (zjp F R ps w r) (zjp F R ps w r);have nV:=ziM [(0,hvM F R w (brg ps R r) 0)] [(0,hvM F R w (brg ps R r) 0)];simp only [decide_true,Bool.not_true] at nW nV;have wq:∀ m:Nat,D.tup [.int 0,.int m]=wD (0,m):=λ_=>rfl;have e1:∀ b:Bool,oNe (.bl b) (.bl b)=some (.bl false):=λb=>by cases b <;> rfl
 have e2:∀ b:Bool,oEq (.bl !b) (.bl b)=some (.bl false):=λb=>by cases b <;> rfl
 generalize hvM F R w (brg ps R r) 0=m at *;generalize (zjp F R ps w r).map wD=W at *;simp only [List.map_cons,List.map_nil] at fn nV;unfold zbl zew;refine zay (S1:=[sO' T0,sO' n,sO' (.str w),sO' (.str r),sI' s,sO' (hsD r),sO' (ntD r),sO' (tD F R ps),sO' (oO F R ps),x9]) ?_ ?_
 ·simp [tf0,tf1,tf2,hof,l8,-oIx]
 refine zjq ?_ ?_
 ·generalize mFr (zdC 1 [2,7] (zkb (mFr (m1 zaq (zab (mV 7) (zab (mV 3) zam))))) (gN 0) zfC (zdN (zab (mFr (m1 zaT (zab (mV 2) (zab (mV 1) (zab (mV 0) zam))))) (zab (mC (.int 0)) zam))))=mB at B ⊢;simp [List.lookup,fw.1,B,nW]
 refine zjq ?_ ?_
 ·simp [List.lookup,fn.1,fm,z1,z2,wq,nV]
 refine zay (S1:=[sO' T0,sO' n,sO' (.str w),sO' (.str r),sI' s,sO' (hsD r),sO' (ntD r),sO' (tD F R ps),sO' (oO F R ps),sO' (.bl (zfy F R ps s w r))]) ?_ ?_
 ·simp [fh,l9,D.plain]
 ·simp [List.lookup,h1.1,h2.1,e1,e2]
theorem zD3 (v:Valid F R ps) (n:Nat):za2 [tD F R ps,.int n]=some (.sh (.bl true)):=by
 have v2:=zn4 v;have ft:=zvW v;have f1:=v.f1;have r1:=v.r1;have kf:n%F.length < F.length:=Nat.mod_lt _ (by omega);have kr:n / 8%R.length < R.length:=Nat.mod_lt _ (by omega);obtain ⟨w,hw0⟩:∃ w,F[n%F.length]? = some w:=⟨_,List.getElem?_eq_getElem kf⟩
 obtain ⟨r,hr0⟩:∃ r,R[n / 8%R.length]? = some r:=⟨_,List.getElem?_eq_getElem kr⟩
 have hw:w∈F:=List.mem_of_getElem? hw0;have hr:r∈R:=List.mem_of_getElem? hr0;have hT0:0 < 2 ^ (F.length*R.length):=Nat.two_pow_pos _;have hs:n / 64%2 ^ (F.length*R.length) < 2 ^ (F.length*R.length):=Nat.mod_lt _ hT0;have hlR:(R.drop 1++R.take 1).length=R.length:=by simp; omega
 have hs2:n / 64%2 ^ (F.length*R.length) < 2 ^ (F.reverse.length*(R.drop 1++R.take 1).length):=by rw [hlR,List.length_reverse]; exact hs
 have hw2:w∈F.reverse:=by simpa using hw
 have hr2:r∈R.drop 1++R.take 1:=by
  have:=(List.perm_append_comm (l₁:=R.drop 1) (l₂:=R.take 1))
  rw [List.take_append_drop] at this;exact this.mem_iff.mpr hr
 have iw:=zjw hw0;have ir:=zjw hr0;have mo1:∀ k:Nat,0 < k->zeQ (.int n) (.int k)=some (.int (n%k:Nat)):=λk hk=>by
  have p:(0:Int) < (k:Int):=by omega
  simp only [zeQ,fI,if_pos p]; rfl
 have fd8:zd0 (.int n) (.int 8)=some (.int (n / 8:Nat)):=by simp
 have fd64:zd0 (.int n) (.int 64)=some (.int (n / 64:Nat)):=by simp
 have mo2:∀ j k:Nat,0 < k->zeQ (.int (j:Nat)) (.int k)=some (.int (j%k:Nat)):=λj k hk=>by
  have p:(0:Int) < (k:Int):=by omega
  simp only [zeQ,fI,if_pos p]; rfl
 have lF:zga [.lst (F.map D.str)]=some (.sh (.int F.length)):=by simp
 have lR:zga [.lst (R.map D.str)]=some (.sh (.int R.length)):=by simp
 have sc1:=λ(x8 x9:Option SV) (l8:lkO x8=false) (l9:lkO x9=false)=>zBZ v hw hr hs (T0:=tD F R ps) (n:=.int n) l8 l9;have sc2:=λ(x8 x9:Option SV) (l8:lkO x8=false) (l9:lkO x9=false)=>zBZ v2 hw2 hr2 hs2 (T0:=tD F R ps) (n:=.int n) l8 l9;have ma:=zo9 v (S:=[sO' (tD F R ps),sI' n,sO' (.str w),sO' (.str r),none,none,none,none,none,none]) (i:=0) rfl;have ih:=ztE r;have inr:=ztF r;have z3:(3:Nat)<=sizeLine:=by rw [zax]; omega
 refine zfb rfl ?_;show zb9 [sO' (tD F R ps),sI' n,none,none,none,none,none,none,none,none]=_;unfold zb9 zfs;refine zay (S1:=[sO' (tD F R ps),sI' n,sO' (.str w),none,none,none,none,none,none,none]) ?_ ?_
 ·refine zgy (zhw (x:=.str w) ?_) (by simp [D.plain]);refine Eq.trans (zgz (x:=.lst (F.map D.str)) (y:=.int (n%F.length:Nat)) ?_ ?_) iw
  ·simp [tf0,-oIx]
  ·refine Eq.trans (zgz (x:=.int n) (y:=.int F.length) rfl ?_) (mo1 _ f1);simp [tf0,-oIx]
 refine zay (S1:=[sO' (tD F R ps),sI' n,sO' (.str w),sO' (.str r),none,none,none,none,none,none]) ?_ ?_
 ·refine zgy (zhw (x:=.str r) ?_) (by simp [D.plain]);refine Eq.trans (zgz (x:=.lst (R.map D.str)) (y:=.int (n / 8%R.length:Nat)) ?_ ?_) ir
  ·simp [tf1,-oIx]
  ·refine Eq.trans (zgz (x:=.int (n / 8:Nat)) (y:=.int R.length) ?_ ?_) (mo2 _ _ r1)
   ·exact Eq.trans (zgz (x:=.int n) (y:=.int 8) rfl rfl) fd8
   ·simp [tf1,-oIx]
 refine zay (S1:=[sO' (tD F R ps),sI' n,sO' (.str w),sO' (.str r),sI' (n / 64%2 ^ (F.length*R.length):Nat),none,none,none,none,none]) ?_ ?_
 ·refine zgy (zhw (x:=.int (n / 64%2 ^ (F.length*R.length):Nat)) ?_) (by simp [D.plain]);refine Eq.trans (zgz (x:=.int (n / 64:Nat)) ?_ ma) (mo2 _ _ hT0);exact Eq.trans (zgz (x:=.int n) (y:=.int 64) rfl rfl) fd64
 generalize hsd:n / 64%2 ^ (F.length*R.length)=s at *;refine zay (S1:=[sO' (tD F R ps),sI' n,sO' (.str w),sO' (.str r),sI' s,sO' (hsD r),none,none,none,none]) ?_ ?_
 ·simp [ih]
 refine zay (S1:=[sO' (tD F R ps),sI' n,sO' (.str w),sO' (.str r),sI' s,sO' (hsD r),sO' (ntD r),none,none,none]) ?_ ?_
 ·simp [inr]
 have a1:=sc1 none none rfl rfl;have a2:=sc2 (sO' (oO F R ps)) (sO' (.bl (zfy F R ps s w r))) rfl rfl;have a3:=sc1 (sO' (oO F.reverse (R.drop 1++R.take 1) (ps.drop 1))) (sO' (.bl (zfy F.reverse (R.drop 1++R.take 1) (ps.drop 1) s w r))) rfl rfl;refine zay (S1:=[sO' (tD F R ps),sI' n,sO' (.str w),sO' (.str r),sI' s,sO' (hsD r),sO' (ntD r),sO' (tD F R ps),sO' (oO F R ps),sO' (.bl (zfy F R ps s w r))]) ?_ ?_
 ·refine zjA (its:=[tD F R ps,tD F.reverse (R.drop 1++R.take 1) (ps.drop 1),tD F R ps]) ?_ ?_
  ·simp [ft,z3]
  ·generalize tD F R ps=A at *;generalize tD F.reverse (R.drop 1++R.take 1) (ps.drop 1)=A2 at *;generalize oO F R ps=O1 at *;generalize oO F.reverse (R.drop 1++R.take 1) (ps.drop 1)=O2 at *;generalize zfy F R ps s w r=b1 at *;generalize zfy F.reverse (R.drop 1++R.take 1) (ps.drop 1) s w r=b2 at *;have g1:gN 7 A [sO' A,sI' n,sO' (.str w),sO' (.str r),sI' s,sO' (hsD r),sO' (ntD r),none,none,none]=some [sO' A,sI' n,sO' (.str w),sO' (.str r),sI' s,sO' (hsD r),sO' (ntD r),sO' A,none,none]:=by simp
   have g2:gN 7 A2 [sO' A,sI' n,sO' (.str w),sO' (.str r),sI' s,sO' (hsD r),sO' (ntD r),sO' A,sO' O1,sO' (.bl b1)]=some [sO' A,sI' n,sO' (.str w),sO' (.str r),sI' s,sO' (hsD r),sO' (ntD r),sO' A2,sO' O1,sO' (.bl b1)]:=by simp
   have g3:gN 7 A [sO' A,sI' n,sO' (.str w),sO' (.str r),sI' s,sO' (hsD r),sO' (ntD r),sO' A2,sO' O2,sO' (.bl b2)]=some [sO' A,sI' n,sO' (.str w),sO' (.str r),sI' s,sO' (hsD r),sO' (ntD r),sO' A,sO' O2,sO' (.bl b2)]:=by simp
   simp only [za9];rw [g1]; simp only [a1];rw [g2]; simp only [a2];rw [g3]; simp only [a3]
 ·rfl
end
section
variable {F R:List Str} {ps:List Pr}
theorem ztT (ns:List Int) (k:Nat):∃ v,zaH [.fz (ns.map D.int),.int k]=some (.sh (.int v)):=by
 by_cases h:(k:Int) < ns.length
 ·have hk:k < ns.length:=by omega
  refine ⟨ns[k],?_⟩;have:atI (ns.map D.int) (k:Int)=some (.int ns[k]):=atN (by rw [List.getElem?_map,List.getElem?_eq_getElem hk]; rfl);simp [zaH,zcA,zcg,hk,this]
 ·have hk:¬ k < ns.length:=by omega
  exact ⟨0,by simp [zaH,zcA,zcg,hk]⟩
theorem ztU (v:Valid F R ps) {w:Str} (hw:w∈F) (ss:List Nat) (hs:∀ s∈ss,s < 2 ^ (F.length*R.length)) (x0 x6 x7:Option SV):∀ (rs:List Str) (x5:Option D),(∀ r∈rs,r∈R)->∃ y5,
  za9 (gN 5) zhy (rs.map D.str) [x0,sO' (tD F R ps),sO' (oO F R ps),some (.li (ss.map nD)),sO' (.str w),oD' x5,x6,x7]=.nx [x0,sO' (tD F R ps),sO' (oO F R ps),some (.li (ss.map nD)),sO' (.str w),oD' y5,x6,x7]
 | [],x5,_=>⟨x5,rfl⟩
 | r :: rs,x5,h=>by
  obtain ⟨y5,ih⟩:=ztU v hw ss hs x0 x6 x7 rs (some (.str r)) λz hz=>h z (by simp [hz]);refine ⟨y5,?_⟩;have st:=zza v hw (h r (by simp)) ss hs;have hb:zhy [x0,sO' (tD F R ps),sO' (oO F R ps),some (.li (ss.map nD)),sO' (.str w),sO' (.str r),x6,x7]=.nx [x0,sO' (tD F R ps),sO' (oO F R ps),some (.li (ss.map nD)),sO' (.str w),sO' (.str r),x6,x7]:=by
   simp [zhy,zs0,st]
  rw [List.map_cons,za9];have hg:gN 5 (.str r) [x0,sO' (tD F R ps),sO' (oO F R ps),some (.li (ss.map nD)),sO' (.str w),oD' x5,x6,x7]=some [x0,sO' (tD F R ps),sO' (oO F R ps),some (.li (ss.map nD)),sO' (.str w),sO' (.str r),x6,x7]:=by cases x5 <;> simp
  rw [hg];simp only [hb];exact ih
theorem zp3 (v:Valid F R ps) (ss:List Nat) (hs:∀ s∈ss,s < 2 ^ (F.length*R.length)) (x0 x6 x7:Option SV):∀ (ws:List Str) (x4 x5:Option D),(∀ w∈ws,w∈F)->∃ y4 y5,
  za9 (gN 4) zhz (ws.map D.str) [x0,sO' (tD F R ps),sO' (oO F R ps),some (.li (ss.map nD)),oD' x4,oD' x5,x6,x7]=.nx [x0,sO' (tD F R ps),sO' (oO F R ps),some (.li (ss.map nD)),oD' y4,oD' y5,x6,x7]
 | [],x4,x5,_=>⟨x4,x5,rfl⟩
 | w :: ws,x4,x5,h=>by
  obtain ⟨z5,lo⟩:=ztU v (h w (by simp)) ss hs x0 x6 x7 R x5 λr hr=>hr;obtain ⟨y4,y5,ih⟩:=zp3 v ss hs x0 x6 x7 ws (some (.str w)) z5 λz hz=>h z (by simp [hz]);refine ⟨y4,y5,?_⟩;have hb:zhz [x0,sO' (tD F R ps),sO' (oO F R ps),some (.li (ss.map nD)),sO' (.str w),oD' x5,x6,x7]=.nx [x0,sO' (tD F R ps),sO' (oO F R ps),some (.li (ss.map nD)),sO' (.str w),oD' z5,x6,x7]:=by
   unfold zhz zs1;refine zjA (its:=R.map D.str) ?_ lo;simp [tf1,zfa,-oIx]
  rw [List.map_cons,za9];have hg:gN 4 (.str w) [x0,sO' (tD F R ps),sO' (oO F R ps),some (.li (ss.map nD)),oD' x4,oD' x5,x6,x7]=some [x0,sO' (tD F R ps),sO' (oO F R ps),some (.li (ss.map nD)),sO' (.str w),oD' x5,x6,x7]:=by cases x4 <;> simp
  rw [hg];simp only [hb];exact ih
end
theorem kinds (b:Bool) (r:Str) (x0 x1 x2 x3 x4 x5 x7:Option SV):zhA [x0,x1,x2,x3,x4,x5,sO' (cnT b r),x7]=.nx [x0,x1,x2,x3,x4,x5,sO' (cnT b r),x7]:=by
 cases b
 ·have k1:zgb tab [ntD r,.cls 3]=some (.sh (.bl true)):=rfl;have k2:zgb tab [ntD r,.cls 0]=some (.sh (.bl false)):=rfl;have k3:zgb tab [ntD r,.cls 1]=some (.sh (.bl true)):=rfl;have e:oEq (.bl false) (.bl true)=some (.bl false):=rfl;simp [zhA,cnT,k1,k2,k3,e]
 ·have k1:zgb tab [hsD r,.cls 3]=some (.sh (.bl true)):=rfl;have k2:zgb tab [hsD r,.cls 0]=some (.sh (.bl true)):=rfl;have k3:zgb tab [hsD r,.cls 1]=some (.sh (.bl false)):=rfl;have e:oEq (.bl true) (.bl false)=some (.bl false):=rfl;simp [zhA,cnT,k1,k2,k3,e]
theorem zvX (ns:List Int) (hl:ns.length<=63):zoL [.fz (ns.map D.int)]=some (.sh (.bl true)):=by
 obtain ⟨c,hc⟩:=ztT ns 0;obtain ⟨c1,hc1⟩:=ztT ns 1;obtain ⟨c2,hc2⟩:=ztT ns 2;obtain ⟨F,R,ps,v,ho⟩:=ztD c;have hof:=zpL v;obtain ⟨ss,hss,hst⟩:=zvV v c1;obtain ⟨ws,hw,hs⟩:=zmS c2 1 (by omega);obtain ⟨n,rfl⟩:∃ n,ws=[n]:=by
  match ws,hw with
  | [n],_=>exact ⟨n,rfl⟩
 have fo:=zD2 v n;have ft:=zD3 v n;have hc0':zaH [.fz (ns.map D.int),.int 0]=some (.sh (.int c)):=hc;have hc1':zaH [.fz (ns.map D.int),.int 1]=some (.sh (.int c1)):=hc1;have hc2':zaH [.fz (ns.map D.int),.int 2]=some (.sh (.int c2)):=hc2;have hs':zaz [.int c2,.int 1]=some (.li [nD n]):=hs;have i0:oIx (.lst [nD n]) (.int 0)=some (.int n):=rfl;have pt:(tD F R ps).plain=false:=rfl;have pS:=zsY ss
 obtain ⟨r0,hr0⟩:∃ r0,R[0]? = some r0:=⟨R[0]'(by have:=v.r1; omega),by have:=v.r1; simp⟩
 have tr00:oIx (.lst (R.map D.str)) (.int 0)=some (.str r0):=zjw hr0;have z2:(2:Nat)<=sizeLine:=by rw [zax]; omega
 obtain ⟨y4,y5,lo⟩:=zp3 v ss hss (sO' (.fz (ns.map D.int))) none none F none none λw hw=>hw;simp only [oD',Option.map_none] at lo;have ih:=ztE r0;have inr:=ztF r0;refine zfb rfl ?_;show zvA [sO' (.fz (ns.map D.int)),none,none,none,none,none,none,none]=_;unfold zvA zBG;refine zay (S1:=[sO' (.fz (ns.map D.int)),sO' (tD F R ps),none,none,none,none,none,none]) ?_ ?_
 ·simp [hc0',ho,pt]
 refine zay (S1:=[sO' (.fz (ns.map D.int)),sO' (tD F R ps),sO' (oO F R ps),none,none,none,none,none]) ?_ ?_
 ·simp [tf0,tf1,tf2,hof,-oIx]
 refine zay (S1:=[sO' (.fz (ns.map D.int)),sO' (tD F R ps),sO' (oO F R ps),some (.li (ss.map nD)),none,none,none,none]) ?_ ?_
 ·simp [hc1',hst,pS]
 refine zay (S1:=[sO' (.fz (ns.map D.int)),sO' (tD F R ps),sO' (oO F R ps),some (.li (ss.map nD)),oD' y4,oD' y5,none,none]) ?_ ?_
 ·refine zjA (its:=F.map D.str) ?_ lo;simp [tf0,zfa,-oIx]
 refine zay (S1:=[sO' (.fz (ns.map D.int)),sO' (tD F R ps),sO' (oO F R ps),some (.li (ss.map nD)),oD' y4,oD' y5,sO' (cnT false r0),none]) ?_ ?_
 ·refine zjA (its:=[cnT true r0,cnT false r0]) ?_ ?_
  ·simp [tf1,tr00,ih,inr,z2,cnT,-oIx]
  ·simp only [za9];have g1:gN 6 (cnT true r0) [sO' (.fz (ns.map D.int)),sO' (tD F R ps),sO' (oO F R ps),some (.li (ss.map nD)),oD' y4,oD' y5,none,none]=some [sO' (.fz (ns.map D.int)),sO' (tD F R ps),sO' (oO F R ps),some (.li (ss.map nD)),oD' y4,oD' y5,sO' (cnT true r0),none]:=by simp
   have g2:gN 6 (cnT false r0) [sO' (.fz (ns.map D.int)),sO' (tD F R ps),sO' (oO F R ps),some (.li (ss.map nD)),oD' y4,oD' y5,sO' (cnT true r0),none]=some [sO' (.fz (ns.map D.int)),sO' (tD F R ps),sO' (oO F R ps),some (.li (ss.map nD)),oD' y4,oD' y5,sO' (cnT false r0),none]:=by simp
   rw [g1]; simp only [kinds];rw [g2]; simp only [kinds]
 refine zay (S1:=[sO' (.fz (ns.map D.int)),sO' (tD F R ps),sO' (oO F R ps),some (.li (ss.map nD)),oD' y4,oD' y5,sO' (cnT false r0),sI' n]) ?_ ?_
 ·simp [hc2',hs',i0,D.plain,-oIx]
 ·simp [fo,ft]
end My
namespace PySem.W.Fast
def tw11656878742313468981:=()
def tw14801039561303662143:=()
def tw1455759239895776674:=()
def tw11649353445311079459:=()
def tw15884665654838177193:=()
def tw10636157768349498392:=()
def tw6065802348832068895:=()
def tw12221203299181925822:=()
def tw17776914691266212141:=()
def tw268001844409865029:=()
def tw14114768396450587241:=()
def tw8754419915265021426:=()
def tw14371686280688376764:=()
def tw4666956166115355460:=()
def tw12894375752834012602:=()
def tw12102393342692521443:=()
def tw13904287096390228014:=()
def tw718386527991593163:=()
def tw7212656946483454185:=()
def tw14814450328399402288:=()
def tw10462255461496341366:=()
def tw14750054045905725657:=()
def tw11356911648059715865:=()
def tw5220143394296985950:=()
def tw9056289318540767471:=()
def tw10326123841692394786:=()
def tw4165859411109308997:=()
def tw9192116243625221791:=()
def tw16835016402268591132:=()
def tw5501367199919071399:=()
def tw16407327591342233702:=()
def tw5848736263905404968:=()
def tw9515420302398362680:Unit:=()
def tw9077865700072941501:Unit:=()
def tw4256211758192502918:Unit:=()
def tw1791783966320758088:Unit:=()
def tw927522880660881143:Unit:=()
def tw15881735875521745295:Unit:=()
def tw8199225218707914520:Unit:=()
def tw6808524013191423040:Unit:=()
def tw501201569685235349:Unit:=()
def tw13393524668252079460:Unit:=()
def tw11919830562405558704:Unit:=()
def tw12623203473409034325:Unit:=()
def tw14038760010664613402:Unit:=()
def tw3294523817237913732:Unit:=()
def tw11439429513966205457:Unit:=()
def tw16600051320897792739:Unit:=()
def tw8774070219755151417:Unit:=()
def tw10784108004498333071:Unit:=()
def tw18129338510863060202:Unit:=()
def tw4634745222604752722:Unit:=()
def tw6113794588876799895:Unit:=()
def tw1050506436334318030:Unit:=()
def tw10983170839318528132:Unit:=()
def tw815994523438719831:Unit:=()
def tw13715825293524969773:Unit:=()
def tw243159405085748636:Unit:=()
def tw16052005598788460786:Unit:=()
def tw103510666508593996:Unit:=()
def tw4939545299137838094:Unit:=()
def tw17141616253113418987:Unit:=()
def tw17150166562516239441:Unit:=()
def tw2375089329331625848:Unit:=()
def tw17684671793477927736:Unit:=()
def tw9211503626210328537:Unit:=()
def tw618048782981443917:Unit:=()
def tw11022350953138447476:Unit:=()
def tw3400597271305456196:Unit:=()
def tw12145335519669871012:Unit:=()
def tw3972109270695816827:Unit:=()
def tw11796281843787446126:Unit:=()
end PySem.W.Fast
namespace My
open PySem L2
def Fx (K:W.Frag) (x q:Str) (s:Stmt) (f:Addr):Prop:=∃ fd,Fun K x q s f fd
theorem fx_mk {K:W.Frag} {x q:Str} {st:Stmt} {f:Addr} {oc:Value} {od an:Option Addr} {osl:Array (Option Value)} {kV doc pm cdv ct:Value} (l:K.lookup f=some ⟨oc,od,.func (W.fnOf x q (zdA st) (zb5 st) (zae st) .none kV doc pm an cdv ct),osl⟩:=by k_is) (c:W.codeIn K cdv q=true:=by k_is) (k:W.keepIn K (.ref f)=true:=by k_is):Fx K x q st f:=⟨_,zv6 l c k⟩
section
variable {P:Program} {w:World} {K:W.Frag} {mg:Str->Option Value} {base:Heap} {A:Adr}
theorem zzh (T:Txt K mg A):FnOk P w K mg base CX0 10 A.zoL A.zyV ["_law_script"] (znm K):=(zBI T).imp (zsB (B:=bk K A) rfl zvX)
end
theorem all_mk {l:W.OpenLaw} {w:World} {K:W.Frag} {h:Heap} {mg:Str->Option Value} {fa:Addr} (X:K.In h) (G:h.Ns mainGlobals mg) (hfa:mg "law"=some (.ref fa))
  {C_Has:Addr}
  {C_Not:Addr}
  {C_Office:Addr}
  {C_Condition:Addr}
  {C_NoFolk:Addr}
  {C_NoRole:Addr}
  {C_NoState:Addr}
  {f0:Addr}
  {f1:Addr}
  {f2:Addr}
  {f3:Addr}
  {f4:Addr}
  {f5:Addr}
  {f6:Addr}
  {f7:Addr}
  {f8:Addr}
  {f9:Addr}
  {f10:Addr}
  {f11:Addr}
  {f12:Addr}
  {f13:Addr}
  {f14:Addr}
  {f15:Addr}
  {f16:Addr}
  {f17:Addr}
  {f18:Addr}
  {f19:Addr}
  {f20:Addr}
  {f21:Addr}
  {f22:Addr}
  {f23:Addr}
  {f24:Addr}
  {f25:Addr}
  {f26:Addr}
  {f27:Addr}
  {f28:Addr}
  {f29:Addr}
  {f30:Addr}
  {f31:Addr}
  {f32:Addr}
  {f33:Addr}
  {f34:Addr}
  {f35:Addr}
  {f36:Addr}
  {f37:Addr}
  {f38:Addr}
  {f39:Addr}
  {f40:Addr}
  {f41:Addr}
  {f42:Addr}
  {f43:Addr}
  {f44:Addr}
  {f45:Addr}
  {f46:Addr}
  {f47:Addr}
  {tk0:Tok}
  {tk1:Tok}
  {tk2:Tok}
  {tk3:Tok}
  {tk4:Tok}
  {tk5:Tok}
  (zB0:W.nsIn K mainGlobals "Has"=some (some (.ref C_Has)))
  (zB1:W.nsIn K mainGlobals "Not"=some (some (.ref C_Not)))
  (ztV:W.nsIn K mainGlobals "Office"=some (some (.ref C_Office)))
  (zn5:W.nsIn K mainGlobals "Condition"=some (some (.ref C_Condition)))
  (ztW:W.nsIn K mainGlobals "NoFolk"=some (some (.ref C_NoFolk)))
  (ztX:W.nsIn K mainGlobals "NoRole"=some (some (.ref C_NoRole)))
  (zq2:W.nsIn K mainGlobals "NoState"=some (some (.ref C_NoState)))
  (zwR:W.plainGet K C_Has Str.empty=true)
  (zwS:W.hasDictIn K C_Has=true)
  (zwT:W.plainOver K C_Has=true)
  (zwU:W.findIn K (.ref C_Has) "__setattr__"=some (some (.builtin "object.__setattr__")))
  (zB2:W.makesIn K C_Has=true)
  (zB3:W.keepIn K (.ref C_Has)=true)
  (zwV:W.plainGet K C_Not Str.empty=true)
  (zwW:W.hasDictIn K C_Not=true)
  (zwX:W.plainOver K C_Not=true)
  (zwY:W.findIn K (.ref C_Not) "__setattr__"=some (some (.builtin "object.__setattr__")))
  (zB4:W.makesIn K C_Not=true)
  (zB5:W.keepIn K (.ref C_Not)=true)
  (ztY:W.plainGet K C_Office Str.empty=true)
  (ztZ:W.hasDictIn K C_Office=true)
  (zt0:W.plainOver K C_Office=true)
  (zt1:W.findIn K (.ref C_Office) "__setattr__"=some (some (.builtin "object.__setattr__")))
  (zt2:W.makesIn K C_Office=true)
  (zt3:W.keepIn K (.ref C_Office)=true)
  (zhO:W.findIn K (.ref C_Has) "role"=some none)
  (zhP:W.findIn K (.ref C_Not) "role"=some none)
  (zff:W.findIn K (.ref C_Office) "folk"=some none)
  (zeN:W.findIn K (.ref C_Office) "roles"=some none)
  (zeO:W.findIn K (.ref C_Office) "pairs"=some none)
  (zcV:W.findIn K (.ref C_Office) "right_bits"=some none)
  (zds:W.findIn K (.ref C_Office) "bringers"=some none)
  (zk3:W.findIn K (.ref C_NoFolk) "__init__"=some (some (.ref f0)))
  (i0:W.isFn K (.ref f0)=true)
  (F0:Fx K "__init__" "NoFolk.__init__" zez f0)
  (zk7:W.findIn K (.ref C_NoRole) "__init__"=some (some (.ref f1)))
  (i1:W.isFn K (.ref f1)=true)
  (F1:Fx K "__init__" "NoRole.__init__" zeA f1)
  (zi9:W.findIn K (.ref C_NoState) "__init__"=some (some (.ref f2)))
  (i2:W.isFn K (.ref f2)=true)
  (F2:Fx K "__init__" "NoState.__init__" zd2 f2)
  (a3:W.nsIn K mainGlobals "_law_stream"=some (some (.ref f3)))
  (F3:Fx K "_law_stream" "_law_stream" zgI f3)
  (a4:W.nsIn K mainGlobals "_law_names"=some (some (.ref f4)))
  (F4:Fx K "_law_names" "_law_names" zdG f4)
  (a5:W.nsIn K mainGlobals "_law_office"=some (some (.ref f5)))
  (F5:Fx K "_law_office" "_law_office" zgJ f5)
  (a6:W.nsIn K mainGlobals "is_name"=some (some (.ref f6)))
  (F6:Fx K "is_name" "is_name" zil f6)
  (a7:W.nsIn K mainGlobals "checked_names"=some (some (.ref f7)))
  (F7:Fx K "checked_names" "checked_names" zeB f7)
  (a8:W.nsIn K mainGlobals "is_among"=some (some (.ref f8)))
  (F8:Fx K "is_among" "is_among" ziP f8)
  (a9:W.nsIn K mainGlobals "bringing_by"=some (some (.ref f9)))
  (F9:Fx K "bringing_by" "bringing_by" zfI f9)
  (a10:W.nsIn K mainGlobals "checked_pairs"=some (some (.ref f10)))
  (F10:Fx K "checked_pairs" "checked_pairs" zeC f10)
  (a11:W.nsIn K mainGlobals "bits_of_rights"=some (some (.ref f11)))
  (F11:Fx K "bits_of_rights" "bits_of_rights" zd4 f11)
  (a12:W.nsIn K mainGlobals "bringers_of_roles"=some (some (.ref f12)))
  (F12:Fx K "bringers_of_roles" "bringers_of_roles" zcl f12)
  (zq3:W.findIn K (.ref C_Office) "__init__"=some (some (.ref f13)))
  (i13:W.isFn K (.ref f13)=true)
  (F13:Fx K "__init__" "Office.__init__" zeD f13)
  (a14:W.nsIn K mainGlobals "_law_states"=some (some (.ref f14)))
  (F14:Fx K "_law_states" "_law_states" ze1 f14)
  (a15:W.nsIn K mainGlobals "_law_cell_at"=some (some (.ref f15)))
  (F15:Fx K "_law_cell_at" "_law_cell_at" zfJ f15)
  (zzi:W.findIn K (.ref C_Has) "__init__"=some (some (.ref f16)))
  (zzj:W.findIn K (.ref C_Not) "__init__"=some (some (.ref f16)))
  (i16:W.isFn K (.ref f16)=true)
  (F16:Fx K "__init__" "Condition.__init__" zdk f16)
  (a17:W.nsIn K mainGlobals "_law_same"=some (some (.ref f17)))
  (F17:Fx K "_law_same" "_law_same" ziQ f17)
  (a18:W.nsIn K mainGlobals "is_whole"=some (some (.ref f18)))
  (F18:Fx K "is_whole" "is_whole" ziR f18)
  (zq4:W.findIn K (.ref C_Office) "bits"=some (some (.ref f19)))
  (i19:W.isFn K (.ref f19)=true)
  (F19:Fx K "bits" "Office.bits" zfK f19)
  (zq5:W.findIn K (.ref C_Office) "is_state"=some (some (.ref f20)))
  (i20:W.isFn K (.ref f20)=true)
  (F20:Fx K "is_state" "Office.is_state" zdH f20)
  (zq6:W.findIn K (.ref C_Office) "must_be_state"=some (some (.ref f21)))
  (i21:W.isFn K (.ref f21)=true)
  (F21:Fx K "must_be_state" "Office.must_be_state" zcv f21)
  (zq7:W.findIn K (.ref C_Office) "must_be_folk"=some (some (.ref f22)))
  (i22:W.isFn K (.ref f22)=true)
  (F22:Fx K "must_be_folk" "Office.must_be_folk" zcL f22)
  (zq8:W.findIn K (.ref C_Office) "must_be_role"=some (some (.ref f23)))
  (i23:W.isFn K (.ref f23)=true)
  (F23:Fx K "must_be_role" "Office.must_be_role" zcM f23)
  (zq9:W.findIn K (.ref C_Office) "bringing"=some (some (.ref f24)))
  (i24:W.isFn K (.ref f24)=true)
  (F24:Fx K "bringing" "Office.bringing" zdI f24)
  (zra:W.findIn K (.ref C_Office) "having"=some (some (.ref f25)))
  (i25:W.isFn K (.ref f25)=true)
  (F25:Fx K "having" "Office.having" zeE f25)
  (zrb:W.findIn K (.ref C_Office) "has"=some (some (.ref f26)))
  (i26:W.isFn K (.ref f26)=true)
  (F26:Fx K "has" "Office.has" zgK f26)
  (zzk:W.findIn K (.ref C_Has) "holds"=some (some (.ref f27)))
  (i27:W.isFn K (.ref f27)=true)
  (F27:Fx K "holds" "Has.holds" zhC f27)
  (zzl:W.findIn K (.ref C_Not) "holds"=some (some (.ref f28)))
  (i28:W.isFn K (.ref f28)=true)
  (F28:Fx K "holds" "Not.holds" zhD f28)
  (zrc:W.findIn K (.ref C_Office) "bit"=some (some (.ref f29)))
  (i29:W.isFn K (.ref f29)=true)
  (F29:Fx K "bit" "Office.bit" zgL f29)
  (zzm:W.findIn K (.ref C_Has) "ways"=some (some (.ref f30)))
  (i30:W.isFn K (.ref f30)=true)
  (F30:Fx K "ways" "Has.ways" zhh f30)
  (zzn:W.findIn K (.ref C_Not) "ways"=some (some (.ref f31)))
  (i31:W.isFn K (.ref f31)=true)
  (F31:Fx K "ways" "Not.ways" ziS f31)
  (a32:W.nsIn K mainGlobals "_law_refused"=some (some (.ref f32)))
  (F32:Fx K "_law_refused" "_law_refused" zfM f32)
  (a33:W.nsIn K mainGlobals "_law_odd_things"=some (some (.ref f33)))
  (F33:Fx K "_law_odd_things" "_law_odd_things" zc8 f33)
  (a34:W.nsIn K mainGlobals "_law_turned"=some (some (.ref f34)))
  (F34:Fx K "_law_turned" "_law_turned" zgM f34)
  (a35:W.nsIn K mainGlobals "_law_bringing"=some (some (.ref f35)))
  (F35:Fx K "_law_bringing" "_law_bringing" zc1 f35)
  (a36:W.nsIn K mainGlobals "_law_bit"=some (some (.ref f36)))
  (F36:Fx K "_law_bit" "_law_bit" zkP f36)
  (a37:W.nsIn K mainGlobals "_law_holds"=some (some (.ref f37)))
  (F37:Fx K "_law_holds" "_law_holds" zhE f37)
  (a38:W.nsIn K mainGlobals "_law_has"=some (some (.ref f38)))
  (F38:Fx K "_law_has" "_law_has" ziq f38)
  (a39:W.nsIn K mainGlobals "_law_mask"=some (some (.ref f39)))
  (F39:Fx K "_law_mask" "_law_mask" ziT f39)
  (a40:W.nsIn K mainGlobals "_law_two_offices"=some (some (.ref f40)))
  (F40:Fx K "_law_two_offices" "_law_two_offices" zcS f40)
  (a41:W.nsIn K mainGlobals "_law_truth"=some (some (.ref f41)))
  (F41:Fx K "_law_truth" "_law_truth" zhF f41)
  (zzo:W.findIn K (.ref C_Has) "row"=some (some (.ref f42)))
  (i42:W.isFn K (.ref f42)=true)
  (F42:Fx K "row" "Has.row" zkQ f42)
  (zzp:W.findIn K (.ref C_Not) "row"=some (some (.ref f43)))
  (i43:W.isFn K (.ref f43)=true)
  (F43:Fx K "row" "Not.row" zkR f43)
  (a44:W.nsIn K mainGlobals "_law_ways"=some (some (.ref f44)))
  (F44:Fx K "_law_ways" "_law_ways" ziU f44)
  (a45:W.nsIn K mainGlobals "_law_of"=some (some (.ref f45)))
  (F45:Fx K "_law_of" "_law_of" zmK f45)
  (a46:W.nsIn K mainGlobals "_law_right"=some (some (.ref f46)))
  (F46:Fx K "_law_right" "_law_right" zeF f46)
  (a47:W.nsIn K mainGlobals "law"=some (some (.ref f47)))
  (F47:Fx K "law" "law" zvB f47)
  (hn:W.specialIn K (.builtin "object.__class__") "__get__"=some (some (.builtin "getset_descriptor.__get__")))
  (htk:W.takesIn K (.builtin "object.__class__")=some true)
  (zB6:W.findIn K (.ref C_Has) "__class__"=some (some (.builtin "object.__class__")))
  (zB7:W.mroIn K C_Has (.type "object")=some true)
  (zi3:W.kitOne K (.ref C_Has) (.ref C_Has)=some true)
  (zi4:W.kitOne K (.ref C_Has) (.ref C_Not)=some false)
  (zfX:W.kitOne K (.ref C_Has) (.ref C_Office)=some false)
  (zd9:W.kitOne K (.ref C_Has) (.ref C_Condition)=some true)
  (zfY:W.kitOne K (.ref C_Has) (.ref C_NoFolk)=some false)
  (zfZ:W.kitOne K (.ref C_Has) (.ref C_NoRole)=some false)
  (zfg:W.kitOne K (.ref C_Has) (.ref C_NoState)=some false)
  (zB8:W.findIn K (.ref C_Not) "__class__"=some (some (.builtin "object.__class__")))
  (zB9:W.mroIn K C_Not (.type "object")=some true)
  (zi5:W.kitOne K (.ref C_Not) (.ref C_Has)=some false)
  (zi6:W.kitOne K (.ref C_Not) (.ref C_Not)=some true)
  (zf0:W.kitOne K (.ref C_Not) (.ref C_Office)=some false)
  (zea:W.kitOne K (.ref C_Not) (.ref C_Condition)=some true)
  (zf1:W.kitOne K (.ref C_Not) (.ref C_NoFolk)=some false)
  (zf2:W.kitOne K (.ref C_Not) (.ref C_NoRole)=some false)
  (zfh:W.kitOne K (.ref C_Not) (.ref C_NoState)=some false)
  (zt4:zmz K C_NoFolk=true)
  (zt5:ziK K C_NoFolk=true)
  (zt6:W.findIn K (.ref C_NoFolk) "__setattr__"=some (some (.builtin "object.__setattr__")))
  (zn6:W.hasDictIn K C_NoFolk=true)
  (zk4:W.keepIn K (.ref C_NoFolk)=true)
  (zt7:W.findIn K (.ref C_NoFolk) "__getattribute__"=some (some (.builtin "BaseException.__getattribute__")))
  (zt8:W.findIn K (.ref C_NoFolk) "__getattr__"=some none)
  (zt9:W.mroIn K C_NoFolk (.type "BaseException")=some true)
  (zk5:W.takerIn K C_NoFolk "name"=some none)
  (zk6:W.findIn K (.ref C_NoFolk) "name"=some none)
  (zjs:W.exmOne K (.ref C_NoFolk) (.ref C_NoState)=some false)
  (zj5:W.exmOne K (.ref C_NoFolk) (.ref C_NoFolk)=some true)
  (zj6:W.exmOne K (.ref C_NoFolk) (.ref C_NoRole)=some false)
  (zua:zmz K C_NoRole=true)
  (zub:ziK K C_NoRole=true)
  (zuc:W.findIn K (.ref C_NoRole) "__setattr__"=some (some (.builtin "object.__setattr__")))
  (zn7:W.hasDictIn K C_NoRole=true)
  (zk8:W.keepIn K (.ref C_NoRole)=true)
  (zud:W.findIn K (.ref C_NoRole) "__getattribute__"=some (some (.builtin "BaseException.__getattribute__")))
  (zue:W.findIn K (.ref C_NoRole) "__getattr__"=some none)
  (zuf:W.mroIn K C_NoRole (.type "BaseException")=some true)
  (zk9:W.takerIn K C_NoRole "name"=some none)
  (zla:W.findIn K (.ref C_NoRole) "name"=some none)
  (zjt:W.exmOne K (.ref C_NoRole) (.ref C_NoState)=some false)
  (zj7:W.exmOne K (.ref C_NoRole) (.ref C_NoFolk)=some false)
  (zj8:W.exmOne K (.ref C_NoRole) (.ref C_NoRole)=some true)
  (zrd:zmz K C_NoState=true)
  (zre:ziK K C_NoState=true)
  (zrf:W.findIn K (.ref C_NoState) "__setattr__"=some (some (.builtin "object.__setattr__")))
  (zmf:W.hasDictIn K C_NoState=true)
  (zja:W.keepIn K (.ref C_NoState)=true)
  (zrg:W.findIn K (.ref C_NoState) "__getattribute__"=some (some (.builtin "BaseException.__getattribute__")))
  (zrh:W.findIn K (.ref C_NoState) "__getattr__"=some none)
  (zri:W.mroIn K C_NoState (.type "BaseException")=some true)
  (zjb:W.takerIn K C_NoState "found"=some none)
  (zjc:W.findIn K (.ref C_NoState) "found"=some none)
  (ziD:W.exmOne K (.ref C_NoState) (.ref C_NoState)=some true)
  (zju:W.exmOne K (.ref C_NoState) (.ref C_NoFolk)=some false)
  (zjv:W.exmOne K (.ref C_NoState) (.ref C_NoRole)=some false)
  (zyW:W.nsIn K mainGlobals "all"=some none)
  (zjI:W.nsIn K mainGlobals "bool"=some none)
  (zvC:W.nsIn K mainGlobals "int"=some none)
  (zaP:W.nsIn K mainGlobals "isinstance"=some none)
  (zeb:W.nsIn K mainGlobals "len"=some none)
  (zl2:W.nsIn K mainGlobals "list"=some none)
  (zec:W.nsIn K mainGlobals "range"=some none)
  (zjf:W.nsIn K mainGlobals "reversed"=some none)
  (zkf:W.nsIn K mainGlobals "sorted"=some none)
  (zvD:W.nsIn K mainGlobals "str"=some none)
  (zjg:W.nsIn K mainGlobals "tuple"=some none)
  (zug:W.nsIn K mainGlobals "LETTERS"=some (some (.str "abcdefghijklmnopqrstuvwxyz" tk0)))
  (zlC:W.nsIn K mainGlobals "LONGEST_NAME"=some (some (.int 6 tk1)))
  (zpa:W.nsIn K mainGlobals "MOST_BITS"=some (some (.int 12 tk2)))
  (zpb:W.nsIn K mainGlobals "MOST_FOLK"=some (some (.int 4 tk3)))
  (zn8:W.nsIn K mainGlobals "MOST_PAIRS"=some (some (.int 15 tk4)))
  (zn9:W.nsIn K mainGlobals "MOST_ROLES"=some (some (.int 6 tk5))) :
  ∃ fd:FuncData,(∀ (s:Shared) (v:Value),BindsTo s fd ⟨[v],[]⟩ [("_law_script",v)])/\∀ base:Heap,K.In base->base.Ns mainGlobals mg->FnOk l.prog w K mg base CX0 10 fa fd ["_law_script"] (znm K):=by
 have e:=hfa.symm.trans (W.mg_of X G a47);have e2:f47=fa:=by
  injection e with e
  injection e with e
  exact e.symm
 subst e2;obtain ⟨d0,F0⟩:=F0;obtain ⟨d1,F1⟩:=F1;obtain ⟨d2,F2⟩:=F2;obtain ⟨d3,F3⟩:=F3;obtain ⟨d4,F4⟩:=F4;obtain ⟨d5,F5⟩:=F5;obtain ⟨d6,F6⟩:=F6;obtain ⟨d7,F7⟩:=F7;obtain ⟨d8,F8⟩:=F8;obtain ⟨d9,F9⟩:=F9;obtain ⟨d10,F10⟩:=F10;obtain ⟨d11,F11⟩:=F11;obtain ⟨d12,F12⟩:=F12;obtain ⟨d13,F13⟩:=F13;obtain ⟨d14,F14⟩:=F14;obtain ⟨d15,F15⟩:=F15;obtain ⟨d16,F16⟩:=F16;obtain ⟨d17,F17⟩:=F17;obtain ⟨d18,F18⟩:=F18
 obtain ⟨d19,F19⟩:=F19;obtain ⟨d20,F20⟩:=F20;obtain ⟨d21,F21⟩:=F21;obtain ⟨d22,F22⟩:=F22;obtain ⟨d23,F23⟩:=F23;obtain ⟨d24,F24⟩:=F24;obtain ⟨d25,F25⟩:=F25;obtain ⟨d26,F26⟩:=F26;obtain ⟨d27,F27⟩:=F27;obtain ⟨d28,F28⟩:=F28;obtain ⟨d29,F29⟩:=F29;obtain ⟨d30,F30⟩:=F30;obtain ⟨d31,F31⟩:=F31;obtain ⟨d32,F32⟩:=F32;obtain ⟨d33,F33⟩:=F33;obtain ⟨d34,F34⟩:=F34;obtain ⟨d35,F35⟩:=F35;obtain ⟨d36,F36⟩:=F36
 obtain ⟨d37,F37⟩:=F37;obtain ⟨d38,F38⟩:=F38;obtain ⟨d39,F39⟩:=F39;obtain ⟨d40,F40⟩:=F40;obtain ⟨d41,F41⟩:=F41;obtain ⟨d42,F42⟩:=F42;obtain ⟨d43,F43⟩:=F43;obtain ⟨d44,F44⟩:=F44;obtain ⟨d45,F45⟩:=F45;obtain ⟨d46,F46⟩:=F46;obtain ⟨d47,⟨⟨oc,od,kV,doc,pm,an,cdv,ct,osl,rfl,l,c⟩,k⟩⟩:=F47;have F47:=zv6 (st:=zvB) l c k;have T:Txt K mg ⟨C_Has,C_Not,C_Office,C_Condition,C_NoFolk,C_NoRole,C_NoState,f0,d0,f1,d1,f2,d2,f3,d3,f4,d4,f5,d5,f6,d6,f7,d7,f8,d8,f9,d9,f10,d10,f11,d11,f12,d12,f13,d13,f14,d14,f15,d15,f16,d16,f17,d17,f18,d18,f19,d19,f20,d20,f21,d21,f22,d22,f23,d23,f24,d24,f25,d25,f26,d26,f27,d27,f28,d28,f29,d29,f30,d30,f31,d31,f32,d32,f33,d33,f34,d34,f35,d35,f36,d36,f37,d37,f38,d38,f39,d39,f40,d40,f41,d41,f42,d42,f43,d43,f44,d44,f45,d45,f46,d46,f47,_⟩:=⟨F0,F1,F2,F3,W.mg_of X G a3,F4,W.mg_of X G a4,F5,W.mg_of X G a5,F6,W.mg_of X G a6,F7,W.mg_of X G a7,F8,W.mg_of X G a8,F9,W.mg_of X G a9,F10,W.mg_of X G a10,F11,W.mg_of X G a11,F12,W.mg_of X G a12,F13,F14,W.mg_of X G a14,F15,W.mg_of X G a15,F16,F17,W.mg_of X G a17,F18,W.mg_of X G a18,F19,F20,F21,F22,F23,F24,F25,F26,F27,F28,F29,F30,F31,F32,W.mg_of X G a32,F33,W.mg_of X G a33,F34,W.mg_of X G a34,F35,W.mg_of X G a35,F36,W.mg_of X G a36,F37,W.mg_of X G a37,F38,W.mg_of X G a38,F39,W.mg_of X G a39,F40,W.mg_of X G a40,F41,W.mg_of X G a41,F42,F43,F44,W.mg_of X G a44,F45,W.mg_of X G a45,F46,W.mg_of X G a46,F47,W.mg_of X G a47,W.mg_of X G zB0,W.mg_of X G zB1,W.mg_of X G ztV,W.mg_of X G zn5,W.mg_of X G ztW,W.mg_of X G ztX,W.mg_of X G zq2,⟨zwR,zwS,zwT,zwU⟩,⟨zB2,zzi,i16,zB3⟩,⟨zwV,zwW,zwX,zwY⟩,⟨zB4,zzj,i16,zB5⟩,⟨ztY,ztZ,zt0,zt1⟩,⟨zt2,zq3,i13,zt3⟩,zhO,zhP,zff,zeN,zeO,zcV,zds,⟨zzk,i27,F27.kp⟩,⟨zzo,i42,F42.kp⟩,⟨zzm,i30,F30.kp⟩,⟨zzl,i28,F28.kp⟩,⟨zzp,i43,F43.kp⟩,⟨zzn,i31,F31.kp⟩,⟨zrc,i29,F29.kp⟩,⟨zq4,i19,F19.kp⟩,⟨zq9,i24,F24.kp⟩,⟨zrb,i26,F26.kp⟩,⟨zra,i25,F25.kp⟩,⟨zq5,i20,F20.kp⟩,⟨zq7,i22,F22.kp⟩,⟨zq8,i23,F23.kp⟩,⟨zq6,i21,F21.kp⟩,⟨⟨zwR,zwS,zwT,zwU⟩,zB6,hn,htk,zB7⟩,⟨⟨zwV,zwW,zwX,zwY⟩,zB8,hn,htk,zB9⟩,zi3,zi4,zfX,zd9,zfY,zfZ,zfg,zi5,zi6,zf0,zea,zf1,zf2,zfh,⟨zt4,zt6,zt5,zn6⟩,zk3,i0,zk4,zk5,⟨zt7,zt8,zt9,zn6⟩,zk6,zjs,zj5,zj6,⟨zua,zuc,zub,zn7⟩,zk7,i1,zk8,zk9,⟨zud,zue,zuf,zn7⟩,zla,zjt,zj7,zj8,⟨zrd,zrf,zre,zmf⟩,zi9,i2,zja,zjb,⟨zrg,zrh,zri,zmf⟩,zjc,ziD,zju,zjv,W.mg_none_of X G zyW,W.mg_none_of X G zjI,W.mg_none_of X G zvC,W.mg_none_of X G zaP,W.mg_none_of X G zeb,W.mg_none_of X G zl2,W.mg_none_of X G zec,W.mg_none_of X G zjf,W.mg_none_of X G zkf,W.mg_none_of X G zvD,W.mg_none_of X G zjg,⟨_,W.mg_of X G zug,_,rfl⟩,⟨_,W.mg_of X G zlC,_,rfl⟩,⟨_,W.mg_of X G zpa,_,rfl⟩,⟨_,W.mg_of X G zpb,_,rfl⟩,⟨_,W.mg_of X G zn8,_,rfl⟩,⟨_,W.mg_of X G zn9,_,rfl⟩⟩
 exact ⟨_,λs v=>.of_eq rfl,λbase _ _=>zzh T⟩
theorem walk {l : W.OpenLaw} {q : Program} {loose : List Str} {XP : (Str -> Option Value) -> Heap -> Prop} {YP : World -> Heap -> Prop} {d : DefRec} {K : Params -> W.Frag} (hn : l.most = some 63) (hdf : d.params.defaults = [])
    (hY : ∀ (w : World) (h : Heap), YP w h -> (K w.params).In h)
    (F : ∀ (w : World) (mg : Str -> Option Value) (fa : Addr) (h : Heap), (K w.params).In h -> h.Ns mainGlobals mg -> mg d.name = some (.ref fa) ->
      ∃ fd : FuncData, (∀ (s : Shared) (u : Value), BindsTo s fd ⟨[u], []⟩ [("_law_script", u)]) /\ ∀ base : Heap, (K w.params).In base -> base.Ns mainGlobals mg -> FnOk l.prog w (K w.params) mg base CX0 10 fa fd ["_law_script"] (znm (K w.params))) :
    W.WalkO q loose XP YP l.row.toRowW d [] (λf vs => PySem.call f vs) :=
  L2.walk_of (n := 63) (k := 10) (x := "_law_script") (CX := λ_ => CX0) (sp := λw => znm (K w.params)) hn (by decide) hdf ⟨rfl, by decide, by decide⟩ hY F (λ_ _ a ns hl hO hS => ⟨a, ns, rfl, hS, hO, hl, λ_ => rfl⟩) λ_ _ _ _ _ z => z
end My
open PySem PySem.W PyProof.Rows
set_option maxRecDepth 100000 in
set_option maxHeartbeats 0 in
theorem PySem.Challenge.cw_mightever_k11_conditions_holds : PySem.Challenge.rw_mightever_k11_conditions.Holds := by
 w_on; o_law; k_head; (case hw=>w_witness2)
 k_fill
 refine My.walk (l:=PySem.Challenge.rw_mightever_k11_conditions) rfl rfl (λw h Y=>W.kIn_of Y) ?F
 case F=>
  intro w mg fa h KX G hmg;refine' My.all_mk KX G hmg ?_ ?_ ?_ ?_ ?_ ?_ ?_ ?_ ?_ ?_ ?_ ?_ ?_ ?_ ?_ ?_ ?_ ?_ ?_ ?_ ?_ ?_ ?_ ?_ ?_ ?_ ?_ ?_ ?_ ?_ ?_ ?_ ?_ ?_ ?_ ?_ ?_ ?_ ?_ ?_ ?_ ?_ ?_ ?_ ?_ ?_ ?_ ?_ ?_ ?_ ?_ ?_ ?_ ?_ ?_ ?_ ?_ ?_ ?_ ?_ ?_ ?_ ?_ ?_ ?_ ?_ ?_ ?_ ?_ ?_ ?_ ?_ ?_ ?_ ?_ ?_ ?_ ?_ ?_ ?_ ?_ ?_ ?_ ?_ ?_ ?_ ?_ ?_ ?_ ?_ ?_ ?_ ?_ ?_ ?_ ?_ ?_ ?_ ?_ ?_ ?_ ?_ ?_ ?_ ?_ ?_ ?_ ?_ ?_ ?_ ?_ ?_ ?_ ?_ ?_ ?_ ?_ ?_ ?_ ?_ ?_ ?_ ?_ ?_ ?_ ?_ ?_ ?_ ?_ ?_ ?_ ?_ ?_ ?_ ?_ ?_ ?_ ?_ ?_ ?_ ?_ ?_ ?_ ?_ ?_ ?_ ?_ ?_ ?_ ?_ ?_ ?_ ?_ ?_ ?_ ?_ ?_ ?_ ?_ ?_ ?_ ?_ ?_ ?_ ?_ ?_ ?_ ?_ ?_ ?_ ?_ ?_ ?_ ?_ ?_ ?_ ?_ ?_ ?_ ?_ ?_ ?_ ?_ ?_ ?_ ?_ ?_ ?_ ?_ ?_ ?_ ?_ ?_ ?_ ?_ ?_ ?_ ?_ ?_ ?_ ?_ ?_ ?_ ?_ ?_ ?_ ?_ ?_ ?_ ?_ ?_ ?_ ?_ ?_ ?_ ?_ ?_ ?_ ?_ ?_ ?_ ?_ ?_ ?_ ?_
  any_goals first | k_is | exact My.fx_mk | kit_is | kts_exm | kernel_rfl
#print axioms PySem.Challenge.cw_mightever_k11_conditions_holds
