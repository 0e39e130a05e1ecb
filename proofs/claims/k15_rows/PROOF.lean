import PyProof.Rows.All
import Wide.All
import OpenK.AllK
import Wide.FinOn
import Lean
import PyProof.EqAt
import PyProof.EqKinds
import PyProof.TupleCall
import PyProof.ExcBaseAll.ValueError
import KE.KTryMore
import PyProof.ExcArgsOwn
import KE.KRevIter
import KE.KSortTup
import KE.KIntText
import PyProof.Rows.Range3
import PyProof.InstEq
import PyProof.NeKinds
import KE.KEqDict
import PyProof.ZipIter
import PyProof.StrLawsTight
import PyProof.Rows.StrSplitAre
import PySem.Challenge.RW_mightever_k15_rows_of_rules
set_option Elab.async false
set_option linter.all false
set_option maxRecDepth 100000
namespace L2
open PySem PySem.Spec PyProof.Rows
abbrev Key:=Sum Int Str
def znV:Key->Value->Bool
 | .inl k,v=>Value.isInt k v
 | .inr x,v=>Value.isStrOf x v
def zDq (w:World):Key->Int
 | .inl k=>hashInt k
 | .inr x=>hashStr w x
theorem zbu:∀ {k:Key} {v:Value},znV k v=true->(∃ i t,k=Sum.inl i/\v=Value.int i t)\/(∃ x t,k=Sum.inr x/\v=Value.str x t)
 | .inl i,v,h=>by
  obtain ⟨t,e⟩:=Value.isInt_shape (k:=i) (v:=v) h;exact .inl ⟨i,t,rfl,e⟩
 | .inr x,v,h=>by
  obtain ⟨t,e⟩:=Value.isStrOf_shape (x:=x) (v:=v) h;exact .inr ⟨x,t,rfl,e⟩
theorem zoL (i:Int) (t:Tok):znV (.inl i) (.int i t)=true:=by simp [znV,Value.isInt]
theorem zoM (x:Str) (t:Tok):znV (.inr x) (.str x t)=true:=by simp [znV,Value.isStrOf]
theorem zxg (a b:Int):decide ((Sum.inl a:Key)=Sum.inl b)=(a==b):=by
 by_cases e:a=b
 ·subst e; simp
 ·have h:¬ (Sum.inl a:Key)=Sum.inl b:=λq=>e (Sum.inl.inj q);rw [decide_eq_false h];exact (beq_eq_false_iff_ne.mpr e).symm
theorem zxh (a b:Str):decide ((Sum.inr a:Key)=Sum.inr b)=decide (a=b):=by
 by_cases e:a=b
 ·subst e; simp
 ·have h:¬ (Sum.inr a:Key)=Sum.inr b:=λq=>e (Sum.inr.inj q);rw [decide_eq_false h,decide_eq_false e]
theorem zxi (a:Int) (b:Str):decide ((Sum.inl a:Key)=Sum.inr b)=false:=decide_eq_false (λq=>nomatch q)
theorem zxj (a:Str) (b:Int):decide ((Sum.inr a:Key)=Sum.inl b)=false:=decide_eq_false (λq=>nomatch q)
def zbM (prog:Program) (w:World):PySem.KeyKind prog w Key where
 is:=znV
 hash:=zDq w
 inj:=λv a b ha hb=>by
  rcases zbu ha with ⟨i,t,rfl,rfl⟩ | ⟨x,t,rfl,rfl⟩
  ·rcases zbu hb with ⟨j,u,rfl,e⟩ | ⟨y,u,rfl,e⟩
   ·injection e with e1 _; rw [e1]
   ·exact nomatch e
  ·rcases zbu hb with ⟨j,u,rfl,e⟩ | ⟨y,u,rfl,e⟩
   ·exact nomatch e
   ·injection e with e1 _; rw [e1]
 byValue:=λk v h=>by
  rcases zbu h with ⟨i,t,rfl,rfl⟩ | ⟨x,t,rfl,rfl⟩ <;> rfl
 pyHash:=λhv h=>by
  rcases zbu hv with ⟨i,t,rfl,rfl⟩ | ⟨x,t,rfl,rfl⟩
  ·exact wpAny_pyHash_int h
  ·exact wpAny_pyHash_str h
 eqBool:=λhu hv h=>by
  rcases zbu hu with ⟨i,t,rfl,rfl⟩ | ⟨x,t,rfl,rfl⟩
  ·rcases zbu hv with ⟨j,u,rfl,rfl⟩ | ⟨y,u,rfl,rfl⟩
   ·rw [zxg] at h; exact wpAny_eqBool_int h
   ·rw [zxi] at h; exact SeqAt.EqAt.int_str i t y u _ _ _ _ h
  ·rcases zbu hv with ⟨j,u,rfl,rfl⟩ | ⟨y,u,rfl,rfl⟩
   ·rw [zxj] at h; exact SeqAt.EqAt.str_int x t j u _ _ _ _ h
   ·rw [zxh] at h; exact wpAny_eqBool_str h
 «strs»:=λk x t v h=>by
  rcases zbu h with ⟨i,u,rfl,e⟩ | ⟨y,u,rfl,e⟩
  ·exact nomatch e
  ·injection e with e1 _
   subst e1;cases v <;> rfl
theorem zmo (prog:Program) (w:World) (i:Int) (t:Tok):(zbM prog w).is (.inl i) (.int i t)=true:=zoL i t
theorem zmp (prog:Program) (w:World) (x:Str) (t:Tok):(zbM prog w).is (.inr x) (.str x t)=true:=zoM x t
inductive V where
 | non | bl (b:Bool) | int (i:Int) | str (x:Str) | byt (b:Array UInt8) | flt (b:UInt64) | ref (a:Addr) | ty (n:String)
 deriving DecidableEq
def RelV:V->Value->Prop
 | .non,u=>u=Value.none
 | .bl b,u=>u=Value.bool b
 | .int i,u=>∃ t,u=Value.int i t
 | .str x,u=>∃ t,u=Value.str x t
 | .byt b,u=>∃ t,u=Value.bytes b t
 | .flt b,u=>∃ t,u=Value.float b t
 | .ref a,u=>u=Value.ref a
 | .ty n,u=>u=Value.type n
abbrev Vals:List V->List Value->Prop:=Paired RelV
theorem Vals.length {xs:List V} {us:List Value} (r:Vals xs us):xs.length=us.length:=Paired.length r
theorem Vals.get:∀ {xs:List V} {us:List Value} {i:Nat} {x:V},Vals xs us->xs[i]? = some x->∃ u,us[i]? = some u/\RelV x u
 | _,_,_,_,.nil,e=>by simp at e
 | _,_,0,_,.cons r _,e=>by simp at e; subst e; exact ⟨_,rfl,r⟩
 | _,_,i+1,x,.cons _ t,e=>by
  obtain ⟨u,h1,h2⟩:=Vals.get (i:=i) (x:=x) t (by simpa using e);exact ⟨u,by simpa using h1,h2⟩
theorem Vals.append:∀ {xs ys:List V} {us ws:List Value},Vals xs us->Vals ys ws->Vals (xs++ys) (us++ws)
 | _,_,_,_,.nil,s=>s
 | _,_,_,_,.cons r t,s=>.cons r (Vals.append t s)
theorem Vals.take:∀ {xs:List V} {us:List Value} (n:Nat),Vals xs us->Vals (xs.take n) (us.take n)
 | _,_,0,_=>.nil
 | _,_,_+1,.nil=>.nil
 | _,_,n+1,.cons r t=>.cons r (Vals.take n t)
theorem Vals.drop:∀ {xs:List V} {us:List Value} (n:Nat),Vals xs us->Vals (xs.drop n) (us.drop n)
 | _,_,0,r=>r
 | _,_,_+1,.nil=>.nil
 | _,_,n+1,.cons _ t=>Vals.drop n t
def RelO:Option V->Option Value->Prop
 | some v,some u=>RelV v u
 | none,none=>True
 | _,_=>False
def KV {κ:Type}:List (κ×V)->List (κ×Value)->Prop:=Paired λ(p:κ×V) (q:κ×Value)=>p.1=q.1/\RelV p.2 q.2
def kV:Key->V
 | .inl i=>.int i
 | .inr x=>.str x
inductive HO where
 /-- a list -/
 | lst (xs:List V)
 /-- a tuple (never changes) -/
 | tup (xs:List V)
 /-- a dict whose keys are ints and texts; one whose keys are tuples of ints and texts (the empty one is both) -/
 | dK (kvs:List (Key×V)) | dT (kvs:List (List Key×V))
 /-- a set of ints: its members,its size -/
 | set (S:Int->Bool) (n:Nat)
 /-- an instance of the class at C,its dict at dx,its attributes -/
 | ins (C dx:Addr) (fs:List (Str×V))
 /-- the dict of the instance at x -/
 | own (x:Addr)
 /-- the dict of an exception -/
 | xd (fs:List (Str×V))
 /-- a bound method,f of x -/
 | met (f x:Addr)
 /-- a range object lo,lo+1,.. below hi -/
 | rng (lo hi:Int)
 /-- a thing that is known to the object (the script; a dict while a loop walks it): read,never written while it is so -/
 | frz (o:Obj) (u:HO)
 /-- a code object's table -/
 | tbl (ps:Array Value)
 /-- any other thing,by what is true of its one object (a def of one's own: SetO a S n:=HO.ext λh=>..) -/
 | ext (φ:Heap->Prop)
abbrev Hp:=Addr->Option HO
def upd (H:Hp) (a:Addr) (o:HO):Hp:=λb=>if b=a then some o else H b
theorem zaB {H:Hp} {a:Addr} {o:HO}:upd H a o a=some o:=by unfold upd; rw [if_pos rfl]
theorem zas {H:Hp} {a b:Addr} {o:HO} (h:b≠a):upd H a o b=H b:=by unfold upd; rw [if_neg h]
theorem zbF {H:Hp} {a b:Addr} {o:HO} (h:H a=some o) (h':H b=none):a≠b:=by
 intro e; subst e; rw [h] at h'; cases h'
section
variable (P:Program) (w:World)
def ObjOk (H:Hp) (h:Heap) (a:Addr):HO->Prop
 | .lst xs=>xs.length<=sizeLine/\∃ (its:List Value) (n:Nat),Vals xs its/\h.get? a=some { cls:=.type "list",data:=.seq its.toArray n }
 | .tup xs=>xs.length<=sizeLine/\∃ its:List Value,Vals xs its/\IsTup h a its.toArray
 | .dK kvs=>kvs.length<=sizeLine/\(a==sysModules)=false/\∃ vs,KV kvs vs/\h.DictOf (zbM P w) a vs
 | .dT kvs=>kvs.length<=sizeLine/\(a==sysModules)=false/\∃ xs:List (List Key×Addr×Value),
   Paired (λ(p:List Key×V) (q:List Key×Addr×Value)=>p.1=q.1/\H q.2.1=some (.tup (p.1.map kV))/\RelV p.2 q.2.2) kvs xs/\
   ∃ o es ep,h.get? a=some o/\o.ExactDict/\o.data=.dict es ep/\es.toList=xs.map (entryOfKey (tupleKind (zbM P w)))/\(xs.map (·.1)).Nodup
 | .set S n=>h.SetOf (intKind P w) a S n
 | .ins C dx fs=>H dx=some (.own a)/\fs.length<=1000/\dx≠a/\h.get? a=some (W.instObj C dx)/\
   ∃ mA,h.Ns1 dx mA/\(∀ f,RelO (fs.lookup f) (mA f))/\PySem.Within mA (fs.map (·.1))
 | .own _=>∃ o,h.get? a=some o
 | .xd fs=>∃ mA,h.Ns1 a mA/\∀ f,RelO (fs.lookup f) (mA f)
 | .rng lo hi=>∃ t u v,h.get? a=some { cls:=.type "range",data:=.fields #[.int lo t,.int hi u,.int 1 v] }
 | .frz o u=>h.get? a=some o/\ObjOk H h a u
 | .tbl ps=>h.get? a=some { cls:=.none,data:=.fields ps }
 | .met f x=>h.get? a=some (W.methodObj (.ref f) (.ref x))
 | .ext φ=>φ h/\(∃ o,h.get? a=some o)/\∀ h1 h2:Heap,φ h1->(∀ o,h1.get? a=some o->h2.get? a=some o)->φ h2
def HOk (H:Hp) (h:Heap):Prop:=∀ a o,H a=some o->ObjOk P w H h a o
end
section
variable {P:Program} {w:World} {H H':Hp} {h h':Heap} {a:Addr} {o:HO}
theorem ObjOk.lt (x:ObjOk P w H h a o):a < h.objs.size:=by
 cases o with
 | lst xs=>obtain ⟨_,_,_,_,e⟩:=x; exact Heap.lt_size e
 | tup xs=>obtain ⟨_,_,_,p⟩:=x; exact p.lt
 | dK kvs=>obtain ⟨_,_,_,_,o,_,_,e,_⟩:=x; exact Heap.lt_size e
 | dT kvs=>obtain ⟨_,_,_,_,o,_,_,e,_⟩:=x; exact Heap.lt_size e
 | set S n=>obtain ⟨o,_,_,_,e,_⟩:=x; exact Heap.lt_size e
 | ins C dx fs=>obtain ⟨_,_,_,e,_⟩:=x; exact Heap.lt_size e
 | own y=>obtain ⟨_,e⟩:=x; exact Heap.lt_size e
 | xd fs=>obtain ⟨_,⟨_,_,_,e,_⟩,_⟩:=x; exact Heap.lt_size e
 | rng lo hi=>obtain ⟨_,_,_,e⟩:=x; exact Heap.lt_size e
 | frz ob u=>obtain ⟨e,_⟩:=x; exact Heap.lt_size e
 | tbl ps=>exact Heap.lt_size (show h.get? a=some _ from x)
 | met f y=>exact Heap.lt_size (show h.get? a=some _ from x)
 | ext φ=>obtain ⟨_,⟨_,e⟩,_⟩:=x; exact Heap.lt_size e
theorem Paired.mapP {α β:Type} {F G:α->β->Prop}:∀ {l₁:List α} {l₂:List β},Paired F l₁ l₂->(∀ a b,F a b->G a b)->Paired G l₁ l₂
 | _,_,.nil,_=>.nil
 | _,_,.cons r t,f=>.cons (f _ _ r) (Paired.mapP t f)
theorem ObjOk.stay (x:ObjOk P w H h a o) (k:∀ b u,(b=a\/H b=some (.own a))->h.get? b=some u->h'.get? b=some u)
  (ho:∀ b,H b=some (.own a)->H' b=some (.own a)) (ht:∀ b xs,H b=some (.tup xs)->H' b=some (.tup xs)):ObjOk P w H' h' a o:=by
 induction o with
 | lst xs=>obtain ⟨z,its,n,r,e⟩:=x; exact ⟨z,its,n,r,k _ _ (.inl rfl) e⟩
 | tup xs=>obtain ⟨z,its,r,ob,e,c⟩:=x; exact ⟨z,its,r,ob,k _ _ (.inl rfl) e,c⟩
 | dK kvs=>obtain ⟨z,y,vs,r,ob,es,ep,e,c⟩:=x; exact ⟨z,y,vs,r,ob,es,ep,k _ _ (.inl rfl) e,c⟩
 | dT kvs=>
  obtain ⟨z,y,xs,r,ob,es,ep,e,c⟩:=x;exact ⟨z,y,xs,Paired.mapP r λp q z=>⟨z.1,ht _ _ z.2.1,z.2.2⟩,ob,es,ep,k _ _ (.inl rfl) e,c⟩
 | set S n=>obtain ⟨ob,es,ep,t,e,c⟩:=x; exact ⟨ob,es,ep,t,k _ _ (.inl rfl) e,c⟩
 | ins C dx fs=>
  obtain ⟨d,z,ne,e,mA,⟨od,es,ep,e2,c⟩,r⟩:=x;exact ⟨ho _ d,z,ne,k _ _ (.inl rfl) e,mA,⟨od,es,ep,k _ _ (.inr d) e2,c⟩,r⟩
 | own y=>obtain ⟨ob,e⟩:=x; exact ⟨ob,k _ _ (.inl rfl) e⟩
 | xd fs=>obtain ⟨mA,⟨od,es,ep,e,c⟩,r⟩:=x; exact ⟨mA,⟨od,es,ep,k _ _ (.inl rfl) e,c⟩,r⟩
 | rng lo hi=>obtain ⟨t,u,v,e⟩:=x; exact ⟨t,u,v,k _ _ (.inl rfl) e⟩
 | frz ob u ih=>obtain ⟨e,q⟩:=x; exact ⟨k _ _ (.inl rfl) e,ih q⟩
 | tbl ps=>
  have e:h.get? a=some { cls:=.none,data:=.fields ps }:=x;show h'.get? a=some { cls:=.none,data:=.fields ps };exact k a _ (.inl rfl) e
 | met f y=>
  have e:h.get? a=some (W.methodObj (.ref f) (.ref y)):=x;show h'.get? a=some (W.methodObj (.ref f) (.ref y));exact k a _ (.inl rfl) e
 | ext φ=>obtain ⟨p,⟨o,e⟩,st⟩:=x; exact ⟨st _ _ p λo q=>k _ _ (.inl rfl) q,⟨o,k _ _ (.inl rfl) e⟩,st⟩
theorem HOk.lt (x:HOk P w H h) (e:H a=some o):a < h.objs.size:=(x a o e).lt
theorem HOk.fresh (x:HOk P w H h) (e:h.objs.size<=a):H a=none:=by
 cases q:H a with
 | none=>rfl
 | some u=>exact absurd (Nat.lt_of_lt_of_le (x.lt q) e) (Nat.lt_irrefl _)
theorem HOk.kept (x:HOk P w H h) (k:∀ b u,h.get? b=some u->h'.get? b=some u):HOk P w H h':=λa o e=>
 (x a o e).stay (λb u _ q=>k b u q) (λ_ q=>q) λ_ _ q=>q
theorem HOk.laid (x:HOk P w H h) (k:∀ b u,h.get? b=some u->h'.get? b=some u) (hp:h.objs.size<=a) (new:ObjOk P w (upd H a o) h' a o):HOk P w (upd H a o) h':=λb u e=>by
 have hn:=x.fresh hp
 by_cases hb:b=a
 ·subst hb; rw [zaB] at e; cases e; exact new
 ·rw [zas hb] at e;exact (x b u e).stay (λc v _ q=>k c v q) (λc q=>by rw [zas (zbF q hn)]; exact q) λc xs q=>by rw [zas (zbF q hn)]; exact q
end
def Rd (H:Hp) (a:Addr) (u:HO):Prop:=H a=some u\/∃ o,H a=some (.frz o u)
theorem Rd.ok {P:Program} {w:World} {H:Hp} {h:Heap} {a:Addr} {u:HO} (r:Rd H a u) (x:HOk P w H h):ObjOk P w H h a u:=by
 rcases r with r | ⟨o,r⟩
 ·exact x a u r
 ·obtain ⟨_,q⟩:=x a _ r;exact q
def Mut:Option HO->Prop
 | some (.lst _)=>True
 | some (.dK _)=>True
 | some (.dT _)=>True
 | some (.set _ _)=>True
 | some (.ins _ _ _)=>True
 | some (.ext _)=>True
 | _=>False
section
variable {P:Program} {w:World} {H:Hp} {h h':Heap} {x e:Addr} {o':HO}
theorem HOk.write (ok:HOk P w H h) (mu:Mut (H x)) (he:e=x\/H e=some (.own x)) (k:∀ b u,b≠e->h.get? b=some u->h'.get? b=some u) (heo:∃ u,h'.get? e=some u)
  (new:ObjOk P w (upd H x o') h' x o'):HOk P w (upd H x o') h':=λb u q=>by
 have nown:∀ c y,H c=some (.own y)->c≠x:=λc y r z=>by subst z; rw [r] at mu; exact mu
 have ntup:∀ c xs,H c=some (.tup xs)->c≠x:=λc xs r z=>by subst z; rw [r] at mu; exact mu
 by_cases hb:b=x
 ·subst hb; rw [zaB] at q; cases q; exact new
 ·rw [zas hb] at q
  by_cases hbe:b=e
  ·have q':H b=some (.own x):=by
    rcases he with z | z
    ·exact absurd (hbe.trans z) hb
    ·rw [hbe]; exact z
   rw [q] at q'; cases q'
   obtain ⟨v,hv⟩:=heo;exact ⟨v,by rw [hbe]; exact hv⟩
  ·refine (ok b u q).stay (λc v hc r=>k c v ?_ r) (λc r=>by rw [zas (nown c b r)]; exact r) λc xs r=>by rw [zas (ntup c xs r)]; exact r
   rcases hc with rfl | hc
   ·exact hbe
   ·rintro rfl;rcases he with z | z
    ·exact nown c b hc z
    ·rw [hc] at z; cases z; exact hb rfl
end
structure Un (fs ex:List Addr) (H H':Hp) (h h':Heap):Prop where
 keep:∀ b o,h.get? b=some o->H b=none->b∉fs->b∉ex->h'.get? b=some o
 slot:∀ b o,h.get? b=some o->H b=none->b∈fs->b∉ex->∃ sl,h'.get? b=some { o with slots:=sl }
 free:∀ b o,h.get? b=some o->H b=none->b∉ex->H' b=none
 there:∀ b o,h.get? b=some o->b∉ex->∃ o',h'.get? b=some o'
 tups:∀ b xs,H b=some (.tup xs)->H' b=some (.tup xs)
 frzs:∀ b o u,H b=some (.frz o u)->H' b=some (.frz o u)
 tbls:∀ b ps,H b=some (.tbl ps)->∃ more,H' b=some (.tbl (ps++more))
section
variable {fs fs' ex ex':List Addr} {H H1 H2:Hp} {h h1 h2 h':Heap} {a x e:Addr} {o:HO}
theorem Un.any (u:Un fs ex H H1 h h1) {b:Addr} {ob:Obj} (q:h.get? b=some ob) (n:H b=none) (hx:b∉ex):∃ sl,h1.get? b=some { ob with slots:=sl }:=by
 by_cases hb:b∈fs
 ·exact u.slot b ob q n hb hx
 ·exact ⟨ob.slots,u.keep b ob q n hb hx⟩
theorem Un.kept (k:∀ b u,h.get? b=some u->h'.get? b=some u):Un fs ex H H h h':=
 ⟨λb ob q _ _ _=>k b ob q,λb ob q _ _ _=>⟨ob.slots,k b ob q⟩,λ_ _ _ n _=>n,λb ob q _=>⟨ob,k b ob q⟩,λ_ _ q=>q,λ_ _ _ q=>q,λ_ ps q=>⟨#[],by rw [q]; simp⟩⟩
theorem Un.refl:Un fs ex H H h h:=Un.kept λ_ _ q=>q
theorem Un.laid (k:∀ b u,h.get? b=some u->h'.get? b=some u) (hp:h.objs.size<=a) (hn:H a=none):Un fs ex H (upd H a o) h h' where
 keep:=λb u q _ _ _=>k b u q
 slot:=λb u q _ _ _=>⟨u.slots,k b u q⟩
 free:=λb u q n _=>by rw [zas (Nat.ne_of_lt (Nat.lt_of_lt_of_le (Heap.lt_size q) hp))]; exact n
 there:=λb u q _=>⟨u,k b u q⟩
 tups:=λb xs q=>by rw [zas (zbF q hn)]; exact q
 frzs:=λb u xs q=>by rw [zas (zbF q hn)]; exact q
 tbls:=λb ps q=>⟨#[],by rw [zas (zbF q hn),q]; simp⟩
theorem Un.write (mu:Mut (H x)) (he:e=x\/H e=some (.own x)) (k:∀ b u,b≠e->h.get? b=some u->h'.get? b=some u) (heo:∃ u,h'.get? e=some u):Un fs ex H (upd H x o) h h':=by
 have hx:∀ b,H b=none->b≠x:=λb n z=>by subst z; rw [n] at mu; exact mu
 have hb:∀ b,H b=none->b≠e:=λb n z=>by
  subst z;rcases he with r | r
  ·exact hx b n r
  ·rw [n] at r; cases r
 have hm:∀ b u,H b=some u->¬ Mut (some u)->b≠x:=λb u q nm z=>by subst z; rw [q] at mu; exact nm mu
 refine ⟨λb u q n _ _=>k b u (hb b n) q,λb u q n _ _=>⟨u.slots,k b u (hb b n) q⟩,λb u q n _=>by rw [zas (hx b n)]; exact n,λb u q _=>?_,
  λb xs q=>by rw [zas (hm b _ q λz=>z)]; exact q,λb u xs q=>by rw [zas (hm b _ q λz=>z)]; exact q,λb ps q=>⟨#[],by rw [zas (hm b _ q λz=>z),q]; simp⟩⟩
 by_cases hbe:b=e
 ·subst hbe; exact heo
 ·exact ⟨u,k b u hbe q⟩
end
def trk (h:Heap) (H:Hp):List Addr:=(List.range h.objs.size).filter λa=>(H a).isSome
def zrt (h:Heap) (H:Hp):Heap:=W.hideAll h (trk h H)
theorem zoN (h:Heap) (H:Hp):(zrt h H).objs.size=h.objs.size:=W.hideAll_size _ _
theorem zru {h:Heap} {H:Hp} {b:Addr} {o:Obj} (e:h.get? b=some o) (n:H b=none):(zrt h H).get? b=some o:=
 W.hideAll_get _ e λhm=>by
  have q:(H b).isSome=true:=(List.mem_filter.mp hm).2;rw [n] at q; simp at q
theorem zub {h:Heap} {H:Hp} {b:Addr} {o:Obj} (e:(zrt h H).get? b=some o):h.get? b=some o/\H b=none:=by
 have e':h.get? b=some o:=W.of_hideAll (trk h H) e;refine ⟨e',?_⟩;cases q:H b with
 | none=>rfl
 | some x=>
  have hm:b∈trk h H:=List.mem_filter.mpr ⟨List.mem_range.mpr (Heap.lt_size e'),by simp [q]⟩;have z:(zrt h H).get? b=none:=W.hideAll_none (trk h H) hm;rw [z] at e; cases e
def zuc (g h:Heap) (L:Addr):List (Addr×Obj):=(List.range h.objs.size).filterMap λa=>if a=L\/(g.get? a).isSome=true then none else (h.get? a).map λo=>(a,o)
def zaL (g h:Heap) (L d:Addr):List (Addr×Obj):=(zuc g h L).filter λp=>decide (p.1≠d)
structure Mod (K:W.Frag) (mg:Str->Option Value) (base:Heap):Prop where
 kin:K.In base
 glob:base.Ns mainGlobals mg
 blt:∃ mb,base.Ns builtinsNs mb/\∀ x:Str,x≠"__name__"->mb x=bootBuiltins x
 nolimit:base.NoLimit
structure Cx where
 prog:Program
 w:World
 K:W.Frag
 mg:Str->Option Value
 base:Heap
 A:Around
 N:List Str
 s₀:Shared
 H₀:Hp
 env:Env
 outer:List Env
 stack:List Env
 ex:List Addr
 fn:Str->Bool
 calm:Bool
 pn:List (Addr×Obj)
 xe:Value->Shared->Prop
def frs (l:List Env):List Addr:=l.filterMap (·.frame)
abbrev Cx.fs (X:Cx):List Addr:=frs X.outer
def Vis (sc:Scope) (x:Str):Prop:=sc.names.lookup x=some .local\/sc.names.lookup x=some .cell\/sc.names.lookup x=some .free
def Loc (sc:Scope) (x:Str):Prop:=sc.names.lookup x=some .local\/sc.names.lookup x=some .cell
def zCp (env:Env) (h:Heap) (m:Str->Option Value) (x:Str) (u:Value):Prop:=
 (env.kindOf x=some .local/\m x=some u)\/((env.kindOf x=some .cell\/env.kindOf x=some .free)/\∃ c,env.cells.lookup x=some c/\h.IsCell c (some u))
structure Cx.Ok (X:Cx):Prop where
 mod:Mod X.K X.mg X.base
 kind:X.env.scope.kind=.function
 glob:X.env.globals=mainGlobals
 blt:X.env.builtins=builtinsNs
 above:X.s₀.heap.objs.size<=X.env.locals
 inj:∀ x y c,X.env.cells.lookup x=some c->X.env.cells.lookup y=some c->x=y
 has:∀ x,(X.env.kindOf x=some .cell\/X.env.kindOf x=some .free)->∃ c,X.env.cells.lookup x=some c
 cab:∀ x c,X.fn x=true->X.env.cells.lookup x=some c->X.s₀.heap.objs.size<=c
 hd:X.calm=true->X.A.handled=none
 frames:X.A.frames=some X.stack
 stk:X.stack=X.outer\/(X.stack=X.env :: X.outer/\X.env.frame=some X.env.locals)
 exf:∀ b∈X.ex,b≠X.env.locals/\∀ x c,X.env.cells.lookup x=some c->c≠b
 bs:∀ b o,X.base.get? b=some o->X.s₀.heap.get? b=some o/\X.H₀ b=none
 bsz:X.base.objs.size<=X.s₀.heap.objs.size
 noex:∀ b o,X.base.get? b=some o->b∉X.ex
 exfs:∀ b∈X.ex,b∉X.fs
 funs:X.s₀.heap.FunFrames X.base X.outer
 frf:∀ b∈X.fs,X.H₀ b=none
structure Inv (X:Cx) (pins:List (Addr×Obj)) (σ:List (Option V)) (H:Hp) (s:Shared):Prop where
 ok:X.Ok
 os:s.os=X.s₀.os
 bare:AllBare s.gens
 base:Un X.fs X.ex X.H₀ H X.s₀.heap s.heap
 loc:∃ m,s.heap.Ns X.env.locals m/\∀ (i:Nat) (x:Str) (v:V),X.N[i]? = some x->σ[i]? = some (some v)->Vis X.env.scope x->∃ u,RelV v u/\zCp X.env s.heap m x u
 cell:∀ x c,X.env.cells.lookup x=some c->∃ v,s.heap.IsCell c v
 free:H X.env.locals=none
 freeC:∀ x c,X.env.cells.lookup x=some c->H c=none
 pin:∀ p∈X.pn++pins,s.heap.get? p.1=some p.2/\H p.1=none/\p.1≠X.env.locals/\p.1∉X.fs/\∀ v,p.2.data≠.cell v
 hok:HOk X.prog X.w H s.heap
 len:σ.length=X.N.length
section
variable {X:Cx} {pins:List (Addr×Obj)} {σ:List (Option V)} {H H':Hp} {s:Shared} {h':Heap}
theorem Cx.Ok.nofr (ok:X.Ok) {b:Addr} {o:Obj} (e:X.base.get? b=some o):b∉X.fs:=λhb=>by
 have:=(ok.funs.mem hb).1;rw [e] at this; cases this
theorem Inv.bs (I:Inv X pins σ H s):∀ b o,X.base.get? b=some o->s.heap.get? b=some o/\H b=none:=λb o e=>
 ⟨I.base.keep b o (I.ok.bs b o e).1 (I.ok.bs b o e).2 (I.ok.nofr e) (I.ok.noex b o e),I.base.free b o (I.ok.bs b o e).1 (I.ok.bs b o e).2 (I.ok.noex b o e)⟩
theorem Inv.bk (I:Inv X pins σ H s):∀ b o,X.base.get? b=some o->s.heap.get? b=some o:=λb o e=>(I.bs b o e).1
theorem Inv.mod (I:Inv X pins σ H s):Mod X.K X.mg X.base:=I.ok.mod
theorem Inv.kIn (I:Inv X pins σ H s):X.K.In s.heap:=I.ok.mod.kin.keeps I.bk
theorem Inv.lt (I:Inv X pins σ H s):X.env.locals < s.heap.objs.size:=let ⟨_,hn,_⟩:=I.loc; hn.lt
theorem Inv.sz (I:Inv X pins σ H s):X.s₀.heap.objs.size<=s.heap.objs.size:=Nat.le_trans I.ok.above (Nat.le_of_lt I.lt)
theorem Inv.nofs (I:Inv X pins σ H s) {a:Addr} (h:s.heap.objs.size<=a):a∉X.fs:=λhb=>by
 obtain ⟨_,o,ho,_⟩:=I.ok.funs.mem hb;exact absurd (Nat.lt_of_lt_of_le (Heap.lt_size ho) (Nat.le_trans I.sz h)) (Nat.lt_irrefl _)
theorem Inv.cne (I:Inv X pins σ H s):∀ x c,X.env.cells.lookup x=some c->c≠X.env.locals:=λx c e z=>by
 obtain ⟨v,o,ho,hd⟩:=I.cell x c e;obtain ⟨m,⟨o',es,ep,ho',hd',_⟩,_⟩:=I.loc;rw [z,ho'] at ho; cases ho; rw [hd'] at hd; cases hd
theorem Inv.funs (I:Inv X pins σ H s):s.heap.FunFrames X.base X.outer:=by
 have all:∀ (l:List Env),(∀ b∈frs l,b∈X.fs)->X.s₀.heap.FunFrames X.base l->s.heap.FunFrames X.base l:=by
  intro l
  induction l with
  | nil=>intro _ _; trivial
  | cons env r ih=>
   intro hs hl;obtain ⟨hk,⟨L,o,hf,hn,ho,hd⟩,hr⟩:=hl;have hL:L∈X.fs:=hs L (by unfold frs; rw [List.filterMap_cons,hf]; exact List.mem_cons_self);obtain ⟨sl,e⟩:=I.base.slot L o ho (I.ok.frf L hL) hL λz=>I.ok.exfs L z hL;exact ⟨hk,⟨L,_,hf,hn,e,hd⟩,ih (λb hb=>hs b (by unfold frs; rw [List.filterMap_cons,hf]; exact List.mem_cons_of_mem _ hb)) hr⟩
 exact all X.outer (λ_ hb=>hb) I.ok.funs
theorem Inv.stack (I:Inv X pins σ H s):s.heap.FunFrames X.base X.stack:=by
 rcases I.ok.stk with e | ⟨e,hf⟩
 ·rw [e]; exact I.funs
 ·rw [e];obtain ⟨m,hn,_⟩:=I.loc;refine .cons (by rw [I.ok.kind]; decide) hf hn ?_ I.funs;exact Heap.get?_none_of_le (Nat.le_trans I.ok.bsz I.ok.above)
theorem Inv.stkSub (I:Inv X pins σ H s):∀ b∈frs X.stack,b∈X.env.locals :: X.fs:=λb hb=>by
 rcases I.ok.stk with e | ⟨e,hf⟩
 ·rw [e] at hb; exact List.mem_cons_of_mem _ hb
 ·rw [e] at hb;unfold frs at hb;rw [List.filterMap_cons,hf] at hb;exact hb
theorem Inv.stkFree (I:Inv X pins σ H s):∀ b∈frs X.stack,H b=none:=λb hb=>by
 rcases List.mem_cons.mp (I.stkSub b hb) with e | hb
 ·rw [e]; exact I.free
 ·obtain ⟨_,o,ho,_⟩:=I.ok.funs.mem hb;exact I.base.free b o ho (I.ok.frf b hb) λz=>I.ok.exfs b z hb
theorem Inv.step {g':Array GenState} {t':Nat} {d':Drawn} {ch:List Addr} (I:Inv X pins σ H s)
  (hch:∀ b∈ch,(b∈X.ex\/X.s₀.heap.objs.size<=b)/\b≠X.env.locals/\(∀ x c,X.env.cells.lookup x=some c->c≠b)/\∀ p∈X.pn++pins,p.1≠b)
  (keep:∀ b o,b≠X.env.locals->b∉X.fs->b∉ch->s.heap.get? b=some o->H b=none->h'.get? b=some o)
  (slot:∀ b o,b≠X.env.locals->b∈X.fs->b∉ch->s.heap.get? b=some o->H b=none->∃ sl,h'.get? b=some { o with slots:=sl }) (free:∀ b o,b∉ch->s.heap.get? b=some o->H b=none->H' b=none)
  (there:∀ b o,b∉ch->s.heap.get? b=some o->∃ o',h'.get? b=some o')
  (tups:∀ b xs,H b=some (.tup xs)->H' b=some (.tup xs)) (frzs:∀ b o u,H b=some (.frz o u)->H' b=some (.frz o u)) (tbls:∀ b ps,H b=some (.tbl ps)->∃ more,H' b=some (.tbl (ps++more)))
  (ns:∀ m,s.heap.Ns X.env.locals m->h'.Ns X.env.locals m) (hok:HOk X.prog X.w H' h') (hg:AllBare g') :
  Inv X pins σ H' { s with heap:=h',gens:=g',drawn:=d',toks:=t' }:=by
 have neL:∀ b o,X.s₀.heap.get? b=some o->b≠X.env.locals:=λb o e=>Nat.ne_of_lt (Nat.lt_of_lt_of_le (Heap.lt_size e) I.ok.above);have neC:∀ b o,X.s₀.heap.get? b=some o->b∉X.ex->b∉ch:=λb o e hx hb=>by
  rcases (hch b hb).1 with z | z
  ·exact hx z
  ·exact absurd (Nat.lt_of_lt_of_le (Heap.lt_size e) z) (Nat.lt_irrefl _)
 have cellK:∀ x c,X.env.cells.lookup x=some c->∀ v,s.heap.IsCell c v->h'.IsCell c v:=λx c e v ⟨o,ho,hd⟩=>by
  have nch:c∉ch:=λz=>(hch c z).2.2.1 x c e rfl
  by_cases hc:c∈X.fs
  ·obtain ⟨sl,q⟩:=slot c o (I.cne x c e) hc nch ho (I.freeC x c e);exact ⟨_,q,hd⟩
  ·exact ⟨o,keep c o (I.cne x c e) hc nch ho (I.freeC x c e),hd⟩
 refine ⟨I.ok,I.os,hg,⟨λb o e n hb hx=>?_,λb o e n hb hx=>?_,λb o e n hx=>?_,λb o e hx=>?_,λb xs e=>tups b xs (I.base.tups b xs e),λb o xs e=>frzs b o xs (I.base.frzs b o xs e),λb ps e=>?_⟩,?_,λx c e=>?_,?_,λx c e=>?_,λp hp=>?_,hok,I.len⟩
 ·exact keep b o (neL b o e) hb (neC b o e hx) (I.base.keep b o e n hb hx) (I.base.free b o e n hx)
 ·obtain ⟨sl,e1⟩:=I.base.slot b o e n hb hx;obtain ⟨sl',e2⟩:=slot b _ (neL b o e) hb (neC b o e hx) e1 (I.base.free b o e n hx);exact ⟨sl',e2⟩
 ·obtain ⟨o',e1⟩:=I.base.there b o e hx;exact free b o' (neC b o e hx) e1 (I.base.free b o e n hx)
 ·obtain ⟨o',e1⟩:=I.base.there b o e hx;exact there b o' (neC b o e hx) e1
 ·obtain ⟨m1,e1⟩:=I.base.tbls b ps e;obtain ⟨m2,e2⟩:=tbls b _ e1;exact ⟨m1++m2,by rw [e2,Array.append_assoc]⟩
 ·obtain ⟨m,hn,hl⟩:=I.loc;refine ⟨m,ns m hn,λi x v e1 e2 e3=>?_⟩;obtain ⟨u,r,l⟩:=hl i x v e1 e2 e3;refine ⟨u,r,?_⟩;rcases l with l | ⟨k,c,e,z⟩
  ·exact .inl l
  ·exact .inr ⟨k,c,e,cellK x c e _ z⟩
 ·obtain ⟨v,z⟩:=I.cell x c e;exact ⟨v,cellK x c e v z⟩
 ·obtain ⟨m,⟨o,_,_,ho,_⟩,_⟩:=I.loc;exact free _ o (λz=>(hch _ z).2.1 rfl) ho I.free
 ·obtain ⟨v,o,ho,hd⟩:=I.cell x c e;exact free c o (λz=>(hch c z).2.2.1 x c e rfl) ho (I.freeC x c e)
 ·obtain ⟨e,n,ne,nf,d⟩:=I.pin p hp;have nch:p.1∉ch:=λz=>(hch p.1 z).2.2.2 p hp rfl;exact ⟨keep p.1 p.2 ne nf nch e n,free p.1 p.2 nch e n,ne,nf,d⟩
theorem Inv.un {t':Nat} (I:Inv X pins σ H s) (u:Un X.fs [] H H' s.heap h') (hok:HOk X.prog X.w H' h'):Inv X pins σ H' { s with heap:=h',toks:=t' }:=by
 obtain ⟨m,⟨o,es,ep,ho,r⟩,_⟩:=id I.loc;obtain ⟨sl,hL⟩:=u.any ho I.free (by simp);exact I.step (g':=s.gens) (d':=s.drawn) (ch:=[]) (λ_ z=>nomatch z) (λb o _ hb _ e n=>u.keep b o e n hb (by simp)) (λb o _ hb _ e n=>u.slot b o e n hb (by simp)) (λb o _ e n=>u.free b o e n (by simp)) (λb o _ e=>u.there b o e (by simp)) u.tups u.frzs u.tbls (λm' hm=>by
  obtain ⟨o',es',ep',ho',r'⟩:=hm;rw [ho] at ho'; cases ho'
  exact ⟨_,es',ep',hL,r'⟩) hok I.bare
theorem Inv.call {g':Array GenState} {t':Nat} {d':Drawn} {ch:List Addr} (I:Inv X pins σ H s) (u:Un (frs X.stack) ch H H' s.heap h') (hok:HOk X.prog X.w H' h') (hg:AllBare g')
  (hch:∀ b∈ch,(b∈X.ex\/X.s₀.heap.objs.size<=b)/\b≠X.env.locals/\(∀ x c,X.env.cells.lookup x=some c->c≠b)/\∀ p∈X.pn++pins,p.1≠b) :
  Inv X pins σ H' { s with heap:=h',gens:=g',drawn:=d',toks:=t' }:=by
 obtain ⟨m,⟨o,es,ep,ho,r⟩,_⟩:=id I.loc;obtain ⟨sl,hL⟩:=u.any ho I.free λz=>(hch _ z).2.1 rfl;exact I.step (ch:=ch) hch (λb o hL hb hc e n=>u.keep b o e n (λz=>(List.mem_cons.mp (I.stkSub b z)).elim hL hb) hc) (λb o _ _ hc e n=>u.any e n hc) (λb o hc e n=>u.free b o e n hc) (λb o hc e=>u.there b o e hc) u.tups u.frzs u.tbls (λm' hm=>by
  obtain ⟨o',es',ep',ho',r'⟩:=hm;rw [ho] at ho'; cases ho'
  exact ⟨_,es',ep',hL,r'⟩) hok hg
theorem Inv.turned {t':Nat} {it:Addr} (I:Inv X pins σ H s) (k:∀ b o,b≠it->s.heap.get? b=some o->h'.get? b=some o) (hn:H it=none) (hL:it≠X.env.locals)
  (h1:it∈X.ex\/X.s₀.heap.objs.size<=it) (h2:∀ x c,X.env.cells.lookup x=some c->c≠it) (h3:∀ p∈X.pn++pins,p.1≠it):Inv X pins σ H { s with heap:=h',toks:=t' }:=by
 have nit:∀ b u,H b=some u->b≠it:=λb u e z=>by rw [z,hn] at e; cases e
 refine I.step (g':=s.gens) (d':=s.drawn) (ch:=[it]) (λb hb=>?_) (λb o _ _ hc e _=>k b o (λz=>hc (by simp [z])) e) (λb o _ _ hc e _=>⟨o.slots,k b o (λz=>hc (by simp [z])) e⟩) (λ_ _ _ _ n=>n)
  (λb o hc e=>⟨o,k b o (λz=>hc (by simp [z])) e⟩) (λ_ _ e=>e) (λ_ _ _ e=>e) (λb ps e=>⟨#[],by rw [e]; simp⟩) (λm hm=>?_) (λb u e=>?_) I.bare
 ·have e:b=it:=by simpa using hb
  subst e;exact ⟨h1,hL,h2,h3⟩
 ·obtain ⟨o,es,ep,ho,r⟩:=hm;exact ⟨o,es,ep,k _ o (Ne.symm hL) ho,r⟩
 ·refine (I.hok b u e).stay (λc v hc q=>k c v ?_ q) (λ_ q=>q) λ_ _ q=>q;rcases hc with z | z
  ·rw [z]; exact nit b u e
  ·exact nit c _ z
theorem Inv.tok (I:Inv X pins σ H s) (t:Nat):Inv X pins σ H { s with toks:=t }:=I.un (h':=s.heap) (t':=t) Un.refl I.hok
theorem Inv.kept {t':Nat} (I:Inv X pins σ H s) (k:∀ b u,s.heap.get? b=some u->h'.get? b=some u):Inv X pins σ H { s with heap:=h',toks:=t' }:=I.un (Un.kept k) (I.hok.kept k)
theorem Inv.laid {a:Addr} {o:HO} {t':Nat} (I:Inv X pins σ H s) (k:∀ b u,s.heap.get? b=some u->h'.get? b=some u) (hp:s.heap.objs.size<=a) (new:ObjOk X.prog X.w (upd H a o) h' a o) :
  Inv X pins σ (upd H a o) { s with heap:=h',toks:=t' }:=I.un (Un.laid k hp (I.hok.fresh hp)) (I.hok.laid k hp new)
theorem Inv.write {x e:Addr} {o:HO} {t':Nat} (I:Inv X pins σ H s) (mu:Mut (H x)) (he:e=x\/H e=some (.own x)) (k:∀ b u,b≠e->s.heap.get? b=some u->h'.get? b=some u) (heo:∃ u,h'.get? e=some u)
  (new:ObjOk X.prog X.w (upd H x o) h' x o):Inv X pins σ (upd H x o) { s with heap:=h',toks:=t' }:=I.un (Un.write mu he k heo) (I.hok.write mu he k heo new)
theorem Inv.pins_of {pins':List (Addr×Obj)} (I:Inv X pins σ H s) (h:∀ p∈pins',s.heap.get? p.1=some p.2/\H p.1=none/\p.1≠X.env.locals/\p.1∉X.fs/\∀ v,p.2.data≠.cell v):Inv X pins' σ H s:=
 ⟨I.ok,I.os,I.bare,I.base,I.loc,I.cell,I.free,I.freeC,λp hp=>(List.mem_append.mp hp).elim (λz=>I.pin p (List.mem_append_left _ z)) (h p),I.hok,I.len⟩
theorem znp {N:List Str} (hN:N.Nodup) {i j:Nat} {x:Str} (a:N[i]? = some x) (b:N[j]? = some x):i=j:=by
 obtain ⟨h1,e1⟩:=List.getElem?_eq_some_iff.mp a;obtain ⟨h2,e2⟩:=List.getElem?_eq_some_iff.mp b;exact (List.getElem_inj hN).mp (e1.trans e2.symm)
theorem zlg {M:Model} {A:Around} {E:Value->Shared->Prop} {i:Nat} {x:Str} {v:V} {u:Value} {Q:Unit->Shared->Prop} (I:Inv X pins σ H s) (hN:X.N.Nodup) (hi:X.N[i]? = some x) (hx:Loc X.env.scope x) (r:RelV v u)
  (h:∀ s',Inv X pins (σ.set i (some v)) H s'->(∃ a,Heap.SameBut a s.heap s'.heap/\(a=X.env.locals\/X.env.cells.lookup x=some a))->Q () s') (hf:X.fn x=true\/X.env.scope.names.lookup x=some .local:=by first | exact .inl rfl | exact .inr rfl | assumption):wpAny M A (storeName X.env x u) Q E s:=by
 obtain ⟨m,hn,hl⟩:=id I.loc;have hcls:(X.env.scope.kind==.class||(X.env.scope.kind==.module&&X.env.locals != X.env.globals))=false:=by rw [I.ok.kind]; rfl
 have hiσ:i < σ.length:=by rw [I.len]; exact (List.getElem?_eq_some_iff.mp hi).1
 have cne:=I.cne;have tracked:∀ {a:Addr} {h':Heap},(∃ o,s.heap.get? a=some o/\H a=none)->Heap.SameBut a s.heap h'->HOk X.prog X.w H h':=λ{a h'} ha hs b ob e=>by
  obtain ⟨_,_,hfree⟩:=ha;refine (I.hok b ob e).stay (λc w' hc q=>(hs.2 c ?_).trans q) (λ_ q=>q) λ_ _ q=>q;rintro rfl;rcases hc with rfl | hc
  ·rw [hfree] at e; cases e
  ·rw [hfree] at hc; cases hc
 rcases hx with hk | hk
 ·refine wpAny_storeName_local hk hn (λh' hn' hs=>?_) hcls;obtain ⟨oL,_,_,hoL,_⟩:=id hn;refine h _ ⟨I.ok,I.os,I.bare,⟨λb o e n hb hx=>?_,λb o e n hb hx=>?_,I.base.free,λb o e hx=>?_,I.base.tups,I.base.frzs,I.base.tbls⟩,⟨_,hn',λj y v' e1 e2 e3=>?_⟩,λy c e=>?_,I.free,I.freeC,λp hp=>?_,tracked ⟨oL,hoL,I.free⟩ hs,by simpa using I.len⟩ ⟨_,hs,.inl rfl⟩
  ·exact (hs.2 b (Nat.ne_of_lt (Nat.lt_of_lt_of_le (Heap.lt_size e) I.ok.above))).trans (I.base.keep b o e n hb hx)
  ·obtain ⟨sl,e1⟩:=I.base.slot b o e n hb hx;exact ⟨sl,(hs.2 b (Nat.ne_of_lt (Nat.lt_of_lt_of_le (Heap.lt_size e) I.ok.above))).trans e1⟩
  ·obtain ⟨o',e1⟩:=I.base.there b o e hx;exact ⟨o',(hs.2 b (Nat.ne_of_lt (Nat.lt_of_lt_of_le (Heap.lt_size e) I.ok.above))).trans e1⟩
  ·by_cases hj:j=i
   ·subst hj;rw [hi] at e1; cases e1
    rw [List.getElem?_set_self hiσ] at e2;cases e2
    exact ⟨u,r,.inl ⟨hk,by simp⟩⟩
   ·rw [List.getElem?_set_ne (Ne.symm hj)] at e2;obtain ⟨u',r',q⟩:=hl j y v' e1 e2 e3;refine ⟨u',r',?_⟩;rcases q with ⟨k,e⟩ | ⟨k,c,e,z⟩
    ·refine .inl ⟨k,?_⟩;have:y≠x:=λe=>hj (znp hN e1 (e▸hi));simp [this,e]
    ·exact .inr ⟨k,c,e,z.sameBut hs (cne y c e)⟩
  ·obtain ⟨w',z⟩:=I.cell y c e;exact ⟨w',z.sameBut hs (cne y c e)⟩
  ·obtain ⟨e,n,ne,nf,d⟩:=I.pin p hp;exact ⟨(hs.2 p.1 ne).trans e,n,ne,nf,d⟩
 ·have hfn:X.fn x=true:=by
   rcases hf with z | z
   ·exact z
   ·rw [z] at hk; cases hk
  obtain ⟨c,hc⟩:=I.ok.has x (.inl hk);obtain ⟨w',z⟩:=I.cell x c hc;refine wpAny_storeName_cell I.ok.kind hk hc z (λh' hc' hs=>?_);obtain ⟨oc,hoc,hocd⟩:=id z;refine h { s with heap:=h' } ⟨I.ok,I.os,I.bare,⟨λb o e n hb hx=>?_,λb o e n hb hx=>?_,I.base.free,λb o e hx=>?_,I.base.tups,I.base.frzs,I.base.tbls⟩,⟨m,hn.sameBut hs (Ne.symm (cne x c hc)),λj y v' e1 e2 e3=>?_⟩,λy c' e=>?_,I.free,I.freeC,λp hp=>?_,tracked ⟨oc,hoc,I.freeC x c hc⟩ hs,by simpa using I.len⟩ ⟨c,hs,.inr hc⟩
  ·exact (hs.2 b (Nat.ne_of_lt (Nat.lt_of_lt_of_le (Heap.lt_size e) (I.ok.cab x c hfn hc)))).trans (I.base.keep b o e n hb hx)
  ·obtain ⟨sl,e1⟩:=I.base.slot b o e n hb hx;exact ⟨sl,(hs.2 b (Nat.ne_of_lt (Nat.lt_of_lt_of_le (Heap.lt_size e) (I.ok.cab x c hfn hc)))).trans e1⟩
  ·obtain ⟨o',e1⟩:=I.base.there b o e hx;exact ⟨o',(hs.2 b (Nat.ne_of_lt (Nat.lt_of_lt_of_le (Heap.lt_size e) (I.ok.cab x c hfn hc)))).trans e1⟩
  ·by_cases hj:j=i
   ·subst hj;rw [hi] at e1; cases e1
    rw [List.getElem?_set_self hiσ] at e2;cases e2
    exact ⟨u,r,.inr ⟨.inl hk,c,hc,hc'⟩⟩
   ·rw [List.getElem?_set_ne (Ne.symm hj)] at e2;obtain ⟨u',r',q⟩:=hl j y v' e1 e2 e3;refine ⟨u',r',?_⟩;rcases q with q | ⟨k,c',e,z'⟩
    ·exact .inl q
    ·refine .inr ⟨k,c',e,z'.sameBut hs ?_⟩;rintro rfl;exact hj (znp hN e1 (I.ok.inj _ _ _ e hc▸hi))
  ·by_cases hcc:c'=c
   ·subst hcc; exact ⟨_,hc'⟩
   ·obtain ⟨w2,z2⟩:=I.cell y c' e;exact ⟨w2,z2.sameBut hs hcc⟩
  ·obtain ⟨e,n,ne,nf,d⟩:=I.pin p hp;refine ⟨(hs.2 p.1 ?_).trans e,n,ne,nf,d⟩;intro q;rw [q,hoc] at e;have q':oc=p.2:=Option.some.inj e;exact d w' (by rw [<- q']; exact hocd)
theorem ziC {M:Model} {A:Around} {E:Value->Shared->Prop} {i:Nat} {x:Str} {v:V} {u:Value} {Q:Unit->Shared->Prop} (I:Inv X pins σ H s) (hN:X.N.Nodup) (hi:X.N[i]? = some x) (hx:Loc X.env.scope x) (r:RelV v u)
  (h:∀ s',Inv X pins (σ.set i (some v)) H s'->Q () s') (hf:X.fn x=true\/X.env.scope.names.lookup x=some .local:=by first | exact .inl rfl | exact .inr rfl | assumption):wpAny M A (storeName X.env x u) Q E s:=
 zlg I hN hi hx r (λs' I' _=>h s' I') hf
theorem Inv.call' {s':Shared} {ch:List Addr} (I:Inv X pins σ H s) (ho:s'.os=s.os) (u:Un (frs X.stack) ch H H' s.heap s'.heap) (hok:HOk X.prog X.w H' s'.heap) (hg:AllBare s'.gens)
  (hch:∀ b∈ch,(b∈X.ex\/X.s₀.heap.objs.size<=b)/\b≠X.env.locals/\(∀ x c,X.env.cells.lookup x=some c->c≠b)/\∀ p∈X.pn++pins,p.1≠b):Inv X pins σ H' s':=by
 obtain ⟨h',g',d',t',o'⟩:=s';have e:o'=s.os:=ho;subst e;exact I.call (g':=g') (t':=t') (d':=d') u hok hg hch
end
abbrev XK:=Value->Option Addr->Hp->Prop
abbrev St:=List (Option V)
abbrev VK:=V->Hp->Prop
abbrev TE:=St->Hp->VK->Prop
abbrev TT:=St->Hp->(Bool->Hp->Prop)->Prop
abbrev TA:=St->Hp->(List V->Hp->Prop)->Prop
structure Ends where
 nx:St->Hp->Prop
 rt:VK
 bk:St->Hp->Prop:=λ_ _=>False
 ct:St->Hp->Prop:=λ_ _=>False
abbrev TS:=Ends->St->Hp->Prop
def EP (X:Cx) (pins:List (Addr×Obj)) (σ:St) (Q:VK) (u:Value) (s':Shared):Prop:=∃ v H',Inv X pins σ H' s'/\RelV v u/\Q v H'
def TP (X:Cx) (pins:List (Addr×Obj)) (σ:St) (Q:Bool->Hp->Prop) (b:Bool) (s':Shared):Prop:=∃ H',Inv X pins σ H' s'/\Q b H'
def AP (X:Cx) (pins:List (Addr×Obj)) (σ:St) (Q:List V->Hp->Prop) (us:List Value) (s':Shared):Prop:=∃ vs H',Inv X pins σ H' s'/\Vals vs us/\Q vs H'
def SP (X:Cx) (pins:List (Addr×Obj)) (D:Ends) (f:Flow) (s':Shared):Prop:=
 match f with
 | .next=>∃ σ' H',Inv X pins σ' H' s'/\D.nx σ' H'
 | .brk=>∃ σ' H',Inv X pins σ' H' s'/\D.bk σ' H'
 | .cont=>∃ σ' H',Inv X pins σ' H' s'/\D.ct σ' H'
 | .ret u=>∃ v σ' H',Inv X pins σ' H' s'/\RelV v u/\D.rt v H'
def PE (X:Cx) (e:Expr) (t:TE):Prop:=
 ∀ (pins:List (Addr×Obj)) (s:Shared) (σ:St) (H:Hp) (Q:VK),Inv X pins σ H s->t σ H Q->wpAny (model X.prog X.w) X.A (eval e X.env) (EP X pins σ Q) X.xe s
def PT (X:Cx) (e:Expr) (t:TT):Prop:=
 ∀ (pins:List (Addr×Obj)) (s:Shared) (σ:St) (H:Hp) (Q:Bool->Hp->Prop),Inv X pins σ H s->t σ H Q->wpAny (model X.prog X.w) X.A (isTrue e X.env (eval e X.env)) (TP X pins σ Q) X.xe s
def PW (X:Cx) (e:Expr) (t:TT):Prop:=
 ∀ (whole:Sem Value) (pins:List (Addr×Obj)) (s:Shared) (σ:St) (H:Hp) (Q:Bool->Hp->Prop),Inv X pins σ H s->t σ H Q->wpAny (model X.prog X.w) X.A (isTrue e X.env whole) (TP X pins σ Q) X.xe s
theorem PW.pt {X:Cx} {e:Expr} {t:TT} (h:PW X e t):PT X e t:=h _
def PA (X:Cx) (es:List Expr) (t:TA):Prop:=
 ∀ (pos:Pos) (pins:List (Addr×Obj)) (s:Shared) (σ:St) (H:Hp) (Q:List V->Hp->Prop),Inv X pins σ H s->t σ H Q->wpAny (model X.prog X.w) X.A (spliced (backTo pos (starEach es X.env))) (AP X pins σ Q) X.xe s
def PS (X:Cx) (st:Stmt) (t:TS):Prop:=
 ∀ (pins:List (Addr×Obj)) (s:Shared) (σ:St) (H:Hp) (D:Ends),Inv X pins σ H s->t D σ H->wpAny (model X.prog X.w) X.A (exec st X.env) (SP X pins D) X.xe s
def PSs (X:Cx) (st:List Stmt) (t:TS):Prop:=
 ∀ (pins:List (Addr×Obj)) (s:Shared) (σ:St) (H:Hp) (D:Ends),Inv X pins σ H s->t D σ H->wpAny (model X.prog X.w) X.A (execs st X.env) (SP X pins D) X.xe s
theorem thn {α:Type} {t:Sem α} {Q Q':α->Shared->Prop} {M:Model} {A:Around} {E:Value->Shared->Prop} {s:Shared} (h:wpAny M A t Q E s) (hQ:∀ a s,Q a s->Q' a s):wpAny M A t Q' E s:=wpAny_mono h hQ λ_ _ x=>x
section
variable {X:Cx}
def zrv (i:Nat):TE:=λσ H Q=>∃ v,σ[i]? = some (some v)/\Q v H
def tC (v:V):TE:=λ_ H Q=>Q v H
theorem zjY {i:Nat} {x:Str} {pos:Pos} (hN:X.N[i]? = some x) (hv:Vis X.env.scope x) (hd:(x==("__debug__":Str))=false:=by decide) (hcd:(x==("__classdict__":Str))=false:=by decide):PE X (.Name x pos) (zrv i):=by
 intro pins s σ H Q I h;obtain ⟨v,e,h⟩:=h;obtain ⟨m,hn,hl⟩:=I.loc;obtain ⟨u,r,l⟩:=hl i x v hN e hv;have fin:EP X pins σ Q u s:=⟨v,H,I,r,h⟩
 rcases l with ⟨hk,hm⟩ | ⟨hk,c,hc,hcell⟩
 ·exact wpAny_Name (wpAny_loadName_local I.ok.kind hk hn hm fin) hd
 ·rcases hk with hk | hk
  ·exact wpAny_Name (wpAny_loadName_cell I.ok.kind hk hc hcell fin) hd
  ·exact wpAny_Name (wpAny_loadName_free I.ok.kind hk hc hcell fin hcd) hd
theorem zxk {i j pos}:PE X (.Constant (.int i) j pos) (tC (.int i)):=λ_ _ _ H _ I h=>wpAny_Constant_int ⟨.int i,H,I.tok _,⟨_,rfl⟩,h⟩
theorem zAV {b j pos}:PE X (.Constant (.bool b) j pos) (tC (.bl b)):=λ_ _ _ H _ I h=>Constant_bool ⟨.bl b,H,I,rfl,h⟩
theorem zxl {j pos}:PE X (.Constant .none j pos) (tC .non):=λ_ _ _ H _ I h=>Constant_none ⟨.non,H,I,rfl,h⟩
theorem zxm {x j pos}:PE X (.Constant (.str x) j pos) (tC (.str x)):=λ_ _ _ H _ I h=>Calls.Constant_str ⟨.str x,H,I.tok _,⟨_,rfl⟩,h⟩
def Gl (X:Cx) (x:Str):Prop:=X.env.kindOf x=some .globalImplicit
theorem zf8 {E:Value->Shared->Prop} {pins:List (Addr×Obj)} {s:Shared} {σ:St} {H:Hp} {x:Str} {u:Value} {pos:Pos} {Q:Value->Shared->Prop} (I:Inv X pins σ H s) (hg:Gl X x) (hm:X.mg x=some u) (h:Q u s)
  (hd:(x==("__debug__":Str))=false:=by decide):wpAny (model X.prog X.w) X.A (eval (.Name x pos) X.env) Q E s:=
 Calls.Name_function_global I.ok.kind hg (Calls.loadGlobal_global (by rw [I.ok.glob]; exact I.mod.glob.keeps I.bk) hm h) hd
theorem zgV {E:Value->Shared->Prop} {pins:List (Addr×Obj)} {s:Shared} {σ:St} {H:Hp} {x:Str} {u:Value} {pos:Pos} {Q:Value->Shared->Prop} (I:Inv X pins σ H s) (hg:Gl X x) (hm:X.mg x=none) (hv:bootBuiltins x=some u) (h:Q u s)
  (hn:x≠"__name__":=by decide) (hd:(x==("__debug__":Str))=false:=by decide):wpAny (model X.prog X.w) X.A (eval (.Name x pos) X.env) Q E s:=by
 obtain ⟨mb,h1,h2⟩:=I.mod.blt;exact Calls.Name_function_global I.ok.kind hg (Calls.loadGlobal_builtin (by rw [I.ok.glob]; exact I.mod.glob.keeps I.bk) hm (by rw [I.ok.blt]; exact h1.keeps I.bk) ((h2 x hn).trans hv) h) hd
theorem zmq {x:Str} {v:V} {u:Value} {pos:Pos} (hg:Gl X x) (hm:X.mg x=some u) (r:RelV v u) (hd:(x==("__debug__":Str))=false:=by decide):PE X (.Name x pos) (tC v):=
 λ_ _ _ H _ I h=>zf8 I hg hm ⟨v,H,I,r,h⟩ hd
theorem zud {x:Str} {v:V} {u:Value} {pos:Pos} (hg:Gl X x) (hm:X.mg x=none) (hv:bootBuiltins x=some u) (r:RelV v u) (hn:x≠"__name__":=by decide) (hd:(x==("__debug__":Str))=false:=by decide):PE X (.Name x pos) (tC v):=
 λ_ _ _ H _ I h=>zgV I hg hm hv ⟨v,H,I,r,h⟩ hn hd
variable {a b:Expr} {ta tb:TE} {pos:Pos}
def tB (t:TE):TT:=λσ H Q=>t σ H λx H1=>∃ c,x=.bl c/\Q c H1
theorem zxn {e:Expr} {t:TE} (h:PE X e t) (he:∀ whole,isTrue e X.env whole=(do let v <- whole; standAt e.pos; holding [v] (truthy v)):=by intro _; rfl):PT X e (tB t):=by
 intro pins s σ H Q I hw;refine isTrue_plain (thn (h pins s σ H _ I hw) λv s1 ⟨x,H1,I1,r1,q1⟩=>?_) (he _);obtain ⟨d,rfl,q⟩:=q1;cases r1
 exact wpAny_truthy_bool ⟨H1,I1,q⟩
variable {tA tB':TT} {zaL:List Expr}
def zue (t u:TT):TT:=λσ H Q=>t σ H λc H1=>if c=true then u σ H1 Q else Q false H1
def tOr (t u:TT):TT:=λσ H Q=>t σ H λc H1=>if c=true then Q true H1 else u σ H1 Q
def zta (t:TT):TT:=λσ H Q=>t σ H λc H1=>Q (!c) H1
theorem pw_and1 (ha:PT X a tA):PW X (.BoolOp .And [a] pos) tA:=by
 intro wh pins s σ H Q I h;refine isTrue_and (thn (ha pins s σ H Q I h) λc s1 e=>?_);cases c with
 | true=>exact isTrue_and_nil e
 | false=>exact e
theorem pw_or1 (ha:PT X a tA):PW X (.BoolOp .Or [a] pos) tA:=by
 intro wh pins s σ H Q I h;refine isTrue_or (thn (ha pins s σ H Q I h) λc s1 e=>?_);cases c with
 | false=>exact isTrue_or_nil e
 | true=>exact e
theorem pw_and (ha:PT X a tA) (hb:PW X (.BoolOp .And (b :: zaL) pos) tB'):PW X (.BoolOp .And (a :: b :: zaL) pos) (zue tA tB'):=by
 intro wh pins s σ H Q I h;refine isTrue_and (thn (ha pins s σ H _ I h) λc s1 ⟨H1,I1,q1⟩=>?_);cases c with
 | true=>exact hb wh pins s1 σ H1 Q I1 q1
 | false=>exact ⟨H1,I1,q1⟩
theorem pw_or (ha:PT X a tA) (hb:PW X (.BoolOp .Or (b :: zaL) pos) tB'):PW X (.BoolOp .Or (a :: b :: zaL) pos) (tOr tA tB'):=by
 intro wh pins s σ H Q I h;refine isTrue_or (thn (ha pins s σ H _ I h) λc s1 ⟨H1,I1,q1⟩=>?_);cases c with
 | true=>exact ⟨H1,I1,q1⟩
 | false=>exact hb wh pins s1 σ H1 Q I1 q1
theorem zxo (ha:PT X a tA):PT X (.UnaryOp .Not a pos) (zta tA):=by
 intro pins s σ H Q I h;exact isTrue_not (ha pins s σ H (λc H1=>Q (!c) H1) I h)
def zxp (ta tb:TE):TE:=λσ H Q=>ta σ H λx H1=>∃ c,x=.bl c/\if c=true then tb σ H1 Q else Q (.bl false) H1
def zCq (ta tb:TE):TE:=λσ H Q=>ta σ H λx H1=>∃ c,x=.bl c/\if c=true then Q (.bl true) H1 else tb σ H1 Q
theorem zxq {op} {t:TE} (h:PE X a t):PE X (.BoolOp op [a] pos) t:=λpins s σ H Q I hw=>BoolOp_one (h pins s σ H Q I hw)
theorem zxr (ha:PE X a ta) (hb:PE X (.BoolOp .And (b :: zaL) pos) tb):PE X (.BoolOp .And (a :: b :: zaL) pos) (zxp ta tb):=by
 intro pins s σ H Q I h;refine BoolOp_and (thn (ha pins s σ H _ I h) λv s1 ⟨x,H1,I1,r1,q1⟩=>?_);obtain ⟨c,rfl,q1⟩:=q1;cases r1
 refine wpAny_truthy_bool ?_;cases c with
 | true=>exact hb pins s1 σ H1 Q I1 q1
 | false=>exact ⟨.bl false,H1,I1,rfl,q1⟩
theorem zAW (ha:PE X a ta) (hb:PE X (.BoolOp .Or (b :: zaL) pos) tb):PE X (.BoolOp .Or (a :: b :: zaL) pos) (zCq ta tb):=by
 intro pins s σ H Q I h;refine BoolOp_or (thn (ha pins s σ H _ I h) λv s1 ⟨x,H1,I1,r1,q1⟩=>?_);obtain ⟨c,rfl,q1⟩:=q1;cases r1
 refine wpAny_truthy_bool ?_;cases c with
 | false=>exact hb pins s1 σ H1 Q I1 q1
 | true=>exact ⟨.bl true,H1,I1,rfl,q1⟩
def tIf (t:TT) (ta tb:TE):TE:=λσ H Q=>t σ H λc H1=>if c=true then ta σ H1 Q else tb σ H1 Q
theorem zrw {c:Expr} (hc:PT X c tA) (ha:PE X a ta) (hb:PE X b tb):PE X (.IfExp c a b pos) (tIf tA ta tb):=by
 intro pins s σ H Q I h;refine wpAny_IfExp (thn (hc pins s σ H _ I h) λd s1 ⟨H1,I1,q1⟩=>?_);cases d with
 | true=>exact ha pins s1 σ H1 Q I1 q1
 | false=>exact hb pins s1 σ H1 Q I1 q1
end
def SqL (K:W.Frag) (H:Hp) (a:Addr) (xs:List V):Prop:=
 Rd H a (.lst xs)\/
  ∃ (o:Obj) (its:Array Value) (n:Nat),K.lookup a=some o/\o.cls=.type "list"/\o.dict=none/\o.data=.seq its n/\its.size<=sizeLine/\Vals xs its.toList
def SqT (K:W.Frag) (H:Hp) (a:Addr) (xs:List V):Prop:=
 Rd H a (.tup xs)\/
  ∃ (o:Obj) (its:Array Value) (n:Nat),K.lookup a=some o/\o.cls=.type "tuple"/\o.data=.seq its n/\its.size<=sizeLine/\Vals xs its.toList
def zDr:Value->Option V
 | .none=>some .non
 | .bool b=>some (.bl b)
 | .int i _=>some (.int i)
 | .str x _=>some (.str x)
 | .bytes b _=>some (.byt b)
 | .float b _=>some (.flt b)
 | .ref a=>some (.ref a)
 | .type n=>some (.ty n)
 | _=>none
theorem RelV.abs {x:V} {u:Value} (r:RelV x u):zDr u=some x:=by
 cases x with
 | non=>cases r; rfl
 | bl _=>cases r; rfl
 | int _=>obtain ⟨t,rfl⟩:=r; rfl
 | str _=>obtain ⟨t,rfl⟩:=r; rfl
 | byt _=>obtain ⟨t,rfl⟩:=r; rfl
 | flt _=>obtain ⟨t,rfl⟩:=r; rfl
 | ref _=>cases r; rfl
 | ty _=>cases r; rfl
theorem RelV.inj {x y:V} {u:Value} (r:RelV x u) (q:RelV y u):x=y:=Option.some.inj (r.abs.symm.trans q.abs)
theorem Vals.inj:∀ {xs ys:List V} {us:List Value},Vals xs us->Vals ys us->xs=ys
 | _,_,_,.nil,.nil=>rfl
 | _,_,_,.cons r t,.cons r' t'=>by rw [r.inj r',Vals.inj t t']
section
variable {X:Cx} {pins:List (Addr×Obj)} {σ:St} {H:Hp} {s:Shared} {a:Addr} {xs ys:List V}
theorem Inv.list (I:Inv X pins σ H s) (h:SqL X.K H a xs):∃ its:List Value,Vals xs its/\PlainL s.heap a its.toArray/\xs.length<=sizeLine:=by
 rcases h with h | ⟨o,its,n,hk,hc,hd,hs,hz,r⟩
 ·obtain ⟨z,its,n,r,e⟩:=h.ok I.hok;exact ⟨its,r,⟨_,n,e,rfl,rfl,rfl⟩,z⟩
 ·refine ⟨its.toList,r,⟨o,n,I.kIn a o hk,hc,hd,by simpa using hs⟩,?_⟩;have e:=r.length;simp only [Array.length_toList] at e;omega
theorem Inv.tuple (I:Inv X pins σ H s) (h:SqT X.K H a xs):∃ its:List Value,Vals xs its/\IsTup s.heap a its.toArray/\xs.length<=sizeLine:=by
 rcases h with h | ⟨o,its,n,hk,hc,hs,hz,r⟩
 ·obtain ⟨z,its,r,p⟩:=h.ok I.hok;exact ⟨its,r,p,z⟩
 ·refine ⟨its.toList,r,⟨o,I.kIn a o hk,hc,n,by simpa using hs⟩,?_⟩;have e:=r.length;simp only [Array.length_toList] at e;omega
theorem Inv.list_inj (I:Inv X pins σ H s) (h:SqL X.K H a xs) (h':SqL X.K H a ys):xs=ys:=by
 obtain ⟨its,r,⟨o,n,e,_,_,d⟩,_⟩:=I.list h;obtain ⟨its',r',⟨o',n',e',_,_,d'⟩,_⟩:=I.list h';rw [e] at e'; cases e'
 rw [d] at d';injection d' with d1 _
 have:its=its':=by simpa using congrArg Array.toList d1
 subst this;exact r.inj r'
theorem Inv.tuple_inj (I:Inv X pins σ H s) (h:SqT X.K H a xs) (h':SqT X.K H a ys):xs=ys:=by
 obtain ⟨its,r,⟨o,e,_,n,d⟩,_⟩:=I.tuple h;obtain ⟨its',r',⟨o',e',_,n',d'⟩,_⟩:=I.tuple h';rw [e] at e'; cases e'
 rw [d] at d';injection d' with d1 _
 have:its=its':=by simpa using congrArg Array.toList d1
 subst this;exact r.inj r'
end
abbrev Cx.wish (X:Cx) (E:Value->Shared->Prop):Cx:={ X with xe:=E }
abbrev Cx.nox (X:Cx):Cx:=X.wish λ_ _=>False
theorem Cx.Ok.wish {X:Cx} (ok:X.Ok) (E:Value->Shared->Prop):(X.wish E).Ok:=
 ⟨ok.mod,ok.kind,ok.glob,ok.blt,ok.above,ok.inj,ok.has,ok.cab,ok.hd,ok.frames,ok.stk,ok.exf,ok.bs,ok.bsz,ok.noex,ok.exfs,ok.funs,ok.frf⟩
theorem Cx.Ok.unwish {X:Cx} {E:Value->Shared->Prop} (ok:(X.wish E).Ok):X.Ok:=
 ⟨ok.mod,ok.kind,ok.glob,ok.blt,ok.above,ok.inj,ok.has,ok.cab,ok.hd,ok.frames,ok.stk,ok.exf,ok.bs,ok.bsz,ok.noex,ok.exfs,ok.funs,ok.frf⟩
section
variable {X:Cx} {pins:List (Addr×Obj)} {σ:St} {H:Hp} {s:Shared} {E:Value->Shared->Prop}
theorem Inv.wish (I:Inv X pins σ H s) (E:Value->Shared->Prop):Inv (X.wish E) pins σ H s:=⟨I.ok.wish E,I.os,I.bare,I.base,I.loc,I.cell,I.free,I.freeC,I.pin,I.hok,I.len⟩
theorem Inv.unwish (I:Inv (X.wish E) pins σ H s):Inv X pins σ H s:=⟨I.ok.unwish,I.os,I.bare,I.base,I.loc,I.cell,I.free,I.freeC,I.pin,I.hok,I.len⟩
theorem SP.unwish {D:Ends} {f:Flow} {s':Shared} (h:SP (X.wish E) pins D f s'):SP X pins D f s':=by
 cases f with
 | next=>obtain ⟨σ',H',I,q⟩:=h; exact ⟨σ',H',I.unwish,q⟩
 | brk=>obtain ⟨σ',H',I,q⟩:=h; exact ⟨σ',H',I.unwish,q⟩
 | cont=>obtain ⟨σ',H',I,q⟩:=h; exact ⟨σ',H',I.unwish,q⟩
 | ret u=>obtain ⟨v,σ',H',I,r,q⟩:=h; exact ⟨v,σ',H',I.unwish,r,q⟩
theorem PSs.nox {st:List Stmt} {t:TS} (h:PSs X.nox st t):PSs X st t:=λpins s σ H D I hw=>
 wpAny_mono (h pins s σ H D (I.wish _) hw) (λ_ _ q=>q.unwish) λ_ _ z=>False.elim z
end
section
variable {X:Cx} {st:Stmt} {zaL:List Stmt} {t u:TS} {e:Expr} {te:TE} {pos:Pos}
def zxs:TS:=λD σ H=>D.nx σ H
def zAD (t u:TS):TS:=λD σ H=>t { D with nx:=u D } σ H
theorem zuf:PSs X [] zxs:=λ_ _ σ H _ I h=>wpAny_execs_nil ⟨σ,H,I,h⟩
theorem znq (h1:PS X st t) (h2:PSs X zaL u):PSs X (st :: zaL) (zAD t u):=by
 intro pins s σ H D I h;refine wpAny_execs_cons (thn (h1 pins s σ H { D with nx:=u D } I h) λf s1 q=>?_);cases f with
 | next=>
  obtain ⟨σ',H',I',q⟩:=q;exact h2 pins s1 σ' H' D I' q
 | ret v=>exact q
 | brk=>exact q
 | cont=>exact q
theorem zoO (h1:PS X st t):PSs X [st] t:=by
 intro pins s σ H D I h;refine wpAny_execs_cons (thn (h1 pins s σ H D I h) λf s1 q=>?_);cases f with
 | next=>exact wpAny_execs_nil q
 | ret v=>exact q
 | brk=>exact q
 | cont=>exact q
theorem Inv.quiet {pins:List (Addr×Obj)} {σ:St} {H:Hp} {s:Shared} (I:Inv X pins σ H s):interactive X.env=false:=by simp [interactive,I.ok.kind]
def zug (te:TE):TS:=λD σ H=>te σ H λ_ H1=>D.nx σ H1
theorem zuh (he:PE X e te) (hs:swapsWith e none pos.line X.env=pure false:=by rfl):PS X (.Expr e pos) (zug te):=by
 intro pins s σ H D I h;exact wpAny_Expr_any (thn (he pins s σ H _ I h) λv s1 ⟨x,H1,I1,r1,q1⟩=>⟨σ,H1,I1,q1⟩) I.quiet hs
def zAX (te:TE):TS:=λD σ H=>te σ H D.rt
theorem ztb (he:PE X e te):PS X (.Return (some e) pos) (zAX te):=by
 intro pins s σ H D I h;exact wpAny_Return_some (thn (he pins s σ H _ I h) λv s1 ⟨x,H1,I1,r1,q1⟩=>⟨x,σ,H1,I1,r1,q1⟩)
def zAY (c:TT) (t u:TS):TS:=λD σ H=>c σ H λb H1=>if b=true then t D σ H1 else u D σ H1
theorem zxt {c:Expr} {a b:List Stmt} {tc:TT} (hc:PT X c tc) (ha:PSs X a t) (hb:PSs X b u):PS X (.If c a b pos) (zAY tc t u):=by
 intro pins s σ H D I h;refine wpAny_If (thn (hc pins s σ H _ I h) λd s1 ⟨H1,I1,q1⟩=>?_);cases d with
 | true=>exact ha pins s1 σ H1 D I1 q1
 | false=>exact hb pins s1 σ H1 D I1 q1
end
abbrev TG:=V->St->Hp->(St->Hp->Prop)->Prop
abbrev TGs:=List V->St->Hp->(St->Hp->Prop)->Prop
def PG (X:Cx) (target:Expr) (t:TG):Prop:=
 ∀ (pins:List (Addr×Obj)) (s:Shared) (σ:St) (H:Hp) (v:V) (u:Value) (Q:St->Hp->Prop),Inv X pins σ H s->RelV v u->t v σ H Q->
  wpAny (model X.prog X.w) X.A (assign target X.env u) (λ_ s'=>∃ σ' H',Inv X pins σ' H' s'/\Q σ' H') X.xe s
def PGs (X:Cx) (ts:List Expr) (t:TGs):Prop:=
 ∀ (pins:List (Addr×Obj)) (s:Shared) (σ:St) (H:Hp) (vs:List V) (us:List Value) (Q:St->Hp->Prop),Inv X pins σ H s->Vals vs us->t vs σ H Q->
  wpAny (model X.prog X.w) X.A (assignInOrder ((assignEach ts X.env).map (·.2)) us) (λ_ s'=>∃ σ' H',Inv X pins σ' H' s'/\Q σ' H') X.xe s
section
variable {X:Cx} {pos:Pos}
def zmr (i:Nat):TG:=λv σ H Q=>Q (σ.set i (some v)) H
theorem zui {i:Nat} {x:Str} (hN:X.N.Nodup) (hi:X.N[i]? = some x) (hx:Loc X.env.scope x) (hf:X.fn x=true\/X.env.scope.names.lookup x=some .local:=by first | exact .inl rfl | exact .inr rfl | assumption):PG X (.Name x pos) (zmr i):=by
 intro pins s σ H v u Q I r h;exact wpAny_assign_Name (ziC I hN hi hx r (λs' I'=>⟨_,H,I',h⟩) hf)
def zCr:TGs:=λvs σ H Q=>vs=[]/\Q σ H
def zxu (t:TG) (u:TGs):TGs:=λvs σ H Q=>∃ v r,vs=v :: r/\t v σ H λσ' H'=>u r σ' H' Q
theorem zuj:PGs X [] zCr:=by
 intro pins s σ H vs us Q I r h;obtain ⟨e,h⟩:=h;subst e;cases r
 exact assignInOrder_nil ⟨σ,H,I,h⟩
theorem zrx {e:Expr} {es:List Expr} {t:TG} {u:TGs} (h1:PG X e t) (h2:PGs X es u)
  (hs:(assignEach (e :: es) X.env).map (·.2)=assign e X.env :: (assignEach es X.env).map (·.2):=by rfl):PGs X (e :: es) (zxu t u):=by
 intro pins s σ H vs us Q I r h;obtain ⟨v,vr,e1,h⟩:=h;subst e1;cases r with
 | cons r rr=>
  rw [hs];refine assignInOrder_cons (thn (h1 pins s σ H _ _ _ I r h) λ_ s1 ⟨σ1,H1,I1,q1⟩=>?_);exact h2 pins s1 σ1 H1 _ _ Q I1 rr q1
def zAZ (K:W.Frag) (n:Nat) (t:TGs):TG:=λv σ H Q=>∃ a xs,v=.ref a/\SqT K H a xs/\xs.length=n/\t xs σ H Q
theorem zxv {es:List Expr} {k:Nat} {t:TGs} {n:Nat} (hc:X.calm=true) (h:PGs X es t)
  (hn:(assignEach es X.env).length=n:=by rfl) (hst:(assignEach es X.env).findIdx? (·.1)=none:=by rfl):PG X (.Tuple es k pos) (zAZ X.K n t):=by
 intro pins s σ H v u Q I r hw;obtain ⟨a,xs,e1,hq,hl,hw⟩:=hw;subst e1;cases r
 obtain ⟨its,rv,ht,hz⟩:=I.tuple hq;refine assign_Tuple_tuple (I.ok.hd hc) ht (by simp [hn,<- hl,rv.length]) hst λh' hx=>?_;have I1:Inv X pins σ H { s with heap:=h' }:=I.kept (t':=s.toks) λb o e=>hx b o (Nat.ne_of_lt (Heap.lt_size e)) e;exact h pins _ σ H xs _ Q I1 (by simpa using rv) hw
def zuk (te:TE) (g:TG):TS:=λD σ H=>te σ H λx H1=>g x σ H1 D.nx
theorem zxw {tg e:Expr} {te:TE} {g:TG} (he:PE X e te) (hg:PG X tg g) (hs:swapsWithSole [tg] e pos.line X.env=pure false:=by rfl) (hw:swappedStores [tg] e X.env=pure none:=by rfl)
  (h1:(assignEach [tg] X.env).map (·.2)=[assign tg X.env]:=by rfl):PS X (.Assign [tg] e pos) (zuk te g):=by
 intro pins s σ H D I h;refine wpAny_Assign_stores (thn (he pins s σ H _ I h) λv s1 ⟨x,H1,I1,r1,q1⟩=>?_) hs hw;rw [h1];exact thn (hg pins s1 σ H1 x v _ I1 r1 q1) λ_ s2 q=>q
theorem zxx {i:Nat} {x:Str} {e:Expr} {te:TE} {pos':Pos} (hN:X.N.Nodup) (hi:X.N[i]? = some x) (hx:Loc X.env.scope x) (he:PE X e te) (hs:swapsWith e (some (.Name x pos')) pos.line X.env=pure false:=by rfl) (hf:X.fn x=true\/X.env.scope.names.lookup x=some .local:=by first | exact .inl rfl | exact .inr rfl | assumption) :
  PS X (.Assign [.Name x pos'] e pos) (zuk te (zmr i)):=by
 intro pins s σ H D I h;refine wpAny_Assign_Name (thn (he pins s σ H _ I h) λv s1 ⟨y,H1,I1,r1,q1⟩=>?_) hs;exact ziC I1 hN hi hx r1 (λs2 I2=>⟨_,H1,I2,q1⟩) hf
end
section
variable {X:Cx} {pos:Pos}
end
structure It where
 go:Nat->Hp->Prop
 yld:Nat->Hp->V->Hp->Prop
 stop:Nat->Hp->Prop
def zjv (X:Cx) (pins:List (Addr×Obj)) (H:Hp) (b:Addr):Prop:=
 H b=none/\b≠X.env.locals/\b∉X.fs/\(b∈X.ex\/X.s₀.heap.objs.size<=b)/\(∀ x c,X.env.cells.lookup x=some c->c≠b)/\∀ p∈X.pn++pins,p.1≠b
theorem Inv.fpOk {X:Cx} {pins:List (Addr×Obj)} {σ:St} {H H':Hp} {s:Shared} {b:Addr} (I:Inv X pins σ H s) (hb:s.heap.objs.size<=b) (hn:H' b=none):zjv X pins H' b:=by
 refine ⟨hn,Nat.ne_of_gt (Nat.lt_of_lt_of_le I.lt hb),I.nofs hb,.inr (Nat.le_trans I.sz hb),λx c e z=>?_,λp hp z=>?_⟩
 ·obtain ⟨v,q⟩:=I.cell x c e;exact absurd (Nat.lt_of_lt_of_le q.lt (by rw [z]; exact hb)) (Nat.lt_irrefl _)
 ·exact absurd (Nat.lt_of_lt_of_le (Heap.lt_size (I.pin p hp).1) (by rw [z]; exact hb)) (Nat.lt_irrefl _)
structure Turn (P:Program) (w:World) (K:W.Frag) (tg:Expr) (J:It) (fp:List Addr) (it:Addr) (tn:Nat->Heap->Prop):Prop where
 mem:it∈fp
 obj:∀ i h,tn i h->∀ b∈fp,∃ o,h.get? b=some o/\∀ v,o.data≠.cell v
 keep:∀ i h h',tn i h->(∀ b∈fp,∀ o,h.get? b=some o->h'.get? b=some o)->tn i h'
 item:∀ (X:Cx),X.prog=P->X.w=w->X.K=K->X.calm=true->∀ (i:Nat) (pins:List (Addr×Obj)) (s:Shared) (σ:St) (H:Hp) (E:Value->Shared->Prop),Inv X pins σ H s->(∀ b∈fp,zjv X pins H b)->tn i s.heap->J.go i H->
  wpAny (model P w) X.A (pyNext (.ref it)) (λr s1=>∃ u,r=some u/\
   wpAny (model P w) X.A (letOwnedTupleGo tg (.ref it) u) (λ_ s2=>∃ x H',Inv X pins σ H' s2/\RelV x u/\J.yld i H x H'/\tn (i+1) s2.heap/\∀ b∈fp,H' b=none) E s1) E s
 done:∀ (X:Cx),X.prog=P->X.w=w->X.K=K->X.calm=true->∀ (i:Nat) (pins:List (Addr×Obj)) (s:Shared) (σ:St) (H:Hp) (E:Value->Shared->Prop),Inv X pins σ H s->(∀ b∈fp,zjv X pins H b)->tn i s.heap->J.stop i H->
  wpAny (model P w) X.A (pyNext (.ref it)) (λr s1=>r=none/\Inv X pins σ H s1) E s
 self:∀ (A:Around) (i:Nat) (s:Shared) (Q:Value->Shared->Prop) (E:Value->Shared->Prop),tn i s.heap->Q (.ref it) s->wpAny (model P w) A (pyIter (.ref it)) Q E s
abbrev TI:=St->Hp->(It->Hp->Prop)->Prop
def PIE (X:Cx) (pins:List (Addr×Obj)) (σ:St) (tg:Expr) (R:It->Hp->Prop) (itv:Value) (s2:Shared):Prop:=
 ∃ (it:Addr) (fp:List Addr) (tn:Nat->Heap->Prop) (J:It) (H':Hp),itv=.ref it/\Inv X pins σ H' s2/\Turn X.prog X.w X.K tg J fp it tn/\tn 0 s2.heap/\(∀ b∈fp,zjv X pins H' b)/\R J H'
def PI (X:Cx) (tg iter:Expr) (wi:TI):Prop:=
 ∀ (pins:List (Addr×Obj)) (s:Shared) (σ:St) (H:Hp) (R:It->Hp->Prop),Inv X pins σ H s->wi σ H R->
  wpAny (model X.prog X.w) X.A (eval iter X.env) (λv s1=>wpAny (model X.prog X.w) X.A (pyIter v) (PIE X pins σ tg R) X.xe s1) X.xe s
theorem zoP {M : Model} {A : Around} {E : Value -> Shared -> Prop} {s : Shared} {tg : Expr} {it : Addr} {u : Value} {o : Obj} {n : String} {vs : Array Value} {Q : Unit -> Shared -> Prop} (ho : s.heap.get? it = some o) (hc : o.cls = .type n) (hd : o.data = .fields vs)
    (hn : ["enumerate", "zip", "dict_itemiterator", "dict_reverseitemiterator", "odict_iterator", "itertools.zip_longest", "itertools.pairwise"].contains n = false) (hQ : Q () s) : wpAny M A (letOwnedTupleGo tg (.ref it) u) Q E s := by
  unfold letOwnedTupleGo;cases tg <;> first
    | exact wpAny_pure hQ
    | (cases u <;> first
        | exact wpAny_pure hQ
        | (refine wpAny_bind (wpAny_load ho ?_)
           rw [hc, hd];show wpAny M A (if (["enumerate", "zip", "dict_itemiterator", "dict_reverseitemiterator", "odict_iterator", "itertools.zip_longest", "itertools.pairwise"].contains n && vs[0]? == some (rawInt _)) = true then _ else _) Q E s;rw [if_neg (by intro h; rw [hn, Bool.false_and] at h; cases h)];exact wpAny_pure hQ))
def Itl (K:W.Frag) (a:Addr):It:=
 ⟨λi H=>∃ xs x,SqL K H a xs/\xs[i]? = some x,λi H x H'=>H'=H/\∀ xs,SqL K H a xs->xs[i]? = some x,λi H=>∃ xs,SqL K H a xs/\xs.length<=i⟩
def Itt (K:W.Frag) (a:Addr):It:=
 ⟨λi H=>∃ xs x,SqT K H a xs/\xs[i]? = some x,λi H x H'=>H'=H/\∀ xs,SqT K H a xs->xs[i]? = some x,λi H=>∃ xs,SqT K H a xs/\xs.length<=i⟩
def Itr (lo:Int) (n:Nat):It:=⟨λi _=>i < n,λi H x H'=>H'=H/\x=.int (lo+i),λi _=>n<=i⟩
theorem zoQ {P:Program} {w:World} {K:W.Frag} {tg:Expr} (a it:Addr):Turn P w K tg (Itl K a) [it] it (λi h=>h.IsListIter it a i) where
 mem:=by simp
 obj:=λi h st b hb=>by
  have e:b=it:=by simpa using hb
  subst e;obtain ⟨o,e,c,d⟩:=st;exact ⟨o,e,λv z=>by rw [d] at z; cases z⟩
 keep:=λi h h' st k=>st.at λo e=>k it (by simp) o e
 item:=by
  intro X hP hw hK hc i pins s σ H E I hf st hg;subst hP hw hK;obtain ⟨xs,x,hq,hx⟩:=hg;obtain ⟨its,rv,p,hz⟩:=I.list hq;obtain ⟨u,hu,ru⟩:=rv.get hx;obtain ⟨f0,f1,f2,f3,f4,f5⟩:=hf it (by simp);refine wpAny_pyNext_list_item st p.isList (x:=u) (by simpa using hu) λh' st' sb=>?_;have I1:Inv X pins σ H { s with heap:=h' }:=I.turned (t':=s.toks) (λb o hb e=>(sb.2 b hb).trans e) f0 f1 f3 f4 f5;obtain ⟨o,e,c,d⟩:=id st'
  exact ⟨u,rfl,zoP (s:={ s with heap:=h' }) e c d (by decide) ⟨x,H,I1,ru,⟨rfl,λys hy=>by rw [I.list_inj hy hq]; exact hx⟩,st',λb hb=>(hf b hb).1⟩⟩
 done:=by
  intro X hP hw hK hc i pins s σ H E I hf st hg;subst hP hw hK;obtain ⟨xs,hq,hx⟩:=hg;obtain ⟨its,rv,p,hz⟩:=I.list hq;obtain ⟨f0,f1,f2,f3,f4,f5⟩:=hf it (by simp);have hl:=rv.length;exact wpAny_pyNext_list_end (I.ok.hd hc) st p.isList (by simp; omega) λh' eb=>⟨rfl,I.turned (t':=s.toks) (λb o hb e=>eb b o hb e) f0 f1 f3 f4 f5⟩
 self:=λ_ _ _ _ _ st h=>wpAny_pyIter_listiter st h
theorem znW {P:Program} {w:World} {K:W.Frag} {tg:Expr} (a it:Addr):Turn P w K tg (Itt K a) [it] it (λi h=>h.IsTupleIter it a i) where
 mem:=by simp
 obj:=λi h st b hb=>by
  have e:b=it:=by simpa using hb
  subst e;obtain ⟨o,e,c,d⟩:=st;exact ⟨o,e,λv z=>by rw [d] at z; cases z⟩
 keep:=λi h h' st k=>st.at λo e=>k it (by simp) o e
 item:=by
  intro X hP hw hK hc i pins s σ H E I hf st hg;subst hP hw hK;obtain ⟨xs,x,hq,hx⟩:=hg;obtain ⟨its,rv,p,hz⟩:=I.tuple hq;obtain ⟨u,hu,ru⟩:=rv.get hx;obtain ⟨f0,f1,f2,f3,f4,f5⟩:=hf it (by simp);refine wpAny_pyNext_tuple_item st (show s.heap.IsTuple a its.toArray from p) (x:=u) (by simpa using hu) λh' st' sb=>?_;have I1:Inv X pins σ H { s with heap:=h' }:=I.turned (t':=s.toks) (λb o hb e=>(sb.2 b hb).trans e) f0 f1 f3 f4 f5
  obtain ⟨o,e,c,d⟩:=id st';exact ⟨u,rfl,zoP (s:={ s with heap:=h' }) e c d (by decide) ⟨x,H,I1,ru,⟨rfl,λys hy=>by rw [I.tuple_inj hy hq]; exact hx⟩,st',λb hb=>(hf b hb).1⟩⟩
 done:=by
  intro X hP hw hK hc i pins s σ H E I hf st hg;subst hP hw hK;obtain ⟨xs,hq,hx⟩:=hg;obtain ⟨its,rv,p,hz⟩:=I.tuple hq;obtain ⟨f0,f1,f2,f3,f4,f5⟩:=hf it (by simp);have hl:=rv.length;exact wpAny_pyNext_tuple_end (I.ok.hd hc) st (show s.heap.IsTuple a its.toArray from p) (by simp; omega) λh' eb=>⟨rfl,I.turned (t':=s.toks) (λb o hb e=>eb b o hb e) f0 f1 f3 f4 f5⟩
 self:=λ_ _ _ _ _ st h=>wpAny_pyIter_tupleiter st h
theorem znX {P:Program} {w:World} {K:W.Frag} {tg:Expr} (it:Addr) (lo:Int) (n:Nat):Turn P w K tg (Itr lo n) [it] it (λi h=>IsRangeIter h it (lo+(i:Nat)*1) ((n:Int)-(i:Nat)) 1) where
 mem:=by simp
 obj:=λi h st b hb=>by
  have e:b=it:=by simpa using hb
  subst e;exact ⟨_,st,λv z=>by
   have z':Data.fields _=Data.cell v:=z;cases z'⟩
 keep:=λi h h' st k=>k it (by simp) _ st
 item:=by
  intro X hP hw hK hc i pins s σ H E I hf st hg;subst hP hw hK;obtain ⟨f0,f1,f2,f3,f4,f5⟩:=hf it (by simp);have W:=Walks.range (prog:=X.prog) (w:=X.w) (I.ok.hd hc) it lo 1 n;refine W.item i s _ _ hg st λv h' tk hv st' kk=>?_;obtain ⟨t,rfl⟩:=hv;have I1:Inv X pins σ H { s with heap:=h',toks:=tk }:=I.turned (λb o hb e=>kk b o (by simpa using hb) e) f0 f1 f3 f4 f5;refine ⟨_,rfl,zoP (s:={ s with heap:=h',toks:=tk }) (n:="range_iterator") st' rfl rfl (by decide) ⟨.int (lo+i),H,I1,⟨t,?_⟩,⟨rfl,rfl⟩,st',λb hb=>(hf b hb).1⟩⟩
  rw [Int.mul_one]
 done:=by
  intro X hP hw hK hc i pins s σ H E I hf st hg;subst hP hw hK;obtain ⟨f0,f1,f2,f3,f4,f5⟩:=hf it (by simp);exact wpAny_pyNext_range_end (I.ok.hd hc) st (by have:n<=i:=hg; omega) λh' eb=>⟨rfl,I.turned (t':=s.toks) (λb o hb e=>eb b o hb e) f0 f1 f3 f4 f5⟩
 self:=λ_ _ _ _ _ st h=>wpAny_pyIter_rangeiter st h
section
variable {X:Cx} {tg:Expr}
def zxy (K:W.Frag) (tl:TE):TI:=λσ H R=>tl σ H λx H1=>∃ a,x=.ref a/\(∃ xs,SqL K H1 a xs)/\R (Itl K a) H1
def zCs (K:W.Frag) (tl:TE):TI:=λσ H R=>tl σ H λx H1=>∃ a,x=.ref a/\(∃ xs,SqT K H1 a xs)/\R (Itt K a) H1
theorem zul {l:Expr} {tl:TE} (hl:PE X l tl):PI X tg l (zxy X.K tl):=by
 intro pins s σ H R I h;refine thn (hl pins s σ H _ I h) λv s1 ⟨x,H1,I1,r1,q1⟩=>?_;obtain ⟨a,e,⟨xs,hq⟩,q⟩:=q1;subst e;cases r1
 obtain ⟨its,rv,p,hz⟩:=I1.list hq;refine wpAny_pyIter_list p.isList ?_;refine ⟨s1.heap.objs.size,[s1.heap.objs.size],_,_,H1,rfl,I1.kept (t':=s1.toks) λb o e=>Heap.get?_push_of_some _ e,zoQ a _,⟨_,Heap.get?_push_size _ rfl,rfl,rfl⟩,λb hb=>?_,q⟩;have e:b=s1.heap.objs.size:=by simpa using hb
 subst e;exact I1.fpOk (Nat.le_refl _) (I1.hok.fresh (Nat.le_refl _))
theorem zxz {l:Expr} {tl:TE} (hl:PE X l tl):PI X tg l (zCs X.K tl):=by
 intro pins s σ H R I h;refine thn (hl pins s σ H _ I h) λv s1 ⟨x,H1,I1,r1,q1⟩=>?_;obtain ⟨a,e,⟨xs,hq⟩,q⟩:=q1;subst e;cases r1
 obtain ⟨its,rv,p,hz⟩:=I1.tuple hq;refine wpAny_pyIter_tuple (show s1.heap.IsTuple a its.toArray from p) ?_;refine ⟨s1.heap.objs.size,[s1.heap.objs.size],_,_,H1,rfl,I1.kept (t':=s1.toks) λb o e=>Heap.get?_push_of_some _ e,znW a _,⟨_,Heap.get?_push_size _ rfl,rfl,rfl⟩,λb hb=>?_,q⟩;have e:b=s1.heap.objs.size:=by simpa using hb
 subst e;exact I1.fpOk (Nat.le_refl _) (I1.hok.fresh (Nat.le_refl _))
theorem zry {pins:List (Addr×Obj)} {σ:St} {H:Hp} {s:Shared} {R:It->Hp->Prop} {E:Value->Shared->Prop} {lo hi:Int} {t u v:Tok} {tk:Nat} (I:Inv X pins σ H s) (h1:-(2 ^ 62)<=lo) (h2:lo < 2 ^ 62) (h3:-(2 ^ 62)<=hi) (h4:hi < 2 ^ 62)
  (q:R (Itr lo (hi-lo).toNat) H):wpAny (model X.prog X.w) X.A (pyIter (.ref s.heap.objs.size)) (PIE X pins σ tg R) E { s with heap:=s.heap.push { cls:=.type "range",data:=.fields #[.int lo t,.int hi u,.int 1 v] },toks:=tk }:=by
 refine wpAny_pyIter_range (IsRange.new ..) (small_one h1 h2 h3 h4) ?_;have I1:Inv X pins σ H { s with heap:=s.heap.push { cls:=.type "range",data:=.fields #[.int lo t,.int hi u,.int 1 v] },toks:=tk }:=I.kept λb o e=>Heap.get?_push_of_some _ e;refine ⟨(s.heap.push { cls:=.type "range",data:=.fields #[.int lo t,.int hi u,.int 1 v] }).objs.size,[(s.heap.push { cls:=.type "range",data:=.fields #[.int lo t,.int hi u,.int 1 v] }).objs.size],_,_,H,rfl,
  I1.kept (t':=tk) λb o e=>Heap.get?_push_of_some _ e,znX _ lo (hi-lo).toNat,?_,λb hb=>?_,q⟩
 ·have e1:lo+((0:Nat):Int)*1=lo:=by simp
  have e2:(((hi-lo).toNat:Nat):Int)-((0:Nat):Int)=Builtin.Range.rangeSize lo hi 1:=by rw [rangeSize_one]; split <;> omega
  show IsRangeIter _ _ (lo+((0:Nat):Int)*1) ((((hi-lo).toNat:Nat):Int)-((0:Nat):Int)) 1;rw [e1,e2];exact Heap.get?_push_size _ rfl
 ·have e:b=(s.heap.push { cls:=.type "range",data:=.fields #[.int lo t,.int hi u,.int 1 v] }).objs.size:=by simpa using hb
  subst e;exact I1.fpOk (Nat.le_refl _) (I1.hok.fresh (Nat.le_refl _))
def zum (ta:TA):TI:=λσ H R=>ta σ H λvs H1=>∃ j:Int,vs=[.int j]/\-(2 ^ 62)<=j/\j < 2 ^ 62/\R (Itr 0 j.toNat) H1
theorem zoR {a:Expr} {ta:TA} {p pos:Pos} (hg:Gl X "range") (hm:X.mg "range"=none) (ha:PA X [a] ta) (hs:starEach [a] X.env=[(false,eval a X.env)]:=by rfl):PI X tg (.Call (.Name "range" p) [a] [] pos) (zum ta):=by
 intro pins s σ H R I h;refine Call_ (zgV I hg hm boot_range (PyProof.Rows.callWith_type1 (thn (ha pos pins s σ H _ I h) λus s1 ⟨vs,H1,I1,r1,q1⟩=>?_) hs rfl));obtain ⟨j,e,q1,q2,q⟩:=q1;subst e;cases r1 with
 | cons r rr=>
  cases rr
  obtain ⟨t,rfl⟩:=r;exact call_range_1 (zry I1 (by omega) (by omega) q1 q2 (by simpa using q))
def zCt (wi:TI) (g:TG) (tb:TS):TS:=λD σ H=>wi σ H λJ H1=>∃ W:Nat->Nat->St->Hp->Prop,(∃ m,W 0 m σ H1)/\∀ i m σ H,W i m σ H->
 (J.stop i H/\D.nx σ H)\/(J.go i H/\∃ N:St->Hp->Prop,(∀ σ' H',N σ' H'->∃ m',m' < m/\W (i+1) m' σ' H')/\∀ x H',J.yld i H x H'->g x σ H' λσ2 H2=>tb { D with nx:=N,ct:=N,bk:=D.nx } σ2 H2)
def zlh (fp:List Addr) (h:Heap):List (Addr×Obj):=fp.filterMap λb=>(h.get? b).map λo=>(b,o)
theorem zfV {fp:List Addr} {h:Heap} {b:Addr} {o:Obj} (hb:b∈fp) (e:h.get? b=some o):(b,o)∈zlh fp h:=List.mem_filterMap.mpr ⟨b,hb,by rw [e]; rfl⟩
theorem zoS {fp:List Addr} {h:Heap} {p:Addr×Obj} (hp:p∈zlh fp h):p.1∈fp/\h.get? p.1=some p.2:=by
 obtain ⟨b,hb,e⟩:=List.mem_filterMap.mp hp;cases q:h.get? b with
 | none=>rw [q] at e; cases e
 | some o=>
  rw [q] at e;have e':(b,o)=p:=Option.some.inj e;subst e';exact ⟨hb,q⟩
theorem Inv.pinned {pins:List (Addr×Obj)} {σ:St} {H:Hp} {s:Shared} {fp:List Addr} (I:Inv X pins σ H s) (hf:∀ b∈fp,zjv X pins H b) (ho:∀ b∈fp,∃ o,s.heap.get? b=some o/\∀ v,o.data≠.cell v):Inv X (pins++zlh fp s.heap) σ H s:=
 I.pins_of λp hp=>(List.mem_append.mp hp).elim (λz=>I.pin p (List.mem_append_right _ z)) λz=>by
  obtain ⟨hb,e⟩:=zoS z;obtain ⟨f0,f1,f2,_⟩:=hf p.1 hb;obtain ⟨o,e',d⟩:=ho p.1 hb;rw [e] at e'; cases e'
  exact ⟨e,f0,f1,f2,d⟩
theorem Inv.unpinned {pins pl:List (Addr×Obj)} {σ:St} {H:Hp} {s:Shared} (I:Inv X (pins++pl) σ H s):Inv X pins σ H s:=I.pins_of λp hp=>I.pin p (List.mem_append_right _ (List.mem_append_left _ hp))
theorem zxA {iter:Expr} {body:List Stmt} {wi:TI} {g:TG} {tb:TS} {pos:Pos} (hp:PassesOwn (model X.prog X.w) X.A X.env X.xe) (hc:X.calm=true) (hi:PI X tg iter wi) (hg:PG X tg g) (hb:PSs X body tb)
  (hs:∀ x,foldedSetIterable iter X.env x=pure x:=by intro _; rfl):PS X (.For tg iter body [] pos) (zCt wi g tb):=by
 intro pins s σ H D I h;refine wpAny_For (thn (hi pins s σ H _ I h) λv s1 h1=>thn h1 λitv s2 h2=>?_) hs;obtain ⟨it,fp,tn,J,H2,e,I2,T,st2,f2,W,⟨m0,w0⟩,turn⟩:=h2;subst e
 -- what stays true of the iterator's objects through the loop
 have stat:∀ {H':Hp},(∀ b∈fp,H' b=none)->∀ b∈fp,zjv X pins H' b:=λhn b hb=>⟨hn b hb,(f2 b hb).2⟩
 refine codeAny_forLoop_any (λn s'=>∃ i σ' H',Inv X pins σ' H' s'/\tn i s'.heap/\(∀ b∈fp,H' b=none)/\W i n σ' H') ?_ m0 ⟨0,σ,H2,I2,st2,λb hb=>(f2 b hb).1,w0⟩;rintro n s3 ⟨i,σ3,H3,I3,st3,fr3,w3⟩;rcases turn i n σ3 H3 w3 with ⟨stop,qn⟩ | ⟨go,N,hN,step⟩
 ·refine wpAny_passesOwn hp (thn (T.done X rfl rfl rfl hc i pins s3 σ3 H3 X.xe I3 (stat fr3) st3 stop) λr s4 ⟨hr,I4⟩=>?_);subst hr;exact wpAny_execs_nil ⟨σ3,H3,I4,qn⟩
 ·refine wpAny_passesOwn hp (thn (T.item X rfl rfl rfl hc i pins s3 σ3 H3 X.xe I3 (stat fr3) st3 go) λr s4 ⟨u,hr,h4⟩=>?_);subst hr;refine wpAny_passesOwn hp (thn h4 λ_ s5 ⟨x,H5,I5,r5,y5,st5,fr5⟩=>?_);have I5':=I5.pinned (stat fr5) (T.obj _ _ st5);refine wpAny_passesOwn hp (thn (hg _ s5 σ3 H5 x u _ I5' r5 (step x H5 y5)) λ_ s6 ⟨σ6,H6,I6,q6⟩=>?_);refine wpAny_passesOwn hp (thn (hb _ s6 σ6 H6 _ I6 q6) λf s7 q7=>?_)
  have again:∀ {σ7:St} {H7:Hp},Inv X (pins++zlh fp s5.heap) σ7 H7 s7->N σ7 H7->∃ m,m < n/\∃ i σ' H',Inv X pins σ' H' s7/\tn i s7.heap/\(∀ b∈fp,H' b=none)/\W i m σ' H':=λ{σ7 H7} I7 n7=>by
   obtain ⟨m',hm,w7⟩:=hN σ7 H7 n7;refine ⟨m',hm,i+1,σ7,H7,I7.unpinned,T.keep _ _ _ st5 λb hb o e=>(I7.pin (b,o) (List.mem_append_right _ (List.mem_append_right _ (zfV hb e)))).1,λb hb=>?_,w7⟩;obtain ⟨o,e,d⟩:=T.obj _ _ st5 b hb;exact (I7.pin (b,o) (List.mem_append_right _ (List.mem_append_right _ (zfV hb e)))).2.1
  cases f with
  | next=>obtain ⟨σ7,H7,I7,n7⟩:=q7; exact again I7 n7
  | cont=>obtain ⟨σ7,H7,I7,n7⟩:=q7; exact again I7 n7
  | brk=>obtain ⟨σ7,H7,I7,q7⟩:=q7; exact ⟨σ7,H7,I7.unpinned,q7⟩
  | ret v=>obtain ⟨x7,σ7,H7,I7,r7,q7⟩:=q7; exact ⟨x7,σ7,H7,I7.unpinned,r7,q7⟩
end
abbrev R2:=V->V->Hp->VK->Prop
def OpR (X:Cx) (f:Value->Value->Sem Value) (r:R2):Prop:=
 ∀ (pins:List (Addr×Obj)) (s:Shared) (σ:St) (H:Hp) (x y:V) (v u:Value) (Q:VK),Inv X pins σ H s->RelV x v->RelV y u->r x y H Q->
  wpAny (model X.prog X.w) X.A (f v u) (EP X pins σ Q) X.xe s
def CallR (X:Cx) (f:Value) (r:List V->Hp->VK->Prop):Prop:=
 ∀ (pins:List (Addr×Obj)) (s:Shared) (σ:St) (H:Hp) (xs:List V) (us:List Value) (Q:VK),Inv X pins σ H s->Vals xs us->r xs H Q->
  wpAny (model X.prog X.w) X.A (call f us) (EP X pins σ Q) X.xe s
def tOp (r:R2) (ta tb:TE):TE:=λσ H Q=>ta σ H λx H1=>tb σ H1 λy H2=>r x y H2 Q
def rI (C:Int->Int->Prop) (g:Int->Int->V):R2:=λx y H Q=>∃ i j,x=.int i/\y=.int j/\C i j/\Q (g i j) H
def rI0 (g:Int->Int->V):R2:=λx y H Q=>∃ i j,x=.int i/\y=.int j/\Q (g i j) H
section
variable {X:Cx} {a b c:Expr} {ta tb tc:TE} {pos:Pos}
theorem zA0 (ha:PE X a ta) (hb:PE X b tb) {pins:List (Addr×Obj)} {s:Shared} {σ:St} {H:Hp} {R:V->V->Hp->Prop} (I:Inv X pins σ H s)
  (h:ta σ H λx H1=>tb σ H1 λy H2=>R x y H2) {Q:Value->Shared->Prop} {f:Value->Value->Sem Value}
  (hf:∀ v u s2 x y H2,Inv X pins σ H2 s2->RelV x v->RelV y u->R x y H2->wpAny (model X.prog X.w) X.A (f v u) Q X.xe s2) :
  wpAny (model X.prog X.w) X.A (eval a X.env) (λv s₁=>wpAny (model X.prog X.w) X.A (eval b X.env) (λu s₂=>wpAny (model X.prog X.w) X.A (f v u) Q X.xe s₂) X.xe s₁) X.xe s:=by
 refine thn (ha pins s σ H _ I h) λv s1 ⟨x,H1,I1,r1,q1⟩=>?_;refine thn (hb pins s1 σ H1 _ I1 q1) λu s2 ⟨y,H2,I2,r2,q2⟩=>?_;exact hf v u s2 x y H2 I2 r1 r2 q2
theorem zun {op:Operator} {r:R2} (ho:OpR X (binaryOp op) r) (ha:PE X a ta) (hb:PE X b tb):PE X (.BinOp a op b pos) (tOp r ta tb):=by
 intro pins s σ H Q I h;exact wpAny_BinOp (zA0 ha hb I h λv u s2 x y H2 I2 rx ry q=>ho pins s2 σ H2 x y v u Q I2 rx ry q)
theorem opI {f:Value->Value->Sem Value} {C:Int->Int->Prop} {g:Int->Int->Int}
  (rule:∀ (i j:Int) (t u:Tok) (s:Shared) (Q:Value->Shared->Prop) (E:Value->Shared->Prop),C i j->Q (.int (g i j) s.toks) { s with toks:=s.toks+1 }->wpAny (model X.prog X.w) X.A (f (.int i t) (.int j u)) Q E s) :
  OpR X f (rI C λi j=>.int (g i j)):=by
 intro pins s σ H x y v u Q I rx ry h;obtain ⟨i,j,rfl,rfl,hc,q⟩:=h;obtain ⟨t,rfl⟩:=rx;obtain ⟨t',rfl⟩:=ry;exact rule i j t t' s _ _ hc ⟨.int (g i j),H,I.tok _,⟨_,rfl⟩,q⟩
theorem zDs {f:Value->Value->Sem Value} {g:Int->Int->Int}
  (rule:∀ (i j:Int) (t u:Tok) (s:Shared) (Q:Value->Shared->Prop) (E:Value->Shared->Prop),Q (.int (g i j) s.toks) { s with toks:=s.toks+1 }->wpAny (model X.prog X.w) X.A (f (.int i t) (.int j u)) Q E s) :
  OpR X f (rI0 λi j=>.int (g i j)):=by
 intro pins s σ H x y v u Q I rx ry h;obtain ⟨i,j,rfl,rfl,q⟩:=h;obtain ⟨t,rfl⟩:=rx;obtain ⟨t',rfl⟩:=ry;exact rule i j t t' s _ _ ⟨.int (g i j),H,I.tok _,⟨_,rfl⟩,q⟩
theorem zA1 {f:Value->Value->Sem Value} {g:Int->Int->Bool}
  (rule:∀ (i j:Int) (t u:Tok) (s:Shared) (Q:Value->Shared->Prop) (E:Value->Shared->Prop),Q (.bool (g i j)) s->wpAny (model X.prog X.w) X.A (f (.int i t) (.int j u)) Q E s) :
  OpR X f (rI0 λi j=>.bl (g i j)):=by
 intro pins s σ H x y v u Q I rx ry h;obtain ⟨i,j,rfl,rfl,q⟩:=h;obtain ⟨t,rfl⟩:=rx;obtain ⟨t',rfl⟩:=ry;exact rule i j t t' s _ _ ⟨.bl (g i j),H,I,rfl,q⟩
def CMul (i j:Int):Prop:=(-(2 ^ 64) < i/\i < 2 ^ 64)\/(-(2 ^ 64) < j/\j < 2 ^ 64)
theorem CMul.ok {i j:Int} (h:CMul i j):IntMulOk i j:=by
 rcases h with ⟨h1,h2⟩ | ⟨h1,h2⟩
 ·exact .of_left (intBits_le_64 h1 h2)
 ·exact .of_right (intBits_le_64 h1 h2)
theorem zxB:OpR X (binaryOp .Add) (rI0 λi j=>.int (i+j)):=zDs λ_ _ _ _ _ _ _ q=>add_int q
theorem zxC:OpR X (binaryOp .Mult) (rI CMul λi j=>.int (i*j)):=opI λ_ _ _ _ _ _ _ hc q=>mul_int q hc.ok
theorem zcy:OpR X (binaryOp .Mod) (rI (λ_ j=>0 < j) λi j=>.int (i%j)):=opI λi j _ _ _ _ _ hc q=>by
 have h1:(0:Int) < j:=hc;exact mod_int' (by omega) (by rw [Int.fmod_eq_emod_of_nonneg i (by omega)]; exact q)
end
section
variable {X:Cx} {a b c:Expr} {ta tb tc:TE} {pos:Pos}
theorem zoT {pins:List (Addr×Obj)} {σ:St} {H:Hp} {s:Shared} {Q:VK} {k k':Bool} (I:Inv X pins σ H s) (q:Q (.bl k) H) (e:k=k'):EP X pins σ Q (.bool k') s:=by
 subst e;exact ⟨.bl k,H,I,rfl,q⟩
theorem zA2:OpR X (compareOp .Lt) (rI0 λi j=>.bl (decide (i < j))):=zA1 λ_ _ _ _ _ _ _ q=>lt_int q
theorem zA3:OpR X (compareOp .LtE) (rI0 λi j=>.bl (decide (i<=j))):=zA1 λ_ _ _ _ _ _ _ q=>le_int q
theorem zA4:OpR X (compareOp .Gt) (rI0 λi j=>.bl (decide (j < i))):=zA1 λ_ _ _ _ _ _ _ q=>gt_int q
theorem zoU:OpR X (compareOp .In) (λx y H Q=>∃ i j,x=.str i/\y=.str j/\Q (.bl (!(Builtin.Str.occurrences j i 0 j.length 1).isEmpty)) H):=by
 intro pins s σ H x y v u Q I rx ry h;obtain ⟨i,j,rfl,rfl,q⟩:=h;obtain ⟨t,rfl⟩:=rx;obtain ⟨t',rfl⟩:=ry;exact in_str (zoT I q rfl)
theorem zxD:OpR X (compareOp .Is) (λx y H Q=>y=.non/\Q (.bl (decide (x=.non))) H):=by
 intro pins s σ H x y v u Q I rx ry h;obtain ⟨rfl,q⟩:=h;cases ry
 refine is_none_gen (zoT I q ?_);cases x <;> first
  | (cases rx; rfl)
  | (obtain ⟨t,rfl⟩:=rx; rfl)
theorem zuo:OpR X (compareOp .IsNot) (λx y H Q=>y=.non/\Q (.bl (!decide (x=.non))) H):=by
 intro pins s σ H x y v u Q I rx ry h;obtain ⟨rfl,q⟩:=h;cases ry
 refine isnot_none_gen (zoT I q ?_);cases x <;> first
  | (cases rx; rfl)
  | (obtain ⟨t,rfl⟩:=rx; rfl)
theorem OpR.or {f:Value->Value->Sem Value} {r r':R2} (h:OpR X f r) (h':OpR X f r'):OpR X f (λx y H Q=>r x y H Q\/r' x y H Q):=by
 intro pins s σ H x y v u Q I rx ry q;rcases q with q | q
 ·exact h pins s σ H x y v u Q I rx ry q
 ·exact h' pins s σ H x y v u Q I rx ry q
theorem zao (b:Expr) {op:CmpOp} (h:op≠.In:=by decide) (h2:op≠.NotIn:=by decide):behindInMarks op b=false:=by
 have e1:(op==CmpOp.In)=false:=by cases op <;> first | rfl | exact absurd rfl h
 have e2:(op==CmpOp.NotIn)=false:=by cases op <;> first | rfl | exact absurd rfl h2
 cases b <;> simp [behindInMarks,e1,e2]
theorem zup {op:CmpOp} {r:R2} (ho:OpR X (compareOp op) r) (ha:PE X a ta) (hb:PE X b tb) (hm:behindInMarks op b=false):PE X (.Compare a [op] [b] pos) (tOp r ta tb):=by
 intro pins s σ H Q I h;exact wpAny_Compare1 (zA0 ha hb I h λv u s2 x y H2 I2 rx ry q=>ho pins s2 σ H2 x y v u Q I2 rx ry q) hm
def zuq (t:TE):TT:=λσ H Q=>t σ H λx H'=>∃ k,x=.bl k/\Q k H'
theorem zur {op:CmpOp} {r:R2} (ho:OpR X (compareOp op) r) (ha:PE X a ta) (hb:PE X b tb) (hm:behindInMarks op b=false):PT X (.Compare a [op] [b] pos) (zuq (tOp r ta tb)):=by
 intro pins s σ H Q I h;refine wpAny_isTrue_Compare1 (thn (ha pins s σ H _ I h) λv s1 ⟨x,H1,I1,r1,q1⟩=>thn (hb pins s1 σ H1 _ I1 q1) λu s2 ⟨y,H2,I2,r2,q2⟩=>
  thn (ho pins s2 σ H2 x y v u _ I2 r1 r2 q2) λc s3 ⟨z,H3,I3,r3,k,e,q3⟩=>?_) hm
 subst e;cases r3
 exact wpAny_truthy_bool ⟨H3,I3,q3⟩
def zoV (r r':R2) (ta tb tc:TE):TE:=λσ H Q=>ta σ H λx H1=>tb σ H1 λy H2=>r x y H2 λz H3=>∃ k,z=.bl k/\
 (if k=true then tc σ H3 λw' H4=>r' y w' H4 Q else Q (.bl false) H3)
theorem zrz {op op':CmpOp} {r r':R2} (ho:OpR X (compareOp op) r) (ho':OpR X (compareOp op') r') (ha:PE X a ta) (hb:PE X b tb) (hc:PE X c tc)
  (hm:lastMarks [op,op'] [b,c]=false:=by with_unfolding_all rfl):PE X (.Compare a [op,op'] [b,c] pos) (zoV r r' ta tb tc):=by
 intro pins s σ H Q I h;refine Compare_chain (thn (ha pins s σ H _ I h) λv s1 ⟨x,H1,I1,r1,q1⟩=>chain_link (thn (hb pins s1 σ H1 _ I1 q1) λu s2 ⟨y,H2,I2,r2,q2⟩=>
  thn (ho pins s2 σ H2 x y v u _ I2 r1 r2 q2) λd s3 ⟨z,H3,I3,r3,k,e,q3⟩=>?_)) hm
 subst e;cases r3
 refine wpAny_truthy_bool ?_;cases k with
 | false=>exact ite_ff ⟨.bl false,H3,I3,rfl,q3⟩
 | true=>exact ite_tt (chain_last (thn (hc pins s3 σ H3 _ I3 q3) λw' s4 ⟨z',H4,I4,r4,q4⟩=>ho' pins s4 σ H4 y z' u w' Q I4 r2 r4 q4))
theorem zrA {op op':CmpOp} {r r':R2} (ho:OpR X (compareOp op) r) (ho':OpR X (compareOp op') r') (ha:PE X a ta) (hb:PE X b tb) (hc:PE X c tc)
  (hm:lastMarks [op,op'] [b,c]=false:=by with_unfolding_all rfl):PT X (.Compare a [op,op'] [b,c] pos) (zuq (zoV r r' ta tb tc)):=by
 intro pins s σ H Q I h;refine isTrue_chain (thn (ha pins s σ H _ I h) λv s1 ⟨x,H1,I1,r1,q1⟩=>test_link (thn (hb pins s1 σ H1 _ I1 q1) λu s2 ⟨y,H2,I2,r2,q2⟩=>
  thn (ho pins s2 σ H2 x y v u _ I2 r1 r2 q2) λd s3 ⟨z,H3,I3,r3,k,e,q3⟩=>?_)) hm
 subst e;cases r3
 refine wpAny_truthy_bool ?_;cases k with
 | false=>
  obtain ⟨k',e',q'⟩:=q3;cases e'
  exact ite_ff ⟨H3,I3,q'⟩
 | true=>
  refine ite_tt (test_last (thn (hc pins s3 σ H3 _ I3 q3) λw' s4 ⟨z',H4,I4,r4,q4⟩=>thn (ho' pins s4 σ H4 y z' u w' _ I4 r2 r4 q4) λd' s5 ⟨z2,H5,I5,r5,k2,e2,q5⟩=>?_));subst e2;cases r5
  exact wpAny_truthy_bool ⟨H5,I5,q5⟩
theorem znr:(sizeLine:Nat) < 2 ^ 63:=by rw [sizeLine_eq]; decide
theorem znY:OpR X (binaryOp .Add) (λx y H Q=>∃ i j,x=.str i/\y=.str j/\i.length+j.length<=sizeLine/\Q (.str (i++j)) H):=by
 intro pins s σ H x y v u Q I rx ry h;obtain ⟨i,j,rfl,rfl,hz,q⟩:=h;obtain ⟨t,rfl⟩:=rx;obtain ⟨t',rfl⟩:=ry;exact add_str (λt' tk=>⟨.str (i++j),H,I.tok _,⟨_,rfl⟩,q⟩) hz
theorem zir {x:V} {us:List Value} (r:Vals [x] us):∃ u,us=[u]/\RelV x u:=by
 cases r with
 | cons r1 r2=>cases r2; exact ⟨_,rfl,r1⟩
theorem zxE {x y:V} {us:List Value} (r:Vals [x,y] us):∃ u w',us=[u,w']/\RelV x u/\RelV y w':=by
 cases r with
 | cons r1 r2=>
  cases r2 with
  | cons r3 r4=>cases r4; exact ⟨_,_,rfl,r1,r3⟩
theorem zoW (hc:X.calm=true):CallR X (.builtin "max") (λxs H Q=>∃ i j,xs=[.int i,.int j]/\Q (.int (if j > i then j else i)) H):=by
 intro pins s σ H xs us Q I r h;obtain ⟨i,j,rfl,q⟩:=h;obtain ⟨u,w',rfl,⟨t,rfl⟩,⟨t',rfl⟩⟩:=zxE r;refine max_two_ints (I.ok.hd hc) λh' tk k=>⟨_,H,I.kept k,?_,q⟩
 by_cases hj:j > i
 ·rw [if_pos hj,if_pos hj]; exact ⟨_,rfl⟩
 ·rw [if_neg hj,if_neg hj]; exact ⟨_,rfl⟩
theorem zoX (hc:X.calm=true):CallR X (.builtin "min") (λxs H Q=>∃ i j,xs=[.int i,.int j]/\Q (.int (if j < i then j else i)) H):=by
 intro pins s σ H xs us Q I r h;obtain ⟨i,j,rfl,q⟩:=h;obtain ⟨u,w',rfl,⟨t,rfl⟩,⟨t',rfl⟩⟩:=zxE r;refine min_two_ints (I.ok.hd hc) λh' tk k=>⟨_,H,I.kept k,?_,q⟩
 by_cases hj:j < i
 ·rw [if_pos hj,if_pos hj]; exact ⟨_,rfl⟩
 ·rw [if_neg hj,if_neg hj]; exact ⟨_,rfl⟩
theorem zli:CallR X (.type "int") (λxs H Q=>(∃ i,xs=[.int i]/\Q (.int i) H)\/∃ k,xs=[.bl k]/\Q (.int (if k then 1 else 0)) H):=by
 intro pins s σ H xs us Q I r h;rcases h with ⟨i,rfl,q⟩ | ⟨k,rfl,q⟩
 ·obtain ⟨u,rfl,t,rfl⟩:=zir r;exact call_int_int ⟨.int i,H,I,⟨_,rfl⟩,q⟩
 ·obtain ⟨u,rfl,r1⟩:=zir r;cases r1
  exact call_int_bool ⟨.int (if k then 1 else 0),H,I.tok _,⟨_,rfl⟩,q⟩
theorem zlj:CallR X (.type "str") (λxs H Q=>∃ i,xs=[.int i]/\i.natAbs.log2 < 1920/\Q (.str (toString i)) H):=by
 intro pins s σ H xs us Q I r h;obtain ⟨i,rfl,hz,q⟩:=h;obtain ⟨u,rfl,t,rfl⟩:=zir r;exact PySem.P.str_of_int hz ⟨.str _,H,I.tok _,⟨_,rfl⟩,q⟩
def zA5 (K:W.Frag) (x:V) (H:Hp) (n:Nat):Prop:=
 match x with
 | .str y=>y.length<=sizeLine/\n=y.length
 | .byt y=>y.size<=sizeLine/\n=y.size
 | .ref p=>(∃ xs,SqL K H p xs/\n=xs.length)\/∃ xs,SqT K H p xs/\n=xs.length
 | _=>False
theorem zrB:CallR X (.builtin "len") (λxs H Q=>∃ x n,xs=[x]/\zA5 X.K x H n/\Q (.int n) H):=by
 intro pins s σ H xs us Q I r h;obtain ⟨x,n,rfl,e,q⟩:=h;obtain ⟨u,rfl,rx⟩:=zir r;have hl:=znr;have hs:sizeLine=16777216:=sizeLine_eq;cases x with
 | str y=>
  obtain ⟨t,rfl⟩:=rx;obtain ⟨hy,e'⟩:y.length<=sizeLine/\n=y.length:=e;subst e';exact len_str (by omega) ⟨.int _,H,I.tok _,⟨_,rfl⟩,q⟩
 | byt y=>
  obtain ⟨t,rfl⟩:=rx;obtain ⟨hy,e'⟩:y.size<=sizeLine/\n=y.size:=e;subst e';exact W.len_bytes (by omega) ⟨.int _,H,I.tok _,⟨_,rfl⟩,q⟩
 | ref p=>
  cases rx
  have e':(∃ xs,SqL X.K H p xs/\n=xs.length)\/∃ xs,SqT X.K H p xs/\n=xs.length:=e;rcases e' with ⟨xs,hx,e'⟩ | ⟨xs,hx,e'⟩
  ·subst e';obtain ⟨its,r',pl,hz⟩:=I.list hx;have hlen:=r'.length;exact Calls.call_len_list pl.isList (by simp only [List.size_toArray]; omega) ⟨.int xs.length,H,I.tok _,⟨_,by simp only [List.size_toArray]; rw [hlen]⟩,q⟩
  ·subst e';obtain ⟨its,r',pl,hz⟩:=I.tuple hx;have hlen:=r'.length;exact len_tuple pl (by simp only [List.size_toArray]; omega) ⟨.int xs.length,H,I.tok _,⟨_,by simp only [List.size_toArray]; rw [hlen]⟩,q⟩
 | _=>exact (show False from e).elim
end
structure ObjM (h:Heap) (x dx C:Addr) (mA:Str->Option Value):Prop where
 obj:h.get? x=some (W.instObj C dx)
 ns:h.Ns1 dx mA
 ne:dx≠x
theorem ziG {h:Heap} {dx:Addr} {mA:Str->Option Value} (n:h.Ns1 dx mA):∃ od,h.get? dx=some od/\∀ name,W.lookIn name od=some (mA name):=by
 obtain ⟨o,es,ep,ho,hd,hk,_,hm⟩:=n;refine ⟨o,ho,λname=>?_⟩;have e:=hm name;unfold nsFind findBy at e;rw [<- Array.find?_toList] at e;unfold W.lookIn;rw [hd];dsimp only;split
 ·rename_i y q
  rw [q] at e;exact congrArg some e
 ·rename_i q
  rw [q] at e;have a:es.toList.any (·.refKey)=false:=by
   rw [List.any_eq_false];intro y hy;obtain ⟨z,t,hkey⟩:=hk y (Array.mem_toList_iff.mp hy);simp [DictEntry.refKey,hkey]
  have a':¬ es.toList.any (·.refKey)=true:=by rw [a]; exact Bool.false_ne_true
  rw [if_neg a'];exact congrArg some e
theorem ObjM.look {h:Heap} {x dx C:Addr} {mA:Str->Option Value} (I:ObjM h x dx C mA):∃ od,W.InstAt h x (W.instObj C dx) C (some od)/\∀ name,W.lookIn name od=some (mA name):=
 let ⟨od,ho,hl⟩:=ziG I.ns
 ⟨od,⟨I.obj,rfl,rfl,ho⟩,hl⟩
section
variable {prog:Program} {w:World} {A:Around} {E:Value->Shared->Prop} {s:Shared} {K:W.Frag} {x dx C f:Addr} {mA:Str->Option Value} {name:Str} {v:Value}
theorem zus {expr:Bool} {Q:Value->Shared->Prop} (X:K.In s.heap) (I:ObjM s.heap x dx C mA) (hg:W.plainGet K C name=true) (hh:W.hasDictIn K C=true)
  (ha:W.findIn K (.ref C) name=some none) (hv:mA name=some v) (hv':W.handedIn v=true) (h:Q v { s with toks:=s.toks+1 }) :
  wpAny (model prog w) A (getAttr (.ref x) name expr) Q E s:=by
 obtain ⟨od,J,hl⟩:=I.look;exact W.get_value X J (W.plainGet_of hg).1 (W.findObj_own hh ha rfl (by rw [hl,hv])) hv' h
theorem zrC {pl:Sem Bool} {Q:Value×List Value->Shared->Prop} (X:K.In s.heap) (I:ObjM s.heap x dx C mA) (hg:W.plainGet K C name=true)
  (hf:W.findIn K (.ref C) name=some (some (.ref f))) (ht:W.isFn K (.ref f)=true) (hv:mA name=none) (h:Q (.ref f,[.ref x]) s) :
  wpAny (model prog w) A (getMethod (.ref x) name pl) Q E s:=by
 obtain ⟨od,J,hl⟩:=I.look;exact W.method_fn X J (W.plainGet_of hg).1 (W.plainGet_of hg).2 hf (beq_iff_eq.mp ht) (by show (W.lookIn name od).map (·.isSome)=some false; rw [hl,hv]; rfl) h
theorem zut {ns:List Str} {Q:Unit->Shared->Prop} (X:K.In s.heap) (I:ObjM s.heap x dx C mA)
  (hs:W.findIn K (.ref C) "__setattr__"=some (some (.builtin "object.__setattr__"))) (hp:W.plainOver K C=true) (ht:W.takerIn K C name=some none) (hh:W.hasDictIn K C=true)
  (hw:PySem.Within mA ns) (hsz:ns.length<=sizeLine)
  (h:∀ h',ObjM h' x dx C (λy=>if y=name then some v else mA y)->Heap.SameBut dx s.heap h'->Q () { s with heap:=h',toks:=s.toks+2 }) :
  wpAny (model prog w) A (setAttr (.ref x) name v) Q E s:=by
 obtain ⟨od,J,hl⟩:=I.look;refine W.set_plain X J hs (W.osa_open (s:={ s with toks:=s.toks+1 }) (r:=none) X J hp ht λb=>?_);obtain ⟨cd,hc,hd'⟩:=W.any_some hh;have hx:s.heap.get? x=some ⟨.ref C,some dx,.plain,#[]⟩:=I.obj;refine wpAny_bind (wpAny_pure (wpAny_bind (wpAny_bind (wpAny_loadPart hx (wpAny_bind (W.Looks.here (s:={ s with toks:=s.toks+1 }) (W.looks_clsIn X hc) ?_))))));rw [hd'];refine wpAny_pure (a:=some dx) (wpAny_bind (wpAny_pure (wpAny_bind ?_)))
 refine wpAny_nsSet1 (s:={ s with toks:=s.toks+1 }) I.ns λh' hn2 hs2=>?_;obtain ⟨oD,esD,epD,hoD,hdD,hcD⟩:=hn2.count (PySem.Within.cons name v hw);refine wpAny_bind (wpAny_lookBehind hoD (by rw [hdD]; exact pastItsLine_dict (Nat.le_trans hcD (by rw [List.length_cons]; omega))) ?_);exact wpAny_pure (h _ ⟨(hs2.2 _ (Ne.symm I.ne)).trans I.obj,hn2,I.ne⟩ hs2)
theorem zrD {R : Result -> Shared -> Prop} {vs : List Value} {kw : List (Str × Value)} (X : K.In s.heap) (hm : W.makesIn K C = true)
    (hi : W.findIn K (.ref C) "__init__" = some (some (.ref f))) (hf : W.typeIn K (.ref f) = some (.type "function"))
    (h : codeAny (model prog w) (A.under (.builtin "type.__call__" ⟨.ref C :: vs, kw⟩)) (.call (.ref f) ⟨.ref (s.heap.objs.size + 1) :: vs, kw⟩) (W.InitBack (s.heap.objs.size + 1) R)
      { s with heap := (s.heap.push W.emptyDict).push (W.instObj C s.heap.objs.size) }) :
    codeAny (model prog w) A (.call (.ref C) ⟨vs, kw⟩) R s := by
  obtain ⟨hh, g, d, t, os⟩ := s;exact W.make_core (W.makes_of X hm) (W.looks_findIn X hi) (λself => W.bind_fn X self hf) (.inl rfl) h
end
def ziD (f:Str) (v:V):List (Str×V)->List (Str×V)
 | []=>[(f,v)]
 | (g,x) :: r=>if g=f then (g,v) :: r else (g,x) :: ziD f v r
theorem ziH (f g:Str) (v:V):∀ fs:List (Str×V),(ziD f v fs).lookup g=if g=f then some v else fs.lookup g
 | []=>by
  show List.lookup g [(f,v)]=_
  by_cases h:g=f
  ·have hb:(g==f)=true:=beq_iff_eq.mpr h;simp only [List.lookup,hb,if_pos h]
  ·have hb:(g==f)=false:=beq_eq_false_iff_ne.mpr h;simp only [List.lookup,hb,if_neg h]
 | (k,x) :: r=>by
  have ih:=ziH f g v r;rw [show ziD f v ((k,x) :: r)=(if k=f then (k,v) :: r else (k,x) :: ziD f v r) from rfl]
  by_cases hk:k=f
  ·rw [if_pos hk]
   by_cases h:g=k
   ·have hb:(g==k)=true:=beq_iff_eq.mpr h;simp only [List.lookup,hb,if_pos (h.trans hk)]
   ·have hb:(g==k)=false:=beq_eq_false_iff_ne.mpr h;simp only [List.lookup,hb,if_neg (λe:g=f=>h (e.trans hk.symm))]
  ·rw [if_neg hk]
   by_cases h:g=k
   ·have hb:(g==k)=true:=beq_iff_eq.mpr h;simp only [List.lookup,hb,if_neg (λe:g=f=>hk (h.symm.trans e))]
   ·have hb:(g==k)=false:=beq_eq_false_iff_ne.mpr h;simp only [List.lookup,hb];exact ih
theorem ziI (f:Str) (v:V):∀ fs:List (Str×V),f∈(ziD f v fs).map (·.1)/\∀ g,g∈fs.map (·.1)->g∈(ziD f v fs).map (·.1)
 | []=>⟨by simp [ziD],λg h=>by simp at h⟩
 | (k,x) :: r=>by
  obtain ⟨i1,i2⟩:=ziI f v r;rw [show ziD f v ((k,x) :: r)=(if k=f then (k,v) :: r else (k,x) :: ziD f v r) from rfl]
  by_cases hk:k=f
  ·rw [if_pos hk];subst hk;exact ⟨by simp,λg h=>by simpa using h⟩
  ·rw [if_neg hk];refine ⟨?_,λg h=>?_⟩
   ·rw [List.map_cons];exact List.mem_cons_of_mem _ i1
   ·rw [List.map_cons] at h ⊢;rcases List.mem_cons.mp h with e | e
    ·exact List.mem_cons.mpr (.inl e)
    ·exact List.mem_cons_of_mem _ (i2 g e)
theorem ziJ (f:Str) (v:V):∀ fs:List (Str×V),(ziD f v fs).length<=fs.length+1
 | []=>by simp [ziD]
 | (k,x) :: r=>by
  have ih:=ziJ f v r;rw [show ziD f v ((k,x) :: r)=(if k=f then (k,v) :: r else (k,x) :: ziD f v r) from rfl]
  by_cases hk:k=f
  ·rw [if_pos hk,List.length_cons,List.length_cons]; omega
  ·rw [if_neg hk,List.length_cons,List.length_cons]; omega
theorem RelO.some_of {v:V} {o:Option Value} (r:RelO (some v) o):∃ u,o=some u/\RelV v u:=by
 cases o with
 | none=>exact (show False from r).elim
 | some u=>exact ⟨u,rfl,r⟩
theorem RelO.none_of {o:Option Value} (r:RelO none o):o=none:=by
 cases o with
 | none=>rfl
 | some u=>exact (show False from r).elim
theorem zlk {v:V} {u:Value} (r:RelV v u):W.handedIn u=true:=by
 cases v with
 | non=>cases (show u=Value.none from r); rfl
 | bl b=>cases (show u=Value.bool b from r); rfl
 | int i=>obtain ⟨t,e⟩:=(show ∃ t,u=Value.int i t from r); cases e; rfl
 | str x=>obtain ⟨t,e⟩:=(show ∃ t,u=Value.str x t from r); cases e; rfl
 | byt b=>obtain ⟨t,e⟩:=(show ∃ t,u=Value.bytes b t from r); cases e; rfl
 | flt b=>obtain ⟨t,e⟩:=(show ∃ t,u=Value.float b t from r); cases e; rfl
 | ref a=>cases (show u=Value.ref a from r); rfl
 | ty n=>cases (show u=Value.type n from r); rfl
section
variable {P:Program} {w:World} {H H':Hp} {h h':Heap} {a C dx:Addr} {fs fs':List (Str×V)}
theorem zku (hok:HOk P w H h) (e:H a=some (.ins C dx fs)):∃ mA,ObjM h a dx C mA/\(∀ f,RelO (fs.lookup f) (mA f))/\PySem.Within mA (fs.map (·.1))/\fs.length<=1000/\H dx=some (.own a):=by
 obtain ⟨d,z,ne,ob,mA,n,r,q⟩:=(show ObjOk P w H h a (.ins C dx fs) from hok a _ e)
 exact ⟨mA,⟨ob,n,ne⟩,r,q,z,d⟩
end
structure Cls (K:W.Frag) (C:Addr):Prop where
 pg:W.plainGet K C Str.empty=true
 hd:W.hasDictIn K C=true
 po:W.plainOver K C=true
 sa:W.findIn K (.ref C) "__setattr__"=some (some (.builtin "object.__setattr__"))
theorem Cls.get {K:W.Frag} {C:Addr} (c:Cls K C) (f:Str):W.plainGet K C f=true:=c.pg
def NoAttr (K:W.Frag) (C:Addr) (f:Str):Prop:=W.findIn K (.ref C) f=some none
theorem NoAttr.taker {K:W.Frag} {C:Addr} {f:Str} (n:NoAttr K C f):W.takerIn K C f=some none:=by
 unfold W.takerIn;rw [show W.findIn K (.ref C) f=some none from n];rfl
structure Meth (K:W.Frag) (C:Addr) (m:Str) (f:Addr):Prop where
 at_:W.findIn K (.ref C) m=some (some (.ref f))
 fn:W.isFn K (.ref f)=true
 kp:W.keepIn K (.ref f)=true
section
variable {X:Cx} {pins:List (Addr×Obj)} {σ:St} {H:Hp} {s:Shared} {a C dx:Addr} {fs:List (Str×V)} {f:Str} {v:V} {A:Around} {E:Value->Shared->Prop}
theorem znZ {b:Bool} {Q:Value->Shared->Prop} (I:Inv X pins σ H s) (e:H a=some (.ins C dx fs)) (c:Cls X.K C) (n:NoAttr X.K C f) (l:fs.lookup f=some v)
  (h:∀ u s',Inv X pins σ H s'->RelV v u->Q u s'):wpAny (model X.prog X.w) A (getAttr (.ref a) f b) Q E s:=by
 obtain ⟨mA,O,r,_,_,_⟩:=zku I.hok e;obtain ⟨u,hu,ru⟩:=RelO.some_of (v:=v) (o:=mA f) (by rw [<- l]; exact r f);exact zus I.kIn O (c.get f) c.hd n hu (zlk ru) (h u _ (I.tok _) ru)
theorem zn0 {m:Str} {g:Addr} {pl:Sem Bool} {Q:Value×List Value->Shared->Prop} (I:Inv X pins σ H s) (e:H a=some (.ins C dx fs)) (c:Cls X.K C) (k:Meth X.K C m g) (l:fs.lookup m=none)
  (h:Q (.ref g,[.ref a]) s):wpAny (model X.prog X.w) A (getMethod (.ref a) m pl) Q E s:=by
 obtain ⟨mA,O,r,_,_,_⟩:=zku I.hok e;have hn:mA m=none:=RelO.none_of (by rw [<- l]; exact r m);exact zrC I.kIn O (c.get m) k.at_ k.fn hn h
theorem zn1 {y:V} {u:Value} {Q:Unit->Shared->Prop} (I:Inv X pins σ H s) (e:H a=some (.ins C dx fs)) (c:Cls X.K C) (n:NoAttr X.K C f) (hl:fs.length < 1000) (ry:RelV y u)
  (h:∀ s',Inv X pins σ (upd H a (.ins C dx (ziD f y fs))) s'->Q () s'):wpAny (model X.prog X.w) A (setAttr (.ref a) f u) Q E s:=by
 obtain ⟨mA,O,r,wi,_,ho⟩:=zku I.hok e;have hz:(fs.map (·.1)).length<=sizeLine:=by rw [List.length_map,sizeLine_eq]; omega
 refine zut I.kIn O c.sa c.po n.taker c.hd wi hz λh' O' sb=>h _ ?_;have hd:∃ o,h'.get? dx=some o:=let ⟨o,_,_,e',_⟩:=O'.ns; ⟨o,e'⟩;refine I.write (x:=a) (e:=dx) (by rw [e]; exact True.intro) (.inr ho) (λb q hb z=>(sb.2 b hb).trans z) hd ?_;refine ⟨by rw [zas O.ne]; exact ho,?_,O.ne,O'.obj,_,O'.ns,λg=>?_,λg hg=>?_⟩
 ·have:=ziJ f y fs; omega
 ·show RelO ((ziD f y fs).lookup g) (if g=f then some u else mA g);rw [ziH]
  by_cases q:g=f
  ·rw [if_pos q,if_pos q]; exact ry
  ·rw [if_neg q,if_neg q]; exact r g
 ·by_cases q:g=f
  ·rw [q]; exact (ziI f y fs).1
  ·refine (ziI f y fs).2 g (wi g λz=>hg ?_);show (if g=f then some u else mA g)=none;rw [if_neg q]; exact z
theorem Inv.made (I:Inv X pins σ H s):Inv X pins σ (upd (upd H s.heap.objs.size (.own (s.heap.objs.size+1))) (s.heap.objs.size+1) (.ins C s.heap.objs.size []))
  { s with heap:=(s.heap.push W.emptyDict).push (W.instObj C s.heap.objs.size) }:=by
 have e1:(s.heap.push W.emptyDict).get? s.heap.objs.size=some W.emptyDict:=Heap.get?_push_size s.heap rfl;have e2:((s.heap.push W.emptyDict).push (W.instObj C s.heap.objs.size)).get? (s.heap.objs.size+1)=some (W.instObj C s.heap.objs.size):=by
  have:=Heap.get?_push_size (s.heap.push W.emptyDict) (o:=W.instObj C s.heap.objs.size) rfl
  rwa [Heap.size_push] at this
 have e3:(s.heap.push W.emptyDict).Ns s.heap.objs.size (λ_=>none):=⟨W.emptyDict,#[],_,e1,rfl,(λe he=>absurd he (by simp)),λ_=>rfl⟩
 have I1:=I.laid (a:=s.heap.objs.size) (o:=.own (s.heap.objs.size+1)) (h':=s.heap.push W.emptyDict) (t':=s.toks) (λb u q=>Heap.get?_push_of_some _ q) (Nat.le_refl _) ⟨_,e1⟩;refine I1.laid (a:=s.heap.objs.size+1) (o:=.ins C s.heap.objs.size []) (t':=s.toks) (λb u q=>Heap.get?_push_of_some _ q) (Nat.le_of_eq (Heap.size_push _ _)) ?_;have ne:s.heap.objs.size≠s.heap.objs.size+1:=Nat.ne_of_lt (Nat.lt_succ_self _)
 refine ⟨by rw [zas ne,zaB],Nat.zero_le _,ne,e2,λ_=>none,(Heap.Ns1.of_empty e3).at λo q=>Heap.get?_push_of_some _ q,λ_=>True.intro,λy hy=>absurd rfl hy⟩
theorem zoY {prog:Program} {w:World} {env:Env} {e:Expr} {f:Str} {pos:Pos} {s:Shared} {Q:Value->Shared->Prop} (hb:attributeBase e f env (eval e env)=eval e env)
  (h:wpAny (model prog w) A (eval e env) (λo s₁=>wpAny (model prog w) A (getAttr o f true) Q E s₁) E s):wpAny (model prog w) A (eval (.Attribute e f pos) env) Q E s:=
 Attribute_any_ h (by rw [arm_eval_Attribute,hb])
end
def zA6 (K:W.Frag) (ta:TE) (f:Str):TE:=λσ H Q=>ta σ H λx H1=>∃ a C dx fs v,x=.ref a/\H1 a=some (.ins C dx fs)/\Cls K C/\NoAttr K C f/\fs.lookup f=some v/\Q v H1
def zAE (K:W.Frag) (ta tv:TE) (f:Str):TS:=λD σ H=>tv σ H λy H1=>ta σ H1 λx H2=>∃ a C dx fs,x=.ref a/\H2 a=some (.ins C dx fs)/\Cls K C/\NoAttr K C f/\fs.length < 1000/\
 D.nx σ (upd H2 a (.ins C dx (ziD f y fs)))
section
variable {X:Cx} {o e value:Expr} {f:Str} {pos pos' tpos:Pos} {ta tv:TE}
theorem zxF (he:PE X e ta) (hb:attributeBase e f X.env (eval e X.env)=eval e X.env):PE X (.Attribute e f pos) (zA6 X.K ta f):=by
 intro pins s σ H Q I h;refine zoY hb (thn (he pins s σ H _ I h) λu s1 ⟨x,H1,I1,rx,a,C,dx,fs,v,ex,ea,c,n,l,q⟩=>?_);subst ex;obtain rfl:u=Value.ref a:=rx;exact znZ I1 ea c n l λu' s2 I2 ru=>⟨v,H1,I2,ru,q⟩
theorem zxG (ha:PE X o ta) (hv:PE X value tv) (hs:swapsWith value (some (.Attribute o f pos')) pos.line X.env=pure false):PS X (.Assign [.Attribute o f pos'] value pos) (zAE X.K ta tv f):=by
 intro pins s σ H D I h;refine plainObj_wpAny_Assign_Attribute (thn (hv pins s σ H _ I h) λu s1 ⟨y,H1,I1,ry,q⟩=>thn (ha pins s1 σ H1 _ I1 q) λov s2 ⟨x,H2,I2,rx,a,C,dx,fs,ex,ea,c,n,l,q2⟩=>?_) hs;subst ex;obtain rfl:ov=Value.ref a:=rx;exact zn1 I2 ea c n l ry λs3 I3=>⟨σ,_,I3,q2⟩
end
section
variable {X:Cx} {pins:List (Addr×Obj)} {σ:St} {H:Hp} {s:Shared} {A:Around} {E:Value->Shared->Prop} {Q:Value->Shared->Prop} {c:Value} {b:Bool}
inductive TyOf (K:W.Frag) (H:Hp):V->Value->Prop where
 | non:TyOf K H .non (.type "NoneType")
 | bl (x:Bool):TyOf K H (.bl x) (.type "bool")
 | int (i:Int):TyOf K H (.int i) (.type "int")
 | str (x:Str):TyOf K H (.str x) (.type "str")
 | flt (x:UInt64):TyOf K H (.flt x) (.type "float")
 | lst {a:Addr} {xs:List V} (e:H a=some (.lst xs)):TyOf K H (.ref a) (.type "list")
 | frz {a:Addr} {o:Obj} {xs:List V} (e:H a=some (.frz o (.lst xs))):TyOf K H (.ref a) (.type "list")
 | tup {a:Addr} {xs:List V} (e:H a=some (.tup xs)):TyOf K H (.ref a) (.type "tuple")
 | dK {a:Addr} {kvs:List (Key×V)} (e:H a=some (.dK kvs)):TyOf K H (.ref a) (.type "dict")
 | dT {a:Addr} {kvs:List (List Key×V)} (e:H a=some (.dT kvs)):TyOf K H (.ref a) (.type "dict")
 | ins {a C dx:Addr} {fs:List (Str×V)} (e:H a=some (.ins C dx fs)) (cl:Cls K C) (ha:W.findIn K (.ref C) "__class__"=some (some (.builtin "object.__class__")))
   (hn:W.specialIn K (.builtin "object.__class__") "__get__"=some (some (.builtin "getset_descriptor.__get__"))) (htk:W.takesIn K (.builtin "object.__class__")=some true)
   (hm:W.mroIn K C (.type "object")=some true):TyOf K H (.ref a) (.ref C)
theorem zll {x:V} {u t:Value} (I:Inv X pins σ H s) (rx:RelV x u) (ty:TyOf X.K H x t) (e:W.kitOne X.K t c=some b) (h:∀ tk,Q (.bool b) { s with toks:=tk }) :
  wpAny (model X.prog X.w) A (call (.builtin "isinstance") [u,c]) Q E s:=by
 cases ty with
 | non=>cases (show u=Value.none from rx); exact W.kia_one W.kitx_none I.kIn True.intro e (λz=>nomatch z) h
 | bl y=>cases (show u=Value.bool y from rx); exact W.kia_one W.kitx_bool I.kIn True.intro e (λz=>nomatch z) h
 | int i=>obtain ⟨t,q⟩:=(show ∃ t,u=Value.int i t from rx); cases q; exact W.kia_one W.kitx_int I.kIn True.intro e (λz=>nomatch z) h
 | str y=>obtain ⟨t,q⟩:=(show ∃ t,u=Value.str y t from rx); cases q; exact W.kia_one W.kitx_str I.kIn True.intro e (λz=>nomatch z) h
 | flt y=>obtain ⟨t,q⟩:=(show ∃ t,u=Value.float y t from rx); cases q; exact W.kia_one W.kitx_float I.kIn True.intro e (λz=>nomatch z) h
 | @lst a xs ea=>
  cases (show u=Value.ref a from rx)
  obtain ⟨_,_,n,_,h1⟩:=(show ObjOk X.prog X.w H s.heap a (.lst xs) from I.hok a _ ea)
  exact W.kia_one W.kitx_list I.kIn ⟨_,h1,rfl⟩ e (λz=>nomatch z) h
 | @frz a ob xs ea=>
  cases (show u=Value.ref a from rx)
  obtain ⟨_,_,_,n,_,h1⟩:=(show ObjOk X.prog X.w H s.heap a (.frz ob (.lst xs)) from I.hok a _ ea)
  exact W.kia_one W.kitx_list I.kIn ⟨_,h1,rfl⟩ e (λz=>nomatch z) h
 | @tup a xs ea=>
  cases (show u=Value.ref a from rx)
  obtain ⟨_,_,_,p⟩:=(show ObjOk X.prog X.w H s.heap a (.tup xs) from I.hok a _ ea)
  obtain ⟨o,h1,h2,_⟩:=p;exact W.kia_one W.kitx_tuple I.kIn ⟨o,h1,h2⟩ e (λz=>nomatch z) h
 | @dK a kvs ea=>
  cases (show u=Value.ref a from rx)
  obtain ⟨_,_,vs,_,p⟩:=(show ObjOk X.prog X.w H s.heap a (.dK kvs) from I.hok a _ ea)
  obtain ⟨o,es,ep,h1,h2,_⟩:=p;exact W.kia_one W.kitx_dict I.kIn ⟨o,h1,h2.1⟩ e (λz=>nomatch z) h
 | @dT a kvs ea=>
  cases (show u=Value.ref a from rx)
  obtain ⟨_,_,xs,_,o,es,ep,h1,h2,_⟩:=(show ObjOk X.prog X.w H s.heap a (.dT kvs) from I.hok a _ ea)
  exact W.kia_one W.kitx_dict I.kIn ⟨o,h1,h2.1⟩ e (λz=>nomatch z) h
 | @ins a C dx fs ea cl ha hn htk hm=>
  cases (show u=Value.ref a from rx)
  obtain ⟨mA,O,_⟩:=zku I.hok ea;obtain ⟨od,J,_⟩:=O.look;exact W.kia_one (W.kitx_own (cl.get _) cl.hd ha hn htk hm) I.kIn J e (λz=>nomatch z) h
end
structure Room (k:Nat) (A:Around):Prop where
 hd:A.handled=none
 dp:A.depth+3*k+5 < recursionLimit
 un:A.units+16*k+200 < cLine
theorem Room.mono {j k:Nat} {A:Around} (r:Room k A) (h:j<=k):Room j A:=⟨r.hd,by have:=r.dp; omega,by have:=r.un; omega⟩
theorem Room.deeper {k:Nat} {A:Around} (r:Room (k+1) A) (env:Env):Room k (A.deeper env):=
 ⟨r.hd,by have:=r.dp; show A.depth+1+3*k+5 < _; omega,by have:=r.un; show A.units+3+16*k+200 < _; omega⟩
theorem zn2 {A:Around} {C:Addr} {us:List Value} {kw:List (Str×Value)}:(A.under (.builtin "type.__call__" ⟨.ref C :: us,kw⟩)).depth=A.depth+1:=by
 first | rfl | simp [Around.under,Code.weight,Code.isCreation,Code.isGuard,Code.isCaller,Code.frames,Code.isFrame,guardIds]
theorem zn3 {A:Around} {C:Addr} {us:List Value} {kw:List (Str×Value)}:(A.under (.builtin "type.__call__" ⟨.ref C :: us,kw⟩)).units=A.units+1:=by
 first | rfl | simp [Around.under,Code.cUnits,Code.frames,Code.isFrame]
theorem Room.make {k:Nat} {A:Around} (r:Room (k+1) A) (C:Addr) (us:List Value) (kw:List (Str×Value)):Room k (A.under (.builtin "type.__call__" ⟨.ref C :: us,kw⟩)):=
 ⟨r.hd,by have:=r.dp; rw [zn2]; omega,by have:=r.un; rw [zn3]; omega⟩
theorem Room.depth {k:Nat} {A:Around} (r:Room k A):A.depth < recursionLimit:=by have:=r.dp; omega
def ztc:TA:=λ_ H Q=>Q [] H
def zn4 (ta:TE) (tr:TA):TA:=λσ H Q=>ta σ H λx H1=>tr σ H1 λxs H2=>Q (x :: xs) H2
section
variable {X:Cx} {e:Expr} {es:List Expr} {te:TE} {t:TA} {pos:Pos}
theorem zoZ:PA X [] ztc:=λ_ _ _ _ H Q I h=>Calls.spliced_nil ⟨[],H,I,.nil,h⟩
theorem zms (ha:PE X e te) (hr:PA X es t) (hs:starEach (e :: es) X.env=(false,eval e X.env) :: starEach es X.env:=by rfl):PA X (e :: es) (zn4 te t):=by
 intro pos pins s σ H Q I h;rw [hs];show wpAny _ _ (spliced ((false,eval e X.env) :: backTo pos (starEach es X.env))) _ _ s;refine Calls.spliced_cons (thn (ha pins s σ H _ I h) λu s1 ⟨x,H1,I1,r1,q1⟩=>?_);exact thn (hr pos pins s1 σ H1 _ I1 q1) λus s2 ⟨xs,H2,I2,r2,q2⟩=>⟨x :: xs,H2,I2,.cons r1 r2,q2⟩
def zCu (t:TA):TE:=λσ H Q=>t σ H λxs H1=>xs.length<=sizeLine/\∀ p,H1 p=none->Q (.ref p) (upd H1 p (.tup xs))
def zCv (t:TA):TE:=λσ H Q=>t σ H λxs H1=>xs.length<=sizeLine/\∀ p,H1 p=none->Q (.ref p) (upd H1 p (.lst xs))
theorem zxH {x1} (h:PA X es t):PE X (.Tuple es x1 pos) (zCu t):=by
 intro pins s σ H Q I hq;refine wpAny_Tuple_spliced (thn (h pos pins s σ H _ I hq) λus s1 ⟨xs,H1,I1,r,z,q⟩=>⟨by rw [<- r.length]; exact z,?_⟩);have hf:H1 s1.heap.objs.size=none:=I1.hok.fresh (Nat.le_refl _);refine ⟨.ref s1.heap.objs.size,upd H1 s1.heap.objs.size (.tup xs),I1.laid (t':=s1.toks) (λb u e=>Heap.get?_push_of_some _ e) (Nat.le_refl _) ?_,rfl,q _ hf⟩;exact ⟨z,us,r,⟨_,Heap.get?_push_size _ rfl,rfl,_,rfl⟩⟩
theorem zxI (h:PA X es t):PE X (.List es pos) (zCv t):=by
 intro pins s σ H Q I hq;refine wpAny_List_spliced (thn (h pos pins s σ H _ I hq) λus s1 ⟨xs,H1,I1,r,z,q⟩=>⟨by rw [<- r.length]; exact z,?_⟩);have hf:H1 s1.heap.objs.size=none:=I1.hok.fresh (Nat.le_refl _);refine ⟨.ref s1.heap.objs.size,upd H1 s1.heap.objs.size (.lst xs),I1.laid (t':=s1.toks) (λb u e=>Heap.get?_push_of_some _ e) (Nat.le_refl _) ?_,rfl,q _ hf⟩;exact ⟨z,us,0,r,Heap.get?_push_size _ rfl⟩
end
abbrev Sp:=List V->Hp->VK->XK->Prop
abbrev CXT:=List Env->Hp->Shared->XK->Value->Shared->Prop
structure Env0 (P:Program) (w:World) (K:W.Frag) (mg:Str->Option Value) (base:Heap) (A:Around) (outer:List Env) (s:Shared) (H:Hp):Prop where
 frames:A.frames=some outer
 mod:Mod K mg base
 bs:∀ b o,base.get? b=some o->s.heap.get? b=some o/\H b=none
 bsz:base.objs.size<=s.heap.objs.size
 funs:s.heap.FunFrames base outer
 frf:∀ b∈frs outer,H b=none
 hok:HOk P w H s.heap
 bare:AllBare s.gens
def CE (outer:List Env) (P:Program) (w:World) (H:Hp) (s:Shared) (Q:VK) (u:Value) (s':Shared):Prop:=
 ∃ v H',s'.os=s.os/\AllBare s'.gens/\Un (frs outer) [] H H' s.heap s'.heap/\HOk P w H' s'.heap/\RelV v u/\Q v H'
def CR (CX:CXT) (outer:List Env) (P:Program) (w:World) (H:Hp) (s:Shared) (Q:VK) (E:XK) (r:Result) (s':Shared):Prop:=
 match r with
 | .ok (.ret u)=>CE outer P w H s Q u s'
 | .ok _=>False
 | .error e=>CX outer H s E e s'
structure FnOk (P:Program) (w:World) (K:W.Frag) (mg:Str->Option Value) (base:Heap) (CX:CXT) (k:Nat) (f:Addr) (fd:FuncData) (ps:List Str) (sp:Sp):Prop where
 len:∀ vs H Q E,sp vs H Q E->vs.length=ps.length
 run:∀ (A:Around) (outer:List Env) (s:Shared) (H:Hp) (args:Args) (us:List Value) (vs:List V) (Q:VK) (E:XK),Room k A->Env0 P w K mg base A outer s H->BindsTo s fd args (ps.zip us)->Vals vs us->sp vs H Q E->
  codeAny (model P w) A (.call (.ref f) args) (CR CX outer P w H s Q E) s
theorem FnOk.imp {P:Program} {w:World} {K:W.Frag} {mg:Str->Option Value} {base:Heap} {CX:CXT} {k:Nat} {f:Addr} {fd:FuncData} {ps:List Str} {sp sp':Sp} (F:FnOk P w K mg base CX k f fd ps sp)
  (h:∀ vs H Q E,sp' vs H Q E->sp vs H Q E):FnOk P w K mg base CX k f fd ps sp':=
 ⟨λvs H Q E q=>F.len vs H Q E (h _ _ _ _ q),λA outer s H args us vs Q E hr he hb hv hs=>F.run A outer s H args us vs Q E hr he hb hv (h _ _ _ _ hs)⟩
theorem Env0.make {P:Program} {w:World} {K:W.Frag} {mg:Str->Option Value} {base:Heap} {A:Around} {outer:List Env} {s:Shared} {H:Hp} (e:Env0 P w K mg base A outer s H) (C:Addr) (us:List Value) (kw:List (Str×Value)) :
  Env0 P w K mg base (A.under (.builtin "type.__call__" ⟨.ref C :: us,kw⟩)) outer s H:=⟨by first | exact e.frames | (simpa [Around.under,Code.envs,Code.isFrame,pushEnvs] using e.frames),e.mod,e.bs,e.bsz,e.funs,e.frf,e.hok,e.bare⟩
section
variable {X:Cx} {pins:List (Addr×Obj)} {σ:St} {H:Hp} {s s':Shared}
theorem Inv.env0 (I:Inv X pins σ H s):Env0 X.prog X.w X.K X.mg X.base X.A X.stack s H:=
 ⟨I.ok.frames,I.ok.mod,I.bs,Nat.le_trans I.ok.bsz I.sz,I.stack,I.stkFree,I.hok,I.bare⟩
theorem Inv.after {Q:VK} {u:Value} (I:Inv X pins σ H s) (h:CE X.stack X.prog X.w H s Q u s'):EP X pins σ Q u s':=by
 obtain ⟨v,H',os,bare,un,hok,r,q⟩:=h;obtain ⟨hh,g,d,t,os'⟩:=s';obtain rfl:os'=s.os:=os;exact ⟨v,H',I.call (h':=hh) (g':=g) (d':=d) (t':=t) (ch:=[]) un hok bare (λb z=>absurd z (by simp)),r,q⟩
end
def zo0 (sp:Sp) (dvs:List V) (E:XK) (t:TA):TE:=λσ H Q=>t σ H λvs H1=>sp (vs++dvs) H1 Q E
def zxJ (C:Addr) (m:Str) (sp:Sp) (dvs:List V) (E:XK) (ta:TE) (t:TA):TE:=λσ H Q=>ta σ H λx H1=>∃ a dx fs,x=.ref a/\H1 a=some (.ins C dx fs)/\fs.lookup m=none/\
 t σ H1 λvs H2=>sp (x :: (vs++dvs)) H2 Q E
def zxK (C:Addr) (sp:Sp) (dvs:List V) (E:XK) (t:TA):TE:=λσ H Q=>t σ H λvs H1=>∀ x dx,H1 x=none->H1 dx=none->dx≠x->
 sp (.ref x :: (vs++dvs)) (upd (upd H1 dx (.own x)) x (.ins C dx [])) (λv H2=>v=.non/\Q (.ref x) H2) E
def Binds (K:W.Frag) (fd:FuncData) (ps:List Str) (ds:List Value):Prop:=
 ∀ (s:Shared) (us:List Value),K.In s.heap->(us++ds).length=ps.length->BindsTo s fd ⟨us,[]⟩ (ps.zip (us++ds))
theorem Binds.all {K:W.Frag} {fd:FuncData} {ps:List Str} (h:∀ us:List Value,us.length=ps.length->bindArgs fd ⟨us,[]⟩=pure (ps.zip us)):Binds K fd ps []:=λs us _ hl=>by
 rw [List.append_nil] at hl ⊢;exact .of_eq (h us hl)
def zgW (CX:CXT) (X:Cx) (E:XK):Prop:=∀ (pins:List (Addr×Obj)) (σ:St) (H:Hp) (s:Shared) (e:Value) (s':Shared),Inv X pins σ H s->CX X.stack H s E e s'->X.xe e s'
section
variable {X:Cx} {CX:CXT} {k:Nat} {f C:Addr} {fd:FuncData} {ps:List Str} {sp:Sp} {dvs:List V} {ds:List Value} {E:XK} {x m:Str} {p pos apos:Pos} {e o:Expr} {es:List Expr} {ta:TE} {t:TA}
theorem zo1 {pins:List (Addr×Obj)} {σ:St} {H:Hp} {s:Shared} {Q:VK} {us:List Value} {vs:List V} (F:FnOk X.prog X.w X.K X.mg X.base CX k f fd ps sp) (hr:Room k X.A) (hb:Binds X.K fd ps ds) (hd:Vals dvs ds) (hx:zgW CX X E)
  (I:Inv X pins σ H s) (r:Vals vs us) (h:sp (vs++dvs) H Q E):wpAny (model X.prog X.w) X.A (call (.ref f) us) (EP X pins σ Q) X.xe s:=by
 have r2:Vals (vs++dvs) (us++ds):=r.append hd;have hl:(us++ds).length=ps.length:=by rw [<- r2.length]; exact F.len _ _ _ _ h
 refine wpAny_call (codeAny_mono (F.run X.A X.stack s H ⟨us,[]⟩ (us++ds) (vs++dvs) Q E hr I.env0 (hb s us I.kIn hl) r2 h) λr s' hq=>?_);cases r with
 | error e=>exact hx pins σ H s e s' I hq
 | ok fl=>
  cases fl with
  | ret u=>exact I.after hq
  | next=>exact False.elim hq
  | brk=>exact False.elim hq
  | cont=>exact False.elim hq
theorem zuu (F:FnOk X.prog X.w X.K X.mg X.base CX k f fd ps sp) (hr:Room k X.A) (hg:Gl X x) (hm:X.mg x=some (.ref f)) (hk:W.keepIn X.K (.ref f)=true) (hb:Binds X.K fd ps ds) (hd:Vals dvs ds) (hx:zgW CX X E)
  (ha:PA X (e :: es) t) (hdb:(x==("__debug__":Str))=false:=by decide) (he:starEach (e :: es) X.env=(false,eval e X.env) :: starEach es X.env:=by rfl) (hpl:(backTo pos (starEach es X.env)).any (·.1)=false:=by rfl) :
  PE X (.Call (.Name x p) (e :: es) [] pos) (zo0 sp dvs E t):=by
 intro pins s σ H Q I h;refine wpAny_Call_Name_kw (zf8 I hg hm ?_ hdb);refine W.callWith_K (h₀:=X.base) I.ok.mod.kin hk (thn (ha pos pins s σ H _ I h) λus s1 ⟨vs,H1,I1,r,q⟩=>⟨I1.kIn,?_⟩) he hpl;exact zo1 F hr hb hd hx I1 r q
theorem zrE (F:FnOk X.prog X.w X.K X.mg X.base CX k f fd ps sp) (hr:Room k X.A) (hg:Gl X x) (hm:X.mg x=some (.ref f)) (hk:W.keepIn X.K (.ref f)=true) (hb:Binds X.K fd ps ds) (hd:Vals dvs ds) (hx:zgW CX X E)
  (hdb:(x==("__debug__":Str))=false:=by decide):PE X (.Call (.Name x p) [] [] pos) (zo0 sp dvs E ztc):=by
 intro pins s σ H Q I h;refine wpAny_Call_Name_kw (zf8 I hg hm ?_ hdb);exact W.callWith_K0 I.kIn hk (zo1 (us:=[]) F hr hb hd hx I .nil h)
theorem zrF {pl : Sem Bool} (he : PE X o ta) (c : Cls X.K C) (hm : Meth X.K C m f) (F : FnOk X.prog X.w X.K X.mg X.base CX k f fd ps sp) (hr : Room k X.A) (hb : Binds X.K fd ps ds) (hd : Vals dvs ds) (hx : zgW CX X E)
    (ht : eval (.Call (.Attribute o m apos) [] [] pos) X.env = (do
      let ov <- eval o X.env
      standAt apos.atName
      let (f, first) <- holding [ov] (getMethod ov m pl)
      callWith pos f first (backTo pos (starEach [] X.env)) (backToKw pos (keywordEach [] X.env))) := by rfl) :
    PE X (.Call (.Attribute o m apos) [] [] pos) (zxJ C m sp dvs E ta ztc) := by
  intro pins s σ H Q I h;refine W.methodCall_KW (pl := pl) (thn (he pins s σ H _ I h) λu s1 ⟨x, H1, I1, rx, a, dx, fs, ex, ea, l, q⟩ => ?_) ht;subst ex;obtain rfl : u = Value.ref a := rx;refine zn0 I1 ea c hm l ?_;exact W.callWith_K0 (first := [.ref a]) I1.kIn hm.kp (zo1 (us := [.ref a]) (vs := [.ref a]) F hr hb hd hx I1 (.cons rfl .nil) q)
structure Mk (K:W.Frag) (C f:Addr):Prop where
 makes:W.makesIn K C=true
 init:W.findIn K (.ref C) "__init__"=some (some (.ref f))
 fn:W.isFn K (.ref f)=true
 kp:W.keepIn K (.ref C)=true
theorem zrG {pins:List (Addr×Obj)} {σ:St} {H:Hp} {s:Shared} {Q:VK} {us:List Value} {vs:List V} (M:Mk X.K C f) (F:FnOk X.prog X.w X.K X.mg X.base CX k f fd ps sp) (hr:Room (k+1) X.A) (hb:Binds X.K fd ps ds) (hd:Vals dvs ds)
  (hx:zgW CX X E) (I:Inv X pins σ H s) (r:Vals vs us)
  (h:∀ x dx,H x=none->H dx=none->dx≠x->sp (.ref x :: (vs++dvs)) (upd (upd H dx (.own x)) x (.ins C dx [])) (λv H2=>v=.non/\Q (.ref x) H2) E) :
  wpAny (model X.prog X.w) X.A (call (.ref C) us) (EP X pins σ Q) X.xe s:=by
 have hq:=h (s.heap.objs.size+1) s.heap.objs.size (I.hok.fresh (Nat.le_succ _)) (I.hok.fresh (Nat.le_refl _)) (Nat.ne_of_lt (Nat.lt_succ_self _));have I2:=Inv.made (C:=C) I;have r2:Vals (V.ref (s.heap.objs.size+1) :: (vs++dvs)) (Value.ref (s.heap.objs.size+1) :: (us++ds)):=.cons rfl (r.append hd);have hl:(Value.ref (s.heap.objs.size+1) :: us++ds).length=ps.length:=by
  have e:=r2.length;rw [F.len _ _ _ _ hq] at e;exact e.symm
 refine wpAny_call (zrD (f:=f) I.kIn M.makes M.init (beq_iff_eq.mp M.fn) (codeAny_mono (F.run _ X.stack _ _ ⟨Value.ref (s.heap.objs.size+1) :: us,[]⟩ (Value.ref (s.heap.objs.size+1) :: (us++ds)) _ _ E (hr.make C us [])
  (I2.env0.make C us []) (hb _ (Value.ref (s.heap.objs.size+1) :: us) I2.kIn hl) r2 hq) λr s' hq'=>?_))
 cases r with
 | error e=>exact hx pins σ _ _ e s' I2 hq'
 | ok fl=>
  cases fl with
  | ret u=>
   obtain ⟨v,H',I3,rv,ev,q3⟩:=I2.after hq';subst ev;exact ⟨rv,⟨V.ref (s.heap.objs.size+1),H',I3,rfl,q3⟩⟩
  | next=>exact False.elim hq'
  | brk=>exact False.elim hq'
  | cont=>exact False.elim hq'
theorem zuv (M:Mk X.K C f) (F:FnOk X.prog X.w X.K X.mg X.base CX k f fd ps sp) (hr:Room (k+1) X.A) (hg:Gl X x) (hm:X.mg x=some (.ref C)) (hb:Binds X.K fd ps ds) (hd:Vals dvs ds) (hx:zgW CX X E)
  (ha:PA X (e :: es) t) (hdb:(x==("__debug__":Str))=false:=by decide) (he:starEach (e :: es) X.env=(false,eval e X.env) :: starEach es X.env:=by rfl) (hpl:(backTo pos (starEach es X.env)).any (·.1)=false:=by rfl) :
  PE X (.Call (.Name x p) (e :: es) [] pos) (zxK C sp dvs E t):=by
 intro pins s σ H Q I h;refine wpAny_Call_Name_kw (zf8 I hg hm ?_ hdb);refine W.callWith_K (h₀:=X.base) I.ok.mod.kin M.kp (thn (ha pos pins s σ H _ I h) λus s1 ⟨vs,H1,I1,r,q⟩=>⟨I1.kIn,?_⟩) he hpl;exact zrG M F hr hb hd hx I1 r q
end
section
variable {X:Cx} {CX:CXT} {k:Nat} {f C:Addr} {fd:FuncData} {ps ks:List Str} {sp:Sp} {E:XK} {x m:Str} {p pos apos kpos:Pos} {e o:Expr} {es:List Expr} {kws:List Keyword} {te ta:TE} {t tk:TA} {nm:Option Str}
variable {g:List Value->List Value->List Value} {gV:List V->List V->List V}
end
structure FnScope (N P:List Str) (sc:Scope):Prop where
 kind:sc.kind=.function
 co:sc.isCoroutine=false
 gen:sc.isGenerator=false
 nd:N.Nodup
 pre:N.take P.length=P
 par:∀ x∈P,sc.names.lookup x=some .local\/sc.names.lookup x=some .cell
 nofree:∀ y∈sc.names,y.2≠.free
theorem zlm {kindOf:Str->Option NameKind} {x:Str}:∀ {binds:List (Str×Value)} {m:Str->Option Value},(∀ v,(x,v)∉binds)->bindL kindOf binds m x=m x
 | [],_,_=>rfl
 | (n,v) :: r,m,h=>by
  unfold bindL;rw [zlm λw hw=>h w (List.mem_cons_of_mem _ hw)];split
  ·have:x≠n:=by rintro rfl; exact h v List.mem_cons_self
   simp [this]
  ·rfl
theorem zln {kindOf:Str->Option NameKind} {x:Str}:∀ {binds:List (Str×Value)} {m:Str->Option Value},(∀ v,(x,v)∉binds)->bindC kindOf binds m x=m x
 | [],_,_=>rfl
 | (n,v) :: r,m,h=>by
  unfold bindC;rw [zln λw hw=>h w (List.mem_cons_of_mem _ hw)];split
  ·rfl
  ·have:x≠n:=by rintro rfl; exact h v List.mem_cons_self
   simp [this]
theorem zgX {kindOf:Str->Option NameKind} {x:Str} {v:Value}:∀ {P:List Str} {vs:List Value} {i:Nat} {m:Str->Option Value},P.Nodup->P[i]? = some x->vs[i]? = some v->kindOf x=some .local->
  bindL kindOf (P.zip vs) m x=some v
 | [],_,_,_,_,h,_,_=>by simp at h
 | _ :: _,[],_,_,_,_,h,_=>by simp at h
 | p :: P,w :: vs,0,m,nd,h1,h2,hk=>by
  simp at h1 h2; subst h1; subst h2;show bindL kindOf ((p,w) :: P.zip vs) m p=_;unfold bindL;rw [zlm λv hv=>(List.nodup_cons.mp nd).1 (List.of_mem_zip hv).1,if_pos hk];simp
 | p :: P,w :: vs,i+1,m,nd,h1,h2,hk=>by
  show bindL kindOf ((p,w) :: P.zip vs) m x=_;unfold bindL;exact zgX (i:=i) (List.nodup_cons.mp nd).2 (by simpa using h1) (by simpa using h2) hk
theorem zlo {kindOf:Str->Option NameKind} {x:Str} {v:Value}:∀ {P:List Str} {vs:List Value} {i:Nat} {m:Str->Option Value},P.Nodup->P[i]? = some x->vs[i]? = some v->kindOf x≠some .local->
  bindC kindOf (P.zip vs) m x=some v
 | [],_,_,_,_,h,_,_=>by simp at h
 | _ :: _,[],_,_,_,_,h,_=>by simp at h
 | p :: P,w :: vs,0,m,nd,h1,h2,hk=>by
  simp at h1 h2; subst h1; subst h2;show bindC kindOf ((p,w) :: P.zip vs) m p=_;unfold bindC;rw [zln λv hv=>(List.nodup_cons.mp nd).1 (List.of_mem_zip hv).1,if_neg hk];simp
 | p :: P,w :: vs,i+1,m,nd,h1,h2,hk=>by
  show bindC kindOf ((p,w) :: P.zip vs) m x=_;unfold bindC;exact zlo (i:=i) (List.nodup_cons.mp nd).2 (by simpa using h1) (by simpa using h2) hk
def zgY (N:List Str) (vs:List V):St:=vs.map some++List.replicate (N.length-vs.length) none
def zmt (CX:CXT) (P:Program) (w:World) (K:W.Frag) (mg:Str->Option Value) (base:Heap) (N:List Str) (qual:Str) (scope:Scope) (f:Addr) (cd:Value) (A:Around) (outer:List Env) (s:Shared) (H:Hp) (E:XK):Cx where
 prog:=P
 w:=w
 K:=K
 mg:=mg
 base:=base
 A:=A.deeper (envOfC qual scope s.heap.objs.size f cd)
 N:=N
 s₀:=s
 H₀:=H
 env:=envOfC qual scope s.heap.objs.size f cd
 outer:=outer
 stack:=envOfC qual scope s.heap.objs.size f cd :: outer
 ex:=[]
 calm:=true
 fn:=λ_=>true
 pn:=[]
 xe:=λe s'=>wpAny (model P w) (A.deeper (envOfC qual scope s.heap.objs.size f cd)) (leaving (envOfC qual scope s.heap.objs.size f cd) e) (λ_ s''=>CX outer H s E e s'') (λe' s''=>CX outer H s E e' s'') s'
theorem zns {sc:Scope} {n:Nat} {x:Str} (h:sc.names.lookup x=some .cell):∃ c,(cellsFrom n sc.names []).lookup x=some c:=by
 have q:=W.cellsFrom_some sc.names n [] (.inl h);exact Option.isSome_iff_exists.mp q
theorem zlp {CX:CXT} {P:Program} {w:World} {K:W.Frag} {mg:Str->Option Value} {base:Heap} {N ps:List Str} {qual:Str} {scope:Scope} {f:Addr} {cd:Value} {A:Around} {outer:List Env} {s s1:Shared} {H:Hp} {E:XK} {us:List Value} {vs:List V}
  (S:FnScope N ps scope) (hd:A.handled=none) (e0:Env0 P w K mg base A outer s H) (hl:vs.length=ps.length) (r:Vals vs us)
  (x:InCallC s s.heap.objs.size (bindL (envOfC qual scope s.heap.objs.size f cd).kindOf (ps.zip us) λ_=>none) (cellsFrom (s.heap.objs.size+1) scope.names []) (bindC (envOfC qual scope s.heap.objs.size f cd).kindOf (ps.zip us) λ_=>none) s1) :
  Inv (zmt CX P w K mg base N qual scope f cd A outer s H E) [] (zgY N vs) H s1:=by
 have hpl:ps.length<=N.length:=by have:=congrArg List.length S.pre; rw [List.length_take] at this; omega
 obtain ⟨h1,tk,rfl,hk⟩:=x.done;have noA:∀ b:Addr,b∉(zmt CX P w K mg base N qual scope f cd A outer s H E).ex:=λb z=>absurd (show b∈([]:List Addr) from z) (by simp);refine ⟨⟨e0.mod,S.kind,rfl,rfl,Nat.le_refl _,λy z c h1 h2=>?_,λy hy=>?_,λy c _ h=>?_,λ_=>hd,Around.frames_deeper e0.frames,.inr ⟨rfl,rfl⟩,λb z=>absurd z (noA b),e0.bs,e0.bsz,λb _ _=>noA b,λb z=>absurd z (noA b),e0.funs,e0.frf⟩,
  rfl,e0.bare,Un.kept hk,⟨_,x.toInCall.ns,λi y v h1 h2 h3=>?_⟩,λy c h=>⟨_,x.cell y c h⟩,e0.hok.fresh (Nat.le_refl _),λy c h=>?_,λp hp=>absurd (show p∈([]:List (Addr×Obj)) from hp) (by simp),e0.hok.kept hk,?_⟩
 ·exact name_of_addr x.apart (PySem.mem_of_lookup h1) (PySem.mem_of_lookup h2)
 ·have hy:scope.names.lookup y=some .cell\/scope.names.lookup y=some .free:=hy;rcases hy with hy | hy
  ·exact zns hy
  ·exact absurd rfl (S.nofree _ (PySem.mem_of_lookup hy))
 ·exact Nat.le_of_lt (x.above y c (PySem.mem_of_lookup h))
 ·have hi:i < vs.length:=by
   unfold zgY at h2
   by_cases hi:i < vs.length
   ·exact hi
   ·rw [List.getElem?_append_right (by simpa using hi)] at h2;rw [List.getElem?_replicate] at h2;split at h2 <;> cases h2
  have ha:vs[i]? = some v:=by
   unfold zgY at h2;rw [List.getElem?_append_left (by simpa using hi),List.getElem?_map] at h2;cases e:vs[i]? with
   | none=>rw [e] at h2; cases h2
   | some a=>rw [e] at h2; cases h2; rfl
  obtain ⟨u,hu,rv⟩:=r.get ha;have hp:ps[i]? = some y:=by
   rw [<- S.pre,List.getElem?_take_of_lt (by omega)]; exact h1
  have ndP:ps.Nodup:=by rw [<- S.pre]; exact S.nd.sublist (List.take_sublist _ _)
  refine ⟨u,rv,?_⟩;rcases S.par y (List.mem_of_getElem? hp) with k | k
  ·exact .inl ⟨k,zgX ndP hp hu k⟩
  ·obtain ⟨c,e⟩:=zns (n:=s.heap.objs.size+1) k;refine .inr ⟨.inl k,c,e,?_⟩;have q:=x.cell y c e;rw [zlo ndP hp hu (by show scope.names.lookup y≠_; rw [k]; decide)] at q;exact q
 ·exact e0.hok.fresh (Nat.le_of_lt (x.above y c (PySem.mem_of_lookup h)))
 ·unfold zgY;show _=N.length;rw [List.length_append,List.length_map,List.length_replicate];omega
theorem zuw {CX : CXT} {P : Program} {w : World} {K : W.Frag} {mg : Str -> Option Value} {base : Heap} {k : Nat} {f : Addr} {name qual : Str} {params : Arguments} {body : List Stmt} {scope : Scope} {dV kV doc pm cdv ct oc : Value} {an od : Option Addr}
    {osl : Array (Option Value)} {N ps : List Str} {sp : Sp} (lk : K.lookup f = some ⟨oc, od, .func (W.fnOf name qual params body scope dV kV doc pm an cdv ct), osl⟩) (hcd : W.codeIn K cdv qual = true) (S : FnScope N ps scope)
    (len : ∀ vs H Q E, sp vs H Q E -> vs.length = ps.length)
    (hbody : ∀ (A : Around) (outer : List Env) (s : Shared) (H : Hp) (vs : List V) (Q : VK) (E : XK), Room k (A.deeper (envOfC qual scope s.heap.objs.size f cdv)) -> sp vs H Q E ->
      ∃ t, PSs (zmt CX P w K mg base N qual scope f cdv A outer s H E) body t /\ t { nx := λ_ H' => Q .non H', rt := Q } (zgY N vs) H) :
    FnOk P w K mg base CX (k + 1) f (W.fnOf name qual params body scope dV kV doc pm an cdv ct) ps sp := by
  refine ⟨len, λA outer s H args us vs Q E hr e0 hb r hsp => ?_⟩;have hl := len _ _ _ _ hsp;have KX : K.In s.heap := e0.mod.kin.keeps λb o e => (e0.bs b o e).1;have lim : s.heap.NoLimit := e0.mod.nolimit.keeps λb o e => (e0.bs b o e).1;have hkind : ∀ y ∈ ps.zip us, scope.names.lookup y.1 = some .local \/ (scope.names.lookup y.1 = some .cell /\ ((cellsFrom (s.heap.objs.size + 1) scope.names []).lookup y.1).isSome = true) := λ⟨n, v⟩ hy => by
    rcases S.par n (List.of_mem_zip hy).1 with q | q
    · exact .inl q
    · exact .inr ⟨q, W.cellsFrom_some _ _ _ (.inl q)⟩
  refine codeAny_call_function hr.depth (KX _ _ lk) rfl S.co S.gen rfl (W.codeRec_of KX hcd) (hb _ _ _ _ ?_);refine wpAny_newFunctionEnv_cells S.kind hkind λenv he s1 x => ?_;subst he;refine ⟨lim.keeps x.toInCall.keep, codeAny_func ?_⟩;obtain ⟨t, ht, hq⟩ := hbody A outer s H vs Q E (hr.deeper _) hsp;have I : Inv (zmt CX P w K mg base N qual scope f cdv A outer s H E) [] (zgY N vs) H s1 := zlp S hr.hd e0 hl r x
  refine wpAny_mono (ht [] s1 (zgY N vs) H _ I hq) (λfl s' hs => ?_) λe s' hs => hs;have fin : ∀ {σ' : St} {H' : Hp} {v : V} {u : Value}, Inv (zmt CX P w K mg base N qual scope f cdv A outer s H E) [] σ' H' s' -> RelV v u -> Q v H' -> CE outer P w H s Q u s' :=
    λ{σ' H' v u} J rv q => ⟨v, H', J.os, J.bare, J.base, J.hok, rv, q⟩
  cases fl with
  | ret u =>
    obtain ⟨v, σ', H', J, rv, q⟩ := hs;exact fin J rv q
  | next =>
    obtain ⟨σ', H', J, q⟩ := hs;exact fin (v := V.non) (u := Value.none) J rfl q
  | brk =>
    obtain ⟨_, _, _, q⟩ := hs;exact False.elim q
  | cont =>
    obtain ⟨_, _, _, q⟩ := hs;exact False.elim q
section
variable {X:Cx} {x:Str} {p pos:Pos} {e:Expr} {es:List Expr} {t:TA} {id T:String} {r:List V->Hp->VK->Prop}
def tCB (r:List V->Hp->VK->Prop) (t:TA):TE:=λσ H Q=>t σ H λvs H1=>r vs H1 Q
theorem zrH (hc:CallR X (.builtin id) r) (hg:Gl X x) (hm:X.mg x=none) (hv:bootBuiltins x=some (.builtin id)) (ha:PA X (e :: es) t) (hn:x≠"__name__":=by decide) (hdb:(x==("__debug__":Str))=false:=by decide)
  (he:starEach (e :: es) X.env=(false,eval e X.env) :: starEach es X.env:=by rfl) (hpl:(backTo pos (starEach es X.env)).any (·.1)=false:=by rfl):PE X (.Call (.Name x p) (e :: es) [] pos) (tCB r t):=by
 intro pins s σ H Q I h;refine wpAny_Call_Name_kw (zgV I hg hm hv ?_ hn hdb);exact PyProof.Rows.callWith_builtin1 (thn (ha pos pins s σ H _ I h) λus s1 ⟨vs,H1,I1,r1,q1⟩=>hc pins s1 σ H1 vs us Q I1 r1 q1) he hpl
theorem zo2 (hc:CallR X (.type T) r) (hg:Gl X x) (hm:X.mg x=none) (hv:bootBuiltins x=some (.type T)) (ha:PA X (e :: es) t) (hn:x≠"__name__":=by decide) (hdb:(x==("__debug__":Str))=false:=by decide)
  (he:starEach (e :: es) X.env=(false,eval e X.env) :: starEach es X.env:=by rfl) (hpl:(backTo pos (starEach es X.env)).any (·.1)=false:=by rfl):PE X (.Call (.Name x p) (e :: es) [] pos) (tCB r t):=by
 intro pins s σ H Q I h;refine wpAny_Call_Name_kw (zgV I hg hm hv ?_ hn hdb);exact PyProof.Rows.callWith_type1 (thn (ha pos pins s σ H _ I h) λus s1 ⟨vs,H1,I1,r1,q1⟩=>hc pins s1 σ H1 vs us Q I1 r1 q1) he hpl
end
end L2
namespace HT
open PySem PyProof.Rows
section
open PySem.SeqAt
open PySem.AutoSeq1 (wpAny_loadPart')
open PySem.MeetsSeq PySem.MeetsSeq2 PySem.MeetsSeq3
end
section
variable {prog:Program} {w:World} {A:Around} {E:Value->Shared->Prop} {s:Shared}
theorem cat_tup {t b:Addr} {vs ws:List Value} {Q:Value->Shared->Prop} (ht:IsTup s.heap t vs.toArray) (hb:IsTup s.heap b ws.toArray) (hv:vs≠[])
  (h1:ws=[]->Q (.ref t) s) (h2:ws≠[]->Q (.ref s.heap.objs.size) { s with heap:=s.heap.push { cls:=.type "tuple",data:=.seq (vs++ws).toArray } })
  (hsz:vs.length+ws.length<=sizeLine):wpAny (model prog w) A (binaryOp .Add (.ref t) (.ref b)) Q E s:=by
 obtain ⟨⟨cls,dd,data,sl⟩,ho,hc,n,hd⟩:=id ht;obtain ⟨⟨cls2,dd2,data2,sl2⟩,ho2,hc2,n2,hd2⟩:=id hb;simp only at hc hd hc2 hd2;subst hc hd hc2 hd2;have e:vs.toArray++ws.toArray=(vs++ws).toArray:=by simp
 by_cases hw:ws=[]
 ·exact concat_meets ⟨_,ho,rfl⟩ ⟨_,ho2,rfl⟩ noFill_tuple_add seq_tuple_add PySem.F.slot_tuple_add PySem.F.entry_tuple_add (PySem.F.args_tuple_add_2 _ _)
   (tuple_addW1 t b vs.toArray ws.toArray n n2 dd dd2 sl sl2 (by simpa using hv) (by simp [hw])) ⟨ho,ho2,h1 hw⟩
 ·refine concat_meets ⟨_,ho,rfl⟩ ⟨_,ho2,rfl⟩ noFill_tuple_add seq_tuple_add PySem.F.slot_tuple_add PySem.F.entry_tuple_add (PySem.F.args_tuple_add_2 _ _)
   (tuple_addW2 t b vs.toArray ws.toArray n n2 dd dd2 sl sl2 (by simpa using hv) (by simpa using hw) (by rw [List.size_toArray,List.size_toArray]; exact hsz)) ⟨ho,ho2,?_⟩
  rw [e];exact h2 hw
def sIx (n d:Nat):Option Int->Nat
 | none=>d
 | some v=>if v < 0 then (v+(n:Int)).toNat else min v.toNat n
theorem sIx_none (n d:Nat):sIx n d none=d:=rfl
theorem sIx_nat (n d k:Nat):sIx n d (some (k:Int))=min k n:=by
 show (if (k:Int) < 0 then ((k:Int)+(n:Int)).toNat else min (k:Int).toNat n)=min k n;rw [if_neg (by omega),Int.toNat_natCast]
theorem zxL (n d:Nat) (hd:d<=n) (o:Option Int):sIx n d o<=n:=by
 cases o with
 | none=>exact hd
 | some v=>
  show (if v < 0 then (v+(n:Int)).toNat else min v.toNat n)<=n
  by_cases hv:v < 0
  ·rw [if_pos hv]; omega
  ·rw [if_neg hv]; exact Nat.min_le_right _ _
theorem zo3 (v:Int) (n d:Nat):(if v < 0 then max (v+(n:Int)) 0 else min v (n:Int))=((sIx n d (some v):Nat):Int):=by
 show (if v < 0 then max (v+(n:Int)) 0 else min v (n:Int))=(((if v < 0 then (v+(n:Int)).toNat else min v.toNat n):Nat):Int)
 by_cases hv:v < 0
 ·simp only [if_pos hv]; omega
 ·simp only [if_neg hv]; omega
theorem zn5 (lo hi:Option Int) (n:Nat):Builtin.Slice.sliceAdjust lo hi 1 (n:Int)=(((sIx n 0 lo:Nat):Int),((sIx n n hi:Nat):Int)):=by
 have h1:¬ ((1:Int) < 0):=by omega
 unfold Builtin.Slice.sliceAdjust;simp only [h1,if_false];refine Prod.ext ?_ ?_
 ·cases lo with
  | none=>rfl
  | some v=>exact zo3 v n 0
 ·cases hi with
  | none=>rfl
  | some v=>exact zo3 v n n
theorem zn6 (i j:Nat):Builtin.Slice.slicePlaces (i:Int) (j:Int) 1=j-i:=by
 unfold Builtin.Slice.slicePlaces;have h1:(1:Int) > 0:=by omega
 simp only [h1,if_true,Int.ediv_one];split <;> omega
theorem zjZ {v:Value} {o:Option Int} {Q:Option Int->Shared->Prop} (p:IsPart v o) (h:Q o s):wpAny (model prog w) A (Builtin.Slice.slicePartIndex v) Q E s:=by
 cases p with
 | none=>exact slicePart_none h
 | int i t=>exact slicePart_int h
theorem zis {sl:Addr} {vl vu:Value} {lo hi:Option Int} {n:Nat} {Q:Int×Int×Nat->Shared->Prop} (hs:s.heap.IsSliceOf sl vl vu .none) (pl:IsPart vl lo) (pu:IsPart vu hi)
  (h:Q (((sIx n 0 lo:Nat):Int),1,sIx n n hi-sIx n 0 lo) s):wpAny (model prog w) A (Builtin.Slice.sliceApplied (.ref sl) (pure (n:Int))) Q E s:=by
 obtain ⟨os,hos,hcs,hds⟩:=id hs;unfold Builtin.Slice.sliceApplied Builtin.Slice.sliceFields;refine wpAny_bind (wpAny_bind (wpAny_field hos hds (x:=vl) rfl (wpAny_bind (wpAny_field hos hds (x:=vu) rfl (wpAny_bind (wpAny_field hos hds (x:=.none) rfl (wpAny_pure ?_)))))));refine wpAny_bind (slicePart_none ?_);show wpAny _ _ (if ((1:Int)==0)=true then _ else _) _ _ s;rw [if_neg (by decide)];refine wpAny_bind (zjZ pl (wpAny_bind (zjZ pu (wpAny_bind (wpAny_pure ?_)))))
 show wpAny _ _ (match Builtin.Slice.sliceAdjust lo hi 1 (n:Int) with | (lo,hi)=>pure (lo,(1:Int),Builtin.Slice.slicePlaces lo hi 1)) _ _ s;rw [zn5 lo hi n];show wpAny _ _ (pure (((sIx n 0 lo:Nat):Int),(1:Int),Builtin.Slice.slicePlaces ((sIx n 0 lo:Nat):Int) ((sIx n n hi:Nat):Int) 1)) _ _ s;rw [zn6];exact wpAny_pure h
theorem zrI (xs:Array Value) (i k:Nat):((List.range k).filterMap λ(m:Nat)=>xs[((i:Int)+(m:Int)*1).toNat]?).toArray=((xs.toList.drop i).take k).toArray:=by
 have e:(λ(m:Nat)=>xs[((i:Int)+(m:Int)*1).toNat]?)=λm=>xs[i+m]?:=by
  funext m;have:((i:Int)+(m:Int)*1).toNat=i+m:=by omega
  rw [this]
 rw [e];have:=pick_run xs i k;rw [List.filterMap_map] at this;have e2:((λx=>xs[x]?) ∘ λx=>i+x)=λm=>xs[i+m]?:=rfl;rw [e2] at this;rw [this]
theorem getItem_tuple_cut {t sl:Addr} {items:Array Value} {vl vu:Value} {lo hi:Option Int} {Q:Value->Shared->Prop} (ht:IsTup s.heap t items) (hs:s.heap.IsSliceOf sl vl vu .none) (pl:IsPart vl lo) (pu:IsPart vu hi)
  (hw:¬ (sIx items.size 0 lo=0/\sIx items.size items.size hi=items.size))
  (h:Q (.ref s.heap.objs.size) { s with heap:=s.heap.push { cls:=.type "tuple",data:=.seq ((items.toList.drop (sIx items.size 0 lo)).take (sIx items.size items.size hi-sIx items.size 0 lo)).toArray } })
  (hsz:items.size<=sizeLine):wpAny (model prog w) A (getItem (.ref t) (.ref sl)) Q E s:=by
 have htake:sizeOk (.seq ((items.toList.drop (sIx items.size 0 lo)).take (sIx items.size items.size hi-sIx items.size 0 lo)).toArray):=by
  show ((items.toList.drop (sIx items.size 0 lo)).take (sIx items.size items.size hi-sIx items.size 0 lo)).toArray.size<=sizeLine;rw [List.size_toArray,List.length_take,List.length_drop,Array.length_toList];omega
 have hj:sIx items.size items.size hi<=items.size:=zxL _ _ (Nat.le_refl _) hi;obtain ⟨os,hos,hcs,hds⟩:=id hs;have hTs:s.TypeIs (.ref sl) "slice":=⟨os,hos,hcs⟩
 unfold getItem
 try with_reducible refine wpAny_holding ?_
 first | refine wpAny_bind (wpAny_pure ?_) | skip
 refine wpAny_bind (wpAny_sequenceKey ht.typeIs (by decide) ?_);refine wpAny_bind (wpAny_callSpecial?_slot (name:=Str.ofString "__getitem__") ht.typeIs PyProof.Rows.slot_tuple_getitem
  (wpAny_call_entry PyProof.Rows.slot_tuple_getitem ht.typeIs entry_tuple_getitem ?_ (args_tuple_getitem _ _)))
 show wpAny _ _ (Builtin.Tuple.tupleItemsOf (.ref t) >>= _) _ _ s;refine wpAny_bind (tupleItemsOf_ ht ?_);refine wpAny_bind (wpAny_typeOf hTs ?_);rw [if_pos (by decide)];refine wpAny_bind (zis hs pl pu ?_);have hno:¬ ((((sIx items.size 0 lo:Nat):Int)==0&&(1:Int)==1&&(sIx items.size items.size hi-sIx items.size 0 lo)==items.size)=true):=by
  intro q;rw [Bool.and_eq_true,Bool.and_eq_true] at q;have q1:((sIx items.size 0 lo:Nat):Int)=0:=eq_of_beq q.1.1;have q2:sIx items.size items.size hi-sIx items.size 0 lo=items.size:=eq_of_beq q.2;exact hw ⟨by omega,by omega⟩
 show wpAny _ _ (if (((sIx items.size 0 lo:Nat):Int)==0&&(1:Int)==1&&(sIx items.size items.size hi-sIx items.size 0 lo)==items.size)=true then _ else _) _ _ s;rw [if_neg hno,zrI]
 first
  | exact wpAny_bind (m:=Builtin.Tuple.tupleExact _) (wpAny_newObj_type (wpAny_pure ⟨_,rfl,wpAny_pure h⟩) htake)
  | exact wpAny_bind (m:=Builtin.Tuple.tupleExact _) (wpAny_newObj_type (wpAny_bind (wpAny_pure (wpAny_pure ⟨_,rfl,wpAny_pure h⟩))) htake)
  | exact wpAny_bind (wpAny_bind (m:=Builtin.Tuple.tupleExact _) (wpAny_newObj_type (wpAny_pure (wpAny_pure ⟨_,rfl,wpAny_pure h⟩)) htake))
  | exact wpAny_bind (wpAny_bind (m:=Builtin.Tuple.tupleExact _) (wpAny_newObj_type (wpAny_pure ⟨_,rfl,wpAny_pure h⟩) htake))
end
end HT
namespace L2
open PySem PySem.Spec PyProof.Rows
abbrev TO:=St->Hp->(Option Int->Hp->Prop)->Prop
def PO (X:Cx) (e:Option Expr) (t:TO):Prop:=
 ∀ (pins:List (Addr×Obj)) (s:Shared) (σ:St) (H:Hp) (Q:Option Int->Hp->Prop),Inv X pins σ H s->t σ H Q->
  wpAny (model X.prog X.w) X.A (evalPart e X.env) (λu s'=>∃ o H',Inv X pins σ H' s'/\IsPart u o/\Q o H') X.xe s
def zo4:TO:=λ_ H Q=>Q none H
def zxM (t:TE):TO:=λσ H Q=>t σ H λx H1=>∃ i,x=.int i/\Q (some i) H1
section
variable {X:Cx} {e:Expr} {te:TE} {lo hi:Option Expr} {tl th:TO} {pos p2:Pos}
theorem zux:PO X none zo4:=by
 intro pins s σ H Q I h;rw [evalPart_none];exact wpAny_pure ⟨none,H,I,.none,h⟩
theorem zuy (h:PE X e te):PO X (some e) (zxM te):=by
 intro pins s σ H Q I hw;rw [evalPart_some];refine thn (h pins s σ H _ I hw) λu s1 ⟨x,H1,I1,r1,q1⟩=>?_;obtain ⟨i,rfl,q⟩:=q1;obtain ⟨t,rfl⟩:=r1;exact ⟨some i,H1,I1,.int i t,q⟩
def SlR (X:Cx) (r:V->Option Int->Option Int->Hp->VK->Prop):Prop:=
 ∀ (pins:List (Addr×Obj)) (s:Shared) (σ:St) (H:Hp) (x:V) (v vl vu:Value) (lo hi:Option Int) (sl:Addr) (Q:VK),Inv X pins σ H s->RelV x v->s.heap.IsSliceOf sl vl vu .none->IsPart vl lo->IsPart vu hi->r x lo hi H Q->
  ∃ T id,typeLookup (.type T) "__getitem__"=pure (some (.builtin id))/\s.TypeIs v T/\wpAny (model X.prog X.w) X.A (getItem v (.ref sl)) (EP X pins σ Q) X.xe s
theorem SlR.or {r r':V->Option Int->Option Int->Hp->VK->Prop} (h:SlR X r) (h':SlR X r'):SlR X (λx lo hi H Q=>r x lo hi H Q\/r' x lo hi H Q):=by
 intro pins s σ H x v vl vu lo hi sl Q I rx hs pl pu q;rcases q with q | q
 ·exact h pins s σ H x v vl vu lo hi sl Q I rx hs pl pu q
 ·exact h' pins s σ H x v vl vu lo hi sl Q I rx hs pl pu q
def tSl (r:V->Option Int->Option Int->Hp->VK->Prop) (te:TE) (tl th:TO):TE:=λσ H Q=>te σ H λx H1=>tl σ H1 λl H2=>th σ H2 λu H3=>r x l u H3 Q
theorem zrJ {r:V->Option Int->Option Int->Hp->VK->Prop} (hr:SlR X r) (he:PE X e te) (hl:PO X lo tl) (hu:PO X hi th):PE X (.Subscript e (.Slice lo hi none p2) pos) (tSl r te tl th):=by
 intro pins s σ H Q I h;refine Subscript_ (thn (he pins s σ H _ I h) λv s1 ⟨x,H1,I1,r1,q1⟩=>?_);refine wpAny_Slice (thn (hl pins s1 σ H1 _ I1 q1) λvl s2 ⟨l,H2,I2,pl,q2⟩=>thn (hu pins s2 σ H2 _ I2 q2) λvu s3 ⟨u,H3,I3,pu,q3⟩=>?_);rw [evalPart_none];refine wpAny_pure ?_;have I4:Inv X pins σ H3 { s3 with heap:=s3.heap.push { cls:=.type "slice",data:=.fields #[vl,vu,.none] } }:=I3.kept (t':=s3.toks) λb ob q=>Heap.get?_push_of_some _ q
 obtain ⟨T,id,hT,ht,hg⟩:=hr pins { s3 with heap:=s3.heap.push { cls:=.type "slice",data:=.fields #[vl,vu,.none] } } σ H3 x v vl vu l u s3.heap.objs.size Q I4 r1 (Heap.IsSliceOf.new ..) pl pu q3;show wpAny (model X.prog X.w) X.A (subscriptTail e (.Slice lo hi none p2) v (.ref s3.heap.objs.size)) (EP X pins σ Q) X.xe { s3 with heap:=s3.heap.push { cls:=.type "slice",data:=.fields #[vl,vu,.none] } }
 exact tail_any (ops:=[.ref s3.heap.objs.size,v]) ht hT hg (by with_unfolding_all rfl)
def ztd (xs:List V) (lo hi:Option Int):List V:=(xs.drop (HT.sIx xs.length 0 lo)).take (HT.sIx xs.length xs.length hi-HT.sIx xs.length 0 lo)
theorem ziK (xs:List V) (lo hi:Option Int):(ztd xs lo hi).length<=xs.length:=by
 unfold ztd;rw [List.length_take,List.length_drop];omega
def zCw (K:W.Frag):V->Option Int->Option Int->Hp->VK->Prop:=λx lo hi H Q=>∃ a xs,x=.ref a/\SqT K H a xs/\
 ¬ (HT.sIx xs.length 0 lo=0/\HT.sIx xs.length xs.length hi=xs.length)/\∀ p,H p=none->Q (.ref p) (upd H p (.tup (ztd xs lo hi)))
theorem zxN:SlR X (zCw X.K):=by
 intro pins s σ H x v vl vu lo hi sl Q I rx hs pl pu h;obtain ⟨a,xs,rfl,hx,hw,q⟩:=h;cases rx
 obtain ⟨its,r,ht,hz⟩:=I.tuple hx;have hlen:its.toArray.size=xs.length:=by rw [List.size_toArray]; exact r.length.symm
 refine ⟨"tuple",_,PyProof.Rows.slot_tuple_getitem.lookup,ht.typeIs,?_⟩;refine HT.getItem_tuple_cut ht hs pl pu (by rw [hlen]; exact hw) ?_ (by rw [hlen]; exact hz);rw [hlen];refine ⟨.ref s.heap.objs.size,_,I.laid (t':=s.toks) (o:=.tup (ztd xs lo hi)) (λb ob q=>Heap.get?_push_of_some _ q) (Nat.le_refl _) ?_,rfl,q _ (I.hok.fresh (Nat.le_refl _))⟩;exact ⟨Nat.le_trans (ziK xs lo hi) hz,_,(r.drop (HT.sIx xs.length 0 lo)).take (HT.sIx xs.length xs.length hi-HT.sIx xs.length 0 lo),IsTup.new _ _⟩
def zxO (K:W.Frag):R2:=λx y H Q=>∃ a b xs ys,x=.ref a/\y=.ref b/\SqT K H a xs/\SqT K H b ys/\xs≠[]/\xs.length+ys.length<=sizeLine/\
 (ys=[]->Q (.ref a) H)/\(ys≠[]->∀ p,H p=none->Q (.ref p) (upd H p (.tup (xs++ys))))
theorem Vals.nil_iff {xs:List V} {us:List Value} (r:Vals xs us):us=[]↔xs=[]:=by
 cases r with
 | nil=>simp
 | cons _ _=>simp
theorem zuz:OpR X (binaryOp .Add) (zxO X.K):=by
 intro pins s σ H x y v u Q I rx ry h;obtain ⟨a,b,xs,ys,rfl,rfl,ha,hb,hx,hz,q1,q2⟩:=h;cases rx
 cases ry
 obtain ⟨its,r1,p1,_⟩:=I.tuple ha;obtain ⟨its2,r2,p2,_⟩:=I.tuple hb;refine HT.cat_tup p1 p2 (λz=>hx (r1.nil_iff.mp z)) (λz=>⟨.ref a,H,I,rfl,q1 (r2.nil_iff.mp z)⟩) (λz=>?_) (by rw [<- r1.length,<- r2.length]; exact hz);refine ⟨.ref s.heap.objs.size,_,I.laid (t':=s.toks) (o:=.tup (xs++ys)) (λb ob q=>Heap.get?_push_of_some _ q) (Nat.le_refl _) ?_,rfl,q2 (λw=>z (r2.nil_iff.mpr w)) _ (I.hok.fresh (Nat.le_refl _))⟩
 exact ⟨by rw [List.length_append]; exact hz,_,r1.append r2,IsTup.new _ _⟩
end
def ixN (n:Nat) (i:Int):Option Nat:=if 0<=i then (if i < n then some i.toNat else none) else if -(n:Int)<=i then some (i+n).toNat else none
def atI {α:Type} (xs:List α) (i:Int):Option α:=(ixN xs.length i).bind λj=>xs[j]?
theorem zuA {n:Nat} {i:Int} {j:Nat} (h:ixN n i=some j):seqIndex? i n=some j/\j < n/\-(n:Int)<=i/\i < n:=by
 unfold ixN at h
 by_cases h0:0<=i
 ·rw [if_pos h0] at h
  by_cases h1:i < n
  ·rw [if_pos h1] at h;have e:i.toNat=j:=Option.some.inj h;exact ⟨by rw [seqIndex_of h0 h1,e],by omega,by omega,h1⟩
  ·rw [if_neg h1] at h; cases h
 ·rw [if_neg h0] at h
  by_cases h1:-(n:Int)<=i
  ·rw [if_pos h1] at h;have e:(i+n).toNat=j:=Option.some.inj h;exact ⟨by rw [seqIndex_neg (by omega) h1,e],by omega,h1,by omega⟩
  ·rw [if_neg h1] at h; cases h
theorem zmu {α:Type} {xs:List α} {i:Int} {v:α} (h:atI xs i=some v):∃ j,seqIndex? i xs.length=some j/\xs[j]? = some v/\j < xs.length/\-(xs.length:Int)<=i/\i < xs.length:=by
 unfold atI at h;cases e:ixN xs.length i with
 | none=>rw [e] at h; cases h
 | some j=>
  rw [e] at h;obtain ⟨h1,h2,h3,h4⟩:=zuA e;exact ⟨j,h1,h,h2,h3,h4⟩
def zo5 (b:Expr):Prop:=∀ o i,subscripted b false o i=operate [o,i] (getItem o i)
def IxR (X:Cx) (r:R2):Prop:=
 ∀ (value slice:Expr) (pins:List (Addr×Obj)) (s:Shared) (σ:St) (H:Hp) (x y:V) (v u:Value) (Q:VK),Inv X pins σ H s->RelV x v->RelV y u->r x y H Q->
  subscripted slice false v u=operate [v,u] (getItem v u)->wpAny (model X.prog X.w) X.A (subscriptTail value slice v u) (EP X pins σ Q) X.xe s
def MtR (X:Cx) (id:String) (r:V->List V->Hp->VK->Prop):Prop:=
 ∀ (pins:List (Addr×Obj)) (s:Shared) (σ:St) (H:Hp) (x:V) (xs:List V) (v:Value) (us:List Value) (Q:VK),Inv X pins σ H s->RelV x v->Vals xs us->r x xs H Q->
  wpAny (model X.prog X.w) X.A (call (.builtin id) (v :: us)) (EP X pins σ Q) X.xe s
section
variable {X:Cx} {a b:Expr} {ta tb:TE} {pos:Pos}
theorem IxR.or {r r':R2} (h:IxR X r) (h':IxR X r'):IxR X (λx y H Q=>r x y H Q\/r' x y H Q):=by
 intro value slice pins s σ H x y v u Q I rx ry q hs;rcases q with q | q
 ·exact h value slice pins s σ H x y v u Q I rx ry q hs
 ·exact h' value slice pins s σ H x y v u Q I rx ry q hs
theorem zA7 {r:R2} (hr:IxR X r) (ha:PE X a ta) (hb:PE X b tb) (hs:zo5 b):PE X (.Subscript a b pos) (tOp r ta tb):=by
 intro pins s σ H Q I h;exact Subscript_ (zA0 ha hb I h λv u s2 x y H2 I2 rx ry q=>hr a b pins s2 σ H2 x y v u Q I2 rx ry q (hs _ _))
def zCx (K:W.Frag):R2:=λx y H Q=>∃ p xs i v,x=.ref p/\y=.int i/\SqL K H p xs/\atI xs i=some v/\Q v H
def zCy (K:W.Frag):R2:=λx y H Q=>∃ p xs i v,x=.ref p/\y=.int i/\SqT K H p xs/\atI xs i=some v/\Q v H
def zCz:R2:=λx y H Q=>∃ z i c,x=.str z/\y=.int i/\z.length<=sizeLine/\atI z.cps.toList i=some c/\Q (.str ⟨#[c]⟩) H
theorem zuB:IxR X (zCx X.K):=by
 intro value slice pins s σ H x y v u Q I rx ry h hs;obtain ⟨p,xs,i,z,rfl,rfl,hq,he,q⟩:=h;cases rx
 obtain ⟨t,rfl⟩:=ry;obtain ⟨its,r,pl,hz⟩:=I.list hq;obtain ⟨j,h1,h2,h3,h4,h5⟩:=zmu he;obtain ⟨w,ew,rw'⟩:=r.get h2;have hl:=r.length;have hn:=znr;have fin:EP X pins σ Q w s:=⟨z,H,I,rw',q⟩
 by_cases h0:0<=i
 ·have hj:i.toNat=j:=by
   rw [seqIndex_of h0 h5] at h1;exact Option.some.inj h1
  exact item_listR pl.isList h0 (by omega) (by rw [hj]; simpa using ew) fin hs
 ·have hj:(i+(its.toArray.size:Int)).toNat=j:=by
   rw [seqIndex_neg (by omega) h4] at h1;rw [List.size_toArray,<- hl];exact Option.some.inj h1
  exact subscriptTail_builtinR (x:=w) pl.isList.typeIs slot_list_getitem.lookup
   (wpAny_getItem_list_neg (Q:=λr s'=>r=w/\EP X pins σ Q r s') pl.isList (by omega) (by rw [List.size_toArray] <;> omega) (by omega) (by rw [hj]; simpa using ew) ⟨rfl,fin⟩) hs
theorem zxP:IxR X (zCy X.K):=by
 intro value slice pins s σ H x y v u Q I rx ry h hs;obtain ⟨p,xs,i,z,rfl,rfl,hq,he,q⟩:=h;cases rx
 obtain ⟨t,rfl⟩:=ry;obtain ⟨its,r,pl,hz⟩:=I.tuple hq;obtain ⟨j,h1,h2,h3,h4,h5⟩:=zmu he;obtain ⟨w,ew,rw'⟩:=r.get h2;have hl:=r.length;have hn:=znr;have fin:EP X pins σ Q w s:=⟨z,H,I,rw',q⟩
 exact subscriptTail_builtinR (x:=w) pl.typeIs slot_tuple_getitem.lookup
  (getItem_tuple (j:=j) (Q:=λr s'=>r=w/\EP X pins σ Q r s') pl (by omega) (by omega) (by rw [List.size_toArray,<- hl]; exact h1) (by simpa using ew) ⟨rfl,fin⟩) hs
theorem zxQ:IxR X zCz:=by
 intro value slice pins s σ H x y v u Q I rx ry h hs;obtain ⟨z,i,c,rfl,rfl,hz,he,q⟩:=h;obtain ⟨t,rfl⟩:=rx;obtain ⟨t',rfl⟩:=ry;obtain ⟨j,h1,h2,h3,h4,h5⟩:=zmu he;have hl:z.cps.toList.length=z.length:=by simp [Str.length]
 rw [hl] at h1 h4 h5;have hn:=znr;exact tail_any (typeIs_str s z t) slot_str_getitem.lookup (getItem_str (c:=c) (by
  have e1:decide (i < -(2 ^ 63:Int))=false:=decide_eq_false (by omega);have e2:decide (i>=2 ^ 63)=false:=decide_eq_false (by omega);rw [e1,e2,Bool.or_false]) (by rw [h1]; simpa using h2) ⟨.str ⟨#[c]⟩,H,I.tok _,⟨_,rfl⟩,q⟩) hs
def rIx (K:W.Frag):R2:=λx y H Q=>zCx K x y H Q\/zCy K x y H Q\/zCz x y H Q
theorem zxR:IxR X (rIx X.K):=zuB.or (zxP.or zxQ)
theorem Inv.lst {pins:List (Addr×Obj)} {σ:St} {H:Hp} {s:Shared} {p:Addr} {xs:List V} (I:Inv X pins σ H s) (h:H p=some (.lst xs)) :
  ∃ (its:List Value) (n:Nat),Vals xs its/\s.heap.get? p=some { cls:=.type "list",data:=.seq its.toArray n }/\xs.length<=sizeLine:=by
 obtain ⟨z,its,n,r,e⟩:=I.hok p _ h;exact ⟨its,n,r,e,z⟩
theorem zie (lo hi:Option Int) (n:Nat):(sliceBounds lo hi none n).1=((HT.sIx n 0 lo:Nat):Int)/\(sliceBounds lo hi none n).2.1=((HT.sIx n n hi:Nat):Int)/\(sliceBounds lo hi none n).2.2=1:=by
 refine ⟨?_,?_,rfl⟩
 ·cases lo with
  | none=>simp [sliceBounds,HT.sIx]
  | some i=>
   simp only [sliceBounds,HT.sIx,Option.getD_none,show (1:Int) > 0 by decide,if_true]
   by_cases h:i < 0
   ·simp only [h,if_true] <;> omega
   ·simp only [h,if_false] <;> omega
 ·cases hi with
  | none=>simp [sliceBounds,HT.sIx]
  | some i=>
   simp only [sliceBounds,HT.sIx,Option.getD_none,show (1:Int) > 0 by decide,if_true]
   by_cases h:i < 0
   ·simp only [h,if_true] <;> omega
   ·simp only [h,if_false] <;> omega
theorem zkv (its:List Value) (lo hi:Option Int):slicePick its.toArray lo hi none=((its.drop (HT.sIx its.length 0 lo)).take (HT.sIx its.length its.length hi-HT.sIx its.length 0 lo)).toArray:=by
 obtain ⟨h1,h2,h3⟩:=zie lo hi its.toArray.size;unfold slicePick;rw [h1,h2,h3];simp only [sliceRange_one,pick_run,List.size_toArray] <;> rfl
def zCA (K:W.Frag):V->Option Int->Option Int->Hp->VK->Prop:=λx lo hi H Q=>∃ a xs,x=.ref a/\SqL K H a xs/\∀ p,H p=none->Q (.ref p) (upd H p (.lst (ztd xs lo hi)))
theorem zuC:SlR X (zCA X.K):=by
 intro pins s σ H x v vl vu lo hi sl Q I rx hs pl pu h;obtain ⟨a,xs,rfl,hx,q⟩:=h;cases rx
 obtain ⟨its,r,ht,hz⟩:=I.list hx;have hlen:=r.length;refine ⟨"list",_,slot_list_getitem.lookup,ht.isList.typeIs,?_⟩;refine wpAny_getItem_list_slice ht.isList hs pl pu .none (by simp) ?_ (by rw [List.size_toArray] <;> omega);rw [zkv,<- hlen];refine ⟨.ref s.heap.objs.size,_,I.laid (t':=s.toks) (o:=.lst (ztd xs lo hi)) (λb ob q=>Heap.get?_push_of_some _ q) (Nat.le_refl _) ?_,rfl,q _ (I.hok.fresh (Nat.le_refl _))⟩
 exact ⟨Nat.le_trans (ziK xs lo hi) hz,_,0,(r.drop (HT.sIx xs.length 0 lo)).take (HT.sIx xs.length xs.length hi-HT.sIx xs.length 0 lo),Heap.get?_push_size _ rfl⟩
theorem zlq:OpR X (compareOp .NotIn) (λx y H Q=>∃ i j,x=.str i/\y=.str j/\Q (.bl (!(!(Builtin.Str.occurrences j i 0 j.length 1).isEmpty))) H):=by
 intro pins s σ H x y v u Q I rx ry h;obtain ⟨i,j,rfl,rfl,q⟩:=h;obtain ⟨t,rfl⟩:=rx;obtain ⟨t',rfl⟩:=ry;exact notIn_str ⟨.bl _,H,I,rfl,q⟩
theorem CallR.or {f:Value} {r r':List V->Hp->VK->Prop} (h:CallR X f r) (h':CallR X f r'):CallR X f (λxs H Q=>r xs H Q\/r' xs H Q):=by
 intro pins s σ H xs us Q I rs q;rcases q with q | q
 ·exact h pins s σ H xs us Q I rs q
 ·exact h' pins s σ H xs us Q I rs q
theorem zlr:CallR X (.type "list") (λxs H Q=>∃ p ys,xs=[.ref p]/\(SqL X.K H p ys\/SqT X.K H p ys)/\∀ l,H l=none->Q (.ref l) (upd H l (.lst ys))):=by
 intro pins s σ H xs us Q I r h;obtain ⟨p,ys,rfl,hq,q⟩:=h;obtain ⟨u,rfl,rx⟩:=zir r;cases rx
 have fin:∀ (its:List Value),Vals ys its->ys.length<=sizeLine->∀ (h':Heap) (c':Nat),(∀ b o',s.heap.get? b=some o'->h'.get? b=some o')->
   h'.get? s.heap.objs.size=some { cls:=.type "list",dict:=none,data:=.seq its.toArray c',slots:=#[] }->EP X pins σ Q (.ref s.heap.objs.size) { s with heap:=h' }:=λits r' hz h' c' kp e=>
  ⟨.ref s.heap.objs.size,_,I.laid (t':=s.toks) kp (Nat.le_refl _) (show ObjOk X.prog X.w _ h' _ (.lst ys) from ⟨hz,its,c',r',e⟩),rfl,q _ (I.hok.fresh (Nat.le_refl _))⟩
 rcases hq with hq | hq
 ·obtain ⟨its,r',pl,hz⟩:=I.list hq;have hlen:=r'.length;obtain ⟨o,ho,hc,n,hd⟩:=pl.isList;exact call_list_seq p (.inl rfl) ho hc hd (λh' c' kp e=>fin its r' hz h' c' kp e) (by simp only [List.size_toArray] <;> omega)
 ·obtain ⟨its,r',pl,hz⟩:=I.tuple hq;have hlen:=r'.length;obtain ⟨o,ho,hc,n,hd⟩:=pl;exact call_list_seq p (.inr rfl) ho hc hd (λh' c' kp e=>fin its r' hz h' c' kp e) (by simp only [List.size_toArray] <;> omega)
theorem zkw:CallR X (.type "tuple") (λxs H Q=>∃ p ys,xs=[.ref p]/\((SqL X.K H p ys/\∀ l,H l=none->Q (.ref l) (upd H l (.tup ys)))\/(SqT X.K H p ys/\Q (.ref p) H))):=by
 intro pins s σ H xs us Q I r h;obtain ⟨p,ys,rfl,h⟩:=h;obtain ⟨u,rfl,rx⟩:=zir r;cases rx
 rcases h with ⟨hq,q⟩ | ⟨hq,q⟩
 ·obtain ⟨its,r',pl,hz⟩:=I.list hq;have hlen:=r'.length;refine call_tuple_list pl.isList (λh' kp=>?_) (by simp only [List.size_toArray] <;> omega);have I1:Inv X pins σ H { s with heap:=h' }:=I.kept (t':=s.toks) kp;have I2:Inv X pins σ (upd H h'.objs.size (.tup ys)) { s with heap:=h'.push { cls:=.type "tuple",data:=.seq its.toArray } }:=
   I1.laid (t':=s.toks) (λb o e=>Heap.get?_push_of_some _ e) (Nat.le_refl _) (show ObjOk X.prog X.w _ _ _ (.tup ys) from ⟨hz,its,r',IsTup.new _ _⟩)
  exact ⟨.ref h'.objs.size,_,I2,rfl,q _ (I1.hok.fresh (Nat.le_refl _))⟩
 ·obtain ⟨its,r',pl,hz⟩:=I.tuple hq;exact call_tuple_same pl ⟨.ref p,H,I,rfl,q⟩
def tyV (K:W.Frag) (T:String) (x:V) (H:Hp):Prop:=match x with
 | .str _=>T="str"
 | .int _=>T="int"
 | .ref p=>(T="list"/\∃ xs,SqL K H p xs)\/(T="tuple"/\∃ o,K.lookup p=some o/\o.cls=.type "tuple"/\o.dict=none)\/
   (T="dict"/\((∃ kvs,H p=some (.dK kvs))\/∃ kvs,H p=some (.dT kvs)))\/(T="set"/\∃ S n,H p=some (.set S n))
 | _=>False
theorem zxS {pins:List (Addr×Obj)} {σ:St} {H:Hp} {s:Shared} {T:String} {x:V} {v:Value} (I:Inv X pins σ H s) (r:RelV x v) (ty:tyV X.K T x H) :
  s.TypeIs v T/\∀ a,v=.ref a->∃ ob,s.heap.get? a=some ob/\ob.dict=none:=by
 cases x with
 | str z=>
  obtain ⟨t,rfl⟩:=r;cases (show T="str" from ty)
  exact ⟨typeIs_str s z t,λ_ e=>nomatch e⟩
 | int i=>
  obtain ⟨t,rfl⟩:=r;cases (show T="int" from ty)
  exact ⟨typeIs_int s i t,λ_ e=>nomatch e⟩
 | ref p=>
  cases r
  rcases ty with ⟨rfl,xs,hq⟩ | ⟨rfl,o,hk,hc,hd⟩ | ⟨rfl,hk⟩ | ⟨rfl,S,n,hk⟩
  ·obtain ⟨its,_,pl,_⟩:=I.list hq;refine ⟨pl.isList.typeIs,λa e=>?_⟩;cases e
   obtain ⟨o,n,e,c,hd,_⟩:=pl;exact ⟨o,e,hd⟩
  ·refine ⟨⟨o,I.kIn p o hk,hc⟩,λa e=>?_⟩;cases e
   exact ⟨o,I.kIn _ o hk,hd⟩
  ·have z:∃ o,s.heap.get? p=some o/\o.ExactDict:=by
    rcases hk with ⟨kvs,hk⟩ | ⟨kvs,hk⟩
    ·obtain ⟨_,_,_,_,o,_,_,e,ex,_⟩:=I.hok p _ hk;exact ⟨o,e,ex⟩
    ·obtain ⟨_,_,_,_,o,_,_,e,ex,_⟩:=I.hok p _ hk;exact ⟨o,e,ex⟩
   obtain ⟨o,e,ex⟩:=z;refine ⟨⟨o,e,ex.1⟩,λa e2=>?_⟩;cases e2
   exact ⟨o,e,ex.2.1⟩
  ·obtain ⟨o,_,_,_,e,ex,_⟩:=I.hok p _ hk;refine ⟨⟨o,e,ex.1⟩,λa e2=>?_⟩;cases e2
   exact ⟨o,e,ex.2.1⟩
 | _=>exact False.elim ty
def tBM (K:W.Frag) (T:String) (r:V->List V->Hp->VK->Prop) (to:TE) (t:TA):TE:=λσ H Q=>to σ H λx H1=>tyV K T x H1/\t σ H1 λxs H2=>r x xs H2 Q
variable {o e:Expr} {es:List Expr} {to:TE} {t:TA} {name:Str} {apos cpos:Pos} {T id:String} {r:V->List V->Hp->VK->Prop}
theorem zA8 (pa : PlainAttrs T) (slot : Slot T name id) (hty : typeOf (.builtin id) = pure (.type "method_descriptor")) (hm : MtR X id r) (ho : PE X o to) (ha : PA X (e :: es) t)
    (hbase : attributeBase o name X.env (eval o X.env) = eval o X.env := by rfl)
    (hfew : ((backTo cpos (starEach (e :: es) X.env)).all (λx => !x.1) && (backToKw cpos (keywordEach [] X.env)).all (λx => x.1.isSome)
      && decide ((e :: es).length + ([] : List Keyword).length + (if ([] : List Keyword).isEmpty then 0 else 1) < 30)) = true := by rfl)
    (hline : (apos.endLine == cpos.line) = true := by rfl) (hs : starEach (e :: es) X.env = (false, eval e X.env) :: starEach es X.env := by rfl) (hplain : (backTo cpos (starEach es X.env)).any (·.1) = false := by rfl) :
    PE X (.Call (.Attribute o name apos) (e :: es) [] cpos) (tBM X.K T r to t) := by
  intro pins s σ H Q I h;refine wpAny_Call_method_late hbase hfew hline rfl (thn (ho pins s σ H _ I h) λv s1 ⟨x, H1, I1, r1, ty, q1⟩ => ?_);obtain ⟨h1, h2⟩ := zxS I1 r1 ty;refine ⟨T, id, pa, slot, hty, h1, h2, ?_⟩;have hA := ha cpos pins s1 σ H1 _ I1 q1;rw [hs] at hA ⊢;refine Calls.callWith_builtin (by show (false || (backTo cpos (starEach es X.env)).any (·.1)) = false; rw [hplain] <;> rfl) (Calls.evalArgs_plain ?_)
  exact thn hA λus s2 ⟨vs, H2, I2, r2, q2⟩ => hm pins s2 σ H2 x vs v us Q I2 r1 r2 q2
end
def MtM (X:Cx) (id:String) (r:V->List V->Hp->VK->Prop):Prop:=
 ∀ (pins:List (Addr×Obj)) (s:Shared) (σ:St) (H:Hp) (x:V) (xs:List V) (v:Value) (us:List Value) (Q:VK),Inv X pins σ H s->RelV x v->Vals xs us->r x xs H Q->
  wpAny (model X.prog X.w) X.A (call (.builtin id) (v :: us)) (EP X pins σ Q) X.xe s
theorem Vals.one:∀ {x:V} {us:List Value},Vals [x] us->∃ u,us=[u]/\RelV x u
 | _,_,.cons r .nil=>⟨_,rfl,r⟩
theorem Vals.two:∀ {x y:V} {us:List Value},Vals [x,y] us->∃ u v,us=[u,v]/\RelV x u/\RelV y v
 | _,_,_,.cons r (.cons q .nil)=>⟨_,_,rfl,r,q⟩
theorem Vals.reverse {xs:List V} {us:List Value} (h:Vals xs us):Vals xs.reverse us.reverse:=by
 induction h with
 | nil=>exact .nil
 | cons r t ih=>rw [List.reverse_cons,List.reverse_cons]; exact Vals.append ih (.cons r .nil)
theorem Vals.rep {xs:List V} {us:List Value} (h:Vals xs us):∀ k:Nat,Vals (List.replicate k xs).flatten (List.replicate k us).flatten
 | 0=>.nil
 | k+1=>by
  rw [List.replicate_succ,List.replicate_succ,List.flatten_cons,List.flatten_cons];exact Vals.append h (Vals.rep h k)
theorem zls (its:List Value):∀ (k:Nat) (acc:List Value),
  List.foldl (λx1 x2=>x1++x2) acc.toArray (List.replicate k its.toArray)=(acc++(List.replicate k its).flatten).toArray
 | 0,acc=>by simp
 | k+1,acc=>by
  have e:acc.toArray++its.toArray=(acc++its).toArray:=by simp
  have e2:(acc++its)++(List.replicate k its).flatten=acc++(List.replicate (k+1) its).flatten:=by
   rw [List.replicate_succ,List.flatten_cons,List.append_assoc]
  rw [<- e2,<- zls its k (acc++its),<- e,List.replicate_succ,List.foldl_cons]
section
variable {X:Cx} {pins:List (Addr×Obj)} {σ:St} {H:Hp} {s:Shared} {l b:Addr} {xs ys zs:List V}
theorem Inv.lset {its its':List Value} {n:Nat} {f:Array Value->Array Value} {t':Nat} (I:Inv X pins σ H s) (hH:H l=some (.lst xs))
  (e:s.heap.get? l=some { cls:=.type "list",data:=.seq its.toArray n }) (hf:f its.toArray=its'.toArray) (hv:Vals ys its') (hz:ys.length<=sizeLine) :
  Inv X pins σ (upd H l (.lst ys)) { s with heap:=s.heap.update l (Obj.mapSeq f),toks:=t' }:=by
 have q:=PySem.IsL.update e f;rw [hf] at q;refine I.write (x:=l) (e:=l) (by rw [hH]; exact trivial) (.inl rfl) (λb' u hb hu=>(Heap.get?_update_other s.heap (Obj.mapSeq f) (Ne.symm hb)).trans hu) ⟨_,q⟩ ?_;exact ⟨hz,its',_,hv,q⟩
theorem Inv.lnew {its:List Value} {t':Nat} (I:Inv X pins σ H s) (hv:Vals ys its) (hz:ys.length<=sizeLine) :
  Inv X pins σ (upd H s.heap.objs.size (.lst ys)) { s with heap:=s.heap.push { cls:=.type "list",data:=.seq its.toArray },toks:=t' }:=
 I.laid (λ_ _ q=>Heap.get?_push_of_some _ q) (Nat.le_refl _) ⟨hz,its,0,hv,Heap.get?_push_size _ rfl⟩
theorem Inv.fresh (I:Inv X pins σ H s):H s.heap.objs.size=none:=I.hok.fresh (Nat.le_refl _)
theorem Inv.lstM (I:Inv X pins σ H s) (hH:H l=some (.lst xs)):xs.length<=sizeLine/\∃ (its:List Value) (n:Nat),Vals xs its/\xs.length=its.length/\s.heap.get? l=some { cls:=.type "list",data:=.seq its.toArray n }:=by
 obtain ⟨z,its,n,r,e⟩:=I.hok l _ hH;exact ⟨z,its,n,r,r.length,e⟩
theorem zkx {n:Nat} (h:n<=sizeLine):Builtin.List.listTooLong n=false:=by
 unfold Builtin.List.listTooLong;exact decide_eq_false (by omega)
end
section
variable {X:Cx}
def zmv:V->List V->Hp->VK->Prop:=λx vs H Q=>∃ l xs y,x=.ref l/\vs=[y]/\H l=some (.lst xs)/\xs.length < sizeLine/\Q .non (upd H l (.lst (xs++[y])))
theorem zlt:MtM X "list.append" zmv:=by
 intro pins s σ H x vs v us Q I rx rv h;obtain ⟨l,xs,y,rfl,rfl,hH,hz,q⟩:=h;cases rx
 obtain ⟨u,rfl,ru⟩:=rv.one;obtain ⟨z,its,n,r,hl,e⟩:=I.lstM hH;refine call_meets F.slot_list_append ⟨_,e,rfl⟩ F.entry_list_append (F.args_list_append_2 _ _) (PySem.list_append l its.toArray n u (by rw [List.size_toArray]; omega)) ⟨e,?_⟩;refine ⟨.non,_,I.lset (its':=its++[u]) hH e (by simp) (r.append (.cons ru .nil)) ?_,rfl,q⟩;rw [List.length_append,List.length_singleton];omega
def zCB:R2:=λx y H Q=>∃ l b xs zs,x=.ref l/\y=.ref b/\H l=some (.lst xs)/\H b=some (.lst zs)/\xs.length+zs.length<=sizeLine/\∀ p,H p=none->Q (.ref p) (upd H p (.lst (xs++zs)))
theorem zxT:OpR X (binaryOp .Add) zCB:=by
 intro pins s σ H x y v u Q I rx ry h;obtain ⟨l,b,xs,zs,rfl,rfl,hH,hB,hz,q⟩:=h;cases rx
 cases ry
 obtain ⟨z,its,n,r,hl,e⟩:=I.lstM hH;obtain ⟨z2,its2,n2,r2,hl2,e2⟩:=I.lstM hB;refine PySem.P.add_list e e2 ?_ (by rw [List.size_toArray,List.size_toArray]; omega);have ea:its.toArray++its2.toArray=(its++its2).toArray:=by simp
 rw [ea];exact ⟨.ref _,_,I.lnew (t':=s.toks) (r.append r2) (by rw [List.length_append]; omega),rfl,q _ I.fresh⟩
def zCC:R2:=λx y H Q=>∃ l k xs,x=.ref l/\y=.int k/\H l=some (.lst xs)/\-(2 ^ 63)<=k/\k < 2 ^ 63/\xs.length*k.toNat<=sizeLine/\
 ∀ p,H p=none->Q (.ref p) (upd H p (.lst (List.replicate k.toNat xs).flatten))
theorem zuD {α:Type} (xs:List α) (k:Nat):(List.replicate k xs).flatten.length=k*xs.length:=by
 induction k with
 | zero=>simp
 | succ k ih=>rw [List.replicate_succ,List.flatten_cons,List.length_append,ih,Nat.succ_mul,Nat.add_comm]
theorem zxU : OpR X (binaryOp .Mult) zCC := by
  intro pins s σ H x y v u Q I rx ry h;obtain ⟨l, k, xs, rfl, rfl, hH, h1, h2, hz, q⟩ := h;cases rx
  obtain ⟨t, rfl⟩ := ry;obtain ⟨z, its, n, r, hl, e⟩ := I.lstM hH;have hlen : its.toArray.size * k.toNat <= sizeLine := by rw [List.size_toArray, <- hl]; exact hz
  have hcap : ¬ its.toArray.size * k.toNat > (2 ^ 63 - 1) / 8 := by
    have : (sizeLine : Nat) <= (2 ^ 63 - 1) / 8 := by decide
    omega
  have hfit : ¬ (!Builtin.List.listFitsIndex k) = true := by
    rw [fitsIndex_both h1 h2];exact Bool.false_ne_true
  have hlong : ¬ Builtin.List.listTooLong (its.toArray.size * k.toNat) = true := by
    rw [zkx hlen];exact Bool.false_ne_true
  have hnew : List.foldl (λx1 x2 => x1 ++ x2) #[] (List.replicate (if its.toArray.isEmpty = true then 0 else k.toNat) its.toArray) = (List.replicate k.toNat its).flatten.toArray := by
    have f0 : ∀ m : Nat, List.foldl (λx1 x2 => x1 ++ x2) #[] (List.replicate m its.toArray) = (List.replicate m its).flatten.toArray := λm => by
      have := zls its m [];rw [List.nil_append] at this;exact this
    rw [f0];cases its with
    | nil => simp
    | cons a r' => rw [if_neg (by simp)]
  refine wpAny_binaryOp_repeat_ref (T := "list") (U := "int") (by decide) ⟨_, e, rfl⟩ (λs' => typeIs_int s' k t) noFill_list_mul F.fills_int_mul F.slot_int_rmul repeat_list F.slot_int_index.lookup
    (call_meets F.slot_int_rmul (typeIs_int s k t) F.entry_int_rmul (F.args_int_rmul_2 _ _) (int___rmul___int_list k t l its.toArray n)
      ⟨e, rfl, ⟨_, e, rfl⟩, call_meets F.slot_list_mul ⟨_, e, rfl⟩ F.entry_list_mul (F.args_list_mul_2 _ _) (AutoListH.list___mul___list_int_3 l its.toArray n k t hfit hcap hlong) ⟨e, ?_⟩⟩)
  rw [hnew];exact ⟨.ref _, _, I.lnew (t' := s.toks) (r.rep k.toNat) (by rw [zuD, Nat.mul_comm]; exact hz), rfl, q _ I.fresh⟩
end
section
variable {prog:Program} {w:World} {A:Around} {E:Value->Shared->Prop} {s:Shared}
theorem zo6 (its its2 : List Value) (a c : Nat) : its.toArray.extract 0 a ++ its2.toArray ++ its.toArray.extract c its.toArray.size = (its.take a ++ its2 ++ its.drop c).toArray := by
  apply Array.toList_inj.mp
  first
    | (simp
       exact List.take_of_length_le (by simp))
    | simp [List.take_of_length_le]
    | simp
end
section
variable {X:Cx}
end
end L2
namespace Att
open PySem PySem.W PySem.Calls PyProof.Rows
theorem ziL {P:Params} {h:Heap}:∀ (ns:List Int) (vs:List Value),WellAll P h vs (ns.map WData.int)->IntsAre vs ns:=by
 intro ns
 induction ns with
 | nil=>
  intro vs w;rw [List.map_nil] at w;cases w
  exact .nil
 | cons n ns ih=>
  intro vs w;rw [List.map_cons] at w;cases w with
  | cons a b=>
   cases a
   exact .cons _ _ (ih _ b)
theorem zo7 {l:OpenLaw} {n:Nat} (hn:l.most=some n) {P:Params} {h:Heap} {args:List WData} {vals:List Value}
  (hpre:l.row.toRowW.claim.pre args=true) (hwl:WellAll P h vals args) :
  ∃ a vs ns,vals=[Value.ref a]/\args=[WData.list (ns.map WData.int)]/\h.get? a=some { cls:=.type "list",data:=.seq vs.toArray }/\IntsAre vs ns/\ns.length<=n:=by
 have hsh:WShape.hasAll [] args [.list .int]=true:=(pre_splitW hpre).1;have hc:l.pre.holds [] { args:=args }=true:=(pre_splitW hpre).2;obtain ⟨d,r,rfl,h1,h2⟩:=hasAllW_cons hsh;obtain rfl:=hasAllW_nil h2;obtain ⟨xs,rfl,h3⟩:=hasW_list h1;obtain ⟨ns,rfl⟩:=items_int h3;have hlen:ns.length<=n:=by
  unfold OpenLaw.pre at hc;have h4:(WTm.not (.lt (.lit (.int (n:Int))) (.len (.arg 0)))).holds [] { args:=[.list (ns.map .int)] }=true:=by
   have h4:=(holds_andW hc).1;rw [hn] at h4;exact h4
  have h5:=condW_of h4 (w_not (w_lt w_lit (w_len_list (w_arg rfl))));rw [List.length_map] at h5;refine Nat.le_of_not_lt λq=>?_;have q':(n:Int) < ((ns.length:Nat):Int):=by omega
  first
   | (rw [decide_eq_true q'] at h5; exact absurd h5 (by decide))
   | (simp at h5; omega)
 cases hwl with
 | cons w1 w2=>
  cases w2
  cases w1 with
  | list ho hall=>exact ⟨_,_,ns,rfl,rfl,ho,ziL ns _ hall,hlen⟩
theorem zo8 (l:OpenLaw) (args:List WData):l.row.toRowW.claim.post args (.bool true) args=true:=
 postW_of (r:=l.row.toRowW) (X:=(true==true))
  (show WShape.has [] (.bool true) .bool=true by first | rfl | decide | simp [WShape.has,WShape.arms,WShape.armsAll])
  (show (WTm.eq .res (.lit (.bool true))).value [] { args:=args,res:=some (.bool true),after:=args }=some (.bool (true==true)) from w_eq_bool (w_res rfl) w_lit) rfl
theorem attach_call {l : OpenLaw} {n : Nat} {q : Program} {loose : List Str} {XP : (Str -> Option Value) -> Heap -> Prop} {YP : World -> Heap -> Prop} {d : DefRec}
    (hn : l.most = some n) (hdf : d.params.defaults = [])
    (call : ∀ (w : World) (s₀ s₁ : Shared) (mg mb : Str -> Option Value) (fa : Addr) (o : Obj) (pm cd doc : Value) (a : Addr) (vs : List Value) (ns : List Int),
      Ground q loose [] XP w s₀ mg mb s₁.heap -> YP w s₁.heap ->
      s₁.heap.get? fa = some o -> o.data = .func (docDef d.name d.params d.body d.scope pm cd doc) -> s₁.heap.CodeRec cd d.name -> mg d.name = some (.ref fa) ->
      s₁.heap.get? a = some { cls := .type "list", data := .seq vs.toArray } -> IntsAre vs ns -> ns.length <= n -> s₁.gens = #[] ->
      codeAny (model l.prog w) callerA (.call (.ref fa) ⟨[.ref a], []⟩) (λr s' => r = .ok (.ret (.bool true)) /\ OldK s₁.heap s'.heap /\ s'.os = s₁.os /\ AllBare s'.gens) s₁) :
    WalkO q loose XP YP l.row.toRowW d [] (λf vs => PySem.call f vs) := by
  intro w s₀ s₁ mg mb G Y fa o pm cd doc dV kV ho hd hcd hD hmg hg args vals as hpre hlay hrd hwl hlo;obtain rfl : dV = .none := Dflts.none hD hdf;obtain rfl : kV = .none := Dflts.noKw hD;obtain ⟨a, vs, ns, rfl, rfl, hobj, hints, hlen⟩ := zo7 hn hpre hwl;refine enter_call (codeAny_mono (call w s₀ s₁ mg mb fa o pm cd doc a vs ns G Y ho (fd_plain hd) hcd hmg hobj hints hlen hg) λr s' hq => ?_);obtain ⟨rfl, h2, h3, h4⟩ := hq
  exact ⟨.inl ⟨.bool true, .bool true, [], rfl, λ_ => rfl, .bool true, zo8 l _, λ_ => ⟨List.Pairwise.nil, λ_ hm => (nomatch hm)⟩⟩, h2, h3, h4⟩
section
variable {prog:Program} {w:World} {A:Around} {E:Value->Shared->Prop} {s:Shared} {K:Frag}
end
end Att
namespace L2
open PySem PySem.Spec PyProof.Rows
theorem zlu:∀ {vs:List Value} {ns:List Int},IntsAre vs ns->Vals (ns.map V.int) vs
 | _,_,.nil=>.nil
 | _,_,.cons n t h=>.cons ⟨t,rfl⟩ (zlu h)
def zAF (H:Hp):Prop:=∀ b,H b=none\/∃ o xs,H b=some (.frz o (.lst xs))
theorem zrK {P:Program} {w:World} {K:W.Frag} {mg mb:Str->Option Value} {CX:CXT} {k:Nat} {fa a:Addr} {fd:FuncData} {x:Str} {sp:Sp} {s₁:Shared} {vs:List Value} {ns:List Int}
  (KX:K.In s₁.heap) (hns:s₁.heap.Ns mainGlobals mg) (hb:s₁.heap.Ns builtinsNs mb) (hbb:∀ x:Str,x≠"__name__"->mb x=bootBuiltins x) (hlim:s₁.heap.NoLimit) (hg:s₁.gens=#[])
  (ha:s₁.heap.get? a=some { cls:=.type "list",data:=.seq vs.toArray }) (hi:IntsAre vs ns) (hl:ns.length<=sizeLine) (hr:Room k callerA)
  (F:∀ base:Heap,K.In base->base.Ns mainGlobals mg->FnOk P w K mg base CX k fa fd [x] sp) (hbind:∀ (s:Shared) (u:Value),BindsTo s fd ⟨[u],[]⟩ [(x,u)])
  (hsp:∀ H:Hp,zAF H->SqL K H a (ns.map V.int)->sp [.ref a] H (λv _=>v=.bl true) λ_ _ _=>False)
  (hCX:∀ H e s',CX [] H s₁ (λ_ _ _=>False) e s'->False) :
  codeAny (model P w) callerA (.call (.ref fa) ⟨[.ref a],[]⟩) (λr s'=>r=.ok (.ret (.bool true))/\OldK s₁.heap s'.heap/\s'.os=s₁.os/\AllBare s'.gens) s₁:=by
 have rv:=zlu hi;have lenV:=hi.length
 -- from an abstract heap in which nothing but the script may be tracked
 have core:∀ H:Hp,zAF H->SqL K H a (ns.map V.int)->HOk P w H s₁.heap->(∀ b,H b≠none->b=a)->(H a≠none->K.lookup a=none)->
   codeAny (model P w) callerA (.call (.ref fa) ⟨[.ref a],[]⟩) (λr s'=>r=.ok (.ret (.bool true))/\OldK s₁.heap s'.heap/\s'.os=s₁.os/\AllBare s'.gens) s₁:=by
  intro H hO hS hok hA hK;have base_of:∀ {b:Addr} {o:Obj},s₁.heap.get? b=some o->H b=none->(zrt s₁.heap H).get? b=some o:=λe n=>zru e n;have noA:∀ {b:Addr} {o:Obj} {es:Array DictEntry} {ep:Nat},s₁.heap.get? b=some o->o.data=.dict es ep->H b=none:=λ{b o es ep} e d=>by
   cases q:H b with
   | none=>rfl
   | some u=>
    have e':b=a:=hA b (by rw [q]; simp);subst e';rw [ha] at e; cases e
    have d':Data.seq vs.toArray _=Data.dict es ep:=d;cases d'
  have nsK:∀ {b:Addr} {m:Str->Option Value},s₁.heap.Ns b m->(zrt s₁.heap H).Ns b m:=λ{b m} ⟨o,es,ep,e,d,r⟩=>⟨o,es,ep,base_of e (noA e d),d,r⟩
  have hKb:K.In (zrt s₁.heap H):=λb o e=>base_of (KX b o e) (by
   cases q:H b with
   | none=>rfl
   | some u=>
    have e':b=a:=hA b (by rw [q]; simp);subst e';rw [hK (by rw [q]; simp)] at e; cases e)
  have hM:Mod K mg (zrt s₁.heap H):=⟨hKb,nsK hns,⟨mb,nsK hb,hbb⟩,let ⟨mc,h1,h2⟩:=hlim; ⟨mc,nsK h1,h2⟩⟩
  have e0:Env0 P w K mg (zrt s₁.heap H) callerA [] s₁ H:=⟨rfl,hM,λb o e=>zub e,Nat.le_of_eq (zoN _ _),trivial,λb hb=>absurd (show b∈([]:List Addr) from hb) (by simp),hok,.of_eq hg⟩
  refine codeAny_mono ((F _ hKb (nsK hns)).run callerA [] s₁ H ⟨[.ref a],[]⟩ [.ref a] [.ref a] _ _ hr e0 (hbind s₁ (.ref a)) (.cons rfl .nil) (hsp H hO hS)) λr s' h=>?_;cases r with
  | error e=>exact (hCX H e s' h).elim
  | ok fl=>
   cases fl with
   | next=>exact False.elim h
   | brk=>exact False.elim h
   | cont=>exact False.elim h
   | ret u=>
    obtain ⟨v,H',os,bare,un,hok',r',q⟩:=h;have q':v=.bl true:=q;subst q';obtain rfl:u=Value.bool true:=r';refine ⟨rfl,OldK.of_keep λb o e=>?_,os,bare⟩;cases q:H b with
    | none=>exact un.keep b o e q (by intro z; exact absurd (show b∈([]:List Addr) from z) (by simp)) (by simp)
    | some u=>
     rcases hO b with z | ⟨ob,xs,z⟩
     ·rw [q] at z; cases z
     ·have z2:=un.frzs b ob _ z;obtain ⟨e1,_⟩:=hok b _ z;obtain ⟨e2,_⟩:=hok' b _ z2;rw [e] at e1; cases e1
      exact e2
 cases hk:K.lookup a with
 | some o=>
  -- the script is one of the module's own objects
  have e:=KX a o hk;rw [ha] at e;cases e
  refine core (λ_=>none) (λ_=>.inl rfl) (.inr ⟨_,vs.toArray,_,hk,rfl,rfl,rfl,by rw [List.size_toArray,lenV]; exact hl,by simpa using rv⟩) (λb u z=>by have z':(none:Option HO)=some u:=z; cases z') (λb z=>absurd rfl z) λz=>absurd rfl z
 | none=>
  refine core (λb=>if b=a then some (.frz { cls:=.type "list",data:=.seq vs.toArray } (.lst (ns.map V.int))) else none) (λb=>?_) (.inl (.inr ⟨{ cls:=.type "list",data:=.seq vs.toArray },if_pos rfl⟩)) (λb u z=>?_) (λb z=>?_) λ_=>hk
  ·by_cases hb:b=a
   ·exact .inr ⟨_,_,if_pos hb⟩
   ·exact .inl (if_neg hb)
  ·by_cases hb:b=a
   ·have z':=(if_pos hb).symm.trans z;cases z'
    subst hb;exact ⟨ha,by rw [List.length_map]; exact hl,vs,_,rv,ha⟩
   ·have z':=(if_neg hb).symm.trans z;cases z'
  ·by_cases hb:b=a
   ·exact hb
   ·exact absurd (if_neg hb) z
theorem walk_of {l : W.OpenLaw} {n k : Nat} {q : Program} {loose : List Str} {XP : (Str -> Option Value) -> Heap -> Prop} {YP : World -> Heap -> Prop} {d : DefRec} {K : Params -> W.Frag} {CX : World -> CXT} {sp : World -> Sp} {x : Str}
    (hn : l.most = some n) (hn2 : n <= sizeLine) (hdf : d.params.defaults = []) (hr : Room k callerA)
    (hY : ∀ (w : World) (h : Heap), YP w h -> (K w.params).In h)
    (F : ∀ (w : World) (mg : Str -> Option Value) (fa : Addr) (h : Heap), (K w.params).In h -> h.Ns mainGlobals mg -> mg d.name = some (.ref fa) ->
      ∃ fd : FuncData, (∀ (s : Shared) (u : Value), BindsTo s fd ⟨[u], []⟩ [(x, u)]) /\
        ∀ base : Heap, (K w.params).In base -> base.Ns mainGlobals mg -> FnOk l.prog w (K w.params) mg base (CX w) k fa fd [x] (sp w))
    (hsp : ∀ (w : World) (H : Hp) (a : Addr) (ns : List Int), ns.length <= n -> zAF H -> SqL (K w.params) H a (ns.map V.int) -> sp w [.ref a] H (λv _ => v = .bl true) λ_ _ _ => False)
    (hCX : ∀ (w : World) (H : Hp) (s : Shared) (e : Value) (s' : Shared), CX w [] H s (λ_ _ _ => False) e s' -> False) :
    W.WalkO q loose XP YP l.row.toRowW d [] (λf vs => PySem.call f vs) := by
  refine Att.attach_call hn hdf λw s₀ s₁ mg mb fa o pm cd doc a vs ns G Y ho hd hcd hmg hobj hints hlen hg => ?_;have KX := hY w _ Y;obtain ⟨fd, hb, hF⟩ := F w mg fa _ KX G.T.g hmg;exact zrK KX G.T.g G.T.b G.T.builtins G.T.nolimit hg hobj hints (Nat.le_trans hlen hn2) hr hF hb (λH hO hS => hsp w H a ns hlen hO hS) λH e s' => hCX w H s₁ e s'
def zbW (s:Stmt) (j:Nat):Stmt:=match s with
 | .ClassDef _ _ _ body _ _ _ _ _ _ _=>body.getD j (.Pass ⟨0,0,0,0⟩)
 | _=>.Pass ⟨0,0,0,0⟩
def zch (s:Stmt):Arguments:=match s with
 | .FunctionDef _ a _ _ _ _ _ _ _ _=>a
 | _=>{ posonlyargs:=[],args:=[],vararg:=none,kwonlyargs:=[],kw_defaults:=[],kwarg:=none,defaults:=[] }
def zbc (s:Stmt):List Stmt:=match s with
 | .FunctionDef _ _ b _ _ _ _ _ _ _=>b
 | _=>[]
def zad (s:Stmt):Scope:=match s with
 | .FunctionDef _ _ _ _ _ _ sc _ _ _=>sc
 | _=>{ kind:=.function,names:=[],isGenerator:=false,isCoroutine:=false }
abbrev CX0:CXT:=λ_ _ _ _ _ _=>False
abbrev E0:XK:=λ_ _ _=>False
theorem zrL {X:Cx}:zgW CX0 X E0:=λ_ _ _ _ _ _ _ h=>h.elim
structure Fun (K:W.Frag) (x qual:Str) (st:Stmt) (f:Addr) (fd:FuncData):Prop where
 ex:∃ (oc:Value) (od:Option Addr) (kV doc pm:Value) (an:Option Addr) (cdv ct:Value) (osl:Array (Option Value)),
  fd=W.fnOf x qual (zch st) (zbc st) (zad st) .none kV doc pm an cdv ct/\K.lookup f=some ⟨oc,od,.func fd,osl⟩/\W.codeIn K cdv qual=true
 kp:W.keepIn K (.ref f)=true
section
variable {P:Program} {w:World} {K:W.Frag} {mg:Str->Option Value} {base:Heap}
theorem Fun.binds {x qual:Str} {st:Stmt} {f:Addr} {fd:FuncData} {ps:List Str} (F:Fun K x qual st f fd)
  (h:∀ (kV doc pm:Value) (an:Option Addr) (cdv ct:Value) (us:List Value),us.length=ps.length->bindArgs (W.fnOf x qual (zch st) (zbc st) (zad st) .none kV doc pm an cdv ct) ⟨us,[]⟩=pure (ps.zip us)):Binds K fd ps []:=by
 obtain ⟨oc,od,kV,doc,pm,an,cdv,ct,osl,rfl,lk,hcd⟩:=F.ex;exact .all (h kV doc pm an cdv ct)
theorem zte {x qual:Str} {st:Stmt} {f:Addr} {oc:Value} {od an:Option Addr} {osl:Array (Option Value)} {kV doc pm cdv ct:Value} (l:K.lookup f=some ⟨oc,od,.func (W.fnOf x qual (zch st) (zbc st) (zad st) .none kV doc pm an cdv ct),osl⟩)
  (c:W.codeIn K cdv qual=true) (k:W.keepIn K (.ref f)=true):Fun K x qual st f (W.fnOf x qual (zch st) (zbc st) (zad st) .none kV doc pm an cdv ct):=⟨⟨oc,od,kV,doc,pm,an,cdv,ct,osl,rfl,l,c⟩,k⟩
end
section
variable {X:Cx}
end
def zA9 (H H':Hp):Prop:=∀ b o,H b=some o->H' b=some o
section
variable {κ:Type} [DecidableEq κ]
theorem KV.length {kvs:List (κ×V)} {vs:List (κ×Value)} (r:KV kvs vs):kvs.length=vs.length:=Paired.length r
end
theorem zBa {P:Program} {w:World} {k:Key} {u:Value} (r:RelV (kV k) u):(zbM P w).is k u=true:=by
 cases k with
 | inl i=>obtain ⟨t,e⟩:=(show ∃ t,u=Value.int i t from r); subst e; exact zmo P w i t
 | inr x=>obtain ⟨t,e⟩:=(show ∃ t,u=Value.str x t from r); subst e; exact zmp P w x t
theorem zlv {P:Program} {w:World}:∀ {ks:List Key} {us:List Value},Vals (ks.map kV) us->ItemsAre (zbM P w) ks us
 | [],_,r=>by rw [List.map_nil] at r; cases r; exact .nil
 | k :: ks,_,r=>by
  rw [List.map_cons] at r;cases r with
  | cons h t=>exact .cons (zBa h) (zlv t)
abbrev KT (H:Hp):List (List Key×V)->List (List Key×Addr×Value)->Prop:=Paired λp q=>p.1=q.1/\H q.2.1=some (.tup (p.1.map kV))/\RelV p.2 q.2.2
section
variable {P:Program} {w:World} {H:Hp} {h:Heap} {a:Addr}
theorem zxV {u:HO} (ok:HOk P w H h) (e:Rd H a u):ObjOk P w H h a u:=e.ok ok
theorem zxW {kvs:List (Key×V)} (ok:HOk P w H h) (e:Rd H a (.dK kvs)):kvs.length<=sizeLine/\(a==sysModules)=false/\∃ vs,KV kvs vs/\h.DictOf (zbM P w) a vs:=
 show ObjOk P w H h a (.dK kvs) from zxV ok e
theorem zxX {kvs:List (Key×V)} (ok:HOk P w H h) (e:H a=some (.dK kvs)):kvs.length<=sizeLine/\(a==sysModules)=false/\∃ vs,KV kvs vs/\h.DictOf (zbM P w) a vs:=zxW ok (.inl e)
theorem zxY {ks:List Key} (ok:HOk P w H h) (e:H a=some (.tup (ks.map kV))):(tupleKind (zbM P w)).is h ks a:=by
 obtain ⟨_,its,r,o,h1,h2,n,h3⟩:=(show ObjOk P w H h a (.tup (ks.map kV)) from ok a _ e)
 exact ⟨o,its.toArray,n,h1,h2,h3,by simpa using zlv r⟩
theorem zxZ {kvs:List (List Key×V)} (ok:HOk P w H h) (e:Rd H a (.dT kvs)):kvs.length<=sizeLine/\(a==sysModules)=false/\
  ∃ xs,KT H kvs xs/\h.DictOfH (tupleKind (zbM P w)) a xs:=by
 obtain ⟨z,y,xs,r,o,es,ep,h1,h2,h3,h4,h5⟩:=(show ObjOk P w H h a (.dT kvs) from zxV ok e)
 refine ⟨z,y,xs,r,o,es,ep,h1,h2,h3,h4,λx hx=>?_,h5⟩;have all:∀ {l:List (List Key×V)} {m:List (List Key×Addr×Value)},KT H l m->∀ x∈m,(tupleKind (zbM P w)).is h x.1 x.2.1:=by
  intro l m q
  induction q with
  | nil=>intro x hx; exact nomatch hx
  | @cons p q ps qs hq t ih=>
   intro x hx;rcases List.mem_cons.mp hx with e | hx
   ·subst e;exact zxY ok (by rw [<- hq.1]; exact hq.2.1)
   ·exact ih x hx
 exact all r x hx
theorem zx0 {kvs:List (List Key×V)} (ok:HOk P w H h) (e:H a=some (.dT kvs)):kvs.length<=sizeLine/\(a==sysModules)=false/\
  ∃ xs,KT H kvs xs/\h.DictOfH (tupleKind (zbM P w)) a xs:=zxZ ok (.inl e)
end
section
variable {X:Cx} {pins:List (Addr×Obj)} {σ:St} {H:Hp} {s:Shared} {a:Addr} {y v:V} {u r:Value} {o:Option V} {A:Around} {E:Value->Shared->Prop}
theorem Inv.big (I:Inv X pins σ H s):sysModules < s.heap.objs.size:=by
 have h:mainGlobals < s.heap.objs.size:=(I.mod.glob.keeps I.bk).lt;exact Nat.lt_trans (by decide) h
end
section
variable {X:Cx} {pins:List (Addr×Obj)} {σ:St} {H:Hp} {s:Shared} {a:Addr} {kvs:List (Key×V)} {k:Key} {u:Value} {A:Around} {E:Value->Shared->Prop}
theorem zBb {Q:Value->Shared->Prop} (I:Inv X pins σ H s) (e:Rd H a (.dK kvs)) (h:∀ t s',Inv X pins σ H s'->Q (.int kvs.length t) s'):wpAny (model X.prog X.w) A (call (.builtin "len") [.ref a]) Q E s:=by
 obtain ⟨z,hd,vs,rel,dd⟩:=zxW I.hok e;refine call_len_dict hd dd (by rw [<- rel.length]; rw [sizeLine_eq] at z; omega) ?_;rw [<- rel.length];exact h _ _ (I.tok _)
end
section
variable {X:Cx} {o i e value:Expr} {pos pos' tpos:Pos} {td ty tv:TE}
end
theorem zrM {P:Program} {w:World} {H:Hp} (h:Heap) (hb:sysModules < h.objs.size):ObjOk P w H (h.push { cls:=.type "dict",data:=.dict #[] }) h.objs.size (.dK []):=
 ⟨Nat.zero_le _,beq_eq_false_iff_ne.mpr (Ne.symm (Nat.ne_of_lt hb)),[],.nil,Heap.DictOf.new h⟩
def ztf:TE:=λ_ H Q=>∀ p,H p=none->Q (.ref p) (upd H p (.dK []))
section
variable {X:Cx} {pos:Pos}
theorem zrN:PE X (.Dict [] [] pos) ztf:=λpins s σ H Q I h=>
 wpAny_Dict_empty ⟨.ref s.heap.objs.size,_,I.laid (a:=s.heap.objs.size) (o:=.dK []) (t':=s.toks) (λ_ _ q=>Heap.get?_push_of_some _ q) (Nat.le_refl _) (zrM s.heap I.big),rfl,h _ (I.hok.fresh (Nat.le_refl _))⟩
end
structure M1 (X:Cx) (o:Expr) (m:Str) (apos:Pos) (e:Expr) (cpos:Pos):Prop where
 base:attributeBase o m X.env (eval o X.env)=eval o X.env
 few:((backTo cpos (starEach [e] X.env)).all (λx=>!x.1)&&(backToKw cpos (keywordEach [] X.env)).all (λx=>x.1.isSome)
  && decide (([e]:List Expr).length+([]:List Keyword).length+(if ([]:List Keyword).isEmpty then 0 else 1) < 30))=true
 line:(apos.endLine==cpos.line)=true
 trees:backTo cpos (starEach [e] X.env)=[(false,eval e X.env)]
section
variable {X:Cx} {pins:List (Addr×Obj)} {σ:St} {H:Hp} {s:Shared} {a:Addr} {y d:V} {u r:Value} {o:Option V} {A:Around} {E:Value->Shared->Prop}
end
section
variable {X:Cx} {o e f:Expr} {apos cpos:Pos} {td ty tx:TE}
end
section
variable {X:Cx} {pins:List (Addr×Obj)} {σ:St} {H:Hp} {s:Shared} {a:Addr} {kvs:List (Key×V)} {A:Around} {E:Value->Shared->Prop}
end
section
variable {X:Cx} {pins:List (Addr×Obj)} {σ:St} {H:Hp} {s:Shared} {a:Addr} {y:V} {u:Value} {A:Around} {E:Value->Shared->Prop}
end
section
variable {X:Cx}
theorem zo9:CallR X (.builtin "len") (λxs H Q=>∃ a kvs,xs=[V.ref a]/\H a=some (.dK kvs)/\Q (.int kvs.length) H):=by
 intro pins s σ H xs us Q I r h;obtain ⟨a,kvs,rfl,ha,q⟩:=h;obtain ⟨u,rfl,ru⟩:=zir r;cases ru
 exact zBb I (.inl ha) λt s' I'=>⟨.int kvs.length,H,I',⟨t,rfl⟩,q⟩
end
section
variable {κ:Type} [DecidableEq κ]
end
set_option maxHeartbeats 4000000
def zcT (env:Env):List (Str×NameKind)->List (Str×Addr)->List (Str×Addr)
 | [],acc=>acc
 | (n,k) :: r,acc=>zcT env r (if (k==NameKind.free)=true then (n,(env.cells.lookup n).getD 0) :: acc else acc)
theorem ziM {env:Env} (f:(Str×NameKind)->List (Str×Addr)->Sem (ForInStep (List (Str×Addr))))
  (hf:∀ n k acc,f (n,k) acc=if (k==NameKind.free)=true then (cellOf env n >>= λa=>pure (.yield ((n,a) :: acc))) else pure (.yield acc)) :
  ∀ (l:List (Str×NameKind)) (acc:List (Str×Addr)),(∀ y∈l,y.2=.free->∃ c,env.cells.lookup y.1=some c)->forIn l acc f=(pure (zcT env l acc):Sem _)
 | [],acc,_=>rfl
 | (n,k) :: r,acc,h=>by
  rw [List.forIn_cons,hf];have hr:∀ y∈r,y.2=.free->∃ c,env.cells.lookup y.1=some c:=λy hy=>h y (List.mem_cons_of_mem _ hy);unfold zcT;cases hk:(k==NameKind.free) with
  | true=>
   obtain ⟨c,hc⟩:=h (n,k) List.mem_cons_self (by simpa using hk);rw [if_pos rfl,if_pos rfl];have hc':env.cells.lookup n=some c:=hc;simp only [cellOf,hc',pure_bind,Option.getD_some];exact ziM f hf r _ hr
  | false=>
   rw [if_neg Bool.false_ne_true,if_neg Bool.false_ne_true,pure_bind];exact ziM f hf r acc hr
theorem zky {scope:Scope} {env:Env} (h:∀ y∈scope.names,y.2=.free->∃ c,env.cells.lookup y.1=some c):closureFor scope env=pure (zcT env scope.names []):=by
 simp only [closureFor];rw [ziM (env:=env) _ (λn k acc=>?_) scope.names [] h,pure_bind];cases hk:(k==NameKind.free) <;> simp [hk]
theorem zj0 {env:Env}:∀ {l:List (Str×NameKind)} {acc:List (Str×Addr)},(∀ y∈l,y.2=.free->∃ c,env.cells.lookup y.1=some c)->(∀ x c,acc.lookup x=some c->env.cells.lookup x=some c)->
  ∀ x c,(zcT env l acc).lookup x=some c->env.cells.lookup x=some c
 | [],_,_,ha,x,c,e=>ha x c e
 | (n,k) :: r,acc,h,ha,x,c,e=>by
  unfold zcT at e;refine zj0 (l:=r) (λy hy=>h y (List.mem_cons_of_mem _ hy)) (λx c e=>?_) x c e;cases hk:(k==NameKind.free) with
  | false=>rw [hk,if_neg Bool.false_ne_true] at e; exact ha x c e
  | true=>
   rw [hk,if_pos rfl,List.lookup_cons] at e;cases hx:x==n with
   | false=>rw [hx] at e; exact ha x c e
   | true=>
    rw [hx] at e;obtain ⟨d,hd⟩:=h (n,k) List.mem_cons_self (by simpa using hk);have hd':env.cells.lookup n=some d:=hd;rw [hd',Option.getD_some] at e;cases e
    rw [beq_iff_eq.mp hx]; exact hd'
theorem ziN {env:Env}:∀ {l:List (Str×NameKind)} {acc:List (Str×Addr)} {x:Str},(acc.lookup x).isSome=true->((zcT env l acc).lookup x).isSome=true
 | [],_,_,h=>h
 | (n,k) :: r,acc,x,h=>by
  unfold zcT;refine ziN (l:=r) ?_;cases hk:(k==NameKind.free) with
  | false=>rw [if_neg Bool.false_ne_true]; exact h
  | true=>
   rw [if_pos rfl,List.lookup_cons];cases hx:x==n with
   | false=>exact h
   | true=>rfl
theorem zht {env:Env}:∀ {l:List (Str×NameKind)} {acc:List (Str×Addr)} {y:Str×NameKind},y∈l->y.2=.free->((zcT env l acc).lookup y.1).isSome=true
 | (n,k) :: r,acc,y,hy,hk=>by
  unfold zcT;rcases List.mem_cons.mp hy with e | hy
  ·subst e;have hk':(k==NameKind.free)=true:=by simpa using hk
   rw [hk',if_pos rfl];exact ziN (by rw [List.lookup_cons]; simp)
  ·exact zht hy hk
structure CompScope (NX:List Str) (SX scope:Scope) (N:List Str) (own:Nat) (fi:List Nat):Prop where
 kind:scope.kind=.function
 nocell:∀ y∈scope.names,y.2≠.cell
 names:∀ y∈scope.names,y.2=.local->scope.names.lookup y.1=some .local
 free:∀ y∈scope.names,y.2=.free->SX.names.lookup y.1=some .cell\/SX.names.lookup y.1=some .free
 len:N.length=own+fi.length
 outs:∀ p∈(N.drop own).zip fi,NX[p.2]? = some p.1/\scope.names.lookup p.1=some .free
def zgZ (own:Nat) (fi:List Nat) (σ:St):St:=List.replicate own none++fi.map λi=>(σ[i]?).join
def Cx.comp (X:Cx) (scope:Scope) (N:List Str) (ex:List Addr) (s:Shared) (H:Hp):Cx:=
 { X with N:=N,s₀:=s,H₀:=H,env:=compEnvC scope (zcT X.env scope.names []) s.heap.objs.size X.env,outer:=X.stack,stack:=X.stack,ex:=ex,fn:=λ_=>false,pn:=[],xe:=λ_ _=>False }
theorem zdF {env:Env} {x:Str}:∀ {names:List (Str×NameKind)},(∀ y∈names,y.2≠.cell)->
  (∀ k,(names.map λ(n,k)=>if (k==NameKind.free&&env.scope.kind==.function&&env.kindOf n==some .cell) then (n,NameKind.cell) else (n,k)).lookup x=some k->k=.cell\/k=.free->names.lookup x=some .free)
 | [],_,k,h,_=>by simp at h
 | (n,k0) :: r,hc,k,h,hk=>by
  have ih:=@zdF env x r (λy hy=>hc y (List.mem_cons_of_mem _ hy)) k;rw [List.map_cons] at h;have h0:k0≠.cell:=hc (n,k0) List.mem_cons_self;cases hx:x==n with
  | false=>
   have e:∀ z:NameKind,List.lookup x ((n,z) :: (r.map λ(n,k)=>if (k==NameKind.free&&env.scope.kind==.function&&env.kindOf n==some .cell) then (n,NameKind.cell) else (n,k)))=List.lookup x (r.map λ(n,k)=>if (k==NameKind.free&&env.scope.kind==.function&&env.kindOf n==some .cell) then (n,NameKind.cell) else (n,k)):=λz=>by rw [List.lookup_cons,hx]
   rw [List.lookup_cons,hx];refine ih ?_ hk
   by_cases hcnd:(k0==NameKind.free&&env.scope.kind==.function&&env.kindOf n==some .cell)=true
   ·simp only [hcnd,if_true] at h; rw [e] at h; exact h
   ·simp only [Bool.not_eq_true] at hcnd; simp only [hcnd] at h; rw [if_neg Bool.false_ne_true,e] at h; exact h
  | true=>
   rw [List.lookup_cons,hx];show some k0=some .free
   by_cases hcnd:(k0==NameKind.free&&env.scope.kind==.function&&env.kindOf n==some .cell)=true
   ·have:(k0==NameKind.free)=true:=by
     simp only [Bool.and_eq_true] at hcnd; exact hcnd.1.1
    rw [beq_iff_eq.mp this]
   ·simp only [Bool.not_eq_true] at hcnd;simp only [hcnd] at h;rw [if_neg Bool.false_ne_true,List.lookup_cons,hx] at h;cases h
    rcases hk with z | z
    ·exact absurd z h0
    ·rw [z]
theorem zde {env:Env} {x:Str}:∀ {names:List (Str×NameKind)},names.lookup x=some .free->
  (names.map λ(n,k)=>if (k==NameKind.free&&env.scope.kind==.function&&env.kindOf n==some .cell) then (n,NameKind.cell) else (n,k)).lookup x=some .cell\/
  (names.map λ(n,k)=>if (k==NameKind.free&&env.scope.kind==.function&&env.kindOf n==some .cell) then (n,NameKind.cell) else (n,k)).lookup x=some .free
 | [],h=>by simp at h
 | (n,k0) :: r,h=>by
  rw [List.map_cons];cases hx:x==n with
  | false=>
   rw [List.lookup_cons,hx] at h;have ih:=@zde env x r h
   by_cases hcnd:(k0==NameKind.free&&env.scope.kind==.function&&env.kindOf n==some .cell)=true
   ·simp only [hcnd,if_true,List.lookup_cons,hx]; exact ih
   ·simp only [Bool.not_eq_true] at hcnd; simp only [hcnd]; rw [if_neg Bool.false_ne_true,List.lookup_cons,hx]; exact ih
  | true=>
   rw [List.lookup_cons,hx] at h;cases h
   by_cases hcnd:(NameKind.free==NameKind.free&&env.scope.kind==.function&&env.kindOf n==some .cell)=true
   ·left; simp only [hcnd,if_true,List.lookup_cons,hx]
   ·right; simp only [Bool.not_eq_true] at hcnd; simp only [hcnd]; rw [if_neg Bool.false_ne_true,List.lookup_cons,hx]
section
variable {X:Cx} {pins:List (Addr×Obj)} {σ:St} {H:Hp} {s:Shared} {NX N:List Str} {SX scope:Scope} {own:Nat} {fi:List Nat}
theorem CompScope.cells (S:CompScope NX SX scope N own fi) (hS:X.env.scope=SX) (ok:X.Ok):∀ y∈scope.names,y.2=.free->∃ c,X.env.cells.lookup y.1=some c:=λy hy hk=>by
 refine ok.has y.1 ?_;have:=S.free y hy hk;rw [<- hS] at this;exact this
theorem Inv.comp {fp : List Addr} {h₁ : Heap} {t' : Nat} (S : CompScope NX SX scope N own fi) (hN : X.N = NX) (hS : X.env.scope = SX) (I : Inv X pins σ H s) (hfp : ∀ b ∈ fp, zjv X pins H b) (hlt : ∀ b ∈ fp, b < s.heap.objs.size)
    (hns : h₁.Ns s.heap.objs.size (λ_ => none)) (k : ∀ b o, s.heap.get? b = some o -> h₁.get? b = some o) :
    Inv (X.comp scope N fp s H) [] (zgZ own fi σ) H { s with heap := h₁, toks := t' } := by
  have hcl := S.cells hS I.ok;have sub : ∀ x c, (zcT X.env scope.names []).lookup x = some c -> X.env.cells.lookup x = some c := zj0 hcl λx c e => by simp at e
  have kinds : ∀ x, ((X.comp scope N fp s H).env.kindOf x = some .cell \/ (X.comp scope N fp s H).env.kindOf x = some .free) -> scope.names.lookup x = some .free := λx hx => by
    rcases hx with hx | hx
    · exact zdF S.nocell _ hx (.inl rfl)
    · exact zdF S.nocell _ hx (.inr rfl)
  refine ⟨⟨I.ok.mod, S.kind, I.ok.glob, I.ok.blt, Nat.le_refl _, λx y c h1 h2 => I.ok.inj x y c (sub _ _ h1) (sub _ _ h2), λx hx => ?_, λx c h => by exact absurd (show false = true from h) Bool.false_ne_true, I.ok.hd, I.ok.frames, .inl rfl,
    λb hb => ⟨?_, λx c e => (hfp b hb).2.2.2.2.1 x c (sub x c e)⟩, I.bs, Nat.le_trans I.ok.bsz I.sz, λb o e hb => ?_, λb hb hf => ?_, I.stack, I.stkFree⟩,
    rfl, I.bare, Un.kept k, ⟨_, hns, λi x v e1 e2 e3 => ?_⟩, λx c e => ?_, I.hok.fresh (Nat.le_refl _), λx c e => I.freeC x c (sub x c e), λp hp => absurd (show p ∈ ([] : List (Addr × Obj)) from hp) (by simp), I.hok.kept k, ?_⟩
  · have := zht (env := X.env) (acc := []) (PySem.mem_of_lookup (kinds x hx)) rfl
    exact Option.isSome_iff_exists.mp this
  · exact Nat.ne_of_lt (hlt b hb)
  · rcases (hfp b hb).2.2.2.1 with z | z
    · exact I.ok.noex b o e z
    · exact absurd (Nat.lt_of_lt_of_le (Heap.lt_size e) (Nat.le_trans I.ok.bsz z)) (Nat.lt_irrefl _)
  · rcases List.mem_cons.mp (I.stkSub b hf) with z | z
    · exact (hfp b hb).2.1 z
    · exact (hfp b hb).2.2.1 z
  · -- the names from around
    have hi : own <= i := by
      by_cases hi : i < own
      · have : (zgZ own fi σ)[i]? = some none := by
          unfold zgZ;rw [List.getElem?_append_left (by simpa using hi), List.getElem?_replicate, if_pos hi]
        rw [this] at e2; cases e2
      · omega
    have e2' : (fi.map λi => (σ[i]?).join)[i - own]? = some (some v) := by
      unfold zgZ at e2;rw [List.getElem?_append_right (by simpa using hi), List.length_replicate] at e2;exact e2
    rw [List.getElem?_map] at e2';cases ef : fi[i - own]? with
    | none => rw [ef] at e2'; cases e2'
    | some j =>
      rw [ef] at e2';have e4 : (σ[j]?).join = some v := by simpa using e2'
      have e5 : σ[j]? = some (some v) := by
        cases q : σ[j]? with
        | none => rw [q] at e4; cases e4
        | some z => rw [q] at e4; have e4' : z = some v := by simpa using e4
                    rw [e4']
      have e1' : N[i]? = some x := e1;have hz : (x, j) ∈ (N.drop own).zip fi := by
        refine List.mem_of_getElem? (i := i - own) ?_;rw [List.getElem?_zip_eq_some];refine ⟨?_, ef⟩;rw [List.getElem?_drop];have : own + (i - own) = i := by omega
        rw [this]; exact e1'
      obtain ⟨o1, o2⟩ := S.outs (x, j) hz;obtain ⟨m, hn, hl⟩ := I.loc;have vis : SX.names.lookup x = some .cell \/ SX.names.lookup x = some .free := S.free (x, .free) (PySem.mem_of_lookup o2) rfl;have vis' : X.env.scope.names.lookup x = some .cell \/ X.env.scope.names.lookup x = some .free := by rw [hS]; exact vis
      obtain ⟨u, r, l⟩ := hl j x v (by rw [hN]; exact o1) e5 (.inr vis');refine ⟨u, r, .inr ?_⟩;rcases l with ⟨hk, _⟩ | ⟨_, c, hc, hcell⟩
      · have hk' : X.env.scope.names.lookup x = some .local := hk
        rcases vis' with z | z <;> (rw [z] at hk'; cases hk')
      · refine ⟨zde (env := X.env) o2, c, ?_, hcell.keeps k⟩
        have hh := zht (env := X.env) (acc := []) (PySem.mem_of_lookup o2) rfl;obtain ⟨c', hc'⟩ := Option.isSome_iff_exists.mp hh;have := sub x c' hc';rw [hc] at this; cases this
        exact hc'
  · obtain ⟨v, q⟩ := I.cell x c (sub x c e)
    exact ⟨v, q.keeps k⟩
  · unfold zgZ
    show _ = N.length;rw [List.length_append, List.length_replicate, List.length_map, S.len]
end
section
variable {prog:Program} {w:World} {A:Around} {R:Result->Shared->Prop} {s:Shared}
theorem zmw {elt target iter : Expr} {ifs : List Expr} {scope : Scope} {pos : Pos} {it acc : Value} {env : Env} (I : Nat -> Shared -> Prop) {F : Value -> Shared -> Prop} (hF : ∀ e s, F e s -> False)
    (turn : ∀ n s, I n s -> wpAny (model prog w) A (pyNext it) (λr s₁ => match r with
      | none => R (.ok .next) s₁
      | some v => wpAny (model prog w) A (letOwnedTupleGo target it v) (λ_ s₁' => wpAny (model prog w) A (assign target env v) (λ_ s₂ =>
          wpAny (model prog w) A (forIn ifs true λc r => if r = true then do let ok <- isTrue c env (eval c env); pure (ForInStep.yield ok) else pure (ForInStep.yield r)) (λok s₃ =>
            if ok = true then wpAny (model prog w) A (eval elt env) (λx s₄ =>
              wpAny (model prog w) A (call (.builtin "list.append") [acc, x]) (λ_ s₅ => ∃ m, m < n /\ I m s₅) F s₄) F s₃
            else ∃ m, m < n /\ I m s₃) F s₂) F s₁') F s₁) F s)
    (n : Nat) (h : I n s) :
    codeAny (model prog w) A (.compLoop (.ListComp elt [⟨target, iter, ifs, 0⟩] scope pos) 0 it acc env) R s := by
  refine codeAny_loop rfl I (λn s hI => ?_) n h;show wpAny _ A ((compTurn (.ListComp elt [⟨target, iter, ifs, 0⟩] scope pos) 0 it acc env).onRaise (λx => do noteFrame x env; theTreesLotGoes x)) _ _ s;refine wpAny_noted ?_;rw [compTurn_list];refine wpAny_bind (wpAny_standAt (wpAny_bind (wpAny_mono (turn n s hI) (λr s₁ h₁ => ?_) λ_ _ h' => (hF _ _ h').elim)));cases r with
  | none => exact wpAny_pure h₁
  | some v =>
    refine wpAny_bind (wpAny_mono h₁ (λ_ s₁' h₁' => ?_) λ_ _ h' => (hF _ _ h').elim);refine wpAny_bind (wpAny_mono h₁' (λ_ s₂ h₂ => wpAny_bind (wpAny_mono h₂ (λok s₃ h₃ => ?_) λ_ _ h' => (hF _ _ h').elim)) λ_ _ h' => (hF _ _ h').elim);cases ok with
    | false => exact wpAny_pure ⟨rfl, h₃⟩
    | true =>
      exact wpAny_bind (wpAny_bind (wpAny_mono h₃ (λx s₄ h₄ => wpAny_bind (wpAny_mono h₄ (λ_ s₅ h₅ => wpAny_pure (wpAny_pure ⟨rfl, h₅⟩)) λ_ _ h' => (hF _ _ h').elim)) λ_ _ h' => (hF _ _ h').elim))
end
def PIf (X:Cx) (ifs:List Expr) (t:TT):Prop:=
 ∀ (pins:List (Addr×Obj)) (s:Shared) (σ:St) (H:Hp) (Q:Bool->Hp->Prop),Inv X pins σ H s->t σ H Q->
  wpAny (model X.prog X.w) X.A (forIn ifs true λc r=>if r=true then do let ok <- isTrue c X.env (eval c X.env); pure (ForInStep.yield ok) else pure (ForInStep.yield r)) (TP X pins σ Q) X.xe s
def zx1:TT:=λ_ H Q=>Q true H
theorem zuE {X:Cx}:PIf X [] zx1:=λ_ _ _ H _ I h=>wpAny_tests_nil ⟨H,I,h⟩
theorem zuF {X:Cx} {c:Expr} {t:TT} (h:PT X c t):PIf X [c] t:=λpins s σ H Q I q=>wpAny_tests_one (h pins s σ H Q I q)
def zpa (wi : TI) (g : TG) (tt : TT) (te : TE) (own : Nat) (fi : List Nat) (σ : St) (H : Hp) (R : Addr -> Hp -> Prop) : Prop :=
  wi σ H λJ H1 => ∀ l, H1 l = none -> ∃ W : Nat -> Nat -> St -> Hp -> Prop, (∃ m, W 0 m (zgZ own fi σ) (upd H1 l (.lst []))) /\ ∀ i m σ' H', W i m σ' H' ->
    (J.stop i H' /\ R l H') \/ (J.go i H' /\ ∃ N : St -> Hp -> Prop, (∀ σ'' H'', N σ'' H'' -> ∃ m', m' < m /\ W (i + 1) m' σ'' H'') /\ ∀ x H2, J.yld i H' x H2 -> g x σ' H2 λσ2 H3 => tt σ2 H3 λok H4 =>
      if ok = true then te σ2 H4 λy H5 => ∃ xs, H5 l = some (.lst xs) /\ xs.length < sizeLine /\ N σ2 (upd H5 l (.lst (xs ++ [y]))) else N σ2 H4)
def zuG (wi:TI) (g:TG) (tt:TT) (te:TE) (own:Nat) (fi:List Nat):TE:=λσ H Q=>zpa wi g tt te own fi σ H λl H'=>Q (.ref l) H'
structure Gone (X:Cx) (pins:List (Addr×Obj)) (H:Hp) (C:Addr):Prop where
 none:H C=none
 loc:C≠X.env.locals
 ab:X.s₀.heap.objs.size<=C
 cell:∀ x c,X.env.cells.lookup x=some c->c≠C
 pin:∀ p∈X.pn++pins,p.1≠C
section
variable {X:Cx} {pins:List (Addr×Obj)} {σ:St} {H:Hp} {s:Shared} {NX N:List Str} {SX scope:Scope} {own:Nat} {fi:List Nat} {tg iter elt:Expr} {ifs:List Expr} {wi:TI} {g:TG} {tt:TT} {te:TE} {pos cpos:Pos} {use:Option (Value->Sem Unit)} {QQ:Value->Shared->Prop} {R:Addr->Hp->Prop}
theorem zlw (S:CompScope NX SX scope N own fi) (hN:X.N=NX) (hS:X.env.scope=SX) (hc:X.calm=true) (hi:PI X tg iter wi) (hg:∀ ex s H,PG (X.comp scope N ex s H) tg g) (ht:∀ ex s H,PIf (X.comp scope N ex s H) ifs tt)
  (he:∀ ex s H,PE (X.comp scope N ex s H) elt te) (I:Inv X pins σ H s) (h:zpa wi g tt te own fi σ H R)
  (post:∀ l H' s' C,Inv X pins σ H' s'->R l H'->(∃ m,s'.heap.Ns C m)->Gone X pins H' C->compPost (model X.prog X.w) X.A X.xe use QQ (.ref l) C (.ok .next) s')
  (hs:∀ x,foldedSetIterable iter X.env x=pure x) :
  wpAny (model X.prog X.w) X.A (comprehension (.ListComp elt [⟨tg,iter,ifs,0⟩] scope pos) scope X.env cpos (newList []) false (eval iter X.env) use) QQ X.xe s:=by
 have hcl:=S.cells hS I.ok;refine wpAny_comprehension_free (use:=use) rfl hs (zky hcl) S.kind S.names ?_;refine thn (hi pins s σ H _ I h) λv s1 h1=>thn h1 λitv s2 h2=>?_;obtain ⟨it,fp,tn,J,H2,e,I2,T,st2,f2,q⟩:=h2;subst e;have hl:H2 s2.heap.objs.size=none:=I2.hok.fresh (Nat.le_refl _);obtain ⟨W,⟨m0,w0⟩,turn⟩:=q _ hl;generalize hL:s2.heap.objs.size=L at w0 turn hl;refine wpAny_newObj_type ?_
 rw [hL];have I3:Inv X pins σ (upd H2 L (.lst [])) { s2 with heap:=s2.heap.push { cls:=.type "list",data:=.seq ([]:List Value).toArray } }:=by
  subst hL;exact I2.laid (t':=s2.toks) (λb u e=>Heap.get?_push_of_some _ e) (Nat.le_refl _) ⟨Nat.zero_le _,[],0,.nil,Heap.get?_push_size _ rfl⟩
 generalize hs3:({ s2 with heap:=s2.heap.push { cls:=.type "list",data:=.seq ([]:List Value).toArray } }:Shared)=s3 at I3 ⊢;have st3:tn 0 s3.heap:=T.keep _ _ _ st2 λb _ o e=>by subst hs3; exact Heap.get?_push_of_some _ e
 have hlt3:∀ b∈fp,b < s3.heap.objs.size:=λb hb=>by
  obtain ⟨o,e,_⟩:=T.obj _ _ st3 b hb;exact Heap.lt_size e
 have hfp3:∀ b∈fp,zjv X pins (upd H2 L (.lst [])) b:=λb hb=>by
  obtain ⟨f0,f1⟩:=f2 b hb;refine ⟨?_,f1⟩;obtain ⟨o,e,_⟩:=T.obj _ _ st2 b hb;rw [zas (by rw [<- hL]; exact Nat.ne_of_lt (Heap.lt_size e))]; exact f0
 refine wpAny_newFunctionEnv S.nocell (by intro y hy; simp at hy) (λh₁ hns₁ hsb₁=>?_) S.kind;have hns₁':h₁.Ns s3.heap.objs.size (λ_=>none):=by
  have:(λx=>List.lookup x ([]:List (Str×Value)).reverse)=λ_=>(none:Option Value):=by funext x; rfl
  rw [<- this]; exact hns₁
 have k1:∀ b o,s3.heap.get? b=some o->h₁.get? b=some o:=λb o e=>hsb₁.extBut b o (Nat.ne_of_lt (Heap.lt_size e)) (Heap.get?_push_of_some _ e);have I4:=Inv.comp (t':=s3.toks+([]:List (Str×Value)).length) S hN hS I3 hfp3 hlt3 hns₁' k1;have stat:∀ {H':Hp},(∀ b∈fp,H' b=none)->∀ b∈fp,zjv (X.comp scope N fp s3 (upd H2 L (.lst []))) [] H' b:=λ{H'} hn b hb=>
  ⟨hn b hb,Nat.ne_of_lt (hlt3 b hb),I4.ok.exfs b hb,.inl hb,(I4.ok.exf b hb).2,λp hp=>absurd (show p∈([]:List (Addr×Obj)) from hp) (by simp)⟩
 generalize hX':X.comp scope N fp s3 (upd H2 L (.lst []))=X' at I4 stat;have hP:X'.prog=X.prog:=by rw [<- hX']; rfl
 have hw:X'.w=X.w:=by rw [<- hX']; rfl
 have hK:X'.K=X.K:=by rw [<- hX']; rfl
 have hA:X'.A=X.A:=by rw [<- hX']; rfl
 have hca:X'.calm=true:=by rw [<- hX']; exact hc
 have henv:X'.env=compEnvC scope (zcT X.env scope.names []) s3.heap.objs.size X.env:=by rw [<- hX']; rfl
 have hxe:X'.xe=λ_ _=>False:=by rw [<- hX']; rfl
 have hg':=hg fp s3 (upd H2 L (.lst []));have ht':=ht fp s3 (upd H2 L (.lst []));have he':=he fp s3 (upd H2 L (.lst []));rw [hX'] at hg' ht' he';have loop:∀ s4:Shared,s4={ s3 with heap:=h₁,toks:=s3.toks+([]:List (Str×Value)).length }->
   codeAny (model X.prog X.w) X.A (.compLoop (.ListComp elt [⟨tg,iter,ifs,0⟩] scope pos) 0 (.ref it) (.ref L) (compEnvC scope (zcT X.env scope.names []) s3.heap.objs.size X.env))
    (compPost (model X.prog X.w) X.A X.xe use QQ (.ref L) s3.heap.objs.size) s4:=by
  intro s4 hs4;refine zmw (λn s'=>∃ i σ' H',Inv X' [] σ' H' s'/\tn i s'.heap/\(∀ b∈fp,H' b=none)/\W i n σ' H') (F:=X'.xe) (λe s z=>by rw [hxe] at z; exact z) ?_ m0
   ⟨0,_,_,by rw [hs4]; exact I4,by rw [hs4]; exact T.keep _ _ _ st3 λb _ o e=>k1 b o e,λb hb=>(hfp3 b hb).1,w0⟩
  rintro n s5 ⟨i,σ5,H5,I5,st5,fr5,w5⟩;rcases turn i n σ5 H5 w5 with ⟨stop,qn⟩ | ⟨go,N',hN',step⟩
  ·have hd:=T.done X' hP hw hK hca i [] s5 σ5 H5 X'.xe I5 (stat fr5) st5 stop;rw [hA] at hd;refine thn hd λr s6 ⟨hr,I6⟩=>?_;subst hr
   -- the end: back to the body around
   have hb:=I6.base;have e1:X'.fs=frs X.stack:=by rw [<- hX']; rfl
   have e2:X'.ex=fp:=by rw [<- hX']; rfl
   have e3:X'.H₀=upd H2 L (.lst []):=by rw [<- hX']; rfl
   have e4:X'.s₀=s3:=by rw [<- hX']; rfl
   rw [e1,e2,e3,e4] at hb;have hok6:HOk X.prog X.w H5 s6.heap:=by rw [<- hP,<- hw]; exact I6.hok
   have os6:s6.os=s3.os:=by rw [I6.os,e4]
   have I7:Inv X pins σ H5 s6:=I3.call' os6 hb hok6 I6.bare λb hb=>⟨(hfp3 b hb).2.2.2.1,(hfp3 b hb).2.1,(hfp3 b hb).2.2.2.2.1,(hfp3 b hb).2.2.2.2.2⟩
   refine post L H5 s6 _ I7 qn ?_ ⟨?_,Nat.ne_of_gt I3.lt,I3.sz,λx c e z=>?_,λp hp z=>?_⟩
   ·obtain ⟨m,hn,_⟩:=I6.loc;rw [henv] at hn;exact ⟨m,hn⟩
   ·have:=I6.free;rw [henv] at this;exact this
   ·obtain ⟨v',q'⟩:=I3.cell x c e;exact absurd (z▸q'.lt) (Nat.lt_irrefl _)
   ·exact absurd (z▸Heap.lt_size (I3.pin p hp).1) (Nat.lt_irrefl _)
  ·have hd:=T.item X' hP hw hK hca i [] s5 σ5 H5 X'.xe I5 (stat fr5) st5 go;rw [hA] at hd;refine thn hd λr s6 ⟨u,hr,h6⟩=>?_;subst hr;refine thn h6 λ_ s7 ⟨x,H7,I7,r7,y7,st7,fr7⟩=>?_;have I7':=I7.pinned (stat fr7) (T.obj _ _ st7);have ha:=hg' _ s7 σ5 H7 x u _ I7' r7 (step x H7 y7);rw [hP,hw,hA,henv] at ha;refine thn ha λ_ s8 ⟨σ8,H8,I8,q8⟩=>?_;have hb:=ht' _ s8 σ8 H8 _ I8 q8;rw [hP,hw,hA,henv] at hb
   refine thn hb λok s9 ⟨H9,I9,q9⟩=>?_;have again:∀ {σ':St} {H':Hp} {s':Shared},Inv X' ([]++zlh fp s7.heap) σ' H' s'->N' σ' H'->∃ m,m < n/\∃ i σ' H',Inv X' [] σ' H' s'/\tn i s'.heap/\(∀ b∈fp,H' b=none)/\W i m σ' H':=λ{σ' H' s'} I' n'=>by
    obtain ⟨m',hm,w'⟩:=hN' σ' H' n';refine ⟨m',hm,i+1,σ',H',I'.unpinned,T.keep _ _ _ st7 λb hb o e=>(I'.pin (b,o) (List.mem_append_right _ (List.mem_append_right _ (zfV hb e)))).1,λb hb=>?_,w'⟩;obtain ⟨o,e,d⟩:=T.obj _ _ st7 b hb;exact (I'.pin (b,o) (List.mem_append_right _ (List.mem_append_right _ (zfV hb e)))).2.1
   cases ok with
   | false=>
    rw [if_neg Bool.false_ne_true] at q9 ⊢;exact again I9 q9
   | true=>
    rw [if_pos rfl] at q9 ⊢;have hv:=he' _ s9 σ8 H9 _ I9 q9;rw [hP,hw,hA,henv] at hv;refine thn hv λy s10 ⟨yv,H10,I10,r10,xs,hx,hz,q10⟩=>?_;have hap:=zlt (X:=X') _ s10 σ8 H10 (V.ref L) [yv] (Value.ref L) [y] (λv H'=>v=.non/\N' σ8 H') I10 rfl (.cons r10 .nil) ⟨L,xs,yv,rfl,rfl,hx,hz,rfl,q10⟩;rw [hP,hw,hA] at hap;refine thn hap λ_ s11 ⟨v,H11,I11,_,_,q11⟩=>?_;exact again I11 q11
 have e5:({ newEnv scope s3.heap.objs.size X.env.globals (zcT X.env scope.names []) X.env.qual none Value.none (some X.env) builtinsNs with scope:=relabel scope X.env }:Env)=compEnvC scope (zcT X.env scope.names []) s3.heap.objs.size X.env:=rfl;exact codeAny_compStart_list (loop _ rfl) (T.self X.A 0 _ _ _ (T.keep _ _ _ st3 λb _ o e=>k1 b o e) (loop _ rfl))
theorem zuH (S:CompScope NX SX scope N own fi) (hc:X.calm=true) (hi:PI X tg iter wi) (hg:∀ ex s H,PG (X.comp scope N ex s H) tg g) (ht:∀ ex s H,PIf (X.comp scope N ex s H) ifs tt)
  (he:∀ ex s H,PE (X.comp scope N ex s H) elt te) (hN:X.N=NX:=by rfl) (hS:X.env.scope=SX:=by rfl) (hs:∀ x,foldedSetIterable iter X.env x=pure x:=by intro _; rfl) :
  PE X (.ListComp elt [⟨tg,iter,ifs,0⟩] scope pos) (zuG wi g tt te own fi):=by
 intro pins s σ H Q I h;rw [eval_ListComp];refine zlw (use:=none) (R:=λl H'=>Q (.ref l) H') S hN hS hc hi hg ht he I h (λl H' s' C I' q' hn G=>?_) hs;obtain ⟨m,hn⟩:=hn;exact ⟨m,hn,λh' hs'=>⟨.ref l,H',I'.turned (t':=s'.toks) (λb o hb e=>(hs'.2 b hb).trans e) G.none G.loc (.inr G.ab) G.cell G.pin,rfl,q'⟩⟩
def zrO (i:Nat) (wi:TI) (g:TG) (tt:TT) (te:TE) (own:Nat) (fi:List Nat):TS:=λD σ H=>zpa wi g tt te own fi σ H λl H'=>D.nx (σ.set i (some (.ref l))) H'
theorem zn7 {i:Nat} {y:Str} {py spos:Pos} (hnd:X.N.Nodup) (hy:X.N[i]? = some y) (hl:X.env.scope.names.lookup y=some .local) (S:CompScope NX SX scope N own fi) (hc:X.calm=true) (hi:PI X tg iter wi)
  (hg:∀ ex s H,PG (X.comp scope N ex s H) tg g) (ht:∀ ex s H,PIf (X.comp scope N ex s H) ifs tt)
  (he:∀ ex s H,PE (X.comp scope N ex s H) elt te) (hN:X.N=NX:=by rfl) (hS:X.env.scope=SX:=by rfl) (hs:∀ x,foldedSetIterable iter X.env x=pure x:=by intro _; rfl)
  (hsw:swapsWith (.ListComp elt [⟨tg,iter,ifs,0⟩] scope pos) (some (.Name y py)) spos.line X.env=pure true:=by rfl) :
  PS X (.Assign [.Name y py] (.ListComp elt [⟨tg,iter,ifs,0⟩] scope pos) spos) (zrO i wi g tt te own fi):=by
 intro pins s σ H D I h;rw [exec_Assign_Name_used _ _ _ _ hsw];refine wpAny_bind (wpAny_standAt (wpAny_bind ?_));show wpAny _ X.A (do let _ <- comprehension (.ListComp elt [⟨tg,iter,ifs,0⟩] scope pos) scope X.env _ (newList []) false (eval iter X.env) (some (assign (.Name y py) X.env))) _ _ s;refine wpAny_bind (wpAny_mono (zlw (use:=some (assign (.Name y py) X.env)) (QQ:=λ_ s'=>SP X pins D .next s') (R:=λl H'=>D.nx (σ.set i (some (.ref l))) H') S hN hS hc hi hg ht he I h (λl H' s' C I' q' hn G=>?_) hs)
  (λ_ s' hq=>wpAny_pure (wpAny_pure hq)) λ_ _ e=>e)
 obtain ⟨m,hn⟩:=hn;show wpAny _ X.A (assign (.Name y py) X.env (.ref l)) _ _ _;refine wpAny_assign_Name (zlg I' hnd hy (.inl hl) (v:=.ref l) rfl (λs'' I'' hsb=>?_) (.inr hl));obtain ⟨a,hsb,ha⟩:=hsb;have hCa:C≠a:=by
  rcases ha with z | z
  ·rw [z]; exact G.loc
  ·exact Ne.symm (G.cell y a z)
 exact ⟨m,hn.sameBut hsb hCa,λh' hs'=>⟨_,H',I''.turned (t':=s''.toks) (λb o hb e=>(hs'.2 b hb).trans e) G.none G.loc (.inr G.ab) G.cell G.pin,q'⟩⟩
end
def Its (x:Str):It:=⟨λi _=>i < x.cps.size,λi H v H'=>H'=H/\∃ c,x.cps[i]? = some c/\v=.str ⟨#[c]⟩,λi _=>x.cps.size<=i⟩
theorem zrP {P:Program} {w:World} {K:W.Frag} {tg:Expr} (it:Addr) (x:Str) (t:Tok) (ty:String) (hty:ty="str_ascii_iterator"\/ty="str_iterator"):Turn P w K tg (Its x) [it] it (λi h=>i<=x.cps.size/\h.IsStrIter it ty x t i) where
 mem:=by simp
 obj:=λi h st b hb=>by
  have e:b=it:=by simpa using hb
  subst e;obtain ⟨_,o,e,c,d⟩:=st;exact ⟨o,e,λv z=>by rw [d] at z; cases z⟩
 keep:=λi h h' st k=>by
  obtain ⟨hi,o,e,r⟩:=st;exact ⟨hi,o,k it (by simp) o e,r⟩
 item:=by
  intro X hP hw hK hc i pins s σ H E I hf st hg;subst hP hw hK;obtain ⟨f0,f1,f2,f3,f4,f5⟩:=hf it (by simp);have hg':i < x.cps.size:=hg;have key:∀ h':Heap,h'.IsStrIter it ty x t (i+1)->Heap.SameBut it s.heap h'->(λr s1=>∃ u,r=some u/\
   wpAny (model X.prog X.w) X.A (letOwnedTupleGo tg (.ref it) u) (λ_ s2=>∃ y H',Inv X pins σ H' s2/\RelV y u/\(Its x).yld i H y H'/\(i+1<=x.cps.size/\s2.heap.IsStrIter it ty x t (i+1))/\∀ b∈[it],H' b=none) E s1)
    (some (.str ⟨#[x.cps[i]]⟩ s.toks)) { s with heap:=h',toks:=s.toks+1 }:=λh' st' sb=>by
   have I1:Inv X pins σ H { s with heap:=h',toks:=s.toks+1 }:=I.turned (λb o hb e=>(sb.2 b hb).trans e) f0 f1 f3 f4 f5;obtain ⟨o,e,c,d⟩:=id st';refine ⟨_,rfl,zoP (s:={ s with heap:=h',toks:=s.toks+1 }) e c d ?_ ⟨.str ⟨#[x.cps[i]]⟩,H,I1,⟨_,rfl⟩,⟨rfl,_,by simp [hg'],rfl⟩,⟨hg',st'⟩,λb hb=>(hf b hb).1⟩⟩;rcases hty with rfl | rfl <;> decide
  rcases hty with rfl | rfl
  ·exact wpAny_pyNext_ascii_item st.2 (c:=x.cps[i]) (by simp [hg']) λh' hit' hs'=>key h' hit' hs'
  ·exact wpAny_pyNext_wide_item st.2 (c:=x.cps[i]) (by simp [hg']) λh' hit' hs'=>key h' hit' hs'
 done:=by
  intro X hP hw hK hc i pins s σ H E I hf st hg;subst hP hw hK;obtain ⟨f0,f1,f2,f3,f4,f5⟩:=hf it (by simp);have hg':x.cps.size<=i:=hg;rcases hty with rfl | rfl
  ·exact wpAny_pyNext_ascii_end (I.ok.hd hc) st.2 (by simp [hg']) λh' eb=>⟨rfl,I.turned (t':=s.toks) (λb o hb e=>eb b o hb e) f0 f1 f3 f4 f5⟩
  ·exact wpAny_pyNext_wide_end (I.ok.hd hc) st.2 (by simp [hg']) λh' eb=>⟨rfl,I.turned (t':=s.toks) (λb o hb e=>eb b o hb e) f0 f1 f3 f4 f5⟩
 self:=λ_ _ _ _ _ st h=>by
  rcases hty with rfl | rfl
  ·exact wpAny_pyIter_striter_ascii st.2 h
  ·exact wpAny_pyIter_striter_wide st.2 h
def zCD (tl:TE):TI:=λσ H R=>tl σ H λx H1=>∃ z,x=.str z/\R (Its z) H1
theorem zx2 {X:Cx} {tg l:Expr} {tl:TE} (hl:PE X l tl):PI X tg l (zCD tl):=by
 intro pins s σ H R I h;refine thn (hl pins s σ H _ I h) λv s1 ⟨x,H1,I1,r1,q1⟩=>?_;obtain ⟨z,e,q⟩:=q1;subst e;obtain ⟨t,rfl⟩:=r1;have key:∀ (o:Obj) (ty:String),(ty="str_ascii_iterator"\/ty="str_iterator")->(s1.heap.push o).IsStrIter s1.heap.objs.size ty z t 0->PIE X pins σ tg R (.ref s1.heap.objs.size) { s1 with heap:=s1.heap.push o }:=λo ty hty st=>by
  refine ⟨s1.heap.objs.size,[s1.heap.objs.size],_,_,H1,rfl,I1.kept (t':=s1.toks) λb o e=>Heap.get?_push_of_some _ e,zrP _ z t ty hty,⟨Nat.zero_le _,st⟩,λb hb=>?_,q⟩;have e:b=s1.heap.objs.size:=by simpa using hb
  subst e;exact I1.fpOk (Nat.le_refl _) (I1.hok.fresh (Nat.le_refl _))
 cases ha:z.cps.all (·< 128)
 ·exact wpAny_pyIter_wide ha (key _ _ (.inr rfl) ⟨_,Heap.get?_push_size _ rfl,rfl,rfl⟩)
 ·exact wpAny_pyIter_ascii ha (key _ _ (.inl rfl) ⟨_,Heap.get?_push_size _ rfl,rfl,rfl⟩)
theorem zpb {bs:List Bool} {n:Nat} (h:n=bs.length):(List.range n).all (λi=>bs.getD i false)=bs.all id:=by
 subst h;rw [Bool.eq_iff_iff,List.all_eq_true,List.all_eq_true];constructor
 ·intro h b hb;obtain ⟨i,hi,e⟩:=List.mem_iff_getElem.mp hb;have:=h i (List.mem_range.mpr hi);rw [List.getD_eq_getElem?_getD,List.getElem?_eq_getElem hi,Option.getD_some,e] at this;exact this
 ·intro h i hi;have hi':=List.mem_range.mp hi;rw [List.getD_eq_getElem?_getD,List.getElem?_eq_getElem hi',Option.getD_some];exact h _ (List.getElem_mem hi')
section
variable {X:Cx}
theorem zrQ (hc:X.calm=true):CallR X (.builtin "all") (λxs H Q=>∃ (p:Addr) (bs:List Bool),xs=[.ref p]/\SqL X.K H p (bs.map V.bl)/\Q (.bl (bs.all id)) H):=by
 intro pins s σ H xs us Q I r h;obtain ⟨p,bs,rfl,hp,q⟩:=h;obtain ⟨u,rfl,ru⟩:=Vals.one r;cases ru
 obtain ⟨its,rv,pl,hz⟩:=I.list hp;have hlen:=rv.length;rw [List.length_map] at hlen;have hne:p≠s.heap.objs.size:=by
  obtain ⟨o,n,e,_⟩:=pl;exact Nat.ne_of_lt (Heap.lt_size e)
 refine call_all_walk (wpAny_pyIter_list pl.isList ?_);refine ⟨s.heap.objs.size,_,_,its.toArray.size,_,_,λi=>bs.getD i false,rfl,Walks.list (A:=X.A.in1) (I.ok.hd hc) s.heap.objs.size p hne its.toArray,⟨⟨_,Heap.get?_push_size _ rfl,rfl,rfl⟩,?_⟩,?_,λh' tk hk=>?_⟩
 ·exact pl.isList.at λo e=>Heap.get?_push_of_some _ e
 ·intro i v s' Q' E' hv hq;have hv':its[i]? = some v:=by simpa using hv
  have hi:i < its.length:=(List.getElem?_eq_some_iff.mp hv').1;obtain ⟨u',hu',ru'⟩:=rv.get (i:=i) (x:=.bl (bs.getD i false)) (by
   rw [List.getElem?_map,List.getElem?_eq_getElem (by omega),List.getD_eq_getElem?_getD,List.getElem?_eq_getElem (by omega)]; rfl)
  rw [hv'] at hu'; cases hu'
  cases ru'
  exact wpAny_truthy_bool hq
 ·rw [zpb (by simp; omega)];exact ⟨.bl _,H,I.kept (h':=h') (t':=tk) λb o e=>hk b o (by
   have:b≠s.heap.objs.size:=Nat.ne_of_lt (Heap.lt_size e)
   simpa using this) (Heap.get?_push_of_some _ e),rfl,q⟩
theorem zmx:CallR X (.builtin "isinstance") (λxs H Q=>∃ x n t b,xs=[x,.ty n]/\TyOf X.K H x t/\W.kitOne X.K t (.type n)=some b/\Q (.bl b) H):=by
 intro pins s σ H xs us Q I r h;obtain ⟨x,n,t,b,rfl,ty,e,q⟩:=h;obtain ⟨u,c,rfl,ru,rc⟩:=Vals.two r;cases rc
 exact zll I ru ty e λtk=>⟨.bl b,H,I.tok tk,rfl,q⟩
theorem zpc:∀ {zs:List Str} {us:List Value},Vals (zs.map V.str) us->StrsAre us zs
 | [],_,.nil=>.nil
 | z :: zs,_,.cons r t=>by
  obtain ⟨tk,rfl⟩:=r;exact .cons _ _ (zpc t)
def zuI (K:W.Frag):V->List V->Hp->VK->Prop:=λx vs H Q=>∃ z p ys,x=.str z/\vs=[.ref p]/\SqL K H p (ys.map V.str)/\(ys.map (·.length)).sum+ys.length*z.length<=16777216/\Q (.str (Txt.join z ys)) H
theorem zuJ:MtR X "str.join" (zuI X.K):=by
 intro pins s σ H x xs v us Q I rx rs h;obtain ⟨z,p,ys,rfl,rfl,hp,hz,q⟩:=h;obtain ⟨t,rfl⟩:=rx;obtain ⟨u,rfl,ru⟩:=Vals.one rs;cases ru
 obtain ⟨its,rv,pl,_⟩:=I.list hp;exact join_list pl.isList (by simpa using zpc rv) hz λt' k=>⟨.str _,H,I.tok k,⟨t',rfl⟩,q⟩
theorem zeh:OpR X (binaryOp .FloorDiv) (rI (λ_ j=>0 < j/\j < 2 ^ 200) λi j=>.int (i / j)):=opI λi j _ _ _ _ _ hc q=>by
 have h1:(0:Int) < j:=hc.1;have h2:j < 2 ^ 200:=hc.2;refine floordiv_int (by omega) (by rw [Int.fdiv_eq_ediv_of_nonneg i (by omega)]; exact q) (.inl (PyProof.noPylong_of_log2 ?_));have h3:j.natAbs < 2 ^ 200:=by
  have e:((2:Int) ^ 200)=(((2:Nat) ^ 200:Nat):Int):=by norm_cast
  rw [e] at h2;omega
 have h4:j.natAbs≠0:=by omega
 exact Nat.lt_trans ((Nat.log2_lt h4).mpr h3) (by decide)
end
section
variable {K:W.Frag} {g:TG} {tt:TT} {te:TE} {σ0:St} {H1:Hp} {l:Addr} {R:Hp->Prop}
end
example (K:W.Frag):W.kitOne K (.type "bool") (.type "int")=some true:=by rfl
example (K:W.Frag):W.kitOne K (.type "dict") (.type "int")=some false:=by rfl
section
variable {X:Cx}
def zBc:R2:=λx y H Q=>∃ i j,x=.str i/\y=.str j/\i.length+j.length<=sizeLine/\Q (.str (i++j)) H
def zuK (K:W.Frag):R2:=λx y H Q=>(rI0 λi j=>.int (i+j)) x y H Q\/zBc x y H Q\/zCB x y H Q\/zxO K x y H Q
theorem zuL:OpR X (binaryOp .Add) (zuK X.K):=zxB.or (znY.or (zxT.or zuz))
def zx3:R2:=λx y H Q=>(rI CMul λi j=>.int (i*j)) x y H Q\/zCC x y H Q
theorem zuM:OpR X (binaryOp .Mult) zx3:=zxC.or zxU
def zDt:R2:=λx y H Q=>∃ i j,x=.str i/\y=.str j/\Q (.bl (!(Builtin.Str.occurrences j i 0 j.length 1).isEmpty)) H
def zuN:R2:=λx y H Q=>∃ i j,x=.str i/\y=.str j/\Q (.bl (!(!(Builtin.Str.occurrences j i 0 j.length 1).isEmpty))) H
theorem PI.or {tg l:Expr} {wi wi':TI} (h:PI X tg l wi) (h':PI X tg l wi'):PI X tg l (λσ H R=>wi σ H R\/wi' σ H R):=by
 intro pins s σ H R I q;rcases q with q | q
 ·exact h pins s σ H R I q
 ·exact h' pins s σ H R I q
def zBd (K:W.Frag) (tl:TE):TI:=λσ H R=>zxy K tl σ H R\/zCs K tl σ H R\/zCD tl σ H R
theorem zx4 {tg l:Expr} {tl:TE} (hl:PE X l tl):PI X tg l (zBd X.K tl):=(zul hl).or ((zxz hl).or (zx2 hl))
def zuO (K:W.Frag):List V->Hp->VK->Prop:=λxs H Q=>∃ x n,xs=[x]/\zA5 K x H n/\Q (.int n) H
theorem zpd:CallR X (.builtin "len") (zuO X.K):=zrB
end
section
variable {X:Cx} {K:W.Frag}
theorem zuP (h:X.K=K):OpR X (binaryOp .Add) (zuK K):=h▸zuL
theorem zuQ (h:X.K=K):IxR X (rIx K):=h▸zxR
theorem zuR {tg l:Expr} {tl:TE} (h:X.K=K) (hl:PE X l tl):PI X tg l (zBd K tl):=h▸zx4 hl
theorem zpe (h:X.K=K):CallR X (.builtin "len") (zuO K):=h▸zpd
def zmy (K:W.Frag):List V->Hp->VK->Prop:=λxs H Q=>∃ x n t b,xs=[x,.ty n]/\TyOf K H x t/\W.kitOne K t (.type n)=some b/\Q (.bl b) H
theorem zlx (h:X.K=K):CallR X (.builtin "isinstance") (zmy K):=h▸zmx
def zCE (K:W.Frag):List V->Hp->VK->Prop:=λxs H Q=>∃ (p:Addr) (bs:List Bool),xs=[.ref p]/\SqL K H p (bs.map V.bl)/\Q (.bl (bs.all id)) H
theorem zpf (h:X.K=K) (hc:X.calm=true):CallR X (.builtin "all") (zCE K):=h▸zrQ hc
theorem zrR (h:X.K=K):MtR X "str.join" (zuI K):=h▸zuJ
def zpg (K:W.Frag):List V->Hp->VK->Prop:=λxs H Q=>∃ p ys,xs=[.ref p]/\(SqL K H p ys\/SqT K H p ys)/\∀ l,H l=none->Q (.ref l) (upd H l (.lst ys))
theorem zn8 (h:X.K=K):CallR X (.type "list") (zpg K):=h▸zlr
def ztg (K:W.Frag):List V->Hp->VK->Prop:=λxs H Q=>∃ p ys,xs=[.ref p]/\((SqL K H p ys/\∀ l,H l=none->Q (.ref l) (upd H l (.tup ys)))\/(SqT K H p ys/\Q (.ref p) H))
theorem zmz (h:X.K=K):CallR X (.type "tuple") (ztg K):=h▸zkw
variable {T id:String} {name:Str} {r:V->List V->Hp->VK->Prop} {o e:Expr} {es:List Expr} {to:TE} {t:TA} {apos cpos pos:Pos}
theorem zth (h : X.K = K) (pa : PlainAttrs T) (slot : Slot T name id) (hty : typeOf (.builtin id) = pure (.type "method_descriptor")) (hm : MtR X id r) (ho : PE X o to) (ha : PA X (e :: es) t)
    (hbase : attributeBase o name X.env (eval o X.env) = eval o X.env := by rfl)
    (hfew : ((backTo cpos (starEach (e :: es) X.env)).all (λx => !x.1) && (backToKw cpos (keywordEach [] X.env)).all (λx => x.1.isSome)
      && decide ((e :: es).length + ([] : List Keyword).length + (if ([] : List Keyword).isEmpty then 0 else 1) < 30)) = true := by rfl)
    (hline : (apos.endLine == cpos.line) = true := by rfl) (hs : starEach (e :: es) X.env = (false, eval e X.env) :: starEach es X.env := by rfl) (hplain : (backTo cpos (starEach es X.env)).any (·.1) = false := by rfl) :
    PE X (.Call (.Attribute o name apos) (e :: es) [] cpos) (tBM K T r to t) := h ▸ zA8 pa slot hty hm ho ha hbase hfew hline hs hplain
theorem zuS {es:List Expr} {k:Nat} {t:TGs} {n:Nat} (h:X.K=K) (hc:X.calm=true) (hp:PGs X es t)
  (hn:(assignEach es X.env).length=n:=by rfl) (hst:(assignEach es X.env).findIdx? (·.1)=none:=by rfl):PG X (.Tuple es k pos) (zAZ K n t):=h▸zxv hc hp hn hst
theorem zuT {f:Str} (h:X.K=K) (he:PE X e to) (hb:attributeBase e f X.env (eval e X.env)=eval e X.env):PE X (.Attribute e f pos) (zA6 K to f):=h▸zxF he hb
theorem zuU {f:Str} {value:Expr} {tv:TE} {pos':Pos} (h:X.K=K) (ha:PE X o to) (hv:PE X value tv) (hs:swapsWith value (some (.Attribute o f pos')) pos.line X.env=pure false):PS X (.Assign [.Attribute o f pos'] value pos) (zAE K to tv f):=h▸zxG ha hv hs
def GC (mg:Str->Option Value) (x:Str) (v:V):Prop:=∃ u,mg x=some u/\RelV v u
theorem zx5 {x:Str} {v:V} (hg:Gl X x) (h:GC X.mg x v) (hd:(x==("__debug__":Str))=false:=by decide):PE X (.Name x pos) (tC v):=by
 obtain ⟨u,h1,h2⟩:=h;exact zmq hg h1 h2 hd
end
section
variable {K:W.Frag} {σ:St} {H:Hp} {Q:VK} {v x y:V} {i j:Int} {ta tb:TE} {D:Ends}
theorem len_str {z:Str} (h:z.length<=sizeLine):zA5 K (.str z) H z.length:=⟨h,rfl⟩
end
mutual
inductive DAt (K:W.Frag) (H:Hp):V->PyData->Prop
 | non:DAt K H .non .none
 | bl (b:Bool):DAt K H (.bl b) (.bool b)
 | int (i:Int):DAt K H (.int i) (.int i)
 | str (x:Str):DAt K H (.str x) (.str x)
 | lst {a:Addr} {xs:List V} {ds:List PyData} (h:SqL K H a xs) (r:DAts K H xs ds):DAt K H (.ref a) (.list ds)
 | tup {a:Addr} {xs:List V} {ds:List PyData} (h:SqT K H a xs) (r:DAts K H xs ds):DAt K H (.ref a) (.tuple ds)
inductive DAts (K:W.Frag) (H:Hp):List V->List PyData->Prop
 | nil:DAts K H [] []
 | cons {x:V} {d:PyData} {xs:List V} {ds:List PyData} (h:DAt K H x d) (r:DAts K H xs ds):DAts K H (x :: xs) (d :: ds)
end
section
variable {X:Cx} {pins:List (Addr×Obj)} {σ:St} {H:Hp} {s:Shared}
mutual
theorem Inv.reads (I:Inv X pins σ H s):∀ {x:V} {d:PyData} {u:Value},DAt X.K H x d->RelV x u->∃ as,Reads s.heap u d as
 | _,_,_,.non,r=>by cases r; exact ⟨_,.none⟩
 | _,_,_,.bl b,r=>by cases r; exact ⟨_,.bool b⟩
 | _,_,_,.int i,r=>by obtain ⟨t,rfl⟩:=r; exact ⟨_,.int i t⟩
 | _,_,_,.str x,r=>by obtain ⟨t,rfl⟩:=r; exact ⟨_,.str x t⟩
 | _,_,_,.lst h q,r=>by
  cases r
  obtain ⟨its,rv,⟨o,n,e,c,_,d⟩,_⟩:=I.list h;obtain ⟨as,ra⟩:=Inv.readsAll I q rv;exact ⟨_,.list e c d (by simpa using ra)⟩
 | _,_,_,.tup h q,r=>by
  cases r
  obtain ⟨its,rv,⟨o,e,c,n,d⟩,_⟩:=I.tuple h;obtain ⟨as,ra⟩:=Inv.readsAll I q rv;exact ⟨_,.tuple e c d (by simpa using ra)⟩
theorem Inv.readsAll (I:Inv X pins σ H s):∀ {xs:List V} {ds:List PyData} {us:List Value},DAts X.K H xs ds->Vals xs us->∃ as,ReadsAll s.heap us ds as
 | _,_,_,.nil,.nil=>⟨_,.nil⟩
 | _,_,_,.cons h r,.cons v t=>by
  obtain ⟨as,ra⟩:=Inv.reads I h v;obtain ⟨bs,rb⟩:=Inv.readsAll I r t;exact ⟨_,.cons ra rb⟩
end
end
theorem Room.c64 {k:Nat} {A:Around} (r:Room k A):A.units+65 < cLine:=by have:=r.un; omega
def zCF (K:W.Frag):R2:=λx y H Q=>∃ da db,DAt K H x da/\DAt K H y db/\SeqAt.shaped da=true/\SeqAt.shaped db=true/\Q (.bl (PyData.eqv da db)) H
def zBe (K:W.Frag):R2:=λx y H Q=>∃ da db,DAt K H x da/\DAt K H y db/\SeqAt.shaped da=true/\SeqAt.shaped db=true/\Q (.bl (!PyData.eqv da db)) H
def zCG (K:W.Frag):R2:=λx y H Q=>∃ ds d,(DAt K H y (.list ds)\/DAt K H y (.tuple ds))/\DAt K H x d/\SeqAt.shaped (.list ds)=true/\SeqAt.shaped d=true/\Q (.bl (ds.any λe=>PyData.eqv e d)) H
def zph (K:W.Frag):R2:=λx y H Q=>∃ ds d,(DAt K H y (.list ds)\/DAt K H y (.tuple ds))/\DAt K H x d/\SeqAt.shaped (.list ds)=true/\SeqAt.shaped d=true/\Q (.bl (!(ds.any λe=>PyData.eqv e d))) H
section
variable {X:Cx} {K:W.Frag}
theorem zx6 (hK:X.K=K) (hu:X.A.units+65 < cLine):OpR X (compareOp .Eq) (zCF K):=by
 subst hK;intro pins s σ H x y v u Q I rx ry h;obtain ⟨da,db,ha,hb,sa,sb,q⟩:=h;obtain ⟨as,ra⟩:=I.reads ha rx;obtain ⟨bs,rb⟩:=I.reads hb ry;exact eq_dataH ra rb sa sb (by omega) ⟨.bl _,H,I,rfl,q⟩
theorem zti (hK:X.K=K) (hu:X.A.units+65 < cLine):OpR X (compareOp .NotEq) (zBe K):=by
 subst hK;intro pins s σ H x y v u Q I rx ry h;obtain ⟨da,db,ha,hb,sa,sb,q⟩:=h;obtain ⟨as,ra⟩:=I.reads ha rx;obtain ⟨bs,rb⟩:=I.reads hb ry;exact ne_dataH ra rb sa sb (by omega) ⟨.bl _,H,I,rfl,q⟩
theorem zx7 (hK:X.K=K) (hu:X.A.units+65 < cLine):OpR X (compareOp .In) (zCG K):=by
 subst hK;intro pins s σ H x y v u Q I rx ry h;obtain ⟨ds,d,hc,hd,sa,sb,q⟩:=h;obtain ⟨bs,rb⟩:=I.reads hd rx;rcases hc with hc | hc
 ·obtain ⟨as,ra⟩:=I.reads hc ry;exact SeqAt.in_list_reads ra rb (SeqAt.canLay_of_shaped sa) (SeqAt.canLay_of_shaped sb) (room_in_shaped sb hu) ⟨.bl _,H,I,rfl,q⟩
 ·obtain ⟨as,ra⟩:=I.reads hc ry;exact SeqAt.in_tuple_reads ra rb (by have:=SeqAt.canLay_of_shaped sa; simpa [PyData.canLay0] using this) (SeqAt.canLay_of_shaped sb) (room_in_shaped sb hu) ⟨.bl _,H,I,rfl,q⟩
theorem zpi (hK:X.K=K) (hu:X.A.units+65 < cLine):OpR X (compareOp .NotIn) (zph K):=by
 subst hK;intro pins s σ H x y v u Q I rx ry h;obtain ⟨ds,d,hc,hd,sa,sb,q⟩:=h;obtain ⟨bs,rb⟩:=I.reads hd rx;rcases hc with hc | hc
 ·obtain ⟨as,ra⟩:=I.reads hc ry;exact SeqAt.notIn_list_reads ra rb (SeqAt.canLay_of_shaped sa) (SeqAt.canLay_of_shaped sb) (room_in_shaped sb hu) ⟨.bl _,H,I,rfl,q⟩
 ·obtain ⟨as,ra⟩:=I.reads hc ry;exact SeqAt.notIn_tuple_reads ra rb (by have:=SeqAt.canLay_of_shaped sa; simpa [PyData.canLay0] using this) (SeqAt.canLay_of_shaped sb) (room_in_shaped sb hu) ⟨.bl _,H,I,rfl,q⟩
def zCH:V->Option Int->Option Int->Hp->VK->Prop:=λx lo hi H Q=>∃ z,x=.str z/\z.length<=sizeLine/\Q (.str (Txt.slice z lo hi)) H
theorem zx8:SlR X zCH:=by
 intro pins s σ H x v vl vu lo hi sl Q I rx hs pl pu h;obtain ⟨z,rfl,hz,q⟩:=h;obtain ⟨t,rfl⟩:=rx;refine ⟨"str",_,F.slot_str_getitem.lookup,typeIs_str _ _ _,?_⟩;have fin:∀ t' k,EP X pins σ Q (.str (Txt.slice z lo hi) t') { s with toks:=k }:=λt' k=>⟨.str _,H,I.tok k,⟨t',rfl⟩,q⟩
 cases pl with
 | none=>cases pu with
  | none=>exact wpAny_getItem_str_slice (l:=none) (u:=none) (st:=none) hs rfl (post_val_or_str ⟨Nat.le_trans (Txt.slice_le z _ _) hz,fin⟩)
  | int j uj=>exact wpAny_getItem_str_slice (l:=none) (u:=some (j,uj)) (st:=none) hs rfl (post_val_or_str ⟨Nat.le_trans (Txt.slice_le z _ _) hz,fin⟩)
 | int i ui=>cases pu with
  | none=>exact wpAny_getItem_str_slice (l:=some (i,ui)) (u:=none) (st:=none) hs rfl (post_val_or_str ⟨Nat.le_trans (Txt.slice_le z _ _) hz,fin⟩)
  | int j uj=>exact wpAny_getItem_str_slice (l:=some (i,ui)) (u:=some (j,uj)) (st:=none) hs rfl (post_val_or_str ⟨Nat.le_trans (Txt.slice_le z _ _) hz,fin⟩)
def zCI (K:W.Frag) (n:Nat) (t:TGs):TG:=λv σ H Q=>∃ a xs,v=.ref a/\SqL K H a xs/\xs.length=n/\t xs σ H Q
theorem zly {prog:Program} {w:World} {A:Around} {E:Value->Shared->Prop} {it t:Addr} {items:Array Value} (hne:t≠it):∀ (n i:Nat) (s:Shared) (Q:List Value->Shared->Prop),s.heap.IsListIter it t i->s.heap.IsList t items->i+n<=items.size->
  (∀ h',h'.IsListIter it t (i+n)->Heap.SameBut it s.heap h'->Q ((items.toList.drop i).take n) { s with heap:=h' })->wpAny (model prog w) A (draw (.ref it) n) Q E s
 | 0,i,s,Q,hit,_,_,hQ=>by
  show wpAny _ _ (pure []) Q E s;exact wpAny_pure (by simpa using hQ s.heap hit (Heap.SameBut.refl ..))
 | n+1,i,s,Q,hit,ht,hle,hQ=>by
  have hlt:i < items.size:=by omega
  show wpAny _ _ (pyNext (.ref it) >>= _) Q E s;refine wpAny_bind (wpAny_pyNext_list_item hit ht (x:=items[i]) (by simp [hlt]) λh₁ hit₁ hs₁=>?_);refine wpAny_bind (wpAny_holding (zly hne n (i+1) _ _ hit₁ (ht.extBut hs₁.extBut hne) (by omega) λh₂ hit₂ hs₂=>wpAny_pure ?_));have hd:items.toList.drop i=items[i] :: items.toList.drop (i+1):=by simp [List.drop_eq_getElem_cons,hlt]
  have q:=hQ h₂ (by rw [show i+(n+1)=i+1+n by omega]; exact hit₂) (hs₁.trans hs₂);rw [hd,List.take_succ_cons] at q;exact q
theorem zit {prog:Program} {w:World} {A:Around} {E:Value->Shared->Prop} {s:Shared} {t:Addr} {items:Array Value} {Q:List Value->Shared->Prop} (hh:A.handled=none) (ht:s.heap.IsList t items)
  (hQ:∀ h',Heap.ExtBut s.heap.objs.size s.heap h'->Q items.toList { s with heap:=h' }):wpAny (model prog w) A (unpackItems (.ref t) items.size none) Q E s:=by
 have hlt:t≠s.heap.objs.size:=by obtain ⟨o,ho,_⟩:=ht; exact Nat.ne_of_lt (Heap.lt_size ho)
 unfold unpackItems;refine wpAny_bind ?_;unfold notIterableAtAll;refine wpAny_bind (wpAny_specialOf ht.typeIs slot_list_iter.lookup ?_);refine wpAny_pure ?_;simp only [Bool.false_eq_true,if_false];refine wpAny_bind (wpAny_holding (wpAny_pyIter_list ht ?_));refine wpAny_bind (wpAny_holding (zly hlt items.size 0 _ _ ⟨_,Heap.get?_push_size _ rfl,rfl,rfl⟩ (ht.at λo e=>Heap.get?_push_of_some _ e) (by omega) λh₁ hit₁ hs₁=>?_))
 have hall:List.take items.size (List.drop 0 items.toList)=items.toList:=by
  rw [List.drop_zero]; exact List.take_of_length_le (by simp)
 rw [hall];rw [if_neg (by simp)];have ht₁:h₁.IsList t items:=(ht.at λo e=>Heap.get?_push_of_some _ e).extBut hs₁.extBut hlt;refine wpAny_bind (wpAny_holding (wpAny_pyNext_list_end hh hit₁ ht₁ (by simp) λh₂ he₂=>?_));simp only [Option.isSome_none,Bool.false_eq_true,if_false];exact wpAny_pure (hQ h₂ λb o hb e=>he₂ b o hb (hs₁.extBut b o hb (Heap.get?_push_of_some _ e)))
theorem zx9 {es:List Expr} {k:Nat} {t:TGs} {n:Nat} {pos:Pos} (hK:X.K=K) (hc:X.calm=true) (h:PGs X es t)
  (hn:(assignEach es X.env).length=n:=by rfl) (hst:(assignEach es X.env).findIdx? (·.1)=none:=by rfl):PG X (.Tuple es k pos) (zCI K n t):=by
 subst hK;intro pins s σ H v u Q I r hw;obtain ⟨a,xs,e1,hq,hl,hw⟩:=hw;subst e1;cases r
 obtain ⟨its,rv,pl,hz⟩:=I.list hq;have hsz:(assignEach es X.env).length=its.toArray.size:=by simp [hn,<- hl,rv.length]
 rw [assign_Tuple];refine wpAny_bind (wpAny_standAt ?_);unfold unpack;rw [hsz,hst];refine wpAny_bind (wpAny_holding (zit (I.ok.hd hc) pl.isList λh' hx=>?_));have I1:Inv X pins σ H { s with heap:=h' }:=I.kept (t':=s.toks) λb o e=>hx b o (Nat.ne_of_lt (Heap.lt_size e)) e;exact h pins _ σ H xs _ Q I1 (by simpa using rv) hw
theorem zkz {prog:Program} {w:World} {d:Addr} (hd:(d==sysModules)=false) :
  MeetsIn prog w (Builtin.«dict.__len__» ⟨[.ref d],[]⟩) (λ_ R s=>∃ o es ep,s.heap.get? d=some o/\o.data=.dict es ep/\R (.ok (.ret (.int es.size s.toks))) { s with toks:=s.toks+1 }):=
 .of_wp λA R s ⟨o,es,ep,ho,hdat,h⟩=>by
  show wpAny _ _ (dictSize d >>= _) _ _ s;unfold dictSize;refine wpAny_bind (wpAny_bind (wpAny_dictEntries ho hdat (wpAny_pure ?_)));show wpAny _ _ (Builtin.Dict.pendingCount d >>= _) _ _ s;refine wpAny_bind (wpAny_pendingCount_other hd ?_);refine wpAny_ret_mkInt ?_
  simpa using h
theorem zpj {prog:Program} {w:World} {A:Around} {E:Value->Shared->Prop} {s:Shared} {d:Addr} {o:Obj} {es:Array DictEntry} {ep:Nat} {Q:Value->Shared->Prop} (hd:(d==sysModules)=false) (ho:s.heap.get? d=some o) (hc:o.cls=.type "dict") (hdat:o.data=.dict es ep) (hfit:(es.size:Int) < 2 ^ 63)
  (h:Q (.int es.size (s.toks+1)) { s with toks:=s.toks+1+1 }):wpAny (model prog w) A (call (.builtin "len") [.ref d]) Q E s:=by
 have ht:s.TypeIs (.ref d) "dict":=⟨o,ho,hc⟩
 refine Calls.call_function_entry kind_len plain_len entry_len (args_len1 _) ?_;unfold Builtin.«len»;refine wpAny_bind (m:=oneArg "len" _) (wpAny_pure ?_);refine wpAny_bind (m:=callSpecial? (.ref d) (Str.ofString "__len__")) (wpAny_callSpecial?_slot (name:=Str.ofString "__len__") ht F.slot_dict_len
  (call_meetsIn F.slot_dict_len ht F.entry_dict_len (F.args_dict_len_1 _) (zkz hd) ⟨o,es,ep,ho,hdat,?_⟩))
 show wpAny _ _ _ _ _ { s with toks:=s.toks+1 };refine wpAny_bind (wpAny_holding (wpAny_pure ?_));refine wpAny_bind (wpAny_letGo ?_);show wpAny _ _ (if ((es.size:Nat):Int) < 0 then _ else _) _ _ _;rw [if_neg (by omega)];show wpAny _ _ (if ((es.size:Nat):Int)>=2 ^ 63 then _ else _) _ _ _;rw [if_neg (by omega)];exact wpAny_bind (wpAny_mkInt (wpAny_pure ⟨_,rfl,h⟩))
def zya:List V->Hp->VK->Prop:=λxs H Q=>∃ a kvs,xs=[V.ref a]/\H a=some (.dT kvs)/\Q (.int kvs.length) H
theorem zpk:CallR X (.builtin "len") zya:=by
 intro pins s σ H xs us Q I r h;obtain ⟨a,kvs,rfl,ha,q⟩:=h;obtain ⟨u,rfl,ru⟩:=zir r;cases ru
 obtain ⟨z,hd,xs,rel,o,es,ep,h1,h2,h3,h4,_⟩:=zx0 I.hok ha;have hl:es.size=kvs.length:=by
  have e1:es.toList.length=xs.length:=by rw [h4,List.length_map]
  have e2:kvs.length=xs.length:=Paired.length rel;rw [Array.length_toList] at e1;omega
 refine zpj hd h1 h2.1 h3 (by rw [hl]; rw [sizeLine_eq] at z; omega) ?_;rw [hl];exact ⟨.int kvs.length,H,I.tok _,⟨_,rfl⟩,q⟩
def zyb:List V->Hp->VK->Prop:=λxs H Q=>∃ a o kvs,xs=[V.ref a]/\H a=some (.frz o (.dT kvs))/\Q (.int kvs.length) H
theorem zpl:CallR X (.builtin "len") zyb:=by
 intro pins s σ H xs us Q I r h;obtain ⟨a,ob,kvs,rfl,ha,q⟩:=h;obtain ⟨u,rfl,ru⟩:=zir r;cases ru
 obtain ⟨z,hd,xs,rel,o,es,ep,h1,h2,h3,h4,_⟩:=zxZ I.hok (.inr ⟨ob,ha⟩);have hl:es.size=kvs.length:=by
  have e1:es.toList.length=xs.length:=by rw [h4,List.length_map]
  have e2:kvs.length=xs.length:=Paired.length rel;rw [Array.length_toList] at e1;omega
 refine zpj hd h1 h2.1 h3 (by rw [hl]; rw [sizeLine_eq] at z; omega) ?_;rw [hl];exact ⟨.int kvs.length,H,I.tok _,⟨_,rfl⟩,q⟩
end
theorem zpm {x:Str} {k:Nat} (h:k<=x.length):(Txt.slice x none (some (k:Int))).cps.toList=x.cps.toList.take k:=by
 have hi:Builtin.Str.strSliceIndices none (some (k:Int)) 1 x.length=List.range k:=by
  unfold Builtin.Str.strSliceIndices sliceRange;simp only [show (1:Int) > 0 by decide,if_true];rw [if_neg (by omega:¬ (k:Int) < 0),show max 0 (min (k:Int) (x.length:Int))=k by omega]
  by_cases hk:(0:Int) < k
  ·rw [if_pos hk];have:((k:Int)-0+1-1) / 1=k:=by omega
   rw [this,Int.toNat_natCast];refine List.ext_getElem (by simp) λi h1 h2=>?_;simp
  ·have:k=0:=by omega
   subst this;simp
 unfold Txt.slice;rw [hi];have hx:x.length=x.cps.size:=rfl;split
 ·rename_i hc
  have:k=x.length:=by simpa using hc
  rw [List.take_of_length_le (by simp; omega)]
 ·refine List.ext_getElem? λi=>?_;show ((List.range k).filterMap λj=>x.cps[j]?)[i]? = _;have e:((List.range k).filterMap λj=>x.cps[j]?)=x.cps.toList.take k:=by
   clear hi
   rename_i hc
   clear hc
   induction k with
   | zero=>simp
   | succ k ih=>
    rw [List.range_succ,List.filterMap_append,ih (by omega),List.take_add_one];congr 1;have hk:k < x.cps.size:=by omega
    simp [hk]
  rw [e]
theorem zpn {x:Str} {k:Nat} (h:k<=x.length):(Txt.slice x (some (k:Int)) none).cps.toList=x.cps.toList.drop k:=by
 have hx:x.length=x.cps.size:=rfl;have hi:Builtin.Str.strSliceIndices (some (k:Int)) none 1 x.length=(List.range (x.length-k)).map λj=>k+j:=by
  unfold Builtin.Str.strSliceIndices sliceRange;simp only [show (1:Int) > 0 by decide,if_true];rw [if_neg (by omega:¬ (k:Int) < 0),show max 0 (min (k:Int) (x.length:Int))=k by omega]
  by_cases hk:(k:Int) < x.length
  ·rw [if_pos hk];have:(((x.length:Int)-k+1-1) / 1).toNat=x.length-k:=by omega
   rw [this];refine List.ext_getElem (by simp) λi h1 h2=>?_;simp;omega
  ·have:x.length-k=0:=by omega
   rw [if_neg hk,this];simp
 unfold Txt.slice;rw [hi];have e:(((List.range (x.length-k)).map λj=>k+j).filterMap λj=>x.cps[j]?)=x.cps.toList.drop k:=by
  refine List.ext_getElem? λi=>?_;rw [List.getElem?_drop,List.filterMap_map];have e2:∀ n,n<=x.length-k->((List.range n).filterMap ((λj=>x.cps[j]?) ∘ λj=>k+j))=(x.cps.toList.drop k).take n:=by
   intro n
   induction n with
   | zero=>intro _; simp
   | succ n ih=>
    intro hn;rw [List.range_succ,List.filterMap_append,ih (by omega),List.take_add_one,List.getElem?_drop];congr 1;have hk:k+n < x.cps.size:=by omega
    simp [hk]
  rw [e2 _ (Nat.le_refl _),List.take_of_length_le (by simp; omega),List.getElem?_drop]
 split
 ·rename_i hc
  have:k=0:=by
   have hc':x.length-k=x.length:=by simpa using hc
   have hx0:x.length=0\/k=0:=by omega
   omega
  subst this;simp
 ·exact e
section
variable {X:Cx} {K:W.Frag}
def zCJ (K:W.Frag):R2:=λx y H Q=>zDt x y H Q\/zCG K x y H Q
def zpo (K:W.Frag):R2:=λx y H Q=>zuN x y H Q\/zph K x y H Q
theorem zyc (hK:X.K=K) (hu:X.A.units+65 < cLine):OpR X (compareOp .In) (zCJ K):=zoU.or (zx7 hK hu)
theorem zpp (hK:X.K=K) (hu:X.A.units+65 < cLine):OpR X (compareOp .NotIn) (zpo K):=zlq.or (zpi hK hu)
theorem PG.or {tg:Expr} {g g':TG} (h:PG X tg g) (h':PG X tg g'):PG X tg (λv σ H Q=>g v σ H Q\/g' v σ H Q):=by
 intro pins s σ H v u Q I r q;rcases q with q | q
 ·exact h pins s σ H v u Q I r q
 ·exact h' pins s σ H v u Q I r q
def zCK (K:W.Frag) (n:Nat) (t:TGs):TG:=λv σ H Q=>zAZ K n t v σ H Q\/zCI K n t v σ H Q
theorem zuV {es:List Expr} {k:Nat} {t:TGs} {n:Nat} {pos:Pos} (hK:X.K=K) (hc:X.calm=true) (h:PGs X es t)
  (hn:(assignEach es X.env).length=n:=by rfl) (hst:(assignEach es X.env).findIdx? (·.1)=none:=by rfl):PG X (.Tuple es k pos) (zCK K n t):=(zuS hK hc h hn hst).or (zx9 hK hc h hn hst)
def zyd (K:W.Frag):List V->Hp->VK->Prop:=λxs H Q=>zuO K xs H Q\/zya xs H Q
theorem zpq (hK:X.K=K):CallR X (.builtin "len") (zyd K):=(zpe hK).or zpk
def zCL (K:W.Frag):V->Option Int->Option Int->Hp->VK->Prop:=λx lo hi H Q=>zCH x lo hi H Q\/zCA K x lo hi H Q\/zCw K x lo hi H Q
theorem zuW (hK:X.K=K):SlR X (zCL K):=by
 subst hK;exact zx8.or (zuC.or zxN)
end
section
variable {K:W.Frag} {σ:St} {H:Hp} {Q:VK} {v x y:V} {i j:Int} {ta tb:TE} {D:Ends} {p:Addr} {xs:List V}
theorem zn9 {z:Str} (h:PyData.strOk z=true):SeqAt.shaped (.str z)=true:=by
 unfold SeqAt.shaped;rw [show PyData.canLay0 (.str z)=PyData.strOk z from rfl,h,Bool.true_and];exact decide_eq_true (by simp [PyData.depth])
end
section
variable {prog:Program} {w:World} {A:Around} {E:Value->Shared->Prop} {s:Shared}
def RawD (h:Heap) (d:Addr) (es:Array DictEntry) (ep:Nat):Prop:=∃ o,h.get? d=some o/\o.cls=.type "dict"/\o.data=.dict es ep
theorem RawD.at {h h':Heap} {d:Addr} {es:Array DictEntry} {ep:Nat} (r:RawD h d es ep) (k:∀ o,h.get? d=some o->h'.get? d=some o):RawD h' d es ep:=let ⟨o,e,q⟩:=r; ⟨o,k o e,q⟩
theorem zrS {d:Addr} {es:Array DictEntry} {ep:Nat} {Q:Value->Shared->Prop} (nd:(d==sysModules)=false) (r:RawD s.heap d es ep)
  (q:Q (.ref s.heap.objs.size) { s with heap:=s.heap.push { cls:=.type "dict_keyiterator",data:=.fields #[.ref d,.int 0 0,.int es.size 0,.int ep 0] } }):wpAny (model prog w) A (pyIter (.ref d)) Q E s:=by
 obtain ⟨ob,e1,e2,e3⟩:=r;have ty:s.TypeIs (.ref d) "dict":=⟨ob,e1,e2⟩
 refine wpAny_pyIter_slot ty F.slot_dict_iter (wpAny_call_entry F.slot_dict_iter ty F.entry_dict_iter ?_ (F.args_dict_iter_1 _)); unfold Builtin.«dict.__iter__»;refine wpAny_bind ?_; unfold Builtin.Dict.dictSlotNone;refine wpAny_bind (wpAny_notOrdered_dict ty ?_); show wpAny _ _ (pure (Value.ref d)) _ _ s;refine wpAny_pure ?_; show wpAny _ _ (Builtin.Dict.showsAll d >>= _) _ _ s; unfold Builtin.Dict.showsAll; rw [if_neg (by rw [nd]; exact Bool.false_ne_true)]
 refine wpAny_bind (wpAny_pure (wpAny_bind (wpAny_dictEntries e1 e3 (wpAny_bind (wpAny_dictEpoch e1 e3 ?_)))));refine wpAny_bind (wpAny_newObj_type (wpAny_pure ⟨_,rfl,"dict_keyiterator",_,⟨_,Heap.get?_push_size _ rfl,rfl⟩,F.slot_dict_keyiterator_next.lookup,by simpa [rawInt] using q⟩))
theorem zrT {it d:Addr} {i ep:Nat} {es:Array DictEntry} {Q:Option Value->Shared->Prop} (hi:s.heap.IsKeyIter it d i es.size ep) (r:RawD s.heap d es ep) (lt:i < es.size)
  (q:∀ h',h'.IsKeyIter it d (i+1) es.size ep->Heap.SameBut it s.heap h'->Q (some es[i].key) { s with heap:=h' }):wpAny (model prog w) A (pyNext (.ref it)) Q E s:=by
 obtain ⟨oi,f1,f2,f3⟩:=id hi;obtain ⟨ob,e1,e2,e3⟩:=r;unfold pyNext; refine wpAny_bind (wpAny_attempt (wpAny_callSpecial?_slot (name:=Str.ofString "__next__") hi.typeIs F.slot_dict_keyiterator_next (wpAny_call_entry F.slot_dict_keyiterator_next hi.typeIs F.entry_dict_keyiterator_next ?_ (F.args_dict_keyiterator_next_1 _))));refine wpAny_bind (wpAny_pure (wpAny_bind (wpAny_bind ?_)))
 first | (refine wpAny_bind (wpAny_typeNameOfWhole_keyiter hi.typeIs (wpAny_pure ?_)); skip) | (refine wpAny_bind (wpAny_typeNameOf_keyiter hi.typeIs (wpAny_pure ?_)); skip)
 refine wpAny_bind (wpAny_fieldsOf f1 f3 ?_);simp only [show Builtin.Dict_items.ownsTuple "dict_keyiterator"=false by decide,Bool.false_eq_true,if_false]; show wpAny _ _ (if (Value.ref d==Value.none)=true then _ else _) _ _ s;rw [if_neg (by exact Bool.false_ne_true:¬ ((Value.ref d==Value.none)=true))];refine wpAny_bind (wpAny_pure (wpAny_bind (wpAny_dictEntries e1 e3 ?_))); rw [if_neg (by simp)]
 refine wpAny_bind (wpAny_pure (wpAny_bind (wpAny_dictEpoch e1 e3 ?_))); rw [if_neg (by simp)];refine wpAny_pure ?_; simp only [show ¬ ((i:Int) < 0) by omega,if_false,Int.toNat_natCast,Array.getElem?_eq_getElem lt];refine wpAny_bind ?_; first | (refine wpAny_bind (wpAny_typeNameOfWhole_keyiter hi.typeIs (wpAny_pure ?_)); skip) | (refine wpAny_bind (wpAny_typeNameOf_keyiter hi.typeIs (wpAny_pure ?_)); skip)
 refine wpAny_bind (wpAny_isOneOf_keyiter hi.typeIs ?_); show wpAny _ _ (setField (.ref it) 1 (rawInt ((i:Int)+1)) >>= _) _ _ s;refine wpAny_bind (wpAny_setField f1 f3 (by simp) ?_);have hi':(s.heap.update it (Obj.mapFields (·.setIfInBounds 1 (rawInt ((i:Int)+1))))).IsKeyIter it d (i+1) es.size ep:=⟨_,Heap.get?_update_self _ f1 (Obj.isFreed_of_fields (Obj.data_mapFields f3 _)),(Obj.cls_mapFields ..).trans f2,by rw [Obj.data_mapFields f3]; simp [rawInt]⟩
 refine wpAny_bind (wpAny_holding (wpAny_bind (wpAny_isOneOf_keyiter (s:={ s with heap:=s.heap.update it (Obj.mapFields (·.setIfInBounds 1 (rawInt ((i:Int)+1)))) }) hi'.typeIs ?_))); show wpAny _ _ (pure es[i].key) _ _ _;exact wpAny_pure (wpAny_pure ⟨_,rfl,wpAny_pure (q _ hi' (Heap.SameBut.update ..))⟩)
theorem zuX {it d:Addr} {ep:Nat} {es:Array DictEntry} {Q:Option Value->Shared->Prop} (hh:A.handled=none) (hi:s.heap.IsKeyIter it d es.size es.size ep) (r:RawD s.heap d es ep)
  (q:∀ h',Heap.ExtBut it s.heap h'->Q none { s with heap:=h' }):wpAny (model prog w) A (pyNext (.ref it)) Q E s:=by
 obtain ⟨oi,f1,f2,f3⟩:=id hi;obtain ⟨ob,e1,e2,e3⟩:=r;unfold pyNext; refine wpAny_bind (wpAny_attempt (wpAny_callSpecial?_slot (name:=Str.ofString "__next__") hi.typeIs F.slot_dict_keyiterator_next (wpAny_call_entry F.slot_dict_keyiterator_next hi.typeIs F.entry_dict_keyiterator_next ?_ (F.args_dict_keyiterator_next_1 _))));refine wpAny_bind (wpAny_pure (wpAny_bind (wpAny_bind ?_)))
 first | (refine wpAny_bind (wpAny_typeNameOfWhole_keyiter hi.typeIs (wpAny_pure ?_)); skip) | (refine wpAny_bind (wpAny_typeNameOf_keyiter hi.typeIs (wpAny_pure ?_)); skip)
 refine wpAny_bind (wpAny_fieldsOf f1 f3 ?_);simp only [show Builtin.Dict_items.ownsTuple "dict_keyiterator"=false by decide,Bool.false_eq_true,if_false]; show wpAny _ _ (if (Value.ref d==Value.none)=true then _ else _) _ _ s;rw [if_neg (by exact Bool.false_ne_true:¬ ((Value.ref d==Value.none)=true))];refine wpAny_bind (wpAny_pure (wpAny_bind (wpAny_dictEntries e1 e3 ?_))); rw [if_neg (by simp)]
 refine wpAny_bind (wpAny_pure (wpAny_bind (wpAny_dictEpoch e1 e3 ?_))); rw [if_neg (by simp)];refine wpAny_pure ?_; simp only [show ¬ ((es.size:Int) < 0) by omega,if_false,Int.toNat_natCast,Array.getElem?_eq_none (Nat.le_refl es.size)];refine wpAny_bind ?_; first | (refine wpAny_bind (wpAny_typeNameOfWhole_keyiter hi.typeIs (wpAny_pure ?_)); skip) | (refine wpAny_bind (wpAny_typeNameOf_keyiter hi.typeIs (wpAny_pure ?_)); skip)
 show wpAny _ _ (setField (.ref it) 0 .none >>= _) _ _ s; refine wpAny_bind (wpAny_setField f1 f3 (by simp) ?_);show wpAny _ _ (newExc (.type "StopIteration") [] >>= _) _ _ _; refine wpAny_bind ?_; simp only [newExc,newTuple];refine wpAny_bind (wpAny_newObj_type ?_ (by size_fits)); refine wpAny_bind (m:=firstArgMember _ _) (wpAny_of_eq (a:=Value.none) (by first | rfl | (simp only [firstArgMember]; rfl)) ?_)
 refine wpAny_newObj_type ?_ (by size_fits); simp only [raiseNew]; refine wpAny_bind (wpAny_handled ?_); rw [show A.in1.handled=none from hh];refine wpAny_bind (wpAny_pure (wpAny_throw ?_)); refine wpAny_bind (wpAny_isInstance (T:="StopIteration") (b:=true) ⟨_,Heap.get?_push_size _ rfl,rfl⟩ isSubtype_stop ?_);exact wpAny_pure (q _ (((Heap.SameBut.update ..).extBut.push _).push _))
theorem zpr (hh:A.handled=none) (I d:Addr) (ne:d≠I) (es:Array DictEntry) (ep:Nat):PySem.Walks prog w A I [I,d] [I] es.size (λi v=>∃ e,es[i]? = some e/\v=e.key) (λi h=>h.IsKeyIter I d i es.size ep/\RawD h d es ep) where
 sub:=λb hb=>by simp at hb; simp [hb]
 frame:=λ_ _ _ st k=>⟨st.1.at λo e=>k I (by simp) o e,st.2.at λo e=>k d (by simp) o e⟩
 item:=λi s Q E lt st hQ=>zrT st.1 st.2 lt λh' hi' hs'=>hQ _ h' s.toks ⟨es[i],by simp [lt],rfl⟩ ⟨hi',st.2.at λo e=>hs'.extBut d o ne e⟩ λb o hb e=>hs'.extBut b o (λz=>hb (by simp [z])) e
 done:=λs Q E st hQ=>zuX hh st.1 st.2 λh' he'=>hQ h' s.toks λb o hb e=>he' b o (λz=>hb (by simp [z])) e
 self:=λ_ _ _ _ st hQ=>wpAny_pyIter_keyiter st.1 hQ
theorem zrU {d:Addr} {es:Array DictEntry} {ep:Nat} {Q:Bool->Shared->Prop} (r:RawD s.heap d es ep) (q:Q false s):wpAny (model prog w) A (Builtin.List.listLengthHint (.ref d)) Q E s:=by
 obtain ⟨ob,e1,e2,e3⟩:=id r;have ty:s.TypeIs (.ref d) "dict":=⟨ob,e1,e2⟩
 unfold Builtin.List.listLengthHint; refine wpAny_bind (wpAny_specialOf ty F.slot_dict_len.lookup ?_);generalize hid:("dict.__len__":String)=id0; wp_delta;rw [show splitId id0=some ("dict","__len__") from by subst hid; decide +kernel]; subst hid;refine wpAny_bind (wpAny_isInstance (T:="dict") (b:=true) ty (by rw [isSubtype_type]; kernel_rfl) ?_);refine wpAny_ite_split (λhab=>absurd hab (by decide)) (λ_=>wpAny_ite_split (λ_=>?_) (λhab=>absurd (by decide +kernel) hab))
 exact wpAny_bind (wpAny_typeOf ty (wpAny_pure q))
theorem zoa {R:Result->Shared->Prop} {d:Addr} {es:Array DictEntry} {ep:Nat} (hh:A.handled=none) (nd:(d==sysModules)=false) (r:RawD s.heap d es ep) (z:es.size<=sizeLine) (S:Addr) (c₀:Nat) (hS:s.heap.get? S=some { cls:=.type "list",data:=.seq #[] c₀ })
  (hR:∀ h' tk acc' c',(∀ b o,b≠S->s.heap.get? b=some o->h'.get? b=some o)->h'.get? S=some { cls:=.type "list",dict:=none,data:=.seq acc' c',slots:=#[] }->ItemsOf (λi v=>∃ e,es[i]? = some e/\v=e.key) acc' es.size->R (.ok (.ret .none)) { s with heap:=h',toks:=tk }) :
  wpAny (model prog w) A.in1 (Builtin.List.listExtendWith (.ref S) (.ref d) .none) (λfin s'=>match fin with | .done f=>R (.ok f) s' | .again c'=>c'.quiet=true/\codeAny (model prog w) A c' R s') (λe s'=>R (.error e) s') s:=by
 obtain ⟨ob,e1,e2,e3⟩:=id r;have nSd:S≠d:=λe=>by rw [e,e1] at hS; cases hS; exact absurd (show Value.type "list"=Value.type "dict" from e2) (by decide)
 have nSI:S≠s.heap.objs.size:=Nat.ne_of_lt (Heap.lt_size hS);have ndI:d≠s.heap.objs.size:=Nat.ne_of_lt (Heap.lt_size e1);have nSf:S∉[s.heap.objs.size,d]:=by simp [nSd,nSI]
 have W:=(zpr (prog:=prog) (w:=w) (A:=A.in1) hh s.heap.objs.size d ndI es ep).toS;have key:∀ (h:Heap) (c₁ tk:Nat),(h.IsKeyIter s.heap.objs.size d 0 es.size ep/\RawD h d es ep)->(∀ b o,b≠S->s.heap.get? b=some o->h.get? b=some o)->h.get? S=some { cls:=.type "list",data:=.seq #[] c₁ }->
   codeAny (model prog w) A (.builtin "list.extend.loop" ⟨[.ref S,.ref s.heap.objs.size,.none],[]⟩) R { s with heap:=h,toks:=tk }:=λh c₁ tk hit hk hS₁=>by
  refine codeAny_extend_loopS W z S nSf .none es.size 0 _ #[] c₁ rfl (Nat.zero_le _) hit hS₁ (ItemsOf.nil _) λs' acc' c' hm hS' hacc=>?_;rw [Moved.eq_with hm]; refine hR s'.heap s'.toks acc' c' (λb o hb e=>hm.heap b o (λhmem=>?_) (hk b o hb e)) hS' hacc;rcases List.mem_cons.mp hmem with e' | hmem
  ·exact hb e'
  ·rw [List.mem_singleton] at hmem; subst hmem; exact absurd (Heap.lt_size e) (Nat.lt_irrefl _)
 unfold Builtin.List.listExtendWith; refine wpAny_bind (wpAny_typeOf (T:="dict") ⟨ob,e1,e2⟩ ?_);simp only [show Builtin.List.listSameRef (.ref S) (.ref d)=false by simp [Builtin.List.listSameRef,nSd],show (Value.type "dict"==Value.type "list")=false by decide,show (Value.type "dict"==Value.type "tuple")=false by decide,Bool.or_false,Bool.false_eq_true,if_false];refine wpAny_bind (zrS nd r ?_);have r₁:RawD (s.heap.push { cls:=.type "dict_keyiterator",data:=.fields #[.ref d,.int 0 0,.int es.size 0,.int ep 0] }) d es ep:=r.at λo e=>Heap.get?_push_of_some _ e
 refine wpAny_bind (wpAny_holding (zrU r₁ ?_));have i₁:(s.heap.push { cls:=.type "dict_keyiterator",data:=.fields #[.ref d,.int 0 0,.int es.size 0,.int ep 0] }).IsKeyIter s.heap.objs.size d 0 es.size ep:=⟨_,Heap.get?_push_size _ rfl,rfl,rfl⟩
 have S₁:=Heap.get?_push_of_some { cls:=.type "dict_keyiterator",data:=.fields #[.ref d,.int 0 0,.int es.size 0,.int ep 0] } hS;refine wpAny_ite_split (λ_=>?_) (λhab=>absurd (by decide) hab);refine wpAny_bind (wpAny_rule (wpAny_bind ?_)); show wpAny _ _ (updateSeq S (·.push .none) >>= λ_=>updateSeq S (·.pop)) _ _ _;refine wpAny_bind (wpAny_updateSeq S₁ rfl ?_);have S₂:=Heap.get?_update_self (Obj.mapSeq (·.push Value.none)) S₁ rfl
 refine wpAny_updateSeq (hz:=by seq_fits) S₂ rfl ?_;have S₃:=Heap.get?_update_self (Obj.mapSeq (·.pop)) S₂ rfl;have oth:∀ b o,b≠S->(s.heap.push { cls:=.type "dict_keyiterator",data:=.fields #[.ref d,.int 0 0,.int es.size 0,.int ep 0] }).get? b=some o->((((s.heap.push { cls:=.type "dict_keyiterator",data:=.fields #[.ref d,.int 0 0,.int es.size 0,.int ep 0] }).update S (Obj.mapSeq (·.push Value.none))).update S (Obj.mapSeq (·.pop)))).get? b=some o:=
  λb o hb e=>(Heap.get?_update_other _ _ (Ne.symm hb)).trans ((Heap.get?_update_other _ _ (Ne.symm hb)).trans e)
 exact wpAny_pure ⟨plainId_quiet F.plain_extend_loop _,key _ _ _ ⟨i₁.at λo e=>oth _ o (Ne.symm nSI) e,r₁.at λo e=>oth _ o (Ne.symm nSd) e⟩ (λb o hb e=>oth b o hb (Heap.get?_push_of_some _ e)) S₃⟩
theorem zrV {Q:Value->Shared->Prop} {d:Addr} {es:Array DictEntry} {ep:Nat} (hh:A.handled=none) (nd:(d==sysModules)=false) (r:RawD s.heap d es ep) (z:es.size<=sizeLine)
  (hQ:∀ h' tk acc' c',(∀ b o,s.heap.get? b=some o->h'.get? b=some o)->h'.get? s.heap.objs.size=some { cls:=.type "list",dict:=none,data:=.seq acc' c',slots:=#[] }->ItemsOf (λi v=>∃ e,es[i]? = some e/\v=e.key) acc' es.size->Q (.ref s.heap.objs.size) { s with heap:=h',toks:=tk }) :
  wpAny (model prog w) A (call (.type "list") [.ref d]) Q E s:=by
 refine callType_codes (Q₁:=λobj s₁=>obj=.ref s.heap.objs.size/\s₁={ s with heap:=s.heap.push { cls:=.type "list",data:=.seq #[] } }) F.called_list (F.typeCall_list_1 _) F.entry_list_init (code_list_new _ ⟨rfl,rfl⟩) λobj s₁ h₁=>?_;obtain ⟨rfl,rfl⟩:=h₁;have hS:(s.heap.push { cls:=.type "list",data:=.seq #[] }).get? s.heap.objs.size=some { cls:=.type "list",data:=.seq #[] }:=by exact Heap.get?_push_size _ rfl
 have r₁:RawD (s.heap.push { cls:=.type "list",data:=.seq #[] }) d es ep:=r.at λo e=>Heap.get?_push_of_some _ e;refine ⟨⟨_,hS,rfl⟩,F.args_list_init_2 _ _,?_⟩;show wpAny _ _ (do let old <- Builtin.List.listItems (.ref s.heap.objs.size); Builtin.List.listUpdate (.ref s.heap.objs.size) (λ_=>#[]); letGo old.toList.reverse; Builtin.List.listExtendWith (.ref s.heap.objs.size) (.ref d) .none) _ _ _;refine wpAny_bind ?_; unfold Builtin.List.listItems; refine wpAny_bind (wpAny_seqItems hS rfl (wpAny_pure ?_))
 show wpAny _ _ (updateSeq s.heap.objs.size (λ_=>#[]) >>= λ_=>letGo (#[]:Array Value).toList.reverse >>= λ_=>Builtin.List.listExtendWith (.ref s.heap.objs.size) (.ref d) .none) _ _ _;refine wpAny_bind (wpAny_updateSeq hS rfl ?_);have S₂:=Heap.get?_update_self (Obj.mapSeq (λ_=>(#[]:Array Value))) hS rfl;have oth:∀ b o,b≠s.heap.objs.size->(s.heap.push { cls:=.type "list",data:=.seq #[] }).get? b=some o->((s.heap.push { cls:=.type "list",data:=.seq #[] }).update s.heap.objs.size (Obj.mapSeq (λ_=>(#[]:Array Value)))).get? b=some o:=λb o hb e=>by exact (Heap.get?_update_other _ _ (Ne.symm hb)).trans e
 have ndI:d≠s.heap.objs.size:=by obtain ⟨ob,e1,_⟩:=r; exact Nat.ne_of_lt (Heap.lt_size e1)
 refine wpAny_bind (wpAny_letGo (zoa (A:=A.in1) hh nd (r₁.at λo e=>oth d o ndI e) z _ _ S₂ λh' tk acc' c' hk hS' hacc=>?_));exact ⟨rfl,hQ h' tk acc' c' (λb o e=>hk b o (Nat.ne_of_lt (Heap.lt_size e)) (oth b o (Nat.ne_of_lt (Heap.lt_size e)) (Heap.get?_push_of_some _ e))) hS' hacc⟩
end
inductive D where
 | non | bl (b:Bool) | int (i:Int) | str (x:Str) | ty (n:String) | adr (a:Addr) | cls (c:Nat)
 | tup (xs:List D) | lst (xs:List D) | kt (xs:List D) | fz (xs:List D) | dK (kvs:List (Key×D)) | dT (kvs:List (List Key×D)) | dZ (kvs:List (List Key×D)) | ins (c:Nat) (fs:List (Str×D)) | exc (c:Nat) (fs:List (Str×D))
instance:Inhabited D:=⟨.non⟩
def xO (a:Addr) (C:Value) (dx:Option Addr):HO:=.ext λh=>∃ oe vs,h.get? a=some oe/\oe.cls=C/\oe.dict=dx/\oe.data=.fields vs
structure Bk where
 K:W.Frag
 cl:Nat->Addr
def KnL (K:W.Frag) (a:Addr) (xs:List V):Prop:=∃ (o:Obj) (its:Array Value) (n:Nat),K.lookup a=some o/\o.cls=.type "list"/\o.dict=none/\o.data=.seq its n/\its.size<=sizeLine/\Vals xs its.toList
def KnT (K:W.Frag) (a:Addr) (xs:List V):Prop:=∃ (o:Obj) (its:Array Value) (n:Nat),K.lookup a=some o/\o.cls=.type "tuple"/\o.data=.seq its n/\its.size<=sizeLine/\Vals xs its.toList
def NdL (B:Bk) (H:Hp) (F:Addr->Prop) (a:Addr) (xs:List V):Prop:=F a/\H a=some (.lst xs)
def NdT (B:Bk) (H:Hp) (F:Addr->Prop) (a:Addr) (xs:List V):Prop:=F a/\H a=some (.tup xs)
def NdF (B:Bk) (H:Hp) (F:Addr->Prop) (a:Addr) (xs:List V):Prop:=(F a/\∃ o,H a=some (.frz o (.lst xs)))\/KnL B.K a xs
theorem NdF.sq {B:Bk} {H:Hp} {F:Addr->Prop} {a:Addr} {xs:List V} (h:NdF B H F a xs):SqL B.K H a xs:=by
 rcases h with ⟨_,o,h⟩ | h
 ·exact .inl (.inr ⟨o,h⟩)
 ·exact .inr h
theorem NdF.keep {B:Bk} {H H':Hp} {F F':Addr->Prop} {a:Addr} {xs:List V} (h:NdF B H F a xs) (k:∀ b o,F b->H b=some o->H' b=some o) (up:∀ b,F b->F' b):NdF B H' F' a xs:=by
 rcases h with ⟨f,o,h⟩ | h
 ·exact .inl ⟨up _ f,o,k _ _ f h⟩
 ·exact .inr h
theorem NdL.sq {B:Bk} {H:Hp} {F:Addr->Prop} {a:Addr} {xs:List V} (h:NdL B H F a xs):SqL B.K H a xs:=.inl (.inl h.2)
theorem NdT.sq {B:Bk} {H:Hp} {F:Addr->Prop} {a:Addr} {xs:List V} (h:NdT B H F a xs):SqT B.K H a xs:=.inl (.inl h.2)
theorem KnT.sq {K:W.Frag} {H:Hp} {a:Addr} {xs:List V} (h:KnT K a xs):SqT K H a xs:=.inr h
mutual
/-- the tree d lies at v,all its nodes within F -/
inductive DA (B:Bk) (H:Hp) (F:Addr->Prop):V->D->Prop
 | non:DA B H F .non .non
 | bl (b:Bool):DA B H F (.bl b) (.bl b)
 | int (i:Int):DA B H F (.int i) (.int i)
 | str (x:Str):DA B H F (.str x) (.str x)
 | ty (n:String):DA B H F (.ty n) (.ty n)
 | adr (a:Addr):DA B H F (.ref a) (.adr a)
 | cls (c:Nat):DA B H F (.ref (B.cl c)) (.cls c)
 | tup {a:Addr} {xs:List V} {ds:List D} (h:NdT B H F a xs) (r:DAs B H F xs ds):DA B H F (.ref a) (.tup ds)
 | lst {a:Addr} {xs:List V} {ds:List D} (h:NdL B H F a xs) (r:DAs B H F xs ds):DA B H F (.ref a) (.lst ds)
 | kt {a:Addr} {xs:List V} {ds:List D} (h:KnT B.K a xs) (r:DAs B H F xs ds):DA B H F (.ref a) (.kt ds)
 | fz {a:Addr} {xs:List V} {ds:List D} (h:NdF B H F a xs) (r:DAs B H F xs ds):DA B H F (.ref a) (.fz ds)
 | dK {a:Addr} {kvs:List (Key×V)} {ds:List (Key×D)} (f:F a) (h:H a=some (.dK kvs)) (e:kvs.map (·.1)=ds.map (·.1)) (r:DAs B H F (kvs.map (·.2)) (ds.map (·.2))):DA B H F (.ref a) (.dK ds)
 | dT {a:Addr} {kvs:List (List Key×V)} {ds:List (List Key×D)} (f:F a) (h:H a=some (.dT kvs)) (e:kvs.map (·.1)=ds.map (·.1)) (r:DAs B H F (kvs.map (·.2)) (ds.map (·.2))):DA B H F (.ref a) (.dT ds)
 | dZ {a:Addr} {o:Obj} {kvs:List (List Key×V)} {ds:List (List Key×D)} (f:F a) (h:H a=some (.frz o (.dT kvs))) (e:kvs.map (·.1)=ds.map (·.1)) (r:DAs B H F (kvs.map (·.2)) (ds.map (·.2))):DA B H F (.ref a) (.dZ ds)
 | ins {a dx:Addr} {c:Nat} {fs:List (Str×V)} {ds:List (Str×D)} (f:F a) (h:H a=some (.ins (B.cl c) dx fs)) (e:fs.map (·.1)=ds.map (·.1)) (r:DAs B H F (fs.map (·.2)) (ds.map (·.2))):DA B H F (.ref a) (.ins c ds)
 | exc {a dx:Addr} {c:Nat} {fs:List (Str×V)} {ds:List (Str×D)} (f:F a) (g:F dx) (h:H a=some (xO a (.ref (B.cl c)) (some dx))) (h2:H dx=some (.xd fs)) (e:fs.map (·.1)=ds.map (·.1)) (r:DAs B H F (fs.map (·.2)) (ds.map (·.2))):DA B H F (.ref a) (.exc c ds)
inductive DAs (B:Bk) (H:Hp) (F:Addr->Prop):List V->List D->Prop
 | nil:DAs B H F [] []
 | cons {x:V} {d:D} {xs:List V} {ds:List D} (h:DA B H F x d) (r:DAs B H F xs ds):DAs B H F (x :: xs) (d :: ds)
end
section
variable {B:Bk} {H H':Hp} {F F':Addr->Prop}
mutual
theorem DA.mono (k:∀ b o,F b->H b=some o->H' b=some o) (up:∀ b,F b->F' b):∀ {v:V} {d:D},DA B H F v d->DA B H' F' v d
 | _,_,.non=>.non
 | _,_,.bl b=>.bl b
 | _,_,.int i=>.int i
 | _,_,.str x=>.str x
 | _,_,.ty n=>.ty n
 | _,_,.adr a=>.adr a
 | _,_,.cls c=>.cls c
 | _,_,.tup h r=>.tup ⟨up _ h.1,k _ _ h.1 h.2⟩ (DAs.mono k up r)
 | _,_,.lst h r=>.lst ⟨up _ h.1,k _ _ h.1 h.2⟩ (DAs.mono k up r)
 | _,_,.kt h r=>.kt h (DAs.mono k up r)
 | _,_,.fz h r=>.fz (h.keep k up) (DAs.mono k up r)
 | _,_,.dK f h e r=>.dK (up _ f) (k _ _ f h) e (DAs.mono k up r)
 | _,_,.dT f h e r=>.dT (up _ f) (k _ _ f h) e (DAs.mono k up r)
 | _,_,.dZ f h e r=>.dZ (up _ f) (k _ _ f h) e (DAs.mono k up r)
 | _,_,.ins f h e r=>.ins (up _ f) (k _ _ f h) e (DAs.mono k up r)
 | _,_,.exc f g h h2 e r=>.exc (up _ f) (up _ g) (k _ _ f h) (k _ _ g h2) e (DAs.mono k up r)
theorem DAs.mono (k:∀ b o,F b->H b=some o->H' b=some o) (up:∀ b,F b->F' b):∀ {vs:List V} {ds:List D},DAs B H F vs ds->DAs B H' F' vs ds
 | _,_,.nil=>.nil
 | _,_,.cons h r=>.cons (DA.mono k up h) (DAs.mono k up r)
end
theorem DAs.length:∀ {vs:List V} {ds:List D},DAs B H F vs ds->vs.length=ds.length
 | _,_,.nil=>rfl
 | _,_,.cons _ r=>by rw [List.length_cons,List.length_cons,DAs.length r]
theorem DAs.get:∀ {vs:List V} {ds:List D} {i:Nat} {d:D},DAs B H F vs ds->ds[i]? = some d->∃ v,vs[i]? = some v/\DA B H F v d
 | _,_,_,_,.nil,e=>by simp at e
 | _,_,0,_,.cons h _,e=>by simp at e; subst e; exact ⟨_,rfl,h⟩
 | _,_,i+1,_,.cons _ r,e=>by simpa using DAs.get (i:=i) r (by simpa using e)
theorem DAs.append:∀ {vs ws:List V} {ds es:List D},DAs B H F vs ds->DAs B H F ws es->DAs B H F (vs++ws) (ds++es)
 | _,_,_,_,.nil,q=>q
 | _,_,_,_,.cons h r,q=>.cons h (DAs.append r q)
theorem DAs.one {vs:List V} {d:D} (h:DAs B H F vs [d]):∃ v,vs=[v]/\DA B H F v d:=by
 cases h with
 | cons h r=>cases r; exact ⟨_,rfl,h⟩
theorem DAs.two {vs:List V} {d e:D} (h:DAs B H F vs [d,e]):∃ v w,vs=[v,w]/\DA B H F v d/\DA B H F w e:=by
 cases h with
 | cons h r=>cases r with
  | cons h' r=>cases r; exact ⟨_,_,rfl,h,h'⟩
theorem DAs.take:∀ {vs:List V} {ds:List D} (n:Nat),DAs B H F vs ds->DAs B H F (vs.take n) (ds.take n)
 | _,_,0,_=>by simpa using DAs.nil
 | _,_,_+1,.nil=>by simpa using DAs.nil
 | _,_,n+1,.cons h r=>by simpa using DAs.cons h (DAs.take n r)
theorem DAs.drop:∀ {vs:List V} {ds:List D} (n:Nat),DAs B H F vs ds->DAs B H F (vs.drop n) (ds.drop n)
 | _,_,0,h=>by simpa using h
 | _,_,_+1,.nil=>by simpa using DAs.nil
 | _,_,n+1,.cons h r=>by simpa using DAs.drop n r
end
theorem znt {B:Bk} {H:Hp} {F:Addr->Prop}:∀ ns:List Int,DAs B H F (ns.map V.int) (ns.map D.int)
 | []=>.nil
 | n :: ns=>.cons (.int n) (znt ns)
inductive SV where
 | sh (d:D) | li (xs:List D) | lk (xs:List D) | ll (xss:List (List D)) | dK (kvs:List (Key×D)) | dT (kvs:List (List Key×D)) | ob (c:Nat) (fs:List (Str×D)) | pu (ns:List Int)
@[simp] def SV.fr:SV->D
 | .sh d=>d
 | .li xs=>.lst xs
 | .lk xs=>.lst xs
 | .ll xss=>.lst (xss.map D.lst)
 | .dK kvs=>.dK kvs
 | .dT kvs=>.dT kvs
 | .ob c fs=>.ins c fs
 | .pu ns=>.lst (ns.map D.int)
inductive LAs (B:Bk) (H:Hp) (F:Addr->Prop):List Addr->List (List D)->Prop
 | nil:LAs B H F [] []
 | cons {a:Addr} {xs:List V} {ds:List D} {as:List Addr} {dss:List (List D)} (h:H a=some (.lst xs)) (q:DAs B H F xs ds) (r:LAs B H F as dss):LAs B H F (a :: as) (ds :: dss)
def VA (B:Bk) (H:Hp) (F:Addr->Prop) (v:V):SV->List Addr->Prop
 | .sh d,o=>o=[]/\DA B H F v d
 | .li ds,o=>∃ a xs,v=.ref a/\o=[a]/\¬ F a/\H a=some (.lst xs)/\DAs B H F xs ds
 | .lk ds,o=>∃ a xs,v=.ref a/\o=[a]/\¬ F a/\H a=some (.lst xs)/\DAs B H F xs ds
 | .ll dss,o=>∃ a as,v=.ref a/\o=a :: as/\(a :: as).Nodup/\(∀ b∈a :: as,¬ F b)/\H a=some (.lst (as.map V.ref))/\LAs B H F as dss
 | .dK ds,o=>∃ a kvs,v=.ref a/\o=[a]/\¬ F a/\H a=some (.dK kvs)/\kvs.map (·.1)=ds.map (·.1)/\DAs B H F (kvs.map (·.2)) (ds.map (·.2))
 | .dT ds,o=>∃ a kvs,v=.ref a/\o=[a]/\¬ F a/\H a=some (.dT kvs)/\kvs.map (·.1)=ds.map (·.1)/\DAs B H F (kvs.map (·.2)) (ds.map (·.2))
 | .ob c ds,o=>∃ a dx fs,v=.ref a/\o=[a]/\¬ F a/\H a=some (.ins (B.cl c) dx fs)/\fs.map (·.1)=ds.map (·.1)/\DAs B H F (fs.map (·.2)) (ds.map (·.2))
 | .pu ns,o=>∃ a,v=.ref a/\o=[a]/\¬ F a/\H a=some (.lst (ns.map V.int))
section
variable {B:Bk} {H H':Hp} {F F':Addr->Prop} {v:V} {x:SV} {o:List Addr}
theorem LAs.mono (k:∀ b u,F b->H b=some u->H' b=some u) (up:∀ b,F b->F' b):∀ {as:List Addr} {dss:List (List D)},(∀ b u,b∈as->H b=some u->H' b=some u)->LAs B H F as dss->LAs B H' F' as dss
 | _,_,_,.nil=>.nil
 | _,_,ko,.cons h q r=>.cons (ko _ _ (by simp) h) (q.mono k up) (LAs.mono k up (λb u hb=>ko b u (by simp [hb])) r)
theorem LAs.alive:∀ {as:List Addr} {dss:List (List D)},LAs B H F as dss->∀ b,b∈as->∃ xs,H b=some (.lst xs)
 | _,_,.nil,b,hb=>by simp at hb
 | _,_,.cons h q r,b,hb=>by
  rcases List.mem_cons.mp hb with rfl | hb
  ·exact ⟨_,h⟩
  ·exact LAs.alive r b hb
theorem LAs.frozen (up:∀ b,F b->F' b):∀ {as:List Addr} {dss:List (List D)},LAs B H F as dss->(∀ b,b∈as->F' b)->DAs B H F' (as.map V.ref) (dss.map D.lst)
 | _,_,.nil,_=>.nil
 | _,_,.cons h q r,yes=>.cons (.lst ⟨yes _ (by simp),h⟩ (q.mono (λ_ _ _ e=>e) up)) (LAs.frozen up r λb hb=>yes b (by simp [hb]))
theorem VA.mono (h:VA B H F v x o) (k:∀ b u,F b->H b=some u->H' b=some u) (ko:∀ b u,b∈o->H b=some u->H' b=some u) (up:∀ b,F b->F' b) (no:∀ b,b∈o->¬ F' b):VA B H' F' v x o:=by
 cases x with
 | sh d=>exact ⟨h.1,h.2.mono k up⟩
 | li ds=>obtain ⟨a,xs,e,rfl,_,hh,r⟩:=h; exact ⟨a,xs,e,rfl,no a (by simp),ko a _ (by simp) hh,r.mono k up⟩
 | lk ds=>obtain ⟨a,xs,e,rfl,_,hh,r⟩:=h; exact ⟨a,xs,e,rfl,no a (by simp),ko a _ (by simp) hh,r.mono k up⟩
 | ll ds=>obtain ⟨a,as,e,rfl,nd,_,hh,r⟩:=h; exact ⟨a,as,e,rfl,nd,no,ko a _ (by simp) hh,r.mono k up λb u hb=>ko b u (by simp [hb])⟩
 | dK ds=>obtain ⟨a,xs,e,rfl,_,hh,q,r⟩:=h; exact ⟨a,xs,e,rfl,no a (by simp),ko a _ (by simp) hh,q,r.mono k up⟩
 | dT ds=>obtain ⟨a,xs,e,rfl,_,hh,q,r⟩:=h; exact ⟨a,xs,e,rfl,no a (by simp),ko a _ (by simp) hh,q,r.mono k up⟩
 | ob c ds=>obtain ⟨a,dx,xs,e,rfl,_,hh,q,r⟩:=h; exact ⟨a,dx,xs,e,rfl,no a (by simp),ko a _ (by simp) hh,q,r.mono k up⟩
 | pu ns=>obtain ⟨a,e,rfl,_,hh⟩:=h; exact ⟨a,e,rfl,no a (by simp),ko a _ (by simp) hh⟩
theorem VA.alive (h:VA B H F v x o) {a:Addr} (e:a∈o):H a≠none/\¬ F a/\∀ xs,H a≠some (.tup xs):=by
 have fin:∀ {u:HO},H a=some u->(∀ xs,u≠.tup xs)->(∀ ob xs,u≠.frz ob (.tup xs))->¬ F a->H a≠none/\¬ F a/\∀ xs,H a≠some (.tup xs):=λ{u} hu n1 n2 nf=>by
  refine ⟨by rw [hu]; simp,nf,λys q=>?_⟩;rw [hu] at q; exact n1 _ (Option.some.inj q)
 cases x with
 | sh d=>rw [h.1] at e; simp at e
 | li ds=>obtain ⟨b,xs,e1,rfl,nf,hh,r⟩:=h; cases List.mem_singleton.mp e; exact fin hh (by simp) (by simp) nf
 | lk ds=>obtain ⟨b,xs,e1,rfl,nf,hh,r⟩:=h; cases List.mem_singleton.mp e; exact fin hh (by simp) (by simp) nf
 | ll ds=>
  obtain ⟨b,as,e1,rfl,nd,nf,hh,r⟩:=h;rcases List.mem_cons.mp e with rfl | e'
  ·exact fin hh (by simp) (by simp) (nf _ e)
  ·obtain ⟨xs,hx⟩:=r.alive _ e';exact fin hx (by simp) (by simp) (nf _ e)
 | dK ds=>obtain ⟨b,xs,e1,rfl,nf,hh,r⟩:=h; cases List.mem_singleton.mp e; exact fin hh (by simp) (by simp) nf
 | dT ds=>obtain ⟨b,xs,e1,rfl,nf,hh,r⟩:=h; cases List.mem_singleton.mp e; exact fin hh (by simp) (by simp) nf
 | ob c ds=>obtain ⟨b,dx,xs,e1,rfl,nf,hh,r⟩:=h; cases List.mem_singleton.mp e; exact fin hh (by simp) (by simp) nf
 | pu ns=>obtain ⟨b,e1,rfl,nf,hh⟩:=h; cases List.mem_singleton.mp e; exact fin hh (by simp) (by simp) nf
theorem VA.frozen (h:VA B H F v x o) (up:∀ b,F b->F' b) (yes:∀ b,b∈o->F' b):DA B H F' v x.fr:=by
 have id':∀ b u,F b->H b=some u->H b=some u:=λ_ _ _ q=>q;cases x with
 | sh d=>exact h.2.mono id' up
 | li ds=>obtain ⟨a,xs,rfl,rfl,_,hh,r⟩:=h; exact .lst ⟨yes a (by simp),hh⟩ (r.mono id' up)
 | lk ds=>obtain ⟨a,xs,rfl,rfl,_,hh,r⟩:=h; exact .lst ⟨yes a (by simp),hh⟩ (r.mono id' up)
 | ll ds=>obtain ⟨a,as,rfl,rfl,_,_,hh,r⟩:=h; exact .lst ⟨yes a (by simp),hh⟩ (r.frozen up λb hb=>yes b (by simp [hb]))
 | dK ds=>obtain ⟨a,xs,rfl,rfl,_,hh,q,r⟩:=h; exact .dK (yes a (by simp)) hh q (r.mono id' up)
 | dT ds=>obtain ⟨a,xs,rfl,rfl,_,hh,q,r⟩:=h; exact .dT (yes a (by simp)) hh q (r.mono id' up)
 | ob c ds=>obtain ⟨a,dx,xs,rfl,rfl,_,hh,q,r⟩:=h; exact .ins (yes a (by simp)) hh q (r.mono id' up)
 | pu ns=>obtain ⟨a,rfl,rfl,_,hh⟩:=h; exact .lst ⟨yes a (by simp),hh⟩ (znt ns)
end
abbrev FSt:=List (Option SV)
structure Rep (B:Bk) (H:Hp) (F:Addr->Prop) (σ:St) (S:FSt) (os:Nat->List Addr):Prop where
 at':∀ i x,S[i]? = some (some x)->∃ v,σ[i]? = some (some v)/\VA B H F v x (os i)
 out:∀ i,(∀ x,S[i]?≠some (some x))->os i=[]
 inj:∀ i j a,a∈os i->a∈os j->i=j
 fd:∀ b,F b->H b≠none
 len:σ.length=S.length
def isT (H:Hp) (b:Addr):Prop:=∃ xs,H b=some (.tup xs)
structure Al (H:Hp) (F:Addr->Prop) (H':Hp) (F':Addr->Prop):Prop where
 same:zA9 H H'
 up:∀ b,F b->F' b
 new:∀ b,F' b->F b\/(H b=none/\H' b≠none)\/isT H b
theorem Al.refl {H:Hp} {F:Addr->Prop}:Al H F H F:=⟨λ_ _ h=>h,λ_ h=>h,λ_ h=>.inl h⟩
theorem Al.trans {H H1 H2:Hp} {F F1 F2:Addr->Prop} (a:Al H F H1 F1) (b:Al H1 F1 H2 F2):Al H F H2 F2:=by
 refine ⟨λx o h=>b.same x o (a.same x o h),λx h=>b.up x (a.up x h),λx h=>?_⟩;have old:∀ {u:HO},H1 x=some u->H2 x≠none:=λ{u} e=>by rw [b.same x u e]; simp
 rcases b.new x h with h | ⟨h,h'⟩ | ⟨ys,h⟩
 ·rcases a.new x h with h | ⟨h,h'⟩ | h
  ·exact .inl h
  ·refine .inr (.inl ⟨h,?_⟩);cases e:H1 x with
   | none=>exact absurd e h'
   | some o=>exact old e
  ·exact .inr (.inr h)
 ·refine .inr (.inl ⟨?_,h'⟩);cases e:H x with
  | none=>rfl
  | some o=>rw [a.same x o e] at h; cases h
 ·cases e:H x with
  | none=>exact .inr (.inl ⟨rfl,old h⟩)
  | some o=>have:=a.same x o e; rw [h] at this; cases this; exact .inr (.inr ⟨ys,e⟩)
def osL (os:Nat->List Addr) (L:List Nat):Addr->Prop:=λb=>∃ i∈L,b∈os i
def orF (F G:Addr->Prop):Addr->Prop:=λb=>F b\/G b
section
variable {B:Bk} {H H':Hp} {F F' G:Addr->Prop} {σ:St} {S:FSt} {os:Nat->List Addr} {L:List Nat}
theorem Rep.own (r:Rep B H F σ S os) {i:Nat} {a:Addr} (e:a∈os i):∃ x v,S[i]? = some (some x)/\σ[i]? = some (some v)/\VA B H F v x (os i):=by
 cases q:S[i]? with
 | none=>rw [r.out i (by rw [q]; simp)] at e; simp at e
 | some z=>cases z with
  | none=>rw [r.out i (by rw [q]; simp)] at e; simp at e
  | some x=>obtain ⟨v,h1,h2⟩:=r.at' i x q; exact ⟨x,v,rfl,h1,h2⟩
theorem Rep.alive (r:Rep B H F σ S os) {i:Nat} {a:Addr} (e:a∈os i):H a≠none/\¬ F a:=by
 obtain ⟨x,v,_,_,h⟩:=r.own e;exact ⟨(h.alive e).1,(h.alive e).2.1⟩
theorem Rep.mono (r:Rep B H F σ S os) (a:Al H F H' F'):Rep B H' F' σ S os:=by
 refine ⟨λi x h=>?_,r.out,r.inj,λb h=>?_,r.len⟩
 ·obtain ⟨v,h1,h2⟩:=r.at' i x h;refine ⟨v,h1,h2.mono (λb u _ q=>a.same b u q) (λb u _ q=>a.same b u q) a.up λb e q=>?_⟩;have al:=r.alive e;rcases a.new b q with q | q | ⟨ys,q⟩
  ·exact al.2 q
  ·exact al.1 q.1
  ·obtain ⟨_,_,_,_,va⟩:=r.own e;exact (va.alive e).2.2 ys q
 ·rcases a.new b h with h | h | ⟨ys,h⟩
  ·cases e:H b with
   | none=>exact absurd e (r.fd b h)
   | some o=>rw [a.same b o e]; simp
  ·exact h.2
  ·rw [a.same b _ h]; simp
theorem Rep.split (r:Rep B H F σ S os) (a:Al H (orF F (osL os L)) H' G):∃ F',Al H F H' F'/\Rep B H' F' σ S os/\(∀ b,G b->orF F' (osL os L) b)/\∀ b,F' b->G b:=by
 have al:Al H F H' (λb=>G b/\∀ i,b∉os i):=by
  refine ⟨a.same,λb h=>⟨a.up b (.inl h),λi e=>(r.alive e).2 h⟩,λb h=>?_⟩;rcases a.new b h.1 with q | q
  ·rcases q with q | ⟨i,_,q⟩
   ·exact .inl q
   ·exact absurd q (h.2 i)
  ·exact .inr q
 refine ⟨_,al,r.mono al,λb h=>?_,λb h=>h.1⟩
 by_cases q:∀ i,b∉os i
 ·exact .inl ⟨h,q⟩
 ·have ⟨i,e⟩:∃ i,b∈os i:=by
   apply Classical.byContradiction;intro n;exact q λi e=>n ⟨i,e⟩
  rcases a.new b h with z | z | ⟨ys,z⟩
  ·rcases z with z | z
   ·exact absurd z (r.alive e).2
   ·exact .inr z
  ·exact absurd z.1 (r.alive e).1
  ·obtain ⟨_,_,_,_,va⟩:=r.own e;exact absurd z ((va.alive e).2.2 ys)
end
def FD (B:Bk) (t:TE) (L:List Nat) (m:FSt->Option D):Prop:=
 ∀ (S:FSt) (σ:St) (H:Hp) (F:Addr->Prop) (os:Nat->List Addr) (Q:VK) (d:D),Rep B H F σ S os->m S=some d->
  (∀ v H' F',Al H F H' F'->Rep B H' F' σ S os->DA B H' (orF F' (osL os L)) v d->Q v H')->t σ H Q
def FE (B:Bk) (t:TE) (L:List Nat) (m:FSt->Option SV):Prop:=
 ∀ (S:FSt) (σ:St) (H:Hp) (F:Addr->Prop) (os:Nat->List Addr) (Q:VK) (x:SV),Rep B H F σ S os->m S=some x->
  (∀ v H' F' o,Al H F H' F'->Rep B H' F' σ S os->VA B H' (orF F' (osL os L)) v x o->(∀ a,a∈o->H a=none)->Q v H')->t σ H Q
def FT (B:Bk) (t:TT) (m:FSt->Option Bool):Prop:=
 ∀ (S:FSt) (σ:St) (H:Hp) (F:Addr->Prop) (os:Nat->List Addr) (Q:Bool->Hp->Prop) (c:Bool),Rep B H F σ S os->m S=some c->
  (∀ H' F',Al H F H' F'->Rep B H' F' σ S os->Q c H')->t σ H Q
def FA (B:Bk) (t:TA) (L:List Nat) (m:FSt->Option (List D)):Prop:=
 ∀ (S:FSt) (σ:St) (H:Hp) (F:Addr->Prop) (os:Nat->List Addr) (Q:List V->Hp->Prop) (ds:List D),Rep B H F σ S os->m S=some ds->
  (∀ vs H' F',Al H F H' F'->Rep B H' F' σ S os->DAs B H' (orF F' (osL os L)) vs ds->Q vs H')->t σ H Q
@[simp] def mV (i:Nat):FSt->Option D:=λS=>(S[i]?.join).map SV.fr
@[simp] def mC (d:D):FSt->Option D:=λ_=>some d
@[simp] def mFr (m:FSt->Option SV):FSt->Option D:=λS=>(m S).map SV.fr
@[simp] def mSh (m:FSt->Option D):FSt->Option SV:=λS=>(m S).map SV.sh
@[simp] def m2 {α:Type} (f:D->D->Option α) (a b:FSt->Option D):FSt->Option α:=λS=>(a S).bind λx=>(b S).bind λy=>f x y
@[simp] def m1 {α β:Type} (f:β->Option α) (a:FSt->Option β):FSt->Option α:=λS=>(a S).bind f
@[simp] def zaj:FSt->Option (List D):=λ_=>some []
@[simp] def zab (a:FSt->Option D) (r:FSt->Option (List D)):FSt->Option (List D):=λS=>(a S).bind λx=>(r S).bind λxs=>some (x :: xs)
@[simp] def asB:D->Option Bool
 | .bl b=>some b
 | _=>none
@[simp] def zae (a:FSt->Option D):FSt->Option Bool:=λS=>(a S).bind asB
@[simp] def zrr (a b:FSt->Option Bool):FSt->Option Bool:=λS=>(a S).bind λc=>if c=true then b S else some false
@[simp] def mOr (a b:FSt->Option Bool):FSt->Option Bool:=λS=>(a S).bind λc=>if c=true then some true else b S
@[simp] def zfW (a:FSt->Option Bool):FSt->Option Bool:=λS=>(a S).map λc=>!c
@[simp] def mBl (a:FSt->Option Bool):FSt->Option D:=λS=>(a S).map D.bl
@[simp] def zjw {α:Type} (c:FSt->Option Bool) (a b:FSt->Option α):FSt->Option α:=λS=>(c S).bind λx=>if x=true then a S else b S
@[simp] def zhu {α:Type} (a b:FSt->Option α):FSt->Option α:=λS=>(a S).orElse λ_=>b S
section
variable {B:Bk} {ta tb tc:TE} {La Lb Lc L:List Nat} {ma mb mc:FSt->Option D} {t u:TT} {mt mu:FSt->Option Bool} {tr:TA} {mr:FSt->Option (List D)} {me me':FSt->Option SV}
theorem ze0 {F F':Addr->Prop} {os:Nat->List Addr} {L L':List Nat} (h1:∀ b,F b->F' b) (h2:∀ i,i∈L->i∈L'):∀ b,orF F (osL os L) b->orF F' (osL os L') b:=λb h=>by
 rcases h with h | ⟨i,h,e⟩
 ·exact .inl (h1 b h)
 ·exact .inr ⟨i,h2 i h,e⟩
theorem DA.later {H H':Hp} {F F':Addr->Prop} {os:Nat->List Addr} {L L':List Nat} {v:V} {d:D} (h:DA B H (orF F (osL os L)) v d) (a:Al H F H' F') (hl:∀ i,i∈L->i∈L'):DA B H' (orF F' (osL os L')) v d:=
 h.mono (λb o _ e=>a.same b o e) (ze0 a.up hl)
theorem FD.fe (h:FD B ta L ma):FE B ta L (mSh ma):=by
 intro S σ H F os Q x r e k;unfold mSh at e;cases q:ma S with
 | none=>rw [q] at e; cases e
 | some d=>
  rw [q] at e; cases e
  exact h S σ H F os Q d r q λv H' F' a r' da=>k v H' F' [] a r' ⟨rfl,da⟩ (by simp)
theorem FE.fd (h:FE B ta L me):FD B ta L (mFr me):=by
 intro S σ H F os Q d r e k;unfold mFr at e;cases q:me S with
 | none=>rw [q] at e; cases e
 | some x=>
  rw [q] at e; cases e
  refine h S σ H F os Q x r q λv H' F' o a r' va fr=>?_;have al:Al H F H' (λb=>F' b\/b∈o):=by
   refine ⟨a.same,λb h=>.inl (a.up b h),λb h=>?_⟩;rcases h with h | h
   ·exact a.new b h
   ·exact .inr (.inl ⟨fr b h,(va.alive h).1⟩)
  refine k v H' _ al (r.mono al) (va.frozen (λb h=>?_) λb h=>.inl (.inr h));rcases h with h | h
  ·exact .inl (.inl h)
  ·exact .inr h
theorem zye (i:Nat):FD B (zrv i) [i] (mV i):=by
 intro S σ H F os Q d r e k;unfold mV at e;cases q:S[i]? with
 | none=>rw [q] at e; cases e
 | some z=>cases z with
  | none=>rw [q] at e; cases e
  | some x=>
   rw [q] at e; cases e
   obtain ⟨v,h1,h2⟩:=r.at' i x q;exact ⟨v,h1,k v H F Al.refl r (h2.frozen (λb h=>.inl h) λb h=>.inr ⟨i,by simp,h⟩)⟩
inductive Sc:V->D->Prop
 | non:Sc .non .non
 | bl (b:Bool):Sc (.bl b) (.bl b)
 | int (i:Int):Sc (.int i) (.int i)
 | str (x:Str):Sc (.str x) (.str x)
 | ty (n:String):Sc (.ty n) (.ty n)
 | adr (a:Addr):Sc (.ref a) (.adr a)
theorem Sc.da {H:Hp} {F:Addr->Prop} {v:V} {d:D} (h:Sc v d):DA B H F v d:=by cases h <;> constructor
theorem zuY {v:V} {d:D} (h:Sc v d):FD B (tC v) [] (mC d):=by
 intro S σ H F os Q d' r e k;cases e
 exact k v H F Al.refl r h.da
theorem zCM {v:V} {d:D} (h:∀ H F,DA B H F v d):FD B (tC v) [] (mC d):=by
 intro S σ H F os Q d' r e k;cases e
 exact k v H F Al.refl r (h _ _)
theorem zps {R:V->V->Hp->VK->Prop} (ha:FD B ta La ma) (hb:FD B tb Lb mb) {S:FSt} {σ:St} {H:Hp} {F:Addr->Prop} {os:Nat->List Addr} {Q:VK} {da db:D} (r:Rep B H F σ S os) (ea:ma S=some da) (eb:mb S=some db)
  (k:∀ v w H' F',Al H F H' F'->Rep B H' F' σ S os->DA B H' (orF F' (osL os (La++Lb))) v da->DA B H' (orF F' (osL os (La++Lb))) w db->R v w H' Q):ta σ H λx H1=>tb σ H1 λy H2=>R x y H2 Q:=by
 refine ha S σ H F os _ da r ea λv H1 F1 a1 r1 d1=>hb S σ H1 F1 os _ db r1 eb λw H2 F2 a2 r2 d2=>?_;exact k v w H2 F2 (a1.trans a2) r2 (d1.later a2 λi h=>List.mem_append_left _ h) (d2.later Al.refl λi h=>List.mem_append_right _ h)
def OpD (B:Bk) (r:R2) (f:D->D->Option D):Prop:=∀ (H:Hp) (G:Addr->Prop) (x y:V) (dx dy z:D) (Q:VK),DA B H G x dx->DA B H G y dy->f dx dy=some z->
 (∀ v H' G',Al H G H' G'->DA B H' G' v z->Q v H')->r x y H Q
def OpE (B:Bk) (r:R2) (f:D->D->Option SV):Prop:=∀ (H:Hp) (G:Addr->Prop) (x y:V) (dx dy:D) (z:SV) (Q:VK),(∀ b,G b->H b≠none)->DA B H G x dx->DA B H G y dy->f dx dy=some z->
 (∀ v H' G' o,Al H G H' G'->VA B H' G' v z o->(∀ a,a∈o->H a=none)->Q v H')->r x y H Q
theorem Rep.gd {H:Hp} {F:Addr->Prop} {σ:St} {S:FSt} {os:Nat->List Addr} (r:Rep B H F σ S os) (L:List Nat):∀ b,orF F (osL os L) b->H b≠none:=λb h=>by
 rcases h with h | ⟨i,_,e⟩
 ·exact r.fd b h
 ·exact (r.alive e).1
theorem zjx {α β γ:Type} {a:Option α} {b:Option β} {f:α->β->Option γ} {z:γ} (h:(a.bind λx=>b.bind λy=>f x y)=some z):∃ x y,a=some x/\b=some y/\f x y=some z:=by
 cases a with
 | none=>cases h
 | some x=>cases b with
  | none=>cases h
  | some y=>exact ⟨x,y,rfl,rfl,h⟩
theorem zbH {α γ:Type} {a:Option α} {f:α->Option γ} {z:γ} (h:a.bind f=some z):∃ x,a=some x/\f x=some z:=by
 cases a with
 | none=>cases h
 | some x=>exact ⟨x,rfl,h⟩
theorem zrW {r:R2} {f:D->D->Option D} (ho:OpD B r f) (ha:FD B ta La ma) (hb:FD B tb Lb mb):FD B (tOp r ta tb) (La++Lb) (m2 f ma mb):=by
 intro S σ H F os Q z rp e k;obtain ⟨da,db,ea,eb,ef⟩:=zjx e;refine zps (R:=r) ha hb rp ea eb λv w H' F' a r' d1 d2=>?_;refine ho H' _ v w da db z Q d1 d2 ef λu H2 G2 a2 dz=>?_;obtain ⟨F2,al,r2,q,_⟩:=r'.split a2;exact k u H2 F2 (a.trans al) r2 (dz.mono (λ_ _ _ e=>e) q)
theorem VA.sub {H:Hp} {G F:Addr->Prop} {v:V} {x:SV} {o:List Addr} (h:VA B H G v x o) (q:∀ b,G b->F b) (no:∀ b,b∈o->¬ F b):VA B H F v x o:=h.mono (λ_ _ _ e=>e) (λ_ _ _ e=>e) q no
theorem zfX {H H':Hp} {F G:Addr->Prop} {σ:St} {S:FSt} {os:Nat->List Addr} {L:List Nat} {v:V} {z:SV} {o:List Addr} (r:Rep B H F σ S os) (a:Al H (orF F (osL os L)) H' G) (va:VA B H' G v z o) (fr:∀ b,b∈o->H b=none) :
  ∃ F',Al H F H' F'/\Rep B H' F' σ S os/\VA B H' (orF F' (osL os L)) v z o:=by
 obtain ⟨F2,al,r2,q,q'⟩:=r.split a;refine ⟨F2,al,r2,va.sub q λb e z=>?_⟩;rcases z with z | ⟨i,_,z⟩
 ·exact (va.alive e).2.1 (q' b z)
 ·exact (r.alive z).1 (fr b e)
theorem zyf {r:R2} {f:D->D->Option SV} (ho:OpE B r f) (ha:FD B ta La ma) (hb:FD B tb Lb mb):FE B (tOp r ta tb) (La++Lb) (m2 f ma mb):=by
 intro S σ H F os Q z rp e k;obtain ⟨da,db,ea,eb,ef⟩:=zjx e;refine zps (R:=r) ha hb rp ea eb λv w H' F' a r' d1 d2=>?_;refine ho H' _ v w da db z Q (r'.gd _) d1 d2 ef λu H2 G2 o a2 va fr=>?_;obtain ⟨F2,al,r2,va2⟩:=zfX r' a2 va fr;refine k u H2 F2 o (a.trans al) r2 va2 λb e=>?_;cases q:H b with
 | none=>rfl
 | some w=>have:=fr b e; rw [a.same b w q] at this; cases this
theorem zuZ (h:FD B ta L ma):FT B (zuq ta) (zae ma):=by
 intro S σ H F os Q c rp e k;obtain ⟨d,ed,ef⟩:=zbH e;refine h S σ H F os _ d rp ed λv H' F' a r' d1=>?_;cases d with
 | bl b=>cases ef; cases d1; exact ⟨_,rfl,k H' F' a r'⟩
 | _=>cases ef
theorem zyg (h:FD B ta L ma):FT B (tB ta) (zae ma):=zuZ h
theorem zyh (h1:FT B t mt) (h2:FT B u mu):FT B (zue t u) (zrr mt mu):=by
 intro S σ H F os Q c rp e k;obtain ⟨b,eb,ef⟩:=zbH e;refine h1 S σ H F os _ b rp eb λH' F' a r'=>?_;cases b with
 | true=>rw [if_pos rfl] at ef ⊢; exact h2 S σ H' F' os Q c r' ef λH2 F2 a2 r2=>k H2 F2 (a.trans a2) r2
 | false=>rw [if_neg Bool.false_ne_true] at ef ⊢; cases ef; exact k H' F' a r'
theorem zBf (h1:FT B t mt) (h2:FT B u mu):FT B (tOr t u) (mOr mt mu):=by
 intro S σ H F os Q c rp e k;obtain ⟨b,eb,ef⟩:=zbH e;refine h1 S σ H F os _ b rp eb λH' F' a r'=>?_;cases b with
 | true=>rw [if_pos rfl] at ef ⊢; cases ef; exact k H' F' a r'
 | false=>rw [if_neg Bool.false_ne_true] at ef ⊢; exact h2 S σ H' F' os Q c r' ef λH2 F2 a2 r2=>k H2 F2 (a.trans a2) r2
theorem zyi (h1:FT B t mt):FT B (zta t) (zfW mt):=by
 intro S σ H F os Q c rp e k;unfold zfW at e;cases q:mt S with
 | none=>rw [q] at e; cases e
 | some b=>rw [q] at e; cases e; exact h1 S σ H F os _ b rp q λH' F' a r'=>k H' F' a r'
theorem zu0 (ha:FD B ta La ma) (hb:FD B tb Lb mb):FD B (zxp ta tb) (La++Lb) (zjw (zae ma) mb (mC (.bl false))):=by
 intro S σ H F os Q z rp e k;obtain ⟨c,ec,ef⟩:=zbH e;obtain ⟨d,ed,ec⟩:=zbH ec;refine ha S σ H F os _ d rp ed λv H' F' a r' d1=>?_;cases d with
 | bl b=>
  cases ec; cases d1
  refine ⟨_,rfl,?_⟩;cases c with
  | true=>rw [if_pos rfl] at ef ⊢; exact hb S σ H' F' os Q z r' ef λv H2 F2 a2 r2 d2=>k v H2 F2 (a.trans a2) r2 (d2.later Al.refl λi h=>List.mem_append_right _ h)
  | false=>rw [if_neg Bool.false_ne_true] at ef ⊢; cases ef; exact k _ H' F' a r' (.bl false)
 | _=>cases ec
theorem zyj (ha:FD B ta La ma) (hb:FD B tb Lb mb):FD B (zCq ta tb) (La++Lb) (zjw (zae ma) (mC (.bl true)) mb):=by
 intro S σ H F os Q z rp e k;obtain ⟨c,ec,ef⟩:=zbH e;obtain ⟨d,ed,ec⟩:=zbH ec;refine ha S σ H F os _ d rp ed λv H' F' a r' d1=>?_;cases d with
 | bl b=>
  cases ec; cases d1
  refine ⟨_,rfl,?_⟩;cases c with
  | false=>rw [if_neg Bool.false_ne_true] at ef ⊢; exact hb S σ H' F' os Q z r' ef λv H2 F2 a2 r2 d2=>k v H2 F2 (a.trans a2) r2 (d2.later Al.refl λi h=>List.mem_append_right _ h)
  | true=>rw [if_pos rfl] at ef ⊢; cases ef; exact k _ H' F' a r' (.bl true)
 | _=>cases ec
theorem zBg {mx my:FSt->Option SV} (hc:FT B t mt) (ha:FE B ta La mx) (hb:FE B tb Lb my):FE B (tIf t ta tb) (La++Lb) (zjw mt mx my):=by
 intro S σ H F os Q z rp e k;obtain ⟨c,ec,ef⟩:=zbH e;refine hc S σ H F os _ c rp ec λH' F' a r'=>?_;have lift:∀ {L:List Nat},(∀ i,i∈L->i∈La++Lb)->∀ v H2 F2 o,Al H' F' H2 F2->Rep B H2 F2 σ S os->VA B H2 (orF F2 (osL os L)) v z o->(∀ a,a∈o->H' a=none)->Q v H2:=λhl v H2 F2 o a2 r2 va fr=>by
  refine k v H2 F2 o (a.trans a2) r2 (va.sub (ze0 (λ_ h=>h) hl) λb e q=>?_) λb e=>?_
  ·rcases q with q | ⟨i,_,q⟩
   ·exact (va.alive e).2.1 (.inl q)
   ·exact (r'.alive q).1 (fr b e)
  ·cases q:H b with
   | none=>rfl
   | some w=>have:=fr b e; rw [a.same b w q] at this; cases this
 cases c with
 | true=>rw [if_pos rfl] at ef ⊢; exact ha S σ H' F' os Q z r' ef (lift λi h=>List.mem_append_left _ h)
 | false=>rw [if_neg Bool.false_ne_true] at ef ⊢; exact hb S σ H' F' os Q z r' ef (lift λi h=>List.mem_append_right _ h)
theorem zpt:FA B ztc [] zaj:=by
 intro S σ H F os Q ds rp e k;cases e
 exact k [] H F Al.refl rp .nil
theorem DAs.later {H H':Hp} {F F':Addr->Prop} {os:Nat->List Addr} {L L':List Nat} {v:List V} {d:List D} (h:DAs B H (orF F (osL os L)) v d) (a:Al H F H' F') (hl:∀ i,i∈L->i∈L'):DAs B H' (orF F' (osL os L')) v d:=
 h.mono (λb o _ e=>a.same b o e) (ze0 a.up hl)
theorem zu1 (ha:FD B ta La ma) (hr:FA B tr Lb mr):FA B (zn4 ta tr) (La++Lb) (zab ma mr):=by
 intro S σ H F os Q ds rp e k;obtain ⟨d,es,ed,ee,ef⟩:=zjx e;cases ef
 refine ha S σ H F os _ d rp ed λv H1 F1 a1 r1 d1=>hr S σ H1 F1 os _ es r1 ee λvs H2 F2 a2 r2 d2=>?_;exact k (v :: vs) H2 F2 (a1.trans a2) r2 (.cons (d1.later a2 λi h=>List.mem_append_left _ h) (d2.later Al.refl λi h=>List.mem_append_right _ h))
theorem zfY {H:Hp} {p:Addr} {u:HO} (h:H p=none):zA9 H (upd H p u):=λb o e=>by rw [zas (zbF e h)]; exact e
theorem ziE {H:Hp} {F:Addr->Prop} {p:Addr} {u:HO} (h:H p=none):Al H F (upd H p u) F:=⟨zfY h,λ_ q=>q,λ_ q=>.inl q⟩
theorem zd5 {H:Hp} {F:Addr->Prop} {p:Addr} {u:HO} (h:H p=none):Al H F (upd H p u) (λb=>F b\/b=p):=by
 refine ⟨zfY h,λ_ q=>.inl q,λb q=>?_⟩;rcases q with q | rfl
 ·exact .inl q
 ·exact .inr (.inl ⟨h,by rw [zaB]; simp⟩)
@[simp] def zda (m:FSt->Option (List D)):FSt->Option SV:=λS=>(m S).bind λds=>if ds.length<=sizeLine then some (.li ds) else none
@[simp] def zw6 (m:FSt->Option (List D)):FSt->Option D:=λS=>(m S).bind λds=>if ds.length<=sizeLine then some (.tup ds) else none
theorem zyk (hr:FA B tr L mr):FE B (zCv tr) L (zda mr):=by
 intro S σ H F os Q x rp e k;obtain ⟨ds,ed,ef⟩:=zbH e
 by_cases hl:ds.length<=sizeLine
 ·rw [if_pos hl] at ef; cases ef
  refine hr S σ H F os _ ds rp ed λvs H1 F1 a1 r1 d1=>⟨by rw [d1.length]; exact hl,λp hp=>?_⟩
  have al:=ziE (F:=F1) (u:=.lst vs) hp;refine k (.ref p) _ F1 [p] (a1.trans al) (r1.mono al) ⟨p,vs,rfl,rfl,λq=>?_,zaB,d1.mono (λb o _ e=>al.same b o e) λ_ h=>h⟩ λa e=>?_
  ·exact r1.gd L p q hp
  ·obtain rfl:=List.mem_singleton.mp e;cases q:H a with
   | none=>rfl
   | some w=>have:=a1.same a w q; rw [hp] at this; cases this
 ·rw [if_neg hl] at ef; cases ef
theorem zyl (hr:FA B tr L mr):FD B (zCu tr) L (zw6 mr):=by
 intro S σ H F os Q x rp e k;obtain ⟨ds,ed,ef⟩:=zbH e
 by_cases hl:ds.length<=sizeLine
 ·rw [if_pos hl] at ef; cases ef
  refine hr S σ H F os _ ds rp ed λvs H1 F1 a1 r1 d1=>⟨by rw [d1.length]; exact hl,λp hp=>?_⟩
  have al:=zd5 (F:=F1) (u:=.tup vs) hp;refine k (.ref p) _ _ (a1.trans al) (r1.mono al) (.tup ⟨.inl (.inr rfl),zaB⟩ (d1.mono (λb o _ e=>al.same b o e) λb h=>?_));rcases h with h | h
  ·exact .inl (.inl h)
  ·exact .inr h
 ·rw [if_neg hl] at ef; cases ef
def zf4 (B:Bk) (r:List V->Hp->VK->Prop) (f:List D->Option SV):Prop:=∀ (H:Hp) (G:Addr->Prop) (vs:List V) (ds:List D) (z:SV) (Q:VK),(∀ b,G b->H b≠none)->DAs B H G vs ds->f ds=some z->
 (∀ v H' G' o,Al H G H' G'->VA B H' G' v z o->(∀ a,a∈o->H a=none)->Q v H')->r vs H Q
theorem zkA {r:List V->Hp->VK->Prop} {f:List D->Option SV} {tx:TE} (htx:∀ σ H Q,(tr σ H λvs H1=>r vs H1 Q)->tx σ H Q) (ho:zf4 B r f) (hr:FA B tr L mr):FE B tx L (m1 f mr):=by
 intro S σ H F os Q z rp e k;obtain ⟨ds,ed,ef⟩:=zbH e;refine htx σ H Q (hr S σ H F os _ ds rp ed λvs H1 F1 a1 r1 d1=>ho H1 _ vs ds z Q (r1.gd _) d1 ef λu H2 G2 o a2 va fr=>?_);obtain ⟨F2,al,r2,va2⟩:=zfX r1 a2 va fr;refine k u H2 F2 o (a1.trans al) r2 va2 λb e=>?_;cases q:H b with
 | none=>rfl
 | some w=>have:=fr b e; rw [a1.same b w q] at this; cases this
theorem zu2 {r:List V->Hp->VK->Prop} {f:List D->Option SV} (ho:zf4 B r f) (hr:FA B tr L mr):FE B (tCB r tr) L (m1 f mr):=zkA (λ_ _ _ h=>h) ho hr
def SpF (B:Bk) (n:Nat) (f:List D->Option SV):Sp:=λvs H Q _=>vs.length=n/\∃ (G:Addr->Prop) (ds:List D) (z:SV),(∀ b,G b->H b≠none)/\DAs B H G vs ds/\f ds=some z/\
 ∀ v H' G' o,Al H G H' G'->VA B H' G' v z o->(∀ a,a∈o->H a=none)->Q v H'
theorem zpu {n:Nat} {f:List D->Option SV} {E:XK} (hf:∀ ds z,f ds=some z->ds.length=n) (hr:FA B tr L mr):FE B (zo0 (SpF B n f) [] E tr) L (m1 f mr):=by
 refine zkA (r:=λvs H Q=>SpF B n f (vs++[]) H Q E) (λ_ _ _ h=>h) ?_ hr;intro H G vs ds z Q hg hd hz k;rw [List.append_nil];exact ⟨by rw [hd.length]; exact hf _ _ hz,G,ds,z,hg,hd,hz,k⟩
@[simp] def zbZ (c:Nat) (mn:Str) (f:List D->Option SV) (a:FSt->Option D) (r:FSt->Option (List D)):FSt->Option SV:=λS=>(a S).bind λx=>(r S).bind λds=>match x with
 | .ins k fs=>if k=c then (if (fs.lookup mn).isNone then f (.ins k fs :: ds) else none) else none
 | _=>none
theorem zhv {fs:List (Str×V)} {ds:List (Str×D)} {H:Hp} {G:Addr->Prop} (e:fs.map (·.1)=ds.map (·.1)) (r:DAs B H G (fs.map (·.2)) (ds.map (·.2))) (f:Str) :
  (∀ d,ds.lookup f=some d->∃ v,fs.lookup f=some v/\DA B H G v d)/\(ds.lookup f=none->fs.lookup f=none):=by
 induction fs generalizing ds with
 | nil=>cases ds with
  | nil=>simp [List.lookup]
  | cons d ds=>simp at e
 | cons p fs ih=>cases ds with
  | nil=>simp at e
  | cons q ds=>
   obtain ⟨p1,p2⟩:=p;obtain ⟨q1,q2⟩:=q;simp only [List.map_cons,List.cons.injEq] at e;simp only [List.map_cons] at r;cases r with
   | cons h r=>
    obtain ⟨e1,e2⟩:=e;subst e1;have:=ih e2 r
    by_cases hq:(f==p1)=true
    ·simp only [List.lookup,hq];exact ⟨λd z=>by cases z; exact ⟨p2,rfl,h⟩,λz=>by cases z⟩
    ·have hq':(f==p1)=false:=by simpa using hq
     simp only [List.lookup,hq'];exact this
theorem zu3 {c n:Nat} {mn:Str} {f:List D->Option SV} {E:XK} {C:Addr} (hC:B.cl c=C) (hf:∀ ds z,f ds=some z->ds.length=n) (ha:FD B ta La ma) (hr:FA B tr Lb mr):FE B (zxJ C mn (SpF B n f) [] E ta tr) (La++Lb) (zbZ c mn f ma mr):=by
 subst hC;intro S σ H F os Q z rp e k;obtain ⟨d,ds,ed,er,ef⟩:=zjx e;cases d with
 | ins kc fs=>
  by_cases hk:kc=c
  ·subst hk;simp only [if_pos rfl] at ef;cases hl:fs.lookup mn with
   | some _=>rw [hl] at ef; cases ef
   | none=>
    rw [hl] at ef;have ef:f (.ins kc fs :: ds)=some z:=ef;refine ha S σ H F os _ _ rp ed λv H1 F1 a1 r1 d1=>?_;cases d1 with
    | @ins a dx c' vs ds' fa hh he rr=>
     refine ⟨a,dx,vs,rfl,hh,(zhv he rr mn).2 hl,hr S σ H1 F1 os _ ds r1 er λws H2 F2 a2 r2 d2=>?_⟩;have da:DA B H1 (orF F1 (osL os La)) (.ref a) (.ins kc fs):=.ins fa hh he rr;have das:DAs B H2 (orF F2 (osL os (La++Lb))) (.ref a :: (ws++[])) (.ins kc fs :: ds):=by
      rw [List.append_nil];exact .cons (da.later a2 λi h=>List.mem_append_left _ h) (d2.later Al.refl λi h=>List.mem_append_right _ h)
     refine ⟨by rw [das.length]; exact hf _ _ ef,_,_,z,r2.gd _,das,ef,λu H3 G3 o a3 va fr=>?_⟩;obtain ⟨F3,al,r3,va2⟩:=zfX r2 a3 va fr;refine k u H3 F3 o ((a1.trans a2).trans al) r3 va2 λb e=>?_;cases q:H b with
     | none=>rfl
     | some w=>have:=fr b e; rw [(a1.trans a2).same b w q] at this; cases this
  ·simp only [if_neg hk] at ef; cases ef
 | _=>cases ef
theorem FE.or {me me':FSt->Option SV} {La Lb:List Nat} (h:FE B ta La me) (h':FE B tb Lb me'):FE B (λσ H Q=>ta σ H Q\/tb σ H Q) (La++Lb) (zhu me me'):=by
 intro S σ H F os Q z rp e k;have lift:∀ {L:List Nat},(∀ i,i∈L->i∈La++Lb)->∀ v H2 F2 o,Al H F H2 F2->Rep B H2 F2 σ S os->VA B H2 (orF F2 (osL os L)) v z o->(∀ a,a∈o->H a=none)->Q v H2:=λhl v H2 F2 o a2 r2 va fr=>by
  refine k v H2 F2 o a2 r2 (va.sub (ze0 (λ_ h=>h) hl) λb e q=>?_) fr;rcases q with q | ⟨i,_,q⟩
  ·exact (va.alive e).2.1 (.inl q)
  ·exact (rp.alive q).1 (fr b e)
 unfold zhu at e;cases q:me S with
 | some w=>simp only [q,Option.orElse] at e; cases e; exact .inl (h S σ H F os Q _ rp q (lift λi h=>List.mem_append_left _ h))
 | none=>simp only [q,Option.orElse] at e; exact .inr (h' S σ H F os Q z rp e (lift λi h=>List.mem_append_right _ h))
@[simp] def zdu (cs:List Nat) (f:Str):D->Option D
 | .ins c fs=>if c∈cs then fs.lookup f else none
 | _=>none
end
mutual
@[simp] def D.plain:D->Bool
 | .tup xs=>D.plains xs
 | .kt xs=>D.plains xs
 | .fz _=>false
 | .lst _=>false
 | .dK _=>false
 | .dT _=>false
 | .dZ _=>false
 | .ins _ _=>false
 | .exc _ _=>false
 | _=>true
@[simp] def D.plains:List D->Bool
 | []=>true
 | d :: r=>d.plain&&D.plains r
end
@[simp] def SV.plain:SV->Bool
 | .sh d=>d.plain
 | .li xs=>D.plains xs
 | .lk _=>false
 | .ll xss=>xss.all D.plains
 | .dK kvs=>D.plains (kvs.map (·.2))
 | .dT kvs=>D.plains (kvs.map (·.2))
 | .ob _ fs=>D.plains (fs.map (·.2))
 | .pu _=>false
section
variable {B:Bk} {H H':Hp} {F F':Addr->Prop} {σ:St} {S:FSt} {os:Nat->List Addr} {L:List Nat}
mutual
theorem DA.toF (r:Rep B H F σ S os):∀ {v:V} {d:D},DA B H (orF F (osL os L)) v d->d.plain=true->DA B H F v d
 | _,_,.non,_=>.non
 | _,_,.bl b,_=>.bl b
 | _,_,.int i,_=>.int i
 | _,_,.str x,_=>.str x
 | _,_,.ty n,_=>.ty n
 | _,_,.adr a,_=>.adr a
 | _,_,.cls c,_=>.cls c
 | _,_,.tup h q,p=>by
  refine .tup ?_ (DAs.toF r q (by simpa [D.plain] using p));obtain ⟨h | ⟨i,_,e⟩,h'⟩:=h
  ·exact ⟨h,h'⟩
  ·obtain ⟨x,v,_,_,va⟩:=r.own e;exact absurd h' ((va.alive e).2.2 _)
 | _,_,.kt h q,p=>.kt h (DAs.toF r q (by simpa [D.plain] using p))
 | _,_,.fz _ _,p=>by simp [D.plain] at p
 | _,_,.lst _ _,p=>by simp [D.plain] at p
 | _,_,.dK _ _ _ _,p=>by simp [D.plain] at p
 | _,_,.dT _ _ _ _,p=>by simp [D.plain] at p
 | _,_,.dZ _ _ _ _,p=>by simp [D.plain] at p
 | _,_,.ins _ _ _ _,p=>by simp [D.plain] at p
 | _,_,.exc _ _ _ _ _ _,p=>by simp [D.plain] at p
theorem DAs.toF (r:Rep B H F σ S os):∀ {vs:List V} {ds:List D},DAs B H (orF F (osL os L)) vs ds->D.plains ds=true->DAs B H F vs ds
 | _,_,.nil,_=>.nil
 | _,_,.cons h q,p=>by
  simp only [D.plains,Bool.and_eq_true] at p;exact .cons (DA.toF r h p.1) (DAs.toF r q p.2)
end
theorem VA.toF (r:Rep B H F σ S os) {v:V} {x:SV} {o:List Addr} (h:VA B H (orF F (osL os L)) v x o) (p:x.plain=true):VA B H F v x o:=by
 cases x with
 | sh d=>exact ⟨h.1,h.2.toF r p⟩
 | li ds=>obtain ⟨a,xs,e,eo,nf,hh,q⟩:=h; exact ⟨a,xs,e,eo,λz=>nf (.inl z),hh,q.toF r p⟩
 | lk ds=>cases p
 | ll ds=>
  obtain ⟨a,as,e,eo,nd,nf,hh,q⟩:=h;refine ⟨a,as,e,eo,nd,λb hb z=>nf b hb (.inl z),hh,?_⟩;clear nd nf hh e eo
  induction q with
  | nil=>exact .nil
  | cons h q _ ih=>
   simp only [SV.plain,List.all_cons,Bool.and_eq_true] at p;exact .cons h (q.toF r p.1) (ih p.2)
 | dK ds=>obtain ⟨a,xs,e,eo,nf,hh,e2,q⟩:=h; exact ⟨a,xs,e,eo,λz=>nf (.inl z),hh,e2,q.toF r p⟩
 | dT ds=>obtain ⟨a,xs,e,eo,nf,hh,e2,q⟩:=h; exact ⟨a,xs,e,eo,λz=>nf (.inl z),hh,e2,q.toF r p⟩
 | ob c ds=>obtain ⟨a,dx,xs,e,eo,nf,hh,e2,q⟩:=h; exact ⟨a,dx,xs,e,eo,λz=>nf (.inl z),hh,e2,q.toF r p⟩
 | pu ns=>cases p
end
@[simp] def zym (S:FSt) (i:Nat):FSt:=match S[i]? with
 | some (some (.sh _))=>S
 | some (some x)=>S.set i (some (.sh x.fr))
 | _=>S
@[simp] def frzs:List Nat->FSt->FSt
 | [],S=>S
 | i :: L,S=>frzs L (zym S i)
theorem zrX (S:FSt) (i j:Nat):(zym S i)[j]? = if j=i then (S[j]?).map (Option.map λx=>.sh x.fr) else S[j]?:=by
 unfold zym;split
 ·rename_i d e
  by_cases h:j=i
  ·subst h; rw [if_pos rfl,e]; rfl
  ·rw [if_neg h]
 ·rename_i x _ e
  by_cases h:j=i
  ·subst h;rw [if_pos rfl,e];have:j < S.length:=(List.getElem?_eq_some_iff.mp e).1;simp [List.getElem?_set,this]
  ·rw [if_neg h];simp [List.getElem?_set,Ne.symm h]
 ·rename_i h1 h2
  by_cases h:j=i
  ·subst h;rw [if_pos rfl];cases q:S[j]? with
   | none=>rfl
   | some z=>cases z with
    | none=>rfl
    | some x=>exact absurd q (h2 x)
  ·rw [if_neg h]
theorem zbQ:∀ (L:List Nat) (S:FSt) (j:Nat),(frzs L S)[j]? = if j∈L then (S[j]?).map (Option.map λx=>.sh x.fr) else S[j]?
 | [],S,j=>by simp [frzs]
 | i :: L,S,j=>by
  rw [frzs,zbQ L,zrX]
  by_cases h:j=i
  ·subst h;simp only [if_pos rfl,List.mem_cons,true_or,if_true];split
   ·cases S[j]? with
    | none=>rfl
    | some z=>cases z <;> rfl
   ·rfl
  ·simp [h]
theorem zrY (S:FSt) (i:Nat):(zym S i).length=S.length:=by
 unfold zym;split <;> simp
theorem zkB:∀ (L:List Nat) (S:FSt),(frzs L S).length=S.length
 | [],_=>rfl
 | i :: L,S=>by rw [frzs,zkB L,zrY]
def lkO:Option SV->Bool
 | some (.lk _)=>true
 | some (.ob _ _)=>true
 | some (.pu _)=>true
 | _=>false
@[simp] def zeP (S:FSt) (i:Nat):Bool:=lkO (S[i]?.join)
@[simp] theorem zAG:lkO none=false:=rfl
@[simp] theorem zCN (d:D):lkO (some (.sh d))=false:=rfl
@[simp] theorem zCO (d:List D):lkO (some (.li d))=false:=rfl
@[simp] theorem zCP (d:List (List D)):lkO (some (.ll d))=false:=rfl
@[simp] theorem zCQ (d:List (Key×D)):lkO (some (.dK d))=false:=rfl
@[simp] theorem zCR (d:List (List Key×D)):lkO (some (.dT d))=false:=rfl
@[simp] theorem zCS (d:List D):lkO (some (.lk d))=true:=rfl
@[simp] theorem zCT (c:Nat) (d:List (Str×D)):lkO (some (.ob c d))=true:=rfl
@[simp] theorem zCU (d:List Int):lkO (some (.pu d))=true:=rfl
@[simp] theorem zBh (x:Option D):lkO (x.map SV.sh)=false:=by cases x <;> rfl
section
variable {B:Bk} {H H':Hp} {F F':Addr->Prop} {σ:St} {S:FSt} {os:Nat->List Addr} {L:List Nat}
theorem Rep.frz (r:Rep B H F σ S os) (L:List Nat):Rep B H (orF F (osL os L)) σ (frzs L S) (λj=>if j∈L then [] else os j):=by
 refine ⟨λi x h=>?_,λi h=>?_,λi j a e1 e2=>?_,r.gd L,by rw [zkB]; exact r.len⟩
 ·rw [zbQ] at h
  by_cases q:i∈L
  ·rw [if_pos q] at h;rw [if_pos q];cases e:S[i]? with
   | none=>rw [e] at h; cases h
   | some z=>cases z with
    | none=>rw [e] at h; cases h
    | some y=>
     rw [e] at h; cases h
     obtain ⟨v,h1,h2⟩:=r.at' i y e;exact ⟨v,h1,rfl,h2.frozen (λb z=>.inl z) λb z=>.inr ⟨i,q,z⟩⟩
  ·rw [if_neg q] at h;rw [if_neg q];obtain ⟨v,h1,h2⟩:=r.at' i x h;refine ⟨v,h1,h2.sub (λb z=>.inl z) λb e z=>?_⟩;rcases z with z | ⟨j,hj,z⟩
   ·exact (r.alive e).2 z
   ·exact q (r.inj i j b e z▸hj)
 ·show (if i∈L then [] else os i)=[]
  by_cases q:i∈L
  ·rw [if_pos q]
  ·rw [if_neg q];refine r.out i λx e=>h x ?_;rw [zbQ,if_neg q]; exact e
 ·have e1:a∈(if i∈L then [] else os i):=e1;have e2:a∈(if j∈L then [] else os j):=e2;split at e1
  ·simp at e1
  ·split at e2
   ·simp at e2
   ·exact r.inj i j a e1 e2
theorem Rep.set (r:Rep B H F σ S os) {i:Nat} {v:V} {x:SV} {o:List Addr} (va:VA B H F v x o) (no:∀ b,b∈o->∀ j,j≠i->b∉os j) (hi:i < S.length) :
  Rep B H F (σ.set i (some v)) (S.set i (some x)) (λj=>if j=i then o else os j):=by
 refine ⟨λj y h=>?_,λj h=>?_,λj k a e1 e2=>?_,r.fd,by simp [r.len]⟩
 ·by_cases q:j=i
  ·subst q;simp only [List.getElem?_set,if_pos rfl,hi,if_true] at h;cases h
   have hs:j < σ.length:=by rw [r.len]; exact hi
   exact ⟨v,by simp [List.getElem?_set,hs],by rw [if_pos rfl]; exact va⟩
  ·simp only [List.getElem?_set,if_neg (Ne.symm q)] at h;obtain ⟨w,h1,h2⟩:=r.at' j y h;exact ⟨w,by simp only [List.getElem?_set,if_neg (Ne.symm q)]; exact h1,by rw [if_neg q]; exact h2⟩
 ·by_cases q:j=i
  ·subst q;exact absurd (by simp [List.getElem?_set,hi]) (h x)
  ·show (if j=i then o else os j)=[];rw [if_neg q];refine r.out j λy e=>h y ?_;simp only [List.getElem?_set,if_neg (Ne.symm q)]; exact e
 ·have e1:a∈(if j=i then o else os j):=e1;have e2:a∈(if k=i then o else os k):=e2
  by_cases q1:j=i
  ·by_cases q2:k=i
   ·rw [q1,q2]
   ·rw [if_pos q1] at e1; rw [if_neg q2] at e2; exact absurd e2 (no a e1 k q2)
  ·by_cases q2:k=i
   ·rw [if_neg q1] at e1; rw [if_pos q2] at e2; exact absurd e1 (no a e2 j q1)
   ·rw [if_neg q1] at e1; rw [if_neg q2] at e2; exact r.inj j k a e1 e2
end
inductive Fl where
 | nx (S:FSt) | rt (x:SV) | bk (S:FSt) | ct (S:FSt) | bad
structure FStep (σ:St) (S:FSt) (H:Hp) (F:Addr->Prop) (os:Nat->List Addr) (σ':St) (S':FSt) (H':Hp) (F':Addr->Prop) (os':Nat->List Addr):Prop where
 keep:∀ b o,H b=some o->(∀ i,b∉os i)->H' b=some o
 liv:∀ b,H b≠none->H' b≠none
 up:∀ b,F b->F' b
 new:∀ b,F' b->F b\/H b=none\/(∃ i,b∈os i)\/isT H b
 own:∀ i b,b∈os' i->H b=none\/∃ j,b∈os j
 lok:∀ (i:Nat) (xs:List D),S[i]? = some (some (SV.lk xs))->S'[i]? = some (some (SV.lk xs))/\σ'[i]? = σ[i]?
 lob:∀ (i c:Nat) (fs:List (Str×D)),S[i]? = some (some (SV.ob c fs))->(∃ fs',S'[i]? = some (some (SV.ob c fs')))/\σ'[i]? = σ[i]?
 lpu:∀ (i:Nat) (xs:List Int),S[i]? = some (some (SV.pu xs))->(∃ xs',S'[i]? = some (some (SV.pu xs')))/\σ'[i]? = σ[i]?
structure FStepR (H:Hp) (F:Addr->Prop) (os:Nat->List Addr) (H':Hp) (F':Addr->Prop) (o:List Addr):Prop where
 keep:∀ b u,H b=some u->(∀ i,b∉os i)->H' b=some u
 up:∀ b,F b->F' b
 new:∀ b,F' b->F b\/H b=none\/(∃ i,b∈os i)\/isT H b
 own:∀ b,b∈o->H b=none\/∃ j,b∈os j
 fd:∀ b,F' b->H' b≠none
section
variable {σ σ1 σ2:St} {S S1 S2:FSt} {H H1 H2:Hp} {F F1 F2:Addr->Prop} {os os1 os2:Nat->List Addr} {o:List Addr}
theorem FStep.refl:FStep σ S H F os σ S H F os:=⟨λ_ _ h _=>h,λ_ h=>h,λ_ h=>h,λ_ h=>.inl h,λi b h=>.inr ⟨i,h⟩,λi xs h=>⟨h,rfl⟩,λi c fs h=>⟨⟨fs,h⟩,rfl⟩,λi xs h=>⟨⟨xs,h⟩,rfl⟩⟩
theorem FStep.outside (a:FStep σ S H F os σ1 S1 H1 F1 os1) {b:Addr} {u:HO} (h:H b=some u) (n:∀ i,b∉os i):∀ i,b∉os1 i:=λi e=>by
 rcases a.own i b e with q | ⟨j,q⟩
 ·rw [q] at h; cases h
 ·exact n j q
theorem zg0 {b:Addr} (l:∀ b,H b≠none->H1 b≠none) (h:H1 b=none):H b=none:=by
 cases e:H b with
 | none=>rfl
 | some u=>exact absurd h (l b (by rw [e]; simp))
theorem FStep.trans (a:FStep σ S H F os σ1 S1 H1 F1 os1) (c:FStep σ1 S1 H1 F1 os1 σ2 S2 H2 F2 os2):FStep σ S H F os σ2 S2 H2 F2 os2:=by
 refine ⟨λb u h n=>c.keep b u (a.keep b u h n) (a.outside h n),λb h=>c.liv b (a.liv b h),λb h=>c.up b (a.up b h),λb h=>?_,λi b h=>?_,λi xs h=>?_,λi k fs h=>?_,λi xs h=>?_⟩
 ·rcases c.new b h with q | q | ⟨i,q⟩ | ⟨ys,q⟩
  ·exact a.new b q
  ·exact .inr (.inl (zg0 a.liv q))
  ·rcases a.own i b q with q | q
   ·exact .inr (.inl q)
   ·exact .inr (.inr (.inl q))
  ·cases e:H b with
   | none=>exact .inr (.inl rfl)
   | some u=>
    by_cases z:∃ i,b∈os i
    ·exact .inr (.inr (.inl z))
    ·have:=a.keep b u e λi hi=>z ⟨i,hi⟩;rw [q] at this; cases this
     exact .inr (.inr (.inr ⟨ys,e⟩))
 ·rcases c.own i b h with q | ⟨j,q⟩
  ·exact .inl (zg0 a.liv q)
  ·exact a.own j b q
 ·obtain ⟨h1,h2⟩:=a.lok i xs h;obtain ⟨h3,h4⟩:=c.lok i xs h1;exact ⟨h3,h4.trans h2⟩
 ·obtain ⟨⟨fs1,h1⟩,h2⟩:=a.lob i k fs h;obtain ⟨h3,h4⟩:=c.lob i k fs1 h1;exact ⟨h3,h4.trans h2⟩
 ·obtain ⟨⟨fs1,h1⟩,h2⟩:=a.lpu i xs h;obtain ⟨h3,h4⟩:=c.lpu i fs1 h1;exact ⟨h3,h4.trans h2⟩
theorem FStep.transR (a:FStep σ S H F os σ1 S1 H1 F1 os1) (c:FStepR H1 F1 os1 H2 F2 o):FStepR H F os H2 F2 o:=by
 refine ⟨λb u h n=>c.keep b u (a.keep b u h n) (a.outside h n),λb h=>c.up b (a.up b h),λb h=>?_,λb h=>?_,c.fd⟩
 ·rcases c.new b h with q | q | ⟨i,q⟩ | ⟨ys,q⟩
  ·exact a.new b q
  ·exact .inr (.inl (zg0 a.liv q))
  ·rcases a.own i b q with q | q
   ·exact .inr (.inl q)
   ·exact .inr (.inr (.inl q))
  ·cases e:H b with
   | none=>exact .inr (.inl rfl)
   | some u=>
    by_cases z:∃ i,b∈os i
    ·exact .inr (.inr (.inl z))
    ·have:=a.keep b u e λi hi=>z ⟨i,hi⟩;rw [q] at this; cases this
     exact .inr (.inr (.inr ⟨ys,e⟩))
 ·rcases c.own b h with q | ⟨j,q⟩
  ·exact .inl (zg0 a.liv q)
  ·exact a.own j b q
theorem Al.step (a:Al H F H1 F1):FStep σ S H F os σ S H1 F1 os:=by
 refine ⟨λb u h _=>a.same b u h,λb h=>?_,a.up,λb h=>?_,λi b h=>.inr ⟨i,h⟩,λi xs h=>⟨h,rfl⟩,λi c fs h=>⟨⟨fs,h⟩,rfl⟩,λi xs h=>⟨⟨xs,h⟩,rfl⟩⟩
 ·cases e:H b with
  | none=>exact absurd e h
  | some u=>rw [a.same b u e]; simp
 ·rcases a.new b h with q | q | q
  ·exact .inl q
  ·exact .inr (.inl q.1)
  ·exact .inr (.inr (.inr q))
end
def Lands (B:Bk) (σ:St) (S:FSt) (H:Hp) (F:Addr->Prop) (os:Nat->List Addr) (D:Ends):Fl->Prop
 | .nx S'=>∀ σ' H' F' os',FStep σ S H F os σ' S' H' F' os'->Rep B H' F' σ' S' os'->D.nx σ' H'
 | .bk S'=>∀ σ' H' F' os',FStep σ S H F os σ' S' H' F' os'->Rep B H' F' σ' S' os'->D.bk σ' H'
 | .ct S'=>∀ σ' H' F' os',FStep σ S H F os σ' S' H' F' os'->Rep B H' F' σ' S' os'->D.ct σ' H'
 | .rt x=>∀ v H' F' o,FStepR H F os H' F' o->VA B H' F' v x o->D.rt v H'
 | .bad=>False
def FS (B:Bk) (t:TS) (m:FSt->Fl):Prop:=
 ∀ (S:FSt) (σ:St) (H:Hp) (F:Addr->Prop) (os:Nat->List Addr) (D:Ends),Rep B H F σ S os->Lands B σ S H F os D (m S)->t D σ H
section
variable {B:Bk} {σ σ1:St} {S S1:FSt} {H H1:Hp} {F F1:Addr->Prop} {os os1:Nat->List Addr} {E:Ends}
theorem Lands.later {r:Fl} (h:Lands B σ S H F os E r) (a:FStep σ S H F os σ1 S1 H1 F1 os1):Lands B σ1 S1 H1 F1 os1 E r:=by
 cases r with
 | nx S'=>exact λσ' H' F' os' st=>h σ' H' F' os' (a.trans st)
 | bk S'=>exact λσ' H' F' os' st=>h σ' H' F' os' (a.trans st)
 | ct S'=>exact λσ' H' F' os' st=>h σ' H' F' os' (a.trans st)
 | rt x=>exact λv H' F' o st=>h v H' F' o (a.transR st)
 | bad=>exact h
end
@[simp] def za2 (a b:FSt->Fl):FSt->Fl:=λS=>match a S with
 | .nx S1=>b S1
 | r=>r
@[simp] def zaK:FSt->Fl:=λS=>.nx S
@[simp] def put (i:Nat) (L:List Nat) (x:SV) (S:FSt):Fl:=
 if i < S.length/\zeP S i=false/\(x.plain=true\/L.any (zeP S)=false) then .nx ((if x.plain=true then S else frzs L S).set i (some x)) else .bad
@[simp] def zcU (i:Nat) (L:List Nat) (m:FSt->Option SV):FSt->Fl:=λS=>match m S with
 | some x=>put i L x S
 | none=>.bad
@[simp] def zaW (m:FSt->Option SV):FSt->Fl:=λS=>match m S with
 | some x=>.rt x
 | none=>.bad
@[simp] def SV.un:SV->SV
 | .lk xs=>.li xs
 | x=>x
@[simp] def zob (i:Nat):FSt->Fl:=λS=>match S[i]?.join with
 | some x=>.rt x.un
 | none=>.bad
@[simp] def zDu:FSt->Fl:=λ_=>.rt (.sh .non)
@[simp] def mDo (m:FSt->Option SV):FSt->Fl:=λS=>match m S with
 | some _=>.nx S
 | none=>.bad
@[simp] def mIf (c:FSt->Option Bool) (a b:FSt->Fl):FSt->Fl:=λS=>match c S with
 | some true=>a S
 | some false=>b S
 | none=>.bad
@[simp] def zD9:FSt->Fl:=λ_=>.bad
@[simp] def zEa:FSt->Fl:=λS=>.bk S
@[simp] def zEb:FSt->Fl:=λS=>.ct S
@[simp] def zu4 (i:Nat) (L:List Nat) (m:FSt->Option D):FSt->Fl:=λS=>match m S with
 | some d=>if d.plain=true\/L.any (zeP S)=false then
   match (if d.plain=true then S else frzs L S)[i]? with
   | some (some (.li xs))=>if xs.length < sizeLine then .nx ((if d.plain=true then S else frzs L S).set i (some (.li (xs++[d])))) else .bad
   | _=>.bad
  else .bad
 | none=>.bad
section
variable {B:Bk} {te:TE} {L:List Nat} {me:FSt->Option SV} {md:FSt->Option D} {t u:TS} {ma mb:FSt->Fl} {tt:TT} {mt:FSt->Option Bool}
theorem zu5:FS B zxs zaK:=λS σ H F os E r h=>h σ H F os FStep.refl r
theorem zyn (h1:FS B t ma) (h2:FS B u mb):FS B (zAD t u) (za2 ma mb):=by
 intro S σ H F os E r h;refine h1 S σ H F os _ r ?_;unfold za2 at h;cases q:ma S with
 | nx S1=>
  rw [q] at h;intro σ' H' F' os' st r';exact h2 S1 σ' H' F' os' E r' (h.later st)
 | bk S1=>rw [q] at h; exact h
 | ct S1=>rw [q] at h; exact h
 | rt x=>rw [q] at h; exact h
 | bad=>rw [q] at h; exact h
theorem zBi (hc:FT B tt mt) (h1:FS B t ma) (h2:FS B u mb):FS B (zAY tt t u) (mIf mt ma mb):=by
 intro S σ H F os E r h;unfold mIf at h;cases q:mt S with
 | none=>rw [q] at h; exact h.elim
 | some c=>
  rw [q] at h;refine hc S σ H F os _ c r q λH' F' a r'=>?_;cases c with
  | true=>rw [if_pos rfl]; exact h1 S σ H' F' os E r' (h.later a.step)
  | false=>rw [if_neg Bool.false_ne_true]; exact h2 S σ H' F' os E r' (h.later a.step)
theorem zyo (he:FE B te L me):FS B (zAX te) (zaW me):=by
 intro S σ H F os E r h;unfold zaW at h;cases q:me S with
 | none=>rw [q] at h; exact h.elim
 | some x=>
  rw [q] at h;refine he S σ H F os _ x r q λv H' F' o a r' va fr=>h v H' _ o ⟨λb u e _=>a.same b u e,λb z=>.inl (a.up b z),λb z=>?_,λb z=>.inl (fr b z),r'.gd L⟩ va;rcases z with z | ⟨i,_,z⟩
  ·rcases a.new b z with z | z | z
   ·exact .inl z
   ·exact .inr (.inl z.1)
   ·exact .inr (.inr (.inr z))
  ·exact .inr (.inr (.inl ⟨i,z⟩))
theorem zu6 (i:Nat):FS B (zAX (zrv i)) (zob i):=by
 intro S σ H F os E r h;unfold zob at h;cases q:S[i]? with
 | none=>rw [q] at h; exact h.elim
 | some z=>cases z with
  | none=>rw [q] at h; exact h.elim
  | some x=>
   rw [q] at h;obtain ⟨v,h1,h2⟩:=r.at' i x q;refine ⟨v,h1,h v H F (os i) ⟨λb u e _=>e,λb z=>z,λb z=>.inl z,λb z=>.inr ⟨i,z⟩,r.fd⟩ ?_⟩;cases x <;> exact h2
theorem ztj {S:FSt} {σ:St} {H H':Hp} {F F':Addr->Prop} {os:Nat->List Addr} {i:Nat} {v:V} {x:SV} {o:List Addr} {E:Ends} (r:Rep B H F σ S os) (h:Lands B σ S H F os E (put i L x S)) (a:Al H F H' F') (r':Rep B H' F' σ S os)
  (va:VA B H' (orF F' (osL os L)) v x o) (fr:∀ b,b∈o->H b=none):E.nx (σ.set i (some v)) H':=by
 unfold put at h;split at h
 case isFalse=>exact h.elim
 case isTrue c=>
  obtain ⟨hi,hl,hp⟩:=c;have lokI:∀ (S':FSt),(∀ (j:Nat) (xs:List D),S[j]? = some (some (SV.lk xs))->j≠i->S'[j]? = some (some (SV.lk xs)))->∀ (j:Nat) (xs:List D),S[j]? = some (some (SV.lk xs))->(S'.set i (some x))[j]? = some (some (SV.lk xs))/\(σ.set i (some v))[j]? = σ[j]?:=λS' hS j xs e=>by
   have hj:j≠i:=by rintro rfl; unfold zeP at hl; rw [e] at hl; cases hl
   exact ⟨by rw [List.getElem?_set_ne (Ne.symm hj)]; exact hS j xs e hj,by rw [List.getElem?_set_ne (Ne.symm hj)]⟩
  have lobI:∀ (S':FSt),(∀ (j c:Nat) (fs:List (Str×D)),S[j]? = some (some (SV.ob c fs))->j≠i->S'[j]? = some (some (SV.ob c fs)))->∀ (j c:Nat) (fs:List (Str×D)),S[j]? = some (some (SV.ob c fs))->(∃ fs',(S'.set i (some x))[j]? = some (some (SV.ob c fs')))/\(σ.set i (some v))[j]? = σ[j]?:=λS' hS j c fs e=>by
   have hj:j≠i:=by rintro rfl; unfold zeP at hl; rw [e] at hl; cases hl
   exact ⟨⟨fs,by rw [List.getElem?_set_ne (Ne.symm hj)]; exact hS j c fs e hj⟩,by rw [List.getElem?_set_ne (Ne.symm hj)]⟩
  have lpuI:∀ (S':FSt),(∀ (j:Nat) (xs:List Int),S[j]? = some (some (SV.pu xs))->j≠i->S'[j]? = some (some (SV.pu xs)))->∀ (j:Nat) (xs:List Int),S[j]? = some (some (SV.pu xs))->(∃ xs',(S'.set i (some x))[j]? = some (some (SV.pu xs')))/\(σ.set i (some v))[j]? = σ[j]?:=λS' hS j xs e=>by
   have hj:j≠i:=by rintro rfl; unfold zeP at hl; rw [e] at hl; cases hl
   exact ⟨⟨xs,by rw [List.getElem?_set_ne (Ne.symm hj)]; exact hS j xs e hj⟩,by rw [List.getElem?_set_ne (Ne.symm hj)]⟩
  by_cases p:x.plain=true
  ·rw [if_pos p] at h;have va':=va.toF r' p;have r2:=r'.set (i:=i) va' (λb e j _ z=>(r.alive z).1 (fr b e)) hi;refine h _ H' F' _ ⟨λb u e _=>a.same b u e,a.step (σ:=σ) (S:=S) (os:=os) |>.liv,a.up,a.step (σ:=σ) (S:=S) (os:=os) |>.new,λj b e=>?_,lokI S λj xs e _=>e,lobI S λj c fs e _=>e,lpuI S λj xs e _=>e⟩ r2;have e:b∈(if j=i then o else os j):=e;split at e
   ·exact .inl (fr b e)
   ·exact .inr ⟨j,e⟩
  ·rw [if_neg p] at h;have hp:L.any (zeP S)=false:=hp.resolve_left p;have r1:=r'.frz L;have r2:=r1.set (i:=i) va (λb e j _ z=>by
    have z:b∈(if j∈L then [] else os j):=z;split at z
    ·simp at z
    ·exact (r.alive z).1 (fr b e)) (by rw [zkB]; exact hi)
   refine h _ H' _ _ ⟨λb u e _=>a.same b u e,a.step (σ:=σ) (S:=S) (os:=os) |>.liv,λb z=>.inl (a.up b z),λb z=>?_,λj b e=>?_,lokI (frzs L S) λj xs e _=>?_,lobI (frzs L S) λj c fs e _=>?_,lpuI (frzs L S) λj xs e _=>?_⟩ r2
   ·rcases z with z | ⟨k,_,z⟩
    ·exact (a.step (σ:=σ) (S:=S) (os:=os)).new b z
    ·exact .inr (.inr (.inl ⟨k,z⟩))
   ·have e:b∈(if j=i then o else if j∈L then [] else os j):=e;split at e
    ·exact .inl (fr b e)
    ·split at e
     ·simp at e
     ·exact .inr ⟨j,e⟩
   ·rw [zbQ,if_neg,e];intro z;rw [List.any_eq_false] at hp;have:=hp j z;unfold zeP at this;rw [e] at this;exact this rfl
   ·rw [zbQ,if_neg,e];intro z;rw [List.any_eq_false] at hp;have:=hp j z;unfold zeP at this;rw [e] at this;exact this rfl
   ·rw [zbQ,if_neg,e];intro z;rw [List.any_eq_false] at hp;have:=hp j z;unfold zeP at this;rw [e] at this;exact this rfl
theorem zyp {i:Nat} (he:FE B te L me):FS B (zuk te (zmr i)) (zcU i L me):=by
 intro S σ H F os E r h;unfold zcU at h;cases q:me S with
 | none=>rw [q] at h; exact h.elim
 | some x=>
  rw [q] at h;exact he S σ H F os _ x r q λv H' F' o a r' va fr=>ztj r h a r' va fr
end
section
variable {B:Bk} {H H':Hp} {F F':Addr->Prop} {σ:St} {S:FSt} {os:Nat->List Addr} {L:List Nat}
theorem Rep.write (r:Rep B H F σ S os) {i:Nat} {a:Addr} {u:HO} {x:SV} {v:V} (e:a∈os i) (hv:σ[i]? = some (some v)) (va:VA B (upd H a u) F v x (os i)):Rep B (upd H a u) F σ (S.set i (some x)) os:=by
 obtain ⟨y,v',h1,h2,h3⟩:=r.own e;have hi:i < S.length:=(List.getElem?_eq_some_iff.mp h1).1;have hF:∀ b o,F b->H b=some o->upd H a u b=some o:=λb o f h=>by rw [zas]; exact h; rintro rfl; exact (r.alive e).2 f
 refine ⟨λj z h=>?_,λj h=>?_,r.inj,λb h=>?_,by simp [r.len]⟩
 ·by_cases q:j=i
  ·subst q;simp only [List.getElem?_set,if_pos rfl,hi,if_true] at h;cases h
   exact ⟨v,hv,va⟩
  ·simp only [List.getElem?_set,if_neg (Ne.symm q)] at h;obtain ⟨w,k1,k2⟩:=r.at' j z h;refine ⟨w,k1,k2.mono hF (λb o ob h=>?_) (λ_ h=>h) λb ob=>(r.alive ob).2⟩;rw [zas]; exact h;rintro rfl;exact q (r.inj j i b ob e)
 ·by_cases q:j=i
  ·subst q;exact absurd (by simp [List.getElem?_set,hi]) (h x)
  ·refine r.out j λy k=>h y ?_;simp only [List.getElem?_set,if_neg (Ne.symm q)]; exact k
 ·unfold upd;split
  ·simp
  ·exact r.fd b h
theorem zd6 {a:Addr} {u:HO} {i:Nat} {x:SV} (e:a∈os i) (nl:zeP S i=false\/(∃ c fs fs',S[i]? = some (some (SV.ob c fs))/\x=.ob c fs')\/∃ xs xs',S[i]? = some (some (SV.pu xs))/\x=.pu xs'):FStep σ S H F os σ (S.set i (some x)) (upd H a u) F os:=by
 refine ⟨λb o h n=>?_,λb h=>?_,λ_ h=>h,λ_ h=>.inl h,λj b h=>.inr ⟨j,h⟩,λj xs h=>⟨?_,rfl⟩,λj c fs h=>⟨?_,rfl⟩,λj xs h=>⟨?_,rfl⟩⟩
 ·rw [zas]; exact h;rintro rfl; exact n i e
 ·unfold upd;split
  ·simp
  ·exact h
 ·have hj:j≠i:=by
   rintro rfl;rcases nl with nl | ⟨c,fs,fs',nl,_⟩ | ⟨ys,ys',nl,_⟩
   ·unfold zeP at nl; rw [h] at nl; cases nl
   ·rw [h] at nl; cases nl
   ·rw [h] at nl; cases nl
  rw [List.getElem?_set_ne (Ne.symm hj)]; exact h
 ·by_cases hj:j=i
  ·subst hj;rcases nl with nl | ⟨c',fs1,fs',nl,rfl⟩ | ⟨ys,ys',nl,_⟩
   ·unfold zeP at nl; rw [h] at nl; cases nl
   ·rw [h] at nl; cases nl
    exact ⟨fs',by simp [List.getElem?_set,(List.getElem?_eq_some_iff.mp h).1]⟩
   ·rw [h] at nl; cases nl
  ·exact ⟨fs,by rw [List.getElem?_set_ne (Ne.symm hj)]; exact h⟩
 ·by_cases hj:j=i
  ·subst hj;rcases nl with nl | ⟨c',fs1,fs',nl,_⟩ | ⟨ys,ys',nl,rfl⟩
   ·unfold zeP at nl; rw [h] at nl; cases nl
   ·rw [h] at nl; cases nl
   ·rw [h] at nl; cases nl
    exact ⟨ys',by simp [List.getElem?_set,(List.getElem?_eq_some_iff.mp h).1]⟩
  ·exact ⟨xs,by rw [List.getElem?_set_ne (Ne.symm hj)]; exact h⟩
theorem zkC (r:Rep B H F σ S os) (nl:L.any (zeP S)=false):FStep σ S H F os σ (frzs L S) H (orF F (osL os L)) (λj=>if j∈L then [] else os j):=by
 refine ⟨λb o h n=>h,λb h=>h,λ_ h=>.inl h,λb h=>?_,λj b h=>?_,λj xs h=>⟨?_,rfl⟩,λj c fs h=>⟨⟨fs,?_⟩,rfl⟩,λj xs h=>⟨⟨xs,?_⟩,rfl⟩⟩
 ·rcases h with h | ⟨i,_,h⟩
  ·exact .inl h
  ·exact .inr (.inr (.inl ⟨i,h⟩))
 ·have h:b∈(if j∈L then [] else os j):=h;split at h
  ·simp at h
  ·exact .inr ⟨j,h⟩
 ·rw [zbQ,if_neg,h];intro z;rw [List.any_eq_false] at nl;have:=nl j z;unfold zeP at this;rw [h] at this;exact this rfl
 ·rw [zbQ,if_neg,h];intro z;rw [List.any_eq_false] at nl;have:=nl j z;unfold zeP at this;rw [h] at this;exact this rfl
 ·rw [zbQ,if_neg,h];intro z;rw [List.any_eq_false] at nl;have:=nl j z;unfold zeP at this;rw [h] at this;exact this rfl
end
section
variable {B:Bk} {te:TE} {L:List Nat} {md:FSt->Option D}
theorem zyq {i:Nat} {K:W.Frag} (hK:B.K=K) (he:FD B te L md):FS B (zug (tBM K "list" zmv (zrv i) (zn4 te ztc))) (zu4 i L md):=by
 subst hK;intro S σ H F os E r h;unfold zu4 at h;cases q:md S with
 | none=>rw [q] at h; exact h.elim
 | some d=>
  rw [q] at h;dsimp only at h;split at h
  case isFalse=>exact h.elim
  case isTrue c=>
   split at h
   case h_2=>exact h.elim
   case h_1 xs hx=>
    split at h
    case isFalse=>exact h.elim
    case isTrue hz=>
     have hS:S[i]? = some (some (.li xs))/\(d.plain=true\/i∉L):=by
      by_cases p:d.plain=true
      ·rw [if_pos p] at hx; exact ⟨hx,.inl p⟩
      ·rw [if_neg p,zbQ] at hx
       by_cases hi:i∈L
       ·rw [if_pos hi] at hx;cases e:S[i]? with
        | none=>rw [e] at hx; cases hx
        | some z=>cases z with
         | none=>rw [e] at hx; cases hx
         | some y=>rw [e] at hx; cases hx
       ·rw [if_neg hi] at hx; exact ⟨hx,.inr hi⟩
     obtain ⟨v,hv,a,vs,rfl,eo,nf,hh,das⟩:=r.at' i _ hS.1;have nl:zeP S i=false:=by unfold zeP; rw [hS.1]; rfl
     refine ⟨.ref a,hv,.inl ⟨rfl,vs,.inl (.inl hh)⟩,he S σ H F os _ d r q λw H' F' al r' da=>?_⟩;obtain ⟨v',hv',a',vs',e1,eo',nf',hh',das'⟩:=r'.at' i _ hS.1;have ea:a'=a:=by rw [eo] at eo'; exact (List.cons.inj eo').1.symm
     subst ea;refine ⟨a',vs',w,rfl,rfl,hh',by rw [das'.length]; exact hz,?_⟩;have st1:FStep σ S H F os σ S H' F' os:=al.step;have em:a'∈os i:=by rw [eo]; simp
     by_cases p:d.plain=true
     ·rw [if_pos p] at h;have da':=da.toF r' p;have hk:∀ b o,F' b->H' b=some o->upd H' a' (.lst (vs'++[w])) b=some o:=λb o f h=>by rw [zas]; exact h; rintro rfl; exact nf' f
      have r2:=r'.write (u:=.lst (vs'++[w])) (x:=.li (xs++[d])) em hv ⟨a',vs'++[w],rfl,eo,nf',zaB,(das'.append (.cons da' .nil)).mono hk λ_ h=>h⟩;exact h σ _ F' os (st1.trans (zd6 em (.inl nl))) r2
     ·rw [if_neg p] at h;have hi:=hS.2.resolve_left p;have c':=c.resolve_left p;have r1:=r'.frz L;have eo1:(λj=>if j∈L then [] else os j) i=[a']:=by show (if i∈L then [] else os i)=_; rw [if_neg hi]; exact eo
      have em1:a'∈(λj=>if j∈L then [] else os j) i:=by rw [eo1]; simp
      have nf1:¬ orF F' (osL os L) a':=λz=>by
       rcases z with z | ⟨k,hk,z⟩
       ·exact nf' z
       ·exact hi (r.inj i k a' em z▸hk)
      have hk:∀ b o,orF F' (osL os L) b->H' b=some o->upd H' a' (.lst (vs'++[w])) b=some o:=λb o f h=>by rw [zas]; exact h; rintro rfl; exact nf1 f
      have d0:DAs B H' (orF F' (osL os L)) vs' xs:=das'.mono (λ_ _ _ e=>e) λ_ h=>.inl h;have r2:=r1.write (u:=.lst (vs'++[w])) (x:=.li (xs++[d])) em1 hv ⟨a',vs'++[w],rfl,eo1,nf1,zaB,(d0.append (.cons da .nil)).mono hk λ_ h=>h⟩;have nl1:zeP (frzs L S) i=false:=by unfold zeP; rw [zbQ,if_neg hi,hS.1]; rfl
      exact h σ _ _ _ ((st1.trans (zkC r' c')).trans (zd6 em1 (.inl nl1))) r2
end
def FG (B:Bk) (g:TG) (m:D->FSt->Option FSt):Prop:=
 ∀ (S:FSt) (σ:St) (H:Hp) (F:Addr->Prop) (os:Nat->List Addr) (v:V) (d:D) (S':FSt) (Q:St->Hp->Prop),Rep B H F σ S os->DA B H F v d->m d S=some S'->
  (∀ σ' os',FStep σ S H F os σ' S' H F os'->Rep B H F σ' S' os'->Q σ' H)->g v σ H Q
def FGs (B:Bk) (g:TGs) (m:List D->FSt->Option FSt):Prop:=
 ∀ (S:FSt) (σ:St) (H:Hp) (F:Addr->Prop) (os:Nat->List Addr) (vs:List V) (ds:List D) (S':FSt) (Q:St->Hp->Prop),Rep B H F σ S os->DAs B H F vs ds->m ds S=some S'->
  (∀ σ' os',FStep σ S H F os σ' S' H F os'->Rep B H F σ' S' os'->Q σ' H)->g vs σ H Q
@[simp] def gN (i:Nat):D->FSt->Option FSt:=λd S=>if i < S.length/\zeP S i=false then some (S.set i (some (.sh d))) else none
@[simp] def gNs:List D->FSt->Option FSt:=λds S=>match ds with
 | []=>some S
 | _=>none
@[simp] def gCs (a:D->FSt->Option FSt) (r:List D->FSt->Option FSt):List D->FSt->Option FSt:=λds S=>match ds with
 | d :: ds=>(a d S).bind (r ds)
 | _=>none
@[simp] def gSq (n:Nat) (r:List D->FSt->Option FSt):D->FSt->Option FSt:=λd S=>match d with
 | .tup ds=>if ds.length=n then r ds S else none
 | .lst ds=>if ds.length=n then r ds S else none
 | .kt ds=>if ds.length=n then r ds S else none
 | .fz ds=>if ds.length=n then r ds S else none
 | _=>none
section
variable {B:Bk} {g:TG} {gs:TGs} {mg:D->FSt->Option FSt} {ms:List D->FSt->Option FSt}
theorem zu7 (i:Nat):FG B (zmr i) (gN i):=by
 intro S σ H F os v d S' Q r da e k;unfold gN at e;split at e
 case isFalse=>cases e
 case isTrue c=>
  cases e
  have r2:=r.set (i:=i) (v:=v) (x:=.sh d) (o:=[]) ⟨rfl,da⟩ (λb e=>absurd e (by simp)) c.1;refine k _ _ ⟨λb u h _=>h,λ_ h=>h,λ_ h=>h,λ_ h=>.inl h,λj b h=>?_,λj xs h=>?_,λj c' fs h=>?_,λj xs h=>?_⟩ r2
  ·have h:b∈(if j=i then [] else os j):=h;split at h
   ·simp at h
   ·exact .inr ⟨j,h⟩
  ·have hj:j≠i:=by rintro rfl; have:=c.2; unfold zeP at this; rw [h] at this; cases this
   exact ⟨by rw [List.getElem?_set_ne (Ne.symm hj)]; exact h,by rw [List.getElem?_set_ne (Ne.symm hj)]⟩
  ·have hj:j≠i:=by rintro rfl; have:=c.2; unfold zeP at this; rw [h] at this; cases this
   exact ⟨⟨fs,by rw [List.getElem?_set_ne (Ne.symm hj)]; exact h⟩,by rw [List.getElem?_set_ne (Ne.symm hj)]⟩
  ·have hj:j≠i:=by rintro rfl; have:=c.2; unfold zeP at this; rw [h] at this; cases this
   exact ⟨⟨xs,by rw [List.getElem?_set_ne (Ne.symm hj)]; exact h⟩,by rw [List.getElem?_set_ne (Ne.symm hj)]⟩
theorem zu8:FGs B zCr gNs:=by
 intro S σ H F os vs ds S' Q r da e k;cases da with
 | nil=>cases e; exact ⟨rfl,k σ os FStep.refl r⟩
 | cons _ _=>cases e
theorem zrZ (h1:FG B g mg) (h2:FGs B gs ms):FGs B (zxu g gs) (gCs mg ms):=by
 intro S σ H F os vs ds S' Q r da e k;cases da with
 | nil=>cases e
 | cons h q=>
  obtain ⟨S1,e1,e2⟩:=zbH e;exact ⟨_,_,rfl,h1 S σ H F os _ _ S1 _ r h e1 λσ' os' st r'=>h2 S1 σ' H F os' _ _ S' Q r' q e2 λσ2 os2 st2 r2=>k σ2 os2 (st.trans st2) r2⟩
theorem zyr {n:Nat} {K:W.Frag} (hK:B.K=K) (h:FGs B gs ms):FG B (zCK K n gs) (gSq n ms):=by
 subst hK;intro S σ H F os v d S' Q r da e k;cases da with
 | tup hn q=>
  unfold gSq at e;dsimp only at e;split at e
  case isFalse=>cases e
  case isTrue c=>exact .inl ⟨_,_,rfl,hn.sq,by rw [q.length]; exact c,h S σ H F os _ _ S' Q r q e k⟩
 | lst hn q=>
  unfold gSq at e;dsimp only at e;split at e
  case isFalse=>cases e
  case isTrue c=>exact .inr ⟨_,_,rfl,hn.sq,by rw [q.length]; exact c,h S σ H F os _ _ S' Q r q e k⟩
 | kt hn q=>
  unfold gSq at e;dsimp only at e;split at e
  case isFalse=>cases e
  case isTrue c=>exact .inl ⟨_,_,rfl,hn.sq,by rw [q.length]; exact c,h S σ H F os _ _ S' Q r q e k⟩
 | fz hn q=>
  unfold gSq at e;dsimp only at e;split at e
  case isFalse=>cases e
  case isTrue c=>exact .inr ⟨_,_,rfl,hn.sq,by rw [q.length]; exact c,h S σ H F os _ _ S' Q r q e k⟩
 | _=>cases e
end
def Walks (B:Bk) (J:It) (H:Hp) (F:Addr->Prop) (its:List D):Prop:=∀ (H2:Hp) (F2:Addr->Prop),(∀ b o,F b->H b=some o->H2 b=some o)->(∀ b,F b->F2 b)->
 (∀ i d,its[i]? = some d->J.go i H2/\∀ x H3,J.yld i H2 x H3->∃ F3,Al H2 F2 H3 F3/\DA B H3 F3 x d)/\∀ i,its.length<=i->J.stop i H2
def FI (B:Bk) (wi:TI) (m:FSt->Option (List D)):Prop:=
 ∀ (S:FSt) (σ:St) (H:Hp) (F:Addr->Prop) (os:Nat->List Addr) (R:It->Hp->Prop) (its:List D),Rep B H F σ S os->m S=some its->
  (∀ J H' F',Al H F H' F'->Rep B H' F' σ S os->Walks B J H' F' its->R J H')->wi σ H R
@[simp] def zpv (S:FSt) (i:Nat):Bool:=match S[i]? with
 | some (some (SV.sh _))=>true
 | some (some _)=>false
 | _=>true
def zjy (z:Str):List D:=z.cps.toList.map λc=>.str ⟨#[c]⟩
@[simp] def zpw:D->Option (List D)
 | .lst ds=>some ds
 | .tup ds=>some ds
 | .kt ds=>some ds
 | .fz ds=>some ds
 | .str z=>some (zjy z)
 | _=>none
@[simp] def mIt (L:List Nat) (m:FSt->Option SV):FSt->Option (List D):=λS=>(m S).bind λx=>if x.plain=true\/L.all (zpv S)=true then zpw x.fr else none
def ztk (lo:Int) (n:Nat):List D:=(List.range n).map λ(k:Nat)=>.int (lo+k)
theorem zpx:∃ f:Int->Bool,∀ i,f i=true↔-(2 ^ 62)<=i/\i < 2 ^ 62:=⟨λi=>decide (-(2 ^ 62)<=i/\i < 2 ^ 62),λi=>decide_eq_true_iff⟩
noncomputable def zmA:Int->Bool:=Classical.choose zpx
theorem znu {i:Int}:zmA i=true↔-(2 ^ 62)<=i/\i < 2 ^ 62:=Classical.choose_spec zpx i
@[simp] theorem zu9 {i:Int} (h1:-4611686018427387904<=i) (h2:i < 4611686018427387904):zmA i=true:=znu.mpr ⟨by omega,by omega⟩
noncomputable def ztl:List D->Option (List D)
 | [.int j]=>if zmA j=true then some (ztk 0 j.toNat) else none
 | [.int i,.int j]=>if zmA i=true/\zmA j=true then some (ztk i (j-i).toNat) else none
 | _=>none
section
variable {B:Bk} {te:TE} {L:List Nat} {me:FSt->Option SV} {tr:TA} {mr:FSt->Option (List D)}
theorem zlz {H:Hp} {F:Addr->Prop} {a:Addr} {xs:List V} {ds:List D} (h:∀ H2,(∀ b o,F b->H b=some o->H2 b=some o)->SqL B.K H2 a xs) (q:DAs B H F xs ds):Walks B (Itl B.K a) H F ds:=by
 intro H2 F2 k up;have h2:=h H2 k;have q2:=q.mono k up;refine ⟨λi d e=>?_,λi hi=>⟨xs,h2,by rw [q.length]; exact hi⟩⟩;obtain ⟨v,e1,d1⟩:=q2.get e;refine ⟨⟨xs,v,h2,e1⟩,λx H3 y=>?_⟩;obtain ⟨rfl,y⟩:=y;have:=y xs h2;rw [e1] at this; cases this
 exact ⟨F2,Al.refl,d1⟩
theorem zlA {H:Hp} {F:Addr->Prop} {a:Addr} {xs:List V} {ds:List D} (h:∀ H2,(∀ b o,F b->H b=some o->H2 b=some o)->SqT B.K H2 a xs) (q:DAs B H F xs ds):Walks B (Itt B.K a) H F ds:=by
 intro H2 F2 k up;have h2:=h H2 k;have q2:=q.mono k up;refine ⟨λi d e=>?_,λi hi=>⟨xs,h2,by rw [q.length]; exact hi⟩⟩;obtain ⟨v,e1,d1⟩:=q2.get e;refine ⟨⟨xs,v,h2,e1⟩,λx H3 y=>?_⟩;obtain ⟨rfl,y⟩:=y;have:=y xs h2;rw [e1] at this; cases this
 exact ⟨F2,Al.refl,d1⟩
theorem zpy {H:Hp} {F:Addr->Prop} (z:Str):Walks B (Its z) H F (zjy z):=by
 intro H2 F2 k up;refine ⟨λi d e=>?_,λi hi=>by
  have hi:z.cps.size<=i:=by simpa [zjy] using hi
  exact hi⟩
 unfold zjy at e;rw [List.getElem?_map] at e;cases q:z.cps.toList[i]? with
 | none=>rw [q] at e; cases e
 | some c=>
  rw [q] at e; cases e
  have hlt:i < z.cps.size:=by simpa using (List.getElem?_eq_some_iff.mp q).1
  refine ⟨hlt,λx H3 y=>?_⟩;obtain ⟨rfl,c',e',rfl⟩:=y;have e2:z.cps.toList[i]? = some c':=by simpa using e'
  rw [q] at e2; cases e2
  exact ⟨F2,Al.refl,.str _⟩
theorem zpz {H:Hp} {F:Addr->Prop} (lo:Int) (n:Nat):Walks B (Itr lo n) H F (ztk lo n):=by
 intro H2 F2 k up;refine ⟨λi d e=>?_,λi hi=>by
  have hi:n<=i:=by simpa [ztk] using hi
  exact hi⟩
 have hi:i < n:=by have:=(List.getElem?_eq_some_iff.mp e).1; simpa [ztk] using this
 have:(ztk lo n)[i]? = some (.int (lo+i)):=by simp [ztk,hi]
 rw [this] at e; cases e
 exact ⟨hi,λx H3 y=>by obtain ⟨rfl,rfl⟩:=y; exact ⟨F2,Al.refl,.int _⟩⟩
theorem zva (hr:FA B tr L mr):FI B (zum tr) (λS=>(mr S).bind λds=>if ds.length=1 then ztl ds else none):=by
 intro S σ H F os R its r e k;obtain ⟨ds,ed,ef⟩:=zbH e;refine hr S σ H F os _ ds r ed λvs H' F' a r' da=>?_;split at ef
 case isFalse=>cases ef
 case isTrue c=>
  match ds,c with
  | [d],_=>
   obtain ⟨v,rfl,d1⟩:=da.one;cases d with
   | int j=>
    cases d1
    unfold ztl at ef;dsimp only at ef;split at ef
    case isFalse=>cases ef
    case isTrue hj=>rw [znu] at hj; cases ef; exact ⟨j,rfl,hj.1,hj.2,k _ H' F' a r' (zpz 0 _)⟩
   | _=>cases ef
end
def zdG (mg:D->FSt->Option FSt) (mb:FSt->Fl):List D->FSt->Fl
 | [],S=>.nx S
 | d :: r,S=>match mg d S with
  | none=>.bad
  | some S1=>match mb S1 with
   | .nx S2=>zdG mg mb r S2
   | .ct S2=>zdG mg mb r S2
   | .bk S2=>.nx S2
   | .rt x=>.rt x
   | .bad=>.bad
@[simp] def zr0 (mi:FSt->Option (List D)) (mg:D->FSt->Option FSt) (mb:FSt->Fl):FSt->Fl:=λS=>match mi S with
 | some its=>zdG mg mb its S
 | none=>.bad
@[simp] def zDv (j:Nat) (S:FSt):FSt:=match S[j]? with
 | some (some (.lk xs))=>S.set j (some (.li xs))
 | _=>S
@[simp] def zDw (j:Nat) (mg:D->FSt->Option FSt) (mb:FSt->Fl):FSt->Fl:=λS=>match S[j]? with
 | some (some (.li xs))=>match zdG mg mb xs (S.set j (some (.lk xs))) with
  | .nx S'=>.nx (zDv j S')
  | r=>r
 | some (some (.sh d))=>match zpw d with
  | some its=>zdG mg mb its S
  | none=>.bad
 | some (some (.ll xss))=>zdG mg mb (xss.map D.lst) (S.set j (some (.sh (.lst (xss.map D.lst)))))
 | _=>.bad
section
variable {B:Bk} {wi:TI} {mi:FSt->Option (List D)} {g:TG} {mg:D->FSt->Option FSt} {tb:TS} {mb:FSt->Fl}
theorem zvb {J:It} {its:List D} {E:Ends} (hg:FG B g mg) (hb:FS B tb mb) (Z:St->FSt->Hp->(Addr->Prop)->(Nat->List Addr)->Prop)
  (zs:∀ {σ S H F os σ' S' H' F' os'},Rep B H F σ S os->Rep B H' F' σ' S' os'->FStep σ S H F os σ' S' H' F' os'->Z σ S H F os->Z σ' S' H' F' os')
  (zi:∀ {σ S H F os} (i:Nat) (d:D),Rep B H F σ S os->Z σ S H F os->its[i]? = some d->J.go i H/\∀ x H3,J.yld i H x H3->∃ F3,Al H F H3 F3/\DA B H3 F3 x d)
  (ze:∀ {σ S H F os} (i:Nat),Rep B H F σ S os->Z σ S H F os->its.length<=i->J.stop i H)
  {S:FSt} {σ:St} {H:Hp} {F:Addr->Prop} {os:Nat->List Addr} (r:Rep B H F σ S os) (z:Z σ S H F os) (h:Lands B σ S H F os E (zdG mg mb its S)) :
  ∃ W:Nat->Nat->St->Hp->Prop,(∃ m,W 0 m σ H)/\∀ i m σ H,W i m σ H->
   (J.stop i H/\E.nx σ H)\/(J.go i H/\∃ N:St->Hp->Prop,(∀ σ' H',N σ' H'->∃ m',m' < m/\W (i+1) m' σ' H')/\∀ x H',J.yld i H x H'->g x σ H' λσ2 H2=>tb { E with nx:=N,ct:=N,bk:=E.nx } σ2 H2):=by
 refine ⟨λi m σ' H'=>i<=its.length/\m=its.length-i/\∃ S' F' os',Rep B H' F' σ' S' os'/\Z σ' S' H' F' os'/\Lands B σ' S' H' F' os' E (zdG mg mb (its.drop i) S'),
  ⟨_,Nat.zero_le _,rfl,S,F,os,r,z,by simpa using h⟩,?_⟩
 rintro i m σ1 H1 ⟨hi,hm,S1,F1,os1,r1,z1,h1⟩;cases q:its[i]? with
 | none=>
  have hle:its.length<=i:=List.getElem?_eq_none_iff.mp q;rw [List.drop_eq_nil_of_le hle] at h1;exact .inl ⟨ze i r1 z1 hle,h1 σ1 H1 F1 os1 FStep.refl r1⟩
 | some d=>
  have hlt:i < its.length:=(List.getElem?_eq_some_iff.mp q).1;have hd:its.drop i=d :: its.drop (i+1):=by
   rw [List.drop_eq_getElem_cons hlt];have:its[i]=d:=(List.getElem?_eq_some_iff.mp q).2;rw [this]
  rw [hd,zdG] at h1;obtain ⟨go,yl⟩:=zi i d r1 z1 q;refine .inr ⟨go,λσ' H'=>i+1<=its.length/\∃ S' F' os',Rep B H' F' σ' S' os'/\Z σ' S' H' F' os'/\Lands B σ' S' H' F' os' E (zdG mg mb (its.drop (i+1)) S'),
   λσ' H' n=>⟨its.length-(i+1),by omega,n.1,rfl,n.2⟩,λx H2 y=>?_⟩
  obtain ⟨F2,al,da⟩:=yl x H2 y;have r2:=r1.mono al;cases e1:mg d S1 with
  | none=>rw [e1] at h1; exact h1.elim
  | some S2=>
   rw [e1] at h1;dsimp only at h1;refine hg S1 σ1 H2 F2 os1 x d S2 _ r2 da e1 λσ2 os2 st2 r3=>?_;have stA:FStep σ1 S1 H1 F1 os1 σ2 S2 H2 F2 os2:=al.step.trans st2;refine hb S2 σ2 H2 F2 os2 _ r3 ?_;cases e2:mb S2 with
   | nx S3=>
    rw [e2] at h1;intro σ' H' F' os' st r';exact ⟨hlt,S3,F',os',r',zs r1 r' (stA.trans st) z1,h1.later (stA.trans st)⟩
   | ct S3=>
    rw [e2] at h1;intro σ' H' F' os' st r';exact ⟨hlt,S3,F',os',r',zs r1 r' (stA.trans st) z1,h1.later (stA.trans st)⟩
   | bk S3=>
    rw [e2] at h1;intro σ' H' F' os' st r';exact h1 σ' H' F' os' (stA.trans st) r'
   | rt x=>
    rw [e2] at h1;exact h1.later stA
   | bad=>rw [e2] at h1; exact h1.elim
theorem zys (hi:FI B wi mi) (hg:FG B g mg) (hb:FS B tb mb):FS B (zCt wi g tb) (zr0 mi mg mb):=by
 intro S σ H F os E r h;unfold zr0 at h;cases q:mi S with
 | none=>rw [q] at h; exact h.elim
 | some its=>
  rw [q] at h;refine hi S σ H F os _ its r q λJ H1 F1 al r1 wk=>?_;refine zvb (J:=J) (its:=its) hg hb (λ_ _ H' F' _=>(∀ b o,F1 b->H1 b=some o->H' b=some o)/\∀ b,F1 b->F' b) ?_ ?_ ?_ r1 ⟨λ_ _ _ e=>e,λ_ h=>h⟩ (h.later al.step)
  ·intro σ S H F os σ' S' H' F' os' r r' st z;exact ⟨λb o f e=>st.keep b o (z.1 b o f e) λi e=>(r.alive e).2 (z.2 b f),λb f=>st.up b (z.2 b f)⟩
  ·intro σ S H F os i d r z e;exact (wk H F z.1 z.2).1 i d e
  ·intro σ S H F os i r z e;exact (wk H F z.1 z.2).2 i e
end
def zbY (m:FSt->Fl) (n k:Nat) (ds:List D):Option SV:=if ds.length=n then (match m (ds.map (λd=>some (.sh d))++List.replicate (k-n) none) with
 | .nx _=>some (.sh .non)
 | .rt x=>some x
 | _=>none) else none
theorem zr1 {m:FSt->Fl} {n k:Nat} {ds:List D} {z:SV} (h:zbY m n k ds=some z):ds.length=n:=by
 unfold zbY at h;split at h
 ·assumption
 ·cases h
theorem zlB {B:Bk} {H:Hp} {G:Addr->Prop} {N:List Str} {vs:List V} {ds:List D} (hg:∀ b,G b->H b≠none) (da:DAs B H G vs ds) (hn:vs.length<=N.length) :
  Rep B H G (zgY N vs) (ds.map (λd=>some (.sh d))++List.replicate (N.length-ds.length) none) (λ_=>[]):=by
 refine ⟨λi x h=>?_,λi _=>rfl,λi j a e=>absurd e (by simp),hg,?_⟩
 ·by_cases hi:i < ds.length
  ·rw [List.getElem?_append_left (by simpa using hi),List.getElem?_map] at h;cases q:ds[i]? with
   | none=>rw [q] at h; cases h
   | some d=>
    rw [q] at h; cases h
    obtain ⟨v,e,da'⟩:=da.get q;refine ⟨v,?_,rfl,da'⟩;unfold zgY;rw [List.getElem?_append_left (by simp; rw [da.length]; exact hi),List.getElem?_map,e]; rfl
  ·rw [List.getElem?_append_right (by simpa using hi)] at h;rw [List.getElem?_replicate] at h;split at h <;> cases h
 ·unfold zgY;have:=da.length;simp;omega
theorem zDx {CX : CXT} {P : Program} {w : World} {K : W.Frag} {mg : Str -> Option Value} {base : Heap} {k : Nat} {f : Addr} {name qual : Str} {params : Arguments} {body : List Stmt} {scope : Scope} {dV kV doc pm cdv ct oc : Value} {an od : Option Addr}
    {osl : Array (Option Value)} {N ps : List Str} {B : Bk} {m : FSt -> Fl} (lk : K.lookup f = some ⟨oc, od, .func (W.fnOf name qual params body scope dV kV doc pm an cdv ct), osl⟩) (hcd : W.codeIn K cdv qual = true) (S : FnScope N ps scope)
    (hbody : ∀ (A : Around) (outer : List Env) (s : Shared) (H : Hp) (E : XK), Room k (A.deeper (envOfC qual scope s.heap.objs.size f cdv)) ->
      ∃ t, PSs (zmt CX P w K mg base N qual scope f cdv A outer s H E) body t /\ FS B t m) :
    FnOk P w K mg base CX (k + 1) f (W.fnOf name qual params body scope dV kV doc pm an cdv ct) ps (SpF B ps.length (zbY m ps.length N.length)) := by
  have hpl : ps.length <= N.length := by have := congrArg List.length S.pre; rw [List.length_take] at this; omega
  refine zuw lk hcd S (λvs H Q E h => h.1) λA outer s H vs Q E hr ⟨hl, G, ds, z, hg, da, hz, post⟩ => ?_;obtain ⟨t, ht, hf⟩ := hbody A outer s H E hr;refine ⟨t, ht, hf _ _ H G (λ_ => []) _ (zlB hg da (by omega)) ?_⟩;have hdl : ds.length = ps.length := by rw [<- da.length]; exact hl
  unfold zbY at hz;rw [if_pos hdl] at hz;rw [hdl];have done : ∀ {H' : Hp} {F' : Addr -> Prop} {o : List Addr} {v : V} {x : SV}, FStepR H G (λ_ => []) H' F' o -> VA B H' F' v x o -> z = x -> Q v H' := by
    intro H' F' o v x st va e;subst e;refine post v H' F' o ⟨λb u h => st.keep b u h (λi e => absurd e (by simp)), st.up, λb h => ?_⟩ va λb h => ?_
    · rcases st.new b h with q | q | ⟨i, q⟩ | q
      · exact .inl q
      · exact .inr (.inl ⟨q, st.fd b h⟩)
      · simp at q
      · exact .inr (.inr q)
    · rcases st.own b h with q | ⟨i, q⟩
      · exact q
      · simp at q
  cases q : m (ds.map (λd => some (.sh d)) ++ List.replicate (N.length - ps.length) none) with
  | nx S' =>
    rw [q] at hz;intro σ' H' F' os' st r';exact done (v := .non) (x := .sh .non) ⟨st.keep, st.up, st.new, λb e => absurd e (by simp), r'.fd⟩ ⟨rfl, .non⟩ (Option.some.inj hz).symm
  | rt x =>
    rw [q] at hz;intro v H' F' o st va;exact done st va (Option.some.inj hz).symm
  | bk S' => rw [q] at hz; cases hz
  | ct S' => rw [q] at hz; cases hz
  | bad => rw [q] at hz; cases hz
def zd7 (mg:D->FSt->Option FSt) (mt:FSt->Option Bool) (me:FSt->Option D):List D->FSt->Option (List D)
 | [],_=>some []
 | d :: r,S=>(mg d S).bind λS1=>(mt S1).bind λc=>if c=true then (me S1).bind λx=>(zd7 mg mt me r S1).map λxs=>x :: xs else zd7 mg mt me r S1
@[simp] def zkD (own:Nat) (fi:List Nat) (S:FSt):FSt:=List.replicate own none++fi.map λj=>(S[j]?.join).map λx=>SV.sh x.fr
@[simp] def ze1 (own:Nat) (fi:List Nat) (mi:FSt->Option (List D)) (mg:D->FSt->Option FSt) (mt:FSt->Option Bool) (me:FSt->Option D):FSt->Option SV:=λS=>
 (mi S).bind λits=>if its.length<=sizeLine then (zd7 mg mt me its (zkD own fi S)).map SV.li else none
@[simp] def zf5:FSt->Option Bool:=λ_=>some true
section
variable {B:Bk} {wi:TI} {mi:FSt->Option (List D)} {g:TG} {mg:D->FSt->Option FSt} {tt:TT} {mt:FSt->Option Bool} {te:TE} {me:FSt->Option D} {own:Nat} {fi L:List Nat}
theorem zvc:FT B zx1 zf5:=λS σ H F os Q c r e k=>by cases e; exact k H F Al.refl r
def FIc (B:Bk) (wi:TI) (L:List Nat) (m:FSt->Option (List D)):Prop:=
 ∀ (S:FSt) (σ:St) (H:Hp) (F:Addr->Prop) (os:Nat->List Addr) (R:It->Hp->Prop) (its:List D),Rep B H F σ S os->m S=some its->
  (∀ J H' F',Al H F H' F'->Rep B H' F' σ S os->Walks B J H' (orF F' (osL os L)) its->R J H')->wi σ H R
theorem FI.c (h:FI B wi mi):FIc B wi [] mi:=λS σ H F os R its r e k=>h S σ H F os R its r e λJ H' F' a r' w=>k J H' F' a r' λH2 F2 k2 up=>w H2 F2 (λb o f e=>k2 b o (.inl f) e) λb f=>up b (.inl f)
@[simp] def zlf (m:FSt->Option D):FSt->Option (List D):=λS=>(m S).bind zpw
theorem zvd {K:W.Frag} (hK:B.K=K) (he:FD B te L me):FIc B (zBd K te) L (zlf me):=by
 subst hK;intro S σ H F os R its r e k;obtain ⟨d,ed,ef⟩:=zbH e;cases d with
 | lst ds=>
  cases ef
  refine .inl (he S σ H F os _ _ r ed λv H' F' al r' da=>?_);cases da with
  | lst h q=>exact ⟨_,rfl,⟨_,h.sq⟩,k _ H' F' al r' (zlz (λH2 kk=>.inl (.inl (kk _ _ h.1 h.2))) q)⟩
 | fz ds=>
  cases ef
  refine .inl (he S σ H F os _ _ r ed λv H' F' al r' da=>?_);cases da with
  | fz h q=>exact ⟨_,rfl,⟨_,h.sq⟩,k _ H' F' al r' (zlz (λH2 kk=>(h.keep kk λ_ z=>z).sq) q)⟩
 | tup ds=>
  cases ef
  refine .inr (.inl (he S σ H F os _ _ r ed λv H' F' al r' da=>?_));cases da with
  | tup h q=>exact ⟨_,rfl,⟨_,h.sq⟩,k _ H' F' al r' (zlA (λH2 kk=>.inl (.inl (kk _ _ h.1 h.2))) q)⟩
 | kt ds=>
  cases ef
  refine .inr (.inl (he S σ H F os _ _ r ed λv H' F' al r' da=>?_));cases da with
  | kt h q=>exact ⟨_,rfl,⟨_,h.sq⟩,k _ H' F' al r' (zlA (λH2 kk=>h.sq) q)⟩
 | str z=>
  cases ef
  refine .inr (.inr (he S σ H F os _ _ r ed λv H' F' al r' da=>?_));cases da
  exact ⟨_,rfl,k _ H' F' al r' (zpy z)⟩
 | _=>cases ef
theorem zoc {H:Hp} {F:Addr->Prop} {σ:St} {S:FSt} {os:Nat->List Addr} (r:Rep B H F σ S os) (own:Nat) (fi Li:List Nat):Rep B H (orF F (osL os (fi++Li))) (zgZ own fi σ) (zkD own fi S) (λ_=>[]):=by
 refine ⟨λi x h=>?_,λi _=>rfl,λi j a e=>absurd e (by simp),r.gd (fi++Li),by simp [zgZ,zkD]⟩;unfold zkD at h
 by_cases hi:i < own
 ·rw [List.getElem?_append_left (by simpa using hi),List.getElem?_replicate,if_pos hi] at h;cases h
 ·rw [List.getElem?_append_right (by simpa using hi),List.length_replicate,List.getElem?_map] at h;unfold zgZ;rw [List.getElem?_append_right (by simpa using hi),List.length_replicate,List.getElem?_map];cases q:fi[i-own]? with
  | none=>rw [q] at h; cases h
  | some j=>
   rw [q] at h;simp only [Option.map_some,Option.some.injEq] at h;cases e:S[j]? with
   | none=>rw [e] at h; cases h
   | some z=>cases z with
    | none=>rw [e] at h; cases h
    | some y=>
     rw [e] at h; cases h
     obtain ⟨v,h1,h2⟩:=r.at' j y e;refine ⟨v,by simp [h1],rfl,h2.frozen (λb z=>.inl z) λb z=>.inr ⟨j,List.mem_append_left _ (List.mem_of_getElem? q),z⟩⟩
theorem zpA {Li:List Nat} (hi:FIc B wi Li mi) (hg:FG B g mg) (ht:FT B tt mt) (he:FD B te L me):FE B (zuG wi g tt te own fi) (fi++Li) (ze1 own fi mi mg mt me):=by
 intro S σ H F os Q x r e k;obtain ⟨its,ei,ef⟩:=zbH e;split at ef
 case isFalse=>cases ef
 case isTrue hz=>
 cases ec:zd7 mg mt me its (zkD own fi S) with
 | none=>rw [ec] at ef; cases ef
 | some ds=>
 rw [ec] at ef; cases ef
 refine hi S σ H F os _ its r ei λJ H1 F1 al r1 wk l hl=>?_;have rc:=zoc r1 own fi Li;have al0:Al H1 (orF F1 (osL os (fi++Li))) (upd H1 l (.lst [])) (orF F1 (osL os (fi++Li))):=ziE hl;have rc0:=rc.mono al0;have nl0:¬ orF F1 (osL os (fi++Li)) l:=λz=>r1.gd (fi++Li) l z hl;refine ⟨λi m σ' H'=>i<=its.length/\m=its.length-i/\∃ S' G xs acc zaL,Rep B H' G σ' S' (λ_=>[])/\Al H1 (orF F1 (osL os (fi++Li))) H' G/\H' l=some (.lst xs)/\¬ G l/\DAs B H' G xs acc/\acc.length<=i/\
   zd7 mg mt me (its.drop i) S'=some zaL/\acc++zaL=ds,
  ⟨_,Nat.zero_le _,rfl,_,_,[],[],ds,rc0,al0,zaB,nl0,.nil,Nat.zero_le _,by simpa using ec,rfl⟩,?_⟩
 rintro i m σ' H' ⟨hi,hm,S',G,xs,acc,zaL,r',a',hl',nl',da',la,ec',ea⟩;have w2:=wk H' G (λb o f e=>a'.same b o e) (λb f=>a'.up b (ze0 (λ_ z=>z) (λi h=>List.mem_append_right _ h) b f));cases q:its[i]? with
 | none=>
  have hle:its.length<=i:=List.getElem?_eq_none_iff.mp q;rw [List.drop_eq_nil_of_le hle] at ec';cases ec'
  rw [List.append_nil] at ea;subst ea;refine .inl ⟨w2.2 i hle,?_⟩;have a1:Al H1 (orF F1 (osL os (fi++Li))) H' G:=a';have va:VA B H' G (.ref l) (.li acc) [l]:=⟨l,xs,rfl,rfl,nl',hl',da'⟩
  have fr1:∀ b,b∈[l]->H1 b=none:=λb hb=>by rw [List.mem_singleton.mp hb]; exact hl
  obtain ⟨F2,al2,r2,va2⟩:=zfX r1 a1 va fr1;refine k (.ref l) H' F2 [l] (al.trans al2) r2 va2 λb hb=>?_;cases qq:H b with
  | none=>rfl
  | some w=>have:=fr1 b hb; rw [al.same b w qq] at this; cases this
 | some d=>
  have hlt:i < its.length:=(List.getElem?_eq_some_iff.mp q).1;have hd:its.drop i=d :: its.drop (i+1):=by
   rw [List.drop_eq_getElem_cons hlt];have:its[i]=d:=(List.getElem?_eq_some_iff.mp q).2;rw [this]
  rw [hd,zd7] at ec';obtain ⟨go,yl⟩:=w2.1 i d q;refine .inr ⟨go,λσ'' H''=>i+1<=its.length/\∃ S' G xs acc zaL,Rep B H'' G σ'' S' (λ_=>[])/\Al H1 (orF F1 (osL os (fi++Li))) H'' G/\H'' l=some (.lst xs)/\¬ G l/\DAs B H'' G xs acc/\acc.length<=i+1/\
   zd7 mg mt me (its.drop (i+1)) S'=some zaL/\acc++zaL=ds,λσ'' H'' n=>⟨its.length-(i+1),by omega,n.1,rfl,n.2⟩,λx H2 y=>?_⟩
  obtain ⟨G2,al2,da2⟩:=yl x H2 y;have r2:=r'.mono al2;obtain ⟨S1,e1,ec'⟩:=zbH ec';obtain ⟨c,e2,ec'⟩:=zbH ec';refine hg S' σ' H2 G2 _ x d S1 _ r2 da2 e1 λσ2 os2 st2 r3=>?_;have nos:∀ j,os2 j=[]:=λj=>by
   cases qq:os2 j with
   | nil=>rfl
   | cons b _=>
    rcases st2.own j b (by rw [qq]; simp) with z | ⟨_,z⟩
    ·exact absurd z (r3.alive (i:=j) (a:=b) (by rw [qq]; simp)).1
    ·simp at z
  have eos:os2=λ_=>[]:=funext nos;subst eos;refine ht S1 σ2 H2 G2 _ _ c r3 e2 λH3 G3 al3 r4=>?_;have hl3:H3 l=some (.lst xs):=al3.same l _ (al2.same l _ hl');have nl3:¬ G3 l:=λz=>by
   rcases al3.new l z with z | z | ⟨ys,z⟩
   ·rcases al2.new l z with z | z | ⟨ys,z⟩
    ·exact nl' z
    ·rw [hl'] at z; cases z.1
    ·rw [hl'] at z; cases z
   ·rw [al2.same l _ hl'] at z; cases z.1
   ·rw [al2.same l _ hl'] at z; cases z
  have da3:DAs B H3 G3 xs acc:=da'.mono (λb o f e=>al3.same b o (al2.same b o e)) λb f=>al3.up b (al2.up b f);cases c with
  | false=>
   rw [if_neg Bool.false_ne_true] at ec' ⊢;exact ⟨hlt,S1,G3,xs,acc,zaL,r4,(a'.trans al2).trans al3,hl3,nl3,da3,by omega,ec',ea⟩
  | true=>
   rw [if_pos rfl] at ec' ⊢;obtain ⟨w,ew,ec'⟩:=zbH ec';cases er:zd7 mg mt me (its.drop (i+1)) S1 with
   | none=>rw [er] at ec'; cases ec'
   | some rest'=>
    rw [er] at ec'; cases ec'
    refine he S1 σ2 H3 G3 _ _ w r4 ew λy H4 G4 al4 r5 dy=>?_;have hl4:H4 l=some (.lst xs):=al4.same l _ hl3;have nl4:¬ G4 l:=λz=>by
     rcases al4.new l z with z | z | ⟨ys,z⟩
     ·exact nl3 z
     ·rw [hl3] at z; cases z.1
     ·rw [hl3] at z; cases z
    have da4:DAs B H4 G4 xs acc:=da3.mono (λb o f e=>al4.same b o e) al4.up;have dy':DA B H4 G4 y w:=dy.mono (λ_ _ _ e=>e) λb z=>by
     rcases z with z | ⟨_,_,z⟩
     ·exact z
     ·simp at z
    refine ⟨xs,hl4,by rw [da4.length]; omega,hlt,S1,G4,xs++[y],acc++[w],rest',?_,?_,zaB,nl4,?_,?_,er,by simpa using ea⟩
    ·refine ⟨λj x h=>?_,r5.out,r5.inj,λb f=>?_,r5.len⟩
     ·obtain ⟨v,h1,h2⟩:=r5.at' j x h;exact ⟨v,h1,h2.mono (λb u f e=>by rw [zas]; exact e; rintro rfl; exact nl4 f) (λb u hb=>absurd hb (by simp)) (λ_ f=>f) λb hb=>absurd hb (by simp)⟩
     ·unfold upd;split
      ·simp
      ·exact r5.fd b f
    ·have a4:=((a'.trans al2).trans al3).trans al4;refine ⟨λb o e=>?_,a4.up,λb z=>?_⟩
     ·rw [zas (zbF e hl)]; exact a4.same b o e
     ·rcases a4.new b z with z | z | z
      ·exact .inl z
      ·refine .inr (.inl ⟨z.1,?_⟩);unfold upd;split
       ·simp
       ·exact z.2
      ·exact .inr (.inr z)
    ·exact (da4.append (.cons dy' .nil)).mono (λb u f e=>by rw [zas]; exact e; rintro rfl; exact nl4 f) λ_ f=>f
    ·simp; omega
end
@[simp] def fI {α:Type} (f:Int->Int->Option α):D->D->Option α
 | .int i,.int j=>f i j
 | _,_=>none
@[simp] def fI1 {α:Type} (f:Int->Option α):D->Option α
 | .int i=>f i
 | _=>none
section
variable {B:Bk}
theorem zmB {α:Type} {f:Int->Int->Option α} {a b:D} {z:α} (h:fI f a b=some z):∃ i j,a=.int i/\b=.int j/\f i j=some z:=by
 unfold fI at h;split at h
 ·exact ⟨_,_,rfl,rfl,h⟩
 ·cases h
theorem zpB {g:Int->Int->V} {gd:Int->Int->D} (h:∀ i j,Sc (g i j) (gd i j)):OpD B (rI0 g) (fI λi j=>some (gd i j)):=by
 intro H G x y dx dy z Q hx hy e k;obtain ⟨i,j,rfl,rfl,e⟩:=zmB e;cases e; cases hx; cases hy
 exact ⟨i,j,rfl,rfl,k _ H G Al.refl (h i j).da⟩
theorem zBj {C:Int->Int->Prop} [∀ i j,Decidable (C i j)] {g:Int->Int->V} {gd:Int->Int->D} (h:∀ i j,Sc (g i j) (gd i j)):OpD B (rI C g) (fI λi j=>if C i j then some (gd i j) else none):=by
 intro H G x y dx dy z Q hx hy e k;obtain ⟨i,j,rfl,rfl,e'⟩:=zmB e;clear e;split at e'
 ·cases e'; cases hx; cases hy
  exact ⟨i,j,rfl,rfl,by assumption,k _ H G Al.refl (h i j).da⟩
 ·cases e'
end
theorem zpC:∃ f:Int->Int->Bool,∀ i j,f i j=true↔CMul i j:=⟨λi j=>(decide (-(2 ^ 64) < i)&&decide (i < 2 ^ 64))||(decide (-(2 ^ 64) < j)&&decide (j < 2 ^ 64)),λi j=>by simp only [CMul,Bool.or_eq_true,Bool.and_eq_true,decide_eq_true_eq]⟩
theorem zpD:∃ f:Int->Bool,∀ j,f j=true↔0 < j/\j < 2 ^ 200:=⟨λj=>decide (0 < j/\j < 2 ^ 200),λ_=>decide_eq_true_iff⟩
noncomputable def zpE:Int->Int->Bool:=Classical.choose zpC
noncomputable def zpF:Int->Bool:=Classical.choose zpD
theorem zkE {i j:Int}:zpE i j=true↔CMul i j:=Classical.choose_spec zpC i j
theorem znv {j:Int}:zpF j=true↔0 < j/\j < 2 ^ 200:=Classical.choose_spec zpD j
@[simp] theorem ztm {i j:Int} (h1:-18446744073709551616 < i) (h2:i < 18446744073709551616):zpE i j=true:=zkE.mpr (.inl ⟨by omega,by omega⟩)
@[simp] theorem zCV {i j:Int} (h1:-18446744073709551616 < j) (h2:j < 18446744073709551616):zpE i j=true:=zkE.mpr (.inr ⟨by omega,by omega⟩)
@[simp] theorem zpG {j:Int} (h1:0 < j) (h2:j < 1606938044258990275541962092341162602522202993782792835301376):zpF j=true:=znv.mpr ⟨h1,by omega⟩
theorem zyt {C:Int->Int->Prop} {cb:Int->Int->Bool} (hc:∀ i j,cb i j=true->C i j) {B:Bk} {g:Int->Int->V} {gd:Int->Int->D} (h:∀ i j,Sc (g i j) (gd i j)):OpD B (rI C g) (fI λi j=>if cb i j=true then some (gd i j) else none):=by
 intro H G x y dx dy z Q hx hy e k;obtain ⟨i,j,rfl,rfl,e'⟩:=zmB e;clear e;split at e'
 ·rename_i hb
  cases e'; cases hx; cases hy
  exact ⟨i,j,rfl,rfl,hc i j hb,k _ H G Al.refl (h i j).da⟩
 ·cases e'
noncomputable abbrev zcV:D->D->Option D:=fI λi j=>if zpF j=true then some (.int (i / j)) else none
abbrev zcf:D->D->Option D:=fI λi j=>if 0 < j then some (.int (i%j)) else none
abbrev oLt:D->D->Option D:=fI λi j=>some (.bl (decide (i < j)))
abbrev oLe:D->D->Option D:=fI λi j=>some (.bl (decide (i<=j)))
abbrev oGt:D->D->Option D:=fI λi j=>some (.bl (decide (j < i)))
section
variable {B:Bk}
theorem zf9:OpD B (rI (λ_ j=>0 < j/\j < 2 ^ 200) λi j=>.int (i / j)) zcV:=zyt (λ_ _ h=>znv.mp h) λ_ _=>.int _
theorem zcz:OpD B (rI (λ_ j=>0 < j) λi j=>.int (i%j)) zcf:=zBj λ_ _=>.int _
theorem zBk:OpD B (rI0 λi j=>.bl (decide (i < j))) oLt:=zpB λ_ _=>.bl _
theorem zBl:OpD B (rI0 λi j=>.bl (decide (i<=j))) oLe:=zpB λ_ _=>.bl _
theorem zBm:OpD B (rI0 λi j=>.bl (decide (j < i))) oGt:=zpB λ_ _=>.bl _
end
@[simp] def za9:D->D->Option SV
 | .int i,.int j=>some (.sh (.int (i+j)))
 | .str a,.str b=>if a.length+b.length<=sizeLine then some (.sh (.str (a++b))) else none
 | .lst xs,.lst ys=>if xs.length+ys.length<=sizeLine then some (.li (xs++ys)) else none
 | .tup xs,.tup ys=>if xs≠[]/\ys≠[]/\xs.length+ys.length<=sizeLine then some (.sh (.tup (xs++ys))) else none
 | _,_=>none
@[simp] noncomputable def zrs:D->D->Option SV
 | .int i,.int j=>if zpE i j=true then some (.sh (.int (i*j))) else none
 | .lst xs,.int k=>if -(2 ^ 63)<=k/\k < 2 ^ 63/\xs.length*k.toNat<=sizeLine then some (.li (List.replicate k.toNat xs).flatten) else none
 | _,_=>none
section
variable {B:Bk}
theorem DAs.rep {H:Hp} {F:Addr->Prop} {vs:List V} {ds:List D} (h:DAs B H F vs ds):∀ n,DAs B H F (List.replicate n vs).flatten (List.replicate n ds).flatten
 | 0=>.nil
 | n+1=>by simpa [List.replicate_succ] using h.append (DAs.rep h n)
theorem ze2 {H:Hp} {G:Addr->Prop} {p:Addr} {vs:List V} {ds:List D} {Q:VK} (hg:∀ b,G b->H b≠none) (hp:H p=none) (da:DAs B H G vs ds)
  (k:∀ v H' G' o,Al H G H' G'->VA B H' G' v (.li ds) o->(∀ a,a∈o->H a=none)->Q v H'):Q (.ref p) (upd H p (.lst vs)):=by
 have al:=ziE (F:=G) (u:=.lst vs) hp;exact k (.ref p) _ G [p] al ⟨p,vs,rfl,rfl,λz=>hg p z hp,zaB,da.mono (λb o _ e=>al.same b o e) λ_ z=>z⟩ λa ha=>by rw [List.mem_singleton.mp ha]; exact hp
theorem ziO {H:Hp} {G:Addr->Prop} {p:Addr} {vs:List V} {ds:List D} {Q:VK} (hp:H p=none) (da:DAs B H G vs ds)
  (k:∀ v H' G' o,Al H G H' G'->VA B H' G' v (.sh (.tup ds)) o->(∀ a,a∈o->H a=none)->Q v H'):Q (.ref p) (upd H p (.tup vs)):=by
 have al:=zd5 (F:=G) (u:=.tup vs) hp;exact k (.ref p) _ _ [] al ⟨rfl,.tup ⟨.inr rfl,zaB⟩ (da.mono (λb o _ e=>al.same b o e) λ_ z=>.inl z)⟩ λa ha=>absurd ha (by simp)
theorem zBn {K:W.Frag} (hK:B.K=K):OpE B (zuK K) za9:=by
 subst hK;intro H G x y dx dy z Q hg hx hy e k;unfold za9 at e;split at e
 ·cases e; cases hx; cases hy
  exact .inl ⟨_,_,rfl,rfl,k _ H G [] Al.refl ⟨rfl,.int _⟩ (by simp)⟩
 ·split at e
  ·cases e; cases hx; cases hy
   exact .inr (.inl ⟨_,_,rfl,rfl,by assumption,k _ H G [] Al.refl ⟨rfl,.str _⟩ (by simp)⟩)
  ·cases e
 ·split at e
  ·rename_i hl
   cases e
   cases hx with
   | lst h1 r1=>cases hy with
    | lst h2 r2=>exact .inr (.inr (.inl ⟨_,_,_,_,rfl,rfl,h1.2,h2.2,by rw [r1.length,r2.length]; exact hl,λp hp=>ze2 hg hp (r1.append r2) k⟩))
  ·cases e
 ·split at e
  ·rename_i hl
   cases e
   cases hx with
   | tup h1 r1=>cases hy with
    | tup h2 r2=>
     have nx:∀ {vs:List V} {ds:List D},DAs B H G vs ds->ds≠[]->vs≠[]:=λr n z=>by subst z; cases r; exact n rfl
     exact .inr (.inr (.inr ⟨_,_,_,_,rfl,rfl,h1.sq,h2.sq,nx r1 hl.1,by rw [r1.length,r2.length]; exact hl.2.2,λz=>absurd z (nx r2 hl.2.1),λ_ p hp=>ziO hp (r1.append r2) k⟩))
  ·cases e
 ·cases e
theorem zBo:OpE B zx3 zrs:=by
 intro H G x y dx dy z Q hg hx hy e k;unfold zrs at e;split at e
 ·split at e
  ·rename_i hb
   cases e; cases hx; cases hy
   exact .inl ⟨_,_,rfl,rfl,zkE.mp hb,k _ H G [] Al.refl ⟨rfl,.int _⟩ (by simp)⟩
  ·cases e
 ·split at e
  ·rename_i hl
   cases e; cases hy
   cases hx with
   | lst h1 r1=>exact .inr ⟨_,_,_,rfl,rfl,h1.2,hl.1,hl.2.1,by rw [r1.length]; exact hl.2.2,λp hp=>ze2 hg hp (r1.rep _) k⟩
  ·cases e
 ·cases e
end
mutual
def D.dat:D->Option PyData
 | .non=>some .none
 | .bl b=>some (.bool b)
 | .int i=>some (.int i)
 | .str x=>some (.str x)
 | .tup xs=>(D.dats xs).map .tuple
 | .kt xs=>(D.dats xs).map .tuple
 | .lst xs=>(D.dats xs).map .list
 | .fz xs=>(D.dats xs).map .list
 | _=>none
def D.dats:List D->Option (List PyData)
 | []=>some []
 | d :: r=>(D.dat d).bind λp=>(D.dats r).map λps=>p :: ps
end
section
variable {B:Bk} {H:Hp} {F:Addr->Prop}
mutual
theorem DA.dat:∀ {v:V} {d:D} {p:PyData},DA B H F v d->d.dat=some p->DAt B.K H v p
 | _,_,_,.non,e=>by simp [D.dat] at e; subst e; exact .non
 | _,_,_,.bl b,e=>by simp [D.dat] at e; subst e; exact .bl b
 | _,_,_,.int i,e=>by simp [D.dat] at e; subst e; exact .int i
 | _,_,_,.str x,e=>by simp [D.dat] at e; subst e; exact .str x
 | _,_,_,.tup h r,e=>by
  simp only [D.dat,Option.map_eq_some_iff] at e;obtain ⟨ps,e1,rfl⟩:=e;exact .tup h.sq (DAs.dats r e1)
 | _,_,_,.kt h r,e=>by
  simp only [D.dat,Option.map_eq_some_iff] at e;obtain ⟨ps,e1,rfl⟩:=e;exact .tup h.sq (DAs.dats r e1)
 | _,_,_,.lst h r,e=>by
  simp only [D.dat,Option.map_eq_some_iff] at e;obtain ⟨ps,e1,rfl⟩:=e;exact .lst h.sq (DAs.dats r e1)
 | _,_,_,.fz h r,e=>by
  simp only [D.dat,Option.map_eq_some_iff] at e;obtain ⟨ps,e1,rfl⟩:=e;exact .lst h.sq (DAs.dats r e1)
 | _,_,_,.ty n,e=>by simp [D.dat] at e
 | _,_,_,.adr a,e=>by simp [D.dat] at e
 | _,_,_,.cls _,e=>by simp [D.dat] at e
 | _,_,_,.dK _ _ _ _,e=>by simp [D.dat] at e
 | _,_,_,.dT _ _ _ _,e=>by simp [D.dat] at e
 | _,_,_,.dZ _ _ _ _,e=>by simp [D.dat] at e
 | _,_,_,.ins _ _ _ _,e=>by simp [D.dat] at e
 | _,_,_,.exc _ _ _ _ _ _,e=>by simp [D.dat] at e
theorem DAs.dats:∀ {vs:List V} {ds:List D} {ps:List PyData},DAs B H F vs ds->D.dats ds=some ps->DAts B.K H vs ps
 | _,_,_,.nil,e=>by simp [D.dats] at e; subst e; exact .nil
 | _,_,_,.cons h r,e=>by
  simp only [D.dats,Option.bind_eq_some_iff,Option.map_eq_some_iff] at e;obtain ⟨p,e1,ps,e2,rfl⟩:=e;exact .cons (DA.dat h e1) (DAs.dats r e2)
end
end
def shp (d:D):Option PyData:=d.dat.bind λp=>if SeqAt.shaped p=true then some p else none
def oEq:D->D->Option D:=λa b=>(shp a).bind λp=>(shp b).bind λq=>some (.bl (PyData.eqv p q))
def oNe:D->D->Option D:=λa b=>(shp a).bind λp=>(shp b).bind λq=>some (.bl (!PyData.eqv p q))
theorem zbg {d:D} {p:PyData} (h:shp d=some p):d.dat=some p/\SeqAt.shaped p=true:=by
 obtain ⟨q,e,h⟩:=zbH h;split at h
 ·cases h; exact ⟨e,by assumption⟩
 ·cases h
section
variable {B:Bk} {K:W.Frag}
theorem zBp (hK:B.K=K):OpD B (zCF K) oEq:=by
 subst hK;intro H G x y dx dy z Q hx hy e k;obtain ⟨p,q,e1,e2,e3⟩:=zjx e;cases e3
 exact ⟨p,q,hx.dat (zbg e1).1,hy.dat (zbg e2).1,(zbg e1).2,(zbg e2).2,k _ H G Al.refl (.bl _)⟩
theorem zyu (hK:B.K=K):OpD B (zBe K) oNe:=by
 subst hK;intro H G x y dx dy z Q hx hy e k;obtain ⟨p,q,e1,e2,e3⟩:=zjx e;cases e3
 exact ⟨p,q,hx.dat (zbg e1).1,hy.dat (zbg e2).1,(zbg e1).2,(zbg e2).2,k _ H G Al.refl (.bl _)⟩
def inB:D->D->Option Bool
 | .str a,.str b=>some (!(Builtin.Str.occurrences b a 0 b.length 1).isEmpty)
 | x,.lst ys=>(D.dats ys).bind λps=>(shp x).bind λp=>if SeqAt.shaped (.list ps)=true then some (ps.any λe=>PyData.eqv e p) else none
 | x,.fz ys=>(D.dats ys).bind λps=>(shp x).bind λp=>if SeqAt.shaped (.list ps)=true then some (ps.any λe=>PyData.eqv e p) else none
 | x,.tup ys=>(D.dats ys).bind λps=>(shp x).bind λp=>if SeqAt.shaped (.list ps)=true then some (ps.any λe=>PyData.eqv e p) else none
 | x,.kt ys=>(D.dats ys).bind λps=>(shp x).bind λp=>if SeqAt.shaped (.list ps)=true then some (ps.any λe=>PyData.eqv e p) else none
 | _,_=>none
def oIn:D->D->Option D:=λx y=>(inB x y).map λb=>.bl b
def ze3:D->D->Option D:=λx y=>(inB x y).map λb=>.bl (!b)
theorem zpH {H:Hp} {G:Addr->Prop} {x y:V} {dx dy:D} {c:Bool} (hx:DA B H G x dx) (hy:DA B H G y dy) (e:inB dx dy=some c) :
  (∃ i j,x=.str i/\y=.str j/\c=(!(Builtin.Str.occurrences j i 0 j.length 1).isEmpty))\/∃ ds d,(DAt B.K H y (.list ds)\/DAt B.K H y (.tuple ds))/\DAt B.K H x d/\SeqAt.shaped (.list ds)=true/\SeqAt.shaped d=true/\c=(ds.any λe=>PyData.eqv e d):=by
 have fin:∀ {ys:List D} {vs:List V},DAs B H G vs ys->(∀ ps,DAts B.K H vs ps->DAt B.K H y (.list ps)\/DAt B.K H y (.tuple ps))->((D.dats ys).bind λps=>(shp dx).bind λp=>if SeqAt.shaped (.list ps)=true then some (ps.any λe=>PyData.eqv e p) else none)=some c->
   ∃ ds d,(DAt B.K H y (.list ds)\/DAt B.K H y (.tuple ds))/\DAt B.K H x d/\SeqAt.shaped (.list ds)=true/\SeqAt.shaped d=true/\c=(ds.any λe=>PyData.eqv e d):=λr mk e=>by
  obtain ⟨ps,p,e1,e2,e3⟩:=zjx e;split at e3
  ·cases e3
   exact ⟨ps,p,mk ps (r.dats e1),hx.dat (zbg e2).1,by assumption,(zbg e2).2,rfl⟩
  ·cases e3
 unfold inB at e;split at e
 ·cases e; cases hx; cases hy; exact .inl ⟨_,_,rfl,rfl,rfl⟩
 ·cases hy with
  | lst h r=>exact .inr (fin r (λps q=>.inl (.lst h.sq q)) e)
 ·cases hy with
  | fz h r=>exact .inr (fin r (λps q=>.inl (.lst h.sq q)) e)
 ·cases hy with
  | tup h r=>exact .inr (fin r (λps q=>.inr (.tup h.sq q)) e)
 ·cases hy with
  | kt h r=>exact .inr (fin r (λps q=>.inr (.tup h.sq q)) e)
 ·cases e
theorem zBq (hK:B.K=K):OpD B (zCJ K) oIn:=by
 subst hK;intro H G x y dx dy z Q hx hy e k;unfold oIn at e;rw [Option.map_eq_some_iff] at e;obtain ⟨c,e1,rfl⟩:=e;rcases zpH hx hy e1 with ⟨i,j,rfl,rfl,rfl⟩ | ⟨ds,d,h1,h2,h3,h4,rfl⟩
 ·exact .inl ⟨i,j,rfl,rfl,k _ H G Al.refl (.bl _)⟩
 ·exact .inr ⟨ds,d,h1,h2,h3,h4,k _ H G Al.refl (.bl _)⟩
theorem zr2 (hK:B.K=K):OpD B (zpo K) ze3:=by
 subst hK;intro H G x y dx dy z Q hx hy e k;unfold ze3 at e;rw [Option.map_eq_some_iff] at e;obtain ⟨c,e1,rfl⟩:=e;rcases zpH hx hy e1 with ⟨i,j,rfl,rfl,rfl⟩ | ⟨ds,d,h1,h2,h3,h4,rfl⟩
 ·exact .inl ⟨i,j,rfl,rfl,k _ H G Al.refl (.bl _)⟩
 ·exact .inr ⟨ds,d,h1,h2,h3,h4,k _ H G Al.refl (.bl _)⟩
def D.isNon:D->Bool
 | .non=>true
 | _=>false
theorem DA.isNon {H:Hp} {G:Addr->Prop} {x:V} {d:D} (h:DA B H G x d):decide (x=.non)=d.isNon:=by cases h <;> rfl
def oIs:D->D->Option D:=λa b=>if b.isNon=true then some (.bl a.isNon) else none
def zhw:D->D->Option D:=λa b=>if b.isNon=true then some (.bl (!a.isNon)) else none
theorem zBr:OpD B (λx y H Q=>y=.non/\Q (.bl (decide (x=.non))) H) oIs:=by
 intro H G x y dx dy z Q hx hy e k;unfold oIs at e;split at e
 ·cases e
  rename_i h
  rw [hx.isNon];refine ⟨?_,k _ H G Al.refl (.bl _)⟩;rw [<- hy.isNon] at h;exact of_decide_eq_true h
 ·cases e
theorem zve:OpD B (λx y H Q=>y=.non/\Q (.bl (!decide (x=.non))) H) zhw:=by
 intro H G x y dx dy z Q hx hy e k;unfold zhw at e;split at e
 ·cases e
  rename_i h
  rw [hx.isNon];refine ⟨?_,k _ H G Al.refl (.bl _)⟩;rw [<- hy.isNon] at h;exact of_decide_eq_true h
 ·cases e
@[simp] def oIx:D->D->Option D
 | .lst xs,.int i=>atI xs i
 | .tup xs,.int i=>atI xs i
 | .kt xs,.int i=>atI xs i
 | .fz xs,.int i=>atI xs i
 | .str z,.int i=>if z.length<=sizeLine then (atI z.cps.toList i).map λc=>.str ⟨#[c]⟩ else none
 | _,_=>none
theorem zkF {H:Hp} {G:Addr->Prop} {vs:List V} {ds:List D} {i:Int} {d:D} (r:DAs B H G vs ds) (e:atI ds i=some d):∃ v,atI vs i=some v/\DA B H G v d:=by
 unfold atI at e ⊢;obtain ⟨j,e1,e2⟩:=zbH e;rw [r.length,e1];exact r.get e2
theorem zBs (hK:B.K=K):OpD B (rIx K) oIx:=by
 subst hK;intro H G x y dx dy z Q hx hy e k;unfold oIx at e;split at e
 ·cases hy
  cases hx with
  | lst h r=>obtain ⟨v,e1,d1⟩:=zkF r e; exact .inl ⟨_,_,_,v,rfl,rfl,h.sq,e1,k v H G Al.refl d1⟩
 ·cases hy
  cases hx with
  | tup h r=>obtain ⟨v,e1,d1⟩:=zkF r e; exact .inr (.inl ⟨_,_,_,v,rfl,rfl,h.sq,e1,k v H G Al.refl d1⟩)
 ·cases hy
  cases hx with
  | kt h r=>obtain ⟨v,e1,d1⟩:=zkF r e; exact .inr (.inl ⟨_,_,_,v,rfl,rfl,h.sq,e1,k v H G Al.refl d1⟩)
 ·cases hy
  cases hx with
  | fz h r=>obtain ⟨v,e1,d1⟩:=zkF r e; exact .inl ⟨_,_,_,v,rfl,rfl,h.sq,e1,k v H G Al.refl d1⟩
 ·split at e
  ·rw [Option.map_eq_some_iff] at e;obtain ⟨c,e1,rfl⟩:=e;cases hx; cases hy
   exact .inr (.inr ⟨_,_,c,rfl,rfl,by assumption,e1,k _ H G Al.refl (.str _)⟩)
  ·cases e
 ·cases e
def zyv (K:W.Frag):List V->Hp->VK->Prop:=λxs H Q=>zyd K xs H Q\/(∃ a kvs,xs=[V.ref a]/\H a=some (.dK kvs)/\Q (.int kvs.length) H)\/zyb xs H Q
theorem zpI {X:Cx} (hK:X.K=K):CallR X (.builtin "len") (zyv K):=(zpq hK).or (zo9.or zpl)
@[simp] def zbK:List D->Option SV
 | [.lst xs]=>some (.sh (.int xs.length))
 | [.tup xs]=>some (.sh (.int xs.length))
 | [.kt xs]=>some (.sh (.int xs.length))
 | [.fz xs]=>some (.sh (.int xs.length))
 | [.str z]=>if z.length<=sizeLine then some (.sh (.int z.length)) else none
 | [.dT kvs]=>some (.sh (.int kvs.length))
 | [.dK kvs]=>some (.sh (.int kvs.length))
 | [.dZ kvs]=>some (.sh (.int kvs.length))
 | _=>none
theorem zBt (hK:B.K=K):zf4 B (zyv K) zbK:=by
 subst hK;intro H G vs ds z Q hg hd e k;unfold zbK at e;split at e
 ·cases e
  obtain ⟨v,rfl,d1⟩:=hd.one;cases d1 with
  | lst h r=>exact .inl (.inl ⟨_,_,rfl,.inl ⟨_,h.sq,rfl⟩,by rw [r.length]; exact k _ H G [] Al.refl ⟨rfl,.int _⟩ (by simp)⟩)
 ·cases e
  obtain ⟨v,rfl,d1⟩:=hd.one;cases d1 with
  | tup h r=>exact .inl (.inl ⟨_,_,rfl,.inr ⟨_,h.sq,rfl⟩,by rw [r.length]; exact k _ H G [] Al.refl ⟨rfl,.int _⟩ (by simp)⟩)
 ·cases e
  obtain ⟨v,rfl,d1⟩:=hd.one;cases d1 with
  | kt h r=>exact .inl (.inl ⟨_,_,rfl,.inr ⟨_,h.sq,rfl⟩,by rw [r.length]; exact k _ H G [] Al.refl ⟨rfl,.int _⟩ (by simp)⟩)
 ·cases e
  obtain ⟨v,rfl,d1⟩:=hd.one;cases d1 with
  | fz h r=>exact .inl (.inl ⟨_,_,rfl,.inl ⟨_,h.sq,rfl⟩,by rw [r.length]; exact k _ H G [] Al.refl ⟨rfl,.int _⟩ (by simp)⟩)
 ·split at e
  ·cases e
   obtain ⟨v,rfl,d1⟩:=hd.one;cases d1
   exact .inl (.inl ⟨_,_,rfl,⟨by assumption,rfl⟩,k _ H G [] Al.refl ⟨rfl,.int _⟩ (by simp)⟩)
  ·cases e
 ·cases e
  obtain ⟨v,rfl,d1⟩:=hd.one;cases d1 with
  | @dT a kvs _ f h ek r=>
   have hl:=congrArg List.length ek;rw [List.length_map,List.length_map] at hl;exact .inl (.inr ⟨_,_,rfl,h,by rw [hl]; exact k _ H G [] Al.refl ⟨rfl,.int _⟩ (by simp)⟩)
 ·cases e
  obtain ⟨v,rfl,d1⟩:=hd.one;cases d1 with
  | @dK a kvs _ f h ek r=>
   have hl:=congrArg List.length ek;rw [List.length_map,List.length_map] at hl;exact .inr (.inl ⟨_,_,rfl,h,by rw [hl]; exact k _ H G [] Al.refl ⟨rfl,.int _⟩ (by simp)⟩)
 ·cases e
  obtain ⟨v,rfl,d1⟩:=hd.one;cases d1 with
  | @dZ a o kvs _ f h ek r=>
   have hl:=congrArg List.length ek;rw [List.length_map,List.length_map] at hl;exact .inr (.inr ⟨_,_,_,rfl,h,by rw [hl]; exact k _ H G [] Al.refl ⟨rfl,.int _⟩ (by simp)⟩)
 ·cases e
@[simp] def D.kind:D->Option String
 | .non=>some "NoneType"
 | .bl _=>some "bool"
 | .int _=>some "int"
 | .str _=>some "str"
 | .lst _=>some "list"
 | .tup _=>some "tuple"
 | .dK _=>some "dict"
 | .dT _=>some "dict"
 | _=>none
def zAH (t n:String):Option Bool:=if n∈["int","str","bool","list","tuple","dict"] then some (t==n||(t=="bool"&&n=="int")) else none
@[simp] def zBu:List D->Option SV
 | [d,.ty n]=>d.kind.bind λt=>(zAH t n).map λb=>.sh (.bl b)
 | _=>none
theorem DA.kind {H:Hp} {G:Addr->Prop} {v:V} {d:D} {t:String} (h:DA B H G v d) (e:d.kind=some t):TyOf B.K H v (.type t)/\t∈["NoneType","bool","int","str","list","tuple","dict"]:=by
 cases h with
 | non=>cases e; exact ⟨.non,by simp⟩
 | bl b=>cases e; exact ⟨.bl b,by simp⟩
 | int i=>cases e; exact ⟨.int i,by simp⟩
 | str x=>cases e; exact ⟨.str x,by simp⟩
 | lst h r=>cases e; exact ⟨.lst h.2,by simp⟩
 | tup h r=>cases e; exact ⟨.tup h.2,by simp⟩
 | dK f h _ _=>cases e; exact ⟨.dK h,by simp⟩
 | dT f h _ _=>cases e; exact ⟨.dT h,by simp⟩
 | _=>cases e
theorem zyw {K:W.Frag} {t n:String} {b:Bool} (ht:t∈["NoneType","bool","int","str","list","tuple","dict"]) (e:zAH t n=some b):W.kitOne K (.type t) (.type n)=some b:=by
 unfold zAH at e;split at e
 ·rename_i hn
  cases e
  simp only [List.mem_cons,List.not_mem_nil,or_false] at ht hn;rcases ht with rfl | rfl | rfl | rfl | rfl | rfl | rfl <;> rcases hn with rfl | rfl | rfl | rfl | rfl | rfl <;> rfl
 ·cases e
theorem zBv (hK:B.K=K):zf4 B (zmy K) zBu:=by
 subst hK;intro H G vs ds z Q hg hd e k;unfold zBu at e;split at e
 ·rename_i d n
  obtain ⟨t,e1,e2⟩:=zbH e;rw [Option.map_eq_some_iff] at e2;obtain ⟨b,e3,rfl⟩:=e2;obtain ⟨v,w,rfl,d1,d2⟩:=hd.two;cases d2
  obtain ⟨h1,h2⟩:=d1.kind e1;exact ⟨v,n,_,b,rfl,h1,zyw h2 e3,k _ H G [] Al.refl ⟨rfl,.bl _⟩ (by simp)⟩
 ·cases e
end
def FO (B:Bk) (t:TO) (m:FSt->Option (Option Int)):Prop:=
 ∀ (S:FSt) (σ:St) (H:Hp) (F:Addr->Prop) (os:Nat->List Addr) (Q:Option Int->Hp->Prop) (c:Option Int),Rep B H F σ S os->m S=some c->
  (∀ H' F',Al H F H' F'->Rep B H' F' σ S os->Q c H')->t σ H Q
@[simp] def mNo:FSt->Option (Option Int):=λ_=>some none
@[simp] def mAt (m:FSt->Option D):FSt->Option (Option Int):=λS=>(m S).bind λd=>match d with
 | .int i=>some (some i)
 | _=>none
def zeX {α:Type} (xs:List α) (lo hi:Option Int):List α:=(xs.drop (HT.sIx xs.length 0 lo)).take (HT.sIx xs.length xs.length hi-HT.sIx xs.length 0 lo)
@[simp] def oSl:D->Option Int->Option Int->Option SV
 | .lst xs,lo,hi=>some (.li (zeX xs lo hi))
 | .fz xs,lo,hi=>some (.li (zeX xs lo hi))
 | .str z,lo,hi=>if z.length<=sizeLine then some (.sh (.str (Txt.slice z lo hi))) else none
 | .tup xs,lo,hi=>if HT.sIx xs.length 0 lo=0/\HT.sIx xs.length xs.length hi=xs.length then none else some (.sh (.tup (zeX xs lo hi)))
 | .kt xs,lo,hi=>if HT.sIx xs.length 0 lo=0/\HT.sIx xs.length xs.length hi=xs.length then none else some (.sh (.tup (zeX xs lo hi)))
 | _,_,_=>none
@[simp] def mSl (a:FSt->Option D) (l h:FSt->Option (Option Int)):FSt->Option SV:=λS=>(a S).bind λd=>(l S).bind λlo=>(h S).bind λhi=>oSl d lo hi
section
variable {B:Bk} {te:TE} {L:List Nat} {md:FSt->Option D} {tl th:TO} {ml mh:FSt->Option (Option Int)} {K:W.Frag}
theorem zvf:FO B zo4 mNo:=λS σ H F os Q c r e k=>by cases e; exact k H F Al.refl r
theorem zvg (h:FD B te L md):FO B (zxM te) (mAt md):=by
 intro S σ H F os Q c r e k;obtain ⟨d,e1,e2⟩:=zbH e;refine h S σ H F os _ d r e1 λv H' F' a r' da=>?_;cases d with
 | int i=>cases e2; cases da; exact ⟨_,rfl,k H' F' a r'⟩
 | _=>cases e2
theorem DAs.cut {H:Hp} {F:Addr->Prop} {vs:List V} {ds:List D} (r:DAs B H F vs ds) (lo hi:Option Int):DAs B H F (ztd vs lo hi) (zeX ds lo hi):=by
 unfold ztd zeX;rw [r.length];exact (r.drop _).take _
theorem zBw (hK:B.K=K) (he:FD B te L md) (hl:FO B tl ml) (hh:FO B th mh):FE B (tSl (zCL K) te tl th) L (mSl md ml mh):=by
 subst hK;intro S σ H F os Q z r e k;obtain ⟨d,e1,e⟩:=zbH e;obtain ⟨lo,e2,e⟩:=zbH e;obtain ⟨hi,e3,e⟩:=zbH e;refine he S σ H F os _ d r e1 λv H1 F1 a1 r1 d1=>hl S σ H1 F1 os _ lo r1 e2 λH2 F2 a2 r2=>hh S σ H2 F2 os _ hi r2 e3 λH3 F3 a3 r3=>?_;have d3:DA B H3 (orF F3 (osL os L)) v d:=(d1.later a2 λ_ h=>h).later a3 λ_ h=>h;have al:=(a1.trans a2).trans a3;have fin:∀ v H' G' o,Al H3 (orF F3 (osL os L)) H' G'->VA B H' G' v z o->(∀ a,a∈o->H3 a=none)->Q v H':=λu H4 G4 o a4 va fr=>by
  obtain ⟨F4,al4,r4,va2⟩:=zfX r3 a4 va fr;refine k u H4 F4 o (al.trans al4) r4 va2 λb e=>?_;cases q:H b with
  | none=>rfl
  | some w=>have:=fr b e; rw [al.same b w q] at this; cases this
 have hg:=r3.gd L;unfold oSl at e;split at e
 ·cases e
  cases d3 with
  | lst h q=>exact .inr (.inl ⟨_,_,rfl,h.sq,λp hp=>ze2 hg hp (q.cut _ _) fin⟩)
 ·cases e
  cases d3 with
  | fz h q=>exact .inr (.inl ⟨_,_,rfl,h.sq,λp hp=>ze2 hg hp (q.cut _ _) fin⟩)
 ·split at e
  ·cases e; cases d3
   exact .inl ⟨_,rfl,by assumption,fin _ H3 _ [] Al.refl ⟨rfl,.str _⟩ (by simp)⟩
  ·cases e
 ·split at e
  ·cases e
  ·rename_i hw
   cases e
   cases d3 with
   | tup h q=>exact .inr (.inr ⟨_,_,rfl,h.sq,by rw [q.length]; exact hw,λp hp=>ziO hp (q.cut _ _) fin⟩)
 ·split at e
  ·cases e
  ·rename_i hw
   cases e
   cases d3 with
   | kt h q=>exact .inr (.inr ⟨_,_,rfl,h.sq,by rw [q.length]; exact hw,λp hp=>ziO hp (q.cut _ _) fin⟩)
 ·cases e
end
def zBx {κ α:Type} [DecidableEq κ] (kvs:List (κ×α)) (k:κ):Option α:=(kvs.find? λkv=>decide (kv.1=k)).map (·.2)
def zCW {κ α:Type} [DecidableEq κ] (kvs:List (κ×α)) (k:κ) (v:α):List (κ×α):=
 if (kvs.any λkv=>decide (kv.1=k))=true then kvs.map (λkv=>if kv.1=k then (kv.1,v) else kv) else kvs++[(k,v)]
section
variable {B:Bk} {H:Hp} {G:Addr->Prop} {κ:Type} [DecidableEq κ]
end
@[simp] def asK:D->Option Key
 | .int i=>some (.inl i)
 | .str x=>some (.inr x)
 | _=>none
@[simp] def zAI:List D->Option (List Key)
 | []=>some []
 | d :: r=>(asK d).bind λk=>(zAI r).map λks=>k :: ks
@[simp] def kD:Key->D
 | .inl i=>.int i
 | .inr x=>.str x
@[simp] def zEc:D->D->Option D
 | .dK kvs,y=>(asK y).bind (zBx kvs)
 | .dT kvs,.tup ds=>(zAI ds).bind (zBx kvs)
 | .dZ kvs,.tup ds=>(zAI ds).bind (zBx kvs)
 | _,_=>none
section
variable {B:Bk} {H:Hp} {G:Addr->Prop}
theorem zBy (k:Key):DA B H G (kV k) (kD k):=by cases k <;> constructor
theorem ztn:∀ ks:List Key,DAs B H G (ks.map kV) (ks.map kD)
 | []=>.nil
 | k :: ks=>.cons (zBy k) (ztn ks)
end
section
variable {B:Bk} {ta tb tv:TE} {La Lb Lv:List Nat} {ma mb mv:FSt->Option D}
@[simp] def mDK:FSt->Option SV:=λ_=>some (.dK [])
@[simp] def mDT:FSt->Option SV:=λ_=>some (.dT [])
theorem zvh:FE B ztf [] mDK:=by
 intro S σ H F os Q x r e k p hp;cases e
 have al:=ziE (F:=F) (u:=.dK []) hp;exact k (.ref p) _ F [p] al (r.mono al) ⟨p,[],rfl,rfl,λz=>r.gd [] p z hp,zaB,rfl,.nil⟩ λa ha=>by rw [List.mem_singleton.mp ha]; exact hp
@[simp] def zDy:SV->D->D->Option SV
 | .dK kvs,y,d=>(asK y).bind λk=>if kvs.length < sizeLine then some (.dK (zCW kvs k d)) else none
 | .dT kvs,.tup ys,d=>(zAI ys).bind λk=>if kvs.length < sizeLine then some (.dT (zCW kvs k d)) else none
 | _,_,_=>none
@[simp] def zEd (i:Nat) (L:List Nat) (mk mv:FSt->Option D):FSt->Fl:=λS=>match mv S,mk S with
 | some d,some y=>if d.plain=true\/L.any (zeP S)=false then
   match (if d.plain=true then S else frzs L S)[i]? with
   | some (some x)=>match zDy x y d with
    | some x'=>.nx ((if d.plain=true then S else frzs L S).set i (some x'))
    | none=>.bad
   | _=>.bad
  else .bad
 | _,_=>.bad
end
def zto:List V->Hp->VK->Prop:=λxs H Q=>∃ a kvs,xs=[V.ref a]/\H a=some (.dT kvs)/\∀ l ks,H l=none->Paired (λ(k:List Key) (b:Addr)=>H b=some (.tup (k.map kV))) (kvs.map (·.1)) ks->Q (.ref l) (upd H l (.lst (ks.map V.ref)))
theorem zod {X:Cx} (hc:X.calm=true):CallR X (.type "list") zto:=by
 intro pins s σ H xs us Q I r h;obtain ⟨a,kvs,rfl,ha,q⟩:=h;obtain ⟨u,rfl,ru⟩:=zir r;cases ru
 obtain ⟨z,hd,ys,rel,o,es,ep,h1,h2,h3,h4,_⟩:=zx0 I.hok ha;have hl:es.size=kvs.length:=by
  have e1:es.toList.length=ys.length:=by rw [h4,List.length_map]
  have e2:kvs.length=ys.length:=Paired.length rel;rw [Array.length_toList] at e1;omega
 refine zrV (I.ok.hd hc) hd ⟨o,h1,h2.1,h3⟩ (by rw [hl]; exact z) λh' tk acc c' kp e it=>?_;have eacc:acc.toList=(ys.map (·.2.1)).map Value.ref:=by
  refine List.ext_getElem? λi=>?_
  by_cases hi:i < acc.size
  ·obtain ⟨en,e1,e2⟩:=it.2 i acc[i] (by simp [hi]);have e3:es.toList[i]? = some en:=by simpa using e1
   rw [h4,List.getElem?_map] at e3;cases qy:ys[i]? with
   | none=>rw [qy] at e3; cases e3
   | some y=>
    rw [qy] at e3; cases e3
    have:acc.toList[i]? = some acc[i]:=by simp [hi]
    rw [this,e2,List.getElem?_map,List.getElem?_map,qy]; rfl
  ·have h5:ys.length<=i:=by
    have e1:es.toList.length=ys.length:=by rw [h4,List.length_map]
    rw [Array.length_toList] at e1;have:=it.1;omega
   rw [List.getElem?_eq_none (by simp; omega),List.getElem?_eq_none (by simp; exact h5)]
 have vals:Vals ((ys.map (·.2.1)).map V.ref) acc.toList:=by
  rw [eacc];have:∀ l:List Addr,Vals (l.map V.ref) (l.map Value.ref):=λl=>by
   induction l with
   | nil=>exact .nil
   | cons y ys ih=>exact .cons rfl ih
  exact this _
 refine ⟨.ref s.heap.objs.size,_,I.laid (t':=tk) kp (Nat.le_refl _) (show ObjOk X.prog X.w _ h' _ (.lst ((ys.map (·.2.1)).map V.ref)) from ⟨?_,acc.toList,c',vals,by simpa using e⟩),rfl,q _ _ (I.hok.fresh (Nat.le_refl _)) ?_⟩
 ·have e2:kvs.length=ys.length:=Paired.length rel;simp; omega
 ·have:∀ {l:List (List Key×V)} {m:List (List Key×Addr×Value)},KT H l m->Paired (λ(k:List Key) (b:Addr)=>H b=some (.tup (k.map kV))) (l.map (·.1)) (m.map (·.2.1)):=λ{l m} rel=>by
   unfold KT at rel
   induction rel with
   | nil=>exact .nil
   | cons h _ ih=>
    obtain ⟨e1,e2,_⟩:=h;exact .cons (by exact e2) ih
  exact this rel
def ztp (K:W.Frag):List V->Hp->VK->Prop:=λxs H Q=>zpg K xs H Q\/zto xs H Q
theorem zoe {X:Cx} {K:W.Frag} (hK:X.K=K) (hc:X.calm=true):CallR X (.type "list") (ztp K):=(zn8 hK).or (zod hc)
@[simp] def zmC:List D->Option SV
 | [.lst xs]=>some (.li xs)
 | [.fz xs]=>some (.li xs)
 | [.tup xs]=>some (.li xs)
 | [.kt xs]=>some (.li xs)
 | [.dT kvs]=>some (.li (kvs.map λkv=>.tup (kv.1.map kD)))
 | _=>none
@[simp] def ze4:List D->Option SV
 | [.lst xs]=>some (.sh (.tup xs))
 | [.fz xs]=>some (.sh (.tup xs))
 | [.tup xs]=>some (.sh (.tup xs))
 | [.kt xs]=>some (.sh (.kt xs))
 | _=>none
section
variable {B:Bk} {K:W.Frag}
theorem zyx (hK:B.K=K):zf4 B (ztp K) zmC:=by
 subst hK;intro H G vs ds z Q hg hd e k;unfold zmC at e;split at e
 ·cases e
  obtain ⟨v,rfl,d1⟩:=hd.one;cases d1 with
  | lst h r=>exact .inl ⟨_,_,rfl,.inl h.sq,λp hp=>ze2 hg hp r k⟩
 ·cases e
  obtain ⟨v,rfl,d1⟩:=hd.one;cases d1 with
  | fz h r=>exact .inl ⟨_,_,rfl,(.inl h.sq),λp hp=>ze2 hg hp r k⟩
 ·cases e
  obtain ⟨v,rfl,d1⟩:=hd.one;cases d1 with
  | tup h r=>exact .inl ⟨_,_,rfl,.inr h.sq,λp hp=>ze2 hg hp r k⟩
 ·cases e
  obtain ⟨v,rfl,d1⟩:=hd.one;cases d1 with
  | kt h r=>exact .inl ⟨_,_,rfl,.inr h.sq,λp hp=>ze2 hg hp r k⟩
 ·cases e
  obtain ⟨v,rfl,d1⟩:=hd.one;cases d1 with
  | @dT a kvs _ f h ek r=>
   rename_i es
   refine .inr ⟨_,_,rfl,h,λl ks hl pk=>?_⟩;rw [ek] at pk
   let G':Addr->Prop:=λb=>G b\/isT H b
   have al:Al H G (upd H l (.lst (ks.map V.ref))) G':=⟨zfY hl,λb z=>.inl z,λb z=>by
    rcases z with z | z
    ·exact .inl z
    ·exact .inr (.inr z)⟩
   have das:DAs B (upd H l (.lst (ks.map V.ref))) G' (ks.map V.ref) (es.map λkv=>.tup (kv.1.map kD)):=by
    have:∀ {ls:List (List Key)} {bs:List Addr},Paired (λ(k:List Key) (b:Addr)=>H b=some (.tup (k.map kV))) ls bs->DAs B (upd H l (.lst (ks.map V.ref))) G' (bs.map V.ref) (ls.map λk=>.tup (k.map kD)):=by
     intro ls bs p
     induction p with
     | nil=>exact .nil
     | cons h _ ih=>exact .cons (.tup ⟨.inr ⟨_,h⟩,al.same _ _ h⟩ (ztn _)) ih
    have:=this pk
    rwa [List.map_map] at this
   have nl:¬ G' l:=λz=>by
    rcases z with z | ⟨ys,z⟩
    ·exact hg l z hl
    ·rw [hl] at z; cases z
   exact k (.ref l) _ G' [l] al ⟨l,_,rfl,rfl,nl,zaB,das⟩ λb hb=>by rw [List.mem_singleton.mp hb]; exact hl
 ·cases e
theorem zvi (hK:B.K=K):zf4 B (ztg K) ze4:=by
 subst hK;intro H G vs ds z Q hg hd e k;unfold ze4 at e;split at e
 ·cases e
  obtain ⟨v,rfl,d1⟩:=hd.one;cases d1 with
  | lst h r=>exact ⟨_,_,rfl,.inl ⟨h.sq,λp hp=>ziO hp r k⟩⟩
 ·cases e
  obtain ⟨v,rfl,d1⟩:=hd.one;cases d1 with
  | fz h r=>exact ⟨_,_,rfl,.inl ⟨h.sq,λp hp=>ziO hp r k⟩⟩
 ·cases e
  obtain ⟨v,rfl,d1⟩:=hd.one;cases d1 with
  | tup h r=>exact ⟨_,_,rfl,.inr ⟨h.sq,k _ H G [] Al.refl ⟨rfl,.tup h r⟩ (by simp)⟩⟩
 ·cases e
  obtain ⟨v,rfl,d1⟩:=hd.one;cases d1 with
  | kt h r=>exact ⟨_,_,rfl,.inr ⟨h.sq,k _ H G [] Al.refl ⟨rfl,.kt h r⟩ (by simp)⟩⟩
 ·cases e
@[simp] def zw7:List D->Option SV
 | [.int i,.int j]=>some (.sh (.int (if j > i then j else i)))
 | _=>none
@[simp] def zAJ:List D->Option SV
 | [.int i,.int j]=>some (.sh (.int (if j < i then j else i)))
 | _=>none
@[simp] def zyy:List D->Option SV
 | [.int i]=>some (.sh (.int i))
 | [.bl b]=>some (.sh (.int (if b then 1 else 0)))
 | _=>none
theorem zBz:zf4 B (λxs H Q=>∃ i j,xs=[.int i,.int j]/\Q (.int (if j > i then j else i)) H) zw7:=by
 intro H G vs ds z Q hg hd e k;unfold zw7 at e;split at e
 ·cases e
  obtain ⟨v,w,rfl,d1,d2⟩:=hd.two;cases d1; cases d2
  exact ⟨_,_,rfl,k _ H G [] Al.refl ⟨rfl,.int _⟩ (by simp)⟩
 ·cases e
theorem zBA:zf4 B (λxs H Q=>∃ i j,xs=[.int i,.int j]/\Q (.int (if j < i then j else i)) H) zAJ:=by
 intro H G vs ds z Q hg hd e k;unfold zAJ at e;split at e
 ·cases e
  obtain ⟨v,w,rfl,d1,d2⟩:=hd.two;cases d1; cases d2
  exact ⟨_,_,rfl,k _ H G [] Al.refl ⟨rfl,.int _⟩ (by simp)⟩
 ·cases e
theorem zyz:zf4 B (λxs H Q=>(∃ i,xs=[.int i]/\Q (.int i) H)\/∃ k,xs=[.bl k]/\Q (.int (if k then 1 else 0)) H) zyy:=by
 intro H G vs ds z Q hg hd e k;unfold zyy at e;split at e
 ·cases e
  obtain ⟨v,rfl,d1⟩:=hd.one;cases d1
  exact .inl ⟨_,rfl,k _ H G [] Al.refl ⟨rfl,.int _⟩ (by simp)⟩
 ·cases e
  obtain ⟨v,rfl,d1⟩:=hd.one;cases d1
  exact .inr ⟨_,rfl,k _ H G [] Al.refl ⟨rfl,.int _⟩ (by simp)⟩
 ·cases e
end
section
variable {B:Bk} {ta tb te:TE} {L L' La Lb:List Nat} {ma mb md:FSt->Option D} {me:FSt->Option SV} {tr:TA} {mr:FSt->Option (List D)} {K:W.Frag}
theorem FE.wk (h:FE B ta L me) (hl:∀ i,i∈L->i∈L'):FE B ta L' me:=by
 intro S σ H F os Q x r e k;refine h S σ H F os Q x r e λv H' F' o a r' va fr=>k v H' F' o a r' (va.sub (ze0 (λ_ h=>h) hl) λb e q=>?_) fr;rcases q with q | ⟨i,_,q⟩
 ·exact (va.alive e).2.1 (.inl q)
 ·exact (r.alive q).1 (fr b e)
theorem FD.wk (h:FD B ta L ma) (hl:∀ i,i∈L->i∈L'):FD B ta L' ma:=by
 intro S σ H F os Q x r e k;exact h S σ H F os Q x r e λv H' F' a r' da=>k v H' F' a r' (da.mono (λ_ _ _ e=>e) (ze0 (λ_ h=>h) hl))
theorem ziP {L L':List Nat} (h:(L.all λi=>L'.contains i)=true):∀ i,i∈L->i∈L':=λi hi=>by
 have:=List.all_eq_true.mp h i hi
 simpa using this
theorem zpJ {i:Nat} (L':List Nat) (he:FE B te L me) (hl:(L.all λi=>L'.contains i)=true:=by rfl):FS B (zuk te (zmr i)) (zcU i L' me):=zyp (he.wk (ziP hl))
theorem zyA {i:Nat} (L':List Nat) (hK:B.K=K) (he:FD B te L md) (hl:(L.all λi=>L'.contains i)=true:=by rfl):FS B (zug (tBM K "list" zmv (zrv i) (zn4 te ztc))) (zu4 i L' md):=zyq hK (he.wk (ziP hl))
@[simp] def zDz:SV->Option (List D)
 | .li xs=>some xs
 | _=>none
@[simp] def mLs (a:FSt->Option SV) (r:FSt->Option (List (List D))):FSt->Option (List (List D)):=λS=>(a S).bind λx=>(zDz x).bind λxs=>(r S).map λxss=>xs :: xss
@[simp] def zEe:FSt->Option (List (List D)):=λ_=>some []
@[simp] def mLl (r:FSt->Option (List (List D))):FSt->Option SV:=λS=>(r S).bind λxss=>if xss.length<=sizeLine then some (.ll xss) else none
@[simp] def zCX (i:Nat) (mk md:FSt->Option D):FSt->Fl:=λS=>match S[i]?,mk S,md S with
 | some (some (.ll xss)),some (.int k),some d=>if d.plain=true then (match ixN xss.length k with
   | some j=>match xss[j]? with
    | some xs=>if xs.length < sizeLine then .nx (S.set i (some (.ll (xss.set j (xs++[d]))))) else .bad
    | none=>.bad
   | none=>.bad) else .bad
 | _,_,_=>.bad
end
@[simp] def zyB (L:List Nat) (me:FSt->Option SV) (mg:D->FSt->Option FSt):FSt->Fl:=λS=>match me S with
 | some x=>if x.plain=true then (match mg x.fr S with | some S'=>.nx S' | none=>.bad) else if L.any (zeP S)=false then (match mg x.fr (frzs L S) with | some S'=>.nx S' | none=>.bad) else .bad
 | none=>.bad
section
variable {B:Bk} {te:TE} {L:List Nat} {me:FSt->Option SV} {g:TG} {mg:D->FSt->Option FSt}
theorem zyC (he:FE B te L me) (hg:FG B g mg):FS B (zuk te g) (zyB L me mg):=by
 intro S σ H F os E r h;unfold zyB at h;cases q:me S with
 | none=>rw [q] at h; exact h.elim
 | some x=>
  rw [q] at h;dsimp only at h;refine he S σ H F os _ x r q λv H' F' o a r' va fr=>?_;have al:∀ {F0:Addr->Prop},Al H F0 H' F'->Al H F0 H' (λb=>F' b\/b∈o):=λ{F0} a=>⟨a.same,λb z=>.inl (a.up b z),λb z=>by
   rcases z with z | z
   ·exact a.new b z
   ·exact .inr (.inl ⟨fr b z,(va.alive z).1⟩)⟩
  have r2:=r.mono (al a);have st:FStep σ S H F os σ S H' (λb=>F' b\/b∈o) os:=(al a).step;split at h
  ·rename_i p
   have va':=va.toF r' p;have da:DA B H' (λb=>F' b\/b∈o) v x.fr:=va'.frozen (λb z=>.inl z) λb z=>.inr z;split at h
   ·rename_i S' e
    exact hg S σ H' _ os v x.fr S' _ r2 da e λσ' os' st2 r3=>h σ' H' _ os' (st.trans st2) r3
   ·exact h.elim
  ·split at h
   ·rename_i nl
    have r3:=r2.frz L;have da:DA B H' (orF (λb=>F' b\/b∈o) (osL os L)) v x.fr:=va.frozen (λb z=>by
     rcases z with z | z
     ·exact .inl (.inl z)
     ·exact .inr z) λb z=>.inl (.inr z)
    split at h
    ·rename_i S' e
     exact hg _ σ H' _ _ v x.fr S' _ r3 da e λσ' os' st2 r4=>h σ' H' _ os' ((st.trans (zkC r2 nl)).trans st2) r4
    ·exact h.elim
   ·exact h.elim
end
@[simp] noncomputable def mR1 (mr:FSt->Option (List D)):FSt->Option (List D):=λS=>(mr S).bind λds=>if ds.length=1 then ztl ds else none
@[simp] noncomputable def mR2 (mr:FSt->Option (List D)):FSt->Option (List D):=λS=>(mr S).bind λds=>if ds.length=2 then ztl ds else none
section
variable {B:Bk} {tr:TA} {L:List Nat} {mr:FSt->Option (List D)}
theorem zvj (hr:FA B tr L mr):FI B (zum tr) (mR1 mr):=zva hr
end
theorem zah {m:FSt->Fl} {n k:Nat}:∀ ds z,zbY m n k ds=some z->ds.length=n:=λ_ _ h=>zr1 h
theorem Fun.okF {P : Program} {w : World} {K : W.Frag} {mg : Str -> Option Value} {base : Heap} {x qual : Str} {st : Stmt} {f : Addr} {fd : FuncData} {N ps : List Str} {k : Nat} {B : Bk} {m : FSt -> Fl} (F : Fun K x qual st f fd) (S : FnScope N ps (zad st))
    (hbody : ∀ (cdv : Value) (A : Around) (outer : List Env) (s : Shared) (H : Hp) (E : XK), Room k (A.deeper (envOfC qual (zad st) s.heap.objs.size f cdv)) ->
      ∃ t, PSs (zmt CX0 P w K mg base N qual (zad st) f cdv A outer s H E).nox (zbc st) t /\ FS B t m) : FnOk P w K mg base CX0 (k + 1) f fd ps (SpF B ps.length (zbY m ps.length N.length)) := by
  obtain ⟨oc, od, kV, doc, pm, an, cdv, ct, osl, rfl, lk, hcd⟩ := F.ex;refine zDx lk hcd S λA outer s H E hr => ?_;obtain ⟨t, h, q⟩ := hbody cdv A outer s H E hr;exact ⟨t, h.nox, q⟩
def zlC (K:W.Frag):Sp:=λvs H Q _=>∃ (a:Addr) (ns:List Int),vs=[.ref a]/\SqL K H a (ns.map V.int)/\zAF H/\ns.length<=63/\∀ H',Q (.bl true) H'
theorem zpK {B:Bk} {H:Hp} {G:Addr->Prop}:∀ ns:List Int,DAs B H G (ns.map V.int) (ns.map D.int)
 | []=>.nil
 | n :: ns=>.cons (.int n) (zpK ns)
theorem zpL {K:W.Frag} {B:Bk} {f:List D->Option SV} (hK:B.K=K) (h:∀ ns:List Int,ns.length<=63->f [.fz (ns.map D.int)]=some (.sh (.bl true))):∀ vs H Q E,zlC K vs H Q E->SpF B 1 f vs H Q E:=by
 subst hK;rintro vs H Q E ⟨a,ns,rfl,hs,ho,hl,k⟩;refine ⟨rfl,λb=>H b≠none,[.fz (ns.map D.int)],.sh (.bl true),λ_ z=>z,.cons (.fz ?_ (zpK ns)) .nil,h ns hl,λv H' G' o _ va _=>?_⟩
 ·rcases hs with (hs | ⟨o,hs⟩) | hs
  ·rcases ho a with z | ⟨o,xs,z⟩
   ·rw [hs] at z; cases z
   ·rw [hs] at z; cases z
  ·exact .inl ⟨by show H a≠none; rw [hs]; simp,o,hs⟩
  ·exact .inr hs
 ·obtain ⟨_,da⟩:=va;cases da
  exact k H'
theorem PE.or {X:Cx} {e:Expr} {t t':TE} (h:PE X e t) (h':PE X e t'):PE X e (λσ H Q=>t σ H Q\/t' σ H Q):=by
 intro pins s σ H Q I q;rcases q with q | q
 ·exact h pins s σ H Q I q
 ·exact h' pins s σ H Q I q
section
variable {B:Bk} {te:TE} {L:List Nat} {md:FSt->Option D} {K:W.Frag}
theorem VA.fields {H:Hp} {F:Addr->Prop} {v:V} {x:SV} {o:List Addr} {c:Nat} {fs:List (Str×D)} (h:VA B H F v x o) (e:x.fr=.ins c fs):∃ a dx ws,v=.ref a/\H a=some (.ins (B.cl c) dx ws)/\ws.map (·.1)=fs.map (·.1)/\DAs B H F (ws.map (·.2)) (fs.map (·.2)):=by
 cases x with
 | sh d=>
  obtain ⟨_,da⟩:=h;cases e
  cases da with
  | ins f hh he r=>exact ⟨_,_,_,rfl,hh,he,r⟩
 | ob c' fs'=>
  cases e
  obtain ⟨a,dx,ws,rfl,_,_,hh,he,r⟩:=h;exact ⟨a,dx,ws,rfl,hh,he,r⟩
 | _=>cases e
theorem zvk {cs:List Nat} {f:Str} {i:Nat} (hK:B.K=K) (hc:∀ c∈cs,Cls B.K (B.cl c)/\NoAttr B.K (B.cl c) f):FD B (zA6 K (zrv i) f) [] (m1 (zdu cs f) (mV i)):=by
 subst hK;intro S σ H F os Q z r e k;obtain ⟨d,ed,ef⟩:=zbH e;cases d with
 | ins c fs=>
  have ef:(if c∈cs then fs.lookup f else none)=some z:=ef;split at ef
  ·rename_i h
   unfold mV at ed;cases q:S[i]? with
   | none=>rw [q] at ed; cases ed
   | some y=>cases y with
    | none=>rw [q] at ed; cases ed
    | some x=>
     rw [q] at ed;have ed:x.fr=.ins c fs:=Option.some.inj ed;obtain ⟨v,h1,h2⟩:=r.at' i x q;obtain ⟨a,dx,ws,rfl,hh,he,rr⟩:=h2.fields ed;obtain ⟨w,e1,e2⟩:=(zhv he rr f).1 z ef;exact ⟨.ref a,h1,a,_,dx,ws,w,rfl,hh,(hc c h).1,(hc c h).2,e1,k w H F Al.refl r (e2.mono (λ_ _ _ e=>e) λ_ z=>.inl z)⟩
  ·cases ef
 | _=>cases ef
def zga (f:Str) (v:D):List (Str×D)->List (Str×D)
 | []=>[(f,v)]
 | (g,x) :: r=>if g=f then (g,v) :: r else (g,x) :: zga f v r
theorem zkG {H:Hp} {G:Addr->Prop} {f:Str} {v:V} {d:D} (h:DA B H G v d):∀ {ws:List (Str×V)} {fs:List (Str×D)},ws.map (·.1)=fs.map (·.1)->DAs B H G (ws.map (·.2)) (fs.map (·.2))->
  (ziD f v ws).map (·.1)=(zga f d fs).map (·.1)/\DAs B H G ((ziD f v ws).map (·.2)) ((zga f d fs).map (·.2))
 | [],[],_,_=>⟨rfl,.cons h .nil⟩
 | [],_ :: _,e,_=>by simp at e
 | _ :: _,[],e,_=>by simp at e
 | (g,x) :: ws,(g',y) :: fs,e,r=>by
  simp only [List.map_cons,List.cons.injEq] at e r;obtain ⟨e1,e2⟩:=e;subst e1;cases r with
  | cons h1 r=>
   obtain ⟨i1,i2⟩:=zkG h e2 r
   by_cases c:g=f
   ·simp only [ziD,zga,if_pos c,List.map_cons];exact ⟨by rw [e2],.cons h r⟩
   ·simp only [ziD,zga,if_neg c,List.map_cons];exact ⟨by rw [i1],.cons h1 i2⟩
@[simp] def zeY (i:Nat) (cs:List Nat) (f:Str) (L:List Nat) (md:FSt->Option D):FSt->Fl:=λS=>match md S with
 | some d=>if d.plain=true\/L.any (zeP S)=false then
   match (if d.plain=true then S else frzs L S)[i]? with
   | some (some (.ob c fs))=>if c∈cs/\fs.length < 1000 then .nx ((if d.plain=true then S else frzs L S).set i (some (.ob c (zga f d fs)))) else .bad
   | _=>.bad
  else .bad
 | none=>.bad
theorem zyD {cs:List Nat} {f:Str} {i:Nat} (hK:B.K=K) (hc:∀ c∈cs,Cls B.K (B.cl c)/\NoAttr B.K (B.cl c) f) (he:FD B te L md):FS B (zAE K (zrv i) te f) (zeY i cs f L md):=by
 subst hK;intro S σ H F os E r h;unfold zeY at h;cases q:md S with
 | none=>rw [q] at h; exact h.elim
 | some d=>
  rw [q] at h;dsimp only at h;split at h
  case isFalse=>exact h.elim
  case isTrue c0=>
   split at h
   case h_2=>exact h.elim
   case h_1 c fs hx=>
    split at h
    case isFalse=>exact h.elim
    case isTrue hz=>
     have hS:S[i]? = some (some (.ob c fs))/\(d.plain=true\/i∉L):=by
      by_cases p:d.plain=true
      ·rw [if_pos p] at hx; exact ⟨hx,.inl p⟩
      ·rw [if_neg p,zbQ] at hx
       by_cases hi:i∈L
       ·rw [if_pos hi] at hx;cases e:S[i]? with
        | none=>rw [e] at hx; cases hx
        | some z=>cases z with
         | none=>rw [e] at hx; cases hx
         | some y=>rw [e] at hx; cases hx
       ·rw [if_neg hi] at hx; exact ⟨hx,.inr hi⟩
     obtain ⟨v,hv,_⟩:=r.at' i _ hS.1;refine he S σ H F os _ d r q λw H' F' al r' da=>⟨v,hv,?_⟩
     obtain ⟨v',hv',a,dx,ws,e1,eo,nf,hh,en,das⟩:=r'.at' i _ hS.1;rw [hv] at hv'; cases hv'; subst e1
     have hlen:ws.length < 1000:=by have:=congrArg List.length en; simp at this; omega
     refine ⟨a,_,dx,ws,rfl,hh,(hc c hz.1).1,(hc c hz.1).2,hlen,?_⟩;have st1:FStep σ S H F os σ S H' F' os:=al.step;have em:a∈os i:=by rw [eo]; simp
     by_cases p:d.plain=true
     ·rw [if_pos p] at h;have da':=da.toF r' p;have hk:∀ b o,F' b->H' b=some o->upd H' a (.ins (B.cl c) dx (ziD f w ws)) b=some o:=λb o f h=>by rw [zas]; exact h; rintro rfl; exact nf f
      obtain ⟨p1,p2⟩:=zkG (f:=f) da' en das;have r2:=r'.write (u:=.ins (B.cl c) dx (ziD f w ws)) (x:=.ob c (zga f d fs)) em hv ⟨a,dx,_,rfl,eo,nf,zaB,p1,p2.mono hk λ_ h=>h⟩;exact h σ _ F' os (st1.trans (zd6 em (.inr (.inl ⟨c,fs,_,hS.1,rfl⟩)))) r2
     ·rw [if_neg p] at h;have hi:=hS.2.resolve_left p;have c':=c0.resolve_left p;have r1:=r'.frz L;have eo1:(λj=>if j∈L then [] else os j) i=[a]:=by show (if i∈L then [] else os i)=_; rw [if_neg hi]; exact eo
      have em1:a∈(λj=>if j∈L then [] else os j) i:=by rw [eo1]; simp
      have nf1:¬ orF F' (osL os L) a:=λz=>by
       rcases z with z | ⟨k,hk,z⟩
       ·exact nf z
       ·exact hi (r.inj i k a em z▸hk)
      have hk:∀ b o,orF F' (osL os L) b->H' b=some o->upd H' a (.ins (B.cl c) dx (ziD f w ws)) b=some o:=λb o f h=>by rw [zas]; exact h; rintro rfl; exact nf1 f
      have das0:DAs B H' (orF F' (osL os L)) (ws.map (·.2)) (fs.map (·.2)):=das.mono (λ_ _ _ e=>e) λ_ z=>.inl z;obtain ⟨p1,p2⟩:=zkG (f:=f) da en das0;have r2:=r1.write (u:=.ins (B.cl c) dx (ziD f w ws)) (x:=.ob c (zga f d fs)) em1 hv ⟨a,dx,_,rfl,eo1,nf1,zaB,p1,p2.mono hk λ_ h=>h⟩;have e1:(frzs L S)[i]? = some (some (.ob c fs)):=by rw [zbQ,if_neg hi]; exact hS.1
      exact h σ _ _ _ ((st1.trans (zkC r' c')).trans (zd6 em1 (.inr (.inl ⟨c,fs,_,e1,rfl⟩)))) r2
theorem zyE {cs:List Nat} {f:Str} {i:Nat} (L':List Nat) (hK:B.K=K) (hc:∀ c∈cs,Cls B.K (B.cl c)/\NoAttr B.K (B.cl c) f) (he:FD B te L md) (hl:(L.all λi=>L'.contains i)=true:=by rfl):FS B (zAE K (zrv i) te f) (zeY i cs f L' md):=zyD hK hc (he.wk (ziP hl))
end
def SpI (B:Bk) (n:Nat) (f:Nat->List D->Option (List (Str×D))):Sp:=λvs H Q _=>vs.length=n/\∃ (G:Addr->Prop) (c:Nat) (x dx:Addr) (vs':List V) (ds:List D) (fs:List (Str×D)),vs=.ref x :: vs'/\(∀ b,G b->H b≠none)/\¬ G x/\
 H x=some (.ins (B.cl c) dx [])/\DAs B H G vs' ds/\f c ds=some fs/\∀ H' G' dx' ws,(∀ b u,H b=some u->b≠x->H' b=some u)->(∀ b,G b->G' b)->(∀ b,G' b->G b\/(H b=none/\H' b≠none)\/isT H b)->¬ G' x->
  H' x=some (.ins (B.cl c) dx' ws)->ws.map (·.1)=fs.map (·.1)->DAs B H' G' (ws.map (·.2)) (fs.map (·.2))->Q .non H'
def zj1 (m:FSt->Fl) (n k:Nat) (c:Nat) (ds:List D):Option (List (Str×D)):=if ds.length+1=n then (match m (some (.ob c []) :: (ds.map (λd=>some (.sh d))++List.replicate (k-n) none)) with
 | .nx S=>match S[0]? with
  | some (some (SV.ob c' fs))=>if c'=c then some fs else none
  | _=>none
 | _=>none) else none
theorem znw {m:FSt->Fl} {n k c:Nat} {ds:List D} {z:List (Str×D)} (h:zj1 m n k c ds=some z):ds.length+1=n:=by
 unfold zj1 at h;split at h
 ·assumption
 ·cases h
theorem zof {B:Bk} {H:Hp} {G:Addr->Prop} {N:List Str} {vs:List V} {ds:List D} {x dx:Addr} {c:Nat} (hg:∀ b,G b->H b≠none) (hx:¬ G x) (hh:H x=some (.ins (B.cl c) dx [])) (da:DAs B H G vs ds) (hn:vs.length+1<=N.length) :
  Rep B H G (zgY N (.ref x :: vs)) (some (.ob c []) :: (ds.map (λd=>some (.sh d))++List.replicate (N.length-(ds.length+1)) none)) (λi=>if i=0 then [x] else []):=by
 have hs:zgY N (.ref x :: vs)=some (.ref x) :: (vs.map some++List.replicate (N.length-(vs.length+1)) none):=rfl;refine ⟨λi y h=>?_,λi h=>?_,λi j a e1 e2=>?_,hg,?_⟩
 ·cases i with
  | zero=>
   cases h
   exact ⟨.ref x,by rw [hs]; rfl,x,dx,[],rfl,rfl,hx,hh,rfl,.nil⟩
  | succ i=>
   rw [hs];rw [List.getElem?_cons_succ] at h ⊢
   by_cases hi:i < ds.length
   ·rw [List.getElem?_append_left (by simpa using hi),List.getElem?_map] at h;cases q:ds[i]? with
    | none=>rw [q] at h; cases h
    | some d=>
     rw [q] at h; cases h
     obtain ⟨v,e,da'⟩:=da.get q;refine ⟨v,?_,rfl,da'⟩;rw [List.getElem?_append_left (by simp; rw [da.length]; exact hi),List.getElem?_map,e]; rfl
   ·rw [List.getElem?_append_right (by simpa using hi)] at h;rw [List.getElem?_replicate] at h;split at h <;> cases h
 ·cases i with
  | zero=>exact absurd rfl (h _)
  | succ i=>rfl
 ·have e1:a∈(if i=0 then [x] else []):=e1;have e2:a∈(if j=0 then [x] else []):=e2;split at e1
  ·split at e2
   ·omega
   ·simp at e2
  ·simp at e1
 ·rw [hs];have:=da.length;simp;omega
theorem Fun.okI {P : Program} {w : World} {K : W.Frag} {mg : Str -> Option Value} {base : Heap} {x qual : Str} {st : Stmt} {f : Addr} {fd : FuncData} {N ps : List Str} {k : Nat} {B : Bk} {m : FSt -> Fl} (F : Fun K x qual st f fd) (S : FnScope N ps (zad st))
    (hbody : ∀ (cdv : Value) (A : Around) (outer : List Env) (s : Shared) (H : Hp) (E : XK), Room k (A.deeper (envOfC qual (zad st) s.heap.objs.size f cdv)) ->
      ∃ t, PSs (zmt CX0 P w K mg base N qual (zad st) f cdv A outer s H E).nox (zbc st) t /\ FS B t m) : FnOk P w K mg base CX0 (k + 1) f fd ps (SpI B ps.length (zj1 m ps.length N.length)) := by
  obtain ⟨oc, od, kV, doc, pm, an, cdv, ct, osl, rfl, lk, hcd⟩ := F.ex;have hpl : ps.length <= N.length := by have := congrArg List.length S.pre; rw [List.length_take] at this; omega
  refine zuw lk hcd S (λvs H Q E h => h.1) λA outer s H vs Q E hr ⟨hl, G, c, x, dx, vs', ds, fs, e0, hg, hx, hh, da, hz, post⟩ => ?_;subst e0;obtain ⟨t, ht, hf⟩ := hbody cdv A outer s H E hr;refine ⟨t, ht.nox, ?_⟩;have hdl := znw hz;have hvl : vs'.length + 1 <= N.length := by simp at hl; omega
  refine hf _ _ H G _ _ (zof hg hx hh da hvl) ?_;unfold zj1 at hz;rw [if_pos hdl] at hz;rw [hdl];cases q : m (some (.ob c []) :: (ds.map (λd => some (.sh d)) ++ List.replicate (N.length - ps.length) none)) with
  | nx S' =>
    rw [q] at hz;dsimp only at hz;intro σ' H' F' os' st r';obtain ⟨⟨fs', hS⟩, hσ⟩ := st.lob 0 c [] rfl;rw [hS] at hz;simp only [if_pos rfl, if_true] at hz;cases hz
    obtain ⟨v, hv, a, dx', ws, e1, eo, nf, hh', en, das⟩ := r'.at' 0 _ hS;rw [hσ] at hv;have : v = .ref x := by
      have h0 : (zgY N (V.ref x :: vs'))[0]? = some (some (.ref x)) := rfl;rw [h0] at hv;exact (Option.some.inj (Option.some.inj hv)).symm
    subst this;cases e1
    refine post H' F' dx' ws (λb u e ne => st.keep b u e λi z => ?_) st.up (λb z => ?_) nf hh' en das
    · have z : b ∈ (if i = 0 then [x] else []) := z
      split at z
      · exact ne (List.mem_singleton.mp z)
      · simp at z
    · rcases st.new b z with z1 | z1 | ⟨i, z1⟩ | z1
      · exact .inl z1
      · exact .inr (.inl ⟨z1, r'.fd b z⟩)
      · have z1 : b ∈ (if i = 0 then [x] else []) := z1
        split at z1
        · rw [List.mem_singleton.mp z1] at z; exact absurd z nf
        · simp at z1
      · exact .inr (.inr z1)
  | rt x => rw [q] at hz; cases hz
  | bk S' => rw [q] at hz; cases hz
  | ct S' => rw [q] at hz; cases hz
  | bad => rw [q] at hz; cases hz
@[simp] def zjz (c:Nat) (f:Nat->List D->Option (List (Str×D))) (mr:FSt->Option (List D)):FSt->Option SV:=λS=>(mr S).bind λds=>(f c ds).map λfs=>.sh (.ins c fs)
section
variable {B:Bk} {tr:TA} {L:List Nat} {mr:FSt->Option (List D)}
theorem zvl {c n:Nat} {C:Addr} {f:Nat->List D->Option (List (Str×D))} {E:XK} (hC:B.cl c=C) (hf:∀ c ds z,f c ds=some z->ds.length+1=n) (hr:FA B tr L mr):FE B (zxK C (SpI B n f) [] E tr) L (zjz c f mr):=by
 subst hC;intro S σ H F os Q z rp e k;obtain ⟨ds,ed,ef⟩:=zbH e;rw [Option.map_eq_some_iff] at ef;obtain ⟨fs,ef,rfl⟩:=ef;refine hr S σ H F os _ ds rp ed λvs H1 F1 a1 r1 d1 x dx hx hdx hne=>?_;have sm:zA9 H1 (upd (upd H1 dx (.own x)) x (.ins (B.cl c) dx [])):=λb u e=>by
  rw [zas (zbF e hx),zas (zbF e hdx)]; exact e
 have hl:(V.ref x :: (vs++[])).length=n:=by rw [List.append_nil,List.length_cons,d1.length]; exact hf _ _ _ ef
 refine ⟨hl,orF F1 (osL os L),c,x,dx,vs++[],ds,fs,rfl,λb z=>?_,λz=>r1.gd L x z hx,zaB,by rw [List.append_nil]; exact d1.mono (λb o _ e=>sm b o e) λ_ z=>z,ef,λH' G' dx' ws kp up new nx hh en das=>⟨rfl,?_⟩⟩
 ·cases q:H1 b with
  | none=>exact absurd q (r1.gd L b z)
  | some u=>rw [sm b u q]; simp
 ·have al:Al H1 (orF F1 (osL os L)) H' (λb=>G' b\/b=x):=by
   refine ⟨λb u e=>kp b u (sm b u e) (zbF e hx),λb z=>.inl (up b z),λb z=>?_⟩;rcases z with z | rfl
   ·rcases new b z with z | z | ⟨ys,z⟩
    ·exact .inl z
    ·refine .inr (.inl ⟨?_,z.2⟩);cases q:H1 b with
     | none=>rfl
     | some u=>rw [sm b u q] at z; cases z.1
    ·by_cases q1:b=x
     ·subst q1; rw [zaB] at z; cases z
     ·by_cases q2:b=dx
      ·subst q2; rw [zas q1,zaB] at z; cases z
      ·rw [zas q1,zas q2] at z; exact .inr (.inr ⟨ys,z⟩)
   ·exact .inr (.inl ⟨hx,by rw [hh]; simp⟩)
  obtain ⟨F2,al2,r2,q,_⟩:=r1.split al;refine k (.ref x) H' F2 [] (a1.trans al2) r2 ⟨rfl,.ins (q x (.inr rfl)) hh en (das.mono (λ_ _ _ e=>e) λb z=>q b (.inl z))⟩ λa ha=>absurd ha (by simp)
theorem zcK {m:FSt->Fl} {n k:Nat}:∀ c ds z,zj1 m n k c ds=some z->ds.length+1=n:=λ_ _ _ h=>znw h
end
def MtE (B:Bk) (K:W.Frag) (T:String) (r:V->List V->Hp->VK->Prop) (f:D->List D->Option SV):Prop:=∀ (H:Hp) (G:Addr->Prop) (x:V) (vs:List V) (dx:D) (ds:List D) (z:SV) (Q:VK),(∀ b,G b->H b≠none)->DA B H G x dx->DAs B H G vs ds->f dx ds=some z->
 (∀ v H' G' o,Al H G H' G'->VA B H' G' v z o->(∀ a,a∈o->H a=none)->Q v H')->r x vs H Q
def MtT (B:Bk) (K:W.Frag) (T:String) (f:D->List D->Option SV):Prop:=∀ (H:Hp) (G:Addr->Prop) (x:V) (dx:D) (ds:List D) (z:SV),DA B H G x dx->f dx ds=some z->tyV K T x H
@[simp] def mBM (f:D->List D->Option SV) (a:FSt->Option D) (r:FSt->Option (List D)):FSt->Option SV:=λS=>(a S).bind λx=>(r S).bind λds=>f x ds
section
variable {B:Bk} {K:W.Frag} {ta:TE} {La Lb L:List Nat} {ma:FSt->Option D} {tr:TA} {mr:FSt->Option (List D)}
theorem zBB {T:String} {r:V->List V->Hp->VK->Prop} {f:D->List D->Option SV} (ht:MtT B K T f) (ho:MtE B K T r f) (ha:FD B ta La ma) (hr:FA B tr Lb mr):FE B (tBM K T r ta tr) (La++Lb) (mBM f ma mr):=by
 intro S σ H F os Q z rp e k;obtain ⟨d,ds,ed,er,ef⟩:=zjx e;refine ha S σ H F os _ d rp ed λv H1 F1 a1 r1 d1=>⟨ht H1 _ v d ds z d1 ef,hr S σ H1 F1 os _ ds r1 er λvs H2 F2 a2 r2 d2=>?_⟩
 refine ho H2 (orF F2 (osL os (La++Lb))) v vs d ds z Q (r2.gd _) (d1.later a2 λi h=>List.mem_append_left _ h) (d2.later Al.refl λi h=>List.mem_append_right _ h) ef λu H3 G3 o a3 va fr=>?_;obtain ⟨F3,al,r3,va2⟩:=zfX r2 a3 va fr;refine k u H3 F3 o ((a1.trans a2).trans al) r3 va2 λb e=>?_;cases q:H b with
 | none=>rfl
 | some w=>have:=fr b e; rw [(a1.trans a2).same b w q] at this; cases this
@[simp] def zj2:List D->Option (List Str)
 | []=>some []
 | .str z :: r=>(zj2 r).map λzs=>z :: zs
 | _=>none
theorem znx {H:Hp} {G:Addr->Prop}:∀ {vs:List V} {ds:List D} {zs:List Str},DAs B H G vs ds->zj2 ds=some zs->vs=zs.map V.str
 | _,_,_,.nil,e=>by cases e; rfl
 | _,_,_,.cons h r,e=>by
  cases h with
  | str x=>
   simp only [zj2,Option.map_eq_some_iff] at e;obtain ⟨zs,e1,rfl⟩:=e;rw [znx r e1]; rfl
  | _=>cases e
@[simp] def zcL:D->List D->Option SV
 | .str z,[.lst ds]=>(zj2 ds).bind λzs=>if (zs.map (·.length)).sum+zs.length*z.length<=16777216 then some (.sh (.str (Txt.join z zs))) else none
 | _,_=>none
theorem zyF:MtT B K "str" zcL:=by
 intro H G x dx ds z d e;cases d with
 | str x=>rfl
 | _=>cases e
theorem zr3 (hK:B.K=K):MtE B K "str" (zuI K) zcL:=by
 subst hK;intro H G x vs dx ds z Q hg d d2 e k;unfold zcL at e;split at e
 ·obtain ⟨zs,e1,e2⟩:=zbH e;split at e2
  ·cases e2
   obtain ⟨v,rfl,d3⟩:=d2.one;cases d
   cases d3 with
   | lst h r=>
    have:=znx r e1;subst this;exact ⟨_,_,zs,rfl,rfl,h.sq,by assumption,k _ H G [] Al.refl ⟨rfl,.str _⟩ (by simp)⟩
  ·cases e2
 ·cases e
@[simp] def zCY:D->List D->Option SV
 | .lst ds,[.str z]=>(zj2 ds).bind λzs=>if zs.idxOf z < zs.length then some (.sh (.int (zs.idxOf z:Nat))) else none
 | _,_=>none
@[simp] def zBC:D->List D->Option SV
 | .int i,[]=>some (.sh (.int ((Builtin.Int.intBits i:Nat):Int)))
 | _,_=>none
@[simp] def zw8:List D->Option (List Bool)
 | []=>some []
 | .bl z :: r=>(zw8 r).map λzs=>z :: zs
 | _=>none
theorem ztq {H:Hp} {G:Addr->Prop}:∀ {vs:List V} {ds:List D} {zs:List Bool},DAs B H G vs ds->zw8 ds=some zs->vs=zs.map V.bl
 | _,_,_,.nil,e=>by cases e; rfl
 | _,_,_,.cons h r,e=>by
  cases h with
  | bl x=>
   simp only [zw8,Option.map_eq_some_iff] at e;obtain ⟨zs,e1,rfl⟩:=e;rw [ztq r e1]; rfl
  | _=>cases e
@[simp] def zw9:List D->Option SV
 | [.lst ds]=>(zw8 ds).map λbs=>.sh (.bl (bs.all id))
 | _=>none
theorem zBD (hK:B.K=K):zf4 B (zCE K) zw9:=by
 subst hK;intro H G vs ds z Q hg hd e k;unfold zw9 at e;split at e
 ·rw [Option.map_eq_some_iff] at e;obtain ⟨bs,e1,rfl⟩:=e;obtain ⟨v,rfl,d1⟩:=hd.one;cases d1 with
  | lst h r=>
   have:=ztq r e1;subst this;exact ⟨_,bs,rfl,h.sq,k _ H G [] Al.refl ⟨rfl,.bl _⟩ (by simp)⟩
 ·cases e
@[simp] def zEf:List D->Option SV
 | [.int i]=>if i.natAbs.log2 < 1920 then some (.sh (.str (toString i))) else none
 | _=>none
def zyG:List V->Hp->VK->Prop:=λxs H Q=>(∃ i,xs=[.int i]/\i.natAbs.log2 < 1920/\Q (.str (toString i)) H)\/∃ z,xs=[.str z]/\Q (.str z) H
theorem zpM {X:Cx}:CallR X (.type "str") zyG:=zlj.or (by
 intro pins s σ H xs us Q I r h;obtain ⟨z,rfl,q⟩:=h;obtain ⟨u,rfl,t,rfl⟩:=zir r;exact PySem.P.str_of_str ⟨.str z,H,I,⟨t,rfl⟩,q⟩)
@[simp] def zkH:List D->Option SV
 | [.int i]=>if i.natAbs.log2 < 1920 then some (.sh (.str (toString i))) else none
 | [.str z]=>some (.sh (.str z))
 | _=>none
theorem zyH:zf4 B zyG zkH:=by
 intro H G vs ds z Q hg hd e k;unfold zkH at e;split at e
 ·split at e
  ·cases e
   obtain ⟨v,rfl,d1⟩:=hd.one;cases d1
   exact .inl ⟨_,rfl,by assumption,k _ H G [] Al.refl ⟨rfl,.str _⟩ (by simp)⟩
  ·cases e
 ·cases e
  obtain ⟨v,rfl,d1⟩:=hd.one;cases d1
  exact .inr ⟨_,rfl,k _ H G [] Al.refl ⟨rfl,.str _⟩ (by simp)⟩
 ·cases e
def zCZ (K:W.Frag):List V->Hp->VK->Prop:=λxs H Q=>∃ x C t b,xs=[x,.ref C]/\TyOf K H x t/\W.kitOne K t (.ref C)=some b/\Q (.bl b) H
theorem zr4 {X:Cx} (hK:X.K=K):CallR X (.builtin "isinstance") (zCZ K):=by
 subst hK;intro pins s σ H xs us Q I r h;obtain ⟨x,C,t,b,rfl,ty,e,q⟩:=h;obtain ⟨u,c,rfl,ru,rc⟩:=Vals.two r;cases rc
 exact zll I ru ty e λtk=>⟨.bl b,H,I.tok tk,rfl,q⟩
def zC0 (K:W.Frag):List V->Hp->VK->Prop:=λxs H Q=>zmy K xs H Q\/zCZ K xs H Q
theorem zr5 {X:Cx} (hK:X.K=K):CallR X (.builtin "isinstance") (zC0 K):=(zlx hK).or (zr4 hK)
structure KInst (K:W.Frag) (C:Addr):Prop where
 cl:Cls K C
 ha:W.findIn K (.ref C) "__class__"=some (some (.builtin "object.__class__"))
 hn:W.specialIn K (.builtin "object.__class__") "__get__"=some (some (.builtin "getset_descriptor.__get__"))
 htk:W.takesIn K (.builtin "object.__class__")=some true
 hm:W.mroIn K C (.type "object")=some true
def zeQ (tab:Nat->Nat->Option Bool):List D->Option SV
 | [d,.ty n]=>d.kind.bind λt=>(zAH t n).map λb=>.sh (.bl b)
 | [.ins c _,.cls C]=>(tab c C).map λb=>.sh (.bl b)
 | _=>none
theorem zBE {tab:Nat->Nat->Option Bool} (hK:B.K=K) (ht:∀ c C b,tab c C=some b->KInst B.K (B.cl c)/\W.kitOne B.K (.ref (B.cl c)) (.ref (B.cl C))=some b):zf4 B (zC0 K) (zeQ tab):=by
 subst hK;intro H G vs ds z Q hg hd e k;unfold zeQ at e;split at e
 ·exact .inl (zBv rfl H G vs _ z Q hg hd (by unfold zBu; exact e) k)
 ·rw [Option.map_eq_some_iff] at e;obtain ⟨b,e1,rfl⟩:=e;obtain ⟨v,w,rfl,d1,d2⟩:=hd.two;cases d2
  cases d1 with
  | ins f h en r=>
   obtain ⟨ki,kk⟩:=ht _ _ _ e1;exact .inr ⟨_,_,_,b,rfl,.ins h ki.cl ki.ha ki.hn ki.htk ki.hm,kk,k _ H G [] Al.refl ⟨rfl,.bl _⟩ (by simp)⟩
 ·cases e
theorem zyI {c:Nat} {C:Addr} (hC:B.cl c=C):FD B (tC (.ref C)) [] (mC (.cls c)):=by
 subst hC;exact zCM λ_ _=>.cls c
@[simp] def zDA (me:FSt->Option SV) (md:FSt->Option D):FSt->Fl:=λS=>match me S,md S with
 | some (.li xs),some _=>if xs.length < sizeLine then .nx S else .bad
 | _,_=>.bad
@[simp] def zEg (i:Nat):FSt->Fl:=λS=>match S[i]? with
 | some (some (.li xs))=>.nx (S.set i (some (.li xs.reverse)))
 | _=>.bad
end
section
variable {es:List Expr} {env:Env}
theorem zmD {c k pos}:starEach (.Constant c k pos :: es) env=(false,eval (.Constant c k pos) env) :: starEach es env:=rfl
theorem zvm {x pos}:starEach (.Name x pos :: es) env=(false,eval (.Name x pos) env) :: starEach es env:=rfl
theorem zr6 {a b pos}:starEach (.Tuple a b pos :: es) env=(false,eval (.Tuple a b pos) env) :: starEach es env:=rfl
theorem zr7 {a o b pos}:starEach (.BinOp a o b pos :: es) env=(false,eval (.BinOp a o b pos) env) :: starEach es env:=rfl
theorem zpN {o b pos}:starEach (.BoolOp o b pos :: es) env=(false,eval (.BoolOp o b pos) env) :: starEach es env:=rfl
theorem zmE {a b c pos}:starEach (.Call a b c pos :: es) env=(false,eval (.Call a b c pos) env) :: starEach es env:=rfl
theorem zlD {a b pos}:starEach (.Subscript a b pos :: es) env=(false,eval (.Subscript a b pos) env) :: starEach es env:=rfl
theorem zlE {a b pos}:starEach (.Attribute a b pos :: es) env=(false,eval (.Attribute a b pos) env) :: starEach es env:=rfl
theorem zr8 {a b c pos}:starEach (.IfExp a b c pos :: es) env=(false,eval (.IfExp a b c pos) env) :: starEach es env:=rfl
theorem zmF {a b c pos}:starEach (.ListComp a b c pos :: es) env=(false,eval (.ListComp a b c pos) env) :: starEach es env:=rfl
end
section
variable {ι:Type}
structure JD (Xs:ι->Cx) (B:Bk) (e:Expr) (L:List Nat) (m:FSt->Option D):Prop where
 ex:∃ t,(∀ i,PE (Xs i) e t)/\FD B t L m
structure JE (Xs:ι->Cx) (B:Bk) (e:Expr) (L:List Nat) (m:FSt->Option SV):Prop where
 ex:∃ t,(∀ i,PE (Xs i) e t)/\FE B t L m
structure JT (Xs:ι->Cx) (B:Bk) (e:Expr) (m:FSt->Option Bool):Prop where
 ex:∃ t,(∀ i,PT (Xs i) e t)/\FT B t m
structure JW (Xs:ι->Cx) (B:Bk) (e:Expr) (m:FSt->Option Bool):Prop where
 ex:∃ t,(∀ i,PW (Xs i) e t)/\FT B t m
structure JA (Xs:ι->Cx) (B:Bk) (es:List Expr) (L:List Nat) (m:FSt->Option (List D)):Prop where
 ex:∃ t,(∀ i,PA (Xs i) es t)/\FA B t L m
structure JO (Xs:ι->Cx) (B:Bk) (e:Option Expr) (m:FSt->Option (Option Int)):Prop where
 ex:∃ t,(∀ i,PO (Xs i) e t)/\FO B t m
structure JS (Xs:ι->Cx) (B:Bk) (st:Stmt) (m:FSt->Fl):Prop where
 ex:∃ t,(∀ i,PS (Xs i) st t)/\FS B t m
structure JB (Xs:ι->Cx) (B:Bk) (sts:List Stmt) (m:FSt->Fl):Prop where
 ex:∃ t,(∀ i,PSs (Xs i) sts t)/\FS B t m
structure JG (Xs:ι->Cx) (B:Bk) (tg:Expr) (m:D->FSt->Option FSt):Prop where
 ex:∃ t,(∀ i,PG (Xs i) tg t)/\FG B t m
structure JGs (Xs:ι->Cx) (B:Bk) (tgs:List Expr) (m:List D->FSt->Option FSt):Prop where
 ex:∃ t,(∀ i,PGs (Xs i) tgs t)/\FGs B t m
structure JI (Xs:ι->Cx) (B:Bk) (tg iter:Expr) (m:FSt->Option (List D)):Prop where
 ex:∃ t,(∀ i,PI (Xs i) tg iter t)/\FI B t m
structure JIc (Xs:ι->Cx) (B:Bk) (tg iter:Expr) (L:List Nat) (m:FSt->Option (List D)):Prop where
 ex:∃ t,(∀ i,PI (Xs i) tg iter t)/\FIc B t L m
structure JX (Xs:ι->Cx) (P:Program) (w:World) (K:W.Frag) (mg:Str->Option Value) (base:Heap) (k:Nat) (B:Bk) (cm:Bool:=true):Prop where
 p:∀ i,(Xs i).prog=P
 w':∀ i,(Xs i).w=w
 k':∀ i,(Xs i).K=K
 m:∀ i,(Xs i).mg=mg
 b:∀ i,(Xs i).base=base
 r:cm=true->∀ i,Room k (Xs i).A
 c:cm=true->∀ i,(Xs i).calm=true
 bk:B.K=K
 x:∀ i,PassesOwn (model (Xs i).prog (Xs i).w) (Xs i).A (Xs i).env (Xs i).xe
variable {cm:Bool} {Xs:ι->Cx} {P:Program} {w:World} {K:W.Frag} {mg:Str->Option Value} {base:Heap} {k:Nat} {B:Bk} {a b e o c:Expr} {es:List Expr} {L L' La Lb:List Nat} {ma mb md:FSt->Option D} {me mx my:FSt->Option SV} {mt mu:FSt->Option Bool} {mr:FSt->Option (List D)} {pos:Pos}
theorem JE.asD (h:JE Xs B e L me):JD Xs B e L (mFr me):=let ⟨t,p,f⟩:=h.ex; ⟨⟨t,p,f.fd⟩⟩
theorem JD.asE (h:JD Xs B e L ma):JE Xs B e L (mSh ma):=let ⟨t,p,f⟩:=h.ex; ⟨⟨t,p,f.fe⟩⟩
theorem zac (i:Nat) {x:Str} (hN:∀ j,(Xs j).N[i]? = some x:=by intro _; rfl) (hv:∀ j,Vis (Xs j).env.scope x:=by intro _; first | exact Or.inl rfl | exact Or.inr (Or.inl rfl) | exact Or.inr (Or.inr rfl)) (hd:(x==("__debug__":Str))=false:=by decide) (hcd:(x==("__classdict__":Str))=false:=by decide):JD Xs B (.Name x pos) [i] (mV i):=
 ⟨⟨_,λj=>zjY (hN j) (hv j) hd hcd,zye i⟩⟩
theorem zal {i:Int} {j}:JD Xs B (.Constant (.int i) j pos) [] (mC (.int i)):=⟨⟨_,λ_=>zxk,zuY (.int _)⟩⟩
theorem zog {i:Bool} {j}:JD Xs B (.Constant (.bool i) j pos) [] (mC (.bl i)):=⟨⟨_,λ_=>zAV,zuY (.bl _)⟩⟩
theorem zdH {j}:JD Xs B (.Constant .none j pos) [] (mC .non):=⟨⟨_,λ_=>zxl,zuY .non⟩⟩
theorem zan {x:Str} {j}:JD Xs B (.Constant (.str x) j pos) [] (mC (.str x)):=⟨⟨_,λ_=>zxm,zuY (.str _)⟩⟩
theorem zBF (jx:JX Xs P w K mg base k B cm) {x:Str} {i:Int} (h:GC mg x (.int i)) (hg:∀ j,Gl (Xs j) x:=by intro _; rfl) (hd:(x==("__debug__":Str))=false:=by decide):JD Xs B (.Name x pos) [] (mC (.int i)):=⟨⟨_,λj=>zx5 (hg j) (jx.m j▸h) hd,zuY (.int _)⟩⟩
theorem zBG (jx:JX Xs P w K mg base k B cm) {x:Str} {i:Str} (h:GC mg x (.str i)) (hg:∀ j,Gl (Xs j) x:=by intro _; rfl) (hd:(x==("__debug__":Str))=false:=by decide):JD Xs B (.Name x pos) [] (mC (.str i)):=⟨⟨_,λj=>zx5 (hg j) (jx.m j▸h) hd,zuY (.str _)⟩⟩
theorem zxa (jx:JX Xs P w K mg base k B cm) {x:Str} {n:String} (h:mg x=none) (hv:bootBuiltins x=some (.type n)) (hg:∀ j,Gl (Xs j) x:=by intro _; rfl) (hn:x≠"__name__":=by decide) (hd:(x==("__debug__":Str))=false:=by decide):JD Xs B (.Name x pos) [] (mC (.ty n)):=
 ⟨⟨_,λj=>zud (v:=.ty n) (hg j) (jx.m j▸h) hv rfl hn hd,zuY (.ty _)⟩⟩
theorem zlF (jx:JX Xs P w K mg base k B cm) {x:Str} {n:Nat} {C:Addr} (hC:B.cl n=C) (h:mg x=some (.ref C)) (hg:∀ j,Gl (Xs j) x:=by intro _; rfl) (hd:(x==("__debug__":Str))=false:=by decide):JD Xs B (.Name x pos) [] (mC (.cls n)):=
 ⟨⟨_,λj=>zmq (v:=.ref C) (hg j) (jx.m j▸h) rfl hd,zyI hC⟩⟩
theorem ziu {op:Operator} {r:R2} {f:D->D->Option D} (ho:∀ i,OpR (Xs i) (binaryOp op) r) (hf:OpD B r f) (ha:JD Xs B a La ma) (hb:JD Xs B b Lb mb):JD Xs B (.BinOp a op b pos) (La++Lb) (m2 f ma mb):=
 let ⟨_,pa,fa⟩:=ha.ex; let ⟨_,pb,fb⟩:=hb.ex; ⟨⟨_,λi=>zun (ho i) (pa i) (pb i),zrW hf fa fb⟩⟩
theorem zaX (jx:JX Xs P w K mg base k B cm) (ha:JD Xs B a La ma) (hb:JD Xs B b Lb mb):JE Xs B (.BinOp a .Add b pos) (La++Lb) (m2 za9 ma mb):=
 let ⟨_,pa,fa⟩:=ha.ex; let ⟨_,pb,fb⟩:=hb.ex; ⟨⟨_,λi=>zun (zuP (jx.k' i)) (pa i) (pb i),zyf (zBn jx.bk) fa fb⟩⟩
theorem zr9 (ha:JD Xs B a La ma) (hb:JD Xs B b Lb mb):JE Xs B (.BinOp a .Mult b pos) (La++Lb) (m2 zrs ma mb):=
 let ⟨_,pa,fa⟩:=ha.ex; let ⟨_,pb,fb⟩:=hb.ex; ⟨⟨_,λi=>zun zuM (pa i) (pb i),zyf zBo fa fb⟩⟩
structure JCmp (Xs:ι->Cx) (B:Bk) (op:CmpOp) (f:D->D->Option D):Prop where
 ex:∃ r,(∀ i,OpR (Xs i) (compareOp op) r)/\OpD B r f
theorem zdv (jx:JX Xs P w K mg base k B):JCmp Xs B .Eq oEq:=⟨⟨_,λi=>zx6 (jx.k' i) (jx.r rfl i).c64,zBp jx.bk⟩⟩
theorem zpO (jx:JX Xs P w K mg base k B):JCmp Xs B .NotEq oNe:=⟨⟨_,λi=>zti (jx.k' i) (jx.r rfl i).c64,zyu jx.bk⟩⟩
theorem zDB (jx:JX Xs P w K mg base k B):JCmp Xs B .In oIn:=⟨⟨_,λi=>zyc (jx.k' i) (jx.r rfl i).c64,zBq jx.bk⟩⟩
theorem zkI (jx:JX Xs P w K mg base k B):JCmp Xs B .NotIn ze3:=⟨⟨_,λi=>zpp (jx.k' i) (jx.r rfl i).c64,zr2 jx.bk⟩⟩
theorem zAK:JCmp Xs B .Lt oLt:=⟨⟨_,λ_=>zA2,zBk⟩⟩
theorem zC1:JCmp Xs B .LtE oLe:=⟨⟨_,λ_=>zA3,zBl⟩⟩
theorem zC2:JCmp Xs B .Gt oGt:=⟨⟨_,λ_=>zA4,zBm⟩⟩
theorem zBH:JCmp Xs B .Is oIs:=⟨⟨_,λ_=>zxD,zBr⟩⟩
theorem ztr:JCmp Xs B .IsNot zhw:=⟨⟨_,λ_=>zuo,zve⟩⟩
theorem zhx {op:CmpOp} {f:D->D->Option D} (hc:JCmp Xs B op f) (ha:JD Xs B a La ma) (hb:JD Xs B b Lb mb) (hm:behindInMarks op b=false:=by first | exact zao _ | rfl):JD Xs B (.Compare a [op] [b] pos) (La++Lb) (m2 f ma mb):=
 let ⟨_,ho,hf⟩:=hc.ex; let ⟨_,pa,fa⟩:=ha.ex; let ⟨_,pb,fb⟩:=hb.ex; ⟨⟨_,λi=>zup (ho i) (pa i) (pb i) hm,zrW hf fa fb⟩⟩
theorem zap {op:CmpOp} {f:D->D->Option D} (hc:JCmp Xs B op f) (ha:JD Xs B a La ma) (hb:JD Xs B b Lb mb) (hm:behindInMarks op b=false:=by first | exact zao _ | rfl):JT Xs B (.Compare a [op] [b] pos) (zae (m2 f ma mb)):=
 let ⟨_,ho,hf⟩:=hc.ex; let ⟨_,pa,fa⟩:=ha.ex; let ⟨_,pb,fb⟩:=hb.ex; ⟨⟨_,λi=>zur (ho i) (pa i) (pb i) hm,zuZ (zrW hf fa fb)⟩⟩
theorem zci (h:JD Xs B e L ma) (he:∀ i whole,isTrue e (Xs i).env whole=(do let v <- whole; standAt e.pos; holding [v] (truthy v)):=by intro _ _; rfl):JT Xs B e (zae ma):=let ⟨_,p,f⟩:=h.ex; ⟨⟨_,λi=>zxn (p i) (he i),zyg f⟩⟩
theorem zcM (h:JT Xs B a mt):JT Xs B (.UnaryOp .Not a pos) (zfW mt):=let ⟨_,p,f⟩:=h.ex; ⟨⟨_,λi=>zxo (p i),zyi f⟩⟩
theorem JW.t (h:JW Xs B a mt):JT Xs B a mt:=let ⟨_,p,f⟩:=h.ex; ⟨⟨_,λi=>(p i).pt,f⟩⟩
theorem zhy (h:JT Xs B a mt):JW Xs B (.BoolOp .And [a] pos) mt:=let ⟨_,p,f⟩:=h.ex; ⟨⟨_,λi=>pw_and1 (p i),f⟩⟩
theorem zdx (h:JT Xs B a mt):JW Xs B (.BoolOp .Or [a] pos) mt:=let ⟨_,p,f⟩:=h.ex; ⟨⟨_,λi=>pw_or1 (p i),f⟩⟩
theorem zj3 {zaL:List Expr} (h:JT Xs B a mt) (h':JW Xs B (.BoolOp .And (b :: zaL) pos) mu):JW Xs B (.BoolOp .And (a :: b :: zaL) pos) (zrr mt mu):=let ⟨_,p,f⟩:=h.ex; let ⟨_,p',f'⟩:=h'.ex; ⟨⟨_,λi=>pw_and (p i) (p' i),zyh f f'⟩⟩
theorem zdI {zaL:List Expr} (h:JT Xs B a mt) (h':JW Xs B (.BoolOp .Or (b :: zaL) pos) mu):JW Xs B (.BoolOp .Or (a :: b :: zaL) pos) (mOr mt mu):=let ⟨_,p,f⟩:=h.ex; let ⟨_,p',f'⟩:=h'.ex; ⟨⟨_,λi=>pw_or (p i) (p' i),zBf f f'⟩⟩
theorem zlG {op} (h:JD Xs B a L ma):JD Xs B (.BoolOp op [a] pos) L ma:=let ⟨_,p,f⟩:=h.ex; ⟨⟨_,λi=>zxq (p i),f⟩⟩
theorem zlH {zaL:List Expr} (h:JD Xs B a La ma) (h':JD Xs B (.BoolOp .And (b :: zaL) pos) Lb mb):JD Xs B (.BoolOp .And (a :: b :: zaL) pos) (La++Lb) (zjw (zae ma) mb (mC (.bl false))):=let ⟨_,p,f⟩:=h.ex; let ⟨_,p',f'⟩:=h'.ex; ⟨⟨_,λi=>zxr (p i) (p' i),zu0 f f'⟩⟩
theorem zDC {zaL:List Expr} (h:JD Xs B a La ma) (h':JD Xs B (.BoolOp .Or (b :: zaL) pos) Lb mb):JD Xs B (.BoolOp .Or (a :: b :: zaL) pos) (La++Lb) (zjw (zae ma) (mC (.bl true)) mb):=let ⟨_,p,f⟩:=h.ex; let ⟨_,p',f'⟩:=h'.ex; ⟨⟨_,λi=>zAW (p i) (p' i),zyj f f'⟩⟩
theorem zBI (hc:JT Xs B c mt) (ha:JE Xs B a La mx) (hb:JE Xs B b Lb my):JE Xs B (.IfExp c a b pos) (La++Lb) (zjw mt mx my):=let ⟨_,p,f⟩:=hc.ex; let ⟨_,p',f'⟩:=ha.ex; let ⟨_,q,g⟩:=hb.ex; ⟨⟨_,λi=>zrw (p i) (p' i) (q i),zBg f f' g⟩⟩
theorem zaf:JA Xs B [] [] zaj:=⟨⟨_,λ_=>zoZ,zpt⟩⟩
theorem zaa (ha:JD Xs B e La ma) (hr:JA Xs B es Lb mr) (hs:∀ i,starEach (e :: es) (Xs i).env=(false,eval e (Xs i).env) :: starEach es (Xs i).env):JA Xs B (e :: es) (La++Lb) (zab ma mr):=let ⟨_,p,f⟩:=ha.ex; let ⟨_,p',f'⟩:=hr.ex; ⟨⟨_,λi=>zms (p i) (p' i) (hs i),zu1 f f'⟩⟩
theorem zcg (h:JA Xs B es L mr):JE Xs B (.List es pos) L (zda mr):=let ⟨_,p,f⟩:=h.ex; ⟨⟨_,λi=>zxI (p i),zyk f⟩⟩
theorem zsa {x1} (h:JA Xs B es L mr):JD Xs B (.Tuple es x1 pos) L (zw6 mr):=let ⟨_,p,f⟩:=h.ex; ⟨⟨_,λi=>zxH (p i),zyl f⟩⟩
theorem zyJ:JE Xs B (.Dict [] [] pos) [] mDK:=⟨⟨_,λ_=>zrN,zvh⟩⟩
theorem zbA (jx:JX Xs P w K mg base k B cm) (i:Nat) {x f:Str} {cs:List Nat} {p1:Pos} (hc:∀ c∈cs,Cls B.K (B.cl c)/\NoAttr B.K (B.cl c) f) (h:JD Xs B (.Name x p1) [i] (mV i)) (hN:∀ j,(Xs j).N[i]? = some x:=by intro _; rfl) (hv:∀ j,Vis (Xs j).env.scope x:=by intro _; first | exact Or.inl rfl | exact Or.inr (Or.inl rfl) | exact Or.inr (Or.inr rfl))
  (hb:∀ j,attributeBase (.Name x p1) f (Xs j).env (eval (.Name x p1) (Xs j).env)=eval (.Name x p1) (Xs j).env:=by intro _; rfl) (hd:(x==("__debug__":Str))=false:=by decide) (hcd:(x==("__classdict__":Str))=false:=by decide):JD Xs B (.Attribute (.Name x p1) f pos) [] (m1 (zdu cs f) (mV i)):=
 ⟨⟨_,λj=>zuT (jx.k' j) (zjY (hN j) (hv j) hd hcd) (hb j),zvk jx.bk hc⟩⟩
theorem zbI:JO Xs B none mNo:=⟨⟨_,λ_=>zux,zvf⟩⟩
theorem zaZ (h:JD Xs B e L ma):JO Xs B (some e) (mAt ma):=let ⟨_,p,f⟩:=h.ex; ⟨⟨_,λi=>zuy (p i),zvg f⟩⟩
theorem zj4 (jx:JX Xs P w K mg base k B cm) {lo hi:Option Expr} {ml mh:FSt->Option (Option Int)} {p2:Pos} (h:JD Xs B e L ma) (hl:JO Xs B lo ml) (hh:JO Xs B hi mh):JE Xs B (.Subscript e (.Slice lo hi none p2) pos) L (mSl ma ml mh):=
 let ⟨_,p,f⟩:=h.ex; let ⟨_,p',f'⟩:=hl.ex; let ⟨_,q,g⟩:=hh.ex; ⟨⟨_,λi=>zrJ (zuW (jx.k' i)) (p i) (p' i) (q i),zBw jx.bk f f' g⟩⟩
theorem zbv (jx:JX Xs P w K mg base k B cm) (ha:JD Xs B a La ma) (hb:JD Xs B b Lb mb) (hs:zo5 b:=by intros _ _; rfl):JD Xs B (.Subscript a b pos) (La++Lb) (m2 oIx ma mb):=
 let ⟨_,p,f⟩:=ha.ex; let ⟨_,p',f'⟩:=hb.ex; ⟨⟨_,λi=>zA7 (zuQ (jx.k' i)) (p i) (p' i) hs,zrW (zBs jx.bk) f f'⟩⟩
theorem JX.fn (jx:JX Xs P w K mg base k B cm) {CX:CXT} {n:Nat} {f:Addr} {fd:FuncData} {ps:List Str} {sp:Sp} (F:FnOk P w K mg base CX n f fd ps sp) (i:ι):FnOk (Xs i).prog (Xs i).w (Xs i).K (Xs i).mg (Xs i).base CX n f fd ps sp:=by
 rw [jx.p i,jx.w' i,jx.k' i,jx.m i,jx.b i]; exact F
theorem zaQ (jx:JX Xs P w K mg base k B) {n nf:Nat} {f:Addr} {fd:FuncData} {ps:List Str} {fn:List D->Option SV} {x:Str} {p:Pos} (F:FnOk P w K mg base CX0 n f fd ps (SpF B nf fn)) (hn:n<=k) (hm:mg x=some (.ref f)) (hk:W.keepIn K (.ref f)=true) (hb:Binds K fd ps []) (hf:∀ ds z,fn ds=some z->ds.length=nf)
  (ha:JA Xs B (e :: es) L mr) (he:∀ i,starEach (e :: es) (Xs i).env=(false,eval e (Xs i).env) :: starEach es (Xs i).env) (hg:∀ j,Gl (Xs j) x:=by intro _; rfl) (hpl:∀ i,(backTo pos (starEach es (Xs i).env)).any (·.1)=false:=by intro _; rfl) (hdb:(x==("__debug__":Str))=false:=by decide) :
  JE Xs B (.Call (.Name x p) (e :: es) [] pos) L (m1 fn mr):=
 let ⟨_,q,g⟩:=ha.ex; ⟨⟨_,λi=>zuu (jx.fn F i) ((jx.r rfl i).mono hn) (hg i) (jx.m i▸hm) (jx.k' i▸hk) (jx.k' i▸hb) .nil zrL (q i) hdb (he i) (hpl i),zpu hf g⟩⟩
theorem zpP (jx:JX Xs P w K mg base k B) {n nf:Nat} {f:Addr} {fd:FuncData} {ps:List Str} {fn:List D->Option SV} {x:Str} {p:Pos} (F:FnOk P w K mg base CX0 n f fd ps (SpF B nf fn)) (hn:n<=k) (hm:mg x=some (.ref f)) (hk:W.keepIn K (.ref f)=true) (hb:Binds K fd ps []) (hf:∀ ds z,fn ds=some z->ds.length=nf)
  (hg:∀ j,Gl (Xs j) x:=by intro _; rfl) (hdb:(x==("__debug__":Str))=false:=by decide):JE Xs B (.Call (.Name x p) [] [] pos) [] (m1 fn zaj):=
 ⟨⟨_,λi=>zrE (jx.fn F i) ((jx.r rfl i).mono hn) (hg i) (jx.m i▸hm) (jx.k' i▸hk) (jx.k' i▸hb) .nil zrL hdb,zpu hf zpt⟩⟩
theorem zif (jx:JX Xs P w K mg base k B) {n nf cn:Nat} {f C:Addr} {fd:FuncData} {ps:List Str} {fn:Nat->List D->Option (List (Str×D))} {x:Str} {p:Pos} (M:Mk K C f) (F:FnOk P w K mg base CX0 n f fd ps (SpI B nf fn)) (hn:n+1<=k) (hm:mg x=some (.ref C)) (hb:Binds K fd ps []) (hC:B.cl cn=C) (hf:∀ c ds z,fn c ds=some z->ds.length+1=nf)
  (ha:JA Xs B (e :: es) L mr) (he:∀ i,starEach (e :: es) (Xs i).env=(false,eval e (Xs i).env) :: starEach es (Xs i).env) (hg:∀ j,Gl (Xs j) x:=by intro _; rfl) (hpl:∀ i,(backTo pos (starEach es (Xs i).env)).any (·.1)=false:=by intro _; rfl) (hdb:(x==("__debug__":Str))=false:=by decide) :
  JE Xs B (.Call (.Name x p) (e :: es) [] pos) L (zjz cn fn mr):=
 let ⟨_,q,g⟩:=ha.ex; ⟨⟨_,λi=>zuv (jx.k' i▸M) (jx.fn F i) ((jx.r rfl i).mono hn) (hg i) (jx.m i▸hm) (jx.k' i▸hb) .nil zrL (q i) hdb (he i) (hpl i),zvl hC hf g⟩⟩
theorem zcQ (jx : JX Xs P w K mg base k B) {n nf cn : Nat} {f C : Addr} {fd : FuncData} {ps : List Str} {fn : List D -> Option SV} {m : Str} {apos : Pos} {pl : ι -> Sem Bool} (ho : JD Xs B o La ma) (cc : Cls K C) (hm : Meth K C m f) (F : FnOk P w K mg base CX0 n f fd ps (SpF B nf fn)) (hn : n <= k) (hb : Binds K fd ps []) (hC : B.cl cn = C) (hf : ∀ ds z, fn ds = some z -> ds.length = nf)
    (ht : ∀ i, eval (.Call (.Attribute o m apos) [] [] pos) (Xs i).env = (do
      let ov <- eval o (Xs i).env
      standAt apos.atName
      let (f, first) <- holding [ov] (getMethod ov m (pl i))
      callWith pos f first (backTo pos (starEach [] (Xs i).env)) (backToKw pos (keywordEach [] (Xs i).env))) := by intro _; rfl) : JE Xs B (.Call (.Attribute o m apos) [] [] pos) (La ++ []) (zbZ cn m fn ma zaj) :=
  let ⟨_, p, g⟩ := ho.ex; ⟨⟨_, λi => zrF (p i) (jx.k' i ▸ cc) (jx.k' i ▸ hm) (jx.fn F i) ((jx.r rfl i).mono hn) (jx.k' i ▸ hb) .nil zrL (ht i), zu3 hC hf g zpt⟩⟩
theorem JE.or (h:JE Xs B e La mx) (h':JE Xs B e Lb my):JE Xs B e (La++Lb) (zhu mx my):=let ⟨_,p,f⟩:=h.ex; let ⟨_,p',f'⟩:=h'.ex; ⟨⟨_,λi=>PE.or (p i) (p' i),FE.or f f'⟩⟩
structure JCall (Xs:ι->Cx) (B:Bk) (v:Value) (f:List D->Option SV):Prop where
 ex:∃ r,(∀ i,CallR (Xs i) v r)/\zf4 B r f
theorem zd8 (jx:JX Xs P w K mg base k B cm):JCall Xs B (.builtin "len") zbK:=⟨⟨_,λi=>zpI (jx.k' i),zBt jx.bk⟩⟩
theorem ziv (jx:JX Xs P w K mg base k B cm) {tab:Nat->Nat->Option Bool} (ht:∀ c C b,tab c C=some b->KInst B.K (B.cl c)/\W.kitOne B.K (.ref (B.cl c)) (.ref (B.cl C))=some b):JCall Xs B (.builtin "isinstance") (zeQ tab):=⟨⟨_,λi=>zr5 (jx.k' i),zBE jx.bk ht⟩⟩
theorem zBJ (jx:JX Xs P w K mg base k B):JCall Xs B (.builtin "max") zw7:=⟨⟨_,λi=>zoW (jx.c rfl i),zBz⟩⟩
theorem zBK (jx:JX Xs P w K mg base k B):JCall Xs B (.builtin "min") zAJ:=⟨⟨_,λi=>zoX (jx.c rfl i),zBA⟩⟩
theorem zBL (jx:JX Xs P w K mg base k B):JCall Xs B (.builtin "all") zw9:=⟨⟨_,λi=>zpf (jx.k' i) (jx.c rfl i),zBD jx.bk⟩⟩
theorem zyK (jx:JX Xs P w K mg base k B):JCall Xs B (.type "list") zmC:=⟨⟨_,λi=>zoe (jx.k' i) (jx.c rfl i),zyx jx.bk⟩⟩
theorem ziQ (jx:JX Xs P w K mg base k B cm):JCall Xs B (.type "tuple") ze4:=⟨⟨_,λi=>zmz (jx.k' i),zvi jx.bk⟩⟩
theorem zBM:JCall Xs B (.type "int") zyy:=⟨⟨_,λ_=>zli,zyz⟩⟩
theorem zyL:JCall Xs B (.type "str") zkH:=⟨⟨_,λ_=>zpM,zyH⟩⟩
theorem zax (jx:JX Xs P w K mg base k B cm) {id:String} {f:List D->Option SV} {x:Str} {p:Pos} (hc:JCall Xs B (.builtin id) f) (hm:mg x=none) (hv:bootBuiltins x=some (.builtin id)) (ha:JA Xs B (e :: es) L mr) (he:∀ i,starEach (e :: es) (Xs i).env=(false,eval e (Xs i).env) :: starEach es (Xs i).env)
  (hg:∀ j,Gl (Xs j) x:=by intro _; rfl) (hn:x≠"__name__":=by decide) (hdb:(x==("__debug__":Str))=false:=by decide) (hpl:∀ i,(backTo pos (starEach es (Xs i).env)).any (·.1)=false:=by intro _; rfl):JE Xs B (.Call (.Name x p) (e :: es) [] pos) L (m1 f mr):=
 let ⟨_,c1,c2⟩:=hc.ex; let ⟨_,q,g⟩:=ha.ex; ⟨⟨_,λi=>zrH (c1 i) (hg i) (jx.m i▸hm) hv (q i) hn hdb (he i) (hpl i),zu2 c2 g⟩⟩
theorem zcj (jx:JX Xs P w K mg base k B cm) {T:String} {f:List D->Option SV} {x:Str} {p:Pos} (hc:JCall Xs B (.type T) f) (hm:mg x=none) (hv:bootBuiltins x=some (.type T)) (ha:JA Xs B (e :: es) L mr) (he:∀ i,starEach (e :: es) (Xs i).env=(false,eval e (Xs i).env) :: starEach es (Xs i).env)
  (hg:∀ j,Gl (Xs j) x:=by intro _; rfl) (hn:x≠"__name__":=by decide) (hdb:(x==("__debug__":Str))=false:=by decide) (hpl:∀ i,(backTo pos (starEach es (Xs i).env)).any (·.1)=false:=by intro _; rfl):JE Xs B (.Call (.Name x p) (e :: es) [] pos) L (m1 f mr):=
 let ⟨_,c1,c2⟩:=hc.ex; let ⟨_,q,g⟩:=ha.ex; ⟨⟨_,λi=>zo2 (c1 i) (hg i) (jx.m i▸hm) hv (q i) hn hdb (he i) (hpl i),zu2 c2 g⟩⟩
structure JMt (Xs:ι->Cx) (B:Bk) (K:W.Frag) (T:String) (name:Str) (f:D->List D->Option SV):Prop where
 ex:∃ r id,PlainAttrs T/\Slot T name id/\typeOf (.builtin id)=pure (.type "method_descriptor")/\(∀ i,MtR (Xs i) id r)/\MtT B K T f/\MtE B K T r f
theorem zdJ (jx:JX Xs P w K mg base k B cm):JMt Xs B K "str" "join" zcL:=⟨⟨_,_,PySem.F.plainAttrs_str,PySem.F.slot_str_join,PySem.F.type_str_join,λi=>zrR (jx.k' i),zyF,zr3 jx.bk⟩⟩
theorem zmG (jx:JX Xs P w K mg base k B cm) {T:String} {name:Str} {f:D->List D->Option SV} {apos cpos:Pos} (hm:JMt Xs B K T name f) (ho:JD Xs B o La ma) (ha:JA Xs B (e :: es) Lb mr) (hs:∀ i,starEach (e :: es) (Xs i).env=(false,eval e (Xs i).env) :: starEach es (Xs i).env)
  (hbase:∀ i,attributeBase o name (Xs i).env (eval o (Xs i).env)=eval o (Xs i).env:=by intro _; rfl)
  (hfew:∀ i,((backTo cpos (starEach (e :: es) (Xs i).env)).all (λx=>!x.1)&&(backToKw cpos (keywordEach [] (Xs i).env)).all (λx=>x.1.isSome)&&decide ((e :: es).length+([]:List Keyword).length+(if ([]:List Keyword).isEmpty then 0 else 1) < 30))=true:=by intro _; rfl)
  (hline:(apos.endLine==cpos.line)=true:=by rfl) (hplain:∀ i,(backTo cpos (starEach es (Xs i).env)).any (·.1)=false:=by intro _; rfl):JE Xs B (.Call (.Attribute o name apos) (e :: es) [] cpos) (La++Lb) (mBM f ma mr):=
 let ⟨_,_,h1,h2,h3,h4,h5,h6⟩:=hm.ex; let ⟨_,p,g⟩:=ho.ex; let ⟨_,q,g'⟩:=ha.ex; ⟨⟨_,λi=>zth (jx.k' i) h1 h2 h3 (h4 i) (p i) (q i) (hbase i) (hfew i) hline (hs i) (hplain i),zBB h5 h6 g g'⟩⟩
theorem zbJ (i:Nat) {x:Str} (hN:∀ j,(Xs j).N.Nodup) (hx:∀ j,Loc (Xs j).env.scope x) (hi:∀ j,(Xs j).N[i]? = some x:=by intro _; rfl) (hf:∀ j,(Xs j).fn x=true\/(Xs j).env.scope.names.lookup x=some .local:=by intro _; first | exact .inl rfl | exact .inr rfl):JG Xs B (.Name x pos) (gN i):=⟨⟨_,λj=>zui (hN j) (hi j) (hx j) (hf j),zu7 i⟩⟩
theorem zmH:JGs Xs B [] gNs:=⟨⟨_,λ_=>zuj,zu8⟩⟩
theorem zfZ {g1:D->FSt->Option FSt} {g2:List D->FSt->Option FSt} (h1:JG Xs B e g1) (h2:JGs Xs B es g2) (hs:∀ i,(assignEach (e :: es) (Xs i).env).map (·.2)=assign e (Xs i).env :: (assignEach es (Xs i).env).map (·.2):=by intro _; rfl):JGs Xs B (e :: es) (gCs g1 g2):=let ⟨_,p,f⟩:=h1.ex; let ⟨_,q,g⟩:=h2.ex; ⟨⟨_,λi=>zrx (p i) (q i) (hs i),zrZ f g⟩⟩
theorem zpQ (jx:JX Xs P w K mg base k B) {n:Nat} {k1:Nat} {g2:List D->FSt->Option FSt} (h:JGs Xs B es g2) (hn:∀ i,(assignEach es (Xs i).env).length=n:=by intro _; rfl) (hst:∀ i,(assignEach es (Xs i).env).findIdx? (·.1)=none:=by intro _; rfl):JG Xs B (.Tuple es k1 pos) (gSq n g2):=let ⟨_,p,f⟩:=h.ex; ⟨⟨_,λi=>zuV (jx.k' i) (jx.c rfl i) (p i) (hn i) (hst i),zyr jx.bk f⟩⟩
theorem zig (jx:JX Xs P w K mg base k B cm) {tg:Expr} (h:JD Xs B e L ma):JIc Xs B tg e L (zlf ma):=let ⟨_,p,f⟩:=h.ex; ⟨⟨_,λi=>zuR (jx.k' i) (p i),zvd jx.bk f⟩⟩
theorem JI.asC {tg:Expr} (h:JI Xs B tg e mr):JIc Xs B tg e [] mr:=let ⟨_,p,f⟩:=h.ex; ⟨⟨_,p,f.c⟩⟩
theorem zmI (jx:JX Xs P w K mg base k B cm) {tg:Expr} {p:Pos} (hm:mg "range"=none) (ha:JA Xs B [a] L mr) (hs:∀ i,starEach [a] (Xs i).env=[(false,eval a (Xs i).env)]:=by intro _; rfl) (hg:∀ i,Gl (Xs i) "range":=by intro _; rfl):JI Xs B tg (.Call (.Name "range" p) [a] [] pos) (mR1 mr):=let ⟨_,q,f⟩:=ha.ex; ⟨⟨_,λi=>zoR (hg i) (jx.m i▸hm) (q i) (hs i),zvj f⟩⟩
structure JIf (Xs:ι->Cx) (B:Bk) (ifs:List Expr) (m:FSt->Option Bool):Prop where
 ex:∃ t,(∀ i,PIf (Xs i) ifs t)/\FT B t m
theorem ze5:JIf Xs B [] zf5:=⟨⟨_,λ_=>zuE,zvc⟩⟩
theorem zpR (h:JT Xs B a mt):JIf Xs B [a] mt:=let ⟨_,p,f⟩:=h.ex; ⟨⟨_,λi=>zuF (p i),f⟩⟩
abbrev JC (Xs:ι->Cx) (scope:Scope) (N:List Str):ι×List Addr×Shared×Hp->Cx:=λj=>(Xs j.1).comp scope N j.2.1 j.2.2.1 j.2.2.2
theorem JX.comp (jx:JX Xs P w K mg base k B) (scope:Scope) (N:List Str):JX (JC Xs scope N) P w K mg base k B:=
 ⟨λi=>jx.p i.1,λi=>jx.w' i.1,λi=>jx.k' i.1,λi=>jx.m i.1,λi=>jx.b i.1,λ_ i=>jx.r rfl i.1,λ_ i=>jx.c rfl i.1,jx.bk,λi=>PassesOwn.never⟩
theorem zg1 (jx:JX Xs P w K mg base k B) {NX N:List Str} {SX scope:Scope} {own:Nat} {fi Li:List Nat} {tg iter elt:Expr} {ifs:List Expr} {mi:FSt->Option (List D)} {g1:D->FSt->Option FSt} (S:CompScope NX SX scope N own fi) (hi:JIc Xs B tg iter Li mi) (hg:JG (JC Xs scope N) B tg g1) (ht:JIf (JC Xs scope N) B ifs mt) (he:JD (JC Xs scope N) B elt L ma)
  (hN:∀ i,(Xs i).N=NX:=by intro _; rfl) (hS:∀ i,(Xs i).env.scope=SX:=by intro _; rfl) (hs:∀ i x,foldedSetIterable iter (Xs i).env x=pure x:=by intro _ _; rfl):JE Xs B (.ListComp elt [⟨tg,iter,ifs,0⟩] scope pos) (fi++Li) (ze1 own fi mi g1 mt ma):=
 let ⟨_,p1,f1⟩:=hi.ex; let ⟨_,p2,f2⟩:=hg.ex; let ⟨_,p3,f3⟩:=ht.ex; let ⟨_,p4,f4⟩:=he.ex
 ⟨⟨_,λi=>zuH S (jx.c rfl i) (p1 i) (λex s H=>p2 (i,ex,s,H)) (λex s H=>p3 (i,ex,s,H)) (λex s H=>p4 (i,ex,s,H)) (hN i) (hS i) (hs i),zpA f1 f2 f3 f4⟩⟩
variable {mf mh:FSt->Fl} {st:Stmt} {sts ss:List Stmt}
theorem zoh (jx:JX Xs P w K mg base k B) (i:Nat) {y:Str} {py spos:Pos} {NX N:List Str} {SX scope:Scope} {own:Nat} {fi Li L':List Nat} {tg iter elt:Expr} {ifs:List Expr} {mi:FSt->Option (List D)} {g1:D->FSt->Option FSt} (hnd:∀ j,(Xs j).N.Nodup) (S:CompScope NX SX scope N own fi) (hi:JIc Xs B tg iter Li mi) (hg:JG (JC Xs scope N) B tg g1) (ht:JIf (JC Xs scope N) B ifs mt) (he:JD (JC Xs scope N) B elt L ma)
  (hy:∀ j,(Xs j).N[i]? = some y:=by intro _; rfl) (hl:∀ j,(Xs j).env.scope.names.lookup y=some .local:=by intro _; rfl)
  (hN:∀ i,(Xs i).N=NX:=by intro _; rfl) (hS:∀ i,(Xs i).env.scope=SX:=by intro _; rfl) (hs:∀ i x,foldedSetIterable iter (Xs i).env x=pure x:=by intro _ _; rfl)
  (hsw:∀ j,swapsWith (.ListComp elt [⟨tg,iter,ifs,0⟩] scope pos) (some (.Name y py)) spos.line (Xs j).env=pure true:=by intro _; rfl) (hl':((fi++Li).all λi=>L'.contains i)=true:=by rfl):JS Xs B (.Assign [.Name y py] (.ListComp elt [⟨tg,iter,ifs,0⟩] scope pos) spos) (zcU i L' (ze1 own fi mi g1 mt ma)):=
 let ⟨_,p1,f1⟩:=hi.ex; let ⟨_,p2,f2⟩:=hg.ex; let ⟨_,p3,f3⟩:=ht.ex; let ⟨_,p4,f4⟩:=he.ex
 ⟨⟨_,λi=>zn7 (hnd i) (hy i) (hl i) S (jx.c rfl i) (p1 i) (λex s H=>p2 (i,ex,s,H)) (λex s H=>p3 (i,ex,s,H)) (λex s H=>p4 (i,ex,s,H)) (hN i) (hS i) (hs i) (hsw i),zpJ (te:=zuG _ _ _ _ _ _) L' (zpA f1 f2 f3 f4) hl'⟩⟩
theorem zbf (i:Nat) {x:Str} {p1:Pos} {L':List Nat} (hnd:∀ j,(Xs j).N.Nodup) (hx:∀ j,Loc (Xs j).env.scope x) (he:JE Xs B e L me) (hi:∀ j,(Xs j).N[i]? = some x:=by intro _; rfl) (hs:∀ j,swapsWith e (some (.Name x p1)) pos.line (Xs j).env=pure false:=by intro _; rfl)
  (hf:∀ j,(Xs j).fn x=true\/(Xs j).env.scope.names.lookup x=some .local:=by intro _; first | exact .inl rfl | exact .inr rfl) (hl:(L.all λi=>L'.contains i)=true:=by rfl):JS Xs B (.Assign [.Name x p1] e pos) (zcU i L' me):=
 let ⟨_,p,f⟩:=he.ex; ⟨⟨_,λj=>zxx (hnd j) (hi j) (hx j) (p j) (hs j) (hf j),zpJ L' f hl⟩⟩
theorem zyM {tg:Expr} {g1:D->FSt->Option FSt} {L':List Nat} (he:JE Xs B e L me) (hg:JG Xs B tg g1) (hs:∀ j,swapsWithSole [tg] e pos.line (Xs j).env=pure false:=by intro _; rfl) (hw:∀ j,swappedStores [tg] e (Xs j).env=pure none:=by intro _; rfl)
  (h1:∀ j,(assignEach [tg] (Xs j).env).map (·.2)=[assign tg (Xs j).env]:=by intro _; rfl) (hl:(L.all λi=>L'.contains i)=true:=by rfl):JS Xs B (.Assign [tg] e pos) (zyB L' me g1):=
 let ⟨_,p,f⟩:=he.ex; let ⟨_,q,g⟩:=hg.ex; ⟨⟨_,λj=>zxw (p j) (q j) (hs j) (hw j) (h1 j),zyC (f.wk (ziP hl)) g⟩⟩
theorem zdy (jx:JX Xs P w K mg base k B cm) (i:Nat) {x f:Str} {cs:List Nat} {p1 p2:Pos} {L':List Nat} (hc:∀ c∈cs,Cls B.K (B.cl c)/\NoAttr B.K (B.cl c) f) (he:JD Xs B e L md) (hN:∀ j,(Xs j).N[i]? = some x:=by intro _; rfl) (hv:∀ j,Vis (Xs j).env.scope x:=by intro _; first | exact Or.inl rfl | exact Or.inr (Or.inl rfl) | exact Or.inr (Or.inr rfl)) (hs:∀ j,swapsWith e (some (.Attribute (.Name x p1) f p2)) pos.line (Xs j).env=pure false:=by intro _; rfl)
  (hd:(x==("__debug__":Str))=false:=by decide) (hcd:(x==("__classdict__":Str))=false:=by decide) (hl:(L.all λi=>L'.contains i)=true:=by rfl):JS Xs B (.Assign [.Attribute (.Name x p1) f p2] e pos) (zeY i cs f L' md):=
 let ⟨_,q,g⟩:=he.ex; ⟨⟨_,λj=>zuU (jx.k' j) (zjY (hN j) (hv j) hd hcd) (q j) (hs j),zyE L' jx.bk hc g hl⟩⟩
theorem za0 (hc:JT Xs B c mt) (ha:JB Xs B sts mf) (hb:JB Xs B ss mh):JS Xs B (.If c sts ss pos) (mIf mt mf mh):=let ⟨_,p,f⟩:=hc.ex; let ⟨_,p',f'⟩:=ha.ex; let ⟨_,q,g⟩:=hb.ex; ⟨⟨_,λi=>zxt (p i) (p' i) (q i),zBi f f' g⟩⟩
theorem zny (jx:JX Xs P w K mg base k B) {tg iter:Expr} {mi:FSt->Option (List D)} {g1:D->FSt->Option FSt} (hi:JI Xs B tg iter mi) (hg:JG Xs B tg g1) (hb:JB Xs B sts mf) (hs:∀ i x,foldedSetIterable iter (Xs i).env x=pure x:=by intro _ _; rfl):JS Xs B (.For tg iter sts [] pos) (zr0 mi g1 mf):=
 let ⟨_,p,f⟩:=hi.ex; let ⟨_,p',f'⟩:=hg.ex; let ⟨_,q,g⟩:=hb.ex; ⟨⟨_,λi=>zxA (jx.x i) (jx.c rfl i) (p i) (p' i) (q i) (hs i),zys f f' g⟩⟩
theorem zam (h:JE Xs B e L me):JS Xs B (.Return (some e) pos) (zaW me):=let ⟨_,p,f⟩:=h.ex; ⟨⟨_,λi=>ztb (p i),zyo f⟩⟩
theorem zmJ (j:Nat) {x:Str} {p1:Pos} (hN:∀ i,(Xs i).N[j]? = some x:=by intro _; rfl) (hv:∀ j,Vis (Xs j).env.scope x:=by intro _; first | exact Or.inl rfl | exact Or.inr (Or.inl rfl) | exact Or.inr (Or.inr rfl)) (hd:(x==("__debug__":Str))=false:=by decide) (hcd:(x==("__classdict__":Str))=false:=by decide):JS Xs B (.Return (some (.Name x p1)) pos) (zob j):=
 ⟨⟨_,λi=>ztb (zjY (hN i) (hv i) hd hcd),zu6 j⟩⟩
theorem zay:JB Xs B [] zaK:=⟨⟨_,λ_=>zuf,zu5⟩⟩
theorem zai (h:JS Xs B st mf):JB Xs B [st] mf:=let ⟨_,p,f⟩:=h.ex; ⟨⟨_,λi=>zoO (p i),f⟩⟩
theorem zag (h:JS Xs B st mf) (h':JB Xs B sts mh):JB Xs B (st :: sts) (za2 mf mh):=let ⟨_,p,f⟩:=h.ex; let ⟨_,q,g⟩:=h'.ex; ⟨⟨_,λi=>znq (p i) (q i),zyn f g⟩⟩
theorem zpS (jx:JX Xs P w K mg base k B cm) (i:Nat) {x:Str} {p1 apos cpos:Pos} {L':List Nat} (he:JD Xs B e L md) (hs1:∀ i,starEach [e] (Xs i).env=[(false,eval e (Xs i).env)]) (hN:∀ j,(Xs j).N[i]? = some x:=by intro _; rfl) (hv:∀ j,Vis (Xs j).env.scope x:=by intro _; first | exact Or.inl rfl | exact Or.inr (Or.inl rfl) | exact Or.inr (Or.inr rfl))
  (hbase:∀ j,attributeBase (.Name x p1) "append" (Xs j).env (eval (.Name x p1) (Xs j).env)=eval (.Name x p1) (Xs j).env:=by intro _; rfl)
  (hfew:∀ i,((backTo cpos (starEach [e] (Xs i).env)).all (λx=>!x.1)&&(backToKw cpos (keywordEach [] (Xs i).env)).all (λx=>x.1.isSome)&&decide ([e].length+([]:List Keyword).length+(if ([]:List Keyword).isEmpty then 0 else 1) < 30))=true:=by intro _; rfl)
  (hline:(apos.endLine==cpos.line)=true:=by rfl) (hs:∀ j,swapsWith (.Call (.Attribute (.Name x p1) "append" apos) [e] [] cpos) none pos.line (Xs j).env=pure false:=by intro _; rfl)
  (hd:(x==("__debug__":Str))=false:=by decide) (hcd:(x==("__classdict__":Str))=false:=by decide) (hl:(L.all λi=>L'.contains i)=true:=by rfl):JS Xs B (.Expr (.Call (.Attribute (.Name x p1) "append" apos) [e] [] cpos) pos) (zu4 i L' md):=
 let ⟨_,p,f⟩:=he.ex; ⟨⟨_,λj=>zuh (zth (jx.k' j) PySem.F.plainAttrs_list PySem.F.slot_list_append PySem.F.type_list_append zlt (zjY (hN j) (hv j) hd hcd) (zms (p j) zoZ (hs1 j)) (hbase j) (hfew j) hline (hs1 j) rfl) (hs j),zyA L' jx.bk f hl⟩⟩
end
structure JIx (k:Nat) (qual:Str) (scope:Scope) (f:Addr) where
 cdv:Value
 A:Around
 outer:List Env
 s:Shared
 H:Hp
 E:XK
 hr:Room k (A.deeper (envOfC qual scope s.heap.objs.size f cdv))
abbrev JXs (P:Program) (w:World) (K:W.Frag) (mg:Str->Option Value) (base:Heap) (N:List Str) (k:Nat) (qual:Str) (scope:Scope) (f:Addr):JIx k qual scope f->Cx:=
 λi=>(zmt CX0 P w K mg base N qual scope f i.cdv i.A i.outer i.s i.H i.E).nox
section
variable {P:Program} {w:World} {K:W.Frag} {mg:Str->Option Value} {base:Heap} {x qual:Str} {st:Stmt} {f:Addr} {fd:FuncData} {N ps:List Str} {k:Nat} {B:Bk} {m:FSt->Fl} {scope:Scope}
theorem zts (hK:B.K=K):JX (JXs P w K mg base N k qual scope f) P w K mg base k B:=⟨λ_=>rfl,λ_=>rfl,λ_=>rfl,λ_=>rfl,λ_=>rfl,λ_ i=>i.hr,λ_ _=>rfl,hK,λ_=>PassesOwn.never⟩
theorem Fun.okJ (F:Fun K x qual st f fd) (S:FnScope N ps (zad st)) (hK:B.K=K) (h:JX (JXs P w K mg base N k qual (zad st) f) P w K mg base k B->JB (JXs P w K mg base N k qual (zad st) f) B (zbc st) m):FnOk P w K mg base CX0 (k+1) f fd ps (SpF B ps.length (zbY m ps.length N.length)):=
 F.okF S λcdv A outer s H E hr=>let ⟨t,p,q⟩:=(h (zts hK)).ex; ⟨t,p ⟨cdv,A,outer,s,H,E,hr⟩,q⟩
theorem Fun.okIJ (F:Fun K x qual st f fd) (S:FnScope N ps (zad st)) (hK:B.K=K) (h:JX (JXs P w K mg base N k qual (zad st) f) P w K mg base k B->JB (JXs P w K mg base N k qual (zad st) f) B (zbc st) m):FnOk P w K mg base CX0 (k+1) f fd ps (SpI B ps.length (zj1 m ps.length N.length)):=
 F.okI S λcdv A outer s H E hr=>let ⟨t,p,q⟩:=(h (zts hK)).ex; ⟨t,p ⟨cdv,A,outer,s,H,E,hr⟩,q⟩
end
abbrev FnT:=List D->Option SV
abbrev BdT:=FSt->Fl
abbrev InT:=Nat->List D->Option (List (Str×D))
section
variable {ι:Type} {Xs:ι->Cx} {es:List Expr}
theorem aN {x pos} (i:ι):starEach (.Name x pos :: es) (Xs i).env=(false,eval (.Name x pos) (Xs i).env) :: starEach es (Xs i).env:=zvm
theorem aC {c k pos} (i:ι):starEach (.Constant c k pos :: es) (Xs i).env=(false,eval (.Constant c k pos) (Xs i).env) :: starEach es (Xs i).env:=zmD
theorem aT {a b pos} (i:ι):starEach (.Tuple a b pos :: es) (Xs i).env=(false,eval (.Tuple a b pos) (Xs i).env) :: starEach es (Xs i).env:=zr6
theorem aB {a o b pos} (i:ι):starEach (.BinOp a o b pos :: es) (Xs i).env=(false,eval (.BinOp a o b pos) (Xs i).env) :: starEach es (Xs i).env:=zr7
theorem aO {o b pos} (i:ι):starEach (.BoolOp o b pos :: es) (Xs i).env=(false,eval (.BoolOp o b pos) (Xs i).env) :: starEach es (Xs i).env:=zpN
theorem aL {a b c pos} (i:ι):starEach (.Call a b c pos :: es) (Xs i).env=(false,eval (.Call a b c pos) (Xs i).env) :: starEach es (Xs i).env:=zmE
theorem aS {a b pos} (i:ι):starEach (.Subscript a b pos :: es) (Xs i).env=(false,eval (.Subscript a b pos) (Xs i).env) :: starEach es (Xs i).env:=zlD
theorem aA {a b pos} (i:ι):starEach (.Attribute a b pos :: es) (Xs i).env=(false,eval (.Attribute a b pos) (Xs i).env) :: starEach es (Xs i).env:=zlE
theorem aI {a b c pos} (i:ι):starEach (.IfExp a b c pos :: es) (Xs i).env=(false,eval (.IfExp a b c pos) (Xs i).env) :: starEach es (Xs i).env:=zr8
theorem aM {a b c pos} (i:ι):starEach (.ListComp a b c pos :: es) (Xs i).env=(false,eval (.ListComp a b c pos) (Xs i).env) :: starEach es (Xs i).env:=zmF
end
theorem scm {N ps:List Str} {s:Scope} (a:s.kind=.function:=by rfl) (b:s.isCoroutine=false:=by rfl) (c:s.isGenerator=false:=by rfl) (d:N.Nodup:=by decide +kernel) (e:N.take ps.length=ps:=by rfl) (f:∀ x∈ps,s.names.lookup x=some .local\/s.names.lookup x=some .cell:=by decide +kernel) (g:∀ y∈s.names,y.2≠.free:=by decide +kernel):FnScope N ps s:=⟨a,b,c,d,e,f,g⟩
section
variable {K:W.Frag} {x qual:Str} {st:Stmt} {f:Addr} {fd:FuncData}
theorem Fun.b1 {p0:Str} (F:Fun K x qual st f fd) (h:∀ (kV doc pm:Value) (an:Option Addr) (cdv ct u0:Value),bindArgs (W.fnOf x qual (zch st) (zbc st) (zad st) .none kV doc pm an cdv ct) ⟨[u0],[]⟩=pure [(p0,u0)]:=by intros; rfl):Binds K fd [p0] []:=F.binds (ps:=[p0]) λkV doc pm an cdv ct us hl=>match us,hl with | [u0],_=>h kV doc pm an cdv ct u0
theorem Fun.b2 {p0 p1:Str} (F:Fun K x qual st f fd) (h:∀ (kV doc pm:Value) (an:Option Addr) (cdv ct u0 u1:Value),bindArgs (W.fnOf x qual (zch st) (zbc st) (zad st) .none kV doc pm an cdv ct) ⟨[u0,u1],[]⟩=pure [(p0,u0),(p1,u1)]:=by intros; rfl):Binds K fd [p0,p1] []:=F.binds (ps:=[p0,p1]) λkV doc pm an cdv ct us hl=>match us,hl with | [u0,u1],_=>h kV doc pm an cdv ct u0 u1
theorem Fun.b3 {p0 p1 p2:Str} (F:Fun K x qual st f fd) (h:∀ (kV doc pm:Value) (an:Option Addr) (cdv ct u0 u1 u2:Value),bindArgs (W.fnOf x qual (zch st) (zbc st) (zad st) .none kV doc pm an cdv ct) ⟨[u0,u1,u2],[]⟩=pure [(p0,u0),(p1,u1),(p2,u2)]:=by intros; rfl):Binds K fd [p0,p1,p2] []:=F.binds (ps:=[p0,p1,p2]) λkV doc pm an cdv ct us hl=>match us,hl with | [u0,u1,u2],_=>h kV doc pm an cdv ct u0 u1 u2
theorem Fun.b4 {p0 p1 p2 p3:Str} (F:Fun K x qual st f fd) (h:∀ (kV doc pm:Value) (an:Option Addr) (cdv ct u0 u1 u2 u3:Value),bindArgs (W.fnOf x qual (zch st) (zbc st) (zad st) .none kV doc pm an cdv ct) ⟨[u0,u1,u2,u3],[]⟩=pure [(p0,u0),(p1,u1),(p2,u2),(p3,u3)]:=by intros; rfl):Binds K fd [p0,p1,p2,p3] []:=F.binds (ps:=[p0,p1,p2,p3]) λkV doc pm an cdv ct us hl=>match us,hl with | [u0,u1,u2,u3],_=>h kV doc pm an cdv ct u0 u1 u2 u3
theorem Fun.b5 {p0 p1 p2 p3 p4:Str} (F:Fun K x qual st f fd) (h:∀ (kV doc pm:Value) (an:Option Addr) (cdv ct u0 u1 u2 u3 u4:Value),bindArgs (W.fnOf x qual (zch st) (zbc st) (zad st) .none kV doc pm an cdv ct) ⟨[u0,u1,u2,u3,u4],[]⟩=pure [(p0,u0),(p1,u1),(p2,u2),(p3,u3),(p4,u4)]:=by intros; rfl):Binds K fd [p0,p1,p2,p3,p4] []:=F.binds (ps:=[p0,p1,p2,p3,p4]) λkV doc pm an cdv ct us hl=>match us,hl with | [u0,u1,u2,u3,u4],_=>h kV doc pm an cdv ct u0 u1 u2 u3 u4
theorem Fun.b6 {p0 p1 p2 p3 p4 p5:Str} (F:Fun K x qual st f fd) (h:∀ (kV doc pm:Value) (an:Option Addr) (cdv ct u0 u1 u2 u3 u4 u5:Value),bindArgs (W.fnOf x qual (zch st) (zbc st) (zad st) .none kV doc pm an cdv ct) ⟨[u0,u1,u2,u3,u4,u5],[]⟩=pure [(p0,u0),(p1,u1),(p2,u2),(p3,u3),(p4,u4),(p5,u5)]:=by intros; rfl):Binds K fd [p0,p1,p2,p3,p4,p5] []:=F.binds (ps:=[p0,p1,p2,p3,p4,p5]) λkV doc pm an cdv ct us hl=>match us,hl with | [u0,u1,u2,u3,u4,u5],_=>h kV doc pm an cdv ct u0 u1 u2 u3 u4 u5
theorem Fun.b7 {p0 p1 p2 p3 p4 p5 p6:Str} (F:Fun K x qual st f fd) (h:∀ (kV doc pm:Value) (an:Option Addr) (cdv ct u0 u1 u2 u3 u4 u5 u6:Value),bindArgs (W.fnOf x qual (zch st) (zbc st) (zad st) .none kV doc pm an cdv ct) ⟨[u0,u1,u2,u3,u4,u5,u6],[]⟩=pure [(p0,u0),(p1,u1),(p2,u2),(p3,u3),(p4,u4),(p5,u5),(p6,u6)]:=by intros; rfl):Binds K fd [p0,p1,p2,p3,p4,p5,p6] []:=F.binds (ps:=[p0,p1,p2,p3,p4,p5,p6]) λkV doc pm an cdv ct us hl=>match us,hl with | [u0,u1,u2,u3,u4,u5,u6],_=>h kV doc pm an cdv ct u0 u1 u2 u3 u4 u5 u6
theorem Fun.b8 {p0 p1 p2 p3 p4 p5 p6 p7:Str} (F:Fun K x qual st f fd) (h:∀ (kV doc pm:Value) (an:Option Addr) (cdv ct u0 u1 u2 u3 u4 u5 u6 u7:Value),bindArgs (W.fnOf x qual (zch st) (zbc st) (zad st) .none kV doc pm an cdv ct) ⟨[u0,u1,u2,u3,u4,u5,u6,u7],[]⟩=pure [(p0,u0),(p1,u1),(p2,u2),(p3,u3),(p4,u4),(p5,u5),(p6,u6),(p7,u7)]:=by intros; rfl):Binds K fd [p0,p1,p2,p3,p4,p5,p6,p7] []:=F.binds (ps:=[p0,p1,p2,p3,p4,p5,p6,p7]) λkV doc pm an cdv ct us hl=>match us,hl with | [u0,u1,u2,u3,u4,u5,u6,u7],_=>h kV doc pm an cdv ct u0 u1 u2 u3 u4 u5 u6 u7
end
@[simp] def zpT (S:FSt) (p:Nat):Option (List Int):=match S[p]? with
 | some (some (.pu ns))=>some ns
 | _=>none
section
variable {B:Bk} {p:Nat} {H H1 H2 H':Hp} {F F1 F2 F':Addr->Prop} {σ:St} {S:FSt} {os:Nat->List Addr} {L La Lb:List Nat} {ns:List Int}
end
@[simp] def mPu {α:Type} (p:Nat) (m:FSt->Option α):FSt->Option (α×List Int):=λS=>(zpT S p).bind λns=>(m S).map λx=>(x,ns)
@[simp] def mP2 {α:Type} (p:Nat) (f:D->D->Option α) (ma mb:FSt->Option (SV×List Int)):FSt->Option (α×List Int):=λS=>(ma S).bind λx=>(mb (S.set p (some (.pu x.2)))).bind λy=>(f x.1.fr y.1.fr).map λz=>(z,y.2)
@[simp] def zC3 (p:Nat) (ma:FSt->Option (SV×List Int)) (mr:FSt->Option (List D×List Int)):FSt->Option (List D×List Int):=λS=>(ma S).bind λx=>(mr (S.set p (some (.pu x.2)))).bind λy=>some (x.1.fr :: y.1,y.2)
@[simp] def mP1 {α β:Type} (f:α->Option β) (ma:FSt->Option (α×List Int)):FSt->Option (β×List Int):=λS=>(ma S).bind λx=>(f x.1).map λz=>(z,x.2)
section
variable {B:Bk} {p:Nat} {ta tb:TE} {La Lb L:List Nat} {ma mb:FSt->Option (SV×List Int)} {tr:TA} {mr:FSt->Option (List D×List Int)} {me:FSt->Option SV} {md:FSt->Option D}
@[simp] def zEh:List D->Option SV:=λds=>if ds.length<=sizeLine then some (.li ds) else none
@[simp] def zEi:List D->Option SV:=λds=>if ds.length<=sizeLine then some (.sh (.tup ds)) else none
@[simp] def zEj (p:Nat) (f:D->List D->Option SV) (ma:FSt->Option (SV×List Int)) (mr:FSt->Option (List D×List Int)):FSt->Option (SV×List Int):=λS=>(ma S).bind λx=>(mr (S.set p (some (.pu x.2)))).bind λy=>(f x.1.fr y.1).map λz=>(z,y.2)
end
@[simp] def zC4 (f:List Int->List D->Option (SV×List Int)) (mr:FSt->Option (List D×List Int)):FSt->Option (SV×List Int):=λS=>(mr S).bind λy=>f y.2 y.1
@[simp] def zpU:List D->Option (List Int)
 | []=>some []
 | .int i :: r=>(zpU r).map λis=>i :: is
 | _=>none
@[simp] def zC5 (f:List Int->List D->Option SV) (me:FSt->Option SV):FSt->Option SV:=λS=>(me S).bind λx=>match x with
 | .li ds=>(zpU ds).bind λns=>f ns []
 | _=>none
section
variable {B:Bk} {p:Nat} {ta tb:TE} {La Lb L:List Nat} {tr:TA} {mr:FSt->Option (List D×List Int)} {me:FSt->Option SV}
end
def zpV (pc:Nat) (mg:D->FSt->Option FSt) (mt:FSt->Option (Bool×List Int)) (me:FSt->Option (SV×List Int)):List D->FSt->Option (List D×List Int)
 | [],S=>(zpT S pc).map λns=>([],ns)
 | d :: r,S=>(mg d S).bind λS1=>(mt S1).bind λc=>if c.1=true then (me (S1.set pc (some (.pu c.2)))).bind λx=>(zpV pc mg mt me r (S1.set pc (some (.pu x.2)))).map λy=>(x.1.fr :: y.1,y.2) else zpV pc mg mt me r (S1.set pc (some (.pu c.2)))
@[simp] def zyN (own:Nat) (fi:List Nat) (p:Nat) (S:FSt):FSt:=List.replicate own none++fi.map λj=>if j=p then S[j]?.join else (S[j]?.join).map λx=>SV.sh x.fr
@[simp] def zC6 (own:Nat) (fi:List Nat) (p pc:Nat) (mi:FSt->Option (List D×List Int)) (mg:D->FSt->Option FSt) (mt:FSt->Option (Bool×List Int)) (me:FSt->Option (SV×List Int)):FSt->Option (SV×List Int):=λS=>
 (mi S).bind λits=>if its.1.length<=sizeLine then (zpV pc mg mt me its.1 (zyN own fi p (S.set p (some (.pu its.2))))).map λy=>(SV.li y.1,y.2) else none
section
variable {B:Bk} {p pc:Nat} {wi:TI} {mi:FSt->Option (List D×List Int)} {g:TG} {mg:D->FSt->Option FSt} {tt:TT} {mt:FSt->Option (Bool×List Int)} {te:TE} {me:FSt->Option (SV×List Int)} {own:Nat} {fi L:List Nat}
end
@[simp] def zDD (p i:Nat) (L:List Nat) (me:FSt->Option (SV×List Int)):FSt->Fl:=λS=>match zpT S p,me S with
 | some _,some y=>put i L y.1 (S.set p (some (.pu y.2)))
 | _,_=>.bad
@[simp] def zDE (p:Nat) (L:List Nat) (me:FSt->Option (SV×List Int)) (mg:D->FSt->Option FSt):FSt->Fl:=λS=>match zpT S p,me S with
 | some _,some y=>if y.1.plain=true then (match mg y.1.fr (S.set p (some (.pu y.2))) with | some S'=>.nx S' | none=>.bad) else if L.any (zeP (S.set p (some (.pu y.2))))=false then (match mg y.1.fr (frzs L (S.set p (some (.pu y.2)))) with | some S'=>.nx S' | none=>.bad) else .bad
 | _,_=>.bad
@[simp] def zEk (p:Nat) (c:FSt->Option (Bool×List Int)) (a b:FSt->Fl):FSt->Fl:=λS=>match zpT S p,c S with
 | some _,some y=>if y.1=true then a (S.set p (some (.pu y.2))) else b (S.set p (some (.pu y.2)))
 | _,_=>.bad
@[simp] def zDF (p:Nat) (mi:FSt->Option (List D×List Int)) (mg:D->FSt->Option FSt) (mb:FSt->Fl):FSt->Fl:=λS=>match zpT S p,mi S with
 | some _,some y=>zdG mg mb y.1 (S.set p (some (.pu y.2)))
 | _,_=>.bad
@[simp] def zDG (p:Nat) (me:FSt->Option (SV×List Int)):FSt->Fl:=λS=>match zpT S p,me S with
 | some _,some y=>.rt y.1
 | _,_=>.bad
@[simp] def zEl (p:Nat):FSt->Option (SV×List Int):=λS=>(zpT S p).bind λns=>(ns[ns.length-1]?).map λn=>(.sh (.int n),ns.dropLast)
@[simp] def zDH (p:Nat) (me:FSt->Option (SV×List Int)) (mk:FSt->Option D):FSt->Fl:=λS=>match zpT S p,me S with
 | some _,some y=>match y.1,mk (S.set p (some (.pu y.2))) with
  | .sh (.int v),some (.int k)=>match ixN y.2.length k with
   | some j=>.nx (S.set p (some (.pu (y.2.set j v))))
   | none=>.bad
  | _,_=>.bad
 | _,_=>.bad
section
variable {B:Bk} {p:Nat} {te:TE} {L:List Nat} {me:FSt->Option (SV×List Int)} {K:W.Frag}
end
inductive Fl2 where
 | nx (S:FSt) | rt (x:SV) (S:FSt) | bad
@[simp] def mOf (m:FSt->Fl):FSt->Fl2:=λS=>match m S with
 | .nx S'=>.nx S'
 | _=>.bad
@[simp] def zDI (a b:FSt->Fl2):FSt->Fl2:=λS=>match a S with
 | .nx S1=>b S1
 | r=>r
@[simp] def zEm (c:FSt->Option Bool) (a b:FSt->Fl2):FSt->Fl2:=λS=>match c S with
 | some true=>a S
 | some false=>b S
 | none=>.bad
@[simp] def zDJ (p:Nat) (c:FSt->Option (Bool×List Int)) (a b:FSt->Fl2):FSt->Fl2:=λS=>match zpT S p,c S with
 | some _,some y=>if y.1=true then a (S.set p (some (.pu y.2))) else b (S.set p (some (.pu y.2)))
 | _,_=>.bad
@[simp] def zDK (p:Nat) (L:List Nat) (me:FSt->Option (SV×List Int)):FSt->Fl2:=λS=>match zpT S p,me S with
 | some _,some y=>if y.1.plain=true then .rt y.1 (S.set p (some (.pu y.2))) else if L.any (zeP (S.set p (some (.pu y.2))))=false then .rt y.1 (frzs L (S.set p (some (.pu y.2)))) else .bad
 | _,_=>.bad
@[simp] def zC7 (i:Nat):FSt->Fl2:=λS=>match S[i]? with
 | some (some x)=>if lkO (some x)=false then .rt x (S.set i none) else .bad
 | _=>.bad
section
variable {B:Bk} {p:Nat} {te:TE} {L:List Nat} {me:FSt->Option (SV×List Int)} {t u:TS} {ma mb:FSt->Fl2}
end
section
variable {P:Program} {w:World} {K:W.Frag} {mg:Str->Option Value} {base:Heap} {x qual:Str} {st:Stmt} {f:Addr} {fd:FuncData} {N ps:List Str} {k:Nat} {B:Bk}
end
section
variable {ι:Type}
variable {Xs:ι->Cx} {P:Program} {w:World} {K:W.Frag} {mg:Str->Option Value} {base:Heap} {k p:Nat} {B:Bk} {a b e o c:Expr} {es:List Expr} {L L' La Lb:List Nat} {ma mb mx:FSt->Option (SV×List Int)} {me:FSt->Option SV} {md:FSt->Option D} {mt:FSt->Option (Bool×List Int)} {mr:FSt->Option (List D×List Int)} {pos:Pos}
@[simp] def oSh (f:D->D->Option D):D->D->Option SV:=λx y=>(f x y).map SV.sh
@[simp] def zC8 (f:D->D->Option D) (p:Nat) (ma mb:FSt->Option (SV×List Int)):FSt->Option (Bool×List Int):=mP1 asB λS=>(mP2 p (oSh f) ma mb S).map λx=>(x.1.fr,x.2)
@[simp] noncomputable def zEn (mr:FSt->Option (List D×List Int)):FSt->Option (List D×List Int):=mP1 (λds=>match ds with | [.int j]=>ztl [.int j] | _=>none) mr
variable {mf mh:FSt->Fl} {st:Stmt} {sts ss:List Stmt} {m2f m2h:FSt->Fl2}
end
section
variable {P:Program} {w:World} {K:W.Frag} {mg:Str->Option Value} {base:Heap} {x qual:Str} {st:Stmt} {f:Addr} {fd:FuncData} {N ps:List Str} {k:Nat} {B:Bk} {scope:Scope}
end
@[simp] noncomputable def zyO:Int->List Int->Bool
 | _,[]=>true
 | s,n :: ns=>zmA n&&(zmA (s+n)&&zyO (s+n) ns)
@[simp] noncomputable def zEo:List D->Option SV
 | [.lst ds]=>(zpU ds).bind λns=>if zyO 0 ns=true then some (.sh (.int ns.sum)) else none
 | _=>none
section
variable {B:Bk} {K:W.Frag}
@[simp] def zC9 (i:Nat):FSt->Fl:=λS=>match S[i]? with
 | some (some (.li xs))=>.nx (S.set i (some (.li [])))
 | _=>.bad
@[simp] def zEp (m:FSt->Option (SV×List Int)):FSt->Option (Option Int×List Int):=λS=>(m S).bind λy=>match y.1 with
 | .sh (.int i)=>some (some i,y.2)
 | _=>none
@[simp] def zEq (p:Nat) (a:FSt->Option (SV×List Int)) (l h:FSt->Option (Option Int×List Int)):FSt->Option (SV×List Int):=λS=>(a S).bind λx=>(l (S.set p (some (.pu x.2)))).bind λlo=>(h (S.set p (some (.pu lo.2)))).bind λhi=>(oSl x.1.fr lo.1 hi.1).map λz=>(z,hi.2)
variable {p:Nat} {te:TE} {L:List Nat} {ma:FSt->Option (SV×List Int)} {tl th:TO} {ml mh:FSt->Option (Option Int×List Int)}
end
section
variable {ι:Type}
variable {Xs:ι->Cx} {P:Program} {w:World} {K:W.Frag} {mg:Str->Option Value} {base:Heap} {k p:Nat} {B:Bk} {a b e o c:Expr} {es:List Expr} {L:List Nat} {ma:FSt->Option (SV×List Int)} {pos:Pos}
end
section
variable {prog:Program} {w:World} {A:Around} {E:Value->Shared->Prop} {s:Shared}
end
section
variable {X:Cx} {pins:List (Addr×Obj)} {σ:St} {H:Hp} {s:Shared}
end
section
variable {X:Cx} {o:Expr} {td:TE} {elts:List Expr} {x1:Nat} {pos apos cpos:Pos}
end
@[simp] def mZ (me:FSt->Option SV):FSt->Option D:=λS=>(me S).bind λx=>match x with
 | .dT kvs=>some (.dZ kvs)
 | _=>none
@[simp] def zyP:D->Option (List D)
 | .dZ kvs=>some (kvs.map λkv=>.tup [.tup (kv.1.map kD),kv.2])
 | _=>none
@[simp] def zDa (md:FSt->Option D):FSt->Option (List D):=λS=>(md S).bind zyP
section
variable {B:Bk} {t td:TE} {L:List Nat} {me:FSt->Option SV} {md:FSt->Option D}
end
section
variable {X:Cx} {pins:List (Addr×Obj)} {σ:St} {H:Hp} {s:Shared}
theorem Inv.turnLaidL {h':Heap} {t':Nat} {ch:List Addr} {a:Addr} {o:HO} (I:Inv X pins σ H s) (k:∀ b o,b∉ch->s.heap.get? b=some o->h'.get? b=some o) (ha:s.heap.objs.size<=a) (new:ObjOk X.prog X.w (upd H a o) h' a o) (hc:∀ b∈ch,zjv X pins H b):Inv X pins σ (upd H a o) { s with heap:=h',toks:=t' }:=by
 have hna:H a=none:=I.hok.fresh ha;have nit:∀ b u,H b=some u->b∉ch:=λb u e z=>by rw [(hc b z).1] at e; cases e
 have na:∀ b u,H b=some u->b≠a:=λb u e z=>by rw [z,hna] at e; cases e
 have nold:∀ b o,s.heap.get? b=some o->b≠a:=λb o e z=>by rw [z] at e; exact absurd (Heap.lt_size e) (Nat.not_lt.mpr ha)
 refine I.step (g':=s.gens) (d':=s.drawn) (ch:=ch) (λb hb=>⟨(hc b hb).2.2.2.1,(hc b hb).2.1,(hc b hb).2.2.2.2.1,(hc b hb).2.2.2.2.2⟩) (λb o _ _ hc e _=>k b o hc e) (λb o _ _ hc e _=>⟨o.slots,k b o hc e⟩) (λb o _ e n=>by rw [zas (nold b o e)]; exact n)
  (λb o hc e=>⟨o,k b o hc e⟩) (λb xs e=>by rw [zas (na b _ e)]; exact e) (λb o u e=>by rw [zas (na b _ e)]; exact e) (λb ps e=>⟨#[],by rw [zas (na b _ e),e]; simp⟩) (λm hm=>?_) (λb u e=>?_) I.bare
 ·obtain ⟨o,es,ep,ho,r⟩:=hm;exact ⟨o,es,ep,k _ o (λz=>(hc _ z).2.1 rfl) ho,r⟩
 ·by_cases hb:b=a
  ·subst hb; rw [zaB] at e; cases e; exact new
  ·rw [zas hb] at e;refine (I.hok b u e).stay (λc v hc q=>k c v ?_ q) (λc q=>by rw [zas (na c _ q)]; exact q) λc xs q=>by rw [zas (na c _ q)]; exact q
   rcases hc with z | z
   ·rw [z]; exact nit b u e
   ·exact nit c _ z
end
def Ite (K:W.Frag) (a:Addr):It:=
 ⟨λi H=>∃ xs x,SqL K H a xs/\xs[i]? = some x,λi H x H'=>∃ t y,(∀ xs,SqL K H a xs->xs[i]? = some y)/\H t=none/\x=.ref t/\H'=upd H t (.tup [.int (i:Nat),y]),λi H=>∃ xs,SqL K H a xs/\xs.length<=i⟩
theorem zpW {P:Program} {w:World} {K:W.Frag} {elts:List Expr} {x1} {pos:Pos} (a it e:Addr) (ne:e≠it) (nl:e≠a) (nl2:it≠a):Turn P w K (.Tuple elts x1 pos) (Ite K a) [e,it] e (λi h=>∃ old,IsEnum h e it (i:Nat) old/\h.IsListIter it a i) where
 mem:=by simp
 obj:=λi h ⟨old,s1,s2⟩ b hb=>by
  rcases List.mem_cons.mp hb with rfl | hb
  ·exact ⟨_,s1,λv z=>by
    have z':Data.fields _=Data.cell v:=z;cases z'⟩
  ·have e:b=it:=by simpa using hb
   subst e;obtain ⟨o,e,c,d⟩:=s2;exact ⟨o,e,λv z=>by rw [d] at z; cases z⟩
 keep:=λi h h' ⟨old,s1,s2⟩ k=>⟨old,k e (by simp) _ s1,s2.at λo q=>k it (by simp) o q⟩
 item:=by
  intro X hP hw hK hc i pins s σ H E I hf ⟨old,s1,s2⟩ hg;subst hP hw hK;obtain ⟨xs,x,hq,hx⟩:=hg;obtain ⟨its,rv,p,hz⟩:=I.list hq;obtain ⟨u,hu,ru⟩:=rv.get hx;refine wpAny_pyNext_enum_item s1 s2 p.isList (x:=u) (by simpa using hu) ne λh' o1 l1 t1 z1 kk=>?_;refine ⟨_,rfl,wpAny_letOwnedTupleGo_enum (s:={ s with heap:=h',toks:=s.toks+1 }) o1 λh'' e2 sb=>?_⟩;have hte:s.heap.objs.size≠e:=Nat.ne_of_gt (Heap.lt_size s1)
  obtain ⟨oi,hoi,_⟩:=id s2;have hti:s.heap.objs.size≠it:=Nat.ne_of_gt (Heap.lt_size hoi);have fr:H s.heap.objs.size=none:=I.hok.fresh (Nat.le_refl _);have k2:∀ b o,b∉[e,it]->s.heap.get? b=some o->h''.get? b=some o:=λb o hb q=>by
   have n1:b≠e:=λz=>hb (by simp [z]);have n2:b≠it:=λz=>hb (by simp [z]);exact sb.extBut b o n1 (kk b o n1 n2 q)
  have t2:h''.get? s.heap.objs.size=some { cls:=.type "tuple",data:=.seq #[.int i s.toks,u] }:=sb.extBut _ _ hte t1;have new:ObjOk X.prog X.w (upd H s.heap.objs.size (.tup [.int (i:Nat),x])) h'' s.heap.objs.size (.tup [.int (i:Nat),x]):=
   ⟨by rw [sizeLine_eq]; simp,[.int i s.toks,u],.cons ⟨_,rfl⟩ (.cons ru .nil),_,t2,rfl,0,rfl⟩
  have I2:=I.turnLaidL (t':=s.toks+1) k2 (Nat.le_refl _) new hf;have l2:h''.IsListIter it a (i+1):=l1.extBut sb.extBut (Ne.symm ne);refine ⟨.ref s.heap.objs.size,_,I2,rfl,⟨_,x,λys hy=>by rw [I.list_inj hy hq]; exact hx,fr,rfl,rfl⟩,⟨_,by simpa using e2,l2⟩,λb hb=>?_⟩;rcases List.mem_cons.mp hb with rfl | hb
  ·rw [zas (Ne.symm hte)]; exact (hf _ (by simp)).1
  ·have q:b=it:=by simpa using hb
   subst q;rw [zas (Ne.symm hti)]; exact (hf _ (by simp)).1
 done:=by
  intro X hP hw hK hc i pins s σ H E I hf ⟨old,s1,s2⟩ hg;subst hP hw hK;obtain ⟨xs,hq,hx⟩:=hg;obtain ⟨its,rv,p,hz⟩:=I.list hq;obtain ⟨f0,f1,f2,f3,f4,f5⟩:=hf it (by simp);have hl:=rv.length;exact wpAny_pyNext_enum_end (I.ok.hd hc) s1 s2 p.isList (by simp; omega) λh' eb=>⟨rfl,I.turned (t':=s.toks) (λb o hb e=>eb b o hb e) f0 f1 f3 f4 f5⟩
 self:=λ_ _ _ _ _ ⟨old,s1,s2⟩ h=>wpAny_pyIter_enum s1 h
def zyQ (K:W.Frag) (ta:TA):TI:=λσ H R=>ta σ H λvs H1=>∃ a xs,vs=[.ref a]/\SqL K H1 a xs/\R (Ite K a) H1
section
variable {X:Cx} {a:Expr} {ta:TA} {elts:List Expr} {x1:Nat} {pos p cpos:Pos}
theorem zvn (hg:Gl X "enumerate") (hm:X.mg "enumerate"=none) (hv:bootBuiltins "enumerate"=some (.type "enumerate")) (ha:PA X [a] ta) (hs:starEach [a] X.env=[(false,eval a X.env)]:=by rfl):PI X (.Tuple elts x1 pos) (.Call (.Name "enumerate" p) [a] [] cpos) (zyQ X.K ta):=by
 intro pins s σ H R I h;refine Call_ (zgV I hg hm hv (PyProof.Rows.callWith_type1 (thn (ha cpos pins s σ H _ I h) λus s1 ⟨vs,H1,I1,r1,q1⟩=>?_) hs rfl));obtain ⟨b,xs,e,hq,q⟩:=q1;subst e;cases r1 with
 | cons r rr=>
  cases rr
  cases r
  obtain ⟨its,rv,pl,hz⟩:=I1.list hq;obtain ⟨ol,hol,_⟩:=id pl.isList;have hlt:=Heap.lt_size hol;refine call_enumerate_list pl.isList λh' e1 l1 z1 kk=>?_;refine wpAny_pyIter_enum (s:={ s1 with heap:=h' }) e1 ?_;have I2:Inv X pins σ H1 { s1 with heap:=h',toks:=s1.toks }:=I1.kept λc o e=>kk c o e;refine ⟨_,[s1.heap.objs.size+1,s1.heap.objs.size],_,_,H1,rfl,I2,zpW b s1.heap.objs.size (s1.heap.objs.size+1) (Nat.succ_ne_self _) (Nat.ne_of_gt (Nat.lt_succ_of_lt hlt)) (Nat.ne_of_gt hlt),⟨_,by simpa using e1,l1⟩,λc hb=>?_,q⟩
  have hc:s1.heap.objs.size<=c:=by
   rcases List.mem_cons.mp hb with rfl | hb
   ·exact Nat.le_succ _
   ·have:c=s1.heap.objs.size:=by simpa using hb
    rw [this]; exact Nat.le_refl _
  exact I1.fpOk hc (I1.hok.fresh hc)
end
@[simp] def ztt:List D->Option (List D)
 | [.lst ds]=>some (ds.zipIdx.map λp=>.tup [.int (p.2:Nat),p.1])
 | [.fz ds]=>some (ds.zipIdx.map λp=>.tup [.int (p.2:Nat),p.1])
 | _=>none
@[simp] def zsb (L:List Nat) (mr:FSt->Option (List D)):FSt->Option (List D):=λS=>(mr S).bind λds=>if D.plains ds=true\/L.all (zpv S)=true then ztt ds else none
section
variable {B:Bk} {tr:TA} {L:List Nat} {mr:FSt->Option (List D)}
theorem zj5 {H:Hp} {G:Addr->Prop} {a:Addr} {xs:List V} {ds:List D} (h:∀ H2,(∀ b o,G b->H b=some o->H2 b=some o)->SqL B.K H2 a xs) (q:DAs B H G xs ds):Walks B (Ite B.K a) H G (ds.zipIdx.map λp=>.tup [.int (p.2:Nat),p.1]):=by
 intro H2 F2 k up;have h2:=h H2 k;have q2:=q.mono k up;refine ⟨λi d e=>?_,λi hi=>⟨xs,h2,by rw [q.length]; simpa using hi⟩⟩;rw [List.getElem?_map,List.getElem?_zipIdx] at e;cases qd:ds[i]? with
 | none=>rw [qd] at e; cases e
 | some d0=>
  rw [qd] at e;simp only [Option.map_some,Option.some.injEq,Nat.zero_add] at e;subst e;obtain ⟨v,e1,d1⟩:=q2.get qd;refine ⟨⟨xs,v,h2,e1⟩,λx H3 y=>?_⟩;obtain ⟨t,y,hy,e3,rfl,rfl⟩:=y;have e2:=hy xs h2;rw [e1] at e2;cases e2
  refine ⟨λc=>F2 c\/c=t,zd5 e3,.tup ⟨.inr rfl,zaB⟩ (.cons (.int _) (.cons (d1.mono (λc u _ q=>zfY e3 c u q) λ_ z=>.inl z) .nil))⟩
theorem zvo {K:W.Frag} (hK:B.K=K) (hr:FA B tr L mr):FI B (zyQ K tr) (zsb L mr):=by
 subst hK;intro S σ H F os R its r e k;obtain ⟨ds,ed,ef⟩:=zbH e;split at ef
 case isFalse=>cases ef
 case isTrue c=>
  refine hr S σ H F os _ ds r ed λvs H' F' al r' das=>?_;have toF:DAs B H' F' vs ds:=by
   rcases c with c | c
   ·exact das.toF r' c
   ·refine das.mono (λ_ _ _ e=>e) λb z=>?_;rcases z with z | ⟨i,hi,z⟩
    ·exact z
    ·obtain ⟨x,v,e1,e2,va⟩:=r'.own z;have hu:=List.all_eq_true.mp c i hi;unfold zpv at hu;rw [e1] at hu;cases x with
     | sh d=>rw [va.1] at z; simp at z
     | _=>cases hu
  unfold ztt at ef;split at ef
  ·cases ef
   obtain ⟨v,rfl,d⟩:=toF.one;cases d with
   | lst h q=>exact ⟨_,_,rfl,h.sq,k _ H' F' al r' (zj5 (λH2 kk=>.inl (.inl (kk _ _ h.1 h.2))) q)⟩
  ·cases ef
   obtain ⟨v,rfl,d⟩:=toF.one;cases d with
   | fz h q=>exact ⟨_,_,rfl,h.sq,k _ H' F' al r' (zj5 (λH2 kk=>(h.keep kk λ_ z=>z).sq) q)⟩
  ·cases ef
end
section
variable {ι:Type} {Xs:ι->Cx} {P:Program} {w:World} {K:W.Frag} {mg:Str->Option Value} {base:Heap} {k:Nat} {B:Bk} {a e o:Expr} {L:List Nat} {me:FSt->Option SV} {md:FSt->Option D} {mr:FSt->Option (List D)}
theorem zvp (jx:JX Xs P w K mg base k B) {elts:List Expr} {x1:Nat} {pos p cpos:Pos} (hm:mg "enumerate"=none) (hv:bootBuiltins "enumerate"=some (.type "enumerate")) (ha:JA Xs B [a] L mr) (hs:∀ i,starEach [a] (Xs i).env=[(false,eval a (Xs i).env)]:=by intro _; rfl) (hg:∀ i,Gl (Xs i) "enumerate":=by intro _; rfl):JI Xs B (.Tuple elts x1 pos) (.Call (.Name "enumerate" p) [a] [] cpos) (zsb L mr):=
 let ⟨_,q,f⟩:=ha.ex; ⟨⟨_,λi=>by have:=zvn (X:=Xs i) (elts:=elts) (x1:=x1) (pos:=pos) (p:=p) (cpos:=cpos) (hg i) (jx.m i▸hm) hv (q i) (hs i); rw [jx.k' i] at this; exact this,zvo jx.bk f⟩⟩
end
def XAt (e:Addr) (C:Value) (dx:Option Addr) (T:Option Addr) (fl:Value) (h:Heap):Prop:=
 ∃ oe vs,h.get? e=some oe/\oe.cls=C/\oe.dict=dx/\oe.data=.fields vs/\1 < vs.size/\
  match T with
  | none=>vs[1]? = some .none
  | some T=>vs[1]? = some (.ref T)/\T≠e/\∃ oT ts,h.get? T=some oT/\oT.data=.fields ts/\ts[3]? = some fl
structure KeptX (fs:List Addr) (e:Addr) (T:Option Addr) (h h':Heap):Prop where
 keep:∀ b o,h.get? b=some o->b≠e->T≠some b->b∉fs->h'.get? b=some o
 slot:∀ b o,h.get? b=some o->b≠e->T≠some b->∃ sl,h'.get? b=some { o with slots:=sl }
 there:∀ b o,h.get? b=some o->∃ o',h'.get? b=some o'
 size:h.objs.size<=h'.objs.size
theorem zjA (o:Obj) (f):(o.mapFields f).dict=o.dict:=by
 unfold Obj.mapFields;split <;> rfl
section
variable {M:Model} {A:Around} {E:Value->Shared->Prop} {s:Shared} {base:Heap} {env:Env} {outer:List Env} {L e:Addr}
theorem zpX {oe:Obj} {vs:Array Value} {head:Value} {hadNext:Bool} {Q:Unit->Shared->Prop} (hfr:A.frames=some (env :: outer)) (hl:s.heap.FunFrames base (env :: outer)) (hf:env.frame=some L)
  (he:s.heap.get? e=some oe) (hd:oe.data=.fields vs) (hsz:1 < vs.size)
  (h:∀ h' T',h'.get? e=some (oe.mapFields (·.setIfInBounds 1 (.ref T')))->(∃ oT ts,h'.get? T'=some oT/\oT.data=.fields ts/\ts[3]? = some (rawInt L))->s.heap.objs.size<=T'->T'≠e->KeptX (frs (env :: outer)) e none s.heap h'->Q () { s with heap:=h' }) :
  wpAny M A (do let a <- frameOf env; let pl <- entryPlaceOf L hadNext; let b <- EntryCells.newEntry head a .none (rawInt L) .none pl; setField (.ref e) 1 b) Q E s:=by
 have hene:e∉frs (env :: outer):=λhm=>by
  obtain ⟨_,o,ho,hnf⟩:=hl.mem hm;rw [he] at ho; cases ho; exact hnf vs hd
 refine wpAny_bind (wpAny_frameOf_fun hfr hl hf λh1 hs1=>wpAny_bind (wpAny_entryPlaceOf λpl hpl=>?_));unfold EntryCells.newEntry newFields;refine wpAny_bind (wpAny_newObj_type ?_ (hpl.sizeOk5 _ _ _ _ _));have he1:h1.get? e=some oe:=(hs1.2.1 e hene).trans he;generalize hn:({ cls:=.type "traceback",dict:=none,data:=.fields ([head,.ref L,.none,rawInt L,.none]++(if pl.isEmpty then List.replicate 6 Value.none else pl)).toArray }:Obj)=ent
 have he2:=Heap.get?_push_of_some (h:=h1) ent he1;refine wpAny_setField he2 hd hsz ?_;have hTe:h1.objs.size≠e:=Nat.ne_of_gt (Heap.lt_size he1);have hd3:=Obj.data_mapFields hd (·.setIfInBounds 1 (Value.ref h1.objs.size));have hTs:h1.objs.size=s.heap.objs.size:=hs1.1;have old:∀ b o,b≠e->h1.get? b=some o->((h1.push ent).update e (Obj.mapFields (·.setIfInBounds 1 (Value.ref h1.objs.size)))).get? b=some o:=λb o hb q=>by
  rw [Heap.get?_update_other _ _ (Ne.symm hb)];exact Heap.get?_push_of_some _ q
 refine h _ h1.objs.size (Heap.get?_update_self _ he2 (Obj.isFreed_of_fields hd3)) ?_ (by rw [hTs]; exact Nat.le_refl _) hTe ⟨?_,?_,?_,?_⟩
 ·refine ⟨ent,_,?_,by rw [<- hn],?_⟩
  ·rw [Heap.get?_update_other _ _ (Ne.symm hTe)];exact Heap.get?_push_size h1 (by rw [<- hn]; rfl)
  ·rw [List.getElem?_toArray,List.getElem?_append_left (by simp)];rfl
 ·intro b o q hb _ hfs;exact old b o hb ((hs1.2.1 b hfs).trans q)
 ·intro b o q hb _;obtain ⟨sl,q1⟩:=hs1.2.2 b o q;exact ⟨sl,old b _ hb q1⟩
 ·intro b o q
  by_cases hb:b=e
  ·subst hb;exact ⟨_,Heap.get?_update_self _ he2 (Obj.isFreed_of_fields hd3)⟩
  ·obtain ⟨sl,q1⟩:=hs1.2.2 b o q;exact ⟨_,old b _ hb q1⟩
 ·rw [Heap.size_after_update,<- hTs];simp [Heap.push]
theorem ztu {C:Value} {dx T:Option Addr} {Q:Unit->Shared->Prop} (hfr:A.frames=some (env :: outer)) (hl:s.heap.FunFrames base (env :: outer)) (hf:env.frame=some L) (hx:XAt e C dx T .none s.heap)
  (h:∀ h' T',XAt e C dx (some T') (rawInt L) h'->s.heap.objs.size<=T'->KeptX (frs (env :: outer)) e T s.heap h'->Q () { s with heap:=h' }):wpAny M A (noteFrame (.ref e) env) Q E s:=by
 obtain ⟨oe,vs,he,hc,hdd,hd,hsz,ht⟩:=hx;unfold noteFrame;simp only [hf];have fin:∀ h' T',h'.get? e=some (oe.mapFields (·.setIfInBounds 1 (.ref T')))->(∃ oT ts,h'.get? T'=some oT/\oT.data=.fields ts/\ts[3]? = some (rawInt L))->T'≠e->XAt e C dx (some T') (rawInt L) h':=λh' T' h1 h2 h3=>
  ⟨_,_,h1,(Obj.cls_mapFields _ _).trans hc,(zjA _ _).trans hdd,Obj.data_mapFields hd _,by simpa using hsz,by simp [hsz],h3,h2⟩
 cases T with
 | none=>
  refine wpAny_bind (wpAny_field he hd ht ?_);rw [if_neg (by decide)];exact zpX hfr hl hf he hd hsz λh' T' h1 h2 h3 h4 k=>h h' T' (fin h' T' h1 h2 h4) h3 k
 | some T=>
  obtain ⟨h1,hTe,oT,ts,hT,hdT,h3⟩:=ht;refine wpAny_bind (wpAny_field he hd h1 ?_);rw [if_pos (show (Value.ref T != Value.none)=true from by simp)];refine wpAny_bind (wpAny_field hT hdT h3 ?_);rw [if_neg (show ¬ ((Value.none==rawInt L)=true) from by simp [rawInt])];refine wpAny_bind (wpAny_setField hT hdT (Array.getElem?_eq_some_iff.mp h3).1 ?_);have hTf:T∉frs (env :: outer):=λhm=>by
   obtain ⟨_,o,ho,hnf⟩:=hl.mem hm;rw [hT] at ho; cases ho; exact hnf ts hdT
  have other:∀ b,b≠T->(s.heap.update T (Obj.mapFields (·.setIfInBounds 3 Value.none))).get? b=s.heap.get? b:=λb hb=>Heap.get?_update_other _ _ (Ne.symm hb);have nrec:∀ b o,s.heap.get? b=some o->(∀ vs,o.data≠.fields vs)->b≠T:=λb o hb hnf q=>by
   subst q; rw [hT] at hb; cases hb; exact hnf ts hdT
  have selfT:=Heap.get?_update_self (Obj.mapFields (·.setIfInBounds 3 Value.none)) hT (Obj.isFreed_of_fields (Obj.data_mapFields hdT _));refine zpX (s:={ s with heap:=s.heap.update T (Obj.mapFields (·.setIfInBounds 3 Value.none)) }) hfr (hl.of_keeps λb o hb hnf=>⟨o,(other b (nrec b o hb hnf)).trans hb,rfl⟩) hf ((other e (Ne.symm hTe)).trans he) hd hsz λh' T' h1 h2 h3' h4 k=>?_;have hT'n:s.heap.objs.size<=T':=by rw [Heap.size_after_update] at h3'; exact h3'
  refine h h' T' (fin h' T' h1 h2 h4) hT'n ⟨?_,?_,?_,?_⟩
  ·intro b o q hb hbT hfs;have hbT':b≠T:=λz=>hbT (by rw [z]);exact k.keep b o ((other b hbT').trans q) hb (by simp) hfs
  ·intro b o q hb hbT;have hbT':b≠T:=λz=>hbT (by rw [z]);exact k.slot b o ((other b hbT').trans q) hb (by simp)
  ·intro b o q
   by_cases z:b=T
   ·subst z; exact k.there b _ selfT
   ·exact k.there b o ((other b z).trans q)
  ·have:=k.size;rw [Heap.size_after_update] at this;exact this
theorem zkJ {C:Value} {dx:Option Addr} {T:Addr} {fl:Value} {fs:List Addr} {Q:Unit->Shared->Prop} (hx:XAt e C dx (some T) fl s.heap)
  (h:∀ h',XAt e C dx (some T) .none h'->KeptX fs e (some T) s.heap h'->Q () { s with heap:=h' }):wpAny M A (setFlight (.ref e) none) Q E s:=by
 obtain ⟨oe,vs,he,hc,hdd,hd,hsz,h1,hTe,oT,ts,hT,hdT,h3⟩:=hx;have hsz3:=(Array.getElem?_eq_some_iff.mp h3).1;have selfT:=Heap.get?_update_self (Obj.mapFields (·.setIfInBounds 3 Value.none)) hT (Obj.isFreed_of_fields (Obj.data_mapFields hdT _));have other:∀ b,b≠T->(s.heap.update T (Obj.mapFields (·.setIfInBounds 3 Value.none))).get? b=s.heap.get? b:=λb hb=>Heap.get?_update_other _ _ (Ne.symm hb);refine wpAny_setFlight_none he hd h1 hT hdT hsz3 (h _ ⟨oe,vs,(other e (Ne.symm hTe)).trans he,hc,hdd,hd,hsz,h1,hTe,_,_,selfT,Obj.data_mapFields hdT _,by simp [hsz3]⟩ ⟨?_,?_,?_,?_⟩)
 ·intro b o q hb hbT _;exact (other b λz=>hbT (by rw [z])).trans q
 ·intro b o q hb hbT;exact ⟨o.slots,(other b λz=>hbT (by rw [z])).trans q⟩
 ·intro b o q
  by_cases z:b=T
  ·subst z; exact ⟨_,selfT⟩
  ·exact ⟨o,(other b z).trans q⟩
 ·rw [Heap.size_after_update]; exact Nat.le_refl _
theorem zpY {C:Value} {dx T:Option Addr} {Q:Unit->Shared->Prop} (hfr:A.frames=some (env :: outer)) (hl:s.heap.FunFrames base (env :: outer)) (hf:env.frame=some L) (hx:XAt e C dx T .none s.heap)
  (h:∀ h' T',XAt e C dx (some T') .none h'->s.heap.objs.size<=T'->KeptX (frs (env :: outer)) e T s.heap h'->Q () { s with heap:=h' }):wpAny M A (leaving env (.ref e)) Q E s:=by
 unfold leaving;refine wpAny_bind (ztu hfr hl hf hx λh1 T' x1 hn k1=>?_);refine zkJ (s:={ s with heap:=h1 }) (fs:=frs (env :: outer)) x1 λh2 x2 k2=>h h2 T' x2 hn ⟨?_,?_,?_,?_⟩
 ·intro b o q hb hbT hfs;exact k2.keep b o (k1.keep b o q hb hbT hfs) hb (λz=>by cases z; exact absurd (Heap.lt_size q) (Nat.not_lt.mpr hn)) hfs
 ·intro b o q hb hbT;obtain ⟨sl,q1⟩:=k1.slot b o q hb hbT;obtain ⟨sl2,q2⟩:=k2.slot b _ q1 hb (λz=>by cases z; exact absurd (Heap.lt_size q) (Nat.not_lt.mpr hn));exact ⟨sl2,q2⟩
 ·intro b o q;obtain ⟨o1,q1⟩:=k1.there b o q;exact k2.there b o1 q1
 ·exact Nat.le_trans k1.size k2.size
end
def CX1 (P:Program) (w:World):CXT:=λouter H s E e s'=>∃ (a:Addr) (C:Value) (dx T:Option Addr) (H':Hp),e=.ref a/\XAt a C dx T .none s'.heap/\s.heap.objs.size<=a/\H' a=none/\(∀ t,T=some t->s.heap.objs.size<=t/\H' t=none)/\
 s'.os=s.os/\AllBare s'.gens/\Un (frs outer) [] H H' s.heap s'.heap/\HOk P w H' s'.heap/\E C dx H'
theorem zDL {fs gs:List Addr} {H H':Hp} {h h1 h2:Heap} {a:Addr} {T:Option Addr} (u:Un fs [] H H' h h1) (k:KeptX gs a T h1 h2) (hg:∀ b∈gs,b∈fs\/h.objs.size<=b) (ha:h.objs.size<=a) (hT:∀ t,T=some t->h.objs.size<=t):Un fs [] H H' h h2:=by
 have na:∀ b o,h.get? b=some o->b≠a:=λb o q z=>by subst z; exact absurd (Heap.lt_size q) (Nat.not_lt.mpr ha)
 have nT:∀ b o,h.get? b=some o->T≠some b:=λb o q z=>absurd (Heap.lt_size q) (Nat.not_lt.mpr (hT b z));refine ⟨λb o q n hb hx=>?_,λb o q n hb hx=>?_,u.free,λb o q hx=>?_,u.tups,u.frzs,u.tbls⟩
 ·refine k.keep b o (u.keep b o q n hb hx) (na b o q) (nT b o q) λz=>?_;rcases hg b z with z | z
  ·exact hb z
  ·exact absurd (Heap.lt_size q) (Nat.not_lt.mpr z)
 ·obtain ⟨sl,q1⟩:=u.slot b o q n hb hx;obtain ⟨sl2,q2⟩:=k.slot b _ q1 (na b o q) (nT b o q);exact ⟨sl2,q2⟩
 ·obtain ⟨o1,q1⟩:=u.there b o q hx;exact k.there b o1 q1
theorem zyR {P:Program} {w:World} {gs:List Addr} {H:Hp} {h1 h2:Heap} {a:Addr} {T:Option Addr} (ok:HOk P w H h1) (k:KeptX gs a T h1 h2) (hg:∀ b∈gs,H b=none) (ha:H a=none) (hT:∀ t,T=some t->H t=none):HOk P w H h2:=λb o e=>by
 have key:∀ c u,H c=some u->∀ v,h1.get? c=some v->h2.get? c=some v:=λc u hc v q=>
  k.keep c v q (λz=>by subst z; rw [ha] at hc; cases hc) (λz=>by rw [hT c z] at hc; cases hc) λz=>by rw [hg c z] at hc; cases hc
 refine (ok b o e).stay (λc u hc q=>?_) (λ_ q=>q) λ_ _ q=>q;rcases hc with rfl | hc
 ·exact key _ _ e _ q
 ·exact key _ _ hc _ q
def zvq (X:Cx) (E:XK) (e:Value) (s:Shared):Prop:=∃ (pins:List (Addr×Obj)) (σ:St) (H:Hp) (a:Addr) (C:Value) (dx T:Option Addr),e=.ref a/\Inv X pins σ H s/\XAt a C dx T .none s.heap/\X.s₀.heap.objs.size<=a/\H a=none/\(∀ t,T=some t->X.s₀.heap.objs.size<=t/\H t=none)/\E C dx H
section
variable {P:Program} {w:World} {K:W.Frag} {mg:Str->Option Value} {base:Heap} {N:List Str} {qual:Str} {scope:Scope} {f:Addr} {cd:Value} {A:Around} {outer:List Env} {s₀:Shared} {H₀:Hp} {E:XK}
theorem ztv {e:Value} {s:Shared} (g:zvq (zmt (CX1 P w) P w K mg base N qual scope f cd A outer s₀ H₀ E) E e s):(zmt (CX1 P w) P w K mg base N qual scope f cd A outer s₀ H₀ E).xe e s:=by
 obtain ⟨pins,σ,H,a,C,dx,T,rfl,I,x,ha,hHa,hT,q⟩:=g;have hfr:(A.deeper (envOfC qual scope s₀.heap.objs.size f cd)).frames=some (envOfC qual scope s₀.heap.objs.size f cd :: outer):=I.ok.frames;show wpAny (model P w) (A.deeper (envOfC qual scope s₀.heap.objs.size f cd)) (leaving (envOfC qual scope s₀.heap.objs.size f cd) (.ref a)) _ _ s;have hl:s.heap.FunFrames base (envOfC qual scope s₀.heap.objs.size f cd :: outer):=I.stack
 refine zpY hfr hl rfl x λh' T' x' hT' k=>?_;have hst:∀ b∈frs (envOfC qual scope s₀.heap.objs.size f cd :: outer),b∈frs outer\/s₀.heap.objs.size<=b:=λb hb=>by
  rcases List.mem_cons.mp (I.stkSub b hb) with z | z
  ·exact .inr (by rw [z]; exact I.ok.above)
  ·exact .inl z
 have ub:Un (frs outer) [] H₀ H s₀.heap s.heap:=I.base;have u:=zDL ub k hst ha (λt z=>(hT t z).1);have hk:=zyR I.hok k I.stkFree hHa (λt z=>(hT t z).2);refine ⟨a,C,dx,some T',H,rfl,x',ha,hHa,λt z=>?_,I.os,I.bare,u,hk,q⟩;cases z
 have hs0:s₀.heap.objs.size<=s.heap.objs.size:=I.sz;exact ⟨Nat.le_trans hs0 hT',I.hok.fresh hT'⟩
theorem zsc:zgW (CX1 P w) (zmt (CX1 P w) P w K mg base N qual scope f cd A outer s₀ H₀ E) E:=by
 intro pins σ H s e s' I ⟨a,C,dx,T,H',he,x,ha,hHa,hT,os,bare,u,hok,q⟩;have J:=I.call' (ch:=[]) os u hok bare (λb z=>absurd z (by simp));have hs0:s₀.heap.objs.size<=s.heap.objs.size:=I.sz;exact ztv ⟨pins,σ,H',a,C,dx,T,he,J,x,Nat.le_trans hs0 ha,hHa,λt z=>⟨Nat.le_trans hs0 (hT t z).1,(hT t z).2⟩,q⟩
end
open PySem.W Builtin Builtin.ObjectAttr
def zpZ:List Value:=[.type "ValueError",.type "Exception",.type "BaseException",.type "object"]
def znz:List Value->Bool
 | .ref _ :: r=>znz r
 | l=>l==zpZ
theorem zlI (self:Value):∀ {l:List Value},znz l=true->refuseLoop self "__setattr__" l=pure ()
 | .ref c :: r,e=>by rw [refuseLoop_ref]; exact zlI self e
 | [],e=>by cases e
 | .type n :: r,e=>by
  have:Value.type n :: r=zpZ:=beq_iff_eq.mp e;rw [this];exact PySem.F.store_ValueError.passes self
 | .none :: r,e=>by have:=beq_iff_eq.mp e; cases this
 | .bool b :: r,e=>by have:=beq_iff_eq.mp e; cases this
 | .int _ _ :: r,e=>by have:=beq_iff_eq.mp e; cases this
 | .str _ _ :: r,e=>by have:=beq_iff_eq.mp e; cases this
 | .builtin _ :: r,e=>by have:=beq_iff_eq.mp e; cases this
 | .float _ _ :: r,e=>by have:=beq_iff_eq.mp e; cases this
 | .bytes _ _ :: r,e=>by have:=beq_iff_eq.mp e; cases this
def zkK (K:Frag) (C:Addr):Bool:=(clsIn K C).any λcd=>znz cd.mro
theorem ztw:∀ {l:List Value},znz l=true->l.contains (.type "object")=true
 | .ref c :: r,e=>by rw [List.contains_cons,ztw (l:=r) e,Bool.or_true]
 | [],e=>by cases e
 | .type n :: r,e=>by rw [show Value.type n :: r=zpZ from beq_iff_eq.mp e]; decide
 | .none :: r,e=>by have:=beq_iff_eq.mp e; cases this
 | .ellipsis :: r,e=>by have:=beq_iff_eq.mp e; cases this
 | .notImplemented :: r,e=>by have:=beq_iff_eq.mp e; cases this
 | .bool b :: r,e=>by have:=beq_iff_eq.mp e; cases this
 | .int _ _ :: r,e=>by have:=beq_iff_eq.mp e; cases this
 | .str _ _ :: r,e=>by have:=beq_iff_eq.mp e; cases this
 | .builtin _ :: r,e=>by have:=beq_iff_eq.mp e; cases this
 | .float _ _ :: r,e=>by have:=beq_iff_eq.mp e; cases this
 | .bytes _ _ :: r,e=>by have:=beq_iff_eq.mp e; cases this
section
variable {prog:Program} {w:World} {A:Around} {K:Frag} {x C:Addr} {s:Shared}
theorem zsd {R : Result -> Shared -> Prop} {ox : Obj} {od : Option Obj} {name : Str} {tk : Tok} {v : Value} (X : K.In s.heap) (I : W.InstAt s.heap x ox C od) (hp : zkK K C = true) (ht : takerIn K C name = some none)
    (h : ∀ b, wpAny (model prog w) A.in1 (storeInOwnDict (.ref x) (.ref C) (.str name tk) name v b)
      (λfin s' => match fin with | .done f => R (.ok f) s' | .again c' => c'.quiet = true /\ codeAny (model prog w) A c' R s') (λe s' => R (.error e) s') s) :
    codeAny (model prog w) A (.call (.builtin "object.__setattr__") ⟨[.ref x, .str name tk, v], []⟩) R s := by
  have SF := PySem.F.store_object;obtain ⟨cd, hc, ho⟩ := any_some hp;have ne : cd.mro.isEmpty = false := by cases q : cd.mro with | nil => rw [q] at ho; cases ho | cons _ _ => rfl
  have sub : Looks (model prog w) s.heap (isInstance (.ref x) (.type "object")) true := I.type.andThen (looks_mroIn X (by unfold mroIn; rw [hc, Option.bind_some, if_neg (by rw [ne]; decide), ztw ho]));refine codeAny_call_builtin SF.slot.plain SF.entry (@check_slot (model prog w) _ _ s "object.__setattr__" "object" "__setattr__" (.ref x) [.str name tk, v] [] _ SF.kind SF.split sub (SF.args (.ref x) (.str name tk) v) ?_)
  obtain ⟨attr, ha, hr⟩ := Option.bind_eq_some_iff.mp ht;have hm : Looks (model prog w) s.heap (mroOf (.ref C)) cd.mro := (looks_clsIn X hc).andThen .now;have L3 : Looks (model prog w) s.heap (storeTaker? attr) none := by
    cases attr with
    | none => exact .now
    | some a =>
      obtain ⟨b, hb, q⟩ := Option.map_eq_some_iff.mp hr;refine (looks_takesIn X hb).andThen ?_;cases b
      · exact .now
      · cases q
  rw [osa_eq, refuse_eq];refine wpAny_bind (wpAny_bind (I.type.here (wpAny_bind (hm.here ?_))));rw [zlI _ ho];refine wpAny_pure (wpAny_bind (I.type.here (wpAny_bind ((looks_findIn X ha).here (wpAny_bind (L3.here ?_))))));exact h _
theorem zyS {E:Value->Shared->Prop} {ox:Obj} {name:Str} {v:Value} {Q:Unit->Shared->Prop} (X:K.In s.heap) (I:W.InstAt s.heap x ox C none) (hdn:ox.dict=none)
  (hs:findIn K (.ref C) "__setattr__"=some (some (.builtin "object.__setattr__"))) (hp:zkK K C=true) (ht:takerIn K C name=some none) (hh:hasDictIn K C=true)
  (h:∀ h' tk,h'.get? x=some { ox with dict:=some s.heap.objs.size }->h'.Ns1 s.heap.objs.size (λy=>if y=name then some v else none)->(∀ b o,b≠x->s.heap.get? b=some o->h'.get? b=some o)->Q () { s with heap:=h',toks:=tk }) :
  wpAny (model prog w) A (setAttr (.ref x) name v) Q E s:=by
 refine set_plain X I hs (zsd (s:={ s with toks:=s.toks+1 }) X I hp ht λb=>?_);obtain ⟨cd,hc,hd'⟩:=any_some hh;obtain ⟨hx,hcl,hn,-⟩:=I;obtain ⟨oc,odi,oda,osl⟩:=ox;dsimp only at hcl hdn;subst hcl hdn;have LC:Looks (model prog w) ({ s with toks:=s.toks+1 }:Shared).heap (classData C) cd:=looks_clsIn X hc;refine wpAny_bind (wpAny_pure (wpAny_bind (wpAny_bind (wpAny_loadPart hx (wpAny_bind (LC.here ?_))))))
 rw [if_neg (by rw [hd']; decide)];dsimp only;rw [if_neg (by simp [typeHasDict])];have hnc:∀ c,oda≠.cls c:=λc z=>by subst z; cases hn
 have hx1:(s.heap.push { cls:=.type "dict",data:=.dict #[] }).get? x=some { cls:=.ref C,data:=oda,slots:=osl }:=Heap.get?_push_of_some _ hx;have hxs:x≠s.heap.objs.size:=Nat.ne_of_lt (Heap.lt_size hx);split
 ·exact absurd rfl (hnc _)
 ·refine wpAny_bind (wpAny_alloc' (wpAny_bind (wpAny_update' hx1 (wpAny_pure ?_))));have hgd:((s.heap.push { cls:=.type "dict",data:=.dict #[] }).update x λo=>{ cls:=o.cls,dict:=some s.heap.objs.size,data:=o.data,slots:=o.slots }).get? s.heap.objs.size=some { cls:=.type "dict",data:=.dict #[] }:=
   (Heap.get?_update_ne _ _ _ _ hxs.symm).trans (Heap.get?_push_at rfl rfl)
  have hnd:((s.heap.push { cls:=.type "dict",data:=.dict #[] }).update x λo=>{ cls:=o.cls,dict:=some s.heap.objs.size,data:=o.data,slots:=o.slots }).Ns s.heap.objs.size (λ_=>none):=
   ⟨_,#[],_,hgd,rfl,λe he=>absurd he (by simp),λ_=>rfl⟩
  show wpAny _ _ (storeInDict s.heap.objs.size (.str name s.toks) name v) _ _ _;unfold storeInDict newKeyGuard;refine wpAny_bind (wpAny_pure (wpAny_bind (wpAny_nsSet1 (Heap.Ns1.of_empty hnd) λh' hn' hs'=>?_)));obtain ⟨oD,esD,epD,hoD,hdD,hcD⟩:=hn'.count (Within.cons name v Within.nil);refine wpAny_bind (wpAny_lookBehind hoD (by rw [hdD]; exact pastItsLine_dict (Nat.le_trans hcD (by rw [List.length_cons,List.length_nil,sizeLine_eq]; omega))) ?_)
  refine wpAny_pure (h h' _ ?_ hn' λb o hb q=>?_)
  ·refine (hs'.2 x hxs).trans (Heap.get?_update_self _ hx1 ?_);have hfr:=(Heap.get?_some_iff.mp hx).2;cases oda <;> first | rfl | exact hfr
  ·exact (hs'.2 b (Nat.ne_of_lt (Heap.lt_size q))).trans ((Heap.get?_update_ne _ _ _ _ hb).trans (Heap.get?_push_of_some _ q))
end
def zmK (K:Frag) (C:Addr):Bool:=match K.lookup C with
 | some ⟨.type "type",_,.cls cd,sl⟩=>(match cd.mro,sl.toList with
  | .ref C' :: bm,[_,_,_,_,some (.builtin n),_]=>C'==C&&n=="ValueError.__new__"&&!cd.hasDel&&tailIn K zpZ bm
  | _,_=>false)
 | _=>false
theorem zmL {K:Frag} {h:Heap} {C:Addr} (X:K.In h) (q:zmK K C=true):∃ nm qn N bs bm hdct sn sub ab col dd k0 k1 k2 k3 k5,h.get? C=some (excClassObj nm qn C N bs bm hdct sn sub ab col dd k0 k1 k2 k3 k5 "ValueError.__new__")/\OwnTail h zpZ bm:=by
 unfold zmK at q;split at q
 ·rename_i dd cd sl ho
  split at q
  ·rename_i C' bm k0 k1 k2 k3 n k5 hm hs
   simp only [Bool.and_eq_true,beq_iff_eq,Bool.not_eq_true'] at q;obtain ⟨⟨⟨rfl,rfl⟩,hdel⟩,ht⟩:=q;obtain ⟨nm,bs,mro,ns,qn,hd,sn,sub,ab,col,del⟩:=cd;dsimp only at hm hdel;subst hm hdel;have hsl:sl=#[k0,k1,k2,k3,some (.builtin "ValueError.__new__"),k5]:=by
    obtain ⟨l⟩:=sl;simp only at hs;rw [hs]
   subst hsl;exact ⟨nm,qn,ns,bs,bm,hd,sn,sub,ab,col,dd,k0,k1,k2,k3,k5,X _ _ ho,tail_of_in X ht⟩
  ·cases q
 ·cases q
abbrev zj6 (C t:Addr):Obj:={ cls:=.ref C,data:=.fields #[.ref t,.none,.none,.none,.bool false,.none] }
abbrev ze6 (h:Heap) (C:Addr) (zaL:List Value):Heap:=(h.push { cls:=.type "tuple",data:=.seq zaL.toArray }).push (zj6 C h.objs.size)
section
variable {prog:Program} {w:World} {A:Around} {K:Frag} {C f:Addr} {E:Value->Shared->Prop} {s:Shared}
theorem zvr {h:Heap} {g:Array GenState} {d:Drawn} {t:Nat} {os:OsState} {zaL:List Value} {Q:Fin->Shared->Prop} (X:K.In h) (hx:zmK K C=true) (hi:findIn K (.ref C) "__init__"=some (some (.ref f))) (hf:isFn K (.ref f)=true) (hrest:zaL.length<=sizeLine)
  (hq:wpAny (model prog w) A (call (.ref f) (.ref (h.objs.size+1) :: zaL)) (λr s'=>r=.none/\Q (.done (.ret (.ref (h.objs.size+1)))) s') E ⟨ze6 h C zaL,g,d,t,os⟩) :
  wpAny (model prog w) A (Builtin.«type.__call__» ⟨.ref C :: zaL,[]⟩) Q E ⟨h,g,d,t,os⟩:=by
 obtain ⟨nm,q,N,bs,bm,hdct,sn,sub,ab,col,dd,k0,k1,k2,k3,k5,hC,T⟩:=zmL X hx;have F:=PySem.F.excBase_ValueError
 repeat (first | with_reducible refine wpAny_loadPart_at hC ?_ | with_reducible refine wpAny_madeBy_exc hC ?_ | wp_step)
 refine codeAny_call_builtin_code (Code.quiet_builtin _ F.quiet) (wpAny_check_new_subU F (by decide) T hC ?_);refine codeAny_exc_new_subU F (by decide) F T hC ?_ hrest;show wpAny _ _ _ _ _ _;have k:∀ b o,h.get? b=some o->((h.push { cls:=.type "tuple",data:=.seq zaL.toArray }).push { cls:=.ref C,data:=.fields #[.ref h.objs.size,.none,.none,.none,.bool false,.none] }).get? b=some o:=λb o e=>Heap.get?_push_of_some _ (Heap.get?_push_of_some _ e)
 have hC1:=k _ _ hC;have X1:K.In ((h.push { cls:=.type "tuple",data:=.seq zaL.toArray }).push { cls:=.ref C,data:=.fields #[.ref h.objs.size,.none,.none,.none,.bool false,.none] }):=λb o e=>k b o (X b o e);have hget:((h.push { cls:=.type "tuple",data:=.seq zaL.toArray }).push { cls:=.ref C,data:=.fields #[.ref h.objs.size,.none,.none,.none,.bool false,.none] }).get? (h.objs.size+1)=some
   { cls:=.ref C,data:=.fields #[.ref h.objs.size,.none,.none,.none,.bool false,.none] }:=by heap_get
 have hcC:(Value.ref C :: bm).contains (.ref C)=true:=by simp
 unfold isInstance
 repeat (first | with_reducible refine wpAny_loadPart_at hget ?_ | (with_reducible refine wpAny_isSubtype_exc hC1 ?_; rw [hcC]) | wp_step)
 show wpAny _ _ (typeLookup (.ref C) _) _ _ _;refine (looks_findIn X1 hi).at ?_;refine wpAny_holding (wpAny_bind ((bind_fn X1 _ (beq_iff_eq.mp hf)).at ?_));refine wpAny_bind (wpAny_mono hq (λr s' hr=>?_) λ_ _ x=>x);obtain ⟨rfl,hQ⟩:=hr
 wp_walk
 exact hQ
theorem zvs {zaL:List Value} {Q:Value->Shared->Prop} (X:K.In s.heap) (hx:zmK K C=true) (hi:findIn K (.ref C) "__init__"=some (some (.ref f))) (hf:isFn K (.ref f)=true) (hrest:zaL.length<=sizeLine)
  (hq:wpAny (model prog w) (A.under (.builtin "type.__call__" ⟨.ref C :: zaL,[]⟩)) (call (.ref f) (.ref (s.heap.objs.size+1) :: zaL)) (λr s'=>r=.none/\Q (.ref (s.heap.objs.size+1)) s') E { s with heap:=ze6 s.heap C zaL }) :
  wpAny (model prog w) A (call (.ref C) zaL) Q E s:=by
 obtain ⟨h,g,d,t,os⟩:=s;obtain ⟨nm,q,N,bs,bm,hdct,sn,sub,ab,col,dd,k0,k1,k2,k3,k5,hC,T⟩:=zmL (h:=h) X hx;have f1:=tc_lookup;have f2:=tc_bind (.ref C);have hT:(⟨h,g,d,t,os⟩:Shared).TypeIs (.ref C) "type":=⟨_,hC,rfl⟩
 refine wpAny_call (codeAny_of_tree ?_);show wpAny _ _ (callAny (.ref C) _) _ _ _
 repeat (any_goals (first | assumption | with_reducible refine wpAny_loadPart_at hC ?_ | wp_step))
 refine ⟨rfl,?_⟩;exact codeAny_call_builtin_at (Code.quiet_builtin _ (by decide +kernel)) entry_typeCall (wpAny_check_type_call_sub hC (zvr (h:=h) X hx hi hf hrest hq))
end
structure XCls (K:Frag) (C:Addr):Prop where
 ok:zmK K C=true
 sa:findIn K (.ref C) "__setattr__"=some (some (.builtin "object.__setattr__"))
 over:zkK K C=true
 hd:hasDictIn K C=true
structure XMade (C e t:Addr) (name:Str) (u:Value) (s s':Shared):Prop where
 ex:∃ dx,s'.heap.get? e=some { zj6 C t with dict:=some dx }/\s'.heap.Ns1 dx (λy=>if y=name then some u else none)/\s.heap.objs.size<=dx
 keep:∀ b o,b≠e->s.heap.get? b=some o->s'.heap.get? b=some o
 os:s'.os=s.os
 gens:s'.gens=s.gens
theorem zvt {P:Program} {w:World} {K:Frag} {mg:Str->Option Value} {base:Heap} {x qual:Str} {st:Stmt} {f C:Addr} {fd:FuncData} {k:Nat} {self y name:Str} {p1 p2 p3 p4:Pos}
  (F:Fun K x qual st f fd) (S:FnScope [self,y] [self,y] (zad st)) (hbody:zbc st=[.Assign [.Attribute (.Name self p1) name p2] (.Name y p3) p4]) (hb:Binds K fd [self,y] []) (xc:XCls K C) (ht:takerIn K C name=some none)
  (v1:(zad st).names.lookup self=some .local) (v2:(zad st).names.lookup y=some .local) (hs:∀ env,swapsWith (.Name y p3) (some (.Attribute (.Name self p1) name p2)) p4.line env=pure false) (d1:(self==("__debug__":Str))=false) (d2:(y==("__debug__":Str))=false)
  {A:Around} {outer:List Env} {s:Shared} {H:Hp} {e t:Addr} {u:Value} {v:V} (hr:Room (k+1) A) (e0:Env0 P w K mg base A outer s H) (he:s.heap.get? e=some (zj6 C t)) (hHe:H e=none) (rv:RelV v u) :
  codeAny (model P w) A (.call (.ref f) ⟨[.ref e,u],[]⟩) (λr s'=>r=.ok (.ret .none)/\XMade C e t name u s s') s:=by
 obtain ⟨oc,od,kV,doc,pm,an,cdv,ct,osl,rfl,lk,hcd⟩:=F.ex;have KX:K.In s.heap:=e0.mod.kin.keeps λb o q=>(e0.bs b o q).1;have lim:s.heap.NoLimit:=e0.mod.nolimit.keeps λb o q=>(e0.bs b o q).1;have hkind:∀ z∈[self,y].zip [Value.ref e,u],(zad st).names.lookup z.1=some .local\/((zad st).names.lookup z.1=some .cell/\((cellsFrom (s.heap.objs.size+1) (zad st).names []).lookup z.1).isSome=true):=λ⟨n,w⟩ hz=>by
  rcases S.par n (List.of_mem_zip hz).1 with q | q
  ·exact .inl q
  ·exact .inr ⟨q,W.cellsFrom_some _ _ _ (.inl q)⟩
 have hbs:=hb s [.ref e,u] KX rfl;rw [List.append_nil] at hbs;refine codeAny_call_function hr.depth (KX _ _ lk) rfl S.co S.gen rfl (W.codeRec_of KX hcd) (hbs _ _ _ _ ?_);refine wpAny_newFunctionEnv_cells S.kind hkind λenv hev s1 x1=>?_;subst hev;refine ⟨lim.keeps x1.toInCall.keep,codeAny_func ?_⟩;have r2:Vals [V.ref e,v] [Value.ref e,u]:=.cons rfl (.cons rv .nil);have I0:Inv (zmt CX0 P w K mg base [self,y] qual (zad st) f cdv A outer s H λ_ _ _=>True) [] (zgY [self,y] [V.ref e,v]) H s1:=zlp S hr.hd e0 rfl r2 x1
 rw [hbody];have k1:∀ b o,s.heap.get? b=some o->s1.heap.get? b=some o:=x1.toInCall.keep;have he1:=k1 _ _ he;have fin:∀ h' tk,h'.get? e=some { zj6 C t with dict:=some s1.heap.objs.size }->h'.Ns1 s1.heap.objs.size (λz=>if z=name then some u else none)->(∀ b o,b≠e->s1.heap.get? b=some o->h'.get? b=some o)->XMade C e t name u s { s1 with heap:=h',toks:=tk }:=λh' tk q1 q2 q3=>by
  obtain ⟨h1,tk1,rfl,hk⟩:=x1.done;exact ⟨⟨_,q1,q2,I0.sz⟩,λb o hb q=>q3 b o hb (k1 b o q),rfl,rfl⟩
 have X1:K.In s1.heap:=KX.keeps k1;have n1:bindL (envOfC qual (zad st) s.heap.objs.size f cdv).kindOf ([self,y].zip [Value.ref e,u]) (λ_=>none) self=some (.ref e):=zgX (i:=0) S.nd rfl rfl v1;have n2:bindL (envOfC qual (zad st) s.heap.objs.size f cdv).kindOf ([self,y].zip [Value.ref e,u]) (λ_=>none) y=some u:=zgX (i:=1) S.nd rfl rfl v2;refine wpAny_execs_cons (plainObj_wpAny_Assign_Attribute (wpAny_Name (wpAny_loadName_local S.kind v2 x1.toInCall.ns n2 ?_) d2) (hs _))
 refine wpAny_Name (wpAny_loadName_local S.kind v1 x1.toInCall.ns n1 ?_) d1;refine zyS X1 ⟨he1,rfl,rfl,trivial⟩ rfl xc.sa xc.over ht xc.hd λh' tk q1 q2 q3=>wpAny_execs_nil ?_;exact ⟨rfl,fin h' tk q1 q2 q3⟩
section
variable {M:Model} {A:Around} {E:Value->Shared->Prop} {env:Env} {C:Addr}
theorem zlJ {K:Frag} {s:Shared} {x:Sem Value} {Q:Flow->Shared->Prop} (hx:zmK K C=true) (hh:A.handled=none)
  (h:wpAny M A x (λv s₁=>∃ e t dx,v=.ref e/\K.In s₁.heap/\s₁.heap.get? e=some { cls:=.ref C,dict:=some dx,data:=.fields #[.ref t,.none,.none,.none,.bool false,.none] }/\E (.ref e) s₁) E s) :
  wpAny M A (raiseStmt env (some x) none) Q E s:=by
 unfold raiseStmt;refine wpAny_bind (wpAny_mono h (λv s₁ h₁=>?_) λ_ _ x=>x);obtain ⟨e,t,dx,rfl,X,he,hE⟩:=h₁;obtain ⟨hp,g,d,tk,os⟩:=s₁;obtain ⟨nm,q,N,bs,bm,hdct,sn,sub,ab,col,dd,k0,k1,k2,k3,k5,hC,T⟩:=zmL (h:=hp) X hx;have hcB:(Value.ref C :: bm).contains (.type "BaseException")=true:=by rw [List.contains_cons,T.hasType (X:="BaseException") (b:=true) (by decide),Bool.or_true]
 repeat (first | with_reducible refine wpAny_loadPart_at he ?_ | with_reducible refine wpAny_loadPart_at hC ?_ | (with_reducible refine wpAny_isSubtype_exc hC ?_; rw [hcB]) | wp_step)
 exact wpAny_raiseNew_none hh hE
end
def zAL (P:Program) (w:World) (K:Frag) (mg:Str->Option Value) (base:Heap) (k:Nat) (f C:Addr) (name:Str):Prop:=
 ∀ {A:Around} {outer:List Env} {s:Shared} {H:Hp} {e t:Addr} {u:Value} {v:V},Room k A->Env0 P w K mg base A outer s H->s.heap.get? e=some (zj6 C t)->H e=none->RelV v u->
  codeAny (model P w) A (.call (.ref f) ⟨[.ref e,u],[]⟩) (λr s'=>r=.ok (.ret .none)/\XMade C e t name u s s') s
section
variable {X:Cx} {pins:List (Addr×Obj)} {σ:St} {H:Hp} {s s':Shared} {C:Addr} {name:Str} {u:Value} {v:V}
theorem zyT (I:Inv X pins σ H s) (ru:RelV v u) (m:XMade C (s.heap.objs.size+1) s.heap.objs.size name u { s with heap:=ze6 s.heap C [u] } s') :
  ∃ dx,H dx=none/\s'.heap.get? (s.heap.objs.size+1)=some { cls:=.ref C,dict:=some dx,data:=.fields #[.ref s.heap.objs.size,.none,.none,.none,.bool false,.none] }/\Inv X pins σ (upd H dx (.xd [(name,v)])) s'/\dx≠s.heap.objs.size+1:=by
 obtain ⟨⟨dx,q1,q2,q3⟩,k,os,gs⟩:=m;have z2:(ze6 s.heap C [u]).objs.size=s.heap.objs.size+2:=by simp [ze6,Heap.size_push]
 have q3:s.heap.objs.size+2<=dx:=by rw [<- z2]; exact q3
 have hdn:H dx=none:=I.hok.fresh (by omega);have hen:H (s.heap.objs.size+1)=none:=I.hok.fresh (by omega);have k0:∀ b o,s.heap.get? b=some o->s'.heap.get? b=some o:=λb o q=>k b o (Nat.ne_of_lt (Nat.lt_succ_of_lt (Heap.lt_size q))) (Heap.get?_push_of_some _ (Heap.get?_push_of_some _ q));have un:Un (frs X.stack) [] H (upd H dx (.xd [(name,v)])) s.heap s'.heap:=Un.laid k0 (by omega) hdn;have hok:HOk X.prog X.w (upd H dx (.xd [(name,v)])) s'.heap:=I.hok.laid k0 (by omega) ⟨_,q2,λf=>by
  by_cases c:f=name
  ·subst c;simp only [List.lookup,beq_self_eq_true,if_true];exact ru
  ·have hb:(f==name)=false:=by simpa using c
   simp only [List.lookup,hb,if_neg c];trivial⟩
 refine ⟨dx,hdn,q1,?_,Nat.ne_of_gt (Nat.lt_of_lt_of_le (Nat.lt_succ_self _) q3)⟩;exact I.call' (ch:=[]) os un hok (by rw [gs]; exact I.bare) (λb z=>absurd z (by simp))
end
def zp0 (E:XK) (C:Addr) (name:Str) (t:TA):TS:=λ_ σ H=>t σ H λvs H1=>∃ v,vs=[v]/\∀ dx,H1 dx=none->E (.ref C) (some dx) (upd H1 dx (.xd [(name,v)]))
theorem zse {X:Cx} {E:XK} {x name:Str} {np cpos pos:Pos} {e:Expr} {C f:Addr} {k:Nat} {t:TA} (hc:X.calm=true) (hxe:∀ v s,zvq X E v s->X.xe v s) (xc:XCls X.K C) (hi:findIn X.K (.ref C) "__init__"=some (some (.ref f))) (hf:isFn X.K (.ref f)=true)
  (kp:keepIn X.K (.ref C)=true) (hg:Gl X x) (hm:X.mg x=some (.ref C)) (ini:zAL X.prog X.w X.K X.mg X.base k f C name) (hr:Room (k+1) X.A) (ha:PA X [e] t) (hdb:(x==("__debug__":Str))=false:=by decide)
  (he:starEach [e] X.env=(false,eval e X.env) :: starEach [] X.env:=by rfl) (hpl:(backTo cpos (starEach [] X.env)).any (·.1)=false:=by rfl) :
  PS X (.Raise (some (.Call (.Name x np) [e] [] cpos)) none pos) (zp0 E C name t):=by
 intro pins s σ H D I h;rw [arm_exec_Raise];refine wpAny_bind (wpAny_standAt (zlJ (C:=C) (K:=X.K) xc.ok (I.ok.hd hc) (wpAny_bind (wpAny_mono (wpAny_Call_Name_kw (zf8 I hg hm ?_ hdb)) (λv s₃ h₃=>wpAny_bind (wpAny_standAt (wpAny_pure h₃))) λ_ _ x=>x))));refine W.callWith_K (h₀:=X.base) I.ok.mod.kin kp (thn (ha cpos pins s σ H _ I h) λus s1 ⟨vs,H1,I1,r,q⟩=>⟨I1.kIn,?_⟩) he hpl;obtain ⟨v,rfl,q⟩:=q;obtain ⟨u,rfl,ru⟩:=Vals.one r
 refine zvs I1.kIn xc.ok hi hf (by rw [sizeLine_eq]; simp) ?_;have k1:∀ b o,s1.heap.get? b=some o->(ze6 s1.heap C [u]).get? b=some o:=λb o q=>Heap.get?_push_of_some _ (Heap.get?_push_of_some _ q);have I2:Inv X pins σ H1 { s1 with heap:=ze6 s1.heap C [u] }:=I1.kept (t':=s1.toks) k1;have hget:(ze6 s1.heap C [u]).get? (s1.heap.objs.size+1)=some (zj6 C s1.heap.objs.size):=Heap.get?_push_at (by simp [Heap.size_push]) rfl
 refine wpAny_call (codeAny_mono (ini (hr.make C [u] []) (I2.env0.make C [u] []) hget (I1.hok.fresh (by omega)) ru) λr s' hq=>?_);obtain ⟨rfl,m⟩:=hq;obtain ⟨dx,hdn,q1,I3,hne⟩:=zyT I1 ru m;refine ⟨rfl,s1.heap.objs.size+1,s1.heap.objs.size,dx,rfl,I3.kIn,q1,hxe _ _ ?_⟩;have hs0:X.s₀.heap.objs.size<=s1.heap.objs.size:=I1.sz;refine ⟨pins,σ,_,s1.heap.objs.size+1,.ref C,some dx,none,rfl,I3,⟨_,_,q1,rfl,rfl,rfl,by simp,rfl⟩,by omega,?_,λt z=>(by cases z),q dx hdn⟩
 rw [zas (Ne.symm hne)];exact I1.hok.fresh (by omega)
def zmM (X:Cx) (pins:List (Addr×Obj)) (σ:St) (E:XK) (e:Value) (s:Shared):Prop:=∃ (H:Hp) (a:Addr) (C:Value) (dx T:Option Addr),e=.ref a/\Inv X pins σ H s/\XAt a C dx T .none s.heap/\zjv X pins H a/\(∀ t,T=some t->zjv X pins H t)/\E C dx H
section
variable {X:Cx} {pins:List (Addr×Obj)} {σ:St} {H:Hp} {s:Shared} {E:XK}
theorem zBN {gs:List Addr} {h1 h2:Heap} {a:Addr} {T:Option Addr} (k:KeptX gs a T h1 h2):Un gs (a :: T.toList) H H h1 h2:=by
 have nT:∀ b,b∉a :: T.toList->b≠a/\T≠some b:=λb h=>⟨λz=>h (by simp [z]),λz=>h (by simp [z])⟩
 refine ⟨λb o q n hb hx=>?_,λb o q n hb hx=>?_,λ_ _ _ n _=>n,λb o q _=>k.there b o q,λ_ _ q=>q,λ_ _ _ q=>q,λb ps q=>⟨#[],by rw [q]; simp⟩⟩
 ·exact k.keep b o q (nT b hx).1 (nT b hx).2 hb
 ·exact k.slot b o q (nT b hx).1 (nT b hx).2
theorem zvu {h2:Heap} {a:Addr} {T:Option Addr} (I:Inv X pins σ H s) (k:KeptX (frs X.stack) a T s.heap h2) (ha:zjv X pins H a) (hT:∀ t,T=some t->zjv X pins H t):Inv X pins σ H { s with heap:=h2 }:=by
 have hk:=zyR I.hok k I.stkFree ha.1 (λt z=>(hT t z).1);have fp:∀ b∈a :: T.toList,zjv X pins H b:=λb hb=>by
  rcases List.mem_cons.mp hb with rfl | hb
  ·exact ha
  ·exact hT b (by simpa using hb)
 exact I.call (g':=s.gens) (t':=s.toks) (d':=s.drawn) (zBN k) hk I.bare λb hb=>⟨(fp b hb).2.2.2.1,(fp b hb).2.1,(fp b hb).2.2.2.2.1,(fp b hb).2.2.2.2.2⟩
def zBO (X:Cx) (pins:List (Addr×Obj)) (σ:St) (E:XK) (e:Value) (s:Shared):Prop:=∃ (H:Hp) (a:Addr) (C:Value) (dx:Option Addr) (T:Addr),e=.ref a/\Inv X pins σ H s/\XAt a C dx (some T) .none s.heap/\zjv X pins H a/\zjv X pins H T/\E C dx H
theorem zyU {e:Value} {Q:Unit->Shared->Prop} {Ex:Value->Shared->Prop} {env:Env} {outer:List Env} (hst:X.stack=env :: outer) (henv:X.env=env) (hf:env.frame=some env.locals) (x:zmM X pins σ E e s)
  (h:∀ s',zBO X pins σ E e s'->Q () s'):wpAny (model X.prog X.w) X.A (noteFrame e env) (λ_ s2=>wpAny (model X.prog X.w) X.A (setFlight e none) Q Ex s2) Ex s:=by
 obtain ⟨H,a,C,dx,T,rfl,I,xa,ha,hT,q⟩:=x;have hfr:X.A.frames=some (env :: outer):=by rw [<- hst]; exact I.ok.frames
 have hl:s.heap.FunFrames X.base (env :: outer):=by rw [<- hst]; exact I.stack
 refine ztu hfr hl hf xa λh1 T' x1 hn k1=>?_;have k1':KeptX (frs X.stack) a T s.heap h1:=by rw [hst]; exact k1
 have I1:=zvu I k1' ha hT;have hT':zjv X pins H T':=I.fpOk hn (I.hok.fresh hn);refine zkJ (s:={ s with heap:=h1 }) (fs:=frs X.stack) x1 λh2 x2 k2=>h _ ⟨H,a,C,dx,T',rfl,?_,x2,ha,hT',q⟩;exact zvu I1 k2 ha λt z=>(by cases z; exact hT')
variable {k:Nat} {f C:Addr} {fd:FuncData} {ps:List Str} {sp:Sp} {dvs:List V} {ds:List Value}
theorem zyV {e:Value} {s':Shared} (I:Inv X pins σ H s) (c:CX1 X.prog X.w X.stack H s E e s'):zmM X pins σ E e s':=by
 obtain ⟨a,C,dx,T,H',he,x,ha,hHa,hT,os,bare,u,hok,q⟩:=c;have J:=I.call' (ch:=[]) os u hok bare (λb z=>absurd z (by simp));exact ⟨H',a,C,dx,T,he,J,x,I.fpOk ha hHa,λt z=>I.fpOk (hT t z).1 (hT t z).2,q⟩
theorem zvv {Q:VK} {us:List Value} {vs:List V} (F:FnOk X.prog X.w X.K X.mg X.base (CX1 X.prog X.w) k f fd ps sp) (hr:Room k X.A) (hb:Binds X.K fd ps ds) (hd:Vals dvs ds) (I:Inv X pins σ H s) (r:Vals vs us) (h:sp (vs++dvs) H Q E) :
  wpAny (model X.prog X.w) X.A (call (.ref f) us) (EP X pins σ Q) (zmM X pins σ E) s:=by
 have r2:Vals (vs++dvs) (us++ds):=r.append hd;have hl:(us++ds).length=ps.length:=by rw [<- r2.length]; exact F.len _ _ _ _ h
 refine wpAny_call (codeAny_mono (F.run X.A X.stack s H ⟨us,[]⟩ (us++ds) (vs++dvs) Q E hr I.env0 (hb s us I.kIn hl) r2 h) λr s' hq=>?_);cases r with
 | error e=>exact zyV I hq
 | ok fl=>
  cases fl with
  | ret u=>exact I.after hq
  | next=>exact False.elim hq
  | brk=>exact False.elim hq
  | cont=>exact False.elim hq
end
section
variable {X:Cx} {pins:List (Addr×Obj)} {σ:St} {E:XK}
theorem PA.nox {es:List Expr} {t:TA} (h:PA X.nox es t):PA X es t:=λpos pins s σ H Q I hw=>
 wpAny_mono (h pos pins s σ H Q (I.wish _) hw) (λ_ _ ⟨v,H',I',r,q⟩=>⟨v,H',I'.unwish,r,q⟩) λ_ _ z=>False.elim z
def PEx (X:Cx) (pins:List (Addr×Obj)) (σ:St) (E:XK) (e:Expr) (t:TE):Prop:=∀ (s:Shared) (H:Hp) (Q:VK),Inv X pins σ H s->t σ H Q->wpAny (model X.prog X.w) X.A (eval e X.env) (EP X pins σ Q) (zmM X pins σ E) s
def PSx (X:Cx) (pins:List (Addr×Obj)) (σ:St) (E:XK) (st:Stmt) (t:TS):Prop:=∀ (s:Shared) (H:Hp) (D:Ends),Inv X pins σ H s->t D σ H->wpAny (model X.prog X.w) X.A (exec st X.env) (SP X pins D) (zmM X pins σ E) s
def PBx (X:Cx) (pins:List (Addr×Obj)) (σ:St) (E:XK) (st:List Stmt) (t:TS):Prop:=∀ (s:Shared) (H:Hp) (D:Ends),Inv X pins σ H s->t D σ H->wpAny (model X.prog X.w) X.A (execs st X.env) (SP X pins D) (zmM X pins σ E) s
abbrev Cx.here (X:Cx) (pins:List (Addr×Obj)) (σ:St) (E:XK):Cx:=X.wish (zmM X pins σ E)
variable {k:Nat} {f C:Addr} {fd:FuncData} {ps:List Str} {sp:Sp} {dvs:List V} {ds:List Value} {x m:Str} {p pos apos:Pos} {e o:Expr} {es:List Expr} {ta:TE} {t:TA}
theorem zsf (F:FnOk X.prog X.w X.K X.mg X.base (CX1 X.prog X.w) k f fd ps sp) (hr:Room k X.A) (hg:Gl X x) (hm:X.mg x=some (.ref f)) (hk:W.keepIn X.K (.ref f)=true) (hb:Binds X.K fd ps ds) (hd:Vals dvs ds)
  (ha:PA X.nox (e :: es) t) (hdb:(x==("__debug__":Str))=false:=by decide) (he:starEach (e :: es) X.env=(false,eval e X.env) :: starEach es X.env:=by rfl) (hpl:(backTo pos (starEach es X.env)).any (·.1)=false:=by rfl) :
  PEx X pins σ E (.Call (.Name x p) (e :: es) [] pos) (zo0 sp dvs E t):=by
 intro s H Q I h;have ha':PA (X.here pins σ E) (e :: es) t:=PA.nox (X:=X.here pins σ E) ha;refine wpAny_Call_Name_kw (zf8 (X:=X) I hg hm ?_ hdb);refine W.callWith_K (h₀:=X.base) I.ok.mod.kin hk (thn (ha' pos pins s σ H _ (I.wish _) h) λus s1 ⟨vs,H1,I1,r,q⟩=>⟨I1.kIn,?_⟩) he hpl;exact zvv F hr hb hd I1.unwish r q
variable {st:Stmt} {te:TE} {u v:TS}
theorem zvw {i:Nat} {pos':Pos} (hN:X.N.Nodup) (hi:X.N[i]? = some x) (hx:Loc X.env.scope x) (he:PEx X pins σ E e te) (hs:swapsWith e (some (.Name x pos')) pos.line X.env=pure false:=by rfl) (hf:X.fn x=true\/X.env.scope.names.lookup x=some .local:=by first | exact .inl rfl | exact .inr rfl | assumption) :
  PSx X pins σ E (.Assign [.Name x pos'] e pos) (zuk te (zmr i)):=λs H D I h=>
 wpAny_Assign_Name (thn (he s H _ I h) λv s1 ⟨y,H1,I1,r1,q1⟩=>ziC I1 hN hi hx r1 (λs2 I2=>⟨_,H1,I2,q1⟩) hf) hs
theorem zvx (h1:PSx X pins σ E st u):PBx X pins σ E [st] u:=by
 intro s H D I h;refine wpAny_execs_cons (thn (h1 s H D I h) λf s1 q=>?_);cases f with
 | next=>exact wpAny_execs_nil q
 | ret v=>exact q
 | brk=>exact q
 | cont=>exact q
end
section
variable {X:Cx} {pins:List (Addr×Obj)} {σ σ':St} {H:Hp} {s:Shared}
theorem zvy {h':Heap} {m':Str->Option Value} {t':Nat} (I:Inv X pins σ H s) (hs:Heap.SameBut X.env.locals s.heap h') (hn:h'.Ns X.env.locals m')
  (hl:∀ (j:Nat) (y:Str) (v:V),X.N[j]? = some y->σ'[j]? = some (some v)->Vis X.env.scope y->∃ u,RelV v u/\zCp X.env h' m' y u) (len:σ'.length=X.N.length):Inv X pins σ' H { s with heap:=h',toks:=t' }:=by
 have nl:∀ b o,X.s₀.heap.get? b=some o->b≠X.env.locals:=λb o q=>Nat.ne_of_lt (Nat.lt_of_lt_of_le (Heap.lt_size q) I.ok.above);refine ⟨I.ok,I.os,I.bare,⟨λb o e n hb hx=>?_,λb o e n hb hx=>?_,I.base.free,λb o e hx=>?_,I.base.tups,I.base.frzs,I.base.tbls⟩,⟨m',hn,hl⟩,λy c e=>?_,I.free,I.freeC,λp hp=>?_,λb ob e=>?_,len⟩
 ·exact (hs.2 b (nl b o e)).trans (I.base.keep b o e n hb hx)
 ·obtain ⟨sl,e1⟩:=I.base.slot b o e n hb hx;exact ⟨sl,(hs.2 b (nl b o e)).trans e1⟩
 ·obtain ⟨o',e1⟩:=I.base.there b o e hx;exact ⟨o',(hs.2 b (nl b o e)).trans e1⟩
 ·obtain ⟨v,o,q,d⟩:=I.cell y c e;exact ⟨v,o,(hs.2 c (I.cne y c e)).trans q,d⟩
 ·obtain ⟨q1,q2,q3,q4⟩:=I.pin p hp;exact ⟨(hs.2 p.1 q3).trans q1,q2,q3,q4⟩
 ·refine (I.hok b ob e).stay (λc w' hc q=>(hs.2 c ?_).trans q) (λ_ q=>q) λ_ _ q=>q;rintro rfl;rcases hc with rfl | hc
  ·rw [I.free] at e; cases e
  ·rw [I.free] at hc; cases hc
theorem zkL {M:Model} {A:Around} {E:Value->Shared->Prop} {i:Nat} {n:Str} {pos:Pos} {Q:Unit->Shared->Prop} (I:Inv X pins σ H s) (hN:X.N.Nodup) (hi:X.N[i]? = some n) (hx:X.env.scope.names.lookup n=some .local)
  (h:∀ s',Inv X pins (σ.set i none) H s'->Q () s'):wpAny M A (do bindName X.env n .none; unbindBehindTheSuite X.env n pos) Q E s:=by
 obtain ⟨m,hn,hl⟩:=id I.loc;refine wpAny_nameGoes_keeps hx hn (by rw [I.ok.kind]; rfl) λh' v hn' hs=>h _ (zvy I hs hn' (λj y v' e1 e2 e3=>?_) (by simpa using I.len));have hj:j≠i:=λz=>by
  subst z;have hiσ:j < σ.length:=by rw [I.len]; exact (List.getElem?_eq_some_iff.mp hi).1
  rw [List.getElem?_set_self hiσ] at e2; cases e2
 rw [List.getElem?_set_ne (Ne.symm hj)] at e2;obtain ⟨u,r,l⟩:=hl j y v' e1 e2 e3;refine ⟨u,r,?_⟩;have hyn:y≠n:=λz=>by
  subst z;exact hj ((List.getElem?_inj (List.getElem?_eq_some_iff.mp e1).1 hN).mp (e1.trans hi.symm))
 rcases l with ⟨k,q⟩ | ⟨k,c,q1,o,q2,q3⟩
 ·exact .inl ⟨k,by show (if y=n then v else m y)=_; rw [if_neg hyn]; exact q⟩
 ·exact .inr ⟨k,c,q1,o,(hs.2 c (I.cne y c q1)).trans q2,q3⟩
abbrev Cx.marked (X:Cx) (a:Addr):Cx:={ X with A:=X.A.mark (some (.ref a)),calm:=false,xe:=λ_ _=>False }
theorem Inv.marked (I:Inv X pins σ H s) (a:Addr):Inv (X.marked a) pins σ H s:=by
 have ok:=I.ok;exact ⟨⟨ok.mod,ok.kind,ok.glob,ok.blt,ok.above,ok.inj,ok.has,ok.cab,λz=>(by cases z),ok.frames,ok.stk,ok.exf,ok.bs,ok.bsz,ok.noex,ok.exfs,ok.funs,ok.frf⟩,I.os,I.bare,I.base,I.loc,I.cell,I.free,I.freeC,I.pin,I.hok,I.len⟩
theorem Inv.unmarked {a:Addr} (I:Inv (X.marked a) pins σ H s) (hd:X.calm=true->X.A.handled=none):Inv X pins σ H s:=by
 have ok:=I.ok;exact ⟨⟨ok.mod,ok.kind,ok.glob,ok.blt,ok.above,ok.inj,ok.has,ok.cab,hd,ok.frames,ok.stk,ok.exf,ok.bs,ok.bsz,ok.noex,ok.exfs,ok.funs,ok.frf⟩,I.os,I.bare,I.base,I.loc,I.cell,I.free,I.freeC,I.pin,I.hok,I.len⟩
theorem Inv.hold {a:Addr} {C:Value} {dx T:Option Addr} {fl:Value} (I:Inv X pins σ H s) (fp:zjv X pins H a) (x:XAt a C dx T fl s.heap):Inv X pins σ (upd H a (xO a C dx)) s:=by
 obtain ⟨oe,vs,he,hc,hdd,hd,-⟩:=x;have na:∀ b u,H b=some u->b≠a:=λb u q z=>by subst z; rw [fp.1] at q; cases q
 have un:Un (frs X.stack) [a] H (upd H a (xO a C dx)) s.heap s.heap:=by
  refine ⟨λb o q _ _ _=>q,λb o q _ _ _=>⟨o.slots,q⟩,λb o q n hx=>?_,λb o q _=>⟨o,q⟩,λb xs q=>?_,λb o u q=>?_,λb ps q=>⟨#[],?_⟩⟩
  ·rw [zas (λz=>hx (by simp [z]))]; exact n
  ·rw [zas (na _ _ q)]; exact q
  ·rw [zas (na _ _ q)]; exact q
  ·rw [zas (na _ _ q),q]; simp
 have hok:HOk X.prog X.w (upd H a (xO a C dx)) s.heap:=λb u q=>by
  by_cases z:b=a
  ·subst z;rw [zaB] at q; cases q
   refine ⟨⟨oe,vs,he,hc,hdd,hd⟩,⟨oe,he⟩,λh1 h2 ⟨oe',vs',q1,q2⟩ k=>⟨oe',vs',k _ q1,q2⟩⟩
  ·rw [zas z] at q;exact (I.hok b u q).stay (λ_ _ _ q=>q) (λc q=>by rw [zas (na _ _ q)]; exact q) λc xs q=>by rw [zas (na _ _ q)]; exact q
 have:=I.call (g':=s.gens) (t':=s.toks) (d':=s.drawn) (ch:=[a]) un hok I.bare λb hb=>by
  have z:b=a:=by simpa using hb
  subst z;exact ⟨fp.2.2.2.1,fp.2.1,fp.2.2.2.2.1,fp.2.2.2.2.2⟩
 exact this
def PH (X:Cx) (hs:List ExceptHandler) (r:Ends->St->Value->Option Addr->Hp->Prop):Prop:=
 ∀ (pins:List (Addr×Obj)) (σ:St) (H:Hp) (s:Shared) (a:Addr) (C:Value) (dx:Option Addr) (T:Addr) (D:Ends),Inv X pins σ H s->XAt a C dx (some T) .none s.heap->zjv X pins H a->zjv X pins H T->r D σ C dx H->
  wpAny (model X.prog X.w) X.A (handleBy (.ref a) X.env hs) (SP X pins D) X.xe s
def Ends.un (D:Ends) (i:Nat):Ends:={ nx:=λσ H=>D.nx (σ.set i none) H,rt:=D.rt,bk:=λσ H=>D.bk (σ.set i none) H,ct:=λσ H=>D.ct (σ.set i none) H }
def rAs (K:Frag) (Ct:Addr) (i:Nat) (ts:TS) (r:Ends->St->Value->Option Addr->Hp->Prop):Ends->St->Value->Option Addr->Hp->Prop:=λD σ C dx H=>
 ∃ b,exmOne K C (.ref Ct)=some b/\if b=true then ∀ a,H a=none->ts (D.un i) (σ.set i (some (.ref a))) (upd H a (xO a C dx)) else r D σ C dx H
theorem zp1 {M:Model} {h:Heap} {a:Addr} {oe:Obj} (he:h.get? a=some oe):Looks M h (typeOf (.ref a)) oe.cls:=(Looks.ld he).andThen .now
theorem zBP {x n:Str} {np pos:Pos} {b₀:Stmt} {suite:List Stmt} {zaL:List ExceptHandler} {Ct:Addr} {i:Nat} {ts:TS} {r:Ends->St->Value->Option Addr->Hp->Prop} (hN:X.N.Nodup) (hi:X.N[i]? = some n) (hx:X.env.scope.names.lookup n=some .local)
  (hg:Gl X x) (hm:X.mg x=some (.ref Ct)) (hsu:∀ a,PSs (X.marked a) (b₀ :: suite) ts) (hr:PH X zaL r) (hdb:(x==("__debug__":Str))=false:=by decide) :
  PH X (.ExceptHandler (some (.Name x np)) (some n) (b₀ :: suite) pos :: zaL) (rAs X.K Ct i ts r):=by
 intro pins σ H s a C dx T D I xa ha hT ⟨b,hb,h⟩;obtain ⟨oe,vs,he,hc,_⟩:=id xa;refine wpAny_handleBy_cons (codeAny_handlers_test (zf8 (X:=X.marked a) (I.marked a) hg hm ?_ hdb)) (by intro q; cases q);have LT:Looks (model X.prog X.w) s.heap (typeOf (.ref a)) C:=by rw [<- hc]; exact zp1 he
 refine (exm_one I.kIn LT hb).here ?_;cases b with
 | false=>exact hr pins σ H s a C dx T D I xa ha hT h
 | true=>
  simp only [if_true] at h ⊢;refine codeAny_handlers_suite_as (zkJ (fs:=frs X.stack) xa λh2 x2 k2=>?_);have I2:=zvu I k2 ha (λt z=>by cases z; exact hT);have I3:=(I2.hold ha x2).marked a;refine ziC (X:=X.marked a) (v:=.ref a) I3 hN hi (.inl hx) rfl (λs3 I4=>?_) (.inr hx);refine wpAny_mono (hsu a pins s3 _ _ (D.un i) I4 (h a ha.1)) (λf s4 q=>?_) λ_ _ z=>False.elim z;cases f with
  | next=>obtain ⟨σ',H',J,q⟩:=q; exact zkL (X:=X) (J.unmarked I.ok.hd) hN hi hx λs5 J5=>⟨_,H',J5,q⟩
  | brk=>obtain ⟨σ',H',J,q⟩:=q; exact zkL (X:=X) (J.unmarked I.ok.hd) hN hi hx λs5 J5=>⟨_,H',J5,q⟩
  | cont=>obtain ⟨σ',H',J,q⟩:=q; exact zkL (X:=X) (J.unmarked I.ok.hd) hN hi hx λs5 J5=>⟨_,H',J5,q⟩
  | ret u=>obtain ⟨v,σ',H',J,rv,q⟩:=q; exact zkL (X:=X) (J.unmarked I.ok.hd) hN hi hx λs5 J5=>⟨v,_,H',J5,rv,q⟩
def zDb (tb:XK->TS) (r:Ends->St->Value->Option Addr->Hp->Prop):TS:=λD σ H=>tb (λC dx H'=>r D σ C dx H') D σ H
theorem zyW {body:List Stmt} {h₀:ExceptHandler} {hs:List ExceptHandler} {pos:Pos} {tb:XK->TS} {r:Ends->St->Value->Option Addr->Hp->Prop} {outer:List Env} (hst:X.stack=X.env :: outer) (hf:X.env.frame=some X.env.locals) (hb:∀ pins σ E,PBx X pins σ E body (tb E)) (hh:PH X (h₀ :: hs) r) :
  PS X (.Try body (h₀ :: hs) [] [] pos) (zDb tb r):=by
 intro pins s σ H D I h;refine wpAny_Try_except (wpAny_mono (hb pins σ _ s H D I h) (λf s1 q=>?_) λe s1 x=>?_)
 ·cases f with
  | next=>exact wpAny_execs_nil q
  | ret v=>exact q
  | brk=>exact q
  | cont=>exact q
 ·refine zyU (Ex:=X.xe) hst rfl hf x λs' x'=>?_;obtain ⟨H',a,C,dx,T,rfl,I',xa,ha,hT,q⟩:=x';exact hh pins σ H' s' a C dx T D I' xa ha hT q
end
structure XGet (K:Frag) (C:Addr):Prop where
 ga:findIn K (.ref C) "__getattribute__"=some (some (.builtin "BaseException.__getattribute__"))
 gt:findIn K (.ref C) "__getattr__"=some none
 hb:mroIn K C (.type "BaseException")=some true
 hd:hasDictIn K C=true
section
variable {prog:Program} {w:World} {A:Around} {E:Value->Shared->Prop} {s:Shared} {K:Frag} {x C:Addr} {ox:Obj} {od:Option Obj} {name:Str} {expr:Bool} {Q:Value->Shared->Prop}
theorem zoi {v:Value} (X:K.In s.heap) (I:InstAt s.heap x ox C od) (hga:findIn K (.ref C) "__getattribute__"=some (some (.builtin "BaseException.__getattribute__"))) (hgt:findIn K (.ref C) "__getattr__"=some none) (hb:mroIn K C (.type "BaseException")=some true)
  (hf:findObj K C od name=some (.value v)) (hh:handedIn v=true) (h:Q v { s with toks:=s.toks+1 }):wpAny (model prog w) A (getAttr (.ref x) name expr) Q E s:=by
 obtain ⟨hp,g,d,t,os⟩:=s;have L0:=I.type (M:=model prog w);have L1:=looks_findIn (M:=model prog w) X hga;have L2:=looks_findIn (M:=model prog w) X hgt;have L3:=looks_find (M:=model prog w) X I hf;have SG:=PySem.F.excAttr_ValueError.ga;have hx2:(Value.builtin "BaseException.__getattribute__"==Value.builtin "object.__getattribute__")=false:=by decide +kernel
 have hx1:(onTheHeap (Value.ref C)&&Value.builtin "BaseException.__getattribute__"==Value.builtin "object.__getattribute__")=false:=by rw [hx2]; rfl
 have hx0:(expr&&onTheHeap (Value.builtin "BaseException.__getattribute__"))=false:=by cases expr <;> rfl
 unfold getAttr getAttrBy;refine wpAny_bind (wpAny_mkText (wpAny_holding (wpAny_bind (L0.at (wpAny_bind (L1.at ?_))))));dsimp only;rw [hx1];simp only [Bool.false_eq_true,if_false];unfold getAttrByItsOwn hookBefore;rw [if_pos (show onTheHeap (Value.ref C)=true from rfl)];refine wpAny_bind (L2.at ?_);refine wpAny_bind (wpAny_attempt (wpAny_holding ?_));unfold callGetattribute;rw [hx0];simp only [Bool.false_eq_true,if_false]
 unfold boundAndCalled;rw [SG.bind (.ref x)];refine wpAny_bind (wpAny_pure ?_);have hi:Looks (model prog w) hp (isInstance (.ref x) (.type "BaseException")) true:=L0.andThen (looks_mroIn X hb);have hk:builtinKind "BaseException.__getattribute__"=some .slot:=by decide +kernel
 have hsp:splitId "BaseException.__getattribute__"=some ("BaseException","__getattribute__"):=by decide +kernel
 show wpAny _ _ (call (.builtin "BaseException.__getattribute__") [.ref x,.str name t]) _ _ _;refine wpAny_call (codeAny_call_builtin SG.plain PySem.F.entry_bexc_ga (@check_slot (model prog w) _ _ ⟨hp,g,d,t+1,os⟩ "BaseException.__getattribute__" "BaseException" "__getattribute__" (.ref x) [.str name t] [] _ hk hsp hi (PySem.F.args_bexc_ga (.ref x) (.str name t)) ?_));unfold Builtin.«object.__getattribute__»
 refine wpAny_bind (wpAny_of_eq (a:=(Value.ref x,[Value.str name t])) rfl ?_);refine wpAny_bind (wpAny_pure (wpAny_bind (L0.at (wpAny_bind (L3.at ?_)))));refine wpAny_pure ?_;show wpAny _ _ (handedOut v) _ _ _;rw [handedOut_of hh]; exact wpAny_pure h
end
section
variable {prog:Program} {w:World} {A:Around} {E:Value->Shared->Prop} {s:Shared} {K:Frag} {x C:Addr} {ox od:Obj}
theorem zp2 {Q:Option Value->Shared->Prop} (hga:findIn K (.ref C) "__getattribute__"=some (some (.builtin "BaseException.__getattribute__"))) (hgt:findIn K (.ref C) "__getattr__"=some none) (hb:mroIn K C (.type "BaseException")=some true) (hdct:hasDictIn K C=true)
  (ha:findIn K (.ref C) "__class__"=some (some (.builtin "object.__class__"))) (hn:specialIn K (.builtin "object.__class__") "__get__"=some (some (.builtin "getset_descriptor.__get__"))) (htk:takesIn K (.builtin "object.__class__")=some true) (hm:mroIn K C (.type "object")=some true)
  (X:K.In s.heap) (I:InstAt s.heap x ox C (some od)) (h:Q (some (.ref C)) { s with toks:=s.toks+1 }):wpAny (model prog w) A (getAttr? (.ref x) "__class__") Q E s:=by
 have hf:findObj K C (some od) "__class__"=some (.bind (.builtin "getset_descriptor.__get__") (.builtin "object.__class__")):=findObj_data (by obtain ⟨cd,hc,_⟩:=any_some hdct; rw [hc]; rfl) ha hn htk;obtain ⟨hp,g,d,t,os⟩:=s;have L0:=I.type (M:=model prog w);have L1:=looks_findIn (M:=model prog w) X hga;have L2:=looks_findIn (M:=model prog w) X hgt;have L3:=looks_find (M:=model prog w) X I hf;have SG:=PySem.F.excAttr_ValueError.ga
 have hx2:(Value.builtin "BaseException.__getattribute__"==Value.builtin "object.__getattribute__")=false:=by decide +kernel
 have hx1:(onTheHeap (Value.ref C)&&Value.builtin "BaseException.__getattribute__"==Value.builtin "object.__getattribute__")=false:=by rw [hx2]; rfl
 have hx0:(false&&onTheHeap (Value.builtin "BaseException.__getattribute__"))=false:=rfl;unfold getAttr? getAttrBy? getAttrBy;refine wpAny_bind (wpAny_mkText (wpAny_bind (wpAny_attempt (wpAny_holding (wpAny_bind (L0.at (wpAny_bind (L1.at ?_))))))));dsimp only;rw [hx1];simp only [Bool.false_eq_true,if_false];unfold getAttrByItsOwn hookBefore;rw [if_pos (show onTheHeap (Value.ref C)=true from rfl)]
 refine wpAny_bind (L2.at ?_);refine wpAny_bind (wpAny_attempt (wpAny_holding ?_));unfold callGetattribute;rw [hx0];simp only [Bool.false_eq_true,if_false];unfold boundAndCalled;rw [SG.bind (.ref x)];refine wpAny_bind (wpAny_pure ?_);have hi:Looks (model prog w) hp (isInstance (.ref x) (.type "BaseException")) true:=L0.andThen (looks_mroIn X hb);have hk:builtinKind "BaseException.__getattribute__"=some .slot:=by decide +kernel
 have hsp:splitId "BaseException.__getattribute__"=some ("BaseException","__getattribute__"):=by decide +kernel
 show wpAny _ _ (call (.builtin "BaseException.__getattribute__") [.ref x,.str "__class__" t]) _ _ _;refine wpAny_call (codeAny_call_builtin SG.plain PySem.F.entry_bexc_ga (@check_slot (model prog w) _ _ ⟨hp,g,d,t+1,os⟩ "BaseException.__getattribute__" "BaseException" "__getattribute__" (.ref x) [.str "__class__" t] [] _ hk hsp hi (PySem.F.args_bexc_ga (.ref x) (.str "__class__" t)) ?_));unfold Builtin.«object.__getattribute__»
 refine wpAny_bind (wpAny_of_eq (a:=(Value.ref x,[Value.str "__class__" t])) rfl ?_);refine wpAny_bind (wpAny_pure (wpAny_bind (L0.at (wpAny_bind (L3.at ?_)))));show wpAny _ _ (holding [_] (call (.builtin "getset_descriptor.__get__") [.builtin "object.__class__",.ref x,.ref C]) >>= ret) _ _ _;refine wpAny_bind (wpAny_holding (wpAny_call (class_get (s:=⟨hp,g,d,t+1,os⟩) (ox:=ox) (od:=some od) X I hm ?_)))
 refine wpAny_pure ?_;show wpAny _ _ (handedOut (.ref C)) _ _ _;exact wpAny_pure (wpAny_pure h)
end
structure XIs (K:Frag) (C:Addr):Prop extends XGet K C where
 ha:findIn K (.ref C) "__class__"=some (some (.builtin "object.__class__"))
 hn:specialIn K (.builtin "object.__class__") "__get__"=some (some (.builtin "getset_descriptor.__get__"))
 htk:takesIn K (.builtin "object.__class__")=some true
 hm:mroIn K C (.type "object")=some true
theorem zsg {K:Frag} {x C:Addr} {ox od:Obj} (g:XIs K C):KitX K (.ref x) (.ref C) (λh=>InstAt h x ox C (some od)) where
 ty:=λ_ _ _ I=>I.type
 it:=λ_ _ X _=>by
  obtain ⟨cdD,hcD,_⟩:=any_some g.hd;unfold clsIn at hcD;split at hcD
  ·rename_i c' d' cd' sl' ho
   intro A' Q' E' s' k q;unfold isType loadHead;exact wpAny_bind (wpAny_loadPart (k _ _ (X _ _ ho)) (wpAny_pure q))
  ·cases hcD
 ne:=λh tp dd its n sl X htp=>by
  obtain ⟨cdD,hcD,_⟩:=any_some g.hd;refine Bool.eq_false_iff.mpr λq=>?_;have e:C=tp:=Value.ref.inj (beq_iff_eq.mp q);subst e;unfold clsIn at hcD;split at hcD
  ·rename_i c' d' cd' sl' ho
   have z:=(X _ _ ho).symm.trans htp;cases z
  ·cases hcD
 ca:=λX I k=>zp2 g.ga g.gt g.hb g.hd g.ha g.hn g.htk g.hm X I k
section
variable {X:Cx} {pins:List (Addr×Obj)} {σ:St} {H:Hp} {s:Shared} {a C dx:Addr} {fs:List (Str×V)} {f:Str} {v:V} {A:Around} {E:Value->Shared->Prop}
theorem zp3 {P:Program} {w:World} {h:Heap} (hok:HOk P w H h) (e:H a=some (xO a (.ref C) (some dx))) (ed:H dx=some (.xd fs)):∃ (oe od:Obj) (mA:Str->Option Value),W.InstAt h a oe C (some od)/\(∀ name,lookIn name od=some (mA name))/\∀ f,RelO (fs.lookup f) (mA f):=by
 obtain ⟨⟨oe,vs,q1,q2,q3,q4⟩,_⟩:=(show ObjOk P w H h a (xO a (.ref C) (some dx)) from hok a _ e)
 obtain ⟨mA,n,r⟩:=(show ObjOk P w H h dx (.xd fs) from hok dx _ ed)
 obtain ⟨od,ho,hl⟩:=ziG n;refine ⟨oe,od,mA,⟨q1,q2,?_,?_⟩,hl,r⟩
 ·unfold notCls; rw [q4]
 ·rw [q3]; exact ho
theorem zvz {b:Bool} {Q:Value->Shared->Prop} (I:Inv X pins σ H s) (e:H a=some (xO a (.ref C) (some dx))) (ed:H dx=some (.xd fs)) (c:XGet X.K C) (n:NoAttr X.K C f) (l:fs.lookup f=some v)
  (h:∀ u s',Inv X pins σ H s'->RelV v u->Q u s'):wpAny (model X.prog X.w) A (getAttr (.ref a) f b) Q E s:=by
 obtain ⟨oe,od,mA,J,hl,r⟩:=zp3 I.hok e ed;obtain ⟨u,hu,ru⟩:=RelO.some_of (v:=v) (o:=mA f) (by rw [<- l]; exact r f);exact zoi I.kIn J c.ga c.gt c.hb (W.findObj_own c.hd n rfl (by rw [hl,hu])) (zlk ru) (h u _ (I.tok _) ru)
theorem zyX {c:Value} {b:Bool} {Q:Value->Shared->Prop} (I:Inv X pins σ H s) (e:H a=some (xO a (.ref C) (some dx))) (ed:H dx=some (.xd fs)) (g:XIs X.K C) (q:kitOne X.K (.ref C) c=some b) (h:∀ tk,Q (.bool b) { s with toks:=tk }) :
  wpAny (model X.prog X.w) A (call (.builtin "isinstance") [.ref a,c]) Q E s:=by
 obtain ⟨oe,od,mA,J,hl,r⟩:=zp3 I.hok e ed;exact W.kia_one (zsg g) I.kIn J q (λz=>nomatch z) h
end
def XD (B:Bk) (H:Hp) (G:Addr->Prop) (dx:Addr) (fs:List (Str×D)):Prop:=G dx/\∃ fv:List (Str×V),H dx=some (.xd fv)/\fv.map (·.1)=fs.map (·.1)/\DAs B H G (fv.map (·.2)) (fs.map (·.2))
theorem XD.sub {B:Bk} {H:Hp} {G F:Addr->Prop} {dx:Addr} {fs:List (Str×D)} (h:XD B H G dx fs) (q:∀ b,G b->F b):XD B H F dx fs:=let ⟨g,fv,h1,h2,h3⟩:=h; ⟨q _ g,fv,h1,h2,h3.mono (λ_ _ _ e=>e) q⟩
abbrev Exc:=Nat×List (Str×D)
inductive Fl3 where
 | nx (S:FSt) | rt (x:SV) | ex (e:Exc) | bad
def Lands3 (B:Bk) (σ:St) (S:FSt) (H:Hp) (F:Addr->Prop) (os:Nat->List Addr) (D:Ends) (E:XK):Fl3->Prop
 | .nx S'=>∀ σ' H' F' os',FStep σ S H F os σ' S' H' F' os'->Rep B H' F' σ' S' os'->D.nx σ' H'
 | .rt x=>∀ v H' F' o,FStepR H F os H' F' o->VA B H' F' v x o->D.rt v H'
 | .ex e=>∀ dx H' F',FStepR H F os H' F' []->XD B H' F' dx e.2->E (.ref (B.cl e.1)) (some dx) H'
 | .bad=>False
def FX (B:Bk) (t:XK->TS) (m:FSt->Fl3):Prop:=
 ∀ (S:FSt) (σ:St) (H:Hp) (F:Addr->Prop) (os:Nat->List Addr) (D:Ends) (E:XK),Rep B H F σ S os->Lands3 B σ S H F os D E (m S)->t E D σ H
@[simp] def zsh (m:FSt->Fl):FSt->Fl3:=λS=>match m S with
 | .nx S'=>.nx S'
 | .rt x=>.rt x
 | _=>.bad
@[simp] def zoj (a b:FSt->Fl3):FSt->Fl3:=λS=>match a S with
 | .nx S1=>b S1
 | r=>r
@[simp] def zyY (c:FSt->Option Bool) (a b:FSt->Fl3):FSt->Fl3:=λS=>match c S with
 | some true=>a S
 | some false=>b S
 | none=>.bad
@[simp] def zlK (c:Nat) (name:Str) (md:FSt->Option D):FSt->Fl3:=λS=>match md S with
 | some d=>.ex (c,[(name,d)])
 | none=>.bad
section
variable {B:Bk} {σ σ1:St} {S S1:FSt} {H H1:Hp} {F F1:Addr->Prop} {os os1:Nat->List Addr} {En:Ends} {E:XK} {t u:XK->TS} {ma mb:FSt->Fl3}
theorem Lands3.later {r:Fl3} (h:Lands3 B σ S H F os En E r) (a:FStep σ S H F os σ1 S1 H1 F1 os1):Lands3 B σ1 S1 H1 F1 os1 En E r:=by
 cases r with
 | nx S'=>exact λσ' H' F' os' st=>h σ' H' F' os' (a.trans st)
 | rt x=>exact λv H' F' o st=>h v H' F' o (a.transR st)
 | ex e=>exact λdx H' F' st=>h dx H' F' (a.transR st)
 | bad=>exact h
theorem zyZ {t:TS} {m:FSt->Fl} (h:FS B t m):FX B (λ_=>t) (zsh m):=by
 intro S σ H F os En E r hl;refine h S σ H F os En r ?_;unfold zsh at hl;cases q:m S with
 | nx S'=>rw [q] at hl; exact hl
 | rt x=>rw [q] at hl; exact hl
 | _=>rw [q] at hl; exact hl.elim
theorem zy0 (h1:FX B t ma) (h2:FX B u mb):FX B (λE=>zAD (t E) (u E)) (zoj ma mb):=by
 intro S σ H F os En E r h;refine h1 S σ H F os _ E r ?_;unfold zoj at h;cases q:ma S with
 | nx S1=>
  rw [q] at h;intro σ' H' F' os' st r';exact h2 S1 σ' H' F' os' En E r' (h.later st)
 | rt x=>rw [q] at h; exact h
 | ex e=>rw [q] at h; exact h
 | bad=>rw [q] at h; exact h
theorem zBQ {tt:TT} {mt:FSt->Option Bool} (hc:FT B tt mt) (h1:FX B t ma) (h2:FX B u mb):FX B (λE=>zAY tt (t E) (u E)) (zyY mt ma mb):=by
 intro S σ H F os En E r h;unfold zyY at h;cases q:mt S with
 | none=>rw [q] at h; exact h.elim
 | some c=>
  rw [q] at h;refine hc S σ H F os _ c r q λH' F' a r'=>?_;cases c with
  | true=>rw [if_pos rfl]; exact h1 S σ H' F' os En E r' (h.later a.step)
  | false=>rw [if_neg Bool.false_ne_true]; exact h2 S σ H' F' os En E r' (h.later a.step)
theorem zsi {G:Addr->Prop} {L:List Nat} (r:Rep B H F σ S os) (a:Al H (orF F (osL os L)) H1 G) (gd:∀ b,G b->H1 b≠none):FStepR H F os H1 G []:=by
 refine ⟨λb u e _=>a.same b u e,λb z=>a.up b (.inl z),λb z=>?_,λb z=>absurd z (by simp),gd⟩;rcases a.new b z with (z | ⟨i,_,z⟩) | z | z
 ·exact .inl z
 ·exact .inr (.inr (.inl ⟨i,z⟩))
 ·exact .inr (.inl z.1)
 ·exact .inr (.inr (.inr z))
theorem zsj {ta:TE} {L:List Nat} {md:FSt->Option D} {c:Nat} {name:Str} {C:Addr} (hC:B.cl c=C) (ha:FD B ta L md):FX B (λE=>zp0 E C name (zn4 ta ztc)) (zlK c name md):=by
 subst hC;intro S σ H F os En E r h;unfold zlK at h;cases q:md S with
 | none=>rw [q] at h; exact h.elim
 | some d=>
  rw [q] at h;refine ha S σ H F os _ d r q λv H1 F1 a r1 da=>⟨v,rfl,λdx hn=>?_⟩
  have al:Al H1 (orF F1 (osL os L)) (upd H1 dx (.xd [(name,v)])) (λb=>orF F1 (osL os L) b\/b=dx):=zd5 hn;have gd:∀ b,(orF F1 (osL os L) b\/b=dx)->upd H1 dx (.xd [(name,v)]) b≠none:=λb z=>by
   by_cases e:b=dx
   ·subst e; rw [zaB]; simp
   ·rw [zas e];rcases z with z | z
    ·exact r1.gd L b z
    ·exact absurd z e
  refine h dx _ _ ((a.step (σ:=σ) (S:=S) (os:=os)).transR (zsi r1 al gd)) ⟨.inr rfl,[(name,v)],zaB,rfl,.cons (da.mono (λb o _ e=>al.same b o e) λb z=>.inl z) .nil⟩
structure FEX (B:Bk) (t:XK->TE) (L:List Nat) (m:FSt->Option SV) (mx:FSt->Option Exc):Prop where
 ok:∀ E,FE B (t E) L m
 ex:∀ (S:FSt) (σ:St) (H:Hp) (F:Addr->Prop) (os:Nat->List Addr) (Q:VK) (E:XK) (e:Exc),Rep B H F σ S os->mx S=some e->
  (∀ dx H' F',Al H F H' F'->Rep B H' F' σ S os->XD B H' (orF F' (osL os L)) dx e.2->E (.ref (B.cl e.1)) (some dx) H')->t E σ H Q
def SpX (B : Bk) (n : Nat) (f : List D -> Option SV) (x : List D -> Option Exc) : Sp := λvs H Q E => vs.length = n /\ ∃ (G : Addr -> Prop) (ds : List D), (∀ b, G b -> H b ≠ none) /\ DAs B H G vs ds /\
  ((∃ z, f ds = some z /\ ∀ v H' G' o, Al H G H' G' -> VA B H' G' v z o -> (∀ a, a ∈ o -> H a = none) -> Q v H') \/
   (∃ e, x ds = some e /\ ∀ dx H' G', Al H G H' G' -> XD B H' G' dx e.2 -> E (.ref (B.cl e.1)) (some dx) H'))
@[simp] def mX1 (x:List D->Option Exc) (mr:FSt->Option (List D)):FSt->Option Exc:=λS=>(mr S).bind x
theorem zsk {n:Nat} {f:List D->Option SV} {x:List D->Option Exc} {tr:TA} {L:List Nat} {mr:FSt->Option (List D)} (hf:∀ ds z,f ds=some z->ds.length=n) (hx:∀ ds z,x ds=some z->ds.length=n) (hr:FA B tr L mr) :
  FEX B (λE=>zo0 (SpX B n f x) [] E tr) L (m1 f mr) (mX1 x mr):=by
 refine ⟨λE=>zkA (r:=λvs H Q=>SpX B n f x (vs++[]) H Q E) (λ_ _ _ h=>h) ?_ hr,?_⟩
 ·intro H G vs ds z Q hg hd hz k;rw [List.append_nil];exact ⟨by rw [hd.length]; exact hf _ _ hz,G,ds,hg,hd,.inl ⟨z,hz,k⟩⟩
 ·intro S σ H F os Q E e r he k;obtain ⟨ds,ed,ex⟩:=zbH he;refine hr S σ H F os _ ds r ed λvs H1 F1 a1 r1 d1=>?_;show SpX B n f x (vs++[]) H1 Q E;rw [List.append_nil];refine ⟨by rw [d1.length]; exact hx _ _ ex,_,ds,r1.gd L,d1,.inr ⟨e,ex,λdx H2 G2 a2 xd=>?_⟩⟩;obtain ⟨F2,al,r2,q,_⟩:=r1.split a2;exact k dx H2 F2 (a1.trans al) r2 (xd.sub q)
end
@[simp] def mX3 (mx:FSt->Option Exc) (ms:FSt->Fl):FSt->Fl3:=λS=>match mx S with
 | some e=>.ex e
 | none=>zsh ms S
section
variable {B:Bk}
def zsl (m:FSt->Fl3) (n k:Nat) (ds:List D):Option SV:=if ds.length=n then (match m (ds.map (λd=>some (.sh d))++List.replicate (k-n) none) with
 | .nx _=>some (.sh .non)
 | .rt x=>some x
 | _=>none) else none
def zsm (m:FSt->Fl3) (n k:Nat) (ds:List D):Option Exc:=if ds.length=n then (match m (ds.map (λd=>some (.sh d))++List.replicate (k-n) none) with
 | .ex e=>some e
 | _=>none) else none
theorem zsn {m:FSt->Fl3} {n k:Nat}:∀ ds z,zsl m n k ds=some z->ds.length=n:=λds z h=>by
 unfold zsl at h;split at h
 ·assumption
 ·cases h
theorem zso {m:FSt->Fl3} {n k:Nat}:∀ ds z,zsm m n k ds=some z->ds.length=n:=λds z h=>by
 unfold zsm at h;split at h
 ·assumption
 ·cases h
end
theorem zDM {P : Program} {w : World} {K : W.Frag} {mg : Str -> Option Value} {base : Heap} {k : Nat} {f : Addr} {x qual : Str} {st : Stmt} {fd : FuncData} {N ps : List Str} {B : Bk} {m : FSt -> Fl3} (Fn : Fun K x qual st f fd) (S : FnScope N ps (zad st))
    (hbody : ∀ (cdv : Value) (A : Around) (outer : List Env) (s : Shared) (H : Hp) (E : XK), Room k (A.deeper (envOfC qual (zad st) s.heap.objs.size f cdv)) ->
      ∃ t : XK -> TS, PSs (zmt (CX1 P w) P w K mg base N qual (zad st) f cdv A outer s H E) (zbc st) (t E) /\ FX B t m) :
    FnOk P w K mg base (CX1 P w) (k + 1) f fd ps (SpX B ps.length (zsl m ps.length N.length) (zsm m ps.length N.length)) := by
  obtain ⟨oc, od, kV, doc, pm, an, cdv, ct, osl, rfl, lk, hcd⟩ := Fn.ex;have hpl : ps.length <= N.length := by have := congrArg List.length S.pre; rw [List.length_take] at this; omega
  refine zuw lk hcd S (λvs H Q E h => h.1) λA outer s H vs Q E hr ⟨hl, G, ds, hg, da, h⟩ => ?_;obtain ⟨t, ht, hf⟩ := hbody cdv A outer s H E hr;refine ⟨t E, ht, hf _ _ H G (λ_ => []) _ E (zlB hg da (by omega)) ?_⟩;have hdl : ds.length = ps.length := by rw [<- da.length]; exact hl
  unfold zsl zsm at h;rw [if_pos hdl, if_pos hdl] at h;rw [hdl];have al : ∀ {H' : Hp} {F' : Addr -> Prop} {o : List Addr}, FStepR H G (λ_ => []) H' F' o -> Al H G H' F' := λ{H' F' o} st => by
    refine ⟨λb u h => st.keep b u h (λi e => absurd e (by simp)), st.up, λb h => ?_⟩;rcases st.new b h with q | q | ⟨i, q⟩ | q
    · exact .inl q
    · exact .inr (.inl ⟨q, st.fd b h⟩)
    · simp at q
    · exact .inr (.inr q)
  have own : ∀ {H' : Hp} {F' : Addr -> Prop} {o : List Addr}, FStepR H G (λ_ => []) H' F' o -> ∀ b, b ∈ o -> H b = none := λ{H' F' o} st b hb => by
    rcases st.own b hb with q | ⟨i, q⟩
    · exact q
    · simp at q
  cases q : m (ds.map (λd => some (.sh d)) ++ List.replicate (N.length - ps.length) none) with
  | nx S' =>
    rw [q] at h;rcases h with ⟨z, hz, post⟩ | ⟨e, he, _⟩
    · cases hz
      intro σ' H' F' os' st r';exact post .non H' F' [] (al (o := []) ⟨st.keep, st.up, st.new, λb e => absurd e (by simp), r'.fd⟩) ⟨rfl, .non⟩ λb hb => absurd hb (by simp)
    · cases he
  | rt x =>
    rw [q] at h;rcases h with ⟨z, hz, post⟩ | ⟨e, he, _⟩
    · cases hz
      intro v H' F' o st va;exact post v H' F' o (al st) va (own st)
    · cases he
  | ex e =>
    rw [q] at h;rcases h with ⟨z, hz, _⟩ | ⟨e', he, post⟩
    · cases hz
    · cases he
      intro dx H' F' st xd;exact post dx H' F' (al st) xd
  | bad =>
    rw [q] at h;rcases h with ⟨z, hz, _⟩ | ⟨e, he, _⟩
    · cases hz
    · cases he
def zy1 (mg:D->FSt->Option FSt) (mb:FSt->Fl3):List D->FSt->Fl3
 | [],S=>.nx S
 | d :: r,S=>match mg d S with
  | none=>.bad
  | some S1=>match mb S1 with
   | .nx S2=>zy1 mg mb r S2
   | r=>r
@[simp] def zDN (mi:FSt->Option (List D)) (mg:D->FSt->Option FSt) (mb:FSt->Fl3):FSt->Fl3:=λS=>match mi S with
 | some its=>zy1 mg mb its S
 | none=>.bad
section
variable {B:Bk} {wi:TI} {mi:FSt->Option (List D)} {g:TG} {mg:D->FSt->Option FSt} {tb:XK->TS} {mb:FSt->Fl3}
end
@[simp] def zDc (c:Nat) (mn:Str) (x:List D->Option Exc) (a:FSt->Option D) (r:FSt->Option (List D)):FSt->Option Exc:=λS=>(a S).bind λd=>(r S).bind λds=>match d with
 | .ins k fs=>if k=c then (if (fs.lookup mn).isNone then x (.ins k fs :: ds) else none) else none
 | _=>none
section
variable {B:Bk} {ta:TE} {tr:TA} {La Lb:List Nat} {ma:FSt->Option D} {mr:FSt->Option (List D)}
@[simp] def fXF (cs:List Nat) (f:Str):D->Option D
 | .exc c fs=>if c∈cs then fs.lookup f else none
 | _=>none
end
def tXF (K:Frag) (ta:TE) (f:Str):TE:=λσ H Q=>ta σ H λx H1=>∃ a C dx fs v,x=.ref a/\H1 a=some (xO a (.ref C) (some dx))/\H1 dx=some (.xd fs)/\XGet K C/\NoAttr K C f/\fs.lookup f=some v/\Q v H1
theorem zBR {X:Cx} {e:Expr} {ta:TE} {f:Str} {pos:Pos} (he:PE X e ta) (hb:attributeBase e f X.env (eval e X.env)=eval e X.env):PE X (.Attribute e f pos) (tXF X.K ta f):=by
 intro pins s σ H Q I h;refine zoY hb (thn (he pins s σ H _ I h) λu s1 ⟨x,H1,I1,rx,a,C,dx,fs,v,ex,ea,ed,c,n,l,q⟩=>?_);subst ex;obtain rfl:u=Value.ref a:=rx;exact zvz I1 ea ed c n l λu' s2 I2 ru=>⟨v,H1,I2,ru,q⟩
section
variable {B:Bk} {ta:TE} {L:List Nat} {ma:FSt->Option D} {K:W.Frag}
theorem zBS {cs:List Nat} {f:Str} (hK:B.K=K) (hc:∀ c∈cs,XGet B.K (B.cl c)/\NoAttr B.K (B.cl c) f) (ha:FD B ta L ma):FD B (tXF K ta f) L (m1 (fXF cs f) ma):=by
 subst hK;intro S σ H F os Q z rp e k;obtain ⟨d,ed,ef⟩:=zbH e;refine ha S σ H F os _ d rp ed λv H1 F1 a1 r1 d1=>?_;cases d with
 | exc c fs=>
  have ef:(if c∈cs then fs.lookup f else none)=some z:=ef
  by_cases h:c∈cs
  ·rw [if_pos h] at ef;cases d1 with
   | @exc a dx c' vs ds' fa ga hh h2 he rr=>
    obtain ⟨v,e1,e2⟩:=(zhv he rr f).1 z ef;exact ⟨a,_,dx,vs,v,rfl,hh,h2,(hc c h).1,(hc c h).2,e1,k v H1 F1 a1 r1 e2⟩
  ·rw [if_neg h] at ef; cases ef
 | _=>cases ef
def zDd (K:W.Frag):List V->Hp->VK->Prop:=λxs H Q=>∃ a C' C dx fs b,xs=[.ref a,.ref C']/\H a=some (xO a (.ref C) (some dx))/\H dx=some (.xd fs)/\XIs K C/\W.kitOne K (.ref C) (.ref C')=some b/\Q (.bl b) H
theorem zsp {X:Cx} (hK:X.K=K):CallR X (.builtin "isinstance") (zDd K):=by
 subst hK;intro pins s σ H xs us Q I r h;obtain ⟨a,C',C,dx,fs,b,rfl,ea,ed,g,e,q⟩:=h;obtain ⟨u,c,rfl,ru,rc⟩:=Vals.two r;cases rc
 obtain rfl:u=Value.ref a:=ru;exact zyX I ea ed g e λtk=>⟨.bl b,H,I.tok tk,rfl,q⟩
def zxb (tab:Nat->Nat->Option Bool):List D->Option SV
 | [.exc c _,.cls C]=>(tab c C).map λb=>.sh (.bl b)
 | _=>none
theorem zBT {tab:Nat->Nat->Option Bool} (hK:B.K=K) (ht:∀ c C b,tab c C=some b->XIs B.K (B.cl c)/\W.kitOne B.K (.ref (B.cl c)) (.ref (B.cl C))=some b):zf4 B (zDd K) (zxb tab):=by
 subst hK;intro H G vs ds z Q hg hd e k;unfold zxb at e;split at e
 ·rw [Option.map_eq_some_iff] at e;obtain ⟨b,e1,rfl⟩:=e;obtain ⟨v,w,rfl,d1,d2⟩:=hd.two;cases d2
  cases d1 with
  | exc f g h h2 en r=>
   obtain ⟨ki,kk⟩:=ht _ _ _ e1;exact ⟨_,_,_,_,_,b,rfl,h,h2,ki,kk,k _ H G [] Al.refl ⟨rfl,.bl _⟩ (by simp)⟩
 ·cases e
structure FBX (B:Bk) (t:XK->TS) (L:List Nat) (m:FSt->Fl) (mx:FSt->Option Exc):Prop where
 ok:∀ E,FS B (t E) m
 ex:∀ (S:FSt) (σ:St) (H:Hp) (F:Addr->Prop) (os:Nat->List Addr) (En:Ends) (E:XK) (e:Exc),Rep B H F σ S os->mx S=some e->
  (∀ dx H' F',Al H F H' F'->Rep B H' F' σ S os->XD B H' (orF F' (osL os L)) dx e.2->E (.ref (B.cl e.1)) (some dx) H')->t E En σ H
theorem zy2 {t:XK->TE} {L:List Nat} {m:FSt->Option SV} {mx:FSt->Option Exc} {T:XK->TS} {ms:FSt->Fl} (hx:FEX B t L m mx) (hT:∀ E D σ H,∃ Q:VK,t E σ H Q->T E D σ H) (hs:∀ E,FS B (T E) ms):FBX B T L ms mx:=
 ⟨hs,λS σ H F os En E e r he k=>let ⟨Q,hq⟩:=hT E En σ H; hq (hx.ex S σ H F os Q E e r he k)⟩
@[simp] def zEr (c:FSt->Option Bool) (a b:FSt->Option Exc):FSt->Option Exc:=λS=>(c S).bind λx=>if x=true then a S else b S
def FH (B:Bk) (r:Ends->St->Value->Option Addr->Hp->Prop) (mh:Exc->FSt->Fl):Prop:=
 ∀ (S:FSt) (σ:St) (H:Hp) (F:Addr->Prop) (os:Nat->List Addr) (En:Ends) (e:Exc) (dx:Addr),Rep B H F σ S os->XD B H F dx e.2->Lands B σ S H F os En (mh e S)->r En σ (.ref (B.cl e.1)) (some dx) H
@[simp] def zAM (L:List Nat) (m:FSt->Fl) (mx:FSt->Option Exc) (mh:Exc->FSt->Fl):FSt->Fl:=λS=>match mx S with
 | some e=>if L.all (zpv S)=true then mh e S else .bad
 | none=>m S
theorem zvA {H:Hp} {F:Addr->Prop} {σ:St} {S:FSt} {os:Nat->List Addr} {i:Nat} (r:Rep B H F σ S os) (h:zpv S i=true):os i=[]:=by
 cases q:S[i]? with
 | none=>exact r.out i λx z=>by rw [q] at z; cases z
 | some o=>cases o with
  | none=>exact r.out i λx z=>by rw [q] at z; cases z
  | some x=>
   unfold zpv at h;rw [q] at h;cases x with
   | sh d=>obtain ⟨v,_,va⟩:=r.at' i _ q; exact va.1
   | _=>cases h
theorem zy3 {tb:XK->TS} {L:List Nat} {m:FSt->Fl} {mx:FSt->Option Exc} {r:Ends->St->Value->Option Addr->Hp->Prop} {mh:Exc->FSt->Fl} (hb:FBX B tb L m mx) (hh:FH B r mh):FS B (zDb tb r) (zAM L m mx mh):=by
 intro S σ H F os En rp h;unfold zAM at h;cases q:mx S with
 | none=>rw [q] at h; exact hb.ok _ S σ H F os En rp h
 | some e=>
  rw [q] at h;dsimp only at h
  by_cases hl:L.all (zpv S)=true
  ·rw [if_pos hl] at h;refine hb.ex S σ H F os En _ e rp q λdx H' F' a r' xd=>hh S σ H' F' os En e dx r' (xd.sub λb z=>?_) (h.later a.step);rcases z with z | ⟨i,hi,z⟩
   ·exact z
   ·have:=List.all_eq_true.mp hl i hi;exact absurd z (by rw [zvA r' this]; simp)
  ·rw [if_neg hl] at h; exact h.elim
theorem zvB:FH B (λ_ _ _ _ _=>False) (λ_ _=>.bad):=λS σ H F os En e dx r x h=>h
end
section
variable {B:Bk}
theorem zsq {H:Hp} {F:Addr->Prop} {σ:St} {S:FSt} {os:Nat->List Addr} {i:Nat} (r:Rep B H F σ S os) (nl:zeP S i=false) :
  FStep σ S H F os (σ.set i none) (S.set i none) H F (λj=>if j=i then [] else os j)/\Rep B H F (σ.set i none) (S.set i none) (λj=>if j=i then [] else os j):=by
 have ne:∀ {j:Nat} {x:SV},S[j]? = some (some x)->lkO (some x)=true->j≠i:=λ{j x} e hl z=>by
  subst z;unfold zeP at nl;rw [e] at nl;rw [show lkO (some x)=false from nl] at hl;cases hl
 refine ⟨⟨λb o h _=>h,λb h=>h,λ_ h=>h,λ_ h=>.inl h,λj b hb=>?_,λj xs hj=>?_,λj c fs hj=>?_,λj xs hj=>?_⟩,⟨λj y hj=>?_,λj hj=>?_,λj k b e1 e2=>?_,r.fd,by simp [r.len]⟩⟩
 ·have hb:b∈(if j=i then [] else os j):=hb;split at hb
  ·simp at hb
  ·exact .inr ⟨j,hb⟩
 ·have q:=ne hj rfl;exact ⟨by rw [List.getElem?_set_ne (Ne.symm q)]; exact hj,by rw [List.getElem?_set_ne (Ne.symm q)]⟩
 ·have q:=ne hj rfl;exact ⟨⟨fs,by rw [List.getElem?_set_ne (Ne.symm q)]; exact hj⟩,by rw [List.getElem?_set_ne (Ne.symm q)]⟩
 ·have q:=ne hj rfl;exact ⟨⟨xs,by rw [List.getElem?_set_ne (Ne.symm q)]; exact hj⟩,by rw [List.getElem?_set_ne (Ne.symm q)]⟩
 ·have ji:j≠i:=by
   rintro rfl;rw [List.getElem?_set,if_pos rfl] at hj;split at hj <;> cases hj
  rw [List.getElem?_set_ne (Ne.symm ji)] at hj;obtain ⟨w,h1,h2⟩:=r.at' j y hj;exact ⟨w,by rw [List.getElem?_set_ne (Ne.symm ji)]; exact h1,by rw [if_neg ji]; exact h2⟩
 ·show (if j=i then [] else os j)=[]
  by_cases q:j=i
  ·rw [if_pos q]
  ·rw [if_neg q];exact r.out j λy z=>hj y (by rw [List.getElem?_set_ne (Ne.symm q)]; exact z)
 ·have e1:b∈(if j=i then [] else os j):=e1;have e2:b∈(if k=i then [] else os k):=e2;split at e1
  ·simp at e1
  ·split at e2
   ·simp at e2
   ·exact r.inj j k b e1 e2
@[simp] def unS (i:Nat):Fl->Fl
 | .nx S=>if zeP S i=false then .nx (S.set i none) else .bad
 | .rt x=>.rt x
 | _=>.bad
@[simp] def zAN (tabx:Nat->Nat->Option Bool) (ct i:Nat) (ms:FSt->Fl) (zaL:Exc->FSt->Fl):Exc->FSt->Fl:=λe S=>match tabx e.1 ct with
 | some true=>(match put i [] (.sh (.exc e.1 e.2)) S with
  | .nx S1=>unS i (ms S1)
  | _=>.bad)
 | some false=>zaL e S
 | none=>.bad
@[simp] def zDe (tabx:Nat->Nat->Option Bool) (ct:Nat) (ms:FSt->Fl) (zaL:Exc->FSt->Fl):Exc->FSt->Fl:=λe S=>match tabx e.1 ct with
 | some true=>ms S
 | some false=>zaL e S
 | none=>.bad
theorem zBU {tabx:Nat->Nat->Option Bool} {ct i:Nat} {Ct:Addr} {K:W.Frag} {ts:TS} {ms:FSt->Fl} {r:Ends->St->Value->Option Addr->Hp->Prop} {mr:Exc->FSt->Fl} (hK:B.K=K) (hC:B.cl ct=Ct) (ht:∀ c C b,tabx c C=some b->exmOne B.K (.ref (B.cl c)) (.ref (B.cl C))=some b) (hs:FS B ts ms) (hr:FH B r mr) :
  FH B (rAs K Ct i ts r) (zAN tabx ct i ms mr):=by
 subst hK hC;intro S σ H F os En e dx rp xd h;unfold zAN at h;cases q:tabx e.1 ct with
 | none=>rw [q] at h; exact h.elim
 | some b=>
  rw [q] at h;refine ⟨b,ht _ _ _ q,?_⟩;cases b with
  | false=>rw [if_neg Bool.false_ne_true]; exact hr S σ H F os En e dx rp xd h
  | true=>
   rw [if_pos rfl];dsimp only at h;intro a ha;obtain ⟨gd,fv,h1,h2,h3⟩:=xd;have hne:dx≠a:=λz=>by rw [z,ha] at h1; cases h1
   have al:Al H F (upd H a (xO a (.ref (B.cl e.1)) (some dx))) (λb=>F b\/b=a):=zd5 ha;have da:DA B (upd H a (xO a (.ref (B.cl e.1)) (some dx))) (orF (λb=>F b\/b=a) (osL os [])) (.ref a) (.exc e.1 e.2):=.exc (.inl (.inr rfl)) (.inl (.inl gd)) zaB (by rw [zas hne]; exact h1) h2 (h3.mono (λb o _ q=>al.same b o q) λb z=>.inl (.inl z));refine ztj (B:=B) (i:=i) (L:=[]) (x:=.sh (.exc e.1 e.2)) (E:={ nx:=λσ1 H1=>ts (En.un i) σ1 H1,rt:=En.rt }) rp ?_ al (rp.mono al) ⟨rfl,da⟩ (λb z=>absurd z (by simp))
   cases p:put i [] (.sh (.exc e.1 e.2)) S with
   | nx S1=>
    rw [p] at h;intro σ' H' F' os' st r';refine hs S1 σ' H' F' os' (En.un i) r' ?_;have h':=h.later st;dsimp only at h';cases m:ms S1 with
    | nx S2=>
     rw [m] at h';have h':Lands B σ' S1 H' F' os' En (if zeP S2 i=false then .nx (S2.set i none) else .bad):=h'
     by_cases nl:zeP S2 i=false
     ·rw [if_pos nl] at h';intro σ2 H2 F2 os2 st2 r2;obtain ⟨c1,c2⟩:=zsq r2 nl;exact h' _ _ _ _ (st2.trans c1) c2
     ·rw [if_neg nl] at h'; exact h'.elim
    | rt x=>rw [m] at h'; exact h'
    | bk S2=>rw [m] at h'; exact h'.elim
    | ct S2=>rw [m] at h'; exact h'.elim
    | bad=>rw [m] at h'; exact h'.elim
   | rt x=>rw [p] at h; exact h.elim
   | bk S2=>rw [p] at h; exact h.elim
   | ct S2=>rw [p] at h; exact h.elim
   | bad=>rw [p] at h; exact h.elim
end
section
variable {ι:Type}
structure JSX (Xs:ι->Cx) (Ee:ι->XK) (B:Bk) (st:Stmt) (m:FSt->Fl3):Prop where
 ex:∃ t:XK->TS,(∀ i,PS (Xs i) st (t (Ee i)))/\FX B t m
structure JBX (Xs:ι->Cx) (Ee:ι->XK) (B:Bk) (sts:List Stmt) (m:FSt->Fl3):Prop where
 ex:∃ t:XK->TS,(∀ i,PSs (Xs i) sts (t (Ee i)))/\FX B t m
structure JR (Xs:ι->Cx) (Ee:ι->XK) (P:Program) (w:World) (K:W.Frag) (mg:Str->Option Value) (base:Heap) (k:Nat) (B:Bk):Prop where
 jx:JX Xs P w K mg base k B
 ps:∀ i,zgW (CX1 P w) (Xs i) (Ee i)
 go:∀ i v s,zvq (Xs i) (Ee i) v s->(Xs i).xe v s
variable {Xs:ι->Cx} {Ee:ι->XK} {P:Program} {w:World} {K:W.Frag} {mg:Str->Option Value} {base:Heap} {k:Nat} {B:Bk} {a b e o c:Expr} {es:List Expr} {st:Stmt} {sts ss:List Stmt} {L L' La Lb:List Nat} {ma mb md:FSt->Option D} {me:FSt->Option SV} {mx:FSt->Option Exc} {mt:FSt->Option Bool} {mr:FSt->Option (List D)} {mf mh:FSt->Fl3} {pos:Pos}
theorem ztx {m:FSt->Fl} (h:JS Xs B st m):JSX Xs Ee B st (zsh m):=let ⟨_,p,f⟩:=h.ex; ⟨⟨_,p,zyZ f⟩⟩
theorem zty {m:FSt->Fl} (h:JB Xs B sts m):JBX Xs Ee B sts (zsh m):=let ⟨_,p,f⟩:=h.ex; ⟨⟨_,p,zyZ f⟩⟩
theorem zmN (h:JSX Xs Ee B st mf):JBX Xs Ee B [st] mf:=let ⟨_,p,f⟩:=h.ex; ⟨⟨_,λi=>zoO (p i),f⟩⟩
theorem zkM (h:JSX Xs Ee B st mf) (h':JBX Xs Ee B sts mh):JBX Xs Ee B (st :: sts) (zoj mf mh):=let ⟨t,p,f⟩:=h.ex; let ⟨u,q,g⟩:=h'.ex; ⟨⟨λE=>zAD (t E) (u E),λi=>znq (p i) (q i),zy0 f g⟩⟩
theorem ztz (hc:JT Xs B c mt) (ha:JBX Xs Ee B sts mf) (hb:JBX Xs Ee B ss mh):JSX Xs Ee B (.If c sts ss pos) (zyY mt mf mh):=let ⟨_,p,f⟩:=hc.ex; let ⟨_,p',f'⟩:=ha.ex; let ⟨_,q,g⟩:=hb.ex; ⟨⟨_,λi=>zxt (p i) (p' i) (q i),zBQ f f' g⟩⟩
theorem zlL (jr:JR Xs Ee P w K mg base k B) {n cn:Nat} {x name:Str} {np cpos:Pos} {C f:Addr} (xc:XCls K C) (hi:findIn K (.ref C) "__init__"=some (some (.ref f))) (hf:isFn K (.ref f)=true) (kp:keepIn K (.ref C)=true) (hm:mg x=some (.ref C)) (ini:zAL P w K mg base n f C name) (hn:n+1<=k) (hC:B.cl cn=C)
  (ha:JD Xs B e L md) (he:∀ i,starEach [e] (Xs i).env=(false,eval e (Xs i).env) :: starEach [] (Xs i).env) (hg:∀ j,Gl (Xs j) x:=by intro _; rfl) (hpl:∀ i,(backTo cpos (starEach [] (Xs i).env)).any (·.1)=false:=by intro _; rfl) (hdb:(x==("__debug__":Str))=false:=by decide) :
  JSX Xs Ee B (.Raise (some (.Call (.Name x np) [e] [] cpos)) none pos) (zlK cn name md):=by
 obtain ⟨t,p,g⟩:=ha.ex;refine ⟨⟨λE=>zp0 E C name (zn4 t ztc),λi=>?_,zsj hC g⟩⟩;have jx:=jr.jx;have ini':zAL (Xs i).prog (Xs i).w (Xs i).K (Xs i).mg (Xs i).base n f C name:=by rw [jx.p i,jx.w' i,jx.k' i,jx.m i,jx.b i]; exact ini
 exact zse (jx.c rfl i) (jr.go i) (jx.k' i▸xc) (jx.k' i▸hi) (jx.k' i▸hf) (jx.k' i▸kp) (hg i) (jx.m i▸hm) ini' ((jx.r rfl i).mono hn) (zms (p i) zoZ (he i)) hdb (he i) (hpl i)
end
abbrev JYs (P:Program) (w:World) (K:W.Frag) (mg:Str->Option Value) (base:Heap) (N:List Str) (k:Nat) (qual:Str) (scope:Scope) (f:Addr):JIx k qual scope f->Cx:=
 λi=>zmt (CX1 P w) P w K mg base N qual scope f i.cdv i.A i.outer i.s i.H i.E
section
variable {P:Program} {w:World} {K:W.Frag} {mg:Str->Option Value} {base:Heap} {x qual:Str} {st:Stmt} {f:Addr} {fd:FuncData} {N ps:List Str} {k:Nat} {B:Bk} {m:FSt->Fl3} {scope:Scope}
theorem zy4 (hK:B.K=K):JR (JYs P w K mg base N k qual scope f) (λi=>i.E) P w K mg base k B:=
 ⟨⟨λ_=>rfl,λ_=>rfl,λ_=>rfl,λ_=>rfl,λ_=>rfl,λ_ i=>i.hr,λ_ _=>rfl,hK,λ_=>PassesOwn.leaving⟩,λ_=>zsc,λ_ _ _ g=>ztv g⟩
theorem Fun.okXJ (F:Fun K x qual st f fd) (S:FnScope N ps (zad st)) (hK:B.K=K) (h:JR (JYs P w K mg base N k qual (zad st) f) (λi=>i.E) P w K mg base k B->JBX (JYs P w K mg base N k qual (zad st) f) (λi=>i.E) B (zbc st) m) :
  FnOk P w K mg base (CX1 P w) (k+1) f fd ps (SpX B ps.length (zsl m ps.length N.length) (zsm m ps.length N.length)):=
 zDM F S λcdv A outer s H E hr=>let ⟨t,p,q⟩:=(h (zy4 hK)).ex; ⟨t,p ⟨cdv,A,outer,s,H,E,hr⟩,q⟩
end
section
variable {ι:Type}
structure JTX (Xs:ι->Cx) (B:Bk) (e:Expr) (L:List Nat) (m:FSt->Option SV) (mx:FSt->Option Exc):Prop where
 ex:∃ t:XK->TE,(∀ i pins σ E,PEx (Xs i) pins σ E e (t E))/\FEX B t L m mx
structure JTS (Xs:ι->Cx) (B:Bk) (st:Stmt) (L:List Nat) (m:FSt->Fl) (mx:FSt->Option Exc):Prop where
 ex:∃ t:XK->TS,(∀ i pins σ E,PSx (Xs i) pins σ E st (t E))/\FBX B t L m mx
structure JTB (Xs:ι->Cx) (B:Bk) (sts:List Stmt) (L:List Nat) (m:FSt->Fl) (mx:FSt->Option Exc):Prop where
 ex:∃ t:XK->TS,(∀ i pins σ E,PBx (Xs i) pins σ E sts (t E))/\FBX B t L m mx
structure JH (Xs:ι->Cx) (B:Bk) (hs:List ExceptHandler) (mh:Exc->FSt->Fl):Prop where
 ex:∃ r,(∀ i,PH (Xs i) hs r)/\FH B r mh
abbrev JM (Xs:ι->Cx):ι×Addr->Cx:=λp=>(Xs p.1).marked p.2
variable {Xs:ι->Cx} {P:Program} {w:World} {K:W.Frag} {mg:Str->Option Value} {base:Heap} {k:Nat} {B:Bk} {a b e o c:Expr} {es:List Expr} {st:Stmt} {sts ss:List Stmt} {L L' La Lb:List Nat} {ma mb md:FSt->Option D} {me:FSt->Option SV} {mx xa xb:FSt->Option Exc} {mt:FSt->Option Bool} {mr:FSt->Option (List D)} {mf mh:FSt->Fl} {pos:Pos}
theorem JX.marked (jx:JX Xs P w K mg base k B):JX (JM Xs) P w K mg base k B false:=
 ⟨λi=>jx.p i.1,λi=>jx.w' i.1,λi=>jx.k' i.1,λi=>jx.m i.1,λi=>jx.b i.1,λz=>(by cases z),λz=>(by cases z),jx.bk,λi=>PassesOwn.never⟩
theorem zsr (jx:JX Xs P w K mg base k B) {n nf:Nat} {f:Addr} {fd:FuncData} {ps:List Str} {fn:List D->Option SV} {xn:List D->Option Exc} {x:Str} {p:Pos} (F:FnOk P w K mg base (CX1 P w) n f fd ps (SpX B nf fn xn)) (hn:n<=k) (hm:mg x=some (.ref f)) (hk:W.keepIn K (.ref f)=true) (hb:Binds K fd ps [])
  (hf:∀ ds z,fn ds=some z->ds.length=nf) (hx:∀ ds z,xn ds=some z->ds.length=nf) (ha:JA Xs B (e :: es) L mr) (he:∀ i,starEach (e :: es) (Xs i).env=(false,eval e (Xs i).env) :: starEach es (Xs i).env) (hnx:∀ i,(Xs i).nox=Xs i:=by intro _; rfl) (hg:∀ j,Gl (Xs j) x:=by intro _; rfl)
  (hpl:∀ i,(backTo pos (starEach es (Xs i).env)).any (·.1)=false:=by intro _; rfl) (hdb:(x==("__debug__":Str))=false:=by decide):JTX Xs B (.Call (.Name x p) (e :: es) [] pos) L (m1 fn mr) (mX1 xn mr):=by
 obtain ⟨t,q,g⟩:=ha.ex;refine ⟨⟨_,λi pins σ E=>zsf ?_ ((jx.r rfl i).mono hn) (hg i) (jx.m i▸hm) (jx.k' i▸hk) (jx.k' i▸hb) .nil (by rw [hnx i]; exact q i) hdb (he i) (hpl i),zsk hf hx g⟩⟩;have:=jx.fn F i;rw [<- jx.p i,<- jx.w' i] at this;exact this
theorem zvC (h:JTS Xs B st L mf mx):JTB Xs B [st] L mf mx:=let ⟨_,p,f⟩:=h.ex; ⟨⟨_,λi pins σ E=>zvx (p i pins σ E),f⟩⟩
theorem zy5:JH Xs B [] (λ_ _=>.bad):=⟨⟨_,λi pins σ H s a C dx T D I xa ha hT h=>h.elim,zvB⟩⟩
theorem zBV (jx:JX Xs P w K mg base k B) (i:Nat) {ct:Nat} {Ct:Addr} {x n:Str} {np:Pos} {b₀:Stmt} {suite:List Stmt} {zaL:List ExceptHandler} {tabx:Nat->Nat->Option Bool} {ms:FSt->Fl} {mr:Exc->FSt->Fl} (hnd:∀ j,(Xs j).N.Nodup) (hm:mg x=some (.ref Ct)) (hC:B.cl ct=Ct)
  (ht:∀ c C b,tabx c C=some b->exmOne K (.ref (B.cl c)) (.ref (B.cl C))=some b) (hs:JB (JM Xs) B (b₀ :: suite) ms) (hr:JH Xs B zaL mr) (hi:∀ j,(Xs j).N[i]? = some n:=by intro _; rfl) (hx:∀ j,(Xs j).env.scope.names.lookup n=some .local:=by intro _; rfl) (hg:∀ j,Gl (Xs j) x:=by intro _; rfl) (hdb:(x==("__debug__":Str))=false:=by decide) :
  JH Xs B (.ExceptHandler (some (.Name x np)) (some n) (b₀ :: suite) pos :: zaL) (zAN tabx ct i ms mr):=by
 obtain ⟨ts,p,f⟩:=hs.ex;obtain ⟨r,q,g⟩:=hr.ex;refine ⟨⟨rAs K Ct i ts r,λj=>?_,zBU jx.bk hC (by rw [jx.bk]; exact ht) f g⟩⟩;have:=zBP (X:=Xs j) (pos:=pos) (np:=np) (hnd j) (hi j) (hx j) (hg j) (jx.m j▸hm) (λa=>p (j,a)) (q j) hdb;rw [jx.k' j] at this;exact this
theorem zDO {cm:Bool} (jx:JX Xs P w K mg base k B cm) {cs:List Nat} {f:Str} (h:JD Xs B e L ma) (hc:∀ c∈cs,XGet K (B.cl c)/\NoAttr K (B.cl c) f) (hb:∀ i,attributeBase e f (Xs i).env (eval e (Xs i).env)=eval e (Xs i).env:=by intro _; rfl):JD Xs B (.Attribute e f pos) L (m1 (fXF cs f) ma):=by
 obtain ⟨t,p,g⟩:=h.ex;refine ⟨⟨tXF K t f,λi=>?_,zBS jx.bk (by rw [jx.bk]; exact hc) g⟩⟩;have:=zBR (X:=Xs i) (pos:=pos) (p i) (hb i);rw [jx.k' i] at this;exact this
end
section
variable {ι:Type} {Xs:ι->Cx} {Ee:ι->XK} {P:Program} {w:World} {K:W.Frag} {mg:Str->Option Value} {base:Heap} {k:Nat} {B:Bk} {cm:Bool} {e o:Expr} {L La Lb:List Nat} {ma md:FSt->Option D} {me:FSt->Option SV} {mx:FSt->Option Exc} {pos:Pos}
theorem zy6 (jx:JX Xs P w K mg base k B cm) {tab:Nat->Nat->Option Bool} (ht:∀ c C b,tab c C=some b->XIs B.K (B.cl c)/\W.kitOne B.K (.ref (B.cl c)) (.ref (B.cl C))=some b):JCall Xs B (.builtin "isinstance") (zxb tab):=⟨⟨_,λi=>zsp (jx.k' i),zBT jx.bk ht⟩⟩
end
@[simp] def zEs {α:Type} (ma:FSt->Option α) (mx:FSt->Option Exc):FSt->Option Exc:=λS=>(ma S).bind λ_=>mx S
section
variable {B:Bk} {t T:XK->TE} {u U:XK->TA} {L L' La:List Nat} {mx:FSt->Option Exc} {ta:TE} {ma:FSt->Option D}
@[simp] def mXb (mx:FSt->Option Exc) (m:FSt->Fl3):FSt->Fl3:=λS=>match mx S with
 | some e=>.ex e
 | none=>m S
end
section
variable {ι:Type}
variable {Xs:ι->Cx} {Ee:ι->XK} {P:Program} {w:World} {K:W.Frag} {mg:Str->Option Value} {base:Heap} {k:Nat} {B:Bk} {a b e o c:Expr} {es:List Expr} {st:Stmt} {sts ss:List Stmt} {L L' La Lb:List Nat} {ma mb md:FSt->Option D} {me:FSt->Option SV} {mx:FSt->Option Exc} {mt:FSt->Option Bool} {mr:FSt->Option (List D)} {mf mh:FSt->Fl3} {pos:Pos}
end
section
variable {B:Bk}
theorem FBX.wk {t:XK->TS} {L L':List Nat} {m:FSt->Fl} {mx:FSt->Option Exc} (h:FBX B t L m mx) (hl:(L.all λi=>L'.contains i)=true):FBX B t L' m mx:=
 ⟨h.ok,λS σ H F os En E e r he k=>h.ex S σ H F os En E e r he λdx H' F' a r' xd=>k dx H' F' a r' (xd.sub (ze0 (λ_ h=>h) (ziP hl)))⟩
variable {ι:Type} {Xs:ι->Cx} {sts:List Stmt} {L:List Nat} {mf:FSt->Fl} {mx:FSt->Option Exc} {pos:Pos}
theorem zvD {h₀:ExceptHandler} {hs:List ExceptHandler} {mhh:Exc->FSt->Fl} (L':List Nat) (hb:JTB Xs B sts L mf mx) (hh:JH Xs B (h₀ :: hs) mhh) (hl:(L.all λi=>L'.contains i)=true:=by rfl) (hst:∀ i,(Xs i).stack=(Xs i).env :: (Xs i).outer:=by intro _; rfl) (hf:∀ i,(Xs i).env.frame=some (Xs i).env.locals:=by intro _; rfl) :
  JS Xs B (.Try sts (h₀ :: hs) [] [] pos) (zAM L' mf mx mhh):=
 let ⟨_,p,f⟩:=hb.ex; let ⟨_,q,g⟩:=hh.ex; ⟨⟨_,λi=>zyW (hst i) (hf i) (λpins σ E=>p i pins σ E) (q i),zy3 (f.wk hl) g⟩⟩
end
@[simp] def zEt:FSt->Option Exc:=λ_=>none
section
variable {B:Bk} {ι:Type} {Xs:ι->Cx} {Ee:ι->XK} {e:Expr} {L:List Nat} {me:FSt->Option SV}
end
abbrev Bd3:=FSt->Fl3
abbrev ExT:=List D->Option Exc
end L2
namespace PySem
theorem zok:typeLookup (.type "list_reverseiterator") "__len__"=pure none:=by rw [typeLookup_type,builtinLookup_eq_fast]; kernel_rfl
theorem zmO:typeLookup (.type "list_reverseiterator") "__length_hint__"=pure (some (.builtin "list_reverseiterator.__length_hint__")):=by rw [typeLookup_type,builtinLookup_eq_fast]; kernel_rfl
section
variable {prog:Program} {w:World} {A:Around} {E:Value->Shared->Prop} {s:Shared} {I l:Addr} {items:Array Value}
theorem zss {i:Int} {Q:Bool->Shared->Prop} (hit:s.heap.IsRevIter I l i) (h:Q false s):wpAny (model prog w) A (Builtin.List.listLengthHint (.ref I)) Q E s:=by
 unfold Builtin.List.listLengthHint;refine wpAny_bind (wpAny_specialOf hit.typeIs zok ?_);show wpAny _ _ (specialOf (Value.ref I) (Str.ofString "__length_hint__") >>= _) _ _ _;refine wpAny_bind (wpAny_specialOf hit.typeIs zmO ?_);generalize hid:("list_reverseiterator.__length_hint__":String)=id0
 wp_delta
 rw [show splitId id0=some ("list_reverseiterator","__length_hint__") from by subst hid; decide +kernel];subst hid;refine wpAny_bind (wpAny_isInstance (T:="list_reverseiterator") (b:=true) hit.typeIs (by rw [isSubtype_type]; kernel_rfl) ?_);refine wpAny_ite_split (λhab=>absurd hab (by decide)) (λ_=>?_);refine wpAny_ite_split (λ_=>?_) (λhab=>absurd (by decide +kernel) hab);exact wpAny_ite_split (λhab=>absurd hab (by decide +kernel)) (λ_=>wpAny_pure h)
theorem zol {R : Result -> Shared -> Prop} (hh : A.handled = none) (hne : l ≠ I) (hit : s.heap.IsRevIter I l ((items.size : Int) - 1)) (hl : s.heap.IsList l items) (hz : items.size <= sizeLine) (S : Addr) (res : Value) (c₀ : Nat) (hS : s.heap.get? S = some { cls := .type "list", data := .seq #[] c₀ }) (hSI : S ≠ I) (hSl : S ≠ l)
    (hR : ∀ h' tk acc' c', (∀ b o, b ≠ S -> b ≠ I -> s.heap.get? b = some o -> h'.get? b = some o) -> h'.get? S = some { cls := .type "list", dict := none, data := .seq acc' c', slots := #[] } ->
      ItemsOf (λi v => items[items.size - 1 - i]? = some v) acc' items.size -> R (.ok (.ret res)) { s with heap := h', toks := tk }) :
    wpAny (model prog w) A.in1 (Builtin.List.listExtendWith (.ref S) (.ref I) res)
      (λfin s' => match fin with | .done f => R (.ok f) s' | .again c' => c'.quiet = true /\ codeAny (model prog w) A c' R s') (λe s' => R (.error e) s') s := by
  have hSf : S ∉ [I, l] := by simp [hSI, hSl]
  have W := (Walks.listRev (prog := prog) (w := w) (A := A.in1) hh I l hne items).toS;unfold Builtin.List.listExtendWith;refine wpAny_bind (wpAny_typeOf hit.typeIs ?_);have h1 : Builtin.List.listSameRef (.ref S) (.ref I) = false := by simp [Builtin.List.listSameRef, hSI]
  have h2 : (Value.type "list_reverseiterator" == Value.type "list") = false := by decide
  have h3 : (Value.type "list_reverseiterator" == Value.type "tuple") = false := by decide
  simp only [h1, h2, h3, Bool.or_false, Bool.false_eq_true, if_false];refine wpAny_bind (wpAny_pyIter_revIter hit ?_);refine wpAny_bind (wpAny_holding (zss hit ?_));refine wpAny_ite_split (λhab => absurd hab (by decide +kernel)) (λ_ => ?_);refine wpAny_pure ⟨plainId_quiet F.plain_extend_loop _, ?_⟩;refine codeAny_extend_loopS W hz S hSf res items.size 0 _ #[] c₀ rfl (Nat.zero_le _) ⟨Nat.zero_le _, by simpa using hit, hl⟩ hS (ItemsOf.nil _) λs' acc' c' hm hS' hacc => ?_
  rw [Moved.eq_with hm];refine hR s'.heap s'.toks acc' c' (λb o hb hbI e => hm.heap b o (λhmem => ?_) e) hS' hacc;rcases List.mem_cons.mp hmem with e' | hmem
  · exact hb e'
  · exact hbI (List.mem_singleton.mp hmem)
theorem zkN {R : Result -> Shared -> Prop} (hh : A.handled = none) (hne : l ≠ I) (hit : s.heap.IsRevIter I l ((items.size : Int) - 1)) (hl : s.heap.IsList l items) (hz : items.size <= sizeLine) (S : Addr) (hS : s.heap.get? S = some { cls := .type "list", data := .seq #[] }) (hSI : S ≠ I) (hSl : S ≠ l)
    (hR : ∀ h' tk acc' c', (∀ b o, b ≠ S -> b ≠ I -> s.heap.get? b = some o -> h'.get? b = some o) -> h'.get? S = some { cls := .type "list", dict := none, data := .seq acc' c', slots := #[] } ->
      ItemsOf (λi v => items[items.size - 1 - i]? = some v) acc' items.size -> R (.ok (.ret .none)) { s with heap := h', toks := tk }) :
    wpAny (model prog w) A.in1 (Builtin.«list.__init__» ⟨[.ref S, .ref I], []⟩)
      (λfin s' => match fin with | .done f => R (.ok f) s' | .again c' => c'.quiet = true /\ codeAny (model prog w) A c' R s') (λe s' => R (.error e) s') s := by
  show wpAny _ _ (do let old <- Builtin.List.listItems (.ref S); Builtin.List.listUpdate (.ref S) (λ_ => #[]); letGo old.toList.reverse; Builtin.List.listExtendWith (.ref S) (.ref I) .none) _ _ s;refine wpAny_bind ?_;unfold Builtin.List.listItems;refine wpAny_bind (wpAny_seqItems hS rfl (wpAny_pure ?_));show wpAny _ _ (updateSeq S (λ_ => #[]) >>= λ_ => letGo (#[] : Array Value).toList.reverse >>= λ_ => Builtin.List.listExtendWith (.ref S) (.ref I) .none) _ _ s
  refine wpAny_bind (wpAny_updateSeq hS rfl ?_);have hS₂ := Heap.get?_update_self (Obj.mapSeq (λ_ => (#[] : Array Value))) hS rfl;have oth : ∀ b o, b ≠ S -> s.heap.get? b = some o -> (s.heap.update S (Obj.mapSeq (λ_ => (#[] : Array Value)))).get? b = some o :=
    λb o hb e => (Heap.get?_update_other _ _ (Ne.symm hb)).trans e
  refine wpAny_bind (wpAny_letGo ?_);refine zol (s := { s with heap := s.heap.update S (Obj.mapSeq (λ_ => (#[] : Array Value))) }) hh hne (hit.at λo e => oth I o (Ne.symm hSI) e) (hl.at λo e => oth l o (Ne.symm hSl) e) hz S .none _ hS₂ hSI hSl λh' tk acc' c' hk hS' hacc => ?_;exact hR h' tk acc' c' (λb o hb hbI e => hk b o hb hbI (oth b o hb e)) hS' hacc
theorem zkO {Q : Value -> Shared -> Prop} (hh : A.handled = none) (hne : l ≠ I) (hit : s.heap.IsRevIter I l ((items.size : Int) - 1)) (hl : s.heap.IsList l items) (hz : items.size <= sizeLine)
    (hQ : ∀ h' tk acc' c', (∀ b o, b ≠ I -> s.heap.get? b = some o -> h'.get? b = some o) -> h'.get? s.heap.objs.size = some { cls := .type "list", dict := none, data := .seq acc' c', slots := #[] } ->
      ItemsOf (λi v => items[items.size - 1 - i]? = some v) acc' items.size -> Q (.ref s.heap.objs.size) { s with heap := h', toks := tk }) :
    wpAny (model prog w) A (call (.type "list") [.ref I]) Q E s := by
  refine callType_codes (Q₁ := λobj s₁ => obj = .ref s.heap.objs.size /\ s₁ = { s with heap := s.heap.push { cls := .type "list", data := .seq #[] } }) F.called_list (F.typeCall_list_1 _) F.entry_list_init
    (code_list_new _ ⟨rfl, rfl⟩) λobj s₁ h₁ => ?_
  obtain ⟨rfl, rfl⟩ := h₁;have hS : (s.heap.push { cls := .type "list", data := .seq #[] }).get? s.heap.objs.size = some { cls := .type "list", data := .seq #[] } := Heap.get?_push_size _ rfl;have nI : s.heap.objs.size ≠ I := by obtain ⟨o, ho, _⟩ := id hit; exact Nat.ne_of_gt (Heap.lt_size ho)
  have nl : s.heap.objs.size ≠ l := by obtain ⟨o, ho, _⟩ := id hl; exact Nat.ne_of_gt (Heap.lt_size ho)
  refine ⟨⟨_, hS, rfl⟩, F.args_list_init_2 _ _, zkN (A := A.in1) (s := { s with heap := s.heap.push { cls := .type "list", data := .seq #[] } }) hh hne (hit.at λo e => Heap.get?_push_of_some _ e) (hl.at λo e => Heap.get?_push_of_some _ e) hz _ hS nI nl λh' tk acc' c' hk hS' hacc => ?_⟩;exact ⟨rfl, hQ h' tk acc' c' (λb o hb e => hk b o (Nat.ne_of_lt (Heap.lt_size e)) hb (Heap.get?_push_of_some _ e)) hS' hacc⟩
end
end PySem
namespace L2
open PySem PySem.Spec PyProof.Rows PySem.W
def zDf (K:W.Frag):List V->Hp->VK->Prop:=λvs H Q=>∃ a xs,vs=[.ref a]/\SqL K H a xs/\∀ l,H l=none->Q (.ref l) (upd H l (.lst xs.reverse))
section
variable {X:Cx} {a:Expr} {ta:TA} {p q pos rpos:Pos}
theorem zom (hc:X.calm=true) (hgl:Gl X "list") (hml:X.mg "list"=none) (hgr:Gl X "reversed") (hmr:X.mg "reversed"=none) (ha:PA X [a] ta) (hs:starEach [a] X.env=[(false,eval a X.env)]:=by rfl) :
  PE X (.Call (.Name "list" p) [.Call (.Name "reversed" q) [a] [] rpos] [] pos) (tCB (zDf X.K) ta):=by
 intro pins s σ H Q I h;refine wpAny_Call_Name_kw (zgV I hgl hml Boot.«list» ?_);refine PyProof.Rows.callWith_type1 ?_ zmE rfl;rw [show starEach [Expr.Call (.Name "reversed" q) [a] [] rpos] X.env=[(false,eval (.Call (.Name "reversed" q) [a] [] rpos) X.env)] from zmE];refine Calls.spliced_cons (Call_ (zgV I hgr hmr boot_reversed (PyProof.Rows.callWith_type1 (thn (ha rpos pins s σ H _ I h) λus s1 ⟨vs,H1,I1,r1,q1⟩=>?_) hs rfl)))
 obtain ⟨b,xs,e,hq,q⟩:=q1;subst e;obtain ⟨u,rfl,ru⟩:=zir r1;cases ru
 obtain ⟨its,rv,pl,hz⟩:=I1.list hq;have hlt:b < s1.heap.objs.size:=by obtain ⟨o,ho,_⟩:=id pl.isList; exact Heap.lt_size ho
 refine call_reversed_list pl.isList (Calls.spliced_nil ?_);refine zkO (l:=b) (items:=its.toArray) (s:={ s1 with heap:=s1.heap.push (revObj b ((its.toArray.size:Int)-1)) }) (I1.ok.hd hc) (Nat.ne_of_lt hlt) ⟨_,Heap.get?_push_size _ rfl,rfl,rfl⟩ (pl.isList.at λo e=>Heap.get?_push_of_some _ e) (by rw [List.size_toArray,<- rv.length]; exact hz) λh' tk acc c' kp e it=>?_;have eacc:acc.toList=its.reverse:=by
  refine List.ext_getElem? λi=>?_;have hsz:acc.size=its.length:=by simpa using it.1
  by_cases hi:i < acc.size
  ·have e1:=it.2 i acc[i] (by simp [hi]);have e2:its[its.length-1-i]? = some acc[i]:=by simpa using e1
   have:acc.toList[i]? = some acc[i]:=by simp [hi]
   rw [this,List.getElem?_reverse (by omega),e2]
  ·rw [List.getElem?_eq_none (by simp; omega),List.getElem?_eq_none (by simp; omega)]
 have k1:∀ c o,s1.heap.get? c=some o->h'.get? c=some o:=λc o e=>kp c o (Nat.ne_of_lt (Heap.lt_size e)) (Heap.get?_push_of_some _ e);have hle:s1.heap.objs.size<=(s1.heap.push (revObj b ((its.toArray.size:Int)-1))).objs.size:=by simp [Heap.size_push]
 exact ⟨.ref _,_,I1.laid (t':=tk) k1 hle (show ObjOk X.prog X.w _ h' _ (.lst xs.reverse) from ⟨by simpa using hz,acc.toList,c',by rw [eacc]; exact rv.reverse,by simpa using e⟩),rfl,q _ (I1.hok.fresh hle)⟩
end
@[simp] def fLr:List D->Option SV
 | [.int j]=>if 0<=j/\j<=4096 then some (.li ((List.range j.toNat).map λi=>D.int (i:Nat))) else none
 | _=>none
@[simp] def zvE:List D->Option SV
 | [.lst xs]=>some (.li xs.reverse)
 | [.fz xs]=>some (.li xs.reverse)
 | _=>none
section
variable {B:Bk} {K:W.Frag}
theorem DAs.rev {H:Hp} {G:Addr->Prop} {vs:List V} {ds:List D} (h:DAs B H G vs ds):DAs B H G vs.reverse ds.reverse:=by
 have app:∀ {a:List V} {b:List D} {c:List V} {d:List D},DAs B H G a b->DAs B H G c d->DAs B H G (a++c) (b++d):=λ{a b c d} x y=>by
  induction a generalizing b with
  | nil=>cases x; exact y
  | cons u us ih=>cases x with | cons r t=>exact .cons r (ih t)
 induction vs generalizing ds with
 | nil=>cases h; exact .nil
 | cons u us ih=>
  cases h with
  | cons r t=>rw [List.reverse_cons,List.reverse_cons]; exact app (ih t) (.cons r .nil)
theorem zBW (hK:B.K=K):zf4 B (zDf K) zvE:=by
 subst hK;intro H G vs ds z Q hg hd e k;unfold zvE at e;split at e
 ·cases e
  obtain ⟨v,rfl,d1⟩:=hd.one;cases d1 with
  | lst h r=>exact ⟨_,_,rfl,h.sq,λp hp=>ze2 hg hp r.rev k⟩
 ·cases e
  obtain ⟨v,rfl,d1⟩:=hd.one;cases d1 with
  | fz h r=>exact ⟨_,_,rfl,h.sq,λp hp=>ze2 hg hp r.rev k⟩
 ·cases e
end
section
variable {ι:Type} {Xs:ι->Cx} {P:Program} {w:World} {K:W.Frag} {mg:Str->Option Value} {base:Heap} {k:Nat} {B:Bk} {a:Expr} {L:List Nat} {mr:FSt->Option (List D)} {p q pos rpos:Pos}
theorem zp4 (jx:JX Xs P w K mg base k B) (hl:mg "list"=none) (hr:mg "reversed"=none) (ha:JA Xs B [a] L mr) (hs:∀ i,starEach [a] (Xs i).env=[(false,eval a (Xs i).env)]) (hgl:∀ j,Gl (Xs j) "list":=by intro _; rfl) (hgr:∀ j,Gl (Xs j) "reversed":=by intro _; rfl) :
  JE Xs B (.Call (.Name "list" p) [.Call (.Name "reversed" q) [a] [] rpos] [] pos) L (m1 zvE mr):=
 let ⟨_,g,f⟩:=ha.ex; ⟨⟨_,λi=>by have:=zom (X:=Xs i) (p:=p) (q:=q) (pos:=pos) (rpos:=rpos) (jx.c rfl i) (hgl i) (jx.m i▸hl) (hgr i) (jx.m i▸hr) (g i) (hs i); rw [jx.k' i] at this; exact this,zu2 (zBW jx.bk) f⟩⟩
end
open PySem.Calls
section
variable {n:Nat} {p:Array Nat}
end
section
variable {prog:Program} {w:World} {A:Around} {E:Value->Shared->Prop} {s:Shared}
end
@[simp] def zvF:List D->Option (List (Int×Int))
 | []=>some []
 | .tup [.int i,.int j] :: r=>(zvF r).map λps=>(i,j) :: ps
 | _=>none
section
variable {B:Bk} {K:W.Frag}
end
section
variable {ι:Type} {Xs:ι->Cx} {P:Program} {w:World} {K:W.Frag} {mg:Str->Option Value} {base:Heap} {k:Nat} {B:Bk} {cm:Bool}
end
open Builtin.Str
def ztA:V->List V->Hp->VK->Prop:=λx vs H Q=>∃ z y,x=.str z/\vs=[.str y]/\(y.length==0)=false/\z.length<=100000/\∀ l,H l=none->Q (.ref l) (upd H l (.lst ((Txt.split z y).map V.str)))
theorem ziR:∀ l:List (Str×Tok),Vals ((l.map (·.1)).map V.str) (strValues l)
 | []=>.nil
 | p :: l=>.cons ⟨p.2,rfl⟩ (ziR l)
theorem zst {X:Cx}:MtR X "str.split" ztA:=by
 intro pins s σ H x xs v us Q I rx rs h;obtain ⟨z,y,rfl,rfl,hy,hz,q⟩:=h;obtain ⟨t,rfl⟩:=rx;obtain ⟨u0,rfl,ru⟩:=Vals.one rs;obtain ⟨u,rfl⟩:=ru;have hle:=split_le z y;have fin:∀ (l:List (Str×Tok)) (k:Nat),l.map (·.1)=Txt.split z y->EP X pins σ Q (.ref s.heap.objs.size) { s with toks:=k,heap:=s.heap.push { cls:=.type "list",data:=.seq (strValues l).toArray } }:=λl k e=>by
  have v:=ziR l;rw [e] at v;exact ⟨.ref _,_,I.laid (t':=k) (λb o e=>Heap.get?_push_of_some _ e) (Nat.le_refl _) (show ObjOk X.prog X.w _ _ _ (.lst ((Txt.split z y).map V.str)) from ⟨by rw [List.length_map,sizeLine_eq]; omega,strValues l,0,v,Heap.get?_push_size _ rfl⟩),rfl,q _ (I.hok.fresh (Nat.le_refl _))⟩
 have hx:z.length<=sizeLine:=by rw [sizeLine_eq]; omega
 cases h1:(decide (z.length < y.length)||decide (strKind z < strKind y))
 ·cases hf:(occurrences z y 0 z.length (z.length+1)).isEmpty
  ·have e:Txt.split z y=partsBetween z (occurrences z y 0 z.length (z.length+1)) y.length:=(if_neg (ne_true_of_eq_false h1)).trans (if_neg (ne_true_of_eq_false hf));refine call_meets PySem.F.slot_str_split (typeIs_str _ _ _) PySem.F.entry_str_split (PySem.F.args_str_split_2 _ _) (meets_str_split_sep z y t u h1 hy hf hx (by rw [<- e,sizeLine_eq]; omega)) ?_;show wants _ _ _ { s with toks:=_,heap:=s.heap.push { cls:=.type "list",data:=.seq (strsFrom s.toks (partsBetween z (occurrences z y 0 z.length (z.length+1)) y.length)).toArray } }
   rw [strsFrom_eq];exact fin (numbered s.toks _) _ ((numbered_texts _ _).trans e.symm)
  ·exact call_meets PySem.F.slot_str_split (typeIs_str _ _ _) PySem.F.entry_str_split (PySem.F.args_str_split_2 _ _) (meets_str_split_not_found z y t u h1 hy hf) (fin [(z,t)] s.toks ((if_neg (ne_true_of_eq_false h1)).trans (if_pos hf)).symm)
 ·exact call_meets PySem.F.slot_str_split (typeIs_str _ _ _) PySem.F.entry_str_split (PySem.F.args_str_split_2 _ _) (meets_str_split_cannot_occur z y t u h1) (fin [(z,t)] s.toks (if_pos h1).symm)
@[simp] def zbB:D->List D->Option SV
 | .str z,[.str y]=>if (y.length==0)=false/\z.length<=100000 then some (.li ((Txt.split z y).map D.str)) else none
 | _,_=>none
section
variable {B:Bk} {K:W.Frag}
theorem zmP {H:Hp} {G:Addr->Prop}:∀ zs:List Str,DAs B H G (zs.map V.str) (zs.map D.str)
 | []=>.nil
 | z :: zs=>.cons (.str z) (zmP zs)
theorem zvG:MtT B K "str" zbB:=by
 intro H G x dx ds z d e;cases d with
 | str x=>rfl
 | _=>cases e
theorem zp5:MtE B K "str" ztA zbB:=by
 intro H G x vs dx ds z Q hg d d2 e k;unfold zbB at e;split at e
 ·split at e
  ·rename_i hh
   cases e
   obtain ⟨v,rfl,d3⟩:=d2.one;cases d
   cases d3
   exact ⟨_,_,rfl,rfl,hh.1,hh.2,λp hp=>ze2 hg hp (zmP _) k⟩
  ·cases e
 ·cases e
end
section
variable {ι:Type} {Xs:ι->Cx} {B:Bk} {K:W.Frag}
theorem zg2:JMt Xs B K "str" "split" zbB:=⟨⟨_,_,PySem.F.plainAttrs_str,PySem.F.slot_str_split,PySem.F.type_str_split,λ_=>zst,zvG,zp5⟩⟩
end
theorem zBX {B:Bk} {a:Addr} {zs:List Str} (h:KnT B.K a (zs.map V.str)):FD B (tC (.ref a)) [] (mC (.kt (zs.map D.str))):=zCM λ_ _=>.kt h (zmP zs)
section
variable {ι:Type} {Xs:ι->Cx} {P:Program} {w:World} {K:W.Frag} {mg:Str->Option Value} {base:Heap} {k:Nat} {B:Bk} {cm:Bool} {pos:Pos}
theorem zBY (jx:JX Xs P w K mg base k B cm) {x:Str} {a:Addr} {zs:List Str} (h:mg x=some (.ref a)) (hk:KnT K a (zs.map V.str)) (hg:∀ j,Gl (Xs j) x:=by intro _; rfl) (hd:(x==("__debug__":Str))=false:=by decide):JD Xs B (.Name x pos) [] (mC (.kt (zs.map D.str))):=
 ⟨⟨_,λj=>zmq (v:=.ref a) (hg j) (jx.m j▸h) rfl hd,zBX (by rw [jx.bk]; exact hk)⟩⟩
end
theorem knt_mk {K:W.Frag} {a:Addr} {od:Option Addr} {n:Nat} {sl:Array (Option Value)} (l:List (Str×Tok)) (h:K.lookup a=some ⟨.type "tuple",od,.seq (strValues l).toArray n,sl⟩) (hl:l.length<=1000):KnT K a ((l.map (·.1)).map V.str):=by
 refine ⟨_,(strValues l).toArray,n,h,rfl,rfl,?_,by simpa using ziR l⟩;rw [List.size_toArray,sizeLine_eq];have:(strValues l).length=l.length:=by simp [strValues]
 omega
@[simp] def zdf (f f':D->D->Option D) (ma mb mc:FSt->Option D):FSt->Option D:=λS=>(ma S).bind λx=>(mb S).bind λy=>(f x y).bind λd=>match d with
 | .bl true=>(mc S).bind λz=>f' y z
 | .bl false=>some (.bl false)
 | _=>none
theorem znA {B:Bk} {r r':R2} {f f':D->D->Option D} {ta tb tc:TE} {La Lb Lc:List Nat} {ma mb mc:FSt->Option D} (ho:OpD B r f) (ho':OpD B r' f') (ha:FD B ta La ma) (hb:FD B tb Lb mb) (hc:FD B tc Lc mc):FD B (zoV r r' ta tb tc) (La++Lb++Lc) (zdf f f' ma mb mc):=by
 intro S σ H F os Q z rp e k;obtain ⟨x,y,ex,ey,e⟩:=zjx e;obtain ⟨d,ed,e⟩:=zbH e;refine ha S σ H F os _ x rp ex λv H1 F1 a1 r1 d1=>hb S σ H1 F1 os _ y r1 ey λu H2 F2 a2 r2 d2=>?_;have d1':DA B H2 (orF F2 (osL os (La++Lb))) v x:=d1.later a2 λi h=>List.mem_append_left _ h;have d2':DA B H2 (orF F2 (osL os (La++Lb))) u y:=d2.later Al.refl λi h=>List.mem_append_right _ h;refine ho H2 _ v u x y d _ d1' d2' ed λq H3 G3 a3 dq=>?_
 obtain ⟨F3,al3,r3,s3,_⟩:=r2.split a3;have a123:=(a1.trans a2).trans al3;cases d with
 | bl b=>
  cases dq
  refine ⟨b,rfl,?_⟩;cases b with
  | false=>
   rw [if_neg Bool.false_ne_true];cases e
   exact k _ H3 F3 a123 r3 (.bl false)
  | true=>
   rw [if_pos rfl];obtain ⟨zc,ez,ef⟩:=zbH e;refine hc S σ H3 F3 os _ zc r3 ez λw H4 F4 a4 r4 d4=>?_;have d2'':DA B H4 (orF F4 (osL os (La++Lb++Lc))) u y:=(d2'.later al3 λi h=>h).later a4 λi h=>List.mem_append_left _ h;have d4':DA B H4 (orF F4 (osL os (La++Lb++Lc))) w zc:=d4.later Al.refl λi h=>List.mem_append_right _ h;refine ho' H4 _ u w y zc z Q d2'' d4' ef λu' H5 G5 a5 dz=>?_;obtain ⟨F5,al5,r5,s5,_⟩:=r4.split a5
   exact k u' H5 F5 ((a123.trans a4).trans al5) r5 (dz.mono (λ_ _ _ e=>e) s5)
 | _=>cases e
section
variable {ι:Type} {Xs:ι->Cx} {B:Bk} {a b c:Expr} {La Lb Lc:List Nat} {ma mb mc:FSt->Option D} {pos:Pos}
theorem zvH {op op':CmpOp} {f f':D->D->Option D} (h1:JCmp Xs B op f) (h2:JCmp Xs B op' f') (ha:JD Xs B a La ma) (hb:JD Xs B b Lb mb) (hc:JD Xs B c Lc mc) (hm:lastMarks [op,op'] [b,c]=false:=by with_unfolding_all rfl):JD Xs B (.Compare a [op,op'] [b,c] pos) (La++Lb++Lc) (zdf f f' ma mb mc):=
 let ⟨_,o1,f1⟩:=h1.ex; let ⟨_,o2,f2⟩:=h2.ex; let ⟨_,pa,fa⟩:=ha.ex; let ⟨_,pb,fb⟩:=hb.ex; let ⟨_,pc,fc⟩:=hc.ex
 ⟨⟨_,λi=>zrz (o1 i) (o2 i) (pa i) (pb i) (pc i) hm,znA f1 f2 fa fb fc⟩⟩
end
section
variable {ι:Type} {Xs:ι->Cx} {B:Bk} {e:Expr} {L L':List Nat} {me:FSt->Option SV} {mx:FSt->Option Exc} {pos:Pos}
theorem zsu (i:Nat) {x:Str} {p1:Pos} (hnd:∀ j,(Xs j).N.Nodup) (hx:∀ j,Loc (Xs j).env.scope x) (he:JTX Xs B e L me mx) (hl:(L.all λi=>L'.contains i)=true:=by rfl) (hi:∀ j,(Xs j).N[i]? = some x:=by intro _; rfl) (hs:∀ j,swapsWith e (some (.Name x p1)) pos.line (Xs j).env=pure false:=by intro _; rfl)
  (hf:∀ j,(Xs j).fn x=true\/(Xs j).env.scope.names.lookup x=some .local:=by intro _; first | exact .inl rfl | exact .inr rfl):JTS Xs B (.Assign [.Name x p1] e pos) L' (zcU i L' me) mx:=
 let ⟨t,p,f⟩:=he.ex; ⟨⟨λE=>zuk (t E) (zmr i),λj pins σ E=>zvw (hnd j) (hi j) (hx j) (p j pins σ E) (hs j) (hf j),(zy2 f (λE D σ H=>⟨_,λh=>h⟩) λE=>zpJ L' (f.ok E) hl).wk hl⟩⟩
end
theorem zy7 {X:Cx}:OpR X (compareOp .LtE) (λx y H Q=>∃ i j,x=.str i/\y=.str j/\Q (.bl (!decide (j.cps.toList < i.cps.toList))) H):=by
 intro pins s σ H x y v u Q I rx ry h;obtain ⟨i,j,rfl,rfl,q⟩:=h;obtain ⟨t,rfl⟩:=rx;obtain ⟨t',rfl⟩:=ry;exact P.le_str ⟨.bl _,H,I,rfl,q⟩
@[simp] def znB:D->D->Option D
 | .str a,.str b=>some (.bl (!decide (b.cps.toList < a.cps.toList)))
 | _,_=>none
theorem zy8 {B:Bk}:OpD B (λx y H Q=>∃ i j,x=.str i/\y=.str j/\Q (.bl (!decide (j.cps.toList < i.cps.toList))) H) znB:=by
 intro H G x y dx dy z Q hx hy e k;unfold znB at e;split at e
 ·cases e; cases hx; cases hy
  exact ⟨_,_,rfl,rfl,k _ H G Al.refl (.bl _)⟩
 ·cases e
@[simp] def zkP:List D->Option SV
 | [.str x]=>if x.length<=640 then (PySem.intText? x).map λn=>.sh (.int n) else none
 | ds=>zyy ds
def zy9:List V->Hp->VK->Prop:=λxs H Q=>((∃ i,xs=[.int i]/\Q (.int i) H)\/∃ k,xs=[.bl k]/\Q (.int (if k then 1 else 0)) H)\/∃ x n,xs=[.str x]/\x.length<=640/\PySem.intText? x=some n/\Q (.int n) H
theorem zp6 {X:Cx}:CallR X (.type "int") zy9:=by
 intro pins s σ H xs us Q I r h;rcases h with h | ⟨x,n,rfl,hl,hn,q⟩
 ·exact zli pins s σ H xs us Q I r h
 ·obtain ⟨u,rfl,t,rfl⟩:=Vals.one r;exact KIN.call_text hn hl ⟨.int n,H,I.tok _,⟨_,rfl⟩,q⟩
theorem zza {B:Bk}:zf4 B zy9 zkP:=by
 intro H G vs ds z Q hg hd e k;unfold zkP at e;split at e
 ·split at e
  ·rename_i hl
   rw [Option.map_eq_some_iff] at e;obtain ⟨n,en,rfl⟩:=e;obtain ⟨v,rfl,d1⟩:=hd.one;cases d1
   exact .inr ⟨_,n,rfl,hl,en,k _ H G [] Al.refl ⟨rfl,.int _⟩ (by simp)⟩
  ·cases e
 ·exact .inl (zyz H G vs _ z Q hg hd e k)
def zAO (lo c:Int) (n:Nat):It:=⟨λi _=>i < n,λi H x H'=>H'=H/\x=.int (lo+i*c),λi _=>n<=i⟩
theorem zmQ {P:Program} {w:World} {K:W.Frag} {tg:Expr} (it:Addr) (lo c:Int) (n:Nat):Turn P w K tg (zAO lo c n) [it] it (λi h=>IsRangeIter h it (lo+(i:Nat)*c) ((n:Int)-(i:Nat)) c) where
 mem:=by simp
 obj:=λi h st b hb=>by
  have e:b=it:=by simpa using hb
  subst e;exact ⟨_,st,λv z=>by
   have z':Data.fields _=Data.cell v:=z;cases z'⟩
 keep:=λi h h' st k=>k it (by simp) _ st
 item:=by
  intro X hP hw hK hc i pins s σ H E I hf st hg;subst hP hw hK;obtain ⟨f0,f1,f2,f3,f4,f5⟩:=hf it (by simp);have W:=Walks.range (prog:=X.prog) (w:=X.w) (I.ok.hd hc) it lo c n;refine W.item i s _ _ hg st λv h' tk hv st' kk=>?_;obtain ⟨t,rfl⟩:=hv;have I1:Inv X pins σ H { s with heap:=h',toks:=tk }:=I.turned (λb o hb e=>kk b o (by simpa using hb) e) f0 f1 f3 f4 f5;exact ⟨_,rfl,zoP (s:={ s with heap:=h',toks:=tk }) (n:="range_iterator") st' rfl rfl (by decide) ⟨.int (lo+i*c),H,I1,⟨t,rfl⟩,⟨rfl,rfl⟩,st',λb hb=>(hf b hb).1⟩⟩
 done:=by
  intro X hP hw hK hc i pins s σ H E I hf st hg;subst hP hw hK;obtain ⟨f0,f1,f2,f3,f4,f5⟩:=hf it (by simp);exact wpAny_pyNext_range_end (I.ok.hd hc) st (by have:n<=i:=hg; omega) λh' eb=>⟨rfl,I.turned (t':=s.toks) (λb o hb e=>eb b o hb e) f0 f1 f3 f4 f5⟩
 self:=λ_ _ _ _ _ st h=>wpAny_pyIter_rangeiter st h
def zhz (i j c:Int):Nat:=if i < j then ((j-i-1) / c+1).toNat else 0
def ok3 (i j c:Int):Prop:=-100000<=i/\i < 100000/\-100000<=j/\j < 100000/\0 < c/\c < 100000
theorem zzb {i j c:Int} (h:ok3 i j c):Builtin.Range.rangeSize i j c=(zhz i j c:Nat)/\Builtin.Range.small i j c=true:=by
 obtain ⟨h1,h2,h3,h4,h5,h6⟩:=h;have e:Builtin.Range.rangeSize i j c=(zhz i j c:Nat):=by
  unfold Builtin.Range.rangeSize zhz;rw [if_pos h5];split
  ·have:0<=(j-i-1) / c:=Int.ediv_nonneg (by omega) (by omega);omega
  ·rfl
 refine ⟨e,?_⟩;have hb:(zhz i j c:Int)<=200001:=by
  unfold zhz;split
  ·have h7:(j-i-1) / c<=j-i-1:=Int.ediv_le_self _ (by omega);have:0<=(j-i-1) / c:=Int.ediv_nonneg (by omega) (by omega);omega
  ·exact (by decide:((0:Nat):Int)<=200001)
 unfold Builtin.Range.small;rw [e];simp only [Builtin.Range.rangeFitsLong,Bool.and_eq_true,Bool.or_eq_true,decide_eq_true_eq,beq_iff_eq,if_pos h5];omega
def zzc (ta:TA):TI:=λσ H R=>ta σ H λvs H1=>∃ i j c:Int,vs=[.int i,.int j,.int c]/\ok3 i j c/\R (zAO i c (zhz i j c)) H1
section
variable {X:Cx} {tg:Expr}
theorem zp7 {pins:List (Addr×Obj)} {σ:St} {H:Hp} {s:Shared} {R:It->Hp->Prop} {E:Value->Shared->Prop} {lo hi c:Int} {t u v:Tok} {tk:Nat} (I:Inv X pins σ H s) (h:ok3 lo hi c)
  (q:R (zAO lo c (zhz lo hi c)) H):wpAny (model X.prog X.w) X.A (pyIter (.ref s.heap.objs.size)) (PIE X pins σ tg R) E { s with heap:=s.heap.push { cls:=.type "range",data:=.fields #[.int lo t,.int hi u,.int c v] },toks:=tk }:=by
 refine wpAny_pyIter_range (IsRange.new ..) (zzb h).2 ?_;have I1:Inv X pins σ H { s with heap:=s.heap.push { cls:=.type "range",data:=.fields #[.int lo t,.int hi u,.int c v] },toks:=tk }:=I.kept λb o e=>Heap.get?_push_of_some _ e;refine ⟨(s.heap.push { cls:=.type "range",data:=.fields #[.int lo t,.int hi u,.int c v] }).objs.size,[(s.heap.push { cls:=.type "range",data:=.fields #[.int lo t,.int hi u,.int c v] }).objs.size],_,_,H,rfl,
  I1.kept (t':=tk) λb o e=>Heap.get?_push_of_some _ e,zmQ _ lo c (zhz lo hi c),?_,λb hb=>?_,q⟩
 ·have e1:lo+((0:Nat):Int)*c=lo:=by simp
  have e2:((zhz lo hi c:Nat):Int)-((0:Nat):Int)=Builtin.Range.rangeSize lo hi c:=by rw [(zzb h).1]; omega
  show IsRangeIter _ _ (lo+((0:Nat):Int)*c) (((zhz lo hi c:Nat):Int)-((0:Nat):Int)) c;rw [e1,e2];exact Heap.get?_push_size _ rfl
 ·have e:b=(s.heap.push { cls:=.type "range",data:=.fields #[.int lo t,.int hi u,.int c v] }).objs.size:=by simpa using hb
  subst e;exact I1.fpOk (Nat.le_refl _) (I1.hok.fresh (Nat.le_refl _))
theorem zp8 {a b d:Expr} {ta:TA} {p pos:Pos} (hg:Gl X "range") (hm:X.mg "range"=none) (ha:PA X [a,b,d] ta) (hs:starEach [a,b,d] X.env=[(false,eval a X.env),(false,eval b X.env),(false,eval d X.env)]:=by rfl) (hs2:starEach [b,d] X.env=[(false,eval b X.env),(false,eval d X.env)]:=by rfl) :
  PI X tg (.Call (.Name "range" p) [a,b,d] [] pos) (zzc ta):=by
 intro pins s σ H R I h;refine Call_ (zgV I hg hm boot_range (PyProof.Rows.callWith_type1 (thn (ha pos pins s σ H _ I h) λus s1 ⟨vs,H1,I1,r1,q1⟩=>?_) (by rw [hs,hs2]) (by rw [hs2]; rfl)));obtain ⟨i,j,c,e,hk,q⟩:=q1;subst e;cases r1 with
 | cons r rr=>
  cases rr with
  | cons r' rr=>
   cases rr with
   | cons r'' rr=>
    cases rr
    obtain ⟨t,rfl⟩:=r;obtain ⟨t',rfl⟩:=r';obtain ⟨t'',rfl⟩:=r'';obtain ⟨h1,h2,h3,h4,h5,h6⟩:=id hk;exact call_range_3 (by omega) (zp7 I1 hk q) (.inl (PyProof.noPylong_small (by omega)))
end
def zmR (lo c:Int) (n:Nat):List D:=(List.range n).map λ(k:Nat)=>.int (lo+k*c)
instance {i j c:Int}:Decidable (ok3 i j c):=by unfold ok3; infer_instance
@[simp] def mR3 (mr:FSt->Option (List D)):FSt->Option (List D):=λS=>(mr S).bind λds=>match ds with
 | [.int i,.int j,.int c]=>if ok3 i j c then some (zmR i c (zhz i j c)) else none
 | _=>none
section
variable {B:Bk} {tr:TA} {L:List Nat} {mr:FSt->Option (List D)}
theorem zon {H:Hp} {F:Addr->Prop} (lo c:Int) (n:Nat):Walks B (zAO lo c n) H F (zmR lo c n):=by
 intro H2 F2 k up;refine ⟨λi d e=>?_,λi hi=>by
  have hi:n<=i:=by simpa [zmR] using hi
  exact hi⟩
 have hi:i < n:=by have:=(List.getElem?_eq_some_iff.mp e).1; simpa [zmR] using this
 have:(zmR lo c n)[i]? = some (.int (lo+i*c)):=by simp [zmR,hi]
 rw [this] at e; cases e
 exact ⟨hi,λx H3 y=>by obtain ⟨rfl,rfl⟩:=y; exact ⟨F2,Al.refl,.int _⟩⟩
theorem zvI (hr:FA B tr L mr):FI B (zzc tr) (mR3 mr):=by
 intro S σ H F os R its r e k;obtain ⟨ds,ed,ef⟩:=zbH e;refine hr S σ H F os _ ds r ed λvs H' F' a r' da=>?_;split at ef
 ·split at ef
  ·rename_i hk
   cases ef
   cases da with
   | cons d1 da=>cases da with
    | cons d2 da=>cases da with
     | cons d3 da=>
      cases da; cases d1; cases d2; cases d3
      exact ⟨_,_,_,rfl,hk,k _ H' F' a r' (zon _ _ _)⟩
  ·cases ef
 ·cases ef
end
section
variable {ι:Type} {cm:Bool} {Xs:ι->Cx} {P:Program} {w:World} {K:W.Frag} {mg:Str->Option Value} {base:Heap} {k:Nat} {B:Bk} {a b d:Expr} {L:List Nat} {mr:FSt->Option (List D)} {pos:Pos}
theorem zzd:JCmp Xs B .LtE znB:=⟨⟨_,λ_=>zy7,zy8⟩⟩
theorem ztB:JCall Xs B (.type "int") zkP:=⟨⟨_,λ_=>zp6,zza⟩⟩
theorem zvJ (jx:JX Xs P w K mg base k B cm) {tg:Expr} {p:Pos} (hm:mg "range"=none) (ha:JA Xs B [a,b,d] L mr) (hs:∀ i,starEach [a,b,d] (Xs i).env=[(false,eval a (Xs i).env),(false,eval b (Xs i).env),(false,eval d (Xs i).env)]:=by intro _; rfl) (hs2:∀ i,starEach [b,d] (Xs i).env=[(false,eval b (Xs i).env),(false,eval d (Xs i).env)]:=by intro _; rfl) (hg:∀ i,Gl (Xs i) "range":=by intro _; rfl):JI Xs B tg (.Call (.Name "range" p) [a,b,d] [] pos) (mR3 mr):=let ⟨_,q,f⟩:=ha.ex; ⟨⟨_,λi=>zp8 (hg i) (jx.m i▸hm) (q i) (hs i) (hs2 i),zvI f⟩⟩
end
structure KEq (K:Frag) (C:Addr):Prop where
 eq:findIn K (.ref C) "__eq__"=some (some (.builtin "object.__eq__"))
 ob:mroIn K C (.type "object")=some true
theorem zvK (K:Frag) (C:Addr):subIn K (.type "NoneType") (.ref C)=some false:=by
 have e:fastBuiltinMro "NoneType"=some [.type "NoneType",.type "object"]:=by kernel_rfl
 show (fastBuiltinMro "NoneType").map (·.contains (.ref C))=some false;rw [e];rfl
section
variable {prog:Program} {w:World} {A:Around} {E:Value->Shared->Prop} {s:Shared} {K:Frag} {x C:Addr} {ox:Obj} {od:Option Obj}
theorem zkQ {Q:Option Value->Shared->Prop} (X:K.In s.heap) (I:InstAt s.heap x ox C od) (c:KEq K C) (h:Q none s):wpAny (model prog w) A (tryCompare (.ref x) "__eq__" .none) Q E s:=by
 have L0:=I.type (M:=model prog w);have FB:=PySem.F.cmp_object;have hi:Looks (model prog w) s.heap (isInstance (.ref x) (.type "object")) true:=L0.andThen (looks_mroIn X c.ob);have cl:wpAny (model prog w) A (call (.builtin "object.__eq__") [.ref x,.none]) (λv s'=>v=.notImplemented/\Q none s') E s:=by
  refine wpAny_call (codeAny_call_builtin FB.eq.plain PySem.F.cmpEntry_eq (@check_slot (model prog w) _ _ s "object.__eq__" "object" "__eq__" (.ref x) [.none] [] _ PySem.F.cmpKind_eq PySem.F.cmpSplit_eq hi (PySem.F.cmpArgs_eq (.ref x) .none) ?_));obtain ⟨hp,g,d,t,os⟩:=s;unfold Builtin.«object.__eq__»
  repeat (first | with_reducible refine wpAny_of_eq (rfl:isSame (.ref x) .none=pure false) ?_ | wp_step)
  exact ⟨rfl,h⟩
 unfold tryCompare;refine wpAny_bind ?_;simp only [callSpecialIfBound?,bindSpecialIfBound?];refine wpAny_holding (wpAny_bind (wpAny_bind (wpAny_bind (L0.here ((looks_findIn X c.eq).here ?_)))));refine wpAny_bind (wpAny_askSetting (wpAny_ite ?_));have fin:wpAny (model prog w) A (call (.builtin "object.__eq__") ([.ref x]++[.none]) >>= λv=>pure (some v)) (λr s'=>wpAny (model prog w) A (match r with
   | some .notImplemented=>pure none
   | none=>pure none
   | some v=>pure (some v)) Q E s') E s:=wpAny_bind (wpAny_mono cl (λv s' h'=>by
  obtain ⟨rfl,q⟩:=h';exact wpAny_pure (wpAny_pure q)) λ_ _ h'=>h')
 rw [FB.eq.bind (.ref x)];split
 ·exact wpAny_bind (wpAny_pure (wpAny_pure fin))
 ·exact wpAny_tryCatch (wpAny_bind (wpAny_pure (wpAny_pure fin)))
theorem zlM {Q:Value->Shared->Prop} (hu:A.units < cLine) (X:K.In s.heap) (I:InstAt s.heap x ox C od) (c:KEq K C) (h:Q (.bool false) s):wpAny (model prog w) A (richCompare .Eq (.ref x) .none) Q E s:=by
 unfold richCompare;simp only [oneThing_ref,cmpInfo_Eq];refine wpAny_holding (wpAny_bind (wpAny_cRoomFor hu ?_));refine wpAny_bind (I.type.here (wpAny_bind (wpAny_typeOf (typeIs_none s) ?_)));rw [if_pos (by rfl)];refine wpAny_bind ((looks_subIn X (zvK K C)).here ?_);simp only [Bool.false_eq_true,if_false,Bool.not_false,if_true];refine wpAny_bind (zkQ X I c ?_);refine wpAny_bind (wpAny_tryCompare_declines (typeIs_none s) PySem.F.slot_NoneType_eq (call_gives PySem.F.slot_NoneType_eq rfl PySem.F.entry_NoneType_eq (PySem.F.args_NoneType_eq_2 _ _) (SeqAt.NoneType___eq___none_ref_0 x) ⟨rfl,?_⟩))
 exact wpAny_bind (wpAny_rule (wpAny_bind (wpAny_of_eq (rfl:isSame (.ref x) .none=pure false) (wpAny_pure h))))
end
theorem zjB {A:Around} {s:Shared} {K:Frag} {x C:Addr} {ox:Obj} {od:Option Obj} (hu:A.units < cLine) (X:K.In s.heap) (I:InstAt s.heap x ox C od) (c:KEq K C):SeqAt.EqAt A s (.ref x) .none false:=λprog w E Q h=>by
 unfold eqBool;refine wpAny_holding ?_;refine wpAny_ite_split (λhab=>absurd (eq_of_beq hab) nofun) (λ_=>?_);exact wpAny_bind (zlM hu X I c (wpAny_truthy_bool h))
def zDg (K:Frag):R2:=λx y H Q=>∃ a xs,x=.non/\y=.ref a/\SqL K H a xs/\(∀ v∈xs,v=.non\/∃ b C dx fs,v=.ref b/\H b=some (.ins C dx fs)/\KEq K C)/\Q (.bl (xs.any λv=>decide (v=.non))) H
theorem zvL {x:V} {u:Value} (r:RelV x u):(u==.none)=decide (x=.non):=by
 cases x with
 | non=>cases r; rfl
 | bl b=>cases r; rfl
 | ref a=>cases r; rfl
 | ty n=>cases r; rfl
 | _=>obtain ⟨t,rfl⟩:=r; rfl
theorem znC:∀ {xs:List V} {us:List Value},Vals xs us->(us.any λu=>u==.none)=xs.any λv=>decide (v=.non)
 | _,_,.nil=>rfl
 | _,_,.cons r t=>by
  simp only [List.any_cons];rw [znC t,zvL r]
theorem znD:∀ {xs:List V} {us:List Value} {u:Value},Vals xs us->u∈us->∃ x∈xs,RelV x u
 | _,_,_,.nil,h=>by cases h
 | _,_,_,.cons r t,h=>by
  rcases List.mem_cons.mp h with rfl | h
  ·exact ⟨_,List.mem_cons_self,r⟩
  ·obtain ⟨x,hx,rx⟩:=znD t h;exact ⟨x,List.mem_cons_of_mem _ hx,rx⟩
theorem zze {X:Cx} {K:Frag} (hK:X.K=K) (hu:X.A.units+65 < cLine):OpR X (compareOp .In) (zDg K):=by
 subst hK;intro pins s σ H x y v u Q I rx ry h;obtain ⟨a,xs,rfl,rfl,hq,hall,q⟩:=h;cases rx; cases ry
 obtain ⟨its,rv,p,hz⟩:=I.list hq;refine SeqAt.in_listAt (λu=>u==.none) p.isList (λu hu'=>?_) ?_
 ·obtain ⟨x,hx,rx⟩:=znD rv (by simpa using hu');rcases hall x hx with rfl | ⟨b,C,dx,fs,rfl,e,c⟩
  ·cases rx; exact SeqAt.EqAt.same _
  ·cases rx
   obtain ⟨d,z,ne,ob,mA,n,r,qq⟩:=(show ObjOk X.prog X.w H s.heap b (.ins C dx fs) from I.hok b _ e)
   obtain ⟨od,ho,hl⟩:=ziG n;exact zjB (A:=X.A.in1) (by show X.A.units+1 < cLine; omega) I.kIn (⟨ob,rfl,rfl,ho⟩:InstAt s.heap b (instObj C dx) C (some od)) c
 ·refine ⟨.bl _,H,I,rfl,?_⟩;have e:its.toArray.any (λu=>u==.none)=xs.any λv=>decide (v=.non):=by rw [<- znC rv]; simp
  rw [e]; exact q
@[simp] def zsv (cs:List Nat):D->Bool
 | .non=>true
 | .ins c _=>cs.contains c
 | _=>false
@[simp] def ztC (cs:List Nat):D->D->Option D
 | .non,.lst ys=>if ys.all (zsv cs)=true then some (.bl (ys.any D.isNon)) else none
 | _,_=>none
theorem zp9 {B:Bk} {H:Hp} {G:Addr->Prop} {cs:List Nat} (hc:∀ c∈cs,KEq B.K (B.cl c)):∀ {xs:List V} {ds:List D},DAs B H G xs ds->ds.all (zsv cs)=true->(∀ v∈xs,v=.non\/∃ b C dx fs,v=.ref b/\H b=some (.ins C dx fs)/\KEq B.K C)/\(xs.any λv=>decide (v=.non))=ds.any D.isNon
 | _,_,.nil,_=>⟨λv h=>(by cases h),rfl⟩
 | _,_,.cons h r,e=>by
  simp only [List.all_cons,Bool.and_eq_true] at e;obtain ⟨i1,i2⟩:=zp9 hc r e.2;refine ⟨λv hv=>?_,by simp only [List.any_cons]; rw [i2,h.isNon]⟩;rcases List.mem_cons.mp hv with rfl | hv
  ·cases h with
   | non=>exact .inl rfl
   | ins f h en r=>exact .inr ⟨_,_,_,_,rfl,h,hc _ (by simpa using e.1)⟩
   | _=>simp at e
  ·exact i1 v hv
theorem zzf {B:Bk} {K:Frag} {cs:List Nat} (hK:B.K=K) (hc:∀ c∈cs,KEq B.K (B.cl c)):OpD B (zDg K) (ztC cs):=by
 subst hK;intro H G x y dx dy z Q hx hy e k;unfold ztC at e;split at e
 ·split at e
  ·rename_i ha
   cases e; cases hx
   cases hy with
   | lst h r=>
    obtain ⟨h1,h2⟩:=zp9 hc r ha;exact ⟨_,_,rfl,rfl,h.sq,h1,by rw [h2]; exact k _ H G Al.refl (.bl _)⟩
  ·cases e
 ·cases e
inductive EqV (K:Frag) (H:Hp):V->V->Bool->Prop
 | dat {x y:V} {da db:PyData} (h1:DAt K H x da) (h2:DAt K H y db) (s1:SeqAt.shaped da=true) (s2:SeqAt.shaped db=true):EqV K H x y (PyData.eqv da db)
 | emp {p q:Addr} (h1:H p=some (.dK [])) (h2:H q=some (.dK [])):EqV K H (.ref p) (.ref q) true
inductive EqVs (K:Frag) (H:Hp):List V->List V->List Bool->Prop
 | nil:EqVs K H [] [] []
 | cons {x y:V} {b:Bool} {xs ys:List V} {bs:List Bool} (h:EqV K H x y b) (r:EqVs K H xs ys bs):EqVs K H (x :: xs) (y :: ys) (b :: bs)
def zDh (K:Frag):R2:=λx y H Q=>zBe K x y H Q\/∃ a b xs ys bs,x=.ref a/\y=.ref b/\SqL K H a xs/\SqL K H b ys/\EqVs K H xs ys bs/\Q (.bl (!bs.all id)) H
theorem znE {P P':Program} {w w':World} {h:Heap} {a:Addr} (d:h.DictOf (zbM P w) a []):h.DictOf (zbM P' w') a []:=by
 obtain ⟨o,es,ep,h1,h2,h3,h4,h5,h6⟩:=d;have e:es=#[]:=by
  cases es with
  | mk l=>cases l with
   | nil=>rfl
   | cons x l=>cases h5
 subst e;exact ⟨o,#[],ep,h1,h2,h3,λx hx=>by simp at hx,.nil,.nil⟩
theorem zoo {A:Around} {s:Shared} {p q:Addr} (hp:(p==sysModules)=false) (hq:(q==sysModules)=false) {P:Program} {w:World} (dp:s.heap.DictOf (zbM P w) p []) (dq:s.heap.DictOf (zbM P w) q []) (hu:A.units < cLine):SeqAt.EqAt A s (.ref p) (.ref q) true:=by
 by_cases e:p=q
 ·subst e; exact SeqAt.EqAt.same _
 ·exact SeqAt.EqAt.of_refs e λprog w E Q h=>keq_eq (knd:=zbM prog w) (r:=true) hp hq (znE dp) (znE dq) hu (λ_=>.nil) (by simpa using h)
theorem zqa {X:Cx} {pins:List (Addr×Obj)} {σ:St} {H:Hp} {s:Shared} (I:Inv X pins σ H s) (hu:X.A.units+65 < cLine):∀ {xs ys:List V} {bs:List Bool} {us vs:List Value},EqVs X.K H xs ys bs->Vals xs us->Vals ys vs->
  us.length=vs.length/\us.length=bs.length/\∀ j (h1:j < us.length) (h2:j < vs.length),SeqAt.EqAt X.A.in1 s us[j] vs[j] (bs.getD j true)
 | _,_,_,_,_,.nil,.nil,.nil=>⟨rfl,rfl,λj h=>by simp at h⟩
 | _,_,_,_,_,.cons h r,.cons r1 t1,.cons r2 t2=>by
  obtain ⟨i1,i2,i3⟩:=zqa I hu r t1 t2;refine ⟨by simp [i1],by simp [i2],λj h1 h2=>?_⟩;cases j with
  | succ j=>simpa using i3 j (by simpa using h1) (by simpa using h2)
  | zero=>
   show SeqAt.EqAt X.A.in1 s _ _ _;cases h with
   | dat a b sa sb=>
    obtain ⟨as,ra⟩:=I.reads a r1;obtain ⟨bs,rb⟩:=I.reads b r2;exact SeqAt.eqAt_reads _ _ X.A.in1 s _ _ _ _ ra rb (SeqAt.canLay_of_shaped sa) (SeqAt.canLay_of_shaped sb) (SeqAt.room_of_shaped sa (by show X.A.units+1+64 < cLine; omega))
   | emp a b=>
    cases r1; cases r2
    obtain ⟨_,z1,vs1,kv1,d1⟩:=zxX I.hok a;obtain ⟨_,z2,vs2,kv2,d2⟩:=zxX I.hok b;cases kv1; cases kv2
    exact zoo z1 z2 d1 d2 (by show X.A.units+1 < cLine; omega)
theorem zsw:∀ bs:List Bool,(List.range bs.length).all (λj=>bs.getD j true)=bs.all id:=λbs=>by
 have e:(List.range bs.length).map (λj=>bs.getD j true)=bs:=List.ext_getElem (by simp) λi h1 h2=>by simp [List.getD,h2]
 conv=>rhs; rw [<- e]
 rw [List.all_map]; rfl
theorem zzg {X:Cx} {K:Frag} (hK:X.K=K) (hu:X.A.units+65 < cLine):OpR X (compareOp .NotEq) (zDh K):=by
 intro pins s σ H x y v u Q I rx ry h;rcases h with h | ⟨a,b,xs,ys,bs,rfl,rfl,h1,h2,he,q⟩
 ·exact zti hK hu pins s σ H x y v u Q I rx ry h
 ·subst hK;cases rx; cases ry
  obtain ⟨its,rv,p,hz⟩:=I.list h1;obtain ⟨its',rv',p',hz'⟩:=I.list h2;obtain ⟨i1,i2,i3⟩:=zqa I hu he rv rv';refine SeqAt.RcNeAt.lists (e:=λj=>bs.getD j true) p.isList p'.isList (by simpa using i1) (by omega) (λj k1 k2=>by simpa using i3 j (by simpa using k1) (by simpa using k2)) X.prog X.w _ _ ?_;have e:(List.range its.toArray.size).all (λj=>bs.getD j true)=bs.all id:=by
   rw [<- zsw]; simp [i2]
  rw [e];exact ⟨.bl _,H,I,rfl,q⟩
def eqE:D->D->Option Bool
 | .dK [],.dK []=>some true
 | x,y=>(shp x).bind λp=>(shp y).bind λq=>some (PyData.eqv p q)
def zBZ:List D->List D->Option (List Bool)
 | [],[]=>some []
 | x :: xs,y :: ys=>(eqE x y).bind λb=>(zBZ xs ys).bind λbs=>some (b :: bs)
 | _,_=>none
def ziw:D->D->Option D:=λa b=>match oNe a b with
 | some r=>some r
 | none=>match a,b with
  | .lst xs,.lst ys=>(zBZ xs ys).map λbs=>.bl (!bs.all id)
  | _,_=>none
section
variable {B:Bk} {K:Frag}
theorem zzh {H:Hp} {G:Addr->Prop} {x y:V} {dx dy:D} {b:Bool} (hx:DA B H G x dx) (hy:DA B H G y dy) (e:eqE dx dy=some b):EqV B.K H x y b:=by
 unfold eqE at e;split at e
 ·cases e
  cases hx with
  | dK f h e1 r=>cases hy with
   | dK f' h' e1' r'=>
    have q1:∀ {kvs:List (Key×V)},kvs.map (·.1)=([]:List (Key×D)).map (·.1)->kvs=[]:=λ{kvs} q=>by cases kvs with | nil=>rfl | cons _ _=>cases q
    cases q1 e1; cases q1 e1'
    exact .emp h h'
 ·obtain ⟨p,q,e1,e2,e3⟩:=zjx e;cases e3
  exact .dat (hx.dat (zbg e1).1) (hy.dat (zbg e2).1) (zbg e1).2 (zbg e2).2
theorem zqb {H:Hp} {G:Addr->Prop}:∀ {xs ys:List V} {ds es:List D} {bs:List Bool},DAs B H G xs ds->DAs B H G ys es->zBZ ds es=some bs->EqVs B.K H xs ys bs
 | _,_,_,_,_,.nil,.nil,e=>by cases e; exact .nil
 | _,_,_,_,_,.cons h r,.cons h' r',e=>by
  obtain ⟨b,e1,e⟩:=zbH e;obtain ⟨bs,e2,e⟩:=zbH e;cases e
  exact .cons (zzh h h' e1) (zqb r r' e2)
 | _,_,_,_,_,.nil,.cons _ _,e=>by cases e
 | _,_,_,_,_,.cons _ _,.nil,e=>by cases e
theorem zzi (hK:B.K=K):OpD B (zDh K) ziw:=by
 intro H G x y dx dy z Q hx hy e k;unfold ziw at e;split at e
 ·rename_i r er
  cases e
  exact .inl (zyu hK H G x y dx dy _ Q hx hy er k)
 ·subst hK;split at e
  ·rw [Option.map_eq_some_iff] at e;obtain ⟨bs,e1,rfl⟩:=e;cases hx with
   | lst h r=>cases hy with
    | lst h' r'=>exact .inr ⟨_,_,_,_,bs,rfl,rfl,h.sq,h'.sq,zqb r r' e1,k _ H G Al.refl (.bl _)⟩
  ·cases e
end
section
variable {ι:Type} {Xs:ι->Cx} {P:Program} {w:World} {K:W.Frag} {mg:Str->Option Value} {base:Heap} {k:Nat} {B:Bk}
theorem zB0 (jx:JX Xs P w K mg base k B) {cs:List Nat} (hc:∀ c∈cs,KEq B.K (B.cl c)):JCmp Xs B .In (ztC cs):=⟨⟨_,λi=>zze (jx.k' i) (jx.r rfl i).c64,zzf jx.bk hc⟩⟩
theorem zvM (jx:JX Xs P w K mg base k B):JCmp Xs B .NotEq ziw:=⟨⟨_,λi=>zzg (jx.k' i) (jx.r rfl i).c64,zzi jx.bk⟩⟩
end
section
variable {X:Cx} {pins:List (Addr×Obj)} {σ:St} {H:Hp} {s:Shared}
theorem Inv.turnedL {h':Heap} {t':Nat} {ch:List Addr} (I:Inv X pins σ H s) (k:∀ b o,b∉ch->s.heap.get? b=some o->h'.get? b=some o) (hc:∀ b∈ch,zjv X pins H b):Inv X pins σ H { s with heap:=h',toks:=t' }:=by
 have nit:∀ b u,H b=some u->b∉ch:=λb u e z=>by rw [(hc b z).1] at e; cases e
 refine I.step (g':=s.gens) (d':=s.drawn) (ch:=ch) (λb hb=>⟨(hc b hb).2.2.2.1,(hc b hb).2.1,(hc b hb).2.2.2.2.1,(hc b hb).2.2.2.2.2⟩) (λb o _ _ hc e _=>k b o hc e) (λb o _ _ hc e _=>⟨o.slots,k b o hc e⟩) (λb o _ e n=>n)
  (λb o hc e=>⟨o,k b o hc e⟩) (λb xs e=>e) (λb o u e=>e) (λb ps e=>⟨#[],by rw [e]; simp⟩) (λm hm=>?_) (λb u e=>?_) I.bare
 ·obtain ⟨o,es,ep,ho,r⟩:=hm;exact ⟨o,es,ep,k _ o (λz=>(hc _ z).2.1 rfl) ho,r⟩
 ·refine (I.hok b u e).stay (λc v hc q=>k c v ?_ q) (λc q=>q) λc xs q=>q;rcases hc with z | z
  ·rw [z]; exact nit b u e
  ·exact nit c _ z
end
def zB1 (K:W.Frag) (a b:Addr):It:=
 ⟨λi H=>∃ xs x ys y,SqL K H a xs/\xs[i]? = some x/\SqL K H b ys/\ys[i]? = some y,λi H v H'=>∃ t x y,(∀ xs,SqL K H a xs->xs[i]? = some x)/\(∀ ys,SqL K H b ys->ys[i]? = some y)/\H t=none/\v=.ref t/\H'=upd H t (.tup [x,y]),λi H=>∃ xs ys,SqL K H a xs/\SqL K H b ys/\(xs.length<=i\/ys.length<=i)⟩
theorem zsx {P:Program} {w:World} {K:W.Frag} {elts:List Expr} {x1} {pos:Pos} (z TI TO i1 i2 a b:Addr) (D:ZipApart z TI TO i1 i2 a b):Turn P w K (.Tuple elts x1 pos) (zB1 K a b) [z,TI,TO,i1,i2] z (λi h=>IsZip h z TI TO .none/\IsPair h TI (.ref i1) (.ref i2)/\(∃ u v,IsPair h TO u v)/\h.IsListIter i1 a i/\h.IsListIter i2 b i) where
 mem:=by simp
 obj:=λi h ⟨s1,s2,⟨u,v,s3⟩,s4,s5⟩ c hc=>by
  simp only [List.mem_cons,List.not_mem_nil,or_false] at hc;rcases hc with rfl | rfl | rfl | rfl | rfl
  ·exact ⟨_,s1,λv z=>by
    have z':Data.fields _=Data.cell v:=z;cases z'⟩
  ·exact ⟨_,s2,λv z=>by
    have z':Data.seq _ _=Data.cell v:=z;cases z'⟩
  ·exact ⟨_,s3,λv z=>by
    have z':Data.seq _ _=Data.cell v:=z;cases z'⟩
  ·obtain ⟨o,e,c,d⟩:=s4;exact ⟨o,e,λv z=>by rw [d] at z; cases z⟩
  ·obtain ⟨o,e,c,d⟩:=s5;exact ⟨o,e,λv z=>by rw [d] at z; cases z⟩
 keep:=λi h h' ⟨s1,s2,⟨u,v,s3⟩,s4,s5⟩ k=>⟨k z (by simp) _ s1,k TI (by simp) _ s2,⟨u,v,k TO (by simp) _ s3⟩,s4.at λo q=>k i1 (by simp) o q,s5.at λo q=>k i2 (by simp) o q⟩
 item:=by
  intro X hP hw hK hc i pins s σ H E I hf ⟨s1,s2,⟨u0,v0,s3⟩,s4,s5⟩ hg;subst hP hw hK;obtain ⟨xs,x,ys,y,hq,hx,hq',hy⟩:=hg;obtain ⟨its,rv,p,hz⟩:=I.list hq;obtain ⟨its',rv',p',hz'⟩:=I.list hq';obtain ⟨u,hu,ru⟩:=rv.get hx;obtain ⟨v,hv,rv2⟩:=rv'.get hy;refine wpAny_pyNext_zip_item D s1 s2 s3 s4 s5 p.isList p'.isList (x:=u) (y:=v) (by simpa using hu) (by simpa using hv) λh' o1 o2 o3 o4 t1 z1 kk=>?_
  refine ⟨_,rfl,wpAny_letOwnedTupleGo_zip (s:={ s with heap:=h' }) o1 λh'' e2 sb=>?_⟩;obtain ⟨oi1,hoi1,_⟩:=id s4;obtain ⟨oi2,hoi2,_⟩:=id s5;have ne:∀ c∈[z,TI,TO,i1,i2],s.heap.objs.size≠c:=λc hc=>by
   simp only [List.mem_cons,List.not_mem_nil,or_false] at hc;rcases hc with rfl | rfl | rfl | rfl | rfl
   ·exact Nat.ne_of_gt (Heap.lt_size s1)
   ·exact Nat.ne_of_gt (Heap.lt_size s2)
   ·exact Nat.ne_of_gt (Heap.lt_size s3)
   ·exact Nat.ne_of_gt (Heap.lt_size hoi1)
   ·exact Nat.ne_of_gt (Heap.lt_size hoi2)
  have fr:H s.heap.objs.size=none:=I.hok.fresh (Nat.le_refl _);have k2:∀ c o,c∉[z,TI,TO,i1,i2]->s.heap.get? c=some o->h''.get? c=some o:=λc o hc q=>by
   simp only [List.mem_cons,List.not_mem_nil,or_false,not_or] at hc;exact sb.extBut c o hc.1 (kk c o hc.1 hc.2.2.1 hc.2.2.2.1 hc.2.2.2.2 q)
  have t2:h''.get? s.heap.objs.size=some { cls:=.type "tuple",data:=.seq #[u,v] }:=sb.extBut _ _ (ne z (by simp)) t1;have new:ObjOk X.prog X.w (upd H s.heap.objs.size (.tup [x,y])) h'' s.heap.objs.size (.tup [x,y]):=
   ⟨by rw [sizeLine_eq]; simp,[u,v],.cons ru (.cons rv2 .nil),_,t2,rfl,0,rfl⟩
  have I2:=I.turnLaidL (t':=s.toks) k2 (Nat.le_refl _) new hf;have hTI':h'.get? TI=_:=kk TI _ D.TIz D.TITO D.TIi1 D.TIi2 s2;refine ⟨.ref s.heap.objs.size,_,I2,rfl,⟨_,x,y,λzs h=>by rw [I.list_inj h hq]; exact hx,λzs h=>by rw [I.list_inj h hq']; exact hy,fr,rfl,rfl⟩,⟨e2,sb.extBut _ _ D.TIz hTI',⟨_,_,sb.extBut _ _ D.TOz o2⟩,o3.extBut sb.extBut D.i1z,o4.extBut sb.extBut D.i2z⟩,λc hc=>?_⟩;rw [zas (Ne.symm (ne c hc))]; exact (hf c hc).1
 done:=by
  intro X hP hw hK hc i pins s σ H E I hf ⟨s1,s2,⟨u0,v0,s3⟩,s4,s5⟩ hg;subst hP hw hK;obtain ⟨xs,ys,hq,hq',hx⟩:=hg;obtain ⟨its,rv,p,hz⟩:=I.list hq;obtain ⟨its',rv',p',hz'⟩:=I.list hq';have hl:=rv.length;have hl':=rv'.length;refine wpAny_pyNext_zip_end (I.ok.hd hc) D s1 s2 s3 s4 s5 p.isList p'.isList (hx.imp (λh=>by simp; omega) λh=>by simp; omega) λh' eb=>⟨rfl,I.turnedL (t':=s.toks) (ch:=[z,TI,TO,i1,i2]) (λc o hc e=>?_) hf⟩
  simp only [List.mem_cons,List.not_mem_nil,or_false,not_or] at hc;exact eb c o hc.1 hc.2.2.1 hc.2.2.2.1 hc.2.2.2.2 e
 self:=λ_ _ _ _ _ ⟨s1,_⟩ h=>wpAny_pyIter_zip s1 h
theorem zeZ {a b:Nat} (h:a < b\/b < a):@Ne Addr a b:=λe=>by have:a=b:=e; omega
theorem zsy {N a b:Nat} (ha:a < N) (hb:b < N):ZipApart (N+4) (N+2) (N+3) N (N+1) a b:=
 ⟨zeZ (by omega),zeZ (by omega),zeZ (by omega),zeZ (by omega),zeZ (by omega),zeZ (by omega),zeZ (by omega),zeZ (by omega),zeZ (by omega),zeZ (by omega),zeZ (by omega),zeZ (by omega),zeZ (by omega),zeZ (by omega),zeZ (by omega),zeZ (by omega),zeZ (by omega),zeZ (by omega)⟩
theorem zB2 {N c:Nat} (h:c∈[N+4,N+2,N+3,N,N+1]):N<=c:=by
 simp only [List.mem_cons,List.not_mem_nil,or_false] at h;omega
def zDi (K:W.Frag) (ta:TA):TI:=λσ H R=>ta σ H λvs H1=>∃ a b xs ys,vs=[.ref a,.ref b]/\SqL K H1 a xs/\SqL K H1 b ys/\R (zB1 K a b) H1
section
variable {X:Cx} {a b:Expr} {ta:TA} {elts:List Expr} {x1:Nat} {pos p cpos:Pos}
theorem zzj (hg:Gl X "zip") (hm:X.mg "zip"=none) (hv:bootBuiltins "zip"=some (.type "zip")) (ha:PA X [a,b] ta) (hs:starEach [a,b] X.env=[(false,eval a X.env),(false,eval b X.env)]:=by rfl) (hs2:starEach [b] X.env=[(false,eval b X.env)]:=by rfl):PI X (.Tuple elts x1 pos) (.Call (.Name "zip" p) [a,b] [] cpos) (zDi X.K ta):=by
 intro pins s σ H R I h;refine Call_ (zgV I hg hm hv (PyProof.Rows.callWith_type1 (thn (ha cpos pins s σ H _ I h) λus s1 ⟨vs,H1,I1,r1,q1⟩=>?_) (by rw [hs,hs2]) (by rw [hs2]; rfl)));obtain ⟨a,b,xs,ys,e,hq,hq',q⟩:=q1;subst e;cases r1 with
 | cons r rr=>cases rr with
  | cons r' rr=>
   cases rr; cases r; cases r'
   obtain ⟨its,rv,pl,hz⟩:=I1.list hq;obtain ⟨its',rv',pl',hz'⟩:=I1.list hq';obtain ⟨ol,hol,_⟩:=id pl.isList;obtain ⟨ol',hol',_⟩:=id pl'.isList;have hlt:=Heap.lt_size hol;have hlt':=Heap.lt_size hol';refine call_zip_2 pl.isList pl'.isList λh' e1 e2 e3 l1 l2 z1 kk=>?_;refine wpAny_pyIter_zip (s:={ s1 with heap:=h' }) e1 ?_;have I2:Inv X pins σ H1 { s1 with heap:=h',toks:=s1.toks }:=I1.kept λc o e=>kk c o e
   refine ⟨_,[s1.heap.objs.size+4,s1.heap.objs.size+2,s1.heap.objs.size+3,s1.heap.objs.size,s1.heap.objs.size+1],_,_,H1,rfl,I2,zsx _ _ _ _ _ a b (zsy hlt hlt'),⟨e1,e2,⟨_,_,e3⟩,l1,l2⟩,λc hc=>?_,q⟩;have hc:s1.heap.objs.size<=c:=zB2 hc;exact I1.fpOk hc (I1.hok.fresh hc)
end
@[simp] def zqc:List D->Option (List D)
 | [.lst ds,.lst es]=>some ((ds.zip es).map λp=>.tup [p.1,p.2])
 | _=>none
@[simp] def zAP (L:List Nat) (mr:FSt->Option (List D)):FSt->Option (List D):=λS=>(mr S).bind λds=>if D.plains ds=true\/L.all (zpv S)=true then zqc ds else none
section
variable {B:Bk} {tr:TA} {L:List Nat} {mr:FSt->Option (List D)}
theorem zqd {H:Hp} {G:Addr->Prop} {a b:Addr} {xs ys:List V} {ds es:List D} (h:∀ H2,(∀ b o,G b->H b=some o->H2 b=some o)->SqL B.K H2 a xs) (h':∀ H2,(∀ b o,G b->H b=some o->H2 b=some o)->SqL B.K H2 b ys) (q:DAs B H G xs ds) (q':DAs B H G ys es):Walks B (zB1 B.K a b) H G ((ds.zip es).map λp=>.tup [p.1,p.2]):=by
 intro H2 F2 k up;have h2:=h H2 k;have h2':=h' H2 k;have q2:=q.mono k up;have q2':=q'.mono k up;refine ⟨λi d e=>?_,λi hi=>⟨xs,ys,h2,h2',by rw [q.length,q'.length]; simp at hi; omega⟩⟩;rw [List.getElem?_map] at e;cases qd:(ds.zip es)[i]? with
 | none=>rw [qd] at e; cases e
 | some d0=>
  rw [qd] at e;simp only [Option.map_some,Option.some.injEq] at e;subst e;obtain ⟨qa,qb⟩:=List.getElem?_zip_eq_some.mp qd;obtain ⟨v,e1,d1⟩:=q2.get qa;obtain ⟨v',e1',d1'⟩:=q2'.get qb;refine ⟨⟨xs,v,ys,v',h2,e1,h2',e1'⟩,λx H3 y=>?_⟩;obtain ⟨t,y,y',hy,hy',e3,rfl,rfl⟩:=y;have e2:=hy xs h2;have e2':=hy' ys h2';rw [e1] at e2;rw [e1'] at e2';cases e2; cases e2'
  exact ⟨λc=>F2 c\/c=t,zd5 e3,.tup ⟨.inr rfl,zaB⟩ (.cons (d1.mono (λc u _ q=>zfY e3 c u q) λ_ z=>.inl z) (.cons (d1'.mono (λc u _ q=>zfY e3 c u q) λ_ z=>.inl z) .nil))⟩
theorem zzk {K:W.Frag} (hK:B.K=K) (hr:FA B tr L mr):FI B (zDi K tr) (zAP L mr):=by
 subst hK;intro S σ H F os R its r e k;obtain ⟨ds,ed,ef⟩:=zbH e;split at ef
 case isFalse=>cases ef
 case isTrue c=>
  refine hr S σ H F os _ ds r ed λvs H' F' al r' das=>?_;have toF:DAs B H' F' vs ds:=by
   rcases c with c | c
   ·exact das.toF r' c
   ·refine das.mono (λ_ _ _ e=>e) λb z=>?_;rcases z with z | ⟨i,hi,z⟩
    ·exact z
    ·obtain ⟨x,v,e1,e2,va⟩:=r'.own z;have hu:=List.all_eq_true.mp c i hi;unfold zpv at hu;rw [e1] at hu;cases x with
     | sh d=>rw [va.1] at z; simp at z
     | _=>cases hu
  unfold zqc at ef;split at ef
  ·cases ef
   obtain ⟨v,v',rfl,d,d'⟩:=toF.two;cases d with
   | lst h q=>cases d' with
    | lst h' q'=>exact ⟨_,_,_,_,rfl,h.sq,h'.sq,k _ H' F' al r' (zqd (λH2 kk=>.inl (.inl (kk _ _ h.1 h.2))) (λH2 kk=>.inl (.inl (kk _ _ h'.1 h'.2))) q q')⟩
  ·cases ef
end
section
variable {ι:Type} {Xs:ι->Cx} {P:Program} {w:World} {K:W.Frag} {mg:Str->Option Value} {base:Heap} {k:Nat} {B:Bk} {a b:Expr} {L:List Nat} {mr:FSt->Option (List D)}
theorem zzl (jx:JX Xs P w K mg base k B) {elts:List Expr} {x1:Nat} {pos p cpos:Pos} (hm:mg "zip"=none) (hv:bootBuiltins "zip"=some (.type "zip")) (ha:JA Xs B [a,b] L mr) (hs:∀ i,starEach [a,b] (Xs i).env=[(false,eval a (Xs i).env),(false,eval b (Xs i).env)]:=by intro _; rfl) (hs2:∀ i,starEach [b] (Xs i).env=[(false,eval b (Xs i).env)]:=by intro _; rfl) (hg:∀ i,Gl (Xs i) "zip":=by intro _; rfl):JI Xs B (.Tuple elts x1 pos) (.Call (.Name "zip" p) [a,b] [] cpos) (zAP L mr):=
 let ⟨_,q,f⟩:=ha.ex; ⟨⟨_,λi=>by have:=zzj (X:=Xs i) (elts:=elts) (x1:=x1) (pos:=pos) (p:=p) (cpos:=cpos) (hg i) (jx.m i▸hm) hv (q i) (hs i) (hs2 i); rw [jx.k' i] at this; exact this,zzk jx.bk f⟩⟩
end
def zd9 {α:Type} (xs:List α) (lo hi:Option Int) (ys:List α):List α:=xs.take (HT.sIx xs.length 0 lo)++ys++xs.drop (max (HT.sIx xs.length 0 lo) (HT.sIx xs.length xs.length hi))
theorem zih {α:Type} (xs:List α) (lo hi:Option Int) (ys:List α):(zd9 xs lo hi ys).length<=xs.length+ys.length:=by
 unfold zd9;simp only [List.length_append,List.length_take,List.length_drop];omega
section
variable {prog:Program} {w:World} {A:Around} {E:Value->Shared->Prop} {s:Shared}
theorem zjC {l b sl:Addr} {its new:List Value} {n m:Nat} {vl vu:Value} {lo hi:Option Int} {Q:Unit->Shared->Prop} (ho:s.heap.get? l=some { cls:=.type "list",data:=.seq its.toArray n }) (hb:s.heap.get? b=some { cls:=.type "list",data:=.seq new.toArray m }) (hne:l≠b)
  (hs:s.heap.IsSliceOf sl vl vu .none) (pl:IsPart vl lo) (pu:IsPart vu hi) (hsz:its.length+new.length<=sizeLine)
  (h:Q () { s with heap:=s.heap.update l (Obj.mapSeq λxs=>xs.extract 0 (HT.sIx its.length 0 lo)++new.toArray++xs.extract (max (HT.sIx its.length 0 lo) (HT.sIx its.length its.length hi)) xs.size) }) :
  wpAny (model prog w) A (setItem (.ref l) (.ref sl) (.ref b)) Q E s:=by
 have hl:s.heap.IsList l its.toArray:=⟨_,ho,rfl,n,rfl⟩
 have hbl:s.heap.IsList b new.toArray:=⟨_,hb,rfl,m,rfl⟩
 obtain ⟨os,hos,hcs,hds⟩:=id hs;have hTs:s.TypeIs (.ref sl) "slice":=⟨os,hos,hcs⟩
 obtain ⟨b1,b2,b3⟩:=zie lo hi its.length;have hmax:(max ((HT.sIx its.length 0 lo:Nat):Int) ((HT.sIx its.length its.length hi:Nat):Int)).toNat=max (HT.sIx its.length 0 lo) (HT.sIx its.length its.length hi):=by omega
 have hstep:¬ (rawPart none==rawInt 0)=true:=Bool.false_ne_true;have hsame:Builtin.List.listSameRef (.ref l) (.ref b)=false:=beq_eq_false_iff_ne.mpr hne;have hbd:sliceBounds lo hi none its.toArray.size=(((HT.sIx its.length 0 lo:Nat):Int),((HT.sIx its.length its.length hi:Nat):Int),1):=by
  rw [List.size_toArray];exact Prod.ext b1 (Prod.ext b2 b3)
 have hzz:((λxs:Array Value=>xs.extract 0 (HT.sIx its.length 0 lo)++new.toArray++xs.extract (max (HT.sIx its.length 0 lo) (HT.sIx its.length its.length hi)) xs.size) its.toArray).size<=sizeLine+1:=by
  simp only [Array.size_append,Array.size_extract,List.size_toArray];omega
 unfold setItem
 try with_reducible refine wpAny_holding ?_
 first | refine wpAny_bind (wpAny_pure ?_) | skip
 refine wpAny_bind (wpAny_sequenceKey hl.typeIs (by decide) ?_);refine wpAny_bind (wpAny_callSpecial?_slot (name:=Str.ofString "__setitem__") hl.typeIs slot_list_setitem (wpAny_call_entry slot_list_setitem hl.typeIs entry_list_setitem ?_ (args_list_setitem _ _ _)));show wpAny _ _ (Builtin.List.listSubscript? (.ref sl) >>= _) _ _ s;refine wpAny_bind ?_;unfold Builtin.List.listSubscript?;refine wpAny_bind (wpAny_specialOf hTs slice_no_index ?_)
 simp only [Option.isNone_none,if_true];refine wpAny_pure ?_;show wpAny _ _ (typeOf (.ref sl) >>= _) _ _ s;refine wpAny_bind (wpAny_typeOf hTs ?_)
 first
  | rw [if_neg (by decide)]
  | refine W.KFB.if_not (by decide) ?_
 rw [listSliceParts_eq];refine wpAny_bind (wpAny_bind (wpAny_field hos hds (x:=.none) rfl (wpAny_bind (wpAny_listPart .none ?_))));rw [if_neg hstep];refine wpAny_bind (wpAny_field hos hds (x:=vl) rfl (wpAny_bind (wpAny_listPart pl ?_)));refine wpAny_bind (wpAny_field hos hds (x:=vu) rfl (wpAny_bind (wpAny_listPart pu (wpAny_pure ?_))))
 first
  | simp only [hsame,Bool.false_eq_true,if_false]
  | refine W.KFB.if_not hsame ?_
  | (dsimp only; rw [if_neg (by rw [hsame]; exact Bool.false_ne_true)])
 refine wpAny_bind (m:=Builtin.List.listAllItems (.ref b) "must assign iterable to extended slice") ?_;unfold Builtin.List.listAllItems;refine wpAny_bind (wpAny_typeOf hbl.typeIs ?_)
 first
  | refine W.KFB.if_so (by decide) ?_
  | rw [if_pos (by decide)]
  | simp only [beq_self_eq_true,Bool.true_or,if_true]
 unfold Builtin.List.listItems;refine wpAny_bind (wpAny_seqItems hb rfl (wpAny_pure ?_));refine wpAny_bind (wpAny_bind (wpAny_seqItems ho rfl (wpAny_pure ?_)));refine wpAny_bind (wpAny_of_eq ((sliceIndices_raw lo hi none _ (by simp)).trans (congrArg (pure:Int×Int×Int->Sem (Int×Int×Int)) hbd)) ?_);show wpAny _ _ (if ((1:Int)==1)=true then _ else _) _ _ s;rw [if_pos (by decide)];refine wpAny_bind (wpAny_rule ?_)
 have hsz':its.toArray.size+new.toArray.size<=sizeLine:=by simpa using hsz
 first
  | simp only [zkx hsz',Bool.false_eq_true,if_false]
  | refine W.KFB.if_not (zkx hsz') ?_
 first | refine wpAny_bind (wpAny_pure ?_) | skip
 show wpAny _ _ (updateSeq l (λxs=>xs.extract 0 ((HT.sIx its.length 0 lo:Nat):Int).toNat++new.toArray++xs.extract (max ((HT.sIx its.length 0 lo:Nat):Int) ((HT.sIx its.length its.length hi:Nat):Int)).toNat xs.size) >>= _) _ _ s;rw [hmax,Int.toNat_natCast];refine wpAny_bind (wpAny_updateSeq (hz:=Nat.le_trans (Nat.le_add_right _ _) hsz') (_hz':=hzz) ho rfl ?_);refine wpAny_bind (wpAny_letGo ?_)
 first
  | exact wpAny_bind (wpAny_pure (wpAny_pure ⟨.none,rfl,wpAny_pure h⟩))
  | exact wpAny_pure ⟨.none,rfl,wpAny_pure h⟩
end
section
variable {X:Cx} {o value:Expr} {lo hi:Option Expr} {to tv:TE} {tl th:TO} {p2 pos' pos:Pos}
def ztD (to:TE) (tl th:TO) (tv:TE):TS:=λD σ H=>tv σ H λv H1=>to σ H1 λx H2=>tl σ H2 λl H3=>th σ H3 λu H4=>∃ a b xs ys,x=.ref a/\v=.ref b/\a≠b/\H4 a=some (.lst xs)/\H4 b=some (.lst ys)/\xs.length+ys.length<=sizeLine/\D.nx σ (upd H4 a (.lst (zd9 xs l u ys)))
theorem zsz (ho:PE X o to) (hl:PO X lo tl) (hh:PO X hi th) (hv:PE X value tv) (hs:swapsWith value (some (.Subscript o (.Slice lo hi none p2) pos')) pos.line X.env=pure false) :
  PS X (.Assign [.Subscript o (.Slice lo hi none p2) pos'] value pos) (ztD to tl th tv):=by
 intro pins s σ H D I h;refine wpAny_Assign_Subscript (thn (hv pins s σ H _ I h) λr s1 ⟨v,H1,I1,rv,q1⟩=>thn (ho pins s1 σ H1 _ I1 q1) λu s2 ⟨x,H2,I2,rx,q2⟩=>?_) hs;refine wpAny_Slice (thn (hl pins s2 σ H2 _ I2 q2) λvl s3 ⟨l,H3,I3,pl,q3⟩=>thn (hh pins s3 σ H3 _ I3 q3) λvu s4 ⟨uu,H4,I4,pu,q4⟩=>?_);rw [evalPart_none];refine wpAny_pure ?_;obtain ⟨a,b,xs,ys,rfl,rfl,hne,ha,hb,hz,q⟩:=q4;cases rx; cases rv
 have I5:Inv X pins σ H4 { s4 with heap:=s4.heap.push { cls:=.type "slice",data:=.fields #[vl,vu,.none] } }:=I4.kept (t':=s4.toks) λb ob q=>Heap.get?_push_of_some _ q;obtain ⟨its,n,r1,e1,z1⟩:=I5.lst ha;obtain ⟨its2,n2,r2,e2,z2⟩:=I5.lst hb;have k1:=r1.length;have k2:=r2.length;refine zjC (s:={ s4 with heap:=s4.heap.push { cls:=.type "slice",data:=.fields #[vl,vu,.none] } }) e1 e2 hne (Heap.IsSliceOf.new ..) pl pu (by omega) ?_
 have I6:=I5.lset (ys:=zd9 xs l uu ys) (its':=zd9 its l uu its2) (t':=s4.toks) (f:=λxs=>xs.extract 0 (HT.sIx its.length 0 l)++its2.toArray++xs.extract (max (HT.sIx its.length 0 l) (HT.sIx its.length its.length uu)) xs.size) ha e1 (zo6 its its2 _ _) ?_ (Nat.le_trans (zih ..) hz)
 ·exact ⟨σ,_,I6,q⟩
 ·unfold zd9;rw [k1];exact Vals.append (Vals.append (r1.take _) r2) (r1.drop _)
end
@[simp] def zj7 (i:Nat) (me:FSt->Option SV) (ml mh:FSt->Option (Option Int)):FSt->Fl:=λS=>match me S,S[i]?,ml S,mh S with
 | some (.li ys),some (some (.li xs)),some lo,some hi=>if D.plains ys=true/\xs.length+ys.length<=sizeLine then .nx (S.set i (some (.li (zd9 xs lo hi ys)))) else .bad
 | _,_,_,_=>.bad
theorem zsA {B:Bk} {te:TE} {tl th:TO} {L:List Nat} {me:FSt->Option SV} {ml mh:FSt->Option (Option Int)} {i:Nat} (he:FE B te L me) (hl:FO B tl ml) (hh:FO B th mh):FS B (ztD (zrv i) tl th te) (zj7 i me ml mh):=by
 intro S σ H F os E r h;unfold zj7 at h;split at h
 case h_2=>exact h.elim
 case h_1 ys xs lo hi e1 e2 e3 e4=>
  split at h
  case isFalse=>exact h.elim
  case isTrue c=>
   refine he S σ H F os _ _ r e1 λv H1 F1 o1 a1 r1 va fr=>?_;obtain ⟨b,us,rfl,rfl,nb,hb,db⟩:=va;obtain ⟨v,hv,a,vs,rfl,eo,nf,ha,das⟩:=r1.at' i _ e2;refine ⟨.ref a,hv,hl S σ H1 F1 os _ lo r1 e3 λH2 F2 a2 r2=>hh S σ H2 F2 os _ hi r2 e4 λH3 F3 a3 r3=>?_⟩;have em:a∈os i:=by rw [eo]; simp
   obtain ⟨v',hv',a',vs',e5,eo',nf',ha',das'⟩:=r3.at' i _ e2;have ea:a'=a:=by rw [eo] at eo'; exact (List.cons.inj eo').1.symm
   subst ea;have hne:a'≠b:=λz=>by subst z; exact (r.alive em).1 (fr _ (by simp))
   have hb3:H3 b=some (.lst us):=a3.same b _ (a2.same b _ hb);have db3:DAs B H3 F3 us ys:=((db.toF r1 c.1).mono (λc u _ q=>a3.same c u (a2.same c u q)) λc z=>a3.up c (a2.up c z))
   have nl:zeP S i=false:=by unfold zeP; rw [e2]; rfl
   refine ⟨a',b,vs',us,rfl,rfl,hne,ha',hb3,by rw [das'.length,db3.length]; exact c.2,?_⟩;have hk:∀ c o,F3 c->H3 c=some o->upd H3 a' (.lst (zd9 vs' lo hi us)) c=some o:=λc o f h=>by rw [zas]; exact h; rintro rfl; exact nf' f
   have dn:DAs B H3 F3 (zd9 vs' lo hi us) (zd9 xs lo hi ys):=by
    unfold zd9;rw [das'.length];exact ((das'.take _).append db3).append (das'.drop _)
   have r4:=r3.write (u:=.lst (zd9 vs' lo hi us)) (x:=.li (zd9 xs lo hi ys)) em hv ⟨a',_,rfl,eo,nf',zaB,dn.mono hk λ_ f=>f⟩;exact h σ _ F3 os (((a1.trans a2).trans a3).step.trans (zd6 em (.inl nl))) r4
section
variable {ι:Type} {Xs:ι->Cx} {B:Bk} {e:Expr} {L:List Nat} {me:FSt->Option SV} {pos:Pos}
theorem zsB (i:Nat) {x:Str} {p1 p2 p3:Pos} {lo hi:Option Expr} {ml mh:FSt->Option (Option Int)} (he:JE Xs B e L me) (hl:JO Xs B lo ml) (hh:JO Xs B hi mh) (hN:∀ j,(Xs j).N[i]? = some x:=by intro _; rfl) (hv:∀ j,Vis (Xs j).env.scope x:=by intro _; first | exact Or.inl rfl | exact Or.inr (Or.inl rfl) | exact Or.inr (Or.inr rfl))
  (hs:∀ j,swapsWith e (some (.Subscript (.Name x p1) (.Slice lo hi none p2) p3)) pos.line (Xs j).env=pure false:=by intro _; rfl) (hd:(x==("__debug__":Str))=false:=by decide) (hcd:(x==("__classdict__":Str))=false:=by decide):JS Xs B (.Assign [.Subscript (.Name x p1) (.Slice lo hi none p2) p3] e pos) (zj7 i me ml mh):=
 let ⟨_,q,f⟩:=he.ex; let ⟨_,ql,fl⟩:=hl.ex; let ⟨_,qh,fh⟩:=hh.ex; ⟨⟨_,λj=>zsz (zjY (hN j) (hv j) hd hcd) (ql j) (qh j) (q j) (hs j),zsA f fl fh⟩⟩
end
theorem zvN {es:List Expr} {env:Env} {a b pos}:starEach (.Dict a b pos :: es) env=(false,eval (.Dict a b pos) env) :: starEach es env:=rfl
theorem Fun.b0 {K:W.Frag} {x qual:Str} {st:Stmt} {f:Addr} {fd:FuncData} (F:Fun K x qual st f fd) (h:∀ (kV doc pm:Value) (an:Option Addr) (cdv ct:Value),bindArgs (W.fnOf x qual (zch st) (zbc st) (zad st) .none kV doc pm an cdv ct) ⟨[],[]⟩=pure []:=by intros; rfl):Binds K fd [] []:=F.binds (ps:=[]) λkV doc pm an cdv ct us hl=>match us,hl with | [],_=>h kV doc pm an cdv ct
section
variable {ι:Type} {Xs:ι->Cx} {B:Bk} {a b c:Expr} {La Lb Lc:List Nat} {ma mb mc:FSt->Option D} {pos:Pos}
theorem zsC {op op':CmpOp} {f f':D->D->Option D} (h1:JCmp Xs B op f) (h2:JCmp Xs B op' f') (ha:JD Xs B a La ma) (hb:JD Xs B b Lb mb) (hc:JD Xs B c Lc mc) (hm:lastMarks [op,op'] [b,c]=false:=by with_unfolding_all rfl):JT Xs B (.Compare a [op,op'] [b,c] pos) (zae (zdf f f' ma mb mc)):=
 let ⟨_,o1,f1⟩:=h1.ex; let ⟨_,o2,f2⟩:=h2.ex; let ⟨_,pa,fa⟩:=ha.ex; let ⟨_,pb,fb⟩:=hb.ex; let ⟨_,pc,fc⟩:=hc.ex
 ⟨⟨_,λi=>zrA (o1 i) (o2 i) (pa i) (pb i) (pc i) hm,zuZ (znA f1 f2 fa fb fc)⟩⟩
end
end L2
namespace M1
open PySem L2
def zcA:List Nat:=[97,98,99,100,101,102,103,104,105,106,107,108,109,110,111,112,113,114,115,116,117,118,119,120,121,122]
theorem zg3:(Str.ofString "abcdefghijklmnopqrstuvwxyz").cps.toList=zcA:=by decide +kernel
theorem zmS:(Str.ofString "abcdefghijklmnopqrstuvwxyz").length=26:=by decide +kernel
theorem ziS:∀ c∈zcA,c < 128:=by decide
structure Good (z:Str):Prop where
 lo:1<=z.length
 hi:z.length<=6
 all:∀ c∈z.cps.toList,c∈zcA
theorem Good.ok {z:Str} (g:Good z):PyData.strOk z=true:=by
 unfold PyData.strOk;rw [<- Array.all_toList,List.all_eq_true];intro c hc;have:=ziS c (g.all c hc);exact decide_eq_true (by omega)
theorem zkR {a b:Str} (h:a.cps.toList=b.cps.toList):a=b:=by
 cases a; cases b
 congr 1;exact Array.toList_inj.mp h
theorem za4 (a b:Str):(a++b).cps.toList=a.cps.toList++b.cps.toList:=by
 show (a.cps++b.cps).toList=_;simp
theorem zak (a b:Str):(a++b).length=a.length+b.length:=by
 show (a.cps++b.cps).size=a.cps.size+b.cps.size;simp
theorem zsD (ys:List Str):(Txt.join "" ys).cps.toList=ys.flatMap λy=>y.cps.toList:=by
 show (Builtin.Str.glued "" ys).cps.toList=_;rw [StrLaws.glued_eq_join];have e0:("":Str).cps.toList=[]:=by decide +kernel
 induction ys with
 | nil=>rfl
 | cons y r ih=>
  cases r with
  | nil=>simp [Str.join]
  | cons z r=>
   rw [show Str.join "" (y :: z :: r)=y++("":Str)++Str.join "" (z :: r) from rfl,za4,za4,ih,e0];simp
theorem zdg {ds:List PyData} (h1:PyData.canLayAll0 ds=true) (h2:PyData.depthAll ds<=8):SeqAt.shaped (.list ds)=true:=by
 unfold SeqAt.shaped;rw [show PyData.canLay0 (.list ds)=PyData.canLayAll0 ds from rfl,h1,Bool.true_and];exact decide_eq_true (by simp [PyData.depth]; omega)
end M1
namespace My
open PySem L2
def but (a b:Nat):Nat:=a^^^(a&&&b)
@[simp] theorem zB3 (a b i:Nat):(but a b).testBit i=(a.testBit i&&!b.testBit i):=by
 unfold but; rw [Nat.testBit_xor,Nat.testBit_and];cases a.testBit i <;> cases b.testBit i <;> rfl
abbrev nD (n:Nat):D:=.int n
theorem zDj (n:Nat) (h:n < 2 ^ 62):ztl [.int n]=some ((List.range n).map nD):=by
 simp only [ztl];rw [if_pos (zu9 (by omega) (by omega))];simp [ztk,nD]
open M1
theorem zaI:sizeLine=16777216:=sizeLine_eq
abbrev oD' (x:Option D):Option SV:=x.map SV.sh
abbrev Ok (z:Str):Prop:=PyData.strOk z=true
theorem shS {z:Str} (h:Ok z):SeqAt.shaped (.str z)=true:=zn9 h
theorem zvO {z:Str} (h:Ok z):shp (.str z)=some (.str z):=by simp [shp,D.dat,shS h]
theorem eqS {a b:Str} (ha:Ok a) (hb:Ok b):oEq (.str a) (.str b)=some (.bl (a==b)):=by
 simp [oEq,zvO ha,zvO hb,PyData.eqv]
theorem neS {a b:Str} (ha:Ok a) (hb:Ok b):oNe (.str a) (.str b)=some (.bl (!(a==b))):=by
 simp [oNe,zvO ha,zvO hb,PyData.eqv]
theorem zop (zs:List Str):D.dats (zs.map D.str)=some (zs.map PyData.str):=by
 induction zs with
 | nil=>rfl
 | cons z zs ih=>simp [D.dats,D.dat,ih]
theorem zAQ {zs:List Str} (h:∀ z∈zs,Ok z):PyData.canLayAll0 (zs.map PyData.str)=true:=by
 induction zs with
 | nil=>rfl
 | cons z zs ih=>
  simp only [List.map_cons,PyData.canLayAll0,PyData.canLay0,Bool.and_eq_true];exact ⟨h z (by simp),ih λx hx=>h x (by simp [hx])⟩
theorem zAR (zs:List Str):PyData.depthAll (zs.map PyData.str)=0:=by
 induction zs with
 | nil=>rfl
 | cons z zs ih=>simp [PyData.depthAll,PyData.depth,ih]
theorem zB4 {zs:List Str} (h:∀ z∈zs,Ok z):SeqAt.shaped (.list (zs.map PyData.str))=true:=zdg (zAQ h) (by rw [zAR]; omega)
theorem zDk (z:Str) (zs:List Str):((zs.map PyData.str).any λe=>PyData.eqv e (.str z))=decide (z∈zs):=by
 induction zs with
 | nil=>rfl
 | cons y ys ih=>
  rw [List.map_cons,List.any_cons,ih];show ((y==z)||decide (z∈ys))=_;rw [Bool.eq_iff_iff];simp only [Bool.or_eq_true,beq_iff_eq,decide_eq_true_eq,List.mem_cons];constructor
  ·rintro (h | h)
   ·exact .inl h.symm
   ·exact .inr h
  ·rintro (h | h)
   ·exact .inl h.symm
   ·exact .inr h
theorem zDP {z:Str} {zs:List Str} (hz:Ok z) (h:∀ z∈zs,Ok z):inB (.str z) (.lst (zs.map D.str))=some (decide (z∈zs)):=by
 show (D.dats (zs.map D.str)).bind _=_;rw [zop];simp only [Option.bind_some,zvO hz,zB4 h,if_true,zDk]
abbrev Pr:=Str×Str
def pD (p:Pr):D:=.tup [.str p.1,.str p.2]
def pP (p:Pr):PyData:=.tuple [.str p.1,.str p.2]
abbrev OkP (p:Pr):Prop:=Ok p.1/\Ok p.2
theorem zzm (p:Pr):(pD p).dat=some (pP p):=rfl
theorem zvP (ps:List Pr):D.dats (ps.map pD)=some (ps.map pP):=by
 induction ps with
 | nil=>rfl
 | cons z zs ih=>simp [D.dats,zzm,ih]
theorem zzn {p:Pr} (h:OkP p):PyData.canLay0 (pP p)=true:=by
 have h1:=h.1;have h2:=h.2;simp [pP,PyData.canLay0,PyData.canLayAll0,h1,h2]
theorem zDQ {ps:List Pr} (h:∀ p∈ps,OkP p):SeqAt.shaped (.list (ps.map pP))=true:=by
 refine zdg ?_ ?_
 ·induction ps with
  | nil=>rfl
  | cons z zs ih=>
   simp only [List.map_cons,PyData.canLayAll0,Bool.and_eq_true];exact ⟨zzn (h z (by simp)),ih λx hx=>h x (by simp [hx])⟩
 ·have:PyData.depthAll (ps.map pP)<=1:=by
   induction ps with
   | nil=>simp [PyData.depthAll]
   | cons z zs ih=>
    have hd:PyData.depth (pP z)=1:=rfl;simp only [List.map_cons,PyData.depthAll,hd];have:=ih λx hx=>h x (by simp [hx]);omega
  omega
theorem zqe (zs:List Str):D.plains (zs.map D.str)=true:=by
 induction zs with
 | nil=>rfl
 | cons z zs ih=>simp [ih]
abbrev sI' (i:Int):Option SV:=some (.sh (.int i))
theorem zkS {α:Type} (f:α->D) (zaL:FSt) (me:FSt->Option D) (g:α->D):∀ (xs:List α),(∀ x∈xs,me (some (.sh (f x)) :: zaL)=some (g x))->∀ y:Option D,zd7 (gN 0) zf5 me (xs.map f) (oD' y :: zaL)=some (xs.map g)
 | [],_,_=>rfl
 | x :: xs,h,y=>by
  have ih:=zkS f zaL me g xs (λz hz=>h z (by simp [hz])) (some (f x));simp only [oD',Option.map_some] at ih;have hg:gN 0 (f x) (oD' y :: zaL)=some (some (.sh (f x)) :: zaL):=by simp
  rw [List.map_cons,zd7,hg];simp [h x (by simp),ih]
theorem zvQ {α:Type} (f:α->D) (zaL:FSt) (mt:FSt->Option Bool) (me:FSt->Option D) (c:α->Bool) (g:α->D):∀ (xs:List α),(∀ x∈xs,mt (some (.sh (f x)) :: zaL)=some (c x)/\(c x=true->me (some (.sh (f x)) :: zaL)=some (g x)))->
  ∀ y:Option D,zd7 (gN 0) mt me (xs.map f) (oD' y :: zaL)=some ((xs.filter c).map g)
 | [],_,_=>rfl
 | x :: xs,h,y=>by
  have ih:=zvQ f zaL mt me c g xs (λz hz=>h z (by simp [hz])) (some (f x));simp only [oD',Option.map_some] at ih;have hx:=h x (by simp);have hg:gN 0 (f x) (oD' y :: zaL)=some (some (.sh (f x)) :: zaL):=by simp
  rw [List.map_cons,zd7,hg];simp only [Option.bind_some,hx.1];cases e:c x
  ·simp [e,ih]
  ·simp [e,ih,hx.2 e]
theorem atN {α:Type} {xs:List α} {k:Nat} {x:α} (h:xs[k]? = some x):atI xs (k:Int)=some x:=by
 have hl:=(List.getElem?_eq_some_iff.mp h).1;simp [atI,ixN,hl,h];exact (List.getElem?_eq_some_iff.mp h).2
theorem zvR (a:Int) {b:Int} (h:0 < b):∃ v:Nat,a%b=v/\(v:Int) < b:=by
 obtain ⟨v,e⟩:=Int.eq_ofNat_of_zero_le (Int.emod_nonneg a (Int.ne_of_gt h));exact ⟨v,e,by have:=Int.emod_lt_of_pos a h; omega⟩
theorem zqf (ns:List Nat):D.plains (ns.map nD)=true:=by
 induction ns with
 | nil=>rfl
 | cons w ws ih=>simp [D.plains,D.plain,ih]
theorem zzo {α:Type} (xs:List α) (a:Nat) (h:a<=xs.length):zeX xs none (some (a:Int))=xs.take a:=by
 unfold zeX;rw [HT.sIx_nat,HT.sIx_none,Nat.min_eq_left h];simp
theorem zii {α:Type} (xs:List α) (a:Nat) (h:a<=xs.length):zeX xs (some (a:Int)) none=xs.drop a:=by
 unfold zeX;rw [HT.sIx_nat,HT.sIx_none,Nat.min_eq_left h];exact List.take_of_length_le (by simp)
theorem za1 {m:FSt->Fl} {n k:Nat} {ds:List D} {x:SV} (hl:ds.length=n) (h:m (ds.map (λd=>some (.sh d))++List.replicate (k-n) none)=.rt x):zbY m n k ds=some x:=by
 unfold zbY; rw [if_pos hl,h]
theorem zat {a b:FSt->Fl} {S S1:FSt} {r:Fl} (h:a S=.nx S1) (h2:b S1=r):za2 a b S=r:=by
 unfold za2; rw [h]; exact h2
theorem zbd {a b:FSt->Fl} {S:FSt} {x:SV} (h:a S=.rt x):za2 a b S=.rt x:=by
 unfold za2; rw [h]
theorem zzp {m:FSt->Option D} {S:FSt} {d:D} (h:m S=some d):mR1 (zab m zaj) S=ztl [d]:=by
 unfold mR1 zab zaj;rw [h];rfl
theorem zqg {m:FSt->Option D} {S:FSt} {n:Nat} (h:m S=some (.int n)) (hn:n < 2 ^ 62):mR1 (zab m zaj) S=some ((List.range n).map nD):=(zzp h).trans (zDj n hn)
theorem znF {mi:FSt->Option (List D)} {mg:D->FSt->Option FSt} {mb:FSt->Fl} {S:FSt} {its:List D} {r:Fl} (h:mi S=some its) (h2:zdG mg mb its S=r):zr0 mi mg mb S=r:=by
 unfold zr0; rw [h]; exact h2
theorem zqh {i:Nat} {L:List Nat} {m:FSt->Option SV} {S S1:FSt} {x:SV} (h:m S=some x) (hp:put i L x S=.nx S1):zcU i L m S=.nx S1:=by
 unfold zcU; rw [h]; exact hp
theorem zqi {m:FSt->Option D} {S:FSt} {x:D} (h:m S=some x):mSh m S=some (.sh x):=by unfold mSh; rw [h]; rfl
theorem zbX {m:FSt->Option SV} {S:FSt} {x:SV} (h:m S=some x):mFr m S=some x.fr:=by unfold mFr; rw [h]; rfl
theorem zkT {a:FSt->Option D} {l h:FSt->Option (Option Int)} {S:FSt} {d:D} {lo hi:Option Int} {z:SV} (ha:a S=some d) (hl:l S=some lo) (hh:h S=some hi) (e:oSl d lo hi=some z):mSl a l h S=some z:=by
 unfold mSl; rw [ha,hl,hh]; exact e
theorem zaq {α:Type} {f:D->D->Option α} {a b:FSt->Option D} {S:FSt} {x y:D} (ha:a S=some x) (hb:b S=some y):m2 f a b S=f x y:=by unfold m2; rw [ha,hb]; rfl
theorem zck {own:Nat} {fi:List Nat} {mi:FSt->Option (List D)} {mg:D->FSt->Option FSt} {mt:FSt->Option Bool} {me:FSt->Option D} {S:FSt} {its out:List D} (h1:mi S=some its) (h2:its.length<=sizeLine) (h3:zd7 mg mt me its (zkD own fi S)=some out):ze1 own fi mi mg mt me S=some (.li out):=by
 unfold ze1; rw [h1,Option.bind_some,if_pos h2,h3]; rfl
def tab:Nat->Nat->Option Bool
 | 0,0=>some true
 | 0,1=>some false
 | 0,2=>some false
 | 0,3=>some false
 | 0,4=>some false
 | 0,5=>some false
 | 0,6=>some false
 | 0,7=>some false
 | 0,8=>some false
 | 0,9=>some false
 | 1,0=>some false
 | 1,1=>some true
 | 1,2=>some false
 | 1,3=>some false
 | 1,4=>some false
 | 1,5=>some false
 | 1,6=>some false
 | 1,7=>some false
 | 1,8=>some false
 | 1,9=>some false
 | 3,0=>some false
 | 3,1=>some false
 | 3,2=>some false
 | 3,3=>some true
 | 3,4=>some false
 | 3,5=>some false
 | 3,6=>some false
 | 3,7=>some false
 | 3,8=>some false
 | 3,9=>some false
 | 4,0=>some false
 | 4,1=>some false
 | 4,2=>some false
 | 4,3=>some false
 | 4,4=>some true
 | 4,5=>some false
 | 4,6=>some false
 | 4,7=>some false
 | 4,8=>some false
 | 4,9=>some false
 | 5,0=>some false
 | 5,1=>some false
 | 5,2=>some false
 | 5,3=>some false
 | 5,4=>some false
 | 5,5=>some true
 | 5,6=>some false
 | 5,7=>some false
 | 5,8=>some false
 | 5,9=>some false
 | 7,0=>some false
 | 7,1=>some false
 | 7,2=>some false
 | 7,3=>some false
 | 7,4=>some false
 | 7,5=>some false
 | 7,6=>some false
 | 7,7=>some true
 | 7,8=>some false
 | 7,9=>some false
 | _,_=>none
def tabx:Nat->Nat->Option Bool
 | 8,9=>some true
 | _,_=>none
def zzq:Nat->Nat->Option Bool
 | 8,0=>some false
 | 8,1=>some false
 | 8,2=>some false
 | 8,3=>some false
 | 8,4=>some false
 | 8,5=>some false
 | 8,6=>some false
 | 8,7=>some false
 | 8,8=>some true
 | 8,9=>some true
 | _,_=>none
noncomputable section
def zaR : BdT :=
  (za2 (zcU 4 [4, 5] (mSh (m2 zcf (mFr (m2 za9 (mFr (m2 za9 (mFr (m2 za9 (mFr (m2 zrs (mV 4) (mV 4))) (mFr (m2 zrs (mC (.int 48271)) (mV 4))))) (mFr (m2 zrs (mC (.int 7919)) (mV 5))))) (mC (.int 11)))) (mC (.int 2147483647)))))
     (za2 (zu4 2 [0, 3, 4] (m2 oIx (mFr (zda (zab (mV 4) (zab (m2 zcf (mV 3) (mC (.int 1000003))) zaj)))) (mFr (m1 zyy (zab (zjw (zae (m2 oEq (m2 zcf (mV 0) (mC (.int 2))) (mC (.int 1)))) (m2 oGt (mV 3) (mC (.int 0))) (mC (.bl false))) zaj)))))
     (zcU 3 [3] (mSh (m2 zcV (mV 3) (mC (.int 1000003)))))))
def zij (zaR : BdT) : BdT :=
  (za2 (zcU 2 [] (zda zaj))
   (za2 (zcU 3 [0] (mSh (m2 zcV (mV 0) (mC (.int 2)))))
   (za2 (zcU 4 [3] (mSh (m2 zcf (mV 3) (mC (.int 2147483647)))))
   (za2 (zr0 (mR1 (zab (mV 1) zaj)) (gN 5)
    zaR)
   (zob 2)))))
def zdz:BdT:=zij zaR
def zaJ:FnT:=zbY zdz 2 6
def zdb : BdT :=
  (za2 (zcU 1 [] (zda (zab (mC (.str "has")) (zab (mC (.str "not")) (zab (mC (.str "by")) (zab (mC (.str "to")) (zab (mC (.str "and")) (zab (mC (.str "give")) (zab (mC (.str "take")) (zab (mC (.str "lay")) (zab (mC (.str "from")) (zab (mC (.str "if")) (zab (mC (.str "both")) (zab (mC (.str "most")) (zab (mC (.str "last")) zaj)))))))))))))))
   (za2 (mIf (zae (m2 oEq (m2 zcf (mV 0) (mC (.int 3))) (mC (.int 0))))
    (zaW (mSh (m2 oIx (mV 1) (m2 zcf (m2 zcV (mV 0) (mC (.int 3))) (mC (.int 13))))))
    zaK)
   (za2 (zcU 2 [] (mSh (mC (.str "abcdefghijklmnopqrstuvwxyz"))))
   (zaW (mBM zcL (mC (.str "")) (zab (mFr (ze1 1 [0, 2] (mR1 (zab (mFr (m2 za9 (mC (.int 1)) (m2 zcf (m2 zcV (mV 0) (mC (.int 3))) (mC (.int 6))))) zaj)) (gN 0) zf5 (m2 oIx (mV 2) (m2 zcf (m2 zcV (mV 1) (mFr (m2 za9 (mFr (m2 zrs (mC (.int 11)) (mV 0))) (mC (.int 3))))) (mC (.int 26)))))) zaj))))))
def za5:FnT:=zbY zdb 1 3
def zbe : BdT :=
  (za2 (mIf (zae (m2 oEq (m2 zcf (mV 1) (mC (.int 8))) (mC (.int 0))))
    (zaW (m2 za9 (mV 0) (mC (.str "abcdefg"))))
    zaK)
   (za2 (zcU 2 [1] (mSh (m2 oIx (mFr (zda (zab (mC (.str "A")) (zab (mC (.str "1")) (zab (mC (.str " ")) (zab (mC (.str "_")) (zab (mC (.str "-")) (zab (mC (.str "z")) zaj)))))))) (m2 zcf (m2 zcV (mV 1) (mC (.int 8))) (mC (.int 6))))))
   (za2 (zcU 3 [0, 1] (mSh (m2 zcf (m2 zcV (mV 1) (mC (.int 48))) (mFr (m2 za9 (mFr (m1 zbK (zab (mV 0) zaj))) (mC (.int 1)))))))
   (zaW (m2 za9 (mFr (m2 za9 (mFr (mSl (mV 0) mNo (mAt (mV 3)))) (mV 2))) (mFr (mSl (mV 0) (mAt (mV 3)) mNo)))))))
def zaS:FnT:=zbY zbe 2 4
def zik (za5 : FnT) (zaS : FnT) : BdT :=
  (za2 (zcU 2 [1] (mSh (m2 zcf (m2 oIx (mV 1) (mC (.int 20))) (mC (.int 16)))))
   (za2 (zcU 3 [0, 1] (mSh (m2 zcf (m2 oIx (mV 1) (mC (.int 21))) (mFr (m1 zbK (zab (mV 0) zaj))))))
   (za2 (zcU 4 [0] (m1 zmC (zab (mV 0) zaj)))
   (za2 (mIf (zae (m2 oEq (mV 2) (mC (.int 0))))
    (zaW (mBM zcL (mC (.str " ")) (zab (mFr (m2 za9 (mFr (mSl (mV 4) mNo (mAt (mV 3)))) (mFr (mSl (mV 4) (mAt (mFr (m2 za9 (mV 3) (mC (.int 1))))) mNo)))) zaj)))
    zaK)
   (za2 (mIf (zae (m2 oEq (mV 2) (mC (.int 1))))
    (zaW (mBM zcL (mC (.str " ")) (zab (mFr (m2 za9 (mFr (m2 za9 (mFr (mSl (mV 4) mNo (mAt (mV 3)))) (mFr (zda (zab (m2 oIx (mV 4) (mV 3)) zaj))))) (mFr (mSl (mV 4) (mAt (mV 3)) mNo)))) zaj)))
    zaK)
   (za2 (mIf (zae (m2 oEq (mV 2) (mC (.int 2))))
    (zaW (mBM zcL (mC (.str " ")) (zab (mFr (m2 za9 (mFr (m2 za9 (mFr (mSl (mV 4) mNo (mAt (mV 3)))) (mFr (zda (zab (mFr (m1 za5 (zab (m2 oIx (mV 1) (mC (.int 22))) zaj))) zaj))))) (mFr (mSl (mV 4) (mAt (mV 3)) mNo)))) zaj)))
    zaK)
   (za2 (mIf (zae (m2 oEq (mV 2) (mC (.int 3))))
    (za2 (zj7 4 (m1 zvE (zab (mFr (mSl (mV 4) (mAt (mV 3)) (mAt (mFr (m2 za9 (mV 3) (mC (.int 2))))))) zaj)) (mAt (mV 3)) (mAt (mFr (m2 za9 (mV 3) (mC (.int 2))))))
     (zaW (mBM zcL (mC (.str " ")) (zab (mV 4) zaj))))
    zaK)
   (za2 (mIf (zae (m2 oEq (mV 2) (mC (.int 4))))
    (zaW (mBM zcL (mC (.str " ")) (zab (mFr (m2 za9 (mFr (m2 za9 (mFr (mSl (mV 4) mNo (mAt (mV 3)))) (mFr (zda (zab (mFr (m1 zaS (zab (m2 oIx (mV 4) (mV 3)) (zab (m2 oIx (mV 1) (mC (.int 22))) zaj)))) zaj))))) (mFr (mSl (mV 4) (mAt (mFr (m2 za9 (mV 3) (mC (.int 1))))) mNo)))) zaj)))
    zaK)
   (za2 (mIf (zae (m2 oEq (mV 2) (mC (.int 5))))
    (zaW (m2 za9 (mFr (m2 za9 (m2 oIx (mFr (zda (zab (mC (.str "")) (zab (mC (.str " ")) zaj)))) (m2 zcf (m2 oIx (mV 1) (mC (.int 22))) (mC (.int 2)))) (mFr (mBM zcL (mC (.str " ")) (zab (mV 4) zaj))))) (mC (.str " "))))
    zaK)
   (za2 (mIf (zae (m2 oEq (mV 2) (mC (.int 6))))
    (zaW (mBM zcL (mC (.str " ")) (zab (mFr (m2 za9 (mV 4) (mFr (mSl (mV 4) (mAt (mV 3)) mNo)))) zaj)))
    zaK)
   (za2 (mIf (zae (m2 oEq (mV 2) (mC (.int 7))))
    (zaW (mSh (m2 oIx (mFr (zda (zab (mC .non) (zab (mC (.int 7)) (zab (mC (.bl true)) (zab (mFr (m1 ze4 (zab (mV 4) zaj))) (zab (mV 4) (zab (mFr mDK) (zab (mC (.str "")) (zab (mC (.str " ")) zaj)))))))))) (m2 zcf (m2 oIx (mV 1) (mC (.int 22))) (mC (.int 8))))))
    zaK)
   (zaW (mBM zcL (mC (.str " ")) (zab (mV 4) zaj))))))))))))))
def zcN:BdT:=zik za5 zaS
def zaV:FnT:=zbY zcN 2 5
def zdh:BdT:=
 (zaW (ze1 1 [0,1] (mR3 (zab (mC (.int 0)) (zab (mFr (m1 zbK (zab (mV 0) zaj))) (zab (mV 1) zaj)))) (gN 0) zf5 (mFr (mSl (mV 1) (mAt (mV 0)) (mAt (mFr (m2 za9 (mV 0) (mV 2))))))))
def zbw:FnT:=zbY zdh 2 2
def zdA:BdT:=
 (zeY 0 [1,2,3,4,5,6,7] "role" [1] (mV 1))
def zaM:InT:=zj1 zdA 2 2
def zbC : BdT :=
  (za2 (mIf (zfW (zae (mFr (m1 (zeQ tab) (zab (mV 0) (zab (mC (.ty "str")) zaj))))))
    (zaW (mSh (mC (.bl false))))
    zaK)
   (za2 (mIf (mOr (zae (m2 oLt (mFr (m1 zbK (zab (mV 0) zaj))) (mC (.int 1)))) (zae (m2 oGt (mFr (m1 zbK (zab (mV 0) zaj))) (mC (.int 6)))))
    (zaW (mSh (mC (.bl false))))
    zaK)
   (zaW (m1 zw9 (zab (mFr (ze1 1 [] (zlf (mV 0)) (gN 0) zf5 (m2 oIn (mV 0) (mC (.str "abcdefghijklmnopqrstuvwxyz"))))) zaj)))))
def zar:FnT:=zbY zbC 1 1
def zf6 (zar : FnT) (zaM : InT) : BdT :=
  (za2 (mIf (mOr (zae (m2 oNe (mFr (m1 zbK (zab (mV 0) zaj))) (mC (.int 2)))) (zfW (zae (mFr (m1 zar (zab (m2 oIx (mV 0) (mC (.int 1))) zaj))))))
    (zaW (mSh (mC .non)))
    zaK)
   (za2 (mIf (zae (m2 oEq (m2 oIx (mV 0) (mC (.int 0))) (mC (.str "has"))))
    (zaW (zjz 2 zaM (zab (m2 oIx (mV 0) (mC (.int 1))) zaj)))
    zaK)
   (za2 (mIf (zae (m2 oEq (m2 oIx (mV 0) (mC (.int 0))) (mC (.str "not"))))
    (zaW (zjz 6 zaM (zab (m2 oIx (mV 0) (mC (.int 1))) zaj)))
    zaK)
   (zaW (mSh (mC .non))))))
def zb0:BdT:=zf6 zar zaM
def zaG:FnT:=zbY zb0 1 1
def zj8 (zbw : FnT) (zaG : FnT) : BdT :=
  (za2 (zcU 2 [0] (m1 zbw (zab (mV 0) (zab (mC (.int 3)) zaj))))
   (za2 (mIf (zae (m2 oNe (mFr (ze1 1 [] (zlf (mV 2)) (gN 0) zf5 (m2 oIx (mV 0) (mC (.int 0))))) (mFr (mSl (mFr (zda (zab (mV 1) (zab (mC (.str "and")) zaj)))) mNo (mAt (mFr (m1 zbK (zab (mV 2) zaj))))))))
    (zaW (mSh (mC .non)))
    zaK)
   (za2 (zcU 3 [2] (ze1 1 [] (zlf (mV 2)) (gN 0) zf5 (mFr (m1 zaG (zab (mFr (mSl (mV 0) (mAt (mC (.int 1))) mNo)) zaj)))))
   (zaW (zjw (zae (m2 (ztC [2, 6]) (mC .non) (mV 3))) (mSh (mC .non)) (mSh (mV 3)))))))
def zdc:BdT:=zj8 zbw zaG
def za6:FnT:=zbY zdc 2 4
def zg4 : BdT :=
  (za2 (zeY 0 [1, 2, 3, 4, 5, 6, 7] "role" [1] (mV 1))
   (za2 (zeY 0 [1, 7] "by" [2] (mV 2))
   (zeY 0 [1, 4, 7] "terms" [3] (mFr (m1 ze4 (zab (mV 3) zaj))))))
def zbR:InT:=zj1 zg4 4 4
def zg5 : BdT :=
  (za2 (zeY 0 [1, 2, 3, 4, 5, 6, 7] "role" [1] (mV 1))
   (za2 (zeY 0 [1, 7] "by" [2] (mV 2))
   (zeY 0 [1, 4, 7] "terms" [3] (mFr (m1 ze4 (zab (mV 3) zaj))))))
def zbS:InT:=zj1 zg5 4 4
def zea (zar : FnT) (za6 : FnT) (zbS : InT) (zbR : InT) : BdT :=
  (za2 (mIf (mOr (zae (m2 oLt (mFr (m1 zbK (zab (mV 0) zaj))) (mC (.int 4)))) (mOr (zfW (zae (mFr (m1 zar (zab (m2 oIx (mV 0) (mC (.int 1))) zaj))))) (mOr (zae (m2 oNe (m2 oIx (mV 0) (mC (.int 2))) (mC (.str "by")))) (zfW (zae (mFr (m1 zar (zab (m2 oIx (mV 0) (mC (.int 3))) zaj))))))))
    (zaW (mSh (mC .non)))
    zaK)
   (za2 (zcU 1 [0] (m1 za6 (zab (mFr (mSl (mV 0) (mAt (mC (.int 4))) mNo)) (zab (mFr (zjw (zae (m2 oEq (m2 oIx (mV 0) (mC (.int 0))) (mC (.str "give")))) (mSh (mC (.str "to"))) (mSh (mC (.str "from"))))) zaj))))
   (za2 (mIf (zae (m2 oIs (mV 1) (mC .non)))
    (zaW (mSh (mC .non)))
    zaK)
   (za2 (mIf (zae (m2 oEq (m2 oIx (mV 0) (mC (.int 0))) (mC (.str "give"))))
    (zaW (zjz 1 zbS (zab (m2 oIx (mV 0) (mC (.int 1))) (zab (m2 oIx (mV 0) (mC (.int 3))) (zab (mV 1) zaj)))))
    zaK)
   (zaW (zjz 7 zbR (zab (m2 oIx (mV 0) (mC (.int 1))) (zab (m2 oIx (mV 0) (mC (.int 3))) (zab (mV 1) zaj)))))))))
def zbh:BdT:=zea zar za6 zbS zbR
def zaC:FnT:=zbY zbh 1 2
def zil : BdT :=
  (za2 (zeY 0 [1, 2, 3, 4, 5, 6, 7] "role" [1] (mV 1))
   (zeY 0 [1, 4, 7] "terms" [2] (mFr (m1 ze4 (zab (mV 2) zaj)))))
def zcd:InT:=zj1 zil 3 3
def znG (zar : FnT) (za6 : FnT) (zcd : InT) : BdT :=
  (za2 (mIf (mOr (zae (m2 oLt (mFr (m1 zbK (zab (mV 0) zaj))) (mC (.int 2)))) (zfW (zae (mFr (m1 zar (zab (m2 oIx (mV 0) (mC (.int 1))) zaj))))))
    (zaW (mSh (mC .non)))
    zaK)
   (za2 (zcU 1 [0] (m1 za6 (zab (mFr (mSl (mV 0) (mAt (mC (.int 2))) mNo)) (zab (mC (.str "if")) zaj))))
   (zaW (zjw (zae (m2 oIs (mV 1) (mC .non))) (mSh (mC .non)) (zjz 4 zcd (zab (m2 oIx (mV 0) (mC (.int 1))) (zab (mV 1) zaj)))))))
def zg6:BdT:=znG zar za6 zcd
def zcW:FnT:=zbY zg6 1 2
def zg7 : BdT :=
  (za2 (zeY 0 [0] "one" [1] (mV 1))
   (zeY 0 [0] "other" [2] (mV 2)))
def zbT:InT:=zj1 zg7 3 3
def zlN (zar : FnT) (zbT : InT) : BdT :=
  (za2 (mIf (mOr (zae (m2 oNe (mFr (m1 zbK (zab (mV 0) zaj))) (mC (.int 3)))) (mOr (zfW (zae (mFr (m1 zar (zab (m2 oIx (mV 0) (mC (.int 1))) zaj))))) (mOr (zfW (zae (mFr (m1 zar (zab (m2 oIx (mV 0) (mC (.int 2))) zaj))))) (zae (m2 oEq (m2 oIx (mV 0) (mC (.int 1))) (m2 oIx (mV 0) (mC (.int 2))))))))
    (zaW (mSh (mC .non)))
    zaK)
   (zaW (zjz 0 zbT (zab (m2 oIx (mV 0) (mC (.int 1))) (zab (m2 oIx (mV 0) (mC (.int 2))) zaj)))))
def ze7:BdT:=zlN zar zbT
def zcl:FnT:=zbY ze7 1 1
def zg8 : BdT :=
  (za2 (zeY 0 [5] "most" [1] (mV 1))
   (zeY 0 [1, 2, 3, 4, 5, 6, 7] "role" [2] (mV 2)))
def zbU:InT:=zj1 zg8 3 3
def zlO (zar : FnT) (zbU : InT) : BdT :=
  (za2 (mIf (mOr (zae (m2 oNe (mFr (m1 zbK (zab (mV 0) zaj))) (mC (.int 3)))) (mOr (zae (m2 ze3 (m2 oIx (mV 0) (mC (.int 1))) (mC (.kt ((["1", "2", "3", "4"] : List Str).map D.str))))) (zfW (zae (mFr (m1 zar (zab (m2 oIx (mV 0) (mC (.int 2))) zaj)))))))
    (zaW (mSh (mC .non)))
    zaK)
   (zaW (zjz 5 zbU (zab (mFr (m1 zkP (zab (m2 oIx (mV 0) (mC (.int 1))) zaj))) (zab (m2 oIx (mV 0) (mC (.int 2))) zaj)))))
def ze8:BdT:=zlO zar zbU
def zcm:FnT:=zbY ze8 1 1
def zg9:BdT:=
 (zeY 0 [1,2,3,4,5,6,7] "role" [1] (mV 1))
def zbV:InT:=zj1 zg9 2 2
def zlP (zar : FnT) (zbV : InT) : BdT :=
  (za2 (mIf (mOr (zae (m2 oNe (mFr (m1 zbK (zab (mV 0) zaj))) (mC (.int 2)))) (zfW (zae (mFr (m1 zar (zab (m2 oIx (mV 0) (mC (.int 1))) zaj))))))
    (zaW (mSh (mC .non)))
    zaK)
   (zaW (zjz 3 zbV (zab (m2 oIx (mV 0) (mC (.int 1))) zaj))))
def ze9:BdT:=zlP zar zbV
def zcn:FnT:=zbY ze9 1 1
def zfa (zaC : FnT) (zcW : FnT) (zcl : FnT) (zcm : FnT) (zcn : FnT) : BdT :=
  (za2 (mIf (mOr (zae (m2 oEq (m2 oIx (mV 0) (mC (.int 0))) (mC (.str "give")))) (zae (m2 oEq (m2 oIx (mV 0) (mC (.int 0))) (mC (.str "take")))))
    (zaW (m1 zaC (zab (mV 0) zaj)))
    zaK)
   (za2 (mIf (zae (m2 oEq (m2 oIx (mV 0) (mC (.int 0))) (mC (.str "lay"))))
    (zaW (m1 zcW (zab (mV 0) zaj)))
    zaK)
   (za2 (mIf (zae (m2 oEq (m2 oIx (mV 0) (mC (.int 0))) (mC (.str "both"))))
    (zaW (m1 zcl (zab (mV 0) zaj)))
    zaK)
   (za2 (mIf (zae (m2 oEq (m2 oIx (mV 0) (mC (.int 0))) (mC (.str "most"))))
    (zaW (m1 zcm (zab (mV 0) zaj)))
    zaK)
   (za2 (mIf (zae (m2 oEq (m2 oIx (mV 0) (mC (.int 0))) (mC (.str "last"))))
    (zaW (m1 zcn (zab (mV 0) zaj)))
    zaK)
   (zaW (mSh (mC .non))))))))
def zbN:BdT:=zfa zaC zcW zcl zcm zcn
def zaH:FnT:=zbY zbN 1 1
def zdi (zaH : FnT) : Bd3 :=
  (zoj (zyY (zfW (zae (mFr (m1 (zeQ tab) (zab (mV 0) (zab (mC (.ty "str")) zaj))))))
    (zlK 8 "found" (mV 0))
    (zsh zaK))
   (zoj (zsh (zcU 1 [0] (m1 zaH (zab (mFr (mBM zbB (mV 0) (zab (mC (.str " ")) zaj))) zaj))))
   (zoj (zyY (zae (m2 oIs (mV 1) (mC .non)))
    (zlK 8 "found" (mV 0))
    (zsh zaK))
   (zsh (zob 1)))))
def zb1:Bd3:=zdi zaH
def zaY:FnT:=zsl zb1 1 2
def zbD:ExT:=zsm zb1 1 2
def zhA (zaY : FnT) (zbD : ExT) : BdT :=
  (za2 (zcU 1 [] (mSh (mC .non)))
   (za2 (zcU 2 [] (mSh (mC .non)))
   (za2 (zAM [0]
    (zcU 1 [0] (m1 zaY (zab (mV 0) zaj)))
    (mX1 zbD (zab (mV 0) zaj))
    (zAN tabx 9 3
    (za2 (zcU 2 [3] (zda (zab (mFr (m1 (zxb zzq) (zab (mV 3) (zab (mC (.cls 8)) zaj)))) zaj)))
     (mIf (zae (mFr (m1 (zxb zzq) (zab (mV 3) (zab (mC (.cls 8)) zaj)))))
      (zu4 2 [3] (m1 (fXF [8] "found") (mV 3)))
      zaK))
    (λ_ _ => .bad)))
   (zaW (mSh (zw6 (zab (mV 1) (zab (mV 2) zaj))))))))
def zcB:BdT:=zhA zaY zbD
def za7:FnT:=zbY zcB 1 4
def zco : BdT :=
  (za2 (mIf (zae (m2 oLt (mV 1) (mFr (m1 zbK (zab (mV 0) zaj)))))
    (zaW (mSh (m2 oIx (mV 0) (mV 1))))
    zaK)
   (zaW (mSh (mC (.int 0)))))
def zaD:FnT:=zbY zco 2 2
def zcC : BdT :=
  (za2 (zcU 0 [] (zda (zab (mC (.str "give N by N")) (zab (mC (.str "give N by N to T N")) (zab (mC (.str "give N by N to T N and T N")) (zab (mC (.str "take N by N")) (zab (mC (.str "take N by N from T N")) zaj)))))))
   (za2 (zcU 0 [0] (m2 za9 (mV 0) (mFr (zda (zab (mC (.str "take N by N from T N and T N")) (zab (mC (.str "lay N")) (zab (mC (.str "lay N if T N")) (zab (mC (.str "lay N if T N and T N")) (zab (mC (.str "both N N")) zaj)))))))))
   (zaW (ze1 1 [] (zlf (mFr (m2 za9 (mV 0) (mFr (zda (zab (mC (.str "most D N")) (zab (mC (.str "last N")) zaj))))))) (gN 0) zf5 (mFr (mBM zbB (mV 0) (zab (mC (.str " ")) zaj)))))))
def zaN:FnT:=zbY zcC 0 1
def zha (za5 : FnT) : BdT :=
  (za2 (zcU 4 [3] (mSh (mV 3)))
     (za2 (mIf (zae (m2 oEq (mV 3) (mC (.str "N"))))
      (zcU 4 [0, 2] (m1 za5 (zab (m2 oIx (mV 0) (mFr (m2 za9 (mC (.int 1)) (mV 2)))) zaj)))
      (mIf (zae (m2 oEq (mV 3) (mC (.str "T"))))
        (zcU 4 [0, 2] (mSh (m2 oIx (mFr (zda (zab (mC (.str "has")) (zab (mC (.str "not")) zaj)))) (m2 zcf (m2 oIx (mV 0) (mFr (m2 za9 (mC (.int 1)) (mV 2)))) (mC (.int 2))))))
        (mIf (zae (m2 oEq (mV 3) (mC (.str "D"))))
          (zcU 4 [0, 2] (m1 zkH (zab (m2 zcf (m2 oIx (mV 0) (mFr (m2 za9 (mC (.int 1)) (mV 2)))) (mC (.int 6))) zaj)))
          zaK)))
     (zu4 1 [4] (mV 4))))
def zbx:BdT:=zha za5
def ziT (zaN : FnT) (zbx : BdT) : BdT :=
  (za2 (zcU 1 [] (zda zaj))
   (za2 (zr0 (zsb [0] (zab (m2 oIx (mFr (m1 zaN zaj)) (m2 zcf (m2 oIx (mV 0) (mC (.int 0))) (mC (.int 12)))) zaj)) (gSq 2 (gCs (gN 2) (gCs (gN 3) gNs)))
    zbx)
   (zob 1)))
def zdj:BdT:=ziT zaN zbx
def za3:FnT:=zbY zdj 1 5
def zba:BdT:=
 (zaW (mSh (zjw (zae (zdf oLe oLe (mC (.int 1)) (mFr (m1 zbK (zab (mV 0) zaj))) (mC (.int 6)))) (m2 oEq (mFr (ze1 1 [] (zlf (mV 0)) (gN 0) (zfW (zae (zdf znB znB (mC (.str "a")) (mV 0) (mC (.str "z"))))) (mV 0))) (mFr (zda zaj))) (mC (.bl false)))))
def zaT:FnT:=zbY zba 1 1
def zim (zaT : FnT) : BdT :=
  (za2 (mIf (mOr (zrr (zae (m2 oEq (mV 3) (mC (.str "N")))) (zfW (zae (mFr (m1 zaT (zab (mV 2) zaj)))))) (zrr (zae (m2 oEq (mV 3) (mC (.str "T")))) (zae (m2 ze3 (mV 2) (mFr (zda (zab (mC (.str "has")) (zab (mC (.str "not")) zaj))))))))
      (zaW (mSh (mC (.bl false))))
      zaK)
     (mIf (mOr (zrr (zae (m2 oEq (mV 3) (mC (.str "D")))) (zae (m2 ze3 (mV 2) (mFr (zda (zab (mC (.str "1")) (zab (mC (.str "2")) (zab (mC (.str "3")) (zab (mC (.str "4")) zaj))))))))) (zrr (zae (m2 ze3 (mV 3) (mFr (zda (zab (mC (.str "N")) (zab (mC (.str "T")) (zab (mC (.str "D")) zaj))))))) (zae (m2 oNe (mV 2) (mV 3)))))
      (zaW (mSh (mC (.bl false))))
      zaK))
def zbq:BdT:=zim zaT
def zj9 (zbq : BdT) : BdT :=
  (za2 (mIf (zae (m2 oNe (mFr (m1 zbK (zab (mV 0) zaj))) (mFr (m1 zbK (zab (mV 1) zaj)))))
    (zaW (mSh (mC (.bl false))))
    zaK)
   (za2 (zr0 (zAP [0, 1] (zab (mV 0) (zab (mV 1) zaj))) (gSq 2 (gCs (gN 2) (gCs (gN 3) gNs)))
    zbq)
   (zaW (mSh (zjw (zae (m2 oNe (m2 oIx (mV 1) (mC (.int 0))) (mC (.str "both")))) (mC (.bl true)) (m2 oNe (m2 oIx (mV 0) (mC (.int 1))) (m2 oIx (mV 0) (mC (.int 2)))))))))
def zeb:BdT:=zj9 zbq
def zbG:FnT:=zbY zeb 2 4
def zhB (zaN : FnT) (zbG : FnT) : BdT :=
  (za2 (mIf (zfW (zae (mFr (m1 (zeQ tab) (zab (mV 0) (zab (mC (.ty "str")) zaj))))))
    (zaW (mSh (mC (.bl false))))
    zaK)
   (zaW (mSh (m2 oNe (mFr (ze1 1 [0] (zlf (mFr (m1 zaN zaj))) (gN 0) (zae (mFr (m1 zbG (zab (mFr (mBM zbB (mV 1) (zab (mC (.str " ")) zaj))) (zab (mV 0) zaj))))) (mV 0))) (mFr (zda zaj))))))
def zdd:BdT:=zhB zaN zbG
def zaO:FnT:=zbY zdd 1 1
def zka:BdT:=
 (zaW (m2 za9 (mFr (m2 za9 (mFr (m2 za9 (mC (.str "both ")) (m1 (zdu [0] "one") (mV 0)))) (mC (.str " ")))) (m1 (zdu [0] "other") (mV 0))))
def zbi:FnT:=zbY zka 1 1
def zlQ:BdT:=
 (zaW (m2 za9 (mC (.str "has ")) (m1 (zdu [1,2,3,4,5,6,7] "role") (mV 0))))
def zaE:FnT:=zbY zlQ 1 1
def zlR:BdT:=
 (zaW (m2 za9 (mC (.str "not ")) (m1 (zdu [1,2,3,4,5,6,7] "role") (mV 0))))
def zaF:FnT:=zbY zlR 1 1
def zgb (zaE : FnT) (zaF : FnT) : BdT :=
  (za2 (mIf (zae (m2 oEq (mFr (m1 zbK (zab (mV 1) zaj))) (mC (.int 0))))
    (zaW (mSh (mC (.str ""))))
    zaK)
   (zaW (m2 za9 (mFr (m2 za9 (mFr (m2 za9 (mC (.str " ")) (mV 0))) (mC (.str " ")))) (mFr (mBM zcL (mC (.str " and ")) (zab (mFr (ze1 1 [] (zlf (mV 1)) (gN 0) zf5 (mFr (zhu (zbZ 2 "row" zaE (mV 0) zaj)
      (zbZ 6 "row" zaF (mV 0) zaj))))) zaj))))))
def zb6:BdT:=zgb zaE zaF
def zaz:FnT:=zbY zb6 2 2
def zkb (zaz:FnT):BdT:=
 (zaW (m2 za9 (mFr (m2 za9 (mFr (m2 za9 (mFr (m2 za9 (mC (.str "give ")) (m1 (zdu [1,2,3,4,5,6,7] "role") (mV 0)))) (mC (.str " by ")))) (m1 (zdu [1,7] "by") (mV 0)))) (mFr (m1 zaz (zab (mC (.str "to")) (zab (m1 (zdu [1,4,7] "terms") (mV 0)) zaj))))))
def zkc:BdT:=zkb zaz
def zbj:FnT:=zbY zkc 1 1
def zkd:BdT:=
 (zaW (m2 za9 (mC (.str "last ")) (m1 (zdu [1,2,3,4,5,6,7] "role") (mV 0))))
def zbk:FnT:=zbY zkd 1 1
def zlS (zaz:FnT):BdT:=
 (zaW (m2 za9 (mFr (m2 za9 (mC (.str "lay ")) (m1 (zdu [1,2,3,4,5,6,7] "role") (mV 0)))) (mFr (m1 zaz (zab (mC (.str "if")) (zab (m1 (zdu [1,4,7] "terms") (mV 0)) zaj))))))
def zlT:BdT:=zlS zaz
def zbO:FnT:=zbY zlT 1 1
def zke:BdT:=
 (zaW (m2 za9 (mFr (m2 za9 (mFr (m2 za9 (mC (.str "most ")) (mFr (m1 zkH (zab (m1 (zdu [5] "most") (mV 0)) zaj))))) (mC (.str " ")))) (m1 (zdu [1,2,3,4,5,6,7] "role") (mV 0))))
def zbl:FnT:=zbY zke 1 1
def zkf (zaz:FnT):BdT:=
 (zaW (m2 za9 (mFr (m2 za9 (mFr (m2 za9 (mFr (m2 za9 (mC (.str "take ")) (m1 (zdu [1,2,3,4,5,6,7] "role") (mV 0)))) (mC (.str " by ")))) (m1 (zdu [1,7] "by") (mV 0)))) (mFr (m1 zaz (zab (mC (.str "from")) (zab (m1 (zdu [1,4,7] "terms") (mV 0)) zaj))))))
def zkg:BdT:=zkf zaz
def zbm:FnT:=zbY zkg 1 1
def zcD : BdT :=
  (za2 (mIf (zae (m2 oEq (mFr (m1 zbK (zab (mV 0) zaj))) (mC (.int 3))))
    (zaW (zda (zab (zw6 (zab (m2 oIx (mV 0) (mC (.int 1))) (zab (m2 oIx (mV 0) (mC (.int 2))) zaj))) zaj)))
    zaK)
   (za2 (mIf (zae (m2 oEq (mFr (m1 zbK (zab (mV 0) zaj))) (mC (.int 6))))
    (zaW (zda (zab (zw6 (zab (m2 oIx (mV 0) (mC (.int 1))) (zab (m2 oIx (mV 0) (mC (.int 2))) zaj))) (zab (zw6 (zab (m2 oIx (mV 0) (mC (.int 4))) (zab (m2 oIx (mV 0) (mC (.int 5))) zaj))) zaj))))
    zaK)
   (zaW (zda zaj))))
def zaP:FnT:=zbY zcD 1 1
def zeR (zaE : FnT) (zaF : FnT) (zaP : FnT) : BdT :=
  (zaW (mSh (m2 oEq (mFr (ze1 1 [] (zlf (m1 (zdu [1, 4, 7] "terms") (mV 0))) (gN 0) zf5 (mFr (m1 ze4 (zab (mFr (mBM zbB (mFr (zhu (zbZ 2 "row" zaE (mV 0) zaj)
      (zbZ 6 "row" zaF (mV 0) zaj))) (zab (mC (.str " ")) zaj))) zaj))))) (mFr (m1 zaP (zab (mV 1) zaj))))))
def za8:BdT:=zeR zaE zaF zaP
def zaA:FnT:=zbY za8 2 2
def zb7 (zaA : FnT) : BdT :=
  (za2 (mIf (mOr (zae (m2 oEq (m2 oIx (mV 1) (mC (.int 0))) (mC (.str "give")))) (zae (m2 oEq (m2 oIx (mV 1) (mC (.int 0))) (mC (.str "take")))))
    (za2 (mIf (mOr (zrr (zae (m2 oEq (m2 oIx (mV 1) (mC (.int 0))) (mC (.str "give")))) (zfW (zae (mFr (m1 (zeQ tab) (zab (mV 0) (zab (mC (.cls 1)) zaj))))))) (zrr (zae (m2 oEq (m2 oIx (mV 1) (mC (.int 0))) (mC (.str "take")))) (zfW (zae (mFr (m1 (zeQ tab) (zab (mV 0) (zab (mC (.cls 7)) zaj))))))))
      (zaW (mSh (mC (.bl false))))
      zaK)
     (zaW (mSh (zjw (zae (m2 oEq (mFr (zda (zab (m1 (zdu [1, 2, 3, 4, 5, 6, 7] "role") (mV 0)) (zab (m1 (zdu [1, 7] "by") (mV 0)) zaj)))) (mFr (zda (zab (m2 oIx (mV 1) (mC (.int 1))) (zab (m2 oIx (mV 1) (mC (.int 3))) zaj)))))) (mFr (m1 zaA (zab (mV 0) (zab (mFr (mSl (mV 1) (mAt (mC (.int 4))) mNo)) zaj)))) (mC (.bl false))))))
    zaK)
   (za2 (mIf (zae (m2 oEq (m2 oIx (mV 1) (mC (.int 0))) (mC (.str "lay"))))
    (zaW (mSh (zjw (zae (mFr (m1 (zeQ tab) (zab (mV 0) (zab (mC (.cls 4)) zaj))))) (zjw (zae (m2 oEq (m1 (zdu [1, 2, 3, 4, 5, 6, 7] "role") (mV 0)) (m2 oIx (mV 1) (mC (.int 1))))) (mFr (m1 zaA (zab (mV 0) (zab (mFr (mSl (mV 1) (mAt (mC (.int 2))) mNo)) zaj)))) (mC (.bl false))) (mC (.bl false)))))
    zaK)
   (za2 (mIf (zae (m2 oEq (m2 oIx (mV 1) (mC (.int 0))) (mC (.str "both"))))
    (zaW (mSh (zjw (zae (mFr (m1 (zeQ tab) (zab (mV 0) (zab (mC (.cls 0)) zaj))))) (m2 oEq (mFr (zda (zab (m1 (zdu [0] "one") (mV 0)) (zab (m1 (zdu [0] "other") (mV 0)) zaj)))) (mFr (mSl (mV 1) (mAt (mC (.int 1))) mNo))) (mC (.bl false)))))
    zaK)
   (za2 (mIf (zae (m2 oEq (m2 oIx (mV 1) (mC (.int 0))) (mC (.str "most"))))
    (za2 (mIf (zae (mFr (m1 (zeQ tab) (zab (m1 (zdu [5] "most") (mV 0)) (zab (mC (.ty "bool")) zaj)))))
      (zaW (mSh (mC (.bl false))))
      zaK)
     (zaW (mSh (zjw (zae (mFr (m1 (zeQ tab) (zab (mV 0) (zab (mC (.cls 5)) zaj))))) (m2 oEq (mFr (zda (zab (m1 (zdu [5] "most") (mV 0)) (zab (m1 (zdu [1, 2, 3, 4, 5, 6, 7] "role") (mV 0)) zaj)))) (mFr (zda (zab (mFr (m1 zkP (zab (m2 oIx (mV 1) (mC (.int 1))) zaj))) (zab (m2 oIx (mV 1) (mC (.int 2))) zaj))))) (mC (.bl false))))))
    zaK)
   (zaW (mSh (zjw (zae (mFr (m1 (zeQ tab) (zab (mV 0) (zab (mC (.cls 3)) zaj))))) (m2 oEq (m1 (zdu [1, 2, 3, 4, 5, 6, 7] "role") (mV 0)) (m2 oIx (mV 1) (mC (.int 1)))) (mC (.bl false)))))))))
def zby:BdT:=zb7 zaA
def zau:FnT:=zbY zby 2 2
def zqj (zaJ : FnT) (zaD : FnT) (zaV : FnT) (za3 : FnT) (za7 : FnT) (zaO : FnT) (zbi : FnT) (zbj : FnT) (zaE : FnT) (zbk : FnT) (zbO : FnT) (zbl : FnT) (zaF : FnT) (zbm : FnT) (zau : FnT) : BdT :=
  (za2 (zcU 2 [0, 1] (m1 zaJ (zab (mFr (m1 zaD (zab (mV 0) (zab (mV 1) zaj)))) (zab (mC (.int 23)) zaj))))
     (za2 (zcU 3 [2] (m1 zaV (zab (mFr (m1 za3 (zab (mV 2) zaj))) (zab (mV 2) zaj))))
     (za2 (zyB [3] (m1 za7 (zab (mV 3) zaj)) (gSq 2 (gCs (gN 4) (gCs (gN 5) gNs))))
     (mIf (zfW (zae (mFr (m1 zaO (zab (mV 3) zaj)))))
      (mIf (mOr (zae (m2 zhw (mV 4) (mC .non))) (mOr (zae (m2 ziw (mV 5) (mFr (zda (zab (mC (.bl true)) (zab (mV 3) zaj)))))) (zae (m2 ziw (mFr (m1 (zeQ tab) (zab (mV 3) (zab (mC (.ty "bool")) zaj)))) (mFr (m1 (zeQ tab) (zab (m2 oIx (mV 5) (mC (.int 1))) (zab (mC (.ty "bool")) zaj))))))))
        (zaW (mSh (mC (.bl false))))
        zaK)
      (mIf (mOr (zae (m2 zhw (mV 5) (mC .non))) (mOr (zae (m2 ziw (mFr (zhu (zbZ 0 "row" zbi (mV 4) zaj)
      (zhu (zbZ 1 "row" zbj (mV 4) zaj)
      (zhu (zbZ 2 "row" zaE (mV 4) zaj)
      (zhu (zbZ 3 "row" zbk (mV 4) zaj)
      (zhu (zbZ 4 "row" zbO (mV 4) zaj)
      (zhu (zbZ 5 "row" zbl (mV 4) zaj)
      (zhu (zbZ 6 "row" zaF (mV 4) zaj)
      (zbZ 7 "row" zbm (mV 4) zaj))))))))) (mV 3))) (zfW (zae (mFr (m1 zau (zab (mV 4) (zab (mFr (mBM zbB (mV 3) (zab (mC (.str " ")) zaj))) zaj))))))))
        (zaW (mSh (mC (.bl false))))
        zaK)))))
def zgc:BdT:=zqj zaJ zaD zaV za3 za7 zaO zbi zbj zaE zbk zbO zbl zaF zbm zau
def zzr (zgc : BdT) : BdT :=
  (za2 (zr0 (mR1 (zab (mFr (m1 zw7 (zab (mC (.int 1)) (zab (mFr (m1 zAJ (zab (mFr (m1 zbK (zab (mV 0) zaj))) (zab (mC (.int 40)) zaj)))) zaj)))) zaj)) (gN 1)
    zgc)
   (zaW (mSh (mC (.bl true)))))
def zsE:BdT:=zzr zgc
def zmT:FnT:=zbY zsE 1 6
end
theorem csm {NX N:List Str} {SX scope:Scope} {own:Nat} {fi:List Nat} (a:scope.kind=.function:=by rfl) (b:∀ y∈scope.names,y.2≠.cell:=by decide +kernel) (c:∀ y∈scope.names,y.2=.local->scope.names.lookup y.1=some .local:=by decide +kernel) (d:∀ y∈scope.names,y.2=.free->SX.names.lookup y.1=some .cell\/SX.names.lookup y.1=some .free:=by decide +kernel) (e:N.length=own+fi.length:=by rfl) (f:∀ p∈(N.drop own).zip fi,NX[p.2]? = some p.1/\scope.names.lookup p.1=some .free:=by decide +kernel):CompScope NX SX scope N own fi:=⟨a,b,c,d,e,f⟩
theorem lO {ι:Type} {Xs:ι->Cx} {x:Str} (h:∀ j,(Xs j).env.scope.names.lookup x=some .local:=by intro _; rfl):∀ j,Loc (Xs j).env.scope x:=λj=>.inl (h j)
theorem bLn:bootBuiltins "len"=some (.builtin "len"):=PyProof.Rows.Boot.«len»
theorem bIs:bootBuiltins "isinstance"=some (.builtin "isinstance"):=PyProof.Rows.Boot.«isinstance»
abbrev nL0:List Str:=["_law_one","_law_words_here"]
abbrev nL1:List Str:=["self"]
abbrev nL2:List Str:=["self","role","by","terms"]
abbrev nL3:List Str:=["words"]
abbrev nL4:List Str:=["self","role"]
abbrev nL5:List Str:=["words","link","pieces","terms"]
abbrev nL6:List Str:=["_law_words_here","_law_numbers"]
abbrev nL7:List Str:=["_law_number","_law_words_here","_law_letters"]
abbrev nL8:List Str:=["self","role","terms"]
abbrev nL9:List Str:=["_law_script","_law_k"]
abbrev zAS:List Str:=["self","one","other"]
abbrev zAT:List Str:=["self","most","role"]
abbrev ztE:List Str:=["_law_row"]
abbrev zB5:List Str:=["_law_words_here","_law_form"]
abbrev zzs:List Str:=["words","size"]
abbrev zzt:List Str:=["link","terms"]
abbrev zB6:List Str:=["_law_word","_law_number"]
abbrev zB7:List Str:=["_law_cell","_law_many"]
abbrev zAU:List Str:=["_law_words_here"]
def top (i:Nat):Stmt:=PySem.Challenge.pw_mightever_k15_rows_of_rules.main.body.getD i (.Pass ⟨0,0,0,0⟩)
abbrev zdk:Stmt:=zbW (top 7) 0
theorem zix:FnScope ["self","found"] ["self","found"] (zad zdk):=scm
abbrev zfb:Stmt:=top 35
theorem zbz:FnScope ["_law_cell","_law_many","_law_found","_law_left","_law_number","_law_k"] zB7 (zad zfb):=scm
abbrev zf0:Stmt:=top 37
theorem zgd:FnScope nL7 ["_law_number"] (zad zf0):=scm
abbrev zdK:Stmt:=top 39
theorem zdl:FnScope ["_law_word","_law_number","_law_sign","_law_at"] zB6 (zad zdK):=scm
abbrev zfc:Stmt:=top 40
theorem zcX:FnScope ["_law_words_here","_law_numbers","_law_way","_law_at","_law_some"] nL6 (zad zfc):=scm
abbrev zei:Stmt:=top 23
theorem zlU:FnScope zzs zzs (zad zei):=scm
abbrev zcp:Stmt:=zbW (top 2) 0
theorem zge:FnScope nL4 nL4 (zad zcp):=scm
abbrev zhb:Stmt:=top 20
theorem zoq:FnScope ["thing"] ["thing"] (zad zhb):=scm
abbrev zdL:Stmt:=top 24
theorem ziU:FnScope nL3 nL3 (zad zdL):=scm
abbrev zec:Stmt:=top 25
theorem zgf:FnScope nL5 ["words","link"] (zad zec):=scm
abbrev zej:Stmt:=zbW (top 12) 0
theorem zjD:FnScope nL2 nL2 (zad zej):=scm
abbrev zek:Stmt:=zbW (top 11) 0
theorem zjE:FnScope nL2 nL2 (zad zek):=scm
abbrev zcE:Stmt:=top 26
theorem zdB:FnScope ["words","terms"] nL3 (zad zcE):=scm
abbrev zfd:Stmt:=zbW (top 13) 0
theorem zkU:FnScope nL8 nL8 (zad zfd):=scm
abbrev zkV:Stmt:=top 27
theorem zlV:FnScope ["words","terms"] nL3 (zad zkV):=scm
abbrev zel:Stmt:=zbW (top 14) 0
theorem zjF:FnScope zAS zAS (zad zel):=scm
abbrev ziV:Stmt:=top 28
theorem zor:FnScope nL3 nL3 (zad ziV):=scm
abbrev zem:Stmt:=zbW (top 15) 0
theorem zjG:FnScope zAT zAT (zad zem):=scm
abbrev ziW:Stmt:=top 29
theorem zos:FnScope nL3 nL3 (zad ziW):=scm
abbrev zen:Stmt:=zbW (top 16) 0
theorem zjH:FnScope nL4 nL4 (zad zen):=scm
abbrev ziX:Stmt:=top 30
theorem zot:FnScope nL3 nL3 (zad ziX):=scm
abbrev zdm:Stmt:=top 31
theorem ziy:FnScope nL3 nL3 (zad zdm):=scm
abbrev ziY:Stmt:=top 32
theorem zkh:FnScope ["row","rule"] ["row"] (zad ziY):=scm
abbrev zhC:Stmt:=top 47
theorem zcF:FnScope ["_law_row","_law_found","_law_refused","e"] ztE (zad zhC):=scm
abbrev zeo:Stmt:=top 34
theorem zjI:FnScope nL9 nL9 (zad zeo):=scm
abbrev zep:Stmt:=top 36
theorem zfe:FnScope ["_law_forms_here"] [] (zad zep):=scm
abbrev zgg:Stmt:=top 38
theorem zbr:FnScope ["_law_numbers","_law_words_here","_law_k","_law_part","_law_word"] ["_law_numbers"] (zad zgg):=scm
abbrev zcY:Stmt:=top 41
theorem zjJ:FnScope ["_law_word"] ["_law_word"] (zad zcY):=scm
abbrev zhD:Stmt:=top 42
theorem zgh:FnScope ["_law_words_here","_law_form","_law_word","_law_part"] zB5 (zad zhD):=scm
abbrev zf1:Stmt:=top 43
theorem zmU:FnScope ztE ztE (zad zf1):=scm
abbrev zhE:Stmt:=zbW (top 14) 2
theorem zmV:FnScope nL1 nL1 (zad zhE):=scm
abbrev ziZ:Stmt:=zbW (top 3) 1
theorem zou:FnScope nL1 nL1 (zad ziZ):=scm
abbrev zi0:Stmt:=zbW (top 4) 1
theorem zov:FnScope nL1 nL1 (zad zi0):=scm
abbrev zeq:Stmt:=top 9
theorem zlW:FnScope zzt zzt (zad zeq):=scm
abbrev zhF:Stmt:=zbW (top 11) 2
theorem zmW:FnScope nL1 nL1 (zad zhF):=scm
abbrev zhG:Stmt:=zbW (top 16) 2
theorem zmX:FnScope nL1 nL1 (zad zhG):=scm
abbrev zi1:Stmt:=zbW (top 13) 2
theorem zow:FnScope nL1 nL1 (zad zi1):=scm
abbrev zhH:Stmt:=zbW (top 15) 2
theorem zmY:FnScope nL1 nL1 (zad zhH):=scm
abbrev zhI:Stmt:=zbW (top 12) 2
theorem zmZ:FnScope nL1 nL1 (zad zhI):=scm
abbrev zgi:Stmt:=top 44
theorem zlX:FnScope zAU zAU (zad zgi):=scm
abbrev zb4:Stmt:=top 45
theorem zhJ:FnScope nL0 nL0 (zad zb4):=scm
abbrev zgj:Stmt:=top 46
theorem zlY:FnScope nL0 nL0 (zad zgj):=scm
abbrev zsF:Stmt:=top 48
theorem zki:FnScope ["_law_script","_law_k","_law_numbers","_law_row","_law_found","_law_refused"] ["_law_script"] (zad zsF):=scm
structure Adr where
 zbs:Addr
 zbn:Addr
 zhc:Addr
 zbE:Addr
 zcO:Addr
 zbt:Addr
 zhd:Addr
 zbo:Addr
 zav:Addr
 zaU:Addr
 zed:Addr
 zcq:Addr
 zff:FuncData
 zaJ:Addr
 zfg:FuncData
 za5:Addr
 zhK:FuncData
 zaS:Addr
 zdM:FuncData
 zaV:Addr
 zfh:FuncData
 zbw:Addr
 zgk:FuncData
 zbL:Addr
 zcr:FuncData
 zar:Addr
 zi2:FuncData
 zaG:Addr
 zdN:FuncData
 za6:Addr
 zhL:FuncData
 zer:Addr
 zes:FuncData
 zet:Addr
 zeu:FuncData
 zaC:Addr
 zcG:FuncData
 zfi:Addr
 zfj:FuncData
 zcW:Addr
 zkW:FuncData
 zev:Addr
 zew:FuncData
 zcl:Addr
 zi3:FuncData
 zex:Addr
 zey:FuncData
 zcm:Addr
 zi4:FuncData
 zez:Addr
 zeA:FuncData
 zcn:Addr
 zi5:FuncData
 zaH:Addr
 zdn:FuncData
 zaY:Addr
 zi6:FuncData
 za7:Addr
 zhM:FuncData
 zaD:Addr
 zeB:FuncData
 zaN:Addr
 zgl:FuncData
 za3:Addr
 zgm:FuncData
 zaT:Addr
 zeC:FuncData
 zbG:Addr
 zhN:FuncData
 zaO:Addr
 zhO:FuncData
 zbi:Addr
 zhP:FuncData
 zaE:Addr
 zi7:FuncData
 zaF:Addr
 zi8:FuncData
 zaz:Addr
 zgn:FuncData
 zbj:Addr
 zhQ:FuncData
 zbk:Addr
 zhR:FuncData
 zbO:Addr
 zi9:FuncData
 zbl:Addr
 zhS:FuncData
 zbm:Addr
 zhT:FuncData
 zaP:Addr
 zgo:FuncData
 zaA:Addr
 zcR:FuncData
 zau:Addr
 zgp:FuncData
 zmT:Addr
 zvS:FuncData
structure Txt (K:W.Frag) (mg:Str->Option Value) (A:Adr):Prop where
 zfk:Fun K "__init__" "NoRule.__init__" zdk A.zcq A.zff
 zfl:Fun K "_law_stream" "_law_stream" zfb A.zaJ A.zfg
 zdz:mg "_law_stream"=some (.ref A.zaJ)
 zf2:Fun K "_law_name" "_law_name" zf0 A.za5 A.zhK
 zdb:mg "_law_name"=some (.ref A.za5)
 zdO:Fun K "_law_odd_word" "_law_odd_word" zdK A.zaS A.zdM
 zbe:mg "_law_odd_word"=some (.ref A.zaS)
 zfm:Fun K "_law_spoilt" "_law_spoilt" zfc A.zaV A.zfh
 zcN:mg "_law_spoilt"=some (.ref A.zaV)
 zgq:Fun K "pieces_of" "pieces_of" zei A.zbw A.zgk
 zdh:mg "pieces_of"=some (.ref A.zbw)
 zdC:Fun K "__init__" "Condition.__init__" zcp A.zbL A.zcr
 zb2:Fun K "is_name" "is_name" zhb A.zar A.zi2
 zbC:mg "is_name"=some (.ref A.zar)
 zdP:Fun K "condition_of" "condition_of" zdL A.zaG A.zdN
 zb0:mg "condition_of"=some (.ref A.zaG)
 zf3:Fun K "terms_of" "terms_of" zec A.za6 A.zhL
 zdc:mg "terms_of"=some (.ref A.za6)
 zhe:Fun K "__init__" "Take.__init__" zej A.zer A.zes
 zhf:Fun K "__init__" "Give.__init__" zek A.zet A.zeu
 zcH:Fun K "give_or_take_of" "give_or_take_of" zcE A.zaC A.zcG
 zbh:mg "give_or_take_of"=some (.ref A.zaC)
 zin:Fun K "__init__" "Lay.__init__" zfd A.zfi A.zfj
 zkX:Fun K "lay_of" "lay_of" zkV A.zcW A.zkW
 zg6:mg "lay_of"=some (.ref A.zcW)
 zhg:Fun K "__init__" "Both.__init__" zel A.zev A.zew
 zja:Fun K "both_of" "both_of" ziV A.zcl A.zi3
 ze7:mg "both_of"=some (.ref A.zcl)
 zhh:Fun K "__init__" "Most.__init__" zem A.zex A.zey
 zjb:Fun K "most_of" "most_of" ziW A.zcm A.zi4
 ze8:mg "most_of"=some (.ref A.zcm)
 zhi:Fun K "__init__" "Last.__init__" zen A.zez A.zeA
 zjc:Fun K "last_of" "last_of" ziX A.zcn A.zi5
 ze9:mg "last_of"=some (.ref A.zcn)
 zdo:Fun K "rule_of_words" "rule_of_words" zdm A.zaH A.zdn
 zbN:mg "rule_of_words"=some (.ref A.zaH)
 zjd:Fun K "rule_of" "rule_of" ziY A.zaY A.zi6
 zb1:mg "rule_of"=some (.ref A.zaY)
 zhU:Fun K "_law_read" "_law_read" zhC A.za7 A.zhM
 zcB:mg "_law_read"=some (.ref A.za7)
 zeD:Fun K "_law_cell_at" "_law_cell_at" zeo A.zaD A.zeB
 zco:mg "_law_cell_at"=some (.ref A.zaD)
 zeE:Fun K "_law_forms" "_law_forms" zep A.zaN A.zgl
 zcC:mg "_law_forms"=some (.ref A.zaN)
 zgr:Fun K "_law_words" "_law_words" zgg A.za3 A.zgm
 zdj:mg "_law_words"=some (.ref A.za3)
 zeF:Fun K "_law_is_name" "_law_is_name" zcY A.zaT A.zeC
 zba:mg "_law_is_name"=some (.ref A.zaT)
 zhV:Fun K "_law_fits" "_law_fits" zhD A.zbG A.zhN
 zeb:mg "_law_fits"=some (.ref A.zbG)
 zhW:Fun K "_law_good" "_law_good" zf1 A.zaO A.zhO
 zdd:mg "_law_good"=some (.ref A.zaO)
 zkj:Fun K "row" "Both.row" zhE A.zbi A.zhP
 zlZ:Fun K "row" "Has.row" ziZ A.zaE A.zi7
 zl0:Fun K "row" "Not.row" zi0 A.zaF A.zi8
 zdp:Fun K "terms_row" "terms_row" zeq A.zaz A.zgn
 zb6:mg "terms_row"=some (.ref A.zaz)
 zkk:Fun K "row" "Give.row" zhF A.zbj A.zhQ
 zkl:Fun K "row" "Last.row" zhG A.zbk A.zhR
 zl1:Fun K "row" "Lay.row" zi1 A.zbO A.zi9
 zkm:Fun K "row" "Most.row" zhH A.zbl A.zhS
 zkn:Fun K "row" "Take.row" zhI A.zbm A.zhT
 zgs:Fun K "_law_terms" "_law_terms" zgi A.zaP A.zgo
 zcD:mg "_law_terms"=some (.ref A.zaP)
 zb5:Fun K "_law_same_terms" "_law_same_terms" zb4 A.zaA A.zcR
 za8:mg "_law_same_terms"=some (.ref A.zaA)
 zgt:Fun K "_law_right" "_law_right" zgj A.zau A.zgp
 zby:mg "_law_right"=some (.ref A.zau)
 zB8:Fun K "law" "law" zsF A.zmT A.zvS
 zsE:mg "law"=some (.ref A.zmT)
 zqk:mg "Both"=some (.ref A.zbs)
 zql:mg "Give"=some (.ref A.zbn)
 zzu:mg "Has"=some (.ref A.zhc)
 zqm:mg "Last"=some (.ref A.zbE)
 ztF:mg "Lay"=some (.ref A.zcO)
 zqn:mg "Most"=some (.ref A.zbt)
 zzv:mg "Not"=some (.ref A.zhd)
 zqo:mg "Take"=some (.ref A.zbo)
 zhj:mg "NoRule"=some (.ref A.zav)
 zjK:mg "OfficeError"=some (.ref A.zaU)
 zm0:Cls K A.zbs
 zzw:Mk K A.zbs A.zev
 zkY:Cls K A.zbn
 zzx:Mk K A.zbn A.zet
 znH:Cls K A.zhc
 zB9:Mk K A.zhc A.zbL
 zqp:Cls K A.zbE
 zzy:Mk K A.zbE A.zez
 zqq:Cls K A.zcO
 zCa:Mk K A.zcO A.zfi
 zm1:Cls K A.zbt
 zzz:Mk K A.zbt A.zex
 znI:Cls K A.zhd
 zCb:Mk K A.zhd A.zbL
 zkZ:Cls K A.zbo
 zzA:Mk K A.zbo A.zer
 zgu:NoAttr K A.zbs "one"
 zeG:NoAttr K A.zbs "other"
 zfn:NoAttr K A.zbn "role"
 zhX:NoAttr K A.zbn "by"
 zeH:NoAttr K A.zbn "terms"
 zgv:NoAttr K A.zhc "role"
 zfo:NoAttr K A.zbE "role"
 zgw:NoAttr K A.zcO "role"
 zfp:NoAttr K A.zcO "terms"
 zfq:NoAttr K A.zbt "most"
 zfr:NoAttr K A.zbt "role"
 zgx:NoAttr K A.zhd "role"
 zfs:NoAttr K A.zbo "role"
 zhY:NoAttr K A.zbo "by"
 zeI:NoAttr K A.zbo "terms"
 zm2:Meth K A.zbs "row" A.zbi
 zm3:Meth K A.zbn "row" A.zbj
 zhZ:Meth K A.zhc "row" A.zaE
 zm4:Meth K A.zbE "row" A.zbk
 zox:Meth K A.zcO "row" A.zbO
 zm5:Meth K A.zbt "row" A.zbl
 zh0:Meth K A.zhd "row" A.zaF
 zm6:Meth K A.zbo "row" A.zbm
 zdQ:KInst K A.zbs
 zdR:KInst K A.zbn
 zdS:KInst K A.zbE
 zf7:KInst K A.zcO
 zdT:KInst K A.zbt
 zdU:KInst K A.zbo
 zft:W.kitOne K (.ref A.zbs) (.ref A.zbs)=some true
 zfu:W.kitOne K (.ref A.zbs) (.ref A.zbn)=some false
 zgy:W.kitOne K (.ref A.zbs) (.ref A.zhc)=some false
 zfv:W.kitOne K (.ref A.zbs) (.ref A.zbE)=some false
 zgz:W.kitOne K (.ref A.zbs) (.ref A.zcO)=some false
 zfw:W.kitOne K (.ref A.zbs) (.ref A.zbt)=some false
 zgA:W.kitOne K (.ref A.zbs) (.ref A.zhd)=some false
 zfx:W.kitOne K (.ref A.zbs) (.ref A.zbo)=some false
 zdV:W.kitOne K (.ref A.zbs) (.ref A.zav)=some false
 zb8:W.kitOne K (.ref A.zbs) (.ref A.zaU)=some false
 zfy:W.kitOne K (.ref A.zbn) (.ref A.zbs)=some false
 zfz:W.kitOne K (.ref A.zbn) (.ref A.zbn)=some true
 zgB:W.kitOne K (.ref A.zbn) (.ref A.zhc)=some false
 zfA:W.kitOne K (.ref A.zbn) (.ref A.zbE)=some false
 zgC:W.kitOne K (.ref A.zbn) (.ref A.zcO)=some false
 zfB:W.kitOne K (.ref A.zbn) (.ref A.zbt)=some false
 zgD:W.kitOne K (.ref A.zbn) (.ref A.zhd)=some false
 zfC:W.kitOne K (.ref A.zbn) (.ref A.zbo)=some false
 zdW:W.kitOne K (.ref A.zbn) (.ref A.zav)=some false
 zb9:W.kitOne K (.ref A.zbn) (.ref A.zaU)=some false
 zfD:W.kitOne K (.ref A.zbE) (.ref A.zbs)=some false
 zfE:W.kitOne K (.ref A.zbE) (.ref A.zbn)=some false
 zgE:W.kitOne K (.ref A.zbE) (.ref A.zhc)=some false
 zfF:W.kitOne K (.ref A.zbE) (.ref A.zbE)=some true
 zgF:W.kitOne K (.ref A.zbE) (.ref A.zcO)=some false
 zfG:W.kitOne K (.ref A.zbE) (.ref A.zbt)=some false
 zgG:W.kitOne K (.ref A.zbE) (.ref A.zhd)=some false
 zfH:W.kitOne K (.ref A.zbE) (.ref A.zbo)=some false
 zdX:W.kitOne K (.ref A.zbE) (.ref A.zav)=some false
 zca:W.kitOne K (.ref A.zbE) (.ref A.zaU)=some false
 zgH:W.kitOne K (.ref A.zcO) (.ref A.zbs)=some false
 zgI:W.kitOne K (.ref A.zcO) (.ref A.zbn)=some false
 zh1:W.kitOne K (.ref A.zcO) (.ref A.zhc)=some false
 zgJ:W.kitOne K (.ref A.zcO) (.ref A.zbE)=some false
 zh2:W.kitOne K (.ref A.zcO) (.ref A.zcO)=some true
 zgK:W.kitOne K (.ref A.zcO) (.ref A.zbt)=some false
 zh3:W.kitOne K (.ref A.zcO) (.ref A.zhd)=some false
 zgL:W.kitOne K (.ref A.zcO) (.ref A.zbo)=some false
 zeJ:W.kitOne K (.ref A.zcO) (.ref A.zav)=some false
 zcs:W.kitOne K (.ref A.zcO) (.ref A.zaU)=some false
 zfI:W.kitOne K (.ref A.zbt) (.ref A.zbs)=some false
 zfJ:W.kitOne K (.ref A.zbt) (.ref A.zbn)=some false
 zgM:W.kitOne K (.ref A.zbt) (.ref A.zhc)=some false
 zfK:W.kitOne K (.ref A.zbt) (.ref A.zbE)=some false
 zgN:W.kitOne K (.ref A.zbt) (.ref A.zcO)=some false
 zfL:W.kitOne K (.ref A.zbt) (.ref A.zbt)=some true
 zgO:W.kitOne K (.ref A.zbt) (.ref A.zhd)=some false
 zfM:W.kitOne K (.ref A.zbt) (.ref A.zbo)=some false
 zdY:W.kitOne K (.ref A.zbt) (.ref A.zav)=some false
 zcb:W.kitOne K (.ref A.zbt) (.ref A.zaU)=some false
 zfN:W.kitOne K (.ref A.zbo) (.ref A.zbs)=some false
 zfO:W.kitOne K (.ref A.zbo) (.ref A.zbn)=some false
 zgP:W.kitOne K (.ref A.zbo) (.ref A.zhc)=some false
 zfP:W.kitOne K (.ref A.zbo) (.ref A.zbE)=some false
 zgQ:W.kitOne K (.ref A.zbo) (.ref A.zcO)=some false
 zfQ:W.kitOne K (.ref A.zbo) (.ref A.zbt)=some false
 zgR:W.kitOne K (.ref A.zbo) (.ref A.zhd)=some false
 zfR:W.kitOne K (.ref A.zbo) (.ref A.zbo)=some true
 zdZ:W.kitOne K (.ref A.zbo) (.ref A.zav)=some false
 zcc:W.kitOne K (.ref A.zbo) (.ref A.zaU)=some false
 zje:XCls K A.zav
 zhk:W.findIn K (.ref A.zav) "__init__"=some (some (.ref A.zcq))
 zl2:W.isFn K (.ref A.zcq)=true
 zhl:W.keepIn K (.ref A.zav)=true
 zjf:W.takerIn K A.zav "found"=some none
 zqr:XGet K A.zav
 zjg:NoAttr K A.zav "found"
 zfS:W.exmOne K (.ref A.zav) (.ref A.zaU)=some true
 zb3:XIs K A.zav
 zd0:W.kitOne K (.ref A.zav) (.ref A.zbs)=some false
 zd1:W.kitOne K (.ref A.zav) (.ref A.zbn)=some false
 zeK:W.kitOne K (.ref A.zav) (.ref A.zhc)=some false
 zd2:W.kitOne K (.ref A.zav) (.ref A.zbE)=some false
 zeL:W.kitOne K (.ref A.zav) (.ref A.zcO)=some false
 zd3:W.kitOne K (.ref A.zav) (.ref A.zbt)=some false
 zeM:W.kitOne K (.ref A.zav) (.ref A.zhd)=some false
 zd4:W.kitOne K (.ref A.zav) (.ref A.zbo)=some false
 zcS:W.kitOne K (.ref A.zav) (.ref A.zav)=some true
 zbP:W.kitOne K (.ref A.zav) (.ref A.zaU)=some true
 zqs:KEq K A.zhc
 zqt:KEq K A.zhd
 zh4:mg "FIGURES"=some (.ref A.zed)
 zh5:KnT K A.zed ((["1","2","3","4"]:List Str).map V.str)
 zvT:mg "all"=none
 zl3:mg "bool"=none
 zgS:mg "enumerate"=none
 zqu:mg "int"=none
 zaw:mg "isinstance"=none
 zdw:mg "len"=none
 znJ:mg "list"=none
 zvU:mg "max"=none
 zvV:mg "min"=none
 zh6:mg "range"=none
 zh7:mg "reversed"=none
 zm7:mg "str"=none
 zgT:mg "tuple"=none
 zvW:mg "zip"=none
 zqv:GC mg "LETTERS" (V.str "abcdefghijklmnopqrstuvwxyz")
 zjL:GC mg "LONGEST_NAME" (V.int 6)
def bk (K:W.Frag) (A:Adr):Bk:=⟨K,λc=>match c with | 0=>A.zbs | 1=>A.zbn | 2=>A.zhc | 3=>A.zbE | 4=>A.zcO | 5=>A.zbt | 6=>A.zhd | 7=>A.zbo | 8=>A.zav | 9=>A.zaU | _=>0⟩
section
variable {K:W.Frag} {mg:Str->Option Value} {A:Adr}
theorem zjh (T:Txt K mg A):Binds K A.zff ["self","found"] []:=T.zfk.b2
theorem zl4 (T:Txt K mg A):Binds K A.zfg zB7 []:=T.zfl.b2
theorem zko (T:Txt K mg A):Binds K A.zhK ["_law_number"] []:=T.zf2.b1
theorem zjM (T:Txt K mg A):Binds K A.zdM zB6 []:=T.zdO.b2
theorem zl5 (T:Txt K mg A):Binds K A.zfh nL6 []:=T.zfm.b2
theorem zm8 (T:Txt K mg A):Binds K A.zgk zzs []:=T.zgq.b2
theorem zdD (T:Txt K mg A):Binds K A.zcr nL4 []:=T.zdC.b2
theorem zcP (T:Txt K mg A):Binds K A.zi2 ["thing"] []:=T.zb2.b1
theorem zjN (T:Txt K mg A):Binds K A.zdN nL3 []:=T.zdP.b1
theorem zkp (T:Txt K mg A):Binds K A.zhL ["words","link"] []:=T.zf3.b2
theorem zk0 (T:Txt K mg A):Binds K A.zes nL2 []:=T.zhe.b4
theorem zk1 (T:Txt K mg A):Binds K A.zeu nL2 []:=T.zhf.b4
theorem zh8 (T:Txt K mg A):Binds K A.zcG nL3 []:=T.zcH.b1
theorem zl6 (T:Txt K mg A):Binds K A.zfj nL8 []:=T.zin.b3
theorem zsG (T:Txt K mg A):Binds K A.zkW nL3 []:=T.zkX.b1
theorem zk2 (T:Txt K mg A):Binds K A.zew zAS []:=T.zhg.b3
theorem zqw (T:Txt K mg A):Binds K A.zi3 nL3 []:=T.zja.b1
theorem zk3 (T:Txt K mg A):Binds K A.zey zAT []:=T.zhh.b3
theorem zqx (T:Txt K mg A):Binds K A.zi4 nL3 []:=T.zjb.b1
theorem zk4 (T:Txt K mg A):Binds K A.zeA nL4 []:=T.zhi.b2
theorem zqy (T:Txt K mg A):Binds K A.zi5 nL3 []:=T.zjc.b1
theorem zji (T:Txt K mg A):Binds K A.zdn nL3 []:=T.zdo.b1
theorem zqz (T:Txt K mg A):Binds K A.zi6 ["row"] []:=T.zjd.b1
theorem zoy (T:Txt K mg A):Binds K A.zhM ztE []:=T.zhU.b1
theorem zk5 (T:Txt K mg A):Binds K A.zeB nL9 []:=T.zeD.b2
theorem zjj (T:Txt K mg A):Binds K A.zgl [] []:=T.zeE.b0
theorem zm9 (T:Txt K mg A):Binds K A.zgm ["_law_numbers"] []:=T.zgr.b1
theorem zk6 (T:Txt K mg A):Binds K A.zeC ["_law_word"] []:=T.zeF.b1
theorem zoz (T:Txt K mg A):Binds K A.zhN zB5 []:=T.zhV.b2
theorem zoA (T:Txt K mg A):Binds K A.zhO ztE []:=T.zhW.b1
theorem zoB (T:Txt K mg A):Binds K A.zhP nL1 []:=T.zkj.b1
theorem zjk (T:Txt K mg A):Binds K A.zi7 nL1 []:=T.zlZ.b1
theorem zjl (T:Txt K mg A):Binds K A.zi8 nL1 []:=T.zl0.b1
theorem zgU (T:Txt K mg A):Binds K A.zgn zzt []:=T.zdp.b2
theorem zoC (T:Txt K mg A):Binds K A.zhQ nL1 []:=T.zkk.b1
theorem zoD (T:Txt K mg A):Binds K A.zhR nL1 []:=T.zkl.b1
theorem zqA (T:Txt K mg A):Binds K A.zi9 nL1 []:=T.zl1.b1
theorem zoE (T:Txt K mg A):Binds K A.zhS nL1 []:=T.zkm.b1
theorem zoF (T:Txt K mg A):Binds K A.zhT nL1 []:=T.zkn.b1
theorem zna (T:Txt K mg A):Binds K A.zgo zAU []:=T.zgs.b1
theorem zeS (T:Txt K mg A):Binds K A.zcR nL0 []:=T.zb5.b2
theorem znb (T:Txt K mg A):Binds K A.zgp nL0 []:=T.zgt.b2
theorem zl7 (T:Txt K mg A):∀ c∈[1,7],Cls (bk K A).K ((bk K A).cl c)/\NoAttr (bk K A).K ((bk K A).cl c) "by":=by
 intro c h;simp only [List.mem_cons,List.not_mem_nil,or_false] at h;rcases h with rfl | rfl
 ·exact ⟨T.zkY,T.zhX⟩
 ·exact ⟨T.zkZ,T.zhY⟩
theorem ziF (T:Txt K mg A):∀ c∈[5],Cls (bk K A).K ((bk K A).cl c)/\NoAttr (bk K A).K ((bk K A).cl c) "most":=by
 intro c h;simp only [List.mem_cons,List.not_mem_nil,or_false] at h;subst h;exact ⟨T.zm1,T.zfq⟩
theorem znc (T:Txt K mg A):∀ c∈[0],Cls (bk K A).K ((bk K A).cl c)/\NoAttr (bk K A).K ((bk K A).cl c) "one":=by
 intro c h;simp only [List.mem_cons,List.not_mem_nil,or_false] at h;subst h;exact ⟨T.zm0,T.zgu⟩
theorem zjm (T:Txt K mg A):∀ c∈[0],Cls (bk K A).K ((bk K A).cl c)/\NoAttr (bk K A).K ((bk K A).cl c) "other":=by
 intro c h;simp only [List.mem_cons,List.not_mem_nil,or_false] at h;subst h;exact ⟨T.zm0,T.zeG⟩
theorem zbb (T:Txt K mg A):∀ c∈[1,2,3,4,5,6,7],Cls (bk K A).K ((bk K A).cl c)/\NoAttr (bk K A).K ((bk K A).cl c) "role":=by
 intro c h;simp only [List.mem_cons,List.not_mem_nil,or_false] at h;rcases h with rfl | rfl | rfl | rfl | rfl | rfl | rfl
 ·exact ⟨T.zkY,T.zfn⟩
 ·exact ⟨T.znH,T.zgv⟩
 ·exact ⟨T.zqp,T.zfo⟩
 ·exact ⟨T.zqq,T.zgw⟩
 ·exact ⟨T.zm1,T.zfr⟩
 ·exact ⟨T.znI,T.zgx⟩
 ·exact ⟨T.zkZ,T.zfs⟩
theorem zdq (T:Txt K mg A):∀ c∈[1,4,7],Cls (bk K A).K ((bk K A).cl c)/\NoAttr (bk K A).K ((bk K A).cl c) "terms":=by
 intro c h;simp only [List.mem_cons,List.not_mem_nil,or_false] at h;rcases h with rfl | rfl | rfl
 ·exact ⟨T.zkY,T.zeH⟩
 ·exact ⟨T.zqq,T.zfp⟩
 ·exact ⟨T.zkZ,T.zeI⟩
theorem zeT (T:Txt K mg A):∀ c C b,tab c C=some b->KInst (bk K A).K ((bk K A).cl c)/\W.kitOne (bk K A).K (.ref ((bk K A).cl c)) (.ref ((bk K A).cl C))=some b:=by
 intro c C b h;unfold tab at h;split at h
 ·cases h; exact ⟨T.zdQ,T.zft⟩
 ·cases h; exact ⟨T.zdQ,T.zfu⟩
 ·cases h; exact ⟨T.zdQ,T.zgy⟩
 ·cases h; exact ⟨T.zdQ,T.zfv⟩
 ·cases h; exact ⟨T.zdQ,T.zgz⟩
 ·cases h; exact ⟨T.zdQ,T.zfw⟩
 ·cases h; exact ⟨T.zdQ,T.zgA⟩
 ·cases h; exact ⟨T.zdQ,T.zfx⟩
 ·cases h; exact ⟨T.zdQ,T.zdV⟩
 ·cases h; exact ⟨T.zdQ,T.zb8⟩
 ·cases h; exact ⟨T.zdR,T.zfy⟩
 ·cases h; exact ⟨T.zdR,T.zfz⟩
 ·cases h; exact ⟨T.zdR,T.zgB⟩
 ·cases h; exact ⟨T.zdR,T.zfA⟩
 ·cases h; exact ⟨T.zdR,T.zgC⟩
 ·cases h; exact ⟨T.zdR,T.zfB⟩
 ·cases h; exact ⟨T.zdR,T.zgD⟩
 ·cases h; exact ⟨T.zdR,T.zfC⟩
 ·cases h; exact ⟨T.zdR,T.zdW⟩
 ·cases h; exact ⟨T.zdR,T.zb9⟩
 ·cases h; exact ⟨T.zdS,T.zfD⟩
 ·cases h; exact ⟨T.zdS,T.zfE⟩
 ·cases h; exact ⟨T.zdS,T.zgE⟩
 ·cases h; exact ⟨T.zdS,T.zfF⟩
 ·cases h; exact ⟨T.zdS,T.zgF⟩
 ·cases h; exact ⟨T.zdS,T.zfG⟩
 ·cases h; exact ⟨T.zdS,T.zgG⟩
 ·cases h; exact ⟨T.zdS,T.zfH⟩
 ·cases h; exact ⟨T.zdS,T.zdX⟩
 ·cases h; exact ⟨T.zdS,T.zca⟩
 ·cases h; exact ⟨T.zf7,T.zgH⟩
 ·cases h; exact ⟨T.zf7,T.zgI⟩
 ·cases h; exact ⟨T.zf7,T.zh1⟩
 ·cases h; exact ⟨T.zf7,T.zgJ⟩
 ·cases h; exact ⟨T.zf7,T.zh2⟩
 ·cases h; exact ⟨T.zf7,T.zgK⟩
 ·cases h; exact ⟨T.zf7,T.zh3⟩
 ·cases h; exact ⟨T.zf7,T.zgL⟩
 ·cases h; exact ⟨T.zf7,T.zeJ⟩
 ·cases h; exact ⟨T.zf7,T.zcs⟩
 ·cases h; exact ⟨T.zdT,T.zfI⟩
 ·cases h; exact ⟨T.zdT,T.zfJ⟩
 ·cases h; exact ⟨T.zdT,T.zgM⟩
 ·cases h; exact ⟨T.zdT,T.zfK⟩
 ·cases h; exact ⟨T.zdT,T.zgN⟩
 ·cases h; exact ⟨T.zdT,T.zfL⟩
 ·cases h; exact ⟨T.zdT,T.zgO⟩
 ·cases h; exact ⟨T.zdT,T.zfM⟩
 ·cases h; exact ⟨T.zdT,T.zdY⟩
 ·cases h; exact ⟨T.zdT,T.zcb⟩
 ·cases h; exact ⟨T.zdU,T.zfN⟩
 ·cases h; exact ⟨T.zdU,T.zfO⟩
 ·cases h; exact ⟨T.zdU,T.zgP⟩
 ·cases h; exact ⟨T.zdU,T.zfP⟩
 ·cases h; exact ⟨T.zdU,T.zgQ⟩
 ·cases h; exact ⟨T.zdU,T.zfQ⟩
 ·cases h; exact ⟨T.zdU,T.zgR⟩
 ·cases h; exact ⟨T.zdU,T.zfR⟩
 ·cases h; exact ⟨T.zdU,T.zdZ⟩
 ·cases h; exact ⟨T.zdU,T.zcc⟩
 ·cases h
theorem zzB (T:Txt K mg A):∀ c∈[2,6],KEq (bk K A).K ((bk K A).cl c):=by
 intro c h;simp only [List.mem_cons,List.not_mem_nil,or_false] at h;rcases h with rfl | rfl
 ·exact T.zqs
 ·exact T.zqt
theorem zvX (T:Txt K mg A):∀ c C b,tabx c C=some b->W.exmOne K (.ref ((bk K A).cl c)) (.ref ((bk K A).cl C))=some b:=by
 intro c C b h;unfold tabx at h;split at h
 ·cases h; exact T.zfS
 ·cases h
theorem zqB (T:Txt K mg A):∀ c C b,zzq c C=some b->XIs (bk K A).K ((bk K A).cl c)/\W.kitOne (bk K A).K (.ref ((bk K A).cl c)) (.ref ((bk K A).cl C))=some b:=by
 intro c C b h;unfold zzq at h;split at h
 ·cases h; exact ⟨T.zb3,T.zd0⟩
 ·cases h; exact ⟨T.zb3,T.zd1⟩
 ·cases h; exact ⟨T.zb3,T.zeK⟩
 ·cases h; exact ⟨T.zb3,T.zd2⟩
 ·cases h; exact ⟨T.zb3,T.zeL⟩
 ·cases h; exact ⟨T.zb3,T.zd3⟩
 ·cases h; exact ⟨T.zb3,T.zeM⟩
 ·cases h; exact ⟨T.zb3,T.zd4⟩
 ·cases h; exact ⟨T.zb3,T.zcS⟩
 ·cases h; exact ⟨T.zb3,T.zbP⟩
 ·cases h
theorem zsH (T:Txt K mg A):∀ c∈[8],XGet K ((bk K A).cl c)/\NoAttr K ((bk K A).cl c) "found":=by
 intro c h;simp only [List.mem_cons,List.not_mem_nil,or_false] at h;subst h;exact ⟨T.zqr,T.zjg⟩
end
section
variable {P:Program} {w:World} {K:W.Frag} {mg:Str->Option Value} {base:Heap} {A:Adr}
theorem zkq (T:Txt K mg A):zAL P w K mg base 1 A.zcq A.zav "found":=λhr e0 he hHe rv=>zvt (k:=0) T.zfk zix rfl (zjh T) T.zje T.zjf rfl rfl (λ_=>rfl) (by decide) (by decide) hr e0 he hHe rv
theorem zk7 (T : Txt K mg A) : FnOk P w K mg base CX0 1 A.zaJ A.zfg zB7 (SpF (bk K A) 2 zaJ) :=
  T.zfl.okJ zbz rfl λjx =>
   (zag (zbf 2 (L' := []) (λ_ => zbz.nd) lO (zcg zaf))
   (zag (zbf 3 (L' := [0]) (λ_ => zbz.nd) lO (JD.asE (ziu (λ_ => zeh) zf9 (zac 0) zal)))
   (zag (zbf 4 (L' := [3]) (λ_ => zbz.nd) lO (JD.asE (ziu (λ_ => zcy) zcz (zac 3) zal)))
   (zag (zny jx (zmI jx T.zh6 (zaa (zac 1) zaf aN)) (zbJ 5 (λ_ => zbz.nd) lO)
    (show JB _ _ _ zaR from (zag (zbf 4 (L' := [4, 5]) (λ_ => zbz.nd) lO (JD.asE (ziu (λ_ => zcy) zcz (JE.asD (zaX jx (JE.asD (zaX jx (JE.asD (zaX jx (JE.asD (zr9 (zac 4) (zac 4))) (JE.asD (zr9 zal (zac 4))))) (JE.asD (zr9 zal (zac 5))))) zal)) zal)))
     (zag (zpS jx 2 (L' := [0, 3, 4]) (zbv jx (JE.asD (zcg (zaa (zac 4) (zaa (ziu (λ_ => zcy) zcz (zac 3) zal) zaf aB) aN))) (JE.asD (zcj jx zBM T.zqu PyProof.Rows.Boot.«int» (zaa (zlH (zhx (zdv jx) (ziu (λ_ => zcy) zcz (zac 0) zal) zal (zao _)) (zlG (zhx zC2 (zac 3) zal (zao _)))) zaf aO) aO))) aS)
     (zai (zbf 3 (L' := [3]) (λ_ => zbz.nd) lO (JD.asE (ziu (λ_ => zeh) zf9 (zac 3) zal))))))))
   (zai (zmJ 2))))))
theorem zjn (T : Txt K mg A) : FnOk P w K mg base CX0 1 A.za5 A.zhK ["_law_number"] (SpF (bk K A) 1 za5) :=
  T.zf2.okJ zgd rfl λjx =>
   (zag (zbf 1 (L' := []) (λ_ => zgd.nd) lO (zcg (zaa zan (zaa zan (zaa zan (zaa zan (zaa zan (zaa zan (zaa zan (zaa zan (zaa zan (zaa zan (zaa zan (zaa zan (zaa zan zaf aC) aC) aC) aC) aC) aC) aC) aC) aC) aC) aC) aC) aC)))
   (zag (za0 (zap (zdv jx) (ziu (λ_ => zcy) zcz (zac 0) zal) zal (zao _))
    (zai (zam (JD.asE (zbv jx (zac 1) (ziu (λ_ => zcy) zcz (ziu (λ_ => zeh) zf9 (zac 0) zal) zal)))))
    zay)
   (zag (zbf 2 (L' := []) (λ_ => zgd.nd) (λ_ => (Or.inr rfl)) (JD.asE zan))
   (zai (zam (zmG jx (zdJ jx) zan (zaa (JE.asD (zg1 jx (NX := nL7) (SX := zad zf0) (N := ["_law_k", "_law_number", "_law_letters"]) (own := 1) (fi := [0, 2]) csm (JI.asC (zmI jx T.zh6 (zaa (JE.asD (zaX jx zal (ziu (λ_ => zcy) zcz (ziu (λ_ => zeh) zf9 (zac 0) zal) zal))) zaf aB))) (zbJ 0 (λ_ => (show (["_law_k", "_law_number", "_law_letters"] : List Str).Nodup by decide +kernel)) lO) ze5 (zbv (JX.comp jx _ _) (zac 2) (ziu (λ_ => zcy) zcz (ziu (λ_ => zeh) zf9 (zac 1) (JE.asD (zaX (JX.comp jx _ _) (JE.asD (zr9 zal (zac 0))) zal))) zal)))) zaf aM) aM))))))
theorem zjo (T : Txt K mg A) : FnOk P w K mg base CX0 1 A.zaS A.zdM zB6 (SpF (bk K A) 2 zaS) :=
  T.zdO.okJ zdl rfl λjx =>
   (zag (za0 (zap (zdv jx) (ziu (λ_ => zcy) zcz (zac 1) zal) zal (zao _))
    (zai (zam (zaX jx (zac 0) zan)))
    zay)
   (zag (zbf 2 (L' := [1]) (λ_ => zdl.nd) lO (JD.asE (zbv jx (JE.asD (zcg (zaa zan (zaa zan (zaa zan (zaa zan (zaa zan (zaa zan zaf aC) aC) aC) aC) aC) aC))) (ziu (λ_ => zcy) zcz (ziu (λ_ => zeh) zf9 (zac 1) zal) zal))))
   (zag (zbf 3 (L' := [0, 1]) (λ_ => zdl.nd) lO (JD.asE (ziu (λ_ => zcy) zcz (ziu (λ_ => zeh) zf9 (zac 1) zal) (JE.asD (zaX jx (JE.asD (zax jx (zd8 jx) T.zdw bLn (zaa (zac 0) zaf aN) aN)) zal)))))
   (zai (zam (zaX jx (JE.asD (zaX jx (JE.asD (zj4 jx (zac 0) zbI (zaZ (zac 3)))) (zac 2))) (JE.asD (zj4 jx (zac 0) (zaZ (zac 3)) zbI))))))))
theorem zk8 (T : Txt K mg A) : FnOk P w K mg base CX0 2 A.zaV A.zfh nL6 (SpF (bk K A) 2 zaV) :=
  T.zfm.okJ zcX rfl λjx =>
   (zag (zbf 2 (L' := [1]) (λ_ => zcX.nd) lO (JD.asE (ziu (λ_ => zcy) zcz (zbv jx (zac 1) zal) zal)))
   (zag (zbf 3 (L' := [0, 1]) (λ_ => zcX.nd) lO (JD.asE (ziu (λ_ => zcy) zcz (zbv jx (zac 1) zal) (JE.asD (zax jx (zd8 jx) T.zdw bLn (zaa (zac 0) zaf aN) aN)))))
   (zag (zbf 4 (L' := [0]) (λ_ => zcX.nd) lO (zcj jx (zyK jx) T.znJ PyProof.Rows.Boot.«list» (zaa (zac 0) zaf aN) aN))
   (zag (za0 (zap (zdv jx) (zac 2) zal (zao _))
    (zai (zam (zmG jx (zdJ jx) zan (zaa (JE.asD (zaX jx (JE.asD (zj4 jx (zac 4) zbI (zaZ (zac 3)))) (JE.asD (zj4 jx (zac 4) (zaZ (JE.asD (zaX jx (zac 3) zal))) zbI)))) zaf aB) aB)))
    zay)
   (zag (za0 (zap (zdv jx) (zac 2) zal (zao _))
    (zai (zam (zmG jx (zdJ jx) zan (zaa (JE.asD (zaX jx (JE.asD (zaX jx (JE.asD (zj4 jx (zac 4) zbI (zaZ (zac 3)))) (JE.asD (zcg (zaa (zbv jx (zac 4) (zac 3)) zaf aS))))) (JE.asD (zj4 jx (zac 4) (zaZ (zac 3)) zbI)))) zaf aB) aB)))
    zay)
   (zag (za0 (zap (zdv jx) (zac 2) zal (zao _))
    (zai (zam (zmG jx (zdJ jx) zan (zaa (JE.asD (zaX jx (JE.asD (zaX jx (JE.asD (zj4 jx (zac 4) zbI (zaZ (zac 3)))) (JE.asD (zcg (zaa (JE.asD (zaQ jx (zjn T) (by decide) T.zdb T.zf2.kp (zko T) zah (zaa (zbv jx (zac 1) zal) zaf aS) aS)) zaf aL))))) (JE.asD (zj4 jx (zac 4) (zaZ (zac 3)) zbI)))) zaf aB) aB)))
    zay)
   (zag (za0 (zap (zdv jx) (zac 2) zal (zao _))
    (zag (zsB 4 (zp4 jx T.znJ T.zh7 (zaa (JE.asD (zj4 jx (zac 4) (zaZ (zac 3)) (zaZ (JE.asD (zaX jx (zac 3) zal))))) zaf aS) aS) (zaZ (zac 3)) (zaZ (JE.asD (zaX jx (zac 3) zal))))
     (zai (zam (zmG jx (zdJ jx) zan (zaa (zac 4) zaf aN) aN))))
    zay)
   (zag (za0 (zap (zdv jx) (zac 2) zal (zao _))
    (zai (zam (zmG jx (zdJ jx) zan (zaa (JE.asD (zaX jx (JE.asD (zaX jx (JE.asD (zj4 jx (zac 4) zbI (zaZ (zac 3)))) (JE.asD (zcg (zaa (JE.asD (zaQ jx (zjo T) (by decide) T.zbe T.zdO.kp (zjM T) zah (zaa (zbv jx (zac 4) (zac 3)) (zaa (zbv jx (zac 1) zal) zaf aS) aS) aS)) zaf aL))))) (JE.asD (zj4 jx (zac 4) (zaZ (JE.asD (zaX jx (zac 3) zal))) zbI)))) zaf aB) aB)))
    zay)
   (zag (za0 (zap (zdv jx) (zac 2) zal (zao _))
    (zai (zam (zaX jx (JE.asD (zaX jx (zbv jx (JE.asD (zcg (zaa zan (zaa zan zaf aC) aC))) (ziu (λ_ => zcy) zcz (zbv jx (zac 1) zal) zal)) (JE.asD (zmG jx (zdJ jx) zan (zaa (zac 4) zaf aN) aN)))) zan)))
    zay)
   (zag (za0 (zap (zdv jx) (zac 2) zal (zao _))
    (zai (zam (zmG jx (zdJ jx) zan (zaa (JE.asD (zaX jx (zac 4) (JE.asD (zj4 jx (zac 4) (zaZ (zac 3)) zbI)))) zaf aB) aB)))
    zay)
   (zag (za0 (zap (zdv jx) (zac 2) zal (zao _))
    (zai (zam (JD.asE (zbv jx (JE.asD (zcg (zaa zdH (zaa zal (zaa zog (zaa (JE.asD (zcj jx (ziQ jx) T.zgT PyProof.Rows.Boot.«tuple» (zaa (zac 4) zaf aN) aN)) (zaa (zac 4) (zaa (JE.asD zyJ) (zaa zan (zaa zan zaf aC) aC) (λ_ => zvN)) aN) aL) aC) aC) aC))) (ziu (λ_ => zcy) zcz (zbv jx (zac 1) zal) zal)))))
    zay)
   (zai (zam (zmG jx (zdJ jx) zan (zaa (zac 4) zaf aN) aN))))))))))))))
theorem zl8 (T:Txt K mg A):FnOk P w K mg base CX0 1 A.zbw A.zgk zzs (SpF (bk K A) 2 zbw):=
 T.zgq.okJ zlU rfl λjx=>
  (zai (zam (zg1 jx (NX:=zzs) (SX:=zad zei) (N:=["place","words","size"]) (own:=1) (fi:=[0,1]) csm (JI.asC (zvJ jx T.zh6 (zaa zal (zaa (JE.asD (zax jx (zd8 jx) T.zdw bLn (zaa (zac 0) zaf aN) aN)) (zaa (zac 1) zaf aN) aL) aC))) (zbJ 0 (λ_=>(show (["place","words","size"]:List Str).Nodup by decide +kernel)) lO) ze5 (JE.asD (zj4 (JX.comp jx _ _) (zac 1) (zaZ (zac 0)) (zaZ (JE.asD (zaX (JX.comp jx _ _) (zac 0) (zac 2)))))))))
theorem zdr (T:Txt K mg A):FnOk P w K mg base CX0 1 A.zbL A.zcr nL4 (SpI (bk K A) 2 zaM):=
 T.zdC.okIJ zge rfl λjx=>
  (zai (zdy jx 0 (L':=[1]) (zbb T) (zac 1)))
theorem zce (T : Txt K mg A) : FnOk P w K mg base CX0 1 A.zar A.zi2 ["thing"] (SpF (bk K A) 1 zar) :=
  T.zb2.okJ zoq rfl λjx =>
   (zag (za0 (zcM (zci (JE.asD (zax jx (ziv jx (zeT T)) T.zaw bIs (zaa (zac 0) (zaa (zxa jx T.zm7 PyProof.Rows.Boot.«str») zaf aN) aN) aN))))
    (zai (zam (JD.asE zog)))
    zay)
   (zag (za0 (JW.t (zdI (zap zAK (JE.asD (zax jx (zd8 jx) T.zdw bLn (zaa (zac 0) zaf aN) aN)) zal (zao _)) (zdx (zap zC2 (JE.asD (zax jx (zd8 jx) T.zdw bLn (zaa (zac 0) zaf aN) aN)) (zBF jx T.zjL) (zao _)))))
    (zai (zam (JD.asE zog)))
    zay)
   (zai (zam (zax jx (zBL jx) T.zvT PyProof.Rows.Boot.«all» (zaa (JE.asD (zg1 jx (NX := ["thing"]) (SX := zad zhb) (N := ["sign"]) (own := 1) (fi := []) csm (zig jx (zac 0)) (zbJ 0 (λ_ => (show (["sign"] : List Str).Nodup by decide +kernel)) lO) ze5 (zhx (zDB (JX.comp jx _ _)) (zac 0) (zBG (JX.comp jx _ _) T.zqv) rfl))) zaf aM) aM)))))
theorem zjp (T : Txt K mg A) : FnOk P w K mg base CX0 3 A.zaG A.zdN nL3 (SpF (bk K A) 1 zaG) :=
  T.zdP.okJ ziU rfl λjx =>
   (zag (za0 (JW.t (zdI (zap (zpO jx) (JE.asD (zax jx (zd8 jx) T.zdw bLn (zaa (zac 0) zaf aN) aN)) zal (zao _)) (zdx (zcM (zci (JE.asD (zaQ jx (zce T) (by decide) T.zbC T.zb2.kp (zcP T) zah (zaa (zbv jx (zac 0) zal) zaf aS) aS)))))))
    (zai (zam (JD.asE zdH)))
    zay)
   (zag (za0 (zap (zdv jx) (zbv jx (zac 0) zal) zan (zao _))
    (zai (zam (zif jx (cn := 2) T.zB9 (zdr T) (by decide) T.zzu (zdD T) rfl zcK (zaa (zbv jx (zac 0) zal) zaf aS) aS)))
    zay)
   (zag (za0 (zap (zdv jx) (zbv jx (zac 0) zal) zan (zao _))
    (zai (zam (zif jx (cn := 6) T.zCb (zdr T) (by decide) T.zzv (zdD T) rfl zcK (zaa (zbv jx (zac 0) zal) zaf aS) aS)))
    zay)
   (zai (zam (JD.asE zdH))))))
theorem zjq (T : Txt K mg A) : FnOk P w K mg base CX0 4 A.za6 A.zhL ["words", "link"] (SpF (bk K A) 2 za6) :=
  T.zf3.okJ zgf rfl λjx =>
   (zag (zbf 2 (L' := [0]) (λ_ => zgf.nd) lO (zaQ jx (zl8 T) (by decide) T.zdh T.zgq.kp (zm8 T) zah (zaa (zac 0) (zaa zal zaf aC) aN) aN))
   (zag (za0 (zap (zpO jx) (JE.asD (zg1 jx (NX := nL5) (SX := zad zec) (N := ["piece"]) (own := 1) (fi := []) csm (zig jx (zac 2)) (zbJ 0 (λ_ => (show (["piece"] : List Str).Nodup by decide +kernel)) lO) ze5 (zbv (JX.comp jx _ _) (zac 0) zal))) (JE.asD (zj4 jx (JE.asD (zcg (zaa (zac 1) (zaa zan zaf aC) aN))) zbI (zaZ (JE.asD (zax jx (zd8 jx) T.zdw bLn (zaa (zac 2) zaf aN) aN))))) (zao _))
    (zai (zam (JD.asE zdH)))
    zay)
   (zag (zoh jx 3 (L' := [2]) (λ_ => zgf.nd) (NX := nL5) (SX := zad zec) (N := ["piece"]) (own := 1) (fi := []) csm (zig jx (zac 2)) (zbJ 0 (λ_ => (show (["piece"] : List Str).Nodup by decide +kernel)) lO) ze5 (JE.asD (zaQ (JX.comp jx _ _) (zjp T) (by decide) T.zb0 T.zdP.kp (zjN T) zah (zaa (JE.asD (zj4 (JX.comp jx _ _) (zac 0) (zaZ zal) zbI)) zaf aS) aS)))
   (zai (zam (zBI (zap (zB0 jx (zzB T)) zdH (zac 3) rfl) (JD.asE zdH) (JD.asE (zac 3))))))))
theorem zjO (T : Txt K mg A) : FnOk P w K mg base CX0 1 A.zer A.zes nL2 (SpI (bk K A) 4 zbR) :=
  T.zhe.okIJ zjD rfl λjx =>
   (zag (zdy jx 0 (L' := [1]) (zbb T) (zac 1))
   (zag (zdy jx 0 (L' := [2]) (zl7 T) (zac 2))
   (zai (zdy jx 0 (L' := [3]) (zdq T) (JE.asD (zcj jx (ziQ jx) T.zgT PyProof.Rows.Boot.«tuple» (zaa (zac 3) zaf aN) aN))))))
theorem zjP (T : Txt K mg A) : FnOk P w K mg base CX0 1 A.zet A.zeu nL2 (SpI (bk K A) 4 zbS) :=
  T.zhf.okIJ zjE rfl λjx =>
   (zag (zdy jx 0 (L' := [1]) (zbb T) (zac 1))
   (zag (zdy jx 0 (L' := [2]) (zl7 T) (zac 2))
   (zai (zdy jx 0 (L' := [3]) (zdq T) (JE.asD (zcj jx (ziQ jx) T.zgT PyProof.Rows.Boot.«tuple» (zaa (zac 3) zaf aN) aN))))))
theorem zhm (T : Txt K mg A) : FnOk P w K mg base CX0 5 A.zaC A.zcG nL3 (SpF (bk K A) 1 zaC) :=
  T.zcH.okJ zdB rfl λjx =>
   (zag (za0 (JW.t (zdI (zap zAK (JE.asD (zax jx (zd8 jx) T.zdw bLn (zaa (zac 0) zaf aN) aN)) zal (zao _)) (zdI (zcM (zci (JE.asD (zaQ jx (zce T) (by decide) T.zbC T.zb2.kp (zcP T) zah (zaa (zbv jx (zac 0) zal) zaf aS) aS)))) (zdI (zap (zpO jx) (zbv jx (zac 0) zal) zan (zao _)) (zdx (zcM (zci (JE.asD (zaQ jx (zce T) (by decide) T.zbC T.zb2.kp (zcP T) zah (zaa (zbv jx (zac 0) zal) zaf aS) aS)))))))))
    (zai (zam (JD.asE zdH)))
    zay)
   (zag (zbf 1 (L' := [0]) (λ_ => zdB.nd) lO (zaQ jx (zjq T) (by decide) T.zdc T.zf3.kp (zkp T) zah (zaa (JE.asD (zj4 jx (zac 0) (zaZ zal) zbI)) (zaa (JE.asD (zBI (zap (zdv jx) (zbv jx (zac 0) zal) zan (zao _)) (JD.asE zan) (JD.asE zan))) zaf aI) aS) aS))
   (zag (za0 (zap zBH (zac 1) zdH (zao _))
    (zai (zam (JD.asE zdH)))
    zay)
   (zag (za0 (zap (zdv jx) (zbv jx (zac 0) zal) zan (zao _))
    (zai (zam (zif jx (cn := 1) T.zzx (zjP T) (by decide) T.zql (zk1 T) rfl zcK (zaa (zbv jx (zac 0) zal) (zaa (zbv jx (zac 0) zal) (zaa (zac 1) zaf aN) aS) aS) aS)))
    zay)
   (zai (zam (zif jx (cn := 7) T.zzA (zjO T) (by decide) T.zqo (zk0 T) rfl zcK (zaa (zbv jx (zac 0) zal) (zaa (zbv jx (zac 0) zal) (zaa (zac 1) zaf aN) aS) aS) aS)))))))
theorem zk9 (T : Txt K mg A) : FnOk P w K mg base CX0 1 A.zfi A.zfj nL8 (SpI (bk K A) 3 zcd) :=
  T.zin.okIJ zkU rfl λjx =>
   (zag (zdy jx 0 (L' := [1]) (zbb T) (zac 1))
   (zai (zdy jx 0 (L' := [2]) (zdq T) (JE.asD (zcj jx (ziQ jx) T.zgT PyProof.Rows.Boot.«tuple» (zaa (zac 2) zaf aN) aN)))))
theorem zqC (T : Txt K mg A) : FnOk P w K mg base CX0 5 A.zcW A.zkW nL3 (SpF (bk K A) 1 zcW) :=
  T.zkX.okJ zlV rfl λjx =>
   (zag (za0 (JW.t (zdI (zap zAK (JE.asD (zax jx (zd8 jx) T.zdw bLn (zaa (zac 0) zaf aN) aN)) zal (zao _)) (zdx (zcM (zci (JE.asD (zaQ jx (zce T) (by decide) T.zbC T.zb2.kp (zcP T) zah (zaa (zbv jx (zac 0) zal) zaf aS) aS)))))))
    (zai (zam (JD.asE zdH)))
    zay)
   (zag (zbf 1 (L' := [0]) (λ_ => zlV.nd) lO (zaQ jx (zjq T) (by decide) T.zdc T.zf3.kp (zkp T) zah (zaa (JE.asD (zj4 jx (zac 0) (zaZ zal) zbI)) (zaa zan zaf aC) aS) aS))
   (zai (zam (zBI (zap zBH (zac 1) zdH (zao _)) (JD.asE zdH) (zif jx (cn := 4) T.zCa (zk9 T) (by decide) T.ztF (zl6 T) rfl zcK (zaa (zbv jx (zac 0) zal) (zaa (zac 1) zaf aN) aS) aS))))))
theorem zjQ (T : Txt K mg A) : FnOk P w K mg base CX0 1 A.zev A.zew zAS (SpI (bk K A) 3 zbT) :=
  T.zhg.okIJ zjF rfl λjx =>
   (zag (zdy jx 0 (L' := [1]) (znc T) (zac 1))
   (zai (zdy jx 0 (L' := [2]) (zjm T) (zac 2))))
theorem zoG (T : Txt K mg A) : FnOk P w K mg base CX0 3 A.zcl A.zi3 nL3 (SpF (bk K A) 1 zcl) :=
  T.zja.okJ zor rfl λjx =>
   (zag (za0 (JW.t (zdI (zap (zpO jx) (JE.asD (zax jx (zd8 jx) T.zdw bLn (zaa (zac 0) zaf aN) aN)) zal (zao _)) (zdI (zcM (zci (JE.asD (zaQ jx (zce T) (by decide) T.zbC T.zb2.kp (zcP T) zah (zaa (zbv jx (zac 0) zal) zaf aS) aS)))) (zdI (zcM (zci (JE.asD (zaQ jx (zce T) (by decide) T.zbC T.zb2.kp (zcP T) zah (zaa (zbv jx (zac 0) zal) zaf aS) aS)))) (zdx (zap (zdv jx) (zbv jx (zac 0) zal) (zbv jx (zac 0) zal) (zao _)))))))
    (zai (zam (JD.asE zdH)))
    zay)
   (zai (zam (zif jx (cn := 0) T.zzw (zjQ T) (by decide) T.zqk (zk2 T) rfl zcK (zaa (zbv jx (zac 0) zal) (zaa (zbv jx (zac 0) zal) zaf aS) aS) aS))))
theorem zjR (T : Txt K mg A) : FnOk P w K mg base CX0 1 A.zex A.zey zAT (SpI (bk K A) 3 zbU) :=
  T.zhh.okIJ zjG rfl λjx =>
   (zag (zdy jx 0 (L' := [1]) (ziF T) (zac 1))
   (zai (zdy jx 0 (L' := [2]) (zbb T) (zac 2))))
theorem zoH (T : Txt K mg A) : FnOk P w K mg base CX0 3 A.zcm A.zi4 nL3 (SpF (bk K A) 1 zcm) :=
  T.zjb.okJ zos rfl λjx =>
   (zag (za0 (JW.t (zdI (zap (zpO jx) (JE.asD (zax jx (zd8 jx) T.zdw bLn (zaa (zac 0) zaf aN) aN)) zal (zao _)) (zdI (zap (zkI jx) (zbv jx (zac 0) zal) (zBY jx T.zh4 T.zh5) rfl) (zdx (zcM (zci (JE.asD (zaQ jx (zce T) (by decide) T.zbC T.zb2.kp (zcP T) zah (zaa (zbv jx (zac 0) zal) zaf aS) aS))))))))
    (zai (zam (JD.asE zdH)))
    zay)
   (zai (zam (zif jx (cn := 5) T.zzz (zjR T) (by decide) T.zqn (zk3 T) rfl zcK (zaa (JE.asD (zcj jx ztB T.zqu PyProof.Rows.Boot.«int» (zaa (zbv jx (zac 0) zal) zaf aS) aS)) (zaa (zbv jx (zac 0) zal) zaf aS) aL) aL))))
theorem zjS (T:Txt K mg A):FnOk P w K mg base CX0 1 A.zez A.zeA nL4 (SpI (bk K A) 2 zbV):=
 T.zhi.okIJ zjH rfl λjx=>
  (zai (zdy jx 0 (L':=[1]) (zbb T) (zac 1)))
theorem zoI (T : Txt K mg A) : FnOk P w K mg base CX0 3 A.zcn A.zi5 nL3 (SpF (bk K A) 1 zcn) :=
  T.zjc.okJ zot rfl λjx =>
   (zag (za0 (JW.t (zdI (zap (zpO jx) (JE.asD (zax jx (zd8 jx) T.zdw bLn (zaa (zac 0) zaf aN) aN)) zal (zao _)) (zdx (zcM (zci (JE.asD (zaQ jx (zce T) (by decide) T.zbC T.zb2.kp (zcP T) zah (zaa (zbv jx (zac 0) zal) zaf aS) aS)))))))
    (zai (zam (JD.asE zdH)))
    zay)
   (zai (zam (zif jx (cn := 3) T.zzy (zjS T) (by decide) T.zqm (zk4 T) rfl zcK (zaa (zbv jx (zac 0) zal) zaf aS) aS))))
theorem ziz (T : Txt K mg A) : FnOk P w K mg base CX0 6 A.zaH A.zdn nL3 (SpF (bk K A) 1 zaH) :=
  T.zdo.okJ ziy rfl λjx =>
   (zag (za0 (JW.t (zdI (zap (zdv jx) (zbv jx (zac 0) zal) zan (zao _)) (zdx (zap (zdv jx) (zbv jx (zac 0) zal) zan (zao _)))))
    (zai (zam (zaQ jx (zhm T) (by decide) T.zbh T.zcH.kp (zh8 T) zah (zaa (zac 0) zaf aN) aN)))
    zay)
   (zag (za0 (zap (zdv jx) (zbv jx (zac 0) zal) zan (zao _))
    (zai (zam (zaQ jx (zqC T) (by decide) T.zg6 T.zkX.kp (zsG T) zah (zaa (zac 0) zaf aN) aN)))
    zay)
   (zag (za0 (zap (zdv jx) (zbv jx (zac 0) zal) zan (zao _))
    (zai (zam (zaQ jx (zoG T) (by decide) T.ze7 T.zja.kp (zqw T) zah (zaa (zac 0) zaf aN) aN)))
    zay)
   (zag (za0 (zap (zdv jx) (zbv jx (zac 0) zal) zan (zao _))
    (zai (zam (zaQ jx (zoH T) (by decide) T.ze8 T.zjb.kp (zqx T) zah (zaa (zac 0) zaf aN) aN)))
    zay)
   (zag (za0 (zap (zdv jx) (zbv jx (zac 0) zal) zan (zao _))
    (zai (zam (zaQ jx (zoI T) (by decide) T.ze9 T.zjc.kp (zqy T) zah (zaa (zac 0) zaf aN) aN)))
    zay)
   (zai (zam (JD.asE zdH))))))))
theorem zoJ (T : Txt K mg A) : FnOk P w K mg base (CX1 P w) 7 A.zaY A.zi6 ["row"] (SpX (bk K A) 1 zaY zbD) :=
  T.zjd.okXJ zkh rfl λjr =>
   (zkM (ztz (zcM (zci (JE.asD (zax jr.jx (ziv jr.jx (zeT T)) T.zaw bIs (zaa (zac 0) (zaa (zxa jr.jx T.zm7 PyProof.Rows.Boot.«str») zaf aN) aN) aN))))
    (zmN (zlL jr (cn := 8) T.zje T.zhk T.zl2 T.zhl T.zhj (zkq T) (by decide) rfl (zac 0) aN))
    (zty zay))
   (zkM (ztx (zbf 1 (L' := [0]) (λ_ => zkh.nd) lO (zaQ jr.jx (ziz T) (by decide) T.zbN T.zdo.kp (zji T) zah (zaa (JE.asD (zmG jr.jx zg2 (zac 0) (zaa zan zaf aC) aC)) zaf aL) aL)))
   (zkM (ztz (zap zBH (zac 1) zdH (zao _))
    (zmN (zlL jr (cn := 8) T.zje T.zhk T.zl2 T.zhl T.zhj (zkq T) (by decide) rfl (zac 0) aN))
    (zty zay))
   (zmN (ztx (zmJ 1))))))
theorem znd (T : Txt K mg A) : FnOk P w K mg base CX0 8 A.za7 A.zhM ztE (SpF (bk K A) 1 za7) :=
  T.zhU.okJ zcF rfl λjx =>
   (zag (zbf 1 (L' := []) (λ_ => zcF.nd) lO (JD.asE zdH))
   (zag (zbf 2 (L' := []) (λ_ => zcF.nd) lO (JD.asE zdH))
   (zag (zvD [0]
    (zvC (zsu 1 (L' := [0]) (λ_ => zcF.nd) lO (zsr jx (zoJ T) (by decide) T.zb1 T.zjd.kp (zqz T) zsn zso (zaa (zac 0) zaf aN) aN)))
    (zBV jx 3 (ct := 9) (tabx := tabx) (λ_ => zcF.nd) T.zjK rfl (zvX T)
    (zag (zbf 2 (L' := [3]) (λ_ => zcF.nd) lO (zcg (zaa (JE.asD (zax (JX.marked jx) (zy6 (JX.marked jx) (zqB T)) T.zaw bIs (zaa (zac 3) (zaa (zlF (JX.marked jx) (n := 8) (C := A.zav) rfl T.zhj) zaf aN) aN) aN)) zaf aL)))
     (zai (za0 (zci (JE.asD (zax (JX.marked jx) (zy6 (JX.marked jx) (zqB T)) T.zaw bIs (zaa (zac 3) (zaa (zlF (JX.marked jx) (n := 8) (C := A.zav) rfl T.zhj) zaf aN) aN) aN)))
      (zai (zpS (JX.marked jx) 2 (L' := [3]) (zDO (JX.marked jx) (cs := [8]) (zac 3) (zsH T)) aA))
      zay)))
    zy5))
   (zai (zam (JD.asE (zsa (zaa (zac 1) (zaa (zac 2) zaf aN) aN))))))))
theorem zjT (T : Txt K mg A) : FnOk P w K mg base CX0 1 A.zaD A.zeB nL9 (SpF (bk K A) 2 zaD) :=
  T.zeD.okJ zjI rfl λjx =>
   (zag (za0 (zap zAK (zac 1) (JE.asD (zax jx (zd8 jx) T.zdw bLn (zaa (zac 0) zaf aN) aN)) (zao _))
    (zai (zam (JD.asE (zbv jx (zac 0) (zac 1)))))
    zay)
   (zai (zam (JD.asE zal))))
theorem zio (T : Txt K mg A) : FnOk P w K mg base CX0 1 A.zaN A.zgl [] (SpF (bk K A) 0 zaN) :=
  T.zeE.okJ zfe rfl λjx =>
   (zag (zbf 0 (L' := []) (λ_ => zfe.nd) lO (zcg (zaa zan (zaa zan (zaa zan (zaa zan (zaa zan zaf aC) aC) aC) aC) aC)))
   (zag (zbf 0 (L' := [0]) (λ_ => zfe.nd) lO (zaX jx (zac 0) (JE.asD (zcg (zaa zan (zaa zan (zaa zan (zaa zan (zaa zan zaf aC) aC) aC) aC) aC)))))
   (zai (zam (zg1 jx (NX := ["_law_forms_here"]) (SX := zad zep) (N := ["_law_form"]) (own := 1) (fi := []) csm (zig jx (JE.asD (zaX jx (zac 0) (JE.asD (zcg (zaa zan (zaa zan zaf aC) aC)))))) (zbJ 0 (λ_ => (show (["_law_form"] : List Str).Nodup by decide +kernel)) lO) ze5 (JE.asD (zmG (JX.comp jx _ _) zg2 (zac 0) (zaa zan zaf aC) aC)))))))
theorem zl9 (T : Txt K mg A) : FnOk P w K mg base CX0 2 A.za3 A.zgm ["_law_numbers"] (SpF (bk K A) 1 za3) :=
  T.zgr.okJ zbr rfl λjx =>
   (zag (zbf 1 (L' := []) (λ_ => zbr.nd) lO (zcg zaf))
   (zag (zny jx (zvp jx T.zgS PyProof.Rows.Boot.«enumerate» (zaa (zbv jx (JE.asD (zpP jx (zio T) (by decide) T.zcC T.zeE.kp (zjj T) zah)) (ziu (λ_ => zcy) zcz (zbv jx (zac 0) zal) zal)) zaf aS)) (zpQ jx (zfZ (zbJ 2 (λ_ => zbr.nd) lO) (zfZ (zbJ 3 (λ_ => zbr.nd) lO) zmH)))
    (show JB _ _ _ zbx from (zag (zbf 4 (L' := [3]) (λ_ => zbr.nd) lO (JD.asE (zac 3)))
     (zag (za0 (zap (zdv jx) (zac 3) zan (zao _))
      (zai (zbf 4 (L' := [0, 2]) (λ_ => zbr.nd) lO (zaQ jx (zjn T) (by decide) T.zdb T.zf2.kp (zko T) zah (zaa (zbv jx (zac 0) (JE.asD (zaX jx zal (zac 2)))) zaf aS) aS)))
      (zai (za0 (zap (zdv jx) (zac 3) zan (zao _))
        (zai (zbf 4 (L' := [0, 2]) (λ_ => zbr.nd) lO (JD.asE (zbv jx (JE.asD (zcg (zaa zan (zaa zan zaf aC) aC))) (ziu (λ_ => zcy) zcz (zbv jx (zac 0) (JE.asD (zaX jx zal (zac 2)))) zal)))))
        (zai (za0 (zap (zdv jx) (zac 3) zan (zao _))
          (zai (zbf 4 (L' := [0, 2]) (λ_ => zbr.nd) lO (zcj jx zyL T.zm7 PyProof.Rows.Boot.«str» (zaa (ziu (λ_ => zcy) zcz (zbv jx (zac 0) (JE.asD (zaX jx zal (zac 2)))) zal) zaf aB) aB)))
          zay)))))
     (zai (zpS jx 1 (L' := [4]) (zac 4) aN))))))
   (zai (zmJ 1))))
theorem zjU (T:Txt K mg A):FnOk P w K mg base CX0 1 A.zaT A.zeC ["_law_word"] (SpF (bk K A) 1 zaT):=
 T.zeF.okJ zjJ rfl λjx=>
  (zai (zam (JD.asE (zlH (zvH zC1 zC1 zal (JE.asD (zax jx (zd8 jx) T.zdw bLn (zaa (zac 0) zaf aN) aN)) zal) (zlG (zhx (zdv jx) (JE.asD (zg1 jx (NX:=["_law_word"]) (SX:=zad zcY) (N:=["_law_sign"]) (own:=1) (fi:=[]) csm (zig jx (zac 0)) (zbJ 0 (λ_=>(show (["_law_sign"]:List Str).Nodup by decide +kernel)) lO) (zpR (zcM (zsC zzd zzd zan (zac 0) zan))) (zac 0))) (JE.asD (zcg zaf)) (zao _)))))))
theorem zne (T : Txt K mg A) : FnOk P w K mg base CX0 2 A.zbG A.zhN zB5 (SpF (bk K A) 2 zbG) :=
  T.zhV.okJ zgh rfl λjx =>
   (zag (za0 (zap (zpO jx) (JE.asD (zax jx (zd8 jx) T.zdw bLn (zaa (zac 0) zaf aN) aN)) (JE.asD (zax jx (zd8 jx) T.zdw bLn (zaa (zac 1) zaf aN) aN)) (zao _))
    (zai (zam (JD.asE zog)))
    zay)
   (zag (zny jx (zzl jx T.zvW PyProof.Rows.Boot.«zip» (zaa (zac 0) (zaa (zac 1) zaf aN) aN)) (zpQ jx (zfZ (zbJ 2 (λ_ => zgh.nd) lO) (zfZ (zbJ 3 (λ_ => zgh.nd) lO) zmH)))
    (show JB _ _ _ zbq from (zag (za0 (JW.t (zdI (JW.t (zj3 (zap (zdv jx) (zac 3) zan (zao _)) (zhy (zcM (zci (JE.asD (zaQ jx (zjU T) (by decide) T.zba T.zeF.kp (zk6 T) zah (zaa (zac 2) zaf aN) aN))))))) (zdx (JW.t (zj3 (zap (zdv jx) (zac 3) zan (zao _)) (zhy (zap (zkI jx) (zac 2) (JE.asD (zcg (zaa zan (zaa zan zaf aC) aC))) rfl)))))))
      (zai (zam (JD.asE zog)))
      zay)
     (zai (za0 (JW.t (zdI (JW.t (zj3 (zap (zdv jx) (zac 3) zan (zao _)) (zhy (zap (zkI jx) (zac 2) (JE.asD (zcg (zaa zan (zaa zan (zaa zan (zaa zan zaf aC) aC) aC) aC))) rfl)))) (zdx (JW.t (zj3 (zap (zkI jx) (zac 3) (JE.asD (zcg (zaa zan (zaa zan (zaa zan zaf aC) aC) aC))) rfl) (zhy (zap (zpO jx) (zac 2) (zac 3) (zao _))))))))
      (zai (zam (JD.asE zog)))
      zay)))))
   (zai (zam (JD.asE (zDC (zhx (zpO jx) (zbv jx (zac 1) zal) zan (zao _)) (zlG (zhx (zpO jx) (zbv jx (zac 0) zal) (zbv jx (zac 0) zal) (zao _)))))))))
theorem znf (T : Txt K mg A) : FnOk P w K mg base CX0 3 A.zaO A.zhO ztE (SpF (bk K A) 1 zaO) :=
  T.zhW.okJ zmU rfl λjx =>
   (zag (za0 (zcM (zci (JE.asD (zax jx (ziv jx (zeT T)) T.zaw bIs (zaa (zac 0) (zaa (zxa jx T.zm7 PyProof.Rows.Boot.«str») zaf aN) aN) aN))))
    (zai (zam (JD.asE zog)))
    zay)
   (zai (zam (JD.asE (zhx (zpO jx) (JE.asD (zg1 jx (NX := ztE) (SX := zad zf1) (N := ["_law_form", "_law_row"]) (own := 1) (fi := [0]) csm (zig jx (JE.asD (zpP jx (zio T) (by decide) T.zcC T.zeE.kp (zjj T) zah))) (zbJ 0 (λ_ => (show (["_law_form", "_law_row"] : List Str).Nodup by decide +kernel)) lO) (zpR (zci (JE.asD (zaQ (JX.comp jx _ _) (zne T) (by decide) T.zeb T.zhV.kp (zoz T) zah (zaa (JE.asD (zmG (JX.comp jx _ _) zg2 (zac 1) (zaa zan zaf aC) aC)) (zaa (zac 0) zaf aN) aL) aL)))) (zac 0))) (JE.asD (zcg zaf)) (zao _))))))
theorem zng (T:Txt K mg A):FnOk P w K mg base CX0 1 A.zbi A.zhP nL1 (SpF (bk K A) 1 zbi):=
 T.zkj.okJ zmV rfl λjx=>
  (zai (zam (zaX jx (JE.asD (zaX jx (JE.asD (zaX jx zan (zbA jx 0 (znc T) (zac 0)))) zan)) (zbA jx 0 (zjm T) (zac 0)))))
theorem zh9 (T:Txt K mg A):FnOk P w K mg base CX0 1 A.zaE A.zi7 nL1 (SpF (bk K A) 1 zaE):=
 T.zlZ.okJ zou rfl λjx=>
  (zai (zam (zaX jx zan (zbA jx 0 (zbb T) (zac 0)))))
theorem zia (T:Txt K mg A):FnOk P w K mg base CX0 1 A.zaF A.zi8 nL1 (SpF (bk K A) 1 zaF):=
 T.zl0.okJ zov rfl λjx=>
  (zai (zam (zaX jx zan (zbA jx 0 (zbb T) (zac 0)))))
theorem zfT (T : Txt K mg A) : FnOk P w K mg base CX0 2 A.zaz A.zgn zzt (SpF (bk K A) 2 zaz) :=
  T.zdp.okJ zlW rfl λjx =>
   (zag (za0 (zap (zdv jx) (JE.asD (zax jx (zd8 jx) T.zdw bLn (zaa (zac 1) zaf aN) aN)) zal (zao _))
    (zai (zam (JD.asE zan)))
    zay)
   (zai (zam (zaX jx (JE.asD (zaX jx (JE.asD (zaX jx zan (zac 0))) zan)) (JE.asD (zmG jx (zdJ jx) zan (zaa (JE.asD (zg1 jx (NX := zzt) (SX := zad zeq) (N := ["term"]) (own := 1) (fi := []) csm (zig jx (zac 1)) (zbJ 0 (λ_ => (show (["term"] : List Str).Nodup by decide +kernel)) lO) ze5 (JE.asD (JE.or (zcQ (JX.comp jx _ _) (cn := 2) (zac 0) T.znH T.zhZ (zh9 T) (by decide) (zjk T) rfl zah)
      (zcQ (JX.comp jx _ _) (cn := 6) (zac 0) T.znI T.zh0 (zia T) (by decide) (zjl T) rfl zah))))) zaf aM) aM))))))
theorem znh (T:Txt K mg A):FnOk P w K mg base CX0 3 A.zbj A.zhQ nL1 (SpF (bk K A) 1 zbj):=
 T.zkk.okJ zmW rfl λjx=>
  (zai (zam (zaX jx (JE.asD (zaX jx (JE.asD (zaX jx (JE.asD (zaX jx zan (zbA jx 0 (zbb T) (zac 0)))) zan)) (zbA jx 0 (zl7 T) (zac 0)))) (JE.asD (zaQ jx (zfT T) (by decide) T.zb6 T.zdp.kp (zgU T) zah (zaa zan (zaa (zbA jx 0 (zdq T) (zac 0)) zaf aA) aC) aC)))))
theorem zni (T:Txt K mg A):FnOk P w K mg base CX0 1 A.zbk A.zhR nL1 (SpF (bk K A) 1 zbk):=
 T.zkl.okJ zmX rfl λjx=>
  (zai (zam (zaX jx zan (zbA jx 0 (zbb T) (zac 0)))))
theorem zoK (T:Txt K mg A):FnOk P w K mg base CX0 3 A.zbO A.zi9 nL1 (SpF (bk K A) 1 zbO):=
 T.zl1.okJ zow rfl λjx=>
  (zai (zam (zaX jx (JE.asD (zaX jx zan (zbA jx 0 (zbb T) (zac 0)))) (JE.asD (zaQ jx (zfT T) (by decide) T.zb6 T.zdp.kp (zgU T) zah (zaa zan (zaa (zbA jx 0 (zdq T) (zac 0)) zaf aA) aC) aC)))))
theorem znj (T:Txt K mg A):FnOk P w K mg base CX0 1 A.zbl A.zhS nL1 (SpF (bk K A) 1 zbl):=
 T.zkm.okJ zmY rfl λjx=>
  (zai (zam (zaX jx (JE.asD (zaX jx (JE.asD (zaX jx zan (JE.asD (zcj jx zyL T.zm7 PyProof.Rows.Boot.«str» (zaa (zbA jx 0 (ziF T) (zac 0)) zaf aA) aA)))) zan)) (zbA jx 0 (zbb T) (zac 0)))))
theorem znk (T:Txt K mg A):FnOk P w K mg base CX0 3 A.zbm A.zhT nL1 (SpF (bk K A) 1 zbm):=
 T.zkn.okJ zmZ rfl λjx=>
  (zai (zam (zaX jx (JE.asD (zaX jx (JE.asD (zaX jx (JE.asD (zaX jx zan (zbA jx 0 (zbb T) (zac 0)))) zan)) (zbA jx 0 (zl7 T) (zac 0)))) (JE.asD (zaQ jx (zfT T) (by decide) T.zb6 T.zdp.kp (zgU T) zah (zaa zan (zaa (zbA jx 0 (zdq T) (zac 0)) zaf aA) aC) aC)))))
theorem zma (T : Txt K mg A) : FnOk P w K mg base CX0 1 A.zaP A.zgo zAU (SpF (bk K A) 1 zaP) :=
  T.zgs.okJ zlX rfl λjx =>
   (zag (za0 (zap (zdv jx) (JE.asD (zax jx (zd8 jx) T.zdw bLn (zaa (zac 0) zaf aN) aN)) zal (zao _))
    (zai (zam (zcg (zaa (zsa (zaa (zbv jx (zac 0) zal) (zaa (zbv jx (zac 0) zal) zaf aS) aS)) zaf aT))))
    zay)
   (zag (za0 (zap (zdv jx) (JE.asD (zax jx (zd8 jx) T.zdw bLn (zaa (zac 0) zaf aN) aN)) zal (zao _))
    (zai (zam (zcg (zaa (zsa (zaa (zbv jx (zac 0) zal) (zaa (zbv jx (zac 0) zal) zaf aS) aS)) (zaa (zsa (zaa (zbv jx (zac 0) zal) (zaa (zbv jx (zac 0) zal) zaf aS) aS)) zaf aT) aT))))
    zay)
   (zai (zam (zcg zaf)))))
theorem zee (T : Txt K mg A) : FnOk P w K mg base CX0 2 A.zaA A.zcR nL0 (SpF (bk K A) 2 zaA) :=
  T.zb5.okJ zhJ rfl λjx =>
   (zai (zam (JD.asE (zhx (zdv jx) (JE.asD (zg1 jx (NX := nL0) (SX := zad zb4) (N := ["_law_term"]) (own := 1) (fi := []) csm (zig jx (zbA jx 0 (zdq T) (zac 0))) (zbJ 0 (λ_ => (show (["_law_term"] : List Str).Nodup by decide +kernel)) lO) ze5 (JE.asD (zcj (JX.comp jx _ _) (ziQ (JX.comp jx _ _)) T.zgT PyProof.Rows.Boot.«tuple» (zaa (JE.asD (zmG (JX.comp jx _ _) zg2 (JE.asD (JE.or (zcQ (JX.comp jx _ _) (cn := 2) (zac 0) T.znH T.zhZ (zh9 T) (by decide) (zjk T) rfl zah)
      (zcQ (JX.comp jx _ _) (cn := 6) (zac 0) T.znI T.zh0 (zia T) (by decide) (zjl T) rfl zah))) (zaa zan zaf aC) aC)) zaf aL) aL)))) (JE.asD (zaQ jx (zma T) (by decide) T.zcD T.zgs.kp (zna T) zah (zaa (zac 1) zaf aN) aN)) (zao _)))))
theorem zmb (T : Txt K mg A) : FnOk P w K mg base CX0 3 A.zau A.zgp nL0 (SpF (bk K A) 2 zau) :=
  T.zgt.okJ zlY rfl λjx =>
   (zag (za0 (JW.t (zdI (zap (zdv jx) (zbv jx (zac 1) zal) zan (zao _)) (zdx (zap (zdv jx) (zbv jx (zac 1) zal) zan (zao _)))))
    (zag (za0 (JW.t (zdI (JW.t (zj3 (zap (zdv jx) (zbv jx (zac 1) zal) zan (zao _)) (zhy (zcM (zci (JE.asD (zax jx (ziv jx (zeT T)) T.zaw bIs (zaa (zac 0) (zaa (zlF jx (n := 1) (C := A.zbn) rfl T.zql) zaf aN) aN) aN))))))) (zdx (JW.t (zj3 (zap (zdv jx) (zbv jx (zac 1) zal) zan (zao _)) (zhy (zcM (zci (JE.asD (zax jx (ziv jx (zeT T)) T.zaw bIs (zaa (zac 0) (zaa (zlF jx (n := 7) (C := A.zbo) rfl T.zqo) zaf aN) aN) aN))))))))))
      (zai (zam (JD.asE zog)))
      zay)
     (zai (zam (JD.asE (zlH (zhx (zdv jx) (JE.asD (zcg (zaa (zbA jx 0 (zbb T) (zac 0)) (zaa (zbA jx 0 (zl7 T) (zac 0)) zaf aA) aA))) (JE.asD (zcg (zaa (zbv jx (zac 1) zal) (zaa (zbv jx (zac 1) zal) zaf aS) aS))) (zao _)) (zlG (JE.asD (zaQ jx (zee T) (by decide) T.za8 T.zb5.kp (zeS T) zah (zaa (zac 0) (zaa (JE.asD (zj4 jx (zac 1) (zaZ zal) zbI)) zaf aS) aN) aN))))))))
    zay)
   (zag (za0 (zap (zdv jx) (zbv jx (zac 1) zal) zan (zao _))
    (zai (zam (JD.asE (zlH (JE.asD (zax jx (ziv jx (zeT T)) T.zaw bIs (zaa (zac 0) (zaa (zlF jx (n := 4) (C := A.zcO) rfl T.ztF) zaf aN) aN) aN)) (zlH (zhx (zdv jx) (zbA jx 0 (zbb T) (zac 0)) (zbv jx (zac 1) zal) (zao _)) (zlG (JE.asD (zaQ jx (zee T) (by decide) T.za8 T.zb5.kp (zeS T) zah (zaa (zac 0) (zaa (JE.asD (zj4 jx (zac 1) (zaZ zal) zbI)) zaf aS) aN) aN))))))))
    zay)
   (zag (za0 (zap (zdv jx) (zbv jx (zac 1) zal) zan (zao _))
    (zai (zam (JD.asE (zlH (JE.asD (zax jx (ziv jx (zeT T)) T.zaw bIs (zaa (zac 0) (zaa (zlF jx (n := 0) (C := A.zbs) rfl T.zqk) zaf aN) aN) aN)) (zlG (zhx (zdv jx) (JE.asD (zcg (zaa (zbA jx 0 (znc T) (zac 0)) (zaa (zbA jx 0 (zjm T) (zac 0)) zaf aA) aA))) (JE.asD (zj4 jx (zac 1) (zaZ zal) zbI)) (zao _)))))))
    zay)
   (zag (za0 (zap (zdv jx) (zbv jx (zac 1) zal) zan (zao _))
    (zag (za0 (zci (JE.asD (zax jx (ziv jx (zeT T)) T.zaw bIs (zaa (zbA jx 0 (ziF T) (zac 0)) (zaa (zxa jx T.zl3 PyProof.Rows.Boot.«bool») zaf aN) aA) aA)))
      (zai (zam (JD.asE zog)))
      zay)
     (zai (zam (JD.asE (zlH (JE.asD (zax jx (ziv jx (zeT T)) T.zaw bIs (zaa (zac 0) (zaa (zlF jx (n := 5) (C := A.zbt) rfl T.zqn) zaf aN) aN) aN)) (zlG (zhx (zdv jx) (JE.asD (zcg (zaa (zbA jx 0 (ziF T) (zac 0)) (zaa (zbA jx 0 (zbb T) (zac 0)) zaf aA) aA))) (JE.asD (zcg (zaa (JE.asD (zcj jx ztB T.zqu PyProof.Rows.Boot.«int» (zaa (zbv jx (zac 1) zal) zaf aS) aS)) (zaa (zbv jx (zac 1) zal) zaf aS) aL))) (zao _))))))))
    zay)
   (zai (zam (JD.asE (zlH (JE.asD (zax jx (ziv jx (zeT T)) T.zaw bIs (zaa (zac 0) (zaa (zlF jx (n := 3) (C := A.zbE) rfl T.zqm) zaf aN) aN) aN)) (zlG (zhx (zdv jx) (zbA jx 0 (zbb T) (zac 0)) (zbv jx (zac 1) zal) (zao _)))))))))))
theorem zzC (T : Txt K mg A) : FnOk P w K mg base CX0 9 A.zmT A.zvS ["_law_script"] (SpF (bk K A) 1 zmT) :=
  T.zB8.okJ zki rfl λjx =>
   (zag (zny jx (zmI jx T.zh6 (zaa (JE.asD (zax jx (zBJ jx) T.zvU PyProof.Rows.Boot.«max» (zaa zal (zaa (JE.asD (zax jx (zBK jx) T.zvV PyProof.Rows.Boot.«min» (zaa (JE.asD (zax jx (zd8 jx) T.zdw bLn (zaa (zac 0) zaf aN) aN)) (zaa zal zaf aC) aL) aL)) zaf aL) aC) aC)) zaf aL)) (zbJ 1 (λ_ => zki.nd) lO)
    (show JB _ _ _ zgc from (zag (zbf 2 (L' := [0, 1]) (λ_ => zki.nd) lO (zaQ jx (zk7 T) (by decide) T.zdz T.zfl.kp (zl4 T) zah (zaa (JE.asD (zaQ jx (zjT T) (by decide) T.zco T.zeD.kp (zk5 T) zah (zaa (zac 0) (zaa (zac 1) zaf aN) aN) aN)) (zaa zal zaf aC) aL) aL))
     (zag (zbf 3 (L' := [2]) (λ_ => zki.nd) lO (zaQ jx (zk8 T) (by decide) T.zcN T.zfm.kp (zl5 T) zah (zaa (JE.asD (zaQ jx (zl9 T) (by decide) T.zdj T.zgr.kp (zm9 T) zah (zaa (zac 2) zaf aN) aN)) (zaa (zac 2) zaf aN) aL) aL))
     (zag (zyM (L' := [3]) (zaQ jx (znd T) (by decide) T.zcB T.zhU.kp (zoy T) zah (zaa (zac 3) zaf aN) aN) (zpQ jx (zfZ (zbJ 4 (λ_ => zki.nd) lO) (zfZ (zbJ 5 (λ_ => zki.nd) lO) zmH))))
     (zai (za0 (zcM (zci (JE.asD (zaQ jx (znf T) (by decide) T.zdd T.zhW.kp (zoA T) zah (zaa (zac 3) zaf aN) aN))))
      (zai (za0 (JW.t (zdI (zap ztr (zac 4) zdH (zao _)) (zdI (zap (zvM jx) (zac 5) (JE.asD (zcg (zaa zog (zaa (zac 3) zaf aN) aC))) (zao _)) (zdx (zap (zvM jx) (JE.asD (zax jx (ziv jx (zeT T)) T.zaw bIs (zaa (zac 3) (zaa (zxa jx T.zl3 PyProof.Rows.Boot.«bool») zaf aN) aN) aN)) (JE.asD (zax jx (ziv jx (zeT T)) T.zaw bIs (zaa (zbv jx (zac 5) zal) (zaa (zxa jx T.zl3 PyProof.Rows.Boot.«bool») zaf aN) aS) aS)) (zao _))))))
        (zai (zam (JD.asE zog)))
        zay))
      (zai (za0 (JW.t (zdI (zap ztr (zac 5) zdH (zao _)) (zdI (zap (zvM jx) (JE.asD (JE.or (zcQ jx (cn := 0) (zac 4) T.zm0 T.zm2 (zng T) (by decide) (zoB T) rfl zah)
      (JE.or (zcQ jx (cn := 1) (zac 4) T.zkY T.zm3 (znh T) (by decide) (zoC T) rfl zah)
      (JE.or (zcQ jx (cn := 2) (zac 4) T.znH T.zhZ (zh9 T) (by decide) (zjk T) rfl zah)
      (JE.or (zcQ jx (cn := 3) (zac 4) T.zqp T.zm4 (zni T) (by decide) (zoD T) rfl zah)
      (JE.or (zcQ jx (cn := 4) (zac 4) T.zqq T.zox (zoK T) (by decide) (zqA T) rfl zah)
      (JE.or (zcQ jx (cn := 5) (zac 4) T.zm1 T.zm5 (znj T) (by decide) (zoE T) rfl zah)
      (JE.or (zcQ jx (cn := 6) (zac 4) T.znI T.zh0 (zia T) (by decide) (zjl T) rfl zah)
      (zcQ jx (cn := 7) (zac 4) T.zkZ T.zm6 (znk T) (by decide) (zoF T) rfl zah))))))))) (zac 3) (zao _)) (zdx (zcM (zci (JE.asD (zaQ jx (zmb T) (by decide) T.zby T.zgt.kp (znb T) zah (zaa (zac 4) (zaa (JE.asD (zmG jx zg2 (zac 3) (zaa zan zaf aC) aC)) zaf aL) aN) aN))))))))
        (zai (zam (JD.asE zog)))
        zay)))))))))
   (zai (zam (JD.asE zog))))
end
theorem znK:(Str.ofString " ")=⟨#[32]⟩:=by decide +kernel
abbrev Low (z:Str):Prop:=∀ c∈z.cps.toList,c < 128
theorem Low.ok {z:Str} (h:Low z):Ok z:=by
 show PyData.strOk z=true;unfold PyData.strOk;rw [<- Array.all_toList,List.all_eq_true];intro c hc;have:=h c hc;exact decide_eq_true (by omega)
theorem Low.add {a b:Str} (ha:Low a) (hb:Low b):Low (a++b):=λc hc=>by
 rw [za4] at hc;rcases List.mem_append.mp hc with h | h
 ·exact ha c h
 ·exact hb c h
theorem zds (a b c:Str):a++b++c=a++(b++c):=zkR (by simp only [za4,List.append_assoc])
theorem znL (s:Str):∀ (ws:List Str) (w:Str),w∈ws->∀ c∈w.cps.toList,c∈(Str.join s ws).cps.toList
 | [x],w,h,c,hc=>by
  cases List.mem_singleton.mp h
  exact hc
 | x :: y :: r,w,h,c,hc=>by
  show c∈(x++s++Str.join s (y :: r)).cps.toList;rw [za4,za4];rcases List.mem_cons.mp h with rfl | h
  ·simp [hc]
  ·have:=znL s (y :: r) w h c hc;simp [this]
theorem znM {s:Str} (hs:Low s):∀ ws:List Str,(∀ w∈ws,Low w)->Low (Str.join s ws)
 | [],_=>by intro c hc; cases hc
 | [x],h=>h x (by simp)
 | x :: y :: r,h=>((h x (by simp)).add hs).add (znM hs (y :: r) λw hw=>h w (by simp [hw]))
theorem join_len (s:Str):∀ ws:List Str,(Str.join s ws).length<=(ws.map (·.length)).sum+ws.length*s.length
 | []=>by show 0<=_; exact Nat.zero_le _
 | [x]=>by simp [Str.join]
 | x :: y :: r=>by
  have:=join_len s (y :: r);show (x++s++Str.join s (y :: r)).length<=_;rw [zak,zak];simp only [List.map_cons,List.sum_cons,List.length_cons,Nat.add_mul] at this ⊢;omega
abbrev sp (z:Str):List Str:=Txt.split z (Str.ofString " ")
theorem zla (z:Str):Str.join (Str.ofString " ") (sp z)=z:=StrLaws.join_split z _
theorem zzD (z:Str):sp z≠[]:=by
 have:=PyProof.Rows.split_pos z (Str.ofString " ");intro e;rw [show Txt.split z (Str.ofString " ")=[] from e] at this;simp at this
theorem zvY (z:Str):∀ w∈sp z,32∉w.cps.toList:=by
 unfold sp; rw [znK]; exact StrLaws.split_free z 32
theorem ztG {z:Str} (h:Low z):∀ w∈sp z,Low w:=λw hw c hc=>h c (by
 have:=znL (Str.ofString " ") (sp z) w hw c hc;rw [zla] at this; exact this)
theorem znN {z:Str}:∀ w∈sp z,w.length<=z.length:=λw hw=>PyProof.Rows.part_short hw
theorem zsI {a b x y:List Nat} (ha:32∉a) (hb:32∉b) (h:a++32 :: x=b++32 :: y):a=b/\x=y:=by
 induction a generalizing b with
 | nil=>cases b with
  | nil=>simpa using h
  | cons c b=>simp at h; exact absurd (by simp [h.1]) hb
 | cons c a ih=>cases b with
  | nil=>simp at h; exact absurd (by simp [h.1]) ha
  | cons d b=>
   simp only [List.cons_append,List.cons.injEq] at h;obtain ⟨rfl,h⟩:=h;have:=ih (λz=>ha (by simp [z])) (λz=>hb (by simp [z])) h;exact ⟨by rw [this.1],this.2⟩
theorem zjr:(Str.ofString " ").cps.toList=[32]:=by rw [znK]
theorem zmc:∀ (ws vs:List Str),ws≠[]->vs≠[]->(∀ w∈ws,32∉w.cps.toList)->(∀ w∈vs,32∉w.cps.toList)->Str.join (Str.ofString " ") ws=Str.join (Str.ofString " ") vs->ws=vs
 | [],_,h,_,_,_,_=>absurd rfl h
 | _ :: _,[],_,h,_,_,_=>absurd rfl h
 | [x],[y],_,_,_,_,e=>by rw [show x=y from e]
 | [x],y :: z :: r,_,_,h1,_,e=>by
  have e:x=y++(Str.ofString " ")++Str.join (Str.ofString " ") (z :: r):=e;refine absurd ?_ (h1 x (by simp));rw [e,za4,za4,zjr]; simp
 | y :: z :: r,[x],_,_,_,h1,e=>by
  have e:y++(Str.ofString " ")++Str.join (Str.ofString " ") (z :: r)=x:=e;refine absurd ?_ (h1 x (by simp));rw [<- e,za4,za4,zjr]; simp
 | a :: b :: r,c :: d :: t,_,_,h1,h2,e=>by
  have e:a++(Str.ofString " ")++Str.join (Str.ofString " ") (b :: r)=c++(Str.ofString " ")++Str.join (Str.ofString " ") (d :: t):=e;have e':=congrArg (λz:Str=>z.cps.toList) e;simp only [za4,zjr,List.append_assoc,List.singleton_append] at e';obtain ⟨q1,q2⟩:=zsI (h1 a (by simp)) (h2 c (by simp)) e';rw [zkR q1,zmc (b :: r) (d :: t) (by simp) (by simp) (λw hw=>h1 w (by simp [hw])) (λw hw=>h2 w (by simp [hw])) (zkR q2)]
theorem zCc (ws:List Str) (h0:ws≠[]) (h:∀ w∈ws,32∉w.cps.toList):sp (Str.join (Str.ofString " ") ws)=ws:=zmc _ _ (zzD _) h0 (zvY _) h (zla _)
theorem zsJ:32∉zcA:=by decide
theorem Good.free {z:Str} (g:Good z):32∉z.cps.toList:=λh=>zsJ (g.all 32 h)
def isN (w:Str):Bool:=decide (1<=w.length)&&decide (w.length<=6)&&w.cps.toList.all λc=>decide (c∈zcA)
theorem zcZ {w:Str}:isN w=true↔Good w:=by
 simp only [isN,Bool.and_eq_true,decide_eq_true_eq,List.all_eq_true];exact ⟨λh=>⟨h.1.1,h.1.2,h.2⟩,λg=>⟨⟨g.lo,g.hi⟩,g.all⟩⟩
theorem zqD (c:Nat):c∈zcA↔97<=c/\c<=122:=by
 constructor
 ·intro h;have:∀ c∈zcA,97<=c/\c<=122:=by decide
  exact this c h
 ·intro h;have:∀ k:Fin 26,k.val+97∈zcA:=by decide
  have:=this ⟨c-97,by omega⟩
  rwa [show c-97+97=c by omega] at this
theorem zzE (c:Nat):oIn (.str ⟨#[c]⟩) (.str (Str.ofString "abcdefghijklmnopqrstuvwxyz"))=some (.bl (decide (c∈zcA))):=by
 simp only [oIn,inB,Option.map_some];rw [StrLaws.found_one,zg3]
theorem zib (z:Str):zeQ tab [.str z,.ty "str"]=some (.sh (.bl true)):=rfl
theorem zzF (w:Str) (hz:w.length<=sizeLine):zar [.str w]=some (.sh (.bl (isN w))):=by
 have hl:zbK [.str w]=some (.sh (.int (w.length:Nat))):=by simp [hz]
 refine za1 rfl ?_;show zbC [some (.sh (.str w))]=_;unfold zbC;refine zat (S1:=[some (.sh (.str w))]) (by simp [zib]) ?_
 by_cases h1:w.length < 1\/6 < w.length
 ·have e:isN w=false:=by
   unfold isN;rcases h1 with h | h
   ·rw [decide_eq_false (by omega:¬ 1<=w.length)]; rfl
   ·rw [decide_eq_false (by omega:¬ w.length<=6)]; simp
  rw [e];refine zbd ?_;rcases h1 with h | h
  ·have:(w.length:Int) < 1:=by omega
   simp [this,hz]
  ·have:(6:Int) < (w.length:Int):=by omega
   by_cases q:(w.length:Int) < 1
   ·simp [q,hz]
   ·simp [q,this,hz]
 ·have a1:¬ (w.length:Int) < 1:=by omega
  have a2:¬ (6:Int) < (w.length:Int):=by omega
  refine zat (S1:=[some (.sh (.str w))]) (by simp [a1,a2,hz]) ?_;have hc:zd7 (gN 0) zf5 (m2 oIn (mV 0) (mC (.str (Str.ofString "abcdefghijklmnopqrstuvwxyz")))) (zjy w) (zkD 1 [] [some (.sh (.str w))])=some (w.cps.toList.map λc=>D.bl (decide (c∈zcA))):=by
   show zd7 _ _ _ (w.cps.toList.map λc=>D.str ⟨#[c]⟩) [none]=_;refine zkS (λc:Nat=>D.str ⟨#[c]⟩) [] _ _ _ (λc _=>?_) none;refine (zaq (x:=.str ⟨#[c]⟩) (y:=.str (Str.ofString "abcdefghijklmnopqrstuvwxyz")) (by simp) rfl).trans (zzE c)
  have h3:=zbX (zck (own:=1) (fi:=[]) (mi:=zlf (mV 0)) (mg:=gN 0) (mt:=zf5) (me:=m2 oIn (mV 0) (mC (.str (Str.ofString "abcdefghijklmnopqrstuvwxyz")))) (S:=[some (.sh (.str w))]) (its:=zjy w) (by simp) (by simpa [zjy,Str.length] using hz) hc);simp only [SV.fr] at h3;have h4:zw9 [.lst (w.cps.toList.map λc=>D.bl (decide (c∈zcA)))]=some (.sh (.bl (w.cps.toList.all λc=>decide (c∈zcA)))):=by
   have:∀ l:List Nat,zw8 (l.map λc=>D.bl (decide (c∈zcA)))=some (l.map λc=>decide (c∈zcA)):=λl=>by
    induction l with
    | nil=>rfl
    | cons c l ih=>simp [zw8,ih]
   simp only [zw9,this,Option.map_some,List.all_map]; rfl
  have e:isN w=w.cps.toList.all λc=>decide (c∈zcA):=by
   unfold isN; rw [decide_eq_true (by omega:1<=w.length),decide_eq_true (by omega:w.length<=6)]; rfl
  rw [e];simp only [zaW,m1,zab,zaj,h3,Option.bind_some,Option.map_some,h4]
theorem zsK {zs:List Str} (h:∀ z∈zs,Ok z):shp (.lst (zs.map D.str))=some (.list (zs.map PyData.str)):=by simp [shp,D.dat,zop,zB4 h]
theorem zvZ:∀ xs ys:List Str,PyData.eqvAll (xs.map PyData.str) (ys.map PyData.str)=decide (xs=ys)
 | [],[]=>by simp [PyData.eqvAll]
 | [],y :: ys=>by simp [PyData.eqvAll]
 | x :: xs,[]=>by simp [PyData.eqvAll]
 | x :: xs,y :: ys=>by
  show ((x==y)&&PyData.eqvAll (xs.map PyData.str) (ys.map PyData.str))=_;rw [zvZ xs ys,Bool.eq_iff_iff];simp
theorem zDl {xs ys:List Str} (hx:∀ z∈xs,Ok z) (hy:∀ z∈ys,Ok z):oEq (.lst (xs.map D.str)) (.lst (ys.map D.str))=some (.bl (decide (xs=ys))):=by
 simp [oEq,zsK hx,zsK hy,PyData.eqv,zvZ]
theorem zDR {xs ys:List Str} (hx:∀ z∈xs,Ok z) (hy:∀ z∈ys,Ok z):oNe (.lst (xs.map D.str)) (.lst (ys.map D.str))=some (.bl (!decide (xs=ys))):=by
 simp [oNe,zsK hx,zsK hy,PyData.eqv,zvZ]
theorem zCd:(Str.ofString "a").cps.toList=[97]:=by decide +kernel
theorem zCe:(Str.ofString "z").cps.toList=[122]:=by decide +kernel
theorem lt1 (a b:Nat):decide (([a]:List Nat) < [b])=decide (a < b):=by
 rw [Bool.eq_iff_iff,decide_eq_true_eq,decide_eq_true_eq,List.cons_lt_cons_iff];simp
theorem zsL (zaL:FSt) (c:Nat):zfW (zae (zdf znB znB (mC (.str (Str.ofString "a"))) (mV 0) (mC (.str (Str.ofString "z"))))) (some (.sh (.str ⟨#[c]⟩)) :: zaL)=some (!decide (c∈zcA)):=by
 have e1:znB (.str (Str.ofString "a")) (.str ⟨#[c]⟩)=some (.bl (!decide (c < 97))):=by
  show some (D.bl (!decide (([c]:List Nat) < (Str.ofString "a").cps.toList)))=_;rw [zCd,lt1]
 have e2:znB (.str ⟨#[c]⟩) (.str (Str.ofString "z"))=some (.bl (!decide (122 < c))):=by
  show some (D.bl (!decide ((Str.ofString "z").cps.toList < ([c]:List Nat))))=_;rw [zCe,lt1]
 have e3:decide (c∈zcA)=(decide (97<=c)&&decide (c<=122)):=by
  rw [Bool.eq_iff_iff,decide_eq_true_eq,zqD]; simp
 rw [e3]
 by_cases h:c < 97
 ·have:¬ 97<=c:=by omega
  simp [zdf,e1,h,this,-znB]
 ·have h':97<=c:=by omega
  by_cases q:122 < c
  ·have:¬ c<=122:=by omega
   simp [zdf,e1,e2,h,h',q,this,-znB]
  ·have:c<=122:=by omega
   simp [zdf,e1,e2,h,h',q,this,-znB]
theorem zzG (w:Str) (hz:w.length<=sizeLine) (hl:Low w):zaT [.str w]=some (.sh (.bl (isN w))):=by
 have hc:zd7 (gN 0) (zfW (zae (zdf znB znB (mC (.str (Str.ofString "a"))) (mV 0) (mC (.str (Str.ofString "z")))))) (mV 0) (zjy w) (zkD 1 [] [some (.sh (.str w))])=some ((w.cps.toList.filter λc=>!decide (c∈zcA)).map λc=>D.str ⟨#[c]⟩):=by
  show zd7 _ _ _ (w.cps.toList.map λc=>D.str ⟨#[c]⟩) [none]=_;exact zvQ (λc:Nat=>D.str ⟨#[c]⟩) [] _ _ _ _ _ (λc _=>⟨zsL [] c,λ_=>by simp⟩) none
 have h3:=zbX (zck (own:=1) (fi:=[]) (mi:=zlf (mV 0)) (mg:=gN 0) (S:=[some (.sh (.str w))]) (its:=zjy w) (by simp) (by simpa [zjy,Str.length] using hz) hc);simp only [SV.fr] at h3;have h4:oEq (.lst ((w.cps.toList.filter λc=>!decide (c∈zcA)).map λc=>D.str ⟨#[c]⟩)) (.lst [])=some (.bl (w.cps.toList.all λc=>decide (c∈zcA))):=by
  have:=zDl (xs:=(w.cps.toList.filter λc=>!decide (c∈zcA)).map λc=>(⟨#[c]⟩:Str)) (ys:=[]) (λz hz=>by
   obtain ⟨c,hc,rfl⟩:=List.mem_map.mp hz;exact Low.ok λd hd=>by
    have:d=c:=by simpa using hd
    rw [this]; exact hl c (List.mem_filter.mp hc).1) (by simp)
  rw [List.map_map] at this;refine this.trans ?_;congr 2;rw [Bool.eq_iff_iff,decide_eq_true_eq,List.map_eq_nil_iff,List.filter_eq_nil_iff,List.all_eq_true];simp only [Bool.not_eq_true',decide_eq_false_iff_not,Classical.not_not,decide_eq_true_eq]
 refine za1 rfl ?_;show zba [some (.sh (.str w))]=_;have h5:mFr (zda zaj) [some (.sh (.str w))]=some (.lst []):=by simp
 have h6:=(zaq (f:=oEq) h3 h5).trans h4
 by_cases h1:w.length < 1\/6 < w.length
 ·have e:isN w=false:=by
   unfold isN;rcases h1 with h | h
   ·rw [decide_eq_false (by omega:¬ 1<=w.length)]; rfl
   ·rw [decide_eq_false (by omega:¬ w.length<=6)]; simp
  rw [e];rcases h1 with h | h
  ·have:¬ (1:Int)<=(w.length:Int):=by omega
   simp [zba,zdf,hz,this]
  ·have:¬ (w.length:Int)<=6:=by omega
   by_cases q:(1:Int)<=(w.length:Int)
   ·simp [zba,zdf,hz,this,q]
   ·simp [zba,zdf,hz,this,q]
 ·have a1:(1:Int)<=(w.length:Int):=by omega
  have a2:(w.length:Int)<=6:=by omega
  have e:isN w=w.cps.toList.all λc=>decide (c∈zcA):=by
   unfold isN; rw [decide_eq_true (by omega:1<=w.length),decide_eq_true (by omega:w.length<=6)]; rfl
  rw [e];have t:zae (zdf oLe oLe (mC (.int 1)) (mFr (m1 zbK (zab (mV 0) zaj))) (mC (.int 6))) [some (.sh (.str w))]=some true:=by simp [zdf,hz,a1,a2]
  unfold zba;simp only [zaW,mSh,zjw,t,Option.bind_some,if_true,h6,Option.map_some]
theorem zsM (a b:Int):oEq (.int a) (.int b)=some (.bl (a==b)):=rfl
theorem zv0 (c left num:Int) (k:Nat) (s1:Option SV) (xs:List D) (hx:xs.length < sizeLine) (h0:0<=num) (h1:num < 2147483647) (hk:k < 100):∃ (v:Nat) (num':Int),0<=num'/\num' < 2147483647/\
  zaR [sI' c,s1,some (.li xs),sI' left,sI' num,sI' k]=.nx [sI' c,s1,some (.li (xs++[nD v])),sI' (left / 1000003),sI' num',sI' k]:=by
 have n0:0<=(num*num+48271*num+7919*k+11)%2147483647:=Int.emod_nonneg _ (by omega);have n1:(num*num+48271*num+7919*k+11)%2147483647 < 2147483647:=Int.emod_lt_of_pos _ (by omega);have c1:zpE num num=true:=ztm (by omega) (by omega);have hz:(2:Nat)<=sizeLine:=by rw [zaI]; omega
 obtain ⟨v1,e1,_⟩:=zvR left (b:=1000003) (by omega);obtain ⟨v2,e2⟩:=Int.eq_ofNat_of_zero_le n0;generalize hM:(num*num+48271*num+7919*(k:Int)+11)%2147483647=M at n0 n1 e2
 by_cases d:(c%2==1)=true
 ·by_cases e:0 < left
  ·exact ⟨v1,M,n0,n1,by simp [zaR,c1,hM,zsM,d,e,hz,hx,e1,D.plain,atI,ixN]⟩
  ·exact ⟨v2,M,n0,n1,by simp [zaR,c1,hM,zsM,d,e,hz,hx,e1,e2,D.plain,atI,ixN]⟩
 ·exact ⟨v2,M,n0,n1,by simp [zaR,c1,hM,zsM,d,hz,hx,e1,e2,D.plain,atI,ixN]⟩
theorem zqE (c:Int) (s1:Option SV):∀ (ks vs:List Nat) (left num:Int) (x5:Option D),(∀ k∈ks,k < 100)->vs.length+ks.length<=sizeLine->0<=num->num < 2147483647->∃ (ws:List Nat) (left' num':Int) (y5:Option D),ws.length=vs.length+ks.length/\
  zdG (gN 5) zaR (ks.map nD) [sI' c,s1,some (.li (vs.map nD)),sI' left,sI' num,oD' x5]=.nx [sI' c,s1,some (.li (ws.map nD)),sI' left',sI' num',oD' y5]
 | [],vs,left,num,x5,_,_,_,_=>⟨vs,left,num,x5,rfl,rfl⟩
 | k :: ks,vs,left,num,x5,hk,hl,h0,h1=>by
  simp only [List.length_cons] at hl;obtain ⟨v,num1,a0,a1,e⟩:=zv0 c left num k s1 (vs.map nD) (by rw [List.length_map]; omega) h0 h1 (hk k (by simp));obtain ⟨ws,left',num',y5,hw,h⟩:=zqE c s1 ks (vs++[v]) (left / 1000003) num1 (some (.int k)) (λz hz=>hk z (by simp [hz])) (by simp; omega) a0 a1;refine ⟨ws,left',num',y5,by simp at hw ⊢; omega,?_⟩;rw [List.map_cons,zdG];have hg:gN 5 (nD k) [sI' c,s1,some (.li (vs.map nD)),sI' left,sI' num,oD' x5]=some [sI' c,s1,some (.li (vs.map nD)),sI' left,sI' num,sI' k]:=by simp
  rw [hg];simp only [e];rw [List.map_append] at h;exact h
theorem zsN (c:Int) (n:Nat) (hn:n < 100):∃ ws:List Nat,ws.length=n/\zaJ [.int c,.int n]=some (.li (ws.map nD)):=by
 obtain ⟨ws,left',num',y5,hw,h⟩:=zqE c (sI' n) (List.range n) [] (c / 2) (c / 2%2147483647) none (by intro k hk; simp at hk; omega) (by rw [zaI]; simp; omega) (Int.emod_nonneg _ (by omega)) (Int.emod_lt_of_pos _ (by omega));refine ⟨ws,by simpa using hw,?_⟩;have hr:=zDj n (by omega);generalize (List.range n).map nD=its at hr h;simp only [sI',oD',Option.map_none,List.map_nil] at h;simp [zaJ,zbY,zdz,zij,hr,h]
def zdE:List Str:=["give N by N","give N by N to T N","give N by N to T N and T N","take N by N","take N by N from T N","take N by N from T N and T N","lay N","lay N if T N","lay N if T N and T N","both N N","most D N","last N"]
def zbp:List (List Str):=[["give","N","by","N"],["give","N","by","N","to","T","N"],["give","N","by","N","to","T","N","and","T","N"],["take","N","by","N"],["take","N","by","N","from","T","N"],["take","N","by","N","from","T","N","and","T","N"],["lay","N"],["lay","N","if","T","N"],["lay","N","if","T","N","and","T","N"],["both","N","N"],["most","D","N"],["last","N"]]
def fmD (f:List Str):D:=.lst (f.map D.str)
theorem zsO:zdE.map sp=zbp:=by decide +kernel
theorem zmd:∀ t∈zdE,t.length<=100000:=by decide +kernel
theorem zqF {z:Str} (h:z.length<=100000):zbB (.str z) [.str (Str.ofString " ")]=some (.li ((sp z).map D.str)):=by
 have:((Str.ofString " ").length==0)=false:=by decide +kernel
 simp [this,h]
theorem znO {m:FSt->Option D} {S:FSt} {z:Str} (hm:m S=some (.str z)) (h:z.length<=100000):mFr (mBM zbB m (zab (mC (.str (Str.ofString " "))) zaj)) S=some (.lst ((sp z).map D.str)):=by
 have e:mBM zbB m (zab (mC (.str (Str.ofString " "))) zaj) S=some (.li ((sp z).map D.str)):=by
  unfold mBM; rw [hm]; exact zqF h
 rw [zbX e]; rfl
theorem zqG:zaN []=some (.li (zbp.map fmD)):=by
 have hc:zd7 (gN 0) zf5 (mFr (mBM zbB (mV 0) (zab (mC (.str (Str.ofString " "))) zaj))) (zdE.map D.str) [none]=some (zdE.map λt=>.lst ((sp t).map D.str)):=
  zkS D.str [] _ _ zdE (λt ht=>znO (by simp) (zmd t ht)) none
 have e:(zdE.map λt=>D.lst ((sp t).map D.str))=zbp.map fmD:=by
  rw [<- zsO,List.map_map]; rfl
 rw [e] at hc;have hz:(12:Nat)<=sizeLine:=by rw [zaI]; omega
 have h5:(5:Nat)<=sizeLine:=by omega
 have h10:(10:Nat)<=sizeLine:=by omega
 have h2:(2:Nat)<=sizeLine:=by omega
 refine za1 rfl ?_;show zcC [none]=_;unfold zcC;refine zat (S1:=[some (.li ((zdE.take 5).map D.str))]) (by simp [zdE,h5,D.plain]) ?_;refine zat (S1:=[some (.li ((zdE.take 10).map D.str))]) (by simp [zdE,h5,h10,D.plain]) ?_;have h3:=zck (own:=1) (fi:=[]) (mi:=zlf (mFr (m2 za9 (mV 0) (mFr (zda (zab (mC (.str (Str.ofString "most D N"))) (zab (mC (.str (Str.ofString "last N"))) zaj))))))) (mg:=gN 0) (S:=[some (.li ((zdE.take 10).map D.str))]) (its:=zdE.map D.str) (by simp [zdE,h2,hz]) (by simp [zdE]; omega) hc
 unfold zaW; rw [h3]
theorem tOr {a b:FSt->Option Bool} {S:FSt} {x y:Bool} (h1:a S=some x) (h2:b S=some y):mOr a b S=some (x||y):=by cases x <;> simp [mOr,h1,h2]
theorem zue {a b:FSt->Option Bool} {S:FSt} {x y:Bool} (h1:a S=some x) (h2:b S=some y):zrr a b S=some (x&&y):=by cases x <;> simp [zrr,h1,h2]
theorem zta {a:FSt->Option Bool} {S:FSt} {x:Bool} (h1:a S=some x):zfW a S=some (!x):=by simp [zfW,h1]
theorem tBl {m:FSt->Option D} {S:FSt} {b:Bool} (h:m S=some (.bl b)):zae m S=some b:=by simp [zae,h]
theorem ifT {t:FSt->Option Bool} {a c:FSt->Fl} {S:FSt} (h:t S=some true):mIf t a c S=a S:=by simp [mIf,h]
theorem ifF {t:FSt->Option Bool} {a c:FSt->Fl} {S:FSt} (h:t S=some false):mIf t a c S=c S:=by simp [mIf,h]
def okP (w p:Str):Bool:=if p=Str.ofString "N" then isN w else if p=Str.ofString "T" then decide (w∈[Str.ofString "has",Str.ofString "not"]) else if p=Str.ofString "D" then decide (w∈[Str.ofString "1",Str.ofString "2",Str.ofString "3",Str.ofString "4"]) else decide (w=p)
theorem okN:Ok (Str.ofString "N"):=by decide +kernel
theorem okT:Ok (Str.ofString "T"):=by decide +kernel
theorem okD:Ok (Str.ofString "D"):=by decide +kernel
theorem zqH {m:FSt->Option D} {S:FSt} {z:Str} {zs:List Str} {mr:FSt->Option (List D)} (hm:m S=some (.str z)) (hr:mr S=some (zs.map D.str)) (hl:zs.length<=sizeLine) (hz:Ok z) (h:∀ z∈zs,Ok z):m2 ze3 m (mFr (zda mr)) S=some (.bl (!decide (z∈zs))):=by
 have e:mFr (zda mr) S=some (.lst (zs.map D.str)):=by simp [zda,hr,hl]
 rw [zaq hm e];simp [ze3,zDP hz h]
theorem zqI (s0 s1:Option SV) (w p:Str) (hw:w.length<=sizeLine) (lw:Low w) (lp:Low p):zbq [s0,s1,some (.sh (.str w)),some (.sh (.str p))]=if okP w p=true then .nx [s0,s1,some (.sh (.str w)),some (.sh (.str p))] else .rt (.sh (.bl false)):=by
 have hN:=zzG w hw lw;have e1:=eqS lp.ok okN;have e2:=eqS lp.ok okT;have e3:=eqS lp.ok okD;have e4:=neS lw.ok lp.ok;have z4:(4:Nat)<=sizeLine:=by rw [zaI]; omega
 have z3:(3:Nat)<=sizeLine:=by omega
 have z2:(2:Nat)<=sizeLine:=by omega
 have i1:=zqH (S:=[s0,s1,some (.sh (.str w)),some (.sh (.str p))]) (m:=mV 2) (mr:=zab (mC (.str (Str.ofString "has"))) (zab (mC (.str (Str.ofString "not"))) zaj)) (z:=w) (zs:=[Str.ofString "has",Str.ofString "not"]) (by simp) (by simp) z2 lw.ok (by decide +kernel);have i2:=zqH (S:=[s0,s1,some (.sh (.str w)),some (.sh (.str p))]) (m:=mV 2) (mr:=zab (mC (.str (Str.ofString "1"))) (zab (mC (.str (Str.ofString "2"))) (zab (mC (.str (Str.ofString "3"))) (zab (mC (.str (Str.ofString "4"))) zaj)))) (z:=w) (zs:=[Str.ofString "1",Str.ofString "2",Str.ofString "3",Str.ofString "4"]) (by simp) (by simp) z4 lw.ok (by decide +kernel)
 have i3:=zqH (S:=[s0,s1,some (.sh (.str w)),some (.sh (.str p))]) (m:=mV 3) (mr:=zab (mC (.str (Str.ofString "N"))) (zab (mC (.str (Str.ofString "T"))) (zab (mC (.str (Str.ofString "D"))) zaj))) (z:=p) (zs:=[Str.ofString "N",Str.ofString "T",Str.ofString "D"]) (by simp) (by simp) z3 lp.ok (by decide +kernel);have n1:m2 oEq (mV 3) (mC (.str (Str.ofString "N"))) [s0,s1,some (.sh (.str w)),some (.sh (.str p))]=some (.bl (p==Str.ofString "N")):=(zaq (by simp) rfl).trans e1
 have n2:m2 oEq (mV 3) (mC (.str (Str.ofString "T"))) [s0,s1,some (.sh (.str w)),some (.sh (.str p))]=some (.bl (p==Str.ofString "T")):=(zaq (by simp) rfl).trans e2;have n3:m2 oEq (mV 3) (mC (.str (Str.ofString "D"))) [s0,s1,some (.sh (.str w)),some (.sh (.str p))]=some (.bl (p==Str.ofString "D")):=(zaq (by simp) rfl).trans e3;have n4:m2 oNe (mV 2) (mV 3) [s0,s1,some (.sh (.str w)),some (.sh (.str p))]=some (.bl (!(w==p))):=(zaq (x:=.str w) (y:=.str p) (by simp) (by simp)).trans e4
 have n5:mFr (m1 zaT (zab (mV 2) zaj)) [s0,s1,some (.sh (.str w)),some (.sh (.str p))]=some (.bl (isN w)):=by simp [hN]
 generalize hS:[s0,s1,some (.sh (.str w)),some (.sh (.str p))]=S at *;have kNT:(Str.ofString "N"==Str.ofString "T")=false:=by decide +kernel
 have kND:(Str.ofString "N"==Str.ofString "D")=false:=by decide +kernel
 have kTD:(Str.ofString "T"==Str.ofString "D")=false:=by decide +kernel
 have kTN:(Str.ofString "T"==Str.ofString "N")=false:=by decide +kernel
 have T1:=tOr (zue (tBl n1) (zta (tBl n5))) (zue (tBl n2) (tBl i1));have T2:=tOr (zue (tBl n3) (tBl i2)) (zue (tBl i3) (tBl n4));have fin:∀ b1 b2:Bool,((p==Str.ofString "N")&&!isN w||(p==Str.ofString "T")&&!decide (w∈[Str.ofString "has",Str.ofString "not"]))=b1->((p==Str.ofString "D")&&!decide (w∈[Str.ofString "1",Str.ofString "2",Str.ofString "3",Str.ofString "4"])||!decide (p∈[Str.ofString "N",Str.ofString "T",Str.ofString "D"])&&!(w==p))=b2->okP w p=!(b1||b2)->
   zbq S=if okP w p=true then .nx S else .rt (.sh (.bl false)):=λb1 b2 h1 h2 h3=>by
  rw [h1] at T1;rw [h2] at T2;unfold zbq zim;cases b1 with
  | true=>
   rw [h3];exact (zbd (x:=.sh (.bl false)) ((ifT T1).trans rfl)).trans rfl
  | false=>
   refine (zat (S1:=S) ((ifF T1).trans rfl) rfl).trans ?_;cases b2 with
   | true=>rw [h3]; exact (ifT T2).trans rfl
   | false=>rw [h3]; exact (ifF T2).trans rfl
 by_cases p1:p=Str.ofString "N"
 ·subst p1;refine fin _ _ rfl rfl ?_;rw [okP,if_pos rfl];simp [kNT,kND]
 ·have b1:(p==Str.ofString "N")=false:=by simpa using p1
  by_cases p2:p=Str.ofString "T"
  ·subst p2;refine fin _ _ rfl rfl ?_;rw [okP,if_neg p1,if_pos rfl,kTN,kTD];generalize decide (w∈[Str.ofString "has",Str.ofString "not"])=d;simp
  ·have b2:(p==Str.ofString "T")=false:=by simpa using p2
   by_cases p3:p=Str.ofString "D"
   ·subst p3;refine fin _ _ rfl rfl ?_;rw [okP,if_neg p1,if_neg p2,if_pos rfl,b1,b2];generalize decide (w∈[Str.ofString "1",Str.ofString "2",Str.ofString "3",Str.ofString "4"])=d;simp
   ·have b3:(p==Str.ofString "D")=false:=by simpa using p3
    have b4:decide (p∈[Str.ofString "N",Str.ofString "T",Str.ofString "D"])=false:=by simp [p1,p2,p3]
    refine fin _ _ rfl rfl ?_;rw [okP,if_neg p1,if_neg p2,if_neg p3,b1,b2,b3,b4]
    by_cases q:w=p <;> simp [q]
abbrev okW (w:Str):Prop:=w.length<=100000/\Low w
theorem okW.sz {w:Str} (h:okW w):w.length<=sizeLine:=by have:=h.1; rw [zaI]; omega
theorem zme (s0 s1:Option SV):∀ (ps:List Pr) (x y:Option D),(∀ p∈ps,okW p.1/\Low p.2)->∃ x' y':Option D,
  zdG (gSq 2 (gCs (gN 2) (gCs (gN 3) gNs))) zbq (ps.map pD) [s0,s1,oD' x,oD' y]=if ps.all (λp=>okP p.1 p.2)=true then .nx [s0,s1,oD' x',oD' y'] else .rt (.sh (.bl false))
 | [],x,y,_=>⟨x,y,rfl⟩
 | p :: ps,x,y,h=>by
  obtain ⟨h1,h2⟩:=h p (by simp);have e:=zqI s0 s1 p.1 p.2 h1.sz h1.2 h2;have hg:gSq 2 (gCs (gN 2) (gCs (gN 3) gNs)) (pD p) [s0,s1,oD' x,oD' y]=some [s0,s1,some (.sh (.str p.1)),some (.sh (.str p.2))]:=by simp [pD]
  obtain ⟨x',y',i⟩:=zme s0 s1 ps (some (.str p.1)) (some (.str p.2)) λq hq=>h q (by simp [hq]);cases q:okP p.1 p.2
  ·refine ⟨x,y,?_⟩;rw [q] at e;rw [List.map_cons,zdG,hg];simp only [e,Bool.false_eq_true,if_false];simp [q]
  ·refine ⟨x',y',?_⟩;rw [q] at e;rw [List.map_cons,zdG,hg];simp only [e,if_true];rw [List.all_cons,q,Bool.true_and,<- i];simp only [oD',Option.map_some]
def zct (ws fm:List Str):Bool:=decide (ws.length=fm.length)&&(ws.zip fm).all (λp=>okP p.1 p.2)&&(!(decide (fm.head? = some (Str.ofString "both")))||!(decide (ws[1]? = ws[2]?)))
theorem zDS (ws fm:List Str):(((ws.map D.str).zip (fm.map D.str)).map λp=>D.tup [p.1,p.2])=(ws.zip fm).map pD:=by
 induction ws generalizing fm with
 | nil=>rfl
 | cons w ws ih=>cases fm with
  | nil=>rfl
  | cons f fm=>simp only [List.map_cons,List.zip_cons_cons,ih,pD]
theorem zzH:Ok (Str.ofString "both"):=by decide +kernel
theorem ixS {ws:List Str} {k:Nat} {w:Str} (h:ws[k]? = some w):oIx (.lst (ws.map D.str)) (.int k)=some (.str w):=by
 have:=atN (xs:=ws.map D.str) (k:=k) (x:=.str w) (by simp [h])
 simpa using this
theorem zzI (ws:List Str) (f0:Str) (fm:List Str) (hw:∀ w∈ws,okW w) (hf:∀ p∈f0 :: fm,Low p) (hb:f0=Str.ofString "both"->fm.length=2):zbG [.lst (ws.map D.str),.lst ((f0 :: fm).map D.str)]=some (.sh (.bl (zct ws (f0 :: fm)))):=by
 obtain ⟨x',y',lo⟩:=zme (some (.sh (.lst (ws.map D.str)))) (some (.sh (.lst ((f0 :: fm).map D.str)))) (ws.zip (f0 :: fm)) none none λp hp=>⟨hw _ (List.of_mem_zip hp).1,hf _ (List.of_mem_zip hp).2⟩
 have neI:∀ a b:Int,oNe (.int a) (.int b)=some (.bl (!(a==b))):=λ_ _=>rfl;refine za1 rfl ?_;show zeb [some (.sh (.lst (ws.map D.str))),some (.sh (.lst ((f0 :: fm).map D.str))),none,none]=_;unfold zeb zj9
 by_cases hl:ws.length=(f0 :: fm).length
 ·have hT:zae (m2 oNe (mFr (m1 zbK (zab (mV 0) zaj))) (mFr (m1 zbK (zab (mV 1) zaj)))) [some (.sh (.lst (ws.map D.str))),some (.sh (.lst ((f0 :: fm).map D.str))),none,none]=some false:=by
   have:((ws.length:Int)==((fm.length+1:Nat):Int))=true:=by simp at hl; simp [hl]
   simp [neI,this,-oNe];simp at hl; omega
  refine zat ((ifF hT).trans rfl) ?_;have hi:zAP [0,1] (zab (mV 0) (zab (mV 1) zaj)) [some (.sh (.lst (ws.map D.str))),some (.sh (.lst ((f0 :: fm).map D.str))),none,none]=some ((ws.zip (f0 :: fm)).map pD):=by
   rw [<- zDS]; simp [zpv]
  cases ha:(ws.zip (f0 :: fm)).all λp=>okP p.1 p.2
  ·rw [ha] at lo;simp only [oD',Option.map_none,Bool.false_eq_true,if_false] at lo;have e:zct ws (f0 :: fm)=false:=by unfold zct; rw [ha]; simp
   rw [e];exact zbd (znF hi lo)
  ·rw [ha] at lo;simp only [oD',Option.map_none,if_true] at lo;refine zat (znF hi lo) ?_;have i0:oIx (.lst ((f0 :: fm).map D.str)) (.int 0)=some (.str f0):=ixS (k:=0) rfl;have n0:=neS (a:=f0) (hf f0 (by simp)).ok zzH
   by_cases q:f0=Str.ofString "both"
   ·have hl3:ws.length=3:=by have:=hb q; simp at hl; omega
    match ws,hl3 with
    | [a,b,c],_=>
     have i1:oIx (.lst ([a,b,c].map D.str)) (.int 1)=some (.str b):=ixS (k:=1) rfl;have i2:oIx (.lst ([a,b,c].map D.str)) (.int 2)=some (.str c):=ixS (k:=2) rfl;have n1:=neS (a:=b) (b:=c) (hw b (by simp)).2.ok (hw c (by simp)).2.ok;have e:zct [a,b,c] (f0 :: fm)=!(b==c):=by
      unfold zct; rw [ha,decide_eq_true hl]; simp [q]; rw [Bool.eq_iff_iff]; simp
     rw [e];have hd:(f0==Str.ofString "both")=true:=by simpa using q
     rw [hd] at n0;have t0:=tBl ((zaq (f:=oNe) (S:=[some (.sh (.lst ([a,b,c].map D.str))),some (.sh (.lst ((f0 :: fm).map D.str))),x'.map SV.sh,y'.map SV.sh]) (a:=m2 oIx (mV 1) (mC (.int 0))) (b:=mC (.str (Str.ofString "both"))) ((zaq (by simp) rfl).trans i0) rfl).trans n0);have t1:=(zaq (f:=oNe) (S:=[some (.sh (.lst ([a,b,c].map D.str))),some (.sh (.lst ((f0 :: fm).map D.str))),x'.map SV.sh,y'.map SV.sh]) (a:=m2 oIx (mV 0) (mC (.int 1))) (b:=m2 oIx (mV 0) (mC (.int 2))) ((zaq (by simp) rfl).trans i1) ((zaq (by simp) rfl).trans i2)).trans n1
     simp only [zaW,mSh,zjw,t0,t1,Option.bind_some,Bool.not_true,Bool.false_eq_true,if_false,Option.map_some]
   ·have hd:(f0==Str.ofString "both")=false:=by simpa using q
    have e:zct ws (f0 :: fm)=true:=by unfold zct; rw [ha,decide_eq_true hl]; simp [q]
    rw [e];rw [hd] at n0;have t0:=tBl ((zaq (f:=oNe) (S:=[some (.sh (.lst (ws.map D.str))),some (.sh (.lst ((f0 :: fm).map D.str))),x'.map SV.sh,y'.map SV.sh]) (a:=m2 oIx (mV 1) (mC (.int 0))) (b:=mC (.str (Str.ofString "both"))) ((zaq (by simp) rfl).trans i0) rfl).trans n0);simp only [zaW,mSh,zjw,t0,mC,Option.bind_some,Bool.not_false,if_true,Option.map_some]
 ·have hT:zae (m2 oNe (mFr (m1 zbK (zab (mV 0) zaj))) (mFr (m1 zbK (zab (mV 1) zaj)))) [some (.sh (.lst (ws.map D.str))),some (.sh (.lst ((f0 :: fm).map D.str))),none,none]=some true:=by
   simp [neI,-oNe];simp at hl; omega
  have e:zct ws (f0 :: fm)=false:=by unfold zct; rw [decide_eq_false hl]; rfl
  rw [e];exact zbd ((ifT hT).trans rfl)
theorem zmf:∀ f∈zbp,(∀ p∈f,Low p)/\∃ f0 fm,f=f0 :: fm/\(f0=Str.ofString "both"->fm.length=2):=by
 intro f hf;refine ⟨?_,?_⟩
 ·have:∀ f∈zbp,∀ p∈f,∀ c∈p.cps.toList,c < 128:=by decide +kernel
  exact this f hf
 ·have h:∀ f∈zbp,f≠[]/\(f.head? = some (Str.ofString "both")->f.length=3):=by decide +kernel
  obtain ⟨h1,h2⟩:=h f hf;cases f with
  | nil=>exact absurd rfl h1
  | cons f0 fm=>exact ⟨f0,fm,rfl,λq=>by have:=h2 (by simp [q]); simpa using this⟩
def gd (ws:List Str):Bool:=zbp.any (zct ws)
theorem zmg (fs:List (List Str)) (h:∀ f∈fs,∀ p∈f,Ok p):shp (.lst (fs.map fmD))=some (.list (fs.map λf=>.list (f.map PyData.str))):=by
 have e:D.dats (fs.map fmD)=some (fs.map λf=>.list (f.map PyData.str)):=by
  induction fs with
  | nil=>rfl
  | cons f fs ih=>simp [D.dats,fmD,D.dat,zop,ih λg hg=>h g (by simp [hg])]
 have c:PyData.canLayAll0 (fs.map λf=>PyData.list (f.map PyData.str))=true:=by
  clear e
  induction fs with
  | nil=>rfl
  | cons f fs ih=>simp [PyData.canLayAll0,PyData.canLay0,zAQ (h f (by simp)),ih λg hg=>h g (by simp [hg])]
 have d:PyData.depthAll (fs.map λf=>PyData.list (f.map PyData.str))<=1:=by
  clear e c h
  induction fs with
  | nil=>simp [PyData.depthAll]
  | cons f fs ih=>simp only [List.map_cons,PyData.depthAll,PyData.depth,zAR]; omega
 simp only [shp,D.dat,e,Option.map_some,Option.bind_some];rw [if_pos (zdg c (by omega))]
theorem zzJ (z:Str) (hz:okW z):zaO [.str z]=some (.sh (.bl (gd (sp z)))):=by
 have hw:∀ w∈sp z,okW w:=λw hw=>⟨Nat.le_trans (znN w hw) hz.1,ztG hz.2 w hw⟩
 have hc:zd7 (gN 0) (zae (mFr (m1 zbG (zab (mFr (mBM zbB (mV 1) (zab (mC (.str (Str.ofString " "))) zaj))) (zab (mV 0) zaj))))) (mV 0) (zbp.map fmD) (zkD 1 [0] [some (.sh (.str z))])=some ((zbp.filter (zct (sp z))).map fmD):=by
  show zd7 _ _ _ _ [none,some (.sh (.str z))]=_;refine zvQ fmD [some (.sh (.str z))] _ _ _ _ zbp (λf hf=>⟨?_,λ_=>by simp⟩) none;obtain ⟨h1,f0,fm,rfl,h2⟩:=zmf f hf;have e1:=znO (m:=mV 1) (S:=[some (.sh (fmD (f0 :: fm))),some (.sh (.str z))]) (z:=z) (by simp) hz.1;have e2:=zzI (sp z) f0 fm hw h1 h2;refine tBl ?_;simp only [mFr,m1,zab,zaj] at e1 ⊢;rw [e1];have e3:mV 0 [some (.sh (fmD (f0 :: fm))),some (.sh (.str z))]=some (fmD (f0 :: fm)):=by simp
  simp only [Option.bind_some,e3,Option.map_some];unfold fmD; rw [e2]; rfl
 have hz12:(zbp.map fmD).length<=sizeLine:=by rw [zaI]; decide
 have h3:=zbX (zck (own:=1) (fi:=[0]) (mi:=zlf (mFr (m1 zaN zaj))) (mg:=gN 0) (S:=[some (.sh (.str z))]) (its:=zbp.map fmD) (by simp [zqG]) hz12 hc);have h4:mFr (zda zaj) [some (.sh (.str z))]=some (.lst []):=by simp
 have h5:oNe (.lst ((zbp.filter (zct (sp z))).map fmD)) (.lst [])=some (.bl (gd (sp z))):=by
  have s0:=zmg (zbp.filter (zct (sp z))) λf hf p hp=>((zmf f (List.mem_filter.mp hf).1).1 p hp:Low p).ok;have s1:shp (.lst [])=some (.list []):=zmg [] (by simp);simp only [oNe,s0,s1,Option.bind_some,PyData.eqv];congr 2;unfold gd;cases q:zbp.filter (zct (sp z)) with
  | nil=>
   have:zbp.any (zct (sp z))=false:=by
    rw [List.any_eq_false];intro f hf;have:=List.filter_eq_nil_iff.mp q f hf
    simpa using this
   rw [this]; rfl
  | cons f fs=>
   have:zbp.any (zct (sp z))=true:=by
    have hm:f∈zbp.filter (zct (sp z)):=by rw [q]; simp
    exact List.any_eq_true.mpr ⟨f,(List.mem_filter.mp hm).1,(List.mem_filter.mp hm).2⟩
   rw [this]; rfl
 have h6:=(zaq (f:=oNe) h3 h4).trans h5;refine za1 rfl ?_;show zdd [some (.sh (.str z))]=_;unfold zdd zhB;refine zat (S1:=[some (.sh (.str z))]) (by simp [zib]) ?_;simp only [zaW,mSh,h6,Option.map_some]
abbrev Tm:=Bool×Str
def tw (b:Bool):Str:=if b=true then "has" else "not"
def tmD (t:Tm):D:=.tup [.str (tw t.1),.str t.2]
def cnC (b:Bool):Nat:=if b=true then 2 else 6
def cnD (t:Tm):D:=.ins (cnC t.1) [("role",.str t.2)]
inductive Ru
 | give (r a:Str) (ts:List Tm)
 | take (r a:Str) (ts:List Tm)
 | lay (r:Str) (ts:List Tm)
 | both (p q:Str)
 | most (n:Nat) (r:Str)
 | last (r:Str)
def Ru.I:Ru->D
 | .give r a ts=>.ins 1 [("role",.str r),("by",.str a),("terms",.tup (ts.map cnD))]
 | .take r a ts=>.ins 7 [("role",.str r),("by",.str a),("terms",.tup (ts.map cnD))]
 | .lay r ts=>.ins 4 [("role",.str r),("terms",.tup (ts.map cnD))]
 | .both p q=>.ins 0 [("one",.str p),("other",.str q)]
 | .most n r=>.ins 5 [("most",.int n),("role",.str r)]
 | .last r=>.ins 3 [("role",.str r)]
theorem zDm (a b:Int):oNe (.int a) (.int b)=some (.bl (!(a==b))):=rfl
@[simp] theorem ztH:((Str.ofString "give")=Str.ofString "take")=False:=eq_false (by decide +kernel)
@[simp] theorem zv1:((Str.ofString "give")=Str.ofString "lay")=False:=eq_false (by decide +kernel)
@[simp] theorem ztI:((Str.ofString "give")=Str.ofString "both")=False:=eq_false (by decide +kernel)
@[simp] theorem ztJ:((Str.ofString "give")=Str.ofString "most")=False:=eq_false (by decide +kernel)
@[simp] theorem ztK:((Str.ofString "give")=Str.ofString "last")=False:=eq_false (by decide +kernel)
@[simp] theorem ztL:((Str.ofString "take")=Str.ofString "give")=False:=eq_false (by decide +kernel)
@[simp] theorem zv2:((Str.ofString "take")=Str.ofString "lay")=False:=eq_false (by decide +kernel)
@[simp] theorem ztM:((Str.ofString "take")=Str.ofString "both")=False:=eq_false (by decide +kernel)
@[simp] theorem ztN:((Str.ofString "take")=Str.ofString "most")=False:=eq_false (by decide +kernel)
@[simp] theorem ztO:((Str.ofString "take")=Str.ofString "last")=False:=eq_false (by decide +kernel)
@[simp] theorem zv3:((Str.ofString "lay")=Str.ofString "give")=False:=eq_false (by decide +kernel)
@[simp] theorem zv4:((Str.ofString "lay")=Str.ofString "take")=False:=eq_false (by decide +kernel)
@[simp] theorem zv5:((Str.ofString "lay")=Str.ofString "both")=False:=eq_false (by decide +kernel)
@[simp] theorem zv6:((Str.ofString "lay")=Str.ofString "most")=False:=eq_false (by decide +kernel)
@[simp] theorem zv7:((Str.ofString "lay")=Str.ofString "last")=False:=eq_false (by decide +kernel)
@[simp] theorem ztP:((Str.ofString "both")=Str.ofString "give")=False:=eq_false (by decide +kernel)
@[simp] theorem ztQ:((Str.ofString "both")=Str.ofString "take")=False:=eq_false (by decide +kernel)
@[simp] theorem zv8:((Str.ofString "both")=Str.ofString "lay")=False:=eq_false (by decide +kernel)
@[simp] theorem ztR:((Str.ofString "both")=Str.ofString "most")=False:=eq_false (by decide +kernel)
@[simp] theorem ztS:((Str.ofString "both")=Str.ofString "last")=False:=eq_false (by decide +kernel)
@[simp] theorem ztT:((Str.ofString "most")=Str.ofString "give")=False:=eq_false (by decide +kernel)
@[simp] theorem ztU:((Str.ofString "most")=Str.ofString "take")=False:=eq_false (by decide +kernel)
@[simp] theorem zv9:((Str.ofString "most")=Str.ofString "lay")=False:=eq_false (by decide +kernel)
@[simp] theorem ztV:((Str.ofString "most")=Str.ofString "both")=False:=eq_false (by decide +kernel)
@[simp] theorem ztW:((Str.ofString "most")=Str.ofString "last")=False:=eq_false (by decide +kernel)
@[simp] theorem ztX:((Str.ofString "last")=Str.ofString "give")=False:=eq_false (by decide +kernel)
@[simp] theorem ztY:((Str.ofString "last")=Str.ofString "take")=False:=eq_false (by decide +kernel)
@[simp] theorem zwa:((Str.ofString "last")=Str.ofString "lay")=False:=eq_false (by decide +kernel)
@[simp] theorem ztZ:((Str.ofString "last")=Str.ofString "both")=False:=eq_false (by decide +kernel)
@[simp] theorem zt0:((Str.ofString "last")=Str.ofString "most")=False:=eq_false (by decide +kernel)
@[simp] theorem zxc:((Str.ofString "has")=Str.ofString "not")=False:=eq_false (by decide +kernel)
@[simp] theorem zxd:((Str.ofString "not")=Str.ofString "has")=False:=eq_false (by decide +kernel)
theorem zef:Low (Str.ofString "give"):=by decide +kernel
theorem zeU:Low (Str.ofString "take"):=by decide +kernel
theorem ziA:Low (Str.ofString "lay"):=by decide +kernel
theorem zeV:Low (Str.ofString "both"):=by decide +kernel
theorem zeW:Low (Str.ofString "most"):=by decide +kernel
theorem zkr:Low (Str.ofString "last"):=by decide +kernel
theorem zwb:Low (Str.ofString "has"):=by decide +kernel
theorem zwc:Low (Str.ofString "not"):=by decide +kernel
theorem zDT:Low (Str.ofString "to"):=by decide +kernel
theorem zzK:Low (Str.ofString "from"):=by decide +kernel
theorem zDU:Low (Str.ofString "if"):=by decide +kernel
theorem zDV:Low (Str.ofString "by"):=by decide +kernel
theorem zCf:Low (Str.ofString "and"):=by decide +kernel
theorem k_N:Low (Str.ofString "N"):=by decide +kernel
theorem k_T:Low (Str.ofString "T"):=by decide +kernel
theorem k_D:Low (Str.ofString "D"):=by decide +kernel
theorem zt1 (b:Bool) (r:Str):zaM (cnC b) [.str r]=some [(("role":Str),.str r)]:=by
 cases b <;> simp [zaM,zj1,zdA,cnC,zga]
def trm (c n:Str):Option Tm:=if isN n=true then (if c=Str.ofString "has" then some (true,n) else if c=Str.ofString "not" then some (false,n) else none) else none
def cnd:List Str->Option Tm
 | [c,n]=>trm c n
 | _=>none
def cdD:Option Tm->D
 | none=>.non
 | some t=>cnD t
theorem eqL {w:Str} (hw:okW w) {p:Str} (hp:Low p):oEq (.str w) (.str p)=some (.bl (decide (w=p))):=by
 rw [eqS hw.2.ok hp.ok]; congr 2
theorem neL {w:Str} (hw:okW w) {p:Str} (hp:Low p):oNe (.str w) (.str p)=some (.bl (!decide (w=p))):=by
 rw [neS hw.2.ok hp.ok]; congr 3
theorem zzL (ws:List Str) (hw:∀ w∈ws,okW w):zaG [.lst (ws.map D.str)]=some (.sh (cdD (cnd ws))):=by
 refine za1 rfl ?_;show zb0 [some (.sh (.lst (ws.map D.str)))]=_;unfold zb0 zf6;have l0:zbK [.lst (ws.map D.str)]=some (.sh (.int ws.length)):=by simp
 by_cases h:ws.length=2
 ·match ws,h with
  | [c,n],_=>
   have hn:=zzF n (hw n (by simp)).sz;have e1:=eqL (hw c (by simp)) zwb;have e2:=eqL (hw c (by simp)) zwc;have i0:oIx (.lst ([c,n].map D.str)) (.int 0)=some (.str c):=ixS (k:=0) rfl;have i1:oIx (.lst ([c,n].map D.str)) (.int 1)=some (.str n):=ixS (k:=1) rfl;have h2:=zt1 true n;have h6:=zt1 false n;simp only [cnC,if_true,Bool.false_eq_true,if_false] at h2 h6;have l2:zbK [.lst ([c,n].map D.str)]=some (.sh (.int 2)):=rfl
   generalize D.lst ([c,n].map D.str)=X at *;have n0:oNe (.int 2) (.int 2)=some (.bl false):=rfl;show _=Fl.rt (.sh (cdD (trm c n)));unfold trm;cases q:isN n
   ·simp [l2,n0,i1,hn,q,cdD,-oIx,-oNe,-zbK]
   ·by_cases q1:c=Str.ofString "has"
    ·subst q1;simp [l2,n0,i0,i1,hn,q,e1,h2,cdD,cnD,cnC,-oIx,-oNe,-zbK]
    ·by_cases q2:c=Str.ofString "not"
     ·subst q2;simp [l2,n0,i0,i1,hn,q,e1,e2,q1,h6,cdD,cnD,cnC,-oIx,-oNe,-zbK]
     ·simp [l2,n0,i0,i1,hn,q,e1,e2,q1,q2,cdD,-oIx,-oNe,-zbK]
 ·have e:cnd ws=none:=by
   match ws,h with
   | [],_=>rfl
   | [_],_=>rfl
   | [_,_],h=>exact absurd rfl h
   | _ :: _ :: _ :: _,_=>rfl
  have n0:oNe (.int ws.length) (.int 2)=some (.bl true):=by
   rw [zDm]; congr 2; simp; omega
  rw [e];refine zbd ?_;simp [l0,n0,cdD,-oNe,-zbK]
def pcs (ws:List Str):List (List Str):=(List.range ((ws.length+2) / 3)).map λk=>(ws.drop (3*k)).take 3
theorem zDW (ws:List Str) (k:Nat) (hk:3*k < ws.length):zeX (ws.map D.str) (some ((3*k:Nat):Int)) (some ((3*k+3:Nat):Int))=((ws.drop (3*k)).take 3).map D.str:=by
 unfold zeX;rw [HT.sIx_nat,HT.sIx_nat,List.length_map,Nat.min_eq_left (by omega:3*k<=ws.length),List.map_take,List.map_drop,List.take_eq_take_iff];simp only [List.length_drop,List.length_map];omega
theorem zCg (ws:List Str) (hl:ws.length < 90000):zbw [.lst (ws.map D.str),.int 3]=some (.li ((pcs ws).map fmD)):=by
 have hc:=zkS (λk:Nat=>D.int (0+(k:Int)*3)) [some (.sh (.lst (ws.map D.str))),some (.sh (.int 3))] (mFr (mSl (mV 1) (mAt (mV 0)) (mAt (mFr (m2 za9 (mV 0) (mV 2)))))) (λk=>fmD ((ws.drop (3*k)).take 3)) (List.range ((ws.length+2) / 3)) (λk hk=>by
  have hk':3*k < ws.length:=by have:=List.mem_range.mp hk; omega
  have e1:(0+(k:Int)*3)=((3*k:Nat):Int):=by omega
  have e2:(((3*k:Nat):Int)+3)=((3*k+3:Nat):Int):=by omega
  have c:=zDW ws k hk';rw [e1];simp only [mFr,mSl,mAt,mV,m2,List.getElem?_cons_zero,List.getElem?_cons_succ,Option.join_some,Option.map_some,SV.fr,Option.bind_some,za9,e2,oSl,c];rfl) none
 simp only [oD',Option.map_none] at hc;have hn:zhz 0 (ws.length:Int) 3=(ws.length+2) / 3:=by
  unfold zhz;split
  ·omega
  ·omega
 have hr:ok3 0 (ws.length:Int) 3:=by unfold ok3; omega
 have hi:mR3 (zab (mC (.int 0)) (zab (mFr (m1 zbK (zab (mV 0) zaj))) (zab (mV 1) zaj))) [some (.sh (.lst (ws.map D.str))),some (.sh (.int 3))]=some ((List.range ((ws.length+2) / 3)).map λk:Nat=>D.int (0+(k:Int)*3)):=by
  have l0:zbK [.lst (ws.map D.str)]=some (.sh (.int ws.length)):=by simp
  simp [l0,hr,hn,zmR,-zbK]
 refine za1 rfl ?_;show zdh [some (.sh (.lst (ws.map D.str))),some (.sh (.int 3))]=_;unfold zdh;have:=zck (own:=1) (fi:=[0,1]) (mg:=gN 0) (S:=[some (.sh (.lst (ws.map D.str))),some (.sh (.int 3))]) hi (by simp; rw [zaI]; omega) hc;unfold zaW;rw [this];simp only [pcs,List.map_map];rfl
theorem zqJ {ws:List Str} {p:List Str} (h:p∈pcs ws):(∀ w∈p,w∈ws)/\∃ w r,p=w :: r:=by
 obtain ⟨k,hk,rfl⟩:=List.mem_map.mp h;have hk':3*k < ws.length:=by have:=List.mem_range.mp hk; omega
 refine ⟨λw hw=>List.mem_of_mem_drop (List.mem_of_mem_take hw),?_⟩;cases e:(ws.drop (3*k)).take 3 with
 | nil=>
  have:=congrArg List.length e;simp at this;omega
 | cons w r=>exact ⟨w,r,rfl⟩
def tms (link:Str):List Str->Option (List Tm)
 | []=>some []
 | [l,c,n]=>if l=link then (trm c n).map λt=>[t] else none
 | [l,c,n,a,d,m]=>if l=link/\a=Str.ofString "and" then (trm c n).bind λt=>(trm d m).map λu=>[t,u] else none
 | _=>none
def zCh (link:Str) (ws:List Str):Option (List Tm):=if (pcs ws).map (λp=>p.headD "")=[link,Str.ofString "and"].take (pcs ws).length then ((pcs ws).map λp=>cnd (p.drop 1)).mapM id else none
theorem zDX (a:Str):pcs [a]=[[a]]:=by simp [pcs,List.range_succ]
theorem zDY (a b:Str):pcs [a,b]=[[a,b]]:=by simp [pcs,List.range_succ]
theorem zDZ (a b c:Str):pcs [a,b,c]=[[a,b,c]]:=by simp [pcs,List.range_succ]
theorem zD0 (a b c d:Str):pcs [a,b,c,d]=[[a,b,c],[d]]:=by simp [pcs,List.range_succ]
theorem zD1 (a b c d e:Str):pcs [a,b,c,d,e]=[[a,b,c],[d,e]]:=by simp [pcs,List.range_succ]
theorem zD2 (a b c d e f:Str):pcs [a,b,c,d,e,f]=[[a,b,c],[d,e,f]]:=by simp [pcs,List.range_succ]
theorem zzM (link:Str) (ws:List Str):zCh link ws=tms link ws:=by
 unfold zCh
 match ws with
 | []=>rfl
 | [a]=>rw [zDX]; show _=none; simp [cnd]
 | [a,b]=>rw [zDY]; show _=none; simp [cnd]
 | [a,b,c]=>
  rw [zDZ];show (if [a]=[link] then ([trm b c]).mapM id else none)=if a=link then (trm b c).map λt=>[t] else none
  by_cases h:a=link
  ·cases trm b c <;> simp [h]
  ·simp [h]
 | [a,b,c,d]=>rw [zD0]; show _=none; cases h:trm b c <;> simp [cnd,h]
 | [a,b,c,d,e]=>rw [zD1]; show _=none; cases h:trm b c <;> simp [cnd,h]
 | [a,b,c,d,e,f]=>
  rw [zD2];show (if [a,d]=[link,Str.ofString "and"] then ([trm b c,trm e f]).mapM id else none)=if a=link/\d=Str.ofString "and" then (trm b c).bind λt=>(trm e f).map λu=>[t,u] else none
  by_cases h:a=link/\d=Str.ofString "and"
  ·rw [if_pos h,if_pos (by rw [h.1,h.2])];cases trm b c <;> cases trm e f <;> simp
  ·rw [if_neg h,if_neg (by intro e; simp at e; exact h e)]
 | a :: b :: c :: d :: e :: f :: g :: r=>
  show _=none;rw [if_neg];intro e;have:=congrArg List.length e;simp [pcs] at this;omega
def tmR:Option (List Tm)->D
 | none=>.non
 | some ts=>.lst (ts.map cnD)
theorem zqK:∀ os:List (Option Tm),(os.map cdD).all (zsv [2,6])=true/\((os.map cdD).any D.isNon=true->os.mapM id=none)/\((os.map cdD).any D.isNon=false->∃ ts:List Tm,os.mapM id=some ts/\os.map cdD=ts.map cnD)
 | []=>⟨rfl,by simp,λ_=>⟨[],rfl,rfl⟩⟩
 | none :: os=>by
  obtain ⟨h1,h2,h3⟩:=zqK os;refine ⟨by simp only [List.map_cons,List.all_cons,h1]; rfl,λ_=>by simp,λh=>?_⟩;have:(cdD none).isNon=true:=rfl;simp [this] at h
 | some (b,r) :: os=>by
  obtain ⟨h1,h2,h3⟩:=zqK os;have n0:(cdD (some (b,r))).isNon=false:=by cases b <;> rfl
  have n1:zsv [2,6] (cdD (some (b,r)))=true:=by cases b <;> rfl
  refine ⟨by simp only [List.map_cons,List.all_cons,h1,n1]; rfl,λh=>?_,λh=>?_⟩
  ·simp only [List.map_cons,List.any_cons,n0,Bool.false_or] at h;simp [h2 h]
  ·simp only [List.map_cons,List.any_cons,n0,Bool.false_or] at h;obtain ⟨ts,e1,e2⟩:=h3 h;exact ⟨(b,r) :: ts,by simp [e1],by simp only [List.map_cons,e2]; rfl⟩
theorem zwd {α:Type} (xs:List α) (n:Nat):zeX xs none (some (n:Int))=xs.take n:=by
 unfold zeX;rw [HT.sIx_nat,HT.sIx_none,List.drop_zero,Nat.sub_zero,List.take_eq_take_iff];omega
theorem zqL (ws:List Str) (link:Str) (hl:ws.length < 90000) (hw:∀ w∈ws,okW w) (hk:Low link):za6 [.lst (ws.map D.str),.str link]=some (.sh (tmR (tms link ws))):=by
 rw [<- zzM];have fp:=zCg ws hl;have hpl:(pcs ws).length < 90000:=by simp [pcs]; omega
 have hz:(pcs ws).length<=sizeLine:=by rw [zaI]; omega
 have hP:∀ p∈pcs ws,(∀ w∈p,okW w)/\∃ w r,p=w :: r:=λp hp=>⟨λw h=>hw w ((zqJ hp).1 w h),(zqJ hp).2⟩
 have hh:∀ p∈pcs ws,okW (p.headD ""):=λp hp=>by
  obtain ⟨h1,w,r,rfl⟩:=hP p hp;exact h1 w (by simp)
 unfold zCh;generalize pcs ws=P at *
 -- the first words
 have hc1:=zkS fmD [] (m2 oIx (mV 0) (mC (.int 0))) (λp=>.str (p.headD "")) P (λp hp=>by
  obtain ⟨_,w,r,rfl⟩:=hP p hp;exact (zaq (x:=fmD (w :: r)) (by simp) rfl).trans (ixS (k:=0) rfl)) none
 simp only [oD',Option.map_none] at hc1;have hc2:=zkS fmD [] (mFr (m1 zaG (zab (mFr (mSl (mV 0) (mAt (mC (.int 1))) mNo)) zaj))) (λp=>cdD (cnd (p.drop 1))) P (λp hp=>by
  obtain ⟨h1,w,r,rfl⟩:=hP p hp;have c:oSl (fmD (w :: r)) (some 1) none=some (.li (r.map D.str)):=by
   have:=zii ((w :: r).map D.str) 1 (by simp);show some (SV.li (zeX ((w :: r).map D.str) (some ((1:Nat):Int)) none))=_;rw [this]; rfl
  have f:=zzL r λx hx=>h1 x (by simp [hx]);generalize fmD (w :: r)=X at *;simp [c,f,-oSl]) none
 simp only [oD',Option.map_none] at hc2;have lP:zbK [.lst (P.map fmD)]=some (.sh (.int P.length)):=by simp
 have sl:oSl (.lst [.str link,.str "and"]) none (some (P.length:Int))=some (.li (([link,Str.ofString "and"].take P.length).map D.str)):=by
  show some (SV.li (zeX ([link,Str.ofString "and"].map D.str) none (some (P.length:Int))))=_;rw [zwd,List.map_take]
 have hne:=zDR (xs:=P.map λp=>p.headD "") (ys:=[link,Str.ofString "and"].take P.length) (λz hz=>by
  obtain ⟨p,hp,rfl⟩:=List.mem_map.mp hz;exact (hh p hp).2.ok) (λz hz=>by
  have:=List.mem_of_mem_take hz;simp at this;rcases this with rfl | rfl
  ·exact hk.ok
  ·exact zCf.ok)
 rw [List.map_map] at hne;have z2:(2:Nat)<=sizeLine:=by rw [zaI]; omega
 refine za1 rfl ?_;show zdc [some (.sh (.lst (ws.map D.str))),some (.sh (.str link)),none,none]=_;unfold zdc zj8;generalize hX:D.lst (ws.map D.str)=X at *;have pX:X.plain=false:=by rw [<- hX]; rfl
 refine zat (S1:=[some (.sh X),some (.sh (.str link)),some (.li (P.map fmD)),none]) ?_ ?_
 ·cases hp:(D.plains (P.map fmD)) <;> simp [fp,hp]
 have q1:=zbX (zck (own:=1) (fi:=[]) (mi:=zlf (mV 2)) (mg:=gN 0) (S:=[some (.sh X),some (.sh (.str link)),some (.li (P.map fmD)),none]) (its:=P.map fmD) (by simp) (by simpa using hz) hc1);simp only [SV.fr] at q1;have q2:mFr (mSl (mFr (zda (zab (mV 1) (zab (mC (.str (Str.ofString "and"))) zaj)))) mNo (mAt (mFr (m1 zbK (zab (mV 2) zaj))))) [some (.sh X),some (.sh (.str link)),some (.li (P.map fmD)),none]=some (.lst (([link,Str.ofString "and"].take P.length).map D.str)):=by
  simp [lP,z2,sl,-oSl,-zbK]
 have t:=tBl ((zaq (f:=oNe) q1 q2).trans hne)
 by_cases c:(P.map λp=>p.headD "")=[link,Str.ofString "and"].take P.length
 ·rw [if_pos c];rw [decide_eq_true c] at t;refine zat ((ifF t).trans rfl) ?_;have m3:=zck (own:=1) (fi:=[]) (mi:=zlf (mV 2)) (mg:=gN 0) (S:=[some (.sh X),some (.sh (.str link)),some (.li (P.map fmD)),none]) (its:=P.map fmD) (by simp) (by simpa using hz) hc2;have em:(P.map λp=>cdD (cnd (p.drop 1)))=(P.map λp=>cnd (p.drop 1)).map cdD:=by rw [List.map_map]; rfl
  rw [em] at m3;obtain ⟨g1,g2,g3⟩:=zqK (P.map λp=>cnd (p.drop 1));generalize (P.map λp=>cnd (p.drop 1))=os at *;generalize hcs:os.map cdD=cs at *;have hset:∃ P',zcU 3 [2] (ze1 1 [] (zlf (mV 2)) (gN 0) zf5 (mFr (m1 zaG (zab (mFr (mSl (mV 0) (mAt (mC (.int 1))) mNo)) zaj)))) [some (.sh X),some (.sh (.str link)),some (.li (P.map fmD)),none]=.nx [some (.sh X),some (.sh (.str link)),P',some (.li cs)]:=by
   refine ⟨if D.plains cs=true then some (.li (P.map fmD)) else some (.sh (.lst (P.map fmD))),zqh m3 ?_⟩;cases hp:D.plains cs <;> simp [hp]
  obtain ⟨P',hs⟩:=hset;refine zat hs ?_;have hin:ztC [2,6] .non (.lst cs)=some (.bl (cs.any D.isNon)):=by simp only [ztC]; rw [if_pos g1]
  cases an:cs.any D.isNon
  ·obtain ⟨ts,e1,e2⟩:=g3 an;rw [e1];rw [an] at hin;simp [hin,tmR,-ztC];exact e2
  ·rw [g2 an];rw [an] at hin;simp [hin,tmR,-ztC]
 ·rw [if_neg c];rw [decide_eq_false c] at t;exact zbd ((ifT t).trans rfl)
def prG (g:Bool):List Str->Option Ru
 | r1 :: b :: a :: zaL=>if isN r1=true/\b=Str.ofString "by"/\isN a=true then (tms (if g=true then Str.ofString "to" else Str.ofString "from") zaL).map λts=>if g=true then .give r1 a ts else .take r1 a ts else none
 | _=>none
def prL:List Str->Option Ru
 | r1 :: zaL=>if isN r1=true then (tms (Str.ofString "if") zaL).map λts=>.lay r1 ts else none
 | _=>none
def prB:List Str->Option Ru
 | [p,q]=>if isN p=true/\isN q=true/\p≠q then some (.both p q) else none
 | _=>none
def znl:List Str:=[Str.ofString "1",Str.ofString "2",Str.ofString "3",Str.ofString "4"]
def dg (d:Str):Nat:=if d=Str.ofString "1" then 1 else if d=Str.ofString "2" then 2 else if d=Str.ofString "3" then 3 else 4
def prM:List Str->Option Ru
 | [d,r1]=>if d∈znl/\isN r1=true then some (.most (dg d) r1) else none
 | _=>none
def prZ:List Str->Option Ru
 | [r1]=>if isN r1=true then some (.last r1) else none
 | _=>none
def prs:List Str->Option Ru
 | []=>none
 | w :: r=>if w=Str.ofString "give"\/w=Str.ofString "take" then prG (decide (w=Str.ofString "give")) r else if w=Str.ofString "lay" then prL r else if w=Str.ofString "both" then prB r else if w=Str.ofString "most" then prM r else if w=Str.ofString "last" then prZ r else none
def ruR:Option Ru->D
 | none=>.non
 | some ru=>ru.I
theorem zt2 (n k:Nat) (h:k<=n):oLt (.int n) (.int k)=some (.bl false):=by
 have:¬ (n:Int) < (k:Int):=by omega
 simp [this]
theorem tN {m:FSt->Option D} {S:FSt} {w:Str} (h:m S=some (.str w)) (hw:okW w):zfW (zae (mFr (m1 zar (zab m zaj)))) S=some (!isN w):=by
 have:=zzF w hw.sz;simp [h,this]
theorem tNe {m:FSt->Option D} {S:FSt} {w p:Str} (h:m S=some (.str w)) (hw:okW w) (hp:Low p):zae (m2 oNe m (mC (.str p))) S=some (!decide (w=p)):=tBl ((zaq h rfl).trans (neL hw hp))
theorem zD3 (w:Str) (r:List Str) (hl:r.length < 80000) (hw:∀ x∈w :: r,okW x):zaC [.lst ((w :: r).map D.str)]=some (.sh (ruR (prG (decide (w=Str.ofString "give")) r))):=by
 refine za1 rfl ?_;show zbh [some (.sh (.lst ((w :: r).map D.str))),none]=_;unfold zbh zea
 match r,hl,hw with
 | [],_,_=>exact zbd (by simp [prG,ruR])
 | [_],_,_=>exact zbd (by simp [prG,ruR])
 | [_,_],_,_=>exact zbd (by simp [prG,ruR])
 | r1 :: b :: a :: zaL,hl,hw=>
  have h0:=hw w (by simp);have h1:=hw r1 (by simp);have h2:=hw b (by simp);have h3:=hw a (by simp);have ft:=λ(k:Str) (hk:Low k)=>zqL zaL k (by simp at hl; omega) (λx hx=>hw x (by simp [hx])) hk;have sl:oSl (.lst ((w :: r1 :: b :: a :: zaL).map D.str)) (some 4) none=some (.li (zaL.map D.str)):=by
   have:=zii ((w :: r1 :: b :: a :: zaL).map D.str) 4 (by simp);show some (SV.li (zeX ((w :: r1 :: b :: a :: zaL).map D.str) (some ((4:Nat):Int)) none))=_;rw [this]; rfl
  have lX:zbK [.lst ((w :: r1 :: b :: a :: zaL).map D.str)]=some (.sh (.int (zaL.length+4:Nat))):=by simp; omega
  have i0:oIx (.lst ((w :: r1 :: b :: a :: zaL).map D.str)) (.int 0)=some (.str w):=ixS (k:=0) rfl;have i1:oIx (.lst ((w :: r1 :: b :: a :: zaL).map D.str)) (.int 1)=some (.str r1):=ixS (k:=1) rfl;have i2:oIx (.lst ((w :: r1 :: b :: a :: zaL).map D.str)) (.int 2)=some (.str b):=ixS (k:=2) rfl;have i3:oIx (.lst ((w :: r1 :: b :: a :: zaL).map D.str)) (.int 3)=some (.str a):=ixS (k:=3) rfl;have pX:(D.lst ((w :: r1 :: b :: a :: zaL).map D.str)).plain=false:=rfl
  generalize D.lst ((w :: r1 :: b :: a :: zaL).map D.str)=X at *;have t0:zae (m2 oLt (mFr (m1 zbK (zab (mV 0) zaj))) (mC (.int 4))) [some (.sh X),none]=some false:=tBl ((zaq (x:=.int (zaL.length+4:Nat)) (by simp [lX,-zbK]) rfl).trans (zt2 _ 4 (by omega)));have t1:=tN (m:=m2 oIx (mV 0) (mC (.int 1))) (S:=[some (.sh X),none]) ((zaq (x:=X) (by simp) rfl).trans i1) h1;have t2:=tNe (m:=m2 oIx (mV 0) (mC (.int 2))) (S:=[some (.sh X),none]) ((zaq (x:=X) (by simp) rfl).trans i2) h2 zDV
  have t3:=tN (m:=m2 oIx (mV 0) (mC (.int 3))) (S:=[some (.sh X),none]) ((zaq (x:=X) (by simp) rfl).trans i3) h3;have T:=tOr t0 (tOr t1 (tOr t2 t3));have eg:=eqL h0 zef
  by_cases c:isN r1=true/\b=Str.ofString "by"/\isN a=true
  ·have cb:(false||(!isN r1||(!decide (b=Str.ofString "by")||!isN a)))=false:=by simp [c.1,c.2.1,c.2.2]
   rw [cb] at T;refine zat ((ifF T).trans rfl) ?_;have e:prG (decide (w=Str.ofString "give")) (r1 :: b :: a :: zaL)=(tms (if decide (w=Str.ofString "give")=true then Str.ofString "to" else Str.ofString "from") zaL).map λts=>if decide (w=Str.ofString "give")=true then .give r1 a ts else .take r1 a ts:=by
    show (if _ then _ else _)=_;rw [if_pos c]
   rw [e];have n1:¬ (("role":Str)="by"):=by decide +kernel
   have n2:¬ (("role":Str)="terms"):=by decide +kernel
   have n3:¬ (("by":Str)="terms"):=by decide +kernel
   by_cases g:w=Str.ofString "give"
   ·rw [decide_eq_true g] at eg ⊢;have f:=ft (Str.ofString "to") zDT;simp only [if_true];cases q:tms (Str.ofString "to") zaL with
    | none=>
     rw [q] at f;simp [i0,i1,i3,sl,eg,f,tmR,oIs,D.isNon,ruR,-oIx,-oSl]
    | some ts=>
     rw [q] at f;have ii:zbS 1 [.str r1,.str a,.lst (ts.map cnD)]=some [(("role":Str),.str r1),(("by":Str),.str a),(("terms":Str),.tup (ts.map cnD))]:=by
      simp [zbS,zj1,zg5,zga,n1,n2,n3]
     simp [i0,i1,i3,sl,eg,f,tmR,oIs,D.isNon,ruR,Ru.I,ii,-oIx,-oSl]
   ·rw [decide_eq_false g] at eg ⊢;have f:=ft (Str.ofString "from") zzK;simp only [Bool.false_eq_true,if_false];cases q:tms (Str.ofString "from") zaL with
    | none=>
     rw [q] at f;simp [i0,i1,i3,sl,eg,f,tmR,oIs,D.isNon,ruR,-oIx,-oSl]
    | some ts=>
     rw [q] at f;have ii:zbR 7 [.str r1,.str a,.lst (ts.map cnD)]=some [(("role":Str),.str r1),(("by":Str),.str a),(("terms":Str),.tup (ts.map cnD))]:=by
      simp [zbR,zj1,zg4,zga,n1,n2,n3]
     simp [i0,i1,i3,sl,eg,f,tmR,oIs,D.isNon,ruR,Ru.I,ii,-oIx,-oSl]
  ·have cb:(false||(!isN r1||(!decide (b=Str.ofString "by")||!isN a)))=true:=by
    refine Classical.byContradiction λz=>c ?_;simp at z;exact ⟨z.1,z.2.1,z.2.2⟩
   rw [cb] at T;have e:prG (decide (w=Str.ofString "give")) (r1 :: b :: a :: zaL)=none:=by
    show (if _ then _ else _)=_;rw [if_neg c]
   rw [e];exact zbd ((ifT T).trans rfl)
theorem zCi (w:Str) (r:List Str) (hl:r.length < 80000) (hw:∀ x∈w :: r,okW x):zcW [.lst ((w :: r).map D.str)]=some (.sh (ruR (prL r))):=by
 refine za1 rfl ?_;show zg6 [some (.sh (.lst ((w :: r).map D.str))),none]=_;unfold zg6 znG
 match r,hl,hw with
 | [],_,_=>exact zbd (by simp [prL,ruR])
 | r1 :: zaL,hl,hw=>
  have h1:=hw r1 (by simp);have f:=zqL zaL (Str.ofString "if") (by simp at hl; omega) (λx hx=>hw x (by simp [hx])) zDU;have sl:oSl (.lst ((w :: r1 :: zaL).map D.str)) (some 2) none=some (.li (zaL.map D.str)):=by
   have:=zii ((w :: r1 :: zaL).map D.str) 2 (by simp);show some (SV.li (zeX ((w :: r1 :: zaL).map D.str) (some ((2:Nat):Int)) none))=_;rw [this]; rfl
  have lX:zbK [.lst ((w :: r1 :: zaL).map D.str)]=some (.sh (.int (zaL.length+2:Nat))):=by simp; omega
  have i1:oIx (.lst ((w :: r1 :: zaL).map D.str)) (.int 1)=some (.str r1):=ixS (k:=1) rfl;have pX:(D.lst ((w :: r1 :: zaL).map D.str)).plain=false:=rfl;generalize D.lst ((w :: r1 :: zaL).map D.str)=X at *;have t0:zae (m2 oLt (mFr (m1 zbK (zab (mV 0) zaj))) (mC (.int 2))) [some (.sh X),none]=some false:=tBl ((zaq (x:=.int (zaL.length+2:Nat)) (by simp [lX,-zbK]) rfl).trans (zt2 _ 2 (by omega)));have t1:=tN (m:=m2 oIx (mV 0) (mC (.int 1))) (S:=[some (.sh X),none]) ((zaq (x:=X) (by simp) rfl).trans i1) h1
  have T:=tOr t0 t1;have n2:¬ (("role":Str)="terms"):=by decide +kernel
  show _=Fl.rt (.sh (ruR (if isN r1=true then _ else none)));cases c:isN r1
  ·rw [c] at T;exact zbd ((ifT T).trans rfl)
  ·rw [c] at T;refine zat ((ifF T).trans rfl) ?_;simp only [if_true];cases q:tms (Str.ofString "if") zaL with
   | none=>
    rw [q] at f;simp [i1,sl,f,tmR,oIs,D.isNon,ruR,-oIx,-oSl]
   | some ts=>
    rw [q] at f;have ii:zcd 4 [.str r1,.lst (ts.map cnD)]=some [(("role":Str),.str r1),(("terms":Str),.tup (ts.map cnD))]:=by
     simp [zcd,zj1,zil,zga,n2]
    simp [i1,sl,f,tmR,oIs,D.isNon,ruR,Ru.I,ii,-oIx,-oSl]
theorem znm {n k:Nat} (h:n≠k):oNe (.int n) (.int k)=some (.bl true):=by
 rw [zDm]; congr 2; simp; omega
theorem zzN (w:Str) (r:List Str) (hw:∀ x∈w :: r,okW x):zcl [.lst ((w :: r).map D.str)]=some (.sh (ruR (prB r))):=by
 refine za1 rfl ?_;show ze7 [some (.sh (.lst ((w :: r).map D.str)))]=_;unfold ze7 zlN
 by_cases h:r.length=2
 ·match r,h,hw with
  | [p,q],_,hw=>
   have hp:=hw p (by simp);have hq:=hw q (by simp);have i1:oIx (.lst ([w,p,q].map D.str)) (.int 1)=some (.str p):=ixS (k:=1) rfl;have i2:oIx (.lst ([w,p,q].map D.str)) (.int 2)=some (.str q):=ixS (k:=2) rfl;have lX:zbK [.lst ([w,p,q].map D.str)]=some (.sh (.int 3)):=rfl;generalize D.lst ([w,p,q].map D.str)=X at *;have t0:zae (m2 oNe (mFr (m1 zbK (zab (mV 0) zaj))) (mC (.int 3))) [some (.sh X)]=some false:=tBl ((zaq (x:=.int 3) (by simp [lX,-zbK]) rfl).trans rfl)
   have t1:=tN (m:=m2 oIx (mV 0) (mC (.int 1))) (S:=[some (.sh X)]) ((zaq (x:=X) (by simp) rfl).trans i1) hp;have t2:=tN (m:=m2 oIx (mV 0) (mC (.int 2))) (S:=[some (.sh X)]) ((zaq (x:=X) (by simp) rfl).trans i2) hq;have t3:zae (m2 oEq (m2 oIx (mV 0) (mC (.int 1))) (m2 oIx (mV 0) (mC (.int 2)))) [some (.sh X)]=some (decide (p=q)):=tBl ((zaq ((zaq (x:=X) (by simp) rfl).trans i1) ((zaq (x:=X) (by simp) rfl).trans i2)).trans (eqL hp hq.2))
   have T:=tOr t0 (tOr t1 (tOr t2 t3));have n4:¬ (("one":Str)="other"):=by decide +kernel
   have ii:zbT 0 [.str p,.str q]=some [(("one":Str),.str p),(("other":Str),.str q)]:=by
    simp [zbT,zj1,zg7,zga,n4]
   show _=Fl.rt (.sh (ruR (if isN p=true/\isN q=true/\p≠q then _ else none)))
   by_cases c:isN p=true/\isN q=true/\p≠q
   ·have cb:(false||(!isN p||(!isN q||decide (p=q))))=false:=by simp [c.1,c.2.1,c.2.2]
    rw [cb] at T;rw [if_pos c];refine zat ((ifF T).trans rfl) ?_;simp [i1,i2,ii,ruR,Ru.I,-oIx]
   ·have cb:(false||(!isN p||(!isN q||decide (p=q))))=true:=by
     refine Classical.byContradiction λz=>c ?_;simp at z;exact ⟨z.1,z.2.1,z.2.2⟩
    rw [cb] at T;rw [if_neg c];exact zbd ((ifT T).trans rfl)
 ·have e:prB r=none:=by
   match r,h with
   | [],_=>rfl
   | [_],_=>rfl
   | [_,_],h=>exact absurd rfl h
   | _ :: _ :: _ :: _,_=>rfl
  rw [e];have lX:zbK [.lst ((w :: r).map D.str)]=some (.sh (.int (r.length+1:Nat))):=by simp
  generalize D.lst ((w :: r).map D.str)=X at *;have t0:zae (m2 oNe (mFr (m1 zbK (zab (mV 0) zaj))) (mC (.int 3))) [some (.sh X)]=some true:=tBl ((zaq (x:=.int (r.length+1:Nat)) (by simp [lX,-zbK]) rfl).trans (znm (k:=3) (by omega)));refine zbd ((ifT (a:=zaW (mSh (mC .non))) (c:=zaK) ?_).trans rfl);unfold mOr;rw [t0];rfl
theorem zD4 {z:Str} {zs:List Str} (hz:Ok z) (h:∀ z∈zs,Ok z):inB (.str z) (.kt (zs.map D.str))=some (decide (z∈zs)):=by
 show (D.dats (zs.map D.str)).bind _=_;rw [zop];simp only [Option.bind_some,zvO hz,zB4 h,if_true,zDk]
theorem zsP:∀ d∈znl,Low d:=by decide +kernel
theorem zks:∀ d∈znl,d.length<=640/\PySem.intText? d=some ((dg d:Nat):Int)/\1<=dg d/\dg d<=4:=by decide +kernel
theorem zzO (w:Str) (r:List Str) (hw:∀ x∈w :: r,okW x):zcm [.lst ((w :: r).map D.str)]=some (.sh (ruR (prM r))):=by
 refine za1 rfl ?_;show ze8 [some (.sh (.lst ((w :: r).map D.str)))]=_;unfold ze8 zlO
 by_cases h:r.length=2
 ·match r,h,hw with
  | [p,q],_,hw=>
   have hp:=hw p (by simp);have hq:=hw q (by simp);have i1:oIx (.lst ([w,p,q].map D.str)) (.int 1)=some (.str p):=ixS (k:=1) rfl;have i2:oIx (.lst ([w,p,q].map D.str)) (.int 2)=some (.str q):=ixS (k:=2) rfl;have lX:zbK [.lst ([w,p,q].map D.str)]=some (.sh (.int 3)):=rfl;generalize D.lst ([w,p,q].map D.str)=X at *;have t0:zae (m2 oNe (mFr (m1 zbK (zab (mV 0) zaj))) (mC (.int 3))) [some (.sh X)]=some false:=tBl ((zaq (x:=.int 3) (by simp [lX,-zbK]) rfl).trans rfl)
   have t1:zae (m2 ze3 (m2 oIx (mV 0) (mC (.int 1))) (mC (.kt (znl.map D.str)))) [some (.sh X)]=some (!decide (p∈znl)):=by
    refine tBl ((zaq ((zaq (x:=X) (by simp) rfl).trans i1) rfl).trans ?_);simp only [ze3,zD4 hp.2.ok λz hz=>(zsP z hz).ok,Option.map_some]
   have t2:=tN (m:=m2 oIx (mV 0) (mC (.int 2))) (S:=[some (.sh X)]) ((zaq (x:=X) (by simp) rfl).trans i2) hq;have T:=tOr t0 (tOr t1 t2);have n5:¬ (("most":Str)="role"):=by decide +kernel
   have ii:zbU 5 [.int (dg p),.str q]=some [(("most":Str),.int (dg p)),(("role":Str),.str q)]:=by
    simp [zbU,zj1,zg8,zga,n5]
   show _=Fl.rt (.sh (ruR (if p∈znl/\isN q=true then _ else none)))
   by_cases c:p∈znl/\isN q=true
   ·have cb:(false||(!decide (p∈znl)||!isN q))=false:=by simp [c.1,c.2]
    rw [cb] at T;rw [if_pos c];refine zat ((ifF T).trans rfl) ?_;obtain ⟨d1,d2,_⟩:=zks p c.1;have fi:zkP [.str p]=some (.sh (.int (dg p))):=by simp [d1,d2]
    simp [i1,i2,ii,fi,ruR,Ru.I,-oIx,-zkP]
   ·have cb:(false||(!decide (p∈znl)||!isN q))=true:=by
     refine Classical.byContradiction λz=>c ?_;simp at z;exact ⟨z.1,z.2⟩
    rw [cb] at T;rw [if_neg c];exact zbd ((ifT T).trans rfl)
 ·have e:prM r=none:=by
   match r,h with
   | [],_=>rfl
   | [_],_=>rfl
   | [_,_],h=>exact absurd rfl h
   | _ :: _ :: _ :: _,_=>rfl
  rw [e];have lX:zbK [.lst ((w :: r).map D.str)]=some (.sh (.int (r.length+1:Nat))):=by simp
  generalize D.lst ((w :: r).map D.str)=X at *;have t0:zae (m2 oNe (mFr (m1 zbK (zab (mV 0) zaj))) (mC (.int 3))) [some (.sh X)]=some true:=tBl ((zaq (x:=.int (r.length+1:Nat)) (by simp [lX,-zbK]) rfl).trans (znm (k:=3) (by omega)));refine zbd ((ifT (a:=zaW (mSh (mC .non))) (c:=zaK) ?_).trans rfl);unfold mOr;rw [t0];rfl
theorem zzP (w:Str) (r:List Str) (hw:∀ x∈w :: r,okW x):zcn [.lst ((w :: r).map D.str)]=some (.sh (ruR (prZ r))):=by
 refine za1 rfl ?_;show ze9 [some (.sh (.lst ((w :: r).map D.str)))]=_;unfold ze9 zlP
 by_cases h:r.length=1
 ·match r,h,hw with
  | [p],_,hw=>
   have hp:=hw p (by simp);have i1:oIx (.lst ([w,p].map D.str)) (.int 1)=some (.str p):=ixS (k:=1) rfl;have lX:zbK [.lst ([w,p].map D.str)]=some (.sh (.int 2)):=rfl;generalize D.lst ([w,p].map D.str)=X at *;have t0:zae (m2 oNe (mFr (m1 zbK (zab (mV 0) zaj))) (mC (.int 2))) [some (.sh X)]=some false:=tBl ((zaq (x:=.int 2) (by simp [lX,-zbK]) rfl).trans rfl);have t1:=tN (m:=m2 oIx (mV 0) (mC (.int 1))) (S:=[some (.sh X)]) ((zaq (x:=X) (by simp) rfl).trans i1) hp
   have T:=tOr t0 t1;have ii:zbV 3 [.str p]=some [(("role":Str),.str p)]:=by
    simp [zbV,zj1,zg9,zga]
   show _=Fl.rt (.sh (ruR (if isN p=true then _ else none)));cases c:isN p
   ·rw [c] at T;exact zbd ((ifT T).trans rfl)
   ·rw [c] at T;refine zat ((ifF T).trans rfl) ?_;simp [i1,ii,ruR,Ru.I,-oIx]
 ·have e:prZ r=none:=by
   match r,h with
   | [],_=>rfl
   | [_],h=>exact absurd rfl h
   | _ :: _ :: _,_=>rfl
  rw [e];have lX:zbK [.lst ((w :: r).map D.str)]=some (.sh (.int (r.length+1:Nat))):=by simp
  generalize D.lst ((w :: r).map D.str)=X at *;have t0:zae (m2 oNe (mFr (m1 zbK (zab (mV 0) zaj))) (mC (.int 2))) [some (.sh X)]=some true:=tBl ((zaq (x:=.int (r.length+1:Nat)) (by simp [lX,-zbK]) rfl).trans (znm (k:=2) (by omega)));refine zbd ((ifT (a:=zaW (mSh (mC .non))) (c:=zaK) ?_).trans rfl);unfold mOr;rw [t0];rfl
theorem zD5 (w:Str) (r:List Str) (hl:r.length < 80000) (hw:∀ x∈w :: r,okW x):zaH [.lst ((w :: r).map D.str)]=some (.sh (ruR (prs (w :: r)))):=by
 have h0:=hw w (by simp);have g1:=zD3 w r hl hw;have g2:=zCi w r hl hw;have g3:=zzN w r hw;have g4:=zzO w r hw;have g5:=zzP w r hw;have i0:oIx (.lst ((w :: r).map D.str)) (.int 0)=some (.str w):=ixS (k:=0) rfl;generalize D.lst ((w :: r).map D.str)=X at *;have e1:=eqL h0 zef;have e2:=eqL h0 zeU;have e3:=eqL h0 ziA;have e4:=eqL h0 zeV;have e5:=eqL h0 zeW;have e6:=eqL h0 zkr;refine za1 rfl ?_
 show zbN [some (.sh X)]=Fl.rt (.sh (ruR (if w=Str.ofString "give"\/w=Str.ofString "take" then prG (decide (w=Str.ofString "give")) r else if w=Str.ofString "lay" then prL r else if w=Str.ofString "both" then prB r else if w=Str.ofString "most" then prM r else if w=Str.ofString "last" then prZ r else none)));unfold zbN zfa
 by_cases c1:w=Str.ofString "give"
 ·rw [if_pos (.inl c1),decide_eq_true c1];rw [decide_eq_true c1] at e1 g1;simp [i0,e1,g1,-oIx]
 rw [decide_eq_false c1] at e1 g1
 by_cases c2:w=Str.ofString "take"
 ·rw [if_pos (.inr c2),decide_eq_false c1];rw [decide_eq_true c2] at e2;simp [i0,e1,e2,g1,-oIx]
 rw [decide_eq_false c2] at e2;rw [if_neg (by rintro (h | h); exact c1 h; exact c2 h)]
 by_cases c3:w=Str.ofString "lay"
 ·rw [if_pos c3];rw [decide_eq_true c3] at e3;simp [i0,e1,e2,e3,g2,-oIx]
 rw [decide_eq_false c3] at e3;rw [if_neg c3]
 by_cases c4:w=Str.ofString "both"
 ·rw [if_pos c4];rw [decide_eq_true c4] at e4;simp [i0,e1,e2,e3,e4,g3,-oIx]
 rw [decide_eq_false c4] at e4;rw [if_neg c4]
 by_cases c5:w=Str.ofString "most"
 ·rw [if_pos c5];rw [decide_eq_true c5] at e5;simp [i0,e1,e2,e3,e4,e5,g4,-oIx]
 rw [decide_eq_false c5] at e5;rw [if_neg c5]
 by_cases c6:w=Str.ofString "last"
 ·rw [if_pos c6];rw [decide_eq_true c6] at e6;simp [i0,e1,e2,e3,e4,e5,e6,g5,-oIx]
 rw [decide_eq_false c6] at e6;rw [if_neg c6];simp [i0,e1,e2,e3,e4,e5,e6,ruR,-oIx]
def zmn (n:Nat):Str:=Str.ofString (toString (n:Int))
def tsW (link:Str):List Tm->List Str
 | []=>[]
 | [t]=>[link,tw t.1,t.2]
 | [t,u]=>[link,tw t.1,t.2,Str.ofString "and",tw u.1,u.2]
 | _=>[]
def Ru.ws:Ru->List Str
 | .give r a ts=>Str.ofString "give" :: r :: Str.ofString "by" :: a :: tsW (Str.ofString "to") ts
 | .take r a ts=>Str.ofString "take" :: r :: Str.ofString "by" :: a :: tsW (Str.ofString "from") ts
 | .lay r ts=>Str.ofString "lay" :: r :: tsW (Str.ofString "if") ts
 | .both p q=>[Str.ofString "both",p,q]
 | .most n r=>[Str.ofString "most",zmn n,r]
 | .last r=>[Str.ofString "last",r]
def TsG (ts:List Tm):Prop:=ts.length<=2/\∀ t∈ts,Good t.2
def Ru.G:Ru->Prop
 | .give r a ts=>Good r/\Good a/\TsG ts
 | .take r a ts=>Good r/\Good a/\TsG ts
 | .lay r ts=>Good r/\TsG ts
 | .both p q=>Good p/\Good q/\p≠q
 | .most n r=>1<=n/\n<=4/\Good r
 | .last r=>Good r
theorem zqM {c n:Str} {t:Tm} (h:trm c n=some t):tw t.1=c/\t.2=n/\Good n:=by
 unfold trm at h;split at h
 ·rename_i g
  split at h
  ·rename_i e
   cases h
   exact ⟨e.symm,rfl,zcZ.mp g⟩
  ·split at h
   ·rename_i e
    cases h
    exact ⟨e.symm,rfl,zcZ.mp g⟩
   ·cases h
 ·cases h
theorem zqN {link:Str} {ws:List Str} {ts:List Tm} (h:tms link ws=some ts):tsW link ts=ws/\TsG ts:=by
 match ws,h with
 | [],h=>cases h; exact ⟨rfl,by simp [TsG]⟩
 | [_],h=>cases h
 | [_,_],h=>cases h
 | [l,c,n],h=>
  have h:(if l=link then (trm c n).map λt=>[t] else none)=some ts:=h;split at h
  ·rename_i e
   rw [Option.map_eq_some_iff] at h;obtain ⟨t,ht,rfl⟩:=h;obtain ⟨a1,a2,a3⟩:=zqM ht;refine ⟨by rw [tsW,a1,a2,e],by simp,λx hx=>?_⟩;cases List.mem_singleton.mp hx
   rw [a2]; exact a3
  ·cases h
 | [_,_,_,_],h=>cases h
 | [_,_,_,_,_],h=>cases h
 | [l,c,n,a,d,m],h=>
  have h:(if l=link/\a=Str.ofString "and" then (trm c n).bind λt=>(trm d m).map λu=>[t,u] else none)=some ts:=h;split at h
  ·rename_i e
   obtain ⟨t,ht,h⟩:=Option.bind_eq_some_iff.mp h;rw [Option.map_eq_some_iff] at h;obtain ⟨u,hu,rfl⟩:=h;obtain ⟨a1,a2,a3⟩:=zqM ht;obtain ⟨b1,b2,b3⟩:=zqM hu;refine ⟨by rw [tsW,a1,a2,b1,b2,e.1,e.2],by simp,λx hx=>?_⟩;simp only [List.mem_cons,List.not_mem_nil,or_false] at hx;rcases hx with rfl | rfl
   ·rw [a2]; exact a3
   ·rw [b2]; exact b3
  ·cases h
 | _ :: _ :: _ :: _ :: _ :: _ :: _ :: _,h=>cases h
theorem zzQ:∀ d∈znl,zmn (dg d)=d:=by decide +kernel
theorem zt3 {ws:List Str} {ru:Ru} (h:prs ws=some ru):ru.ws=ws/\ru.G:=by
 match ws,h with
 | [],h=>cases h
 | w :: r,h=>
  have h:(if w=Str.ofString "give"\/w=Str.ofString "take" then prG (decide (w=Str.ofString "give")) r else if w=Str.ofString "lay" then prL r else if w=Str.ofString "both" then prB r else if w=Str.ofString "most" then prM r else if w=Str.ofString "last" then prZ r else none)=some ru:=h;split at h
  ·rename_i c
   match r,h with
   | [],h=>cases h
   | [_],h=>cases h
   | [_,_],h=>cases h
   | r1 :: b :: a :: zaL,h=>
    have h:(if isN r1=true/\b=Str.ofString "by"/\isN a=true then (tms (if decide (w=Str.ofString "give")=true then Str.ofString "to" else Str.ofString "from") zaL).map λts=>if decide (w=Str.ofString "give")=true then Ru.give r1 a ts else .take r1 a ts else none)=some ru:=h;split at h
    ·rename_i e
     rw [Option.map_eq_some_iff] at h;obtain ⟨ts,ht,rfl⟩:=h;have g1:=zcZ.mp e.1;have g2:=zcZ.mp e.2.2
     by_cases q:w=Str.ofString "give"
     ·rw [decide_eq_true q] at ht;obtain ⟨a1,a2⟩:=zqN ht;simp only [if_true] at a1;rw [decide_eq_true q];simp only [if_true];exact ⟨by rw [Ru.ws,a1,q,e.2.1],g1,g2,a2⟩
     ·rw [decide_eq_false q] at ht;obtain ⟨a1,a2⟩:=zqN ht;simp only [Bool.false_eq_true,if_false] at a1;rw [decide_eq_false q];simp only [Bool.false_eq_true,if_false];have q2:w=Str.ofString "take":=by
       rcases c with c | c
       ·exact absurd c q
       ·exact c
      exact ⟨by rw [Ru.ws,a1,q2,e.2.1],g1,g2,a2⟩
    ·cases h
  ·split at h
   ·rename_i c
    match r,h with
    | [],h=>cases h
    | r1 :: zaL,h=>
     have h:(if isN r1=true then (tms (Str.ofString "if") zaL).map λts=>Ru.lay r1 ts else none)=some ru:=h;split at h
     ·rename_i e
      rw [Option.map_eq_some_iff] at h;obtain ⟨ts,ht,rfl⟩:=h;obtain ⟨a1,a2⟩:=zqN ht;exact ⟨by rw [Ru.ws,a1,c],zcZ.mp e,a2⟩
     ·cases h
   ·split at h
    ·rename_i c
     match r,h with
     | [],h=>cases h
     | [_],h=>cases h
     | [p,q],h=>
      have h:(if isN p=true/\isN q=true/\p≠q then some (Ru.both p q) else none)=some ru:=h;split at h
      ·rename_i e
       cases h
       exact ⟨by rw [Ru.ws,c],zcZ.mp e.1,zcZ.mp e.2.1,e.2.2⟩
      ·cases h
     | _ :: _ :: _ :: _,h=>cases h
    ·split at h
     ·rename_i c
      match r,h with
      | [],h=>cases h
      | [_],h=>cases h
      | [d,r1],h=>
       have h:(if d∈znl/\isN r1=true then some (Ru.most (dg d) r1) else none)=some ru:=h;split at h
       ·rename_i e
        cases h
        obtain ⟨_,_,d1,d2⟩:=zks d e.1;exact ⟨by rw [Ru.ws,zzQ d e.1,c],d1,d2,zcZ.mp e.2⟩
       ·cases h
      | _ :: _ :: _ :: _,h=>cases h
     ·split at h
      ·rename_i c
       match r,h with
       | [],h=>cases h
       | [r1],h=>
        have h:(if isN r1=true then some (Ru.last r1) else none)=some ru:=h;split at h
        ·rename_i e
         cases h
         exact ⟨by rw [Ru.ws,c],zcZ.mp e⟩
        ·cases h
       | _ :: _ :: _,h=>cases h
      ·cases h
theorem zlb (w:Str):okP w (Str.ofString "N")=isN w:=if_pos rfl
theorem zlc (w:Str):okP w (Str.ofString "T")=decide (w∈[Str.ofString "has",Str.ofString "not"]):=by unfold okP; rw [if_neg (by decide +kernel),if_pos rfl]
theorem zld (w:Str):okP w (Str.ofString "D")=decide (w∈znl):=by unfold okP; rw [if_neg (by decide +kernel),if_neg (by decide +kernel),if_pos rfl]; rfl
theorem zjs (w p:Str) (h1:p≠Str.ofString "N") (h2:p≠Str.ofString "T") (h3:p≠Str.ofString "D"):okP w p=decide (w=p):=by unfold okP; rw [if_neg h1,if_neg h2,if_neg h3]
theorem zc0 (w:Str):okP w (Str.ofString "give")=decide (w=Str.ofString "give"):=zjs _ _ (by decide +kernel) (by decide +kernel) (by decide +kernel)
theorem zhn (w:Str):okP w (Str.ofString "by")=decide (w=Str.ofString "by"):=zjs _ _ (by decide +kernel) (by decide +kernel) (by decide +kernel)
theorem zho (w:Str):okP w (Str.ofString "to")=decide (w=Str.ofString "to"):=zjs _ _ (by decide +kernel) (by decide +kernel) (by decide +kernel)
theorem zeN (w:Str):okP w (Str.ofString "and")=decide (w=Str.ofString "and"):=zjs _ _ (by decide +kernel) (by decide +kernel) (by decide +kernel)
theorem zc1 (w:Str):okP w (Str.ofString "take")=decide (w=Str.ofString "take"):=zjs _ _ (by decide +kernel) (by decide +kernel) (by decide +kernel)
theorem zc2 (w:Str):okP w (Str.ofString "from")=decide (w=Str.ofString "from"):=zjs _ _ (by decide +kernel) (by decide +kernel) (by decide +kernel)
theorem zeO (w:Str):okP w (Str.ofString "lay")=decide (w=Str.ofString "lay"):=zjs _ _ (by decide +kernel) (by decide +kernel) (by decide +kernel)
theorem zhp (w:Str):okP w (Str.ofString "if")=decide (w=Str.ofString "if"):=zjs _ _ (by decide +kernel) (by decide +kernel) (by decide +kernel)
theorem zc3 (w:Str):okP w (Str.ofString "both")=decide (w=Str.ofString "both"):=zjs _ _ (by decide +kernel) (by decide +kernel) (by decide +kernel)
theorem zc4 (w:Str):okP w (Str.ofString "most")=decide (w=Str.ofString "most"):=zjs _ _ (by decide +kernel) (by decide +kernel) (by decide +kernel)
theorem zc5 (w:Str):okP w (Str.ofString "last")=decide (w=Str.ofString "last"):=zjs _ _ (by decide +kernel) (by decide +kernel) (by decide +kernel)
theorem zc6 (c n:Str):(trm c n).isSome=(decide (c∈[Str.ofString "has",Str.ofString "not"])&&isN n):=by
 unfold trm;cases isN n
 ·simp
 ·by_cases h:c=Str.ofString "has"
  ·simp [h]
  ·by_cases h':c=Str.ofString "not"
   ·simp [h']
   ·simp [h,h']
theorem zcu (k:Str):(tms k []).isSome=true:=rfl
theorem zcv (k e f g:Str):(tms k [e,f,g]).isSome=(decide (e=k)&&(trm f g).isSome):=by
 show (if e=k then (trm f g).map λt=>[t] else none).isSome=_
 by_cases h:e=k <;> simp [h]
theorem zcw (k e f g a d m:Str):(tms k [e,f,g,a,d,m]).isSome=(decide (e=k)&&(trm f g).isSome&&decide (a=Str.ofString "and")&&(trm d m).isSome):=by
 show (if e=k/\a=Str.ofString "and" then (trm f g).bind λt=>(trm d m).map λu=>[t,u] else none).isSome=_
 by_cases h:e=k
 ·by_cases h':a=Str.ofString "and"
  ·cases trm f g <;> simp [h,h']
  ·simp [h']
 ·simp [h]
theorem zcI (g:Bool) (b c d:Str) (zaL:List Str):(prG g (b :: c :: d :: zaL)).isSome=(isN b&&decide (c=Str.ofString "by")&&isN d&&(tms (if g=true then Str.ofString "to" else Str.ofString "from") zaL).isSome):=by
 show (if isN b=true/\c=Str.ofString "by"/\isN d=true then (tms (if g=true then Str.ofString "to" else Str.ofString "from") zaL).map λts=>if g=true then Ru.give b d ts else .take b d ts else none).isSome=_
 by_cases h:isN b=true/\c=Str.ofString "by"/\isN d=true
 ·rw [if_pos h]; simp [h.1,h.2.1,h.2.2]
 ·rw [if_neg h]
  symm
  show _=false;rw [Bool.eq_false_iff];intro z;simp at z;exact h ⟨z.1.1.1,z.1.1.2,z.1.2⟩
theorem zcJ (b:Str) (zaL:List Str):(prL (b :: zaL)).isSome=(isN b&&(tms (Str.ofString "if") zaL).isSome):=by
 show (if isN b=true then (tms (Str.ofString "if") zaL).map λts=>Ru.lay b ts else none).isSome=_;cases isN b <;> simp
theorem zc7 (p q:Str):(prB [p,q]).isSome=(isN p&&isN q&&!decide (p=q)):=by
 show (if isN p=true/\isN q=true/\p≠q then some (Ru.both p q) else none).isSome=_;cases isN p <;> cases isN q <;> by_cases h:p=q <;> simp [h]
theorem zc8 (p q:Str):(prM [p,q]).isSome=(decide (p∈znl)&&isN q):=by
 show (if p∈znl/\isN q=true then some (Ru.most (dg p) q) else none).isSome=_;cases isN q <;> by_cases h:p∈znl <;> simp [h]
theorem zc9 (p:Str):(prZ [p]).isSome=isN p:=by
 show (if isN p=true then some (Ru.last p) else none).isSome=_;cases isN p <;> simp
theorem zcx (w:Str) (r:List Str):(prs (w :: r)).isSome=((decide (w=Str.ofString "give")&&(prG true r).isSome)||(decide (w=Str.ofString "take")&&(prG false r).isSome)||(decide (w=Str.ofString "lay")&&(prL r).isSome)||(decide (w=Str.ofString "both")&&(prB r).isSome)||(decide (w=Str.ofString "most")&&(prM r).isSome)||(decide (w=Str.ofString "last")&&(prZ r).isSome)):=by
 show (if w=Str.ofString "give"\/w=Str.ofString "take" then prG (decide (w=Str.ofString "give")) r else if w=Str.ofString "lay" then prL r else if w=Str.ofString "both" then prB r else if w=Str.ofString "most" then prM r else if w=Str.ofString "last" then prZ r else none).isSome=_
 by_cases c1:w=Str.ofString "give"
 ·subst c1; simp
 by_cases c2:w=Str.ofString "take"
 ·subst c2; simp
 by_cases c3:w=Str.ofString "lay"
 ·subst c3; simp
 by_cases c4:w=Str.ofString "both"
 ·subst c4; simp
 by_cases c5:w=Str.ofString "most"
 ·subst c5; simp
 by_cases c6:w=Str.ofString "last"
 ·subst c6; simp
 simp [c1,c2,c3,c4,c5,c6]
theorem zzR (ws:List Str):gd ws=(prs ws).isSome:=by
 match ws with
 | []=>simp [gd,zbp,zct,prs]
 | [a]=>rw [zcx]; simp [gd,zbp,zct,prG,prL,prB,prM,prZ]
 | [a,b]=>
  rw [zcx];simp only [gd,zbp,List.any_cons,List.any_nil,zct,List.length_cons,List.length_nil,List.zip_cons_cons,List.zip_nil_right,List.zip_nil_left,List.all_cons,List.all_nil,zlb,zlc,zld,zc0,zhn,zho,zeN,zc1,zc2,zeO,zhp,zc3,zc4,zc5];simp only [zcI,zcJ,zc7,zc8,zc9,zcu,zcv,zcw,zc6];simp [prG,prL,prB,prM,prZ,tms,Bool.and_assoc]
 | [a,b,c]=>
  rw [zcx];simp only [gd,zbp,List.any_cons,List.any_nil,zct,List.length_cons,List.length_nil,List.zip_cons_cons,List.zip_nil_right,List.zip_nil_left,List.all_cons,List.all_nil,zlb,zlc,zld,zc0,zhn,zho,zeN,zc1,zc2,zeO,zhp,zc3,zc4,zc5];simp only [zcI,zcJ,zc7,zc8,zc9,zcu,zcv,zcw,zc6];simp [prG,prL,prB,prM,prZ,tms,Bool.and_assoc]
 | [a,b,c,d]=>
  rw [zcx];simp only [gd,zbp,List.any_cons,List.any_nil,zct,List.length_cons,List.length_nil,List.zip_cons_cons,List.zip_nil_right,List.zip_nil_left,List.all_cons,List.all_nil,zlb,zlc,zld,zc0,zhn,zho,zeN,zc1,zc2,zeO,zhp,zc3,zc4,zc5];simp only [zcI,zcJ,zc7,zc8,zc9,zcu,zcv,zcw,zc6];simp [prG,prL,prB,prM,prZ,tms,Bool.and_assoc]
 | [a,b,c,d,e]=>
  rw [zcx];simp only [gd,zbp,List.any_cons,List.any_nil,zct,List.length_cons,List.length_nil,List.zip_cons_cons,List.zip_nil_right,List.zip_nil_left,List.all_cons,List.all_nil,zlb,zlc,zld,zc0,zhn,zho,zeN,zc1,zc2,zeO,zhp,zc3,zc4,zc5];simp only [zcI,zcJ,zc7,zc8,zc9,zcu,zcv,zcw,zc6];simp [prG,prL,prB,prM,prZ,tms,Bool.and_assoc]
 | [a,b,c,d,e,f]=>
  rw [zcx];simp only [gd,zbp,List.any_cons,List.any_nil,zct,List.length_cons,List.length_nil,List.zip_cons_cons,List.zip_nil_right,List.zip_nil_left,List.all_cons,List.all_nil,zlb,zlc,zld,zc0,zhn,zho,zeN,zc1,zc2,zeO,zhp,zc3,zc4,zc5];simp only [zcI,zcJ,zc7,zc8,zc9,zcu,zcv,zcw,zc6];simp [prG,prL,prB,prM,prZ,tms,Bool.and_assoc]
 | [a,b,c,d,e,f,g]=>
  rw [zcx];simp only [gd,zbp,List.any_cons,List.any_nil,zct,List.length_cons,List.length_nil,List.zip_cons_cons,List.zip_nil_right,List.zip_nil_left,List.all_cons,List.all_nil,zlb,zlc,zld,zc0,zhn,zho,zeN,zc1,zc2,zeO,zhp,zc3,zc4,zc5];simp only [zcI,zcJ,zc7,zc8,zc9,zcu,zcv,zcw,zc6];simp [prG,prL,prB,prM,prZ,tms,Bool.and_assoc]
 | [a,b,c,d,e,f,g,h]=>
  rw [zcx];simp only [gd,zbp,List.any_cons,List.any_nil,zct,List.length_cons,List.length_nil,List.zip_cons_cons,List.zip_nil_right,List.zip_nil_left,List.all_cons,List.all_nil,zlb,zlc,zld,zc0,zhn,zho,zeN,zc1,zc2,zeO,zhp,zc3,zc4,zc5];simp only [zcI,zcJ,zc7,zc8,zc9,zcu,zcv,zcw,zc6];simp [prG,prL,prB,prM,prZ,tms,Bool.and_assoc]
 | [a,b,c,d,e,f,g,h,i]=>
  rw [zcx];simp only [gd,zbp,List.any_cons,List.any_nil,zct,List.length_cons,List.length_nil,List.zip_cons_cons,List.zip_nil_right,List.zip_nil_left,List.all_cons,List.all_nil,zlb,zlc,zld,zc0,zhn,zho,zeN,zc1,zc2,zeO,zhp,zc3,zc4,zc5];simp only [zcI,zcJ,zc7,zc8,zc9,zcu,zcv,zcw,zc6];simp [prG,prL,prB,prM,prZ,tms,Bool.and_assoc]
 | [a,b,c,d,e,f,g,h,i,j]=>
  rw [zcx];simp only [gd,zbp,List.any_cons,List.any_nil,zct,List.length_cons,List.length_nil,List.zip_cons_cons,List.zip_nil_right,List.zip_nil_left,List.all_cons,List.all_nil,zlb,zlc,zld,zc0,zhn,zho,zeN,zc1,zc2,zeO,zhp,zc3,zc4,zc5];simp only [zcI,zcJ,zc7,zc8,zc9,zcu,zcv,zcw,zc6];simp [prG,prL,prB,prM,prZ,tms,Bool.and_assoc]
 | a :: b :: c :: d :: e :: f :: g :: h :: i :: j :: k :: r=>
  rw [zcx];have e1:gd (a :: b :: c :: d :: e :: f :: g :: h :: i :: j :: k :: r)=false:=by
   unfold gd;rw [List.any_eq_false];intro f hf;have:f.length<=10:=(by decide:∀ f∈zbp,f.length<=10) f hf;unfold zct;rw [decide_eq_false (by simp; omega)];simp
  rw [e1];simp only [zcI,zcJ];simp [prB,prM,prZ,tms]
theorem zmh (s:Str) (hs:s.length=1):∀ ws:List Str,ws.length<=(Str.join s ws).length+1
 | []=>by simp
 | [x]=>by simp
 | x :: y :: r=>by
  have:=zmh s hs (y :: r);show (x :: y :: r).length<=(x++s++Str.join s (y :: r)).length+1;rw [zak,zak,hs];simp only [List.length_cons] at this ⊢;omega
theorem zzS (z:Str):(sp z).length<=z.length+1:=by
 have:=zmh (Str.ofString " ") (by decide +kernel) (sp z)
 rwa [zla] at this
theorem zzT {z:Str} (hz:okW z):∀ w∈sp z,okW w:=λw hw=>⟨Nat.le_trans (znN w hw) hz.1,ztG hz.2 w hw⟩
abbrev okZ (z:Str):Prop:=z.length<=10000/\Low z
theorem okZ.w {z:Str} (h:okZ z):okW z:=⟨by have:=h.1; omega,h.2⟩
theorem zzU (z:Str) (hz:okZ z):zaH [.lst ((sp z).map D.str)]=some (.sh (ruR (prs (sp z)))):=by
 have hn:=zzD z;have hw:=zzT hz.w;have hl:=zzS z;have h1:=hz.1;generalize sp z=ws at *
 match ws,hn with
 | w :: r,_=>exact zD5 w r (by simp at hl; omega) hw
theorem zzV {z:Str} (hz:okZ z) {ru:Ru} (h:prs (sp z)=some ru):zaY [.str z]=some (.sh ru.I)/\zbD [.str z]=none:=by
 have f:=zzU z hz;have s:=zqF hz.w.1;rw [h] at f;have ni:oIs ru.I .non=some (.bl false):=by cases ru <;> rfl
 have np:ru.I.plain=false:=by cases ru <;> rfl
 simp only [ruR] at f;generalize ru.I=I at *;constructor
 ·simp [zaY,zsl,zb1,zdi,zib,s,f,ni,np,-zbB]
 ·simp [zbD,zsm,zb1,zdi,zib,s,f,ni,np,-zbB]
theorem zzW {z:Str} (hz:okZ z) (h:prs (sp z)=none):zaY [.str z]=none/\zbD [.str z]=some (8,[(("found":Str),.str z)]):=by
 have f:=zzU z hz;have s:=zqF hz.w.1;rw [h] at f;have ni:oIs .non .non=some (.bl true):=rfl;simp only [ruR] at f;constructor
 ·simp [zaY,zsl,zb1,zdi,zib,s,f,ni,-zbB]
 ·simp [zbD,zsm,zb1,zdi,zib,s,f,ni,-zbB]
theorem zCj {d:D} (h:zeQ tab [d,.ty "str"]=some (.sh (.bl false))):zaY [d]=none/\zbD [d]=some (8,[(("found":Str),d)]):=by
 constructor
 ·simp [zaY,zsl,zb1,zdi,h]
 ·simp [zbD,zsm,zb1,zdi,h]
theorem zwe {d:D} {I:D} (h1:zaY [d]=some (.sh I)) (h2:zbD [d]=none) (hn:I.plain=false):za7 [d]=some (.sh (.tup [I,.non])):=by
 have z2:(2:Nat)<=sizeLine:=by rw [zaI]; omega
 refine za1 rfl ?_;show zcB [some (.sh d),none,none,none]=_;unfold zcB zhA;refine zat (S1:=[some (.sh d),some (.sh .non),none,none]) (by simp) ?_;refine zat (S1:=[some (.sh d),some (.sh .non),some (.sh .non),none]) (by simp) ?_;refine zat (S1:=[some (.sh d),some (.sh I),some (.sh .non),none]) (by simp [h1,h2,hn]) ?_;simp [z2]
theorem zqO {d:D} (h1:zaY [d]=none) (h2:zbD [d]=some (8,[(("found":Str),d)])):za7 [d]=some (.sh (.tup [.non,.lst [.bl true,d]])):=by
 have z2:(2:Nat)<=sizeLine:=by rw [zaI]; omega
 have z1:(1:Nat)<=sizeLine:=by omega
 have z3:(1:Nat) < sizeLine:=by omega
 have ix:zxb zzq [.exc 8 [(("found":Str),d)],.cls 8]=some (.sh (.bl true)):=rfl;refine za1 rfl ?_;show zcB [some (.sh d),none,none,none]=_;unfold zcB zhA;refine zat (S1:=[some (.sh d),some (.sh .non),none,none]) (by simp) ?_;refine zat (S1:=[some (.sh d),some (.sh .non),some (.sh .non),none]) (by simp) ?_;refine zat (S1:=[some (.sh d),some (.sh .non),some (.li [.bl true,d]),none]) ?_ ?_
 ·cases hp:d.plain <;> simp [h2,tabx,ix,z1,z3,hp]
 ·simp [z2]
@[simp] theorem bq0:((Str.ofString "by")==Str.ofString "role")=false:=by decide +kernel
@[simp] theorem bq1:((Str.ofString "terms")==Str.ofString "role")=false:=by decide +kernel
@[simp] theorem bq2:((Str.ofString "terms")==Str.ofString "by")=false:=by decide +kernel
@[simp] theorem bq3:((Str.ofString "other")==Str.ofString "one")=false:=by decide +kernel
@[simp] theorem bq4:((Str.ofString "role")==Str.ofString "most")=false:=by decide +kernel
@[simp] theorem bq5:((Str.ofString "row")==Str.ofString "role")=false:=by decide +kernel
@[simp] theorem bq6:((Str.ofString "row")==Str.ofString "by")=false:=by decide +kernel
@[simp] theorem bq7:((Str.ofString "row")==Str.ofString "terms")=false:=by decide +kernel
@[simp] theorem bq8:((Str.ofString "row")==Str.ofString "one")=false:=by decide +kernel
@[simp] theorem bq9:((Str.ofString "row")==Str.ofString "other")=false:=by decide +kernel
@[simp] theorem zEu:((Str.ofString "row")==Str.ofString "most")=false:=by decide +kernel
theorem ziB {a b:Str} (h:a.length+b.length<=1000):za9 (.str a) (.str b)=some (.sh (.str (a++b))):=by
 have:a.length+b.length<=sizeLine:=by rw [zaI]; omega
 simp [this]
theorem zic (zs:List Str):zj2 (zs.map D.str)=some zs:=by
 induction zs with
 | nil=>rfl
 | cons z zs ih=>simp [ih]
def zhq (t:Tm):Str:=tw t.1++" "++t.2
def zeg (link:Str) (ts:List Tm):Str:=if ts=[] then "" else " "++link++" "++Txt.join " and " (ts.map zhq)
def Ru.row:Ru->Str
 | .give r a ts=>"give "++r++" by "++a++zeg "to" ts
 | .take r a ts=>"take "++r++" by "++a++zeg "from" ts
 | .lay r ts=>"lay "++r++zeg "if" ts
 | .both p q=>"both "++p++" "++q
 | .most n r=>"most "++(zmn n)++" "++r
 | .last r=>"last "++r
theorem zsQ:(" ":Str).length=1:=by decide +kernel
theorem zCk:("has":Str).length=3:=by decide +kernel
theorem zCl:("not":Str).length=3:=by decide +kernel
theorem zzX:("has ":Str).length=4:=by decide +kernel
theorem zzY:("not ":Str).length=4:=by decide +kernel
theorem zxe:(" by ":Str).length=4:=by decide +kernel
theorem zzZ:(" and ":Str).length=5:=by decide +kernel
theorem znP:("give ":Str).length=5:=by decide +kernel
theorem znQ:("take ":Str).length=5:=by decide +kernel
theorem zz0:("lay ":Str).length=4:=by decide +kernel
theorem zqP:("both ":Str).length=5:=by decide +kernel
theorem zqQ:("most ":Str).length=5:=by decide +kernel
theorem zz1:("last ":Str).length=5:=by decide +kernel
theorem zDn:("to":Str).length=2:=by decide +kernel
theorem zt4:("from":Str).length=4:=by decide +kernel
theorem zDo:("if":Str).length=2:=by decide +kernel
theorem l_0:("":Str).length=0:=by decide +kernel
theorem zz2:("has ":Str)="has"++" ":=by decide +kernel
theorem zz3:("not ":Str)="not"++" ":=by decide +kernel
theorem zz4 (b:Bool):(tw b).length=3:=by cases b <;> simp [tw,zCk,zCl]
theorem zsR {r:Str} (h:r.length<=6):zaE [cnD (true,r)]=some (.sh (.str (zhq (true,r)))):=by
 have a:=ziB (a:="has ") (b:=r) (by rw [zzX]; omega);have e:zhq (true,r)="has "++r:=by rw [zz2]; rfl
 rw [e];simp [zaE,zbY,zlQ,cnD,cnC,a,-za9]
theorem zsS {r:Str} (h:r.length<=6):zaF [cnD (false,r)]=some (.sh (.str (zhq (false,r)))):=by
 have a:=ziB (a:="not ") (b:=r) (by rw [zzY]; omega);have e:zhq (false,r)="not "++r:=by rw [zz3]; rfl
 rw [e];simp [zaF,zbY,zlR,cnD,cnC,a,-za9]
theorem zqR (t:Tm) (h:t.2.length<=6) (S:FSt) (i:Nat) (e:S[i]? = some (some (.sh (cnD t)))):zhu (zbZ 2 "row" zaE (mV i) zaj) (zbZ 6 "row" zaF (mV i) zaj) S=some (.sh (.str (zhq t))):=by
 obtain ⟨b,r⟩:=t;cases b
 ·have:=zsS h;simp only [cnD,cnC,Bool.false_eq_true,if_false] at this e;simp [e,List.lookup,this]
 ·have:=zsR h;simp only [cnD,cnC,if_true] at this e;simp [e,List.lookup,this]
theorem zhr {t:Tm} (h:t.2.length<=6):(zhq t).length<=10:=by
 unfold zhq;rw [zak,zak,zz4,zsQ]; omega
theorem zsT {ts:List Tm} (h:∀ t∈ts,t.2.length<=6):((ts.map zhq).map (·.length)).sum<=10*ts.length:=by
 induction ts with
 | nil=>simp
 | cons t ts ih=>
  have:=ih λx hx=>h x (by simp [hx]);have:=zhr (h t (by simp));simp only [List.map_cons,List.sum_cons,List.length_cons];omega
theorem zqS {ts:List Tm} (hl:ts.length<=2) (h:∀ t∈ts,t.2.length<=6):zcL (.str " and ") [.lst ((ts.map zhq).map D.str)]=some (.sh (.str (Txt.join " and " (ts.map zhq)))):=by
 have s:=zsT h;have h1:((ts.map zhq).map (·.length)).sum+(ts.map zhq).length*(" and ":Str).length<=16777216:=by
  rw [zzZ,List.length_map]; omega
 simp only [zcL,zic,Option.bind_some];rw [if_pos h1]
theorem zmi {ts:List Tm} (hl:ts.length<=2) (h:∀ t∈ts,t.2.length<=6):(Txt.join " and " (ts.map zhq)).length<=100:=by
 show (Builtin.Str.glued " and " (ts.map zhq)).length<=100;rw [StrLaws.glued_eq_join]
 match ts,hl with
 | [],_=>
  show (Str.join " and " []).length<=100;decide +kernel
 | [t],_=>
  show (zhq t).length<=100;have:=zhr (h t (by simp)); omega
 | [t,u],_=>
  show (zhq t++" and "++zhq u).length<=100;have:=zhr (h t (by simp));have:=zhr (h u (by simp));rw [zak,zak,zzZ]; omega
theorem zjt {link:Str} {ts:List Tm} (hk:link.length<=4) (hl:ts.length<=2) (h:∀ t∈ts,t.2.length<=6):(zeg link ts).length<=106:=by
 unfold zeg;split
 ·rw [l_0]; omega
 ·have:=zmi hl h;rw [zak,zak,zak,zsQ]; omega
theorem znn {link:Str} {ts:List Tm} (hk:link.length<=4) (hl:ts.length<=2) (h:∀ t∈ts,t.2.length<=6):zaz [.str link,.tup (ts.map cnD)]=some (.sh (.str (zeg link ts))):=by
 by_cases c:ts=[]
 ·subst c;simp [zaz,zbY,zb6,zgb,zeg,zsM]
 ·have c0:((ts.length:Int)==0)=false:=by
   have:ts.length≠0:=λz=>c (List.length_eq_zero_iff.mp z);simp; omega
  have hz:ts.length<=sizeLine:=by rw [zaI]; omega
  have hc:=zkS cnD [] (mFr (zhu (zbZ 2 "row" zaE (mV 0) zaj) (zbZ 6 "row" zaF (mV 0) zaj))) (λt=>.str (zhq t)) ts (λt ht=>by
   have:=zqR t (h t ht) [some (.sh (cnD t))] 0 rfl;show ((zhu _ _ _).map SV.fr)=_;rw [this]; rfl) none
  simp only [oD',Option.map_none] at hc;have hj:=zqS hl h;have jl:=zmi hl h;rw [List.map_map] at hj;have a1:=ziB (a:=" ") (b:=link) (by rw [zsQ]; omega);have a2:=ziB (a:=" "++link) (b:=" ") (by rw [zak,zsQ]; omega);have a3:=ziB (a:=" "++link++" ") (b:=Txt.join " and " (ts.map zhq)) (by rw [zak,zak,zsQ]; omega);have e:zeg link ts=" "++link++" "++Txt.join " and " (ts.map zhq):=by unfold zeg; rw [if_neg c]
  rw [e];have hj':zcL (.str " and ") [.lst (ts.map λt=>.str (zhq t))]=some (.sh (.str (Txt.join " and " (ts.map zhq)))):=hj;simp [zaz,zbY,zb6,zgb,zsM,c0,hz,hc,hj',a1,a2,a3,-za9,-zcL,-zhu]
theorem zwf {n:Nat} (h1:1<=n) (h4:n<=4):(zmn n).length=1:=by
 have:n=1\/n=2\/n=3\/n=4:=by omega
 rcases this with rfl | rfl | rfl | rfl <;> decide +kernel
theorem zwg {n:Nat} (h1:1<=n) (h4:n<=4):zkH [.int n]=some (.sh (.str (zmn n))):=by
 have:n=1\/n=2\/n=3\/n=4:=by omega
 rcases this with rfl | rfl | rfl | rfl <;> rfl
def Ru.fRow:Ru->List D->Option SV
 | .give ..=>zbj
 | .take ..=>zbm
 | .lay ..=>zbO
 | .both ..=>zbi
 | .most ..=>zbl
 | .last ..=>zbk
theorem zCm {ru:Ru} (h:ru.G):ru.fRow [ru.I]=some (.sh (.str ru.row)):=by
 cases ru with
 | give r a ts=>
  have lr:=(h.1).hi;have la:=(h.2.1).hi;have ht:=znn (link:="to") (ts:=ts) (by rw [zDn]; omega) h.2.2.1 λt ht=>(h.2.2.2 t ht).hi;have tl:=zjt (link:="to") (ts:=ts) (by rw [zDn]; omega) h.2.2.1 λt ht=>(h.2.2.2 t ht).hi;have a1:=ziB (a:="give ") (b:=r) (by rw [znP]; omega);have a2:=ziB (a:="give "++r) (b:=" by ") (by rw [zak,znP,zxe]; omega);have a3:=ziB (a:="give "++r++" by ") (b:=a) (by rw [zak,zak,znP,zxe]; omega)
  have a4:=ziB (a:="give "++r++" by "++a) (b:=zeg "to" ts) (by rw [zak,zak,zak,znP,zxe]; omega);simp [Ru.fRow,zbj,zbY,zkc,zkb,Ru.I,Ru.row,List.lookup,ht,a1,a2,a3,a4,-za9]
 | take r a ts=>
  have lr:=(h.1).hi;have la:=(h.2.1).hi;have ht:=znn (link:="from") (ts:=ts) (by rw [zt4]; omega) h.2.2.1 λt ht=>(h.2.2.2 t ht).hi;have tl:=zjt (link:="from") (ts:=ts) (by rw [zt4]; omega) h.2.2.1 λt ht=>(h.2.2.2 t ht).hi;have a1:=ziB (a:="take ") (b:=r) (by rw [znQ]; omega);have a2:=ziB (a:="take "++r) (b:=" by ") (by rw [zak,znQ,zxe]; omega);have a3:=ziB (a:="take "++r++" by ") (b:=a) (by rw [zak,zak,znQ,zxe]; omega)
  have a4:=ziB (a:="take "++r++" by "++a) (b:=zeg "from" ts) (by rw [zak,zak,zak,znQ,zxe]; omega);simp [Ru.fRow,zbm,zbY,zkg,zkf,Ru.I,Ru.row,List.lookup,ht,a1,a2,a3,a4,-za9]
 | lay r ts=>
  have lr:=(h.1).hi;have ht:=znn (link:="if") (ts:=ts) (by rw [zDo]; omega) h.2.1 λt ht=>(h.2.2 t ht).hi;have tl:=zjt (link:="if") (ts:=ts) (by rw [zDo]; omega) h.2.1 λt ht=>(h.2.2 t ht).hi;have a1:=ziB (a:="lay ") (b:=r) (by rw [zz0]; omega);have a2:=ziB (a:="lay "++r) (b:=zeg "if" ts) (by rw [zak,zz0]; omega);simp [Ru.fRow,zbO,zbY,zlT,zlS,Ru.I,Ru.row,List.lookup,ht,a1,a2,-za9]
 | both p q=>
  have lp:=(h.1).hi;have lq:=(h.2.1).hi;have a1:=ziB (a:="both ") (b:=p) (by rw [zqP]; omega);have a2:=ziB (a:="both "++p) (b:=" ") (by rw [zak,zqP,zsQ]; omega);have a3:=ziB (a:="both "++p++" ") (b:=q) (by rw [zak,zak,zqP,zsQ]; omega);simp [Ru.fRow,zbi,zbY,zka,Ru.I,Ru.row,List.lookup,a1,a2,a3,-za9]
 | most n r=>
  have lr:=(h.2.2).hi;have nl:=zwf h.1 h.2.1;have ns:=zwg h.1 h.2.1;have a1:=ziB (a:="most ") (b:=zmn n) (by rw [zqQ,nl]; omega);have a2:=ziB (a:="most "++zmn n) (b:=" ") (by rw [zak,zqQ,nl,zsQ]; omega);have a3:=ziB (a:="most "++zmn n++" ") (b:=r) (by rw [zak,zak,zqQ,nl,zsQ]; omega);simp [Ru.fRow,zbl,zbY,zke,Ru.I,Ru.row,List.lookup,ns,a1,a2,a3,-za9,-zkH]
 | last r=>
  have lr:=(h).hi;have a1:=ziB (a:="last ") (b:=r) (by rw [zz1]; omega);simp [Ru.fRow,zbk,zbY,zkd,Ru.I,Ru.row,List.lookup,a1,-za9]
theorem zwh (a:Str):a++Str.ofString ""=a:=by
 have h:(Str.ofString "").cps.toList=[]:=by decide +kernel
 exact zkR (by rw [za4,h,List.append_nil])
theorem zwi:("give ":Str)=Str.ofString "give"++Str.ofString " ":=by decide +kernel
theorem zwj:("take ":Str)=Str.ofString "take"++Str.ofString " ":=by decide +kernel
theorem zz5:("lay ":Str)=Str.ofString "lay"++Str.ofString " ":=by decide +kernel
theorem zwk:("both ":Str)=Str.ofString "both"++Str.ofString " ":=by decide +kernel
theorem zwl:("most ":Str)=Str.ofString "most"++Str.ofString " ":=by decide +kernel
theorem zwm:("last ":Str)=Str.ofString "last"++Str.ofString " ":=by decide +kernel
theorem zz6:(" by ":Str)=Str.ofString " "++Str.ofString "by"++Str.ofString " ":=by decide +kernel
theorem zz7:(" and ":Str)=Str.ofString " "++Str.ofString "and"++Str.ofString " ":=by decide +kernel
theorem zqT (link x:Str) (ws:List Str):∀ ts:List Tm,ts.length<=2->x++zeg link ts=Str.join (Str.ofString " ") (x :: tsW link ts)
 | [],_=>by show x++zeg link []=x; unfold zeg; rw [if_pos rfl]; exact zwh x
 | [t],_=>by
  unfold zeg;rw [if_neg (by simp)];show x++(Str.ofString " "++link++Str.ofString " "++Builtin.Str.glued (Str.ofString " and ") [zhq t])=x++Str.ofString " "++(link++Str.ofString " "++(tw t.1++Str.ofString " "++t.2));rw [StrLaws.glued_eq_join];show x++(Str.ofString " "++link++Str.ofString " "++(tw t.1++Str.ofString " "++t.2))=_;simp only [zds]
 | [t,u],_=>by
  unfold zeg;rw [if_neg (by simp)];show x++(Str.ofString " "++link++Str.ofString " "++Builtin.Str.glued (Str.ofString " and ") [zhq t,zhq u])=x++Str.ofString " "++(link++Str.ofString " "++(tw t.1++Str.ofString " "++(t.2++Str.ofString " "++(Str.ofString "and"++Str.ofString " "++(tw u.1++Str.ofString " "++u.2)))));rw [StrLaws.glued_eq_join];show x++(Str.ofString " "++link++Str.ofString " "++((tw t.1++Str.ofString " "++t.2)++Str.ofString " and "++(tw u.1++Str.ofString " "++u.2)))=_
  rw [zz7];simp only [zds]
theorem zz8 {ru:Ru} (h:ru.G):ru.row=Str.join (Str.ofString " ") ru.ws:=by
 cases ru with
 | give r a ts=>
  show "give "++r++" by "++a++zeg (Str.ofString "to") ts=Str.ofString "give"++Str.ofString " "++(r++Str.ofString " "++(Str.ofString "by"++Str.ofString " "++Str.join (Str.ofString " ") (a :: tsW (Str.ofString "to") ts)));rw [<- zqT (Str.ofString "to") a [] ts h.2.2.1,zwi,zz6];simp only [zds]
 | take r a ts=>
  show "take "++r++" by "++a++zeg (Str.ofString "from") ts=Str.ofString "take"++Str.ofString " "++(r++Str.ofString " "++(Str.ofString "by"++Str.ofString " "++Str.join (Str.ofString " ") (a :: tsW (Str.ofString "from") ts)));rw [<- zqT (Str.ofString "from") a [] ts h.2.2.1,zwj,zz6];simp only [zds]
 | lay r ts=>
  show "lay "++r++zeg (Str.ofString "if") ts=Str.ofString "lay"++Str.ofString " "++Str.join (Str.ofString " ") (r :: tsW (Str.ofString "if") ts);rw [<- zqT (Str.ofString "if") r [] ts h.2.1,zz5];simp only [zds]
 | both p q=>
  show "both "++p++" "++q=Str.ofString "both"++Str.ofString " "++(p++Str.ofString " "++q);rw [zwk];simp only [zds]
 | most n r=>
  show "most "++zmn n++" "++r=Str.ofString "most"++Str.ofString " "++(zmn n++Str.ofString " "++r);rw [zwl];simp only [zds]
 | last r=>
  show "last "++r=Str.ofString "last"++Str.ofString " "++r;rw [zwm]
theorem zsU {z:Str} {ru:Ru} (h:prs (sp z)=some ru):ru.row=z:=by
 obtain ⟨a,b⟩:=zt3 h;rw [zz8 b,a]; exact zla z
theorem znR {d:D} {p:PyData} (h:shp d=some p):oEq d d=some (.bl true):=by
 have hs:=(zbg h).2;unfold oEq;rw [h];simp only [Option.bind_some];rw [SeqAt.eqv_refl p (SeqAt.canLay_of_shaped hs)]
theorem znS {d:D} {p:PyData} (h:shp d=some p):oNe d d=some (.bl false):=by
 have hs:=(zbg h).2;unfold oNe;rw [h];simp only [Option.bind_some];rw [SeqAt.eqv_refl p (SeqAt.canLay_of_shaped hs)];rfl
theorem zz9 (b:Bool):Low (tw b):=by cases b; exact zwc; exact zwb
theorem zD6 {ps:List Pr} (h:∀ p∈ps,OkP p):shp (.lst (ps.map pD))=some (.list (ps.map pP)):=by simp [shp,D.dat,zvP,zDQ h]
theorem zAa {ts:List Tm} (h:∀ t∈ts,Good t.2):oEq (.lst (ts.map tmD)) (.lst (ts.map tmD))=some (.bl true):=by
 have e:ts.map tmD=(ts.map λt=>((tw t.1,t.2):Pr)).map pD:=by rw [List.map_map]; rfl
 rw [e];refine znR (zD6 λp hp=>?_);obtain ⟨t,ht,rfl⟩:=List.mem_map.mp hp;exact ⟨(zz9 t.1).ok,(h t ht).ok⟩
theorem zCn (link:Str) {ts:List Tm} (h:ts.length<=2):zaP [.lst ((tsW link ts).map D.str)]=some (.li (ts.map tmD)):=by
 have z2:(2:Nat)<=sizeLine:=by rw [zaI]; omega
 have z1:(1:Nat)<=sizeLine:=by omega
 match ts,h with
 | [],_=>simp [zaP,zbY,zcD,tsW,zsM]
 | [t],_=>
  have l3:zbK [.lst ((tsW link [t]).map D.str)]=some (.sh (.int 3)):=rfl;have i1:oIx (.lst ((tsW link [t]).map D.str)) (.int 1)=some (.str (tw t.1)):=rfl;have i2:oIx (.lst ((tsW link [t]).map D.str)) (.int 2)=some (.str t.2):=rfl;generalize D.lst ((tsW link [t]).map D.str)=X at *;simp [zaP,zbY,zcD,zsM,l3,i1,i2,z1,z2,tmD,-oIx,-zbK]
 | [t,u],_=>
  have l3:zbK [.lst ((tsW link [t,u]).map D.str)]=some (.sh (.int 6)):=rfl;have i1:oIx (.lst ((tsW link [t,u]).map D.str)) (.int 1)=some (.str (tw t.1)):=rfl;have i2:oIx (.lst ((tsW link [t,u]).map D.str)) (.int 2)=some (.str t.2):=rfl;have i4:oIx (.lst ((tsW link [t,u]).map D.str)) (.int 4)=some (.str (tw u.1)):=rfl;have i5:oIx (.lst ((tsW link [t,u]).map D.str)) (.int 5)=some (.str u.2):=rfl
  generalize D.lst ((tsW link [t,u]).map D.str)=X at *;simp [zaP,zbY,zcD,zsM,l3,i1,i2,i4,i5,z1,z2,tmD,-oIx,-zbK]
theorem zwn {t:Tm} (h:Good t.2):sp (zhq t)=[tw t.1,t.2]:=by
 have e:zhq t=Str.join (Str.ofString " ") [tw t.1,t.2]:=rfl;rw [e];refine zCc _ (by simp) λw hw=>?_;simp only [List.mem_cons,List.not_mem_nil,or_false] at hw;rcases hw with rfl | rfl
 ·cases t.1 <;> decide +kernel
 ·exact Good.free h
theorem zqU (I:D) (link:Str) {ts:List Tm} (hI:zdu [1,4,7] "terms" I=some (.tup (ts.map cnD))) (h:TsG ts):zaA [I,.lst ((tsW link ts).map D.str)]=some (.sh (.bl true)):=by
 have hz:ts.length<=sizeLine:=by have:=h.1; rw [zaI]; omega
 have hc:=zkS cnD [] (mFr (m1 ze4 (zab (mFr (mBM zbB (mFr (zhu (zbZ 2 "row" zaE (mV 0) zaj) (zbZ 6 "row" zaF (mV 0) zaj))) (zab (mC (.str (Str.ofString " "))) zaj))) zaj))) tmD ts (λt ht=>by
  have g:=h.2 t ht;have a:=zqR t g.hi [some (.sh (cnD t))] 0 rfl;have l:=zhr (t:=t) g.hi;have s:=znO (m:=mFr (zhu (zbZ 2 "row" zaE (mV 0) zaj) (zbZ 6 "row" zaF (mV 0) zaj))) (S:=[some (.sh (cnD t))]) (z:=zhq t) (by show ((zhu _ _ _).map SV.fr)=_; rw [a]; rfl) (by omega);rw [zwn g] at s;generalize mFr (mBM zbB (mFr (zhu (zbZ 2 "row" zaE (mV 0) zaj) (zbZ 6 "row" zaF (mV 0) zaj))) (zab (mC (.str (Str.ofString " "))) zaj))=mm at s ⊢
  simp [s,tmD]) none
 simp only [oD',Option.map_none] at hc;have l:=zCn link h.1;have e:=zAa h.2;generalize D.lst ((tsW link ts).map D.str)=X at *;have B:=zbX (zck (own:=1) (fi:=[]) (mi:=zlf (m1 (zdu [1,4,7] "terms") (mV 0))) (mg:=gN 0) (S:=[some (.sh I),some (.sh X)]) (its:=ts.map cnD) (by simp [hI,-zdu]) (by simpa using hz) hc);simp only [SV.fr] at B;have C:mFr (m1 zaP (zab (mV 1) zaj)) [some (.sh I),some (.sh X)]=some (.lst (ts.map tmD)):=by simp [l]
 refine za1 rfl ?_;show za8 [some (.sh I),some (.sh X)]=_;unfold za8 zeR;simp only [zaW,mSh,(zaq (f:=oEq) B C).trans e,Option.map_some]
theorem zno {a b:Str} (ha:Ok a) (hb:Ok b):oEq (.lst [.str a,.str b]) (.lst [.str a,.str b])=some (.bl true):=by
 have h:∀ z∈[a,b],Ok z:=λz hz=>by
  simp only [List.mem_cons,List.not_mem_nil,or_false] at hz;rcases hz with rfl | rfl
  ·exact ha
  ·exact hb
 have:=zDl (xs:=[a,b]) (ys:=[a,b]) h h
 simpa using this
theorem zqV {a:Str} (ha:Ok a):oEq (.str a) (.str a)=some (.bl true):=by rw [eqS ha ha]; simp
theorem zwo {ru:Ru} (h:ru.G):zau [ru.I,.lst (ru.ws.map D.str)]=some (.sh (.bl true)):=by
 have z2:(2:Nat)<=sizeLine:=by rw [zaI]; omega
 cases ru with
 | give r a ts=>
  obtain ⟨gr,ga,gt⟩:=h;have fs:=zqU (Ru.give r a ts).I (Str.ofString "to") (ts:=ts) rfl gt;have sl:oSl (.lst ((Ru.give r a ts).ws.map D.str)) (some 4) none=some (.li ((tsW (Str.ofString "to") ts).map D.str)):=by
   have:=zii ((Ru.give r a ts).ws.map D.str) 4 (by simp [Ru.ws]);show some (SV.li (zeX ((Ru.give r a ts).ws.map D.str) (some ((4:Nat):Int)) none))=_;rw [this]; rfl
  have i0:oIx (.lst ((Ru.give r a ts).ws.map D.str)) (.int 0)=some (.str (Str.ofString "give")):=ixS (k:=0) rfl;have i1:oIx (.lst ((Ru.give r a ts).ws.map D.str)) (.int 1)=some (.str r):=ixS (k:=1) rfl;have i3:oIx (.lst ((Ru.give r a ts).ws.map D.str)) (.int 3)=some (.str a):=ixS (k:=3) rfl;have f1:zdu [1,2,3,4,5,6,7] "role" (Ru.give r a ts).I=some (.str r):=rfl;have f2:zdu [1,7] "by" (Ru.give r a ts).I=some (.str a):=rfl
  have t1:zeQ tab [(Ru.give r a ts).I,.cls 1]=some (.sh (.bl true)):=rfl;have es:=zno gr.ok ga.ok;have e_give:oEq (.str (Str.ofString "give")) (.str (Str.ofString "give"))=some (.bl true):=by rw [eqS zef.ok zef.ok]; exact congrArg (λb=>some (D.bl b)) (by decide +kernel)
  have e_take:oEq (.str (Str.ofString "give")) (.str (Str.ofString "take"))=some (.bl false):=by rw [eqS zef.ok zeU.ok]; exact congrArg (λb=>some (D.bl b)) (by decide +kernel)
  have e_lay:oEq (.str (Str.ofString "give")) (.str (Str.ofString "lay"))=some (.bl false):=by rw [eqS zef.ok ziA.ok]; exact congrArg (λb=>some (D.bl b)) (by decide +kernel)
  have e_both:oEq (.str (Str.ofString "give")) (.str (Str.ofString "both"))=some (.bl false):=by rw [eqS zef.ok zeV.ok]; exact congrArg (λb=>some (D.bl b)) (by decide +kernel)
  have e_most:oEq (.str (Str.ofString "give")) (.str (Str.ofString "most"))=some (.bl false):=by rw [eqS zef.ok zeW.ok]; exact congrArg (λb=>some (D.bl b)) (by decide +kernel)
  generalize D.lst ((Ru.give r a ts).ws.map D.str)=X at *;generalize (Ru.give r a ts).I=I at *;simp [zau,zbY,zby,zb7,i0,i1,i3,f1,f2,t1,es,e_give,e_take,sl,fs,z2,-oIx,-oSl,-zdu,-oEq]
 | take r a ts=>
  obtain ⟨gr,ga,gt⟩:=h;have fs:=zqU (Ru.take r a ts).I (Str.ofString "from") (ts:=ts) rfl gt;have sl:oSl (.lst ((Ru.take r a ts).ws.map D.str)) (some 4) none=some (.li ((tsW (Str.ofString "from") ts).map D.str)):=by
   have:=zii ((Ru.take r a ts).ws.map D.str) 4 (by simp [Ru.ws]);show some (SV.li (zeX ((Ru.take r a ts).ws.map D.str) (some ((4:Nat):Int)) none))=_;rw [this]; rfl
  have i0:oIx (.lst ((Ru.take r a ts).ws.map D.str)) (.int 0)=some (.str (Str.ofString "take")):=ixS (k:=0) rfl;have i1:oIx (.lst ((Ru.take r a ts).ws.map D.str)) (.int 1)=some (.str r):=ixS (k:=1) rfl;have i3:oIx (.lst ((Ru.take r a ts).ws.map D.str)) (.int 3)=some (.str a):=ixS (k:=3) rfl;have f1:zdu [1,2,3,4,5,6,7] "role" (Ru.take r a ts).I=some (.str r):=rfl;have f2:zdu [1,7] "by" (Ru.take r a ts).I=some (.str a):=rfl
  have t1:zeQ tab [(Ru.take r a ts).I,.cls 7]=some (.sh (.bl true)):=rfl;have es:=zno gr.ok ga.ok;have e_give:oEq (.str (Str.ofString "take")) (.str (Str.ofString "give"))=some (.bl false):=by rw [eqS zeU.ok zef.ok]; exact congrArg (λb=>some (D.bl b)) (by decide +kernel)
  have e_take:oEq (.str (Str.ofString "take")) (.str (Str.ofString "take"))=some (.bl true):=by rw [eqS zeU.ok zeU.ok]; exact congrArg (λb=>some (D.bl b)) (by decide +kernel)
  have e_lay:oEq (.str (Str.ofString "take")) (.str (Str.ofString "lay"))=some (.bl false):=by rw [eqS zeU.ok ziA.ok]; exact congrArg (λb=>some (D.bl b)) (by decide +kernel)
  have e_both:oEq (.str (Str.ofString "take")) (.str (Str.ofString "both"))=some (.bl false):=by rw [eqS zeU.ok zeV.ok]; exact congrArg (λb=>some (D.bl b)) (by decide +kernel)
  have e_most:oEq (.str (Str.ofString "take")) (.str (Str.ofString "most"))=some (.bl false):=by rw [eqS zeU.ok zeW.ok]; exact congrArg (λb=>some (D.bl b)) (by decide +kernel)
  generalize D.lst ((Ru.take r a ts).ws.map D.str)=X at *;generalize (Ru.take r a ts).I=I at *;simp [zau,zbY,zby,zb7,i0,i1,i3,f1,f2,t1,es,e_give,e_take,sl,fs,z2,-oIx,-oSl,-zdu,-oEq]
 | lay r ts=>
  obtain ⟨gr,gt⟩:=h;have fs:=zqU (Ru.lay r ts).I (Str.ofString "if") (ts:=ts) rfl gt;have sl:oSl (.lst ((Ru.lay r ts).ws.map D.str)) (some 2) none=some (.li ((tsW (Str.ofString "if") ts).map D.str)):=by
   have:=zii ((Ru.lay r ts).ws.map D.str) 2 (by simp [Ru.ws]);show some (SV.li (zeX ((Ru.lay r ts).ws.map D.str) (some ((2:Nat):Int)) none))=_;rw [this]; rfl
  have i0:oIx (.lst ((Ru.lay r ts).ws.map D.str)) (.int 0)=some (.str (Str.ofString "lay")):=ixS (k:=0) rfl;have i1:oIx (.lst ((Ru.lay r ts).ws.map D.str)) (.int 1)=some (.str r):=ixS (k:=1) rfl;have f1:zdu [1,2,3,4,5,6,7] "role" (Ru.lay r ts).I=some (.str r):=rfl;have t1:zeQ tab [(Ru.lay r ts).I,.cls 4]=some (.sh (.bl true)):=rfl;have es:=zqV gr.ok;have e_give:oEq (.str (Str.ofString "lay")) (.str (Str.ofString "give"))=some (.bl false):=by rw [eqS ziA.ok zef.ok]; exact congrArg (λb=>some (D.bl b)) (by decide +kernel)
  have e_take:oEq (.str (Str.ofString "lay")) (.str (Str.ofString "take"))=some (.bl false):=by rw [eqS ziA.ok zeU.ok]; exact congrArg (λb=>some (D.bl b)) (by decide +kernel)
  have e_lay:oEq (.str (Str.ofString "lay")) (.str (Str.ofString "lay"))=some (.bl true):=by rw [eqS ziA.ok ziA.ok]; exact congrArg (λb=>some (D.bl b)) (by decide +kernel)
  have e_both:oEq (.str (Str.ofString "lay")) (.str (Str.ofString "both"))=some (.bl false):=by rw [eqS ziA.ok zeV.ok]; exact congrArg (λb=>some (D.bl b)) (by decide +kernel)
  have e_most:oEq (.str (Str.ofString "lay")) (.str (Str.ofString "most"))=some (.bl false):=by rw [eqS ziA.ok zeW.ok]; exact congrArg (λb=>some (D.bl b)) (by decide +kernel)
  generalize D.lst ((Ru.lay r ts).ws.map D.str)=X at *;generalize (Ru.lay r ts).I=I at *;simp [zau,zbY,zby,zb7,i0,i1,f1,t1,es,e_give,e_take,e_lay,sl,fs,z2,-oIx,-oSl,-zdu,-oEq]
 | both p q=>
  obtain ⟨gp,gq,_⟩:=h;have sl:oSl (.lst ((Ru.both p q).ws.map D.str)) (some 1) none=some (.li [.str p,.str q]):=rfl;have i0:oIx (.lst ((Ru.both p q).ws.map D.str)) (.int 0)=some (.str (Str.ofString "both")):=ixS (k:=0) rfl;have f1:zdu [0] "one" (Ru.both p q).I=some (.str p):=rfl;have f2:zdu [0] "other" (Ru.both p q).I=some (.str q):=rfl;have t1:zeQ tab [(Ru.both p q).I,.cls 0]=some (.sh (.bl true)):=rfl
  have es:=zno gp.ok gq.ok;have e_give:oEq (.str (Str.ofString "both")) (.str (Str.ofString "give"))=some (.bl false):=by rw [eqS zeV.ok zef.ok]; exact congrArg (λb=>some (D.bl b)) (by decide +kernel)
  have e_take:oEq (.str (Str.ofString "both")) (.str (Str.ofString "take"))=some (.bl false):=by rw [eqS zeV.ok zeU.ok]; exact congrArg (λb=>some (D.bl b)) (by decide +kernel)
  have e_lay:oEq (.str (Str.ofString "both")) (.str (Str.ofString "lay"))=some (.bl false):=by rw [eqS zeV.ok ziA.ok]; exact congrArg (λb=>some (D.bl b)) (by decide +kernel)
  have e_both:oEq (.str (Str.ofString "both")) (.str (Str.ofString "both"))=some (.bl true):=by rw [eqS zeV.ok zeV.ok]; exact congrArg (λb=>some (D.bl b)) (by decide +kernel)
  have e_most:oEq (.str (Str.ofString "both")) (.str (Str.ofString "most"))=some (.bl false):=by rw [eqS zeV.ok zeW.ok]; exact congrArg (λb=>some (D.bl b)) (by decide +kernel)
  generalize D.lst ((Ru.both p q).ws.map D.str)=X at *;generalize (Ru.both p q).I=I at *;simp [zau,zbY,zby,zb7,i0,f1,f2,t1,es,e_give,e_take,e_lay,e_both,sl,z2,-oIx,-oSl,-zdu,-oEq]
 | most n r=>
  obtain ⟨n1,n4,gr⟩:=h;have i0:oIx (.lst ((Ru.most n r).ws.map D.str)) (.int 0)=some (.str (Str.ofString "most")):=ixS (k:=0) rfl;have i1:oIx (.lst ((Ru.most n r).ws.map D.str)) (.int 1)=some (.str (zmn n)):=ixS (k:=1) rfl;have i2:oIx (.lst ((Ru.most n r).ws.map D.str)) (.int 2)=some (.str r):=ixS (k:=2) rfl;have f1:zdu [5] "most" (Ru.most n r).I=some (.int n):=rfl;have f2:zdu [1,2,3,4,5,6,7] "role" (Ru.most n r).I=some (.str r):=rfl
  have t1:zeQ tab [(Ru.most n r).I,.cls 5]=some (.sh (.bl true)):=rfl;have t2:zeQ tab [.int n,.ty "bool"]=some (.sh (.bl false)):=rfl;have fi:zkP [.str (zmn n)]=some (.sh (.int n)):=by
   have:n=1\/n=2\/n=3\/n=4:=by omega
   rcases this with rfl | rfl | rfl | rfl
   ·have:=zks (zmn 1) (by decide +kernel); simp [this.1,this.2.1]; decide +kernel
   ·have:=zks (zmn 2) (by decide +kernel); simp [this.1,this.2.1]; decide +kernel
   ·have:=zks (zmn 3) (by decide +kernel); simp [this.1,this.2.1]; decide +kernel
   ·have:=zks (zmn 4) (by decide +kernel); simp [this.1,this.2.1]; decide +kernel
  have es:oEq (.lst [.int n,.str r]) (.lst [.int n,.str r])=some (.bl true):=by
   refine znR (p:=.list [.int n,.str r]) ?_;have:SeqAt.shaped (.list [.int n,.str r])=true:=zdg (by simp [PyData.canLayAll0,PyData.canLay0,gr.ok]) (by simp [PyData.depthAll,PyData.depth]);simp [shp,D.dat,D.dats,this]
  have e_give:oEq (.str (Str.ofString "most")) (.str (Str.ofString "give"))=some (.bl false):=by rw [eqS zeW.ok zef.ok]; exact congrArg (λb=>some (D.bl b)) (by decide +kernel)
  have e_take:oEq (.str (Str.ofString "most")) (.str (Str.ofString "take"))=some (.bl false):=by rw [eqS zeW.ok zeU.ok]; exact congrArg (λb=>some (D.bl b)) (by decide +kernel)
  have e_lay:oEq (.str (Str.ofString "most")) (.str (Str.ofString "lay"))=some (.bl false):=by rw [eqS zeW.ok ziA.ok]; exact congrArg (λb=>some (D.bl b)) (by decide +kernel)
  have e_both:oEq (.str (Str.ofString "most")) (.str (Str.ofString "both"))=some (.bl false):=by rw [eqS zeW.ok zeV.ok]; exact congrArg (λb=>some (D.bl b)) (by decide +kernel)
  have e_most:oEq (.str (Str.ofString "most")) (.str (Str.ofString "most"))=some (.bl true):=by rw [eqS zeW.ok zeW.ok]; exact congrArg (λb=>some (D.bl b)) (by decide +kernel)
  generalize D.lst ((Ru.most n r).ws.map D.str)=X at *;generalize (Ru.most n r).I=I at *;simp [zau,zbY,zby,zb7,i0,i1,i2,f1,f2,t1,t2,fi,es,e_give,e_take,e_lay,e_both,e_most,z2,-oIx,-oSl,-zdu,-oEq,-zkP]
 | last r=>
  have gr:Good r:=h;have i0:oIx (.lst ((Ru.last r).ws.map D.str)) (.int 0)=some (.str (Str.ofString "last")):=ixS (k:=0) rfl;have i1:oIx (.lst ((Ru.last r).ws.map D.str)) (.int 1)=some (.str r):=ixS (k:=1) rfl;have f1:zdu [1,2,3,4,5,6,7] "role" (Ru.last r).I=some (.str r):=rfl;have t1:zeQ tab [(Ru.last r).I,.cls 3]=some (.sh (.bl true)):=rfl;have es:=zqV gr.ok;have e_give:oEq (.str (Str.ofString "last")) (.str (Str.ofString "give"))=some (.bl false):=by rw [eqS zkr.ok zef.ok]; exact congrArg (λb=>some (D.bl b)) (by decide +kernel)
  have e_take:oEq (.str (Str.ofString "last")) (.str (Str.ofString "take"))=some (.bl false):=by rw [eqS zkr.ok zeU.ok]; exact congrArg (λb=>some (D.bl b)) (by decide +kernel)
  have e_lay:oEq (.str (Str.ofString "last")) (.str (Str.ofString "lay"))=some (.bl false):=by rw [eqS zkr.ok ziA.ok]; exact congrArg (λb=>some (D.bl b)) (by decide +kernel)
  have e_both:oEq (.str (Str.ofString "last")) (.str (Str.ofString "both"))=some (.bl false):=by rw [eqS zkr.ok zeV.ok]; exact congrArg (λb=>some (D.bl b)) (by decide +kernel)
  have e_most:oEq (.str (Str.ofString "last")) (.str (Str.ofString "most"))=some (.bl false):=by rw [eqS zkr.ok zeW.ok]; exact congrArg (λb=>some (D.bl b)) (by decide +kernel)
  generalize D.lst ((Ru.last r).ws.map D.str)=X at *;generalize (Ru.last r).I=I at *;simp [zau,zbY,zby,zb7,i0,i1,f1,t1,es,e_give,e_take,e_lay,e_both,e_most,z2,-oIx,-oSl,-zdu,-oEq]
abbrev okU (z:Str):Prop:=z.length<=20/\Low z
theorem okU.w {z:Str} (h:okU z):okW z:=⟨by have:=h.1; omega,h.2⟩
def zdt:List Str:=["has","not","by","to","and","give","take","lay","from","if","both","most","last"]
theorem zqW:∀ z∈zdt,z.length<=6/\∀ c∈z.cps.toList,c < 128:=by decide +kernel
def ziq (i:Nat):Nat:=zcA.getD i 0
theorem znT {i:Nat} (h:i < 26):zcA[i]? = some (ziq i):=by
 have hl:i < zcA.length:=h;rw [List.getElem?_eq_getElem hl];unfold ziq;rw [List.getD_eq_getElem?_getD,List.getElem?_eq_getElem hl];rfl
theorem zqX {i:Nat} (h:i < 26):oIx (.str "abcdefghijklmnopqrstuvwxyz") (.int i)=some (.str ⟨#[ziq i]⟩):=by
 have hz:(Str.ofString "abcdefghijklmnopqrstuvwxyz").length<=sizeLine:=by rw [zmS,zaI]; omega
 have:=atN (znT h);simp [oIx,hz,zg3,this]
theorem zmj (cs:List Nat) (hc:∀ c∈cs,c∈zcA) (hl:cs.length<=100):∃ t:Str,zcL (.str "") [.lst ((cs.map λc=>(⟨#[c]⟩:Str)).map D.str)]=some (.sh (.str t))/\t.length=cs.length/\∀ c∈t.cps.toList,c∈zcA:=by
 have ej:(Txt.join "" (cs.map λc=>(⟨#[c]⟩:Str))).cps.toList=cs:=by
  rw [zsD]
  induction cs with
  | nil=>rfl
  | cons c cs ih=>
   have:=ih (λx hx=>hc x (by simp [hx])) (by simp at hl; omega);simp only [List.map_cons,List.flatMap_cons,this];rfl
 refine ⟨Txt.join "" (cs.map λc=>(⟨#[c]⟩:Str)),?_,?_,?_⟩
 ·have e0:(Str.ofString "").length=0:=by decide +kernel
  have hsum:((cs.map λc=>(⟨#[c]⟩:Str)).map (·.length)).sum=cs.length:=by
   clear ej hc hl
   induction cs with
   | nil=>rfl
   | cons c cs ih=>
    rw [List.map_cons,List.map_cons,List.sum_cons,ih];show 1+cs.length=_;simp; omega
  have h1:((cs.map λc=>(⟨#[c]⟩:Str)).map (·.length)).sum+(cs.map λc=>(⟨#[c]⟩:Str)).length*(Str.ofString "").length<=16777216:=by
   rw [hsum,e0]; omega
  simp only [zcL,zic,Option.bind_some];rw [if_pos h1]
 ·show (Txt.join "" (cs.map λc=>(⟨#[c]⟩:Str))).cps.size=_;rw [<- Array.length_toList,ej]
 ·rw [ej]; exact hc
theorem zid (n k:Nat) (h:0 < k):zcf (.int n) (.int k)=some (.int (n%k:Nat)):=by
 have p:(0:Int) < (k:Int):=by omega
 simp only [zcf,fI,if_pos p]; rfl
theorem zqY (n k:Nat) (h:0 < k) (h':k < 1000000):zcV (.int n) (.int k)=some (.int (n / k:Nat)):=by
 have p:zpF (k:Int)=true:=zpG (by omega) (by omega);simp only [zcV,fI,p,if_true]; rfl
theorem eqN (a b:Nat):oEq (.int a) (.int b)=some (.bl (decide (a=b))):=by
 rw [zsM]; congr 2; rw [Bool.eq_iff_iff]; simp; omega
theorem zD7 {f:D->List D->Option SV} {a b:FSt->Option D} {S:FSt} {x y:D} {z:SV} (ha:a S=some x) (hb:b S=some y) (h:f x [y]=some z):zaW (mBM f a (zab b zaj)) S=.rt z:=by
 simp only [zaW,mBM,zab,zaj,ha,hb,Option.bind_some,h]
theorem zt5 (n:Nat):∃ z:Str,z.length<=6/\Low z/\za5 [.int n]=some (.sh (.str z)):=by
 have h13:(13:Nat)<=sizeLine:=by rw [zaI]; omega
 have s1:∀ r:Fl,(za2 (mIf (zae (m2 oEq (m2 zcf (mV 0) (mC (.int 3))) (mC (.int 0)))) (zaW (mSh (m2 oIx (mV 1) (m2 zcf (m2 zcV (mV 0) (mC (.int 3))) (mC (.int 13)))))) zaK) (za2 (zcU 2 [] (mSh (mC (.str (Str.ofString "abcdefghijklmnopqrstuvwxyz"))))) (zaW (mBM zcL (mC (.str (Str.ofString ""))) (zab (mFr (ze1 1 [0,2] (mR1 (zab (mFr (m2 za9 (mC (.int 1)) (m2 zcf (m2 zcV (mV 0) (mC (.int 3))) (mC (.int 6))))) zaj)) (gN 0) zf5 (m2 oIx (mV 2) (m2 zcf (m2 zcV (mV 1) (mFr (m2 za9 (mFr (m2 zrs (mC (.int 11)) (mV 0))) (mC (.int 3))))) (mC (.int 26)))))) zaj))))) [sI' n,some (.li (zdt.map D.str)),none]=r->zdb [sI' n,none,none]=r:=λr h=>by
  unfold zdb;exact zat (S1:=[sI' n,some (.li (zdt.map D.str)),none]) (by simp [zdt,h13,D.plain]) h
 have m3:=zid n 3 (by omega);have d3:=zqY n 3 (by omega) (by omega);have e3:=eqN (n%3) 0;have m13:=zid (n / 3) 13 (by omega);have m6:=zid (n / 3) 6 (by omega)
 by_cases h:n%3=0
 ·have k13:n / 3%13 < zdt.length:=Nat.mod_lt _ (by decide);have hm:zdt[n / 3%13]∈zdt:=List.getElem_mem k13;refine ⟨zdt[n / 3%13],(zqW _ hm).1,(zqW _ hm).2,za1 rfl (s1 _ (zbd ?_))⟩;have i:oIx (.lst (zdt.map D.str)) (.int (n / 3%13:Nat))=some (.str zdt[n / 3%13]):=ixS (by rw [List.getElem?_eq_getElem k13]);rw [decide_eq_true h] at e3;generalize zdt.map D.str=W at *;have m3':zcf (.int n) (.int 3)=some (.int (n%3:Nat)):=m3
  have d3':zcV (.int n) (.int 3)=some (.int (n / 3:Nat)):=d3;have m13':zcf (.int (n / 3:Nat)) (.int 13)=some (.int (n / 3%13:Nat)):=m13;have e3':oEq (.int (n%3:Nat)) (.int 0)=some (.bl true):=e3;generalize ((n%3:Nat):Int)=a1 at *;generalize ((n / 3%13:Nat):Int)=a2 at *;generalize ((n / 3:Nat):Int)=a3 at *;simp [m3',d3',m13',e3',i,-oIx,-zcf,-zcV]
 ·obtain ⟨t,hj,hl,hc⟩:=zmj ((List.range (1+n / 3%6)).map λk=>ziq (n / (11*k+3)%26)) (λc hc=>by
   obtain ⟨k,_,rfl⟩:=List.mem_map.mp hc;exact List.mem_of_getElem? (znT (Nat.mod_lt _ (by omega)))) (by simp; omega)
  have hlt:t.length<=6:=by rw [hl]; simp; omega
  refine ⟨t,hlt,λc h=>ziS c (hc c h),za1 rfl (s1 _ (zat (S1:=[sI' n,some (.li (zdt.map D.str)),none]) ?_ ?_))⟩
  ·rw [decide_eq_false h] at e3;have m3':zcf (.int n) (.int 3)=some (.int (n%3:Nat)):=m3;have e3':oEq (.int (n%3:Nat)) (.int 0)=some (.bl false):=e3;generalize ((n%3:Nat):Int)=a1 at m3' e3';simp [m3',e3',-zcf]
  refine zat (S1:=[sI' n,some (.li (zdt.map D.str)),some (.sh (.str (Str.ofString "abcdefghijklmnopqrstuvwxyz")))]) (by simp [D.plain]) ?_;have hc1:=zkS nD [sI' n,some (.sh (.str "abcdefghijklmnopqrstuvwxyz"))] (m2 oIx (mV 2) (m2 zcf (m2 zcV (mV 1) (mFr (m2 za9 (mFr (m2 zrs (mC (.int 11)) (mV 0))) (mC (.int 3))))) (mC (.int 26)))) (λk=>.str ⟨#[ziq (n / (11*k+3)%26)]⟩) (List.range (1+n / 3%6)) (λk hk=>by
   have hk':=List.mem_range.mp hk;have e:(n:Int) / (11*(k:Int)+3)%26=((n / (11*k+3)%26:Nat):Int):=by simp
   have w:=zqX (i:=n / (11*k+3)%26) (Nat.mod_lt _ (by omega));have cd:zpF (11*(k:Int)+3)=true:=zpG (by omega) (by omega);simp only [m2,mV,mFr,mC,List.getElem?_cons_succ,List.getElem?_cons_zero,Option.join_some,Option.map_some,SV.fr,Option.bind_some,zcV,fI,cd,if_true,zrs,ztm (show (-18446744073709551616:Int) < 11 by omega) (by omega),za9,zcf,show (0:Int) < 26 by omega,e,w]) none
  simp only [oD',Option.map_none] at hc1;have hr:mR1 (zab (mFr (m2 za9 (mC (.int 1)) (m2 zcf (m2 zcV (mV 0) (mC (.int 3))) (mC (.int 6))))) zaj) [sI' n,some (.li (zdt.map D.str)),some (.sh (.str (Str.ofString "abcdefghijklmnopqrstuvwxyz")))]=some ((List.range (1+n / 3%6)).map nD):=by
   refine zqg ?_ (by omega);have d3':zcV (.int n) (.int 3)=some (.int (n / 3:Nat)):=d3;have m6':zcf (.int (n / 3:Nat)) (.int 6)=some (.int (n / 3%6:Nat)):=m6;have e:((1+n / 3%6:Nat):Int)=1+((n / 3%6:Nat):Int):=by omega
   rw [e];generalize ((n / 3%6:Nat):Int)=v at m6' ⊢;generalize ((n / 3:Nat):Int)=u at m6' d3';simp [d3',m6',-zcf,-zcV]
  have B:=zbX (zck (own:=1) (fi:=[0,2]) (mg:=gN 0) (S:=[sI' n,some (.li (zdt.map D.str)),some (.sh (.str (Str.ofString "abcdefghijklmnopqrstuvwxyz")))]) hr (by simp; rw [zaI]; omega) hc1);have hj':zcL (.str (Str.ofString "")) [.lst ((List.range (1+n / 3%6)).map λk=>D.str ⟨#[ziq (n / (11*k+3)%26)]⟩)]=some (.sh (.str t)):=by
   have e:((List.range (1+n / 3%6)).map λk=>D.str ⟨#[ziq (n / (11*k+3)%26)]⟩)=(((List.range (1+n / 3%6)).map λk=>ziq (n / (11*k+3)%26)).map λc=>(⟨#[c]⟩:Str)).map D.str:=by simp [List.map_map,Function.comp_def]
   rw [e]; exact hj
  simp only [SV.fr] at B;exact zD7 rfl B hj'
theorem zAb {ws:List Nat} {k:Nat} (h:k < ws.length):oIx (.lst (ws.map nD)) (.int k)=some (.int (ws[k]:Nat)):=by
 have:=atN (xs:=ws.map nD) (k:=k) (x:=nD ws[k]) (by simp [h])
 simpa using this
theorem zDp {ws:List Str} {k:Nat} (h:k < ws.length):oIx (.lst (ws.map D.str)) (.int k)=some (.str ws[k]):=ixS (by rw [List.getElem?_eq_getElem h])
theorem zD8 (n:Nat):∃ z:Str,okU z/\zkH [.int (n%6:Nat)]=some (.sh (.str z)):=by
 have:n%6=0\/n%6=1\/n%6=2\/n%6=3\/n%6=4\/n%6=5:=by omega
 rcases this with e | e | e | e | e | e <;> rw [e]
 ·exact ⟨Str.ofString "0",by decide +kernel,rfl⟩
 ·exact ⟨Str.ofString "1",by decide +kernel,rfl⟩
 ·exact ⟨Str.ofString "2",by decide +kernel,rfl⟩
 ·exact ⟨Str.ofString "3",by decide +kernel,rfl⟩
 ·exact ⟨Str.ofString "4",by decide +kernel,rfl⟩
 ·exact ⟨Str.ofString "5",by decide +kernel,rfl⟩
theorem zAc (ns:List Nat) (hn:ns.length=23) (k:Nat) (hk:k < 10) (p:Str) (hp:okU p) (xs:List D) (hx:xs.length < 1000) (x4:Option D):∃ w:Str,okU w/\
  zbx [some (.sh (.lst (ns.map nD))),some (.li xs),sI' k,some (.sh (.str p)),oD' x4]=.nx [some (.sh (.lst (ns.map nD))),some (.li (xs++[.str w])),sI' k,some (.sh (.str p)),some (.sh (.str w))]:=by
 have hxz:xs.length < sizeLine:=by rw [zaI]; omega
 have z2:(2:Nat)<=sizeLine:=by rw [zaI]; omega
 have i:oIx (.lst (ns.map nD)) (.int (1+(k:Int)))=some (.int (ns[k+1]'(by omega):Nat)):=by
  have:=zAb (ws:=ns) (k:=k+1) (by omega);rw [show (1+(k:Int))=((k+1:Nat):Int) by omega];exact this
 generalize ns[k+1]'(by omega)=n at i;generalize D.lst (ns.map nD)=N at *;have e1:=eqL hp.w k_N;have e2:=eqL hp.w k_T;have e3:=eqL hp.w k_D;have l4:lkO (oD' x4)=false:=by cases x4 <;> rfl
 unfold zbx zha
 by_cases c1:p=Str.ofString "N"
 ·obtain ⟨w,w1,w2,hw⟩:=zt5 n;refine ⟨w,⟨by omega,w2⟩,?_⟩;rw [decide_eq_true c1] at e1;simp [e1,i,hw,hxz,l4,D.plain,-oIx]
 rw [decide_eq_false c1] at e1
 by_cases c2:p=Str.ofString "T"
 ·have m2':zcf (.int n) (.int 2)=some (.int (n%2:Nat)):=zid n 2 (by omega);rw [decide_eq_true c2] at e2;have hb:∃ w,okU w/\oIx (.lst [.str (Str.ofString "has"),.str (Str.ofString "not")]) (.int (n%2:Nat))=some (.str w):=by
   have:n%2=0\/n%2=1:=by omega
   rcases this with e | e <;> rw [e]
   ·exact ⟨Str.ofString "has",⟨by decide +kernel,zwb⟩,rfl⟩
   ·exact ⟨Str.ofString "not",⟨by decide +kernel,zwc⟩,rfl⟩
  obtain ⟨w,hw,j⟩:=hb;refine ⟨w,hw,?_⟩;generalize ((n%2:Nat):Int)=v at *;simp [e1,e2,i,m2',j,hxz,z2,l4,D.plain,-oIx,-zcf]
 rw [decide_eq_false c2] at e2
 by_cases c3:p=Str.ofString "D"
 ·obtain ⟨w,hw,hs⟩:=zD8 n;refine ⟨w,hw,?_⟩;rw [decide_eq_true c3] at e3;have m6:zcf (.int n) (.int 6)=some (.int (n%6:Nat)):=zid n 6 (by omega);generalize ((n%6:Nat):Int)=v at *;simp [e1,e2,e3,i,m6,hs,hxz,l4,D.plain,-oIx,-zcf,-zkH]
 rw [decide_eq_false c3] at e3;refine ⟨p,hp,?_⟩;simp [e1,e2,e3,hxz,l4,D.plain,-oIx]
theorem zt6 (ns:List Nat) (hn:ns.length=23):∀ (ps:List Str) (k:Nat) (ws:List Str) (x2 x3 x4:Option D),k+ps.length<=10->ws.length=k->(∀ p∈ps,okU p)->(∀ w∈ws,okU w)->∃ (vs:List Str) (y2 y3 y4:Option D),vs.length=k+ps.length/\(∀ w∈vs,okU w)/\
  zdG (gSq 2 (gCs (gN 2) (gCs (gN 3) gNs))) zbx ((ps.zipIdx k).map λp=>D.tup [.int (p.2:Nat),.str p.1]) [some (.sh (.lst (ns.map nD))),some (.li (ws.map D.str)),oD' x2,oD' x3,oD' x4]=.nx [some (.sh (.lst (ns.map nD))),some (.li (vs.map D.str)),oD' y2,oD' y3,oD' y4]
 | [],k,ws,x2,x3,x4,_,hl,_,hw=>⟨ws,x2,x3,x4,by simp [hl],hw,rfl⟩
 | p :: ps,k,ws,x2,x3,x4,hk,hl,hp,hw=>by
  simp only [List.length_cons] at hk;obtain ⟨w,ow,st⟩:=zAc ns hn k (by omega) p (hp p (by simp)) (ws.map D.str) (by rw [List.length_map]; omega) x4;obtain ⟨vs,y2,y3,y4,a1,a2,ih⟩:=zt6 ns hn ps (k+1) (ws++[w]) (some (.int k)) (some (.str p)) (some (.str w)) (by omega) (by simp [hl]) (λq hq=>hp q (by simp [hq])) (λq hq=>by
   rcases List.mem_append.mp hq with h | h
   ·exact hw q h
   ·rw [List.mem_singleton.mp h]; exact ow)
  refine ⟨vs,y2,y3,y4,by simp only [List.length_cons]; omega,a2,?_⟩;have hg:gSq 2 (gCs (gN 2) (gCs (gN 3) gNs)) (D.tup [.int (k:Nat),.str p]) [some (.sh (.lst (ns.map nD))),some (.li (ws.map D.str)),oD' x2,oD' x3,oD' x4]=some [some (.sh (.lst (ns.map nD))),some (.li (ws.map D.str)),sI' k,some (.sh (.str p)),oD' x4]:=by cases x2 <;> cases x3 <;> simp
  rw [List.zipIdx_cons,List.map_cons,zdG,hg];simp only [st];rw [List.map_append] at ih;exact ih
theorem zwp:∀ f∈zbp,2<=f.length/\f.length<=10/\∀ p∈f,p.length<=20/\∀ c∈p.cps.toList,c < 128:=by decide +kernel
theorem zwq (ns:List Nat) (hn:ns.length=23):∃ vs:List Str,2<=vs.length/\vs.length<=10/\(∀ w∈vs,okU w)/\za3 [.lst (ns.map nD)]=some (.li (vs.map D.str)):=by
 have i0:oIx (.lst (ns.map nD)) (.int 0)=some (.int (ns[0]'(by omega):Nat)):=zAb (k:=0) (by omega);generalize hN:ns[0]'(by omega)=n at i0;have m12:zcf (.int n) (.int 12)=some (.int (n%12:Nat)):=zid n 12 (by omega);have k12:n%12 < zbp.length:=Nat.mod_lt _ (by decide);have hf:zbp[n%12]∈zbp:=List.getElem_mem k12;obtain ⟨u1,u2,u3⟩:=zwp _ hf;have ix:oIx (.lst (zbp.map fmD)) (.int (n%12:Nat))=some (fmD zbp[n%12]):=by
  have:=atN (xs:=zbp.map fmD) (k:=n%12) (x:=fmD zbp[n%12]) (by simp [k12])
  simpa using this
 generalize zbp[n%12]=f at *;obtain ⟨vs,y2,y3,y4,a1,a2,lo⟩:=zt6 ns hn f 0 [] none none none (by omega) rfl (λp hp=>⟨(u3 p hp).1,(u3 p hp).2⟩) (by simp);refine ⟨vs,by omega,by omega,a2,?_⟩;simp only [oD',Option.map_none,List.map_nil] at lo;have ff:=zqG;generalize D.lst (ns.map nD)=N at *;generalize n%12=v at *;have pl:D.plains [fmD f]=true\/True:=.inr trivial;have hi:zsb [0] (zab (m2 oIx (mFr (m1 zaN zaj)) (m2 zcf (m2 oIx (mV 0) (mC (.int 0))) (mC (.int 12)))) zaj) [some (.sh N),some (.li []),none,none,none]=some ((f.zipIdx 0).map λp=>D.tup [.int (p.2:Nat),.str p.1]):=by
  have:(((f.map D.str).zipIdx).map λp=>D.tup [.int (p.2:Nat),p.1])=(f.zipIdx 0).map λp=>D.tup [.int (p.2:Nat),.str p.1]:=by
   rw [List.zipIdx_map,List.map_map]; rfl
  rw [<- this];generalize zbp.map fmD=FF at *;simp [ff,ix,m12,i0,fmD,zpv,-oIx,-zcf]
 refine za1 rfl ?_;show zdj [some (.sh N),none,none,none,none]=_;unfold zdj ziT;refine zat (S1:=[some (.sh N),some (.li []),none,none,none]) (by simp) ?_;refine zat (znF hi lo) ?_;simp
def zle:List Str:=["A","1"," ","_","-","z"]
theorem zwr:∀ z∈zle,z.length<=1/\∀ c∈z.cps.toList,c < 128:=by decide +kernel
theorem zws {z:Str} {a:Nat} (h:okU z) (ha:a<=z.length):((Txt.slice z none (some (a:Int))).length<=z.length/\Low (Txt.slice z none (some (a:Int))))/\(Txt.slice z (some (a:Int)) none).length<=z.length/\Low (Txt.slice z (some (a:Int)) none):=by
 refine ⟨⟨Txt.slice_le z _ _,λc hc=>?_⟩,Txt.slice_le z _ _,λc hc=>?_⟩
 ·rw [zpm ha] at hc; exact h.2 c (List.mem_of_mem_take hc)
 ·rw [zpn ha] at hc; exact h.2 c (List.mem_of_mem_drop hc)
abbrev okJ (z:Str):Prop:=z.length<=60/\Low z
theorem okU.j {z:Str} (h:okU z):okJ z:=⟨by have:=h.1; omega,h.2⟩
theorem zAd (w:Str) (uw:okU w) (n:Nat):∃ z:Str,okJ z/\zaS [.str w,.int n]=some (.sh (.str z)):=by
 have m8:zcf (.int n) (.int 8)=some (.int (n%8:Nat)):=zid n 8 (by omega);have e8:oEq (.int (n%8:Nat)) (.int 0)=some (.bl (decide (n%8=0))):=eqN (n%8) 0;have hw:=uw.1;have lw:=uw.2;have wz:w.length<=sizeLine:=by rw [zaI]; omega
 by_cases h:n%8=0
 ·have l7:(Str.ofString "abcdefg").length=7:=by decide +kernel
  refine ⟨w++Str.ofString "abcdefg",⟨by rw [zak,l7]; omega,lw.add (by decide +kernel)⟩,za1 rfl ?_⟩;rw [decide_eq_true h] at e8;have a:=ziB (a:=w) (b:=Str.ofString "abcdefg") (by rw [l7]; omega);show zbe [some (.sh (.str w)),sI' n,none,none]=_;unfold zbe;refine zbd ?_;generalize ((n%8:Nat):Int)=v at *;simp [m8,e8,a,-zcf,-za9]
 ·have k6:n / 8%6 < zle.length:=Nat.mod_lt _ (by decide);have hm:zle[n / 8%6]∈zle:=List.getElem_mem k6;have is:oIx (.lst (zle.map D.str)) (.int (n / 8%6:Nat))=some (.str zle[n / 8%6]):=zDp k6;obtain ⟨s1,s2⟩:=zwr _ hm;generalize zle[n / 8%6]=s at *;have d8:zcV (.int n) (.int 8)=some (.int (n / 8:Nat)):=zqY n 8 (by omega) (by omega);have m6:zcf (.int (n / 8:Nat)) (.int 6)=some (.int (n / 8%6:Nat)):=zid _ 6 (by omega)
  have d48:zcV (.int n) (.int 48)=some (.int (n / 48:Nat)):=zqY n 48 (by omega) (by omega);have mL:zcf (.int (n / 48:Nat)) (.int ((w.length:Int)+1))=some (.int (n / 48%(w.length+1):Nat)):=zid _ (w.length+1) (by omega);have ha:n / 48%(w.length+1)<=w.length:=by have:=Nat.mod_lt (n / 48) (show 0 < w.length+1 by omega); omega
  generalize n / 48%(w.length+1)=a at mL ha;have z6:(6:Nat)<=sizeLine:=by rw [zaI]; omega
  obtain ⟨⟨p1,p2⟩,q1,q2⟩:=zws uw ha;have a1:=ziB (a:=Txt.slice w none (some (a:Int))) (b:=s) (by omega);have a2:=ziB (a:=Txt.slice w none (some (a:Int))++s) (b:=Txt.slice w (some (a:Int)) none) (by rw [zak]; omega);refine ⟨Txt.slice w none (some (a:Int))++s++Txt.slice w (some (a:Int)) none,⟨by rw [zak,zak]; omega,(p2.add s2).add q2⟩,za1 rfl ?_⟩;rw [decide_eq_false h] at e8;show zbe [some (.sh (.str w)),sI' n,none,none]=_
  unfold zbe;refine zat (S1:=[some (.sh (.str w)),sI' n,none,none]) ?_ ?_
  ·generalize ((n%8:Nat):Int)=v at *;simp [m8,e8,-zcf]
  refine zat (S1:=[some (.sh (.str w)),sI' n,some (.sh (.str s)),none]) ?_ ?_
  ·have:mFr (zda (zab (mC (.str (Str.ofString "A"))) (zab (mC (.str (Str.ofString "1"))) (zab (mC (.str (Str.ofString " "))) (zab (mC (.str (Str.ofString "_"))) (zab (mC (.str (Str.ofString "-"))) (zab (mC (.str (Str.ofString "z"))) zaj))))))) [some (.sh (.str w)),sI' n,none,none]=some (.lst (zle.map D.str)):=by simp [z6,zle]
   refine zqh (zqi ((zaq this ?_).trans is)) (by simp [D.plain]);generalize ((n / 8%6:Nat):Int)=v at *;generalize ((n / 8:Nat):Int)=u at *;simp [d8,m6,-zcf,-zcV]
  refine zat (S1:=[some (.sh (.str w)),sI' n,some (.sh (.str s)),sI' a]) ?_ ?_
  ·generalize ((n / 48:Nat):Int)=u at *;simp [d48,wz,mL,D.plain,-zcf,-zcV]
  ·have sA:oSl (.str w) none (some (a:Int))=some (.sh (.str (Txt.slice w none (some (a:Int))))):=by simp [wz]
   have sB:oSl (.str w) (some (a:Int)) none=some (.sh (.str (Txt.slice w (some (a:Int)) none))):=by simp [wz]
   simp [sA,sB,a1,a2,-oSl,-za9]
theorem zhs:(Str.ofString " ").length=1:=by decide +kernel
theorem zsV (vs:List Str) (h:∀ w∈vs,okJ w):(vs.map (·.length)).sum<=60*vs.length:=by
 induction vs with
 | nil=>simp
 | cons v vs ih=>
  have:=ih λw hw=>h w (by simp [hw]);have:=(h v (by simp)).1;simp only [List.map_cons,List.sum_cons,List.length_cons];omega
theorem jnB (vs:List Str) (hl:vs.length<=40) (h:∀ w∈vs,okJ w):zcL (.str (Str.ofString " ")) [.lst (vs.map D.str)]=some (.sh (.str (Str.join (Str.ofString " ") vs)))/\(Str.join (Str.ofString " ") vs).length<=3000/\Low (Str.join (Str.ofString " ") vs):=by
 have s:=zsV vs h;refine ⟨?_,?_,znM (by decide +kernel) vs λw hw=>(h w hw).2⟩
 ·have h1:(vs.map (·.length)).sum+vs.length*(Str.ofString " ").length<=16777216:=by rw [zhs]; omega
  simp only [zcL,zic,Option.bind_some];rw [if_pos h1];show some (SV.sh (.str (Builtin.Str.glued (Str.ofString " ") vs)))=_;rw [StrLaws.glued_eq_join]
 ·have:=My.join_len (Str.ofString " ") vs;rw [zhs] at this;omega
theorem mJn {m:FSt->Option D} {S:FSt} (vs:List Str) (hm:m S=some (.lst (vs.map D.str))) (hl:vs.length<=40) (h:∀ w∈vs,okJ w):∃ z,okZ z/\zaW (mBM zcL (mC (.str (Str.ofString " "))) (zab m zaj)) S=.rt (.sh (.str z)):=by
 obtain ⟨j1,j2,j3⟩:=jnB vs hl h;refine ⟨_,⟨by omega,j3⟩,?_⟩;unfold zaW mBM zab;rw [hm];simp only [mC,zaj,Option.bind_some,j1]
theorem mAd {m n:FSt->Option D} {S:FSt} {xs ys:List Str} (hm:m S=some (.lst (xs.map D.str))) (hn:n S=some (.lst (ys.map D.str))) (hx:xs.length<=100) (hy:ys.length<=100):mFr (m2 za9 m n) S=some (.lst ((xs++ys).map D.str)):=by
 have e:m2 za9 m n S=some (.li ((xs++ys).map D.str)):=by
  rw [zaq hm hn];have hl:(xs.map D.str).length+(ys.map D.str).length<=sizeLine:=by simp; rw [zaI]; omega
  simp only [za9,if_pos hl,List.map_append]
 exact zbX e
theorem zCo {m:FSt->Option D} {S:FSt} {w:Str} (hm:m S=some (.str w)):mFr (zda (zab m zaj)) S=some (.lst ([w].map D.str)):=by
 have z1:(1:Nat)<=sizeLine:=by rw [zaI]; omega
 simp [hm,z1]
structure Odd (d:D):Prop where
 s:zeQ tab [d,.ty "str"]=some (.sh (.bl false))
 b:∃ b,zeQ tab [d,.ty "bool"]=some (.sh (.bl b))
 n:ziw (.lst [.bl true,d]) (.lst [.bl true,d])=some (.bl false)
def zjV (d:D):Prop:=(∃ z,d=.str z/\okZ z)\/Odd d
theorem zkt {d:D} {q:PyData} (hd:d.dat=some q) (hl:PyData.canLay0 q=true) (hp:q.depth<=3):ziw (.lst [.bl true,d]) (.lst [.bl true,d])=some (.bl false):=by
 have hs:SeqAt.shaped (.list [.bool true,q])=true:=zdg (by simp [PyData.canLayAll0,PyData.canLay0,hl]) (by simp [PyData.depthAll,PyData.depth]; omega);have:=znS (d:=.lst [.bl true,d]) (p:=.list [.bool true,q]) (by simp [shp,D.dat,D.dats,hd,hs]);unfold ziw;rw [this]
theorem zwt:Odd .non:=⟨rfl,⟨false,rfl⟩,zkt (q:=.none) rfl rfl (by simp [PyData.depth])⟩
theorem zwu (n:Int):Odd (.int n):=⟨rfl,⟨false,rfl⟩,zkt (q:=.int n) rfl rfl (by simp [PyData.depth])⟩
theorem zAe (b:Bool):Odd (.bl b):=⟨rfl,⟨true,rfl⟩,zkt (q:=.bool b) rfl rfl (by simp [PyData.depth])⟩
theorem zwv {zs:List Str} (h:∀ z∈zs,Ok z):Odd (.tup (zs.map D.str)):=⟨rfl,⟨false,rfl⟩,zkt (q:=.tuple (zs.map PyData.str)) (by simp [D.dat,zop]) (by simp [PyData.canLay0,zAQ h]) (by simp [PyData.depth,zAR])⟩
theorem zww {zs:List Str} (h:∀ z∈zs,Ok z):Odd (.lst (zs.map D.str)):=⟨rfl,⟨false,rfl⟩,zkt (q:=.list (zs.map PyData.str)) (by simp [D.dat,zop]) (by simp [PyData.canLay0,zAQ h]) (by simp [PyData.depth,zAR])⟩
theorem zsW:Odd (.dK []):=⟨rfl,⟨false,rfl⟩,rfl⟩
theorem zwx {α β:Type} (f:α->β) (xs:List α) (lo hi:Option Int):zeX (xs.map f) lo hi=(zeX xs lo hi).map f:=by simp only [zeX,List.length_map,List.map_take,List.map_drop]
theorem zwy {α β:Type} (f:α->β) (xs ys:List α) (lo hi:Option Int):zd9 (xs.map f) lo hi (ys.map f)=(zd9 xs lo hi ys).map f:=by simp only [zd9,List.length_map,List.map_append,List.map_take,List.map_drop]
theorem zwz {α:Type} {xs:List α} {lo hi:Option Int} {x:α} (h:x∈zeX xs lo hi):x∈xs:=List.mem_of_mem_drop (List.mem_of_mem_take h)
theorem zsX (vs:List Str) (h2:2<=vs.length) (h10:vs.length<=10) (hu:∀ w∈vs,okU w) (ns:List Nat) (hn:ns.length=23):∃ d,zjV d/\zaV [.lst (vs.map D.str),.lst (ns.map nD)]=some (.sh d):=by
 have i20:oIx (.lst (ns.map nD)) (.int 20)=some (.int (ns[20]'(by omega):Nat)):=zAb (k:=20) (by omega);have i21:oIx (.lst (ns.map nD)) (.int 21)=some (.int (ns[21]'(by omega):Nat)):=zAb (k:=21) (by omega);have i22:oIx (.lst (ns.map nD)) (.int 22)=some (.int (ns[22]'(by omega):Nat)):=zAb (k:=22) (by omega);generalize ns[20]'(by omega)=n20 at i20;generalize ns[21]'(by omega)=n21 at i21;generalize ns[22]'(by omega)=n22 at i22
 have m20:zcf (.int n20) (.int 16)=some (.int (n20%16:Nat)):=zid n20 16 (by omega);have m21:zcf (.int n21) (.int vs.length)=some (.int (n21%vs.length:Nat)):=zid n21 _ (by omega);have ha:n21%vs.length < vs.length:=Nat.mod_lt _ (by omega);generalize n21%vs.length=a at m21 ha;generalize hy:n20%16=y at m20;have hj:∀ w∈vs,okJ w:=λw hw=>(hu w hw).j;have lV:zbK [.lst (vs.map D.str)]=some (.sh (.int vs.length)):=by simp
 have lL:zmC [.lst (vs.map D.str)]=some (.li (vs.map D.str)):=rfl;have pV:=zqe vs
 suffices q:∃ d,zjV d/\zcN [some (.sh (.lst (vs.map D.str))),some (.sh (.lst (ns.map nD))),none,none,none]=.rt (.sh d) by
  obtain ⟨d,h,e⟩:=q;exact ⟨d,h,za1 rfl e⟩
 generalize D.lst (ns.map nD)=N at *;unfold zcN zik;have e1:zcU 2 [1] (mSh (m2 zcf (m2 oIx (mV 1) (mC (.int 20))) (mC (.int 16)))) [some (.sh (.lst (vs.map D.str))),some (.sh N),none,none,none]=.nx [some (.sh (.lst (vs.map D.str))),some (.sh N),sI' y,none,none]:=by
  simp [i20,m20,D.plain,-oIx,-zcf]
 have e2:zcU 3 [0,1] (mSh (m2 zcf (m2 oIx (mV 1) (mC (.int 21))) (mFr (m1 zbK (zab (mV 0) zaj))))) [some (.sh (.lst (vs.map D.str))),some (.sh N),sI' y,none,none]=.nx [some (.sh (.lst (vs.map D.str))),some (.sh N),sI' y,sI' a,none]:=by
  generalize D.lst (vs.map D.str)=W at *;simp [i21,lV,m21,D.plain,-oIx,-zcf,-zbK]
 have e3:zcU 4 [0] (m1 zmC (zab (mV 0) zaj)) [some (.sh (.lst (vs.map D.str))),some (.sh N),sI' y,sI' a,none]=.nx [some (.sh (.lst (vs.map D.str))),some (.sh N),sI' y,sI' a,some (.li (vs.map D.str))]:=by
  simp [pV]
 generalize hS:[some (.sh (.lst (vs.map D.str))),some (.sh N),sI' y,sI' a,some (.li (vs.map D.str))]=S at *;have v1:mV 1 S=some N:=by rw [<- hS]; rfl
 have v2:mV 2 S=some (.int y):=by rw [<- hS]; rfl
 have v3:mV 3 S=some (.int a):=by rw [<- hS]; rfl
 have v4:mV 4 S=some (.lst (vs.map D.str)):=by rw [<- hS]; rfl
 have tI:∀ k:Nat,zae (m2 oEq (mV 2) (mC (.int k))) S=some (decide (y=k)):=λk=>tBl ((zaq v2 rfl).trans (eqN y k));have sA:mFr (mSl (mV 4) mNo (mAt (mV 3))) S=some (.lst ((vs.take a).map D.str)):=by
  have c:oSl (.lst (vs.map D.str)) none (some (a:Int))=some (.li ((vs.take a).map D.str)):=by
   show some (SV.li (zeX (vs.map D.str) none (some (a:Int))))=_;rw [zzo _ _ (by simp; omega),List.map_take]
  exact zbX (zkT v4 rfl (by unfold mAt; rw [v3]; rfl) c)
 have sC:mFr (mSl (mV 4) (mAt (mV 3)) mNo) S=some (.lst ((vs.drop a).map D.str)):=by
  have c:oSl (.lst (vs.map D.str)) (some (a:Int)) none=some (.li ((vs.drop a).map D.str)):=by
   show some (SV.li (zeX (vs.map D.str) (some (a:Int)) none))=_;rw [zii _ _ (by simp; omega),List.map_drop]
  exact zbX (zkT v4 (by unfold mAt; rw [v3]; rfl) rfl c)
 have vp:∀ k:Nat,mFr (m2 za9 (mV 3) (mC (.int k))) S=some (.int (a+k:Nat)):=λk=>by
  have:m2 za9 (mV 3) (mC (.int k)) S=some (.sh (.int (a+k:Nat))):=(zaq v3 rfl).trans (by simp);exact zbX this
 have sB:mFr (mSl (mV 4) (mAt (mFr (m2 za9 (mV 3) (mC (.int 1))))) mNo) S=some (.lst ((vs.drop (a+1)).map D.str)):=by
  have c:oSl (.lst (vs.map D.str)) (some ((a+1:Nat):Int)) none=some (.li ((vs.drop (a+1)).map D.str)):=by
   show some (SV.li (zeX (vs.map D.str) (some ((a+1:Nat):Int)) none))=_;rw [zii _ _ (by simp; omega),List.map_drop]
  exact zbX (zkT v4 (by unfold mAt; rw [show mFr (m2 za9 (mV 3) (mC (.int 1))) S=_ from vp 1]; rfl) rfl c)
 have sX:m2 oIx (mV 4) (mV 3) S=some (.str vs[a]):=(zaq v4 v3).trans (zDp ha);have tk:∀ w∈vs.take a,okJ w:=λw hw=>hj w (List.mem_of_mem_take hw);have dk:∀ k,∀ w∈vs.drop k,okJ w:=λk w hw=>hj w (List.mem_of_mem_drop hw);have lt:(vs.take a).length<=10:=by simp; omega
 have ld:∀ k,(vs.drop k).length<=10:=λk=>by simp; omega
 have v22:m2 oIx (mV 1) (mC (.int 22)) S=some (.int n22):=(zaq v1 rfl).trans i22;have app:∀ {xs ys:List Str},(∀ w∈xs,okJ w)->(∀ w∈ys,okJ w)->∀ w∈xs++ys,okJ w:=λh1 h2 w hw=>by
  rcases List.mem_append.mp hw with h | h
  ·exact h1 w h
  ·exact h2 w h
 have str:∀ {m:FSt->Fl},(∃ z,okZ z/\m S=.rt (.sh (.str z)))->∃ d,zjV d/\m S=.rt (.sh d):=λ⟨z,h,e⟩=>⟨.str z,.inl ⟨z,rfl,h⟩,e⟩
 have pick:∀ {m r:FSt->Fl} (k:Nat),(∃ d,zjV d/\m S=.rt (.sh d))->(∃ d,zjV d/\r S=.rt (.sh d))->∃ d,zjV d/\za2 (mIf (zae (m2 oEq (mV 2) (mC (.int k)))) m zaK) r S=.rt (.sh d):=λ{m r} k h1 h2=>by
  have t:=tI k
  by_cases c:y=k
  ·rw [decide_eq_true c] at t;obtain ⟨d,hd,e⟩:=h1;exact ⟨d,hd,zbd ((ifT t).trans e)⟩
  ·rw [decide_eq_false c] at t;obtain ⟨d,hd,e⟩:=h2;exact ⟨d,hd,zat ((ifF t).trans rfl) e⟩
 have fin:∀ {r:FSt->Fl},(∃ d,zjV d/\r S=.rt (.sh d))->∃ d,zjV d/\za2 (zcU 2 [1] (mSh (m2 zcf (m2 oIx (mV 1) (mC (.int 20))) (mC (.int 16))))) (za2 (zcU 3 [0,1] (mSh (m2 zcf (m2 oIx (mV 1) (mC (.int 21))) (mFr (m1 zbK (zab (mV 0) zaj)))))) (za2 (zcU 4 [0] (m1 zmC (zab (mV 0) zaj))) r)) [some (.sh (.lst (vs.map D.str))),some (.sh N),none,none,none]=.rt (.sh d):=λ⟨d,hd,e⟩=>⟨d,hd,zat e1 (zat e2 (zat e3 e))⟩
 refine fin (pick 0 (str ?w0) (pick 1 (str ?w1) (pick 2 (str ?w2) (pick 3 ?w3 (pick 4 (str ?w4) (pick 5 (str ?w5) (pick 6 (str ?w6) (pick 7 ?w7 (str ?w8)))))))))
 case w0=>exact mJn _ (mAd sA sB (by omega) (by have:=ld (a+1); omega)) (by simp; omega) (app tk (dk _))
 case w1=>exact mJn _ (mAd (mAd sA (zCo sX) (by omega) (by simp)) sC (by simp; omega) (by have:=ld a; omega)) (by simp; omega) (app (app tk (λw hw=>by rw [List.mem_singleton.mp hw]; exact hj _ (List.getElem_mem ha))) (dk _))
 case w2=>
  obtain ⟨z,z1,z2,hz⟩:=zt5 n22;refine mJn _ (mAd (mAd sA (zCo (w:=z) ?_) (by omega) (by simp)) sC (by simp; omega) (by have:=ld a; omega)) (by simp; omega) (app (app tk (λw hw=>by rw [List.mem_singleton.mp hw]; exact ⟨by omega,z2⟩)) (dk _));simp [v22,hz,-m2]
 case w3=>
  have lo:mAt (mV 3) S=some (some (a:Int)):=by unfold mAt; rw [v3]; rfl
  have hi:mAt (mFr (m2 za9 (mV 3) (mC (.int 2)))) S=some (some ((a+2:Nat):Int)):=by unfold mAt; rw [show mFr (m2 za9 (mV 3) (mC (.int 2))) S=_ from vp 2]; rfl
  have me:m1 zvE (zab (mFr (mSl (mV 4) (mAt (mV 3)) (mAt (mFr (m2 za9 (mV 3) (mC (.int 2))))))) zaj) S=some (.li ((zeX vs (some (a:Int)) (some ((a+2:Nat):Int))).reverse.map D.str)):=by
   have c:oSl (.lst (vs.map D.str)) (some (a:Int)) (some ((a+2:Nat):Int))=some (.li ((zeX vs (some (a:Int)) (some ((a+2:Nat):Int))).map D.str)):=by
    show some (SV.li (zeX (vs.map D.str) _ _))=_;rw [zwx]
   have:=zbX (zkT v4 lo hi c);unfold m1 zab;rw [this];simp only [zaj,Option.bind_some,SV.fr,zvE,List.map_reverse]
  have cl:(zeX vs (some (a:Int)) (some ((a+2:Nat):Int))).length<=10:=by unfold zeX; simp; omega
  have hp:zj7 4 (m1 zvE (zab (mFr (mSl (mV 4) (mAt (mV 3)) (mAt (mFr (m2 za9 (mV 3) (mC (.int 2))))))) zaj)) (mAt (mV 3)) (mAt (mFr (m2 za9 (mV 3) (mC (.int 2))))) S=.nx (S.set 4 (some (.li ((zd9 vs (some (a:Int)) (some ((a+2:Nat):Int)) (zeX vs (some (a:Int)) (some ((a+2:Nat):Int))).reverse).map D.str)))):=by
   have s4:S[4]? = some (some (.li (vs.map D.str))):=by rw [<- hS]; rfl
   unfold zj7;rw [me,s4,lo,hi];simp only [];rw [if_pos ⟨zqe _,by rw [List.length_map,List.length_map,List.length_reverse,zaI]; omega⟩,zwy]
  have pl:=zih vs (some (a:Int)) (some ((a+2:Nat):Int)) (zeX vs (some (a:Int)) (some ((a+2:Nat):Int))).reverse;obtain ⟨z,z1,z2⟩:=mJn (m:=mV 4) (S:=S.set 4 (some (.li ((zd9 vs (some (a:Int)) (some ((a+2:Nat):Int)) (zeX vs (some (a:Int)) (some ((a+2:Nat):Int))).reverse).map D.str)))) (zd9 vs (some (a:Int)) (some ((a+2:Nat):Int)) (zeX vs (some (a:Int)) (some ((a+2:Nat):Int))).reverse) (by rw [<- hS]; rfl) (by simp at pl cl ⊢; omega) (λw hw=>by
   unfold zd9 at hw;rcases List.mem_append.mp hw with h | h
   ·rcases List.mem_append.mp h with h | h
    ·exact hj w (List.mem_of_mem_take h)
    ·exact hj w (zwz (List.mem_reverse.mp h))
   ·exact hj w (List.mem_of_mem_drop h))
  exact ⟨.str z,.inl ⟨z,rfl,z1⟩,zat hp z2⟩
 case w4=>
  obtain ⟨z,hz,e⟩:=zAd vs[a] (hu _ (List.getElem_mem ha)) n22;refine mJn _ (mAd (mAd sA (zCo (w:=z) ?_) (by omega) (by simp)) sB (by simp; omega) (by have:=ld (a+1); omega)) (by simp; omega) (app (app tk (λw hw=>by rw [List.mem_singleton.mp hw]; exact hz)) (dk _));simp [v22,sX,e,-m2]
 case w5=>
  have m2':zcf (.int n22) (.int 2)=some (.int (n22%2:Nat)):=zid n22 2 (by omega);obtain ⟨j1,j2,j3⟩:=jnB vs (by omega) hj;have z2:(2:Nat)<=sizeLine:=by rw [zaI]; omega
  have hb:∃ b:Str,b.length<=1/\Low b/\oIx (.lst [.str (Str.ofString ""),.str (Str.ofString " ")]) (.int (n22%2:Nat))=some (.str b):=by
   have:n22%2=0\/n22%2=1:=by omega
   rcases this with e | e <;> rw [e]
   ·exact ⟨Str.ofString "",by decide +kernel,by decide +kernel,rfl⟩
   ·exact ⟨Str.ofString " ",by decide +kernel,by decide +kernel,rfl⟩
  obtain ⟨b,b1,b2,b3⟩:=hb;generalize ((n22%2:Nat):Int)=v at *;have a1:za9 (.str b) (.str (Str.join (Str.ofString " ") vs))=some (.sh (.str (b++Str.join (Str.ofString " ") vs))):=by
   have:b.length+(Str.join (Str.ofString " ") vs).length<=sizeLine:=by rw [zaI]; omega
   simp [this]
  have a2:za9 (.str (b++Str.join (Str.ofString " ") vs)) (.str (Str.ofString " "))=some (.sh (.str (b++Str.join (Str.ofString " ") vs++Str.ofString " "))):=by
   have:(b++Str.join (Str.ofString " ") vs).length+(Str.ofString " ").length<=sizeLine:=by rw [zak,zhs,zaI]; omega
   simp [this]
  refine ⟨b++Str.join (Str.ofString " ") vs++Str.ofString " ",⟨by rw [zak,zak,zhs]; omega,(b2.add j3).add (by decide +kernel)⟩,?_⟩;have p1:m2 oIx (mFr (zda (zab (mC (.str (Str.ofString ""))) (zab (mC (.str (Str.ofString " "))) zaj)))) (m2 zcf (m2 oIx (mV 1) (mC (.int 22))) (mC (.int 2))) S=some (.str b):=(zaq (x:=.lst [.str (Str.ofString ""),.str (Str.ofString " ")]) (by simp [z2]) ((zaq (b:=mC (.int 2)) v22 rfl).trans m2')).trans b3
  have p2:mBM zcL (mC (.str (Str.ofString " "))) (zab (mV 4) zaj) S=some (.sh (.str (Str.join (Str.ofString " ") vs))):=by simp only [mBM,zab,zaj,mC,v4,Option.bind_some,j1]
  have p3:=zbX ((zaq p1 (zbX p2)).trans a1);have p4:=(zaq (f:=za9) (b:=mC (.str (Str.ofString " "))) p3 rfl).trans a2;unfold zaW;rw [p4]
 case w6=>exact mJn _ (mAd v4 sC (by omega) (by have:=ld a; omega)) (by simp; omega) (app hj (dk _))
 case w7=>
  have m8:zcf (.int n22) (.int 8)=some (.int (n22%8:Nat)):=zid n22 8 (by omega);have z8:(8:Nat)<=sizeLine:=by rw [zaI]; omega
  have ok:∀ z∈vs,Ok z:=λz hz=>(hu z hz).2.ok;have hm:mFr (zda (zab (mC .non) (zab (mC (.int 7)) (zab (mC (.bl true)) (zab (mFr (m1 ze4 (zab (mV 4) zaj))) (zab (mV 4) (zab (mFr mDK) (zab (mC (.str (Str.ofString ""))) (zab (mC (.str (Str.ofString " "))) zaj)))))))) ) S=some (.lst [.non,.int 7,.bl true,.tup (vs.map D.str),.lst (vs.map D.str),.dK [],.str (Str.ofString ""),.str (Str.ofString " ")]):=by
   simp [v4,z8,-mV]
  have hk:n22%8=0\/n22%8=1\/n22%8=2\/n22%8=3\/n22%8=4\/n22%8=5\/n22%8=6\/n22%8=7:=by omega
  have go:∀ d,zjV d->oIx (.lst [.non,.int 7,.bl true,.tup (vs.map D.str),.lst (vs.map D.str),.dK [],.str (Str.ofString ""),.str (Str.ofString " ")]) (.int (n22%8:Nat))=some d->∃ d,zjV d/\zaW (mSh (m2 oIx (mFr (zda (zab (mC .non) (zab (mC (.int 7)) (zab (mC (.bl true)) (zab (mFr (m1 ze4 (zab (mV 4) zaj))) (zab (mV 4) (zab (mFr mDK) (zab (mC (.str (Str.ofString ""))) (zab (mC (.str (Str.ofString " "))) zaj)))))))))) (m2 zcf (m2 oIx (mV 1) (mC (.int 22))) (mC (.int 8))))) S=.rt (.sh d):=λd hd e=>by
   refine ⟨d,hd,?_⟩;have:=zqi ((zaq (f:=oIx) hm ((zaq (b:=mC (.int 8)) v22 rfl).trans m8)).trans e);unfold zaW;rw [this]
  rcases hk with e | e | e | e | e | e | e | e
  ·exact go .non (.inr zwt) (by rw [e]; rfl)
  ·exact go (.int 7) (.inr (zwu 7)) (by rw [e]; rfl)
  ·exact go (.bl true) (.inr (zAe true)) (by rw [e]; rfl)
  ·exact go (.tup (vs.map D.str)) (.inr (zwv ok)) (by rw [e]; rfl)
  ·exact go (.lst (vs.map D.str)) (.inr (zww ok)) (by rw [e]; rfl)
  ·exact go (.dK []) (.inr zsW) (by rw [e]; rfl)
  ·exact go (.str (Str.ofString "")) (.inl ⟨_,rfl,by decide +kernel,by decide +kernel⟩) (by rw [e]; rfl)
  ·exact go (.str (Str.ofString " ")) (.inl ⟨_,rfl,by decide +kernel,by decide +kernel⟩) (by rw [e]; rfl)
 case w8=>exact mJn _ v4 (by omega) hj
theorem zAf (ns:List Int) (k:Nat):∃ v,zaD [.fz (ns.map D.int),.int k]=some (.sh (.int v)):=by
 by_cases h:(k:Int) < ns.length
 ·have hk:k < ns.length:=by omega
  refine ⟨ns[k],?_⟩;have:atI (ns.map D.int) (k:Int)=some (.int ns[k]):=atN (by rw [List.getElem?_map,List.getElem?_eq_getElem hk]; rfl);simp [zaD,zbY,zco,hk,this]
 ·have hk:¬ k < ns.length:=by omega
  exact ⟨0,by simp [zaD,zbY,zco,hk]⟩
def zxf (a:FSt->Option D):FSt->Option SV:=zhu (zbZ 0 "row" zbi a zaj) (zhu (zbZ 1 "row" zbj a zaj) (zhu (zbZ 2 "row" zaE a zaj) (zhu (zbZ 3 "row" zbk a zaj) (zhu (zbZ 4 "row" zbO a zaj) (zhu (zbZ 5 "row" zbl a zaj) (zhu (zbZ 6 "row" zaF a zaj) (zbZ 7 "row" zbm a zaj)))))))
theorem zwA {a:FSt->Option D} {S:FSt} {ru:Ru} {z:SV} (ha:a S=some ru.I) (h:ru.fRow [ru.I]=some z):zxf a S=some z:=by
 have q1:((("row":Str))=="role")=false:=by decide +kernel
 have q2:((("row":Str))=="by")=false:=by decide +kernel
 have q3:((("row":Str))=="terms")=false:=by decide +kernel
 have q4:((("row":Str))=="one")=false:=by decide +kernel
 have q5:((("row":Str))=="other")=false:=by decide +kernel
 have q6:((("row":Str))=="most")=false:=by decide +kernel
 cases ru <;> simp [Ru.I,Ru.fRow] at ha h <;> simp [zxf,ha,List.lookup,q1,q2,q3,q4,q5,q6,h]
theorem zsY {d:D} (h:zeQ tab [d,.ty "str"]=some (.sh (.bl false))):zaO [d]=some (.sh (.bl false)):=by
 simp [zaO,zbY,zdd,zhB,h]
theorem neB (b:Bool):ziw (.bl b) (.bl b)=some (.bl false):=by cases b <;> rfl
theorem zqZ {S:FSt} {d:D} (v3:mV 3 S=some d) (v4:mV 4 S=some .non) (v5:mV 5 S=some (.lst [.bl true,d])) (n:ziw (.lst [.bl true,d]) (.lst [.bl true,d])=some (.bl false)) (hb:∃ b,zeQ tab [d,.ty "bool"]=some (.sh (.bl b))) (a:FSt->Fl) :
  mIf (mOr (zae (m2 zhw (mV 4) (mC .non))) (mOr (zae (m2 ziw (mV 5) (mFr (zda (zab (mC (.bl true)) (zab (mV 3) zaj)))))) (zae (m2 ziw (mFr (m1 (zeQ tab) (zab (mV 3) (zab (mC (.ty "bool")) zaj)))) (mFr (m1 (zeQ tab) (zab (m2 oIx (mV 5) (mC (.int 1))) (zab (mC (.ty "bool")) zaj)))))))) a zaK S=.nx S:=by
 obtain ⟨b,hb⟩:=hb;have z2:(2:Nat)<=sizeLine:=by rw [zaI]; omega
 have i1:oIx (.lst [.bl true,d]) (.int 1)=some d:=rfl;have t1:zae (m2 zhw (mV 4) (mC .non)) S=some false:=tBl ((zaq v4 rfl).trans rfl);have t2:zae (m2 ziw (mV 5) (mFr (zda (zab (mC (.bl true)) (zab (mV 3) zaj))))) S=some false:=by
  refine tBl ((zaq v5 ?_).trans n);simp [v3,z2,-mV]
 have b1:mFr (m1 (zeQ tab) (zab (mV 3) (zab (mC (.ty "bool")) zaj))) S=some (.bl b):=by simp [v3,hb,-mV]
 have b2:mFr (m1 (zeQ tab) (zab (m2 oIx (mV 5) (mC (.int 1))) (zab (mC (.ty "bool")) zaj))) S=some (.bl b):=by
  have e:m2 oIx (mV 5) (mC (.int 1)) S=some d:=(zaq v5 rfl).trans i1;simp [e,hb,-m2]
 have t3:zae (m2 ziw (mFr (m1 (zeQ tab) (zab (mV 3) (zab (mC (.ty "bool")) zaj)))) (mFr (m1 (zeQ tab) (zab (m2 oIx (mV 5) (mC (.int 1))) (zab (mC (.ty "bool")) zaj))))) S=some false:=tBl ((zaq b1 b2).trans (neB b));exact (ifF (tOr t1 (tOr t2 t3))).trans rfl
theorem zwB {S:FSt} {z:Str} {ru:Ru} (hz:okZ z) (h:prs (sp z)=some ru) (v3:mV 3 S=some (.str z)) (v4:mV 4 S=some ru.I) (v5:mV 5 S=some .non) (a:FSt->Fl) :
  mIf (mOr (zae (m2 zhw (mV 5) (mC .non))) (mOr (zae (m2 ziw (mFr (zxf (mV 4))) (mV 3))) (zfW (zae (mFr (m1 zau (zab (mV 4) (zab (mFr (mBM zbB (mV 3) (zab (mC (.str (Str.ofString " "))) zaj))) zaj)))))))) a zaK S=.nx S:=by
 obtain ⟨p1,p2⟩:=zt3 h;have t1:zae (m2 zhw (mV 5) (mC .non)) S=some false:=tBl ((zaq v5 rfl).trans rfl);have ra:=zwA v4 (zCm p2);have rb:=zsU h;rw [rb] at ra;have ne:ziw (.str z) (.str z)=some (.bl false):=by
  unfold ziw;rw [znS (zvO hz.2.ok)]
 have t2:zae (m2 ziw (mFr (zxf (mV 4))) (mV 3)) S=some false:=tBl ((zaq (zbX ra) v3).trans ne);have s:=znO v3 hz.w.1;have fr:=zwo p2;rw [p1] at fr;have t3:zfW (zae (mFr (m1 zau (zab (mV 4) (zab (mFr (mBM zbB (mV 3) (zab (mC (.str (Str.ofString " "))) zaj))) zaj))))) S=some false:=by
  refine zta (x:=true) (tBl ?_);generalize mFr (mBM zbB (mV 3) (zab (mC (.str (Str.ofString " "))) zaj))=mm at s ⊢;generalize D.lst ((sp z).map D.str)=X at *;simp [v4,s,fr,-mV]
 exact (ifF (tOr t1 (tOr t2 t3))).trans rfl
theorem one (ns : List Int) (k : Nat) (x2 x3 x4 x5 : Option SV) (l2 : lkO x2 = false) (l3 : lkO x3 = false) (l4 : lkO x4 = false) (l5 : lkO x5 = false) : ∃ y2 y3 y4 y5, lkO y2 = false /\ lkO y3 = false /\ lkO y4 = false /\ lkO y5 = false /\
    zgc [some (.sh (.fz (ns.map D.int))), sI' k, x2, x3, x4, x5] = .nx [some (.sh (.fz (ns.map D.int))), sI' k, y2, y3, y4, y5] := by
  obtain ⟨c, hc⟩ := zAf ns k;obtain ⟨ws, hw, hs⟩ := zsN c 23 (by omega);obtain ⟨vs, v2, v10, vu, hv⟩ := zwq ws hw;obtain ⟨d, hd, hsp⟩ := zsX vs v2 v10 vu ws hw;have pS := zqf ws;have hs' : zaJ [.int c, .int 23] = some (.li (ws.map nD)) := hs;unfold zgc zqj;generalize D.fz (ns.map D.int) = Z at *;have e1 : zcU 2 [0, 1] (m1 zaJ (zab (mFr (m1 zaD (zab (mV 0) (zab (mV 1) zaj)))) (zab (mC (.int 23)) zaj))) [some (.sh Z), sI' k, x2, x3, x4, x5] = .nx [some (.sh Z), sI' k, some (.li (ws.map nD)), x3, x4, x5] := by
    simp [hc, hs', pS, l2]
  have e2 : zcU 3 [2] (m1 zaV (zab (mFr (m1 za3 (zab (mV 2) zaj))) (zab (mV 2) zaj))) [some (.sh Z), sI' k, some (.li (ws.map nD)), x3, x4, x5] = .nx [some (.sh Z), sI' k, (if d.plain = true then some (.li (ws.map nD)) else some (.sh (.lst (ws.map nD)))), some (.sh d), x4, x5] := by
    cases hp : d.plain <;> simp [hv, hsp, hp, l3]
  generalize hY : (if d.plain = true then some (SV.li (ws.map nD)) else some (.sh (.lst (ws.map nD)))) = Y at e2;have lY : lkO Y = false := by rw [<- hY]; cases d.plain <;> rfl
  have fin : ∀ (I r : D), za7 [d] = some (.sh (.tup [I, r])) -> (∀ S : FSt, mV 3 S = some d -> mV 4 S = some I -> mV 5 S = some r -> mIf (zfW (zae (mFr (m1 zaO (zab (mV 3) zaj)))))
      (mIf (mOr (zae (m2 zhw (mV 4) (mC .non))) (mOr (zae (m2 ziw (mV 5) (mFr (zda (zab (mC (.bl true)) (zab (mV 3) zaj)))))) (zae (m2 ziw (mFr (m1 (zeQ tab) (zab (mV 3) (zab (mC (.ty "bool")) zaj)))) (mFr (m1 (zeQ tab) (zab (m2 oIx (mV 5) (mC (.int 1))) (zab (mC (.ty "bool")) zaj)))))))) (zaW (mSh (mC (.bl false)))) zaK)
      (mIf (mOr (zae (m2 zhw (mV 5) (mC .non))) (mOr (zae (m2 ziw (mFr (zxf (mV 4))) (mV 3))) (zfW (zae (mFr (m1 zau (zab (mV 4) (zab (mFr (mBM zbB (mV 3) (zab (mC (.str (Str.ofString " "))) zaj))) zaj)))))))) (zaW (mSh (mC (.bl false)))) zaK) S = .nx S) -> ∃ y2 y3 y4 y5, lkO y2 = false /\ lkO y3 = false /\ lkO y4 = false /\ lkO y5 = false /\ (za2 (zcU 2 [0, 1] (m1 zaJ (zab (mFr (m1 zaD (zab (mV 0) (zab (mV 1) zaj)))) (zab (mC (.int 23)) zaj))))
     (za2 (zcU 3 [2] (m1 zaV (zab (mFr (m1 za3 (zab (mV 2) zaj))) (zab (mV 2) zaj))))
     (za2 (zyB [3] (m1 za7 (zab (mV 3) zaj)) (gSq 2 (gCs (gN 4) (gCs (gN 5) gNs))))
     (mIf (zfW (zae (mFr (m1 zaO (zab (mV 3) zaj)))))
      (mIf (mOr (zae (m2 zhw (mV 4) (mC .non))) (mOr (zae (m2 ziw (mV 5) (mFr (zda (zab (mC (.bl true)) (zab (mV 3) zaj)))))) (zae (m2 ziw (mFr (m1 (zeQ tab) (zab (mV 3) (zab (mC (.ty "bool")) zaj)))) (mFr (m1 (zeQ tab) (zab (m2 oIx (mV 5) (mC (.int 1))) (zab (mC (.ty "bool")) zaj)))))))) (zaW (mSh (mC (.bl false)))) zaK)
      (mIf (mOr (zae (m2 zhw (mV 5) (mC .non))) (mOr (zae (m2 ziw (mFr (zxf (mV 4))) (mV 3))) (zfW (zae (mFr (m1 zau (zab (mV 4) (zab (mFr (mBM zbB (mV 3) (zab (mC (.str (Str.ofString " "))) zaj))) zaj)))))))) (zaW (mSh (mC (.bl false)))) zaK))))) [some (.sh Z), sI' k, x2, x3, x4, x5] = .nx [some (.sh Z), sI' k, y2, y3, y4, y5] := λI r hr ht => by
    refine ⟨Y, some (.sh d), some (.sh I), some (.sh r), lY, rfl, rfl, rfl, zat e1 (zat e2 (zat (S1 := [some (.sh Z), sI' k, Y, some (.sh d), some (.sh I), some (.sh r)]) ?_ (ht _ rfl rfl rfl)))⟩;simp [hr, l4, l5]
  rcases hd with ⟨z, rfl, hz⟩ | od
  · have g := zzJ z hz.w
    rw [zzR] at g;cases hp : prs (sp z) with
    | none =>
      rw [hp] at g;obtain ⟨r1, r2⟩ := zzW hz hp;have hn := zkt (d := .str z) (q := .str z) rfl hz.2.ok (by simp [PyData.depth]);refine fin .non (.lst [.bl true, .str z]) (zqO r1 r2) λS v3 v4 v5 => ?_;have t : zfW (zae (mFr (m1 zaO (zab (mV 3) zaj)))) S = some true := zta (x := false) (tBl (by simp [v3, g, -mV]));exact (ifT t).trans (zqZ v3 v4 v5 hn ⟨false, rfl⟩ _)
    | some ru =>
      rw [hp] at g;obtain ⟨r1, r2⟩ := zzV hz hp;refine fin ru.I .non (zwe r1 r2 (by cases ru <;> rfl)) λS v3 v4 v5 => ?_;have t : zfW (zae (mFr (m1 zaO (zab (mV 3) zaj)))) S = some false := zta (x := true) (tBl (by simp [v3, g, -mV]));exact (ifF t).trans (zwB hz hp v3 v4 v5 _)
  · have g := zsY od.s
    obtain ⟨r1, r2⟩ := zCj od.s;refine fin .non (.lst [.bl true, d]) (zqO r1 r2) λS v3 v4 v5 => ?_;have t : zfW (zae (mFr (m1 zaO (zab (mV 3) zaj)))) S = some true := zta (x := false) (tBl (by simp [v3, g, -mV]));exact (ifT t).trans (zqZ v3 v4 v5 od.n od.b _)
theorem znU (ns:List Int):∀ (ks:List Nat) (x1:Option D) (x2 x3 x4 x5:Option SV),lkO x2=false->lkO x3=false->lkO x4=false->lkO x5=false->∃ S,
  zdG (gN 1) zgc (ks.map nD) [some (.sh (.fz (ns.map D.int))),oD' x1,x2,x3,x4,x5]=.nx S
 | [],x1,x2,x3,x4,x5,_,_,_,_=>⟨_,rfl⟩
 | k :: ks,x1,x2,x3,x4,x5,l2,l3,l4,l5=>by
  obtain ⟨y2,y3,y4,y5,h2,h3,h4,h5,st⟩:=one ns k x2 x3 x4 x5 l2 l3 l4 l5;obtain ⟨S,ih⟩:=znU ns ks (some (.int k)) y2 y3 y4 y5 h2 h3 h4 h5;refine ⟨S,?_⟩;have hg:gN 1 (nD k) [some (.sh (.fz (ns.map D.int))),oD' x1,x2,x3,x4,x5]=some [some (.sh (.fz (ns.map D.int))),sI' k,x2,x3,x4,x5]:=by cases x1 <;> simp
  rw [List.map_cons,zdG,hg];simp only [st];exact ih
theorem zsZ (ns:List Int) (hl:ns.length<=63):zmT [.fz (ns.map D.int)]=some (.sh (.bl true)):=by
 obtain ⟨m,hmx,hm⟩:∃ m:Nat,zw7 [.int 1,.int (if (40:Int) < ns.length then 40 else (ns.length:Int))]=some (.sh (.int m))/\m<=63:=by
  by_cases q:40 < ns.length
  ·have qi:(40:Int) < ns.length:=by omega
   exact ⟨40,by rw [if_pos qi]; rfl,by omega⟩
  ·have qi:¬ (40:Int) < ns.length:=by omega
   rw [if_neg qi]
   by_cases q3:1 < ns.length
   ·refine ⟨ns.length,?_,by omega⟩;show some (SV.sh (.int (if (ns.length:Int) > 1 then (ns.length:Int) else 1)))=_;rw [if_pos (by omega)]
   ·refine ⟨1,?_,by omega⟩;show some (SV.sh (.int (if (ns.length:Int) > 1 then (ns.length:Int) else 1)))=_;rw [if_neg (by omega)];rfl
 obtain ⟨S,lo⟩:=znU ns (List.range m) none none none none none rfl rfl rfl rfl;simp only [oD',Option.map_none] at lo;refine za1 rfl ?_;show zsE [some (.sh (.fz (ns.map D.int))),none,none,none,none,none]=_;unfold zsE zzr;refine zat (znF (zqg (n:=m) ?_ (by omega)) lo) rfl;simp [hmx,-zw7]
def Fx (K:W.Frag) (x q:Str) (s:Stmt) (f:Addr):Prop:=∃ fd,Fun K x q s f fd
theorem fx_mk {K:W.Frag} {x q:Str} {st:Stmt} {f:Addr} {oc:Value} {od an:Option Addr} {osl:Array (Option Value)} {kV doc pm cdv ct:Value} (l:K.lookup f=some ⟨oc,od,.func (W.fnOf x q (zch st) (zbc st) (zad st) .none kV doc pm an cdv ct),osl⟩:=by k_is) (c:W.codeIn K cdv q=true:=by k_is) (k:W.keepIn K (.ref f)=true:=by k_is):Fx K x q st f:=⟨_,zte l c k⟩
section
variable {P:Program} {w:World} {K:W.Frag} {mg:Str->Option Value} {base:Heap} {A:Adr}
theorem zwC (T:Txt K mg A):FnOk P w K mg base CX0 9 A.zmT A.zvS ["_law_script"] (zlC K):=(zzC T).imp (zpL (B:=bk K A) rfl zsZ)
end
theorem all_mk {l:W.OpenLaw} {w:World} {K:W.Frag} {h:Heap} {mg:Str->Option Value} {fa:Addr} (X:K.In h) (G:h.Ns mainGlobals mg) (hfa:mg "law"=some (.ref fa))
  {C_Both:Addr}
  {C_Give:Addr}
  {C_Has:Addr}
  {C_Last:Addr}
  {C_Lay:Addr}
  {C_Most:Addr}
  {C_Not:Addr}
  {C_Take:Addr}
  {C_NoRule:Addr}
  {C_OfficeError:Addr}
  {f0:Addr}
  {f1:Addr}
  {f2:Addr}
  {f3:Addr}
  {f4:Addr}
  {f5:Addr}
  {f6:Addr}
  {f7:Addr}
  {f8:Addr}
  {f9:Addr}
  {f10:Addr}
  {f11:Addr}
  {f12:Addr}
  {f13:Addr}
  {f14:Addr}
  {f15:Addr}
  {f16:Addr}
  {f17:Addr}
  {f18:Addr}
  {f19:Addr}
  {f20:Addr}
  {f21:Addr}
  {f22:Addr}
  {f23:Addr}
  {f24:Addr}
  {f25:Addr}
  {f26:Addr}
  {f27:Addr}
  {f28:Addr}
  {f29:Addr}
  {f30:Addr}
  {f31:Addr}
  {f32:Addr}
  {f33:Addr}
  {f34:Addr}
  {f35:Addr}
  {f36:Addr}
  {f37:Addr}
  {f38:Addr}
  {f39:Addr}
  {f40:Addr}
  {f41:Addr}
  {f42:Addr}
  {zed:Addr}
  {tk0:Tok}
  {tk1:Tok}
  (zwD:W.nsIn K mainGlobals "Both"=some (some (.ref C_Both)))
  (zwE:W.nsIn K mainGlobals "Give"=some (some (.ref C_Give)))
  (zAg:W.nsIn K mainGlobals "Has"=some (some (.ref C_Has)))
  (zwF:W.nsIn K mainGlobals "Last"=some (some (.ref C_Last)))
  (zAh:W.nsIn K mainGlobals "Lay"=some (some (.ref C_Lay)))
  (zwG:W.nsIn K mainGlobals "Most"=some (some (.ref C_Most)))
  (zAi:W.nsIn K mainGlobals "Not"=some (some (.ref C_Not)))
  (zwH:W.nsIn K mainGlobals "Take"=some (some (.ref C_Take)))
  (zq0:W.nsIn K mainGlobals "NoRule"=some (some (.ref C_NoRule)))
  (zjW:W.nsIn K mainGlobals "OfficeError"=some (some (.ref C_OfficeError)))
  (zq1:W.plainGet K C_Both Str.empty=true)
  (zq2:W.hasDictIn K C_Both=true)
  (zq3:W.plainOver K C_Both=true)
  (zq4:W.findIn K (.ref C_Both) "__setattr__"=some (some (.builtin "object.__setattr__")))
  (zwI:W.makesIn K C_Both=true)
  (zwJ:W.keepIn K (.ref C_Both)=true)
  (zq5:W.plainGet K C_Give Str.empty=true)
  (zq6:W.hasDictIn K C_Give=true)
  (zq7:W.plainOver K C_Give=true)
  (zq8:W.findIn K (.ref C_Give) "__setattr__"=some (some (.builtin "object.__setattr__")))
  (zwK:W.makesIn K C_Give=true)
  (zwL:W.keepIn K (.ref C_Give)=true)
  (zAj:W.plainGet K C_Has Str.empty=true)
  (zAk:W.hasDictIn K C_Has=true)
  (zAl:W.plainOver K C_Has=true)
  (zAm:W.findIn K (.ref C_Has) "__setattr__"=some (some (.builtin "object.__setattr__")))
  (zAn:W.makesIn K C_Has=true)
  (zAo:W.keepIn K (.ref C_Has)=true)
  (zq9:W.plainGet K C_Last Str.empty=true)
  (zra:W.hasDictIn K C_Last=true)
  (zrb:W.plainOver K C_Last=true)
  (zrc:W.findIn K (.ref C_Last) "__setattr__"=some (some (.builtin "object.__setattr__")))
  (zwM:W.makesIn K C_Last=true)
  (zwN:W.keepIn K (.ref C_Last)=true)
  (zt7:W.plainGet K C_Lay Str.empty=true)
  (zt8:W.hasDictIn K C_Lay=true)
  (zt9:W.plainOver K C_Lay=true)
  (zua:W.findIn K (.ref C_Lay) "__setattr__"=some (some (.builtin "object.__setattr__")))
  (zAp:W.makesIn K C_Lay=true)
  (zAq:W.keepIn K (.ref C_Lay)=true)
  (zrd:W.plainGet K C_Most Str.empty=true)
  (zre:W.hasDictIn K C_Most=true)
  (zrf:W.plainOver K C_Most=true)
  (zrg:W.findIn K (.ref C_Most) "__setattr__"=some (some (.builtin "object.__setattr__")))
  (zwO:W.makesIn K C_Most=true)
  (zwP:W.keepIn K (.ref C_Most)=true)
  (zAr:W.plainGet K C_Not Str.empty=true)
  (zAs:W.hasDictIn K C_Not=true)
  (zAt:W.plainOver K C_Not=true)
  (zAu:W.findIn K (.ref C_Not) "__setattr__"=some (some (.builtin "object.__setattr__")))
  (zAv:W.makesIn K C_Not=true)
  (zAw:W.keepIn K (.ref C_Not)=true)
  (zrh:W.plainGet K C_Take Str.empty=true)
  (zri:W.hasDictIn K C_Take=true)
  (zrj:W.plainOver K C_Take=true)
  (zrk:W.findIn K (.ref C_Take) "__setattr__"=some (some (.builtin "object.__setattr__")))
  (zwQ:W.makesIn K C_Take=true)
  (zwR:W.keepIn K (.ref C_Take)=true)
  (zgu:W.findIn K (.ref C_Both) "one"=some none)
  (zeG:W.findIn K (.ref C_Both) "other"=some none)
  (zfn:W.findIn K (.ref C_Give) "role"=some none)
  (zhX:W.findIn K (.ref C_Give) "by"=some none)
  (zeH:W.findIn K (.ref C_Give) "terms"=some none)
  (zgv:W.findIn K (.ref C_Has) "role"=some none)
  (zfo:W.findIn K (.ref C_Last) "role"=some none)
  (zgw:W.findIn K (.ref C_Lay) "role"=some none)
  (zfp:W.findIn K (.ref C_Lay) "terms"=some none)
  (zfq:W.findIn K (.ref C_Most) "most"=some none)
  (zfr:W.findIn K (.ref C_Most) "role"=some none)
  (zgx:W.findIn K (.ref C_Not) "role"=some none)
  (zfs:W.findIn K (.ref C_Take) "role"=some none)
  (zhY:W.findIn K (.ref C_Take) "by"=some none)
  (zeI:W.findIn K (.ref C_Take) "terms"=some none)
  (zhk:W.findIn K (.ref C_NoRule) "__init__"=some (some (.ref f0)))
  (i0:W.isFn K (.ref f0)=true)
  (F0:Fx K "__init__" "NoRule.__init__" zdk f0)
  (a1:W.nsIn K mainGlobals "_law_stream"=some (some (.ref f1)))
  (F1:Fx K "_law_stream" "_law_stream" zfb f1)
  (a2:W.nsIn K mainGlobals "_law_name"=some (some (.ref f2)))
  (F2:Fx K "_law_name" "_law_name" zf0 f2)
  (a3:W.nsIn K mainGlobals "_law_odd_word"=some (some (.ref f3)))
  (F3:Fx K "_law_odd_word" "_law_odd_word" zdK f3)
  (a4:W.nsIn K mainGlobals "_law_spoilt"=some (some (.ref f4)))
  (F4:Fx K "_law_spoilt" "_law_spoilt" zfc f4)
  (a5:W.nsIn K mainGlobals "pieces_of"=some (some (.ref f5)))
  (F5:Fx K "pieces_of" "pieces_of" zei f5)
  (zAx:W.findIn K (.ref C_Has) "__init__"=some (some (.ref f6)))
  (zAy:W.findIn K (.ref C_Not) "__init__"=some (some (.ref f6)))
  (i6:W.isFn K (.ref f6)=true)
  (F6:Fx K "__init__" "Condition.__init__" zcp f6)
  (a7:W.nsIn K mainGlobals "is_name"=some (some (.ref f7)))
  (F7:Fx K "is_name" "is_name" zhb f7)
  (a8:W.nsIn K mainGlobals "condition_of"=some (some (.ref f8)))
  (F8:Fx K "condition_of" "condition_of" zdL f8)
  (a9:W.nsIn K mainGlobals "terms_of"=some (some (.ref f9)))
  (F9:Fx K "terms_of" "terms_of" zec f9)
  (zs0:W.findIn K (.ref C_Take) "__init__"=some (some (.ref f10)))
  (i10:W.isFn K (.ref f10)=true)
  (F10:Fx K "__init__" "Take.__init__" zej f10)
  (zs1:W.findIn K (.ref C_Give) "__init__"=some (some (.ref f11)))
  (i11:W.isFn K (.ref f11)=true)
  (F11:Fx K "__init__" "Give.__init__" zek f11)
  (a12:W.nsIn K mainGlobals "give_or_take_of"=some (some (.ref f12)))
  (F12:Fx K "give_or_take_of" "give_or_take_of" zcE f12)
  (zwS:W.findIn K (.ref C_Lay) "__init__"=some (some (.ref f13)))
  (i13:W.isFn K (.ref f13)=true)
  (F13:Fx K "__init__" "Lay.__init__" zfd f13)
  (a14:W.nsIn K mainGlobals "lay_of"=some (some (.ref f14)))
  (F14:Fx K "lay_of" "lay_of" zkV f14)
  (zs2:W.findIn K (.ref C_Both) "__init__"=some (some (.ref f15)))
  (i15:W.isFn K (.ref f15)=true)
  (F15:Fx K "__init__" "Both.__init__" zel f15)
  (a16:W.nsIn K mainGlobals "both_of"=some (some (.ref f16)))
  (F16:Fx K "both_of" "both_of" ziV f16)
  (zs3:W.findIn K (.ref C_Most) "__init__"=some (some (.ref f17)))
  (i17:W.isFn K (.ref f17)=true)
  (F17:Fx K "__init__" "Most.__init__" zem f17)
  (a18:W.nsIn K mainGlobals "most_of"=some (some (.ref f18)))
  (F18:Fx K "most_of" "most_of" ziW f18)
  (zs4:W.findIn K (.ref C_Last) "__init__"=some (some (.ref f19)))
  (i19:W.isFn K (.ref f19)=true)
  (F19:Fx K "__init__" "Last.__init__" zen f19)
  (a20:W.nsIn K mainGlobals "last_of"=some (some (.ref f20)))
  (F20:Fx K "last_of" "last_of" ziX f20)
  (a21:W.nsIn K mainGlobals "rule_of_words"=some (some (.ref f21)))
  (F21:Fx K "rule_of_words" "rule_of_words" zdm f21)
  (a22:W.nsIn K mainGlobals "rule_of"=some (some (.ref f22)))
  (F22:Fx K "rule_of" "rule_of" ziY f22)
  (a23:W.nsIn K mainGlobals "_law_read"=some (some (.ref f23)))
  (F23:Fx K "_law_read" "_law_read" zhC f23)
  (a24:W.nsIn K mainGlobals "_law_cell_at"=some (some (.ref f24)))
  (F24:Fx K "_law_cell_at" "_law_cell_at" zeo f24)
  (a25:W.nsIn K mainGlobals "_law_forms"=some (some (.ref f25)))
  (F25:Fx K "_law_forms" "_law_forms" zep f25)
  (a26:W.nsIn K mainGlobals "_law_words"=some (some (.ref f26)))
  (F26:Fx K "_law_words" "_law_words" zgg f26)
  (a27:W.nsIn K mainGlobals "_law_is_name"=some (some (.ref f27)))
  (F27:Fx K "_law_is_name" "_law_is_name" zcY f27)
  (a28:W.nsIn K mainGlobals "_law_fits"=some (some (.ref f28)))
  (F28:Fx K "_law_fits" "_law_fits" zhD f28)
  (a29:W.nsIn K mainGlobals "_law_good"=some (some (.ref f29)))
  (F29:Fx K "_law_good" "_law_good" zf1 f29)
  (zs5:W.findIn K (.ref C_Both) "row"=some (some (.ref f30)))
  (i30:W.isFn K (.ref f30)=true)
  (F30:Fx K "row" "Both.row" zhE f30)
  (zwT:W.findIn K (.ref C_Has) "row"=some (some (.ref f31)))
  (i31:W.isFn K (.ref f31)=true)
  (F31:Fx K "row" "Has.row" ziZ f31)
  (zwU:W.findIn K (.ref C_Not) "row"=some (some (.ref f32)))
  (i32:W.isFn K (.ref f32)=true)
  (F32:Fx K "row" "Not.row" zi0 f32)
  (a33:W.nsIn K mainGlobals "terms_row"=some (some (.ref f33)))
  (F33:Fx K "terms_row" "terms_row" zeq f33)
  (zs6:W.findIn K (.ref C_Give) "row"=some (some (.ref f34)))
  (i34:W.isFn K (.ref f34)=true)
  (F34:Fx K "row" "Give.row" zhF f34)
  (zs7:W.findIn K (.ref C_Last) "row"=some (some (.ref f35)))
  (i35:W.isFn K (.ref f35)=true)
  (F35:Fx K "row" "Last.row" zhG f35)
  (zwV:W.findIn K (.ref C_Lay) "row"=some (some (.ref f36)))
  (i36:W.isFn K (.ref f36)=true)
  (F36:Fx K "row" "Lay.row" zi1 f36)
  (zs8:W.findIn K (.ref C_Most) "row"=some (some (.ref f37)))
  (i37:W.isFn K (.ref f37)=true)
  (F37:Fx K "row" "Most.row" zhH f37)
  (zs9:W.findIn K (.ref C_Take) "row"=some (some (.ref f38)))
  (i38:W.isFn K (.ref f38)=true)
  (F38:Fx K "row" "Take.row" zhI f38)
  (a39:W.nsIn K mainGlobals "_law_terms"=some (some (.ref f39)))
  (F39:Fx K "_law_terms" "_law_terms" zgi f39)
  (a40:W.nsIn K mainGlobals "_law_same_terms"=some (some (.ref f40)))
  (F40:Fx K "_law_same_terms" "_law_same_terms" zb4 f40)
  (a41:W.nsIn K mainGlobals "_law_right"=some (some (.ref f41)))
  (F41:Fx K "_law_right" "_law_right" zgj f41)
  (a42:W.nsIn K mainGlobals "law"=some (some (.ref f42)))
  (F42:Fx K "law" "law" zsF f42)
  (hn:W.specialIn K (.builtin "object.__class__") "__get__"=some (some (.builtin "getset_descriptor.__get__")))
  (htk:W.takesIn K (.builtin "object.__class__")=some true)
  (zwW:W.findIn K (.ref C_Both) "__class__"=some (some (.builtin "object.__class__")))
  (zwX:W.mroIn K C_Both (.type "object")=some true)
  (zft:W.kitOne K (.ref C_Both) (.ref C_Both)=some true)
  (zfu:W.kitOne K (.ref C_Both) (.ref C_Give)=some false)
  (zgy:W.kitOne K (.ref C_Both) (.ref C_Has)=some false)
  (zfv:W.kitOne K (.ref C_Both) (.ref C_Last)=some false)
  (zgz:W.kitOne K (.ref C_Both) (.ref C_Lay)=some false)
  (zfw:W.kitOne K (.ref C_Both) (.ref C_Most)=some false)
  (zgA:W.kitOne K (.ref C_Both) (.ref C_Not)=some false)
  (zfx:W.kitOne K (.ref C_Both) (.ref C_Take)=some false)
  (zdV:W.kitOne K (.ref C_Both) (.ref C_NoRule)=some false)
  (zb8:W.kitOne K (.ref C_Both) (.ref C_OfficeError)=some false)
  (zwY:W.findIn K (.ref C_Give) "__class__"=some (some (.builtin "object.__class__")))
  (zwZ:W.mroIn K C_Give (.type "object")=some true)
  (zfy:W.kitOne K (.ref C_Give) (.ref C_Both)=some false)
  (zfz:W.kitOne K (.ref C_Give) (.ref C_Give)=some true)
  (zgB:W.kitOne K (.ref C_Give) (.ref C_Has)=some false)
  (zfA:W.kitOne K (.ref C_Give) (.ref C_Last)=some false)
  (zgC:W.kitOne K (.ref C_Give) (.ref C_Lay)=some false)
  (zfB:W.kitOne K (.ref C_Give) (.ref C_Most)=some false)
  (zgD:W.kitOne K (.ref C_Give) (.ref C_Not)=some false)
  (zfC:W.kitOne K (.ref C_Give) (.ref C_Take)=some false)
  (zdW:W.kitOne K (.ref C_Give) (.ref C_NoRule)=some false)
  (zb9:W.kitOne K (.ref C_Give) (.ref C_OfficeError)=some false)
  (zw0:W.findIn K (.ref C_Last) "__class__"=some (some (.builtin "object.__class__")))
  (zw1:W.mroIn K C_Last (.type "object")=some true)
  (zfD:W.kitOne K (.ref C_Last) (.ref C_Both)=some false)
  (zfE:W.kitOne K (.ref C_Last) (.ref C_Give)=some false)
  (zgE:W.kitOne K (.ref C_Last) (.ref C_Has)=some false)
  (zfF:W.kitOne K (.ref C_Last) (.ref C_Last)=some true)
  (zgF:W.kitOne K (.ref C_Last) (.ref C_Lay)=some false)
  (zfG:W.kitOne K (.ref C_Last) (.ref C_Most)=some false)
  (zgG:W.kitOne K (.ref C_Last) (.ref C_Not)=some false)
  (zfH:W.kitOne K (.ref C_Last) (.ref C_Take)=some false)
  (zdX:W.kitOne K (.ref C_Last) (.ref C_NoRule)=some false)
  (zca:W.kitOne K (.ref C_Last) (.ref C_OfficeError)=some false)
  (zAz:W.findIn K (.ref C_Lay) "__class__"=some (some (.builtin "object.__class__")))
  (zAA:W.mroIn K C_Lay (.type "object")=some true)
  (zgH:W.kitOne K (.ref C_Lay) (.ref C_Both)=some false)
  (zgI:W.kitOne K (.ref C_Lay) (.ref C_Give)=some false)
  (zh1:W.kitOne K (.ref C_Lay) (.ref C_Has)=some false)
  (zgJ:W.kitOne K (.ref C_Lay) (.ref C_Last)=some false)
  (zh2:W.kitOne K (.ref C_Lay) (.ref C_Lay)=some true)
  (zgK:W.kitOne K (.ref C_Lay) (.ref C_Most)=some false)
  (zh3:W.kitOne K (.ref C_Lay) (.ref C_Not)=some false)
  (zgL:W.kitOne K (.ref C_Lay) (.ref C_Take)=some false)
  (zeJ:W.kitOne K (.ref C_Lay) (.ref C_NoRule)=some false)
  (zcs:W.kitOne K (.ref C_Lay) (.ref C_OfficeError)=some false)
  (zw2:W.findIn K (.ref C_Most) "__class__"=some (some (.builtin "object.__class__")))
  (zw3:W.mroIn K C_Most (.type "object")=some true)
  (zfI:W.kitOne K (.ref C_Most) (.ref C_Both)=some false)
  (zfJ:W.kitOne K (.ref C_Most) (.ref C_Give)=some false)
  (zgM:W.kitOne K (.ref C_Most) (.ref C_Has)=some false)
  (zfK:W.kitOne K (.ref C_Most) (.ref C_Last)=some false)
  (zgN:W.kitOne K (.ref C_Most) (.ref C_Lay)=some false)
  (zfL:W.kitOne K (.ref C_Most) (.ref C_Most)=some true)
  (zgO:W.kitOne K (.ref C_Most) (.ref C_Not)=some false)
  (zfM:W.kitOne K (.ref C_Most) (.ref C_Take)=some false)
  (zdY:W.kitOne K (.ref C_Most) (.ref C_NoRule)=some false)
  (zcb:W.kitOne K (.ref C_Most) (.ref C_OfficeError)=some false)
  (zw4:W.findIn K (.ref C_Take) "__class__"=some (some (.builtin "object.__class__")))
  (zw5:W.mroIn K C_Take (.type "object")=some true)
  (zfN:W.kitOne K (.ref C_Take) (.ref C_Both)=some false)
  (zfO:W.kitOne K (.ref C_Take) (.ref C_Give)=some false)
  (zgP:W.kitOne K (.ref C_Take) (.ref C_Has)=some false)
  (zfP:W.kitOne K (.ref C_Take) (.ref C_Last)=some false)
  (zgQ:W.kitOne K (.ref C_Take) (.ref C_Lay)=some false)
  (zfQ:W.kitOne K (.ref C_Take) (.ref C_Most)=some false)
  (zgR:W.kitOne K (.ref C_Take) (.ref C_Not)=some false)
  (zfR:W.kitOne K (.ref C_Take) (.ref C_Take)=some true)
  (zdZ:W.kitOne K (.ref C_Take) (.ref C_NoRule)=some false)
  (zcc:W.kitOne K (.ref C_Take) (.ref C_OfficeError)=some false)
  (zqs:W.findIn K (.ref C_Has) "__eq__"=some (some (.builtin "object.__eq__")))
  (zAB:W.mroIn K C_Has (.type "object")=some true)
  (zqt:W.findIn K (.ref C_Not) "__eq__"=some (some (.builtin "object.__eq__")))
  (zAC:W.mroIn K C_Not (.type "object")=some true)
  (zh4:W.nsIn K mainGlobals "FIGURES"=some (some (.ref zed)))
  (zh5:KnT K zed ((["1","2","3","4"]:List Str).map V.str))
  (zrl:W.findIn K (.ref C_NoRule) "__class__"=some (some (.builtin "object.__class__")))
  (zrm:W.mroIn K C_NoRule (.type "object")=some true)
  (zd0:W.kitOne K (.ref C_NoRule) (.ref C_Both)=some false)
  (zd1:W.kitOne K (.ref C_NoRule) (.ref C_Give)=some false)
  (zeK:W.kitOne K (.ref C_NoRule) (.ref C_Has)=some false)
  (zd2:W.kitOne K (.ref C_NoRule) (.ref C_Last)=some false)
  (zeL:W.kitOne K (.ref C_NoRule) (.ref C_Lay)=some false)
  (zd3:W.kitOne K (.ref C_NoRule) (.ref C_Most)=some false)
  (zeM:W.kitOne K (.ref C_NoRule) (.ref C_Not)=some false)
  (zd4:W.kitOne K (.ref C_NoRule) (.ref C_Take)=some false)
  (zcS:W.kitOne K (.ref C_NoRule) (.ref C_NoRule)=some true)
  (zbP:W.kitOne K (.ref C_NoRule) (.ref C_OfficeError)=some true)
  (zrn:zmK K C_NoRule=true)
  (zro:zkK K C_NoRule=true)
  (zrp:W.findIn K (.ref C_NoRule) "__setattr__"=some (some (.builtin "object.__setattr__")))
  (zju:W.hasDictIn K C_NoRule=true)
  (zhl:W.keepIn K (.ref C_NoRule)=true)
  (zmk:W.findIn K (.ref C_NoRule) "__getattribute__"=some (some (.builtin "BaseException.__getattribute__")))
  (zml:W.findIn K (.ref C_NoRule) "__getattr__"=some none)
  (zmm:W.mroIn K C_NoRule (.type "BaseException")=some true)
  (zjf:W.takerIn K C_NoRule "found"=some none)
  (zjg:W.findIn K (.ref C_NoRule) "found"=some none)
  (zfU:W.exmOne K (.ref C_NoRule) (.ref C_OfficeError)=some true)
  (zvT:W.nsIn K mainGlobals "all"=some none)
  (zl3:W.nsIn K mainGlobals "bool"=some none)
  (zgS:W.nsIn K mainGlobals "enumerate"=some none)
  (zqu:W.nsIn K mainGlobals "int"=some none)
  (zaw:W.nsIn K mainGlobals "isinstance"=some none)
  (zdw:W.nsIn K mainGlobals "len"=some none)
  (znJ:W.nsIn K mainGlobals "list"=some none)
  (zvU:W.nsIn K mainGlobals "max"=some none)
  (zvV:W.nsIn K mainGlobals "min"=some none)
  (zh6:W.nsIn K mainGlobals "range"=some none)
  (zh7:W.nsIn K mainGlobals "reversed"=some none)
  (zm7:W.nsIn K mainGlobals "str"=some none)
  (zgT:W.nsIn K mainGlobals "tuple"=some none)
  (zvW:W.nsIn K mainGlobals "zip"=some none)
  (zrq:W.nsIn K mainGlobals "LETTERS"=some (some (.str "abcdefghijklmnopqrstuvwxyz" tk0)))
  (zjX:W.nsIn K mainGlobals "LONGEST_NAME"=some (some (.int 6 tk1))) :
  ∃ fd:FuncData,(∀ (s:Shared) (v:Value),BindsTo s fd ⟨[v],[]⟩ [("_law_script",v)])/\∀ base:Heap,K.In base->base.Ns mainGlobals mg->FnOk l.prog w K mg base CX0 9 fa fd ["_law_script"] (zlC K):=by
 have e:=hfa.symm.trans (W.mg_of X G a42);have e2:f42=fa:=by
  injection e with e
  injection e with e
  exact e.symm
 subst e2;obtain ⟨d0,F0⟩:=F0;obtain ⟨d1,F1⟩:=F1;obtain ⟨d2,F2⟩:=F2;obtain ⟨d3,F3⟩:=F3;obtain ⟨d4,F4⟩:=F4;obtain ⟨d5,F5⟩:=F5;obtain ⟨d6,F6⟩:=F6;obtain ⟨d7,F7⟩:=F7;obtain ⟨d8,F8⟩:=F8;obtain ⟨d9,F9⟩:=F9;obtain ⟨d10,F10⟩:=F10;obtain ⟨d11,F11⟩:=F11;obtain ⟨d12,F12⟩:=F12;obtain ⟨d13,F13⟩:=F13;obtain ⟨d14,F14⟩:=F14;obtain ⟨d15,F15⟩:=F15;obtain ⟨d16,F16⟩:=F16;obtain ⟨d17,F17⟩:=F17;obtain ⟨d18,F18⟩:=F18
 obtain ⟨d19,F19⟩:=F19;obtain ⟨d20,F20⟩:=F20;obtain ⟨d21,F21⟩:=F21;obtain ⟨d22,F22⟩:=F22;obtain ⟨d23,F23⟩:=F23;obtain ⟨d24,F24⟩:=F24;obtain ⟨d25,F25⟩:=F25;obtain ⟨d26,F26⟩:=F26;obtain ⟨d27,F27⟩:=F27;obtain ⟨d28,F28⟩:=F28;obtain ⟨d29,F29⟩:=F29;obtain ⟨d30,F30⟩:=F30;obtain ⟨d31,F31⟩:=F31;obtain ⟨d32,F32⟩:=F32;obtain ⟨d33,F33⟩:=F33;obtain ⟨d34,F34⟩:=F34;obtain ⟨d35,F35⟩:=F35;obtain ⟨d36,F36⟩:=F36
 obtain ⟨d37,F37⟩:=F37;obtain ⟨d38,F38⟩:=F38;obtain ⟨d39,F39⟩:=F39;obtain ⟨d40,F40⟩:=F40;obtain ⟨d41,F41⟩:=F41;obtain ⟨d42,⟨⟨oc,od,kV,doc,pm,an,cdv,ct,osl,rfl,l,c⟩,k⟩⟩:=F42;have F42:=zte (st:=zsF) l c k;have T:Txt K mg ⟨C_Both,C_Give,C_Has,C_Last,C_Lay,C_Most,C_Not,C_Take,C_NoRule,C_OfficeError,zed,f0,d0,f1,d1,f2,d2,f3,d3,f4,d4,f5,d5,f6,d6,f7,d7,f8,d8,f9,d9,f10,d10,f11,d11,f12,d12,f13,d13,f14,d14,f15,d15,f16,d16,f17,d17,f18,d18,f19,d19,f20,d20,f21,d21,f22,d22,f23,d23,f24,d24,f25,d25,f26,d26,f27,d27,f28,d28,f29,d29,f30,d30,f31,d31,f32,d32,f33,d33,f34,d34,f35,d35,f36,d36,f37,d37,f38,d38,f39,d39,f40,d40,f41,d41,f42,_⟩:=⟨F0,F1,W.mg_of X G a1,F2,W.mg_of X G a2,F3,W.mg_of X G a3,F4,W.mg_of X G a4,F5,W.mg_of X G a5,F6,F7,W.mg_of X G a7,F8,W.mg_of X G a8,F9,W.mg_of X G a9,F10,F11,F12,W.mg_of X G a12,F13,F14,W.mg_of X G a14,F15,F16,W.mg_of X G a16,F17,F18,W.mg_of X G a18,F19,F20,W.mg_of X G a20,F21,W.mg_of X G a21,F22,W.mg_of X G a22,F23,W.mg_of X G a23,F24,W.mg_of X G a24,F25,W.mg_of X G a25,F26,W.mg_of X G a26,F27,W.mg_of X G a27,F28,W.mg_of X G a28,F29,W.mg_of X G a29,F30,F31,F32,F33,W.mg_of X G a33,F34,F35,F36,F37,F38,F39,W.mg_of X G a39,F40,W.mg_of X G a40,F41,W.mg_of X G a41,F42,W.mg_of X G a42,W.mg_of X G zwD,W.mg_of X G zwE,W.mg_of X G zAg,W.mg_of X G zwF,W.mg_of X G zAh,W.mg_of X G zwG,W.mg_of X G zAi,W.mg_of X G zwH,W.mg_of X G zq0,W.mg_of X G zjW,⟨zq1,zq2,zq3,zq4⟩,⟨zwI,zs2,i15,zwJ⟩,⟨zq5,zq6,zq7,zq8⟩,⟨zwK,zs1,i11,zwL⟩,⟨zAj,zAk,zAl,zAm⟩,⟨zAn,zAx,i6,zAo⟩,⟨zq9,zra,zrb,zrc⟩,⟨zwM,zs4,i19,zwN⟩,⟨zt7,zt8,zt9,zua⟩,⟨zAp,zwS,i13,zAq⟩,⟨zrd,zre,zrf,zrg⟩,⟨zwO,zs3,i17,zwP⟩,⟨zAr,zAs,zAt,zAu⟩,⟨zAv,zAy,i6,zAw⟩,⟨zrh,zri,zrj,zrk⟩,⟨zwQ,zs0,i10,zwR⟩,zgu,zeG,zfn,zhX,zeH,zgv,zfo,zgw,zfp,zfq,zfr,zgx,zfs,zhY,zeI,⟨zs5,i30,F30.kp⟩,⟨zs6,i34,F34.kp⟩,⟨zwT,i31,F31.kp⟩,⟨zs7,i35,F35.kp⟩,⟨zwV,i36,F36.kp⟩,⟨zs8,i37,F37.kp⟩,⟨zwU,i32,F32.kp⟩,⟨zs9,i38,F38.kp⟩,⟨⟨zq1,zq2,zq3,zq4⟩,zwW,hn,htk,zwX⟩,⟨⟨zq5,zq6,zq7,zq8⟩,zwY,hn,htk,zwZ⟩,⟨⟨zq9,zra,zrb,zrc⟩,zw0,hn,htk,zw1⟩,⟨⟨zt7,zt8,zt9,zua⟩,zAz,hn,htk,zAA⟩,⟨⟨zrd,zre,zrf,zrg⟩,zw2,hn,htk,zw3⟩,⟨⟨zrh,zri,zrj,zrk⟩,zw4,hn,htk,zw5⟩,zft,zfu,zgy,zfv,zgz,zfw,zgA,zfx,zdV,zb8,zfy,zfz,zgB,zfA,zgC,zfB,zgD,zfC,zdW,zb9,zfD,zfE,zgE,zfF,zgF,zfG,zgG,zfH,zdX,zca,zgH,zgI,zh1,zgJ,zh2,zgK,zh3,zgL,zeJ,zcs,zfI,zfJ,zgM,zfK,zgN,zfL,zgO,zfM,zdY,zcb,zfN,zfO,zgP,zfP,zgQ,zfQ,zgR,zfR,zdZ,zcc,⟨zrn,zrp,zro,zju⟩,zhk,i0,zhl,zjf,⟨zmk,zml,zmm,zju⟩,zjg,zfU,⟨⟨zmk,zml,zmm,zju⟩,zrl,hn,htk,zrm⟩,zd0,zd1,zeK,zd2,zeL,zd3,zeM,zd4,zcS,zbP,⟨zqs,zAB⟩,⟨zqt,zAC⟩,W.mg_of X G zh4,zh5,W.mg_none_of X G zvT,W.mg_none_of X G zl3,W.mg_none_of X G zgS,W.mg_none_of X G zqu,W.mg_none_of X G zaw,W.mg_none_of X G zdw,W.mg_none_of X G znJ,W.mg_none_of X G zvU,W.mg_none_of X G zvV,W.mg_none_of X G zh6,W.mg_none_of X G zh7,W.mg_none_of X G zm7,W.mg_none_of X G zgT,W.mg_none_of X G zvW,⟨_,W.mg_of X G zrq,_,rfl⟩,⟨_,W.mg_of X G zjX,_,rfl⟩⟩
 exact ⟨_,λs v=>.of_eq rfl,λbase _ _=>zwC T⟩
theorem walk {l : W.OpenLaw} {q : Program} {loose : List Str} {XP : (Str -> Option Value) -> Heap -> Prop} {YP : World -> Heap -> Prop} {d : DefRec} {K : Params -> W.Frag} (hn : l.most = some 63) (hdf : d.params.defaults = [])
    (hY : ∀ (w : World) (h : Heap), YP w h -> (K w.params).In h)
    (F : ∀ (w : World) (mg : Str -> Option Value) (fa : Addr) (h : Heap), (K w.params).In h -> h.Ns mainGlobals mg -> mg d.name = some (.ref fa) ->
      ∃ fd : FuncData, (∀ (s : Shared) (u : Value), BindsTo s fd ⟨[u], []⟩ [("_law_script", u)]) /\ ∀ base : Heap, (K w.params).In base -> base.Ns mainGlobals mg -> FnOk l.prog w (K w.params) mg base CX0 9 fa fd ["_law_script"] (zlC (K w.params))) :
    W.WalkO q loose XP YP l.row.toRowW d [] (λf vs => PySem.call f vs) :=
  L2.walk_of (n := 63) (k := 9) (x := "_law_script") (CX := λ_ => CX0) (sp := λw => zlC (K w.params)) hn (by decide) hdf ⟨rfl, by decide, by decide⟩ hY F (λ_ _ a ns hl hO hS => ⟨a, ns, rfl, hS, hO, hl, λ_ => rfl⟩) λ_ _ _ _ _ z => z
end My
namespace PySem.W.Fast
def tw7786241557280299261:Unit:=()
def tw10540083926757884016:Unit:=()
def tw13551842641620677349:Unit:=()
def tw12874926968143640145:Unit:=()
def tw7515407962408304958:Unit:=()
def tw5034943642723121838:Unit:=()
def tw15140372572711600274:Unit:=()
def tw17493995555109372616:Unit:=()
def tw8194267973710204979:Unit:=()
def tw6212614048300132803:Unit:=()
def tw10557026099031243120:Unit:=()
def tw14066243214167157414:Unit:=()
def tw15890676631676841485:Unit:=()
def tw11217281541803448455:Unit:=()
def tw6493615055319068756:Unit:=()
def tw4651152070521063816:Unit:=()
def tw9268672626504888216:Unit:=()
def tw3908432816897423288:Unit:=()
def tw4851526561188846910:Unit:=()
def tw7365195848026266410:Unit:=()
def tw3205023390326088590:Unit:=()
def tw3354156872166065887:Unit:=()
def tw11844473606963806911:Unit:=()
def tw12059895959499223546:Unit:=()
def tw13498723192223355304:Unit:=()
def tw8008547018371551669:Unit:=()
def tw1165752933151951509:Unit:=()
def tw800580526429431322:Unit:=()
def tw2154621808336445395:Unit:=()
def tw13619902110862870661:Unit:=()
def tw3773141391698254163:Unit:=()
def tw744543372317920395:Unit:=()
def tw9102162934758100755:Unit:=()
def tw5904767846319443797:Unit:=()
def tw6122308721193162192:Unit:=()
def tw12110777380327118886:Unit:=()
def tw8807735554243000172:Unit:=()
def tw14368238177820962249:Unit:=()
def tw5728241899872433964:Unit:=()
def tw7192514692339900850:Unit:=()
def tw9557174983615514546:Unit:=()
def tw4078839937034710256:Unit:=()
def tw14085829995161431773:Unit:=()
def tw10672515566290505289:Unit:=()
def tw11123694509086511951:Unit:=()
def tw7600983995962025279:Unit:=()
def tw4555905705119691467:Unit:=()
def tw11667672599958722371:Unit:=()
def tw17030370419529529573:Unit:=()
def tw4845362159562033458:Unit:=()
def tw6868652298871549970:Unit:=()
def tw3651214071315422770:Unit:=()
def tw3674100182388606157:Unit:=()
def tw16541187758743503802:Unit:=()
def tw15085088354859622079:Unit:=()
def tw3542504263174342083:Unit:=()
def tw8863628502603620349:Unit:=()
def tw1479973164916821269:Unit:=()
def tw3119114280160037053:Unit:=()
def tw11816203719698803173:Unit:=()
def tw16154235600692246205:Unit:=()
def tw18440995860822329103:Unit:=()
def tw13221783598107361597:Unit:=()
def tw7013142346885602138:Unit:=()
def tw4957901690751717001:Unit:=()
def tw6237016770551735582:Unit:=()
def tw1850471050140921603:Unit:=()
def tw17929820597713876863:Unit:=()
def tw2077020796449336005:Unit:=()
def tw7525120689172561166:Unit:=()
def tw9813672692788970846:Unit:=()
def tw14229927649408179712:Unit:=()
def tw5095622454287212222:Unit:=()
def tw783486321010058848:Unit:=()
def tw6323890289359888913:Unit:=()
def tw16180520466917523005:Unit:=()
def tw12296343227758952361:Unit:=()
def tw15820016679974374044:Unit:=()
def tw827877770628494904:Unit:=()
def tw16800166079173919587:Unit:=()
def tw8905341917137516206:Unit:=()
def tw8098343764306372547:Unit:=()
def tw6205875354630856755:Unit:=()
def tw6841055080447238355:Unit:=()
def tw9405905575550523876:Unit:=()
def tw12623630605284381648:Unit:=()
def tw5012291050289068967:Unit:=()
def tw858626293593287631:Unit:=()
def tw12462815073179740005:Unit:=()
def tw14180031764387942775:Unit:=()
def tw6219551473985492649:Unit:=()
def tw7359194242479913275:Unit:=()
def tw16862618990669136111:Unit:=()
def tw9942139734937133294:Unit:=()
def tw11539497517943650913:Unit:=()
def tw2578930675164889786:Unit:=()
def tw14564484062323044869:Unit:=()
def tw12197313737845120509:Unit:=()
def tw13041618503698295989:Unit:=()
def tw15801321092941046475:Unit:=()
def tw9949395096828965997:Unit:=()
def tw1894532429606854675:Unit:=()
def tw16537903040291512789:Unit:=()
def tw1402308336708150942:Unit:=()
def tw6254488003414090687:Unit:=()
def tw15818237325586242225:Unit:=()
def tw3214465802395405598:Unit:=()
def tw12914965905225112129:Unit:=()
def tw13048088387407044201:Unit:=()
def tw17434337356827899801:Unit:=()
def tw5549135632776921652:Unit:=()
def tw6928424379493287882:Unit:=()
def tw12675330597172306276:Unit:=()
def tw3170472048409638081:Unit:=()
def tw3788263121371616612:Unit:=()
def tw13221469756205072557:Unit:=()
def tw14748118604046552816:Unit:=()
def tw10087191920869340258:Unit:=()
def tw9699189144148261541:Unit:=()
def tw9315808707370643043:Unit:=()
def tw4367728646570446387:Unit:=()
def tw3857503459183571710:Unit:=()
def tw8005059668136610017:Unit:=()
def tw6449901575468708456:Unit:=()
def tw6500440500506670099:Unit:=()
def tw16046179451861547925:Unit:=()
def tw4130054491860477645:Unit:=()
def tw519624001892428545:Unit:=()
def tw16328127126761223011:Unit:=()
def tw12719950442084730262:Unit:=()
def tw13544036260980496561:Unit:=()
def tw13333944556850807777:Unit:=()
def tw6328883644990209359:Unit:=()
def tw3318765099384139937:Unit:=()
def tw10732097841993892760:Unit:=()
def tw16114229214549190130:Unit:=()
def tw5051564769955143680:Unit:=()
def tw9706695734649554303:Unit:=()
def tw14544136490315286611:Unit:=()
def tw14410657857554507438:Unit:=()
def tw16931741194192726759:Unit:=()
def tw14110390955936508679:Unit:=()
def tw8749662969851001137:Unit:=()
def tw10646920661633765294:Unit:=()
def tw10989584724818504266:Unit:=()
def tw15461709456636990110:Unit:=()
def tw6785245412558393855:Unit:=()
def tw12478858862168622738:Unit:=()
def tw554545463751538599:Unit:=()
def tw14589313076598325267:Unit:=()
def tw2411739407329710456:Unit:=()
def tw313870161226392823:Unit:=()
def tw12416359425388276518:Unit:=()
def tw16861606537771059632:Unit:=()
def tw8569048366196779986:Unit:=()
def tw5648070237053721052:Unit:=()
def tw2793172714917302194:Unit:=()
def tw10861624442150611155:Unit:=()
def tw1547038521249194559:Unit:=()
def tw12940798158450353664:Unit:=()
def tw4867715223595422544:Unit:=()
def tw17702308325098909275:Unit:=()
def tw9413817797194072544:Unit:=()
def tw3862059894841578192:Unit:=()
def tw4580698680512275068:Unit:=()
def tw15601895299584918274:Unit:=()
def tw16860094530297684780:Unit:=()
def tw14550419343415686091:Unit:=()
def tw16513782341412531404:Unit:=()
def tw4627646618736167612:Unit:=()
def tw10208482323575802198:Unit:=()
def tw4214093806336579541:Unit:=()
def tw6550967624710630361:Unit:=()
def tw6458176332411042249:Unit:=()
def tw5410291838999332308:Unit:=()
def tw14925796641830900379:Unit:=()
def tw5093463783389667848:Unit:=()
def tw8493479170574207525:Unit:=()
def tw6140456725831425152:Unit:=()
def tw15257835426958397173:Unit:=()
def tw4446108971199834752:Unit:=()
def tw7099197113923514588:Unit:=()
def tw12517389532499301311:Unit:=()
def tw12774890746801247187:Unit:=()
def tw221425066442487653:Unit:=()
def tw8846897603265068490:Unit:=()
def tw13535426245069046599:Unit:=()
def tw8408585272932761868:Unit:=()
def tw4449929118335346955:Unit:=()
def tw17337611706876978588:Unit:=()
def tw2529793066151960341:Unit:=()
def tw10479460861519409006:Unit:=()
def tw2439326385438872962:Unit:=()
def tw17613352411958007305:Unit:=()
def tw4689120619036917555:Unit:=()
def tw13851966368588401247:Unit:=()
def tw13565341485440269395:Unit:=()
def tw4181557022594708990:Unit:=()
def tw17008590975054762709:Unit:=()
def tw10885218099754996094:Unit:=()
def tw10365787520353283071:Unit:=()
def tw4232219092259597523:Unit:=()
def tw17487566062337064956:Unit:=()
def tw8073689944426267906:Unit:=()
def tw6204783099463132029:Unit:=()
def tw14797263656639407274:Unit:=()
def tw11448650970710028344:Unit:=()
def tw4127781777118286404:Unit:=()
def tw15110945938794239648:Unit:=()
def tw9545278161157783359:Unit:=()
def tw986734683430852752:Unit:=()
def tw12333922003202388972:Unit:=()
def tw6043766684191775602:Unit:=()
def tw2216338124894118860:Unit:=()
def tw18441044376830243946:Unit:=()
def tw14658245220444524117:Unit:=()
def tw12751617440999777586:Unit:=()
def tw14782906281153276963:Unit:=()
def tw1424484367427788986:Unit:=()
def tw3023991921144936364:Unit:=()
def tw17068830634615227838:Unit:=()
def tw1652890623528354168:Unit:=()
def tw13880994433717968108:Unit:=()
def tw15808624585501606608:Unit:=()
def tw11953668472370646695:Unit:=()
def tw10000256382614241718:Unit:=()
def tw12823095918335425088:Unit:=()
def tw8323428797771749586:Unit:=()
def tw3929225106802116059:Unit:=()
def tw11612108307365235289:Unit:=()
def tw15925627288075789340:Unit:=()
def tw8429970347185693852:Unit:=()
def tw13016207771689082133:Unit:=()
def tw7794155790514842286:Unit:=()
def tw16653256418746229437:Unit:=()
def tw1135181040276661423:Unit:=()
def tw5127791327935591223:Unit:=()
def tw12748430339535848450:Unit:=()
def tw16206495131231196760:Unit:=()
def tw9300310731098830455:Unit:=()
def tw12438889256800319238:Unit:=()
def tw12968410024486812426:Unit:=()
def tw3191386362655429063:Unit:=()
def tw1352439195521160779:Unit:=()
def tw9548389289794725495:Unit:=()
def tw613750468204976177:Unit:=()
def tw3261295718340249265:Unit:=()
def tw13424724238456898877:Unit:=()
def tw5916495864053578771:Unit:=()
def tw2481778766145743258:Unit:=()
def tw4913047960216915672:Unit:=()
def tw13246711869293317583:Unit:=()
def tw12974111795192742984:Unit:=()
def tw14144686167526210955:Unit:=()
def tw3799765506628050125:Unit:=()
def tw2150529155676052533:Unit:=()
def tw13912401465400318833:Unit:=()
def tw16801909495394853671:Unit:=()
def tw722425735404592211:Unit:=()
def tw16111658077122066806:Unit:=()
end PySem.W.Fast
open PySem PySem.W PyProof.Rows
set_option maxRecDepth 100000 in
set_option maxHeartbeats 0 in
theorem PySem.Challenge.cw_mightever_k15_rows_of_rules_holds : PySem.Challenge.rw_mightever_k15_rows_of_rules.Holds := by
 w_on; o_law; k_head; (case hw=>w_witness2)
 k_fill
 refine My.walk (l:=PySem.Challenge.rw_mightever_k15_rows_of_rules) rfl rfl (λw h Y=>W.kIn_of Y) ?F
 case F=>
  intro w mg fa h KX G hmg;refine' My.all_mk KX G hmg ?_ ?_ ?_ ?_ ?_ ?_ ?_ ?_ ?_ ?_ ?_ ?_ ?_ ?_ ?_ ?_ ?_ ?_ ?_ ?_ ?_ ?_ ?_ ?_ ?_ ?_ ?_ ?_ ?_ ?_ ?_ ?_ ?_ ?_ ?_ ?_ ?_ ?_ ?_ ?_ ?_ ?_ ?_ ?_ ?_ ?_ ?_ ?_ ?_ ?_ ?_ ?_ ?_ ?_ ?_ ?_ ?_ ?_ ?_ ?_ ?_ ?_ ?_ ?_ ?_ ?_ ?_ ?_ ?_ ?_ ?_ ?_ ?_ ?_ ?_ ?_ ?_ ?_ ?_ ?_ ?_ ?_ ?_ ?_ ?_ ?_ ?_ ?_ ?_ ?_ ?_ ?_ ?_ ?_ ?_ ?_ ?_ ?_ ?_ ?_ ?_ ?_ ?_ ?_ ?_ ?_ ?_ ?_ ?_ ?_ ?_ ?_ ?_ ?_ ?_ ?_ ?_ ?_ ?_ ?_ ?_ ?_ ?_ ?_ ?_ ?_ ?_ ?_ ?_ ?_ ?_ ?_ ?_ ?_ ?_ ?_ ?_ ?_ ?_ ?_ ?_ ?_ ?_ ?_ ?_ ?_ ?_ ?_ ?_ ?_ ?_ ?_ ?_ ?_ ?_ ?_ ?_ ?_ ?_ ?_ ?_ ?_ ?_ ?_ ?_ ?_ ?_ ?_ ?_ ?_ ?_ ?_ ?_ ?_ ?_ ?_ ?_ ?_ ?_ ?_ ?_ ?_ ?_ ?_ ?_ ?_ ?_ ?_ ?_ ?_ ?_ ?_ ?_ ?_ ?_ ?_ ?_ ?_ ?_ ?_ ?_ ?_ ?_ ?_ ?_ ?_ ?_ ?_ ?_ ?_ ?_ ?_ ?_ ?_ ?_ ?_ ?_ ?_ ?_ ?_ ?_ ?_ ?_ ?_ ?_ ?_ ?_ ?_ ?_ ?_ ?_ ?_ ?_ ?_ ?_ ?_ ?_ ?_ ?_ ?_ ?_ ?_ ?_ ?_ ?_ ?_ ?_ ?_ ?_ ?_ ?_ ?_ ?_ ?_ ?_ ?_ ?_ ?_ ?_ ?_ ?_ ?_ ?_ ?_ ?_ ?_ ?_ ?_ ?_ ?_ ?_ ?_ ?_ ?_ ?_ ?_ ?_ ?_ ?_ ?_ ?_ ?_ ?_ ?_ ?_ ?_ ?_ ?_ ?_ ?_ ?_ ?_ ?_ ?_ ?_
  any_goals first | k_is | exact My.fx_mk | exact L2.knt_mk [("1",_),("2",_),("3",_),("4",_)] (by k_is) (by decide) | kit_is | kts_exm | kernel_rfl
#print axioms PySem.Challenge.cw_mightever_k15_rows_of_rules_holds
